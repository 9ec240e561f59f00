/- What this claim leans on. -/
import Derived.Test.YtlgnacmgepnamaaGreatDoorMVArgs
namespace Go.Proofs.YtlgnacmgepnamaaGreatDoor
open Go Go.RowKit
set_option maxHeartbeats 16000000
set_option maxRecDepth 100000
set_option linter.unusedVariables false
set_option linter.unusedSimpArgs false
def zbF (w:World)(r:Rat)(b:Bool)(A:oA9)(n c:Nat)(E:oA9)(k f:Nat):Prop:=zaU w r.num b A n c/\zak w r.den E k f
theorem zbF.below {w w':World}{r:Rat}{b:Bool}{A:oA9}{n c:Nat}{E:oA9}{k f:Nat}(h:zbF w r b A n c E k f)(hb:Below w.heap.size w w'):zbF w' r b A n c E k f:=⟨h.1.below hb,h.2.below hb⟩
theorem zbF.to {w:World}{r s:Rat}{b:Bool}{A:oA9}{n c:Nat}{E:oA9}{k f:Nat}(e:r=s)(h:zbF w r b A n c E k f):zbF w s b A n c E k f:=e▸h
def zcs (w:World)(r:Rat)(e:Ending)(w':World):Prop:=∃(b:Bool) (A:oA9) (n c:Nat) (E:oA9) (k f:Nat),e=.returned (.agg #[.bool b,.slice A n c,.slice E k f])/\zbF w' r b A n c E k f/\Below w.heap.size w w'
theorem zhc {w w':World}{r:Rat}{b:Bool}{A:oA9}{n c:Nat}{E:oA9}{k f:Nat}{g:Nat}{t:TypeId}{cs:Array Value}(h:zbF w r b A n c E k f)(hk:Blk w g t cs)(hcs:NoU cs)(ho:zde g w w'):zbF w' r b A n c E k f:=⟨zeO h.1 hk hcs ho,zjC h.2 hk hcs ho⟩
theorem gz2 {w W:World}{z:Int}{g:Nat}{t:TypeId}{b:Bool}{A:oA9}{n c:Nat}{p:Bool}{q:oA9}{r s:Nat}(h:zaU W z b A n c)(k:Blk W g t #[.bool p,.slice q r s])(hB:Below w.heap.size w W)(hg:w.heap.size<=g):zaY w z (.returned (.agg #[.bool b,.slice A n c])) ((W.setCell ⟨g,0,none⟩ (.bool b)).setCell ⟨g,1,none⟩ (.slice A n c)):=
 ⟨_,_,_,_,rfl,zeO h k (NoU.s2 _ _ _ _) (zdA _ _ _ _),bl2 _ _ hg hB⟩
theorem gr3 {w W:World}{r:Rat}{g:Nat}{t:TypeId}{b:Bool}{A E:oA9}{n c k f:Nat}{p:Bool}{q q2:oA9}{r1 s r2 s2:Nat}(h:zbF W r b A n c E k f)(kd:Blk W g t #[.bool p,.slice q r1 s,.slice q2 r2 s2])(hB:Below w.heap.size w W)(hg:w.heap.size<=g):zcs w r (.returned (.agg #[.bool b,.slice A n c,.slice E k f])) (((W.setCell ⟨g,0,none⟩ (.bool b)).setCell ⟨g,1,none⟩ (.slice A n c)).setCell ⟨g,2,none⟩ (.slice E k f)):=
 ⟨_,_,_,_,_,_,_,rfl,zhc h kd (NoU.s3 _ _ _ _ _ _ _) (off3 _ _ _ _ _),bl3 _ _ _ hg hB⟩
theorem zak.to {w:World}{x y:Nat}{A:oA9}{n c:Nat}(e:x=y)(h:zak w x A n c):zak w y A n c:=e▸h
theorem zeK (p d:Int)(hd:d≠0)(s:Bool)(hs:s=(decide (p<0) !=decide (d<0))):sgI s (p.natAbs / Nat.gcd p.natAbs d.natAbs)=(Rat.divInt p d).num/\d.natAbs / Nat.gcd p.natAbs d.natAbs=(Rat.divInt p d).den:=by
 refine⟨?_,(zlQ p d hd).symm⟩
 have h1:=zlR p d hd
 have h2:=zjH p d hd
 rw [<-h1]
 generalize (Rat.divInt p d).num=z at*
 unfold sgI
 by_cases hp:p<0
 ·by_cases hq:d<0
  ·rw [decide_eq_true hp,decide_eq_true hq] at hs;subst hs;simp;omega
  ·rw [decide_eq_true hp,decide_eq_false hq] at hs;subst hs;simp;omega
 ·by_cases hq:d<0
  ·rw [decide_eq_false hp,decide_eq_true hq] at hs;subst hs;simp
   by_cases h0:p=0
   ·subst h0;simp at h1;omega
   ·omega
  ·rw [decide_eq_false hp,decide_eq_false hq] at hs;subst hs;simp;omega
theorem zeN (x:Nat)(Cx:oA9)(rx fx:Nat)(w:World)(h:zak w x Cx rx fx)(hn:rx<=1099511627776):
  Calls Tryz.prog 143 #[.slice Cx rx fx] w (zaY w (x:Int)):=by
 have HNx:=lh9 h
 clear h
 go_enter Tryz.func143,Tryz.ntmps143
 have hB:=Below.refl w.heap.size w
 obtain⟨bx1,bx2,bz⟩:=zaD w 92 #[.bool false,.slice none 0 0]
 have hB:=zac hB bx1
 have HNx:=lh9 (HNx.out.below bx1)
 have k1:=bx2
 clear bx1 bx2 bz
 go_wp2_with fail
 generalize w.alloc (.cells #[.bool false,.slice none 0 0] 92)=W1 at*
 (with_reducible refine(zbp false x Cx rx fx _ HNx.out hn).mono ?_)
 rintro e wc2 ⟨b2,B2,m2,d2,rfl,hw2,hb⟩
 have hB:=zac hB hb
 have k1:=zad hb k1
 have HN2:=lh9 hw2
 clear hb hw2
 obtain⟨sc0,sf0,sc1,sf1⟩:=st2 k1 (.bool b2)
 obtain⟨r0,r1⟩:=(sn2 k1 (.bool b2) (.slice B2 m2 d2)).c2
 have HG:=lh9 (gz2 (zaU.to (by unfold sgI;rfl) HN2.out) k1 hB (by omega))
 go_wp2
 refine bodyPost_ret (v:=.agg #[.bool b2,.slice B2 m2 d2]) (by simp [results,Tryz.results143,go_sem,r0,r1]) rfl ?_
 exact HG.out
theorem ziP (p:Int)(d:Int)(baa:Bool)(Baa:oA9)(maa daa:Nat)(bab:Bool)(Bab:oA9)(mab dab:Nat)(Kp:Nat)(Kd:Nat)(w:World)(zaa:Sz Kp p.natAbs)(haa:zaU w p baa Baa maa daa)(zab:Sz Kd d.natAbs)(hab:zaU w d bab Bab mab dab)(qaa:Kp<=16777216)(qab:Kd<=16777216)(h0:d≠0):
  Calls Tryz.prog 114 #[.agg #[.bool baa,.slice Baa maa daa],.agg #[.bool bab,.slice Bab mab dab]] w (zcs w (Rat.divInt p d)):=by
 have HG0:Hid (Nat.gcd p.natAbs d.natAbs≠0):=Nat.gcd_ne_zero_right (by omega)
 have H0:=lh9 h0
 have HCASE:Hid ((p<0/\d<0)\/(p<0/\¬ d<0)\/(¬ p<0/\d<0)\/(¬ p<0/\¬ d<0)):=by show _\/_;omega
 clear h0
 have HZaa:=lh9 zaa
 have HZab:=lh9 zab
 have HNaa:=lh9 (λw' (b:Below w.heap.size w w')=>haa.below b)
 have HNaaq:=lh9 (λw' (b:Below w.heap.size w w')=>(HNaa.out w' b).2)
 have HZaaq:Hid (Sz Kp p.natAbs):=HZaa.out
 have HNab:=lh9 (λw' (b:Below w.heap.size w w')=>hab.below b)
 have HNabq:=lh9 (λw' (b:Below w.heap.size w w')=>(HNab.out w' b).2)
 have HZabq:Hid (Sz Kd d.natAbs):=HZab.out
 clear haa zaa hab zab
 go_enter Tryz.func114,Tryz.ntmps114
 have hB:=Below.refl w.heap.size w
 obtain⟨bx1,bx2,bx3,bx4,bz⟩:=zbm w 92 92 94 #[.bool baa,.slice Baa maa daa] #[.bool bab,.slice Bab mab dab] #[.bool false,.slice none 0 0,.slice none 0 0]
 have hB:=zac hB bx1
 obtain⟨g1,e1⟩:=bx2.c2
 obtain⟨g2,e2⟩:=bx3.c2
 have k3:=bx4
 clear bx1 bx2 bx3 bx4 bz
 go_wp2_with fail
 generalize ((w.alloc (.cells #[.bool baa,.slice Baa maa daa] 92)).alloc (.cells #[.bool bab,.slice Bab mab dab] 92)).alloc (.cells #[.bool false,.slice none 0 0,.slice none 0 0] 94)=W1 at*
 have HZ4:Hid (Sz (Kp+Kd) (Nat.gcd p.natAbs d.natAbs)):=Sz.gcd HZaaq.out HZabq.out
 (with_reducible refine(zkR (p.natAbs) (d.natAbs) Baa Bab maa mab daa dab _ (HNaaq.out _ hB) (HNabq.out _ hB) (szh HZaaq (HNaaq.out _ hB)) (szh HZabq (HNabq.out _ hB))).mono ?_)
 rintro e wc2 ⟨C4,r4,f4,rfl,hw4,hb⟩
 have hB:=zac hB hb
 have g1:=zae hb g1
 have e1:=zae hb e1
 have g2:=zae hb g2
 have e2:=zae hb e2
 have k3:=zad hb k3
 have HN4:=lh9 hw4
 clear hb hw4
 go_wp2_with fail
 have HZ5:Hid (Sz (Kp) (p.natAbs / (Nat.gcd p.natAbs d.natAbs))):=Sz.of_le HZaaq.out (Nat.div_le_self _ _)
 have HZ6:Hid (Sz (Kp) (p.natAbs%(Nat.gcd p.natAbs d.natAbs))):=Sz.of_le HZaaq.out (Nat.mod_le _ _)
 (with_reducible refine(zht (p.natAbs) (Nat.gcd p.natAbs d.natAbs) Baa C4 maa r4 daa f4 _ (HNaaq.out _ hB) HN4.out (szh HZaaq (HNaaq.out _ hB)) (szh HZ4 HN4.out) HG0.out).mono ?_)
 rintro e wc3 ⟨C5,r5,f5,C6,r6,f6,rfl,hw5,hw6,hb⟩
 have hB:=zac hB hb
 have g1:=zae hb g1
 have e1:=zae hb e1
 have g2:=zae hb g2
 have e2:=zae hb e2
 have k3:=zad hb k3
 have HN4:=lh9 (HN4.out.below hb)
 have HN5:=lh9 hw5
 clear hb hw5 hw6
 go_wp2_with fail
 have HZ7:Hid (Sz (Kd) (d.natAbs / (Nat.gcd p.natAbs d.natAbs))):=Sz.of_le HZabq.out (Nat.div_le_self _ _)
 have HZ8:Hid (Sz (Kd) (d.natAbs%(Nat.gcd p.natAbs d.natAbs))):=Sz.of_le HZabq.out (Nat.mod_le _ _)
 (with_reducible refine(zht (d.natAbs) (Nat.gcd p.natAbs d.natAbs) Bab C4 mab r4 dab f4 _ (HNabq.out _ hB) HN4.out (szh HZabq (HNabq.out _ hB)) (szh HZ4 HN4.out) HG0.out).mono ?_)
 rintro e wc4 ⟨C7,r7,f7,C8,r8,f8,rfl,hw7,hw8,hb⟩
 have hB:=zac hB hb
 have g1:=zae hb g1
 have e1:=zae hb e1
 have g2:=zae hb g2
 have e2:=zae hb e2
 have k3:=zad hb k3
 have HN5:=lh9 (HN5.out.below hb)
 have HN7:=lh9 hw7
 clear hb hw7 hw8
 rcases HCASE.out with hq|hq|hq|hq
 ·clear HCASE
  obtain⟨hp,hd⟩:=hq
  have HMP:=lh9 (zeK p d H0.out false (by simp [hp,hd]<;>omega))
  have Hsp:=lh9 hp
  have Hsd:=lh9 hd
  clear hp hd
  obtain rfl:baa=true:=((HNaa.out _ hB)).1.trans (decide_eq_true (by have:=Hsp.out;omega))
  obtain rfl:bab=true:=((HNab.out _ hB)).1.trans (decide_eq_true (by have:=Hsd.out;omega))
  go_wp2_with fail
  have HZ9:Hid (Sz (Kp) (sgI false (p.natAbs / (Nat.gcd p.natAbs d.natAbs))).natAbs):=(by rw [zgK];exact HZ5.out)
  (with_reducible refine(zbp false (p.natAbs / (Nat.gcd p.natAbs d.natAbs)) C5 r5 f5 _ HN5.out (szh HZ5 HN5.out)).mono ?_)
  rintro e wc5 ⟨b9,B9,m9,d9,rfl,hw9,hb⟩
  have hB:=zac hB hb
  have g1:=zae hb g1
  have e1:=zae hb e1
  have g2:=zae hb g2
  have e2:=zae hb e2
  have k3:=zad hb k3
  have HN7:=lh9 (HN7.out.below hb)
  have HN9:=lh9 hw9
  clear hb hw9
  obtain⟨sc0,sf0,sc1,sf1,sc2,sf2⟩:=st3 k3 (.bool b9) (.slice B9 m9 d9)
  obtain⟨r0,r1,r2⟩:=(sn3 k3 (.bool b9) (.slice B9 m9 d9) (.slice C7 r7 f7)).c3
  have HG:=lh9 (gr3 (⟨zaU.to HMP.out.1 HN9.out,zak.to HMP.out.2 HN7.out⟩) k3 hB (by omega))
  go_wp2
  refine bodyPost_ret (v:=.agg #[.bool b9,.slice B9 m9 d9,.slice C7 r7 f7]) (by simp [results,Tryz.results114,go_sem,r0,r1,r2]) rfl ?_
  exact HG.out
 ·clear HCASE
  obtain⟨hp,hd⟩:=hq
  have HMP:=lh9 (zeK p d H0.out true (by simp [hp,hd]<;>omega))
  have Hsp:=lh9 hp
  have Hsd:=lh9 hd
  clear hp hd
  obtain rfl:baa=true:=((HNaa.out _ hB)).1.trans (decide_eq_true (by have:=Hsp.out;omega))
  obtain rfl:bab=false:=((HNab.out _ hB)).1.trans (decide_eq_false (by have:=Hsd.out;omega))
  go_wp2_with fail
  have HZ9:Hid (Sz (Kp) (sgI true (p.natAbs / (Nat.gcd p.natAbs d.natAbs))).natAbs):=(by rw [zgK];exact HZ5.out)
  (with_reducible refine(zbp true (p.natAbs / (Nat.gcd p.natAbs d.natAbs)) C5 r5 f5 _ HN5.out (szh HZ5 HN5.out)).mono ?_)
  rintro e wc5 ⟨b9,B9,m9,d9,rfl,hw9,hb⟩
  have hB:=zac hB hb
  have g1:=zae hb g1
  have e1:=zae hb e1
  have g2:=zae hb g2
  have e2:=zae hb e2
  have k3:=zad hb k3
  have HN7:=lh9 (HN7.out.below hb)
  have HN9:=lh9 hw9
  clear hb hw9
  obtain⟨sc0,sf0,sc1,sf1,sc2,sf2⟩:=st3 k3 (.bool b9) (.slice B9 m9 d9)
  obtain⟨r0,r1,r2⟩:=(sn3 k3 (.bool b9) (.slice B9 m9 d9) (.slice C7 r7 f7)).c3
  have HG:=lh9 (gr3 (⟨zaU.to HMP.out.1 HN9.out,zak.to HMP.out.2 HN7.out⟩) k3 hB (by omega))
  go_wp2
  refine bodyPost_ret (v:=.agg #[.bool b9,.slice B9 m9 d9,.slice C7 r7 f7]) (by simp [results,Tryz.results114,go_sem,r0,r1,r2]) rfl ?_
  exact HG.out
 ·clear HCASE
  obtain⟨hp,hd⟩:=hq
  have HMP:=lh9 (zeK p d H0.out true (by simp [hp,hd]<;>omega))
  have Hsp:=lh9 hp
  have Hsd:=lh9 hd
  clear hp hd
  obtain rfl:baa=false:=((HNaa.out _ hB)).1.trans (decide_eq_false (by have:=Hsp.out;omega))
  obtain rfl:bab=true:=((HNab.out _ hB)).1.trans (decide_eq_true (by have:=Hsd.out;omega))
  go_wp2_with fail
  have HZ9:Hid (Sz (Kp) (sgI true (p.natAbs / (Nat.gcd p.natAbs d.natAbs))).natAbs):=(by rw [zgK];exact HZ5.out)
  (with_reducible refine(zbp true (p.natAbs / (Nat.gcd p.natAbs d.natAbs)) C5 r5 f5 _ HN5.out (szh HZ5 HN5.out)).mono ?_)
  rintro e wc5 ⟨b9,B9,m9,d9,rfl,hw9,hb⟩
  have hB:=zac hB hb
  have g1:=zae hb g1
  have e1:=zae hb e1
  have g2:=zae hb g2
  have e2:=zae hb e2
  have k3:=zad hb k3
  have HN7:=lh9 (HN7.out.below hb)
  have HN9:=lh9 hw9
  clear hb hw9
  obtain⟨sc0,sf0,sc1,sf1,sc2,sf2⟩:=st3 k3 (.bool b9) (.slice B9 m9 d9)
  obtain⟨r0,r1,r2⟩:=(sn3 k3 (.bool b9) (.slice B9 m9 d9) (.slice C7 r7 f7)).c3
  have HG:=lh9 (gr3 (⟨zaU.to HMP.out.1 HN9.out,zak.to HMP.out.2 HN7.out⟩) k3 hB (by omega))
  go_wp2
  refine bodyPost_ret (v:=.agg #[.bool b9,.slice B9 m9 d9,.slice C7 r7 f7]) (by simp [results,Tryz.results114,go_sem,r0,r1,r2]) rfl ?_
  exact HG.out
 ·clear HCASE
  obtain⟨hp,hd⟩:=hq
  have HMP:=lh9 (zeK p d H0.out false (by simp [hp,hd]<;>omega))
  have Hsp:=lh9 hp
  have Hsd:=lh9 hd
  clear hp hd
  obtain rfl:baa=false:=((HNaa.out _ hB)).1.trans (decide_eq_false (by have:=Hsp.out;omega))
  obtain rfl:bab=false:=((HNab.out _ hB)).1.trans (decide_eq_false (by have:=Hsd.out;omega))
  go_wp2_with fail
  have HZ9:Hid (Sz (Kp) (sgI false (p.natAbs / (Nat.gcd p.natAbs d.natAbs))).natAbs):=(by rw [zgK];exact HZ5.out)
  (with_reducible refine(zbp false (p.natAbs / (Nat.gcd p.natAbs d.natAbs)) C5 r5 f5 _ HN5.out (szh HZ5 HN5.out)).mono ?_)
  rintro e wc5 ⟨b9,B9,m9,d9,rfl,hw9,hb⟩
  have hB:=zac hB hb
  have g1:=zae hb g1
  have e1:=zae hb e1
  have g2:=zae hb g2
  have e2:=zae hb e2
  have k3:=zad hb k3
  have HN7:=lh9 (HN7.out.below hb)
  have HN9:=lh9 hw9
  clear hb hw9
  obtain⟨sc0,sf0,sc1,sf1,sc2,sf2⟩:=st3 k3 (.bool b9) (.slice B9 m9 d9)
  obtain⟨r0,r1,r2⟩:=(sn3 k3 (.bool b9) (.slice B9 m9 d9) (.slice C7 r7 f7)).c3
  have HG:=lh9 (gr3 (⟨zaU.to HMP.out.1 HN9.out,zak.to HMP.out.2 HN7.out⟩) k3 hB (by omega))
  go_wp2
  refine bodyPost_ret (v:=.agg #[.bool b9,.slice B9 m9 d9,.slice C7 r7 f7]) (by simp [results,Tryz.results114,go_sem,r0,r1,r2]) rfl ?_
  exact HG.out
theorem znY {n:Nat}(h:n≠0):(n:Int)≠0:=by omega
theorem add_made (r s:Rat):Rat.divInt (r.num*((s.den:Nat):Int)+s.num*((r.den:Nat):Int)) ((r.den*s.den:Nat):Int)=r+s:=by rw [Rat.divInt_ofNat,Rat.add_def']
theorem mul_made (r s:Rat):Rat.divInt (r.num*s.num) ((r.den*s.den:Nat):Int)=r*s:=by rw [Rat.divInt_ofNat,Rat.mul_def']
theorem zmi (r:Rat)(s:Rat)(baa:Bool)(Baa:oA9)(maa daa:Nat)(Eaa:oA9)(uaa vaa:Nat)(bab:Bool)(Bab:oA9)(mab dab:Nat)(Eab:oA9)(uab vab:Nat)(Ka:Nat)(Kb:Nat)(w:World)(zaa:SzQ Ka r)(haa:zbF w r baa Baa maa daa Eaa uaa vaa)(zab:SzQ Kb s)(hab:zbF w s bab Bab mab dab Eab uab vab)(qaa:Ka<=2097152)(qab:Kb<=2097152):
  Calls Tryz.prog 115 #[.agg #[.bool baa,.slice Baa maa daa,.slice Eaa uaa vaa],.agg #[.bool bab,.slice Bab mab dab,.slice Eab uab vab]] w (zcs w (r+s)):=by
 have HZaa:=lh9 zaa
 have HZab:=lh9 zab
 have HNaa:=lh9 (λw' (b:Below w.heap.size w w')=>haa.below b)
 have HNaap:=lh9 (λw' (b:Below w.heap.size w w')=>(HNaa.out w' b).1)
 have HZaap:Hid (Sz Ka r.num.natAbs):=HZaa.out.num
 have HNaaq:=lh9 (λw' (b:Below w.heap.size w w')=>(HNaa.out w' b).2)
 have HZaaq:Hid (Sz Ka r.den):=HZaa.out.den
 have HZaar:Hid (Sz Ka r.num.natAbs):=HZaa.out.num
 have HNab:=lh9 (λw' (b:Below w.heap.size w w')=>hab.below b)
 have HNabp:=lh9 (λw' (b:Below w.heap.size w w')=>(HNab.out w' b).1)
 have HZabp:Hid (Sz Kb s.num.natAbs):=HZab.out.num
 have HNabq:=lh9 (λw' (b:Below w.heap.size w w')=>(HNab.out w' b).2)
 have HZabq:Hid (Sz Kb s.den):=HZab.out.den
 have HZabr:Hid (Sz Kb s.num.natAbs):=HZab.out.num
 clear haa zaa hab zab
 go_enter Tryz.func115,Tryz.ntmps115
 have hB:=Below.refl w.heap.size w
 obtain⟨bx1,bx2,bx3,bx4,bz⟩:=zbm w 94 94 94 #[.bool baa,.slice Baa maa daa,.slice Eaa uaa vaa] #[.bool bab,.slice Bab mab dab,.slice Eab uab vab] #[.bool false,.slice none 0 0,.slice none 0 0]
 have hB:=zac hB bx1
 obtain⟨g1,e1,i1⟩:=bx2.c3
 obtain⟨g2,e2,i2⟩:=bx3.c3
 have k3:=bx4
 clear bx1 bx2 bx3 bx4 bz
 go_wp2_with fail
 generalize ((w.alloc (.cells #[.bool baa,.slice Baa maa daa,.slice Eaa uaa vaa] 94)).alloc (.cells #[.bool bab,.slice Bab mab dab,.slice Eab uab vab] 94)).alloc (.cells #[.bool false,.slice none 0 0,.slice none 0 0] 94)=W1 at*
 have HZ4:Hid (Sz (Kb) (((s.den:Nat):Int)).natAbs):=(by rw [Int.natAbs_natCast];exact HZabq.out)
 have C0:=lh9 (λw' (h:Below W1.heap.size W1 w')=>zeN (s.den) Eab uab vab w' (HNabq.out _ (zac hB h)) (szh HZabq (HNabq.out _ hB)))
 have HZ5:Hid (Sz (Ka+Kb) (r.num*(((s.den:Nat):Int))).natAbs):=SzI.mul HZaap.out HZ4.out
 have C1:=lh9 (λw' (h:Below W1.heap.size W1 w') b4 B4 m4 d4 (hw4:zaU w' (((s.den:Nat):Int)) b4 B4 m4 d4)=>ziO (r.num) (((s.den:Nat):Int)) baa b4 Baa B4 maa m4 daa d4 w' (HNaap.out _ (zac hB h)) hw4 (szr HZaap (HNaap.out _ hB)) (szr HZ4 hw4))
 have HZ6:Hid (Sz (Ka) (((r.den:Nat):Int)).natAbs):=(by rw [Int.natAbs_natCast];exact HZaaq.out)
 have C2:=lh9 (λw' (h:Below W1.heap.size W1 w')=>zeN (r.den) Eaa uaa vaa w' (HNaaq.out _ (zac hB h)) (szh HZaaq (HNaaq.out _ hB)))
 have HZ7:Hid (Sz (Kb+Ka) (s.num*(((r.den:Nat):Int))).natAbs):=SzI.mul HZabp.out HZ6.out
 have C3:=lh9 (λw' (h:Below W1.heap.size W1 w') b6 B6 m6 d6 (hw6:zaU w' (((r.den:Nat):Int)) b6 B6 m6 d6)=>ziO (s.num) (((r.den:Nat):Int)) bab b6 Bab B6 mab m6 dab d6 w' (HNabp.out _ (zac hB h)) hw6 (szr HZabp (HNabp.out _ hB)) (szr HZ6 hw6))
 have HZ8:Hid (Sz ((Ka+Kb)+(Kb+Ka)+1) ((r.num*(((s.den:Nat):Int)))+(s.num*(((r.den:Nat):Int)))).natAbs):=SzI.add HZ5.out HZ7.out
 have C4:=lh9 (λw' (h:Below W1.heap.size W1 w') b5 B5 m5 d5 (hw5:zaU w' (r.num*(((s.den:Nat):Int))) b5 B5 m5 d5) b7 B7 m7 d7 (hw7:zaU w' (s.num*(((r.den:Nat):Int))) b7 B7 m7 d7)=>ref7_add (r.num*(((s.den:Nat):Int))) (s.num*(((r.den:Nat):Int))) b5 b7 B5 B7 m5 m7 d5 d7 w' hw5 hw7 (szr HZ5 hw5) (szr HZ7 hw7))
 have lt3_m1:=k3.lt
 have GG:=lh9 (λw' (h:Below W1.heap.size W1 w')=>(csc (zae h g1) (csc (zae h e1) (csc (zae h i1) (csc (zae h g2) (csc (zae h e2) (csc (zae h i2) csn)))))))
 refine rgB (λhHeld=>?_)
 refine tl 0 GG.out ?_
 refine tl 1 GG.out ?_
 refine tl 2 GG.out ?_
 refine tl 3 GG.out ?_
 refine tl 6 GG.out ?_
 refine tl 7 GG.out ?_
 refine tl 8 GG.out ?_
 refine tl 9 GG.out ?_
 refine zbz (L:=#[true,true,true,true,true,true,true,true,true,true,true,true,true,true,true])
  (J:=fun a0 l a w' => ∃ (fl4 fl5 fl10 fl11 fl12 fl13 fl14 b4 : Bool) (B4 : oA9) (m4 d4 : Nat) (b5 : Bool) (B5 : oA9) (m5 d5 : Nat) (b6 : Bool) (B6 : oA9) (m6 d6 : Nat) (b7 : Bool) (B7 : oA9) (m7 d7 : Nat) (b8 : Bool) (B8 : oA9) (m8 d8 ad13 : Nat),l = #[true,true,true,true,fl4,fl5,true,true,true,true,fl10,fl11,fl12,fl13,fl14] ∧ zcV [10,11,16,17,18,5] a0 a ∧ Hid (Below W1.heap.size W1 w') ∧
    Hid (Gd fl4 (a.tmps.getD 10 undef=.agg #[.bool b4,.slice B4 m4 d4]/\zaU w' (((s.den:Nat):Int)) b4 B4 m4 d4))/\
    Hid (Gd fl5 (a.tmps.getD 11 undef=.agg #[.bool b5,.slice B5 m5 d5]/\zaU w' (r.num*(((s.den:Nat):Int))) b5 B5 m5 d5))/\
    Hid (Gd fl10 (a.tmps.getD 16 undef=.agg #[.bool b6,.slice B6 m6 d6]/\zaU w' (((r.den:Nat):Int)) b6 B6 m6 d6))/\
    Hid (Gd fl11 (a.tmps.getD 17 undef=.agg #[.bool b7,.slice B7 m7 d7]/\zaU w' (s.num*(((r.den:Nat):Int))) b7 B7 m7 d7))/\
    Hid (Gd fl12 (a.tmps.getD 18 undef=.agg #[.bool b8,.slice B8 m8 d8]/\zaU w' ((r.num*(((s.den:Nat):Int)))+(s.num*(((r.den:Nat):Int)))) b8 B8 m8 d8))/\
    Hid (Gd fl13 (a.tmps.getD 5 undef=.pointer (some ⟨ad13,0,none⟩)/\W1.heap.size<=ad13/\Blk w' ad13 92 (bif fl14 then #[.bool b8,.slice B8 m8 d8] else #[.bool false,.slice none 0 0])))/\
    Hid (Gd fl5 (fl4=true))/\
    Hid (Gd fl10 (fl5=true))/\
    Hid (Gd fl11 (fl10=true))/\
    Hid (Gd fl12 (fl5=true))/\
    Hid (Gd fl12 (fl11=true))/\
    Hid (Gd fl14 (fl12=true))/\
    Hid (Gd fl14 (fl13=true)))
  (by rfl) ?_ ?_ ?_
 ·exact⟨false,false,false,false,false,false,false,false,none,0,0,false,none,0,0,false,none,0,0,false,none,0,0,false,none,0,0,0,by kernel_rfl,zcV.refl _ _,hHeld,Gd.no,Gd.no,Gd.no,Gd.no,Gd.no,Gd.no,Gd.no,Gd.no,Gd.no,Gd.no,Gd.no,Gd.no,Gd.no⟩
 ·intro OPS Ac0 Q0 hO hAs hA
  have RB7:Ac0.tmps.getD 7 undef=.agg #[.bool baa,.slice Baa maa daa]:=(hA 7 undef).trans (by kernel_rfl)
  have RB9:Ac0.tmps.getD 9 undef=.slice Eab uab vab:=(hA 9 undef).trans (by kernel_rfl)
  have RB13:Ac0.tmps.getD 13 undef=.agg #[.bool bab,.slice Bab mab dab]:=(hA 13 undef).trans (by kernel_rfl)
  have RB15:Ac0.tmps.getD 15 undef=.slice Eaa uaa vaa:=(hA 15 undef).trans (by kernel_rfl)
  have hsz:Ac0.tmps.size=27:=hAs.trans (by kernel_rfl)
  clear hAs hA
  refine⟨?_,?_⟩
  ·rintro l a w' ⟨fl4,fl5,fl10,fl11,fl12,fl13,fl14,b4,B4,m4,d4,b5,B5,m5,d5,b6,B6,m6,d6,b7,B7,m7,d7,b8,B8,m8,d8,ad13,rfl,-⟩ hr
   obtain rfl:fl4=true:=als 4 hr hO
   obtain rfl:fl5=true:=als 5 hr hO
   obtain rfl:fl10=true:=als 10 hr hO
   obtain rfl:fl11=true:=als 11 hr hO
   obtain rfl:fl12=true:=als 12 hr hO
   obtain rfl:fl13=true:=als 13 hr hO
   obtain rfl:fl14=true:=als 14 hr hO
   rfl
  ·rintro l a w' i ⟨fl4,fl5,fl10,fl11,fl12,fl13,fl14,b4,B4,m4,d4,b5,B5,m5,d5,b6,B6,m6,d6,b7,B7,m7,d7,b8,B8,m8,d8,ad13,rfl,HKp,hBi,qf4,qf5,qf10,qf11,qf12,qf13,qd5_4,qd10_5,qd11_10,qd12_5,qd12_11,qd14_12,qd14_13⟩ hne hi
   have hlt:i<15:=by have:=zcZ hi;rw [hO] at this;exact this
   rcases (show i=0\/i=1\/i=2\/i=3\/i=4\/i=5\/i=6\/i=7\/i=8\/i=9\/i=10\/i=11\/i=12\/i=13\/i=14 by omega) with rfl|rfl|rfl|rfl|rfl|rfl|rfl|rfl|rfl|rfl|rfl|rfl|rfl|rfl|rfl
   ·cases (zaj hi:true=false)
   ·cases (zaj hi:true=false)
   ·cases (zaj hi:true=false)
   ·cases (zaj hi:true=false)
   ·obtain rfl:fl4=false:=zaj hi
    obtain rfl:fl5=false:=Gd.off qd5_4.out
    obtain rfl:fl10=false:=Gd.off qd10_5.out
    obtain rfl:fl11=false:=Gd.off qd11_10.out
    obtain rfl:fl12=false:=Gd.off qd12_5.out
    obtain rfl:fl14=false:=Gd.off qd14_12.out
    have rd9:=HKp.get 9 (by decide) RB9
    refine wog hO (λK' hK=>?_)
    go_simp
    refine(C0.out w' hBi.out).mono ?_
    rintro e w2 ⟨nb4,nB4,nm4,nd4,rfl,nhw4,hb⟩
    exact hK.out _ _ ⟨zac hBi.out hb,true,false,false,false,false,fl13,false,nb4,nB4,nm4,nd4,b5,B5,m5,d5,b6,B6,m6,d6,b7,B7,m7,d7,b8,B8,m8,d8,ad13,by rfl,HKp.put (by decide) _,zac hBi.out hb,Gd.yes ⟨zaG (HKp.lt (by rw [hsz];decide)) _,nhw4⟩,Gd.no,Gd.no,Gd.no,Gd.no,kq qf13.out λh=>⟨h.1,zad hb h.2⟩,Gd.no,Gd.no,Gd.no,Gd.no,Gd.no,Gd.no,Gd.no⟩
   ·obtain rfl:fl5=false:=zaj hi
    obtain rfl:fl4=true:=rdp 4 1 hi hO
    obtain rfl:fl10=false:=Gd.off qd10_5.out
    obtain rfl:fl11=false:=Gd.off qd11_10.out
    obtain rfl:fl12=false:=Gd.off qd12_5.out
    obtain rfl:fl14=false:=Gd.off qd14_12.out
    have rd7:=HKp.get 7 (by decide) RB7
    have rd10:=qf4.out.get.1
    have hw4:=qf4.out.get.2
    refine wog hO (λK' hK=>?_)
    go_simp
    refine(C1.out w' hBi.out _ _ _ _ hw4).mono ?_
    rintro e w2 ⟨nb5,nB5,nm5,nd5,rfl,nhw5,hb⟩
    exact hK.out _ _ ⟨zac hBi.out hb,true,true,false,false,false,fl13,false,b4,B4,m4,d4,nb5,nB5,nm5,nd5,b6,B6,m6,d6,b7,B7,m7,d7,b8,B8,m8,d8,ad13,by rfl,HKp.put (by decide) _,zac hBi.out hb,kq qf4.out λh=>(h).below hb,Gd.yes ⟨zaG (HKp.lt (by rw [hsz];decide)) _,nhw5⟩,Gd.no,Gd.no,Gd.no,kq qf13.out λh=>⟨h.1,zad hb h.2⟩,λ_=>rfl,Gd.no,Gd.no,Gd.no,Gd.no,Gd.no,Gd.no⟩
   ·cases (zaj hi:true=false)
   ·cases (zaj hi:true=false)
   ·cases (zaj hi:true=false)
   ·cases (zaj hi:true=false)
   ·obtain rfl:fl10=false:=zaj hi
    obtain rfl:fl5=true:=rdp 5 1 hi hO
    obtain rfl:fl4=true:=qd5_4.out.get
    obtain rfl:fl11=false:=Gd.off qd11_10.out
    obtain rfl:fl12=false:=Gd.off qd12_11.out
    obtain rfl:fl14=false:=Gd.off qd14_12.out
    have rd15:=HKp.get 15 (by decide) RB15
    refine wog hO (λK' hK=>?_)
    go_simp
    refine(C2.out w' hBi.out).mono ?_
    rintro e w2 ⟨nb6,nB6,nm6,nd6,rfl,nhw6,hb⟩
    exact hK.out _ _ ⟨zac hBi.out hb,true,true,true,false,false,fl13,false,b4,B4,m4,d4,b5,B5,m5,d5,nb6,nB6,nm6,nd6,b7,B7,m7,d7,b8,B8,m8,d8,ad13,by rfl,HKp.put (by decide) _,zac hBi.out hb,kq qf4.out λh=>(h).below hb,kq qf5.out λh=>(h).below hb,Gd.yes ⟨zaG (HKp.lt (by rw [hsz];decide)) _,nhw6⟩,Gd.no,Gd.no,kq qf13.out λh=>⟨h.1,zad hb h.2⟩,λ_=>rfl,λ_=>rfl,Gd.no,Gd.no,Gd.no,Gd.no,Gd.no⟩
   ·obtain rfl:fl11=false:=zaj hi
    obtain rfl:fl10=true:=rdp 10 1 hi hO
    obtain rfl:fl5=true:=qd10_5.out.get
    obtain rfl:fl4=true:=qd5_4.out.get
    obtain rfl:fl12=false:=Gd.off qd12_11.out
    obtain rfl:fl14=false:=Gd.off qd14_12.out
    have rd13:=HKp.get 13 (by decide) RB13
    have rd16:=qf10.out.get.1
    have hw6:=qf10.out.get.2
    refine wog hO (λK' hK=>?_)
    go_simp
    refine(C3.out w' hBi.out _ _ _ _ hw6).mono ?_
    rintro e w2 ⟨nb7,nB7,nm7,nd7,rfl,nhw7,hb⟩
    exact hK.out _ _ ⟨zac hBi.out hb,true,true,true,true,false,fl13,false,b4,B4,m4,d4,b5,B5,m5,d5,b6,B6,m6,d6,nb7,nB7,nm7,nd7,b8,B8,m8,d8,ad13,by rfl,HKp.put (by decide) _,zac hBi.out hb,kq qf4.out λh=>(h).below hb,kq qf5.out λh=>(h).below hb,kq qf10.out λh=>(h).below hb,Gd.yes ⟨zaG (HKp.lt (by rw [hsz];decide)) _,nhw7⟩,Gd.no,kq qf13.out λh=>⟨h.1,zad hb h.2⟩,λ_=>rfl,λ_=>rfl,λ_=>rfl,Gd.no,Gd.no,Gd.no,Gd.no⟩
   ·obtain rfl:fl12=false:=zaj hi
    obtain rfl:fl5=true:=rdp 5 0 hi hO
    obtain rfl:fl11=true:=rdp 11 1 hi hO
    obtain rfl:fl4=true:=qd5_4.out.get
    obtain rfl:fl10=true:=qd11_10.out.get
    obtain rfl:fl14=false:=Gd.off qd14_12.out
    have rd11:=qf5.out.get.1
    have rd17:=qf11.out.get.1
    have hw5:=qf5.out.get.2
    have hw7:=qf11.out.get.2
    refine wog hO (λK' hK=>?_)
    go_simp
    refine(C4.out w' hBi.out _ _ _ _ hw5 _ _ _ _ hw7).mono ?_
    rintro e w2 ⟨nb8,nB8,nm8,nd8,rfl,nhw8,hb⟩
    exact hK.out _ _ ⟨zac hBi.out hb,true,true,true,true,true,fl13,false,b4,B4,m4,d4,b5,B5,m5,d5,b6,B6,m6,d6,b7,B7,m7,d7,nb8,nB8,nm8,nd8,ad13,by rfl,HKp.put (by decide) _,zac hBi.out hb,kq qf4.out λh=>(h).below hb,kq qf5.out λh=>(h).below hb,kq qf10.out λh=>(h).below hb,kq qf11.out λh=>(h).below hb,Gd.yes ⟨zaG (HKp.lt (by rw [hsz];decide)) _,nhw8⟩,kq qf13.out λh=>⟨h.1,zad hb h.2⟩,λ_=>rfl,λ_=>rfl,λ_=>rfl,λ_=>rfl,λ_=>rfl,Gd.no,Gd.no⟩
   ·obtain rfl:fl13=false:=zaj hi
    obtain rfl:fl14=false:=Gd.off qd14_13.out
    refine wog hO (λK' hK=>?_)
    go_simp
    have hb:=zbk w' (.cells #[.bool false,.slice none 0 0] 92)
    exact hK.out _ _ ⟨zac hBi.out hb,fl4,fl5,fl10,fl11,fl12,true,false,b4,B4,m4,d4,b5,B5,m5,d5,b6,B6,m6,d6,b7,B7,m7,d7,b8,B8,m8,d8,w'.heap.size,by rfl,HKp.put (by decide) _,zac hBi.out hb,kq qf4.out λh=>(h).below hb,kq qf5.out λh=>(h).below hb,kq qf10.out λh=>(h).below hb,kq qf11.out λh=>(h).below hb,kq qf12.out λh=>(h).below hb,Gd.yes ⟨zaG (HKp.lt (by rw [hsz];decide)) _,hBi.out.size,Blk.new w' _ _⟩,qd5_4,qd10_5,qd11_10,qd12_5,qd12_11,Gd.no,Gd.no⟩
   ·obtain rfl:fl14=false:=zaj hi
    obtain rfl:fl4=true:=rdp 4 7 hi hO
    obtain rfl:fl5=true:=rdp 5 8 hi hO
    obtain rfl:fl10=true:=rdp 10 13 hi hO
    obtain rfl:fl11=true:=rdp 11 14 hi hO
    obtain rfl:fl12=true:=rdp 12 1 hi hO
    obtain rfl:fl13=true:=rdp 13 0 hi hO
    have rd5:=qf13.out.get.1
    have rd18:=qf12.out.get.1
    obtain⟨_,hg,hk⟩:=qf13.out.get
    have hk:Blk w' ad13 92 #[.bool false,.slice none 0 0]:=hk
    obtain⟨sc0,sf0,sc1,sf1⟩:=st2 hk (.bool b8)
    have hj1:=sn2 hk (.bool b8) (.slice B8 m8 d8)
    have hBn:=bl2 (.bool b8) (.slice B8 m8 d8) hg hBi.out
    refine wog hO (λK' hK=>?_)
    go_simp
    exact hK.out _ _ ⟨hBn,true,true,true,true,true,true,true,b4,B4,m4,d4,b5,B5,m5,d5,b6,B6,m6,d6,b7,B7,m7,d7,b8,B8,m8,d8,ad13,by rfl,HKp,hBn,qf4.out.mono λh=>⟨h.1,zeO (h.2) hk nou2 (zdA _ _ _ _)⟩,qf5.out.mono λh=>⟨h.1,zeO (h.2) hk nou2 (zdA _ _ _ _)⟩,qf10.out.mono λh=>⟨h.1,zeO (h.2) hk nou2 (zdA _ _ _ _)⟩,qf11.out.mono λh=>⟨h.1,zeO (h.2) hk nou2 (zdA _ _ _ _)⟩,qf12.out.mono λh=>⟨h.1,zeO (h.2) hk nou2 (zdA _ _ _ _)⟩,qf13.out.mono λh=>⟨h.1,h.2.1,hj1⟩,λ_=>rfl,λ_=>rfl,λ_=>rfl,λ_=>rfl,λ_=>rfl,λ_=>rfl,λ_=>rfl⟩
 rintro a wm2 ⟨fl4,fl5,fl10,fl11,fl12,fl13,fl14,b4,B4,m4,d4,b5,B5,m5,d5,b6,B6,m6,d6,b7,B7,m7,d7,b8,B8,m8,d8,ad13,hl,HKp,hBi,qf4,qf5,qf10,qf11,qf12,qf13,qd5_4,qd10_5,qd11_10,qd12_5,qd12_11,qd14_12,qd14_13⟩
 have xx4:fl4=true:=gdl 4 hl
 subst xx4
 have xx5:fl5=true:=gdl 5 hl
 subst xx5
 have xx10:fl10=true:=gdl 10 hl
 subst xx10
 have xx11:fl11=true:=gdl 11 hl
 subst xx11
 have xx12:fl12=true:=gdl 12 hl
 subst xx12
 have xx13:fl13=true:=gdl 13 hl
 subst xx13
 have xx14:fl14=true:=gdl 14 hl
 subst xx14
 obtain⟨rv4,hw4⟩:=qf4.out.get
 obtain⟨rv5,hw5⟩:=qf5.out.get
 obtain⟨rv10,hw6⟩:=qf10.out.get
 obtain⟨rv11,hw7⟩:=qf11.out.get
 obtain⟨rv12,hw8⟩:=qf12.out.get
 obtain⟨rv13,hg13,hk13⟩:=qf13.out.get
 obtain rfl:=HKp.eq [(10,.agg #[.bool b4,.slice B4 m4 d4]),(11,.agg #[.bool b5,.slice B5 m5 d5]),(16,.agg #[.bool b6,.slice B6 m6 d6]),(17,.agg #[.bool b7,.slice B7 m7 d7]),(18,.agg #[.bool b8,.slice B8 m8 d8]),(5,.pointer (some ⟨ad13,0,none⟩))] rfl (by
  intro p hp
  simp only [List.mem_cons,List.not_mem_nil,or_false] at hp
  rcases hp with rfl|rfl|rfl|rfl|rfl|rfl
  ·exact rv4
  ·exact rv5
  ·exact rv10
  ·exact rv11
  ·exact rv12
  ·exact rv13)
 have hBv:=hBi.out
 clear hl hBi HKp qf4 qf5 qf10 qf11 qf12 qf13 qd5_4 qd10_5 qd11_10 qd12_5 qd12_11 qd14_12 qd14_13 rv4 rv5 rv10 rv11 rv12 rv13
 have hk13:Blk wm2 ad13 92 #[.bool b8,.slice B8 m8 d8]:=hk13
 rw [show due #[true,true,true,true,true,true,true,true,true,true,true,true,true,true,true]=0 from rfl]
 simp only [zcL,List.foldl,Act.put,List.setIfInBounds_toArray,List.set_cons_zero,List.set_cons_succ]
 refine wpAnyH_done (by kernel_rfl) ?_ _
 refine NoPanic.normal ?_
 have hB:=zac hB hBv
 have g1:=zae hBv g1
 have e1:=zae hBv e1
 have i1:=zae hBv i1
 have g2:=zae hBv g2
 have e2:=zae hBv e2
 have i2:=zae hBv i2
 have k3:=zad hBv k3
 obtain⟨ad13_9,hga⟩:∃x,x=ad13:=⟨_,rfl⟩
 subst hga
 obtain⟨g9,e9⟩:=hk13.c2
 have HN8:=lh9 hw8
 clear hBv hk13 hw4 hw5 hw6 hw7 hw8 GG
 clear C0 C1 C2 C3 C4
 go_wp2_with fail
 have HZ10:Hid (Sz (Ka+Kb) (r.den*s.den)):=Sz.mul HZaaq.out HZabq.out
 have C0:=lh9 (λw' (h:Below wm2.heap.size wm2 w')=>ziN (r.den) (s.den) Eaa Eab uaa uab vaa vab w' (HNaaq.out _ (zac hB h)) (HNabq.out _ (zac hB h)) (szh HZaaq (HNaaq.out _ hB)) (szh HZabq (HNabq.out _ hB)))
 have HZ11:Hid (Sz (Ka+Kb) (((r.den*s.den:Nat):Int)).natAbs):=(by rw [Int.natAbs_natCast];exact HZ10.out)
 have C1:=lh9 (λw' (h:Below wm2.heap.size wm2 w') C10 r10 f10 (hw10:zak w' (r.den*s.den) C10 r10 f10)=>zeN (r.den*s.den) C10 r10 f10 w' hw10 (szh HZ10 hw10))
 have HZ12:Hid (SzQ (((Ka+Kb)+(Kb+Ka)+1)+(Ka+Kb)+1) (Rat.divInt ((r.num*(((s.den:Nat):Int)))+(s.num*(((r.den:Nat):Int)))) (((r.den*s.den:Nat):Int)))):=SzQ.made (HZ8.out.up (by omega)) (HZ11.out.up (by omega)) (by omega)
 have C2:=lh9 (λw' (h:Below wm2.heap.size wm2 w') b11 B11 m11 d11 (hw11:zaU w' (((r.den*s.den:Nat):Int)) b11 B11 m11 d11)=>ziP ((r.num*(((s.den:Nat):Int)))+(s.num*(((r.den:Nat):Int)))) (((r.den*s.den:Nat):Int)) b8 B8 m8 d8 b11 B11 m11 d11 ((Ka+Kb)+(Kb+Ka)+1) (Ka+Kb) w' HZ8.out (HN8.out.below h) HZ11.out hw11 (by omega) (by omega) (znY (Nat.mul_ne_zero r.den_nz s.den_nz)))
 have hBw:=(Below.refl wm2.heap.size wm2).drew
 refine rg (csc g9 (csc e9 (csc g1 (csc e1 (csc i1 (csc g2 (csc e2 (csc i2 csn)))))))) (λhHeld=>?_)
 refine tk 0 ?_
 refine tk 1 ?_
 refine tk 2 ?_
 refine tk 3 ?_
 refine tk 4 ?_
 refine rc 5 (λK hK=>?_)
 go_simp
 go_at_call 144;(with_reducible refine(C0.out _ hBw).mono ?_);rintro e wa3 ⟨C10,r10,f10,rfl,hw10,hb⟩;have hBw:=zac hBw hb;refine hK.out _ _ (Cs.below hHeld hb) (λhHeld=>?_);clear hK K hb
 try simp only [sb9]
 refine rc 6 (λK hK=>?_)
 go_simp
 go_at_call 143;(with_reducible refine(C1.out _ hBw _ _ _ hw10).mono ?_);rintro e wa4 ⟨b11,B11,m11,d11,rfl,hw11,hb⟩;have hBw:=zac hBw hb;have hw10:=hw10.below hb;refine hK.out _ _ (Cs.below hHeld hb) (λhHeld=>?_);clear hK K hb
 try simp only [sb9]
 refine rc 7 (λK hK=>?_)
 go_simp
 go_at_call 114;(with_reducible refine(C2.out _ hBw _ _ _ _ hw11).mono ?_);rintro e wa5 ⟨b12,B12,m12,d12,E12,u12,v12,rfl,hw12,hb⟩;have hBw:=zac hBw hb;have hw10:=hw10.below hb;have hw11:=hw11.below hb;refine hK.out _ _ (Cs.below hHeld hb) (λhHeld=>?_);clear hK K hb
 try simp only [sb9]
 obtain⟨sc0,sf0,sc1,sf1,sc2,sf2⟩:=st3 (zad hBw k3) (.bool b12) (.slice B12 m12 d12)
 refine rc 8 (λK hK=>?_)
 go_simp
 refine hK.out _ _ (cs3 (.bool b12) (.slice B12 m12 d12) (.slice E12 u12 v12) hHeld) (λhHeld=>?_);clear hK K
 try simp only [sb9]
 refine rdn ?_
 have hB:=zac hB hBw
 have g1:=zae hBw g1
 have e1:=zae hBw e1
 have i1:=zae hBw i1
 have g2:=zae hBw g2
 have e2:=zae hBw e2
 have i2:=zae hBw i2
 have k3:=zad hBw k3
 have g9:=zae hBw g9
 have e9:=zae hBw e9
 have HN12:=lh9 hw12
 clear hBw hHeld hw10 hw11 hw12 C0 C1 C2
 obtain⟨r0,r1,r2⟩:=(sn3 k3 (.bool b12) (.slice B12 m12 d12) (.slice E12 u12 v12)).c3
 have HG:=lh9 (gr3 (zbF.to (add_made r s) HN12.out) k3 hB (by omega))
 go_wp2
 refine bodyPost_ret (v:=.agg #[.bool b12,.slice B12 m12 d12,.slice E12 u12 v12]) (by simp [results,Tryz.results115,go_sem,r0,r1,r2]) rfl ?_
 exact HG.out
theorem zmj (r:Rat)(s:Rat)(baa:Bool)(Baa:oA9)(maa daa:Nat)(Eaa:oA9)(uaa vaa:Nat)(bab:Bool)(Bab:oA9)(mab dab:Nat)(Eab:oA9)(uab vab:Nat)(Ka:Nat)(Kb:Nat)(w:World)(zaa:SzQ Ka r)(haa:zbF w r baa Baa maa daa Eaa uaa vaa)(zab:SzQ Kb s)(hab:zbF w s bab Bab mab dab Eab uab vab)(qaa:Ka<=2097152)(qab:Kb<=2097152):
  Calls Tryz.prog 116 #[.agg #[.bool baa,.slice Baa maa daa,.slice Eaa uaa vaa],.agg #[.bool bab,.slice Bab mab dab,.slice Eab uab vab]] w (zcs w (r*s)):=by
 have HZaa:=lh9 zaa
 have HZab:=lh9 zab
 have HNaa:=lh9 (λw' (b:Below w.heap.size w w')=>haa.below b)
 have HNaap:=lh9 (λw' (b:Below w.heap.size w w')=>(HNaa.out w' b).1)
 have HZaap:Hid (Sz Ka r.num.natAbs):=HZaa.out.num
 have HNaaq:=lh9 (λw' (b:Below w.heap.size w w')=>(HNaa.out w' b).2)
 have HZaaq:Hid (Sz Ka r.den):=HZaa.out.den
 have HZaar:Hid (Sz Ka r.num.natAbs):=HZaa.out.num
 have HNab:=lh9 (λw' (b:Below w.heap.size w w')=>hab.below b)
 have HNabp:=lh9 (λw' (b:Below w.heap.size w w')=>(HNab.out w' b).1)
 have HZabp:Hid (Sz Kb s.num.natAbs):=HZab.out.num
 have HNabq:=lh9 (λw' (b:Below w.heap.size w w')=>(HNab.out w' b).2)
 have HZabq:Hid (Sz Kb s.den):=HZab.out.den
 have HZabr:Hid (Sz Kb s.num.natAbs):=HZab.out.num
 clear haa zaa hab zab
 go_enter Tryz.func116,Tryz.ntmps116
 have hB:=Below.refl w.heap.size w
 obtain⟨bx1,bx2,bx3,bx4,bz⟩:=zbm w 94 94 94 #[.bool baa,.slice Baa maa daa,.slice Eaa uaa vaa] #[.bool bab,.slice Bab mab dab,.slice Eab uab vab] #[.bool false,.slice none 0 0,.slice none 0 0]
 have hB:=zac hB bx1
 obtain⟨g1,e1,i1⟩:=bx2.c3
 obtain⟨g2,e2,i2⟩:=bx3.c3
 have k3:=bx4
 clear bx1 bx2 bx3 bx4 bz
 go_wp2_with fail
 generalize ((w.alloc (.cells #[.bool baa,.slice Baa maa daa,.slice Eaa uaa vaa] 94)).alloc (.cells #[.bool bab,.slice Bab mab dab,.slice Eab uab vab] 94)).alloc (.cells #[.bool false,.slice none 0 0,.slice none 0 0] 94)=W1 at*
 have HZ4:Hid (Sz (Ka+Kb) (r.num*s.num).natAbs):=SzI.mul HZaap.out HZabp.out
 have C0:=lh9 (λw' (h:Below W1.heap.size W1 w')=>ziO (r.num) (s.num) baa bab Baa Bab maa mab daa dab w' (HNaap.out _ (zac hB h)) (HNabp.out _ (zac hB h)) (szr HZaap (HNaap.out _ hB)) (szr HZabp (HNabp.out _ hB)))
 have HZ5:Hid (Sz (Ka+Kb) (r.den*s.den)):=Sz.mul HZaaq.out HZabq.out
 have C1:=lh9 (λw' (h:Below W1.heap.size W1 w')=>ziN (r.den) (s.den) Eaa Eab uaa uab vaa vab w' (HNaaq.out _ (zac hB h)) (HNabq.out _ (zac hB h)) (szh HZaaq (HNaaq.out _ hB)) (szh HZabq (HNabq.out _ hB)))
 have HZ6:Hid (Sz (Ka+Kb) (((r.den*s.den:Nat):Int)).natAbs):=(by rw [Int.natAbs_natCast];exact HZ5.out)
 have C2:=lh9 (λw' (h:Below W1.heap.size W1 w') C5 r5 f5 (hw5:zak w' (r.den*s.den) C5 r5 f5)=>zeN (r.den*s.den) C5 r5 f5 w' hw5 (szh HZ5 hw5))
 have HZ7:Hid (SzQ ((Ka+Kb)+(Ka+Kb)+1) (Rat.divInt (r.num*s.num) (((r.den*s.den:Nat):Int)))):=SzQ.made (HZ4.out.up (by omega)) (HZ6.out.up (by omega)) (by omega)
 have C3:=lh9 (λw' (h:Below W1.heap.size W1 w') b4 B4 m4 d4 (hw4:zaU w' (r.num*s.num) b4 B4 m4 d4) b6 B6 m6 d6 (hw6:zaU w' (((r.den*s.den:Nat):Int)) b6 B6 m6 d6)=>ziP (r.num*s.num) (((r.den*s.den:Nat):Int)) b4 B4 m4 d4 b6 B6 m6 d6 (Ka+Kb) (Ka+Kb) w' HZ4.out hw4 HZ6.out hw6 (by omega) (by omega) (znY (Nat.mul_ne_zero r.den_nz s.den_nz)))
 have hBw:=(Below.refl W1.heap.size W1).drew
 refine rg (csc g1 (csc e1 (csc i1 (csc g2 (csc e2 (csc i2 csn)))))) (λhHeld=>?_)
 refine tk 0 ?_
 refine tk 1 ?_
 refine tk 2 ?_
 refine tk 3 ?_
 refine tk 5 ?_
 refine tk 6 ?_
 refine tk 7 ?_
 refine tk 8 ?_
 refine rc 4 (λK hK=>?_)
 go_simp
 go_at_call 142;(with_reducible refine(C0.out _ hBw).mono ?_);rintro e wa2 ⟨b4,B4,m4,d4,rfl,hw4,hb⟩;have hBw:=zac hBw hb;refine hK.out _ _ (Cs.below hHeld hb) (λhHeld=>?_);clear hK K hb
 try simp only [sb9]
 refine rc 9 (λK hK=>?_)
 go_simp
 go_at_call 144;(with_reducible refine(C1.out _ hBw).mono ?_);rintro e wa3 ⟨C5,r5,f5,rfl,hw5,hb⟩;have hBw:=zac hBw hb;have hw4:=hw4.below hb;refine hK.out _ _ (Cs.below hHeld hb) (λhHeld=>?_);clear hK K hb
 try simp only [sb9]
 refine rc 10 (λK hK=>?_)
 go_simp
 go_at_call 143;(with_reducible refine(C2.out _ hBw _ _ _ hw5).mono ?_);rintro e wa4 ⟨b6,B6,m6,d6,rfl,hw6,hb⟩;have hBw:=zac hBw hb;have hw4:=hw4.below hb;have hw5:=hw5.below hb;refine hK.out _ _ (Cs.below hHeld hb) (λhHeld=>?_);clear hK K hb
 try simp only [sb9]
 refine rc 11 (λK hK=>?_)
 go_simp
 go_at_call 114;(with_reducible refine(C3.out _ hBw _ _ _ _ hw4 _ _ _ _ hw6).mono ?_);rintro e wa5 ⟨b7,B7,m7,d7,E7,u7,v7,rfl,hw7,hb⟩;have hBw:=zac hBw hb;have hw4:=hw4.below hb;have hw5:=hw5.below hb;have hw6:=hw6.below hb;refine hK.out _ _ (Cs.below hHeld hb) (λhHeld=>?_);clear hK K hb
 try simp only [sb9]
 obtain⟨sc0,sf0,sc1,sf1,sc2,sf2⟩:=st3 (zad hBw k3) (.bool b7) (.slice B7 m7 d7)
 refine rc 12 (λK hK=>?_)
 go_simp
 refine hK.out _ _ (cs3 (.bool b7) (.slice B7 m7 d7) (.slice E7 u7 v7) hHeld) (λhHeld=>?_);clear hK K
 try simp only [sb9]
 refine rdn ?_
 have hB:=zac hB hBw
 have g1:=zae hBw g1
 have e1:=zae hBw e1
 have i1:=zae hBw i1
 have g2:=zae hBw g2
 have e2:=zae hBw e2
 have i2:=zae hBw i2
 have k3:=zad hBw k3
 have HN7:=lh9 hw7
 clear hBw hHeld hw4 hw5 hw6 hw7 C0 C1 C2 C3
 obtain⟨r0,r1,r2⟩:=(sn3 k3 (.bool b7) (.slice B7 m7 d7) (.slice E7 u7 v7)).c3
 have HG:=lh9 (gr3 (zbF.to (mul_made r s) HN7.out) k3 hB (by omega))
 go_wp2
 refine bodyPost_ret (v:=.agg #[.bool b7,.slice B7 m7 d7,.slice E7 u7 v7]) (by simp [results,Tryz.results116,go_sem,r0,r1,r2]) rfl ?_
 exact HG.out
