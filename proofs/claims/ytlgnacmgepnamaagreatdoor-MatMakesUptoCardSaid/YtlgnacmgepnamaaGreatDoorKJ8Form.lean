/- What this claim leans on. -/
import Derived.Test.YtlgnacmgepnamaaGreatDoorKVRow
namespace Go.Proofs.YtlgnacmgepnamaaGreatDoor
open Go Go.RowKit
set_option maxHeartbeats 16000000
set_option maxRecDepth 100000
set_option linter.unusedVariables false
set_option linter.unusedSimpArgs false
theorem zkA (r:Rat)(s:Bool)(x:Nat)(y:Nat)(Baa:oA9)(maa daa:Nat)(Bab:oA9)(mab dab:Nat)(w:World)(hT:zal w)(haa:zaf w x Baa maa daa)(hab:zaf w y Bab mab dab)(qaa:maa<=268435456)(qab:mab<=268435456)(hn:r.num=zaU s x)(hd:r.den=y)(hy:y=1):
  Calls Tryz.prog 128 #[.bool s,.agg #[.slice Baa maa daa],.agg #[.slice Bab mab dab]] w (zaJ w r):=by
 have HIC:=lh9 (zbJ (T:=zal))
 have HT:=lh9 (λw' (hb:Below w.heap.size w w')=>hT.on hb)
 have HTB:=HT
 obtain⟨K,hKe⟩:∃K,268435456=K:=⟨_,rfl⟩
 have hKK:K<=268435456:=by omega
 have hK0:0<K:=by omega
 have HRN:=lh9 hn
 have HRD:Hid (r.den=1):=hd.trans hy
 have HM1:Hid (mab<=1):=len_one hab hy
 have HW1:Hid (((wd y 0:Nat):Int)=1):=by show _=_;rw [hy];rfl
 have HNaa:=lh9 (λw' (b:Below w.heap.size w w')=>haa.below b)
 have HZaa:Hid (Sz K x):=Sz.of_words haa (by omega)
 clear haa qaa
 have HNab:=lh9 (λw' (b:Below w.heap.size w w')=>hab.below b)
 have HZab:Hid (Sz K y):=Sz.of_words hab (by omega)
 clear hab qab
 clear hT hKe hn hd hy
 go_enter Tryz.func128,Tryz.ntmps128
 have hB:=Below.refl w.heap.size w
 have kk2:=(zbq w 44 44 48 #[.slice Baa maa daa] #[.slice Bab mab dab] #[.bool false,.slice none 0 0,.slice none 0 0]).2.2.1
 obtain⟨bx1,bx2,bx3,bx4,bz⟩:=zbq w 44 44 48 #[.slice Baa maa daa] #[.slice Bab mab dab] #[.bool false,.slice none 0 0,.slice none 0 0]
 have hB:=zac hB bx1
 have g1:=bx2.c1
 have g2:=bx3.c1
 have k3:=bx4
 clear bx1 bx2 bx3 bx4 bz
 go_wp2_with fail
 generalize ((w.alloc (.cells #[.slice Baa maa daa] 44)).alloc (.cells #[.slice Bab mab dab] 44)).alloc (.cells #[.bool false,.slice none 0 0,.slice none 0 0] 48)=W1 at*
 have k2:=kk2
 clear kk2
 (with_reducible refine(zoB (HW1.out) (zcN (y) Bab mab dab _ (HNab.out _ hB) HM1.out)).mono ?_)
 rintro e wc2 ⟨rfl,hb⟩
 have hB:=zac hB hb
 have g1:=zad hb g1
 have g2:=zad hb g2
 have k3:=zae hb k3
 have k2:=zae hb k2
 clear hb 
 have HN4:=lh9 (zeC wc2)
 obtain⟨sc0,sf0⟩:=st1 k2
 have kz0:=sn1 k2 (.slice none 0 0)
 have g1:=zah (q:=⟨w.heap.size+1,0,none⟩) (.slice none 0 0) (by show w.heap.size≠w.heap.size+1;omega) (g1)
 have k3:=Blk.far (p:=⟨w.heap.size+1,0,none⟩) (k3) (by show w.heap.size+1+1≠w.heap.size+1;omega) (.slice none 0 0)
 have HN4:=lh9 (zav HN4.out k2 (NoU.s1 _ _ _) (zbF _ _ (.slice none 0 0)))
 have hB:=bl1 (.slice none 0 0) (by show w.heap.size<=w.heap.size+1;omega) hB
 have g2:(wc2.setCell ⟨w.heap.size+1,0,none⟩ (.slice none 0 0)).cell? ⟨w.heap.size+1,0,none⟩=some (.slice none 0 0):=kz0.cell 0
 have k2:=kz0
 go_wp2_with fail
 clear sc0 sf0 kz0
 generalize wc2.setCell ⟨w.heap.size+1,0,none⟩ (.slice none 0 0)=W3 at*
 go_wp2_with fail
 have HZ5:Hid (Sz (K) (zaU s x).natAbs):=(by rw [zdM];exact HZaa.out)
 have C0:=lh9 (λw' (h:Below W3.heap.size W3 w')=>HIC.out.new s (x) Baa maa daa w' (HT.out _ (zac hB h)) (HNaa.out _ (zac hB h)) (szw HZaa (HNaa.out _ hB)))
 have hBw:=(Below.refl W3.heap.size W3).drew
 refine rg (csc g1 (csc g2 csn)) (λhHeld=>?_)
 refine tk 0 ?_
 refine tk 1 ?_
 refine tk 3 ?_
 refine rc 2 (λK hK=>?_)
 go_simp
 go_at_call 129;(with_reducible refine(C0.out _ hBw).mono ?_);rintro e wa4 ⟨b5,B5,m5,d5,rfl,hw5,hb⟩;have hBw:=zac hBw hb;refine hK.out _ _ (Cs.below hHeld hb) (λhHeld=>?_);clear hK K hb
 try simp only [sb9]
 refine tk 4 ?_
 obtain⟨sc0,sf0,sc1,sf1,sc2,sf2⟩:=st3 (zae hBw k3) (.bool b5) (.slice B5 m5 d5)
 refine rc 5 (λK hK=>?_)
 go_simp
 refine hK.out _ _ (cs3 (.bool b5) (.slice B5 m5 d5) (.slice none 0 0) hHeld) (λhHeld=>?_);clear hK K
 try simp only [sb9]
 refine rdn ?_
 have hB:=zac hB hBw
 have g1:=zad hBw g1
 have k3:=zae hBw k3
 have k2:=zae hBw k2
 have HN4:=lh9 (HN4.out.below hBw)
 have g2:=zad hBw g2
 have HN5:=lh9 hw5
 clear hBw hHeld hw5 C0
 obtain⟨r0,r1,r2⟩:=(sn3 k3 (.bool b5) (.slice B5 m5 d5) (.slice none 0 0)).c3
 have HG:=lh9 (gq3 (zpy HRN.out HRD.out HN5.out HN4.out) k3 hB (by omega))
 go_wp2
 refine bodyPost_ret (v:=.agg #[.bool b5,.slice B5 m5 d5,.slice none 0 0]) (by simp [results,Tryz.results128,go_sem,r0,r1,r2]) rfl ?_
 exact HG.out
theorem zkB (r:Rat)(s:Bool)(x:Nat)(y:Nat)(Baa:oA9)(maa daa:Nat)(Bab:oA9)(mab dab:Nat)(w:World)(hT:zal w)(haa:zaf w x Baa maa daa)(hab:zaf w y Bab mab dab)(qaa:maa<=268435456)(qab:mab<=268435456)(hn:r.num=zaU s x)(hd:r.den=y)(hy:y≠1)(hm:mab<=1):
  Calls Tryz.prog 128 #[.bool s,.agg #[.slice Baa maa daa],.agg #[.slice Bab mab dab]] w (zaJ w r):=by
 have HIC:=lh9 (zbJ (T:=zal))
 have HT:=lh9 (λw' (hb:Below w.heap.size w w')=>hT.on hb)
 have HTB:=HT
 obtain⟨K,hKe⟩:∃K,268435456=K:=⟨_,rfl⟩
 have hKK:K<=268435456:=by omega
 have hK0:0<K:=by omega
 have HRN:=lh9 hn
 have HRD:=lh9 hd
 have HY:=lh9 hy
 have HM1:=lh9 hm
 have HW1:Hid (((wd y 0:Nat):Int)=(y:Int)):=by show _=_;rw [wd0 (zpc hab hm)]
 have kb1:((y:Int)==1)=false:=by rw [beq_eq_false_iff_ne];omega
 have HNaa:=lh9 (λw' (b:Below w.heap.size w w')=>haa.below b)
 have HZaa:Hid (Sz K x):=Sz.of_words haa (by omega)
 clear haa qaa
 have HNab:=lh9 (λw' (b:Below w.heap.size w w')=>hab.below b)
 have HZab:Hid (Sz K y):=Sz.of_words hab (by omega)
 clear hab qab
 clear hT hKe hn hd hy hm
 go_enter Tryz.func128,Tryz.ntmps128
 have hB:=Below.refl w.heap.size w
 have kk2:=(zbq w 44 44 48 #[.slice Baa maa daa] #[.slice Bab mab dab] #[.bool false,.slice none 0 0,.slice none 0 0]).2.2.1
 obtain⟨bx1,bx2,bx3,bx4,bz⟩:=zbq w 44 44 48 #[.slice Baa maa daa] #[.slice Bab mab dab] #[.bool false,.slice none 0 0,.slice none 0 0]
 have hB:=zac hB bx1
 have g1:=bx2.c1
 have g2:=bx3.c1
 have k3:=bx4
 clear bx1 bx2 bx3 bx4 bz
 go_wp2_with fail
 generalize ((w.alloc (.cells #[.slice Baa maa daa] 44)).alloc (.cells #[.slice Bab mab dab] 44)).alloc (.cells #[.bool false,.slice none 0 0,.slice none 0 0] 48)=W1 at*
 have k2:=kk2
 clear kk2
 (with_reducible refine(zoB (HW1.out) (zcN (y) Bab mab dab _ (HNab.out _ hB) HM1.out)).mono ?_)
 rintro e wc2 ⟨rfl,hb⟩
 have hB:=zac hB hb
 have g1:=zad hb g1
 have g2:=zad hb g2
 have k3:=zae hb k3
 have k2:=zae hb k2
 clear hb 
 go_wp2_with fail
 have HZ4:Hid (Sz (K) (zaU s x).natAbs):=(by rw [zdM];exact HZaa.out)
 have C0:=lh9 (λw' (h:Below wc2.heap.size wc2 w')=>HIC.out.new s (x) Baa maa daa w' (HT.out _ (zac hB h)) (HNaa.out _ (zac hB h)) (szw HZaa (HNaa.out _ hB)))
 have hBw:=(Below.refl wc2.heap.size wc2).drew
 refine rg (csc g1 (csc g2 csn)) (λhHeld=>?_)
 refine tk 0 ?_
 refine tk 1 ?_
 refine tk 3 ?_
 refine rc 2 (λK hK=>?_)
 go_simp
 go_at_call 129;(with_reducible refine(C0.out _ hBw).mono ?_);rintro e wa3 ⟨b4,B4,m4,d4,rfl,hw4,hb⟩;have hBw:=zac hBw hb;refine hK.out _ _ (Cs.below hHeld hb) (λhHeld=>?_);clear hK K hb
 try simp only [sb9]
 refine tk 4 ?_
 obtain⟨sc0,sf0,sc1,sf1,sc2,sf2⟩:=st3 (zae hBw k3) (.bool b4) (.slice B4 m4 d4)
 refine rc 5 (λK hK=>?_)
 go_simp
 refine hK.out _ _ (cs3 (.bool b4) (.slice B4 m4 d4) (.slice Bab mab dab) hHeld) (λhHeld=>?_);clear hK K
 try simp only [sb9]
 refine rdn ?_
 have hB:=zac hB hBw
 have g1:=zad hBw g1
 have g2:=zad hBw g2
 have k3:=zae hBw k3
 have k2:=zae hBw k2
 have HN4:=lh9 hw4
 clear hBw hHeld hw4 C0
 obtain⟨r0,r1,r2⟩:=(sn3 k3 (.bool b4) (.slice B4 m4 d4) (.slice Bab mab dab)).c3
 have HG:=lh9 (gq3 (ziz HRN.out HRD.out HY.out HN4.out (HNab.out _ hB)) k3 hB (by omega))
 go_wp2
 refine bodyPost_ret (v:=.agg #[.bool b4,.slice B4 m4 d4,.slice Bab mab dab]) (by simp [results,Tryz.results128,go_sem,r0,r1,r2]) rfl ?_
 exact HG.out
theorem zkC (r:Rat)(s:Bool)(x:Nat)(y:Nat)(Baa:oA9)(maa daa:Nat)(Bab:oA9)(mab dab:Nat)(w:World)(hT:zal w)(haa:zaf w x Baa maa daa)(hab:zaf w y Bab mab dab)(qaa:maa<=268435456)(qab:mab<=268435456)(hn:r.num=zaU s x)(hd:r.den=y)(hy:y≠1)(hm:1<mab):
  Calls Tryz.prog 128 #[.bool s,.agg #[.slice Baa maa daa],.agg #[.slice Bab mab dab]] w (zaJ w r):=by
 have HIC:=lh9 (zbJ (T:=zal))
 have HT:=lh9 (λw' (hb:Below w.heap.size w w')=>hT.on hb)
 have HTB:=HT
 obtain⟨K,hKe⟩:∃K,268435456=K:=⟨_,rfl⟩
 have hKK:K<=268435456:=by omega
 have hK0:0<K:=by omega
 have HRN:=lh9 hn
 have HRD:=lh9 hd
 have HY:=lh9 hy
 have HM1:=lh9 hm
 have HNaa:=lh9 (λw' (b:Below w.heap.size w w')=>haa.below b)
 have HZaa:Hid (Sz K x):=Sz.of_words haa (by omega)
 clear haa qaa
 have HNab:=lh9 (λw' (b:Below w.heap.size w w')=>hab.below b)
 have HZab:Hid (Sz K y):=Sz.of_words hab (by omega)
 clear hab qab
 clear hT hKe hn hd hy hm
 go_enter Tryz.func128,Tryz.ntmps128
 have hB:=Below.refl w.heap.size w
 have kk2:=(zbq w 44 44 48 #[.slice Baa maa daa] #[.slice Bab mab dab] #[.bool false,.slice none 0 0,.slice none 0 0]).2.2.1
 obtain⟨bx1,bx2,bx3,bx4,bz⟩:=zbq w 44 44 48 #[.slice Baa maa daa] #[.slice Bab mab dab] #[.bool false,.slice none 0 0,.slice none 0 0]
 have hB:=zac hB bx1
 have g1:=bx2.c1
 have g2:=bx3.c1
 have k3:=bx4
 clear bx1 bx2 bx3 bx4 bz
 go_wp2_with fail
 generalize ((w.alloc (.cells #[.slice Baa maa daa] 44)).alloc (.cells #[.slice Bab mab dab] 44)).alloc (.cells #[.bool false,.slice none 0 0,.slice none 0 0] 48)=W1 at*
 have k2:=kk2
 clear kk2
 (with_reducible refine(zcq Bab mab dab _ HM1.out).mono ?_)
 rintro e wc2 ⟨rfl,hb⟩
 have hB:=zac hB hb
 have g1:=zad hb g1
 have g2:=zad hb g2
 have k3:=zae hb k3
 have k2:=zae hb k2
 clear hb 
 go_wp2_with fail
 have HZ4:Hid (Sz (K) (zaU s x).natAbs):=(by rw [zdM];exact HZaa.out)
 have C0:=lh9 (λw' (h:Below wc2.heap.size wc2 w')=>HIC.out.new s (x) Baa maa daa w' (HT.out _ (zac hB h)) (HNaa.out _ (zac hB h)) (szw HZaa (HNaa.out _ hB)))
 have hBw:=(Below.refl wc2.heap.size wc2).drew
 refine rg (csc g1 (csc g2 csn)) (λhHeld=>?_)
 refine tk 0 ?_
 refine tk 1 ?_
 refine tk 3 ?_
 refine rc 2 (λK hK=>?_)
 go_simp
 go_at_call 129;(with_reducible refine(C0.out _ hBw).mono ?_);rintro e wa3 ⟨b4,B4,m4,d4,rfl,hw4,hb⟩;have hBw:=zac hBw hb;refine hK.out _ _ (Cs.below hHeld hb) (λhHeld=>?_);clear hK K hb
 try simp only [sb9]
 refine tk 4 ?_
 obtain⟨sc0,sf0,sc1,sf1,sc2,sf2⟩:=st3 (zae hBw k3) (.bool b4) (.slice B4 m4 d4)
 refine rc 5 (λK hK=>?_)
 go_simp
 refine hK.out _ _ (cs3 (.bool b4) (.slice B4 m4 d4) (.slice Bab mab dab) hHeld) (λhHeld=>?_);clear hK K
 try simp only [sb9]
 refine rdn ?_
 have hB:=zac hB hBw
 have g1:=zad hBw g1
 have g2:=zad hBw g2
 have k3:=zae hBw k3
 have k2:=zae hBw k2
 have HN4:=lh9 hw4
 clear hBw hHeld hw4 C0
 obtain⟨r0,r1,r2⟩:=(sn3 k3 (.bool b4) (.slice B4 m4 d4) (.slice Bab mab dab)).c3
 have HG:=lh9 (gq3 (ziz HRN.out HRD.out HY.out HN4.out (HNab.out _ hB)) k3 hB (by omega))
 go_wp2
 refine bodyPost_ret (v:=.agg #[.bool b4,.slice B4 m4 d4,.slice Bab mab dab]) (by simp [results,Tryz.results128,go_sem,r0,r1,r2]) rfl ?_
 exact HG.out
theorem zfU (r:Rat)(s:Bool)(x:Nat)(y:Nat)(Baa:oA9)(maa daa:Nat)(Bab:oA9)(mab dab:Nat)(w:World)(hT:zal w)(haa:zaf w x Baa maa daa)(hab:zaf w y Bab mab dab)(qaa:maa<=268435456)(qab:mab<=268435456)(hn:r.num=zaU s x)(hd:r.den=y):
  Calls Tryz.prog 128 #[.bool s,.agg #[.slice Baa maa daa],.agg #[.slice Bab mab dab]] w (zaJ w r):=by
 by_cases hy:y=1
 ·exact zkA r s x y Baa maa daa Bab mab dab w hT haa hab qaa qab hn hd hy
 ·by_cases hm:mab<=1
  ·exact zkB r s x y Baa maa daa Bab mab dab w hT haa hab qaa qab hn hd hy hm
  ·exact zkC r s x y Baa maa daa Bab mab dab w hT haa hab qaa qab hn hd hy (by omega)
def zca (w:World)(r:Rat)(b:Bool)(A:oA9)(n c:Nat)(E:oA9)(k f:Nat):Prop:=zbQ w r.num b A n c/\zak w r.den E k f
theorem zca.below {w w':World}{r:Rat}{b:Bool}{A:oA9}{n c:Nat}{E:oA9}{k f:Nat}(h:zca w r b A n c E k f)(hb:Below w.heap.size w w'):zca w' r b A n c E k f:=⟨h.1.below hb,h.2.below hb⟩
theorem zca.to {w:World}{r s:Rat}{b:Bool}{A:oA9}{n c:Nat}{E:oA9}{k f:Nat}(e:r=s)(h:zca w r b A n c E k f):zca w s b A n c E k f:=e▸h
def zdP (w:World)(r:Rat)(e:Ending)(w':World):Prop:=∃(b:Bool) (A:oA9) (n c:Nat) (E:oA9) (k f:Nat),e=.returned (.agg #[.bool b,.slice A n c,.slice E k f])/\zca w' r b A n c E k f/\Below w.heap.size w w'
theorem zpE {w w':World}{r:Rat}{b:Bool}{A:oA9}{n c:Nat}{E:oA9}{k f:Nat}{g:Nat}{t:TypeId}{cs:Array Value}(h:zca w r b A n c E k f)(hk:Blk w g t cs)(hcs:NoU cs)(ho:zcV g w w'):zca w' r b A n c E k f:=⟨ref_off h.1 hk hcs ho,zjp h.2 hk hcs ho⟩
theorem gr3 {w W:World}{r:Rat}{g:Nat}{t:TypeId}{b:Bool}{A E:oA9}{n c k f:Nat}{p:Bool}{q q2:oA9}{r1 s r2 s2:Nat}(h:zca W r b A n c E k f)(kd:Blk W g t #[.bool p,.slice q r1 s,.slice q2 r2 s2])(hB:Below w.heap.size w W)(hg:w.heap.size<=g):zdP w r (.returned (.agg #[.bool b,.slice A n c,.slice E k f])) (((W.setCell ⟨g,0,none⟩ (.bool b)).setCell ⟨g,1,none⟩ (.slice A n c)).setCell ⟨g,2,none⟩ (.slice E k f)):=
 ⟨_,_,_,_,_,_,_,rfl,zpE h kd (NoU.s3 _ _ _ _ _ _ _) (off3 _ _ _ _ _),bl3 _ _ _ hg hB⟩
theorem zak.to {w:World}{x y:Nat}{A:oA9}{n c:Nat}(e:x=y)(h:zak w x A n c):zak w y A n c:=e▸h
theorem zex (p d:Int)(hd:d≠0)(s:Bool)(hs:s=(decide (p<0) !=decide (d<0))):sgI s (p.natAbs / Nat.gcd p.natAbs d.natAbs)=(Rat.divInt p d).num/\d.natAbs / Nat.gcd p.natAbs d.natAbs=(Rat.divInt p d).den:=by
 refine⟨?_,(zlD p d hd).symm⟩
 have h1:=zlE p d hd
 have h2:=zju p d hd
 rw [<-h1]
 generalize (Rat.divInt p d).num=z at*
 unfold sgI
 by_cases hp:p<0
 ·by_cases hq:d<0
  ·rw [decide_eq_true hp,decide_eq_true hq] at hs;subst hs;simp;omega
  ·rw [decide_eq_true hp,decide_eq_false hq] at hs;subst hs;simp;omega
 ·by_cases hq:d<0
  ·rw [decide_eq_false hp,decide_eq_true hq] at hs;subst hs;simp
   by_cases h0:p=0
   ·subst h0;simp at h1;omega
   ·omega
  ·rw [decide_eq_false hp,decide_eq_false hq] at hs;subst hs;simp;omega
theorem ref8_new (p:Int)(d:Int)(baa:Bool)(Baa:oA9)(maa daa:Nat)(bab:Bool)(Bab:oA9)(mab dab:Nat)(Kp:Nat)(Kd:Nat)(w:World)(zaa:Sz Kp p.natAbs)(haa:zbQ w p baa Baa maa daa)(zab:Sz Kd d.natAbs)(hab:zbQ w d bab Bab mab dab)(qaa:Kp<=16777216)(qab:Kd<=16777216)(h0:d≠0):
  Calls Tryz.prog 114 #[.agg #[.bool baa,.slice Baa maa daa],.agg #[.bool bab,.slice Bab mab dab]] w (zdP w (Rat.divInt p d)):=by
 have HG0:Hid (Nat.gcd p.natAbs d.natAbs≠0):=Nat.gcd_ne_zero_right (by omega)
 have H0:=lh9 h0
 have HCASE:Hid ((p<0/\d<0)\/(p<0/\¬ d<0)\/(¬ p<0/\d<0)\/(¬ p<0/\¬ d<0)):=by show _\/_;omega
 clear h0
 have HZaa:=lh9 zaa
 have HZab:=lh9 zab
 have HNaa:=lh9 (λw' (b:Below w.heap.size w w')=>haa.below b)
 have HNaaq:=lh9 (λw' (b:Below w.heap.size w w')=>(HNaa.out w' b).2)
 have HZaaq:Hid (Sz Kp p.natAbs):=HZaa.out
 have HNab:=lh9 (λw' (b:Below w.heap.size w w')=>hab.below b)
 have HNabq:=lh9 (λw' (b:Below w.heap.size w w')=>(HNab.out w' b).2)
 have HZabq:Hid (Sz Kd d.natAbs):=HZab.out
 clear haa zaa hab zab
 go_enter Tryz.func114,Tryz.ntmps114
 have hB:=Below.refl w.heap.size w
 obtain⟨bx1,bx2,bx3,bx4,bz⟩:=zbq w 92 92 94 #[.bool baa,.slice Baa maa daa] #[.bool bab,.slice Bab mab dab] #[.bool false,.slice none 0 0,.slice none 0 0]
 have hB:=zac hB bx1
 obtain⟨g1,e1⟩:=bx2.c2
 obtain⟨g2,e2⟩:=bx3.c2
 have k3:=bx4
 clear bx1 bx2 bx3 bx4 bz
 go_wp2_with fail
 generalize ((w.alloc (.cells #[.bool baa,.slice Baa maa daa] 92)).alloc (.cells #[.bool bab,.slice Bab mab dab] 92)).alloc (.cells #[.bool false,.slice none 0 0,.slice none 0 0] 94)=W1 at*
 have HZ4:Hid (Sz (Kp+Kd) (Nat.gcd p.natAbs d.natAbs)):=Sz.gcd HZaaq.out HZabq.out
 (with_reducible refine(zkD (p.natAbs) (d.natAbs) Baa Bab maa mab daa dab _ (HNaaq.out _ hB) (HNabq.out _ hB) (szh HZaaq (HNaaq.out _ hB)) (szh HZabq (HNabq.out _ hB))).mono ?_)
 rintro e wc2 ⟨C4,r4,f4,rfl,hw4,hb⟩
 have hB:=zac hB hb
 have g1:=zad hb g1
 have e1:=zad hb e1
 have g2:=zad hb g2
 have e2:=zad hb e2
 have k3:=zae hb k3
 have HN4:=lh9 hw4
 clear hb hw4
 go_wp2_with fail
 have HZ5:Hid (Sz (Kp) (p.natAbs / (Nat.gcd p.natAbs d.natAbs))):=Sz.of_le HZaaq.out (Nat.div_le_self _ _)
 have HZ6:Hid (Sz (Kp) (p.natAbs%(Nat.gcd p.natAbs d.natAbs))):=Sz.of_le HZaaq.out (Nat.mod_le _ _)
 (with_reducible refine(zhk (p.natAbs) (Nat.gcd p.natAbs d.natAbs) Baa C4 maa r4 daa f4 _ (HNaaq.out _ hB) HN4.out (szh HZaaq (HNaaq.out _ hB)) (szh HZ4 HN4.out) HG0.out).mono ?_)
 rintro e wc3 ⟨C5,r5,f5,C6,r6,f6,rfl,hw5,hw6,hb⟩
 have hB:=zac hB hb
 have g1:=zad hb g1
 have e1:=zad hb e1
 have g2:=zad hb g2
 have e2:=zad hb e2
 have k3:=zae hb k3
 have HN4:=lh9 (HN4.out.below hb)
 have HN5:=lh9 hw5
 clear hb hw5 hw6
 go_wp2_with fail
 have HZ7:Hid (Sz (Kd) (d.natAbs / (Nat.gcd p.natAbs d.natAbs))):=Sz.of_le HZabq.out (Nat.div_le_self _ _)
 have HZ8:Hid (Sz (Kd) (d.natAbs%(Nat.gcd p.natAbs d.natAbs))):=Sz.of_le HZabq.out (Nat.mod_le _ _)
 (with_reducible refine(zhk (d.natAbs) (Nat.gcd p.natAbs d.natAbs) Bab C4 mab r4 dab f4 _ (HNabq.out _ hB) HN4.out (szh HZabq (HNabq.out _ hB)) (szh HZ4 HN4.out) HG0.out).mono ?_)
 rintro e wc4 ⟨C7,r7,f7,C8,r8,f8,rfl,hw7,hw8,hb⟩
 have hB:=zac hB hb
 have g1:=zad hb g1
 have e1:=zad hb e1
 have g2:=zad hb g2
 have e2:=zad hb e2
 have k3:=zae hb k3
 have HN5:=lh9 (HN5.out.below hb)
 have HN7:=lh9 hw7
 clear hb hw7 hw8
 rcases HCASE.out with hq|hq|hq|hq
 ·clear HCASE
  obtain⟨hp,hd⟩:=hq
  have HMP:=lh9 (zex p d H0.out false (by simp [hp,hd]<;>omega))
  have Hsp:=lh9 hp
  have Hsd:=lh9 hd
  clear hp hd
  obtain rfl:baa=true:=((HNaa.out _ hB)).1.trans (decide_eq_true (by have:=Hsp.out;omega))
  obtain rfl:bab=true:=((HNab.out _ hB)).1.trans (decide_eq_true (by have:=Hsd.out;omega))
  go_wp2_with fail
  have HZ9:Hid (Sz (Kp) (sgI false (p.natAbs / (Nat.gcd p.natAbs d.natAbs))).natAbs):=(by rw [zgC];exact HZ5.out)
  (with_reducible refine(zeh false (p.natAbs / (Nat.gcd p.natAbs d.natAbs)) C5 r5 f5 _ HN5.out (szh HZ5 HN5.out)).mono ?_)
  rintro e wc5 ⟨b9,B9,m9,d9,rfl,hw9,hb⟩
  have hB:=zac hB hb
  have g1:=zad hb g1
  have e1:=zad hb e1
  have g2:=zad hb g2
  have e2:=zad hb e2
  have k3:=zae hb k3
  have HN7:=lh9 (HN7.out.below hb)
  have HN9:=lh9 hw9
  clear hb hw9
  obtain⟨sc0,sf0,sc1,sf1,sc2,sf2⟩:=st3 k3 (.bool b9) (.slice B9 m9 d9)
  obtain⟨r0,r1,r2⟩:=(sn3 k3 (.bool b9) (.slice B9 m9 d9) (.slice C7 r7 f7)).c3
  have HG:=lh9 (gr3 (⟨zbQ.to HMP.out.1 HN9.out,zak.to HMP.out.2 HN7.out⟩) k3 hB (by omega))
  go_wp2
  refine bodyPost_ret (v:=.agg #[.bool b9,.slice B9 m9 d9,.slice C7 r7 f7]) (by simp [results,Tryz.results114,go_sem,r0,r1,r2]) rfl ?_
  exact HG.out
 ·clear HCASE
  obtain⟨hp,hd⟩:=hq
  have HMP:=lh9 (zex p d H0.out true (by simp [hp,hd]<;>omega))
  have Hsp:=lh9 hp
  have Hsd:=lh9 hd
  clear hp hd
  obtain rfl:baa=true:=((HNaa.out _ hB)).1.trans (decide_eq_true (by have:=Hsp.out;omega))
  obtain rfl:bab=false:=((HNab.out _ hB)).1.trans (decide_eq_false (by have:=Hsd.out;omega))
  go_wp2_with fail
  have HZ9:Hid (Sz (Kp) (sgI true (p.natAbs / (Nat.gcd p.natAbs d.natAbs))).natAbs):=(by rw [zgC];exact HZ5.out)
  (with_reducible refine(zeh true (p.natAbs / (Nat.gcd p.natAbs d.natAbs)) C5 r5 f5 _ HN5.out (szh HZ5 HN5.out)).mono ?_)
  rintro e wc5 ⟨b9,B9,m9,d9,rfl,hw9,hb⟩
  have hB:=zac hB hb
  have g1:=zad hb g1
  have e1:=zad hb e1
  have g2:=zad hb g2
  have e2:=zad hb e2
  have k3:=zae hb k3
  have HN7:=lh9 (HN7.out.below hb)
  have HN9:=lh9 hw9
  clear hb hw9
  obtain⟨sc0,sf0,sc1,sf1,sc2,sf2⟩:=st3 k3 (.bool b9) (.slice B9 m9 d9)
  obtain⟨r0,r1,r2⟩:=(sn3 k3 (.bool b9) (.slice B9 m9 d9) (.slice C7 r7 f7)).c3
  have HG:=lh9 (gr3 (⟨zbQ.to HMP.out.1 HN9.out,zak.to HMP.out.2 HN7.out⟩) k3 hB (by omega))
  go_wp2
  refine bodyPost_ret (v:=.agg #[.bool b9,.slice B9 m9 d9,.slice C7 r7 f7]) (by simp [results,Tryz.results114,go_sem,r0,r1,r2]) rfl ?_
  exact HG.out
 ·clear HCASE
  obtain⟨hp,hd⟩:=hq
  have HMP:=lh9 (zex p d H0.out true (by simp [hp,hd]<;>omega))
  have Hsp:=lh9 hp
  have Hsd:=lh9 hd
  clear hp hd
  obtain rfl:baa=false:=((HNaa.out _ hB)).1.trans (decide_eq_false (by have:=Hsp.out;omega))
  obtain rfl:bab=true:=((HNab.out _ hB)).1.trans (decide_eq_true (by have:=Hsd.out;omega))
  go_wp2_with fail
  have HZ9:Hid (Sz (Kp) (sgI true (p.natAbs / (Nat.gcd p.natAbs d.natAbs))).natAbs):=(by rw [zgC];exact HZ5.out)
  (with_reducible refine(zeh true (p.natAbs / (Nat.gcd p.natAbs d.natAbs)) C5 r5 f5 _ HN5.out (szh HZ5 HN5.out)).mono ?_)
  rintro e wc5 ⟨b9,B9,m9,d9,rfl,hw9,hb⟩
  have hB:=zac hB hb
  have g1:=zad hb g1
  have e1:=zad hb e1
  have g2:=zad hb g2
  have e2:=zad hb e2
  have k3:=zae hb k3
  have HN7:=lh9 (HN7.out.below hb)
  have HN9:=lh9 hw9
  clear hb hw9
  obtain⟨sc0,sf0,sc1,sf1,sc2,sf2⟩:=st3 k3 (.bool b9) (.slice B9 m9 d9)
  obtain⟨r0,r1,r2⟩:=(sn3 k3 (.bool b9) (.slice B9 m9 d9) (.slice C7 r7 f7)).c3
  have HG:=lh9 (gr3 (⟨zbQ.to HMP.out.1 HN9.out,zak.to HMP.out.2 HN7.out⟩) k3 hB (by omega))
  go_wp2
  refine bodyPost_ret (v:=.agg #[.bool b9,.slice B9 m9 d9,.slice C7 r7 f7]) (by simp [results,Tryz.results114,go_sem,r0,r1,r2]) rfl ?_
  exact HG.out
 ·clear HCASE
  obtain⟨hp,hd⟩:=hq
  have HMP:=lh9 (zex p d H0.out false (by simp [hp,hd]<;>omega))
  have Hsp:=lh9 hp
  have Hsd:=lh9 hd
  clear hp hd
  obtain rfl:baa=false:=((HNaa.out _ hB)).1.trans (decide_eq_false (by have:=Hsp.out;omega))
  obtain rfl:bab=false:=((HNab.out _ hB)).1.trans (decide_eq_false (by have:=Hsd.out;omega))
  go_wp2_with fail
  have HZ9:Hid (Sz (Kp) (sgI false (p.natAbs / (Nat.gcd p.natAbs d.natAbs))).natAbs):=(by rw [zgC];exact HZ5.out)
  (with_reducible refine(zeh false (p.natAbs / (Nat.gcd p.natAbs d.natAbs)) C5 r5 f5 _ HN5.out (szh HZ5 HN5.out)).mono ?_)
  rintro e wc5 ⟨b9,B9,m9,d9,rfl,hw9,hb⟩
  have hB:=zac hB hb
  have g1:=zad hb g1
  have e1:=zad hb e1
  have g2:=zad hb g2
  have e2:=zad hb e2
  have k3:=zae hb k3
  have HN7:=lh9 (HN7.out.below hb)
  have HN9:=lh9 hw9
  clear hb hw9
  obtain⟨sc0,sf0,sc1,sf1,sc2,sf2⟩:=st3 k3 (.bool b9) (.slice B9 m9 d9)
  obtain⟨r0,r1,r2⟩:=(sn3 k3 (.bool b9) (.slice B9 m9 d9) (.slice C7 r7 f7)).c3
  have HG:=lh9 (gr3 (⟨zbQ.to HMP.out.1 HN9.out,zak.to HMP.out.2 HN7.out⟩) k3 hB (by omega))
  go_wp2
  refine bodyPost_ret (v:=.agg #[.bool b9,.slice B9 m9 d9,.slice C7 r7 f7]) (by simp [results,Tryz.results114,go_sem,r0,r1,r2]) rfl ?_
  exact HG.out
