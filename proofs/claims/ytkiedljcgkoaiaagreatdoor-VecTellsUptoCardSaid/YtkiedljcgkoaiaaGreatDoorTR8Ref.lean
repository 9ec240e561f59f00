/- What this claim leans on. -/
import Derived.Test.YtkiedljcgkoaiaaGreatDoorTW7LikeQ
namespace Go.Proofs.YtkiedljcgkoaiaaGreatDoor
open Go Go.RowKit
set_option maxHeartbeats 16000000
set_option maxRecDepth 100000
set_option linter.unusedVariables false
set_option linter.unusedSimpArgs false
def zel (w : World) (r : Rat) (b : Bool) (A : oA9) (n c : Nat) (E : oA9) (k f : Nat) : Prop:=zaE w r.num b A n c ∧ zai w r.den E k f
theorem zel.below {w w' : World} {r : Rat} {b : Bool} {A : oA9} {n c : Nat} {E : oA9} {k f : Nat} (h : zel w r b A n c E k f) (hb : Below w.heap.size w w') : zel w' r b A n c E k f:=⟨h.1.below hb,h.2.below hb⟩
theorem zel.to {w : World} {r s : Rat} {b : Bool} {A : oA9} {n c : Nat} {E : oA9} {k f : Nat} (e : r = s) (h : zel w r b A n c E k f) : zel w s b A n c E k f:=e ▸ h
def zdf (w : World) (r : Rat) (e : Ending) (w' : World) : Prop:=∃ (b : Bool) (A : oA9) (n c : Nat) (E : oA9) (k f : Nat),e = .returned (.agg #[.bool b,.slice A n c,.slice E k f]) ∧ zel w' r b A n c E k f ∧ Below w.heap.size w w'
theorem znC {w w' : World} {r : Rat} {b : Bool} {A : oA9} {n c : Nat} {E : oA9} {k f : Nat} {g : Nat} {t : TypeId} {cs : Array Value} (h : zel w r b A n c E k f) (hk : Blk w g t cs) (hcs : NoU cs) (ho : zdx g w w') : zel w' r b A n c E k f:=⟨zdm h.1 hk hcs ho,zio h.2 hk hcs ho⟩
theorem gz2 {w W : World} {z : Int} {g : Nat} {t : TypeId} {b : Bool} {A : oA9} {n c : Nat} {p : Bool} {q : oA9} {r s : Nat} (h : zaE W z b A n c) (k : Blk W g t #[.bool p,.slice q r s]) (hB : Below w.heap.size w W) (hg : w.heap.size ≤ g) : zaJ w z (.returned (.agg #[.bool b,.slice A n c])) ((W.setCell ⟨g,0,none⟩ (.bool b)).setCell ⟨g,1,none⟩ (.slice A n c)) :=
 ⟨_,_,_,_,rfl,zdm h k (NoU.s2 _ _ _ _) (zgf _ _ _ _),bl2 _ _ hg hB⟩
theorem gr3 {w W : World} {r : Rat} {g : Nat} {t : TypeId} {b : Bool} {A E : oA9} {n c k f : Nat} {p : Bool} {q q2 : oA9} {r1 s r2 s2 : Nat} (h : zel W r b A n c E k f) (kd : Blk W g t #[.bool p,.slice q r1 s,.slice q2 r2 s2]) (hB : Below w.heap.size w W) (hg : w.heap.size ≤ g) : zdf w r (.returned (.agg #[.bool b,.slice A n c,.slice E k f])) (((W.setCell ⟨g,0,none⟩ (.bool b)).setCell ⟨g,1,none⟩ (.slice A n c)).setCell ⟨g,2,none⟩ (.slice E k f)) :=
 ⟨_,_,_,_,_,_,_,rfl,znC h kd (NoU.s3 _ _ _ _ _ _ _) (off3 _ _ _ _ _),bl3 _ _ _ hg hB⟩
theorem zai.to {w : World} {x y : Nat} {A : oA9} {n c : Nat} (e : x = y) (h : zai w x A n c) : zai w y A n c:=e ▸ h
theorem zdW (p d : Int) (hd : d ≠ 0) (s : Bool) (hs : s = (decide (p < 0) != decide (d < 0))) : sgI s (p.natAbs / Nat.gcd p.natAbs d.natAbs) = (Rat.divInt p d).num ∧ d.natAbs / Nat.gcd p.natAbs d.natAbs = (Rat.divInt p d).den:=by
 refine ⟨?_,(zkf p d hd).symm⟩
 have h1:=zkg p d hd
 have h2:=ziu p d hd
 rw [← h1]
 generalize (Rat.divInt p d).num = z at *
 unfold sgI
 by_cases hp : p < 0
 ·by_cases hq : d < 0
  ·rw [decide_eq_true hp,decide_eq_true hq] at hs; subst hs; simp; omega
  ·rw [decide_eq_true hp,decide_eq_false hq] at hs; subst hs; simp; omega
 ·by_cases hq : d < 0
  ·rw [decide_eq_false hp,decide_eq_true hq] at hs; subst hs; simp
   by_cases h0 : p = 0
   ·subst h0; simp at h1; omega
   ·omega
  ·rw [decide_eq_false hp,decide_eq_false hq] at hs; subst hs; simp; omega
theorem zhH (x : Nat) (Cx : oA9) (rx fx : Nat) (w : World) (h : zai w x Cx rx fx) (hn : rx ≤ 1099511627776) :
  Calls Tryz.prog 93 #[.slice Cx rx fx] w (zaJ w (x : Int)):=by
 have HNx:=lh9 h
 clear h
 go_enter Tryz.func93,Tryz.ntmps93
 have hB:=Below.refl w.heap.size w
 obtain ⟨bx1,bx2,bz⟩:=zaR w 34 #[.bool false,.slice none 0 0]
 have hB:=zac hB bx1
 have HNx:=lh9 (HNx.out.below bx1)
 have k1:=bx2
 clear bx1 bx2 bz
 go_wp2_with fail
 generalize w.alloc (.cells #[.bool false,.slice none 0 0] 34) = W1 at *
 (with_reducible refine (zaZ false x Cx rx fx _ HNx.out hn).mono ?_)
 rintro e wc2 ⟨b2,B2,m2,d2,rfl,hw2,hb⟩
 have hB:=zac hB hb
 have HNx:=lh9 (HNx.out.below hb)
 have k1:=zae hb k1
 have HN2:=lh9 hw2
 clear hb hw2
 obtain ⟨sc0,sf0,sc1,sf1⟩:=st2 k1 (.bool b2)
 obtain ⟨r0,r1⟩:=(sn2 k1 (.bool b2) (.slice B2 m2 d2)).c2
 have HG:=lh9 (gz2 (zaE.to (by unfold sgI; rfl) HN2.out) k1 hB (by omega))
 go_wp2
 refine bodyPost_ret (v:=.agg #[.bool b2,.slice B2 m2 d2]) (by simp [results,Tryz.results93,go_sem,r0,r1]) rfl ?_
 exact HG.out
theorem ref8_new (p : Int) (d : Int) (baa : Bool) (Baa : oA9) (maa daa : Nat) (bab : Bool) (Bab : oA9) (mab dab : Nat) (Kp : Nat) (Kd : Nat) (w : World) (zaa : Sz Kp p.natAbs) (haa : zaE w p baa Baa maa daa) (zab : Sz Kd d.natAbs) (hab : zaE w d bab Bab mab dab) (qaa : Kp ≤ 16777216) (qab : Kd ≤ 16777216) (h0 : d ≠ 0) :
  Calls Tryz.prog 43 #[.agg #[.bool baa,.slice Baa maa daa],.agg #[.bool bab,.slice Bab mab dab]] w (zdf w (Rat.divInt p d)):=by
 have HG0 : Hid (Nat.gcd p.natAbs d.natAbs ≠ 0):=Nat.gcd_ne_zero_right (by omega)
 have H0:=lh9 h0
 have HCASE : Hid ((p < 0 ∧ d < 0) ∨ (p < 0 ∧ ¬ d < 0) ∨ (¬ p < 0 ∧ d < 0) ∨ (¬ p < 0 ∧ ¬ d < 0)):=by show _ ∨ _; omega
 clear h0
 have HZaa:=lh9 zaa
 have HZab:=lh9 zab
 have HNaa:=lh9 (fun w' (b : Below w.heap.size w w') => haa.below b)
 have HNaaq:=lh9 (fun w' (b : Below w.heap.size w w') => (HNaa.out w' b).2)
 have HZaaq : Hid (Sz Kp p.natAbs):=HZaa.out
 have HNab:=lh9 (fun w' (b : Below w.heap.size w w') => hab.below b)
 have HNabq:=lh9 (fun w' (b : Below w.heap.size w w') => (HNab.out w' b).2)
 have HZabq : Hid (Sz Kd d.natAbs):=HZab.out
 clear haa zaa hab zab
 go_enter Tryz.func43,Tryz.ntmps43
 have hB:=Below.refl w.heap.size w
 obtain ⟨bx1,bx2,bx3,bx4,bz⟩:=zbt w 34 34 36 #[.bool baa,.slice Baa maa daa] #[.bool bab,.slice Bab mab dab] #[.bool false,.slice none 0 0,.slice none 0 0]
 have hB:=zac hB bx1
 obtain ⟨g1,e1⟩:=bx2.c2
 obtain ⟨g2,e2⟩:=bx3.c2
 have k3:=bx4
 clear bx1 bx2 bx3 bx4 bz
 go_wp2_with fail
 generalize ((w.alloc (.cells #[.bool baa,.slice Baa maa daa] 34)).alloc (.cells #[.bool bab,.slice Bab mab dab] 34)).alloc (.cells #[.bool false,.slice none 0 0,.slice none 0 0] 36) = W1 at *
 have HZ4 : Hid (Sz (Kp + Kd) (Nat.gcd p.natAbs d.natAbs)):=Sz.gcd HZaaq.out HZabq.out
 (with_reducible refine (zjn (p.natAbs) (d.natAbs) Baa Bab maa mab daa dab _ (HNaaq.out _ hB) (HNabq.out _ hB) (szh HZaaq (HNaaq.out _ hB)) (szh HZabq (HNabq.out _ hB))).mono ?_)
 rintro e wc2 ⟨C4,r4,f4,rfl,hw4,hb⟩
 have hB:=zac hB hb
 have g1:=zad hb g1
 have e1:=zad hb e1
 have g2:=zad hb g2
 have e2:=zad hb e2
 have k3:=zae hb k3
 have HN4:=lh9 hw4
 clear hb hw4
 go_wp2_with fail
 have HZ5 : Hid (Sz (Kp) (p.natAbs / (Nat.gcd p.natAbs d.natAbs))):=Sz.of_le HZaaq.out (Nat.div_le_self _ _)
 have HZ6 : Hid (Sz (Kp) (p.natAbs % (Nat.gcd p.natAbs d.natAbs))):=Sz.of_le HZaaq.out (Nat.mod_le _ _)
 (with_reducible refine (zgD (p.natAbs) (Nat.gcd p.natAbs d.natAbs) Baa C4 maa r4 daa f4 _ (HNaaq.out _ hB) HN4.out (szh HZaaq (HNaaq.out _ hB)) (szh HZ4 HN4.out) HG0.out).mono ?_)
 rintro e wc3 ⟨C5,r5,f5,C6,r6,f6,rfl,hw5,hw6,hb⟩
 have hB:=zac hB hb
 have g1:=zad hb g1
 have e1:=zad hb e1
 have g2:=zad hb g2
 have e2:=zad hb e2
 have k3:=zae hb k3
 have HN4:=lh9 (HN4.out.below hb)
 have HN5:=lh9 hw5
 have HN6:=lh9 hw6
 clear hb hw5 hw6
 go_wp2_with fail
 have HZ7 : Hid (Sz (Kd) (d.natAbs / (Nat.gcd p.natAbs d.natAbs))):=Sz.of_le HZabq.out (Nat.div_le_self _ _)
 have HZ8 : Hid (Sz (Kd) (d.natAbs % (Nat.gcd p.natAbs d.natAbs))):=Sz.of_le HZabq.out (Nat.mod_le _ _)
 (with_reducible refine (zgD (d.natAbs) (Nat.gcd p.natAbs d.natAbs) Bab C4 mab r4 dab f4 _ (HNabq.out _ hB) HN4.out (szh HZabq (HNabq.out _ hB)) (szh HZ4 HN4.out) HG0.out).mono ?_)
 rintro e wc4 ⟨C7,r7,f7,C8,r8,f8,rfl,hw7,hw8,hb⟩
 have hB:=zac hB hb
 have g1:=zad hb g1
 have e1:=zad hb e1
 have g2:=zad hb g2
 have e2:=zad hb e2
 have k3:=zae hb k3
 have HN4:=lh9 (HN4.out.below hb)
 have HN5:=lh9 (HN5.out.below hb)
 have HN6:=lh9 (HN6.out.below hb)
 have HN7:=lh9 hw7
 have HN8:=lh9 hw8
 clear hb hw7 hw8
 rcases HCASE.out with hq | hq | hq | hq
 ·clear HCASE
  obtain ⟨hp,hd⟩:=hq
  have HMP:=lh9 (zdW p d H0.out false (by simp [hp,hd] <;> omega))
  have Hsp:=lh9 hp
  have Hsd:=lh9 hd
  clear hp hd
  obtain rfl : baa = true:=((HNaa.out _ hB)).1.trans (decide_eq_true (by have:=Hsp.out; omega))
  obtain rfl : bab = true:=((HNab.out _ hB)).1.trans (decide_eq_true (by have:=Hsd.out; omega))
  go_wp2_with fail
  have HZ9 : Hid (Sz (Kp) (sgI false (p.natAbs / (Nat.gcd p.natAbs d.natAbs))).natAbs):=(by rw [zfT]; exact HZ5.out)
  (with_reducible refine (zaZ false (p.natAbs / (Nat.gcd p.natAbs d.natAbs)) C5 r5 f5 _ HN5.out (szh HZ5 HN5.out)).mono ?_)
  rintro e wc5 ⟨b9,B9,m9,d9,rfl,hw9,hb⟩
  have hB:=zac hB hb
  have g1:=zad hb g1
  have e1:=zad hb e1
  have g2:=zad hb g2
  have e2:=zad hb e2
  have k3:=zae hb k3
  have HN4:=lh9 (HN4.out.below hb)
  have HN5:=lh9 (HN5.out.below hb)
  have HN6:=lh9 (HN6.out.below hb)
  have HN7:=lh9 (HN7.out.below hb)
  have HN8:=lh9 (HN8.out.below hb)
  have HN9:=lh9 hw9
  clear hb hw9
  obtain ⟨sc0,sf0,sc1,sf1,sc2,sf2⟩:=st3 k3 (.bool b9) (.slice B9 m9 d9)
  obtain ⟨r0,r1,r2⟩:=(sn3 k3 (.bool b9) (.slice B9 m9 d9) (.slice C7 r7 f7)).c3
  have HG:=lh9 (gr3 (⟨zaE.to HMP.out.1 HN9.out,zai.to HMP.out.2 HN7.out⟩) k3 hB (by omega))
  go_wp2
  refine bodyPost_ret (v:=.agg #[.bool b9,.slice B9 m9 d9,.slice C7 r7 f7]) (by simp [results,Tryz.results43,go_sem,r0,r1,r2]) rfl ?_
  exact HG.out
 ·clear HCASE
  obtain ⟨hp,hd⟩:=hq
  have HMP:=lh9 (zdW p d H0.out true (by simp [hp,hd] <;> omega))
  have Hsp:=lh9 hp
  have Hsd:=lh9 hd
  clear hp hd
  obtain rfl : baa = true:=((HNaa.out _ hB)).1.trans (decide_eq_true (by have:=Hsp.out; omega))
  obtain rfl : bab = false:=((HNab.out _ hB)).1.trans (decide_eq_false (by have:=Hsd.out; omega))
  go_wp2_with fail
  have HZ9 : Hid (Sz (Kp) (sgI true (p.natAbs / (Nat.gcd p.natAbs d.natAbs))).natAbs):=(by rw [zfT]; exact HZ5.out)
  (with_reducible refine (zaZ true (p.natAbs / (Nat.gcd p.natAbs d.natAbs)) C5 r5 f5 _ HN5.out (szh HZ5 HN5.out)).mono ?_)
  rintro e wc5 ⟨b9,B9,m9,d9,rfl,hw9,hb⟩
  have hB:=zac hB hb
  have g1:=zad hb g1
  have e1:=zad hb e1
  have g2:=zad hb g2
  have e2:=zad hb e2
  have k3:=zae hb k3
  have HN4:=lh9 (HN4.out.below hb)
  have HN5:=lh9 (HN5.out.below hb)
  have HN6:=lh9 (HN6.out.below hb)
  have HN7:=lh9 (HN7.out.below hb)
  have HN8:=lh9 (HN8.out.below hb)
  have HN9:=lh9 hw9
  clear hb hw9
  obtain ⟨sc0,sf0,sc1,sf1,sc2,sf2⟩:=st3 k3 (.bool b9) (.slice B9 m9 d9)
  obtain ⟨r0,r1,r2⟩:=(sn3 k3 (.bool b9) (.slice B9 m9 d9) (.slice C7 r7 f7)).c3
  have HG:=lh9 (gr3 (⟨zaE.to HMP.out.1 HN9.out,zai.to HMP.out.2 HN7.out⟩) k3 hB (by omega))
  go_wp2
  refine bodyPost_ret (v:=.agg #[.bool b9,.slice B9 m9 d9,.slice C7 r7 f7]) (by simp [results,Tryz.results43,go_sem,r0,r1,r2]) rfl ?_
  exact HG.out
 ·clear HCASE
  obtain ⟨hp,hd⟩:=hq
  have HMP:=lh9 (zdW p d H0.out true (by simp [hp,hd] <;> omega))
  have Hsp:=lh9 hp
  have Hsd:=lh9 hd
  clear hp hd
  obtain rfl : baa = false:=((HNaa.out _ hB)).1.trans (decide_eq_false (by have:=Hsp.out; omega))
  obtain rfl : bab = true:=((HNab.out _ hB)).1.trans (decide_eq_true (by have:=Hsd.out; omega))
  go_wp2_with fail
  have HZ9 : Hid (Sz (Kp) (sgI true (p.natAbs / (Nat.gcd p.natAbs d.natAbs))).natAbs):=(by rw [zfT]; exact HZ5.out)
  (with_reducible refine (zaZ true (p.natAbs / (Nat.gcd p.natAbs d.natAbs)) C5 r5 f5 _ HN5.out (szh HZ5 HN5.out)).mono ?_)
  rintro e wc5 ⟨b9,B9,m9,d9,rfl,hw9,hb⟩
  have hB:=zac hB hb
  have g1:=zad hb g1
  have e1:=zad hb e1
  have g2:=zad hb g2
  have e2:=zad hb e2
  have k3:=zae hb k3
  have HN4:=lh9 (HN4.out.below hb)
  have HN5:=lh9 (HN5.out.below hb)
  have HN6:=lh9 (HN6.out.below hb)
  have HN7:=lh9 (HN7.out.below hb)
  have HN8:=lh9 (HN8.out.below hb)
  have HN9:=lh9 hw9
  clear hb hw9
  obtain ⟨sc0,sf0,sc1,sf1,sc2,sf2⟩:=st3 k3 (.bool b9) (.slice B9 m9 d9)
  obtain ⟨r0,r1,r2⟩:=(sn3 k3 (.bool b9) (.slice B9 m9 d9) (.slice C7 r7 f7)).c3
  have HG:=lh9 (gr3 (⟨zaE.to HMP.out.1 HN9.out,zai.to HMP.out.2 HN7.out⟩) k3 hB (by omega))
  go_wp2
  refine bodyPost_ret (v:=.agg #[.bool b9,.slice B9 m9 d9,.slice C7 r7 f7]) (by simp [results,Tryz.results43,go_sem,r0,r1,r2]) rfl ?_
  exact HG.out
 ·clear HCASE
  obtain ⟨hp,hd⟩:=hq
  have HMP:=lh9 (zdW p d H0.out false (by simp [hp,hd] <;> omega))
  have Hsp:=lh9 hp
  have Hsd:=lh9 hd
  clear hp hd
  obtain rfl : baa = false:=((HNaa.out _ hB)).1.trans (decide_eq_false (by have:=Hsp.out; omega))
  obtain rfl : bab = false:=((HNab.out _ hB)).1.trans (decide_eq_false (by have:=Hsd.out; omega))
  go_wp2_with fail
  have HZ9 : Hid (Sz (Kp) (sgI false (p.natAbs / (Nat.gcd p.natAbs d.natAbs))).natAbs):=(by rw [zfT]; exact HZ5.out)
  (with_reducible refine (zaZ false (p.natAbs / (Nat.gcd p.natAbs d.natAbs)) C5 r5 f5 _ HN5.out (szh HZ5 HN5.out)).mono ?_)
  rintro e wc5 ⟨b9,B9,m9,d9,rfl,hw9,hb⟩
  have hB:=zac hB hb
  have g1:=zad hb g1
  have e1:=zad hb e1
  have g2:=zad hb g2
  have e2:=zad hb e2
  have k3:=zae hb k3
  have HN4:=lh9 (HN4.out.below hb)
  have HN5:=lh9 (HN5.out.below hb)
  have HN6:=lh9 (HN6.out.below hb)
  have HN7:=lh9 (HN7.out.below hb)
  have HN8:=lh9 (HN8.out.below hb)
  have HN9:=lh9 hw9
  clear hb hw9
  obtain ⟨sc0,sf0,sc1,sf1,sc2,sf2⟩:=st3 k3 (.bool b9) (.slice B9 m9 d9)
  obtain ⟨r0,r1,r2⟩:=(sn3 k3 (.bool b9) (.slice B9 m9 d9) (.slice C7 r7 f7)).c3
  have HG:=lh9 (gr3 (⟨zaE.to HMP.out.1 HN9.out,zai.to HMP.out.2 HN7.out⟩) k3 hB (by omega))
  go_wp2
  refine bodyPost_ret (v:=.agg #[.bool b9,.slice B9 m9 d9,.slice C7 r7 f7]) (by simp [results,Tryz.results43,go_sem,r0,r1,r2]) rfl ?_
  exact HG.out
theorem zkC (r : Rat) (s : Rat) (baa : Bool) (Baa : oA9) (maa daa : Nat) (Eaa : oA9) (uaa vaa : Nat) (bab : Bool) (Bab : oA9) (mab dab : Nat) (Eab : oA9) (uab vab : Nat) (Ka : Nat) (Kb : Nat) (w : World) (zaa : SzQ Ka r) (haa : zel w r baa Baa maa daa Eaa uaa vaa) (zab : SzQ Kb s) (hab : zel w s bab Bab mab dab Eab uab vab) (qaa : Ka ≤ 2097152) (qab : Kb ≤ 2097152) :
  Calls Tryz.prog 61 #[.agg #[.bool baa,.slice Baa maa daa,.slice Eaa uaa vaa],.agg #[.bool bab,.slice Bab mab dab,.slice Eab uab vab]] w (zbh w (zem r s)):=by
 have HZaa:=lh9 zaa
 have HZab:=lh9 zab
 have HNaa:=lh9 (fun w' (b : Below w.heap.size w w') => haa.below b)
 have HNaap:=lh9 (fun w' (b : Below w.heap.size w w') => (HNaa.out w' b).1)
 have HZaap : Hid (Sz Ka r.num.natAbs):=HZaa.out.num
 have HNaaq:=lh9 (fun w' (b : Below w.heap.size w w') => (HNaa.out w' b).2)
 have HZaaq : Hid (Sz Ka r.den):=HZaa.out.den
 have HNaar:=lh9 (fun w' (b : Below w.heap.size w w') => (HNaa.out w' b).1.2)
 have HZaar : Hid (Sz Ka r.num.natAbs):=HZaa.out.num
 have HNab:=lh9 (fun w' (b : Below w.heap.size w w') => hab.below b)
 have HNabp:=lh9 (fun w' (b : Below w.heap.size w w') => (HNab.out w' b).1)
 have HZabp : Hid (Sz Kb s.num.natAbs):=HZab.out.num
 have HNabq:=lh9 (fun w' (b : Below w.heap.size w w') => (HNab.out w' b).2)
 have HZabq : Hid (Sz Kb s.den):=HZab.out.den
 have HNabr:=lh9 (fun w' (b : Below w.heap.size w w') => (HNab.out w' b).1.2)
 have HZabr : Hid (Sz Kb s.num.natAbs):=HZab.out.num
 clear haa zaa hab zab
 obtain ⟨v,hv⟩ : ∃ v,zem r s = v:=⟨_,rfl⟩
 have HV : Hid (zdA (r.num * ((s.den : Nat) : Int)) (s.num * ((r.den : Nat) : Int)) = v):=by show _ = _; rw [← hv,zhb]
 rw [hv]
 clear hv
 obtain ⟨KR,hKR1,hKR⟩ : ∃ q,Ka + Kb ≤ q ∧ q ≤ 16777216:=⟨Ka + Kb,Nat.le_refl _,by omega⟩
 go_enter Tryz.func61,Tryz.ntmps61
 have hB:=Below.refl w.heap.size w
 obtain ⟨bx1,bx2,bx3,bz⟩:=zbx w 36 36 #[.bool baa,.slice Baa maa daa,.slice Eaa uaa vaa] #[.bool bab,.slice Bab mab dab,.slice Eab uab vab]
 have hB:=zac hB bx1
 obtain ⟨g1,e1,i1⟩:=bx2.c3
 obtain ⟨g2,e2,i2⟩:=bx3.c3
 clear bx1 bx2 bx3 bz
 go_wp2_with fail
 generalize (w.alloc (.cells #[.bool baa,.slice Baa maa daa,.slice Eaa uaa vaa] 36)).alloc (.cells #[.bool bab,.slice Bab mab dab,.slice Eab uab vab] 36) = W1 at *
 have HZ3 : Hid (Sz (Kb) (((s.den : Nat) : Int)).natAbs):=(by rw [Int.natAbs_natCast]; exact HZabq.out)
 have C0:=lh9 (fun w' (h : Below W1.heap.size W1 w') => zhH (s.den) Eab uab vab w' (HNabq.out _ (zac hB h)) (szh HZabq (HNabq.out _ hB)))
 have HZ4 : Hid (Sz (Ka + Kb) (r.num * (((s.den : Nat) : Int))).natAbs):=SzI.mul HZaap.out HZ3.out
 have C1:=lh9 (fun w' (h : Below W1.heap.size W1 w') b3 B3 m3 d3 (hw3 : zaE w' (((s.den : Nat) : Int)) b3 B3 m3 d3) => zkB (r.num) (((s.den : Nat) : Int)) baa b3 Baa B3 maa m3 daa d3 w' (HNaap.out _ (zac hB h)) hw3 (szr HZaap (HNaap.out _ hB)) (szr HZ3 hw3) )
 have HZ5 : Hid (Sz (Ka) (((r.den : Nat) : Int)).natAbs):=(by rw [Int.natAbs_natCast]; exact HZaaq.out)
 have C2:=lh9 (fun w' (h : Below W1.heap.size W1 w') => zhH (r.den) Eaa uaa vaa w' (HNaaq.out _ (zac hB h)) (szh HZaaq (HNaaq.out _ hB)))
 have HZ6 : Hid (Sz (Kb + Ka) (s.num * (((r.den : Nat) : Int))).natAbs):=SzI.mul HZabp.out HZ5.out
 have C3:=lh9 (fun w' (h : Below W1.heap.size W1 w') b5 B5 m5 d5 (hw5 : zaE w' (((r.den : Nat) : Int)) b5 B5 m5 d5) => zkB (s.num) (((r.den : Nat) : Int)) bab b5 Bab B5 mab m5 dab d5 w' (HNabp.out _ (zac hB h)) hw5 (szr HZabp (HNabp.out _ hB)) (szr HZ5 hw5) )
 have C4:=lh9 (fun w' (h : Below W1.heap.size W1 w') b4 B4 m4 d4 (hw4 : zaE w' (r.num * (((s.den : Nat) : Int))) b4 B4 m4 d4) b6 B6 m6 d6 (hw6 : zaE w' (s.num * (((r.den : Nat) : Int))) b6 B6 m6 d6) => icmp_of (v:=v) (HV.out) (ref7_cmp (r.num * (((s.den : Nat) : Int))) (s.num * (((r.den : Nat) : Int))) b4 b6 B4 B6 m4 m6 d4 d6 KR hKR w' (HZ4.out.up (by omega)) (HZ6.out.up (by omega)) hw4 hw6))
 have hBw:=(Below.refl W1.heap.size W1).drew
 refine rg (csc g1 (csc e1 (csc i1 (csc g2 (csc e2 (csc i2 csn)))))) (fun hHeld => ?_)
 refine tk 0 ?_
 refine tk 1 ?_
 refine tk 2 ?_
 refine tk 3 ?_
 refine tk 6 ?_
 refine tk 7 ?_
 refine tk 8 ?_
 refine tk 9 ?_
 refine rc 4 (fun K hK => ?_)
 go_simp
 go_at_call 93; (with_reducible refine (C0.out _ hBw).mono ?_); rintro e wa2 ⟨b3,B3,m3,d3,rfl,hw3,hb⟩; have hBw:=zac hBw hb; refine hK.out _ _ (Cs.below hHeld hb) (fun hHeld => ?_); clear hK K hb
 try simp only [sb9]
 refine rc 5 (fun K hK => ?_)
 go_simp
 go_at_call 92; (with_reducible refine (C1.out _ hBw _ _ _ _ hw3).mono ?_); rintro e wa3 ⟨b4,B4,m4,d4,rfl,hw4,hb⟩; have hBw:=zac hBw hb; have hw3:=hw3.below hb; refine hK.out _ _ (Cs.below hHeld hb) (fun hHeld => ?_); clear hK K hb
 try simp only [sb9]
 refine rc 10 (fun K hK => ?_)
 go_simp
 go_at_call 93; (with_reducible refine (C2.out _ hBw).mono ?_); rintro e wa4 ⟨b5,B5,m5,d5,rfl,hw5,hb⟩; have hBw:=zac hBw hb; have hw3:=hw3.below hb; have hw4:=hw4.below hb; refine hK.out _ _ (Cs.below hHeld hb) (fun hHeld => ?_); clear hK K hb
 try simp only [sb9]
 refine rc 11 (fun K hK => ?_)
 go_simp
 go_at_call 92; (with_reducible refine (C3.out _ hBw _ _ _ _ hw5).mono ?_); rintro e wa5 ⟨b6,B6,m6,d6,rfl,hw6,hb⟩; have hBw:=zac hBw hb; have hw3:=hw3.below hb; have hw4:=hw4.below hb; have hw5:=hw5.below hb; refine hK.out _ _ (Cs.below hHeld hb) (fun hHeld => ?_); clear hK K hb
 try simp only [sb9]
 refine rc 12 (fun K hK => ?_)
 go_simp
 go_at_call 95; (with_reducible refine (C4.out _ hBw _ _ _ _ hw4 _ _ _ _ hw6).mono ?_); rintro e wa6 ⟨rfl,hb⟩; have hBw:=zac hBw hb; have hw3:=hw3.below hb; have hw4:=hw4.below hb; have hw5:=hw5.below hb; have hw6:=hw6.below hb; refine hK.out _ _ (Cs.below hHeld hb) (fun hHeld => ?_); clear hK K hb
 try simp only [sb9]
 refine tk 13 ?_
 refine rdn ?_
 have hB:=zac hB hBw
 have g1:=zad hBw g1
 have e1:=zad hBw e1
 have i1:=zad hBw i1
 have g2:=zad hBw g2
 have e2:=zad hBw e2
 have i2:=zad hBw i2
 have HN3:=lh9 hw3
 have HN4:=lh9 hw4
 have HN5:=lh9 hw5
 have HN6:=lh9 hw6
 clear hBw hHeld hw3 hw4 hw5 hw6 C0 C1 C2 C3 C4
 go_wp2
 go_ret
 exact ⟨by first | rfl | simp,hB⟩
end Go.Proofs.YtkiedljcgkoaiaaGreatDoor
