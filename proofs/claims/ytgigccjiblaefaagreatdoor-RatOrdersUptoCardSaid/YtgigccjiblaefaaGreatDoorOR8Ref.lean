/- What this claim leans on. -/
import Derived.Test.YtgigccjiblaefaaGreatDoorOR7Div
import Derived.Test.YtgigccjiblaefaaGreatDoorOW7LikeQ
namespace Go.Proofs.YtgigccjiblaefaaGreatDoor
open Go Go.RowKit
set_option maxHeartbeats 16000000
set_option maxRecDepth 100000
set_option linter.unusedVariables false
set_option linter.unusedSimpArgs false
def zck (w : World) (r : Rat) (b : Bool) (A : oA9) (n c : Nat) (E : oA9) (k f : Nat) : Prop := zaz w r.num b A n c ∧ zal w r.den E k f
theorem zck.below {w w' : World} {r : Rat} {b : Bool} {A : oA9} {n c : Nat} {E : oA9} {k f : Nat} (h : zck w r b A n c E k f) (hb : Below w.heap.size w w') : zck w' r b A n c E k f := ⟨h.1.below hb,h.2.below hb⟩
theorem zck.to {w : World} {r s : Rat} {b : Bool} {A : oA9} {n c : Nat} {E : oA9} {k f : Nat} (e : r = s) (h : zck w r b A n c E k f) : zck w s b A n c E k f := e ▸ h
def zeq (w : World) (r : Rat) (e : Ending) (w' : World) : Prop := ∃ (b : Bool) (A : oA9) (n c : Nat) (E : oA9) (k f : Nat),e = .returned (.agg #[.bool b,.slice A n c,.slice E k f]) ∧ zck w' r b A n c E k f ∧ Below w.heap.size w w'
theorem zba {w w' : World} {r : Rat} {b : Bool} {A : oA9} {n c : Nat} {E : oA9} {k f : Nat} {g : Nat} {t : TypeId} {cs : Array Value} (h : zck w r b A n c E k f) (hk : Blk w g t cs) (hcs : NoU cs) (ho : zdX g w w') : zck w' r b A n c E k f := ⟨zbh h.1 hk hcs ho,zgX h.2 hk hcs ho⟩
theorem gz2 {w W : World} {z : Int} {g : Nat} {t : TypeId} {b : Bool} {A : oA9} {n c : Nat} {p : Bool} {q : oA9} {r s : Nat} (h : zaz W z b A n c) (k : Blk W g t #[.bool p,.slice q r s]) (hB : Below w.heap.size w W) (hg : w.heap.size ≤ g) : zaM w z (.returned (.agg #[.bool b,.slice A n c])) ((W.setCell ⟨g,0,none⟩ (.bool b)).setCell ⟨g,1,none⟩ (.slice A n c)) :=
 ⟨_,_,_,_,rfl,zbh h k (NoU.s2 _ _ _ _) (zcn _ _ _ _),bl2 _ _ hg hB⟩
theorem gr3 {w W : World} {r : Rat} {g : Nat} {t : TypeId} {b : Bool} {A E : oA9} {n c k f : Nat} {p : Bool} {q q2 : oA9} {r1 s r2 s2 : Nat} (h : zck W r b A n c E k f) (kd : Blk W g t #[.bool p,.slice q r1 s,.slice q2 r2 s2]) (hB : Below w.heap.size w W) (hg : w.heap.size ≤ g) : zeq w r (.returned (.agg #[.bool b,.slice A n c,.slice E k f])) (((W.setCell ⟨g,0,none⟩ (.bool b)).setCell ⟨g,1,none⟩ (.slice A n c)).setCell ⟨g,2,none⟩ (.slice E k f)) :=
 ⟨_,_,_,_,_,_,_,rfl,zba h kd (NoU.s3 _ _ _ _ _ _ _) (zbo _ _ _ _ _),bl3 _ _ _ hg hB⟩
theorem zal.to {w : World} {x y : Nat} {A : oA9} {n c : Nat} (e : x = y) (h : zal w x A n c) : zal w y A n c := e ▸ h
theorem zdJ (p d : Int) (hd : d ≠ 0) (s : Bool) (hs : s = (decide (p < 0) != decide (d < 0))) : sgI s (p.natAbs / Nat.gcd p.natAbs d.natAbs) = (Rat.divInt p d).num ∧ d.natAbs / Nat.gcd p.natAbs d.natAbs = (Rat.divInt p d).den := by
 refine ⟨?_,(zir p d hd).symm⟩
 have h1 := ziS p d hd
 have h2 := zhi p d hd
 rw [← h1]
 generalize (Rat.divInt p d).num = z at *
 unfold sgI
 by_cases hp : p < 0
 ·by_cases hq : d < 0
  ·rw [decide_eq_true hp,decide_eq_true hq] at hs; subst hs; simp; omega
  ·rw [decide_eq_true hp,decide_eq_false hq] at hs; subst hs; simp; omega
 ·by_cases hq : d < 0
  ·rw [decide_eq_false hp,decide_eq_true hq] at hs; subst hs; simp
   by_cases h0 : p = 0
   ·subst h0; simp at h1; omega
   ·omega
  ·rw [decide_eq_false hp,decide_eq_false hq] at hs; subst hs; simp; omega
theorem zeC (x : Nat) (Cx : oA9) (rx fx : Nat) (w : World) (h : zal w x Cx rx fx) (hn : rx ≤ 1099511627776) :
  Calls Tryz.prog 75 #[.slice Cx rx fx] w (zaM w (x : Int)) := by
 have HNx := lh9 h
 clear h
 go_enter Tryz.func75,Tryz.ntmps75
 have hB := Below.refl w.heap.size w
 obtain ⟨bx1,bx2,bz⟩ := zbm w 38 #[.bool false,.slice none 0 0]
 have hB := zad hB bx1
 have HNx := lh9 (HNx.out.below bx1)
 have k1 := bx2
 clear bx1 bx2 bz
 go_wp2_with fail
 generalize w.alloc (.cells #[.bool false,.slice none 0 0] 38) = W1 at *
 (with_reducible refine (zaI false x Cx rx fx _ HNx.out hn).mono ?_)
 rintro e wc2 ⟨b2,B2,m2,d2,rfl,hw2,hb⟩
 have hB := zad hB hb
 have HNx := lh9 (HNx.out.below hb)
 have k1 := zae hb k1
 have HN2 := lh9 hw2
 clear hb hw2
 obtain ⟨sc0,sf0,sc1,sf1⟩ := st2 k1 (.bool b2)
 obtain ⟨r0,r1⟩ := (sn2 k1 (.bool b2) (.slice B2 m2 d2)).c2
 have HG := lh9 (gz2 (zaz.to (by unfold sgI; rfl) HN2.out) k1 hB (by omega))
 go_wp2
 refine bodyPost_ret (v := .agg #[.bool b2,.slice B2 m2 d2]) (by simp [results,Tryz.results75,go_sem,r0,r1]) rfl ?_
 exact HG.out
theorem zje (p : Int) (d : Int) (baa : Bool) (Baa : oA9) (maa daa : Nat) (bab : Bool) (Bab : oA9) (mab dab : Nat) (Kp : Nat) (Kd : Nat) (w : World) (zaa : Sz Kp p.natAbs) (haa : zaz w p baa Baa maa daa) (zab : Sz Kd d.natAbs) (hab : zaz w d bab Bab mab dab) (qaa : Kp ≤ 16777216) (qab : Kd ≤ 16777216) (h0 : d ≠ 0) :
  Calls Tryz.prog 15 #[.agg #[.bool baa,.slice Baa maa daa],.agg #[.bool bab,.slice Bab mab dab]] w (zeq w (Rat.divInt p d)) := by
 have HG0 : Hid (Nat.gcd p.natAbs d.natAbs ≠ 0) := Nat.gcd_ne_zero_right (by omega)
 have H0 := lh9 h0
 have HCASE : Hid ((p < 0 ∧ d < 0) ∨ (p < 0 ∧ ¬ d < 0) ∨ (¬ p < 0 ∧ d < 0) ∨ (¬ p < 0 ∧ ¬ d < 0)) := by show _ ∨ _; omega
 clear h0
 have HZaa := lh9 zaa
 have HZab := lh9 zab
 have HNaa := lh9 (fun w' (b : Below w.heap.size w w') => haa.below b)
 have HNaaq := lh9 (fun w' (b : Below w.heap.size w w') => (HNaa.out w' b).2)
 have HZaaq : Hid (Sz Kp p.natAbs) := HZaa.out
 have HNab := lh9 (fun w' (b : Below w.heap.size w w') => hab.below b)
 have HNabq := lh9 (fun w' (b : Below w.heap.size w w') => (HNab.out w' b).2)
 have HZabq : Hid (Sz Kd d.natAbs) := HZab.out
 clear haa zaa hab zab
 go_enter Tryz.func15,Tryz.ntmps15
 have hB := Below.refl w.heap.size w
 obtain ⟨bx1,bx2,bx3,bx4,bz⟩ := zbl w 38 38 42 #[.bool baa,.slice Baa maa daa] #[.bool bab,.slice Bab mab dab] #[.bool false,.slice none 0 0,.slice none 0 0]
 have hB := zad hB bx1
 obtain ⟨g1,e1⟩ := bx2.c2
 obtain ⟨g2,e2⟩ := bx3.c2
 have k3 := bx4
 clear bx1 bx2 bx3 bx4 bz
 go_wp2_with fail
 generalize ((w.alloc (.cells #[.bool baa,.slice Baa maa daa] 38)).alloc (.cells #[.bool bab,.slice Bab mab dab] 38)).alloc (.cells #[.bool false,.slice none 0 0,.slice none 0 0] 42) = W1 at *
 have HZ4 : Hid (Sz (Kp + Kd) (Nat.gcd p.natAbs d.natAbs)) := Sz.gcd HZaaq.out HZabq.out
 (with_reducible refine (zhF (p.natAbs) (d.natAbs) Baa Bab maa mab daa dab _ (HNaaq.out _ hB) (HNabq.out _ hB) (szh HZaaq (HNaaq.out _ hB)) (szh HZabq (HNabq.out _ hB))).mono ?_)
 rintro e wc2 ⟨C4,r4,f4,rfl,hw4,hb⟩
 have hB := zad hB hb
 have g1 := zac hb g1
 have e1 := zac hb e1
 have g2 := zac hb g2
 have e2 := zac hb e2
 have k3 := zae hb k3
 have HN4 := lh9 hw4
 clear hb hw4
 go_wp2_with fail
 have HZ5 : Hid (Sz (Kp) (p.natAbs / (Nat.gcd p.natAbs d.natAbs))) := Sz.of_le HZaaq.out (Nat.div_le_self _ _)
 have HZ6 : Hid (Sz (Kp) (p.natAbs % (Nat.gcd p.natAbs d.natAbs))) := Sz.of_le HZaaq.out (Nat.mod_le _ _)
 (with_reducible refine (zdT (p.natAbs) (Nat.gcd p.natAbs d.natAbs) Baa C4 maa r4 daa f4 _ (HNaaq.out _ hB) HN4.out (szh HZaaq (HNaaq.out _ hB)) (szh HZ4 HN4.out) HG0.out).mono ?_)
 rintro e wc3 ⟨C5,r5,f5,C6,r6,f6,rfl,hw5,hw6,hb⟩
 have hB := zad hB hb
 have g1 := zac hb g1
 have e1 := zac hb e1
 have g2 := zac hb g2
 have e2 := zac hb e2
 have k3 := zae hb k3
 have HN4 := lh9 (HN4.out.below hb)
 have HN5 := lh9 hw5
 have HN6 := lh9 hw6
 clear hb hw5 hw6
 go_wp2_with fail
 have HZ7 : Hid (Sz (Kd) (d.natAbs / (Nat.gcd p.natAbs d.natAbs))) := Sz.of_le HZabq.out (Nat.div_le_self _ _)
 have HZ8 : Hid (Sz (Kd) (d.natAbs % (Nat.gcd p.natAbs d.natAbs))) := Sz.of_le HZabq.out (Nat.mod_le _ _)
 (with_reducible refine (zdT (d.natAbs) (Nat.gcd p.natAbs d.natAbs) Bab C4 mab r4 dab f4 _ (HNabq.out _ hB) HN4.out (szh HZabq (HNabq.out _ hB)) (szh HZ4 HN4.out) HG0.out).mono ?_)
 rintro e wc4 ⟨C7,r7,f7,C8,r8,f8,rfl,hw7,hw8,hb⟩
 have hB := zad hB hb
 have g1 := zac hb g1
 have e1 := zac hb e1
 have g2 := zac hb g2
 have e2 := zac hb e2
 have k3 := zae hb k3
 have HN4 := lh9 (HN4.out.below hb)
 have HN5 := lh9 (HN5.out.below hb)
 have HN6 := lh9 (HN6.out.below hb)
 have HN7 := lh9 hw7
 have HN8 := lh9 hw8
 clear hb hw7 hw8
 rcases HCASE.out with hq | hq | hq | hq
 ·clear HCASE
  obtain ⟨hp,hd⟩ := hq
  have HMP := lh9 (zdJ p d H0.out false (by simp [hp,hd] <;> omega))
  have Hsp := lh9 hp
  have Hsd := lh9 hd
  clear hp hd
  obtain rfl : baa = true := ((HNaa.out _ hB)).1.trans (decide_eq_true (by have := Hsp.out; omega))
  obtain rfl : bab = true := ((HNab.out _ hB)).1.trans (decide_eq_true (by have := Hsd.out; omega))
  go_wp2_with fail
  have HZ9 : Hid (Sz (Kp) (sgI false (p.natAbs / (Nat.gcd p.natAbs d.natAbs))).natAbs) := (by rw [zdG]; exact HZ5.out)
  (with_reducible refine (zaI false (p.natAbs / (Nat.gcd p.natAbs d.natAbs)) C5 r5 f5 _ HN5.out (szh HZ5 HN5.out)).mono ?_)
  rintro e wc5 ⟨b9,B9,m9,d9,rfl,hw9,hb⟩
  have hB := zad hB hb
  have g1 := zac hb g1
  have e1 := zac hb e1
  have g2 := zac hb g2
  have e2 := zac hb e2
  have k3 := zae hb k3
  have HN4 := lh9 (HN4.out.below hb)
  have HN5 := lh9 (HN5.out.below hb)
  have HN6 := lh9 (HN6.out.below hb)
  have HN7 := lh9 (HN7.out.below hb)
  have HN8 := lh9 (HN8.out.below hb)
  have HN9 := lh9 hw9
  clear hb hw9
  obtain ⟨sc0,sf0,sc1,sf1,sc2,sf2⟩ := st3 k3 (.bool b9) (.slice B9 m9 d9)
  obtain ⟨r0,r1,r2⟩ := (sn3 k3 (.bool b9) (.slice B9 m9 d9) (.slice C7 r7 f7)).c3
  have HG := lh9 (gr3 (⟨zaz.to HMP.out.1 HN9.out,zal.to HMP.out.2 HN7.out⟩) k3 hB (by omega))
  go_wp2
  refine bodyPost_ret (v := .agg #[.bool b9,.slice B9 m9 d9,.slice C7 r7 f7]) (by simp [results,Tryz.results15,go_sem,r0,r1,r2]) rfl ?_
  exact HG.out
 ·clear HCASE
  obtain ⟨hp,hd⟩ := hq
  have HMP := lh9 (zdJ p d H0.out true (by simp [hp,hd] <;> omega))
  have Hsp := lh9 hp
  have Hsd := lh9 hd
  clear hp hd
  obtain rfl : baa = true := ((HNaa.out _ hB)).1.trans (decide_eq_true (by have := Hsp.out; omega))
  obtain rfl : bab = false := ((HNab.out _ hB)).1.trans (decide_eq_false (by have := Hsd.out; omega))
  go_wp2_with fail
  have HZ9 : Hid (Sz (Kp) (sgI true (p.natAbs / (Nat.gcd p.natAbs d.natAbs))).natAbs) := (by rw [zdG]; exact HZ5.out)
  (with_reducible refine (zaI true (p.natAbs / (Nat.gcd p.natAbs d.natAbs)) C5 r5 f5 _ HN5.out (szh HZ5 HN5.out)).mono ?_)
  rintro e wc5 ⟨b9,B9,m9,d9,rfl,hw9,hb⟩
  have hB := zad hB hb
  have g1 := zac hb g1
  have e1 := zac hb e1
  have g2 := zac hb g2
  have e2 := zac hb e2
  have k3 := zae hb k3
  have HN4 := lh9 (HN4.out.below hb)
  have HN5 := lh9 (HN5.out.below hb)
  have HN6 := lh9 (HN6.out.below hb)
  have HN7 := lh9 (HN7.out.below hb)
  have HN8 := lh9 (HN8.out.below hb)
  have HN9 := lh9 hw9
  clear hb hw9
  obtain ⟨sc0,sf0,sc1,sf1,sc2,sf2⟩ := st3 k3 (.bool b9) (.slice B9 m9 d9)
  obtain ⟨r0,r1,r2⟩ := (sn3 k3 (.bool b9) (.slice B9 m9 d9) (.slice C7 r7 f7)).c3
  have HG := lh9 (gr3 (⟨zaz.to HMP.out.1 HN9.out,zal.to HMP.out.2 HN7.out⟩) k3 hB (by omega))
  go_wp2
  refine bodyPost_ret (v := .agg #[.bool b9,.slice B9 m9 d9,.slice C7 r7 f7]) (by simp [results,Tryz.results15,go_sem,r0,r1,r2]) rfl ?_
  exact HG.out
 ·clear HCASE
  obtain ⟨hp,hd⟩ := hq
  have HMP := lh9 (zdJ p d H0.out true (by simp [hp,hd] <;> omega))
  have Hsp := lh9 hp
  have Hsd := lh9 hd
  clear hp hd
  obtain rfl : baa = false := ((HNaa.out _ hB)).1.trans (decide_eq_false (by have := Hsp.out; omega))
  obtain rfl : bab = true := ((HNab.out _ hB)).1.trans (decide_eq_true (by have := Hsd.out; omega))
  go_wp2_with fail
  have HZ9 : Hid (Sz (Kp) (sgI true (p.natAbs / (Nat.gcd p.natAbs d.natAbs))).natAbs) := (by rw [zdG]; exact HZ5.out)
  (with_reducible refine (zaI true (p.natAbs / (Nat.gcd p.natAbs d.natAbs)) C5 r5 f5 _ HN5.out (szh HZ5 HN5.out)).mono ?_)
  rintro e wc5 ⟨b9,B9,m9,d9,rfl,hw9,hb⟩
  have hB := zad hB hb
  have g1 := zac hb g1
  have e1 := zac hb e1
  have g2 := zac hb g2
  have e2 := zac hb e2
  have k3 := zae hb k3
  have HN4 := lh9 (HN4.out.below hb)
  have HN5 := lh9 (HN5.out.below hb)
  have HN6 := lh9 (HN6.out.below hb)
  have HN7 := lh9 (HN7.out.below hb)
  have HN8 := lh9 (HN8.out.below hb)
  have HN9 := lh9 hw9
  clear hb hw9
  obtain ⟨sc0,sf0,sc1,sf1,sc2,sf2⟩ := st3 k3 (.bool b9) (.slice B9 m9 d9)
  obtain ⟨r0,r1,r2⟩ := (sn3 k3 (.bool b9) (.slice B9 m9 d9) (.slice C7 r7 f7)).c3
  have HG := lh9 (gr3 (⟨zaz.to HMP.out.1 HN9.out,zal.to HMP.out.2 HN7.out⟩) k3 hB (by omega))
  go_wp2
  refine bodyPost_ret (v := .agg #[.bool b9,.slice B9 m9 d9,.slice C7 r7 f7]) (by simp [results,Tryz.results15,go_sem,r0,r1,r2]) rfl ?_
  exact HG.out
 ·clear HCASE
  obtain ⟨hp,hd⟩ := hq
  have HMP := lh9 (zdJ p d H0.out false (by simp [hp,hd] <;> omega))
  have Hsp := lh9 hp
  have Hsd := lh9 hd
  clear hp hd
  obtain rfl : baa = false := ((HNaa.out _ hB)).1.trans (decide_eq_false (by have := Hsp.out; omega))
  obtain rfl : bab = false := ((HNab.out _ hB)).1.trans (decide_eq_false (by have := Hsd.out; omega))
  go_wp2_with fail
  have HZ9 : Hid (Sz (Kp) (sgI false (p.natAbs / (Nat.gcd p.natAbs d.natAbs))).natAbs) := (by rw [zdG]; exact HZ5.out)
  (with_reducible refine (zaI false (p.natAbs / (Nat.gcd p.natAbs d.natAbs)) C5 r5 f5 _ HN5.out (szh HZ5 HN5.out)).mono ?_)
  rintro e wc5 ⟨b9,B9,m9,d9,rfl,hw9,hb⟩
  have hB := zad hB hb
  have g1 := zac hb g1
  have e1 := zac hb e1
  have g2 := zac hb g2
  have e2 := zac hb e2
  have k3 := zae hb k3
  have HN4 := lh9 (HN4.out.below hb)
  have HN5 := lh9 (HN5.out.below hb)
  have HN6 := lh9 (HN6.out.below hb)
  have HN7 := lh9 (HN7.out.below hb)
  have HN8 := lh9 (HN8.out.below hb)
  have HN9 := lh9 hw9
  clear hb hw9
  obtain ⟨sc0,sf0,sc1,sf1,sc2,sf2⟩ := st3 k3 (.bool b9) (.slice B9 m9 d9)
  obtain ⟨r0,r1,r2⟩ := (sn3 k3 (.bool b9) (.slice B9 m9 d9) (.slice C7 r7 f7)).c3
  have HG := lh9 (gr3 (⟨zaz.to HMP.out.1 HN9.out,zal.to HMP.out.2 HN7.out⟩) k3 hB (by omega))
  go_wp2
  refine bodyPost_ret (v := .agg #[.bool b9,.slice B9 m9 d9,.slice C7 r7 f7]) (by simp [results,Tryz.results15,go_sem,r0,r1,r2]) rfl ?_
  exact HG.out
theorem zfN {n : Nat} (h : n ≠ 0) : (n : Int) ≠ 0 := by omega
theorem ref8_neg (r : Rat) (baa : Bool) (Baa : oA9) (maa daa : Nat) (Eaa : oA9) (uaa vaa : Nat) (Ka : Nat) (w : World) (zaa : SzQ Ka r) (haa : zck w r baa Baa maa daa Eaa uaa vaa) (qaa : Ka ≤ 2097152) :
  Calls Tryz.prog 25 #[.agg #[.bool baa,.slice Baa maa daa,.slice Eaa uaa vaa]] w (zeq w (-r)) := by
 have HZaa := lh9 zaa
 have HNaa := lh9 (fun w' (b : Below w.heap.size w w') => haa.below b)
 have HNaap := lh9 (fun w' (b : Below w.heap.size w w') => (HNaa.out w' b).1)
 have HZaap : Hid (Sz Ka r.num.natAbs) := HZaa.out.num
 have HNaaq := lh9 (fun w' (b : Below w.heap.size w w') => (HNaa.out w' b).2)
 have HZaaq : Hid (Sz Ka r.den) := HZaa.out.den
 have HNaar := lh9 (fun w' (b : Below w.heap.size w w') => (HNaa.out w' b).1.2)
 have HZaar : Hid (Sz Ka r.num.natAbs) := HZaa.out.num
 clear haa zaa
 go_enter Tryz.func25,Tryz.ntmps25
 have hB := Below.refl w.heap.size w
 obtain ⟨bx1,bx2,bx3,bz⟩ := zaT w 42 42 #[.bool baa,.slice Baa maa daa,.slice Eaa uaa vaa] #[.bool false,.slice none 0 0,.slice none 0 0]
 have hB := zad hB bx1
 obtain ⟨g1,e1,i1⟩ := bx2.c3
 have k2 := bx3
 clear bx1 bx2 bx3 bz
 go_wp2_with fail
 generalize (w.alloc (.cells #[.bool baa,.slice Baa maa daa,.slice Eaa uaa vaa] 42)).alloc (.cells #[.bool false,.slice none 0 0,.slice none 0 0] 42) = W1 at *
 have HZ3 : Hid (Sz (Ka) (-r.num).natAbs) := SzI.neg HZaap.out
 have C0 := lh9 (fun w' (h : Below W1.heap.size W1 w') => zef (r.num) baa Baa maa daa w' (HNaap.out _ (zad hB h)) (szr HZaap (HNaap.out _ hB)))
 have hBw := (Below.refl W1.heap.size W1).drew
 refine rg (csc g1 (csc e1 (csc i1 csn))) (fun hHeld => ?_)
 refine tk 0 ?_
 refine tk 1 ?_
 refine tk 3 ?_
 refine tk 4 ?_
 refine rc 2 (fun K hK => ?_)
 go_simp
 go_at_call 38; (with_reducible refine (C0.out _ hBw).mono ?_); rintro e wa2 ⟨b3,B3,m3,d3,rfl,hw3,hb⟩; have hBw := zad hBw hb; refine hK.out _ _ (Cs.below hHeld hb) (fun hHeld => ?_); clear hK K hb
 try simp only [sb9]
 refine tk 5 ?_
 obtain ⟨sc0,sf0,sc1,sf1,sc2,sf2⟩ := st3 (zae hBw k2) (.bool b3) (.slice B3 m3 d3)
 refine rc 6 (fun K hK => ?_)
 go_simp
 refine hK.out _ _ (cs3 (.bool b3) (.slice B3 m3 d3) (.slice Eaa uaa vaa) hHeld) (fun hHeld => ?_); clear hK K
 try simp only [sb9]
 refine rdn ?_
 have hB := zad hB hBw
 have g1 := zac hBw g1
 have e1 := zac hBw e1
 have i1 := zac hBw i1
 have k2 := zae hBw k2
 have HN3 := lh9 hw3
 clear hBw hHeld hw3 C0
 obtain ⟨r0,r1,r2⟩ := (sn3 k2 (.bool b3) (.slice B3 m3 d3) (.slice Eaa uaa vaa)).c3
 have HG := lh9 (gr3 (show zck _ (-r) _ _ _ _ _ _ _ from ⟨HN3.out,(HNaaq.out _ hB)⟩) k2 hB (by omega))
 go_wp2
 refine bodyPost_ret (v := .agg #[.bool b3,.slice B3 m3 d3,.slice Eaa uaa vaa]) (by simp [results,Tryz.results25,go_sem,r0,r1,r2]) rfl ?_
 exact HG.out
theorem zgl (r : Rat) (baa : Bool) (Baa : oA9) (maa daa : Nat) (Eaa : oA9) (uaa vaa : Nat) (Ka : Nat) (w : World) (zaa : SzQ Ka r) (haa : zck w r baa Baa maa daa Eaa uaa vaa) (qaa : Ka ≤ 2097152) :
  Calls Tryz.prog 36 #[.agg #[.bool baa,.slice Baa maa daa,.slice Eaa uaa vaa]] w (zaM w r.floor) := by
 have HZaa := lh9 zaa
 have HNaa := lh9 (fun w' (b : Below w.heap.size w w') => haa.below b)
 have HNaap := lh9 (fun w' (b : Below w.heap.size w w') => (HNaa.out w' b).1)
 have HZaap : Hid (Sz Ka r.num.natAbs) := HZaa.out.num
 have HNaaq := lh9 (fun w' (b : Below w.heap.size w w') => (HNaa.out w' b).2)
 have HZaaq : Hid (Sz Ka r.den) := HZaa.out.den
 have HNaar := lh9 (fun w' (b : Below w.heap.size w w') => (HNaa.out w' b).1.2)
 have HZaar : Hid (Sz Ka r.num.natAbs) := HZaa.out.num
 clear haa zaa
 go_enter Tryz.func36,Tryz.ntmps36
 have hB := Below.refl w.heap.size w
 obtain ⟨bx1,bx2,bx3,bz⟩ := zaT w 42 38 #[.bool baa,.slice Baa maa daa,.slice Eaa uaa vaa] #[.bool false,.slice none 0 0]
 have hB := zad hB bx1
 obtain ⟨g1,e1,i1⟩ := bx2.c3
 have k2 := bx3
 clear bx1 bx2 bx3 bz
 go_wp2_with fail
 generalize (w.alloc (.cells #[.bool baa,.slice Baa maa daa,.slice Eaa uaa vaa] 42)).alloc (.cells #[.bool false,.slice none 0 0] 38) = W1 at *
 have HZ3 : Hid (Sz (Ka) (((r.den : Nat) : Int)).natAbs) := (by rw [Int.natAbs_natCast]; exact HZaaq.out)
 have C0 := lh9 (fun w' (h : Below W1.heap.size W1 w') => zeC (r.den) Eaa uaa vaa w' (HNaaq.out _ (zad hB h)) (szh HZaaq (HNaaq.out _ hB)))
 have HZ4 : Hid (Sz (Ka) (qI r.num (((r.den : Nat) : Int))).natAbs) := SzI.q _ HZaap.out
 have HZ5 : Hid (Sz (Ka) (rI r.num (((r.den : Nat) : Int))).natAbs) := SzI.r _ (zfN r.den_nz) HZ3.out
 have C1 := lh9 (fun w' (h : Below W1.heap.size W1 w') b3 B3 m3 d3 (hw3 : zaz w' (((r.den : Nat) : Int)) b3 B3 m3 d3) => ref7_div (r.num) (((r.den : Nat) : Int)) baa b3 Baa B3 maa m3 daa d3 w' (HNaap.out _ (zad hB h)) hw3 (szr HZaap (HNaap.out _ hB)) (szr HZ3 hw3) (zfN r.den_nz))
 have lt2_m1 := k2.lt
 have GG := lh9 (fun w' (h : Below W1.heap.size W1 w') => (csc (zac h g1) (csc (zac h e1) (csc (zac h i1) csn))))
 refine rgB (fun hHeld => ?_)
 refine tl 0 GG.out ?_
 refine tl 1 GG.out ?_
 refine tl 2 GG.out ?_
 refine tl 3 GG.out ?_
 refine zaU (L := #[true,true,true,true,true,true,true,true,true,true,true,true,true])
  (J := fun a0 l a w' => ∃ (fl4 fl5 fl6 fl7 fl8 fl9 fl10 fl11 fl12 b3 : Bool) (B3 : oA9) (m3 d3 : Nat) (b4 : Bool) (B4 : oA9) (m4 d4 : Nat) (b5 : Bool) (B5 : oA9) (m5 d5 ad9 ad10 : Nat),l = #[true,true,true,true,fl4,fl5,fl6,fl7,fl8,fl9,fl10,fl11,fl12] ∧ zbG [10,11,5,12,13,3,4] a0 a ∧ Hid (Below W1.heap.size W1 w') ∧
    Hid (Gd fl4 (a.tmps.getD 10 undef = .agg #[.bool b3,.slice B3 m3 d3] ∧ zaz w' (((r.den : Nat) : Int)) b3 B3 m3 d3)) ∧
    Hid (Gd fl5 (a.tmps.getD 11 undef = .tuple #[.agg #[.bool b4,.slice B4 m4 d4],.agg #[.bool b5,.slice B5 m5 d5]] ∧ zaz w' (qI r.num (((r.den : Nat) : Int))) b4 B4 m4 d4 ∧ zaz w' (rI r.num (((r.den : Nat) : Int))) b5 B5 m5 d5)) ∧
    Hid (Gd fl6 (a.tmps.getD 5 undef = .tuple #[.agg #[.bool b4,.slice B4 m4 d4],.agg #[.bool b5,.slice B5 m5 d5]])) ∧
    Hid (Gd fl7 (a.tmps.getD 12 undef = .agg #[.bool b4,.slice B4 m4 d4])) ∧
    Hid (Gd fl8 (a.tmps.getD 13 undef = .agg #[.bool b5,.slice B5 m5 d5])) ∧
    Hid (Gd fl9 (a.tmps.getD 3 undef = .pointer (some ⟨ad9,0,none⟩) ∧ W1.heap.size ≤ ad9 ∧ Blk w' ad9 38 (bif fl11 then #[.bool b4,.slice B4 m4 d4] else #[.bool false,.slice none 0 0]))) ∧
    Hid (Gd fl10 (a.tmps.getD 4 undef = .pointer (some ⟨ad10,0,none⟩) ∧ W1.heap.size ≤ ad10 ∧ Blk w' ad10 38 (bif fl12 then #[.bool b5,.slice B5 m5 d5] else #[.bool false,.slice none 0 0]))) ∧
    Hid (Gd fl9 (Gd fl10 (ad9 ≠ ad10))) ∧
    Hid (Gd fl5 (fl4 = true)) ∧
    Hid (Gd fl6 (fl5 = true)) ∧
    Hid (Gd fl7 (fl6 = true)) ∧
    Hid (Gd fl8 (fl6 = true)) ∧
    Hid (Gd fl11 (fl5 = true)) ∧
    Hid (Gd fl11 (fl7 = true)) ∧
    Hid (Gd fl11 (fl9 = true)) ∧
    Hid (Gd fl12 (fl8 = true)) ∧
    Hid (Gd fl12 (fl10 = true)) ∧
    Hid (Gd fl12 (fl11 = true)))
  (by rfl) ?_ ?_ ?_
 ·exact ⟨false,false,false,false,false,false,false,false,false,false,none,0,0,false,none,0,0,false,none,0,0,0,0,by kernel_rfl,zbG.refl _ _,hHeld,Gd.no,Gd.no,Gd.no,Gd.no,Gd.no,Gd.no,Gd.no,Gd.no,Gd.no,Gd.no,Gd.no,Gd.no,Gd.no,Gd.no,Gd.no,Gd.no,Gd.no,Gd.no⟩
 ·intro OPS Ac0 Q0 hO hAs hA
  have RB7 : Ac0.tmps.getD 7 undef = .agg #[.bool baa,.slice Baa maa daa] := (hA 7 undef).trans (by kernel_rfl)
  have RB9 : Ac0.tmps.getD 9 undef = .slice Eaa uaa vaa := (hA 9 undef).trans (by kernel_rfl)
  have hsz : Ac0.tmps.size = 15 := hAs.trans (by kernel_rfl)
  clear hAs hA
  refine ⟨?_,?_⟩
  ·rintro l a w' ⟨fl4,fl5,fl6,fl7,fl8,fl9,fl10,fl11,fl12,b3,B3,m3,d3,b4,B4,m4,d4,b5,B5,m5,d5,ad9,ad10,rfl,-⟩ hr
   obtain rfl : fl4 = true := als 4 hr hO
   obtain rfl : fl5 = true := als 5 hr hO
   obtain rfl : fl6 = true := als 6 hr hO
   obtain rfl : fl7 = true := als 7 hr hO
   obtain rfl : fl8 = true := als 8 hr hO
   obtain rfl : fl9 = true := als 9 hr hO
   obtain rfl : fl10 = true := als 10 hr hO
   obtain rfl : fl11 = true := als 11 hr hO
   obtain rfl : fl12 = true := als 12 hr hO
   rfl
  ·rintro l a w' i ⟨fl4,fl5,fl6,fl7,fl8,fl9,fl10,fl11,fl12,b3,B3,m3,d3,b4,B4,m4,d4,b5,B5,m5,d5,ad9,ad10,rfl,HKp,hBi,qf4,qf5,qf6,qf7,qf8,qf9,qf10,qn9_10,qd5_4,qd6_5,qd7_6,qd8_6,qd11_5,qd11_7,qd11_9,qd12_8,qd12_10,qd12_11⟩ hne hi
   have hlt : i < 13 := by have := zbr hi; rw [hO] at this; exact this
   rcases (show i = 0 ∨ i = 1 ∨ i = 2 ∨ i = 3 ∨ i = 4 ∨ i = 5 ∨ i = 6 ∨ i = 7 ∨ i = 8 ∨ i = 9 ∨ i = 10 ∨ i = 11 ∨ i = 12 by omega) with rfl | rfl | rfl | rfl | rfl | rfl | rfl | rfl | rfl | rfl | rfl | rfl | rfl
   ·cases (zai hi : true = false)
   ·cases (zai hi : true = false)
   ·cases (zai hi : true = false)
   ·cases (zai hi : true = false)
   ·obtain rfl : fl4 = false := zai hi
    obtain rfl : fl5 = false := Gd.off qd5_4.out
    obtain rfl : fl6 = false := Gd.off qd6_5.out
    obtain rfl : fl7 = false := Gd.off qd7_6.out
    obtain rfl : fl8 = false := Gd.off qd8_6.out
    obtain rfl : fl11 = false := Gd.off qd11_5.out
    obtain rfl : fl12 = false := Gd.off qd12_8.out
    have rd9 := HKp.get 9 (by decide) RB9
    refine wog hO (fun K' hK => ?_)
    go_simp
    refine (C0.out w' hBi.out).mono ?_
    rintro e w2 ⟨nb3,nB3,nm3,nd3,rfl,nhw3,hb⟩
    exact hK.out _ _ ⟨zad hBi.out hb,true,false,false,false,false,fl9,fl10,false,false,nb3,nB3,nm3,nd3,b4,B4,m4,d4,b5,B5,m5,d5,ad9,ad10,by rfl,HKp.put (by decide) _,zad hBi.out hb,Gd.yes ⟨zaw (HKp.lt (by rw [hsz]; decide)) _,nhw3⟩,Gd.no,Gd.no,Gd.no,Gd.no,kq qf9.out fun h => ⟨h.1,zae hb h.2⟩,kq qf10.out fun h => ⟨h.1,zae hb h.2⟩,qn9_10,Gd.no,Gd.no,Gd.no,Gd.no,Gd.no,Gd.no,Gd.no,Gd.no,Gd.no,Gd.no⟩
   ·obtain rfl : fl5 = false := zai hi
    obtain rfl : fl4 = true := rdp 4 1 hi hO
    obtain rfl : fl6 = false := Gd.off qd6_5.out
    obtain rfl : fl7 = false := Gd.off qd7_6.out
    obtain rfl : fl8 = false := Gd.off qd8_6.out
    obtain rfl : fl11 = false := Gd.off qd11_5.out
    obtain rfl : fl12 = false := Gd.off qd12_8.out
    have rd7 := HKp.get 7 (by decide) RB7
    have rd10 := qf4.out.get.1
    have hw3 := qf4.out.get.2
    refine wog hO (fun K' hK => ?_)
    go_simp
    refine (C1.out w' hBi.out _ _ _ _ hw3).mono ?_
    rintro e w2 ⟨nb4,nB4,nm4,nd4,nb5,nB5,nm5,nd5,rfl,nhw4,nhw5,hb⟩
    exact hK.out _ _ ⟨zad hBi.out hb,true,true,false,false,false,fl9,fl10,false,false,b3,B3,m3,d3,nb4,nB4,nm4,nd4,nb5,nB5,nm5,nd5,ad9,ad10,by rfl,HKp.put (by decide) _,zad hBi.out hb,kq qf4.out fun h => (h).below hb,Gd.yes ⟨zaw (HKp.lt (by rw [hsz]; decide)) _,nhw4,nhw5⟩,Gd.no,Gd.no,Gd.no,kq qf9.out fun h => ⟨h.1,zae hb h.2⟩,kq qf10.out fun h => ⟨h.1,zae hb h.2⟩,qn9_10,fun _ => rfl,Gd.no,Gd.no,Gd.no,Gd.no,Gd.no,Gd.no,Gd.no,Gd.no,Gd.no⟩
   ·obtain rfl : fl6 = false := zai hi
    obtain rfl : fl5 = true := rdp 5 0 hi hO
    obtain rfl : fl4 = true := qd5_4.out.get
    obtain rfl : fl7 = false := Gd.off qd7_6.out
    obtain rfl : fl8 = false := Gd.off qd8_6.out
    obtain rfl : fl11 = false := Gd.off qd11_7.out
    obtain rfl : fl12 = false := Gd.off qd12_8.out
    have rd11 := qf5.out.get.1
    refine wog hO (fun K' hK => ?_)
    refine zbD (x := 11) (Or.inl rfl) rd11 ?_
    exact hK.out _ _ ⟨hBi.out,true,true,true,false,false,fl9,fl10,false,false,b3,B3,m3,d3,b4,B4,m4,d4,b5,B5,m5,d5,ad9,ad10,by rfl,HKp.put (by decide) _,hBi.out,kq qf4.out fun h => (h),kq qf5.out fun h => ⟨(h.1),(h.2)⟩,Gd.yes (zaw (HKp.lt (by rw [hsz]; decide)) _),Gd.no,Gd.no,kq qf9.out id,kq qf10.out id,qn9_10,fun _ => rfl,fun _ => rfl,Gd.no,Gd.no,Gd.no,Gd.no,Gd.no,Gd.no,Gd.no,Gd.no⟩
   ·obtain rfl : fl7 = false := zai hi
    obtain rfl : fl6 = true := rdp 6 0 hi hO
    obtain rfl : fl5 = true := qd6_5.out.get
    obtain rfl : fl4 = true := qd5_4.out.get
    obtain rfl : fl11 = false := Gd.off qd11_7.out
    obtain rfl : fl12 = false := Gd.off qd12_11.out
    have rd5 := qf6.out.get
    refine wog hO (fun K' hK => ?_)
    refine zaO (x := 5) (k := 0) rfl rd5 rfl ?_
    exact hK.out _ _ ⟨hBi.out,true,true,true,true,fl8,fl9,fl10,false,false,b3,B3,m3,d3,b4,B4,m4,d4,b5,B5,m5,d5,ad9,ad10,by rfl,HKp.put (by decide) _,hBi.out,kq qf4.out fun h => (h),kq qf5.out fun h => ⟨(h.1),(h.2)⟩,kq0 qf6.out,Gd.yes (zaw (HKp.lt (by rw [hsz]; decide)) _),kq0 qf8.out,kq qf9.out id,kq qf10.out id,qn9_10,fun _ => rfl,fun _ => rfl,fun _ => rfl,fun _ => rfl,Gd.no,Gd.no,Gd.no,Gd.no,Gd.no,Gd.no⟩
   ·obtain rfl : fl8 = false := zai hi
    obtain rfl : fl6 = true := rdp 6 0 hi hO
    obtain rfl : fl5 = true := qd6_5.out.get
    obtain rfl : fl4 = true := qd5_4.out.get
    obtain rfl : fl12 = false := Gd.off qd12_8.out
    have rd5 := qf6.out.get
    refine wog hO (fun K' hK => ?_)
    refine zaO (x := 5) (k := 1) rfl rd5 rfl ?_
    exact hK.out _ _ ⟨hBi.out,true,true,true,fl7,true,fl9,fl10,fl11,false,b3,B3,m3,d3,b4,B4,m4,d4,b5,B5,m5,d5,ad9,ad10,by rfl,HKp.put (by decide) _,hBi.out,kq qf4.out fun h => (h),kq qf5.out fun h => ⟨(h.1),(h.2)⟩,kq0 qf6.out,kq0 qf7.out,Gd.yes (zaw (HKp.lt (by rw [hsz]; decide)) _),kq qf9.out id,kq qf10.out id,qn9_10,fun _ => rfl,fun _ => rfl,fun _ => rfl,fun _ => rfl,fun _ => rfl,qd11_7,qd11_9,Gd.no,Gd.no,Gd.no⟩
   ·obtain rfl : fl9 = false := zai hi
    obtain rfl : fl11 = false := Gd.off qd11_9.out
    obtain rfl : fl12 = false := Gd.off qd12_11.out
    refine wog hO (fun K' hK => ?_)
    go_simp
    have hb := zaA w' (.cells #[.bool false,.slice none 0 0] 38)
    exact hK.out _ _ ⟨zad hBi.out hb,fl4,fl5,fl6,fl7,fl8,true,fl10,false,false,b3,B3,m3,d3,b4,B4,m4,d4,b5,B5,m5,d5,w'.heap.size,ad10,by rfl,HKp.put (by decide) _,zad hBi.out hb,kq qf4.out fun h => (h).below hb,kq qf5.out fun h => ⟨(h.1).below hb,(h.2).below hb⟩,kq0 qf6.out,kq0 qf7.out,kq0 qf8.out,Gd.yes ⟨zaw (HKp.lt (by rw [hsz]; decide)) _,hBi.out.size,Blk.new w' _ _⟩,kq qf10.out fun h => ⟨h.1,zae hb h.2⟩,Gd.yes (qf10.out.mono fun h => by have := Blk.lt h.2.2; omega),qd5_4,qd6_5,qd7_6,qd8_6,Gd.no,Gd.no,Gd.no,Gd.no,Gd.no,Gd.no⟩
   ·obtain rfl : fl10 = false := zai hi
    obtain rfl : fl12 = false := Gd.off qd12_10.out
    refine wog hO (fun K' hK => ?_)
    go_simp
    have hb := zaA w' (.cells #[.bool false,.slice none 0 0] 38)
    exact hK.out _ _ ⟨zad hBi.out hb,fl4,fl5,fl6,fl7,fl8,fl9,true,fl11,false,b3,B3,m3,d3,b4,B4,m4,d4,b5,B5,m5,d5,ad9,w'.heap.size,by rfl,HKp.put (by decide) _,zad hBi.out hb,kq qf4.out fun h => (h).below hb,kq qf5.out fun h => ⟨(h.1).below hb,(h.2).below hb⟩,kq0 qf6.out,kq0 qf7.out,kq0 qf8.out,kq qf9.out fun h => ⟨h.1,zae hb h.2⟩,Gd.yes ⟨zaw (HKp.lt (by rw [hsz]; decide)) _,hBi.out.size,Blk.new w' _ _⟩,qf9.out.mono fun h => Gd.yes (by have := Blk.lt h.2.2; omega),qd5_4,qd6_5,qd7_6,qd8_6,qd11_5,qd11_7,qd11_9,Gd.no,Gd.no,Gd.no⟩
   ·obtain rfl : fl11 = false := zai hi
    obtain rfl : fl4 = true := rdp 4 7 hi hO
    obtain rfl : fl5 = true := rdp 5 2 hi hO
    obtain rfl : fl6 = true := rdp 6 9 hi hO
    obtain rfl : fl7 = true := rdp 7 1 hi hO
    obtain rfl : fl9 = true := rdp 9 0 hi hO
    obtain rfl : fl10 = true := rdp 10 13 hi hO
    obtain rfl : fl12 = false := Gd.off qd12_11.out
    have rd3 := qf9.out.get.1
    have rd12 := qf7.out.get
    obtain ⟨_,hg,hk⟩ := qf9.out.get
    have hk : Blk w' ad9 38 #[.bool false,.slice none 0 0] := hk
    obtain ⟨sc0,sf0,sc1,sf1⟩ := st2 hk (.bool b4)
    have hj1 := sn2 hk (.bool b4) (.slice B4 m4 d4)
    have hBn := bl2 (.bool b4) (.slice B4 m4 d4) hg hBi.out
    refine wog hO (fun K' hK => ?_)
    go_simp
    exact hK.out _ _ ⟨hBn,true,true,true,true,fl8,true,true,true,false,b3,B3,m3,d3,b4,B4,m4,d4,b5,B5,m5,d5,ad9,ad10,by rfl,HKp,hBn,qf4.out.mono fun h => ⟨h.1,zbh (h.2) hk zcL (zcn _ _ _ _)⟩,qf5.out.mono fun h => ⟨h.1,zbh (h.2.1) hk zcL (zcn _ _ _ _),zbh (h.2.2) hk zcL (zcn _ _ _ _)⟩,qf6.out.mono fun h => h,qf7.out.mono fun h => h,qf8.out.mono fun h => h,qf9.out.mono fun h => ⟨h.1,h.2.1,hj1⟩,fun hf9 => (fun h => ⟨h.1,h.2.1,Blk.far (p := ⟨ad9,1,none⟩) (Blk.far (p := ⟨ad9,0,none⟩) (h.2.2) (Ne.symm (qn9_10.out rfl hf9)) (.bool b4)) (Ne.symm (qn9_10.out rfl hf9)) (.slice B4 m4 d4)⟩) (qf10.out hf9),qn9_10,fun _ => rfl,fun _ => rfl,fun _ => rfl,fun _ => rfl,fun _ => rfl,fun _ => rfl,fun _ => rfl,Gd.no,Gd.no,Gd.no⟩
   ·obtain rfl : fl12 = false := zai hi
    obtain rfl : fl4 = true := rdp 4 7 hi hO
    obtain rfl : fl5 = true := rdp 5 8 hi hO
    obtain rfl : fl6 = true := rdp 6 9 hi hO
    obtain rfl : fl7 = true := rdp 7 10 hi hO
    obtain rfl : fl8 = true := rdp 8 1 hi hO
    obtain rfl : fl9 = true := rdp 9 12 hi hO
    obtain rfl : fl10 = true := rdp 10 0 hi hO
    obtain rfl : fl11 = true := rdp 11 2 hi hO
    have rd4 := qf10.out.get.1
    have rd13 := qf8.out.get
    obtain ⟨_,hg,hk⟩ := qf10.out.get
    have hk : Blk w' ad10 38 #[.bool false,.slice none 0 0] := hk
    obtain ⟨sc0,sf0,sc1,sf1⟩ := st2 hk (.bool b5)
    have hj1 := sn2 hk (.bool b5) (.slice B5 m5 d5)
    have hBn := bl2 (.bool b5) (.slice B5 m5 d5) hg hBi.out
    refine wog hO (fun K' hK => ?_)
    go_simp
    exact hK.out _ _ ⟨hBn,true,true,true,true,true,true,true,true,true,b3,B3,m3,d3,b4,B4,m4,d4,b5,B5,m5,d5,ad9,ad10,by rfl,HKp,hBn,qf4.out.mono fun h => ⟨h.1,zbh (h.2) hk zcL (zcn _ _ _ _)⟩,qf5.out.mono fun h => ⟨h.1,zbh (h.2.1) hk zcL (zcn _ _ _ _),zbh (h.2.2) hk zcL (zcn _ _ _ _)⟩,qf6.out.mono fun h => h,qf7.out.mono fun h => h,qf8.out.mono fun h => h,fun hf9 => (fun h => ⟨h.1,h.2.1,Blk.far (p := ⟨ad10,1,none⟩) (Blk.far (p := ⟨ad10,0,none⟩) (h.2.2) (qn9_10.out hf9 rfl) (.bool b5)) (qn9_10.out hf9 rfl) (.slice B5 m5 d5)⟩) (qf9.out hf9),qf10.out.mono fun h => ⟨h.1,h.2.1,hj1⟩,qn9_10,fun _ => rfl,fun _ => rfl,fun _ => rfl,fun _ => rfl,fun _ => rfl,fun _ => rfl,fun _ => rfl,fun _ => rfl,fun _ => rfl,fun _ => rfl⟩
 rintro a wm2 ⟨fl4,fl5,fl6,fl7,fl8,fl9,fl10,fl11,fl12,b3,B3,m3,d3,b4,B4,m4,d4,b5,B5,m5,d5,ad9,ad10,hl,HKp,hBi,qf4,qf5,qf6,qf7,qf8,qf9,qf10,qn9_10,qd5_4,qd6_5,qd7_6,qd8_6,qd11_5,qd11_7,qd11_9,qd12_8,qd12_10,qd12_11⟩
 have xx4 : fl4 = true := gdl 4 hl
 subst xx4
 have xx5 : fl5 = true := gdl 5 hl
 subst xx5
 have xx6 : fl6 = true := gdl 6 hl
 subst xx6
 have xx7 : fl7 = true := gdl 7 hl
 subst xx7
 have xx8 : fl8 = true := gdl 8 hl
 subst xx8
 have xx9 : fl9 = true := gdl 9 hl
 subst xx9
 have xx10 : fl10 = true := gdl 10 hl
 subst xx10
 have xx11 : fl11 = true := gdl 11 hl
 subst xx11
 have xx12 : fl12 = true := gdl 12 hl
 subst xx12
 obtain ⟨rv4,hw3⟩ := qf4.out.get
 obtain ⟨rv5,hw4,hw5⟩ := qf5.out.get
 have rv6 := qf6.out.get
 have rv7 := qf7.out.get
 have rv8 := qf8.out.get
 obtain ⟨rv9,hg9,hk9⟩ := qf9.out.get
 obtain ⟨rv10,hg10,hk10⟩ := qf10.out.get
 obtain rfl := HKp.eq [(10,.agg #[.bool b3,.slice B3 m3 d3]),(11,.tuple #[.agg #[.bool b4,.slice B4 m4 d4],.agg #[.bool b5,.slice B5 m5 d5]]),(5,.tuple #[.agg #[.bool b4,.slice B4 m4 d4],.agg #[.bool b5,.slice B5 m5 d5]]),(12,.agg #[.bool b4,.slice B4 m4 d4]),(13,.agg #[.bool b5,.slice B5 m5 d5]),(3,.pointer (some ⟨ad9,0,none⟩)),(4,.pointer (some ⟨ad10,0,none⟩))] rfl (by
  intro p hp
  simp only [List.mem_cons,List.not_mem_nil,or_false] at hp
  rcases hp with rfl | rfl | rfl | rfl | rfl | rfl | rfl
  ·exact rv4
  ·exact rv5
  ·exact rv6
  ·exact rv7
  ·exact rv8
  ·exact rv9
  ·exact rv10)
 have hBv := hBi.out
 clear hl hBi HKp qf4 qf5 qf6 qf7 qf8 qf9 qf10 qn9_10 qd5_4 qd6_5 qd7_6 qd8_6 qd11_5 qd11_7 qd11_9 qd12_8 qd12_10 qd12_11 rv4 rv5 rv6 rv7 rv8 rv9 rv10
 have hk9 : Blk wm2 ad9 38 #[.bool b4,.slice B4 m4 d4] := hk9
 have hk10 : Blk wm2 ad10 38 #[.bool b5,.slice B5 m5 d5] := hk10
 rw [show due #[true,true,true,true,true,true,true,true,true,true,true,true,true] = 0 from rfl]
 simp only [zbx,List.foldl,Act.put,List.setIfInBounds_toArray,List.set_cons_zero,List.set_cons_succ]
 refine wpAnyH_done (by kernel_rfl) ?_ _
 refine NoPanic.normal ?_
 have hB := zad hB hBv
 have g1 := zac hBv g1
 have e1 := zac hBv e1
 have i1 := zac hBv i1
 have k2 := zae hBv k2
 obtain ⟨ad9_6,hga⟩ : ∃ x,x = ad9 := ⟨_,rfl⟩
 subst hga
 obtain ⟨g6,e6⟩ := hk9.c2
 obtain ⟨ad10_7,hga⟩ : ∃ x,x = ad10 := ⟨_,rfl⟩
 subst hga
 obtain ⟨g7,e7⟩ := hk10.c2
 have HN3 := lh9 hw3
 have HN4 := lh9 hw4
 have HN5 := lh9 hw5
 clear hBv hk9 hk10 hw3 hw4 hw5 GG
 clear C0 C1
 obtain ⟨sc0,sf0,sc1,sf1⟩ := st2 k2 (.bool b4)
 obtain ⟨r0,r1⟩ := (sn2 k2 (.bool b4) (.slice B4 m4 d4)).c2
 have HG := lh9 (gz2 (zaz.to (zjE r).symm HN4.out) k2 hB (by omega))
 go_wp2
 refine bodyPost_ret (v := .agg #[.bool b4,.slice B4 m4 d4]) (by simp [results,Tryz.results36,go_sem,r0,r1]) rfl ?_
 exact HG.out
theorem ref8_cmp (r : Rat) (s : Rat) (baa : Bool) (Baa : oA9) (maa daa : Nat) (Eaa : oA9) (uaa vaa : Nat) (bab : Bool) (Bab : oA9) (mab dab : Nat) (Eab : oA9) (uab vab : Nat) (Ka : Nat) (Kb : Nat) (w : World) (zaa : SzQ Ka r) (haa : zck w r baa Baa maa daa Eaa uaa vaa) (zab : SzQ Kb s) (hab : zck w s bab Bab mab dab Eab uab vab) (qaa : Ka ≤ 2097152) (qab : Kb ≤ 2097152) :
  Calls Tryz.prog 31 #[.agg #[.bool baa,.slice Baa maa daa,.slice Eaa uaa vaa],.agg #[.bool bab,.slice Bab mab dab,.slice Eab uab vab]] w (zbt w (zce r s)) := by
 have HZaa := lh9 zaa
 have HZab := lh9 zab
 have HNaa := lh9 (fun w' (b : Below w.heap.size w w') => haa.below b)
 have HNaap := lh9 (fun w' (b : Below w.heap.size w w') => (HNaa.out w' b).1)
 have HZaap : Hid (Sz Ka r.num.natAbs) := HZaa.out.num
 have HNaaq := lh9 (fun w' (b : Below w.heap.size w w') => (HNaa.out w' b).2)
 have HZaaq : Hid (Sz Ka r.den) := HZaa.out.den
 have HNaar := lh9 (fun w' (b : Below w.heap.size w w') => (HNaa.out w' b).1.2)
 have HZaar : Hid (Sz Ka r.num.natAbs) := HZaa.out.num
 have HNab := lh9 (fun w' (b : Below w.heap.size w w') => hab.below b)
 have HNabp := lh9 (fun w' (b : Below w.heap.size w w') => (HNab.out w' b).1)
 have HZabp : Hid (Sz Kb s.num.natAbs) := HZab.out.num
 have HNabq := lh9 (fun w' (b : Below w.heap.size w w') => (HNab.out w' b).2)
 have HZabq : Hid (Sz Kb s.den) := HZab.out.den
 have HNabr := lh9 (fun w' (b : Below w.heap.size w w') => (HNab.out w' b).1.2)
 have HZabr : Hid (Sz Kb s.num.natAbs) := HZab.out.num
 clear haa zaa hab zab
 obtain ⟨v,hv⟩ : ∃ v,zce r s = v := ⟨_,rfl⟩
 have HV : Hid (zcO (r.num * ((s.den : Nat) : Int)) (s.num * ((r.den : Nat) : Int)) = v) := by show _ = _; rw [← hv,zds]
 rw [hv]
 clear hv
 obtain ⟨KR,hKR1,hKR⟩ : ∃ q,Ka + Kb ≤ q ∧ q ≤ 16777216 := ⟨Ka + Kb,Nat.le_refl _,by omega⟩
 go_enter Tryz.func31,Tryz.ntmps31
 have hB := Below.refl w.heap.size w
 obtain ⟨bx1,bx2,bx3,bz⟩ := zaT w 42 42 #[.bool baa,.slice Baa maa daa,.slice Eaa uaa vaa] #[.bool bab,.slice Bab mab dab,.slice Eab uab vab]
 have hB := zad hB bx1
 obtain ⟨g1,e1,i1⟩ := bx2.c3
 obtain ⟨g2,e2,i2⟩ := bx3.c3
 clear bx1 bx2 bx3 bz
 go_wp2_with fail
 generalize (w.alloc (.cells #[.bool baa,.slice Baa maa daa,.slice Eaa uaa vaa] 42)).alloc (.cells #[.bool bab,.slice Bab mab dab,.slice Eab uab vab] 42) = W1 at *
 have HZ3 : Hid (Sz (Kb) (((s.den : Nat) : Int)).natAbs) := (by rw [Int.natAbs_natCast]; exact HZabq.out)
 have C0 := lh9 (fun w' (h : Below W1.heap.size W1 w') => zeC (s.den) Eab uab vab w' (HNabq.out _ (zad hB h)) (szh HZabq (HNabq.out _ hB)))
 have HZ4 : Hid (Sz (Ka + Kb) (r.num * (((s.den : Nat) : Int))).natAbs) := SzI.mul HZaap.out HZ3.out
 have C1 := lh9 (fun w' (h : Below W1.heap.size W1 w') b3 B3 m3 d3 (hw3 : zaz w' (((s.den : Nat) : Int)) b3 B3 m3 d3) => zjy (r.num) (((s.den : Nat) : Int)) baa b3 Baa B3 maa m3 daa d3 w' (HNaap.out _ (zad hB h)) hw3 (szr HZaap (HNaap.out _ hB)) (szr HZ3 hw3) )
 have HZ5 : Hid (Sz (Ka) (((r.den : Nat) : Int)).natAbs) := (by rw [Int.natAbs_natCast]; exact HZaaq.out)
 have C2 := lh9 (fun w' (h : Below W1.heap.size W1 w') => zeC (r.den) Eaa uaa vaa w' (HNaaq.out _ (zad hB h)) (szh HZaaq (HNaaq.out _ hB)))
 have HZ6 : Hid (Sz (Kb + Ka) (s.num * (((r.den : Nat) : Int))).natAbs) := SzI.mul HZabp.out HZ5.out
 have C3 := lh9 (fun w' (h : Below W1.heap.size W1 w') b5 B5 m5 d5 (hw5 : zaz w' (((r.den : Nat) : Int)) b5 B5 m5 d5) => zjy (s.num) (((r.den : Nat) : Int)) bab b5 Bab B5 mab m5 dab d5 w' (HNabp.out _ (zad hB h)) hw5 (szr HZabp (HNabp.out _ hB)) (szr HZ5 hw5) )
 have C4 := lh9 (fun w' (h : Below W1.heap.size W1 w') b4 B4 m4 d4 (hw4 : zaz w' (r.num * (((s.den : Nat) : Int))) b4 B4 m4 d4) b6 B6 m6 d6 (hw6 : zaz w' (s.num * (((r.den : Nat) : Int))) b6 B6 m6 d6) => icmp_of (v := v) (HV.out) (ref7_cmp (r.num * (((s.den : Nat) : Int))) (s.num * (((r.den : Nat) : Int))) b4 b6 B4 B6 m4 m6 d4 d6 KR hKR w' (HZ4.out.up (by omega)) (HZ6.out.up (by omega)) hw4 hw6))
 have hBw := (Below.refl W1.heap.size W1).drew
 refine rg (csc g1 (csc e1 (csc i1 (csc g2 (csc e2 (csc i2 csn)))))) (fun hHeld => ?_)
 refine tk 0 ?_
 refine tk 1 ?_
 refine tk 2 ?_
 refine tk 3 ?_
 refine tk 6 ?_
 refine tk 7 ?_
 refine tk 8 ?_
 refine tk 9 ?_
 refine rc 4 (fun K hK => ?_)
 go_simp
 go_at_call 75; (with_reducible refine (C0.out _ hBw).mono ?_); rintro e wa2 ⟨b3,B3,m3,d3,rfl,hw3,hb⟩; have hBw := zad hBw hb; refine hK.out _ _ (Cs.below hHeld hb) (fun hHeld => ?_); clear hK K hb
 try simp only [sb9]
 refine rc 5 (fun K hK => ?_)
 go_simp
 go_at_call 74; (with_reducible refine (C1.out _ hBw _ _ _ _ hw3).mono ?_); rintro e wa3 ⟨b4,B4,m4,d4,rfl,hw4,hb⟩; have hBw := zad hBw hb; have hw3 := hw3.below hb; refine hK.out _ _ (Cs.below hHeld hb) (fun hHeld => ?_); clear hK K hb
 try simp only [sb9]
 refine rc 10 (fun K hK => ?_)
 go_simp
 go_at_call 75; (with_reducible refine (C2.out _ hBw).mono ?_); rintro e wa4 ⟨b5,B5,m5,d5,rfl,hw5,hb⟩; have hBw := zad hBw hb; have hw3 := hw3.below hb; have hw4 := hw4.below hb; refine hK.out _ _ (Cs.below hHeld hb) (fun hHeld => ?_); clear hK K hb
 try simp only [sb9]
 refine rc 11 (fun K hK => ?_)
 go_simp
 go_at_call 74; (with_reducible refine (C3.out _ hBw _ _ _ _ hw5).mono ?_); rintro e wa5 ⟨b6,B6,m6,d6,rfl,hw6,hb⟩; have hBw := zad hBw hb; have hw3 := hw3.below hb; have hw4 := hw4.below hb; have hw5 := hw5.below hb; refine hK.out _ _ (Cs.below hHeld hb) (fun hHeld => ?_); clear hK K hb
 try simp only [sb9]
 refine rc 12 (fun K hK => ?_)
 go_simp
 go_at_call 80; (with_reducible refine (C4.out _ hBw _ _ _ _ hw4 _ _ _ _ hw6).mono ?_); rintro e wa6 ⟨rfl,hb⟩; have hBw := zad hBw hb; have hw3 := hw3.below hb; have hw4 := hw4.below hb; have hw5 := hw5.below hb; have hw6 := hw6.below hb; refine hK.out _ _ (Cs.below hHeld hb) (fun hHeld => ?_); clear hK K hb
 try simp only [sb9]
 refine tk 13 ?_
 refine rdn ?_
 have hB := zad hB hBw
 have g1 := zac hBw g1
 have e1 := zac hBw e1
 have i1 := zac hBw i1
 have g2 := zac hBw g2
 have e2 := zac hBw e2
 have i2 := zac hBw i2
 have HN3 := lh9 hw3
 have HN4 := lh9 hw4
 have HN5 := lh9 hw5
 have HN6 := lh9 hw6
 clear hBw hHeld hw3 hw4 hw5 hw6 C0 C1 C2 C3 C4
 go_wp2
 go_ret
 exact ⟨by first | rfl | simp,hB⟩
end Go.Proofs.YtgigccjiblaefaaGreatDoor
