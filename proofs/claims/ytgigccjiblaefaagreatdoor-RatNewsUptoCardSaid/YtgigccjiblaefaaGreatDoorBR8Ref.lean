/- What this claim leans on. -/
import Derived.Test.YtgigccjiblaefaaGreatDoorBW7LikeQ
namespace Go.Proofs.YtgigccjiblaefaaGreatDoor
open Go Go.RowKit
set_option maxRecDepth 100000
set_option linter.unusedVariables false
set_option linter.unusedSimpArgs false
def zec (w : World) (r : Rat) (b : Bool) (A : Option Addr) (n c : Nat) (E : Option Addr) (k f : Nat) : Prop := zba w r.num b A n c ∧ zal w r.den E k f
theorem zec.below {w w' : World} {r : Rat} {b : Bool} {A : Option Addr} {n c : Nat} {E : Option Addr} {k f : Nat} (h : zec w r b A n c E k f) (hb : Below w.heap.size w w') : zec w' r b A n c E k f := ⟨h.1.below hb, h.2.below hb⟩
theorem zec.to {w : World} {r s : Rat} {b : Bool} {A : Option Addr} {n c : Nat} {E : Option Addr} {k f : Nat} (e : r = s) (h : zec w r b A n c E k f) : zec w s b A n c E k f := e ▸ h
def zdO (w : World) (r : Rat) (e : Ending) (w' : World) : Prop := ∃ (b : Bool) (A : Option Addr) (n c : Nat) (E : Option Addr) (k f : Nat), e = .returned (.agg #[.bool b, .slice A n c, .slice E k f]) ∧ zec w' r b A n c E k f ∧ Below w.heap.size w w'
theorem zlm {w w' : World} {r : Rat} {b : Bool} {A : Option Addr} {n c : Nat} {E : Option Addr} {k f : Nat} {g : Nat} {t : TypeId} {cs : Array Value} (h : zec w r b A n c E k f) (hk : Blk w g t cs) (hcs : NoU cs) (ho : zdD g w w') : zec w' r b A n c E k f := ⟨ref_off h.1 hk hcs ho, zgQ h.2 hk hcs ho⟩
theorem gr3 {w W : World} {r : Rat} {g : Nat} {t : TypeId} {b : Bool} {A E : Option Addr} {n c k f : Nat} {p : Bool} {q q2 : Option Addr} {r1 s r2 s2 : Nat} (h : zec W r b A n c E k f) (kd : Blk W g t #[.bool p, .slice q r1 s, .slice q2 r2 s2]) (hB : Below w.heap.size w W) (hg : w.heap.size ≤ g) : zdO w r (.returned (.agg #[.bool b, .slice A n c, .slice E k f])) (((W.setCell ⟨g, 0, none⟩ (.bool b)).setCell ⟨g, 1, none⟩ (.slice A n c)).setCell ⟨g, 2, none⟩ (.slice E k f)) :=
 ⟨_, _, _, _, _, _, _, rfl, zlm h kd (NoU.s3 _ _ _ _ _ _ _) (off3 _ _ _ _ _), bl3 _ _ _ hg hB⟩
theorem zal.to {w : World} {x y : Nat} {A : Option Addr} {n c : Nat} (e : x = y) (h : zal w x A n c) : zal w y A n c := e ▸ h
theorem zdh (p d : Int) (hd : d ≠ 0) (s : Bool) (hs : s = (decide (p < 0) != decide (d < 0))) : sgI s (p.natAbs / Nat.gcd p.natAbs d.natAbs) = (Rat.divInt p d).num ∧ d.natAbs / Nat.gcd p.natAbs d.natAbs = (Rat.divInt p d).den := by
 refine ⟨?_, (ziz p d hd).symm⟩
 have h1 := zif p d hd
 have h2 := zgK p d hd
 rw [← h1]
 generalize (Rat.divInt p d).num = z at *
 unfold sgI
 by_cases hp : p < 0
 ·by_cases hq : d < 0
  ·rw [decide_eq_true hp, decide_eq_true hq] at hs; subst hs; simp; omega
  ·rw [decide_eq_true hp, decide_eq_false hq] at hs; subst hs; simp; omega
 ·by_cases hq : d < 0
  ·rw [decide_eq_false hp, decide_eq_true hq] at hs; subst hs; simp
   by_cases h0 : p = 0
   ·subst h0; simp at h1; omega
   ·omega
  ·rw [decide_eq_false hp, decide_eq_false hq] at hs; subst hs; simp; omega
set_option maxHeartbeats 16000000 in
theorem ziS (p : Int) (d : Int) (baa : Bool) (Baa : Option Addr) (maa daa : Nat) (bab : Bool) (Bab : Option Addr) (mab dab : Nat) (Kp : Nat) (Kd : Nat) (w : World) (zaa : Sz Kp p.natAbs) (haa : zba w p baa Baa maa daa) (zab : Sz Kd d.natAbs) (hab : zba w d bab Bab mab dab) (qaa : Kp ≤ 16777216) (qab : Kd ≤ 16777216) (h0 : d ≠ 0) (hp : p < 0) (hd : d < 0) :
  Calls Tryz.prog 15 #[.agg #[.bool baa, .slice Baa maa daa], .agg #[.bool bab, .slice Bab mab dab]] w (zdO w (Rat.divInt p d)) := by
 have HG0 : Hid (Nat.gcd p.natAbs d.natAbs ≠ 0) := Nat.gcd_ne_zero_right (by omega)
 have HMP := Lib.hid (zdh p d h0 false (by simp [hp, hd]))
 have Hsp := Lib.hid hp
 have Hsd := Lib.hid hd
 clear h0 hp hd
 have HNaa := Lib.hid haa
 have HZaa := Lib.hid zaa
 have HNab := Lib.hid hab
 have HZab := Lib.hid zab
 have HNaaq := Lib.hid HNaa.out.2
 have HZaaq : Hid (Sz Kp p.natAbs) := HZaa.out
 have HNabq := Lib.hid HNab.out.2
 have HZabq : Hid (Sz Kd d.natAbs) := HZab.out
 clear haa zaa hab zab
 go_enter Tryz.func15, Tryz.ntmps15
 have hB := Below.refl w.heap.size w
 obtain ⟨bx1, bx2, bx3, bx4, bz⟩ := zbe w 38 38 42 #[.bool baa, .slice Baa maa daa] #[.bool bab, .slice Bab mab dab] #[.bool false, .slice none 0 0, .slice none 0 0]
 have hB := zad hB bx1
 have HNaa := Lib.hid (HNaa.out.below bx1)
 have HNaaq := Lib.hid (HNaaq.out.below bx1)
 have HNab := Lib.hid (HNab.out.below bx1)
 have HNabq := Lib.hid (HNabq.out.below bx1)
 obtain ⟨g1, e1⟩ := bx2.c2
 obtain ⟨g2, e2⟩ := bx3.c2
 have k3 := bx4
 clear bx1 bx2 bx3 bx4 bz
 go_wp2_with fail
 generalize ((w.alloc (.cells #[.bool baa, .slice Baa maa daa] 38)).alloc (.cells #[.bool bab, .slice Bab mab dab] 38)).alloc (.cells #[.bool false, .slice none 0 0, .slice none 0 0] 42) = W1 at *
 have HZ4 : Hid (Sz (Kp + Kd) (Nat.gcd p.natAbs d.natAbs)) := Sz.gcd HZaaq.out HZabq.out
 (with_reducible refine (zcv (p.natAbs) (d.natAbs) Baa Bab maa mab daa dab _ HNaaq.out HNabq.out (by have := Sz.holds' HZaaq.out HNaaq.out; omega) (by have := Sz.holds' HZabq.out HNabq.out; omega)).mono ?_)
 rintro e wc2 ⟨C4, r4, f4, rfl, hw4, hb⟩
 have hB := zad hB hb
 have HNaa := Lib.hid (HNaa.out.below hb)
 have HNaaq := Lib.hid (HNaaq.out.below hb)
 have HNab := Lib.hid (HNab.out.below hb)
 have HNabq := Lib.hid (HNabq.out.below hb)
 have g1 := zac hb g1
 have e1 := zac hb e1
 have g2 := zac hb g2
 have e2 := zac hb e2
 have k3 := zae hb k3
 have HN4 := Lib.hid hw4
 clear hb hw4
 go_wp2_with fail
 have HZ5 : Hid (Sz (Kp) (p.natAbs / (Nat.gcd p.natAbs d.natAbs))) := Sz.of_le HZaaq.out (Nat.div_le_self _ _)
 have HZ6 : Hid (Sz (Kp) (p.natAbs % (Nat.gcd p.natAbs d.natAbs))) := Sz.of_le HZaaq.out (Nat.mod_le _ _)
 (with_reducible refine (zbj (p.natAbs) (Nat.gcd p.natAbs d.natAbs) Baa C4 maa r4 daa f4 _ HNaaq.out HN4.out (by have := Sz.holds' HZaaq.out HNaaq.out; omega) (by have := Sz.holds' HZ4.out HN4.out; omega) HG0.out).mono ?_)
 rintro e wc3 ⟨C5, r5, f5, C6, r6, f6, rfl, hw5, hw6, hb⟩
 have hB := zad hB hb
 have HNaa := Lib.hid (HNaa.out.below hb)
 have HNaaq := Lib.hid (HNaaq.out.below hb)
 have HNab := Lib.hid (HNab.out.below hb)
 have HNabq := Lib.hid (HNabq.out.below hb)
 have g1 := zac hb g1
 have e1 := zac hb e1
 have g2 := zac hb g2
 have e2 := zac hb e2
 have k3 := zae hb k3
 have HN4 := Lib.hid (HN4.out.below hb)
 have HN5 := Lib.hid hw5
 have HN6 := Lib.hid hw6
 clear hb hw5 hw6
 go_wp2_with fail
 have HZ7 : Hid (Sz (Kd) (d.natAbs / (Nat.gcd p.natAbs d.natAbs))) := Sz.of_le HZabq.out (Nat.div_le_self _ _)
 have HZ8 : Hid (Sz (Kd) (d.natAbs % (Nat.gcd p.natAbs d.natAbs))) := Sz.of_le HZabq.out (Nat.mod_le _ _)
 (with_reducible refine (zbj (d.natAbs) (Nat.gcd p.natAbs d.natAbs) Bab C4 mab r4 dab f4 _ HNabq.out HN4.out (by have := Sz.holds' HZabq.out HNabq.out; omega) (by have := Sz.holds' HZ4.out HN4.out; omega) HG0.out).mono ?_)
 rintro e wc4 ⟨C7, r7, f7, C8, r8, f8, rfl, hw7, hw8, hb⟩
 have hB := zad hB hb
 have HNaa := Lib.hid (HNaa.out.below hb)
 have HNaaq := Lib.hid (HNaaq.out.below hb)
 have HNab := Lib.hid (HNab.out.below hb)
 have HNabq := Lib.hid (HNabq.out.below hb)
 have g1 := zac hb g1
 have e1 := zac hb e1
 have g2 := zac hb g2
 have e2 := zac hb e2
 have k3 := zae hb k3
 have HN4 := Lib.hid (HN4.out.below hb)
 have HN5 := Lib.hid (HN5.out.below hb)
 have HN6 := Lib.hid (HN6.out.below hb)
 have HN7 := Lib.hid hw7
 have HN8 := Lib.hid hw8
 clear hb hw7 hw8
 obtain rfl : baa = true := HNaa.out.1.trans (decide_eq_true (by have := Hsp.out; omega))
 obtain rfl : bab = true := HNab.out.1.trans (decide_eq_true (by have := Hsd.out; omega))
 go_wp2_with fail
 have HZ9 : Hid (Sz (Kp) (sgI false (p.natAbs / (Nat.gcd p.natAbs d.natAbs))).natAbs) := (by rw [zeJ]; exact HZ5.out)
 (with_reducible refine (zdN false (p.natAbs / (Nat.gcd p.natAbs d.natAbs)) C5 r5 f5 _ HN5.out (by have := Sz.holds' HZ5.out HN5.out; omega)).mono ?_)
 rintro e wc5 ⟨b9, B9, m9, d9, rfl, hw9, hb⟩
 have hB := zad hB hb
 have HNaa := Lib.hid (HNaa.out.below hb)
 have HNaaq := Lib.hid (HNaaq.out.below hb)
 have HNab := Lib.hid (HNab.out.below hb)
 have HNabq := Lib.hid (HNabq.out.below hb)
 have g1 := zac hb g1
 have e1 := zac hb e1
 have g2 := zac hb g2
 have e2 := zac hb e2
 have k3 := zae hb k3
 have HN4 := Lib.hid (HN4.out.below hb)
 have HN5 := Lib.hid (HN5.out.below hb)
 have HN6 := Lib.hid (HN6.out.below hb)
 have HN7 := Lib.hid (HN7.out.below hb)
 have HN8 := Lib.hid (HN8.out.below hb)
 have HN9 := Lib.hid hw9
 clear hb hw9
 obtain ⟨sc0, sf0, sc1, sf1, sc2, sf2⟩ := st3 k3 (.bool b9) (.slice B9 m9 d9)
 obtain ⟨r0, r1, r2⟩ := (sn3 k3 (.bool b9) (.slice B9 m9 d9) (.slice C7 r7 f7)).c3
 have HG := Lib.hid (gr3 (⟨zba.to HMP.out.1 HN9.out, zal.to HMP.out.2 HN7.out⟩) k3 hB (by omega))
 go_wp2
 refine bodyPost_ret (v := .agg #[.bool b9, .slice B9 m9 d9, .slice C7 r7 f7]) (by simp [results, Tryz.results15, go_sem, r0, r1, r2]) rfl ?_
 exact HG.out
set_option maxHeartbeats 16000000 in
theorem zju (p : Int) (d : Int) (baa : Bool) (Baa : Option Addr) (maa daa : Nat) (bab : Bool) (Bab : Option Addr) (mab dab : Nat) (Kp : Nat) (Kd : Nat) (w : World) (zaa : Sz Kp p.natAbs) (haa : zba w p baa Baa maa daa) (zab : Sz Kd d.natAbs) (hab : zba w d bab Bab mab dab) (qaa : Kp ≤ 16777216) (qab : Kd ≤ 16777216) (h0 : d ≠ 0) (hp : p < 0) (hd : ¬ d < 0) :
  Calls Tryz.prog 15 #[.agg #[.bool baa, .slice Baa maa daa], .agg #[.bool bab, .slice Bab mab dab]] w (zdO w (Rat.divInt p d)) := by
 have HG0 : Hid (Nat.gcd p.natAbs d.natAbs ≠ 0) := Nat.gcd_ne_zero_right (by omega)
 have HMP := Lib.hid (zdh p d h0 true (by simp [hp, hd]))
 have Hsp := Lib.hid hp
 have Hsd := Lib.hid hd
 clear h0 hp hd
 have HNaa := Lib.hid haa
 have HZaa := Lib.hid zaa
 have HNab := Lib.hid hab
 have HZab := Lib.hid zab
 have HNaaq := Lib.hid HNaa.out.2
 have HZaaq : Hid (Sz Kp p.natAbs) := HZaa.out
 have HNabq := Lib.hid HNab.out.2
 have HZabq : Hid (Sz Kd d.natAbs) := HZab.out
 clear haa zaa hab zab
 go_enter Tryz.func15, Tryz.ntmps15
 have hB := Below.refl w.heap.size w
 obtain ⟨bx1, bx2, bx3, bx4, bz⟩ := zbe w 38 38 42 #[.bool baa, .slice Baa maa daa] #[.bool bab, .slice Bab mab dab] #[.bool false, .slice none 0 0, .slice none 0 0]
 have hB := zad hB bx1
 have HNaa := Lib.hid (HNaa.out.below bx1)
 have HNaaq := Lib.hid (HNaaq.out.below bx1)
 have HNab := Lib.hid (HNab.out.below bx1)
 have HNabq := Lib.hid (HNabq.out.below bx1)
 obtain ⟨g1, e1⟩ := bx2.c2
 obtain ⟨g2, e2⟩ := bx3.c2
 have k3 := bx4
 clear bx1 bx2 bx3 bx4 bz
 go_wp2_with fail
 generalize ((w.alloc (.cells #[.bool baa, .slice Baa maa daa] 38)).alloc (.cells #[.bool bab, .slice Bab mab dab] 38)).alloc (.cells #[.bool false, .slice none 0 0, .slice none 0 0] 42) = W1 at *
 have HZ4 : Hid (Sz (Kp + Kd) (Nat.gcd p.natAbs d.natAbs)) := Sz.gcd HZaaq.out HZabq.out
 (with_reducible refine (zcv (p.natAbs) (d.natAbs) Baa Bab maa mab daa dab _ HNaaq.out HNabq.out (by have := Sz.holds' HZaaq.out HNaaq.out; omega) (by have := Sz.holds' HZabq.out HNabq.out; omega)).mono ?_)
 rintro e wc2 ⟨C4, r4, f4, rfl, hw4, hb⟩
 have hB := zad hB hb
 have HNaa := Lib.hid (HNaa.out.below hb)
 have HNaaq := Lib.hid (HNaaq.out.below hb)
 have HNab := Lib.hid (HNab.out.below hb)
 have HNabq := Lib.hid (HNabq.out.below hb)
 have g1 := zac hb g1
 have e1 := zac hb e1
 have g2 := zac hb g2
 have e2 := zac hb e2
 have k3 := zae hb k3
 have HN4 := Lib.hid hw4
 clear hb hw4
 go_wp2_with fail
 have HZ5 : Hid (Sz (Kp) (p.natAbs / (Nat.gcd p.natAbs d.natAbs))) := Sz.of_le HZaaq.out (Nat.div_le_self _ _)
 have HZ6 : Hid (Sz (Kp) (p.natAbs % (Nat.gcd p.natAbs d.natAbs))) := Sz.of_le HZaaq.out (Nat.mod_le _ _)
 (with_reducible refine (zbj (p.natAbs) (Nat.gcd p.natAbs d.natAbs) Baa C4 maa r4 daa f4 _ HNaaq.out HN4.out (by have := Sz.holds' HZaaq.out HNaaq.out; omega) (by have := Sz.holds' HZ4.out HN4.out; omega) HG0.out).mono ?_)
 rintro e wc3 ⟨C5, r5, f5, C6, r6, f6, rfl, hw5, hw6, hb⟩
 have hB := zad hB hb
 have HNaa := Lib.hid (HNaa.out.below hb)
 have HNaaq := Lib.hid (HNaaq.out.below hb)
 have HNab := Lib.hid (HNab.out.below hb)
 have HNabq := Lib.hid (HNabq.out.below hb)
 have g1 := zac hb g1
 have e1 := zac hb e1
 have g2 := zac hb g2
 have e2 := zac hb e2
 have k3 := zae hb k3
 have HN4 := Lib.hid (HN4.out.below hb)
 have HN5 := Lib.hid hw5
 have HN6 := Lib.hid hw6
 clear hb hw5 hw6
 go_wp2_with fail
 have HZ7 : Hid (Sz (Kd) (d.natAbs / (Nat.gcd p.natAbs d.natAbs))) := Sz.of_le HZabq.out (Nat.div_le_self _ _)
 have HZ8 : Hid (Sz (Kd) (d.natAbs % (Nat.gcd p.natAbs d.natAbs))) := Sz.of_le HZabq.out (Nat.mod_le _ _)
 (with_reducible refine (zbj (d.natAbs) (Nat.gcd p.natAbs d.natAbs) Bab C4 mab r4 dab f4 _ HNabq.out HN4.out (by have := Sz.holds' HZabq.out HNabq.out; omega) (by have := Sz.holds' HZ4.out HN4.out; omega) HG0.out).mono ?_)
 rintro e wc4 ⟨C7, r7, f7, C8, r8, f8, rfl, hw7, hw8, hb⟩
 have hB := zad hB hb
 have HNaa := Lib.hid (HNaa.out.below hb)
 have HNaaq := Lib.hid (HNaaq.out.below hb)
 have HNab := Lib.hid (HNab.out.below hb)
 have HNabq := Lib.hid (HNabq.out.below hb)
 have g1 := zac hb g1
 have e1 := zac hb e1
 have g2 := zac hb g2
 have e2 := zac hb e2
 have k3 := zae hb k3
 have HN4 := Lib.hid (HN4.out.below hb)
 have HN5 := Lib.hid (HN5.out.below hb)
 have HN6 := Lib.hid (HN6.out.below hb)
 have HN7 := Lib.hid hw7
 have HN8 := Lib.hid hw8
 clear hb hw7 hw8
 obtain rfl : baa = true := HNaa.out.1.trans (decide_eq_true (by have := Hsp.out; omega))
 obtain rfl : bab = false := HNab.out.1.trans (decide_eq_false (by have := Hsd.out; omega))
 go_wp2_with fail
 have HZ9 : Hid (Sz (Kp) (sgI true (p.natAbs / (Nat.gcd p.natAbs d.natAbs))).natAbs) := (by rw [zeJ]; exact HZ5.out)
 (with_reducible refine (zdN true (p.natAbs / (Nat.gcd p.natAbs d.natAbs)) C5 r5 f5 _ HN5.out (by have := Sz.holds' HZ5.out HN5.out; omega)).mono ?_)
 rintro e wc5 ⟨b9, B9, m9, d9, rfl, hw9, hb⟩
 have hB := zad hB hb
 have HNaa := Lib.hid (HNaa.out.below hb)
 have HNaaq := Lib.hid (HNaaq.out.below hb)
 have HNab := Lib.hid (HNab.out.below hb)
 have HNabq := Lib.hid (HNabq.out.below hb)
 have g1 := zac hb g1
 have e1 := zac hb e1
 have g2 := zac hb g2
 have e2 := zac hb e2
 have k3 := zae hb k3
 have HN4 := Lib.hid (HN4.out.below hb)
 have HN5 := Lib.hid (HN5.out.below hb)
 have HN6 := Lib.hid (HN6.out.below hb)
 have HN7 := Lib.hid (HN7.out.below hb)
 have HN8 := Lib.hid (HN8.out.below hb)
 have HN9 := Lib.hid hw9
 clear hb hw9
 obtain ⟨sc0, sf0, sc1, sf1, sc2, sf2⟩ := st3 k3 (.bool b9) (.slice B9 m9 d9)
 obtain ⟨r0, r1, r2⟩ := (sn3 k3 (.bool b9) (.slice B9 m9 d9) (.slice C7 r7 f7)).c3
 have HG := Lib.hid (gr3 (⟨zba.to HMP.out.1 HN9.out, zal.to HMP.out.2 HN7.out⟩) k3 hB (by omega))
 go_wp2
 refine bodyPost_ret (v := .agg #[.bool b9, .slice B9 m9 d9, .slice C7 r7 f7]) (by simp [results, Tryz.results15, go_sem, r0, r1, r2]) rfl ?_
 exact HG.out
set_option maxHeartbeats 16000000 in
theorem zjk (p : Int) (d : Int) (baa : Bool) (Baa : Option Addr) (maa daa : Nat) (bab : Bool) (Bab : Option Addr) (mab dab : Nat) (Kp : Nat) (Kd : Nat) (w : World) (zaa : Sz Kp p.natAbs) (haa : zba w p baa Baa maa daa) (zab : Sz Kd d.natAbs) (hab : zba w d bab Bab mab dab) (qaa : Kp ≤ 16777216) (qab : Kd ≤ 16777216) (h0 : d ≠ 0) (hp : ¬ p < 0) (hd : d < 0) :
  Calls Tryz.prog 15 #[.agg #[.bool baa, .slice Baa maa daa], .agg #[.bool bab, .slice Bab mab dab]] w (zdO w (Rat.divInt p d)) := by
 have HG0 : Hid (Nat.gcd p.natAbs d.natAbs ≠ 0) := Nat.gcd_ne_zero_right (by omega)
 have HMP := Lib.hid (zdh p d h0 true (by simp [hp, hd]))
 have Hsp := Lib.hid hp
 have Hsd := Lib.hid hd
 clear h0 hp hd
 have HNaa := Lib.hid haa
 have HZaa := Lib.hid zaa
 have HNab := Lib.hid hab
 have HZab := Lib.hid zab
 have HNaaq := Lib.hid HNaa.out.2
 have HZaaq : Hid (Sz Kp p.natAbs) := HZaa.out
 have HNabq := Lib.hid HNab.out.2
 have HZabq : Hid (Sz Kd d.natAbs) := HZab.out
 clear haa zaa hab zab
 go_enter Tryz.func15, Tryz.ntmps15
 have hB := Below.refl w.heap.size w
 obtain ⟨bx1, bx2, bx3, bx4, bz⟩ := zbe w 38 38 42 #[.bool baa, .slice Baa maa daa] #[.bool bab, .slice Bab mab dab] #[.bool false, .slice none 0 0, .slice none 0 0]
 have hB := zad hB bx1
 have HNaa := Lib.hid (HNaa.out.below bx1)
 have HNaaq := Lib.hid (HNaaq.out.below bx1)
 have HNab := Lib.hid (HNab.out.below bx1)
 have HNabq := Lib.hid (HNabq.out.below bx1)
 obtain ⟨g1, e1⟩ := bx2.c2
 obtain ⟨g2, e2⟩ := bx3.c2
 have k3 := bx4
 clear bx1 bx2 bx3 bx4 bz
 go_wp2_with fail
 generalize ((w.alloc (.cells #[.bool baa, .slice Baa maa daa] 38)).alloc (.cells #[.bool bab, .slice Bab mab dab] 38)).alloc (.cells #[.bool false, .slice none 0 0, .slice none 0 0] 42) = W1 at *
 have HZ4 : Hid (Sz (Kp + Kd) (Nat.gcd p.natAbs d.natAbs)) := Sz.gcd HZaaq.out HZabq.out
 (with_reducible refine (zcv (p.natAbs) (d.natAbs) Baa Bab maa mab daa dab _ HNaaq.out HNabq.out (by have := Sz.holds' HZaaq.out HNaaq.out; omega) (by have := Sz.holds' HZabq.out HNabq.out; omega)).mono ?_)
 rintro e wc2 ⟨C4, r4, f4, rfl, hw4, hb⟩
 have hB := zad hB hb
 have HNaa := Lib.hid (HNaa.out.below hb)
 have HNaaq := Lib.hid (HNaaq.out.below hb)
 have HNab := Lib.hid (HNab.out.below hb)
 have HNabq := Lib.hid (HNabq.out.below hb)
 have g1 := zac hb g1
 have e1 := zac hb e1
 have g2 := zac hb g2
 have e2 := zac hb e2
 have k3 := zae hb k3
 have HN4 := Lib.hid hw4
 clear hb hw4
 go_wp2_with fail
 have HZ5 : Hid (Sz (Kp) (p.natAbs / (Nat.gcd p.natAbs d.natAbs))) := Sz.of_le HZaaq.out (Nat.div_le_self _ _)
 have HZ6 : Hid (Sz (Kp) (p.natAbs % (Nat.gcd p.natAbs d.natAbs))) := Sz.of_le HZaaq.out (Nat.mod_le _ _)
 (with_reducible refine (zbj (p.natAbs) (Nat.gcd p.natAbs d.natAbs) Baa C4 maa r4 daa f4 _ HNaaq.out HN4.out (by have := Sz.holds' HZaaq.out HNaaq.out; omega) (by have := Sz.holds' HZ4.out HN4.out; omega) HG0.out).mono ?_)
 rintro e wc3 ⟨C5, r5, f5, C6, r6, f6, rfl, hw5, hw6, hb⟩
 have hB := zad hB hb
 have HNaa := Lib.hid (HNaa.out.below hb)
 have HNaaq := Lib.hid (HNaaq.out.below hb)
 have HNab := Lib.hid (HNab.out.below hb)
 have HNabq := Lib.hid (HNabq.out.below hb)
 have g1 := zac hb g1
 have e1 := zac hb e1
 have g2 := zac hb g2
 have e2 := zac hb e2
 have k3 := zae hb k3
 have HN4 := Lib.hid (HN4.out.below hb)
 have HN5 := Lib.hid hw5
 have HN6 := Lib.hid hw6
 clear hb hw5 hw6
 go_wp2_with fail
 have HZ7 : Hid (Sz (Kd) (d.natAbs / (Nat.gcd p.natAbs d.natAbs))) := Sz.of_le HZabq.out (Nat.div_le_self _ _)
 have HZ8 : Hid (Sz (Kd) (d.natAbs % (Nat.gcd p.natAbs d.natAbs))) := Sz.of_le HZabq.out (Nat.mod_le _ _)
 (with_reducible refine (zbj (d.natAbs) (Nat.gcd p.natAbs d.natAbs) Bab C4 mab r4 dab f4 _ HNabq.out HN4.out (by have := Sz.holds' HZabq.out HNabq.out; omega) (by have := Sz.holds' HZ4.out HN4.out; omega) HG0.out).mono ?_)
 rintro e wc4 ⟨C7, r7, f7, C8, r8, f8, rfl, hw7, hw8, hb⟩
 have hB := zad hB hb
 have HNaa := Lib.hid (HNaa.out.below hb)
 have HNaaq := Lib.hid (HNaaq.out.below hb)
 have HNab := Lib.hid (HNab.out.below hb)
 have HNabq := Lib.hid (HNabq.out.below hb)
 have g1 := zac hb g1
 have e1 := zac hb e1
 have g2 := zac hb g2
 have e2 := zac hb e2
 have k3 := zae hb k3
 have HN4 := Lib.hid (HN4.out.below hb)
 have HN5 := Lib.hid (HN5.out.below hb)
 have HN6 := Lib.hid (HN6.out.below hb)
 have HN7 := Lib.hid hw7
 have HN8 := Lib.hid hw8
 clear hb hw7 hw8
 obtain rfl : baa = false := HNaa.out.1.trans (decide_eq_false (by have := Hsp.out; omega))
 obtain rfl : bab = true := HNab.out.1.trans (decide_eq_true (by have := Hsd.out; omega))
 go_wp2_with fail
 have HZ9 : Hid (Sz (Kp) (sgI true (p.natAbs / (Nat.gcd p.natAbs d.natAbs))).natAbs) := (by rw [zeJ]; exact HZ5.out)
 (with_reducible refine (zdN true (p.natAbs / (Nat.gcd p.natAbs d.natAbs)) C5 r5 f5 _ HN5.out (by have := Sz.holds' HZ5.out HN5.out; omega)).mono ?_)
 rintro e wc5 ⟨b9, B9, m9, d9, rfl, hw9, hb⟩
 have hB := zad hB hb
 have HNaa := Lib.hid (HNaa.out.below hb)
 have HNaaq := Lib.hid (HNaaq.out.below hb)
 have HNab := Lib.hid (HNab.out.below hb)
 have HNabq := Lib.hid (HNabq.out.below hb)
 have g1 := zac hb g1
 have e1 := zac hb e1
 have g2 := zac hb g2
 have e2 := zac hb e2
 have k3 := zae hb k3
 have HN4 := Lib.hid (HN4.out.below hb)
 have HN5 := Lib.hid (HN5.out.below hb)
 have HN6 := Lib.hid (HN6.out.below hb)
 have HN7 := Lib.hid (HN7.out.below hb)
 have HN8 := Lib.hid (HN8.out.below hb)
 have HN9 := Lib.hid hw9
 clear hb hw9
 obtain ⟨sc0, sf0, sc1, sf1, sc2, sf2⟩ := st3 k3 (.bool b9) (.slice B9 m9 d9)
 obtain ⟨r0, r1, r2⟩ := (sn3 k3 (.bool b9) (.slice B9 m9 d9) (.slice C7 r7 f7)).c3
 have HG := Lib.hid (gr3 (⟨zba.to HMP.out.1 HN9.out, zal.to HMP.out.2 HN7.out⟩) k3 hB (by omega))
 go_wp2
 refine bodyPost_ret (v := .agg #[.bool b9, .slice B9 m9 d9, .slice C7 r7 f7]) (by simp [results, Tryz.results15, go_sem, r0, r1, r2]) rfl ?_
 exact HG.out
set_option maxHeartbeats 16000000 in
theorem zjn (p : Int) (d : Int) (baa : Bool) (Baa : Option Addr) (maa daa : Nat) (bab : Bool) (Bab : Option Addr) (mab dab : Nat) (Kp : Nat) (Kd : Nat) (w : World) (zaa : Sz Kp p.natAbs) (haa : zba w p baa Baa maa daa) (zab : Sz Kd d.natAbs) (hab : zba w d bab Bab mab dab) (qaa : Kp ≤ 16777216) (qab : Kd ≤ 16777216) (h0 : d ≠ 0) (hp : ¬ p < 0) (hd : ¬ d < 0) :
  Calls Tryz.prog 15 #[.agg #[.bool baa, .slice Baa maa daa], .agg #[.bool bab, .slice Bab mab dab]] w (zdO w (Rat.divInt p d)) := by
 have HG0 : Hid (Nat.gcd p.natAbs d.natAbs ≠ 0) := Nat.gcd_ne_zero_right (by omega)
 have HMP := Lib.hid (zdh p d h0 false (by simp [hp, hd]))
 have Hsp := Lib.hid hp
 have Hsd := Lib.hid hd
 clear h0 hp hd
 have HNaa := Lib.hid haa
 have HZaa := Lib.hid zaa
 have HNab := Lib.hid hab
 have HZab := Lib.hid zab
 have HNaaq := Lib.hid HNaa.out.2
 have HZaaq : Hid (Sz Kp p.natAbs) := HZaa.out
 have HNabq := Lib.hid HNab.out.2
 have HZabq : Hid (Sz Kd d.natAbs) := HZab.out
 clear haa zaa hab zab
 go_enter Tryz.func15, Tryz.ntmps15
 have hB := Below.refl w.heap.size w
 obtain ⟨bx1, bx2, bx3, bx4, bz⟩ := zbe w 38 38 42 #[.bool baa, .slice Baa maa daa] #[.bool bab, .slice Bab mab dab] #[.bool false, .slice none 0 0, .slice none 0 0]
 have hB := zad hB bx1
 have HNaa := Lib.hid (HNaa.out.below bx1)
 have HNaaq := Lib.hid (HNaaq.out.below bx1)
 have HNab := Lib.hid (HNab.out.below bx1)
 have HNabq := Lib.hid (HNabq.out.below bx1)
 obtain ⟨g1, e1⟩ := bx2.c2
 obtain ⟨g2, e2⟩ := bx3.c2
 have k3 := bx4
 clear bx1 bx2 bx3 bx4 bz
 go_wp2_with fail
 generalize ((w.alloc (.cells #[.bool baa, .slice Baa maa daa] 38)).alloc (.cells #[.bool bab, .slice Bab mab dab] 38)).alloc (.cells #[.bool false, .slice none 0 0, .slice none 0 0] 42) = W1 at *
 have HZ4 : Hid (Sz (Kp + Kd) (Nat.gcd p.natAbs d.natAbs)) := Sz.gcd HZaaq.out HZabq.out
 (with_reducible refine (zcv (p.natAbs) (d.natAbs) Baa Bab maa mab daa dab _ HNaaq.out HNabq.out (by have := Sz.holds' HZaaq.out HNaaq.out; omega) (by have := Sz.holds' HZabq.out HNabq.out; omega)).mono ?_)
 rintro e wc2 ⟨C4, r4, f4, rfl, hw4, hb⟩
 have hB := zad hB hb
 have HNaa := Lib.hid (HNaa.out.below hb)
 have HNaaq := Lib.hid (HNaaq.out.below hb)
 have HNab := Lib.hid (HNab.out.below hb)
 have HNabq := Lib.hid (HNabq.out.below hb)
 have g1 := zac hb g1
 have e1 := zac hb e1
 have g2 := zac hb g2
 have e2 := zac hb e2
 have k3 := zae hb k3
 have HN4 := Lib.hid hw4
 clear hb hw4
 go_wp2_with fail
 have HZ5 : Hid (Sz (Kp) (p.natAbs / (Nat.gcd p.natAbs d.natAbs))) := Sz.of_le HZaaq.out (Nat.div_le_self _ _)
 have HZ6 : Hid (Sz (Kp) (p.natAbs % (Nat.gcd p.natAbs d.natAbs))) := Sz.of_le HZaaq.out (Nat.mod_le _ _)
 (with_reducible refine (zbj (p.natAbs) (Nat.gcd p.natAbs d.natAbs) Baa C4 maa r4 daa f4 _ HNaaq.out HN4.out (by have := Sz.holds' HZaaq.out HNaaq.out; omega) (by have := Sz.holds' HZ4.out HN4.out; omega) HG0.out).mono ?_)
 rintro e wc3 ⟨C5, r5, f5, C6, r6, f6, rfl, hw5, hw6, hb⟩
 have hB := zad hB hb
 have HNaa := Lib.hid (HNaa.out.below hb)
 have HNaaq := Lib.hid (HNaaq.out.below hb)
 have HNab := Lib.hid (HNab.out.below hb)
 have HNabq := Lib.hid (HNabq.out.below hb)
 have g1 := zac hb g1
 have e1 := zac hb e1
 have g2 := zac hb g2
 have e2 := zac hb e2
 have k3 := zae hb k3
 have HN4 := Lib.hid (HN4.out.below hb)
 have HN5 := Lib.hid hw5
 have HN6 := Lib.hid hw6
 clear hb hw5 hw6
 go_wp2_with fail
 have HZ7 : Hid (Sz (Kd) (d.natAbs / (Nat.gcd p.natAbs d.natAbs))) := Sz.of_le HZabq.out (Nat.div_le_self _ _)
 have HZ8 : Hid (Sz (Kd) (d.natAbs % (Nat.gcd p.natAbs d.natAbs))) := Sz.of_le HZabq.out (Nat.mod_le _ _)
 (with_reducible refine (zbj (d.natAbs) (Nat.gcd p.natAbs d.natAbs) Bab C4 mab r4 dab f4 _ HNabq.out HN4.out (by have := Sz.holds' HZabq.out HNabq.out; omega) (by have := Sz.holds' HZ4.out HN4.out; omega) HG0.out).mono ?_)
 rintro e wc4 ⟨C7, r7, f7, C8, r8, f8, rfl, hw7, hw8, hb⟩
 have hB := zad hB hb
 have HNaa := Lib.hid (HNaa.out.below hb)
 have HNaaq := Lib.hid (HNaaq.out.below hb)
 have HNab := Lib.hid (HNab.out.below hb)
 have HNabq := Lib.hid (HNabq.out.below hb)
 have g1 := zac hb g1
 have e1 := zac hb e1
 have g2 := zac hb g2
 have e2 := zac hb e2
 have k3 := zae hb k3
 have HN4 := Lib.hid (HN4.out.below hb)
 have HN5 := Lib.hid (HN5.out.below hb)
 have HN6 := Lib.hid (HN6.out.below hb)
 have HN7 := Lib.hid hw7
 have HN8 := Lib.hid hw8
 clear hb hw7 hw8
 obtain rfl : baa = false := HNaa.out.1.trans (decide_eq_false (by have := Hsp.out; omega))
 obtain rfl : bab = false := HNab.out.1.trans (decide_eq_false (by have := Hsd.out; omega))
 go_wp2_with fail
 have HZ9 : Hid (Sz (Kp) (sgI false (p.natAbs / (Nat.gcd p.natAbs d.natAbs))).natAbs) := (by rw [zeJ]; exact HZ5.out)
 (with_reducible refine (zdN false (p.natAbs / (Nat.gcd p.natAbs d.natAbs)) C5 r5 f5 _ HN5.out (by have := Sz.holds' HZ5.out HN5.out; omega)).mono ?_)
 rintro e wc5 ⟨b9, B9, m9, d9, rfl, hw9, hb⟩
 have hB := zad hB hb
 have HNaa := Lib.hid (HNaa.out.below hb)
 have HNaaq := Lib.hid (HNaaq.out.below hb)
 have HNab := Lib.hid (HNab.out.below hb)
 have HNabq := Lib.hid (HNabq.out.below hb)
 have g1 := zac hb g1
 have e1 := zac hb e1
 have g2 := zac hb g2
 have e2 := zac hb e2
 have k3 := zae hb k3
 have HN4 := Lib.hid (HN4.out.below hb)
 have HN5 := Lib.hid (HN5.out.below hb)
 have HN6 := Lib.hid (HN6.out.below hb)
 have HN7 := Lib.hid (HN7.out.below hb)
 have HN8 := Lib.hid (HN8.out.below hb)
 have HN9 := Lib.hid hw9
 clear hb hw9
 obtain ⟨sc0, sf0, sc1, sf1, sc2, sf2⟩ := st3 k3 (.bool b9) (.slice B9 m9 d9)
 obtain ⟨r0, r1, r2⟩ := (sn3 k3 (.bool b9) (.slice B9 m9 d9) (.slice C7 r7 f7)).c3
 have HG := Lib.hid (gr3 (⟨zba.to HMP.out.1 HN9.out, zal.to HMP.out.2 HN7.out⟩) k3 hB (by omega))
 go_wp2
 refine bodyPost_ret (v := .agg #[.bool b9, .slice B9 m9 d9, .slice C7 r7 f7]) (by simp [results, Tryz.results15, go_sem, r0, r1, r2]) rfl ?_
 exact HG.out
theorem ref8_new (p : Int) (d : Int) (baa : Bool) (Baa : Option Addr) (maa daa : Nat) (bab : Bool) (Bab : Option Addr) (mab dab : Nat) (Kp : Nat) (Kd : Nat) (w : World) (zaa : Sz Kp p.natAbs) (haa : zba w p baa Baa maa daa) (zab : Sz Kd d.natAbs) (hab : zba w d bab Bab mab dab) (qaa : Kp ≤ 16777216) (qab : Kd ≤ 16777216) (h0 : d ≠ 0) :
  Calls Tryz.prog 15 #[.agg #[.bool baa, .slice Baa maa daa], .agg #[.bool bab, .slice Bab mab dab]] w (zdO w (Rat.divInt p d)) := by
 by_cases hp : p < 0
 ·by_cases hd : d < 0
  ·exact ziS p d baa Baa maa daa bab Bab mab dab Kp Kd w zaa haa zab hab qaa qab h0 hp hd
  ·exact zju p d baa Baa maa daa bab Bab mab dab Kp Kd w zaa haa zab hab qaa qab h0 hp hd
 ·by_cases hd : d < 0
  ·exact zjk p d baa Baa maa daa bab Bab mab dab Kp Kd w zaa haa zab hab qaa qab h0 hp hd
  ·exact zjn p d baa Baa maa daa bab Bab mab dab Kp Kd w zaa haa zab hab qaa qab h0 hp hd
end Go.Proofs.YtgigccjiblaefaaGreatDoor
