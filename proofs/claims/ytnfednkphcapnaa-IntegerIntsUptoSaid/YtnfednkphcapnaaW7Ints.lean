/-
  The walk of the law IntegerInts. Conditions: the ints are ints; integer's functions do as IntC says.
-/
import Derived.Test.YtnfednkphcapnaaRows
import Derived.Test.YtnfednkphcapnaaBunB
import Derived.WalkKit
import Derived.Lib.Hide
import Derived.Outline
import Derived.IntWalk
import Derived.Deep.RegionHeld3
namespace Go.Proofs.Ytnfednkphcapnaa
open Go Go.RowKit
set_option maxRecDepth 100000
set_option linter.unusedVariables false
set_option linter.unusedSimpArgs false
theorem mul_bd30 {p q : Int} (a : -1073741824 ≤ p) (b : p ≤ 1073741823) (c : -1073741824 ≤ q) (d : q ≤ 1073741823) : -1152921504606846976 ≤ p * q ∧ p * q ≤ 1152921504606846976 := by
  have h := Int.natAbs_mul p q
  have h2 : p.natAbs * q.natAbs ≤ 1073741824 * 1073741824 := Nat.mul_le_mul (by omega) (by omega)
  omega
set_option maxHeartbeats 16000000 in
theorem integerInts_1 {T : World → Prop} (hTb : ∀ w w', T w → Below w.heap.size w w' → T w') (IC : IntC T) (x : Int) (a1 : Int) (a2 : Int) (w : World) (h0 : -9223372036854775808 ≤ x ∧ x ≤ 9223372036854775807) (h1 : -2147483648 ≤ a1 ∧ a1 ≤ 2147483647) (h2 : -2147483648 ≤ a2 ∧ a2 ≤ 2147483647) (hlt : a1 / 2 < a2 / 2) (hT : T w) :
    Calls Try.prog 6 #[.int .i64 x, .int .i32 a1, .int .i32 a2] w fun e w' => e = .returned (.bool true) ∧ Below w.heap.size w w' := by
  have HAW := Lib.hid (fun w' (hb : Below w.heap.size w w') => law7_awake hTb IC w' (hTb w w' hT hb))
  have HIC := Lib.hid IC
  have HT := Lib.hid (fun w' (hb : Below w.heap.size w w') => hTb w w' hT hb)
  obtain ⟨p, hp⟩ : ∃ p, a1 / 2 = p := ⟨_, rfl⟩
  obtain ⟨q, hq⟩ : ∃ p, a2 / 2 = p := ⟨_, rfl⟩
  have bp1 : -1073741824 ≤ p := by omega
  have bp2 : p ≤ 1073741823 := by omega
  have bq1 : -1073741824 ≤ q := by omega
  have bq2 : q ≤ 1073741823 := by omega
  obtain ⟨bm1, bm2⟩ : -1152921504606846976 ≤ p * q ∧ p * q ≤ 1152921504606846976 := mul_bd30 bp1 bp2 bq1 bq2
  have wa1 : IntKind.i64.wrap a1 = a1 := IntWalk.i64_in _ (by omega)
  have wa2 : IntKind.i64.wrap a2 = a2 := IntWalk.i64_in _ (by omega)
  have ws1 : IntKind.i64.wrap (p + q) = p + q := IntWalk.i64_in _ (by omega)
  have ws2 : IntKind.i64.wrap (p - q) = p - q := IntWalk.i64_in _ (by omega)
  have ws3 : IntKind.i64.wrap (p * q) = p * q := IntWalk.i64_in _ (by omega)
  rw [hp, hq] at hlt
  obtain ⟨c, hc⟩ : ∃ c, cmpZ p q = c := ⟨_, rfl⟩
  have kc1 : decide (c < 0) = true := by have h9 := cmpZ_lt p q; rw [hc] at h9; simp; omega
  have kc2 : decide (p < q) = true := by simp; omega
  have HC := Lib.hid hc
  clear hc hlt
  clear IC hT 
  go_enter Try.func6, Try.ntmps6
  have hB := Below.refl w.heap.size w
  go_wp2_with fail
  (with_reducible refine (HAW.out _ hB).mono ?_)
  rintro e wc1 ⟨rfl, hb⟩
  have hB := keep_below hB hb
  clear hb 
  go_wp2_with fail
  have HZ1 : Hid (Sz (1) (p).natAbs) := (by show Int.natAbs p < 18446744073709551616 ^ 1; have e1 : -9223372036854775808 ≤ p := (by omega); have e2 : p ≤ 9223372036854775807 := (by omega); omega)
  (with_reducible refine (HIC.out.of p _ (HT.out _ hB) (by omega) (by omega)).mono ?_)
  rintro e wc2 ⟨b1, B1, m1, d1, rfl, hw1, hb⟩
  have hB := keep_below hB hb
  have HN1 := Lib.hid hw1
  clear hb hw1
  go_wp2_with fail
  have HZ2 : Hid (Sz (1) (q).natAbs) := (by show Int.natAbs q < 18446744073709551616 ^ 1; have e1 : -9223372036854775808 ≤ q := (by omega); have e2 : q ≤ 9223372036854775807 := (by omega); omega)
  (with_reducible refine (HIC.out.of q _ (HT.out _ hB) (by omega) (by omega)).mono ?_)
  rintro e wc3 ⟨b2, B2, m2, d2, rfl, hw2, hb⟩
  have hB := keep_below hB hb
  have HN1 := Lib.hid (HN1.out.below hb)
  have HN2 := Lib.hid hw2
  clear hb hw2
  obtain ⟨bx1, bx2, bx3, bz⟩ := box2 wc3 29 29 #[.bool b1, .slice B1 m1 d1] #[.bool b2, .slice B2 m2 d2]
  have hB := keep_below hB bx1
  have HN1 := Lib.hid (HN1.out.below bx1)
  have HN2 := Lib.hid (HN2.out.below bx1)
  have g3 : ((wc3.alloc (.cells #[.bool b1, .slice B1 m1 d1] 29)).alloc (.cells #[.bool b2, .slice B2 m2 d2] 29)).cell? ⟨wc3.heap.size, 0, none⟩ = some (.bool b1) := bx2.cell 0
  have e3 : ((wc3.alloc (.cells #[.bool b1, .slice B1 m1 d1] 29)).alloc (.cells #[.bool b2, .slice B2 m2 d2] 29)).cell? ⟨wc3.heap.size, 1, none⟩ = some (.slice B1 m1 d1) := bx2.cell 1
  have g4 : ((wc3.alloc (.cells #[.bool b1, .slice B1 m1 d1] 29)).alloc (.cells #[.bool b2, .slice B2 m2 d2] 29)).cell? ⟨wc3.heap.size + 1, 0, none⟩ = some (.bool b2) := bx3.cell 0
  have e4 : ((wc3.alloc (.cells #[.bool b1, .slice B1 m1 d1] 29)).alloc (.cells #[.bool b2, .slice B2 m2 d2] 29)).cell? ⟨wc3.heap.size + 1, 1, none⟩ = some (.slice B2 m2 d2) := bx3.cell 1
  clear bx1 bx2 bx3 bz
  go_wp2_with fail
  generalize (wc3.alloc (.cells #[.bool b1, .slice B1 m1 d1] 29)).alloc (.cells #[.bool b2, .slice B2 m2 d2] 29) = W4 at *
  generalize wc3.heap.size = q4 at *
  have HZ5 : Hid (Sz (1) (x).natAbs) := (by show Int.natAbs x < 18446744073709551616 ^ 1; have e1 : -9223372036854775808 ≤ x := (h0.1); have e2 : x ≤ 9223372036854775807 := (h0.2); omega)
  (with_reducible refine (HIC.out.of x _ (HT.out _ hB) (h0.1) (h0.2)).mono ?_)
  rintro e wc5 ⟨b5, B5, m5, d5, rfl, hw5, hb⟩
  have hB := keep_below hB hb
  have HN1 := Lib.hid (HN1.out.below hb)
  have HN2 := Lib.hid (HN2.out.below hb)
  have g3 := keep_cell hb g3
  have e3 := keep_cell hb e3
  have g4 := keep_cell hb g4
  have e4 := keep_cell hb e4
  have HN5 := Lib.hid hw5
  clear hb hw5
  go_wp2_with fail
  (with_reducible refine (iis_of (b := true) (decide_eq_true (rfl)) (law7_is hTb HIC.out (x) x b5 B5 m5 d5 _ HN5.out (by have := Sz.words HZ5.out HN5.out.words; omega) (HT.out _ hB) (h0.1) (h0.2))).mono ?_)
  rintro e wc6 ⟨rfl, hb⟩
  have hB := keep_below hB hb
  have HN1 := Lib.hid (HN1.out.below hb)
  have HN2 := Lib.hid (HN2.out.below hb)
  have g3 := keep_cell hb g3
  have e3 := keep_cell hb e3
  have g4 := keep_cell hb g4
  have e4 := keep_cell hb e4
  have HN5 := Lib.hid (HN5.out.below hb)
  clear hb 
  go_wp2_with fail
  have HZ6 : Hid (Sz (1 + 1 + 1) (p + q).natAbs) := SzI.add HZ1.out HZ2.out
  (with_reducible refine (HIC.out.add (p) (q) b1 b2 B1 B2 m1 m2 d1 d2 _ (HT.out _ hB) HN1.out HN2.out (by have := Sz.words HZ1.out HN1.out.words; omega) (by have := Sz.words HZ2.out HN2.out.words; omega)).mono ?_)
  rintro e wc7 ⟨b6, B6, m6, d6, rfl, hw6, hb⟩
  have hB := keep_below hB hb
  have HN1 := Lib.hid (HN1.out.below hb)
  have HN2 := Lib.hid (HN2.out.below hb)
  have g3 := keep_cell hb g3
  have e3 := keep_cell hb e3
  have g4 := keep_cell hb g4
  have e4 := keep_cell hb e4
  have HN5 := Lib.hid (HN5.out.below hb)
  have HN6 := Lib.hid hw6
  clear hb hw6
  go_wp2_with fail
  (with_reducible refine (iis_of (b := true) (decide_eq_true (rfl)) (law7_is hTb HIC.out (p + q) (p + q) b6 B6 m6 d6 _ HN6.out (by have := Sz.words HZ6.out HN6.out.words; omega) (HT.out _ hB) (by omega) (by omega))).mono ?_)
  rintro e wc8 ⟨rfl, hb⟩
  have hB := keep_below hB hb
  have HN1 := Lib.hid (HN1.out.below hb)
  have HN2 := Lib.hid (HN2.out.below hb)
  have g3 := keep_cell hb g3
  have e3 := keep_cell hb e3
  have g4 := keep_cell hb g4
  have e4 := keep_cell hb e4
  have HN5 := Lib.hid (HN5.out.below hb)
  have HN6 := Lib.hid (HN6.out.below hb)
  clear hb 
  go_wp2_with fail
  have HZ7 : Hid (Sz (1 + 1 + 1) (p - q).natAbs) := SzI.sub HZ1.out HZ2.out
  (with_reducible refine (HIC.out.sub (p) (q) b1 b2 B1 B2 m1 m2 d1 d2 _ (HT.out _ hB) HN1.out HN2.out (by have := Sz.words HZ1.out HN1.out.words; omega) (by have := Sz.words HZ2.out HN2.out.words; omega)).mono ?_)
  rintro e wc9 ⟨b7, B7, m7, d7, rfl, hw7, hb⟩
  have hB := keep_below hB hb
  have HN1 := Lib.hid (HN1.out.below hb)
  have HN2 := Lib.hid (HN2.out.below hb)
  have g3 := keep_cell hb g3
  have e3 := keep_cell hb e3
  have g4 := keep_cell hb g4
  have e4 := keep_cell hb e4
  have HN5 := Lib.hid (HN5.out.below hb)
  have HN6 := Lib.hid (HN6.out.below hb)
  have HN7 := Lib.hid hw7
  clear hb hw7
  go_wp2_with fail
  (with_reducible refine (iis_of (b := true) (decide_eq_true (rfl)) (law7_is hTb HIC.out (p - q) (p - q) b7 B7 m7 d7 _ HN7.out (by have := Sz.words HZ7.out HN7.out.words; omega) (HT.out _ hB) (by omega) (by omega))).mono ?_)
  rintro e wc10 ⟨rfl, hb⟩
  have hB := keep_below hB hb
  have HN1 := Lib.hid (HN1.out.below hb)
  have HN2 := Lib.hid (HN2.out.below hb)
  have g3 := keep_cell hb g3
  have e3 := keep_cell hb e3
  have g4 := keep_cell hb g4
  have e4 := keep_cell hb e4
  have HN5 := Lib.hid (HN5.out.below hb)
  have HN6 := Lib.hid (HN6.out.below hb)
  have HN7 := Lib.hid (HN7.out.below hb)
  clear hb 
  go_wp2_with fail
  have HZ8 : Hid (Sz (1 + 1) (p * q).natAbs) := SzI.mul HZ1.out HZ2.out
  (with_reducible refine (HIC.out.mul (p) (q) b1 b2 B1 B2 m1 m2 d1 d2 _ (HT.out _ hB) HN1.out HN2.out (by have := Sz.words HZ1.out HN1.out.words; omega) (by have := Sz.words HZ2.out HN2.out.words; omega)).mono ?_)
  rintro e wc11 ⟨b8, B8, m8, d8, rfl, hw8, hb⟩
  have hB := keep_below hB hb
  have HN1 := Lib.hid (HN1.out.below hb)
  have HN2 := Lib.hid (HN2.out.below hb)
  have g3 := keep_cell hb g3
  have e3 := keep_cell hb e3
  have g4 := keep_cell hb g4
  have e4 := keep_cell hb e4
  have HN5 := Lib.hid (HN5.out.below hb)
  have HN6 := Lib.hid (HN6.out.below hb)
  have HN7 := Lib.hid (HN7.out.below hb)
  have HN8 := Lib.hid hw8
  clear hb hw8
  go_wp2_with fail
  (with_reducible refine (iis_of (b := true) (decide_eq_true (rfl)) (law7_is hTb HIC.out (p * q) (p * q) b8 B8 m8 d8 _ HN8.out (by have := Sz.words HZ8.out HN8.out.words; omega) (HT.out _ hB) (by omega) (by omega))).mono ?_)
  rintro e wc12 ⟨rfl, hb⟩
  have hB := keep_below hB hb
  have HN1 := Lib.hid (HN1.out.below hb)
  have HN2 := Lib.hid (HN2.out.below hb)
  have g3 := keep_cell hb g3
  have e3 := keep_cell hb e3
  have g4 := keep_cell hb g4
  have e4 := keep_cell hb e4
  have HN5 := Lib.hid (HN5.out.below hb)
  have HN6 := Lib.hid (HN6.out.below hb)
  have HN7 := Lib.hid (HN7.out.below hb)
  have HN8 := Lib.hid (HN8.out.below hb)
  clear hb 
  go_wp2_with fail
  (with_reducible refine (icmp_of (v := c) (HC.out) (HIC.out.cmp (p) (q) b1 b2 B1 B2 m1 m2 d1 d2 _ (HT.out _ hB) HN1.out HN2.out (by have := Sz.words HZ1.out HN1.out.words; omega) (by have := Sz.words HZ2.out HN2.out.words; omega))).mono ?_)
  rintro e wc13 ⟨rfl, hb⟩
  have hB := keep_below hB hb
  have HN1 := Lib.hid (HN1.out.below hb)
  have HN2 := Lib.hid (HN2.out.below hb)
  have g3 := keep_cell hb g3
  have e3 := keep_cell hb e3
  have g4 := keep_cell hb g4
  have e4 := keep_cell hb e4
  have HN5 := Lib.hid (HN5.out.below hb)
  have HN6 := Lib.hid (HN6.out.below hb)
  have HN7 := Lib.hid (HN7.out.below hb)
  have HN8 := Lib.hid (HN8.out.below hb)
  clear hb 
  go_wp2
  go_ret
  exact ⟨by first | rfl | simp, hB⟩
set_option maxHeartbeats 16000000 in
theorem integerInts_0 {T : World → Prop} (hTb : ∀ w w', T w → Below w.heap.size w w' → T w') (IC : IntC T) (x : Int) (a1 : Int) (a2 : Int) (w : World) (h0 : -9223372036854775808 ≤ x ∧ x ≤ 9223372036854775807) (h1 : -2147483648 ≤ a1 ∧ a1 ≤ 2147483647) (h2 : -2147483648 ≤ a2 ∧ a2 ≤ 2147483647) (hlt : ¬ a1 / 2 < a2 / 2) (hT : T w) :
    Calls Try.prog 6 #[.int .i64 x, .int .i32 a1, .int .i32 a2] w fun e w' => e = .returned (.bool true) ∧ Below w.heap.size w w' := by
  have HAW := Lib.hid (fun w' (hb : Below w.heap.size w w') => law7_awake hTb IC w' (hTb w w' hT hb))
  have HIC := Lib.hid IC
  have HT := Lib.hid (fun w' (hb : Below w.heap.size w w') => hTb w w' hT hb)
  obtain ⟨p, hp⟩ : ∃ p, a1 / 2 = p := ⟨_, rfl⟩
  obtain ⟨q, hq⟩ : ∃ p, a2 / 2 = p := ⟨_, rfl⟩
  have bp1 : -1073741824 ≤ p := by omega
  have bp2 : p ≤ 1073741823 := by omega
  have bq1 : -1073741824 ≤ q := by omega
  have bq2 : q ≤ 1073741823 := by omega
  obtain ⟨bm1, bm2⟩ : -1152921504606846976 ≤ p * q ∧ p * q ≤ 1152921504606846976 := mul_bd30 bp1 bp2 bq1 bq2
  have wa1 : IntKind.i64.wrap a1 = a1 := IntWalk.i64_in _ (by omega)
  have wa2 : IntKind.i64.wrap a2 = a2 := IntWalk.i64_in _ (by omega)
  have ws1 : IntKind.i64.wrap (p + q) = p + q := IntWalk.i64_in _ (by omega)
  have ws2 : IntKind.i64.wrap (p - q) = p - q := IntWalk.i64_in _ (by omega)
  have ws3 : IntKind.i64.wrap (p * q) = p * q := IntWalk.i64_in _ (by omega)
  rw [hp, hq] at hlt
  obtain ⟨c, hc⟩ : ∃ c, cmpZ p q = c := ⟨_, rfl⟩
  have kc1 : decide (c < 0) = false := by have h9 := cmpZ_lt p q; rw [hc] at h9; simp; omega
  have kc2 : decide (p < q) = false := by simp; omega
  have HC := Lib.hid hc
  clear hc hlt
  clear IC hT 
  go_enter Try.func6, Try.ntmps6
  have hB := Below.refl w.heap.size w
  go_wp2_with fail
  (with_reducible refine (HAW.out _ hB).mono ?_)
  rintro e wc1 ⟨rfl, hb⟩
  have hB := keep_below hB hb
  clear hb 
  go_wp2_with fail
  have HZ1 : Hid (Sz (1) (p).natAbs) := (by show Int.natAbs p < 18446744073709551616 ^ 1; have e1 : -9223372036854775808 ≤ p := (by omega); have e2 : p ≤ 9223372036854775807 := (by omega); omega)
  (with_reducible refine (HIC.out.of p _ (HT.out _ hB) (by omega) (by omega)).mono ?_)
  rintro e wc2 ⟨b1, B1, m1, d1, rfl, hw1, hb⟩
  have hB := keep_below hB hb
  have HN1 := Lib.hid hw1
  clear hb hw1
  go_wp2_with fail
  have HZ2 : Hid (Sz (1) (q).natAbs) := (by show Int.natAbs q < 18446744073709551616 ^ 1; have e1 : -9223372036854775808 ≤ q := (by omega); have e2 : q ≤ 9223372036854775807 := (by omega); omega)
  (with_reducible refine (HIC.out.of q _ (HT.out _ hB) (by omega) (by omega)).mono ?_)
  rintro e wc3 ⟨b2, B2, m2, d2, rfl, hw2, hb⟩
  have hB := keep_below hB hb
  have HN1 := Lib.hid (HN1.out.below hb)
  have HN2 := Lib.hid hw2
  clear hb hw2
  obtain ⟨bx1, bx2, bx3, bz⟩ := box2 wc3 29 29 #[.bool b1, .slice B1 m1 d1] #[.bool b2, .slice B2 m2 d2]
  have hB := keep_below hB bx1
  have HN1 := Lib.hid (HN1.out.below bx1)
  have HN2 := Lib.hid (HN2.out.below bx1)
  have g3 : ((wc3.alloc (.cells #[.bool b1, .slice B1 m1 d1] 29)).alloc (.cells #[.bool b2, .slice B2 m2 d2] 29)).cell? ⟨wc3.heap.size, 0, none⟩ = some (.bool b1) := bx2.cell 0
  have e3 : ((wc3.alloc (.cells #[.bool b1, .slice B1 m1 d1] 29)).alloc (.cells #[.bool b2, .slice B2 m2 d2] 29)).cell? ⟨wc3.heap.size, 1, none⟩ = some (.slice B1 m1 d1) := bx2.cell 1
  have g4 : ((wc3.alloc (.cells #[.bool b1, .slice B1 m1 d1] 29)).alloc (.cells #[.bool b2, .slice B2 m2 d2] 29)).cell? ⟨wc3.heap.size + 1, 0, none⟩ = some (.bool b2) := bx3.cell 0
  have e4 : ((wc3.alloc (.cells #[.bool b1, .slice B1 m1 d1] 29)).alloc (.cells #[.bool b2, .slice B2 m2 d2] 29)).cell? ⟨wc3.heap.size + 1, 1, none⟩ = some (.slice B2 m2 d2) := bx3.cell 1
  clear bx1 bx2 bx3 bz
  go_wp2_with fail
  generalize (wc3.alloc (.cells #[.bool b1, .slice B1 m1 d1] 29)).alloc (.cells #[.bool b2, .slice B2 m2 d2] 29) = W4 at *
  generalize wc3.heap.size = q4 at *
  have HZ5 : Hid (Sz (1) (x).natAbs) := (by show Int.natAbs x < 18446744073709551616 ^ 1; have e1 : -9223372036854775808 ≤ x := (h0.1); have e2 : x ≤ 9223372036854775807 := (h0.2); omega)
  (with_reducible refine (HIC.out.of x _ (HT.out _ hB) (h0.1) (h0.2)).mono ?_)
  rintro e wc5 ⟨b5, B5, m5, d5, rfl, hw5, hb⟩
  have hB := keep_below hB hb
  have HN1 := Lib.hid (HN1.out.below hb)
  have HN2 := Lib.hid (HN2.out.below hb)
  have g3 := keep_cell hb g3
  have e3 := keep_cell hb e3
  have g4 := keep_cell hb g4
  have e4 := keep_cell hb e4
  have HN5 := Lib.hid hw5
  clear hb hw5
  go_wp2_with fail
  (with_reducible refine (iis_of (b := true) (decide_eq_true (rfl)) (law7_is hTb HIC.out (x) x b5 B5 m5 d5 _ HN5.out (by have := Sz.words HZ5.out HN5.out.words; omega) (HT.out _ hB) (h0.1) (h0.2))).mono ?_)
  rintro e wc6 ⟨rfl, hb⟩
  have hB := keep_below hB hb
  have HN1 := Lib.hid (HN1.out.below hb)
  have HN2 := Lib.hid (HN2.out.below hb)
  have g3 := keep_cell hb g3
  have e3 := keep_cell hb e3
  have g4 := keep_cell hb g4
  have e4 := keep_cell hb e4
  have HN5 := Lib.hid (HN5.out.below hb)
  clear hb 
  go_wp2_with fail
  have HZ6 : Hid (Sz (1 + 1 + 1) (p + q).natAbs) := SzI.add HZ1.out HZ2.out
  (with_reducible refine (HIC.out.add (p) (q) b1 b2 B1 B2 m1 m2 d1 d2 _ (HT.out _ hB) HN1.out HN2.out (by have := Sz.words HZ1.out HN1.out.words; omega) (by have := Sz.words HZ2.out HN2.out.words; omega)).mono ?_)
  rintro e wc7 ⟨b6, B6, m6, d6, rfl, hw6, hb⟩
  have hB := keep_below hB hb
  have HN1 := Lib.hid (HN1.out.below hb)
  have HN2 := Lib.hid (HN2.out.below hb)
  have g3 := keep_cell hb g3
  have e3 := keep_cell hb e3
  have g4 := keep_cell hb g4
  have e4 := keep_cell hb e4
  have HN5 := Lib.hid (HN5.out.below hb)
  have HN6 := Lib.hid hw6
  clear hb hw6
  go_wp2_with fail
  (with_reducible refine (iis_of (b := true) (decide_eq_true (rfl)) (law7_is hTb HIC.out (p + q) (p + q) b6 B6 m6 d6 _ HN6.out (by have := Sz.words HZ6.out HN6.out.words; omega) (HT.out _ hB) (by omega) (by omega))).mono ?_)
  rintro e wc8 ⟨rfl, hb⟩
  have hB := keep_below hB hb
  have HN1 := Lib.hid (HN1.out.below hb)
  have HN2 := Lib.hid (HN2.out.below hb)
  have g3 := keep_cell hb g3
  have e3 := keep_cell hb e3
  have g4 := keep_cell hb g4
  have e4 := keep_cell hb e4
  have HN5 := Lib.hid (HN5.out.below hb)
  have HN6 := Lib.hid (HN6.out.below hb)
  clear hb 
  go_wp2_with fail
  have HZ7 : Hid (Sz (1 + 1 + 1) (p - q).natAbs) := SzI.sub HZ1.out HZ2.out
  (with_reducible refine (HIC.out.sub (p) (q) b1 b2 B1 B2 m1 m2 d1 d2 _ (HT.out _ hB) HN1.out HN2.out (by have := Sz.words HZ1.out HN1.out.words; omega) (by have := Sz.words HZ2.out HN2.out.words; omega)).mono ?_)
  rintro e wc9 ⟨b7, B7, m7, d7, rfl, hw7, hb⟩
  have hB := keep_below hB hb
  have HN1 := Lib.hid (HN1.out.below hb)
  have HN2 := Lib.hid (HN2.out.below hb)
  have g3 := keep_cell hb g3
  have e3 := keep_cell hb e3
  have g4 := keep_cell hb g4
  have e4 := keep_cell hb e4
  have HN5 := Lib.hid (HN5.out.below hb)
  have HN6 := Lib.hid (HN6.out.below hb)
  have HN7 := Lib.hid hw7
  clear hb hw7
  go_wp2_with fail
  (with_reducible refine (iis_of (b := true) (decide_eq_true (rfl)) (law7_is hTb HIC.out (p - q) (p - q) b7 B7 m7 d7 _ HN7.out (by have := Sz.words HZ7.out HN7.out.words; omega) (HT.out _ hB) (by omega) (by omega))).mono ?_)
  rintro e wc10 ⟨rfl, hb⟩
  have hB := keep_below hB hb
  have HN1 := Lib.hid (HN1.out.below hb)
  have HN2 := Lib.hid (HN2.out.below hb)
  have g3 := keep_cell hb g3
  have e3 := keep_cell hb e3
  have g4 := keep_cell hb g4
  have e4 := keep_cell hb e4
  have HN5 := Lib.hid (HN5.out.below hb)
  have HN6 := Lib.hid (HN6.out.below hb)
  have HN7 := Lib.hid (HN7.out.below hb)
  clear hb 
  go_wp2_with fail
  have HZ8 : Hid (Sz (1 + 1) (p * q).natAbs) := SzI.mul HZ1.out HZ2.out
  (with_reducible refine (HIC.out.mul (p) (q) b1 b2 B1 B2 m1 m2 d1 d2 _ (HT.out _ hB) HN1.out HN2.out (by have := Sz.words HZ1.out HN1.out.words; omega) (by have := Sz.words HZ2.out HN2.out.words; omega)).mono ?_)
  rintro e wc11 ⟨b8, B8, m8, d8, rfl, hw8, hb⟩
  have hB := keep_below hB hb
  have HN1 := Lib.hid (HN1.out.below hb)
  have HN2 := Lib.hid (HN2.out.below hb)
  have g3 := keep_cell hb g3
  have e3 := keep_cell hb e3
  have g4 := keep_cell hb g4
  have e4 := keep_cell hb e4
  have HN5 := Lib.hid (HN5.out.below hb)
  have HN6 := Lib.hid (HN6.out.below hb)
  have HN7 := Lib.hid (HN7.out.below hb)
  have HN8 := Lib.hid hw8
  clear hb hw8
  go_wp2_with fail
  (with_reducible refine (iis_of (b := true) (decide_eq_true (rfl)) (law7_is hTb HIC.out (p * q) (p * q) b8 B8 m8 d8 _ HN8.out (by have := Sz.words HZ8.out HN8.out.words; omega) (HT.out _ hB) (by omega) (by omega))).mono ?_)
  rintro e wc12 ⟨rfl, hb⟩
  have hB := keep_below hB hb
  have HN1 := Lib.hid (HN1.out.below hb)
  have HN2 := Lib.hid (HN2.out.below hb)
  have g3 := keep_cell hb g3
  have e3 := keep_cell hb e3
  have g4 := keep_cell hb g4
  have e4 := keep_cell hb e4
  have HN5 := Lib.hid (HN5.out.below hb)
  have HN6 := Lib.hid (HN6.out.below hb)
  have HN7 := Lib.hid (HN7.out.below hb)
  have HN8 := Lib.hid (HN8.out.below hb)
  clear hb 
  go_wp2_with fail
  (with_reducible refine (icmp_of (v := c) (HC.out) (HIC.out.cmp (p) (q) b1 b2 B1 B2 m1 m2 d1 d2 _ (HT.out _ hB) HN1.out HN2.out (by have := Sz.words HZ1.out HN1.out.words; omega) (by have := Sz.words HZ2.out HN2.out.words; omega))).mono ?_)
  rintro e wc13 ⟨rfl, hb⟩
  have hB := keep_below hB hb
  have HN1 := Lib.hid (HN1.out.below hb)
  have HN2 := Lib.hid (HN2.out.below hb)
  have g3 := keep_cell hb g3
  have e3 := keep_cell hb e3
  have g4 := keep_cell hb g4
  have e4 := keep_cell hb e4
  have HN5 := Lib.hid (HN5.out.below hb)
  have HN6 := Lib.hid (HN6.out.below hb)
  have HN7 := Lib.hid (HN7.out.below hb)
  have HN8 := Lib.hid (HN8.out.below hb)
  clear hb 
  go_wp2
  go_ret
  exact ⟨by first | rfl | simp, hB⟩
theorem integerInts_core {T : World → Prop} (hTb : ∀ w w', T w → Below w.heap.size w w' → T w') (IC : IntC T) (x a1 a2 : Int) (h0 : -9223372036854775808 ≤ x ∧ x ≤ 9223372036854775807) (h1 : -2147483648 ≤ a1 ∧ a1 ≤ 2147483647) (h2 : -2147483648 ≤ a2 ∧ a2 ≤ 2147483647) (w : World) (hT : T w) :
    Calls Try.prog 6 #[.int .i64 x, .int .i32 a1, .int .i32 a2] w fun e w' => e = .returned (.bool true) ∧ Below w.heap.size w w' := by
  by_cases hlt : a1 / 2 < a2 / 2
  · exact integerInts_1 hTb IC x a1 a2 w h0 h1 h2 hlt hT
  · exact integerInts_0 hTb IC x a1 a2 w h0 h1 h2 hlt hT
end Go.Proofs.Ytnfednkphcapnaa
