/-
  The walk of the law QuotNear. Conditions: the words that came in are words, at most 1048576 of each; quot's functions do as QuotC says.
-/
import Derived.Test.YtaemlkoklaoglaaRows
import Derived.Test.YtaemlkoklaoglaaNNums
import Derived.Test.YtaemlkoklaoglaaW4Awake
import Derived.Test.YtaemlkoklaoglaaPMul
import Derived.Test.YtaemlkoklaoglaaNAdd
import Derived.Test.YtaemlkoklaoglaaNSub
import Derived.WalkKit
import Derived.Lib.Hide
import Derived.Outline
import Derived.Deep.RegionHeld3
import Derived.IntWalk
import Derived.Deep.DeepCutAuto
import Derived.Deep.CutBlock
namespace Go.Proofs.Ytaemlkoklaoglaa
open Go Go.RowKit
set_option maxRecDepth 100000
set_option linter.unusedVariables false
set_option linter.unusedSimpArgs false
theorem near_q {x y : Nat} (hx : x ≠ 0) (hy : y ≠ 0) : (x * y - 1) / y = x - 1 := by
  obtain ⟨a, rfl⟩ : ∃ a, x = a + 1 := ⟨x - 1, by omega⟩
  rw [Nat.succ_mul, show a * y + y - 1 = a * y + (y - 1) from by omega, Nat.mul_comm a y, Nat.mul_add_div (by omega), Nat.div_eq_of_lt (by omega)]; omega
theorem near_r {x y : Nat} (hx : x ≠ 0) (hy : y ≠ 0) : (x * y - 1) % y = y - 1 := by
  obtain ⟨a, rfl⟩ : ∃ a, x = a + 1 := ⟨x - 1, by omega⟩
  rw [Nat.succ_mul, show a * y + y - 1 = a * y + (y - 1) from by omega, Nat.mul_comm a y, Nat.mul_add_mod, Nat.mod_eq_of_lt (by omega)]
set_option maxHeartbeats 16000000 in
theorem quotNear_x (QC : QuotC) (A0 : Option Addr) (n0 c0 : Nat) (l0 : List Nat) (A1 : Option Addr) (n1 c1 : Nat) (l1 : List Nat) (w : World) (h0 : ArgWords w A0 n0 c0 l0) (h1 : ArgWords w A1 n1 c1 l1) (ha : dv 18446744073709551616 l0 = 0) :
    Calls Try.prog 6 #[.slice A0 n0 c0, .slice A1 n1 c1] w fun e w' => e = .returned (.bool true) ∧ Below w.heap.size w w' := by
  have HQC := Lib.hid QC
  obtain ⟨K, hK⟩ : ∃ K, 1048576 = K := ⟨_, rfl⟩
  have O0 := arg_of h0
  have S0 := arg_sz h0
  have O1 := arg_of h1
  have S1 := arg_sz h1
  rw [hK] at S0 S1
  have hK2 : K ≤ 1048576 := by omega
  obtain ⟨x, hx0⟩ : ∃ v, dv 18446744073709551616 l0 = v := ⟨_, rfl⟩
  rw [hx0] at O0 S0
  have HO0 := Lib.hid O0
  have HS0 := Lib.hid S0
  obtain ⟨y, hx1⟩ : ∃ v, dv 18446744073709551616 l1 = v := ⟨_, rfl⟩
  rw [hx1] at O1 S1
  have HO1 := Lib.hid O1
  have HS1 := Lib.hid S1
  rw [hx0] at ha
  have Hha := Lib.hid ha
  clear QC hK O0 S0 h0 hx0 O1 S1 h1 hx1 ha
  go_enter Try.func6, Try.ntmps6
  have hB := Below.refl w.heap.size w
  go_wp2_with fail
  refine (law4_awake HQC.out _).mono ?_
  rintro e wc1 ⟨rfl, hb⟩
  have hB := keep_below hB hb
  clear hb 
  go_wp2_with fail
  have HZ1 : Hid (Sz (K) (x)) := HS0.out
  refine (HO0.out _ hB).mono ?_
  rintro e wc2 ⟨B1, m1, d1, rfl, hw1, hb, _⟩
  have hB := keep_below hB hb
  have HN1 := Lib.hid hw1
  clear hb hw1
  go_wp2_with fail
  have HZ2 : Hid (Sz (K) (y)) := HS1.out
  refine (HO1.out _ hB).mono ?_
  rintro e wc3 ⟨B2, m2, d2, rfl, hw2, hb, _⟩
  have hB := keep_below hB hb
  have HN1 := Lib.hid (HN1.out.below hb)
  have HN2 := Lib.hid hw2
  clear hb hw2
  have gm3_2 : ((wc3.alloc (.cells #[.slice B1 m1 d1] 26)).alloc (.cells #[.slice B2 m2 d2] 26)).cell? ⟨wc3.heap.size, 0, none⟩ = some (.slice B1 m1 d1) := by
    obtain ⟨c1, c2, c3, _⟩ := box2 wc3 26 26 #[.slice B1 m1 d1] #[.slice B2 m2 d2]
    exact c2.cell 0
  obtain ⟨b1, b2, b3, bz⟩ := box2 wc3 26 26 #[.slice B1 m1 d1] #[.slice B2 m2 d2]
  have hB := keep_below hB b1
  have HN1 := Lib.hid (HN1.out.below b1)
  have HN2 := Lib.hid (HN2.out.below b1)
  have g3 : ((wc3.alloc (.cells #[.slice B1 m1 d1] 26)).alloc (.cells #[.slice B2 m2 d2] 26)).cell? ⟨wc3.heap.size, 0, none⟩ = some (.slice B1 m1 d1) := b2.cell 0
  have g4 : ((wc3.alloc (.cells #[.slice B1 m1 d1] 26)).alloc (.cells #[.slice B2 m2 d2] 26)).cell? ⟨wc3.heap.size + 1, 0, none⟩ = some (.slice B2 m2 d2) := b3.cell 0
  clear b1 b2 b3 bz
  go_wp2_with fail
  clear gm3_2
  generalize (wc3.alloc (.cells #[.slice B1 m1 d1] 26)).alloc (.cells #[.slice B2 m2 d2] 26) = W4 at *
  generalize wc3.heap.size = q4 at *
  refine (zero_yes Hha.out HN1.out).mono ?_
  rintro e wc5 ⟨rfl, hb⟩
  have hB := keep_below hB hb
  have HN1 := Lib.hid (HN1.out.below hb)
  have HN2 := Lib.hid (HN2.out.below hb)
  have g3 := keep_cell hb g3
  have g4 := keep_cell hb g4
  clear hb 
  go_wp2
  go_ret
  exact ⟨by first | rfl | simp, hB⟩
set_option maxHeartbeats 16000000 in
theorem quotNear_y (QC : QuotC) (A0 : Option Addr) (n0 c0 : Nat) (l0 : List Nat) (A1 : Option Addr) (n1 c1 : Nat) (l1 : List Nat) (w : World) (h0 : ArgWords w A0 n0 c0 l0) (h1 : ArgWords w A1 n1 c1 l1) (ha : dv 18446744073709551616 l0 ≠ 0) (hb : dv 18446744073709551616 l1 = 0) :
    Calls Try.prog 6 #[.slice A0 n0 c0, .slice A1 n1 c1] w fun e w' => e = .returned (.bool true) ∧ Below w.heap.size w w' := by
  have HQC := Lib.hid QC
  obtain ⟨K, hK⟩ : ∃ K, 1048576 = K := ⟨_, rfl⟩
  have O0 := arg_of h0
  have S0 := arg_sz h0
  have O1 := arg_of h1
  have S1 := arg_sz h1
  rw [hK] at S0 S1
  have hK2 : K ≤ 1048576 := by omega
  obtain ⟨x, hx0⟩ : ∃ v, dv 18446744073709551616 l0 = v := ⟨_, rfl⟩
  rw [hx0] at O0 S0
  have HO0 := Lib.hid O0
  have HS0 := Lib.hid S0
  obtain ⟨y, hx1⟩ : ∃ v, dv 18446744073709551616 l1 = v := ⟨_, rfl⟩
  rw [hx1] at O1 S1
  have HO1 := Lib.hid O1
  have HS1 := Lib.hid S1
  rw [hx0] at ha
  have Hha := Lib.hid ha
  rw [hx1] at hb
  have Hhb := Lib.hid hb
  clear QC hK O0 S0 h0 hx0 O1 S1 h1 hx1 ha hb
  go_enter Try.func6, Try.ntmps6
  have hB := Below.refl w.heap.size w
  go_wp2_with fail
  refine (law4_awake HQC.out _).mono ?_
  rintro e wc1 ⟨rfl, hb⟩
  have hB := keep_below hB hb
  clear hb 
  go_wp2_with fail
  have HZ1 : Hid (Sz (K) (x)) := HS0.out
  refine (HO0.out _ hB).mono ?_
  rintro e wc2 ⟨B1, m1, d1, rfl, hw1, hb, _⟩
  have hB := keep_below hB hb
  have HN1 := Lib.hid hw1
  clear hb hw1
  go_wp2_with fail
  have HZ2 : Hid (Sz (K) (y)) := HS1.out
  refine (HO1.out _ hB).mono ?_
  rintro e wc3 ⟨B2, m2, d2, rfl, hw2, hb, _⟩
  have hB := keep_below hB hb
  have HN1 := Lib.hid (HN1.out.below hb)
  have HN2 := Lib.hid hw2
  clear hb hw2
  have gm3_2 : ((wc3.alloc (.cells #[.slice B1 m1 d1] 26)).alloc (.cells #[.slice B2 m2 d2] 26)).cell? ⟨wc3.heap.size, 0, none⟩ = some (.slice B1 m1 d1) := by
    obtain ⟨c1, c2, c3, _⟩ := box2 wc3 26 26 #[.slice B1 m1 d1] #[.slice B2 m2 d2]
    exact c2.cell 0
  obtain ⟨b1, b2, b3, bz⟩ := box2 wc3 26 26 #[.slice B1 m1 d1] #[.slice B2 m2 d2]
  have hB := keep_below hB b1
  have HN1 := Lib.hid (HN1.out.below b1)
  have HN2 := Lib.hid (HN2.out.below b1)
  have g3 : ((wc3.alloc (.cells #[.slice B1 m1 d1] 26)).alloc (.cells #[.slice B2 m2 d2] 26)).cell? ⟨wc3.heap.size, 0, none⟩ = some (.slice B1 m1 d1) := b2.cell 0
  have g4 : ((wc3.alloc (.cells #[.slice B1 m1 d1] 26)).alloc (.cells #[.slice B2 m2 d2] 26)).cell? ⟨wc3.heap.size + 1, 0, none⟩ = some (.slice B2 m2 d2) := b3.cell 0
  clear b1 b2 b3 bz
  go_wp2_with fail
  clear gm3_2
  generalize (wc3.alloc (.cells #[.slice B1 m1 d1] 26)).alloc (.cells #[.slice B2 m2 d2] 26) = W4 at *
  generalize wc3.heap.size = q4 at *
  refine (zero_no Hha.out HN1.out).mono ?_
  rintro e wc5 ⟨rfl, hb⟩
  have hB := keep_below hB hb
  have HN1 := Lib.hid (HN1.out.below hb)
  have HN2 := Lib.hid (HN2.out.below hb)
  have g3 := keep_cell hb g3
  have g4 := keep_cell hb g4
  clear hb 
  go_wp2_with fail
  refine (zero_yes Hhb.out HN2.out).mono ?_
  rintro e wc6 ⟨rfl, hb⟩
  have hB := keep_below hB hb
  have HN1 := Lib.hid (HN1.out.below hb)
  have HN2 := Lib.hid (HN2.out.below hb)
  have g3 := keep_cell hb g3
  have g4 := keep_cell hb g4
  clear hb 
  go_wp2
  go_ret
  exact ⟨by first | rfl | simp, hB⟩
set_option maxHeartbeats 16000000 in
theorem quotNear_yes (QC : QuotC) (A0 : Option Addr) (n0 c0 : Nat) (l0 : List Nat) (A1 : Option Addr) (n1 c1 : Nat) (l1 : List Nat) (w : World) (h0 : ArgWords w A0 n0 c0 l0) (h1 : ArgWords w A1 n1 c1 l1) (ha : dv 18446744073709551616 l0 ≠ 0) (hb : dv 18446744073709551616 l1 ≠ 0) :
    Calls Try.prog 6 #[.slice A0 n0 c0, .slice A1 n1 c1] w fun e w' => e = .returned (.bool true) ∧ Below w.heap.size w w' := by
  have HQC := Lib.hid QC
  obtain ⟨K, hK⟩ : ∃ K, 1048576 = K := ⟨_, rfl⟩
  have O0 := arg_of h0
  have S0 := arg_sz h0
  have O1 := arg_of h1
  have S1 := arg_sz h1
  rw [hK] at S0 S1
  have hK2 : K ≤ 1048576 := by omega
  obtain ⟨x, hx0⟩ : ∃ v, dv 18446744073709551616 l0 = v := ⟨_, rfl⟩
  rw [hx0] at O0 S0
  have HO0 := Lib.hid O0
  have HS0 := Lib.hid S0
  obtain ⟨y, hx1⟩ : ∃ v, dv 18446744073709551616 l1 = v := ⟨_, rfl⟩
  rw [hx1] at O1 S1
  have HO1 := Lib.hid O1
  have HS1 := Lib.hid S1
  rw [hx0] at ha
  have Hha := Lib.hid ha
  rw [hx1] at hb
  have Hhb := Lib.hid hb
  clear QC hK O0 S0 h0 hx0 O1 S1 h1 hx1 ha hb
  go_enter Try.func6, Try.ntmps6
  have hB := Below.refl w.heap.size w
  go_wp2_with fail
  refine (law4_awake HQC.out _).mono ?_
  rintro e wc1 ⟨rfl, hb⟩
  have hB := keep_below hB hb
  clear hb 
  go_wp2_with fail
  have HZ1 : Hid (Sz (K) (x)) := HS0.out
  refine (HO0.out _ hB).mono ?_
  rintro e wc2 ⟨B1, m1, d1, rfl, hw1, hb, _⟩
  have hB := keep_below hB hb
  have HN1 := Lib.hid hw1
  clear hb hw1
  go_wp2_with fail
  have HZ2 : Hid (Sz (K) (y)) := HS1.out
  refine (HO1.out _ hB).mono ?_
  rintro e wc3 ⟨B2, m2, d2, rfl, hw2, hb, _⟩
  have hB := keep_below hB hb
  have HN1 := Lib.hid (HN1.out.below hb)
  have HN2 := Lib.hid hw2
  clear hb hw2
  have gm3_2 : ((wc3.alloc (.cells #[.slice B1 m1 d1] 26)).alloc (.cells #[.slice B2 m2 d2] 26)).cell? ⟨wc3.heap.size, 0, none⟩ = some (.slice B1 m1 d1) := by
    obtain ⟨c1, c2, c3, _⟩ := box2 wc3 26 26 #[.slice B1 m1 d1] #[.slice B2 m2 d2]
    exact c2.cell 0
  obtain ⟨b1, b2, b3, bz⟩ := box2 wc3 26 26 #[.slice B1 m1 d1] #[.slice B2 m2 d2]
  have hB := keep_below hB b1
  have HN1 := Lib.hid (HN1.out.below b1)
  have HN2 := Lib.hid (HN2.out.below b1)
  have g3 : ((wc3.alloc (.cells #[.slice B1 m1 d1] 26)).alloc (.cells #[.slice B2 m2 d2] 26)).cell? ⟨wc3.heap.size, 0, none⟩ = some (.slice B1 m1 d1) := b2.cell 0
  have g4 : ((wc3.alloc (.cells #[.slice B1 m1 d1] 26)).alloc (.cells #[.slice B2 m2 d2] 26)).cell? ⟨wc3.heap.size + 1, 0, none⟩ = some (.slice B2 m2 d2) := b3.cell 0
  clear b1 b2 b3 bz
  go_wp2_with fail
  clear gm3_2
  generalize (wc3.alloc (.cells #[.slice B1 m1 d1] 26)).alloc (.cells #[.slice B2 m2 d2] 26) = W4 at *
  generalize wc3.heap.size = q4 at *
  refine (zero_no Hha.out HN1.out).mono ?_
  rintro e wc5 ⟨rfl, hb⟩
  have hB := keep_below hB hb
  have HN1 := Lib.hid (HN1.out.below hb)
  have HN2 := Lib.hid (HN2.out.below hb)
  have g3 := keep_cell hb g3
  have g4 := keep_cell hb g4
  clear hb 
  go_wp2_with fail
  refine (zero_no Hhb.out HN2.out).mono ?_
  rintro e wc6 ⟨rfl, hb⟩
  have hB := keep_below hB hb
  have HN1 := Lib.hid (HN1.out.below hb)
  have HN2 := Lib.hid (HN2.out.below hb)
  have g3 := keep_cell hb g3
  have g4 := keep_cell hb g4
  clear hb 
  go_wp2_with fail
  have HZ5 : Hid (Sz (K + K) (x * y)) := Sz.mul HZ1.out HZ2.out
  refine (prod_mul (x) (y) B1 B2 m1 m2 d1 d2 _ HN1.out HN2.out (by have := Sz.words HZ1.out HN1.out; omega) (by have := Sz.words HZ2.out HN2.out; omega)).mono ?_
  rintro e wc7 ⟨B5, m5, d5, rfl, hw5, hb, _⟩
  have hB := keep_below hB hb
  have HN1 := Lib.hid (HN1.out.below hb)
  have HN2 := Lib.hid (HN2.out.below hb)
  have g3 := keep_cell hb g3
  have g4 := keep_cell hb g4
  have HN5 := Lib.hid hw5
  clear hb hw5
  obtain ⟨b1, b2, bz⟩ := box1 wc7 26 #[.slice B5 m5 d5]
  have hB := keep_below hB b1
  have HN1 := Lib.hid (HN1.out.below b1)
  have HN2 := Lib.hid (HN2.out.below b1)
  have g3 := keep_cell b1 g3
  have g4 := keep_cell b1 g4
  have HN5 := Lib.hid (HN5.out.below b1)
  have g6 : (wc7.alloc (.cells #[.slice B5 m5 d5] 26)).cell? ⟨wc7.heap.size, 0, none⟩ = some (.slice B5 m5 d5) := b2.cell 0
  clear b1 b2 bz
  go_wp2_with fail
  generalize wc7.alloc (.cells #[.slice B5 m5 d5] 26) = W8 at *
  generalize wc7.heap.size = q8 at *
  have HZ8 : Hid (Sz (1) (1)) := (by show (1 : Nat) < 18446744073709551616 ^ 1; decide)
  have C0 := Lib.hid (fun w' (h : Below W8.heap.size W8 w') (gl : Nat) (k7 : Blk w' gl 23 #[.int .u64 1]) => of_lits _ [1] _ _ 1 (1) k7 rfl rfl (dgs1 1 (by decide)) rfl (by decide))
  have HZ9 : Hid (Sz (K + K) ((x * y) - 1)) := Sz.of_le HZ5.out (Nat.sub_le _ _)
  have C1 := Lib.hid (fun w' (h : Below W8.heap.size W8 w') B8 m8 d8 (hw8 : WordsIn w' (1) B8 m8 d8) => nat_sub (x * y) (1) B5 B8 m5 m8 d5 d8 w' (HN5.out.below h) hw8 (by have := Sz.words HZ5.out HN5.out; omega) (by have := Sz.words HZ8.out hw8; omega) (Nat.pos_iff_ne_zero.2 (Nat.mul_ne_zero Hha.out Hhb.out)))
  have lt0 : q8 < W8.heap.size := World.block_lt_of_cell? W8 ⟨q8, 0, none⟩ g6
  go_cut [8, 9] (fun s8 s9 wx => ∃ (g0 : Nat) (B9 : Option Addr) (m9 d9 : Nat), s8 = .pointer (some ⟨g0, 0, none⟩) ∧ s9 = .bool true ∧ wx.cell? ⟨g0, 0, none⟩ = some (.slice B9 m9 d9) ∧ WordsIn wx ((x * y) - 1) B9 m9 d9 ∧ Below W8.heap.size W8 wx)
  case first =>
    have hb0 : Below W8.heap.size W8 W8.drew := (Below.refl _ W8).drew
    have hbr := Below.refl W8.heap.size W8
    have j0 : W8.drew.cell? ⟨q8, 0, none⟩ = some (.slice B5 m5 d5) := g6
    go_region_held3 (fun w' => Below W8.heap.size W8 w' ∧ w'.cell? ⟨q8, 0, none⟩ = some (.slice B5 m5 d5))
      (first | (with_reducible exact ⟨hb0, j0⟩) | (go_split_ands; (repeat' apply And.intro); all_goals (first | with_reducible assumption | with_reducible exact keep_below (by with_reducible assumption) hb | with_reducible exact keep_cell hb (by with_reducible assumption) | with_reducible exact keep_below_alloc _ (by with_reducible assumption) | with_reducible exact keep_cell_alloc _ (by with_reducible assumption) | with_reducible exact keep_below_alloc _ (keep_below_alloc _ (by with_reducible assumption)) | with_reducible exact keep_cell_alloc _ (keep_cell_alloc _ (by with_reducible assumption)) | with_reducible exact keep_below_alloc _ (keep_below_alloc _ (keep_below_alloc _ (by with_reducible assumption))) | with_reducible exact keep_cell_alloc _ (keep_cell_alloc _ (keep_cell_alloc _ (by with_reducible assumption))) | with_reducible exact keep_below_drew (keep_below_alloc _ (by with_reducible assumption)) | with_reducible exact keep_cell_drew (keep_cell_alloc _ (by with_reducible assumption)) | with_reducible exact keep_below_drew (keep_below_alloc _ (keep_below_alloc _ (by with_reducible assumption))) | with_reducible exact keep_cell_drew (keep_cell_alloc _ (keep_cell_alloc _ (by with_reducible assumption))) | with_reducible exact keep_below_set _ (by first | (simp; done) | (simp; omega)) (by with_reducible assumption) | with_reducible exact keep_cell_set _ (by first | (simp; done) | (simp; omega)) (by with_reducible assumption) | ((repeat (first | with_reducible assumption | with_reducible refine keep_below_set _ (by first | omega | (simp; done) | (simp; omega)) ?_ | with_reducible refine keep_below_alloc _ ?_ | with_reducible refine keep_below_drew ?_)); done) | ((repeat (first | with_reducible assumption | with_reducible refine keep_cell_set _ (by first | omega | (simp; done) | (simp; omega)) ?_ | with_reducible refine keep_cell_alloc _ ?_ | with_reducible refine keep_cell_drew ?_)); done))))
      (first
        | (go_at_call 10; (first | (with_reducible refine (C0.out _ (by first | with_reducible assumption | exact And.left (by with_reducible assumption)) _ (Blk.new _ _ _)).mono ?_) | (with_reducible refine (C0.out _ (by first | with_reducible assumption | exact And.left (by with_reducible assumption)) _ ((Blk.new _ _ _).drew)).mono ?_) | (with_reducible refine (C0.out _ (by first | with_reducible assumption | exact And.left (by with_reducible assumption)) _ ((Blk.newAt (by simp)))).mono ?_) | (with_reducible refine (C0.out _ (by first | with_reducible assumption | exact And.left (by with_reducible assumption)) _ ((Blk.newAt (by simp)).drew)).mono ?_) | (with_reducible refine (C0.out _ (by first | with_reducible assumption | exact And.left (by with_reducible assumption)) _ ((Blk.new _ _ _).alloc _)).mono ?_) | (with_reducible refine (C0.out _ (by first | with_reducible assumption | exact And.left (by with_reducible assumption)) _ (((Blk.new _ _ _).alloc _).alloc _)).mono ?_) | (with_reducible refine (C0.out _ (by first | with_reducible assumption | exact And.left (by with_reducible assumption)) _ (((Blk.new _ _ _).alloc _).drew)).mono ?_) | (with_reducible refine (C0.out _ (by first | with_reducible assumption | exact And.left (by with_reducible assumption)) _ ((((Blk.new _ _ _).alloc _).alloc _).drew)).mono ?_)); rintro e wa9 ⟨B8, m8, d8, rfl, hw8, hb, _⟩; (try (have hzl := hz1.lt)); (first | ((first | (with_reducible have hz2 := Blk1.keep hz2 hb) | (with_reducible have hz2 := Blk1.keep (hz2.alloc _) hb) | (with_reducible have hz2 := Blk1.keep ((hz2.alloc _).alloc _) hb) | (with_reducible have hz2 := Blk1.keep (((hz2.alloc _).alloc _).alloc _) hb)); (first | (with_reducible have hz1 := Blk1.keep hz1 hb) | (with_reducible have hz1 := Blk1.keep (hz1.alloc _) hb) | (with_reducible have hz1 := Blk1.keep ((hz1.alloc _).alloc _) hb) | (with_reducible have hz1 := Blk1.keep (((hz1.alloc _).alloc _).alloc _) hb))) | ((first | ((with_reducible have hz2 := Blk1.keep (Blk1.new _ _ _) hb); have hz2 : Blk1 _ _ (Value.slice none 0 0) := hz2) | ((with_reducible have hz2 := Blk1.keep ((Blk1.new _ _ _).alloc _) hb); have hz2 : Blk1 _ _ (Value.slice none 0 0) := hz2) | ((with_reducible have hz2 := Blk1.keep (((Blk1.new _ _ _).alloc _).alloc _) hb); have hz2 : Blk1 _ _ (Value.slice none 0 0) := hz2) | ((with_reducible have hz2 := Blk1.keep ((Blk1.new _ _ _).drew) hb); have hz2 : Blk1 _ _ (Value.slice none 0 0) := hz2) | ((with_reducible have hz2 := Blk1.keep (((Blk1.new _ _ _).alloc _).drew) hb); have hz2 : Blk1 _ _ (Value.slice none 0 0) := hz2) | ((with_reducible have hz2 := Blk1.keep ((((Blk1.new _ _ _).alloc _).alloc _).drew) hb); have hz2 : Blk1 _ _ (Value.slice none 0 0) := hz2)); (first | (with_reducible have hz1 := Blk1.keep hz1 hb) | (with_reducible have hz1 := Blk1.keep (hz1.alloc _) hb) | (with_reducible have hz1 := Blk1.keep ((hz1.alloc _).alloc _) hb) | (with_reducible have hz1 := Blk1.keep (((hz1.alloc _).alloc _).alloc _) hb))) | (first | (with_reducible have hz1 := Blk1.keep hz1 hb) | (with_reducible have hz1 := Blk1.keep (hz1.alloc _) hb) | (with_reducible have hz1 := Blk1.keep ((hz1.alloc _).alloc _) hb) | (with_reducible have hz1 := Blk1.keep (((hz1.alloc _).alloc _).alloc _) hb)) | (first | ((with_reducible have hz2 := Blk1.keep (Blk1.new _ _ _) hb); have hz2 : Blk1 _ _ (Value.slice none 0 0) := hz2; (with_reducible have hz1 := Blk1.keep ((Blk1.new _ _ _).alloc _) hb); have hz1 : Blk1 _ _ (Value.slice none 0 0) := hz1) | ((with_reducible have hz2 := Blk1.keep (Blk1.new _ _ _) hb); have hz2 : Blk1 _ _ (Value.slice none 0 0) := hz2; (with_reducible have hz1 := Blk1.keep (((Blk1.new _ _ _).alloc _).alloc _) hb); have hz1 : Blk1 _ _ (Value.slice none 0 0) := hz1) | ((with_reducible have hz2 := Blk1.keep ((Blk1.new _ _ _).alloc _) hb); have hz2 : Blk1 _ _ (Value.slice none 0 0) := hz2; (with_reducible have hz1 := Blk1.keep (((Blk1.new _ _ _).alloc _).alloc _) hb); have hz1 : Blk1 _ _ (Value.slice none 0 0) := hz1) | ((with_reducible have hz2 := Blk1.keep ((Blk1.new _ _ _).drew) hb); have hz2 : Blk1 _ _ (Value.slice none 0 0) := hz2; (with_reducible have hz1 := Blk1.keep (((Blk1.new _ _ _).alloc _).drew) hb); have hz1 : Blk1 _ _ (Value.slice none 0 0) := hz1) | ((with_reducible have hz2 := Blk1.keep ((Blk1.new _ _ _).drew) hb); have hz2 : Blk1 _ _ (Value.slice none 0 0) := hz2; (with_reducible have hz1 := Blk1.keep ((((Blk1.new _ _ _).alloc _).alloc _).drew) hb); have hz1 : Blk1 _ _ (Value.slice none 0 0) := hz1) | ((with_reducible have hz2 := Blk1.keep (((Blk1.new _ _ _).alloc _).drew) hb); have hz2 : Blk1 _ _ (Value.slice none 0 0) := hz2; (with_reducible have hz1 := Blk1.keep ((((Blk1.new _ _ _).alloc _).alloc _).drew) hb); have hz1 : Blk1 _ _ (Value.slice none 0 0) := hz1)) | (first | ((with_reducible have hz1 := Blk1.keep (Blk1.new _ _ _) hb); have hz1 : Blk1 _ _ (Value.slice none 0 0) := hz1) | ((with_reducible have hz1 := Blk1.keep ((Blk1.new _ _ _).alloc _) hb); have hz1 : Blk1 _ _ (Value.slice none 0 0) := hz1) | ((with_reducible have hz1 := Blk1.keep (((Blk1.new _ _ _).alloc _).alloc _) hb); have hz1 : Blk1 _ _ (Value.slice none 0 0) := hz1) | ((with_reducible have hz1 := Blk1.keep ((Blk1.new _ _ _).drew) hb); have hz1 : Blk1 _ _ (Value.slice none 0 0) := hz1) | ((with_reducible have hz1 := Blk1.keep (((Blk1.new _ _ _).alloc _).drew) hb); have hz1 : Blk1 _ _ (Value.slice none 0 0) := hz1) | ((with_reducible have hz1 := Blk1.keep ((((Blk1.new _ _ _).alloc _).alloc _).drew) hb); have hz1 : Blk1 _ _ (Value.slice none 0 0) := hz1)) | skip); (try simp only [alloc_size, drew_size] at hz1); (try simp only [alloc_size, drew_size] at hz2); (try (have hzc1 := hz1.cell; have hzf1 := hz1.frozen; have hzo1 := fun o => (hz1.alloc o).cell; have hzp1 := fun o => (hz1.alloc o).frozen)); (try (have hzc2 := hz2.cell; have hzf2 := hz2.frozen; have hzo2 := fun o => (hz2.alloc o).cell; have hzp2 := fun o => (hz2.alloc o).frozen)); (try (have hzl1 := hz1.lt)); (try (have hzq := two_set hz1 hz2 (by first | omega | (simp; done) | (simp; omega)); obtain ⟨hzq1, hzq2, hzq3, hzq4⟩ := hzq)); (try (have hzt := fun t => two_set (Blk1.alloc hz1 (.cells #[Value.slice none 0 0] t)) (Blk1.new _ t (Value.slice none 0 0)) (by first | omega | (simp; done) | (simp; omega)))); go_split_ands; have hBw : Below W8.heap.size W8 wa9 := keep_below (by with_reducible assumption) hb; have gw0 : wa9.cell? ⟨q8, 0, none⟩ = some (.slice B5 m5 d5) := keep_cell hb (by with_reducible assumption))
        | (go_at_call 23; (first | (with_reducible refine (C1.out _ (by first | with_reducible assumption | exact And.left (by with_reducible assumption)) _ _ _ hw8).mono ?_) | (with_reducible refine (C1.out _ (by first | with_reducible assumption | exact And.left (by with_reducible assumption)) _ _ _ (hw8.below (up_alloc _ _))).mono ?_) | (with_reducible refine (C1.out _ (by first | with_reducible assumption | exact And.left (by with_reducible assumption)) _ _ _ ((hw8.below (up_alloc _ _)).below (up_alloc _ _))).mono ?_)); rintro e wa10 ⟨B9, m9, d9, rfl, hw9, hb, _⟩; (try have hzs1 := hBw.size); (try (have hzl := hz1.lt)); (first | ((first | (with_reducible have hz2 := Blk1.keep hz2 hb) | (with_reducible have hz2 := Blk1.keep (hz2.alloc _) hb) | (with_reducible have hz2 := Blk1.keep ((hz2.alloc _).alloc _) hb) | (with_reducible have hz2 := Blk1.keep (((hz2.alloc _).alloc _).alloc _) hb)); (first | (with_reducible have hz1 := Blk1.keep hz1 hb) | (with_reducible have hz1 := Blk1.keep (hz1.alloc _) hb) | (with_reducible have hz1 := Blk1.keep ((hz1.alloc _).alloc _) hb) | (with_reducible have hz1 := Blk1.keep (((hz1.alloc _).alloc _).alloc _) hb))) | ((first | ((with_reducible have hz2 := Blk1.keep (Blk1.new _ _ _) hb); have hz2 : Blk1 _ _ (Value.slice none 0 0) := hz2) | ((with_reducible have hz2 := Blk1.keep ((Blk1.new _ _ _).alloc _) hb); have hz2 : Blk1 _ _ (Value.slice none 0 0) := hz2) | ((with_reducible have hz2 := Blk1.keep (((Blk1.new _ _ _).alloc _).alloc _) hb); have hz2 : Blk1 _ _ (Value.slice none 0 0) := hz2) | ((with_reducible have hz2 := Blk1.keep ((Blk1.new _ _ _).drew) hb); have hz2 : Blk1 _ _ (Value.slice none 0 0) := hz2) | ((with_reducible have hz2 := Blk1.keep (((Blk1.new _ _ _).alloc _).drew) hb); have hz2 : Blk1 _ _ (Value.slice none 0 0) := hz2) | ((with_reducible have hz2 := Blk1.keep ((((Blk1.new _ _ _).alloc _).alloc _).drew) hb); have hz2 : Blk1 _ _ (Value.slice none 0 0) := hz2)); (first | (with_reducible have hz1 := Blk1.keep hz1 hb) | (with_reducible have hz1 := Blk1.keep (hz1.alloc _) hb) | (with_reducible have hz1 := Blk1.keep ((hz1.alloc _).alloc _) hb) | (with_reducible have hz1 := Blk1.keep (((hz1.alloc _).alloc _).alloc _) hb))) | (first | (with_reducible have hz1 := Blk1.keep hz1 hb) | (with_reducible have hz1 := Blk1.keep (hz1.alloc _) hb) | (with_reducible have hz1 := Blk1.keep ((hz1.alloc _).alloc _) hb) | (with_reducible have hz1 := Blk1.keep (((hz1.alloc _).alloc _).alloc _) hb)) | (first | ((with_reducible have hz2 := Blk1.keep (Blk1.new _ _ _) hb); have hz2 : Blk1 _ _ (Value.slice none 0 0) := hz2; (with_reducible have hz1 := Blk1.keep ((Blk1.new _ _ _).alloc _) hb); have hz1 : Blk1 _ _ (Value.slice none 0 0) := hz1) | ((with_reducible have hz2 := Blk1.keep (Blk1.new _ _ _) hb); have hz2 : Blk1 _ _ (Value.slice none 0 0) := hz2; (with_reducible have hz1 := Blk1.keep (((Blk1.new _ _ _).alloc _).alloc _) hb); have hz1 : Blk1 _ _ (Value.slice none 0 0) := hz1) | ((with_reducible have hz2 := Blk1.keep ((Blk1.new _ _ _).alloc _) hb); have hz2 : Blk1 _ _ (Value.slice none 0 0) := hz2; (with_reducible have hz1 := Blk1.keep (((Blk1.new _ _ _).alloc _).alloc _) hb); have hz1 : Blk1 _ _ (Value.slice none 0 0) := hz1) | ((with_reducible have hz2 := Blk1.keep ((Blk1.new _ _ _).drew) hb); have hz2 : Blk1 _ _ (Value.slice none 0 0) := hz2; (with_reducible have hz1 := Blk1.keep (((Blk1.new _ _ _).alloc _).drew) hb); have hz1 : Blk1 _ _ (Value.slice none 0 0) := hz1) | ((with_reducible have hz2 := Blk1.keep ((Blk1.new _ _ _).drew) hb); have hz2 : Blk1 _ _ (Value.slice none 0 0) := hz2; (with_reducible have hz1 := Blk1.keep ((((Blk1.new _ _ _).alloc _).alloc _).drew) hb); have hz1 : Blk1 _ _ (Value.slice none 0 0) := hz1) | ((with_reducible have hz2 := Blk1.keep (((Blk1.new _ _ _).alloc _).drew) hb); have hz2 : Blk1 _ _ (Value.slice none 0 0) := hz2; (with_reducible have hz1 := Blk1.keep ((((Blk1.new _ _ _).alloc _).alloc _).drew) hb); have hz1 : Blk1 _ _ (Value.slice none 0 0) := hz1)) | (first | ((with_reducible have hz1 := Blk1.keep (Blk1.new _ _ _) hb); have hz1 : Blk1 _ _ (Value.slice none 0 0) := hz1) | ((with_reducible have hz1 := Blk1.keep ((Blk1.new _ _ _).alloc _) hb); have hz1 : Blk1 _ _ (Value.slice none 0 0) := hz1) | ((with_reducible have hz1 := Blk1.keep (((Blk1.new _ _ _).alloc _).alloc _) hb); have hz1 : Blk1 _ _ (Value.slice none 0 0) := hz1) | ((with_reducible have hz1 := Blk1.keep ((Blk1.new _ _ _).drew) hb); have hz1 : Blk1 _ _ (Value.slice none 0 0) := hz1) | ((with_reducible have hz1 := Blk1.keep (((Blk1.new _ _ _).alloc _).drew) hb); have hz1 : Blk1 _ _ (Value.slice none 0 0) := hz1) | ((with_reducible have hz1 := Blk1.keep ((((Blk1.new _ _ _).alloc _).alloc _).drew) hb); have hz1 : Blk1 _ _ (Value.slice none 0 0) := hz1)) | skip); (try simp only [alloc_size, drew_size] at hz1); (try simp only [alloc_size, drew_size] at hz2); (try (have hzc1 := hz1.cell; have hzf1 := hz1.frozen; have hzo1 := fun o => (hz1.alloc o).cell; have hzp1 := fun o => (hz1.alloc o).frozen)); (try (have hzc2 := hz2.cell; have hzf2 := hz2.frozen; have hzo2 := fun o => (hz2.alloc o).cell; have hzp2 := fun o => (hz2.alloc o).frozen)); (try (have hzl1 := hz1.lt)); (try (have hzq := two_set hz1 hz2 (by first | omega | (simp; done) | (simp; omega)); obtain ⟨hzq1, hzq2, hzq3, hzq4⟩ := hzq)); (try (have hzt := fun t => two_set (Blk1.alloc hz1 (.cells #[Value.slice none 0 0] t)) (Blk1.new _ t (Value.slice none 0 0)) (by first | omega | (simp; done) | (simp; omega)))); go_split_ands; have hBw : Below W8.heap.size W8 wa10 := keep_below (by with_reducible assumption) hb; have gw0 : wa10.cell? ⟨q8, 0, none⟩ = some (.slice B5 m5 d5) := keep_cell hb (by with_reducible assumption); (first | (with_reducible have hw8 := WordsIn.below hw8 hb) | (with_reducible have hw8 := WordsIn.below (WordsIn.below hw8 (up_alloc _ _)) hb) | (with_reducible have hw8 := WordsIn.below (WordsIn.below (WordsIn.below hw8 (up_alloc _ _)) (up_alloc _ _)) hb))))
    all_goals (go_wp2_with fail; go_meet)
    all_goals (
      (with_reducible refine ⟨_, B9, m9, d9, rfl, rfl, (Blk1.cell ?_), ?_, ?_⟩)
      · ((repeat (first | (first | with_reducible exact hz1 | with_reducible exact hz2 | with_reducible exact Blk1.new _ _ _ | with_reducible refine Blk1.newAt (by first | rfl | (simp; done))) | with_reducible refine Blk1.set_ (v := .slice none 0 0) ?_ _ | with_reducible refine Blk1.far ?_ (by first | (simp; done) | (simp; omega)) _ | with_reducible refine Blk1.alloc ?_ _)))
      · (repeat (first | (first | with_reducible exact hw9) | with_reducible refine WordsIn.below ?_ (up_alloc _ _) | with_reducible refine words_set_blk1 (a := none) (b := 0) (d := 0) ?_ (by ((repeat (first | (first | with_reducible exact hz1 | with_reducible exact hz2 | with_reducible exact Blk1.new _ _ _ | with_reducible refine Blk1.newAt (by first | rfl | (simp; done))) | with_reducible refine Blk1.set_ (v := .slice none 0 0) ?_ _ | with_reducible refine Blk1.far ?_ (by first | (simp; done) | (simp; omega)) _ | with_reducible refine Blk1.alloc ?_ _)))) _))
      · (repeat (first | with_reducible exact hBw | with_reducible refine keep_below_alloc _ ?_ | with_reducible refine keep_below_set _ (by first | (simp; done) | (simp; omega)) ?_)))
  case rest =>
    obtain ⟨ga10, B9, m9, d9, rfl, rfl, gc0, hw9, hb⟩ := hcut
    obtain ⟨wk11, hwq⟩ : ∃ x, x = wc := ⟨_, rfl⟩
    subst hwq
    have hB := keep_below hB hb
    have HN1 := Lib.hid (HN1.out.below hb)
    have HN2 := Lib.hid (HN2.out.below hb)
    have g3 := keep_cell hb g3
    have g4 := keep_cell hb g4
    have HN5 := Lib.hid (HN5.out.below hb)
    have g6 := keep_cell hb g6
    have g10 := gc0
    have HN9 := Lib.hid hw9
    clear hb gc0 hw9
    go_wp2_with fail
    have HZ11 : Hid (Sz (K + K) (((x * y) - 1) / y)) := Sz.of_le HZ9.out (Nat.div_le_self _ _)
    have HZ12 : Hid (Sz (K + K) (((x * y) - 1) % y)) := Sz.of_le HZ9.out (Nat.mod_le _ _)
    refine (HQC.out.divMod ((x * y) - 1) (y) B9 B2 m9 m2 d9 d2 _ HN9.out HN2.out (by have := Sz.words HZ9.out HN9.out; omega) (by have := Sz.words HZ2.out HN2.out; omega) Hhb.out).mono ?_
    rintro e wc12 ⟨B11, m11, d11, B12, m12, d12, rfl, hw11, hw12, hb⟩
    have hB := keep_below hB hb
    have HN1 := Lib.hid (HN1.out.below hb)
    have HN2 := Lib.hid (HN2.out.below hb)
    have g3 := keep_cell hb g3
    have g4 := keep_cell hb g4
    have HN5 := Lib.hid (HN5.out.below hb)
    have g6 := keep_cell hb g6
    have g10 := keep_cell hb g10
    have HN9 := Lib.hid (HN9.out.below hb)
    have HN11 := Lib.hid hw11
    have HN12 := Lib.hid hw12
    clear hb hw11 hw12
    obtain ⟨b1, b2, b3, bz⟩ := box2 wc12 26 26 #[.slice B11 m11 d11] #[.slice B12 m12 d12]
    have hB := keep_below hB b1
    have HN1 := Lib.hid (HN1.out.below b1)
    have HN2 := Lib.hid (HN2.out.below b1)
    have g3 := keep_cell b1 g3
    have g4 := keep_cell b1 g4
    have HN5 := Lib.hid (HN5.out.below b1)
    have g6 := keep_cell b1 g6
    have g10 := keep_cell b1 g10
    have HN9 := Lib.hid (HN9.out.below b1)
    have HN11 := Lib.hid (HN11.out.below b1)
    have HN12 := Lib.hid (HN12.out.below b1)
    have g13 : ((wc12.alloc (.cells #[.slice B11 m11 d11] 26)).alloc (.cells #[.slice B12 m12 d12] 26)).cell? ⟨wc12.heap.size, 0, none⟩ = some (.slice B11 m11 d11) := b2.cell 0
    have g14 : ((wc12.alloc (.cells #[.slice B11 m11 d11] 26)).alloc (.cells #[.slice B12 m12 d12] 26)).cell? ⟨wc12.heap.size + 1, 0, none⟩ = some (.slice B12 m12 d12) := b3.cell 0
    clear b1 b2 b3 bz
    go_wp2_with fail
    generalize (wc12.alloc (.cells #[.slice B11 m11 d11] 26)).alloc (.cells #[.slice B12 m12 d12] 26) = W13 at *
    generalize wc12.heap.size = q13 at *
    have HZ16 : Hid (Sz (1) (1)) := (by show (1 : Nat) < 18446744073709551616 ^ 1; decide)
    have C0 := Lib.hid (fun w' (h : Below W13.heap.size W13 w') (gl : Nat) (k15 : Blk w' gl 23 #[.int .u64 1]) => of_lits _ [1] _ _ 1 (1) k15 rfl rfl (dgs1 1 (by decide)) rfl (by decide))
    have HZ17 : Hid (Sz (K) (x - 1)) := Sz.of_le HZ1.out (Nat.sub_le _ _)
    have C1 := Lib.hid (fun w' (h : Below W13.heap.size W13 w') B16 m16 d16 (hw16 : WordsIn w' (1) B16 m16 d16) => nat_sub (x) (1) B1 B16 m1 m16 d1 d16 w' (HN1.out.below h) hw16 (by have := Sz.words HZ1.out HN1.out; omega) (by have := Sz.words HZ16.out hw16; omega) (Nat.pos_iff_ne_zero.2 Hha.out))
    have lt0 : q4 < W13.heap.size := World.block_lt_of_cell? W13 ⟨q4, 0, none⟩ g3
    go_cut [13, 14] (fun s13 s14 wx => ∃ (g0 : Nat) (B17 : Option Addr) (m17 d17 : Nat), s13 = .pointer (some ⟨g0, 0, none⟩) ∧ s14 = .bool true ∧ wx.cell? ⟨g0, 0, none⟩ = some (.slice B17 m17 d17) ∧ WordsIn wx (x - 1) B17 m17 d17 ∧ Below W13.heap.size W13 wx)
    case first =>
      have hb0 : Below W13.heap.size W13 W13.drew := (Below.refl _ W13).drew
      have hbr := Below.refl W13.heap.size W13
      have j0 : W13.drew.cell? ⟨q4, 0, none⟩ = some (.slice B1 m1 d1) := g3
      go_region_held3 (fun w' => Below W13.heap.size W13 w' ∧ w'.cell? ⟨q4, 0, none⟩ = some (.slice B1 m1 d1))
        (first | (with_reducible exact ⟨hb0, j0⟩) | (go_split_ands; (repeat' apply And.intro); all_goals (first | with_reducible assumption | with_reducible exact keep_below (by with_reducible assumption) hb | with_reducible exact keep_cell hb (by with_reducible assumption) | with_reducible exact keep_below_alloc _ (by with_reducible assumption) | with_reducible exact keep_cell_alloc _ (by with_reducible assumption) | with_reducible exact keep_below_alloc _ (keep_below_alloc _ (by with_reducible assumption)) | with_reducible exact keep_cell_alloc _ (keep_cell_alloc _ (by with_reducible assumption)) | with_reducible exact keep_below_alloc _ (keep_below_alloc _ (keep_below_alloc _ (by with_reducible assumption))) | with_reducible exact keep_cell_alloc _ (keep_cell_alloc _ (keep_cell_alloc _ (by with_reducible assumption))) | with_reducible exact keep_below_drew (keep_below_alloc _ (by with_reducible assumption)) | with_reducible exact keep_cell_drew (keep_cell_alloc _ (by with_reducible assumption)) | with_reducible exact keep_below_drew (keep_below_alloc _ (keep_below_alloc _ (by with_reducible assumption))) | with_reducible exact keep_cell_drew (keep_cell_alloc _ (keep_cell_alloc _ (by with_reducible assumption))) | with_reducible exact keep_below_set _ (by first | (simp; done) | (simp; omega)) (by with_reducible assumption) | with_reducible exact keep_cell_set _ (by first | (simp; done) | (simp; omega)) (by with_reducible assumption) | ((repeat (first | with_reducible assumption | with_reducible refine keep_below_set _ (by first | omega | (simp; done) | (simp; omega)) ?_ | with_reducible refine keep_below_alloc _ ?_ | with_reducible refine keep_below_drew ?_)); done) | ((repeat (first | with_reducible assumption | with_reducible refine keep_cell_set _ (by first | omega | (simp; done) | (simp; omega)) ?_ | with_reducible refine keep_cell_alloc _ ?_ | with_reducible refine keep_cell_drew ?_)); done))))
        (first
          | (go_at_call 10; (first | (with_reducible refine (C0.out _ (by first | with_reducible assumption | exact And.left (by with_reducible assumption)) _ (Blk.new _ _ _)).mono ?_) | (with_reducible refine (C0.out _ (by first | with_reducible assumption | exact And.left (by with_reducible assumption)) _ ((Blk.new _ _ _).drew)).mono ?_) | (with_reducible refine (C0.out _ (by first | with_reducible assumption | exact And.left (by with_reducible assumption)) _ ((Blk.newAt (by simp)))).mono ?_) | (with_reducible refine (C0.out _ (by first | with_reducible assumption | exact And.left (by with_reducible assumption)) _ ((Blk.newAt (by simp)).drew)).mono ?_) | (with_reducible refine (C0.out _ (by first | with_reducible assumption | exact And.left (by with_reducible assumption)) _ ((Blk.new _ _ _).alloc _)).mono ?_) | (with_reducible refine (C0.out _ (by first | with_reducible assumption | exact And.left (by with_reducible assumption)) _ (((Blk.new _ _ _).alloc _).alloc _)).mono ?_) | (with_reducible refine (C0.out _ (by first | with_reducible assumption | exact And.left (by with_reducible assumption)) _ (((Blk.new _ _ _).alloc _).drew)).mono ?_) | (with_reducible refine (C0.out _ (by first | with_reducible assumption | exact And.left (by with_reducible assumption)) _ ((((Blk.new _ _ _).alloc _).alloc _).drew)).mono ?_)); rintro e wa14 ⟨B16, m16, d16, rfl, hw16, hb, _⟩; (try (have hzl := hz1.lt)); (first | ((first | (with_reducible have hz2 := Blk1.keep hz2 hb) | (with_reducible have hz2 := Blk1.keep (hz2.alloc _) hb) | (with_reducible have hz2 := Blk1.keep ((hz2.alloc _).alloc _) hb) | (with_reducible have hz2 := Blk1.keep (((hz2.alloc _).alloc _).alloc _) hb)); (first | (with_reducible have hz1 := Blk1.keep hz1 hb) | (with_reducible have hz1 := Blk1.keep (hz1.alloc _) hb) | (with_reducible have hz1 := Blk1.keep ((hz1.alloc _).alloc _) hb) | (with_reducible have hz1 := Blk1.keep (((hz1.alloc _).alloc _).alloc _) hb))) | ((first | ((with_reducible have hz2 := Blk1.keep (Blk1.new _ _ _) hb); have hz2 : Blk1 _ _ (Value.slice none 0 0) := hz2) | ((with_reducible have hz2 := Blk1.keep ((Blk1.new _ _ _).alloc _) hb); have hz2 : Blk1 _ _ (Value.slice none 0 0) := hz2) | ((with_reducible have hz2 := Blk1.keep (((Blk1.new _ _ _).alloc _).alloc _) hb); have hz2 : Blk1 _ _ (Value.slice none 0 0) := hz2) | ((with_reducible have hz2 := Blk1.keep ((Blk1.new _ _ _).drew) hb); have hz2 : Blk1 _ _ (Value.slice none 0 0) := hz2) | ((with_reducible have hz2 := Blk1.keep (((Blk1.new _ _ _).alloc _).drew) hb); have hz2 : Blk1 _ _ (Value.slice none 0 0) := hz2) | ((with_reducible have hz2 := Blk1.keep ((((Blk1.new _ _ _).alloc _).alloc _).drew) hb); have hz2 : Blk1 _ _ (Value.slice none 0 0) := hz2)); (first | (with_reducible have hz1 := Blk1.keep hz1 hb) | (with_reducible have hz1 := Blk1.keep (hz1.alloc _) hb) | (with_reducible have hz1 := Blk1.keep ((hz1.alloc _).alloc _) hb) | (with_reducible have hz1 := Blk1.keep (((hz1.alloc _).alloc _).alloc _) hb))) | (first | (with_reducible have hz1 := Blk1.keep hz1 hb) | (with_reducible have hz1 := Blk1.keep (hz1.alloc _) hb) | (with_reducible have hz1 := Blk1.keep ((hz1.alloc _).alloc _) hb) | (with_reducible have hz1 := Blk1.keep (((hz1.alloc _).alloc _).alloc _) hb)) | (first | ((with_reducible have hz2 := Blk1.keep (Blk1.new _ _ _) hb); have hz2 : Blk1 _ _ (Value.slice none 0 0) := hz2; (with_reducible have hz1 := Blk1.keep ((Blk1.new _ _ _).alloc _) hb); have hz1 : Blk1 _ _ (Value.slice none 0 0) := hz1) | ((with_reducible have hz2 := Blk1.keep (Blk1.new _ _ _) hb); have hz2 : Blk1 _ _ (Value.slice none 0 0) := hz2; (with_reducible have hz1 := Blk1.keep (((Blk1.new _ _ _).alloc _).alloc _) hb); have hz1 : Blk1 _ _ (Value.slice none 0 0) := hz1) | ((with_reducible have hz2 := Blk1.keep ((Blk1.new _ _ _).alloc _) hb); have hz2 : Blk1 _ _ (Value.slice none 0 0) := hz2; (with_reducible have hz1 := Blk1.keep (((Blk1.new _ _ _).alloc _).alloc _) hb); have hz1 : Blk1 _ _ (Value.slice none 0 0) := hz1) | ((with_reducible have hz2 := Blk1.keep ((Blk1.new _ _ _).drew) hb); have hz2 : Blk1 _ _ (Value.slice none 0 0) := hz2; (with_reducible have hz1 := Blk1.keep (((Blk1.new _ _ _).alloc _).drew) hb); have hz1 : Blk1 _ _ (Value.slice none 0 0) := hz1) | ((with_reducible have hz2 := Blk1.keep ((Blk1.new _ _ _).drew) hb); have hz2 : Blk1 _ _ (Value.slice none 0 0) := hz2; (with_reducible have hz1 := Blk1.keep ((((Blk1.new _ _ _).alloc _).alloc _).drew) hb); have hz1 : Blk1 _ _ (Value.slice none 0 0) := hz1) | ((with_reducible have hz2 := Blk1.keep (((Blk1.new _ _ _).alloc _).drew) hb); have hz2 : Blk1 _ _ (Value.slice none 0 0) := hz2; (with_reducible have hz1 := Blk1.keep ((((Blk1.new _ _ _).alloc _).alloc _).drew) hb); have hz1 : Blk1 _ _ (Value.slice none 0 0) := hz1)) | (first | ((with_reducible have hz1 := Blk1.keep (Blk1.new _ _ _) hb); have hz1 : Blk1 _ _ (Value.slice none 0 0) := hz1) | ((with_reducible have hz1 := Blk1.keep ((Blk1.new _ _ _).alloc _) hb); have hz1 : Blk1 _ _ (Value.slice none 0 0) := hz1) | ((with_reducible have hz1 := Blk1.keep (((Blk1.new _ _ _).alloc _).alloc _) hb); have hz1 : Blk1 _ _ (Value.slice none 0 0) := hz1) | ((with_reducible have hz1 := Blk1.keep ((Blk1.new _ _ _).drew) hb); have hz1 : Blk1 _ _ (Value.slice none 0 0) := hz1) | ((with_reducible have hz1 := Blk1.keep (((Blk1.new _ _ _).alloc _).drew) hb); have hz1 : Blk1 _ _ (Value.slice none 0 0) := hz1) | ((with_reducible have hz1 := Blk1.keep ((((Blk1.new _ _ _).alloc _).alloc _).drew) hb); have hz1 : Blk1 _ _ (Value.slice none 0 0) := hz1)) | skip); (try simp only [alloc_size, drew_size] at hz1); (try simp only [alloc_size, drew_size] at hz2); (try (have hzc1 := hz1.cell; have hzf1 := hz1.frozen; have hzo1 := fun o => (hz1.alloc o).cell; have hzp1 := fun o => (hz1.alloc o).frozen)); (try (have hzc2 := hz2.cell; have hzf2 := hz2.frozen; have hzo2 := fun o => (hz2.alloc o).cell; have hzp2 := fun o => (hz2.alloc o).frozen)); (try (have hzl1 := hz1.lt)); (try (have hzq := two_set hz1 hz2 (by first | omega | (simp; done) | (simp; omega)); obtain ⟨hzq1, hzq2, hzq3, hzq4⟩ := hzq)); (try (have hzt := fun t => two_set (Blk1.alloc hz1 (.cells #[Value.slice none 0 0] t)) (Blk1.new _ t (Value.slice none 0 0)) (by first | omega | (simp; done) | (simp; omega)))); go_split_ands; have hBw : Below W13.heap.size W13 wa14 := keep_below (by with_reducible assumption) hb; have gw0 : wa14.cell? ⟨q4, 0, none⟩ = some (.slice B1 m1 d1) := keep_cell hb (by with_reducible assumption))
          | (go_at_call 23; (first | (with_reducible refine (C1.out _ (by first | with_reducible assumption | exact And.left (by with_reducible assumption)) _ _ _ hw16).mono ?_) | (with_reducible refine (C1.out _ (by first | with_reducible assumption | exact And.left (by with_reducible assumption)) _ _ _ (hw16.below (up_alloc _ _))).mono ?_) | (with_reducible refine (C1.out _ (by first | with_reducible assumption | exact And.left (by with_reducible assumption)) _ _ _ ((hw16.below (up_alloc _ _)).below (up_alloc _ _))).mono ?_)); rintro e wa15 ⟨B17, m17, d17, rfl, hw17, hb, _⟩; (try have hzs1 := hBw.size); (try (have hzl := hz1.lt)); (first | ((first | (with_reducible have hz2 := Blk1.keep hz2 hb) | (with_reducible have hz2 := Blk1.keep (hz2.alloc _) hb) | (with_reducible have hz2 := Blk1.keep ((hz2.alloc _).alloc _) hb) | (with_reducible have hz2 := Blk1.keep (((hz2.alloc _).alloc _).alloc _) hb)); (first | (with_reducible have hz1 := Blk1.keep hz1 hb) | (with_reducible have hz1 := Blk1.keep (hz1.alloc _) hb) | (with_reducible have hz1 := Blk1.keep ((hz1.alloc _).alloc _) hb) | (with_reducible have hz1 := Blk1.keep (((hz1.alloc _).alloc _).alloc _) hb))) | ((first | ((with_reducible have hz2 := Blk1.keep (Blk1.new _ _ _) hb); have hz2 : Blk1 _ _ (Value.slice none 0 0) := hz2) | ((with_reducible have hz2 := Blk1.keep ((Blk1.new _ _ _).alloc _) hb); have hz2 : Blk1 _ _ (Value.slice none 0 0) := hz2) | ((with_reducible have hz2 := Blk1.keep (((Blk1.new _ _ _).alloc _).alloc _) hb); have hz2 : Blk1 _ _ (Value.slice none 0 0) := hz2) | ((with_reducible have hz2 := Blk1.keep ((Blk1.new _ _ _).drew) hb); have hz2 : Blk1 _ _ (Value.slice none 0 0) := hz2) | ((with_reducible have hz2 := Blk1.keep (((Blk1.new _ _ _).alloc _).drew) hb); have hz2 : Blk1 _ _ (Value.slice none 0 0) := hz2) | ((with_reducible have hz2 := Blk1.keep ((((Blk1.new _ _ _).alloc _).alloc _).drew) hb); have hz2 : Blk1 _ _ (Value.slice none 0 0) := hz2)); (first | (with_reducible have hz1 := Blk1.keep hz1 hb) | (with_reducible have hz1 := Blk1.keep (hz1.alloc _) hb) | (with_reducible have hz1 := Blk1.keep ((hz1.alloc _).alloc _) hb) | (with_reducible have hz1 := Blk1.keep (((hz1.alloc _).alloc _).alloc _) hb))) | (first | (with_reducible have hz1 := Blk1.keep hz1 hb) | (with_reducible have hz1 := Blk1.keep (hz1.alloc _) hb) | (with_reducible have hz1 := Blk1.keep ((hz1.alloc _).alloc _) hb) | (with_reducible have hz1 := Blk1.keep (((hz1.alloc _).alloc _).alloc _) hb)) | (first | ((with_reducible have hz2 := Blk1.keep (Blk1.new _ _ _) hb); have hz2 : Blk1 _ _ (Value.slice none 0 0) := hz2; (with_reducible have hz1 := Blk1.keep ((Blk1.new _ _ _).alloc _) hb); have hz1 : Blk1 _ _ (Value.slice none 0 0) := hz1) | ((with_reducible have hz2 := Blk1.keep (Blk1.new _ _ _) hb); have hz2 : Blk1 _ _ (Value.slice none 0 0) := hz2; (with_reducible have hz1 := Blk1.keep (((Blk1.new _ _ _).alloc _).alloc _) hb); have hz1 : Blk1 _ _ (Value.slice none 0 0) := hz1) | ((with_reducible have hz2 := Blk1.keep ((Blk1.new _ _ _).alloc _) hb); have hz2 : Blk1 _ _ (Value.slice none 0 0) := hz2; (with_reducible have hz1 := Blk1.keep (((Blk1.new _ _ _).alloc _).alloc _) hb); have hz1 : Blk1 _ _ (Value.slice none 0 0) := hz1) | ((with_reducible have hz2 := Blk1.keep ((Blk1.new _ _ _).drew) hb); have hz2 : Blk1 _ _ (Value.slice none 0 0) := hz2; (with_reducible have hz1 := Blk1.keep (((Blk1.new _ _ _).alloc _).drew) hb); have hz1 : Blk1 _ _ (Value.slice none 0 0) := hz1) | ((with_reducible have hz2 := Blk1.keep ((Blk1.new _ _ _).drew) hb); have hz2 : Blk1 _ _ (Value.slice none 0 0) := hz2; (with_reducible have hz1 := Blk1.keep ((((Blk1.new _ _ _).alloc _).alloc _).drew) hb); have hz1 : Blk1 _ _ (Value.slice none 0 0) := hz1) | ((with_reducible have hz2 := Blk1.keep (((Blk1.new _ _ _).alloc _).drew) hb); have hz2 : Blk1 _ _ (Value.slice none 0 0) := hz2; (with_reducible have hz1 := Blk1.keep ((((Blk1.new _ _ _).alloc _).alloc _).drew) hb); have hz1 : Blk1 _ _ (Value.slice none 0 0) := hz1)) | (first | ((with_reducible have hz1 := Blk1.keep (Blk1.new _ _ _) hb); have hz1 : Blk1 _ _ (Value.slice none 0 0) := hz1) | ((with_reducible have hz1 := Blk1.keep ((Blk1.new _ _ _).alloc _) hb); have hz1 : Blk1 _ _ (Value.slice none 0 0) := hz1) | ((with_reducible have hz1 := Blk1.keep (((Blk1.new _ _ _).alloc _).alloc _) hb); have hz1 : Blk1 _ _ (Value.slice none 0 0) := hz1) | ((with_reducible have hz1 := Blk1.keep ((Blk1.new _ _ _).drew) hb); have hz1 : Blk1 _ _ (Value.slice none 0 0) := hz1) | ((with_reducible have hz1 := Blk1.keep (((Blk1.new _ _ _).alloc _).drew) hb); have hz1 : Blk1 _ _ (Value.slice none 0 0) := hz1) | ((with_reducible have hz1 := Blk1.keep ((((Blk1.new _ _ _).alloc _).alloc _).drew) hb); have hz1 : Blk1 _ _ (Value.slice none 0 0) := hz1)) | skip); (try simp only [alloc_size, drew_size] at hz1); (try simp only [alloc_size, drew_size] at hz2); (try (have hzc1 := hz1.cell; have hzf1 := hz1.frozen; have hzo1 := fun o => (hz1.alloc o).cell; have hzp1 := fun o => (hz1.alloc o).frozen)); (try (have hzc2 := hz2.cell; have hzf2 := hz2.frozen; have hzo2 := fun o => (hz2.alloc o).cell; have hzp2 := fun o => (hz2.alloc o).frozen)); (try (have hzl1 := hz1.lt)); (try (have hzq := two_set hz1 hz2 (by first | omega | (simp; done) | (simp; omega)); obtain ⟨hzq1, hzq2, hzq3, hzq4⟩ := hzq)); (try (have hzt := fun t => two_set (Blk1.alloc hz1 (.cells #[Value.slice none 0 0] t)) (Blk1.new _ t (Value.slice none 0 0)) (by first | omega | (simp; done) | (simp; omega)))); go_split_ands; have hBw : Below W13.heap.size W13 wa15 := keep_below (by with_reducible assumption) hb; have gw0 : wa15.cell? ⟨q4, 0, none⟩ = some (.slice B1 m1 d1) := keep_cell hb (by with_reducible assumption); (first | (with_reducible have hw16 := WordsIn.below hw16 hb) | (with_reducible have hw16 := WordsIn.below (WordsIn.below hw16 (up_alloc _ _)) hb) | (with_reducible have hw16 := WordsIn.below (WordsIn.below (WordsIn.below hw16 (up_alloc _ _)) (up_alloc _ _)) hb))))
      all_goals (go_wp2_with fail; go_meet)
      all_goals (
        (with_reducible refine ⟨_, B17, m17, d17, rfl, rfl, (Blk1.cell ?_), ?_, ?_⟩)
        · ((repeat (first | (first | with_reducible exact hz1 | with_reducible exact hz2 | with_reducible exact Blk1.new _ _ _ | with_reducible refine Blk1.newAt (by first | rfl | (simp; done))) | with_reducible refine Blk1.set_ (v := .slice none 0 0) ?_ _ | with_reducible refine Blk1.far ?_ (by first | (simp; done) | (simp; omega)) _ | with_reducible refine Blk1.alloc ?_ _)))
        · (repeat (first | (first | with_reducible exact hw17) | with_reducible refine WordsIn.below ?_ (up_alloc _ _) | with_reducible refine words_set_blk1 (a := none) (b := 0) (d := 0) ?_ (by ((repeat (first | (first | with_reducible exact hz1 | with_reducible exact hz2 | with_reducible exact Blk1.new _ _ _ | with_reducible refine Blk1.newAt (by first | rfl | (simp; done))) | with_reducible refine Blk1.set_ (v := .slice none 0 0) ?_ _ | with_reducible refine Blk1.far ?_ (by first | (simp; done) | (simp; omega)) _ | with_reducible refine Blk1.alloc ?_ _)))) _))
        · (repeat (first | with_reducible exact hBw | with_reducible refine keep_below_alloc _ ?_ | with_reducible refine keep_below_set _ (by first | (simp; done) | (simp; omega)) ?_)))
    case rest =>
      obtain ⟨ga18, B17, m17, d17, rfl, rfl, gc0, hw17, hb⟩ := hcut
      obtain ⟨wk16, hwq⟩ : ∃ x, x = wc := ⟨_, rfl⟩
      subst hwq
      have hB := keep_below hB hb
      have HN1 := Lib.hid (HN1.out.below hb)
      have HN2 := Lib.hid (HN2.out.below hb)
      have g3 := keep_cell hb g3
      have g4 := keep_cell hb g4
      have HN5 := Lib.hid (HN5.out.below hb)
      have g6 := keep_cell hb g6
      have g10 := keep_cell hb g10
      have HN9 := Lib.hid (HN9.out.below hb)
      have HN11 := Lib.hid (HN11.out.below hb)
      have HN12 := Lib.hid (HN12.out.below hb)
      have g13 := keep_cell hb g13
      have g14 := keep_cell hb g14
      have g18 := gc0
      have HN17 := Lib.hid hw17
      clear hb gc0 hw17
      go_wp2_with fail
      have HZ20 : Hid (Sz (1) (1)) := (by show (1 : Nat) < 18446744073709551616 ^ 1; decide)
      have C0 := Lib.hid (fun w' (h : Below wk16.heap.size wk16 w') (gl : Nat) (k19 : Blk w' gl 23 #[.int .u64 1]) => of_lits _ [1] _ _ 1 (1) k19 rfl rfl (dgs1 1 (by decide)) rfl (by decide))
      have HZ21 : Hid (Sz (K) (y - 1)) := Sz.of_le HZ2.out (Nat.sub_le _ _)
      have C1 := Lib.hid (fun w' (h : Below wk16.heap.size wk16 w') B20 m20 d20 (hw20 : WordsIn w' (1) B20 m20 d20) => nat_sub (y) (1) B2 B20 m2 m20 d2 d20 w' (HN2.out.below h) hw20 (by have := Sz.words HZ2.out HN2.out; omega) (by have := Sz.words HZ20.out hw20; omega) (Nat.pos_iff_ne_zero.2 Hhb.out))
      have lt0 : q4 + 1 < wk16.heap.size := World.block_lt_of_cell? wk16 ⟨q4 + 1, 0, none⟩ g4
      go_cut [15, 16] (fun s15 s16 wx => ∃ (g0 : Nat) (B21 : Option Addr) (m21 d21 : Nat), s15 = .pointer (some ⟨g0, 0, none⟩) ∧ s16 = .bool true ∧ wx.cell? ⟨g0, 0, none⟩ = some (.slice B21 m21 d21) ∧ WordsIn wx (y - 1) B21 m21 d21 ∧ Below wk16.heap.size wk16 wx)
      case first =>
        have hb0 : Below wk16.heap.size wk16 wk16.drew := (Below.refl _ wk16).drew
        have hbr := Below.refl wk16.heap.size wk16
        have j0 : wk16.drew.cell? ⟨q4 + 1, 0, none⟩ = some (.slice B2 m2 d2) := g4
        go_region_held3 (fun w' => Below wk16.heap.size wk16 w' ∧ w'.cell? ⟨q4 + 1, 0, none⟩ = some (.slice B2 m2 d2))
          (first | (with_reducible exact ⟨hb0, j0⟩) | (go_split_ands; (repeat' apply And.intro); all_goals (first | with_reducible assumption | with_reducible exact keep_below (by with_reducible assumption) hb | with_reducible exact keep_cell hb (by with_reducible assumption) | with_reducible exact keep_below_alloc _ (by with_reducible assumption) | with_reducible exact keep_cell_alloc _ (by with_reducible assumption) | with_reducible exact keep_below_alloc _ (keep_below_alloc _ (by with_reducible assumption)) | with_reducible exact keep_cell_alloc _ (keep_cell_alloc _ (by with_reducible assumption)) | with_reducible exact keep_below_alloc _ (keep_below_alloc _ (keep_below_alloc _ (by with_reducible assumption))) | with_reducible exact keep_cell_alloc _ (keep_cell_alloc _ (keep_cell_alloc _ (by with_reducible assumption))) | with_reducible exact keep_below_drew (keep_below_alloc _ (by with_reducible assumption)) | with_reducible exact keep_cell_drew (keep_cell_alloc _ (by with_reducible assumption)) | with_reducible exact keep_below_drew (keep_below_alloc _ (keep_below_alloc _ (by with_reducible assumption))) | with_reducible exact keep_cell_drew (keep_cell_alloc _ (keep_cell_alloc _ (by with_reducible assumption))) | with_reducible exact keep_below_set _ (by first | (simp; done) | (simp; omega)) (by with_reducible assumption) | with_reducible exact keep_cell_set _ (by first | (simp; done) | (simp; omega)) (by with_reducible assumption) | ((repeat (first | with_reducible assumption | with_reducible refine keep_below_set _ (by first | omega | (simp; done) | (simp; omega)) ?_ | with_reducible refine keep_below_alloc _ ?_ | with_reducible refine keep_below_drew ?_)); done) | ((repeat (first | with_reducible assumption | with_reducible refine keep_cell_set _ (by first | omega | (simp; done) | (simp; omega)) ?_ | with_reducible refine keep_cell_alloc _ ?_ | with_reducible refine keep_cell_drew ?_)); done))))
          (first
            | (go_at_call 10; (first | (with_reducible refine (C0.out _ (by first | with_reducible assumption | exact And.left (by with_reducible assumption)) _ (Blk.new _ _ _)).mono ?_) | (with_reducible refine (C0.out _ (by first | with_reducible assumption | exact And.left (by with_reducible assumption)) _ ((Blk.new _ _ _).drew)).mono ?_) | (with_reducible refine (C0.out _ (by first | with_reducible assumption | exact And.left (by with_reducible assumption)) _ ((Blk.newAt (by simp)))).mono ?_) | (with_reducible refine (C0.out _ (by first | with_reducible assumption | exact And.left (by with_reducible assumption)) _ ((Blk.newAt (by simp)).drew)).mono ?_) | (with_reducible refine (C0.out _ (by first | with_reducible assumption | exact And.left (by with_reducible assumption)) _ ((Blk.new _ _ _).alloc _)).mono ?_) | (with_reducible refine (C0.out _ (by first | with_reducible assumption | exact And.left (by with_reducible assumption)) _ (((Blk.new _ _ _).alloc _).alloc _)).mono ?_) | (with_reducible refine (C0.out _ (by first | with_reducible assumption | exact And.left (by with_reducible assumption)) _ (((Blk.new _ _ _).alloc _).drew)).mono ?_) | (with_reducible refine (C0.out _ (by first | with_reducible assumption | exact And.left (by with_reducible assumption)) _ ((((Blk.new _ _ _).alloc _).alloc _).drew)).mono ?_)); rintro e wa17 ⟨B20, m20, d20, rfl, hw20, hb, _⟩; (try (have hzl := hz1.lt)); (first | ((first | (with_reducible have hz2 := Blk1.keep hz2 hb) | (with_reducible have hz2 := Blk1.keep (hz2.alloc _) hb) | (with_reducible have hz2 := Blk1.keep ((hz2.alloc _).alloc _) hb) | (with_reducible have hz2 := Blk1.keep (((hz2.alloc _).alloc _).alloc _) hb)); (first | (with_reducible have hz1 := Blk1.keep hz1 hb) | (with_reducible have hz1 := Blk1.keep (hz1.alloc _) hb) | (with_reducible have hz1 := Blk1.keep ((hz1.alloc _).alloc _) hb) | (with_reducible have hz1 := Blk1.keep (((hz1.alloc _).alloc _).alloc _) hb))) | ((first | ((with_reducible have hz2 := Blk1.keep (Blk1.new _ _ _) hb); have hz2 : Blk1 _ _ (Value.slice none 0 0) := hz2) | ((with_reducible have hz2 := Blk1.keep ((Blk1.new _ _ _).alloc _) hb); have hz2 : Blk1 _ _ (Value.slice none 0 0) := hz2) | ((with_reducible have hz2 := Blk1.keep (((Blk1.new _ _ _).alloc _).alloc _) hb); have hz2 : Blk1 _ _ (Value.slice none 0 0) := hz2) | ((with_reducible have hz2 := Blk1.keep ((Blk1.new _ _ _).drew) hb); have hz2 : Blk1 _ _ (Value.slice none 0 0) := hz2) | ((with_reducible have hz2 := Blk1.keep (((Blk1.new _ _ _).alloc _).drew) hb); have hz2 : Blk1 _ _ (Value.slice none 0 0) := hz2) | ((with_reducible have hz2 := Blk1.keep ((((Blk1.new _ _ _).alloc _).alloc _).drew) hb); have hz2 : Blk1 _ _ (Value.slice none 0 0) := hz2)); (first | (with_reducible have hz1 := Blk1.keep hz1 hb) | (with_reducible have hz1 := Blk1.keep (hz1.alloc _) hb) | (with_reducible have hz1 := Blk1.keep ((hz1.alloc _).alloc _) hb) | (with_reducible have hz1 := Blk1.keep (((hz1.alloc _).alloc _).alloc _) hb))) | (first | (with_reducible have hz1 := Blk1.keep hz1 hb) | (with_reducible have hz1 := Blk1.keep (hz1.alloc _) hb) | (with_reducible have hz1 := Blk1.keep ((hz1.alloc _).alloc _) hb) | (with_reducible have hz1 := Blk1.keep (((hz1.alloc _).alloc _).alloc _) hb)) | (first | ((with_reducible have hz2 := Blk1.keep (Blk1.new _ _ _) hb); have hz2 : Blk1 _ _ (Value.slice none 0 0) := hz2; (with_reducible have hz1 := Blk1.keep ((Blk1.new _ _ _).alloc _) hb); have hz1 : Blk1 _ _ (Value.slice none 0 0) := hz1) | ((with_reducible have hz2 := Blk1.keep (Blk1.new _ _ _) hb); have hz2 : Blk1 _ _ (Value.slice none 0 0) := hz2; (with_reducible have hz1 := Blk1.keep (((Blk1.new _ _ _).alloc _).alloc _) hb); have hz1 : Blk1 _ _ (Value.slice none 0 0) := hz1) | ((with_reducible have hz2 := Blk1.keep ((Blk1.new _ _ _).alloc _) hb); have hz2 : Blk1 _ _ (Value.slice none 0 0) := hz2; (with_reducible have hz1 := Blk1.keep (((Blk1.new _ _ _).alloc _).alloc _) hb); have hz1 : Blk1 _ _ (Value.slice none 0 0) := hz1) | ((with_reducible have hz2 := Blk1.keep ((Blk1.new _ _ _).drew) hb); have hz2 : Blk1 _ _ (Value.slice none 0 0) := hz2; (with_reducible have hz1 := Blk1.keep (((Blk1.new _ _ _).alloc _).drew) hb); have hz1 : Blk1 _ _ (Value.slice none 0 0) := hz1) | ((with_reducible have hz2 := Blk1.keep ((Blk1.new _ _ _).drew) hb); have hz2 : Blk1 _ _ (Value.slice none 0 0) := hz2; (with_reducible have hz1 := Blk1.keep ((((Blk1.new _ _ _).alloc _).alloc _).drew) hb); have hz1 : Blk1 _ _ (Value.slice none 0 0) := hz1) | ((with_reducible have hz2 := Blk1.keep (((Blk1.new _ _ _).alloc _).drew) hb); have hz2 : Blk1 _ _ (Value.slice none 0 0) := hz2; (with_reducible have hz1 := Blk1.keep ((((Blk1.new _ _ _).alloc _).alloc _).drew) hb); have hz1 : Blk1 _ _ (Value.slice none 0 0) := hz1)) | (first | ((with_reducible have hz1 := Blk1.keep (Blk1.new _ _ _) hb); have hz1 : Blk1 _ _ (Value.slice none 0 0) := hz1) | ((with_reducible have hz1 := Blk1.keep ((Blk1.new _ _ _).alloc _) hb); have hz1 : Blk1 _ _ (Value.slice none 0 0) := hz1) | ((with_reducible have hz1 := Blk1.keep (((Blk1.new _ _ _).alloc _).alloc _) hb); have hz1 : Blk1 _ _ (Value.slice none 0 0) := hz1) | ((with_reducible have hz1 := Blk1.keep ((Blk1.new _ _ _).drew) hb); have hz1 : Blk1 _ _ (Value.slice none 0 0) := hz1) | ((with_reducible have hz1 := Blk1.keep (((Blk1.new _ _ _).alloc _).drew) hb); have hz1 : Blk1 _ _ (Value.slice none 0 0) := hz1) | ((with_reducible have hz1 := Blk1.keep ((((Blk1.new _ _ _).alloc _).alloc _).drew) hb); have hz1 : Blk1 _ _ (Value.slice none 0 0) := hz1)) | skip); (try simp only [alloc_size, drew_size] at hz1); (try simp only [alloc_size, drew_size] at hz2); (try (have hzc1 := hz1.cell; have hzf1 := hz1.frozen; have hzo1 := fun o => (hz1.alloc o).cell; have hzp1 := fun o => (hz1.alloc o).frozen)); (try (have hzc2 := hz2.cell; have hzf2 := hz2.frozen; have hzo2 := fun o => (hz2.alloc o).cell; have hzp2 := fun o => (hz2.alloc o).frozen)); (try (have hzl1 := hz1.lt)); (try (have hzq := two_set hz1 hz2 (by first | omega | (simp; done) | (simp; omega)); obtain ⟨hzq1, hzq2, hzq3, hzq4⟩ := hzq)); (try (have hzt := fun t => two_set (Blk1.alloc hz1 (.cells #[Value.slice none 0 0] t)) (Blk1.new _ t (Value.slice none 0 0)) (by first | omega | (simp; done) | (simp; omega)))); go_split_ands; have hBw : Below wk16.heap.size wk16 wa17 := keep_below (by with_reducible assumption) hb; have gw0 : wa17.cell? ⟨q4 + 1, 0, none⟩ = some (.slice B2 m2 d2) := keep_cell hb (by with_reducible assumption))
            | (go_at_call 23; (first | (with_reducible refine (C1.out _ (by first | with_reducible assumption | exact And.left (by with_reducible assumption)) _ _ _ hw20).mono ?_) | (with_reducible refine (C1.out _ (by first | with_reducible assumption | exact And.left (by with_reducible assumption)) _ _ _ (hw20.below (up_alloc _ _))).mono ?_) | (with_reducible refine (C1.out _ (by first | with_reducible assumption | exact And.left (by with_reducible assumption)) _ _ _ ((hw20.below (up_alloc _ _)).below (up_alloc _ _))).mono ?_)); rintro e wa18 ⟨B21, m21, d21, rfl, hw21, hb, _⟩; (try have hzs1 := hBw.size); (try (have hzl := hz1.lt)); (first | ((first | (with_reducible have hz2 := Blk1.keep hz2 hb) | (with_reducible have hz2 := Blk1.keep (hz2.alloc _) hb) | (with_reducible have hz2 := Blk1.keep ((hz2.alloc _).alloc _) hb) | (with_reducible have hz2 := Blk1.keep (((hz2.alloc _).alloc _).alloc _) hb)); (first | (with_reducible have hz1 := Blk1.keep hz1 hb) | (with_reducible have hz1 := Blk1.keep (hz1.alloc _) hb) | (with_reducible have hz1 := Blk1.keep ((hz1.alloc _).alloc _) hb) | (with_reducible have hz1 := Blk1.keep (((hz1.alloc _).alloc _).alloc _) hb))) | ((first | ((with_reducible have hz2 := Blk1.keep (Blk1.new _ _ _) hb); have hz2 : Blk1 _ _ (Value.slice none 0 0) := hz2) | ((with_reducible have hz2 := Blk1.keep ((Blk1.new _ _ _).alloc _) hb); have hz2 : Blk1 _ _ (Value.slice none 0 0) := hz2) | ((with_reducible have hz2 := Blk1.keep (((Blk1.new _ _ _).alloc _).alloc _) hb); have hz2 : Blk1 _ _ (Value.slice none 0 0) := hz2) | ((with_reducible have hz2 := Blk1.keep ((Blk1.new _ _ _).drew) hb); have hz2 : Blk1 _ _ (Value.slice none 0 0) := hz2) | ((with_reducible have hz2 := Blk1.keep (((Blk1.new _ _ _).alloc _).drew) hb); have hz2 : Blk1 _ _ (Value.slice none 0 0) := hz2) | ((with_reducible have hz2 := Blk1.keep ((((Blk1.new _ _ _).alloc _).alloc _).drew) hb); have hz2 : Blk1 _ _ (Value.slice none 0 0) := hz2)); (first | (with_reducible have hz1 := Blk1.keep hz1 hb) | (with_reducible have hz1 := Blk1.keep (hz1.alloc _) hb) | (with_reducible have hz1 := Blk1.keep ((hz1.alloc _).alloc _) hb) | (with_reducible have hz1 := Blk1.keep (((hz1.alloc _).alloc _).alloc _) hb))) | (first | (with_reducible have hz1 := Blk1.keep hz1 hb) | (with_reducible have hz1 := Blk1.keep (hz1.alloc _) hb) | (with_reducible have hz1 := Blk1.keep ((hz1.alloc _).alloc _) hb) | (with_reducible have hz1 := Blk1.keep (((hz1.alloc _).alloc _).alloc _) hb)) | (first | ((with_reducible have hz2 := Blk1.keep (Blk1.new _ _ _) hb); have hz2 : Blk1 _ _ (Value.slice none 0 0) := hz2; (with_reducible have hz1 := Blk1.keep ((Blk1.new _ _ _).alloc _) hb); have hz1 : Blk1 _ _ (Value.slice none 0 0) := hz1) | ((with_reducible have hz2 := Blk1.keep (Blk1.new _ _ _) hb); have hz2 : Blk1 _ _ (Value.slice none 0 0) := hz2; (with_reducible have hz1 := Blk1.keep (((Blk1.new _ _ _).alloc _).alloc _) hb); have hz1 : Blk1 _ _ (Value.slice none 0 0) := hz1) | ((with_reducible have hz2 := Blk1.keep ((Blk1.new _ _ _).alloc _) hb); have hz2 : Blk1 _ _ (Value.slice none 0 0) := hz2; (with_reducible have hz1 := Blk1.keep (((Blk1.new _ _ _).alloc _).alloc _) hb); have hz1 : Blk1 _ _ (Value.slice none 0 0) := hz1) | ((with_reducible have hz2 := Blk1.keep ((Blk1.new _ _ _).drew) hb); have hz2 : Blk1 _ _ (Value.slice none 0 0) := hz2; (with_reducible have hz1 := Blk1.keep (((Blk1.new _ _ _).alloc _).drew) hb); have hz1 : Blk1 _ _ (Value.slice none 0 0) := hz1) | ((with_reducible have hz2 := Blk1.keep ((Blk1.new _ _ _).drew) hb); have hz2 : Blk1 _ _ (Value.slice none 0 0) := hz2; (with_reducible have hz1 := Blk1.keep ((((Blk1.new _ _ _).alloc _).alloc _).drew) hb); have hz1 : Blk1 _ _ (Value.slice none 0 0) := hz1) | ((with_reducible have hz2 := Blk1.keep (((Blk1.new _ _ _).alloc _).drew) hb); have hz2 : Blk1 _ _ (Value.slice none 0 0) := hz2; (with_reducible have hz1 := Blk1.keep ((((Blk1.new _ _ _).alloc _).alloc _).drew) hb); have hz1 : Blk1 _ _ (Value.slice none 0 0) := hz1)) | (first | ((with_reducible have hz1 := Blk1.keep (Blk1.new _ _ _) hb); have hz1 : Blk1 _ _ (Value.slice none 0 0) := hz1) | ((with_reducible have hz1 := Blk1.keep ((Blk1.new _ _ _).alloc _) hb); have hz1 : Blk1 _ _ (Value.slice none 0 0) := hz1) | ((with_reducible have hz1 := Blk1.keep (((Blk1.new _ _ _).alloc _).alloc _) hb); have hz1 : Blk1 _ _ (Value.slice none 0 0) := hz1) | ((with_reducible have hz1 := Blk1.keep ((Blk1.new _ _ _).drew) hb); have hz1 : Blk1 _ _ (Value.slice none 0 0) := hz1) | ((with_reducible have hz1 := Blk1.keep (((Blk1.new _ _ _).alloc _).drew) hb); have hz1 : Blk1 _ _ (Value.slice none 0 0) := hz1) | ((with_reducible have hz1 := Blk1.keep ((((Blk1.new _ _ _).alloc _).alloc _).drew) hb); have hz1 : Blk1 _ _ (Value.slice none 0 0) := hz1)) | skip); (try simp only [alloc_size, drew_size] at hz1); (try simp only [alloc_size, drew_size] at hz2); (try (have hzc1 := hz1.cell; have hzf1 := hz1.frozen; have hzo1 := fun o => (hz1.alloc o).cell; have hzp1 := fun o => (hz1.alloc o).frozen)); (try (have hzc2 := hz2.cell; have hzf2 := hz2.frozen; have hzo2 := fun o => (hz2.alloc o).cell; have hzp2 := fun o => (hz2.alloc o).frozen)); (try (have hzl1 := hz1.lt)); (try (have hzq := two_set hz1 hz2 (by first | omega | (simp; done) | (simp; omega)); obtain ⟨hzq1, hzq2, hzq3, hzq4⟩ := hzq)); (try (have hzt := fun t => two_set (Blk1.alloc hz1 (.cells #[Value.slice none 0 0] t)) (Blk1.new _ t (Value.slice none 0 0)) (by first | omega | (simp; done) | (simp; omega)))); go_split_ands; have hBw : Below wk16.heap.size wk16 wa18 := keep_below (by with_reducible assumption) hb; have gw0 : wa18.cell? ⟨q4 + 1, 0, none⟩ = some (.slice B2 m2 d2) := keep_cell hb (by with_reducible assumption); (first | (with_reducible have hw20 := WordsIn.below hw20 hb) | (with_reducible have hw20 := WordsIn.below (WordsIn.below hw20 (up_alloc _ _)) hb) | (with_reducible have hw20 := WordsIn.below (WordsIn.below (WordsIn.below hw20 (up_alloc _ _)) (up_alloc _ _)) hb))))
        all_goals (go_wp2_with fail; go_meet)
        all_goals (
          (with_reducible refine ⟨_, B21, m21, d21, rfl, rfl, (Blk1.cell ?_), ?_, ?_⟩)
          · ((repeat (first | (first | with_reducible exact hz1 | with_reducible exact hz2 | with_reducible exact Blk1.new _ _ _ | with_reducible refine Blk1.newAt (by first | rfl | (simp; done))) | with_reducible refine Blk1.set_ (v := .slice none 0 0) ?_ _ | with_reducible refine Blk1.far ?_ (by first | (simp; done) | (simp; omega)) _ | with_reducible refine Blk1.alloc ?_ _)))
          · (repeat (first | (first | with_reducible exact hw21) | with_reducible refine WordsIn.below ?_ (up_alloc _ _) | with_reducible refine words_set_blk1 (a := none) (b := 0) (d := 0) ?_ (by ((repeat (first | (first | with_reducible exact hz1 | with_reducible exact hz2 | with_reducible exact Blk1.new _ _ _ | with_reducible refine Blk1.newAt (by first | rfl | (simp; done))) | with_reducible refine Blk1.set_ (v := .slice none 0 0) ?_ _ | with_reducible refine Blk1.far ?_ (by first | (simp; done) | (simp; omega)) _ | with_reducible refine Blk1.alloc ?_ _)))) _))
          · (repeat (first | with_reducible exact hBw | with_reducible refine keep_below_alloc _ ?_ | with_reducible refine keep_below_set _ (by first | (simp; done) | (simp; omega)) ?_)))
      case rest =>
        obtain ⟨ga22, B21, m21, d21, rfl, rfl, gc0, hw21, hb⟩ := hcut
        obtain ⟨wk19, hwq⟩ : ∃ x, x = wc := ⟨_, rfl⟩
        subst hwq
        have hB := keep_below hB hb
        have HN1 := Lib.hid (HN1.out.below hb)
        have HN2 := Lib.hid (HN2.out.below hb)
        have g3 := keep_cell hb g3
        have g4 := keep_cell hb g4
        have HN5 := Lib.hid (HN5.out.below hb)
        have g6 := keep_cell hb g6
        have g10 := keep_cell hb g10
        have HN9 := Lib.hid (HN9.out.below hb)
        have HN11 := Lib.hid (HN11.out.below hb)
        have HN12 := Lib.hid (HN12.out.below hb)
        have g13 := keep_cell hb g13
        have g14 := keep_cell hb g14
        have g18 := keep_cell hb g18
        have HN17 := Lib.hid (HN17.out.below hb)
        have g22 := gc0
        have HN21 := Lib.hid hw21
        clear hb gc0 hw21
        go_wp2_with fail
        have HZ23 : Hid (Sz (K + K) ((x * y) / y)) := Sz.of_le HZ5.out (Nat.div_le_self _ _)
        have HZ24 : Hid (Sz (K + K) ((x * y) % y)) := Sz.of_le HZ5.out (Nat.mod_le _ _)
        refine (HQC.out.divMod (x * y) (y) B5 B2 m5 m2 d5 d2 _ HN5.out HN2.out (by have := Sz.words HZ5.out HN5.out; omega) (by have := Sz.words HZ2.out HN2.out; omega) Hhb.out).mono ?_
        rintro e wc20 ⟨B23, m23, d23, B24, m24, d24, rfl, hw23, hw24, hb⟩
        have hB := keep_below hB hb
        have HN1 := Lib.hid (HN1.out.below hb)
        have HN2 := Lib.hid (HN2.out.below hb)
        have g3 := keep_cell hb g3
        have g4 := keep_cell hb g4
        have HN5 := Lib.hid (HN5.out.below hb)
        have g6 := keep_cell hb g6
        have g10 := keep_cell hb g10
        have HN9 := Lib.hid (HN9.out.below hb)
        have HN11 := Lib.hid (HN11.out.below hb)
        have HN12 := Lib.hid (HN12.out.below hb)
        have g13 := keep_cell hb g13
        have g14 := keep_cell hb g14
        have g18 := keep_cell hb g18
        have HN17 := Lib.hid (HN17.out.below hb)
        have g22 := keep_cell hb g22
        have HN21 := Lib.hid (HN21.out.below hb)
        have HN23 := Lib.hid hw23
        have HN24 := Lib.hid hw24
        clear hb hw23 hw24
        have gm13_2 : ((wc20.alloc (.cells #[.slice B23 m23 d23] 26)).alloc (.cells #[.slice B24 m24 d24] 26)).cell? ⟨q13, 0, none⟩ = some (.slice B11 m11 d11) := keep_cell_alloc _ (keep_cell_alloc _ (g13))
        have gm18_2 : ((wc20.alloc (.cells #[.slice B23 m23 d23] 26)).alloc (.cells #[.slice B24 m24 d24] 26)).cell? ⟨ga18, 0, none⟩ = some (.slice B17 m17 d17) := keep_cell_alloc _ (keep_cell_alloc _ (g18))
        obtain ⟨b1, b2, b3, bz⟩ := box2 wc20 26 26 #[.slice B23 m23 d23] #[.slice B24 m24 d24]
        have hB := keep_below hB b1
        have HN1 := Lib.hid (HN1.out.below b1)
        have HN2 := Lib.hid (HN2.out.below b1)
        have g3 := keep_cell b1 g3
        have g4 := keep_cell b1 g4
        have HN5 := Lib.hid (HN5.out.below b1)
        have g6 := keep_cell b1 g6
        have g10 := keep_cell b1 g10
        have HN9 := Lib.hid (HN9.out.below b1)
        have HN11 := Lib.hid (HN11.out.below b1)
        have HN12 := Lib.hid (HN12.out.below b1)
        have g13 := keep_cell b1 g13
        have g14 := keep_cell b1 g14
        have g18 := keep_cell b1 g18
        have HN17 := Lib.hid (HN17.out.below b1)
        have g22 := keep_cell b1 g22
        have HN21 := Lib.hid (HN21.out.below b1)
        have HN23 := Lib.hid (HN23.out.below b1)
        have HN24 := Lib.hid (HN24.out.below b1)
        have g25 : ((wc20.alloc (.cells #[.slice B23 m23 d23] 26)).alloc (.cells #[.slice B24 m24 d24] 26)).cell? ⟨wc20.heap.size, 0, none⟩ = some (.slice B23 m23 d23) := b2.cell 0
        have g26 : ((wc20.alloc (.cells #[.slice B23 m23 d23] 26)).alloc (.cells #[.slice B24 m24 d24] 26)).cell? ⟨wc20.heap.size + 1, 0, none⟩ = some (.slice B24 m24 d24) := b3.cell 0
        clear b1 b2 b3 bz
        go_wp2_with fail
        clear gm13_2 gm18_2
        generalize (wc20.alloc (.cells #[.slice B23 m23 d23] 26)).alloc (.cells #[.slice B24 m24 d24] 26) = W21 at *
        generalize wc20.heap.size = q21 at *
        refine (cmpEq (x := ((x * y) - 1) / y) (y := x - 1) (near_q Hha.out Hhb.out) HN11.out HN17.out (by have := Sz.words HZ11.out HN11.out; omega) (by have := Sz.words HZ17.out HN17.out; omega)).mono ?_
        rintro e wc22 ⟨rfl, hb⟩
        have hB := keep_below hB hb
        have HN1 := Lib.hid (HN1.out.below hb)
        have HN2 := Lib.hid (HN2.out.below hb)
        have g3 := keep_cell hb g3
        have g4 := keep_cell hb g4
        have HN5 := Lib.hid (HN5.out.below hb)
        have g6 := keep_cell hb g6
        have g10 := keep_cell hb g10
        have HN9 := Lib.hid (HN9.out.below hb)
        have HN11 := Lib.hid (HN11.out.below hb)
        have HN12 := Lib.hid (HN12.out.below hb)
        have g13 := keep_cell hb g13
        have g14 := keep_cell hb g14
        have g18 := keep_cell hb g18
        have HN17 := Lib.hid (HN17.out.below hb)
        have g22 := keep_cell hb g22
        have HN21 := Lib.hid (HN21.out.below hb)
        have HN23 := Lib.hid (HN23.out.below hb)
        have HN24 := Lib.hid (HN24.out.below hb)
        have g25 := keep_cell hb g25
        have g26 := keep_cell hb g26
        clear hb 
        go_wp2_with fail
        refine (cmpEq (x := ((x * y) - 1) % y) (y := y - 1) (near_r Hha.out Hhb.out) HN12.out HN21.out (by have := Sz.words HZ12.out HN12.out; omega) (by have := Sz.words HZ21.out HN21.out; omega)).mono ?_
        rintro e wc23 ⟨rfl, hb⟩
        have hB := keep_below hB hb
        have HN1 := Lib.hid (HN1.out.below hb)
        have HN2 := Lib.hid (HN2.out.below hb)
        have g3 := keep_cell hb g3
        have g4 := keep_cell hb g4
        have HN5 := Lib.hid (HN5.out.below hb)
        have g6 := keep_cell hb g6
        have g10 := keep_cell hb g10
        have HN9 := Lib.hid (HN9.out.below hb)
        have HN11 := Lib.hid (HN11.out.below hb)
        have HN12 := Lib.hid (HN12.out.below hb)
        have g13 := keep_cell hb g13
        have g14 := keep_cell hb g14
        have g18 := keep_cell hb g18
        have HN17 := Lib.hid (HN17.out.below hb)
        have g22 := keep_cell hb g22
        have HN21 := Lib.hid (HN21.out.below hb)
        have HN23 := Lib.hid (HN23.out.below hb)
        have HN24 := Lib.hid (HN24.out.below hb)
        have g25 := keep_cell hb g25
        have g26 := keep_cell hb g26
        clear hb 
        go_wp2_with fail
        refine (cmpEq (x := (x * y) / y) (y := x) (Nat.mul_div_cancel _ (Nat.pos_iff_ne_zero.2 Hhb.out)) HN23.out HN1.out (by have := Sz.words HZ23.out HN23.out; omega) (by have := Sz.words HZ1.out HN1.out; omega)).mono ?_
        rintro e wc24 ⟨rfl, hb⟩
        have hB := keep_below hB hb
        have HN1 := Lib.hid (HN1.out.below hb)
        have HN2 := Lib.hid (HN2.out.below hb)
        have g3 := keep_cell hb g3
        have g4 := keep_cell hb g4
        have HN5 := Lib.hid (HN5.out.below hb)
        have g6 := keep_cell hb g6
        have g10 := keep_cell hb g10
        have HN9 := Lib.hid (HN9.out.below hb)
        have HN11 := Lib.hid (HN11.out.below hb)
        have HN12 := Lib.hid (HN12.out.below hb)
        have g13 := keep_cell hb g13
        have g14 := keep_cell hb g14
        have g18 := keep_cell hb g18
        have HN17 := Lib.hid (HN17.out.below hb)
        have g22 := keep_cell hb g22
        have HN21 := Lib.hid (HN21.out.below hb)
        have HN23 := Lib.hid (HN23.out.below hb)
        have HN24 := Lib.hid (HN24.out.below hb)
        have g25 := keep_cell hb g25
        have g26 := keep_cell hb g26
        clear hb 
        go_wp2_with fail
        refine (zero_yes (Nat.mul_mod_left _ _) HN24.out).mono ?_
        rintro e wc25 ⟨rfl, hb⟩
        have hB := keep_below hB hb
        have HN1 := Lib.hid (HN1.out.below hb)
        have HN2 := Lib.hid (HN2.out.below hb)
        have g3 := keep_cell hb g3
        have g4 := keep_cell hb g4
        have HN5 := Lib.hid (HN5.out.below hb)
        have g6 := keep_cell hb g6
        have g10 := keep_cell hb g10
        have HN9 := Lib.hid (HN9.out.below hb)
        have HN11 := Lib.hid (HN11.out.below hb)
        have HN12 := Lib.hid (HN12.out.below hb)
        have g13 := keep_cell hb g13
        have g14 := keep_cell hb g14
        have g18 := keep_cell hb g18
        have HN17 := Lib.hid (HN17.out.below hb)
        have g22 := keep_cell hb g22
        have HN21 := Lib.hid (HN21.out.below hb)
        have HN23 := Lib.hid (HN23.out.below hb)
        have HN24 := Lib.hid (HN24.out.below hb)
        have g25 := keep_cell hb g25
        have g26 := keep_cell hb g26
        clear hb 
        go_wp2
        go_ret
        exact ⟨by first | rfl | simp, hB⟩
theorem quotNear_walk (QC : QuotC) (A0 : Option Addr) (n0 c0 : Nat) (l0 : List Nat) (A1 : Option Addr) (n1 c1 : Nat) (l1 : List Nat) (w : World) (h0 : ArgWords w A0 n0 c0 l0) (h1 : ArgWords w A1 n1 c1 l1) :
    Calls Try.prog 6 #[.slice A0 n0 c0, .slice A1 n1 c1] w fun e w' => e = .returned (.bool true) ∧ Below w.heap.size w w' := by
  by_cases ca : dv 18446744073709551616 l0 = 0
  · exact quotNear_x QC A0 n0 c0 l0 A1 n1 c1 l1 w h0 h1 ca
  · by_cases cb : dv 18446744073709551616 l1 = 0
    · exact quotNear_y QC A0 n0 c0 l0 A1 n1 c1 l1 w h0 h1 ca cb
    · exact quotNear_yes QC A0 n0 c0 l0 A1 n1 c1 l1 w h0 h1 ca cb
end Go.Proofs.Ytaemlkoklaoglaa
