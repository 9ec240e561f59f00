/-
  The walk of the law QuotBack. Conditions: the words that came in are words, at most 1048576 of each; quot's functions do as QuotC says.
-/
import Derived.Test.YtaemlkoklaoglaaRows
import Derived.Test.YtaemlkoklaoglaaNNums
import Derived.Test.YtaemlkoklaoglaaW4Awake
import Derived.Test.YtaemlkoklaoglaaPMul
import Derived.Test.YtaemlkoklaoglaaNAdd
import Derived.WalkKit
import Derived.Lib.Hide
import Derived.Outline
import Derived.Deep.RegionHeld3
import Derived.IntWalk
import Derived.Deep.DeepCutAuto
import Derived.Deep.CutBlock
namespace Go.Proofs.Ytaemlkoklaoglaa
open Go Go.RowKit
set_option maxRecDepth 100000
set_option linter.unusedVariables false
set_option linter.unusedSimpArgs false
set_option maxHeartbeats 16000000 in
theorem quotBack_no (QC : QuotC) (A0 : Option Addr) (n0 c0 : Nat) (l0 : List Nat) (A1 : Option Addr) (n1 c1 : Nat) (l1 : List Nat) (w : World) (h0 : ArgWords w A0 n0 c0 l0) (h1 : ArgWords w A1 n1 c1 l1) (hy : dv 18446744073709551616 l1 = 0) :
    Calls Try.prog 4 #[.slice A0 n0 c0, .slice A1 n1 c1] w fun e w' => e = .returned (.bool true) ∧ Below w.heap.size w w' := by
  have HQC := Lib.hid QC
  obtain ⟨K, hK⟩ : ∃ K, 1048576 = K := ⟨_, rfl⟩
  have O0 := arg_of h0
  have S0 := arg_sz h0
  have O1 := arg_of h1
  have S1 := arg_sz h1
  rw [hK] at S0 S1
  have hK2 : K ≤ 1048576 := by omega
  obtain ⟨x, hx0⟩ : ∃ v, dv 18446744073709551616 l0 = v := ⟨_, rfl⟩
  rw [hx0] at O0 S0
  have HO0 := Lib.hid O0
  have HS0 := Lib.hid S0
  obtain ⟨y, hx1⟩ : ∃ v, dv 18446744073709551616 l1 = v := ⟨_, rfl⟩
  rw [hx1] at O1 S1
  have HO1 := Lib.hid O1
  have HS1 := Lib.hid S1
  rw [hx1] at hy
  have H0 := Lib.hid hy
  clear QC hK O0 S0 h0 hx0 O1 S1 h1 hx1 hy
  go_enter Try.func4, Try.ntmps4
  have hB := Below.refl w.heap.size w
  go_wp2_with fail
  refine (law4_awake HQC.out _).mono ?_
  rintro e wc1 ⟨rfl, hb⟩
  have hB := keep_below hB hb
  clear hb 
  go_wp2_with fail
  have HZ1 : Hid (Sz (K) (x)) := HS0.out
  refine (HO0.out _ hB).mono ?_
  rintro e wc2 ⟨B1, m1, d1, rfl, hw1, hb, _⟩
  have hB := keep_below hB hb
  have HN1 := Lib.hid hw1
  clear hb hw1
  go_wp2_with fail
  have HZ2 : Hid (Sz (K) (y)) := HS1.out
  refine (HO1.out _ hB).mono ?_
  rintro e wc3 ⟨B2, m2, d2, rfl, hw2, hb, _⟩
  have hB := keep_below hB hb
  have HN1 := Lib.hid (HN1.out.below hb)
  have HN2 := Lib.hid hw2
  clear hb hw2
  have gm3_2 : ((wc3.alloc (.cells #[.slice B1 m1 d1] 26)).alloc (.cells #[.slice B2 m2 d2] 26)).cell? ⟨wc3.heap.size, 0, none⟩ = some (.slice B1 m1 d1) := by
    obtain ⟨c1, c2, c3, _⟩ := box2 wc3 26 26 #[.slice B1 m1 d1] #[.slice B2 m2 d2]
    exact c2.cell 0
  have gm4_2 : ((wc3.alloc (.cells #[.slice B1 m1 d1] 26)).alloc (.cells #[.slice B2 m2 d2] 26)).cell? ⟨wc3.heap.size + 1, 0, none⟩ = some (.slice B2 m2 d2) := by
    obtain ⟨c1, c2, c3, _⟩ := box2 wc3 26 26 #[.slice B1 m1 d1] #[.slice B2 m2 d2]
    exact c3.cell 0
  obtain ⟨b1, b2, b3, bz⟩ := box2 wc3 26 26 #[.slice B1 m1 d1] #[.slice B2 m2 d2]
  have hB := keep_below hB b1
  have HN1 := Lib.hid (HN1.out.below b1)
  have HN2 := Lib.hid (HN2.out.below b1)
  have g3 : ((wc3.alloc (.cells #[.slice B1 m1 d1] 26)).alloc (.cells #[.slice B2 m2 d2] 26)).cell? ⟨wc3.heap.size, 0, none⟩ = some (.slice B1 m1 d1) := b2.cell 0
  have g4 : ((wc3.alloc (.cells #[.slice B1 m1 d1] 26)).alloc (.cells #[.slice B2 m2 d2] 26)).cell? ⟨wc3.heap.size + 1, 0, none⟩ = some (.slice B2 m2 d2) := b3.cell 0
  clear b1 b2 b3 bz
  go_wp2_with fail
  clear gm3_2 gm4_2
  generalize (wc3.alloc (.cells #[.slice B1 m1 d1] 26)).alloc (.cells #[.slice B2 m2 d2] 26) = W4 at *
  generalize wc3.heap.size = q4 at *
  have HZ5 : Hid (Sz (1) (0)) := (by show (0 : Nat) < 18446744073709551616 ^ 1; decide)
  have HZ6 : Hid (Sz (1) (0)) := (by show (0 : Nat) < 18446744073709551616 ^ 1; decide)
  refine (HQC.out.divModNo (x) (y) B1 B2 m1 m2 d1 d2 _ HN1.out HN2.out (by have := Sz.words HZ1.out HN1.out; omega) (by have := Sz.words HZ2.out HN2.out; omega) H0.out).mono ?_
  rintro e wc5 ⟨B5, m5, d5, B6, m6, d6, rfl, hw5, hw6, hb⟩
  have hB := keep_below hB hb
  have HN1 := Lib.hid (HN1.out.below hb)
  have HN2 := Lib.hid (HN2.out.below hb)
  have g3 := keep_cell hb g3
  have g4 := keep_cell hb g4
  have HN5 := Lib.hid hw5
  have HN6 := Lib.hid hw6
  clear hb hw5 hw6
  have gm4_2 : ((wc5.alloc (.cells #[.slice B5 m5 d5] 26)).alloc (.cells #[.slice B6 m6 d6] 26)).cell? ⟨q4 + 1, 0, none⟩ = some (.slice B2 m2 d2) := keep_cell_alloc _ (keep_cell_alloc _ (g4))
  obtain ⟨b1, b2, b3, bz⟩ := box2 wc5 26 26 #[.slice B5 m5 d5] #[.slice B6 m6 d6]
  have hB := keep_below hB b1
  have HN1 := Lib.hid (HN1.out.below b1)
  have HN2 := Lib.hid (HN2.out.below b1)
  have g3 := keep_cell b1 g3
  have g4 := keep_cell b1 g4
  have HN5 := Lib.hid (HN5.out.below b1)
  have HN6 := Lib.hid (HN6.out.below b1)
  have g7 : ((wc5.alloc (.cells #[.slice B5 m5 d5] 26)).alloc (.cells #[.slice B6 m6 d6] 26)).cell? ⟨wc5.heap.size, 0, none⟩ = some (.slice B5 m5 d5) := b2.cell 0
  have g8 : ((wc5.alloc (.cells #[.slice B5 m5 d5] 26)).alloc (.cells #[.slice B6 m6 d6] 26)).cell? ⟨wc5.heap.size + 1, 0, none⟩ = some (.slice B6 m6 d6) := b3.cell 0
  clear b1 b2 b3 bz
  go_wp2_with fail
  clear gm4_2
  generalize (wc5.alloc (.cells #[.slice B5 m5 d5] 26)).alloc (.cells #[.slice B6 m6 d6] 26) = W6 at *
  generalize wc5.heap.size = q6 at *
  refine (zero_yes H0.out HN2.out).mono ?_
  rintro e wc7 ⟨rfl, hb⟩
  have hB := keep_below hB hb
  have HN1 := Lib.hid (HN1.out.below hb)
  have HN2 := Lib.hid (HN2.out.below hb)
  have g3 := keep_cell hb g3
  have g4 := keep_cell hb g4
  have HN5 := Lib.hid (HN5.out.below hb)
  have HN6 := Lib.hid (HN6.out.below hb)
  have g7 := keep_cell hb g7
  have g8 := keep_cell hb g8
  clear hb 
  go_wp2
  go_ret
  exact ⟨by first | rfl | simp, hB⟩
set_option maxHeartbeats 16000000 in
theorem quotBack_yes (QC : QuotC) (A0 : Option Addr) (n0 c0 : Nat) (l0 : List Nat) (A1 : Option Addr) (n1 c1 : Nat) (l1 : List Nat) (w : World) (h0 : ArgWords w A0 n0 c0 l0) (h1 : ArgWords w A1 n1 c1 l1) (hy : dv 18446744073709551616 l1 ≠ 0) :
    Calls Try.prog 4 #[.slice A0 n0 c0, .slice A1 n1 c1] w fun e w' => e = .returned (.bool true) ∧ Below w.heap.size w w' := by
  have HQC := Lib.hid QC
  obtain ⟨K, hK⟩ : ∃ K, 1048576 = K := ⟨_, rfl⟩
  have O0 := arg_of h0
  have S0 := arg_sz h0
  have O1 := arg_of h1
  have S1 := arg_sz h1
  rw [hK] at S0 S1
  have hK2 : K ≤ 1048576 := by omega
  obtain ⟨x, hx0⟩ : ∃ v, dv 18446744073709551616 l0 = v := ⟨_, rfl⟩
  rw [hx0] at O0 S0
  have HO0 := Lib.hid O0
  have HS0 := Lib.hid S0
  obtain ⟨y, hx1⟩ : ∃ v, dv 18446744073709551616 l1 = v := ⟨_, rfl⟩
  rw [hx1] at O1 S1
  have HO1 := Lib.hid O1
  have HS1 := Lib.hid S1
  rw [hx1] at hy
  have H0 := Lib.hid hy
  clear QC hK O0 S0 h0 hx0 O1 S1 h1 hx1 hy
  go_enter Try.func4, Try.ntmps4
  have hB := Below.refl w.heap.size w
  go_wp2_with fail
  refine (law4_awake HQC.out _).mono ?_
  rintro e wc1 ⟨rfl, hb⟩
  have hB := keep_below hB hb
  clear hb 
  go_wp2_with fail
  have HZ1 : Hid (Sz (K) (x)) := HS0.out
  refine (HO0.out _ hB).mono ?_
  rintro e wc2 ⟨B1, m1, d1, rfl, hw1, hb, _⟩
  have hB := keep_below hB hb
  have HN1 := Lib.hid hw1
  clear hb hw1
  go_wp2_with fail
  have HZ2 : Hid (Sz (K) (y)) := HS1.out
  refine (HO1.out _ hB).mono ?_
  rintro e wc3 ⟨B2, m2, d2, rfl, hw2, hb, _⟩
  have hB := keep_below hB hb
  have HN1 := Lib.hid (HN1.out.below hb)
  have HN2 := Lib.hid hw2
  clear hb hw2
  have gm3_2 : ((wc3.alloc (.cells #[.slice B1 m1 d1] 26)).alloc (.cells #[.slice B2 m2 d2] 26)).cell? ⟨wc3.heap.size, 0, none⟩ = some (.slice B1 m1 d1) := by
    obtain ⟨c1, c2, c3, _⟩ := box2 wc3 26 26 #[.slice B1 m1 d1] #[.slice B2 m2 d2]
    exact c2.cell 0
  have gm4_2 : ((wc3.alloc (.cells #[.slice B1 m1 d1] 26)).alloc (.cells #[.slice B2 m2 d2] 26)).cell? ⟨wc3.heap.size + 1, 0, none⟩ = some (.slice B2 m2 d2) := by
    obtain ⟨c1, c2, c3, _⟩ := box2 wc3 26 26 #[.slice B1 m1 d1] #[.slice B2 m2 d2]
    exact c3.cell 0
  obtain ⟨b1, b2, b3, bz⟩ := box2 wc3 26 26 #[.slice B1 m1 d1] #[.slice B2 m2 d2]
  have hB := keep_below hB b1
  have HN1 := Lib.hid (HN1.out.below b1)
  have HN2 := Lib.hid (HN2.out.below b1)
  have g3 : ((wc3.alloc (.cells #[.slice B1 m1 d1] 26)).alloc (.cells #[.slice B2 m2 d2] 26)).cell? ⟨wc3.heap.size, 0, none⟩ = some (.slice B1 m1 d1) := b2.cell 0
  have g4 : ((wc3.alloc (.cells #[.slice B1 m1 d1] 26)).alloc (.cells #[.slice B2 m2 d2] 26)).cell? ⟨wc3.heap.size + 1, 0, none⟩ = some (.slice B2 m2 d2) := b3.cell 0
  clear b1 b2 b3 bz
  go_wp2_with fail
  clear gm3_2 gm4_2
  generalize (wc3.alloc (.cells #[.slice B1 m1 d1] 26)).alloc (.cells #[.slice B2 m2 d2] 26) = W4 at *
  generalize wc3.heap.size = q4 at *
  have HZ5 : Hid (Sz (K) (x / y)) := Sz.of_le HZ1.out (Nat.div_le_self _ _)
  have HZ6 : Hid (Sz (K) (x % y)) := Sz.of_le HZ1.out (Nat.mod_le _ _)
  refine (HQC.out.divMod (x) (y) B1 B2 m1 m2 d1 d2 _ HN1.out HN2.out (by have := Sz.words HZ1.out HN1.out; omega) (by have := Sz.words HZ2.out HN2.out; omega) H0.out).mono ?_
  rintro e wc5 ⟨B5, m5, d5, B6, m6, d6, rfl, hw5, hw6, hb⟩
  have hB := keep_below hB hb
  have HN1 := Lib.hid (HN1.out.below hb)
  have HN2 := Lib.hid (HN2.out.below hb)
  have g3 := keep_cell hb g3
  have g4 := keep_cell hb g4
  have HN5 := Lib.hid hw5
  have HN6 := Lib.hid hw6
  clear hb hw5 hw6
  obtain ⟨b1, b2, b3, bz⟩ := box2 wc5 26 26 #[.slice B5 m5 d5] #[.slice B6 m6 d6]
  have hB := keep_below hB b1
  have HN1 := Lib.hid (HN1.out.below b1)
  have HN2 := Lib.hid (HN2.out.below b1)
  have g3 := keep_cell b1 g3
  have g4 := keep_cell b1 g4
  have HN5 := Lib.hid (HN5.out.below b1)
  have HN6 := Lib.hid (HN6.out.below b1)
  have g7 : ((wc5.alloc (.cells #[.slice B5 m5 d5] 26)).alloc (.cells #[.slice B6 m6 d6] 26)).cell? ⟨wc5.heap.size, 0, none⟩ = some (.slice B5 m5 d5) := b2.cell 0
  have g8 : ((wc5.alloc (.cells #[.slice B5 m5 d5] 26)).alloc (.cells #[.slice B6 m6 d6] 26)).cell? ⟨wc5.heap.size + 1, 0, none⟩ = some (.slice B6 m6 d6) := b3.cell 0
  clear b1 b2 b3 bz
  go_wp2_with fail
  generalize (wc5.alloc (.cells #[.slice B5 m5 d5] 26)).alloc (.cells #[.slice B6 m6 d6] 26) = W6 at *
  generalize wc5.heap.size = q6 at *
  have HZ9 : Hid (Sz (K + K) ((x / y) * y)) := Sz.mul HZ5.out HZ2.out
  have C0 := Lib.hid (fun w' (h : Below W6.heap.size W6 w') => prod_mul (x / y) (y) B5 B2 m5 m2 d5 d2 w' (HN5.out.below h) (HN2.out.below h) (by have := Sz.words HZ5.out HN5.out; omega) (by have := Sz.words HZ2.out HN2.out; omega))
  have HZ10 : Hid (Sz (K + K + K + 1) (((x / y) * y) + (x % y))) := Sz.add (Sz.up HZ9.out (by omega)) (Sz.up HZ6.out (by omega))
  have C1 := Lib.hid (fun w' (h : Below W6.heap.size W6 w') B9 m9 d9 (hw9 : WordsIn w' ((x / y) * y) B9 m9 d9) => nat_add ((x / y) * y) (x % y) B9 B6 m9 m6 d9 d6 w' hw9 (HN6.out.below h) (by have := Sz.words HZ9.out hw9; omega) (by have := Sz.words HZ6.out HN6.out; omega))
  have C2 := Lib.hid (fun w' (h : Below W6.heap.size W6 w') B10 m10 d10 (hw10 : WordsIn w' (((x / y) * y) + (x % y)) B10 m10 d10) => cmpEq (x := ((x / y) * y) + (x % y)) (y := x) (Nat.div_add_mod' x y) hw10 (HN1.out.below h) (by have := Sz.words HZ10.out hw10; omega) (by have := Sz.words HZ1.out HN1.out; omega))
  have C3 := Lib.hid (fun w' (h : Below W6.heap.size W6 w') => cmpLt (x := x % y) (y := y) (Nat.mod_lt _ (Nat.pos_of_ne_zero H0.out)) (HN6.out.below h) (HN2.out.below h) (by have := Sz.words HZ6.out HN6.out; omega) (by have := Sz.words HZ2.out HN2.out; omega))
  have hb0 : Below W6.heap.size W6 W6.drew := (Below.refl _ W6).drew
  have j0 : W6.drew.cell? ⟨q6, 0, none⟩ = some (.slice B5 m5 d5) := g7
  have j1 : W6.drew.cell? ⟨q4 + 1, 0, none⟩ = some (.slice B2 m2 d2) := g4
  have j2 : W6.drew.cell? ⟨q6 + 1, 0, none⟩ = some (.slice B6 m6 d6) := g8
  have j3 : W6.drew.cell? ⟨q4, 0, none⟩ = some (.slice B1 m1 d1) := g3
  go_region_held3 (fun w' => Below W6.heap.size W6 w' ∧ w'.cell? ⟨q6, 0, none⟩ = some (.slice B5 m5 d5) ∧ w'.cell? ⟨q4 + 1, 0, none⟩ = some (.slice B2 m2 d2) ∧ w'.cell? ⟨q6 + 1, 0, none⟩ = some (.slice B6 m6 d6) ∧ w'.cell? ⟨q4, 0, none⟩ = some (.slice B1 m1 d1))
    (first | (with_reducible exact ⟨hb0, j0, j1, j2, j3⟩) | (go_split_ands; (repeat' apply And.intro); all_goals (first | with_reducible assumption | with_reducible exact keep_below (by with_reducible assumption) hb | with_reducible exact keep_cell hb (by with_reducible assumption) | with_reducible exact keep_below_alloc _ (by with_reducible assumption) | with_reducible exact keep_cell_alloc _ (by with_reducible assumption) | with_reducible exact keep_below_alloc _ (keep_below_alloc _ (by with_reducible assumption)) | with_reducible exact keep_cell_alloc _ (keep_cell_alloc _ (by with_reducible assumption)) | with_reducible exact keep_below_alloc _ (keep_below_alloc _ (keep_below_alloc _ (by with_reducible assumption))) | with_reducible exact keep_cell_alloc _ (keep_cell_alloc _ (keep_cell_alloc _ (by with_reducible assumption))))))
    (first
      | (go_at_call 20; (with_reducible refine (C0.out _ (by first | with_reducible assumption | exact And.left (by with_reducible assumption))).mono ?_); rintro e wa7 ⟨B9, m9, d9, rfl, hw9, hb, _⟩; go_split_ands; have hBw : Below W6.heap.size W6 wa7 := keep_below (by with_reducible assumption) hb; have gw0 : wa7.cell? ⟨q6, 0, none⟩ = some (.slice B5 m5 d5) := keep_cell hb (by with_reducible assumption); have gw1 : wa7.cell? ⟨q4 + 1, 0, none⟩ = some (.slice B2 m2 d2) := keep_cell hb (by with_reducible assumption); have gw2 : wa7.cell? ⟨q6 + 1, 0, none⟩ = some (.slice B6 m6 d6) := keep_cell hb (by with_reducible assumption); have gw3 : wa7.cell? ⟨q4, 0, none⟩ = some (.slice B1 m1 d1) := keep_cell hb (by with_reducible assumption))
      | (go_at_call 19; (with_reducible refine (C1.out _ (by first | with_reducible assumption | exact And.left (by with_reducible assumption)) _ _ _ hw9).mono ?_); rintro e wa8 ⟨B10, m10, d10, rfl, hw10, hb, _⟩; go_split_ands; have hBw : Below W6.heap.size W6 wa8 := keep_below (by with_reducible assumption) hb; have gw0 : wa8.cell? ⟨q6, 0, none⟩ = some (.slice B5 m5 d5) := keep_cell hb (by with_reducible assumption); have gw1 : wa8.cell? ⟨q4 + 1, 0, none⟩ = some (.slice B2 m2 d2) := keep_cell hb (by with_reducible assumption); have gw2 : wa8.cell? ⟨q6 + 1, 0, none⟩ = some (.slice B6 m6 d6) := keep_cell hb (by with_reducible assumption); have gw3 : wa8.cell? ⟨q4, 0, none⟩ = some (.slice B1 m1 d1) := keep_cell hb (by with_reducible assumption); (first | (with_reducible have hw9 := WordsIn.below hw9 hb) | (with_reducible have hw9 := WordsIn.below (WordsIn.below hw9 (up_alloc _ _)) hb) | (with_reducible have hw9 := WordsIn.below (WordsIn.below (WordsIn.below hw9 (up_alloc _ _)) (up_alloc _ _)) hb)))
      | (go_at_call 18; (with_reducible refine (C2.out _ (by first | with_reducible assumption | exact And.left (by with_reducible assumption)) _ _ _ hw10).mono ?_); rintro e wa9 ⟨rfl, hb⟩; go_split_ands; have hBw : Below W6.heap.size W6 wa9 := keep_below (by with_reducible assumption) hb; have gw0 : wa9.cell? ⟨q6, 0, none⟩ = some (.slice B5 m5 d5) := keep_cell hb (by with_reducible assumption); have gw1 : wa9.cell? ⟨q4 + 1, 0, none⟩ = some (.slice B2 m2 d2) := keep_cell hb (by with_reducible assumption); have gw2 : wa9.cell? ⟨q6 + 1, 0, none⟩ = some (.slice B6 m6 d6) := keep_cell hb (by with_reducible assumption); have gw3 : wa9.cell? ⟨q4, 0, none⟩ = some (.slice B1 m1 d1) := keep_cell hb (by with_reducible assumption); (first | (with_reducible have hw9 := WordsIn.below hw9 hb) | (with_reducible have hw9 := WordsIn.below (WordsIn.below hw9 (up_alloc _ _)) hb) | (with_reducible have hw9 := WordsIn.below (WordsIn.below (WordsIn.below hw9 (up_alloc _ _)) (up_alloc _ _)) hb)); (first | (with_reducible have hw10 := WordsIn.below hw10 hb) | (with_reducible have hw10 := WordsIn.below (WordsIn.below hw10 (up_alloc _ _)) hb) | (with_reducible have hw10 := WordsIn.below (WordsIn.below (WordsIn.below hw10 (up_alloc _ _)) (up_alloc _ _)) hb)))
      | (go_at_call 18; (with_reducible refine (C3.out _ (by first | with_reducible assumption | exact And.left (by with_reducible assumption))).mono ?_); rintro e wa10 ⟨rfl, hb⟩; go_split_ands; have hBw : Below W6.heap.size W6 wa10 := keep_below (by with_reducible assumption) hb; have gw0 : wa10.cell? ⟨q6, 0, none⟩ = some (.slice B5 m5 d5) := keep_cell hb (by with_reducible assumption); have gw1 : wa10.cell? ⟨q4 + 1, 0, none⟩ = some (.slice B2 m2 d2) := keep_cell hb (by with_reducible assumption); have gw2 : wa10.cell? ⟨q6 + 1, 0, none⟩ = some (.slice B6 m6 d6) := keep_cell hb (by with_reducible assumption); have gw3 : wa10.cell? ⟨q4, 0, none⟩ = some (.slice B1 m1 d1) := keep_cell hb (by with_reducible assumption); (first | (with_reducible have hw9 := WordsIn.below hw9 hb) | (with_reducible have hw9 := WordsIn.below (WordsIn.below hw9 (up_alloc _ _)) hb) | (with_reducible have hw9 := WordsIn.below (WordsIn.below (WordsIn.below hw9 (up_alloc _ _)) (up_alloc _ _)) hb)); (first | (with_reducible have hw10 := WordsIn.below hw10 hb) | (with_reducible have hw10 := WordsIn.below (WordsIn.below hw10 (up_alloc _ _)) hb) | (with_reducible have hw10 := WordsIn.below (WordsIn.below (WordsIn.below hw10 (up_alloc _ _)) (up_alloc _ _)) hb))))
  clear hb
  have hB := keep_below hB hBw
  have HN1 := Lib.hid (HN1.out.below hBw)
  have HN2 := Lib.hid (HN2.out.below hBw)
  have g3 := keep_cell hBw g3
  have g4 := keep_cell hBw g4
  have HN5 := Lib.hid (HN5.out.below hBw)
  have HN6 := Lib.hid (HN6.out.below hBw)
  have g7 := keep_cell hBw g7
  have g8 := keep_cell hBw g8
  have HN9 := Lib.hid hw9
  have HN10 := Lib.hid hw10
  clear hb0 hBw gw0 gw1 gw2 gw3 hw9 hw10
  clear j0
  clear j1
  clear j2
  clear j3
  clear C0 C1 C2 C3
  go_wp2
  go_ret
  exact ⟨by first | rfl | simp, hB⟩
theorem quotBack_walk (QC : QuotC) (A0 : Option Addr) (n0 c0 : Nat) (l0 : List Nat) (A1 : Option Addr) (n1 c1 : Nat) (l1 : List Nat) (w : World) (h0 : ArgWords w A0 n0 c0 l0) (h1 : ArgWords w A1 n1 c1 l1) :
    Calls Try.prog 4 #[.slice A0 n0 c0, .slice A1 n1 c1] w fun e w' => e = .returned (.bool true) ∧ Below w.heap.size w w' := by
  by_cases hy : dv 18446744073709551616 l1 = 0
  · exact quotBack_no QC A0 n0 c0 l0 A1 n1 c1 l1 w h0 h1 hy
  · exact quotBack_yes QC A0 n0 c0 l0 A1 n1 c1 l1 w h0 h1 hy
end Go.Proofs.Ytaemlkoklaoglaa
