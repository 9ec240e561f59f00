/-
  The walk of the law QuotTwice. Conditions: the words that came in are words, at most 1048576 of each; quot's functions do as QuotC says.
-/
import Derived.Test.YtaemlkoklaoglaaRows
import Derived.Test.YtaemlkoklaoglaaNNums
import Derived.Test.YtaemlkoklaoglaaW4Awake
import Derived.Test.YtaemlkoklaoglaaPMul
import Derived.Test.YtaemlkoklaoglaaNAdd
import Derived.WalkKit
import Derived.Lib.Hide
import Derived.Outline
import Derived.Deep.RegionHeld3
import Derived.IntWalk
import Derived.Deep.DeepCutAuto
import Derived.Deep.CutBlock
namespace Go.Proofs.Ytaemlkoklaoglaa
open Go Go.RowKit
set_option maxRecDepth 100000
set_option linter.unusedVariables false
set_option linter.unusedSimpArgs false
set_option maxHeartbeats 16000000 in
theorem quotTwice_y (QC : QuotC) (A0 : Option Addr) (n0 c0 : Nat) (l0 : List Nat) (A1 : Option Addr) (n1 c1 : Nat) (l1 : List Nat) (A2 : Option Addr) (n2 c2 : Nat) (l2 : List Nat) (w : World) (h0 : ArgWords w A0 n0 c0 l0) (h1 : ArgWords w A1 n1 c1 l1) (h2 : ArgWords w A2 n2 c2 l2) (ha : dv 18446744073709551616 l1 = 0) :
    Calls Try.prog 7 #[.slice A0 n0 c0, .slice A1 n1 c1, .slice A2 n2 c2] w fun e w' => e = .returned (.bool true) ∧ Below w.heap.size w w' := by
  have HQC := Lib.hid QC
  obtain ⟨K, hK⟩ : ∃ K, 1048576 = K := ⟨_, rfl⟩
  have O0 := arg_of h0
  have S0 := arg_sz h0
  have O1 := arg_of h1
  have S1 := arg_sz h1
  have O2 := arg_of h2
  have S2 := arg_sz h2
  rw [hK] at S0 S1 S2
  have hK2 : K ≤ 1048576 := by omega
  obtain ⟨x, hx0⟩ : ∃ v, dv 18446744073709551616 l0 = v := ⟨_, rfl⟩
  rw [hx0] at O0 S0
  have HO0 := Lib.hid O0
  have HS0 := Lib.hid S0
  obtain ⟨y, hx1⟩ : ∃ v, dv 18446744073709551616 l1 = v := ⟨_, rfl⟩
  rw [hx1] at O1 S1
  have HO1 := Lib.hid O1
  have HS1 := Lib.hid S1
  obtain ⟨z, hx2⟩ : ∃ v, dv 18446744073709551616 l2 = v := ⟨_, rfl⟩
  rw [hx2] at O2 S2
  have HO2 := Lib.hid O2
  have HS2 := Lib.hid S2
  rw [hx1] at ha
  have Hha := Lib.hid ha
  clear QC hK O0 S0 h0 hx0 O1 S1 h1 hx1 O2 S2 h2 hx2 ha
  go_enter Try.func7, Try.ntmps7
  have hB := Below.refl w.heap.size w
  go_wp2_with fail
  refine (law4_awake HQC.out _).mono ?_
  rintro e wc1 ⟨rfl, hb⟩
  have hB := keep_below hB hb
  clear hb 
  go_wp2_with fail
  have HZ1 : Hid (Sz (K) (x)) := HS0.out
  refine (HO0.out _ hB).mono ?_
  rintro e wc2 ⟨B1, m1, d1, rfl, hw1, hb, _⟩
  have hB := keep_below hB hb
  have HN1 := Lib.hid hw1
  clear hb hw1
  go_wp2_with fail
  have HZ2 : Hid (Sz (K) (y)) := HS1.out
  refine (HO1.out _ hB).mono ?_
  rintro e wc3 ⟨B2, m2, d2, rfl, hw2, hb, _⟩
  have hB := keep_below hB hb
  have HN1 := Lib.hid (HN1.out.below hb)
  have HN2 := Lib.hid hw2
  clear hb hw2
  go_wp2_with fail
  have HZ3 : Hid (Sz (K) (z)) := HS2.out
  refine (HO2.out _ hB).mono ?_
  rintro e wc4 ⟨B3, m3, d3, rfl, hw3, hb, _⟩
  have hB := keep_below hB hb
  have HN1 := Lib.hid (HN1.out.below hb)
  have HN2 := Lib.hid (HN2.out.below hb)
  have HN3 := Lib.hid hw3
  clear hb hw3
  have gm5_3 : (((wc4.alloc (.cells #[.slice B1 m1 d1] 26)).alloc (.cells #[.slice B2 m2 d2] 26)).alloc (.cells #[.slice B3 m3 d3] 26)).cell? ⟨wc4.heap.size + 1, 0, none⟩ = some (.slice B2 m2 d2) := by
    obtain ⟨c1, c2, c3, c4, _⟩ := box3 wc4 26 26 26 #[.slice B1 m1 d1] #[.slice B2 m2 d2] #[.slice B3 m3 d3]
    exact c3.cell 0
  obtain ⟨b1, b2, b3, b4, bz⟩ := box3 wc4 26 26 26 #[.slice B1 m1 d1] #[.slice B2 m2 d2] #[.slice B3 m3 d3]
  have hB := keep_below hB b1
  have HN1 := Lib.hid (HN1.out.below b1)
  have HN2 := Lib.hid (HN2.out.below b1)
  have HN3 := Lib.hid (HN3.out.below b1)
  have g4 : (((wc4.alloc (.cells #[.slice B1 m1 d1] 26)).alloc (.cells #[.slice B2 m2 d2] 26)).alloc (.cells #[.slice B3 m3 d3] 26)).cell? ⟨wc4.heap.size, 0, none⟩ = some (.slice B1 m1 d1) := b2.cell 0
  have g5 : (((wc4.alloc (.cells #[.slice B1 m1 d1] 26)).alloc (.cells #[.slice B2 m2 d2] 26)).alloc (.cells #[.slice B3 m3 d3] 26)).cell? ⟨wc4.heap.size + 1, 0, none⟩ = some (.slice B2 m2 d2) := b3.cell 0
  have g6 : (((wc4.alloc (.cells #[.slice B1 m1 d1] 26)).alloc (.cells #[.slice B2 m2 d2] 26)).alloc (.cells #[.slice B3 m3 d3] 26)).cell? ⟨wc4.heap.size + 1 + 1, 0, none⟩ = some (.slice B3 m3 d3) := b4.cell 0
  clear b1 b2 b3 b4 bz
  go_wp2_with fail
  clear gm5_3
  generalize ((wc4.alloc (.cells #[.slice B1 m1 d1] 26)).alloc (.cells #[.slice B2 m2 d2] 26)).alloc (.cells #[.slice B3 m3 d3] 26) = W5 at *
  generalize wc4.heap.size = q5 at *
  refine (zero_yes Hha.out HN2.out).mono ?_
  rintro e wc6 ⟨rfl, hb⟩
  have hB := keep_below hB hb
  have HN1 := Lib.hid (HN1.out.below hb)
  have HN2 := Lib.hid (HN2.out.below hb)
  have HN3 := Lib.hid (HN3.out.below hb)
  have g4 := keep_cell hb g4
  have g5 := keep_cell hb g5
  have g6 := keep_cell hb g6
  clear hb 
  go_wp2
  go_ret
  exact ⟨by first | rfl | simp, hB⟩
set_option maxHeartbeats 16000000 in
theorem quotTwice_z (QC : QuotC) (A0 : Option Addr) (n0 c0 : Nat) (l0 : List Nat) (A1 : Option Addr) (n1 c1 : Nat) (l1 : List Nat) (A2 : Option Addr) (n2 c2 : Nat) (l2 : List Nat) (w : World) (h0 : ArgWords w A0 n0 c0 l0) (h1 : ArgWords w A1 n1 c1 l1) (h2 : ArgWords w A2 n2 c2 l2) (ha : dv 18446744073709551616 l1 ≠ 0) (hb : dv 18446744073709551616 l2 = 0) :
    Calls Try.prog 7 #[.slice A0 n0 c0, .slice A1 n1 c1, .slice A2 n2 c2] w fun e w' => e = .returned (.bool true) ∧ Below w.heap.size w w' := by
  have HQC := Lib.hid QC
  obtain ⟨K, hK⟩ : ∃ K, 1048576 = K := ⟨_, rfl⟩
  have O0 := arg_of h0
  have S0 := arg_sz h0
  have O1 := arg_of h1
  have S1 := arg_sz h1
  have O2 := arg_of h2
  have S2 := arg_sz h2
  rw [hK] at S0 S1 S2
  have hK2 : K ≤ 1048576 := by omega
  obtain ⟨x, hx0⟩ : ∃ v, dv 18446744073709551616 l0 = v := ⟨_, rfl⟩
  rw [hx0] at O0 S0
  have HO0 := Lib.hid O0
  have HS0 := Lib.hid S0
  obtain ⟨y, hx1⟩ : ∃ v, dv 18446744073709551616 l1 = v := ⟨_, rfl⟩
  rw [hx1] at O1 S1
  have HO1 := Lib.hid O1
  have HS1 := Lib.hid S1
  obtain ⟨z, hx2⟩ : ∃ v, dv 18446744073709551616 l2 = v := ⟨_, rfl⟩
  rw [hx2] at O2 S2
  have HO2 := Lib.hid O2
  have HS2 := Lib.hid S2
  rw [hx1] at ha
  have Hha := Lib.hid ha
  rw [hx2] at hb
  have Hhb := Lib.hid hb
  clear QC hK O0 S0 h0 hx0 O1 S1 h1 hx1 O2 S2 h2 hx2 ha hb
  go_enter Try.func7, Try.ntmps7
  have hB := Below.refl w.heap.size w
  go_wp2_with fail
  refine (law4_awake HQC.out _).mono ?_
  rintro e wc1 ⟨rfl, hb⟩
  have hB := keep_below hB hb
  clear hb 
  go_wp2_with fail
  have HZ1 : Hid (Sz (K) (x)) := HS0.out
  refine (HO0.out _ hB).mono ?_
  rintro e wc2 ⟨B1, m1, d1, rfl, hw1, hb, _⟩
  have hB := keep_below hB hb
  have HN1 := Lib.hid hw1
  clear hb hw1
  go_wp2_with fail
  have HZ2 : Hid (Sz (K) (y)) := HS1.out
  refine (HO1.out _ hB).mono ?_
  rintro e wc3 ⟨B2, m2, d2, rfl, hw2, hb, _⟩
  have hB := keep_below hB hb
  have HN1 := Lib.hid (HN1.out.below hb)
  have HN2 := Lib.hid hw2
  clear hb hw2
  go_wp2_with fail
  have HZ3 : Hid (Sz (K) (z)) := HS2.out
  refine (HO2.out _ hB).mono ?_
  rintro e wc4 ⟨B3, m3, d3, rfl, hw3, hb, _⟩
  have hB := keep_below hB hb
  have HN1 := Lib.hid (HN1.out.below hb)
  have HN2 := Lib.hid (HN2.out.below hb)
  have HN3 := Lib.hid hw3
  clear hb hw3
  have gm5_3 : (((wc4.alloc (.cells #[.slice B1 m1 d1] 26)).alloc (.cells #[.slice B2 m2 d2] 26)).alloc (.cells #[.slice B3 m3 d3] 26)).cell? ⟨wc4.heap.size + 1, 0, none⟩ = some (.slice B2 m2 d2) := by
    obtain ⟨c1, c2, c3, c4, _⟩ := box3 wc4 26 26 26 #[.slice B1 m1 d1] #[.slice B2 m2 d2] #[.slice B3 m3 d3]
    exact c3.cell 0
  obtain ⟨b1, b2, b3, b4, bz⟩ := box3 wc4 26 26 26 #[.slice B1 m1 d1] #[.slice B2 m2 d2] #[.slice B3 m3 d3]
  have hB := keep_below hB b1
  have HN1 := Lib.hid (HN1.out.below b1)
  have HN2 := Lib.hid (HN2.out.below b1)
  have HN3 := Lib.hid (HN3.out.below b1)
  have g4 : (((wc4.alloc (.cells #[.slice B1 m1 d1] 26)).alloc (.cells #[.slice B2 m2 d2] 26)).alloc (.cells #[.slice B3 m3 d3] 26)).cell? ⟨wc4.heap.size, 0, none⟩ = some (.slice B1 m1 d1) := b2.cell 0
  have g5 : (((wc4.alloc (.cells #[.slice B1 m1 d1] 26)).alloc (.cells #[.slice B2 m2 d2] 26)).alloc (.cells #[.slice B3 m3 d3] 26)).cell? ⟨wc4.heap.size + 1, 0, none⟩ = some (.slice B2 m2 d2) := b3.cell 0
  have g6 : (((wc4.alloc (.cells #[.slice B1 m1 d1] 26)).alloc (.cells #[.slice B2 m2 d2] 26)).alloc (.cells #[.slice B3 m3 d3] 26)).cell? ⟨wc4.heap.size + 1 + 1, 0, none⟩ = some (.slice B3 m3 d3) := b4.cell 0
  clear b1 b2 b3 b4 bz
  go_wp2_with fail
  clear gm5_3
  generalize ((wc4.alloc (.cells #[.slice B1 m1 d1] 26)).alloc (.cells #[.slice B2 m2 d2] 26)).alloc (.cells #[.slice B3 m3 d3] 26) = W5 at *
  generalize wc4.heap.size = q5 at *
  refine (zero_no Hha.out HN2.out).mono ?_
  rintro e wc6 ⟨rfl, hb⟩
  have hB := keep_below hB hb
  have HN1 := Lib.hid (HN1.out.below hb)
  have HN2 := Lib.hid (HN2.out.below hb)
  have HN3 := Lib.hid (HN3.out.below hb)
  have g4 := keep_cell hb g4
  have g5 := keep_cell hb g5
  have g6 := keep_cell hb g6
  clear hb 
  go_wp2_with fail
  refine (zero_yes Hhb.out HN3.out).mono ?_
  rintro e wc7 ⟨rfl, hb⟩
  have hB := keep_below hB hb
  have HN1 := Lib.hid (HN1.out.below hb)
  have HN2 := Lib.hid (HN2.out.below hb)
  have HN3 := Lib.hid (HN3.out.below hb)
  have g4 := keep_cell hb g4
  have g5 := keep_cell hb g5
  have g6 := keep_cell hb g6
  clear hb 
  go_wp2
  go_ret
  exact ⟨by first | rfl | simp, hB⟩
set_option maxHeartbeats 16000000 in
theorem quotTwice_yes (QC : QuotC) (A0 : Option Addr) (n0 c0 : Nat) (l0 : List Nat) (A1 : Option Addr) (n1 c1 : Nat) (l1 : List Nat) (A2 : Option Addr) (n2 c2 : Nat) (l2 : List Nat) (w : World) (h0 : ArgWords w A0 n0 c0 l0) (h1 : ArgWords w A1 n1 c1 l1) (h2 : ArgWords w A2 n2 c2 l2) (hy : dv 18446744073709551616 l1 ≠ 0) (hz : dv 18446744073709551616 l2 ≠ 0) :
    Calls Try.prog 7 #[.slice A0 n0 c0, .slice A1 n1 c1, .slice A2 n2 c2] w fun e w' => e = .returned (.bool true) ∧ Below w.heap.size w w' := by
  have HQC := Lib.hid QC
  obtain ⟨K, hK⟩ : ∃ K, 1048576 = K := ⟨_, rfl⟩
  have O0 := arg_of h0
  have S0 := arg_sz h0
  have O1 := arg_of h1
  have S1 := arg_sz h1
  have O2 := arg_of h2
  have S2 := arg_sz h2
  rw [hK] at S0 S1 S2
  have hK2 : K ≤ 1048576 := by omega
  obtain ⟨x, hx0⟩ : ∃ v, dv 18446744073709551616 l0 = v := ⟨_, rfl⟩
  rw [hx0] at O0 S0
  have HO0 := Lib.hid O0
  have HS0 := Lib.hid S0
  obtain ⟨y, hx1⟩ : ∃ v, dv 18446744073709551616 l1 = v := ⟨_, rfl⟩
  rw [hx1] at O1 S1
  have HO1 := Lib.hid O1
  have HS1 := Lib.hid S1
  obtain ⟨z, hx2⟩ : ∃ v, dv 18446744073709551616 l2 = v := ⟨_, rfl⟩
  rw [hx2] at O2 S2
  have HO2 := Lib.hid O2
  have HS2 := Lib.hid S2
  rw [hx1] at hy
  rw [hx2] at hz
  have H0 := Lib.hid hy
  have H1 := Lib.hid hz
  clear QC hK O0 S0 h0 hx0 O1 S1 h1 hx1 O2 S2 h2 hx2 hy hz
  go_enter Try.func7, Try.ntmps7
  have hB := Below.refl w.heap.size w
  go_wp2_with fail
  refine (law4_awake HQC.out _).mono ?_
  rintro e wc1 ⟨rfl, hb⟩
  have hB := keep_below hB hb
  clear hb 
  go_wp2_with fail
  have HZ1 : Hid (Sz (K) (x)) := HS0.out
  refine (HO0.out _ hB).mono ?_
  rintro e wc2 ⟨B1, m1, d1, rfl, hw1, hb, _⟩
  have hB := keep_below hB hb
  have HN1 := Lib.hid hw1
  clear hb hw1
  go_wp2_with fail
  have HZ2 : Hid (Sz (K) (y)) := HS1.out
  refine (HO1.out _ hB).mono ?_
  rintro e wc3 ⟨B2, m2, d2, rfl, hw2, hb, _⟩
  have hB := keep_below hB hb
  have HN1 := Lib.hid (HN1.out.below hb)
  have HN2 := Lib.hid hw2
  clear hb hw2
  go_wp2_with fail
  have HZ3 : Hid (Sz (K) (z)) := HS2.out
  refine (HO2.out _ hB).mono ?_
  rintro e wc4 ⟨B3, m3, d3, rfl, hw3, hb, _⟩
  have hB := keep_below hB hb
  have HN1 := Lib.hid (HN1.out.below hb)
  have HN2 := Lib.hid (HN2.out.below hb)
  have HN3 := Lib.hid hw3
  clear hb hw3
  have gm5_3 : (((wc4.alloc (.cells #[.slice B1 m1 d1] 26)).alloc (.cells #[.slice B2 m2 d2] 26)).alloc (.cells #[.slice B3 m3 d3] 26)).cell? ⟨wc4.heap.size + 1, 0, none⟩ = some (.slice B2 m2 d2) := by
    obtain ⟨c1, c2, c3, c4, _⟩ := box3 wc4 26 26 26 #[.slice B1 m1 d1] #[.slice B2 m2 d2] #[.slice B3 m3 d3]
    exact c3.cell 0
  obtain ⟨b1, b2, b3, b4, bz⟩ := box3 wc4 26 26 26 #[.slice B1 m1 d1] #[.slice B2 m2 d2] #[.slice B3 m3 d3]
  have hB := keep_below hB b1
  have HN1 := Lib.hid (HN1.out.below b1)
  have HN2 := Lib.hid (HN2.out.below b1)
  have HN3 := Lib.hid (HN3.out.below b1)
  have g4 : (((wc4.alloc (.cells #[.slice B1 m1 d1] 26)).alloc (.cells #[.slice B2 m2 d2] 26)).alloc (.cells #[.slice B3 m3 d3] 26)).cell? ⟨wc4.heap.size, 0, none⟩ = some (.slice B1 m1 d1) := b2.cell 0
  have g5 : (((wc4.alloc (.cells #[.slice B1 m1 d1] 26)).alloc (.cells #[.slice B2 m2 d2] 26)).alloc (.cells #[.slice B3 m3 d3] 26)).cell? ⟨wc4.heap.size + 1, 0, none⟩ = some (.slice B2 m2 d2) := b3.cell 0
  have g6 : (((wc4.alloc (.cells #[.slice B1 m1 d1] 26)).alloc (.cells #[.slice B2 m2 d2] 26)).alloc (.cells #[.slice B3 m3 d3] 26)).cell? ⟨wc4.heap.size + 1 + 1, 0, none⟩ = some (.slice B3 m3 d3) := b4.cell 0
  clear b1 b2 b3 b4 bz
  go_wp2_with fail
  clear gm5_3
  generalize ((wc4.alloc (.cells #[.slice B1 m1 d1] 26)).alloc (.cells #[.slice B2 m2 d2] 26)).alloc (.cells #[.slice B3 m3 d3] 26) = W5 at *
  generalize wc4.heap.size = q5 at *
  refine (zero_no H0.out HN2.out).mono ?_
  rintro e wc6 ⟨rfl, hb⟩
  have hB := keep_below hB hb
  have HN1 := Lib.hid (HN1.out.below hb)
  have HN2 := Lib.hid (HN2.out.below hb)
  have HN3 := Lib.hid (HN3.out.below hb)
  have g4 := keep_cell hb g4
  have g5 := keep_cell hb g5
  have g6 := keep_cell hb g6
  clear hb 
  go_wp2_with fail
  refine (zero_no H1.out HN3.out).mono ?_
  rintro e wc7 ⟨rfl, hb⟩
  have hB := keep_below hB hb
  have HN1 := Lib.hid (HN1.out.below hb)
  have HN2 := Lib.hid (HN2.out.below hb)
  have HN3 := Lib.hid (HN3.out.below hb)
  have g4 := keep_cell hb g4
  have g5 := keep_cell hb g5
  have g6 := keep_cell hb g6
  clear hb 
  go_wp2_with fail
  have HZ7 : Hid (Sz (K) (x / y)) := Sz.of_le HZ1.out (Nat.div_le_self _ _)
  refine (HQC.out.div (x) (y) B1 B2 m1 m2 d1 d2 _ HN1.out HN2.out (by have := Sz.words HZ1.out HN1.out; omega) (by have := Sz.words HZ2.out HN2.out; omega) H0.out).mono ?_
  rintro e wc8 ⟨B7, m7, d7, rfl, hw7, hb⟩
  have hB := keep_below hB hb
  have HN1 := Lib.hid (HN1.out.below hb)
  have HN2 := Lib.hid (HN2.out.below hb)
  have HN3 := Lib.hid (HN3.out.below hb)
  have g4 := keep_cell hb g4
  have g5 := keep_cell hb g5
  have g6 := keep_cell hb g6
  have HN7 := Lib.hid hw7
  clear hb hw7
  have gm8_1 : (wc8.alloc (.cells #[.slice B7 m7 d7] 26)).cell? ⟨wc8.heap.size, 0, none⟩ = some (.slice B7 m7 d7) := by
    obtain ⟨c1, c2, _⟩ := box1 wc8 26 #[.slice B7 m7 d7]
    exact c2.cell 0
  have gm6_1 : (wc8.alloc (.cells #[.slice B7 m7 d7] 26)).cell? ⟨q5 + 1 + 1, 0, none⟩ = some (.slice B3 m3 d3) := keep_cell_alloc _ (g6)
  obtain ⟨b1, b2, bz⟩ := box1 wc8 26 #[.slice B7 m7 d7]
  have hB := keep_below hB b1
  have HN1 := Lib.hid (HN1.out.below b1)
  have HN2 := Lib.hid (HN2.out.below b1)
  have HN3 := Lib.hid (HN3.out.below b1)
  have g4 := keep_cell b1 g4
  have g5 := keep_cell b1 g5
  have g6 := keep_cell b1 g6
  have HN7 := Lib.hid (HN7.out.below b1)
  have g8 : (wc8.alloc (.cells #[.slice B7 m7 d7] 26)).cell? ⟨wc8.heap.size, 0, none⟩ = some (.slice B7 m7 d7) := b2.cell 0
  clear b1 b2 bz
  go_wp2_with fail
  clear gm8_1 gm6_1
  generalize wc8.alloc (.cells #[.slice B7 m7 d7] 26) = W9 at *
  generalize wc8.heap.size = q9 at *
  have HZ9 : Hid (Sz (K) ((x / y) / z)) := Sz.of_le HZ7.out (Nat.div_le_self _ _)
  refine (HQC.out.div (x / y) (z) B7 B3 m7 m3 d7 d3 _ HN7.out HN3.out (by have := Sz.words HZ7.out HN7.out; omega) (by have := Sz.words HZ3.out HN3.out; omega) H1.out).mono ?_
  rintro e wc10 ⟨B9, m9, d9, rfl, hw9, hb⟩
  have hB := keep_below hB hb
  have HN1 := Lib.hid (HN1.out.below hb)
  have HN2 := Lib.hid (HN2.out.below hb)
  have HN3 := Lib.hid (HN3.out.below hb)
  have g4 := keep_cell hb g4
  have g5 := keep_cell hb g5
  have g6 := keep_cell hb g6
  have HN7 := Lib.hid (HN7.out.below hb)
  have g8 := keep_cell hb g8
  have HN9 := Lib.hid hw9
  clear hb hw9
  obtain ⟨b1, b2, bz⟩ := box1 wc10 26 #[.slice B9 m9 d9]
  have hB := keep_below hB b1
  have HN1 := Lib.hid (HN1.out.below b1)
  have HN2 := Lib.hid (HN2.out.below b1)
  have HN3 := Lib.hid (HN3.out.below b1)
  have g4 := keep_cell b1 g4
  have g5 := keep_cell b1 g5
  have g6 := keep_cell b1 g6
  have HN7 := Lib.hid (HN7.out.below b1)
  have g8 := keep_cell b1 g8
  have HN9 := Lib.hid (HN9.out.below b1)
  have g10 : (wc10.alloc (.cells #[.slice B9 m9 d9] 26)).cell? ⟨wc10.heap.size, 0, none⟩ = some (.slice B9 m9 d9) := b2.cell 0
  clear b1 b2 bz
  go_wp2_with fail
  generalize wc10.alloc (.cells #[.slice B9 m9 d9] 26) = W11 at *
  generalize wc10.heap.size = q11 at *
  have HZ11 : Hid (Sz (K + K) (y * z)) := Sz.mul HZ2.out HZ3.out
  have C0 := Lib.hid (fun w' (h : Below W11.heap.size W11 w') => prod_mul (y) (z) B2 B3 m2 m3 d2 d3 w' (HN2.out.below h) (HN3.out.below h) (by have := Sz.words HZ2.out HN2.out; omega) (by have := Sz.words HZ3.out HN3.out; omega))
  have HZ12 : Hid (Sz (K) (x / (y * z))) := Sz.of_le HZ1.out (Nat.div_le_self _ _)
  have C1 := Lib.hid (fun w' (h : Below W11.heap.size W11 w') B11 m11 d11 (hw11 : WordsIn w' (y * z) B11 m11 d11) => HQC.out.div (x) (y * z) B1 B11 m1 m11 d1 d11 w' (HN1.out.below h) hw11 (by have := Sz.words HZ1.out HN1.out; omega) (by have := Sz.words HZ11.out hw11; omega) (Nat.mul_ne_zero H0.out H1.out))
  have lt0 : q5 < W11.heap.size := World.block_lt_of_cell? W11 ⟨q5, 0, none⟩ g4
  have lt1 : q5 + 1 < W11.heap.size := World.block_lt_of_cell? W11 ⟨q5 + 1, 0, none⟩ g5
  have lt2 : q5 + 1 + 1 < W11.heap.size := World.block_lt_of_cell? W11 ⟨q5 + 1 + 1, 0, none⟩ g6
  go_cut [14, 15] (fun s14 s15 wx => ∃ (g0 : Nat) (B12 : Option Addr) (m12 d12 : Nat), s14 = .pointer (some ⟨g0, 0, none⟩) ∧ s15 = .bool true ∧ wx.cell? ⟨g0, 0, none⟩ = some (.slice B12 m12 d12) ∧ WordsIn wx (x / (y * z)) B12 m12 d12 ∧ Below W11.heap.size W11 wx)
  case first =>
    have hb0 : Below W11.heap.size W11 W11.drew := (Below.refl _ W11).drew
    have hbr := Below.refl W11.heap.size W11
    have j0 : W11.drew.cell? ⟨q5, 0, none⟩ = some (.slice B1 m1 d1) := g4
    have j1 : W11.drew.cell? ⟨q5 + 1, 0, none⟩ = some (.slice B2 m2 d2) := g5
    have j2 : W11.drew.cell? ⟨q5 + 1 + 1, 0, none⟩ = some (.slice B3 m3 d3) := g6
    go_region_held3 (fun w' => Below W11.heap.size W11 w' ∧ w'.cell? ⟨q5, 0, none⟩ = some (.slice B1 m1 d1) ∧ w'.cell? ⟨q5 + 1, 0, none⟩ = some (.slice B2 m2 d2) ∧ w'.cell? ⟨q5 + 1 + 1, 0, none⟩ = some (.slice B3 m3 d3))
      (first | (with_reducible exact ⟨hb0, j0, j1, j2⟩) | (go_split_ands; (repeat' apply And.intro); all_goals (first | with_reducible assumption | with_reducible exact keep_below (by with_reducible assumption) hb | with_reducible exact keep_cell hb (by with_reducible assumption) | with_reducible exact keep_below_alloc _ (by with_reducible assumption) | with_reducible exact keep_cell_alloc _ (by with_reducible assumption) | with_reducible exact keep_below_alloc _ (keep_below_alloc _ (by with_reducible assumption)) | with_reducible exact keep_cell_alloc _ (keep_cell_alloc _ (by with_reducible assumption)) | with_reducible exact keep_below_alloc _ (keep_below_alloc _ (keep_below_alloc _ (by with_reducible assumption))) | with_reducible exact keep_cell_alloc _ (keep_cell_alloc _ (keep_cell_alloc _ (by with_reducible assumption))) | with_reducible exact keep_below_drew (keep_below_alloc _ (by with_reducible assumption)) | with_reducible exact keep_cell_drew (keep_cell_alloc _ (by with_reducible assumption)) | with_reducible exact keep_below_drew (keep_below_alloc _ (keep_below_alloc _ (by with_reducible assumption))) | with_reducible exact keep_cell_drew (keep_cell_alloc _ (keep_cell_alloc _ (by with_reducible assumption))) | with_reducible exact keep_below_set _ (by first | (simp; done) | (simp; omega)) (by with_reducible assumption) | with_reducible exact keep_cell_set _ (by first | (simp; done) | (simp; omega)) (by with_reducible assumption) | ((repeat (first | with_reducible assumption | with_reducible refine keep_below_set _ (by first | omega | (simp; done) | (simp; omega)) ?_ | with_reducible refine keep_below_alloc _ ?_ | with_reducible refine keep_below_drew ?_)); done) | ((repeat (first | with_reducible assumption | with_reducible refine keep_cell_set _ (by first | omega | (simp; done) | (simp; omega)) ?_ | with_reducible refine keep_cell_alloc _ ?_ | with_reducible refine keep_cell_drew ?_)); done))))
      (first
        | (go_at_call 20; (with_reducible refine (C0.out _ (by first | with_reducible assumption | exact And.left (by with_reducible assumption))).mono ?_); rintro e wa12 ⟨B11, m11, d11, rfl, hw11, hb, _⟩; (try (have hzl := hz1.lt)); (first | ((first | (with_reducible have hz2 := Blk1.keep hz2 hb) | (with_reducible have hz2 := Blk1.keep (hz2.alloc _) hb) | (with_reducible have hz2 := Blk1.keep ((hz2.alloc _).alloc _) hb) | (with_reducible have hz2 := Blk1.keep (((hz2.alloc _).alloc _).alloc _) hb)); (first | (with_reducible have hz1 := Blk1.keep hz1 hb) | (with_reducible have hz1 := Blk1.keep (hz1.alloc _) hb) | (with_reducible have hz1 := Blk1.keep ((hz1.alloc _).alloc _) hb) | (with_reducible have hz1 := Blk1.keep (((hz1.alloc _).alloc _).alloc _) hb))) | ((first | ((with_reducible have hz2 := Blk1.keep (Blk1.new _ _ _) hb); have hz2 : Blk1 _ _ (Value.slice none 0 0) := hz2) | ((with_reducible have hz2 := Blk1.keep ((Blk1.new _ _ _).alloc _) hb); have hz2 : Blk1 _ _ (Value.slice none 0 0) := hz2) | ((with_reducible have hz2 := Blk1.keep (((Blk1.new _ _ _).alloc _).alloc _) hb); have hz2 : Blk1 _ _ (Value.slice none 0 0) := hz2) | ((with_reducible have hz2 := Blk1.keep ((Blk1.new _ _ _).drew) hb); have hz2 : Blk1 _ _ (Value.slice none 0 0) := hz2) | ((with_reducible have hz2 := Blk1.keep (((Blk1.new _ _ _).alloc _).drew) hb); have hz2 : Blk1 _ _ (Value.slice none 0 0) := hz2) | ((with_reducible have hz2 := Blk1.keep ((((Blk1.new _ _ _).alloc _).alloc _).drew) hb); have hz2 : Blk1 _ _ (Value.slice none 0 0) := hz2)); (first | (with_reducible have hz1 := Blk1.keep hz1 hb) | (with_reducible have hz1 := Blk1.keep (hz1.alloc _) hb) | (with_reducible have hz1 := Blk1.keep ((hz1.alloc _).alloc _) hb) | (with_reducible have hz1 := Blk1.keep (((hz1.alloc _).alloc _).alloc _) hb))) | (first | (with_reducible have hz1 := Blk1.keep hz1 hb) | (with_reducible have hz1 := Blk1.keep (hz1.alloc _) hb) | (with_reducible have hz1 := Blk1.keep ((hz1.alloc _).alloc _) hb) | (with_reducible have hz1 := Blk1.keep (((hz1.alloc _).alloc _).alloc _) hb)) | (first | ((with_reducible have hz2 := Blk1.keep (Blk1.new _ _ _) hb); have hz2 : Blk1 _ _ (Value.slice none 0 0) := hz2; (with_reducible have hz1 := Blk1.keep ((Blk1.new _ _ _).alloc _) hb); have hz1 : Blk1 _ _ (Value.slice none 0 0) := hz1) | ((with_reducible have hz2 := Blk1.keep (Blk1.new _ _ _) hb); have hz2 : Blk1 _ _ (Value.slice none 0 0) := hz2; (with_reducible have hz1 := Blk1.keep (((Blk1.new _ _ _).alloc _).alloc _) hb); have hz1 : Blk1 _ _ (Value.slice none 0 0) := hz1) | ((with_reducible have hz2 := Blk1.keep ((Blk1.new _ _ _).alloc _) hb); have hz2 : Blk1 _ _ (Value.slice none 0 0) := hz2; (with_reducible have hz1 := Blk1.keep (((Blk1.new _ _ _).alloc _).alloc _) hb); have hz1 : Blk1 _ _ (Value.slice none 0 0) := hz1) | ((with_reducible have hz2 := Blk1.keep ((Blk1.new _ _ _).drew) hb); have hz2 : Blk1 _ _ (Value.slice none 0 0) := hz2; (with_reducible have hz1 := Blk1.keep (((Blk1.new _ _ _).alloc _).drew) hb); have hz1 : Blk1 _ _ (Value.slice none 0 0) := hz1) | ((with_reducible have hz2 := Blk1.keep ((Blk1.new _ _ _).drew) hb); have hz2 : Blk1 _ _ (Value.slice none 0 0) := hz2; (with_reducible have hz1 := Blk1.keep ((((Blk1.new _ _ _).alloc _).alloc _).drew) hb); have hz1 : Blk1 _ _ (Value.slice none 0 0) := hz1) | ((with_reducible have hz2 := Blk1.keep (((Blk1.new _ _ _).alloc _).drew) hb); have hz2 : Blk1 _ _ (Value.slice none 0 0) := hz2; (with_reducible have hz1 := Blk1.keep ((((Blk1.new _ _ _).alloc _).alloc _).drew) hb); have hz1 : Blk1 _ _ (Value.slice none 0 0) := hz1)) | (first | ((with_reducible have hz1 := Blk1.keep (Blk1.new _ _ _) hb); have hz1 : Blk1 _ _ (Value.slice none 0 0) := hz1) | ((with_reducible have hz1 := Blk1.keep ((Blk1.new _ _ _).alloc _) hb); have hz1 : Blk1 _ _ (Value.slice none 0 0) := hz1) | ((with_reducible have hz1 := Blk1.keep (((Blk1.new _ _ _).alloc _).alloc _) hb); have hz1 : Blk1 _ _ (Value.slice none 0 0) := hz1) | ((with_reducible have hz1 := Blk1.keep ((Blk1.new _ _ _).drew) hb); have hz1 : Blk1 _ _ (Value.slice none 0 0) := hz1) | ((with_reducible have hz1 := Blk1.keep (((Blk1.new _ _ _).alloc _).drew) hb); have hz1 : Blk1 _ _ (Value.slice none 0 0) := hz1) | ((with_reducible have hz1 := Blk1.keep ((((Blk1.new _ _ _).alloc _).alloc _).drew) hb); have hz1 : Blk1 _ _ (Value.slice none 0 0) := hz1)) | skip); (try simp only [alloc_size, drew_size] at hz1); (try simp only [alloc_size, drew_size] at hz2); (try (have hzc1 := hz1.cell; have hzf1 := hz1.frozen; have hzo1 := fun o => (hz1.alloc o).cell; have hzp1 := fun o => (hz1.alloc o).frozen)); (try (have hzc2 := hz2.cell; have hzf2 := hz2.frozen; have hzo2 := fun o => (hz2.alloc o).cell; have hzp2 := fun o => (hz2.alloc o).frozen)); (try (have hzl1 := hz1.lt)); (try (have hzq := two_set hz1 hz2 (by first | omega | (simp; done) | (simp; omega)); obtain ⟨hzq1, hzq2, hzq3, hzq4⟩ := hzq)); (try (have hzt := fun t => two_set (Blk1.alloc hz1 (.cells #[Value.slice none 0 0] t)) (Blk1.new _ t (Value.slice none 0 0)) (by first | omega | (simp; done) | (simp; omega)))); go_split_ands; have hBw : Below W11.heap.size W11 wa12 := keep_below (by with_reducible assumption) hb; have gw0 : wa12.cell? ⟨q5, 0, none⟩ = some (.slice B1 m1 d1) := keep_cell hb (by with_reducible assumption); have gw1 : wa12.cell? ⟨q5 + 1, 0, none⟩ = some (.slice B2 m2 d2) := keep_cell hb (by with_reducible assumption); have gw2 : wa12.cell? ⟨q5 + 1 + 1, 0, none⟩ = some (.slice B3 m3 d3) := keep_cell hb (by with_reducible assumption))
        | (go_at_call 21; (first | (with_reducible refine (C1.out _ (by first | with_reducible assumption | exact And.left (by with_reducible assumption)) _ _ _ hw11).mono ?_) | (with_reducible refine (C1.out _ (by first | with_reducible assumption | exact And.left (by with_reducible assumption)) _ _ _ (hw11.below (up_alloc _ _))).mono ?_) | (with_reducible refine (C1.out _ (by first | with_reducible assumption | exact And.left (by with_reducible assumption)) _ _ _ ((hw11.below (up_alloc _ _)).below (up_alloc _ _))).mono ?_)); rintro e wa13 ⟨B12, m12, d12, rfl, hw12, hb⟩; (try have hzs1 := hBw.size); (try (have hzl := hz1.lt)); (first | ((first | (with_reducible have hz2 := Blk1.keep hz2 hb) | (with_reducible have hz2 := Blk1.keep (hz2.alloc _) hb) | (with_reducible have hz2 := Blk1.keep ((hz2.alloc _).alloc _) hb) | (with_reducible have hz2 := Blk1.keep (((hz2.alloc _).alloc _).alloc _) hb)); (first | (with_reducible have hz1 := Blk1.keep hz1 hb) | (with_reducible have hz1 := Blk1.keep (hz1.alloc _) hb) | (with_reducible have hz1 := Blk1.keep ((hz1.alloc _).alloc _) hb) | (with_reducible have hz1 := Blk1.keep (((hz1.alloc _).alloc _).alloc _) hb))) | ((first | ((with_reducible have hz2 := Blk1.keep (Blk1.new _ _ _) hb); have hz2 : Blk1 _ _ (Value.slice none 0 0) := hz2) | ((with_reducible have hz2 := Blk1.keep ((Blk1.new _ _ _).alloc _) hb); have hz2 : Blk1 _ _ (Value.slice none 0 0) := hz2) | ((with_reducible have hz2 := Blk1.keep (((Blk1.new _ _ _).alloc _).alloc _) hb); have hz2 : Blk1 _ _ (Value.slice none 0 0) := hz2) | ((with_reducible have hz2 := Blk1.keep ((Blk1.new _ _ _).drew) hb); have hz2 : Blk1 _ _ (Value.slice none 0 0) := hz2) | ((with_reducible have hz2 := Blk1.keep (((Blk1.new _ _ _).alloc _).drew) hb); have hz2 : Blk1 _ _ (Value.slice none 0 0) := hz2) | ((with_reducible have hz2 := Blk1.keep ((((Blk1.new _ _ _).alloc _).alloc _).drew) hb); have hz2 : Blk1 _ _ (Value.slice none 0 0) := hz2)); (first | (with_reducible have hz1 := Blk1.keep hz1 hb) | (with_reducible have hz1 := Blk1.keep (hz1.alloc _) hb) | (with_reducible have hz1 := Blk1.keep ((hz1.alloc _).alloc _) hb) | (with_reducible have hz1 := Blk1.keep (((hz1.alloc _).alloc _).alloc _) hb))) | (first | (with_reducible have hz1 := Blk1.keep hz1 hb) | (with_reducible have hz1 := Blk1.keep (hz1.alloc _) hb) | (with_reducible have hz1 := Blk1.keep ((hz1.alloc _).alloc _) hb) | (with_reducible have hz1 := Blk1.keep (((hz1.alloc _).alloc _).alloc _) hb)) | (first | ((with_reducible have hz2 := Blk1.keep (Blk1.new _ _ _) hb); have hz2 : Blk1 _ _ (Value.slice none 0 0) := hz2; (with_reducible have hz1 := Blk1.keep ((Blk1.new _ _ _).alloc _) hb); have hz1 : Blk1 _ _ (Value.slice none 0 0) := hz1) | ((with_reducible have hz2 := Blk1.keep (Blk1.new _ _ _) hb); have hz2 : Blk1 _ _ (Value.slice none 0 0) := hz2; (with_reducible have hz1 := Blk1.keep (((Blk1.new _ _ _).alloc _).alloc _) hb); have hz1 : Blk1 _ _ (Value.slice none 0 0) := hz1) | ((with_reducible have hz2 := Blk1.keep ((Blk1.new _ _ _).alloc _) hb); have hz2 : Blk1 _ _ (Value.slice none 0 0) := hz2; (with_reducible have hz1 := Blk1.keep (((Blk1.new _ _ _).alloc _).alloc _) hb); have hz1 : Blk1 _ _ (Value.slice none 0 0) := hz1) | ((with_reducible have hz2 := Blk1.keep ((Blk1.new _ _ _).drew) hb); have hz2 : Blk1 _ _ (Value.slice none 0 0) := hz2; (with_reducible have hz1 := Blk1.keep (((Blk1.new _ _ _).alloc _).drew) hb); have hz1 : Blk1 _ _ (Value.slice none 0 0) := hz1) | ((with_reducible have hz2 := Blk1.keep ((Blk1.new _ _ _).drew) hb); have hz2 : Blk1 _ _ (Value.slice none 0 0) := hz2; (with_reducible have hz1 := Blk1.keep ((((Blk1.new _ _ _).alloc _).alloc _).drew) hb); have hz1 : Blk1 _ _ (Value.slice none 0 0) := hz1) | ((with_reducible have hz2 := Blk1.keep (((Blk1.new _ _ _).alloc _).drew) hb); have hz2 : Blk1 _ _ (Value.slice none 0 0) := hz2; (with_reducible have hz1 := Blk1.keep ((((Blk1.new _ _ _).alloc _).alloc _).drew) hb); have hz1 : Blk1 _ _ (Value.slice none 0 0) := hz1)) | (first | ((with_reducible have hz1 := Blk1.keep (Blk1.new _ _ _) hb); have hz1 : Blk1 _ _ (Value.slice none 0 0) := hz1) | ((with_reducible have hz1 := Blk1.keep ((Blk1.new _ _ _).alloc _) hb); have hz1 : Blk1 _ _ (Value.slice none 0 0) := hz1) | ((with_reducible have hz1 := Blk1.keep (((Blk1.new _ _ _).alloc _).alloc _) hb); have hz1 : Blk1 _ _ (Value.slice none 0 0) := hz1) | ((with_reducible have hz1 := Blk1.keep ((Blk1.new _ _ _).drew) hb); have hz1 : Blk1 _ _ (Value.slice none 0 0) := hz1) | ((with_reducible have hz1 := Blk1.keep (((Blk1.new _ _ _).alloc _).drew) hb); have hz1 : Blk1 _ _ (Value.slice none 0 0) := hz1) | ((with_reducible have hz1 := Blk1.keep ((((Blk1.new _ _ _).alloc _).alloc _).drew) hb); have hz1 : Blk1 _ _ (Value.slice none 0 0) := hz1)) | skip); (try simp only [alloc_size, drew_size] at hz1); (try simp only [alloc_size, drew_size] at hz2); (try (have hzc1 := hz1.cell; have hzf1 := hz1.frozen; have hzo1 := fun o => (hz1.alloc o).cell; have hzp1 := fun o => (hz1.alloc o).frozen)); (try (have hzc2 := hz2.cell; have hzf2 := hz2.frozen; have hzo2 := fun o => (hz2.alloc o).cell; have hzp2 := fun o => (hz2.alloc o).frozen)); (try (have hzl1 := hz1.lt)); (try (have hzq := two_set hz1 hz2 (by first | omega | (simp; done) | (simp; omega)); obtain ⟨hzq1, hzq2, hzq3, hzq4⟩ := hzq)); (try (have hzt := fun t => two_set (Blk1.alloc hz1 (.cells #[Value.slice none 0 0] t)) (Blk1.new _ t (Value.slice none 0 0)) (by first | omega | (simp; done) | (simp; omega)))); go_split_ands; have hBw : Below W11.heap.size W11 wa13 := keep_below (by with_reducible assumption) hb; have gw0 : wa13.cell? ⟨q5, 0, none⟩ = some (.slice B1 m1 d1) := keep_cell hb (by with_reducible assumption); have gw1 : wa13.cell? ⟨q5 + 1, 0, none⟩ = some (.slice B2 m2 d2) := keep_cell hb (by with_reducible assumption); have gw2 : wa13.cell? ⟨q5 + 1 + 1, 0, none⟩ = some (.slice B3 m3 d3) := keep_cell hb (by with_reducible assumption); (first | (with_reducible have hw11 := WordsIn.below hw11 hb) | (with_reducible have hw11 := WordsIn.below (WordsIn.below hw11 (up_alloc _ _)) hb) | (with_reducible have hw11 := WordsIn.below (WordsIn.below (WordsIn.below hw11 (up_alloc _ _)) (up_alloc _ _)) hb))))
    all_goals (go_wp2_with fail; go_meet)
    all_goals (
      (with_reducible refine ⟨_, B12, m12, d12, rfl, rfl, (Blk1.cell ?_), ?_, ?_⟩)
      · ((repeat (first | (first | with_reducible exact hz1 | with_reducible exact hz2 | with_reducible exact Blk1.new _ _ _ | with_reducible refine Blk1.newAt (by first | rfl | (simp; done))) | with_reducible refine Blk1.set_ (v := .slice none 0 0) ?_ _ | with_reducible refine Blk1.far ?_ (by first | (simp; done) | (simp; omega)) _ | with_reducible refine Blk1.alloc ?_ _)))
      · (repeat (first | (first | with_reducible exact hw12) | with_reducible refine WordsIn.below ?_ (up_alloc _ _) | with_reducible refine words_set_blk1 (a := none) (b := 0) (d := 0) ?_ (by ((repeat (first | (first | with_reducible exact hz1 | with_reducible exact hz2 | with_reducible exact Blk1.new _ _ _ | with_reducible refine Blk1.newAt (by first | rfl | (simp; done))) | with_reducible refine Blk1.set_ (v := .slice none 0 0) ?_ _ | with_reducible refine Blk1.far ?_ (by first | (simp; done) | (simp; omega)) _ | with_reducible refine Blk1.alloc ?_ _)))) _))
      · (repeat (first | with_reducible exact hBw | with_reducible refine keep_below_alloc _ ?_ | with_reducible refine keep_below_set _ (by first | (simp; done) | (simp; omega)) ?_)))
  case rest =>
    obtain ⟨ga13, B12, m12, d12, rfl, rfl, gc0, hw12, hb⟩ := hcut
    obtain ⟨wk14, hwq⟩ : ∃ x, x = wc := ⟨_, rfl⟩
    subst hwq
    have hB := keep_below hB hb
    have HN1 := Lib.hid (HN1.out.below hb)
    have HN2 := Lib.hid (HN2.out.below hb)
    have HN3 := Lib.hid (HN3.out.below hb)
    have g4 := keep_cell hb g4
    have g5 := keep_cell hb g5
    have g6 := keep_cell hb g6
    have HN7 := Lib.hid (HN7.out.below hb)
    have g8 := keep_cell hb g8
    have HN9 := Lib.hid (HN9.out.below hb)
    have g10 := keep_cell hb g10
    have g13 := gc0
    have HN12 := Lib.hid hw12
    clear hb gc0 hw12
    go_wp2_with fail
    refine (cmpEq (x := (x / y) / z) (y := x / (y * z)) (Nat.div_div_eq_div_mul x y z) HN9.out HN12.out (by have := Sz.words HZ9.out HN9.out; omega) (by have := Sz.words HZ12.out HN12.out; omega)).mono ?_
    rintro e wc15 ⟨rfl, hb⟩
    have hB := keep_below hB hb
    have HN1 := Lib.hid (HN1.out.below hb)
    have HN2 := Lib.hid (HN2.out.below hb)
    have HN3 := Lib.hid (HN3.out.below hb)
    have g4 := keep_cell hb g4
    have g5 := keep_cell hb g5
    have g6 := keep_cell hb g6
    have HN7 := Lib.hid (HN7.out.below hb)
    have g8 := keep_cell hb g8
    have HN9 := Lib.hid (HN9.out.below hb)
    have g10 := keep_cell hb g10
    have g13 := keep_cell hb g13
    have HN12 := Lib.hid (HN12.out.below hb)
    clear hb 
    go_wp2
    go_ret
    exact ⟨by first | rfl | simp, hB⟩
theorem quotTwice_walk (QC : QuotC) (A0 : Option Addr) (n0 c0 : Nat) (l0 : List Nat) (A1 : Option Addr) (n1 c1 : Nat) (l1 : List Nat) (A2 : Option Addr) (n2 c2 : Nat) (l2 : List Nat) (w : World) (h0 : ArgWords w A0 n0 c0 l0) (h1 : ArgWords w A1 n1 c1 l1) (h2 : ArgWords w A2 n2 c2 l2) :
    Calls Try.prog 7 #[.slice A0 n0 c0, .slice A1 n1 c1, .slice A2 n2 c2] w fun e w' => e = .returned (.bool true) ∧ Below w.heap.size w w' := by
  by_cases ca : dv 18446744073709551616 l1 = 0
  · exact quotTwice_y QC A0 n0 c0 l0 A1 n1 c1 l1 A2 n2 c2 l2 w h0 h1 h2 ca
  · by_cases cb : dv 18446744073709551616 l2 = 0
    · exact quotTwice_z QC A0 n0 c0 l0 A1 n1 c1 l1 A2 n2 c2 l2 w h0 h1 h2 ca cb
    · exact quotTwice_yes QC A0 n0 c0 l0 A1 n1 c1 l1 A2 n2 c2 l2 w h0 h1 h2 ca cb
end Go.Proofs.Ytaemlkoklaoglaa
