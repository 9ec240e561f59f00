/-
  The walk of the law QuotMade. Conditions: the words that came in are words, at most 1048576 of each; quot's functions do as QuotC says.
-/
import Derived.Test.YtaemlkoklaoglaaRows
import Derived.Test.YtaemlkoklaoglaaNNums
import Derived.Test.YtaemlkoklaoglaaW4Awake
import Derived.Test.YtaemlkoklaoglaaPMul
import Derived.Test.YtaemlkoklaoglaaNAdd
import Derived.WalkKit
import Derived.Lib.Hide
import Derived.Outline
import Derived.Deep.RegionHeld3
import Derived.IntWalk
import Derived.Deep.DeepCutAuto
import Derived.Deep.CutBlock
namespace Go.Proofs.Ytaemlkoklaoglaa
open Go Go.RowKit
set_option maxRecDepth 100000
set_option linter.unusedVariables false
set_option linter.unusedSimpArgs false
theorem made_q {x y z : Nat} (h : z < y) : (x * y + z) / y = x := by rw [Nat.mul_comm, Nat.mul_add_div (by omega), Nat.div_eq_of_lt h, Nat.add_zero]
theorem made_r {x y z : Nat} (h : z < y) : (x * y + z) % y = z := by rw [Nat.mul_comm, Nat.mul_add_mod, Nat.mod_eq_of_lt h]
set_option maxHeartbeats 16000000 in
theorem quotMade_eq (QC : QuotC) (A0 : Option Addr) (n0 c0 : Nat) (l0 : List Nat) (A1 : Option Addr) (n1 c1 : Nat) (l1 : List Nat) (A2 : Option Addr) (n2 c2 : Nat) (l2 : List Nat) (w : World) (h0 : ArgWords w A0 n0 c0 l0) (h1 : ArgWords w A1 n1 c1 l1) (h2 : ArgWords w A2 n2 c2 l2) (ha : dv 18446744073709551616 l2 = dv 18446744073709551616 l1) :
    Calls Try.prog 5 #[.slice A0 n0 c0, .slice A1 n1 c1, .slice A2 n2 c2] w fun e w' => e = .returned (.bool true) ∧ Below w.heap.size w w' := by
  have HQC := Lib.hid QC
  obtain ⟨K, hK⟩ : ∃ K, 1048576 = K := ⟨_, rfl⟩
  have O0 := arg_of h0
  have S0 := arg_sz h0
  have O1 := arg_of h1
  have S1 := arg_sz h1
  have O2 := arg_of h2
  have S2 := arg_sz h2
  rw [hK] at S0 S1 S2
  have hK2 : K ≤ 1048576 := by omega
  obtain ⟨x, hx0⟩ : ∃ v, dv 18446744073709551616 l0 = v := ⟨_, rfl⟩
  rw [hx0] at O0 S0
  have HO0 := Lib.hid O0
  have HS0 := Lib.hid S0
  obtain ⟨y, hx1⟩ : ∃ v, dv 18446744073709551616 l1 = v := ⟨_, rfl⟩
  rw [hx1] at O1 S1
  have HO1 := Lib.hid O1
  have HS1 := Lib.hid S1
  obtain ⟨z, hx2⟩ : ∃ v, dv 18446744073709551616 l2 = v := ⟨_, rfl⟩
  rw [hx2] at O2 S2
  have HO2 := Lib.hid O2
  have HS2 := Lib.hid S2
  rw [hx1] at ha
  rw [hx2] at ha
  have Hha := Lib.hid ha
  clear QC hK O0 S0 h0 hx0 O1 S1 h1 hx1 O2 S2 h2 hx2 ha
  go_enter Try.func5, Try.ntmps5
  have hB := Below.refl w.heap.size w
  go_wp2_with fail
  refine (law4_awake HQC.out _).mono ?_
  rintro e wc1 ⟨rfl, hb⟩
  have hB := keep_below hB hb
  clear hb 
  go_wp2_with fail
  have HZ1 : Hid (Sz (K) (x)) := HS0.out
  refine (HO0.out _ hB).mono ?_
  rintro e wc2 ⟨B1, m1, d1, rfl, hw1, hb, _⟩
  have hB := keep_below hB hb
  have HN1 := Lib.hid hw1
  clear hb hw1
  go_wp2_with fail
  have HZ2 : Hid (Sz (K) (y)) := HS1.out
  refine (HO1.out _ hB).mono ?_
  rintro e wc3 ⟨B2, m2, d2, rfl, hw2, hb, _⟩
  have hB := keep_below hB hb
  have HN1 := Lib.hid (HN1.out.below hb)
  have HN2 := Lib.hid hw2
  clear hb hw2
  go_wp2_with fail
  have HZ3 : Hid (Sz (K) (z)) := HS2.out
  refine (HO2.out _ hB).mono ?_
  rintro e wc4 ⟨B3, m3, d3, rfl, hw3, hb, _⟩
  have hB := keep_below hB hb
  have HN1 := Lib.hid (HN1.out.below hb)
  have HN2 := Lib.hid (HN2.out.below hb)
  have HN3 := Lib.hid hw3
  clear hb hw3
  have gm6_3 : (((wc4.alloc (.cells #[.slice B1 m1 d1] 26)).alloc (.cells #[.slice B2 m2 d2] 26)).alloc (.cells #[.slice B3 m3 d3] 26)).cell? ⟨wc4.heap.size + 1 + 1, 0, none⟩ = some (.slice B3 m3 d3) := by
    obtain ⟨c1, c2, c3, c4, _⟩ := box3 wc4 26 26 26 #[.slice B1 m1 d1] #[.slice B2 m2 d2] #[.slice B3 m3 d3]
    exact c4.cell 0
  have gm5_3 : (((wc4.alloc (.cells #[.slice B1 m1 d1] 26)).alloc (.cells #[.slice B2 m2 d2] 26)).alloc (.cells #[.slice B3 m3 d3] 26)).cell? ⟨wc4.heap.size + 1, 0, none⟩ = some (.slice B2 m2 d2) := by
    obtain ⟨c1, c2, c3, c4, _⟩ := box3 wc4 26 26 26 #[.slice B1 m1 d1] #[.slice B2 m2 d2] #[.slice B3 m3 d3]
    exact c3.cell 0
  obtain ⟨b1, b2, b3, b4, bz⟩ := box3 wc4 26 26 26 #[.slice B1 m1 d1] #[.slice B2 m2 d2] #[.slice B3 m3 d3]
  have hB := keep_below hB b1
  have HN1 := Lib.hid (HN1.out.below b1)
  have HN2 := Lib.hid (HN2.out.below b1)
  have HN3 := Lib.hid (HN3.out.below b1)
  have g4 : (((wc4.alloc (.cells #[.slice B1 m1 d1] 26)).alloc (.cells #[.slice B2 m2 d2] 26)).alloc (.cells #[.slice B3 m3 d3] 26)).cell? ⟨wc4.heap.size, 0, none⟩ = some (.slice B1 m1 d1) := b2.cell 0
  have g5 : (((wc4.alloc (.cells #[.slice B1 m1 d1] 26)).alloc (.cells #[.slice B2 m2 d2] 26)).alloc (.cells #[.slice B3 m3 d3] 26)).cell? ⟨wc4.heap.size + 1, 0, none⟩ = some (.slice B2 m2 d2) := b3.cell 0
  have g6 : (((wc4.alloc (.cells #[.slice B1 m1 d1] 26)).alloc (.cells #[.slice B2 m2 d2] 26)).alloc (.cells #[.slice B3 m3 d3] 26)).cell? ⟨wc4.heap.size + 1 + 1, 0, none⟩ = some (.slice B3 m3 d3) := b4.cell 0
  clear b1 b2 b3 b4 bz
  go_wp2_with fail
  clear gm6_3 gm5_3
  generalize ((wc4.alloc (.cells #[.slice B1 m1 d1] 26)).alloc (.cells #[.slice B2 m2 d2] 26)).alloc (.cells #[.slice B3 m3 d3] 26) = W5 at *
  generalize wc4.heap.size = q5 at *
  refine (cmpEq (x := z) (y := y) (Hha.out) HN3.out HN2.out (by have := Sz.words HZ3.out HN3.out; omega) (by have := Sz.words HZ2.out HN2.out; omega)).mono ?_
  rintro e wc6 ⟨rfl, hb⟩
  have hB := keep_below hB hb
  have HN1 := Lib.hid (HN1.out.below hb)
  have HN2 := Lib.hid (HN2.out.below hb)
  have HN3 := Lib.hid (HN3.out.below hb)
  have g4 := keep_cell hb g4
  have g5 := keep_cell hb g5
  have g6 := keep_cell hb g6
  clear hb 
  go_wp2
  go_ret
  exact ⟨by first | rfl | simp, hB⟩
set_option maxHeartbeats 16000000 in
theorem quotMade_gt (QC : QuotC) (A0 : Option Addr) (n0 c0 : Nat) (l0 : List Nat) (A1 : Option Addr) (n1 c1 : Nat) (l1 : List Nat) (A2 : Option Addr) (n2 c2 : Nat) (l2 : List Nat) (w : World) (h0 : ArgWords w A0 n0 c0 l0) (h1 : ArgWords w A1 n1 c1 l1) (h2 : ArgWords w A2 n2 c2 l2) (ha : dv 18446744073709551616 l1 < dv 18446744073709551616 l2) :
    Calls Try.prog 5 #[.slice A0 n0 c0, .slice A1 n1 c1, .slice A2 n2 c2] w fun e w' => e = .returned (.bool true) ∧ Below w.heap.size w w' := by
  have HQC := Lib.hid QC
  obtain ⟨K, hK⟩ : ∃ K, 1048576 = K := ⟨_, rfl⟩
  have O0 := arg_of h0
  have S0 := arg_sz h0
  have O1 := arg_of h1
  have S1 := arg_sz h1
  have O2 := arg_of h2
  have S2 := arg_sz h2
  rw [hK] at S0 S1 S2
  have hK2 : K ≤ 1048576 := by omega
  obtain ⟨x, hx0⟩ : ∃ v, dv 18446744073709551616 l0 = v := ⟨_, rfl⟩
  rw [hx0] at O0 S0
  have HO0 := Lib.hid O0
  have HS0 := Lib.hid S0
  obtain ⟨y, hx1⟩ : ∃ v, dv 18446744073709551616 l1 = v := ⟨_, rfl⟩
  rw [hx1] at O1 S1
  have HO1 := Lib.hid O1
  have HS1 := Lib.hid S1
  obtain ⟨z, hx2⟩ : ∃ v, dv 18446744073709551616 l2 = v := ⟨_, rfl⟩
  rw [hx2] at O2 S2
  have HO2 := Lib.hid O2
  have HS2 := Lib.hid S2
  rw [hx1] at ha
  rw [hx2] at ha
  have Hha := Lib.hid ha
  clear QC hK O0 S0 h0 hx0 O1 S1 h1 hx1 O2 S2 h2 hx2 ha
  go_enter Try.func5, Try.ntmps5
  have hB := Below.refl w.heap.size w
  go_wp2_with fail
  refine (law4_awake HQC.out _).mono ?_
  rintro e wc1 ⟨rfl, hb⟩
  have hB := keep_below hB hb
  clear hb 
  go_wp2_with fail
  have HZ1 : Hid (Sz (K) (x)) := HS0.out
  refine (HO0.out _ hB).mono ?_
  rintro e wc2 ⟨B1, m1, d1, rfl, hw1, hb, _⟩
  have hB := keep_below hB hb
  have HN1 := Lib.hid hw1
  clear hb hw1
  go_wp2_with fail
  have HZ2 : Hid (Sz (K) (y)) := HS1.out
  refine (HO1.out _ hB).mono ?_
  rintro e wc3 ⟨B2, m2, d2, rfl, hw2, hb, _⟩
  have hB := keep_below hB hb
  have HN1 := Lib.hid (HN1.out.below hb)
  have HN2 := Lib.hid hw2
  clear hb hw2
  go_wp2_with fail
  have HZ3 : Hid (Sz (K) (z)) := HS2.out
  refine (HO2.out _ hB).mono ?_
  rintro e wc4 ⟨B3, m3, d3, rfl, hw3, hb, _⟩
  have hB := keep_below hB hb
  have HN1 := Lib.hid (HN1.out.below hb)
  have HN2 := Lib.hid (HN2.out.below hb)
  have HN3 := Lib.hid hw3
  clear hb hw3
  have gm6_3 : (((wc4.alloc (.cells #[.slice B1 m1 d1] 26)).alloc (.cells #[.slice B2 m2 d2] 26)).alloc (.cells #[.slice B3 m3 d3] 26)).cell? ⟨wc4.heap.size + 1 + 1, 0, none⟩ = some (.slice B3 m3 d3) := by
    obtain ⟨c1, c2, c3, c4, _⟩ := box3 wc4 26 26 26 #[.slice B1 m1 d1] #[.slice B2 m2 d2] #[.slice B3 m3 d3]
    exact c4.cell 0
  have gm5_3 : (((wc4.alloc (.cells #[.slice B1 m1 d1] 26)).alloc (.cells #[.slice B2 m2 d2] 26)).alloc (.cells #[.slice B3 m3 d3] 26)).cell? ⟨wc4.heap.size + 1, 0, none⟩ = some (.slice B2 m2 d2) := by
    obtain ⟨c1, c2, c3, c4, _⟩ := box3 wc4 26 26 26 #[.slice B1 m1 d1] #[.slice B2 m2 d2] #[.slice B3 m3 d3]
    exact c3.cell 0
  obtain ⟨b1, b2, b3, b4, bz⟩ := box3 wc4 26 26 26 #[.slice B1 m1 d1] #[.slice B2 m2 d2] #[.slice B3 m3 d3]
  have hB := keep_below hB b1
  have HN1 := Lib.hid (HN1.out.below b1)
  have HN2 := Lib.hid (HN2.out.below b1)
  have HN3 := Lib.hid (HN3.out.below b1)
  have g4 : (((wc4.alloc (.cells #[.slice B1 m1 d1] 26)).alloc (.cells #[.slice B2 m2 d2] 26)).alloc (.cells #[.slice B3 m3 d3] 26)).cell? ⟨wc4.heap.size, 0, none⟩ = some (.slice B1 m1 d1) := b2.cell 0
  have g5 : (((wc4.alloc (.cells #[.slice B1 m1 d1] 26)).alloc (.cells #[.slice B2 m2 d2] 26)).alloc (.cells #[.slice B3 m3 d3] 26)).cell? ⟨wc4.heap.size + 1, 0, none⟩ = some (.slice B2 m2 d2) := b3.cell 0
  have g6 : (((wc4.alloc (.cells #[.slice B1 m1 d1] 26)).alloc (.cells #[.slice B2 m2 d2] 26)).alloc (.cells #[.slice B3 m3 d3] 26)).cell? ⟨wc4.heap.size + 1 + 1, 0, none⟩ = some (.slice B3 m3 d3) := b4.cell 0
  clear b1 b2 b3 b4 bz
  go_wp2_with fail
  clear gm6_3 gm5_3
  generalize ((wc4.alloc (.cells #[.slice B1 m1 d1] 26)).alloc (.cells #[.slice B2 m2 d2] 26)).alloc (.cells #[.slice B3 m3 d3] 26) = W5 at *
  generalize wc4.heap.size = q5 at *
  refine (cmpGt (x := z) (y := y) (Hha.out) HN3.out HN2.out (by have := Sz.words HZ3.out HN3.out; omega) (by have := Sz.words HZ2.out HN2.out; omega)).mono ?_
  rintro e wc6 ⟨rfl, hb⟩
  have hB := keep_below hB hb
  have HN1 := Lib.hid (HN1.out.below hb)
  have HN2 := Lib.hid (HN2.out.below hb)
  have HN3 := Lib.hid (HN3.out.below hb)
  have g4 := keep_cell hb g4
  have g5 := keep_cell hb g5
  have g6 := keep_cell hb g6
  clear hb 
  go_wp2
  go_ret
  exact ⟨by first | rfl | simp, hB⟩
set_option maxHeartbeats 16000000 in
theorem quotMade_lt (QC : QuotC) (A0 : Option Addr) (n0 c0 : Nat) (l0 : List Nat) (A1 : Option Addr) (n1 c1 : Nat) (l1 : List Nat) (A2 : Option Addr) (n2 c2 : Nat) (l2 : List Nat) (w : World) (h0 : ArgWords w A0 n0 c0 l0) (h1 : ArgWords w A1 n1 c1 l1) (h2 : ArgWords w A2 n2 c2 l2) (ha : dv 18446744073709551616 l2 < dv 18446744073709551616 l1) :
    Calls Try.prog 5 #[.slice A0 n0 c0, .slice A1 n1 c1, .slice A2 n2 c2] w fun e w' => e = .returned (.bool true) ∧ Below w.heap.size w w' := by
  have HQC := Lib.hid QC
  obtain ⟨K, hK⟩ : ∃ K, 1048576 = K := ⟨_, rfl⟩
  have O0 := arg_of h0
  have S0 := arg_sz h0
  have O1 := arg_of h1
  have S1 := arg_sz h1
  have O2 := arg_of h2
  have S2 := arg_sz h2
  rw [hK] at S0 S1 S2
  have hK2 : K ≤ 1048576 := by omega
  obtain ⟨x, hx0⟩ : ∃ v, dv 18446744073709551616 l0 = v := ⟨_, rfl⟩
  rw [hx0] at O0 S0
  have HO0 := Lib.hid O0
  have HS0 := Lib.hid S0
  obtain ⟨y, hx1⟩ : ∃ v, dv 18446744073709551616 l1 = v := ⟨_, rfl⟩
  rw [hx1] at O1 S1
  have HO1 := Lib.hid O1
  have HS1 := Lib.hid S1
  obtain ⟨z, hx2⟩ : ∃ v, dv 18446744073709551616 l2 = v := ⟨_, rfl⟩
  rw [hx2] at O2 S2
  have HO2 := Lib.hid O2
  have HS2 := Lib.hid S2
  rw [hx1] at ha
  rw [hx2] at ha
  have Hha := Lib.hid ha
  clear QC hK O0 S0 h0 hx0 O1 S1 h1 hx1 O2 S2 h2 hx2 ha
  go_enter Try.func5, Try.ntmps5
  have hB := Below.refl w.heap.size w
  go_wp2_with fail
  refine (law4_awake HQC.out _).mono ?_
  rintro e wc1 ⟨rfl, hb⟩
  have hB := keep_below hB hb
  clear hb 
  go_wp2_with fail
  have HZ1 : Hid (Sz (K) (x)) := HS0.out
  refine (HO0.out _ hB).mono ?_
  rintro e wc2 ⟨B1, m1, d1, rfl, hw1, hb, _⟩
  have hB := keep_below hB hb
  have HN1 := Lib.hid hw1
  clear hb hw1
  go_wp2_with fail
  have HZ2 : Hid (Sz (K) (y)) := HS1.out
  refine (HO1.out _ hB).mono ?_
  rintro e wc3 ⟨B2, m2, d2, rfl, hw2, hb, _⟩
  have hB := keep_below hB hb
  have HN1 := Lib.hid (HN1.out.below hb)
  have HN2 := Lib.hid hw2
  clear hb hw2
  go_wp2_with fail
  have HZ3 : Hid (Sz (K) (z)) := HS2.out
  refine (HO2.out _ hB).mono ?_
  rintro e wc4 ⟨B3, m3, d3, rfl, hw3, hb, _⟩
  have hB := keep_below hB hb
  have HN1 := Lib.hid (HN1.out.below hb)
  have HN2 := Lib.hid (HN2.out.below hb)
  have HN3 := Lib.hid hw3
  clear hb hw3
  have gm6_3 : (((wc4.alloc (.cells #[.slice B1 m1 d1] 26)).alloc (.cells #[.slice B2 m2 d2] 26)).alloc (.cells #[.slice B3 m3 d3] 26)).cell? ⟨wc4.heap.size + 1 + 1, 0, none⟩ = some (.slice B3 m3 d3) := by
    obtain ⟨c1, c2, c3, c4, _⟩ := box3 wc4 26 26 26 #[.slice B1 m1 d1] #[.slice B2 m2 d2] #[.slice B3 m3 d3]
    exact c4.cell 0
  have gm5_3 : (((wc4.alloc (.cells #[.slice B1 m1 d1] 26)).alloc (.cells #[.slice B2 m2 d2] 26)).alloc (.cells #[.slice B3 m3 d3] 26)).cell? ⟨wc4.heap.size + 1, 0, none⟩ = some (.slice B2 m2 d2) := by
    obtain ⟨c1, c2, c3, c4, _⟩ := box3 wc4 26 26 26 #[.slice B1 m1 d1] #[.slice B2 m2 d2] #[.slice B3 m3 d3]
    exact c3.cell 0
  obtain ⟨b1, b2, b3, b4, bz⟩ := box3 wc4 26 26 26 #[.slice B1 m1 d1] #[.slice B2 m2 d2] #[.slice B3 m3 d3]
  have hB := keep_below hB b1
  have HN1 := Lib.hid (HN1.out.below b1)
  have HN2 := Lib.hid (HN2.out.below b1)
  have HN3 := Lib.hid (HN3.out.below b1)
  have g4 : (((wc4.alloc (.cells #[.slice B1 m1 d1] 26)).alloc (.cells #[.slice B2 m2 d2] 26)).alloc (.cells #[.slice B3 m3 d3] 26)).cell? ⟨wc4.heap.size, 0, none⟩ = some (.slice B1 m1 d1) := b2.cell 0
  have g5 : (((wc4.alloc (.cells #[.slice B1 m1 d1] 26)).alloc (.cells #[.slice B2 m2 d2] 26)).alloc (.cells #[.slice B3 m3 d3] 26)).cell? ⟨wc4.heap.size + 1, 0, none⟩ = some (.slice B2 m2 d2) := b3.cell 0
  have g6 : (((wc4.alloc (.cells #[.slice B1 m1 d1] 26)).alloc (.cells #[.slice B2 m2 d2] 26)).alloc (.cells #[.slice B3 m3 d3] 26)).cell? ⟨wc4.heap.size + 1 + 1, 0, none⟩ = some (.slice B3 m3 d3) := b4.cell 0
  clear b1 b2 b3 b4 bz
  go_wp2_with fail
  clear gm6_3 gm5_3
  generalize ((wc4.alloc (.cells #[.slice B1 m1 d1] 26)).alloc (.cells #[.slice B2 m2 d2] 26)).alloc (.cells #[.slice B3 m3 d3] 26) = W5 at *
  generalize wc4.heap.size = q5 at *
  refine (cmpLt (x := z) (y := y) (Hha.out) HN3.out HN2.out (by have := Sz.words HZ3.out HN3.out; omega) (by have := Sz.words HZ2.out HN2.out; omega)).mono ?_
  rintro e wc6 ⟨rfl, hb⟩
  have hB := keep_below hB hb
  have HN1 := Lib.hid (HN1.out.below hb)
  have HN2 := Lib.hid (HN2.out.below hb)
  have HN3 := Lib.hid (HN3.out.below hb)
  have g4 := keep_cell hb g4
  have g5 := keep_cell hb g5
  have g6 := keep_cell hb g6
  clear hb 
  go_wp2_with fail
  have HZ7 : Hid (Sz (K + K) (x * y)) := Sz.mul HZ1.out HZ2.out
  have C0 := Lib.hid (fun w' (h : Below wc6.heap.size wc6 w') => prod_mul (x) (y) B1 B2 m1 m2 d1 d2 w' (HN1.out.below h) (HN2.out.below h) (by have := Sz.words HZ1.out HN1.out; omega) (by have := Sz.words HZ2.out HN2.out; omega))
  have HZ8 : Hid (Sz (K + K + K + 1) ((x * y) + z)) := Sz.add (Sz.up HZ7.out (by omega)) (Sz.up HZ3.out (by omega))
  have C1 := Lib.hid (fun w' (h : Below wc6.heap.size wc6 w') B7 m7 d7 (hw7 : WordsIn w' (x * y) B7 m7 d7) => nat_add (x * y) (z) B7 B3 m7 m3 d7 d3 w' hw7 (HN3.out.below h) (by have := Sz.words HZ7.out hw7; omega) (by have := Sz.words HZ3.out HN3.out; omega))
  have HZ9 : Hid (Sz (K + K + K + 1) (((x * y) + z) / y)) := Sz.of_le HZ8.out (Nat.div_le_self _ _)
  have HZ10 : Hid (Sz (K + K + K + 1) (((x * y) + z) % y)) := Sz.of_le HZ8.out (Nat.mod_le _ _)
  have C2 := Lib.hid (fun w' (h : Below wc6.heap.size wc6 w') B8 m8 d8 (hw8 : WordsIn w' ((x * y) + z) B8 m8 d8) => HQC.out.divMod ((x * y) + z) (y) B8 B2 m8 m2 d8 d2 w' hw8 (HN2.out.below h) (by have := Sz.words HZ8.out hw8; omega) (by have := Sz.words HZ2.out HN2.out; omega) (Nat.pos_iff_ne_zero.1 (Nat.lt_of_le_of_lt (Nat.zero_le _) Hha.out)))
  have lt0 : q5 < wc6.heap.size := World.block_lt_of_cell? wc6 ⟨q5, 0, none⟩ g4
  have lt1 : q5 + 1 < wc6.heap.size := World.block_lt_of_cell? wc6 ⟨q5 + 1, 0, none⟩ g5
  have lt2 : q5 + 1 + 1 < wc6.heap.size := World.block_lt_of_cell? wc6 ⟨q5 + 1 + 1, 0, none⟩ g6
  go_cut [10, 11, 12] (fun s10 s11 s12 wx => ∃ (g0 : Nat) (g1 : Nat) (B9 : Option Addr) (m9 d9 : Nat) (B10 : Option Addr) (m10 d10 : Nat), s10 = .pointer (some ⟨g0, 0, none⟩) ∧ s11 = .pointer (some ⟨g1, 0, none⟩) ∧ s12 = .bool true ∧ wx.cell? ⟨g0, 0, none⟩ = some (.slice B9 m9 d9) ∧ wx.cell? ⟨g1, 0, none⟩ = some (.slice B10 m10 d10) ∧ WordsIn wx (((x * y) + z) / y) B9 m9 d9 ∧ WordsIn wx (((x * y) + z) % y) B10 m10 d10 ∧ Below wc6.heap.size wc6 wx)
  case first =>
    have hb0 : Below wc6.heap.size wc6 wc6.drew := (Below.refl _ wc6).drew
    have hbr := Below.refl wc6.heap.size wc6
    have j0 : wc6.drew.cell? ⟨q5, 0, none⟩ = some (.slice B1 m1 d1) := g4
    have j1 : wc6.drew.cell? ⟨q5 + 1, 0, none⟩ = some (.slice B2 m2 d2) := g5
    have j2 : wc6.drew.cell? ⟨q5 + 1 + 1, 0, none⟩ = some (.slice B3 m3 d3) := g6
    go_region_held3 (fun w' => Below wc6.heap.size wc6 w' ∧ w'.cell? ⟨q5, 0, none⟩ = some (.slice B1 m1 d1) ∧ w'.cell? ⟨q5 + 1, 0, none⟩ = some (.slice B2 m2 d2) ∧ w'.cell? ⟨q5 + 1 + 1, 0, none⟩ = some (.slice B3 m3 d3))
      (first | (with_reducible exact ⟨hb0, j0, j1, j2⟩) | (go_split_ands; (repeat' apply And.intro); all_goals (first | with_reducible assumption | with_reducible exact keep_below (by with_reducible assumption) hb | with_reducible exact keep_cell hb (by with_reducible assumption) | with_reducible exact keep_below_alloc _ (by with_reducible assumption) | with_reducible exact keep_cell_alloc _ (by with_reducible assumption) | with_reducible exact keep_below_alloc _ (keep_below_alloc _ (by with_reducible assumption)) | with_reducible exact keep_cell_alloc _ (keep_cell_alloc _ (by with_reducible assumption)) | with_reducible exact keep_below_alloc _ (keep_below_alloc _ (keep_below_alloc _ (by with_reducible assumption))) | with_reducible exact keep_cell_alloc _ (keep_cell_alloc _ (keep_cell_alloc _ (by with_reducible assumption))) | with_reducible exact keep_below_drew (keep_below_alloc _ (by with_reducible assumption)) | with_reducible exact keep_cell_drew (keep_cell_alloc _ (by with_reducible assumption)) | with_reducible exact keep_below_drew (keep_below_alloc _ (keep_below_alloc _ (by with_reducible assumption))) | with_reducible exact keep_cell_drew (keep_cell_alloc _ (keep_cell_alloc _ (by with_reducible assumption))) | with_reducible exact keep_below_set _ (by first | (simp; done) | (simp; omega)) (by with_reducible assumption) | with_reducible exact keep_cell_set _ (by first | (simp; done) | (simp; omega)) (by with_reducible assumption) | ((repeat (first | with_reducible assumption | with_reducible refine keep_below_set _ (by first | omega | (simp; done) | (simp; omega)) ?_ | with_reducible refine keep_below_alloc _ ?_ | with_reducible refine keep_below_drew ?_)); done) | ((repeat (first | with_reducible assumption | with_reducible refine keep_cell_set _ (by first | omega | (simp; done) | (simp; omega)) ?_ | with_reducible refine keep_cell_alloc _ ?_ | with_reducible refine keep_cell_drew ?_)); done))))
      (first
        | (go_at_call 20; (with_reducible refine (C0.out _ (by first | with_reducible assumption | exact And.left (by with_reducible assumption))).mono ?_); rintro e wa7 ⟨B7, m7, d7, rfl, hw7, hb, _⟩; (try (have hzl := hz1.lt)); (first | ((first | (with_reducible have hz2 := Blk1.keep hz2 hb) | (with_reducible have hz2 := Blk1.keep (hz2.alloc _) hb) | (with_reducible have hz2 := Blk1.keep ((hz2.alloc _).alloc _) hb) | (with_reducible have hz2 := Blk1.keep (((hz2.alloc _).alloc _).alloc _) hb)); (first | (with_reducible have hz1 := Blk1.keep hz1 hb) | (with_reducible have hz1 := Blk1.keep (hz1.alloc _) hb) | (with_reducible have hz1 := Blk1.keep ((hz1.alloc _).alloc _) hb) | (with_reducible have hz1 := Blk1.keep (((hz1.alloc _).alloc _).alloc _) hb))) | ((first | ((with_reducible have hz2 := Blk1.keep (Blk1.new _ _ _) hb); have hz2 : Blk1 _ _ (Value.slice none 0 0) := hz2) | ((with_reducible have hz2 := Blk1.keep ((Blk1.new _ _ _).alloc _) hb); have hz2 : Blk1 _ _ (Value.slice none 0 0) := hz2) | ((with_reducible have hz2 := Blk1.keep (((Blk1.new _ _ _).alloc _).alloc _) hb); have hz2 : Blk1 _ _ (Value.slice none 0 0) := hz2) | ((with_reducible have hz2 := Blk1.keep ((Blk1.new _ _ _).drew) hb); have hz2 : Blk1 _ _ (Value.slice none 0 0) := hz2) | ((with_reducible have hz2 := Blk1.keep (((Blk1.new _ _ _).alloc _).drew) hb); have hz2 : Blk1 _ _ (Value.slice none 0 0) := hz2) | ((with_reducible have hz2 := Blk1.keep ((((Blk1.new _ _ _).alloc _).alloc _).drew) hb); have hz2 : Blk1 _ _ (Value.slice none 0 0) := hz2)); (first | (with_reducible have hz1 := Blk1.keep hz1 hb) | (with_reducible have hz1 := Blk1.keep (hz1.alloc _) hb) | (with_reducible have hz1 := Blk1.keep ((hz1.alloc _).alloc _) hb) | (with_reducible have hz1 := Blk1.keep (((hz1.alloc _).alloc _).alloc _) hb))) | (first | (with_reducible have hz1 := Blk1.keep hz1 hb) | (with_reducible have hz1 := Blk1.keep (hz1.alloc _) hb) | (with_reducible have hz1 := Blk1.keep ((hz1.alloc _).alloc _) hb) | (with_reducible have hz1 := Blk1.keep (((hz1.alloc _).alloc _).alloc _) hb)) | (first | ((with_reducible have hz2 := Blk1.keep (Blk1.new _ _ _) hb); have hz2 : Blk1 _ _ (Value.slice none 0 0) := hz2; (with_reducible have hz1 := Blk1.keep ((Blk1.new _ _ _).alloc _) hb); have hz1 : Blk1 _ _ (Value.slice none 0 0) := hz1) | ((with_reducible have hz2 := Blk1.keep (Blk1.new _ _ _) hb); have hz2 : Blk1 _ _ (Value.slice none 0 0) := hz2; (with_reducible have hz1 := Blk1.keep (((Blk1.new _ _ _).alloc _).alloc _) hb); have hz1 : Blk1 _ _ (Value.slice none 0 0) := hz1) | ((with_reducible have hz2 := Blk1.keep ((Blk1.new _ _ _).alloc _) hb); have hz2 : Blk1 _ _ (Value.slice none 0 0) := hz2; (with_reducible have hz1 := Blk1.keep (((Blk1.new _ _ _).alloc _).alloc _) hb); have hz1 : Blk1 _ _ (Value.slice none 0 0) := hz1) | ((with_reducible have hz2 := Blk1.keep ((Blk1.new _ _ _).drew) hb); have hz2 : Blk1 _ _ (Value.slice none 0 0) := hz2; (with_reducible have hz1 := Blk1.keep (((Blk1.new _ _ _).alloc _).drew) hb); have hz1 : Blk1 _ _ (Value.slice none 0 0) := hz1) | ((with_reducible have hz2 := Blk1.keep ((Blk1.new _ _ _).drew) hb); have hz2 : Blk1 _ _ (Value.slice none 0 0) := hz2; (with_reducible have hz1 := Blk1.keep ((((Blk1.new _ _ _).alloc _).alloc _).drew) hb); have hz1 : Blk1 _ _ (Value.slice none 0 0) := hz1) | ((with_reducible have hz2 := Blk1.keep (((Blk1.new _ _ _).alloc _).drew) hb); have hz2 : Blk1 _ _ (Value.slice none 0 0) := hz2; (with_reducible have hz1 := Blk1.keep ((((Blk1.new _ _ _).alloc _).alloc _).drew) hb); have hz1 : Blk1 _ _ (Value.slice none 0 0) := hz1)) | (first | ((with_reducible have hz1 := Blk1.keep (Blk1.new _ _ _) hb); have hz1 : Blk1 _ _ (Value.slice none 0 0) := hz1) | ((with_reducible have hz1 := Blk1.keep ((Blk1.new _ _ _).alloc _) hb); have hz1 : Blk1 _ _ (Value.slice none 0 0) := hz1) | ((with_reducible have hz1 := Blk1.keep (((Blk1.new _ _ _).alloc _).alloc _) hb); have hz1 : Blk1 _ _ (Value.slice none 0 0) := hz1) | ((with_reducible have hz1 := Blk1.keep ((Blk1.new _ _ _).drew) hb); have hz1 : Blk1 _ _ (Value.slice none 0 0) := hz1) | ((with_reducible have hz1 := Blk1.keep (((Blk1.new _ _ _).alloc _).drew) hb); have hz1 : Blk1 _ _ (Value.slice none 0 0) := hz1) | ((with_reducible have hz1 := Blk1.keep ((((Blk1.new _ _ _).alloc _).alloc _).drew) hb); have hz1 : Blk1 _ _ (Value.slice none 0 0) := hz1)) | skip); (try simp only [alloc_size, drew_size] at hz1); (try simp only [alloc_size, drew_size] at hz2); (try (have hzc1 := hz1.cell; have hzf1 := hz1.frozen; have hzo1 := fun o => (hz1.alloc o).cell; have hzp1 := fun o => (hz1.alloc o).frozen)); (try (have hzc2 := hz2.cell; have hzf2 := hz2.frozen; have hzo2 := fun o => (hz2.alloc o).cell; have hzp2 := fun o => (hz2.alloc o).frozen)); (try (have hzl1 := hz1.lt)); (try (have hzq := two_set hz1 hz2 (by first | omega | (simp; done) | (simp; omega)); obtain ⟨hzq1, hzq2, hzq3, hzq4⟩ := hzq)); (try (have hzt := fun t => two_set (Blk1.alloc hz1 (.cells #[Value.slice none 0 0] t)) (Blk1.new _ t (Value.slice none 0 0)) (by first | omega | (simp; done) | (simp; omega)))); go_split_ands; have hBw : Below wc6.heap.size wc6 wa7 := keep_below (by with_reducible assumption) hb; have gw0 : wa7.cell? ⟨q5, 0, none⟩ = some (.slice B1 m1 d1) := keep_cell hb (by with_reducible assumption); have gw1 : wa7.cell? ⟨q5 + 1, 0, none⟩ = some (.slice B2 m2 d2) := keep_cell hb (by with_reducible assumption); have gw2 : wa7.cell? ⟨q5 + 1 + 1, 0, none⟩ = some (.slice B3 m3 d3) := keep_cell hb (by with_reducible assumption))
        | (go_at_call 19; (first | (with_reducible refine (C1.out _ (by first | with_reducible assumption | exact And.left (by with_reducible assumption)) _ _ _ hw7).mono ?_) | (with_reducible refine (C1.out _ (by first | with_reducible assumption | exact And.left (by with_reducible assumption)) _ _ _ (hw7.below (up_alloc _ _))).mono ?_) | (with_reducible refine (C1.out _ (by first | with_reducible assumption | exact And.left (by with_reducible assumption)) _ _ _ ((hw7.below (up_alloc _ _)).below (up_alloc _ _))).mono ?_)); rintro e wa8 ⟨B8, m8, d8, rfl, hw8, hb, _⟩; (try have hzs1 := hBw.size); (try (have hzl := hz1.lt)); (first | ((first | (with_reducible have hz2 := Blk1.keep hz2 hb) | (with_reducible have hz2 := Blk1.keep (hz2.alloc _) hb) | (with_reducible have hz2 := Blk1.keep ((hz2.alloc _).alloc _) hb) | (with_reducible have hz2 := Blk1.keep (((hz2.alloc _).alloc _).alloc _) hb)); (first | (with_reducible have hz1 := Blk1.keep hz1 hb) | (with_reducible have hz1 := Blk1.keep (hz1.alloc _) hb) | (with_reducible have hz1 := Blk1.keep ((hz1.alloc _).alloc _) hb) | (with_reducible have hz1 := Blk1.keep (((hz1.alloc _).alloc _).alloc _) hb))) | ((first | ((with_reducible have hz2 := Blk1.keep (Blk1.new _ _ _) hb); have hz2 : Blk1 _ _ (Value.slice none 0 0) := hz2) | ((with_reducible have hz2 := Blk1.keep ((Blk1.new _ _ _).alloc _) hb); have hz2 : Blk1 _ _ (Value.slice none 0 0) := hz2) | ((with_reducible have hz2 := Blk1.keep (((Blk1.new _ _ _).alloc _).alloc _) hb); have hz2 : Blk1 _ _ (Value.slice none 0 0) := hz2) | ((with_reducible have hz2 := Blk1.keep ((Blk1.new _ _ _).drew) hb); have hz2 : Blk1 _ _ (Value.slice none 0 0) := hz2) | ((with_reducible have hz2 := Blk1.keep (((Blk1.new _ _ _).alloc _).drew) hb); have hz2 : Blk1 _ _ (Value.slice none 0 0) := hz2) | ((with_reducible have hz2 := Blk1.keep ((((Blk1.new _ _ _).alloc _).alloc _).drew) hb); have hz2 : Blk1 _ _ (Value.slice none 0 0) := hz2)); (first | (with_reducible have hz1 := Blk1.keep hz1 hb) | (with_reducible have hz1 := Blk1.keep (hz1.alloc _) hb) | (with_reducible have hz1 := Blk1.keep ((hz1.alloc _).alloc _) hb) | (with_reducible have hz1 := Blk1.keep (((hz1.alloc _).alloc _).alloc _) hb))) | (first | (with_reducible have hz1 := Blk1.keep hz1 hb) | (with_reducible have hz1 := Blk1.keep (hz1.alloc _) hb) | (with_reducible have hz1 := Blk1.keep ((hz1.alloc _).alloc _) hb) | (with_reducible have hz1 := Blk1.keep (((hz1.alloc _).alloc _).alloc _) hb)) | (first | ((with_reducible have hz2 := Blk1.keep (Blk1.new _ _ _) hb); have hz2 : Blk1 _ _ (Value.slice none 0 0) := hz2; (with_reducible have hz1 := Blk1.keep ((Blk1.new _ _ _).alloc _) hb); have hz1 : Blk1 _ _ (Value.slice none 0 0) := hz1) | ((with_reducible have hz2 := Blk1.keep (Blk1.new _ _ _) hb); have hz2 : Blk1 _ _ (Value.slice none 0 0) := hz2; (with_reducible have hz1 := Blk1.keep (((Blk1.new _ _ _).alloc _).alloc _) hb); have hz1 : Blk1 _ _ (Value.slice none 0 0) := hz1) | ((with_reducible have hz2 := Blk1.keep ((Blk1.new _ _ _).alloc _) hb); have hz2 : Blk1 _ _ (Value.slice none 0 0) := hz2; (with_reducible have hz1 := Blk1.keep (((Blk1.new _ _ _).alloc _).alloc _) hb); have hz1 : Blk1 _ _ (Value.slice none 0 0) := hz1) | ((with_reducible have hz2 := Blk1.keep ((Blk1.new _ _ _).drew) hb); have hz2 : Blk1 _ _ (Value.slice none 0 0) := hz2; (with_reducible have hz1 := Blk1.keep (((Blk1.new _ _ _).alloc _).drew) hb); have hz1 : Blk1 _ _ (Value.slice none 0 0) := hz1) | ((with_reducible have hz2 := Blk1.keep ((Blk1.new _ _ _).drew) hb); have hz2 : Blk1 _ _ (Value.slice none 0 0) := hz2; (with_reducible have hz1 := Blk1.keep ((((Blk1.new _ _ _).alloc _).alloc _).drew) hb); have hz1 : Blk1 _ _ (Value.slice none 0 0) := hz1) | ((with_reducible have hz2 := Blk1.keep (((Blk1.new _ _ _).alloc _).drew) hb); have hz2 : Blk1 _ _ (Value.slice none 0 0) := hz2; (with_reducible have hz1 := Blk1.keep ((((Blk1.new _ _ _).alloc _).alloc _).drew) hb); have hz1 : Blk1 _ _ (Value.slice none 0 0) := hz1)) | (first | ((with_reducible have hz1 := Blk1.keep (Blk1.new _ _ _) hb); have hz1 : Blk1 _ _ (Value.slice none 0 0) := hz1) | ((with_reducible have hz1 := Blk1.keep ((Blk1.new _ _ _).alloc _) hb); have hz1 : Blk1 _ _ (Value.slice none 0 0) := hz1) | ((with_reducible have hz1 := Blk1.keep (((Blk1.new _ _ _).alloc _).alloc _) hb); have hz1 : Blk1 _ _ (Value.slice none 0 0) := hz1) | ((with_reducible have hz1 := Blk1.keep ((Blk1.new _ _ _).drew) hb); have hz1 : Blk1 _ _ (Value.slice none 0 0) := hz1) | ((with_reducible have hz1 := Blk1.keep (((Blk1.new _ _ _).alloc _).drew) hb); have hz1 : Blk1 _ _ (Value.slice none 0 0) := hz1) | ((with_reducible have hz1 := Blk1.keep ((((Blk1.new _ _ _).alloc _).alloc _).drew) hb); have hz1 : Blk1 _ _ (Value.slice none 0 0) := hz1)) | skip); (try simp only [alloc_size, drew_size] at hz1); (try simp only [alloc_size, drew_size] at hz2); (try (have hzc1 := hz1.cell; have hzf1 := hz1.frozen; have hzo1 := fun o => (hz1.alloc o).cell; have hzp1 := fun o => (hz1.alloc o).frozen)); (try (have hzc2 := hz2.cell; have hzf2 := hz2.frozen; have hzo2 := fun o => (hz2.alloc o).cell; have hzp2 := fun o => (hz2.alloc o).frozen)); (try (have hzl1 := hz1.lt)); (try (have hzq := two_set hz1 hz2 (by first | omega | (simp; done) | (simp; omega)); obtain ⟨hzq1, hzq2, hzq3, hzq4⟩ := hzq)); (try (have hzt := fun t => two_set (Blk1.alloc hz1 (.cells #[Value.slice none 0 0] t)) (Blk1.new _ t (Value.slice none 0 0)) (by first | omega | (simp; done) | (simp; omega)))); go_split_ands; have hBw : Below wc6.heap.size wc6 wa8 := keep_below (by with_reducible assumption) hb; have gw0 : wa8.cell? ⟨q5, 0, none⟩ = some (.slice B1 m1 d1) := keep_cell hb (by with_reducible assumption); have gw1 : wa8.cell? ⟨q5 + 1, 0, none⟩ = some (.slice B2 m2 d2) := keep_cell hb (by with_reducible assumption); have gw2 : wa8.cell? ⟨q5 + 1 + 1, 0, none⟩ = some (.slice B3 m3 d3) := keep_cell hb (by with_reducible assumption); (first | (with_reducible have hw7 := WordsIn.below hw7 hb) | (with_reducible have hw7 := WordsIn.below (WordsIn.below hw7 (up_alloc _ _)) hb) | (with_reducible have hw7 := WordsIn.below (WordsIn.below (WordsIn.below hw7 (up_alloc _ _)) (up_alloc _ _)) hb)))
        | (go_at_call 12; (first | (with_reducible refine (C2.out _ (by first | with_reducible assumption | exact And.left (by with_reducible assumption)) _ _ _ hw8).mono ?_) | (with_reducible refine (C2.out _ (by first | with_reducible assumption | exact And.left (by with_reducible assumption)) _ _ _ (hw8.below (up_alloc _ _))).mono ?_) | (with_reducible refine (C2.out _ (by first | with_reducible assumption | exact And.left (by with_reducible assumption)) _ _ _ ((hw8.below (up_alloc _ _)).below (up_alloc _ _))).mono ?_)); rintro e wa9 ⟨B9, m9, d9, B10, m10, d10, rfl, hw9, hw10, hb⟩; (try have hzs2 := hBw.size); (try (have hzl := hz1.lt)); (first | ((first | (with_reducible have hz2 := Blk1.keep hz2 hb) | (with_reducible have hz2 := Blk1.keep (hz2.alloc _) hb) | (with_reducible have hz2 := Blk1.keep ((hz2.alloc _).alloc _) hb) | (with_reducible have hz2 := Blk1.keep (((hz2.alloc _).alloc _).alloc _) hb)); (first | (with_reducible have hz1 := Blk1.keep hz1 hb) | (with_reducible have hz1 := Blk1.keep (hz1.alloc _) hb) | (with_reducible have hz1 := Blk1.keep ((hz1.alloc _).alloc _) hb) | (with_reducible have hz1 := Blk1.keep (((hz1.alloc _).alloc _).alloc _) hb))) | ((first | ((with_reducible have hz2 := Blk1.keep (Blk1.new _ _ _) hb); have hz2 : Blk1 _ _ (Value.slice none 0 0) := hz2) | ((with_reducible have hz2 := Blk1.keep ((Blk1.new _ _ _).alloc _) hb); have hz2 : Blk1 _ _ (Value.slice none 0 0) := hz2) | ((with_reducible have hz2 := Blk1.keep (((Blk1.new _ _ _).alloc _).alloc _) hb); have hz2 : Blk1 _ _ (Value.slice none 0 0) := hz2) | ((with_reducible have hz2 := Blk1.keep ((Blk1.new _ _ _).drew) hb); have hz2 : Blk1 _ _ (Value.slice none 0 0) := hz2) | ((with_reducible have hz2 := Blk1.keep (((Blk1.new _ _ _).alloc _).drew) hb); have hz2 : Blk1 _ _ (Value.slice none 0 0) := hz2) | ((with_reducible have hz2 := Blk1.keep ((((Blk1.new _ _ _).alloc _).alloc _).drew) hb); have hz2 : Blk1 _ _ (Value.slice none 0 0) := hz2)); (first | (with_reducible have hz1 := Blk1.keep hz1 hb) | (with_reducible have hz1 := Blk1.keep (hz1.alloc _) hb) | (with_reducible have hz1 := Blk1.keep ((hz1.alloc _).alloc _) hb) | (with_reducible have hz1 := Blk1.keep (((hz1.alloc _).alloc _).alloc _) hb))) | (first | (with_reducible have hz1 := Blk1.keep hz1 hb) | (with_reducible have hz1 := Blk1.keep (hz1.alloc _) hb) | (with_reducible have hz1 := Blk1.keep ((hz1.alloc _).alloc _) hb) | (with_reducible have hz1 := Blk1.keep (((hz1.alloc _).alloc _).alloc _) hb)) | (first | ((with_reducible have hz2 := Blk1.keep (Blk1.new _ _ _) hb); have hz2 : Blk1 _ _ (Value.slice none 0 0) := hz2; (with_reducible have hz1 := Blk1.keep ((Blk1.new _ _ _).alloc _) hb); have hz1 : Blk1 _ _ (Value.slice none 0 0) := hz1) | ((with_reducible have hz2 := Blk1.keep (Blk1.new _ _ _) hb); have hz2 : Blk1 _ _ (Value.slice none 0 0) := hz2; (with_reducible have hz1 := Blk1.keep (((Blk1.new _ _ _).alloc _).alloc _) hb); have hz1 : Blk1 _ _ (Value.slice none 0 0) := hz1) | ((with_reducible have hz2 := Blk1.keep ((Blk1.new _ _ _).alloc _) hb); have hz2 : Blk1 _ _ (Value.slice none 0 0) := hz2; (with_reducible have hz1 := Blk1.keep (((Blk1.new _ _ _).alloc _).alloc _) hb); have hz1 : Blk1 _ _ (Value.slice none 0 0) := hz1) | ((with_reducible have hz2 := Blk1.keep ((Blk1.new _ _ _).drew) hb); have hz2 : Blk1 _ _ (Value.slice none 0 0) := hz2; (with_reducible have hz1 := Blk1.keep (((Blk1.new _ _ _).alloc _).drew) hb); have hz1 : Blk1 _ _ (Value.slice none 0 0) := hz1) | ((with_reducible have hz2 := Blk1.keep ((Blk1.new _ _ _).drew) hb); have hz2 : Blk1 _ _ (Value.slice none 0 0) := hz2; (with_reducible have hz1 := Blk1.keep ((((Blk1.new _ _ _).alloc _).alloc _).drew) hb); have hz1 : Blk1 _ _ (Value.slice none 0 0) := hz1) | ((with_reducible have hz2 := Blk1.keep (((Blk1.new _ _ _).alloc _).drew) hb); have hz2 : Blk1 _ _ (Value.slice none 0 0) := hz2; (with_reducible have hz1 := Blk1.keep ((((Blk1.new _ _ _).alloc _).alloc _).drew) hb); have hz1 : Blk1 _ _ (Value.slice none 0 0) := hz1)) | (first | ((with_reducible have hz1 := Blk1.keep (Blk1.new _ _ _) hb); have hz1 : Blk1 _ _ (Value.slice none 0 0) := hz1) | ((with_reducible have hz1 := Blk1.keep ((Blk1.new _ _ _).alloc _) hb); have hz1 : Blk1 _ _ (Value.slice none 0 0) := hz1) | ((with_reducible have hz1 := Blk1.keep (((Blk1.new _ _ _).alloc _).alloc _) hb); have hz1 : Blk1 _ _ (Value.slice none 0 0) := hz1) | ((with_reducible have hz1 := Blk1.keep ((Blk1.new _ _ _).drew) hb); have hz1 : Blk1 _ _ (Value.slice none 0 0) := hz1) | ((with_reducible have hz1 := Blk1.keep (((Blk1.new _ _ _).alloc _).drew) hb); have hz1 : Blk1 _ _ (Value.slice none 0 0) := hz1) | ((with_reducible have hz1 := Blk1.keep ((((Blk1.new _ _ _).alloc _).alloc _).drew) hb); have hz1 : Blk1 _ _ (Value.slice none 0 0) := hz1)) | skip); (try simp only [alloc_size, drew_size] at hz1); (try simp only [alloc_size, drew_size] at hz2); (try (have hzc1 := hz1.cell; have hzf1 := hz1.frozen; have hzo1 := fun o => (hz1.alloc o).cell; have hzp1 := fun o => (hz1.alloc o).frozen)); (try (have hzc2 := hz2.cell; have hzf2 := hz2.frozen; have hzo2 := fun o => (hz2.alloc o).cell; have hzp2 := fun o => (hz2.alloc o).frozen)); (try (have hzl1 := hz1.lt)); (try (have hzq := two_set hz1 hz2 (by first | omega | (simp; done) | (simp; omega)); obtain ⟨hzq1, hzq2, hzq3, hzq4⟩ := hzq)); (try (have hzt := fun t => two_set (Blk1.alloc hz1 (.cells #[Value.slice none 0 0] t)) (Blk1.new _ t (Value.slice none 0 0)) (by first | omega | (simp; done) | (simp; omega)))); go_split_ands; have hBw : Below wc6.heap.size wc6 wa9 := keep_below (by with_reducible assumption) hb; have gw0 : wa9.cell? ⟨q5, 0, none⟩ = some (.slice B1 m1 d1) := keep_cell hb (by with_reducible assumption); have gw1 : wa9.cell? ⟨q5 + 1, 0, none⟩ = some (.slice B2 m2 d2) := keep_cell hb (by with_reducible assumption); have gw2 : wa9.cell? ⟨q5 + 1 + 1, 0, none⟩ = some (.slice B3 m3 d3) := keep_cell hb (by with_reducible assumption); (first | (with_reducible have hw7 := WordsIn.below hw7 hb) | (with_reducible have hw7 := WordsIn.below (WordsIn.below hw7 (up_alloc _ _)) hb) | (with_reducible have hw7 := WordsIn.below (WordsIn.below (WordsIn.below hw7 (up_alloc _ _)) (up_alloc _ _)) hb)); (first | (with_reducible have hw8 := WordsIn.below hw8 hb) | (with_reducible have hw8 := WordsIn.below (WordsIn.below hw8 (up_alloc _ _)) hb) | (with_reducible have hw8 := WordsIn.below (WordsIn.below (WordsIn.below hw8 (up_alloc _ _)) (up_alloc _ _)) hb))))
    all_goals (go_wp2_with fail; go_meet)
    all_goals (
      (with_reducible refine ⟨_, _, B9, m9, d9, B10, m10, d10, rfl, rfl, rfl, (Blk1.cell ?_), (Blk1.cell ?_), ?_, ?_, ?_⟩)
      · ((repeat (first | (first | with_reducible exact hz1 | with_reducible exact hz2 | with_reducible exact Blk1.new _ _ _ | with_reducible refine Blk1.newAt (by first | rfl | (simp; done))) | with_reducible refine Blk1.set_ (v := .slice none 0 0) ?_ _ | with_reducible refine Blk1.far ?_ (by first | (simp; done) | (simp; omega)) _ | with_reducible refine Blk1.alloc ?_ _)))
      · ((repeat (first | (first | with_reducible exact hz1 | with_reducible exact hz2 | with_reducible exact Blk1.new _ _ _ | with_reducible refine Blk1.newAt (by first | rfl | (simp; done))) | with_reducible refine Blk1.set_ (v := .slice none 0 0) ?_ _ | with_reducible refine Blk1.far ?_ (by first | (simp; done) | (simp; omega)) _ | with_reducible refine Blk1.alloc ?_ _)))
      · (repeat (first | (first | with_reducible exact hw9 | with_reducible exact hw10) | with_reducible refine WordsIn.below ?_ (up_alloc _ _) | with_reducible refine words_set_blk1 (a := none) (b := 0) (d := 0) ?_ (by ((repeat (first | (first | with_reducible exact hz1 | with_reducible exact hz2 | with_reducible exact Blk1.new _ _ _ | with_reducible refine Blk1.newAt (by first | rfl | (simp; done))) | with_reducible refine Blk1.set_ (v := .slice none 0 0) ?_ _ | with_reducible refine Blk1.far ?_ (by first | (simp; done) | (simp; omega)) _ | with_reducible refine Blk1.alloc ?_ _)))) _))
      · (repeat (first | (first | with_reducible exact hw9 | with_reducible exact hw10) | with_reducible refine WordsIn.below ?_ (up_alloc _ _) | with_reducible refine words_set_blk1 (a := none) (b := 0) (d := 0) ?_ (by ((repeat (first | (first | with_reducible exact hz1 | with_reducible exact hz2 | with_reducible exact Blk1.new _ _ _ | with_reducible refine Blk1.newAt (by first | rfl | (simp; done))) | with_reducible refine Blk1.set_ (v := .slice none 0 0) ?_ _ | with_reducible refine Blk1.far ?_ (by first | (simp; done) | (simp; omega)) _ | with_reducible refine Blk1.alloc ?_ _)))) _))
      · (repeat (first | with_reducible exact hBw | with_reducible refine keep_below_alloc _ ?_ | with_reducible refine keep_below_set _ (by first | (simp; done) | (simp; omega)) ?_)))
  case rest =>
    obtain ⟨ga11, ga12, B9, m9, d9, B10, m10, d10, rfl, rfl, rfl, gc0, gc1, hw9, hw10, hb⟩ := hcut
    obtain ⟨wk10, hwq⟩ : ∃ x, x = wc := ⟨_, rfl⟩
    subst hwq
    have hB := keep_below hB hb
    have HN1 := Lib.hid (HN1.out.below hb)
    have HN2 := Lib.hid (HN2.out.below hb)
    have HN3 := Lib.hid (HN3.out.below hb)
    have g4 := keep_cell hb g4
    have g5 := keep_cell hb g5
    have g6 := keep_cell hb g6
    have g11 := gc0
    have g12 := gc1
    have HN9 := Lib.hid hw9
    have HN10 := Lib.hid hw10
    clear hb gc0 gc1 hw9 hw10
    go_wp2_with fail
    have HZ13 : Hid (Sz (K + K) (x * y)) := Sz.mul HZ1.out HZ2.out
    have C0 := Lib.hid (fun w' (h : Below wk10.heap.size wk10 w') => prod_mul (x) (y) B1 B2 m1 m2 d1 d2 w' (HN1.out.below h) (HN2.out.below h) (by have := Sz.words HZ1.out HN1.out; omega) (by have := Sz.words HZ2.out HN2.out; omega))
    have HZ14 : Hid (Sz (K + K + K + 1) ((x * y) + z)) := Sz.add (Sz.up HZ13.out (by omega)) (Sz.up HZ3.out (by omega))
    have C1 := Lib.hid (fun w' (h : Below wk10.heap.size wk10 w') B13 m13 d13 (hw13 : WordsIn w' (x * y) B13 m13 d13) => nat_add (x * y) (z) B13 B3 m13 m3 d13 d3 w' hw13 (HN3.out.below h) (by have := Sz.words HZ13.out hw13; omega) (by have := Sz.words HZ3.out HN3.out; omega))
    have HZ15 : Hid (Sz (K + K + K + 1) (((x * y) + z) / y)) := Sz.of_le HZ14.out (Nat.div_le_self _ _)
    have C2 := Lib.hid (fun w' (h : Below wk10.heap.size wk10 w') B14 m14 d14 (hw14 : WordsIn w' ((x * y) + z) B14 m14 d14) => HQC.out.div ((x * y) + z) (y) B14 B2 m14 m2 d14 d2 w' hw14 (HN2.out.below h) (by have := Sz.words HZ14.out hw14; omega) (by have := Sz.words HZ2.out HN2.out; omega) (Nat.pos_iff_ne_zero.1 (Nat.lt_of_le_of_lt (Nat.zero_le _) Hha.out)))
    have lt0 : q5 < wk10.heap.size := World.block_lt_of_cell? wk10 ⟨q5, 0, none⟩ g4
    have lt1 : q5 + 1 < wk10.heap.size := World.block_lt_of_cell? wk10 ⟨q5 + 1, 0, none⟩ g5
    have lt2 : q5 + 1 + 1 < wk10.heap.size := World.block_lt_of_cell? wk10 ⟨q5 + 1 + 1, 0, none⟩ g6
    go_cut [13, 14] (fun s13 s14 wx => ∃ (g0 : Nat) (B15 : Option Addr) (m15 d15 : Nat), s13 = .pointer (some ⟨g0, 0, none⟩) ∧ s14 = .bool true ∧ wx.cell? ⟨g0, 0, none⟩ = some (.slice B15 m15 d15) ∧ WordsIn wx (((x * y) + z) / y) B15 m15 d15 ∧ Below wk10.heap.size wk10 wx)
    case first =>
      have hb0 : Below wk10.heap.size wk10 wk10.drew := (Below.refl _ wk10).drew
      have hbr := Below.refl wk10.heap.size wk10
      have j0 : wk10.drew.cell? ⟨q5, 0, none⟩ = some (.slice B1 m1 d1) := g4
      have j1 : wk10.drew.cell? ⟨q5 + 1, 0, none⟩ = some (.slice B2 m2 d2) := g5
      have j2 : wk10.drew.cell? ⟨q5 + 1 + 1, 0, none⟩ = some (.slice B3 m3 d3) := g6
      go_region_held3 (fun w' => Below wk10.heap.size wk10 w' ∧ w'.cell? ⟨q5, 0, none⟩ = some (.slice B1 m1 d1) ∧ w'.cell? ⟨q5 + 1, 0, none⟩ = some (.slice B2 m2 d2) ∧ w'.cell? ⟨q5 + 1 + 1, 0, none⟩ = some (.slice B3 m3 d3))
        (first | (with_reducible exact ⟨hb0, j0, j1, j2⟩) | (go_split_ands; (repeat' apply And.intro); all_goals (first | with_reducible assumption | with_reducible exact keep_below (by with_reducible assumption) hb | with_reducible exact keep_cell hb (by with_reducible assumption) | with_reducible exact keep_below_alloc _ (by with_reducible assumption) | with_reducible exact keep_cell_alloc _ (by with_reducible assumption) | with_reducible exact keep_below_alloc _ (keep_below_alloc _ (by with_reducible assumption)) | with_reducible exact keep_cell_alloc _ (keep_cell_alloc _ (by with_reducible assumption)) | with_reducible exact keep_below_alloc _ (keep_below_alloc _ (keep_below_alloc _ (by with_reducible assumption))) | with_reducible exact keep_cell_alloc _ (keep_cell_alloc _ (keep_cell_alloc _ (by with_reducible assumption))) | with_reducible exact keep_below_drew (keep_below_alloc _ (by with_reducible assumption)) | with_reducible exact keep_cell_drew (keep_cell_alloc _ (by with_reducible assumption)) | with_reducible exact keep_below_drew (keep_below_alloc _ (keep_below_alloc _ (by with_reducible assumption))) | with_reducible exact keep_cell_drew (keep_cell_alloc _ (keep_cell_alloc _ (by with_reducible assumption))) | with_reducible exact keep_below_set _ (by first | (simp; done) | (simp; omega)) (by with_reducible assumption) | with_reducible exact keep_cell_set _ (by first | (simp; done) | (simp; omega)) (by with_reducible assumption) | ((repeat (first | with_reducible assumption | with_reducible refine keep_below_set _ (by first | omega | (simp; done) | (simp; omega)) ?_ | with_reducible refine keep_below_alloc _ ?_ | with_reducible refine keep_below_drew ?_)); done) | ((repeat (first | with_reducible assumption | with_reducible refine keep_cell_set _ (by first | omega | (simp; done) | (simp; omega)) ?_ | with_reducible refine keep_cell_alloc _ ?_ | with_reducible refine keep_cell_drew ?_)); done))))
        (first
          | (go_at_call 20; (with_reducible refine (C0.out _ (by first | with_reducible assumption | exact And.left (by with_reducible assumption))).mono ?_); rintro e wa11 ⟨B13, m13, d13, rfl, hw13, hb, _⟩; (try (have hzl := hz1.lt)); (first | ((first | (with_reducible have hz2 := Blk1.keep hz2 hb) | (with_reducible have hz2 := Blk1.keep (hz2.alloc _) hb) | (with_reducible have hz2 := Blk1.keep ((hz2.alloc _).alloc _) hb) | (with_reducible have hz2 := Blk1.keep (((hz2.alloc _).alloc _).alloc _) hb)); (first | (with_reducible have hz1 := Blk1.keep hz1 hb) | (with_reducible have hz1 := Blk1.keep (hz1.alloc _) hb) | (with_reducible have hz1 := Blk1.keep ((hz1.alloc _).alloc _) hb) | (with_reducible have hz1 := Blk1.keep (((hz1.alloc _).alloc _).alloc _) hb))) | ((first | ((with_reducible have hz2 := Blk1.keep (Blk1.new _ _ _) hb); have hz2 : Blk1 _ _ (Value.slice none 0 0) := hz2) | ((with_reducible have hz2 := Blk1.keep ((Blk1.new _ _ _).alloc _) hb); have hz2 : Blk1 _ _ (Value.slice none 0 0) := hz2) | ((with_reducible have hz2 := Blk1.keep (((Blk1.new _ _ _).alloc _).alloc _) hb); have hz2 : Blk1 _ _ (Value.slice none 0 0) := hz2) | ((with_reducible have hz2 := Blk1.keep ((Blk1.new _ _ _).drew) hb); have hz2 : Blk1 _ _ (Value.slice none 0 0) := hz2) | ((with_reducible have hz2 := Blk1.keep (((Blk1.new _ _ _).alloc _).drew) hb); have hz2 : Blk1 _ _ (Value.slice none 0 0) := hz2) | ((with_reducible have hz2 := Blk1.keep ((((Blk1.new _ _ _).alloc _).alloc _).drew) hb); have hz2 : Blk1 _ _ (Value.slice none 0 0) := hz2)); (first | (with_reducible have hz1 := Blk1.keep hz1 hb) | (with_reducible have hz1 := Blk1.keep (hz1.alloc _) hb) | (with_reducible have hz1 := Blk1.keep ((hz1.alloc _).alloc _) hb) | (with_reducible have hz1 := Blk1.keep (((hz1.alloc _).alloc _).alloc _) hb))) | (first | (with_reducible have hz1 := Blk1.keep hz1 hb) | (with_reducible have hz1 := Blk1.keep (hz1.alloc _) hb) | (with_reducible have hz1 := Blk1.keep ((hz1.alloc _).alloc _) hb) | (with_reducible have hz1 := Blk1.keep (((hz1.alloc _).alloc _).alloc _) hb)) | (first | ((with_reducible have hz2 := Blk1.keep (Blk1.new _ _ _) hb); have hz2 : Blk1 _ _ (Value.slice none 0 0) := hz2; (with_reducible have hz1 := Blk1.keep ((Blk1.new _ _ _).alloc _) hb); have hz1 : Blk1 _ _ (Value.slice none 0 0) := hz1) | ((with_reducible have hz2 := Blk1.keep (Blk1.new _ _ _) hb); have hz2 : Blk1 _ _ (Value.slice none 0 0) := hz2; (with_reducible have hz1 := Blk1.keep (((Blk1.new _ _ _).alloc _).alloc _) hb); have hz1 : Blk1 _ _ (Value.slice none 0 0) := hz1) | ((with_reducible have hz2 := Blk1.keep ((Blk1.new _ _ _).alloc _) hb); have hz2 : Blk1 _ _ (Value.slice none 0 0) := hz2; (with_reducible have hz1 := Blk1.keep (((Blk1.new _ _ _).alloc _).alloc _) hb); have hz1 : Blk1 _ _ (Value.slice none 0 0) := hz1) | ((with_reducible have hz2 := Blk1.keep ((Blk1.new _ _ _).drew) hb); have hz2 : Blk1 _ _ (Value.slice none 0 0) := hz2; (with_reducible have hz1 := Blk1.keep (((Blk1.new _ _ _).alloc _).drew) hb); have hz1 : Blk1 _ _ (Value.slice none 0 0) := hz1) | ((with_reducible have hz2 := Blk1.keep ((Blk1.new _ _ _).drew) hb); have hz2 : Blk1 _ _ (Value.slice none 0 0) := hz2; (with_reducible have hz1 := Blk1.keep ((((Blk1.new _ _ _).alloc _).alloc _).drew) hb); have hz1 : Blk1 _ _ (Value.slice none 0 0) := hz1) | ((with_reducible have hz2 := Blk1.keep (((Blk1.new _ _ _).alloc _).drew) hb); have hz2 : Blk1 _ _ (Value.slice none 0 0) := hz2; (with_reducible have hz1 := Blk1.keep ((((Blk1.new _ _ _).alloc _).alloc _).drew) hb); have hz1 : Blk1 _ _ (Value.slice none 0 0) := hz1)) | (first | ((with_reducible have hz1 := Blk1.keep (Blk1.new _ _ _) hb); have hz1 : Blk1 _ _ (Value.slice none 0 0) := hz1) | ((with_reducible have hz1 := Blk1.keep ((Blk1.new _ _ _).alloc _) hb); have hz1 : Blk1 _ _ (Value.slice none 0 0) := hz1) | ((with_reducible have hz1 := Blk1.keep (((Blk1.new _ _ _).alloc _).alloc _) hb); have hz1 : Blk1 _ _ (Value.slice none 0 0) := hz1) | ((with_reducible have hz1 := Blk1.keep ((Blk1.new _ _ _).drew) hb); have hz1 : Blk1 _ _ (Value.slice none 0 0) := hz1) | ((with_reducible have hz1 := Blk1.keep (((Blk1.new _ _ _).alloc _).drew) hb); have hz1 : Blk1 _ _ (Value.slice none 0 0) := hz1) | ((with_reducible have hz1 := Blk1.keep ((((Blk1.new _ _ _).alloc _).alloc _).drew) hb); have hz1 : Blk1 _ _ (Value.slice none 0 0) := hz1)) | skip); (try simp only [alloc_size, drew_size] at hz1); (try simp only [alloc_size, drew_size] at hz2); (try (have hzc1 := hz1.cell; have hzf1 := hz1.frozen; have hzo1 := fun o => (hz1.alloc o).cell; have hzp1 := fun o => (hz1.alloc o).frozen)); (try (have hzc2 := hz2.cell; have hzf2 := hz2.frozen; have hzo2 := fun o => (hz2.alloc o).cell; have hzp2 := fun o => (hz2.alloc o).frozen)); (try (have hzl1 := hz1.lt)); (try (have hzq := two_set hz1 hz2 (by first | omega | (simp; done) | (simp; omega)); obtain ⟨hzq1, hzq2, hzq3, hzq4⟩ := hzq)); (try (have hzt := fun t => two_set (Blk1.alloc hz1 (.cells #[Value.slice none 0 0] t)) (Blk1.new _ t (Value.slice none 0 0)) (by first | omega | (simp; done) | (simp; omega)))); go_split_ands; have hBw : Below wk10.heap.size wk10 wa11 := keep_below (by with_reducible assumption) hb; have gw0 : wa11.cell? ⟨q5, 0, none⟩ = some (.slice B1 m1 d1) := keep_cell hb (by with_reducible assumption); have gw1 : wa11.cell? ⟨q5 + 1, 0, none⟩ = some (.slice B2 m2 d2) := keep_cell hb (by with_reducible assumption); have gw2 : wa11.cell? ⟨q5 + 1 + 1, 0, none⟩ = some (.slice B3 m3 d3) := keep_cell hb (by with_reducible assumption))
          | (go_at_call 19; (first | (with_reducible refine (C1.out _ (by first | with_reducible assumption | exact And.left (by with_reducible assumption)) _ _ _ hw13).mono ?_) | (with_reducible refine (C1.out _ (by first | with_reducible assumption | exact And.left (by with_reducible assumption)) _ _ _ (hw13.below (up_alloc _ _))).mono ?_) | (with_reducible refine (C1.out _ (by first | with_reducible assumption | exact And.left (by with_reducible assumption)) _ _ _ ((hw13.below (up_alloc _ _)).below (up_alloc _ _))).mono ?_)); rintro e wa12 ⟨B14, m14, d14, rfl, hw14, hb, _⟩; (try have hzs1 := hBw.size); (try (have hzl := hz1.lt)); (first | ((first | (with_reducible have hz2 := Blk1.keep hz2 hb) | (with_reducible have hz2 := Blk1.keep (hz2.alloc _) hb) | (with_reducible have hz2 := Blk1.keep ((hz2.alloc _).alloc _) hb) | (with_reducible have hz2 := Blk1.keep (((hz2.alloc _).alloc _).alloc _) hb)); (first | (with_reducible have hz1 := Blk1.keep hz1 hb) | (with_reducible have hz1 := Blk1.keep (hz1.alloc _) hb) | (with_reducible have hz1 := Blk1.keep ((hz1.alloc _).alloc _) hb) | (with_reducible have hz1 := Blk1.keep (((hz1.alloc _).alloc _).alloc _) hb))) | ((first | ((with_reducible have hz2 := Blk1.keep (Blk1.new _ _ _) hb); have hz2 : Blk1 _ _ (Value.slice none 0 0) := hz2) | ((with_reducible have hz2 := Blk1.keep ((Blk1.new _ _ _).alloc _) hb); have hz2 : Blk1 _ _ (Value.slice none 0 0) := hz2) | ((with_reducible have hz2 := Blk1.keep (((Blk1.new _ _ _).alloc _).alloc _) hb); have hz2 : Blk1 _ _ (Value.slice none 0 0) := hz2) | ((with_reducible have hz2 := Blk1.keep ((Blk1.new _ _ _).drew) hb); have hz2 : Blk1 _ _ (Value.slice none 0 0) := hz2) | ((with_reducible have hz2 := Blk1.keep (((Blk1.new _ _ _).alloc _).drew) hb); have hz2 : Blk1 _ _ (Value.slice none 0 0) := hz2) | ((with_reducible have hz2 := Blk1.keep ((((Blk1.new _ _ _).alloc _).alloc _).drew) hb); have hz2 : Blk1 _ _ (Value.slice none 0 0) := hz2)); (first | (with_reducible have hz1 := Blk1.keep hz1 hb) | (with_reducible have hz1 := Blk1.keep (hz1.alloc _) hb) | (with_reducible have hz1 := Blk1.keep ((hz1.alloc _).alloc _) hb) | (with_reducible have hz1 := Blk1.keep (((hz1.alloc _).alloc _).alloc _) hb))) | (first | (with_reducible have hz1 := Blk1.keep hz1 hb) | (with_reducible have hz1 := Blk1.keep (hz1.alloc _) hb) | (with_reducible have hz1 := Blk1.keep ((hz1.alloc _).alloc _) hb) | (with_reducible have hz1 := Blk1.keep (((hz1.alloc _).alloc _).alloc _) hb)) | (first | ((with_reducible have hz2 := Blk1.keep (Blk1.new _ _ _) hb); have hz2 : Blk1 _ _ (Value.slice none 0 0) := hz2; (with_reducible have hz1 := Blk1.keep ((Blk1.new _ _ _).alloc _) hb); have hz1 : Blk1 _ _ (Value.slice none 0 0) := hz1) | ((with_reducible have hz2 := Blk1.keep (Blk1.new _ _ _) hb); have hz2 : Blk1 _ _ (Value.slice none 0 0) := hz2; (with_reducible have hz1 := Blk1.keep (((Blk1.new _ _ _).alloc _).alloc _) hb); have hz1 : Blk1 _ _ (Value.slice none 0 0) := hz1) | ((with_reducible have hz2 := Blk1.keep ((Blk1.new _ _ _).alloc _) hb); have hz2 : Blk1 _ _ (Value.slice none 0 0) := hz2; (with_reducible have hz1 := Blk1.keep (((Blk1.new _ _ _).alloc _).alloc _) hb); have hz1 : Blk1 _ _ (Value.slice none 0 0) := hz1) | ((with_reducible have hz2 := Blk1.keep ((Blk1.new _ _ _).drew) hb); have hz2 : Blk1 _ _ (Value.slice none 0 0) := hz2; (with_reducible have hz1 := Blk1.keep (((Blk1.new _ _ _).alloc _).drew) hb); have hz1 : Blk1 _ _ (Value.slice none 0 0) := hz1) | ((with_reducible have hz2 := Blk1.keep ((Blk1.new _ _ _).drew) hb); have hz2 : Blk1 _ _ (Value.slice none 0 0) := hz2; (with_reducible have hz1 := Blk1.keep ((((Blk1.new _ _ _).alloc _).alloc _).drew) hb); have hz1 : Blk1 _ _ (Value.slice none 0 0) := hz1) | ((with_reducible have hz2 := Blk1.keep (((Blk1.new _ _ _).alloc _).drew) hb); have hz2 : Blk1 _ _ (Value.slice none 0 0) := hz2; (with_reducible have hz1 := Blk1.keep ((((Blk1.new _ _ _).alloc _).alloc _).drew) hb); have hz1 : Blk1 _ _ (Value.slice none 0 0) := hz1)) | (first | ((with_reducible have hz1 := Blk1.keep (Blk1.new _ _ _) hb); have hz1 : Blk1 _ _ (Value.slice none 0 0) := hz1) | ((with_reducible have hz1 := Blk1.keep ((Blk1.new _ _ _).alloc _) hb); have hz1 : Blk1 _ _ (Value.slice none 0 0) := hz1) | ((with_reducible have hz1 := Blk1.keep (((Blk1.new _ _ _).alloc _).alloc _) hb); have hz1 : Blk1 _ _ (Value.slice none 0 0) := hz1) | ((with_reducible have hz1 := Blk1.keep ((Blk1.new _ _ _).drew) hb); have hz1 : Blk1 _ _ (Value.slice none 0 0) := hz1) | ((with_reducible have hz1 := Blk1.keep (((Blk1.new _ _ _).alloc _).drew) hb); have hz1 : Blk1 _ _ (Value.slice none 0 0) := hz1) | ((with_reducible have hz1 := Blk1.keep ((((Blk1.new _ _ _).alloc _).alloc _).drew) hb); have hz1 : Blk1 _ _ (Value.slice none 0 0) := hz1)) | skip); (try simp only [alloc_size, drew_size] at hz1); (try simp only [alloc_size, drew_size] at hz2); (try (have hzc1 := hz1.cell; have hzf1 := hz1.frozen; have hzo1 := fun o => (hz1.alloc o).cell; have hzp1 := fun o => (hz1.alloc o).frozen)); (try (have hzc2 := hz2.cell; have hzf2 := hz2.frozen; have hzo2 := fun o => (hz2.alloc o).cell; have hzp2 := fun o => (hz2.alloc o).frozen)); (try (have hzl1 := hz1.lt)); (try (have hzq := two_set hz1 hz2 (by first | omega | (simp; done) | (simp; omega)); obtain ⟨hzq1, hzq2, hzq3, hzq4⟩ := hzq)); (try (have hzt := fun t => two_set (Blk1.alloc hz1 (.cells #[Value.slice none 0 0] t)) (Blk1.new _ t (Value.slice none 0 0)) (by first | omega | (simp; done) | (simp; omega)))); go_split_ands; have hBw : Below wk10.heap.size wk10 wa12 := keep_below (by with_reducible assumption) hb; have gw0 : wa12.cell? ⟨q5, 0, none⟩ = some (.slice B1 m1 d1) := keep_cell hb (by with_reducible assumption); have gw1 : wa12.cell? ⟨q5 + 1, 0, none⟩ = some (.slice B2 m2 d2) := keep_cell hb (by with_reducible assumption); have gw2 : wa12.cell? ⟨q5 + 1 + 1, 0, none⟩ = some (.slice B3 m3 d3) := keep_cell hb (by with_reducible assumption); (first | (with_reducible have hw13 := WordsIn.below hw13 hb) | (with_reducible have hw13 := WordsIn.below (WordsIn.below hw13 (up_alloc _ _)) hb) | (with_reducible have hw13 := WordsIn.below (WordsIn.below (WordsIn.below hw13 (up_alloc _ _)) (up_alloc _ _)) hb)))
          | (go_at_call 21; (first | (with_reducible refine (C2.out _ (by first | with_reducible assumption | exact And.left (by with_reducible assumption)) _ _ _ hw14).mono ?_) | (with_reducible refine (C2.out _ (by first | with_reducible assumption | exact And.left (by with_reducible assumption)) _ _ _ (hw14.below (up_alloc _ _))).mono ?_) | (with_reducible refine (C2.out _ (by first | with_reducible assumption | exact And.left (by with_reducible assumption)) _ _ _ ((hw14.below (up_alloc _ _)).below (up_alloc _ _))).mono ?_)); rintro e wa13 ⟨B15, m15, d15, rfl, hw15, hb⟩; (try have hzs2 := hBw.size); (try (have hzl := hz1.lt)); (first | ((first | (with_reducible have hz2 := Blk1.keep hz2 hb) | (with_reducible have hz2 := Blk1.keep (hz2.alloc _) hb) | (with_reducible have hz2 := Blk1.keep ((hz2.alloc _).alloc _) hb) | (with_reducible have hz2 := Blk1.keep (((hz2.alloc _).alloc _).alloc _) hb)); (first | (with_reducible have hz1 := Blk1.keep hz1 hb) | (with_reducible have hz1 := Blk1.keep (hz1.alloc _) hb) | (with_reducible have hz1 := Blk1.keep ((hz1.alloc _).alloc _) hb) | (with_reducible have hz1 := Blk1.keep (((hz1.alloc _).alloc _).alloc _) hb))) | ((first | ((with_reducible have hz2 := Blk1.keep (Blk1.new _ _ _) hb); have hz2 : Blk1 _ _ (Value.slice none 0 0) := hz2) | ((with_reducible have hz2 := Blk1.keep ((Blk1.new _ _ _).alloc _) hb); have hz2 : Blk1 _ _ (Value.slice none 0 0) := hz2) | ((with_reducible have hz2 := Blk1.keep (((Blk1.new _ _ _).alloc _).alloc _) hb); have hz2 : Blk1 _ _ (Value.slice none 0 0) := hz2) | ((with_reducible have hz2 := Blk1.keep ((Blk1.new _ _ _).drew) hb); have hz2 : Blk1 _ _ (Value.slice none 0 0) := hz2) | ((with_reducible have hz2 := Blk1.keep (((Blk1.new _ _ _).alloc _).drew) hb); have hz2 : Blk1 _ _ (Value.slice none 0 0) := hz2) | ((with_reducible have hz2 := Blk1.keep ((((Blk1.new _ _ _).alloc _).alloc _).drew) hb); have hz2 : Blk1 _ _ (Value.slice none 0 0) := hz2)); (first | (with_reducible have hz1 := Blk1.keep hz1 hb) | (with_reducible have hz1 := Blk1.keep (hz1.alloc _) hb) | (with_reducible have hz1 := Blk1.keep ((hz1.alloc _).alloc _) hb) | (with_reducible have hz1 := Blk1.keep (((hz1.alloc _).alloc _).alloc _) hb))) | (first | (with_reducible have hz1 := Blk1.keep hz1 hb) | (with_reducible have hz1 := Blk1.keep (hz1.alloc _) hb) | (with_reducible have hz1 := Blk1.keep ((hz1.alloc _).alloc _) hb) | (with_reducible have hz1 := Blk1.keep (((hz1.alloc _).alloc _).alloc _) hb)) | (first | ((with_reducible have hz2 := Blk1.keep (Blk1.new _ _ _) hb); have hz2 : Blk1 _ _ (Value.slice none 0 0) := hz2; (with_reducible have hz1 := Blk1.keep ((Blk1.new _ _ _).alloc _) hb); have hz1 : Blk1 _ _ (Value.slice none 0 0) := hz1) | ((with_reducible have hz2 := Blk1.keep (Blk1.new _ _ _) hb); have hz2 : Blk1 _ _ (Value.slice none 0 0) := hz2; (with_reducible have hz1 := Blk1.keep (((Blk1.new _ _ _).alloc _).alloc _) hb); have hz1 : Blk1 _ _ (Value.slice none 0 0) := hz1) | ((with_reducible have hz2 := Blk1.keep ((Blk1.new _ _ _).alloc _) hb); have hz2 : Blk1 _ _ (Value.slice none 0 0) := hz2; (with_reducible have hz1 := Blk1.keep (((Blk1.new _ _ _).alloc _).alloc _) hb); have hz1 : Blk1 _ _ (Value.slice none 0 0) := hz1) | ((with_reducible have hz2 := Blk1.keep ((Blk1.new _ _ _).drew) hb); have hz2 : Blk1 _ _ (Value.slice none 0 0) := hz2; (with_reducible have hz1 := Blk1.keep (((Blk1.new _ _ _).alloc _).drew) hb); have hz1 : Blk1 _ _ (Value.slice none 0 0) := hz1) | ((with_reducible have hz2 := Blk1.keep ((Blk1.new _ _ _).drew) hb); have hz2 : Blk1 _ _ (Value.slice none 0 0) := hz2; (with_reducible have hz1 := Blk1.keep ((((Blk1.new _ _ _).alloc _).alloc _).drew) hb); have hz1 : Blk1 _ _ (Value.slice none 0 0) := hz1) | ((with_reducible have hz2 := Blk1.keep (((Blk1.new _ _ _).alloc _).drew) hb); have hz2 : Blk1 _ _ (Value.slice none 0 0) := hz2; (with_reducible have hz1 := Blk1.keep ((((Blk1.new _ _ _).alloc _).alloc _).drew) hb); have hz1 : Blk1 _ _ (Value.slice none 0 0) := hz1)) | (first | ((with_reducible have hz1 := Blk1.keep (Blk1.new _ _ _) hb); have hz1 : Blk1 _ _ (Value.slice none 0 0) := hz1) | ((with_reducible have hz1 := Blk1.keep ((Blk1.new _ _ _).alloc _) hb); have hz1 : Blk1 _ _ (Value.slice none 0 0) := hz1) | ((with_reducible have hz1 := Blk1.keep (((Blk1.new _ _ _).alloc _).alloc _) hb); have hz1 : Blk1 _ _ (Value.slice none 0 0) := hz1) | ((with_reducible have hz1 := Blk1.keep ((Blk1.new _ _ _).drew) hb); have hz1 : Blk1 _ _ (Value.slice none 0 0) := hz1) | ((with_reducible have hz1 := Blk1.keep (((Blk1.new _ _ _).alloc _).drew) hb); have hz1 : Blk1 _ _ (Value.slice none 0 0) := hz1) | ((with_reducible have hz1 := Blk1.keep ((((Blk1.new _ _ _).alloc _).alloc _).drew) hb); have hz1 : Blk1 _ _ (Value.slice none 0 0) := hz1)) | skip); (try simp only [alloc_size, drew_size] at hz1); (try simp only [alloc_size, drew_size] at hz2); (try (have hzc1 := hz1.cell; have hzf1 := hz1.frozen; have hzo1 := fun o => (hz1.alloc o).cell; have hzp1 := fun o => (hz1.alloc o).frozen)); (try (have hzc2 := hz2.cell; have hzf2 := hz2.frozen; have hzo2 := fun o => (hz2.alloc o).cell; have hzp2 := fun o => (hz2.alloc o).frozen)); (try (have hzl1 := hz1.lt)); (try (have hzq := two_set hz1 hz2 (by first | omega | (simp; done) | (simp; omega)); obtain ⟨hzq1, hzq2, hzq3, hzq4⟩ := hzq)); (try (have hzt := fun t => two_set (Blk1.alloc hz1 (.cells #[Value.slice none 0 0] t)) (Blk1.new _ t (Value.slice none 0 0)) (by first | omega | (simp; done) | (simp; omega)))); go_split_ands; have hBw : Below wk10.heap.size wk10 wa13 := keep_below (by with_reducible assumption) hb; have gw0 : wa13.cell? ⟨q5, 0, none⟩ = some (.slice B1 m1 d1) := keep_cell hb (by with_reducible assumption); have gw1 : wa13.cell? ⟨q5 + 1, 0, none⟩ = some (.slice B2 m2 d2) := keep_cell hb (by with_reducible assumption); have gw2 : wa13.cell? ⟨q5 + 1 + 1, 0, none⟩ = some (.slice B3 m3 d3) := keep_cell hb (by with_reducible assumption); (first | (with_reducible have hw13 := WordsIn.below hw13 hb) | (with_reducible have hw13 := WordsIn.below (WordsIn.below hw13 (up_alloc _ _)) hb) | (with_reducible have hw13 := WordsIn.below (WordsIn.below (WordsIn.below hw13 (up_alloc _ _)) (up_alloc _ _)) hb)); (first | (with_reducible have hw14 := WordsIn.below hw14 hb) | (with_reducible have hw14 := WordsIn.below (WordsIn.below hw14 (up_alloc _ _)) hb) | (with_reducible have hw14 := WordsIn.below (WordsIn.below (WordsIn.below hw14 (up_alloc _ _)) (up_alloc _ _)) hb))))
      all_goals (go_wp2_with fail; go_meet)
      all_goals (
        (with_reducible refine ⟨_, B15, m15, d15, rfl, rfl, (Blk1.cell ?_), ?_, ?_⟩)
        · ((repeat (first | (first | with_reducible exact hz1 | with_reducible exact hz2 | with_reducible exact Blk1.new _ _ _ | with_reducible refine Blk1.newAt (by first | rfl | (simp; done))) | with_reducible refine Blk1.set_ (v := .slice none 0 0) ?_ _ | with_reducible refine Blk1.far ?_ (by first | (simp; done) | (simp; omega)) _ | with_reducible refine Blk1.alloc ?_ _)))
        · (repeat (first | (first | with_reducible exact hw15) | with_reducible refine WordsIn.below ?_ (up_alloc _ _) | with_reducible refine words_set_blk1 (a := none) (b := 0) (d := 0) ?_ (by ((repeat (first | (first | with_reducible exact hz1 | with_reducible exact hz2 | with_reducible exact Blk1.new _ _ _ | with_reducible refine Blk1.newAt (by first | rfl | (simp; done))) | with_reducible refine Blk1.set_ (v := .slice none 0 0) ?_ _ | with_reducible refine Blk1.far ?_ (by first | (simp; done) | (simp; omega)) _ | with_reducible refine Blk1.alloc ?_ _)))) _))
        · (repeat (first | with_reducible exact hBw | with_reducible refine keep_below_alloc _ ?_ | with_reducible refine keep_below_set _ (by first | (simp; done) | (simp; omega)) ?_)))
    case rest =>
      obtain ⟨ga16, B15, m15, d15, rfl, rfl, gc0, hw15, hb⟩ := hcut
      obtain ⟨wk14, hwq⟩ : ∃ x, x = wc := ⟨_, rfl⟩
      subst hwq
      have hB := keep_below hB hb
      have HN1 := Lib.hid (HN1.out.below hb)
      have HN2 := Lib.hid (HN2.out.below hb)
      have HN3 := Lib.hid (HN3.out.below hb)
      have g4 := keep_cell hb g4
      have g5 := keep_cell hb g5
      have g6 := keep_cell hb g6
      have g11 := keep_cell hb g11
      have g12 := keep_cell hb g12
      have HN9 := Lib.hid (HN9.out.below hb)
      have HN10 := Lib.hid (HN10.out.below hb)
      have g16 := gc0
      have HN15 := Lib.hid hw15
      clear hb gc0 hw15
      go_wp2_with fail
      have HZ17 : Hid (Sz (K + K) (x * y)) := Sz.mul HZ1.out HZ2.out
      have C0 := Lib.hid (fun w' (h : Below wk14.heap.size wk14 w') => prod_mul (x) (y) B1 B2 m1 m2 d1 d2 w' (HN1.out.below h) (HN2.out.below h) (by have := Sz.words HZ1.out HN1.out; omega) (by have := Sz.words HZ2.out HN2.out; omega))
      have HZ18 : Hid (Sz (K + K + K + 1) ((x * y) + z)) := Sz.add (Sz.up HZ17.out (by omega)) (Sz.up HZ3.out (by omega))
      have C1 := Lib.hid (fun w' (h : Below wk14.heap.size wk14 w') B17 m17 d17 (hw17 : WordsIn w' (x * y) B17 m17 d17) => nat_add (x * y) (z) B17 B3 m17 m3 d17 d3 w' hw17 (HN3.out.below h) (by have := Sz.words HZ17.out hw17; omega) (by have := Sz.words HZ3.out HN3.out; omega))
      have HZ19 : Hid (Sz (K + K + K + 1) (((x * y) + z) % y)) := Sz.of_le HZ18.out (Nat.mod_le _ _)
      have C2 := Lib.hid (fun w' (h : Below wk14.heap.size wk14 w') B18 m18 d18 (hw18 : WordsIn w' ((x * y) + z) B18 m18 d18) => HQC.out.mod ((x * y) + z) (y) B18 B2 m18 m2 d18 d2 w' hw18 (HN2.out.below h) (by have := Sz.words HZ18.out hw18; omega) (by have := Sz.words HZ2.out HN2.out; omega) (Nat.pos_iff_ne_zero.1 (Nat.lt_of_le_of_lt (Nat.zero_le _) Hha.out)))
      have lt0 : q5 < wk14.heap.size := World.block_lt_of_cell? wk14 ⟨q5, 0, none⟩ g4
      have lt1 : q5 + 1 < wk14.heap.size := World.block_lt_of_cell? wk14 ⟨q5 + 1, 0, none⟩ g5
      have lt2 : q5 + 1 + 1 < wk14.heap.size := World.block_lt_of_cell? wk14 ⟨q5 + 1 + 1, 0, none⟩ g6
      go_cut [15, 16] (fun s15 s16 wx => ∃ (g0 : Nat) (B19 : Option Addr) (m19 d19 : Nat), s15 = .pointer (some ⟨g0, 0, none⟩) ∧ s16 = .bool true ∧ wx.cell? ⟨g0, 0, none⟩ = some (.slice B19 m19 d19) ∧ WordsIn wx (((x * y) + z) % y) B19 m19 d19 ∧ Below wk14.heap.size wk14 wx)
      case first =>
        have hb0 : Below wk14.heap.size wk14 wk14.drew := (Below.refl _ wk14).drew
        have hbr := Below.refl wk14.heap.size wk14
        have j0 : wk14.drew.cell? ⟨q5, 0, none⟩ = some (.slice B1 m1 d1) := g4
        have j1 : wk14.drew.cell? ⟨q5 + 1, 0, none⟩ = some (.slice B2 m2 d2) := g5
        have j2 : wk14.drew.cell? ⟨q5 + 1 + 1, 0, none⟩ = some (.slice B3 m3 d3) := g6
        go_region_held3 (fun w' => Below wk14.heap.size wk14 w' ∧ w'.cell? ⟨q5, 0, none⟩ = some (.slice B1 m1 d1) ∧ w'.cell? ⟨q5 + 1, 0, none⟩ = some (.slice B2 m2 d2) ∧ w'.cell? ⟨q5 + 1 + 1, 0, none⟩ = some (.slice B3 m3 d3))
          (first | (with_reducible exact ⟨hb0, j0, j1, j2⟩) | (go_split_ands; (repeat' apply And.intro); all_goals (first | with_reducible assumption | with_reducible exact keep_below (by with_reducible assumption) hb | with_reducible exact keep_cell hb (by with_reducible assumption) | with_reducible exact keep_below_alloc _ (by with_reducible assumption) | with_reducible exact keep_cell_alloc _ (by with_reducible assumption) | with_reducible exact keep_below_alloc _ (keep_below_alloc _ (by with_reducible assumption)) | with_reducible exact keep_cell_alloc _ (keep_cell_alloc _ (by with_reducible assumption)) | with_reducible exact keep_below_alloc _ (keep_below_alloc _ (keep_below_alloc _ (by with_reducible assumption))) | with_reducible exact keep_cell_alloc _ (keep_cell_alloc _ (keep_cell_alloc _ (by with_reducible assumption))) | with_reducible exact keep_below_drew (keep_below_alloc _ (by with_reducible assumption)) | with_reducible exact keep_cell_drew (keep_cell_alloc _ (by with_reducible assumption)) | with_reducible exact keep_below_drew (keep_below_alloc _ (keep_below_alloc _ (by with_reducible assumption))) | with_reducible exact keep_cell_drew (keep_cell_alloc _ (keep_cell_alloc _ (by with_reducible assumption))) | with_reducible exact keep_below_set _ (by first | (simp; done) | (simp; omega)) (by with_reducible assumption) | with_reducible exact keep_cell_set _ (by first | (simp; done) | (simp; omega)) (by with_reducible assumption) | ((repeat (first | with_reducible assumption | with_reducible refine keep_below_set _ (by first | omega | (simp; done) | (simp; omega)) ?_ | with_reducible refine keep_below_alloc _ ?_ | with_reducible refine keep_below_drew ?_)); done) | ((repeat (first | with_reducible assumption | with_reducible refine keep_cell_set _ (by first | omega | (simp; done) | (simp; omega)) ?_ | with_reducible refine keep_cell_alloc _ ?_ | with_reducible refine keep_cell_drew ?_)); done))))
          (first
            | (go_at_call 20; (with_reducible refine (C0.out _ (by first | with_reducible assumption | exact And.left (by with_reducible assumption))).mono ?_); rintro e wa15 ⟨B17, m17, d17, rfl, hw17, hb, _⟩; (try (have hzl := hz1.lt)); (first | ((first | (with_reducible have hz2 := Blk1.keep hz2 hb) | (with_reducible have hz2 := Blk1.keep (hz2.alloc _) hb) | (with_reducible have hz2 := Blk1.keep ((hz2.alloc _).alloc _) hb) | (with_reducible have hz2 := Blk1.keep (((hz2.alloc _).alloc _).alloc _) hb)); (first | (with_reducible have hz1 := Blk1.keep hz1 hb) | (with_reducible have hz1 := Blk1.keep (hz1.alloc _) hb) | (with_reducible have hz1 := Blk1.keep ((hz1.alloc _).alloc _) hb) | (with_reducible have hz1 := Blk1.keep (((hz1.alloc _).alloc _).alloc _) hb))) | ((first | ((with_reducible have hz2 := Blk1.keep (Blk1.new _ _ _) hb); have hz2 : Blk1 _ _ (Value.slice none 0 0) := hz2) | ((with_reducible have hz2 := Blk1.keep ((Blk1.new _ _ _).alloc _) hb); have hz2 : Blk1 _ _ (Value.slice none 0 0) := hz2) | ((with_reducible have hz2 := Blk1.keep (((Blk1.new _ _ _).alloc _).alloc _) hb); have hz2 : Blk1 _ _ (Value.slice none 0 0) := hz2) | ((with_reducible have hz2 := Blk1.keep ((Blk1.new _ _ _).drew) hb); have hz2 : Blk1 _ _ (Value.slice none 0 0) := hz2) | ((with_reducible have hz2 := Blk1.keep (((Blk1.new _ _ _).alloc _).drew) hb); have hz2 : Blk1 _ _ (Value.slice none 0 0) := hz2) | ((with_reducible have hz2 := Blk1.keep ((((Blk1.new _ _ _).alloc _).alloc _).drew) hb); have hz2 : Blk1 _ _ (Value.slice none 0 0) := hz2)); (first | (with_reducible have hz1 := Blk1.keep hz1 hb) | (with_reducible have hz1 := Blk1.keep (hz1.alloc _) hb) | (with_reducible have hz1 := Blk1.keep ((hz1.alloc _).alloc _) hb) | (with_reducible have hz1 := Blk1.keep (((hz1.alloc _).alloc _).alloc _) hb))) | (first | (with_reducible have hz1 := Blk1.keep hz1 hb) | (with_reducible have hz1 := Blk1.keep (hz1.alloc _) hb) | (with_reducible have hz1 := Blk1.keep ((hz1.alloc _).alloc _) hb) | (with_reducible have hz1 := Blk1.keep (((hz1.alloc _).alloc _).alloc _) hb)) | (first | ((with_reducible have hz2 := Blk1.keep (Blk1.new _ _ _) hb); have hz2 : Blk1 _ _ (Value.slice none 0 0) := hz2; (with_reducible have hz1 := Blk1.keep ((Blk1.new _ _ _).alloc _) hb); have hz1 : Blk1 _ _ (Value.slice none 0 0) := hz1) | ((with_reducible have hz2 := Blk1.keep (Blk1.new _ _ _) hb); have hz2 : Blk1 _ _ (Value.slice none 0 0) := hz2; (with_reducible have hz1 := Blk1.keep (((Blk1.new _ _ _).alloc _).alloc _) hb); have hz1 : Blk1 _ _ (Value.slice none 0 0) := hz1) | ((with_reducible have hz2 := Blk1.keep ((Blk1.new _ _ _).alloc _) hb); have hz2 : Blk1 _ _ (Value.slice none 0 0) := hz2; (with_reducible have hz1 := Blk1.keep (((Blk1.new _ _ _).alloc _).alloc _) hb); have hz1 : Blk1 _ _ (Value.slice none 0 0) := hz1) | ((with_reducible have hz2 := Blk1.keep ((Blk1.new _ _ _).drew) hb); have hz2 : Blk1 _ _ (Value.slice none 0 0) := hz2; (with_reducible have hz1 := Blk1.keep (((Blk1.new _ _ _).alloc _).drew) hb); have hz1 : Blk1 _ _ (Value.slice none 0 0) := hz1) | ((with_reducible have hz2 := Blk1.keep ((Blk1.new _ _ _).drew) hb); have hz2 : Blk1 _ _ (Value.slice none 0 0) := hz2; (with_reducible have hz1 := Blk1.keep ((((Blk1.new _ _ _).alloc _).alloc _).drew) hb); have hz1 : Blk1 _ _ (Value.slice none 0 0) := hz1) | ((with_reducible have hz2 := Blk1.keep (((Blk1.new _ _ _).alloc _).drew) hb); have hz2 : Blk1 _ _ (Value.slice none 0 0) := hz2; (with_reducible have hz1 := Blk1.keep ((((Blk1.new _ _ _).alloc _).alloc _).drew) hb); have hz1 : Blk1 _ _ (Value.slice none 0 0) := hz1)) | (first | ((with_reducible have hz1 := Blk1.keep (Blk1.new _ _ _) hb); have hz1 : Blk1 _ _ (Value.slice none 0 0) := hz1) | ((with_reducible have hz1 := Blk1.keep ((Blk1.new _ _ _).alloc _) hb); have hz1 : Blk1 _ _ (Value.slice none 0 0) := hz1) | ((with_reducible have hz1 := Blk1.keep (((Blk1.new _ _ _).alloc _).alloc _) hb); have hz1 : Blk1 _ _ (Value.slice none 0 0) := hz1) | ((with_reducible have hz1 := Blk1.keep ((Blk1.new _ _ _).drew) hb); have hz1 : Blk1 _ _ (Value.slice none 0 0) := hz1) | ((with_reducible have hz1 := Blk1.keep (((Blk1.new _ _ _).alloc _).drew) hb); have hz1 : Blk1 _ _ (Value.slice none 0 0) := hz1) | ((with_reducible have hz1 := Blk1.keep ((((Blk1.new _ _ _).alloc _).alloc _).drew) hb); have hz1 : Blk1 _ _ (Value.slice none 0 0) := hz1)) | skip); (try simp only [alloc_size, drew_size] at hz1); (try simp only [alloc_size, drew_size] at hz2); (try (have hzc1 := hz1.cell; have hzf1 := hz1.frozen; have hzo1 := fun o => (hz1.alloc o).cell; have hzp1 := fun o => (hz1.alloc o).frozen)); (try (have hzc2 := hz2.cell; have hzf2 := hz2.frozen; have hzo2 := fun o => (hz2.alloc o).cell; have hzp2 := fun o => (hz2.alloc o).frozen)); (try (have hzl1 := hz1.lt)); (try (have hzq := two_set hz1 hz2 (by first | omega | (simp; done) | (simp; omega)); obtain ⟨hzq1, hzq2, hzq3, hzq4⟩ := hzq)); (try (have hzt := fun t => two_set (Blk1.alloc hz1 (.cells #[Value.slice none 0 0] t)) (Blk1.new _ t (Value.slice none 0 0)) (by first | omega | (simp; done) | (simp; omega)))); go_split_ands; have hBw : Below wk14.heap.size wk14 wa15 := keep_below (by with_reducible assumption) hb; have gw0 : wa15.cell? ⟨q5, 0, none⟩ = some (.slice B1 m1 d1) := keep_cell hb (by with_reducible assumption); have gw1 : wa15.cell? ⟨q5 + 1, 0, none⟩ = some (.slice B2 m2 d2) := keep_cell hb (by with_reducible assumption); have gw2 : wa15.cell? ⟨q5 + 1 + 1, 0, none⟩ = some (.slice B3 m3 d3) := keep_cell hb (by with_reducible assumption))
            | (go_at_call 19; (first | (with_reducible refine (C1.out _ (by first | with_reducible assumption | exact And.left (by with_reducible assumption)) _ _ _ hw17).mono ?_) | (with_reducible refine (C1.out _ (by first | with_reducible assumption | exact And.left (by with_reducible assumption)) _ _ _ (hw17.below (up_alloc _ _))).mono ?_) | (with_reducible refine (C1.out _ (by first | with_reducible assumption | exact And.left (by with_reducible assumption)) _ _ _ ((hw17.below (up_alloc _ _)).below (up_alloc _ _))).mono ?_)); rintro e wa16 ⟨B18, m18, d18, rfl, hw18, hb, _⟩; (try have hzs1 := hBw.size); (try (have hzl := hz1.lt)); (first | ((first | (with_reducible have hz2 := Blk1.keep hz2 hb) | (with_reducible have hz2 := Blk1.keep (hz2.alloc _) hb) | (with_reducible have hz2 := Blk1.keep ((hz2.alloc _).alloc _) hb) | (with_reducible have hz2 := Blk1.keep (((hz2.alloc _).alloc _).alloc _) hb)); (first | (with_reducible have hz1 := Blk1.keep hz1 hb) | (with_reducible have hz1 := Blk1.keep (hz1.alloc _) hb) | (with_reducible have hz1 := Blk1.keep ((hz1.alloc _).alloc _) hb) | (with_reducible have hz1 := Blk1.keep (((hz1.alloc _).alloc _).alloc _) hb))) | ((first | ((with_reducible have hz2 := Blk1.keep (Blk1.new _ _ _) hb); have hz2 : Blk1 _ _ (Value.slice none 0 0) := hz2) | ((with_reducible have hz2 := Blk1.keep ((Blk1.new _ _ _).alloc _) hb); have hz2 : Blk1 _ _ (Value.slice none 0 0) := hz2) | ((with_reducible have hz2 := Blk1.keep (((Blk1.new _ _ _).alloc _).alloc _) hb); have hz2 : Blk1 _ _ (Value.slice none 0 0) := hz2) | ((with_reducible have hz2 := Blk1.keep ((Blk1.new _ _ _).drew) hb); have hz2 : Blk1 _ _ (Value.slice none 0 0) := hz2) | ((with_reducible have hz2 := Blk1.keep (((Blk1.new _ _ _).alloc _).drew) hb); have hz2 : Blk1 _ _ (Value.slice none 0 0) := hz2) | ((with_reducible have hz2 := Blk1.keep ((((Blk1.new _ _ _).alloc _).alloc _).drew) hb); have hz2 : Blk1 _ _ (Value.slice none 0 0) := hz2)); (first | (with_reducible have hz1 := Blk1.keep hz1 hb) | (with_reducible have hz1 := Blk1.keep (hz1.alloc _) hb) | (with_reducible have hz1 := Blk1.keep ((hz1.alloc _).alloc _) hb) | (with_reducible have hz1 := Blk1.keep (((hz1.alloc _).alloc _).alloc _) hb))) | (first | (with_reducible have hz1 := Blk1.keep hz1 hb) | (with_reducible have hz1 := Blk1.keep (hz1.alloc _) hb) | (with_reducible have hz1 := Blk1.keep ((hz1.alloc _).alloc _) hb) | (with_reducible have hz1 := Blk1.keep (((hz1.alloc _).alloc _).alloc _) hb)) | (first | ((with_reducible have hz2 := Blk1.keep (Blk1.new _ _ _) hb); have hz2 : Blk1 _ _ (Value.slice none 0 0) := hz2; (with_reducible have hz1 := Blk1.keep ((Blk1.new _ _ _).alloc _) hb); have hz1 : Blk1 _ _ (Value.slice none 0 0) := hz1) | ((with_reducible have hz2 := Blk1.keep (Blk1.new _ _ _) hb); have hz2 : Blk1 _ _ (Value.slice none 0 0) := hz2; (with_reducible have hz1 := Blk1.keep (((Blk1.new _ _ _).alloc _).alloc _) hb); have hz1 : Blk1 _ _ (Value.slice none 0 0) := hz1) | ((with_reducible have hz2 := Blk1.keep ((Blk1.new _ _ _).alloc _) hb); have hz2 : Blk1 _ _ (Value.slice none 0 0) := hz2; (with_reducible have hz1 := Blk1.keep (((Blk1.new _ _ _).alloc _).alloc _) hb); have hz1 : Blk1 _ _ (Value.slice none 0 0) := hz1) | ((with_reducible have hz2 := Blk1.keep ((Blk1.new _ _ _).drew) hb); have hz2 : Blk1 _ _ (Value.slice none 0 0) := hz2; (with_reducible have hz1 := Blk1.keep (((Blk1.new _ _ _).alloc _).drew) hb); have hz1 : Blk1 _ _ (Value.slice none 0 0) := hz1) | ((with_reducible have hz2 := Blk1.keep ((Blk1.new _ _ _).drew) hb); have hz2 : Blk1 _ _ (Value.slice none 0 0) := hz2; (with_reducible have hz1 := Blk1.keep ((((Blk1.new _ _ _).alloc _).alloc _).drew) hb); have hz1 : Blk1 _ _ (Value.slice none 0 0) := hz1) | ((with_reducible have hz2 := Blk1.keep (((Blk1.new _ _ _).alloc _).drew) hb); have hz2 : Blk1 _ _ (Value.slice none 0 0) := hz2; (with_reducible have hz1 := Blk1.keep ((((Blk1.new _ _ _).alloc _).alloc _).drew) hb); have hz1 : Blk1 _ _ (Value.slice none 0 0) := hz1)) | (first | ((with_reducible have hz1 := Blk1.keep (Blk1.new _ _ _) hb); have hz1 : Blk1 _ _ (Value.slice none 0 0) := hz1) | ((with_reducible have hz1 := Blk1.keep ((Blk1.new _ _ _).alloc _) hb); have hz1 : Blk1 _ _ (Value.slice none 0 0) := hz1) | ((with_reducible have hz1 := Blk1.keep (((Blk1.new _ _ _).alloc _).alloc _) hb); have hz1 : Blk1 _ _ (Value.slice none 0 0) := hz1) | ((with_reducible have hz1 := Blk1.keep ((Blk1.new _ _ _).drew) hb); have hz1 : Blk1 _ _ (Value.slice none 0 0) := hz1) | ((with_reducible have hz1 := Blk1.keep (((Blk1.new _ _ _).alloc _).drew) hb); have hz1 : Blk1 _ _ (Value.slice none 0 0) := hz1) | ((with_reducible have hz1 := Blk1.keep ((((Blk1.new _ _ _).alloc _).alloc _).drew) hb); have hz1 : Blk1 _ _ (Value.slice none 0 0) := hz1)) | skip); (try simp only [alloc_size, drew_size] at hz1); (try simp only [alloc_size, drew_size] at hz2); (try (have hzc1 := hz1.cell; have hzf1 := hz1.frozen; have hzo1 := fun o => (hz1.alloc o).cell; have hzp1 := fun o => (hz1.alloc o).frozen)); (try (have hzc2 := hz2.cell; have hzf2 := hz2.frozen; have hzo2 := fun o => (hz2.alloc o).cell; have hzp2 := fun o => (hz2.alloc o).frozen)); (try (have hzl1 := hz1.lt)); (try (have hzq := two_set hz1 hz2 (by first | omega | (simp; done) | (simp; omega)); obtain ⟨hzq1, hzq2, hzq3, hzq4⟩ := hzq)); (try (have hzt := fun t => two_set (Blk1.alloc hz1 (.cells #[Value.slice none 0 0] t)) (Blk1.new _ t (Value.slice none 0 0)) (by first | omega | (simp; done) | (simp; omega)))); go_split_ands; have hBw : Below wk14.heap.size wk14 wa16 := keep_below (by with_reducible assumption) hb; have gw0 : wa16.cell? ⟨q5, 0, none⟩ = some (.slice B1 m1 d1) := keep_cell hb (by with_reducible assumption); have gw1 : wa16.cell? ⟨q5 + 1, 0, none⟩ = some (.slice B2 m2 d2) := keep_cell hb (by with_reducible assumption); have gw2 : wa16.cell? ⟨q5 + 1 + 1, 0, none⟩ = some (.slice B3 m3 d3) := keep_cell hb (by with_reducible assumption); (first | (with_reducible have hw17 := WordsIn.below hw17 hb) | (with_reducible have hw17 := WordsIn.below (WordsIn.below hw17 (up_alloc _ _)) hb) | (with_reducible have hw17 := WordsIn.below (WordsIn.below (WordsIn.below hw17 (up_alloc _ _)) (up_alloc _ _)) hb)))
            | (go_at_call 22; (first | (with_reducible refine (C2.out _ (by first | with_reducible assumption | exact And.left (by with_reducible assumption)) _ _ _ hw18).mono ?_) | (with_reducible refine (C2.out _ (by first | with_reducible assumption | exact And.left (by with_reducible assumption)) _ _ _ (hw18.below (up_alloc _ _))).mono ?_) | (with_reducible refine (C2.out _ (by first | with_reducible assumption | exact And.left (by with_reducible assumption)) _ _ _ ((hw18.below (up_alloc _ _)).below (up_alloc _ _))).mono ?_)); rintro e wa17 ⟨B19, m19, d19, rfl, hw19, hb⟩; (try have hzs2 := hBw.size); (try (have hzl := hz1.lt)); (first | ((first | (with_reducible have hz2 := Blk1.keep hz2 hb) | (with_reducible have hz2 := Blk1.keep (hz2.alloc _) hb) | (with_reducible have hz2 := Blk1.keep ((hz2.alloc _).alloc _) hb) | (with_reducible have hz2 := Blk1.keep (((hz2.alloc _).alloc _).alloc _) hb)); (first | (with_reducible have hz1 := Blk1.keep hz1 hb) | (with_reducible have hz1 := Blk1.keep (hz1.alloc _) hb) | (with_reducible have hz1 := Blk1.keep ((hz1.alloc _).alloc _) hb) | (with_reducible have hz1 := Blk1.keep (((hz1.alloc _).alloc _).alloc _) hb))) | ((first | ((with_reducible have hz2 := Blk1.keep (Blk1.new _ _ _) hb); have hz2 : Blk1 _ _ (Value.slice none 0 0) := hz2) | ((with_reducible have hz2 := Blk1.keep ((Blk1.new _ _ _).alloc _) hb); have hz2 : Blk1 _ _ (Value.slice none 0 0) := hz2) | ((with_reducible have hz2 := Blk1.keep (((Blk1.new _ _ _).alloc _).alloc _) hb); have hz2 : Blk1 _ _ (Value.slice none 0 0) := hz2) | ((with_reducible have hz2 := Blk1.keep ((Blk1.new _ _ _).drew) hb); have hz2 : Blk1 _ _ (Value.slice none 0 0) := hz2) | ((with_reducible have hz2 := Blk1.keep (((Blk1.new _ _ _).alloc _).drew) hb); have hz2 : Blk1 _ _ (Value.slice none 0 0) := hz2) | ((with_reducible have hz2 := Blk1.keep ((((Blk1.new _ _ _).alloc _).alloc _).drew) hb); have hz2 : Blk1 _ _ (Value.slice none 0 0) := hz2)); (first | (with_reducible have hz1 := Blk1.keep hz1 hb) | (with_reducible have hz1 := Blk1.keep (hz1.alloc _) hb) | (with_reducible have hz1 := Blk1.keep ((hz1.alloc _).alloc _) hb) | (with_reducible have hz1 := Blk1.keep (((hz1.alloc _).alloc _).alloc _) hb))) | (first | (with_reducible have hz1 := Blk1.keep hz1 hb) | (with_reducible have hz1 := Blk1.keep (hz1.alloc _) hb) | (with_reducible have hz1 := Blk1.keep ((hz1.alloc _).alloc _) hb) | (with_reducible have hz1 := Blk1.keep (((hz1.alloc _).alloc _).alloc _) hb)) | (first | ((with_reducible have hz2 := Blk1.keep (Blk1.new _ _ _) hb); have hz2 : Blk1 _ _ (Value.slice none 0 0) := hz2; (with_reducible have hz1 := Blk1.keep ((Blk1.new _ _ _).alloc _) hb); have hz1 : Blk1 _ _ (Value.slice none 0 0) := hz1) | ((with_reducible have hz2 := Blk1.keep (Blk1.new _ _ _) hb); have hz2 : Blk1 _ _ (Value.slice none 0 0) := hz2; (with_reducible have hz1 := Blk1.keep (((Blk1.new _ _ _).alloc _).alloc _) hb); have hz1 : Blk1 _ _ (Value.slice none 0 0) := hz1) | ((with_reducible have hz2 := Blk1.keep ((Blk1.new _ _ _).alloc _) hb); have hz2 : Blk1 _ _ (Value.slice none 0 0) := hz2; (with_reducible have hz1 := Blk1.keep (((Blk1.new _ _ _).alloc _).alloc _) hb); have hz1 : Blk1 _ _ (Value.slice none 0 0) := hz1) | ((with_reducible have hz2 := Blk1.keep ((Blk1.new _ _ _).drew) hb); have hz2 : Blk1 _ _ (Value.slice none 0 0) := hz2; (with_reducible have hz1 := Blk1.keep (((Blk1.new _ _ _).alloc _).drew) hb); have hz1 : Blk1 _ _ (Value.slice none 0 0) := hz1) | ((with_reducible have hz2 := Blk1.keep ((Blk1.new _ _ _).drew) hb); have hz2 : Blk1 _ _ (Value.slice none 0 0) := hz2; (with_reducible have hz1 := Blk1.keep ((((Blk1.new _ _ _).alloc _).alloc _).drew) hb); have hz1 : Blk1 _ _ (Value.slice none 0 0) := hz1) | ((with_reducible have hz2 := Blk1.keep (((Blk1.new _ _ _).alloc _).drew) hb); have hz2 : Blk1 _ _ (Value.slice none 0 0) := hz2; (with_reducible have hz1 := Blk1.keep ((((Blk1.new _ _ _).alloc _).alloc _).drew) hb); have hz1 : Blk1 _ _ (Value.slice none 0 0) := hz1)) | (first | ((with_reducible have hz1 := Blk1.keep (Blk1.new _ _ _) hb); have hz1 : Blk1 _ _ (Value.slice none 0 0) := hz1) | ((with_reducible have hz1 := Blk1.keep ((Blk1.new _ _ _).alloc _) hb); have hz1 : Blk1 _ _ (Value.slice none 0 0) := hz1) | ((with_reducible have hz1 := Blk1.keep (((Blk1.new _ _ _).alloc _).alloc _) hb); have hz1 : Blk1 _ _ (Value.slice none 0 0) := hz1) | ((with_reducible have hz1 := Blk1.keep ((Blk1.new _ _ _).drew) hb); have hz1 : Blk1 _ _ (Value.slice none 0 0) := hz1) | ((with_reducible have hz1 := Blk1.keep (((Blk1.new _ _ _).alloc _).drew) hb); have hz1 : Blk1 _ _ (Value.slice none 0 0) := hz1) | ((with_reducible have hz1 := Blk1.keep ((((Blk1.new _ _ _).alloc _).alloc _).drew) hb); have hz1 : Blk1 _ _ (Value.slice none 0 0) := hz1)) | skip); (try simp only [alloc_size, drew_size] at hz1); (try simp only [alloc_size, drew_size] at hz2); (try (have hzc1 := hz1.cell; have hzf1 := hz1.frozen; have hzo1 := fun o => (hz1.alloc o).cell; have hzp1 := fun o => (hz1.alloc o).frozen)); (try (have hzc2 := hz2.cell; have hzf2 := hz2.frozen; have hzo2 := fun o => (hz2.alloc o).cell; have hzp2 := fun o => (hz2.alloc o).frozen)); (try (have hzl1 := hz1.lt)); (try (have hzq := two_set hz1 hz2 (by first | omega | (simp; done) | (simp; omega)); obtain ⟨hzq1, hzq2, hzq3, hzq4⟩ := hzq)); (try (have hzt := fun t => two_set (Blk1.alloc hz1 (.cells #[Value.slice none 0 0] t)) (Blk1.new _ t (Value.slice none 0 0)) (by first | omega | (simp; done) | (simp; omega)))); go_split_ands; have hBw : Below wk14.heap.size wk14 wa17 := keep_below (by with_reducible assumption) hb; have gw0 : wa17.cell? ⟨q5, 0, none⟩ = some (.slice B1 m1 d1) := keep_cell hb (by with_reducible assumption); have gw1 : wa17.cell? ⟨q5 + 1, 0, none⟩ = some (.slice B2 m2 d2) := keep_cell hb (by with_reducible assumption); have gw2 : wa17.cell? ⟨q5 + 1 + 1, 0, none⟩ = some (.slice B3 m3 d3) := keep_cell hb (by with_reducible assumption); (first | (with_reducible have hw17 := WordsIn.below hw17 hb) | (with_reducible have hw17 := WordsIn.below (WordsIn.below hw17 (up_alloc _ _)) hb) | (with_reducible have hw17 := WordsIn.below (WordsIn.below (WordsIn.below hw17 (up_alloc _ _)) (up_alloc _ _)) hb)); (first | (with_reducible have hw18 := WordsIn.below hw18 hb) | (with_reducible have hw18 := WordsIn.below (WordsIn.below hw18 (up_alloc _ _)) hb) | (with_reducible have hw18 := WordsIn.below (WordsIn.below (WordsIn.below hw18 (up_alloc _ _)) (up_alloc _ _)) hb))))
        all_goals (go_wp2_with fail; go_meet)
        all_goals (
          (with_reducible refine ⟨_, B19, m19, d19, rfl, rfl, (Blk1.cell ?_), ?_, ?_⟩)
          · ((repeat (first | (first | with_reducible exact hz1 | with_reducible exact hz2 | with_reducible exact Blk1.new _ _ _ | with_reducible refine Blk1.newAt (by first | rfl | (simp; done))) | with_reducible refine Blk1.set_ (v := .slice none 0 0) ?_ _ | with_reducible refine Blk1.far ?_ (by first | (simp; done) | (simp; omega)) _ | with_reducible refine Blk1.alloc ?_ _)))
          · (repeat (first | (first | with_reducible exact hw19) | with_reducible refine WordsIn.below ?_ (up_alloc _ _) | with_reducible refine words_set_blk1 (a := none) (b := 0) (d := 0) ?_ (by ((repeat (first | (first | with_reducible exact hz1 | with_reducible exact hz2 | with_reducible exact Blk1.new _ _ _ | with_reducible refine Blk1.newAt (by first | rfl | (simp; done))) | with_reducible refine Blk1.set_ (v := .slice none 0 0) ?_ _ | with_reducible refine Blk1.far ?_ (by first | (simp; done) | (simp; omega)) _ | with_reducible refine Blk1.alloc ?_ _)))) _))
          · (repeat (first | with_reducible exact hBw | with_reducible refine keep_below_alloc _ ?_ | with_reducible refine keep_below_set _ (by first | (simp; done) | (simp; omega)) ?_)))
      case rest =>
        obtain ⟨ga20, B19, m19, d19, rfl, rfl, gc0, hw19, hb⟩ := hcut
        obtain ⟨wk18, hwq⟩ : ∃ x, x = wc := ⟨_, rfl⟩
        subst hwq
        have hB := keep_below hB hb
        have HN1 := Lib.hid (HN1.out.below hb)
        have HN2 := Lib.hid (HN2.out.below hb)
        have HN3 := Lib.hid (HN3.out.below hb)
        have g4 := keep_cell hb g4
        have g5 := keep_cell hb g5
        have g6 := keep_cell hb g6
        have g11 := keep_cell hb g11
        have g12 := keep_cell hb g12
        have HN9 := Lib.hid (HN9.out.below hb)
        have HN10 := Lib.hid (HN10.out.below hb)
        have g16 := keep_cell hb g16
        have HN15 := Lib.hid (HN15.out.below hb)
        have g20 := gc0
        have HN19 := Lib.hid hw19
        clear hb gc0 hw19
        go_wp2_with fail
        refine (cmpEq (x := ((x * y) + z) / y) (y := x) (made_q Hha.out) HN9.out HN1.out (by have := Sz.words HZ9.out HN9.out; omega) (by have := Sz.words HZ1.out HN1.out; omega)).mono ?_
        rintro e wc19 ⟨rfl, hb⟩
        have hB := keep_below hB hb
        have HN1 := Lib.hid (HN1.out.below hb)
        have HN2 := Lib.hid (HN2.out.below hb)
        have HN3 := Lib.hid (HN3.out.below hb)
        have g4 := keep_cell hb g4
        have g5 := keep_cell hb g5
        have g6 := keep_cell hb g6
        have g11 := keep_cell hb g11
        have g12 := keep_cell hb g12
        have HN9 := Lib.hid (HN9.out.below hb)
        have HN10 := Lib.hid (HN10.out.below hb)
        have g16 := keep_cell hb g16
        have HN15 := Lib.hid (HN15.out.below hb)
        have g20 := keep_cell hb g20
        have HN19 := Lib.hid (HN19.out.below hb)
        clear hb 
        go_wp2_with fail
        refine (cmpEq (x := ((x * y) + z) % y) (y := z) (made_r Hha.out) HN10.out HN3.out (by have := Sz.words HZ10.out HN10.out; omega) (by have := Sz.words HZ3.out HN3.out; omega)).mono ?_
        rintro e wc20 ⟨rfl, hb⟩
        have hB := keep_below hB hb
        have HN1 := Lib.hid (HN1.out.below hb)
        have HN2 := Lib.hid (HN2.out.below hb)
        have HN3 := Lib.hid (HN3.out.below hb)
        have g4 := keep_cell hb g4
        have g5 := keep_cell hb g5
        have g6 := keep_cell hb g6
        have g11 := keep_cell hb g11
        have g12 := keep_cell hb g12
        have HN9 := Lib.hid (HN9.out.below hb)
        have HN10 := Lib.hid (HN10.out.below hb)
        have g16 := keep_cell hb g16
        have HN15 := Lib.hid (HN15.out.below hb)
        have g20 := keep_cell hb g20
        have HN19 := Lib.hid (HN19.out.below hb)
        clear hb 
        go_wp2_with fail
        refine (cmpEq (x := ((x * y) + z) / y) (y := x) (made_q Hha.out) HN15.out HN1.out (by have := Sz.words HZ15.out HN15.out; omega) (by have := Sz.words HZ1.out HN1.out; omega)).mono ?_
        rintro e wc21 ⟨rfl, hb⟩
        have hB := keep_below hB hb
        have HN1 := Lib.hid (HN1.out.below hb)
        have HN2 := Lib.hid (HN2.out.below hb)
        have HN3 := Lib.hid (HN3.out.below hb)
        have g4 := keep_cell hb g4
        have g5 := keep_cell hb g5
        have g6 := keep_cell hb g6
        have g11 := keep_cell hb g11
        have g12 := keep_cell hb g12
        have HN9 := Lib.hid (HN9.out.below hb)
        have HN10 := Lib.hid (HN10.out.below hb)
        have g16 := keep_cell hb g16
        have HN15 := Lib.hid (HN15.out.below hb)
        have g20 := keep_cell hb g20
        have HN19 := Lib.hid (HN19.out.below hb)
        clear hb 
        go_wp2_with fail
        refine (cmpEq (x := ((x * y) + z) % y) (y := z) (made_r Hha.out) HN19.out HN3.out (by have := Sz.words HZ19.out HN19.out; omega) (by have := Sz.words HZ3.out HN3.out; omega)).mono ?_
        rintro e wc22 ⟨rfl, hb⟩
        have hB := keep_below hB hb
        have HN1 := Lib.hid (HN1.out.below hb)
        have HN2 := Lib.hid (HN2.out.below hb)
        have HN3 := Lib.hid (HN3.out.below hb)
        have g4 := keep_cell hb g4
        have g5 := keep_cell hb g5
        have g6 := keep_cell hb g6
        have g11 := keep_cell hb g11
        have g12 := keep_cell hb g12
        have HN9 := Lib.hid (HN9.out.below hb)
        have HN10 := Lib.hid (HN10.out.below hb)
        have g16 := keep_cell hb g16
        have HN15 := Lib.hid (HN15.out.below hb)
        have g20 := keep_cell hb g20
        have HN19 := Lib.hid (HN19.out.below hb)
        clear hb 
        go_wp2
        go_ret
        exact ⟨by first | rfl | simp, hB⟩
theorem quotMade_walk (QC : QuotC) (A0 : Option Addr) (n0 c0 : Nat) (l0 : List Nat) (A1 : Option Addr) (n1 c1 : Nat) (l1 : List Nat) (A2 : Option Addr) (n2 c2 : Nat) (l2 : List Nat) (w : World) (h0 : ArgWords w A0 n0 c0 l0) (h1 : ArgWords w A1 n1 c1 l1) (h2 : ArgWords w A2 n2 c2 l2) :
    Calls Try.prog 5 #[.slice A0 n0 c0, .slice A1 n1 c1, .slice A2 n2 c2] w fun e w' => e = .returned (.bool true) ∧ Below w.heap.size w w' := by
  rcases Nat.lt_trichotomy (dv 18446744073709551616 l2) (dv 18446744073709551616 l1) with ca | ca | ca
  · exact quotMade_lt QC A0 n0 c0 l0 A1 n1 c1 l1 A2 n2 c2 l2 w h0 h1 h2 ca
  · exact quotMade_eq QC A0 n0 c0 l0 A1 n1 c1 l1 A2 n2 c2 l2 w h0 h1 h2 ca
  · exact quotMade_gt QC A0 n0 c0 l0 A1 n1 c1 l1 A2 n2 c2 l2 w h0 h1 h2 ca
end Go.Proofs.Ytaemlkoklaoglaa
