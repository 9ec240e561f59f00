/-
  The walk of the law GcdLcm. Conditions: the words that came in are words, at most 1048576 of each; quot's and gcd's functions do as QuotC and GcdC say.
-/
import Derived.Test.YtplgbokgfphjaaaDoorRows
import Derived.Test.YtplgbokgfphjaaaDoorNNums
import Derived.Test.YtplgbokgfphjaaaDoorW5Awake
import Derived.Test.YtplgbokgfphjaaaDoorPMul
import Derived.Test.YtplgbokgfphjaaaDoorNAdd
import Derived.WalkKit
import Derived.Lib.Hide
import Derived.Outline
import Derived.Deep.RegionHeld3
import Derived.IntWalk
import Derived.Deep.DeepCutAuto
import Derived.Deep.CutBlock
namespace Go.Proofs.YtplgbokgfphjaaaDoor
open Go Go.RowKit
set_option maxRecDepth 100000
set_option linter.unusedVariables false
set_option linter.unusedSimpArgs false
set_option maxHeartbeats 16000000 in
theorem gcdLcm_x (QC : QuotC) (GC : GcdC) (A0 : Option Addr) (n0 c0 : Nat) (l0 : List Nat) (A1 : Option Addr) (n1 c1 : Nat) (l1 : List Nat) (w : World) (h0 : ArgWords w A0 n0 c0 l0) (h1 : ArgWords w A1 n1 c1 l1) (hT : TabAt w) (ha : (dv 18446744073709551616 l0) = 0) :
    Calls Tryd.prog 6 #[.slice A0 n0 c0, .slice A1 n1 c1] w fun e w' => e = .returned (.bool true) ∧ Below w.heap.size w w' := by
  have HQC := Lib.hid QC
  have HGC := Lib.hid GC
  have HTB := Lib.hid (fun w' (h : Below w.heap.size w w') => hT.on h)
  obtain ⟨K, hK⟩ : ∃ K, 1048576 = K := ⟨_, rfl⟩
  have O0 := arg_of h0
  have S0 := arg_sz h0
  have O1 := arg_of h1
  have S1 := arg_sz h1
  rw [hK] at S0 S1
  have hK2 : K ≤ 1048576 := by omega
  obtain ⟨x, hx0⟩ : ∃ v, dv 18446744073709551616 l0 = v := ⟨_, rfl⟩
  rw [hx0] at O0 S0
  have HO0 := Lib.hid O0
  have HS0 := Lib.hid S0
  obtain ⟨y, hx1⟩ : ∃ v, dv 18446744073709551616 l1 = v := ⟨_, rfl⟩
  rw [hx1] at O1 S1
  have HO1 := Lib.hid O1
  have HS1 := Lib.hid S1
  rw [hx0] at ha
  have Hha := Lib.hid ha
  clear hT QC GC hK O0 S0 h0 hx0 O1 S1 h1 hx1 ha
  go_enter Tryd.func6, Tryd.ntmps6
  have hB := Below.refl w.heap.size w
  go_wp2_with fail
  (with_reducible refine (law5_awake HGC.out _ (HTB.out _ hB)).mono ?_)
  rintro e wc1 ⟨rfl, hb⟩
  have hB := keep_below hB hb
  clear hb 
  go_wp2_with fail
  have HZ1 : Hid (Sz (K) (x)) := HS0.out
  (with_reducible refine (HO0.out _ hB).mono ?_)
  rintro e wc2 ⟨B1, m1, d1, rfl, hw1, hb, _⟩
  have hB := keep_below hB hb
  have HN1 := Lib.hid hw1
  clear hb hw1
  go_wp2_with fail
  have HZ2 : Hid (Sz (K) (y)) := HS1.out
  (with_reducible refine (HO1.out _ hB).mono ?_)
  rintro e wc3 ⟨B2, m2, d2, rfl, hw2, hb, _⟩
  have hB := keep_below hB hb
  have HN1 := Lib.hid (HN1.out.below hb)
  have HN2 := Lib.hid hw2
  clear hb hw2
  have gm3_2 : ((wc3.alloc (.cells #[.slice B1 m1 d1] 29)).alloc (.cells #[.slice B2 m2 d2] 29)).cell? ⟨wc3.heap.size, 0, none⟩ = some (.slice B1 m1 d1) := by
    obtain ⟨c1, c2, c3, _⟩ := box2 wc3 29 29 #[.slice B1 m1 d1] #[.slice B2 m2 d2]
    exact c2.cell 0
  have gm4_2 : ((wc3.alloc (.cells #[.slice B1 m1 d1] 29)).alloc (.cells #[.slice B2 m2 d2] 29)).cell? ⟨wc3.heap.size + 1, 0, none⟩ = some (.slice B2 m2 d2) := by
    obtain ⟨c1, c2, c3, _⟩ := box2 wc3 29 29 #[.slice B1 m1 d1] #[.slice B2 m2 d2]
    exact c3.cell 0
  obtain ⟨b1, b2, b3, bz⟩ := box2 wc3 29 29 #[.slice B1 m1 d1] #[.slice B2 m2 d2]
  have hB := keep_below hB b1
  have HN1 := Lib.hid (HN1.out.below b1)
  have HN2 := Lib.hid (HN2.out.below b1)
  have g3 : ((wc3.alloc (.cells #[.slice B1 m1 d1] 29)).alloc (.cells #[.slice B2 m2 d2] 29)).cell? ⟨wc3.heap.size, 0, none⟩ = some (.slice B1 m1 d1) := b2.cell 0
  have g4 : ((wc3.alloc (.cells #[.slice B1 m1 d1] 29)).alloc (.cells #[.slice B2 m2 d2] 29)).cell? ⟨wc3.heap.size + 1, 0, none⟩ = some (.slice B2 m2 d2) := b3.cell 0
  clear b1 b2 b3 bz
  go_wp2_with fail
  clear gm3_2 gm4_2
  generalize (wc3.alloc (.cells #[.slice B1 m1 d1] 29)).alloc (.cells #[.slice B2 m2 d2] 29) = W4 at *
  generalize wc3.heap.size = q4 at *
  have HZ5 : Hid (Sz (K + K) (Nat.lcm x y)) := Sz.lcm HZ1.out HZ2.out
  (with_reducible refine (HGC.out.lcm (x) (y) B1 B2 m1 m2 d1 d2 _ HN1.out HN2.out (by have := Sz.words HZ1.out HN1.out; omega) (by have := Sz.words HZ2.out HN2.out; omega) (HTB.out _ hB)).mono ?_)
  rintro e wc5 ⟨B5, m5, d5, rfl, hw5, hb⟩
  have hB := keep_below hB hb
  have HN1 := Lib.hid (HN1.out.below hb)
  have HN2 := Lib.hid (HN2.out.below hb)
  have g3 := keep_cell hb g3
  have g4 := keep_cell hb g4
  have HN5 := Lib.hid hw5
  clear hb hw5
  have gm3_1 : (wc5.alloc (.cells #[.slice B5 m5 d5] 29)).cell? ⟨q4, 0, none⟩ = some (.slice B1 m1 d1) := keep_cell_alloc _ (g3)
  obtain ⟨b1, b2, bz⟩ := box1 wc5 29 #[.slice B5 m5 d5]
  have hB := keep_below hB b1
  have HN1 := Lib.hid (HN1.out.below b1)
  have HN2 := Lib.hid (HN2.out.below b1)
  have g3 := keep_cell b1 g3
  have g4 := keep_cell b1 g4
  have HN5 := Lib.hid (HN5.out.below b1)
  have g6 : (wc5.alloc (.cells #[.slice B5 m5 d5] 29)).cell? ⟨wc5.heap.size, 0, none⟩ = some (.slice B5 m5 d5) := b2.cell 0
  clear b1 b2 bz
  go_wp2_with fail
  clear gm3_1
  generalize wc5.alloc (.cells #[.slice B5 m5 d5] 29) = W6 at *
  generalize wc5.heap.size = q6 at *
  (with_reducible refine (zero_yes Hha.out HN1.out).mono ?_)
  rintro e wc7 ⟨rfl, hb⟩
  have hB := keep_below hB hb
  have HN1 := Lib.hid (HN1.out.below hb)
  have HN2 := Lib.hid (HN2.out.below hb)
  have g3 := keep_cell hb g3
  have g4 := keep_cell hb g4
  have HN5 := Lib.hid (HN5.out.below hb)
  have g6 := keep_cell hb g6
  clear hb 
  go_wp2_with fail
  (with_reducible refine (zero_yes (by rw [Hha.out, Nat.lcm_zero_left]) HN5.out).mono ?_)
  rintro e wc8 ⟨rfl, hb⟩
  have hB := keep_below hB hb
  have HN1 := Lib.hid (HN1.out.below hb)
  have HN2 := Lib.hid (HN2.out.below hb)
  have g3 := keep_cell hb g3
  have g4 := keep_cell hb g4
  have HN5 := Lib.hid (HN5.out.below hb)
  have g6 := keep_cell hb g6
  clear hb 
  go_wp2
  go_ret
  exact ⟨by first | rfl | simp, hB⟩
set_option maxHeartbeats 16000000 in
theorem gcdLcm_y (QC : QuotC) (GC : GcdC) (A0 : Option Addr) (n0 c0 : Nat) (l0 : List Nat) (A1 : Option Addr) (n1 c1 : Nat) (l1 : List Nat) (w : World) (h0 : ArgWords w A0 n0 c0 l0) (h1 : ArgWords w A1 n1 c1 l1) (hT : TabAt w) (ha : (dv 18446744073709551616 l0) ≠ 0) (hb : (dv 18446744073709551616 l1) = 0) :
    Calls Tryd.prog 6 #[.slice A0 n0 c0, .slice A1 n1 c1] w fun e w' => e = .returned (.bool true) ∧ Below w.heap.size w w' := by
  have HQC := Lib.hid QC
  have HGC := Lib.hid GC
  have HTB := Lib.hid (fun w' (h : Below w.heap.size w w') => hT.on h)
  obtain ⟨K, hK⟩ : ∃ K, 1048576 = K := ⟨_, rfl⟩
  have O0 := arg_of h0
  have S0 := arg_sz h0
  have O1 := arg_of h1
  have S1 := arg_sz h1
  rw [hK] at S0 S1
  have hK2 : K ≤ 1048576 := by omega
  obtain ⟨x, hx0⟩ : ∃ v, dv 18446744073709551616 l0 = v := ⟨_, rfl⟩
  rw [hx0] at O0 S0
  have HO0 := Lib.hid O0
  have HS0 := Lib.hid S0
  obtain ⟨y, hx1⟩ : ∃ v, dv 18446744073709551616 l1 = v := ⟨_, rfl⟩
  rw [hx1] at O1 S1
  have HO1 := Lib.hid O1
  have HS1 := Lib.hid S1
  rw [hx0] at ha
  have Hha := Lib.hid ha
  rw [hx1] at hb
  have Hhb := Lib.hid hb
  clear hT QC GC hK O0 S0 h0 hx0 O1 S1 h1 hx1 ha hb
  go_enter Tryd.func6, Tryd.ntmps6
  have hB := Below.refl w.heap.size w
  go_wp2_with fail
  (with_reducible refine (law5_awake HGC.out _ (HTB.out _ hB)).mono ?_)
  rintro e wc1 ⟨rfl, hb⟩
  have hB := keep_below hB hb
  clear hb 
  go_wp2_with fail
  have HZ1 : Hid (Sz (K) (x)) := HS0.out
  (with_reducible refine (HO0.out _ hB).mono ?_)
  rintro e wc2 ⟨B1, m1, d1, rfl, hw1, hb, _⟩
  have hB := keep_below hB hb
  have HN1 := Lib.hid hw1
  clear hb hw1
  go_wp2_with fail
  have HZ2 : Hid (Sz (K) (y)) := HS1.out
  (with_reducible refine (HO1.out _ hB).mono ?_)
  rintro e wc3 ⟨B2, m2, d2, rfl, hw2, hb, _⟩
  have hB := keep_below hB hb
  have HN1 := Lib.hid (HN1.out.below hb)
  have HN2 := Lib.hid hw2
  clear hb hw2
  have gm3_2 : ((wc3.alloc (.cells #[.slice B1 m1 d1] 29)).alloc (.cells #[.slice B2 m2 d2] 29)).cell? ⟨wc3.heap.size, 0, none⟩ = some (.slice B1 m1 d1) := by
    obtain ⟨c1, c2, c3, _⟩ := box2 wc3 29 29 #[.slice B1 m1 d1] #[.slice B2 m2 d2]
    exact c2.cell 0
  have gm4_2 : ((wc3.alloc (.cells #[.slice B1 m1 d1] 29)).alloc (.cells #[.slice B2 m2 d2] 29)).cell? ⟨wc3.heap.size + 1, 0, none⟩ = some (.slice B2 m2 d2) := by
    obtain ⟨c1, c2, c3, _⟩ := box2 wc3 29 29 #[.slice B1 m1 d1] #[.slice B2 m2 d2]
    exact c3.cell 0
  obtain ⟨b1, b2, b3, bz⟩ := box2 wc3 29 29 #[.slice B1 m1 d1] #[.slice B2 m2 d2]
  have hB := keep_below hB b1
  have HN1 := Lib.hid (HN1.out.below b1)
  have HN2 := Lib.hid (HN2.out.below b1)
  have g3 : ((wc3.alloc (.cells #[.slice B1 m1 d1] 29)).alloc (.cells #[.slice B2 m2 d2] 29)).cell? ⟨wc3.heap.size, 0, none⟩ = some (.slice B1 m1 d1) := b2.cell 0
  have g4 : ((wc3.alloc (.cells #[.slice B1 m1 d1] 29)).alloc (.cells #[.slice B2 m2 d2] 29)).cell? ⟨wc3.heap.size + 1, 0, none⟩ = some (.slice B2 m2 d2) := b3.cell 0
  clear b1 b2 b3 bz
  go_wp2_with fail
  clear gm3_2 gm4_2
  generalize (wc3.alloc (.cells #[.slice B1 m1 d1] 29)).alloc (.cells #[.slice B2 m2 d2] 29) = W4 at *
  generalize wc3.heap.size = q4 at *
  have HZ5 : Hid (Sz (K + K) (Nat.lcm x y)) := Sz.lcm HZ1.out HZ2.out
  (with_reducible refine (HGC.out.lcm (x) (y) B1 B2 m1 m2 d1 d2 _ HN1.out HN2.out (by have := Sz.words HZ1.out HN1.out; omega) (by have := Sz.words HZ2.out HN2.out; omega) (HTB.out _ hB)).mono ?_)
  rintro e wc5 ⟨B5, m5, d5, rfl, hw5, hb⟩
  have hB := keep_below hB hb
  have HN1 := Lib.hid (HN1.out.below hb)
  have HN2 := Lib.hid (HN2.out.below hb)
  have g3 := keep_cell hb g3
  have g4 := keep_cell hb g4
  have HN5 := Lib.hid hw5
  clear hb hw5
  have gm3_1 : (wc5.alloc (.cells #[.slice B5 m5 d5] 29)).cell? ⟨q4, 0, none⟩ = some (.slice B1 m1 d1) := keep_cell_alloc _ (g3)
  obtain ⟨b1, b2, bz⟩ := box1 wc5 29 #[.slice B5 m5 d5]
  have hB := keep_below hB b1
  have HN1 := Lib.hid (HN1.out.below b1)
  have HN2 := Lib.hid (HN2.out.below b1)
  have g3 := keep_cell b1 g3
  have g4 := keep_cell b1 g4
  have HN5 := Lib.hid (HN5.out.below b1)
  have g6 : (wc5.alloc (.cells #[.slice B5 m5 d5] 29)).cell? ⟨wc5.heap.size, 0, none⟩ = some (.slice B5 m5 d5) := b2.cell 0
  clear b1 b2 bz
  go_wp2_with fail
  clear gm3_1
  generalize wc5.alloc (.cells #[.slice B5 m5 d5] 29) = W6 at *
  generalize wc5.heap.size = q6 at *
  (with_reducible refine (zero_no Hha.out HN1.out).mono ?_)
  rintro e wc7 ⟨rfl, hb⟩
  have hB := keep_below hB hb
  have HN1 := Lib.hid (HN1.out.below hb)
  have HN2 := Lib.hid (HN2.out.below hb)
  have g3 := keep_cell hb g3
  have g4 := keep_cell hb g4
  have HN5 := Lib.hid (HN5.out.below hb)
  have g6 := keep_cell hb g6
  clear hb 
  go_wp2_with fail
  (with_reducible refine (zero_yes Hhb.out HN2.out).mono ?_)
  rintro e wc8 ⟨rfl, hb⟩
  have hB := keep_below hB hb
  have HN1 := Lib.hid (HN1.out.below hb)
  have HN2 := Lib.hid (HN2.out.below hb)
  have g3 := keep_cell hb g3
  have g4 := keep_cell hb g4
  have HN5 := Lib.hid (HN5.out.below hb)
  have g6 := keep_cell hb g6
  clear hb 
  go_wp2_with fail
  (with_reducible refine (zero_yes (by rw [Hhb.out, Nat.lcm_zero_right]) HN5.out).mono ?_)
  rintro e wc9 ⟨rfl, hb⟩
  have hB := keep_below hB hb
  have HN1 := Lib.hid (HN1.out.below hb)
  have HN2 := Lib.hid (HN2.out.below hb)
  have g3 := keep_cell hb g3
  have g4 := keep_cell hb g4
  have HN5 := Lib.hid (HN5.out.below hb)
  have g6 := keep_cell hb g6
  clear hb 
  go_wp2
  go_ret
  exact ⟨by first | rfl | simp, hB⟩
set_option maxHeartbeats 16000000 in
theorem gcdLcm_yes (QC : QuotC) (GC : GcdC) (A0 : Option Addr) (n0 c0 : Nat) (l0 : List Nat) (A1 : Option Addr) (n1 c1 : Nat) (l1 : List Nat) (w : World) (h0 : ArgWords w A0 n0 c0 l0) (h1 : ArgWords w A1 n1 c1 l1) (hT : TabAt w) (ha : (dv 18446744073709551616 l0) ≠ 0) (hb : (dv 18446744073709551616 l1) ≠ 0) :
    Calls Tryd.prog 6 #[.slice A0 n0 c0, .slice A1 n1 c1] w fun e w' => e = .returned (.bool true) ∧ Below w.heap.size w w' := by
  have HQC := Lib.hid QC
  have HGC := Lib.hid GC
  have HTB := Lib.hid (fun w' (h : Below w.heap.size w w') => hT.on h)
  obtain ⟨K, hK⟩ : ∃ K, 1048576 = K := ⟨_, rfl⟩
  have O0 := arg_of h0
  have S0 := arg_sz h0
  have O1 := arg_of h1
  have S1 := arg_sz h1
  rw [hK] at S0 S1
  have hK2 : K ≤ 1048576 := by omega
  obtain ⟨x, hx0⟩ : ∃ v, dv 18446744073709551616 l0 = v := ⟨_, rfl⟩
  rw [hx0] at O0 S0
  have HO0 := Lib.hid O0
  have HS0 := Lib.hid S0
  obtain ⟨y, hx1⟩ : ∃ v, dv 18446744073709551616 l1 = v := ⟨_, rfl⟩
  rw [hx1] at O1 S1
  have HO1 := Lib.hid O1
  have HS1 := Lib.hid S1
  rw [hx0] at ha
  have Hha := Lib.hid ha
  rw [hx1] at hb
  have Hhb := Lib.hid hb
  clear hT QC GC hK O0 S0 h0 hx0 O1 S1 h1 hx1 ha hb
  go_enter Tryd.func6, Tryd.ntmps6
  have hB := Below.refl w.heap.size w
  go_wp2_with fail
  (with_reducible refine (law5_awake HGC.out _ (HTB.out _ hB)).mono ?_)
  rintro e wc1 ⟨rfl, hb⟩
  have hB := keep_below hB hb
  clear hb 
  go_wp2_with fail
  have HZ1 : Hid (Sz (K) (x)) := HS0.out
  (with_reducible refine (HO0.out _ hB).mono ?_)
  rintro e wc2 ⟨B1, m1, d1, rfl, hw1, hb, _⟩
  have hB := keep_below hB hb
  have HN1 := Lib.hid hw1
  clear hb hw1
  go_wp2_with fail
  have HZ2 : Hid (Sz (K) (y)) := HS1.out
  (with_reducible refine (HO1.out _ hB).mono ?_)
  rintro e wc3 ⟨B2, m2, d2, rfl, hw2, hb, _⟩
  have hB := keep_below hB hb
  have HN1 := Lib.hid (HN1.out.below hb)
  have HN2 := Lib.hid hw2
  clear hb hw2
  have gm3_2 : ((wc3.alloc (.cells #[.slice B1 m1 d1] 29)).alloc (.cells #[.slice B2 m2 d2] 29)).cell? ⟨wc3.heap.size, 0, none⟩ = some (.slice B1 m1 d1) := by
    obtain ⟨c1, c2, c3, _⟩ := box2 wc3 29 29 #[.slice B1 m1 d1] #[.slice B2 m2 d2]
    exact c2.cell 0
  have gm4_2 : ((wc3.alloc (.cells #[.slice B1 m1 d1] 29)).alloc (.cells #[.slice B2 m2 d2] 29)).cell? ⟨wc3.heap.size + 1, 0, none⟩ = some (.slice B2 m2 d2) := by
    obtain ⟨c1, c2, c3, _⟩ := box2 wc3 29 29 #[.slice B1 m1 d1] #[.slice B2 m2 d2]
    exact c3.cell 0
  obtain ⟨b1, b2, b3, bz⟩ := box2 wc3 29 29 #[.slice B1 m1 d1] #[.slice B2 m2 d2]
  have hB := keep_below hB b1
  have HN1 := Lib.hid (HN1.out.below b1)
  have HN2 := Lib.hid (HN2.out.below b1)
  have g3 : ((wc3.alloc (.cells #[.slice B1 m1 d1] 29)).alloc (.cells #[.slice B2 m2 d2] 29)).cell? ⟨wc3.heap.size, 0, none⟩ = some (.slice B1 m1 d1) := b2.cell 0
  have g4 : ((wc3.alloc (.cells #[.slice B1 m1 d1] 29)).alloc (.cells #[.slice B2 m2 d2] 29)).cell? ⟨wc3.heap.size + 1, 0, none⟩ = some (.slice B2 m2 d2) := b3.cell 0
  clear b1 b2 b3 bz
  go_wp2_with fail
  clear gm3_2 gm4_2
  generalize (wc3.alloc (.cells #[.slice B1 m1 d1] 29)).alloc (.cells #[.slice B2 m2 d2] 29) = W4 at *
  generalize wc3.heap.size = q4 at *
  have HZ5 : Hid (Sz (K + K) (Nat.lcm x y)) := Sz.lcm HZ1.out HZ2.out
  (with_reducible refine (HGC.out.lcm (x) (y) B1 B2 m1 m2 d1 d2 _ HN1.out HN2.out (by have := Sz.words HZ1.out HN1.out; omega) (by have := Sz.words HZ2.out HN2.out; omega) (HTB.out _ hB)).mono ?_)
  rintro e wc5 ⟨B5, m5, d5, rfl, hw5, hb⟩
  have hB := keep_below hB hb
  have HN1 := Lib.hid (HN1.out.below hb)
  have HN2 := Lib.hid (HN2.out.below hb)
  have g3 := keep_cell hb g3
  have g4 := keep_cell hb g4
  have HN5 := Lib.hid hw5
  clear hb hw5
  have gm3_1 : (wc5.alloc (.cells #[.slice B5 m5 d5] 29)).cell? ⟨q4, 0, none⟩ = some (.slice B1 m1 d1) := keep_cell_alloc _ (g3)
  obtain ⟨b1, b2, bz⟩ := box1 wc5 29 #[.slice B5 m5 d5]
  have hB := keep_below hB b1
  have HN1 := Lib.hid (HN1.out.below b1)
  have HN2 := Lib.hid (HN2.out.below b1)
  have g3 := keep_cell b1 g3
  have g4 := keep_cell b1 g4
  have HN5 := Lib.hid (HN5.out.below b1)
  have g6 : (wc5.alloc (.cells #[.slice B5 m5 d5] 29)).cell? ⟨wc5.heap.size, 0, none⟩ = some (.slice B5 m5 d5) := b2.cell 0
  clear b1 b2 bz
  go_wp2_with fail
  clear gm3_1
  generalize wc5.alloc (.cells #[.slice B5 m5 d5] 29) = W6 at *
  generalize wc5.heap.size = q6 at *
  (with_reducible refine (zero_no Hha.out HN1.out).mono ?_)
  rintro e wc7 ⟨rfl, hb⟩
  have hB := keep_below hB hb
  have HN1 := Lib.hid (HN1.out.below hb)
  have HN2 := Lib.hid (HN2.out.below hb)
  have g3 := keep_cell hb g3
  have g4 := keep_cell hb g4
  have HN5 := Lib.hid (HN5.out.below hb)
  have g6 := keep_cell hb g6
  clear hb 
  go_wp2_with fail
  (with_reducible refine (zero_no Hhb.out HN2.out).mono ?_)
  rintro e wc8 ⟨rfl, hb⟩
  have hB := keep_below hB hb
  have HN1 := Lib.hid (HN1.out.below hb)
  have HN2 := Lib.hid (HN2.out.below hb)
  have g3 := keep_cell hb g3
  have g4 := keep_cell hb g4
  have HN5 := Lib.hid (HN5.out.below hb)
  have g6 := keep_cell hb g6
  clear hb 
  go_wp2_with fail
  have HZ7 : Hid (Sz (K + K) (Nat.gcd x y)) := Sz.gcd HZ1.out HZ2.out
  have C0 := Lib.hid (fun w' (h : Below wc8.heap.size wc8 w') => HGC.out.of (x) (y) B1 B2 m1 m2 d1 d2 w' (HN1.out.below h) (HN2.out.below h) (by have := Sz.words HZ1.out HN1.out; omega) (by have := Sz.words HZ2.out HN2.out; omega) (HTB.out _ (keep_below hB h)))
  have HZ8 : Hid (Sz ((K + K) + (K + K)) ((Nat.gcd x y) * (Nat.lcm x y))) := Sz.mul HZ7.out HZ5.out
  have C1 := Lib.hid (fun w' (h : Below wc8.heap.size wc8 w') B7 m7 d7 (hw7 : WordsIn w' (Nat.gcd x y) B7 m7 d7) => prod_mul (Nat.gcd x y) (Nat.lcm x y) B7 B5 m7 m5 d7 d5 w' hw7 (HN5.out.below h) (by have := Sz.words HZ7.out hw7; omega) (by have := Sz.words HZ5.out HN5.out; omega))
  have HZ9 : Hid (Sz (K + K) (x * y)) := Sz.mul HZ1.out HZ2.out
  have C2 := Lib.hid (fun w' (h : Below wc8.heap.size wc8 w') => prod_mul (x) (y) B1 B2 m1 m2 d1 d2 w' (HN1.out.below h) (HN2.out.below h) (by have := Sz.words HZ1.out HN1.out; omega) (by have := Sz.words HZ2.out HN2.out; omega))
  have C3 := Lib.hid (fun w' (h : Below wc8.heap.size wc8 w') B8 m8 d8 (hw8 : WordsIn w' ((Nat.gcd x y) * (Nat.lcm x y)) B8 m8 d8) B9 m9 d9 (hw9 : WordsIn w' (x * y) B9 m9 d9) => cmpEq (x := (Nat.gcd x y) * (Nat.lcm x y)) (y := x * y) (Nat.gcd_mul_lcm x y) hw8 hw9 (by have := Sz.words HZ8.out hw8; omega) (by have := Sz.words HZ9.out hw9; omega))
  have DV10 : Hid (dvdB (x) (Nat.lcm x y) = true) := dvdB_of (Nat.dvd_lcm_left x y)
  have C4 := Lib.hid (fun w' (h : Below wc8.heap.size wc8 w') => DV10.out ▸ HQC.out.divides (x) (Nat.lcm x y) B1 B5 m1 m5 d1 d5 w' (HN1.out.below h) (HN5.out.below h) (by have := Sz.words HZ1.out HN1.out; omega) (by have := Sz.words HZ5.out HN5.out; omega))
  have DV11 : Hid (dvdB (y) (Nat.lcm x y) = true) := dvdB_of (Nat.dvd_lcm_right x y)
  have C5 := Lib.hid (fun w' (h : Below wc8.heap.size wc8 w') => DV11.out ▸ HQC.out.divides (y) (Nat.lcm x y) B2 B5 m2 m5 d2 d5 w' (HN2.out.below h) (HN5.out.below h) (by have := Sz.words HZ2.out HN2.out; omega) (by have := Sz.words HZ5.out HN5.out; omega))
  have hb0 : Below wc8.heap.size wc8 wc8.drew := (Below.refl _ wc8).drew
  have j0 : wc8.drew.cell? ⟨q4, 0, none⟩ = some (.slice B1 m1 d1) := g3
  have j1 : wc8.drew.cell? ⟨q4 + 1, 0, none⟩ = some (.slice B2 m2 d2) := g4
  have j2 : wc8.drew.cell? ⟨q6, 0, none⟩ = some (.slice B5 m5 d5) := g6
  go_region_held3 (fun w' => Below wc8.heap.size wc8 w' ∧ w'.cell? ⟨q4, 0, none⟩ = some (.slice B1 m1 d1) ∧ w'.cell? ⟨q4 + 1, 0, none⟩ = some (.slice B2 m2 d2) ∧ w'.cell? ⟨q6, 0, none⟩ = some (.slice B5 m5 d5))
    (first | (with_reducible exact ⟨hb0, j0, j1, j2⟩) | (go_split_ands; (repeat' apply And.intro); all_goals (first | with_reducible assumption | with_reducible exact keep_below (by with_reducible assumption) hb | with_reducible exact keep_cell hb (by with_reducible assumption) | with_reducible exact keep_below_alloc _ (by with_reducible assumption) | with_reducible exact keep_cell_alloc _ (by with_reducible assumption) | with_reducible exact keep_below_alloc _ (keep_below_alloc _ (by with_reducible assumption)) | with_reducible exact keep_cell_alloc _ (keep_cell_alloc _ (by with_reducible assumption)) | with_reducible exact keep_below_alloc _ (keep_below_alloc _ (keep_below_alloc _ (by with_reducible assumption))) | with_reducible exact keep_cell_alloc _ (keep_cell_alloc _ (keep_cell_alloc _ (by with_reducible assumption))))))
    (first
      | (go_at_call 14; (with_reducible refine (C0.out _ (by first | with_reducible assumption | exact And.left (by with_reducible assumption))).mono ?_); rintro e wa9 ⟨B7, m7, d7, rfl, hw7, hb⟩; go_split_ands; have hBw : Below wc8.heap.size wc8 wa9 := keep_below (by with_reducible assumption) hb; have gw0 : wa9.cell? ⟨q4, 0, none⟩ = some (.slice B1 m1 d1) := keep_cell hb (by with_reducible assumption); have gw1 : wa9.cell? ⟨q4 + 1, 0, none⟩ = some (.slice B2 m2 d2) := keep_cell hb (by with_reducible assumption); have gw2 : wa9.cell? ⟨q6, 0, none⟩ = some (.slice B5 m5 d5) := keep_cell hb (by with_reducible assumption))
      | (go_at_call 17; (with_reducible refine (C1.out _ (by first | with_reducible assumption | exact And.left (by with_reducible assumption)) _ _ _ hw7).mono ?_); rintro e wa10 ⟨B8, m8, d8, rfl, hw8, hb, _⟩; go_split_ands; have hBw : Below wc8.heap.size wc8 wa10 := keep_below (by with_reducible assumption) hb; have gw0 : wa10.cell? ⟨q4, 0, none⟩ = some (.slice B1 m1 d1) := keep_cell hb (by with_reducible assumption); have gw1 : wa10.cell? ⟨q4 + 1, 0, none⟩ = some (.slice B2 m2 d2) := keep_cell hb (by with_reducible assumption); have gw2 : wa10.cell? ⟨q6, 0, none⟩ = some (.slice B5 m5 d5) := keep_cell hb (by with_reducible assumption); (first | (with_reducible have hw7 := WordsIn.below hw7 hb) | (with_reducible have hw7 := WordsIn.below (WordsIn.below hw7 (up_alloc _ _)) hb) | (with_reducible have hw7 := WordsIn.below (WordsIn.below (WordsIn.below hw7 (up_alloc _ _)) (up_alloc _ _)) hb)))
      | (go_at_call 17; (with_reducible refine (C2.out _ (by first | with_reducible assumption | exact And.left (by with_reducible assumption))).mono ?_); rintro e wa11 ⟨B9, m9, d9, rfl, hw9, hb, _⟩; go_split_ands; have hBw : Below wc8.heap.size wc8 wa11 := keep_below (by with_reducible assumption) hb; have gw0 : wa11.cell? ⟨q4, 0, none⟩ = some (.slice B1 m1 d1) := keep_cell hb (by with_reducible assumption); have gw1 : wa11.cell? ⟨q4 + 1, 0, none⟩ = some (.slice B2 m2 d2) := keep_cell hb (by with_reducible assumption); have gw2 : wa11.cell? ⟨q6, 0, none⟩ = some (.slice B5 m5 d5) := keep_cell hb (by with_reducible assumption); (first | (with_reducible have hw7 := WordsIn.below hw7 hb) | (with_reducible have hw7 := WordsIn.below (WordsIn.below hw7 (up_alloc _ _)) hb) | (with_reducible have hw7 := WordsIn.below (WordsIn.below (WordsIn.below hw7 (up_alloc _ _)) (up_alloc _ _)) hb)); (first | (with_reducible have hw8 := WordsIn.below hw8 hb) | (with_reducible have hw8 := WordsIn.below (WordsIn.below hw8 (up_alloc _ _)) hb) | (with_reducible have hw8 := WordsIn.below (WordsIn.below (WordsIn.below hw8 (up_alloc _ _)) (up_alloc _ _)) hb)))
      | (go_at_call 20; (with_reducible refine (C3.out _ (by first | with_reducible assumption | exact And.left (by with_reducible assumption)) _ _ _ hw8 _ _ _ hw9).mono ?_); rintro e wa12 ⟨rfl, hb⟩; go_split_ands; have hBw : Below wc8.heap.size wc8 wa12 := keep_below (by with_reducible assumption) hb; have gw0 : wa12.cell? ⟨q4, 0, none⟩ = some (.slice B1 m1 d1) := keep_cell hb (by with_reducible assumption); have gw1 : wa12.cell? ⟨q4 + 1, 0, none⟩ = some (.slice B2 m2 d2) := keep_cell hb (by with_reducible assumption); have gw2 : wa12.cell? ⟨q6, 0, none⟩ = some (.slice B5 m5 d5) := keep_cell hb (by with_reducible assumption); (first | (with_reducible have hw7 := WordsIn.below hw7 hb) | (with_reducible have hw7 := WordsIn.below (WordsIn.below hw7 (up_alloc _ _)) hb) | (with_reducible have hw7 := WordsIn.below (WordsIn.below (WordsIn.below hw7 (up_alloc _ _)) (up_alloc _ _)) hb)); (first | (with_reducible have hw8 := WordsIn.below hw8 hb) | (with_reducible have hw8 := WordsIn.below (WordsIn.below hw8 (up_alloc _ _)) hb) | (with_reducible have hw8 := WordsIn.below (WordsIn.below (WordsIn.below hw8 (up_alloc _ _)) (up_alloc _ _)) hb)); (first | (with_reducible have hw9 := WordsIn.below hw9 hb) | (with_reducible have hw9 := WordsIn.below (WordsIn.below hw9 (up_alloc _ _)) hb) | (with_reducible have hw9 := WordsIn.below (WordsIn.below (WordsIn.below hw9 (up_alloc _ _)) (up_alloc _ _)) hb)))
      | (go_at_call 19; (with_reducible refine (C4.out _ (by first | with_reducible assumption | exact And.left (by with_reducible assumption))).mono ?_); rintro e wa13 ⟨rfl, hb⟩; go_split_ands; have hBw : Below wc8.heap.size wc8 wa13 := keep_below (by with_reducible assumption) hb; have gw0 : wa13.cell? ⟨q4, 0, none⟩ = some (.slice B1 m1 d1) := keep_cell hb (by with_reducible assumption); have gw1 : wa13.cell? ⟨q4 + 1, 0, none⟩ = some (.slice B2 m2 d2) := keep_cell hb (by with_reducible assumption); have gw2 : wa13.cell? ⟨q6, 0, none⟩ = some (.slice B5 m5 d5) := keep_cell hb (by with_reducible assumption); (first | (with_reducible have hw7 := WordsIn.below hw7 hb) | (with_reducible have hw7 := WordsIn.below (WordsIn.below hw7 (up_alloc _ _)) hb) | (with_reducible have hw7 := WordsIn.below (WordsIn.below (WordsIn.below hw7 (up_alloc _ _)) (up_alloc _ _)) hb)); (first | (with_reducible have hw8 := WordsIn.below hw8 hb) | (with_reducible have hw8 := WordsIn.below (WordsIn.below hw8 (up_alloc _ _)) hb) | (with_reducible have hw8 := WordsIn.below (WordsIn.below (WordsIn.below hw8 (up_alloc _ _)) (up_alloc _ _)) hb)); (first | (with_reducible have hw9 := WordsIn.below hw9 hb) | (with_reducible have hw9 := WordsIn.below (WordsIn.below hw9 (up_alloc _ _)) hb) | (with_reducible have hw9 := WordsIn.below (WordsIn.below (WordsIn.below hw9 (up_alloc _ _)) (up_alloc _ _)) hb)))
      | (go_at_call 19; (with_reducible refine (C5.out _ (by first | with_reducible assumption | exact And.left (by with_reducible assumption))).mono ?_); rintro e wa14 ⟨rfl, hb⟩; go_split_ands; have hBw : Below wc8.heap.size wc8 wa14 := keep_below (by with_reducible assumption) hb; have gw0 : wa14.cell? ⟨q4, 0, none⟩ = some (.slice B1 m1 d1) := keep_cell hb (by with_reducible assumption); have gw1 : wa14.cell? ⟨q4 + 1, 0, none⟩ = some (.slice B2 m2 d2) := keep_cell hb (by with_reducible assumption); have gw2 : wa14.cell? ⟨q6, 0, none⟩ = some (.slice B5 m5 d5) := keep_cell hb (by with_reducible assumption); (first | (with_reducible have hw7 := WordsIn.below hw7 hb) | (with_reducible have hw7 := WordsIn.below (WordsIn.below hw7 (up_alloc _ _)) hb) | (with_reducible have hw7 := WordsIn.below (WordsIn.below (WordsIn.below hw7 (up_alloc _ _)) (up_alloc _ _)) hb)); (first | (with_reducible have hw8 := WordsIn.below hw8 hb) | (with_reducible have hw8 := WordsIn.below (WordsIn.below hw8 (up_alloc _ _)) hb) | (with_reducible have hw8 := WordsIn.below (WordsIn.below (WordsIn.below hw8 (up_alloc _ _)) (up_alloc _ _)) hb)); (first | (with_reducible have hw9 := WordsIn.below hw9 hb) | (with_reducible have hw9 := WordsIn.below (WordsIn.below hw9 (up_alloc _ _)) hb) | (with_reducible have hw9 := WordsIn.below (WordsIn.below (WordsIn.below hw9 (up_alloc _ _)) (up_alloc _ _)) hb))))
  clear hb
  have hB := keep_below hB hBw
  have HN1 := Lib.hid (HN1.out.below hBw)
  have HN2 := Lib.hid (HN2.out.below hBw)
  have g3 := keep_cell hBw g3
  have g4 := keep_cell hBw g4
  have HN5 := Lib.hid (HN5.out.below hBw)
  have g6 := keep_cell hBw g6
  have HN7 := Lib.hid hw7
  have HN8 := Lib.hid hw8
  have HN9 := Lib.hid hw9
  clear hb0 hBw gw0 gw1 gw2 hw7 hw8 hw9
  clear j0
  clear j1
  clear j2
  clear C0 C1 C2 C3 C4 C5
  go_wp2
  go_ret
  exact ⟨by first | rfl | simp, hB⟩
theorem gcdLcm_walk (QC : QuotC) (GC : GcdC) (A0 : Option Addr) (n0 c0 : Nat) (l0 : List Nat) (A1 : Option Addr) (n1 c1 : Nat) (l1 : List Nat) (w : World) (h0 : ArgWords w A0 n0 c0 l0) (h1 : ArgWords w A1 n1 c1 l1) (hT : TabAt w) :
    Calls Tryd.prog 6 #[.slice A0 n0 c0, .slice A1 n1 c1] w fun e w' => e = .returned (.bool true) ∧ Below w.heap.size w w' := by
  by_cases ca : dv 18446744073709551616 l0 = 0
  · exact gcdLcm_x QC GC A0 n0 c0 l0 A1 n1 c1 l1 w h0 h1 hT ca
  · by_cases cb : dv 18446744073709551616 l1 = 0
    · exact gcdLcm_y QC GC A0 n0 c0 l0 A1 n1 c1 l1 w h0 h1 hT ca cb
    · exact gcdLcm_yes QC GC A0 n0 c0 l0 A1 n1 c1 l1 w h0 h1 hT ca cb
end Go.Proofs.YtplgbokgfphjaaaDoor
