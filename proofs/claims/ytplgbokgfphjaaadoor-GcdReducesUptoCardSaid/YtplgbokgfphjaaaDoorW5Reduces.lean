/-
  The walk of the law GcdReduces. Conditions: the words that came in are words, at most 1048576 of each; quot's and gcd's functions do as QuotC and GcdC say.
-/
import Derived.Test.YtplgbokgfphjaaaDoorRows
import Derived.Test.YtplgbokgfphjaaaDoorNNums
import Derived.Test.YtplgbokgfphjaaaDoorW5Awake
import Derived.Test.YtplgbokgfphjaaaDoorPMul
import Derived.Test.YtplgbokgfphjaaaDoorNAdd
import Derived.WalkKit
import Derived.Lib.Hide
import Derived.Outline
import Derived.Deep.RegionHeld3
import Derived.IntWalk
import Derived.Deep.DeepCutAuto
import Derived.Deep.CutBlock
namespace Go.Proofs.YtplgbokgfphjaaaDoor
open Go Go.RowKit
set_option maxRecDepth 100000
set_option linter.unusedVariables false
set_option linter.unusedSimpArgs false
theorem cop_no {p q : Nat} (hp : p = 0) (hq : q = 0) : copB p q = false := by subst hp hq; rfl
theorem cop_yes {x y : Nat} (h : 0 < Nat.gcd x y) : copB (x / Nat.gcd x y) (y / Nat.gcd x y) = true := decide_eq_true (Nat.coprime_div_gcd_div_gcd h)
set_option maxHeartbeats 16000000 in
theorem gcdReduces_no (QC : QuotC) (GC : GcdC) (A0 : Option Addr) (n0 c0 : Nat) (l0 : List Nat) (A1 : Option Addr) (n1 c1 : Nat) (l1 : List Nat) (w : World) (h0 : ArgWords w A0 n0 c0 l0) (h1 : ArgWords w A1 n1 c1 l1) (hT : TabAt w) (ha : (dv 18446744073709551616 l0) = 0) (hb : (dv 18446744073709551616 l1) = 0) :
    Calls Tryd.prog 5 #[.slice A0 n0 c0, .slice A1 n1 c1] w fun e w' => e = .returned (.bool true) ∧ Below w.heap.size w w' := by
  have HQC := Lib.hid QC
  have HGC := Lib.hid GC
  have HTB := Lib.hid (fun w' (h : Below w.heap.size w w') => hT.on h)
  obtain ⟨K, hK⟩ : ∃ K, 1048576 = K := ⟨_, rfl⟩
  have O0 := arg_of h0
  have S0 := arg_sz h0
  have O1 := arg_of h1
  have S1 := arg_sz h1
  rw [hK] at S0 S1
  have hK2 : K ≤ 1048576 := by omega
  obtain ⟨x, hx0⟩ : ∃ v, dv 18446744073709551616 l0 = v := ⟨_, rfl⟩
  rw [hx0] at O0 S0
  have HO0 := Lib.hid O0
  have HS0 := Lib.hid S0
  obtain ⟨y, hx1⟩ : ∃ v, dv 18446744073709551616 l1 = v := ⟨_, rfl⟩
  rw [hx1] at O1 S1
  have HO1 := Lib.hid O1
  have HS1 := Lib.hid S1
  rw [hx0] at ha
  have Hha := Lib.hid ha
  rw [hx1] at hb
  have Hhb := Lib.hid hb
  clear hT QC GC hK O0 S0 h0 hx0 O1 S1 h1 hx1 ha hb
  go_enter Tryd.func5, Tryd.ntmps5
  have hB := Below.refl w.heap.size w
  go_wp2_with fail
  (with_reducible refine (law5_awake HGC.out _ (HTB.out _ hB)).mono ?_)
  rintro e wc1 ⟨rfl, hb⟩
  have hB := keep_below hB hb
  clear hb 
  go_wp2_with fail
  have HZ1 : Hid (Sz (K) (x)) := HS0.out
  (with_reducible refine (HO0.out _ hB).mono ?_)
  rintro e wc2 ⟨B1, m1, d1, rfl, hw1, hb, _⟩
  have hB := keep_below hB hb
  have HN1 := Lib.hid hw1
  clear hb hw1
  go_wp2_with fail
  have HZ2 : Hid (Sz (K) (y)) := HS1.out
  (with_reducible refine (HO1.out _ hB).mono ?_)
  rintro e wc3 ⟨B2, m2, d2, rfl, hw2, hb, _⟩
  have hB := keep_below hB hb
  have HN1 := Lib.hid (HN1.out.below hb)
  have HN2 := Lib.hid hw2
  clear hb hw2
  have gm3_2 : ((wc3.alloc (.cells #[.slice B1 m1 d1] 29)).alloc (.cells #[.slice B2 m2 d2] 29)).cell? ⟨wc3.heap.size, 0, none⟩ = some (.slice B1 m1 d1) := by
    obtain ⟨c1, c2, c3, _⟩ := box2 wc3 29 29 #[.slice B1 m1 d1] #[.slice B2 m2 d2]
    exact c2.cell 0
  have gm4_2 : ((wc3.alloc (.cells #[.slice B1 m1 d1] 29)).alloc (.cells #[.slice B2 m2 d2] 29)).cell? ⟨wc3.heap.size + 1, 0, none⟩ = some (.slice B2 m2 d2) := by
    obtain ⟨c1, c2, c3, _⟩ := box2 wc3 29 29 #[.slice B1 m1 d1] #[.slice B2 m2 d2]
    exact c3.cell 0
  obtain ⟨b1, b2, b3, bz⟩ := box2 wc3 29 29 #[.slice B1 m1 d1] #[.slice B2 m2 d2]
  have hB := keep_below hB b1
  have HN1 := Lib.hid (HN1.out.below b1)
  have HN2 := Lib.hid (HN2.out.below b1)
  have g3 : ((wc3.alloc (.cells #[.slice B1 m1 d1] 29)).alloc (.cells #[.slice B2 m2 d2] 29)).cell? ⟨wc3.heap.size, 0, none⟩ = some (.slice B1 m1 d1) := b2.cell 0
  have g4 : ((wc3.alloc (.cells #[.slice B1 m1 d1] 29)).alloc (.cells #[.slice B2 m2 d2] 29)).cell? ⟨wc3.heap.size + 1, 0, none⟩ = some (.slice B2 m2 d2) := b3.cell 0
  clear b1 b2 b3 bz
  go_wp2_with fail
  clear gm3_2 gm4_2
  generalize (wc3.alloc (.cells #[.slice B1 m1 d1] 29)).alloc (.cells #[.slice B2 m2 d2] 29) = W4 at *
  generalize wc3.heap.size = q4 at *
  have HZ5 : Hid (Sz (K) (x / Nat.gcd x y)) := Sz.of_le HZ1.out (Nat.div_le_self _ _)
  have HZ6 : Hid (Sz (K) (y / Nat.gcd x y)) := Sz.of_le HZ2.out (Nat.div_le_self _ _)
  (with_reducible refine (HGC.out.reduce (x) (y) B1 B2 m1 m2 d1 d2 _ HN1.out HN2.out (by have := Sz.words HZ1.out HN1.out; omega) (by have := Sz.words HZ2.out HN2.out; omega) (HTB.out _ hB)).mono ?_)
  rintro e wc5 ⟨B5, m5, d5, B6, m6, d6, rfl, hw5, hw6, hb⟩
  have hB := keep_below hB hb
  have HN1 := Lib.hid (HN1.out.below hb)
  have HN2 := Lib.hid (HN2.out.below hb)
  have g3 := keep_cell hb g3
  have g4 := keep_cell hb g4
  have HN5 := Lib.hid hw5
  have HN6 := Lib.hid hw6
  clear hb hw5 hw6
  have gm3_2 : ((wc5.alloc (.cells #[.slice B5 m5 d5] 29)).alloc (.cells #[.slice B6 m6 d6] 29)).cell? ⟨q4, 0, none⟩ = some (.slice B1 m1 d1) := keep_cell_alloc _ (keep_cell_alloc _ (g3))
  obtain ⟨b1, b2, b3, bz⟩ := box2 wc5 29 29 #[.slice B5 m5 d5] #[.slice B6 m6 d6]
  have hB := keep_below hB b1
  have HN1 := Lib.hid (HN1.out.below b1)
  have HN2 := Lib.hid (HN2.out.below b1)
  have g3 := keep_cell b1 g3
  have g4 := keep_cell b1 g4
  have HN5 := Lib.hid (HN5.out.below b1)
  have HN6 := Lib.hid (HN6.out.below b1)
  have g7 : ((wc5.alloc (.cells #[.slice B5 m5 d5] 29)).alloc (.cells #[.slice B6 m6 d6] 29)).cell? ⟨wc5.heap.size, 0, none⟩ = some (.slice B5 m5 d5) := b2.cell 0
  have g8 : ((wc5.alloc (.cells #[.slice B5 m5 d5] 29)).alloc (.cells #[.slice B6 m6 d6] 29)).cell? ⟨wc5.heap.size + 1, 0, none⟩ = some (.slice B6 m6 d6) := b3.cell 0
  clear b1 b2 b3 bz
  go_wp2_with fail
  clear gm3_2
  generalize (wc5.alloc (.cells #[.slice B5 m5 d5] 29)).alloc (.cells #[.slice B6 m6 d6] 29) = W6 at *
  generalize wc5.heap.size = q6 at *
  (with_reducible refine (zero_yes Hha.out HN1.out).mono ?_)
  rintro e wc7 ⟨rfl, hb⟩
  have hB := keep_below hB hb
  have HN1 := Lib.hid (HN1.out.below hb)
  have HN2 := Lib.hid (HN2.out.below hb)
  have g3 := keep_cell hb g3
  have g4 := keep_cell hb g4
  have HN5 := Lib.hid (HN5.out.below hb)
  have HN6 := Lib.hid (HN6.out.below hb)
  have g7 := keep_cell hb g7
  have g8 := keep_cell hb g8
  clear hb 
  go_wp2_with fail
  (with_reducible refine (zero_yes Hhb.out HN2.out).mono ?_)
  rintro e wc8 ⟨rfl, hb⟩
  have hB := keep_below hB hb
  have HN1 := Lib.hid (HN1.out.below hb)
  have HN2 := Lib.hid (HN2.out.below hb)
  have g3 := keep_cell hb g3
  have g4 := keep_cell hb g4
  have HN5 := Lib.hid (HN5.out.below hb)
  have HN6 := Lib.hid (HN6.out.below hb)
  have g7 := keep_cell hb g7
  have g8 := keep_cell hb g8
  clear hb 
  go_wp2_with fail
  (with_reducible refine (zero_yes (by rw [Hha.out, Nat.zero_div]) HN5.out).mono ?_)
  rintro e wc9 ⟨rfl, hb⟩
  have hB := keep_below hB hb
  have HN1 := Lib.hid (HN1.out.below hb)
  have HN2 := Lib.hid (HN2.out.below hb)
  have g3 := keep_cell hb g3
  have g4 := keep_cell hb g4
  have HN5 := Lib.hid (HN5.out.below hb)
  have HN6 := Lib.hid (HN6.out.below hb)
  have g7 := keep_cell hb g7
  have g8 := keep_cell hb g8
  clear hb 
  go_wp2_with fail
  (with_reducible refine (zero_yes (by rw [Hhb.out, Nat.zero_div]) HN6.out).mono ?_)
  rintro e wc10 ⟨rfl, hb⟩
  have hB := keep_below hB hb
  have HN1 := Lib.hid (HN1.out.below hb)
  have HN2 := Lib.hid (HN2.out.below hb)
  have g3 := keep_cell hb g3
  have g4 := keep_cell hb g4
  have HN5 := Lib.hid (HN5.out.below hb)
  have HN6 := Lib.hid (HN6.out.below hb)
  have g7 := keep_cell hb g7
  have g8 := keep_cell hb g8
  clear hb 
  go_wp2_with fail
  have CP9 : Hid (copB (x / Nat.gcd x y) (y / Nat.gcd x y) = false) := cop_no (by rw [Hha.out, Nat.zero_div]) (by rw [Hhb.out, Nat.zero_div])
  (with_reducible refine (CP9.out ▸ HGC.out.coprime (x / Nat.gcd x y) (y / Nat.gcd x y) B5 B6 m5 m6 d5 d6 _ HN5.out HN6.out (by have := Sz.words HZ5.out HN5.out; omega) (by have := Sz.words HZ6.out HN6.out; omega) (HTB.out _ hB)).mono ?_)
  rintro e wc11 ⟨rfl, hb⟩
  have hB := keep_below hB hb
  have HN1 := Lib.hid (HN1.out.below hb)
  have HN2 := Lib.hid (HN2.out.below hb)
  have g3 := keep_cell hb g3
  have g4 := keep_cell hb g4
  have HN5 := Lib.hid (HN5.out.below hb)
  have HN6 := Lib.hid (HN6.out.below hb)
  have g7 := keep_cell hb g7
  have g8 := keep_cell hb g8
  clear hb 
  go_wp2
  go_ret
  exact ⟨by first | rfl | simp, hB⟩
set_option maxHeartbeats 16000000 in
theorem gcdReduces_y (QC : QuotC) (GC : GcdC) (A0 : Option Addr) (n0 c0 : Nat) (l0 : List Nat) (A1 : Option Addr) (n1 c1 : Nat) (l1 : List Nat) (w : World) (h0 : ArgWords w A0 n0 c0 l0) (h1 : ArgWords w A1 n1 c1 l1) (hT : TabAt w) (ha : (dv 18446744073709551616 l0) = 0) (hb : (dv 18446744073709551616 l1) ≠ 0) :
    Calls Tryd.prog 5 #[.slice A0 n0 c0, .slice A1 n1 c1] w fun e w' => e = .returned (.bool true) ∧ Below w.heap.size w w' := by
  have HQC := Lib.hid QC
  have HGC := Lib.hid GC
  have HTB := Lib.hid (fun w' (h : Below w.heap.size w w') => hT.on h)
  obtain ⟨K, hK⟩ : ∃ K, 1048576 = K := ⟨_, rfl⟩
  have O0 := arg_of h0
  have S0 := arg_sz h0
  have O1 := arg_of h1
  have S1 := arg_sz h1
  rw [hK] at S0 S1
  have hK2 : K ≤ 1048576 := by omega
  obtain ⟨x, hx0⟩ : ∃ v, dv 18446744073709551616 l0 = v := ⟨_, rfl⟩
  rw [hx0] at O0 S0
  have HO0 := Lib.hid O0
  have HS0 := Lib.hid S0
  obtain ⟨y, hx1⟩ : ∃ v, dv 18446744073709551616 l1 = v := ⟨_, rfl⟩
  rw [hx1] at O1 S1
  have HO1 := Lib.hid O1
  have HS1 := Lib.hid S1
  rw [hx0] at ha
  have Hha := Lib.hid ha
  rw [hx1] at hb
  have Hhb := Lib.hid hb
  clear hT QC GC hK O0 S0 h0 hx0 O1 S1 h1 hx1 ha hb
  go_enter Tryd.func5, Tryd.ntmps5
  have hB := Below.refl w.heap.size w
  go_wp2_with fail
  (with_reducible refine (law5_awake HGC.out _ (HTB.out _ hB)).mono ?_)
  rintro e wc1 ⟨rfl, hb⟩
  have hB := keep_below hB hb
  clear hb 
  go_wp2_with fail
  have HZ1 : Hid (Sz (K) (x)) := HS0.out
  (with_reducible refine (HO0.out _ hB).mono ?_)
  rintro e wc2 ⟨B1, m1, d1, rfl, hw1, hb, _⟩
  have hB := keep_below hB hb
  have HN1 := Lib.hid hw1
  clear hb hw1
  go_wp2_with fail
  have HZ2 : Hid (Sz (K) (y)) := HS1.out
  (with_reducible refine (HO1.out _ hB).mono ?_)
  rintro e wc3 ⟨B2, m2, d2, rfl, hw2, hb, _⟩
  have hB := keep_below hB hb
  have HN1 := Lib.hid (HN1.out.below hb)
  have HN2 := Lib.hid hw2
  clear hb hw2
  have gm3_2 : ((wc3.alloc (.cells #[.slice B1 m1 d1] 29)).alloc (.cells #[.slice B2 m2 d2] 29)).cell? ⟨wc3.heap.size, 0, none⟩ = some (.slice B1 m1 d1) := by
    obtain ⟨c1, c2, c3, _⟩ := box2 wc3 29 29 #[.slice B1 m1 d1] #[.slice B2 m2 d2]
    exact c2.cell 0
  have gm4_2 : ((wc3.alloc (.cells #[.slice B1 m1 d1] 29)).alloc (.cells #[.slice B2 m2 d2] 29)).cell? ⟨wc3.heap.size + 1, 0, none⟩ = some (.slice B2 m2 d2) := by
    obtain ⟨c1, c2, c3, _⟩ := box2 wc3 29 29 #[.slice B1 m1 d1] #[.slice B2 m2 d2]
    exact c3.cell 0
  obtain ⟨b1, b2, b3, bz⟩ := box2 wc3 29 29 #[.slice B1 m1 d1] #[.slice B2 m2 d2]
  have hB := keep_below hB b1
  have HN1 := Lib.hid (HN1.out.below b1)
  have HN2 := Lib.hid (HN2.out.below b1)
  have g3 : ((wc3.alloc (.cells #[.slice B1 m1 d1] 29)).alloc (.cells #[.slice B2 m2 d2] 29)).cell? ⟨wc3.heap.size, 0, none⟩ = some (.slice B1 m1 d1) := b2.cell 0
  have g4 : ((wc3.alloc (.cells #[.slice B1 m1 d1] 29)).alloc (.cells #[.slice B2 m2 d2] 29)).cell? ⟨wc3.heap.size + 1, 0, none⟩ = some (.slice B2 m2 d2) := b3.cell 0
  clear b1 b2 b3 bz
  go_wp2_with fail
  clear gm3_2 gm4_2
  generalize (wc3.alloc (.cells #[.slice B1 m1 d1] 29)).alloc (.cells #[.slice B2 m2 d2] 29) = W4 at *
  generalize wc3.heap.size = q4 at *
  have HZ5 : Hid (Sz (K) (x / Nat.gcd x y)) := Sz.of_le HZ1.out (Nat.div_le_self _ _)
  have HZ6 : Hid (Sz (K) (y / Nat.gcd x y)) := Sz.of_le HZ2.out (Nat.div_le_self _ _)
  (with_reducible refine (HGC.out.reduce (x) (y) B1 B2 m1 m2 d1 d2 _ HN1.out HN2.out (by have := Sz.words HZ1.out HN1.out; omega) (by have := Sz.words HZ2.out HN2.out; omega) (HTB.out _ hB)).mono ?_)
  rintro e wc5 ⟨B5, m5, d5, B6, m6, d6, rfl, hw5, hw6, hb⟩
  have hB := keep_below hB hb
  have HN1 := Lib.hid (HN1.out.below hb)
  have HN2 := Lib.hid (HN2.out.below hb)
  have g3 := keep_cell hb g3
  have g4 := keep_cell hb g4
  have HN5 := Lib.hid hw5
  have HN6 := Lib.hid hw6
  clear hb hw5 hw6
  have gm3_2 : ((wc5.alloc (.cells #[.slice B5 m5 d5] 29)).alloc (.cells #[.slice B6 m6 d6] 29)).cell? ⟨q4, 0, none⟩ = some (.slice B1 m1 d1) := keep_cell_alloc _ (keep_cell_alloc _ (g3))
  obtain ⟨b1, b2, b3, bz⟩ := box2 wc5 29 29 #[.slice B5 m5 d5] #[.slice B6 m6 d6]
  have hB := keep_below hB b1
  have HN1 := Lib.hid (HN1.out.below b1)
  have HN2 := Lib.hid (HN2.out.below b1)
  have g3 := keep_cell b1 g3
  have g4 := keep_cell b1 g4
  have HN5 := Lib.hid (HN5.out.below b1)
  have HN6 := Lib.hid (HN6.out.below b1)
  have g7 : ((wc5.alloc (.cells #[.slice B5 m5 d5] 29)).alloc (.cells #[.slice B6 m6 d6] 29)).cell? ⟨wc5.heap.size, 0, none⟩ = some (.slice B5 m5 d5) := b2.cell 0
  have g8 : ((wc5.alloc (.cells #[.slice B5 m5 d5] 29)).alloc (.cells #[.slice B6 m6 d6] 29)).cell? ⟨wc5.heap.size + 1, 0, none⟩ = some (.slice B6 m6 d6) := b3.cell 0
  clear b1 b2 b3 bz
  go_wp2_with fail
  clear gm3_2
  generalize (wc5.alloc (.cells #[.slice B5 m5 d5] 29)).alloc (.cells #[.slice B6 m6 d6] 29) = W6 at *
  generalize wc5.heap.size = q6 at *
  (with_reducible refine (zero_yes Hha.out HN1.out).mono ?_)
  rintro e wc7 ⟨rfl, hb⟩
  have hB := keep_below hB hb
  have HN1 := Lib.hid (HN1.out.below hb)
  have HN2 := Lib.hid (HN2.out.below hb)
  have g3 := keep_cell hb g3
  have g4 := keep_cell hb g4
  have HN5 := Lib.hid (HN5.out.below hb)
  have HN6 := Lib.hid (HN6.out.below hb)
  have g7 := keep_cell hb g7
  have g8 := keep_cell hb g8
  clear hb 
  go_wp2_with fail
  (with_reducible refine (zero_no Hhb.out HN2.out).mono ?_)
  rintro e wc8 ⟨rfl, hb⟩
  have hB := keep_below hB hb
  have HN1 := Lib.hid (HN1.out.below hb)
  have HN2 := Lib.hid (HN2.out.below hb)
  have g3 := keep_cell hb g3
  have g4 := keep_cell hb g4
  have HN5 := Lib.hid (HN5.out.below hb)
  have HN6 := Lib.hid (HN6.out.below hb)
  have g7 := keep_cell hb g7
  have g8 := keep_cell hb g8
  clear hb 
  go_wp2_with fail
  have HZ9 : Hid (Sz (K + K) (Nat.gcd x y)) := Sz.gcd HZ1.out HZ2.out
  (with_reducible refine (HGC.out.of (x) (y) B1 B2 m1 m2 d1 d2 _ HN1.out HN2.out (by have := Sz.words HZ1.out HN1.out; omega) (by have := Sz.words HZ2.out HN2.out; omega) (HTB.out _ hB)).mono ?_)
  rintro e wc9 ⟨B9, m9, d9, rfl, hw9, hb⟩
  have hB := keep_below hB hb
  have HN1 := Lib.hid (HN1.out.below hb)
  have HN2 := Lib.hid (HN2.out.below hb)
  have g3 := keep_cell hb g3
  have g4 := keep_cell hb g4
  have HN5 := Lib.hid (HN5.out.below hb)
  have HN6 := Lib.hid (HN6.out.below hb)
  have g7 := keep_cell hb g7
  have g8 := keep_cell hb g8
  have HN9 := Lib.hid hw9
  clear hb hw9
  obtain ⟨b1, b2, bz⟩ := box1 wc9 29 #[.slice B9 m9 d9]
  have hB := keep_below hB b1
  have HN1 := Lib.hid (HN1.out.below b1)
  have HN2 := Lib.hid (HN2.out.below b1)
  have g3 := keep_cell b1 g3
  have g4 := keep_cell b1 g4
  have HN5 := Lib.hid (HN5.out.below b1)
  have HN6 := Lib.hid (HN6.out.below b1)
  have g7 := keep_cell b1 g7
  have g8 := keep_cell b1 g8
  have HN9 := Lib.hid (HN9.out.below b1)
  have g10 : (wc9.alloc (.cells #[.slice B9 m9 d9] 29)).cell? ⟨wc9.heap.size, 0, none⟩ = some (.slice B9 m9 d9) := b2.cell 0
  clear b1 b2 bz
  go_wp2_with fail
  generalize wc9.alloc (.cells #[.slice B9 m9 d9] 29) = W10 at *
  generalize wc9.heap.size = q10 at *
  have CP11 : Hid (copB (x / Nat.gcd x y) (y / Nat.gcd x y) = true) := cop_yes (Nat.gcd_pos_of_pos_right _ (Nat.pos_of_ne_zero Hhb.out))
  have C0 := Lib.hid (fun w' (h : Below W10.heap.size W10 w') => CP11.out ▸ HGC.out.coprime (x / Nat.gcd x y) (y / Nat.gcd x y) B5 B6 m5 m6 d5 d6 w' (HN5.out.below h) (HN6.out.below h) (by have := Sz.words HZ5.out HN5.out; omega) (by have := Sz.words HZ6.out HN6.out; omega) (HTB.out _ (keep_below hB h)))
  have HZ12 : Hid (Sz (K + (K + K)) ((x / Nat.gcd x y) * (Nat.gcd x y))) := Sz.mul HZ5.out HZ9.out
  have C1 := Lib.hid (fun w' (h : Below W10.heap.size W10 w') => prod_mul (x / Nat.gcd x y) (Nat.gcd x y) B5 B9 m5 m9 d5 d9 w' (HN5.out.below h) (HN9.out.below h) (by have := Sz.words HZ5.out HN5.out; omega) (by have := Sz.words HZ9.out HN9.out; omega))
  have C2 := Lib.hid (fun w' (h : Below W10.heap.size W10 w') B12 m12 d12 (hw12 : WordsIn w' ((x / Nat.gcd x y) * (Nat.gcd x y)) B12 m12 d12) => cmpEq (x := (x / Nat.gcd x y) * (Nat.gcd x y)) (y := x) (Nat.div_mul_cancel (Nat.gcd_dvd_left x y)) hw12 (HN1.out.below h) (by have := Sz.words HZ12.out hw12; omega) (by have := Sz.words HZ1.out HN1.out; omega))
  have HZ13 : Hid (Sz (K + (K + K)) ((y / Nat.gcd x y) * (Nat.gcd x y))) := Sz.mul HZ6.out HZ9.out
  have C3 := Lib.hid (fun w' (h : Below W10.heap.size W10 w') => prod_mul (y / Nat.gcd x y) (Nat.gcd x y) B6 B9 m6 m9 d6 d9 w' (HN6.out.below h) (HN9.out.below h) (by have := Sz.words HZ6.out HN6.out; omega) (by have := Sz.words HZ9.out HN9.out; omega))
  have C4 := Lib.hid (fun w' (h : Below W10.heap.size W10 w') B13 m13 d13 (hw13 : WordsIn w' ((y / Nat.gcd x y) * (Nat.gcd x y)) B13 m13 d13) => cmpEq (x := (y / Nat.gcd x y) * (Nat.gcd x y)) (y := y) (Nat.div_mul_cancel (Nat.gcd_dvd_right x y)) hw13 (HN2.out.below h) (by have := Sz.words HZ13.out hw13; omega) (by have := Sz.words HZ2.out HN2.out; omega))
  have hb0 : Below W10.heap.size W10 W10.drew := (Below.refl _ W10).drew
  have j0 : W10.drew.cell? ⟨q6, 0, none⟩ = some (.slice B5 m5 d5) := g7
  have j1 : W10.drew.cell? ⟨q6 + 1, 0, none⟩ = some (.slice B6 m6 d6) := g8
  have j2 : W10.drew.cell? ⟨q10, 0, none⟩ = some (.slice B9 m9 d9) := g10
  have j3 : W10.drew.cell? ⟨q4, 0, none⟩ = some (.slice B1 m1 d1) := g3
  have j4 : W10.drew.cell? ⟨q4 + 1, 0, none⟩ = some (.slice B2 m2 d2) := g4
  go_region_held3 (fun w' => Below W10.heap.size W10 w' ∧ w'.cell? ⟨q6, 0, none⟩ = some (.slice B5 m5 d5) ∧ w'.cell? ⟨q6 + 1, 0, none⟩ = some (.slice B6 m6 d6) ∧ w'.cell? ⟨q10, 0, none⟩ = some (.slice B9 m9 d9) ∧ w'.cell? ⟨q4, 0, none⟩ = some (.slice B1 m1 d1) ∧ w'.cell? ⟨q4 + 1, 0, none⟩ = some (.slice B2 m2 d2))
    (first | (with_reducible exact ⟨hb0, j0, j1, j2, j3, j4⟩) | (go_split_ands; (repeat' apply And.intro); all_goals (first | with_reducible assumption | with_reducible exact keep_below (by with_reducible assumption) hb | with_reducible exact keep_cell hb (by with_reducible assumption) | with_reducible exact keep_below_alloc _ (by with_reducible assumption) | with_reducible exact keep_cell_alloc _ (by with_reducible assumption) | with_reducible exact keep_below_alloc _ (keep_below_alloc _ (by with_reducible assumption)) | with_reducible exact keep_cell_alloc _ (keep_cell_alloc _ (by with_reducible assumption)) | with_reducible exact keep_below_alloc _ (keep_below_alloc _ (keep_below_alloc _ (by with_reducible assumption))) | with_reducible exact keep_cell_alloc _ (keep_cell_alloc _ (keep_cell_alloc _ (by with_reducible assumption))))))
    (first
      | (go_at_call 15; (with_reducible refine (C0.out _ (by first | with_reducible assumption | exact And.left (by with_reducible assumption))).mono ?_); rintro e wa11 ⟨rfl, hb⟩; go_split_ands; have hBw : Below W10.heap.size W10 wa11 := keep_below (by with_reducible assumption) hb; have gw0 : wa11.cell? ⟨q6, 0, none⟩ = some (.slice B5 m5 d5) := keep_cell hb (by with_reducible assumption); have gw1 : wa11.cell? ⟨q6 + 1, 0, none⟩ = some (.slice B6 m6 d6) := keep_cell hb (by with_reducible assumption); have gw2 : wa11.cell? ⟨q10, 0, none⟩ = some (.slice B9 m9 d9) := keep_cell hb (by with_reducible assumption); have gw3 : wa11.cell? ⟨q4, 0, none⟩ = some (.slice B1 m1 d1) := keep_cell hb (by with_reducible assumption); have gw4 : wa11.cell? ⟨q4 + 1, 0, none⟩ = some (.slice B2 m2 d2) := keep_cell hb (by with_reducible assumption))
      | (go_at_call 17; (with_reducible refine (C1.out _ (by first | with_reducible assumption | exact And.left (by with_reducible assumption))).mono ?_); rintro e wa12 ⟨B12, m12, d12, rfl, hw12, hb, _⟩; go_split_ands; have hBw : Below W10.heap.size W10 wa12 := keep_below (by with_reducible assumption) hb; have gw0 : wa12.cell? ⟨q6, 0, none⟩ = some (.slice B5 m5 d5) := keep_cell hb (by with_reducible assumption); have gw1 : wa12.cell? ⟨q6 + 1, 0, none⟩ = some (.slice B6 m6 d6) := keep_cell hb (by with_reducible assumption); have gw2 : wa12.cell? ⟨q10, 0, none⟩ = some (.slice B9 m9 d9) := keep_cell hb (by with_reducible assumption); have gw3 : wa12.cell? ⟨q4, 0, none⟩ = some (.slice B1 m1 d1) := keep_cell hb (by with_reducible assumption); have gw4 : wa12.cell? ⟨q4 + 1, 0, none⟩ = some (.slice B2 m2 d2) := keep_cell hb (by with_reducible assumption))
      | (go_at_call 20; (with_reducible refine (C2.out _ (by first | with_reducible assumption | exact And.left (by with_reducible assumption)) _ _ _ hw12).mono ?_); rintro e wa13 ⟨rfl, hb⟩; go_split_ands; have hBw : Below W10.heap.size W10 wa13 := keep_below (by with_reducible assumption) hb; have gw0 : wa13.cell? ⟨q6, 0, none⟩ = some (.slice B5 m5 d5) := keep_cell hb (by with_reducible assumption); have gw1 : wa13.cell? ⟨q6 + 1, 0, none⟩ = some (.slice B6 m6 d6) := keep_cell hb (by with_reducible assumption); have gw2 : wa13.cell? ⟨q10, 0, none⟩ = some (.slice B9 m9 d9) := keep_cell hb (by with_reducible assumption); have gw3 : wa13.cell? ⟨q4, 0, none⟩ = some (.slice B1 m1 d1) := keep_cell hb (by with_reducible assumption); have gw4 : wa13.cell? ⟨q4 + 1, 0, none⟩ = some (.slice B2 m2 d2) := keep_cell hb (by with_reducible assumption); (first | (with_reducible have hw12 := WordsIn.below hw12 hb) | (with_reducible have hw12 := WordsIn.below (WordsIn.below hw12 (up_alloc _ _)) hb) | (with_reducible have hw12 := WordsIn.below (WordsIn.below (WordsIn.below hw12 (up_alloc _ _)) (up_alloc _ _)) hb)))
      | (go_at_call 17; (with_reducible refine (C3.out _ (by first | with_reducible assumption | exact And.left (by with_reducible assumption))).mono ?_); rintro e wa14 ⟨B13, m13, d13, rfl, hw13, hb, _⟩; go_split_ands; have hBw : Below W10.heap.size W10 wa14 := keep_below (by with_reducible assumption) hb; have gw0 : wa14.cell? ⟨q6, 0, none⟩ = some (.slice B5 m5 d5) := keep_cell hb (by with_reducible assumption); have gw1 : wa14.cell? ⟨q6 + 1, 0, none⟩ = some (.slice B6 m6 d6) := keep_cell hb (by with_reducible assumption); have gw2 : wa14.cell? ⟨q10, 0, none⟩ = some (.slice B9 m9 d9) := keep_cell hb (by with_reducible assumption); have gw3 : wa14.cell? ⟨q4, 0, none⟩ = some (.slice B1 m1 d1) := keep_cell hb (by with_reducible assumption); have gw4 : wa14.cell? ⟨q4 + 1, 0, none⟩ = some (.slice B2 m2 d2) := keep_cell hb (by with_reducible assumption); (first | (with_reducible have hw12 := WordsIn.below hw12 hb) | (with_reducible have hw12 := WordsIn.below (WordsIn.below hw12 (up_alloc _ _)) hb) | (with_reducible have hw12 := WordsIn.below (WordsIn.below (WordsIn.below hw12 (up_alloc _ _)) (up_alloc _ _)) hb)))
      | (go_at_call 20; (with_reducible refine (C4.out _ (by first | with_reducible assumption | exact And.left (by with_reducible assumption)) _ _ _ hw13).mono ?_); rintro e wa15 ⟨rfl, hb⟩; go_split_ands; have hBw : Below W10.heap.size W10 wa15 := keep_below (by with_reducible assumption) hb; have gw0 : wa15.cell? ⟨q6, 0, none⟩ = some (.slice B5 m5 d5) := keep_cell hb (by with_reducible assumption); have gw1 : wa15.cell? ⟨q6 + 1, 0, none⟩ = some (.slice B6 m6 d6) := keep_cell hb (by with_reducible assumption); have gw2 : wa15.cell? ⟨q10, 0, none⟩ = some (.slice B9 m9 d9) := keep_cell hb (by with_reducible assumption); have gw3 : wa15.cell? ⟨q4, 0, none⟩ = some (.slice B1 m1 d1) := keep_cell hb (by with_reducible assumption); have gw4 : wa15.cell? ⟨q4 + 1, 0, none⟩ = some (.slice B2 m2 d2) := keep_cell hb (by with_reducible assumption); (first | (with_reducible have hw12 := WordsIn.below hw12 hb) | (with_reducible have hw12 := WordsIn.below (WordsIn.below hw12 (up_alloc _ _)) hb) | (with_reducible have hw12 := WordsIn.below (WordsIn.below (WordsIn.below hw12 (up_alloc _ _)) (up_alloc _ _)) hb)); (first | (with_reducible have hw13 := WordsIn.below hw13 hb) | (with_reducible have hw13 := WordsIn.below (WordsIn.below hw13 (up_alloc _ _)) hb) | (with_reducible have hw13 := WordsIn.below (WordsIn.below (WordsIn.below hw13 (up_alloc _ _)) (up_alloc _ _)) hb))))
  clear hb
  have hB := keep_below hB hBw
  have HN1 := Lib.hid (HN1.out.below hBw)
  have HN2 := Lib.hid (HN2.out.below hBw)
  have g3 := keep_cell hBw g3
  have g4 := keep_cell hBw g4
  have HN5 := Lib.hid (HN5.out.below hBw)
  have HN6 := Lib.hid (HN6.out.below hBw)
  have g7 := keep_cell hBw g7
  have g8 := keep_cell hBw g8
  have HN9 := Lib.hid (HN9.out.below hBw)
  have g10 := keep_cell hBw g10
  have HN12 := Lib.hid hw12
  have HN13 := Lib.hid hw13
  clear hb0 hBw gw0 gw1 gw2 gw3 gw4 hw12 hw13
  clear j0
  clear j1
  clear j2
  clear j3
  clear j4
  clear C0 C1 C2 C3 C4
  go_wp2
  go_ret
  exact ⟨by first | rfl | simp, hB⟩
set_option maxHeartbeats 16000000 in
theorem gcdReduces_x (QC : QuotC) (GC : GcdC) (A0 : Option Addr) (n0 c0 : Nat) (l0 : List Nat) (A1 : Option Addr) (n1 c1 : Nat) (l1 : List Nat) (w : World) (h0 : ArgWords w A0 n0 c0 l0) (h1 : ArgWords w A1 n1 c1 l1) (hT : TabAt w) (ha : (dv 18446744073709551616 l0) ≠ 0) :
    Calls Tryd.prog 5 #[.slice A0 n0 c0, .slice A1 n1 c1] w fun e w' => e = .returned (.bool true) ∧ Below w.heap.size w w' := by
  have HQC := Lib.hid QC
  have HGC := Lib.hid GC
  have HTB := Lib.hid (fun w' (h : Below w.heap.size w w') => hT.on h)
  obtain ⟨K, hK⟩ : ∃ K, 1048576 = K := ⟨_, rfl⟩
  have O0 := arg_of h0
  have S0 := arg_sz h0
  have O1 := arg_of h1
  have S1 := arg_sz h1
  rw [hK] at S0 S1
  have hK2 : K ≤ 1048576 := by omega
  obtain ⟨x, hx0⟩ : ∃ v, dv 18446744073709551616 l0 = v := ⟨_, rfl⟩
  rw [hx0] at O0 S0
  have HO0 := Lib.hid O0
  have HS0 := Lib.hid S0
  obtain ⟨y, hx1⟩ : ∃ v, dv 18446744073709551616 l1 = v := ⟨_, rfl⟩
  rw [hx1] at O1 S1
  have HO1 := Lib.hid O1
  have HS1 := Lib.hid S1
  rw [hx0] at ha
  have Hha := Lib.hid ha
  clear hT QC GC hK O0 S0 h0 hx0 O1 S1 h1 hx1 ha
  go_enter Tryd.func5, Tryd.ntmps5
  have hB := Below.refl w.heap.size w
  go_wp2_with fail
  (with_reducible refine (law5_awake HGC.out _ (HTB.out _ hB)).mono ?_)
  rintro e wc1 ⟨rfl, hb⟩
  have hB := keep_below hB hb
  clear hb 
  go_wp2_with fail
  have HZ1 : Hid (Sz (K) (x)) := HS0.out
  (with_reducible refine (HO0.out _ hB).mono ?_)
  rintro e wc2 ⟨B1, m1, d1, rfl, hw1, hb, _⟩
  have hB := keep_below hB hb
  have HN1 := Lib.hid hw1
  clear hb hw1
  go_wp2_with fail
  have HZ2 : Hid (Sz (K) (y)) := HS1.out
  (with_reducible refine (HO1.out _ hB).mono ?_)
  rintro e wc3 ⟨B2, m2, d2, rfl, hw2, hb, _⟩
  have hB := keep_below hB hb
  have HN1 := Lib.hid (HN1.out.below hb)
  have HN2 := Lib.hid hw2
  clear hb hw2
  have gm3_2 : ((wc3.alloc (.cells #[.slice B1 m1 d1] 29)).alloc (.cells #[.slice B2 m2 d2] 29)).cell? ⟨wc3.heap.size, 0, none⟩ = some (.slice B1 m1 d1) := by
    obtain ⟨c1, c2, c3, _⟩ := box2 wc3 29 29 #[.slice B1 m1 d1] #[.slice B2 m2 d2]
    exact c2.cell 0
  have gm4_2 : ((wc3.alloc (.cells #[.slice B1 m1 d1] 29)).alloc (.cells #[.slice B2 m2 d2] 29)).cell? ⟨wc3.heap.size + 1, 0, none⟩ = some (.slice B2 m2 d2) := by
    obtain ⟨c1, c2, c3, _⟩ := box2 wc3 29 29 #[.slice B1 m1 d1] #[.slice B2 m2 d2]
    exact c3.cell 0
  obtain ⟨b1, b2, b3, bz⟩ := box2 wc3 29 29 #[.slice B1 m1 d1] #[.slice B2 m2 d2]
  have hB := keep_below hB b1
  have HN1 := Lib.hid (HN1.out.below b1)
  have HN2 := Lib.hid (HN2.out.below b1)
  have g3 : ((wc3.alloc (.cells #[.slice B1 m1 d1] 29)).alloc (.cells #[.slice B2 m2 d2] 29)).cell? ⟨wc3.heap.size, 0, none⟩ = some (.slice B1 m1 d1) := b2.cell 0
  have g4 : ((wc3.alloc (.cells #[.slice B1 m1 d1] 29)).alloc (.cells #[.slice B2 m2 d2] 29)).cell? ⟨wc3.heap.size + 1, 0, none⟩ = some (.slice B2 m2 d2) := b3.cell 0
  clear b1 b2 b3 bz
  go_wp2_with fail
  clear gm3_2 gm4_2
  generalize (wc3.alloc (.cells #[.slice B1 m1 d1] 29)).alloc (.cells #[.slice B2 m2 d2] 29) = W4 at *
  generalize wc3.heap.size = q4 at *
  have HZ5 : Hid (Sz (K) (x / Nat.gcd x y)) := Sz.of_le HZ1.out (Nat.div_le_self _ _)
  have HZ6 : Hid (Sz (K) (y / Nat.gcd x y)) := Sz.of_le HZ2.out (Nat.div_le_self _ _)
  (with_reducible refine (HGC.out.reduce (x) (y) B1 B2 m1 m2 d1 d2 _ HN1.out HN2.out (by have := Sz.words HZ1.out HN1.out; omega) (by have := Sz.words HZ2.out HN2.out; omega) (HTB.out _ hB)).mono ?_)
  rintro e wc5 ⟨B5, m5, d5, B6, m6, d6, rfl, hw5, hw6, hb⟩
  have hB := keep_below hB hb
  have HN1 := Lib.hid (HN1.out.below hb)
  have HN2 := Lib.hid (HN2.out.below hb)
  have g3 := keep_cell hb g3
  have g4 := keep_cell hb g4
  have HN5 := Lib.hid hw5
  have HN6 := Lib.hid hw6
  clear hb hw5 hw6
  have gm3_2 : ((wc5.alloc (.cells #[.slice B5 m5 d5] 29)).alloc (.cells #[.slice B6 m6 d6] 29)).cell? ⟨q4, 0, none⟩ = some (.slice B1 m1 d1) := keep_cell_alloc _ (keep_cell_alloc _ (g3))
  obtain ⟨b1, b2, b3, bz⟩ := box2 wc5 29 29 #[.slice B5 m5 d5] #[.slice B6 m6 d6]
  have hB := keep_below hB b1
  have HN1 := Lib.hid (HN1.out.below b1)
  have HN2 := Lib.hid (HN2.out.below b1)
  have g3 := keep_cell b1 g3
  have g4 := keep_cell b1 g4
  have HN5 := Lib.hid (HN5.out.below b1)
  have HN6 := Lib.hid (HN6.out.below b1)
  have g7 : ((wc5.alloc (.cells #[.slice B5 m5 d5] 29)).alloc (.cells #[.slice B6 m6 d6] 29)).cell? ⟨wc5.heap.size, 0, none⟩ = some (.slice B5 m5 d5) := b2.cell 0
  have g8 : ((wc5.alloc (.cells #[.slice B5 m5 d5] 29)).alloc (.cells #[.slice B6 m6 d6] 29)).cell? ⟨wc5.heap.size + 1, 0, none⟩ = some (.slice B6 m6 d6) := b3.cell 0
  clear b1 b2 b3 bz
  go_wp2_with fail
  clear gm3_2
  generalize (wc5.alloc (.cells #[.slice B5 m5 d5] 29)).alloc (.cells #[.slice B6 m6 d6] 29) = W6 at *
  generalize wc5.heap.size = q6 at *
  (with_reducible refine (zero_no Hha.out HN1.out).mono ?_)
  rintro e wc7 ⟨rfl, hb⟩
  have hB := keep_below hB hb
  have HN1 := Lib.hid (HN1.out.below hb)
  have HN2 := Lib.hid (HN2.out.below hb)
  have g3 := keep_cell hb g3
  have g4 := keep_cell hb g4
  have HN5 := Lib.hid (HN5.out.below hb)
  have HN6 := Lib.hid (HN6.out.below hb)
  have g7 := keep_cell hb g7
  have g8 := keep_cell hb g8
  clear hb 
  go_wp2_with fail
  have HZ9 : Hid (Sz (K + K) (Nat.gcd x y)) := Sz.gcd HZ1.out HZ2.out
  (with_reducible refine (HGC.out.of (x) (y) B1 B2 m1 m2 d1 d2 _ HN1.out HN2.out (by have := Sz.words HZ1.out HN1.out; omega) (by have := Sz.words HZ2.out HN2.out; omega) (HTB.out _ hB)).mono ?_)
  rintro e wc8 ⟨B9, m9, d9, rfl, hw9, hb⟩
  have hB := keep_below hB hb
  have HN1 := Lib.hid (HN1.out.below hb)
  have HN2 := Lib.hid (HN2.out.below hb)
  have g3 := keep_cell hb g3
  have g4 := keep_cell hb g4
  have HN5 := Lib.hid (HN5.out.below hb)
  have HN6 := Lib.hid (HN6.out.below hb)
  have g7 := keep_cell hb g7
  have g8 := keep_cell hb g8
  have HN9 := Lib.hid hw9
  clear hb hw9
  obtain ⟨b1, b2, bz⟩ := box1 wc8 29 #[.slice B9 m9 d9]
  have hB := keep_below hB b1
  have HN1 := Lib.hid (HN1.out.below b1)
  have HN2 := Lib.hid (HN2.out.below b1)
  have g3 := keep_cell b1 g3
  have g4 := keep_cell b1 g4
  have HN5 := Lib.hid (HN5.out.below b1)
  have HN6 := Lib.hid (HN6.out.below b1)
  have g7 := keep_cell b1 g7
  have g8 := keep_cell b1 g8
  have HN9 := Lib.hid (HN9.out.below b1)
  have g10 : (wc8.alloc (.cells #[.slice B9 m9 d9] 29)).cell? ⟨wc8.heap.size, 0, none⟩ = some (.slice B9 m9 d9) := b2.cell 0
  clear b1 b2 bz
  go_wp2_with fail
  generalize wc8.alloc (.cells #[.slice B9 m9 d9] 29) = W9 at *
  generalize wc8.heap.size = q9 at *
  have CP11 : Hid (copB (x / Nat.gcd x y) (y / Nat.gcd x y) = true) := cop_yes (Nat.gcd_pos_of_pos_left _ (Nat.pos_of_ne_zero Hha.out))
  have C0 := Lib.hid (fun w' (h : Below W9.heap.size W9 w') => CP11.out ▸ HGC.out.coprime (x / Nat.gcd x y) (y / Nat.gcd x y) B5 B6 m5 m6 d5 d6 w' (HN5.out.below h) (HN6.out.below h) (by have := Sz.words HZ5.out HN5.out; omega) (by have := Sz.words HZ6.out HN6.out; omega) (HTB.out _ (keep_below hB h)))
  have HZ12 : Hid (Sz (K + (K + K)) ((x / Nat.gcd x y) * (Nat.gcd x y))) := Sz.mul HZ5.out HZ9.out
  have C1 := Lib.hid (fun w' (h : Below W9.heap.size W9 w') => prod_mul (x / Nat.gcd x y) (Nat.gcd x y) B5 B9 m5 m9 d5 d9 w' (HN5.out.below h) (HN9.out.below h) (by have := Sz.words HZ5.out HN5.out; omega) (by have := Sz.words HZ9.out HN9.out; omega))
  have C2 := Lib.hid (fun w' (h : Below W9.heap.size W9 w') B12 m12 d12 (hw12 : WordsIn w' ((x / Nat.gcd x y) * (Nat.gcd x y)) B12 m12 d12) => cmpEq (x := (x / Nat.gcd x y) * (Nat.gcd x y)) (y := x) (Nat.div_mul_cancel (Nat.gcd_dvd_left x y)) hw12 (HN1.out.below h) (by have := Sz.words HZ12.out hw12; omega) (by have := Sz.words HZ1.out HN1.out; omega))
  have HZ13 : Hid (Sz (K + (K + K)) ((y / Nat.gcd x y) * (Nat.gcd x y))) := Sz.mul HZ6.out HZ9.out
  have C3 := Lib.hid (fun w' (h : Below W9.heap.size W9 w') => prod_mul (y / Nat.gcd x y) (Nat.gcd x y) B6 B9 m6 m9 d6 d9 w' (HN6.out.below h) (HN9.out.below h) (by have := Sz.words HZ6.out HN6.out; omega) (by have := Sz.words HZ9.out HN9.out; omega))
  have C4 := Lib.hid (fun w' (h : Below W9.heap.size W9 w') B13 m13 d13 (hw13 : WordsIn w' ((y / Nat.gcd x y) * (Nat.gcd x y)) B13 m13 d13) => cmpEq (x := (y / Nat.gcd x y) * (Nat.gcd x y)) (y := y) (Nat.div_mul_cancel (Nat.gcd_dvd_right x y)) hw13 (HN2.out.below h) (by have := Sz.words HZ13.out hw13; omega) (by have := Sz.words HZ2.out HN2.out; omega))
  have hb0 : Below W9.heap.size W9 W9.drew := (Below.refl _ W9).drew
  have j0 : W9.drew.cell? ⟨q6, 0, none⟩ = some (.slice B5 m5 d5) := g7
  have j1 : W9.drew.cell? ⟨q6 + 1, 0, none⟩ = some (.slice B6 m6 d6) := g8
  have j2 : W9.drew.cell? ⟨q9, 0, none⟩ = some (.slice B9 m9 d9) := g10
  have j3 : W9.drew.cell? ⟨q4, 0, none⟩ = some (.slice B1 m1 d1) := g3
  have j4 : W9.drew.cell? ⟨q4 + 1, 0, none⟩ = some (.slice B2 m2 d2) := g4
  go_region_held3 (fun w' => Below W9.heap.size W9 w' ∧ w'.cell? ⟨q6, 0, none⟩ = some (.slice B5 m5 d5) ∧ w'.cell? ⟨q6 + 1, 0, none⟩ = some (.slice B6 m6 d6) ∧ w'.cell? ⟨q9, 0, none⟩ = some (.slice B9 m9 d9) ∧ w'.cell? ⟨q4, 0, none⟩ = some (.slice B1 m1 d1) ∧ w'.cell? ⟨q4 + 1, 0, none⟩ = some (.slice B2 m2 d2))
    (first | (with_reducible exact ⟨hb0, j0, j1, j2, j3, j4⟩) | (go_split_ands; (repeat' apply And.intro); all_goals (first | with_reducible assumption | with_reducible exact keep_below (by with_reducible assumption) hb | with_reducible exact keep_cell hb (by with_reducible assumption) | with_reducible exact keep_below_alloc _ (by with_reducible assumption) | with_reducible exact keep_cell_alloc _ (by with_reducible assumption) | with_reducible exact keep_below_alloc _ (keep_below_alloc _ (by with_reducible assumption)) | with_reducible exact keep_cell_alloc _ (keep_cell_alloc _ (by with_reducible assumption)) | with_reducible exact keep_below_alloc _ (keep_below_alloc _ (keep_below_alloc _ (by with_reducible assumption))) | with_reducible exact keep_cell_alloc _ (keep_cell_alloc _ (keep_cell_alloc _ (by with_reducible assumption))))))
    (first
      | (go_at_call 15; (with_reducible refine (C0.out _ (by first | with_reducible assumption | exact And.left (by with_reducible assumption))).mono ?_); rintro e wa10 ⟨rfl, hb⟩; go_split_ands; have hBw : Below W9.heap.size W9 wa10 := keep_below (by with_reducible assumption) hb; have gw0 : wa10.cell? ⟨q6, 0, none⟩ = some (.slice B5 m5 d5) := keep_cell hb (by with_reducible assumption); have gw1 : wa10.cell? ⟨q6 + 1, 0, none⟩ = some (.slice B6 m6 d6) := keep_cell hb (by with_reducible assumption); have gw2 : wa10.cell? ⟨q9, 0, none⟩ = some (.slice B9 m9 d9) := keep_cell hb (by with_reducible assumption); have gw3 : wa10.cell? ⟨q4, 0, none⟩ = some (.slice B1 m1 d1) := keep_cell hb (by with_reducible assumption); have gw4 : wa10.cell? ⟨q4 + 1, 0, none⟩ = some (.slice B2 m2 d2) := keep_cell hb (by with_reducible assumption))
      | (go_at_call 17; (with_reducible refine (C1.out _ (by first | with_reducible assumption | exact And.left (by with_reducible assumption))).mono ?_); rintro e wa11 ⟨B12, m12, d12, rfl, hw12, hb, _⟩; go_split_ands; have hBw : Below W9.heap.size W9 wa11 := keep_below (by with_reducible assumption) hb; have gw0 : wa11.cell? ⟨q6, 0, none⟩ = some (.slice B5 m5 d5) := keep_cell hb (by with_reducible assumption); have gw1 : wa11.cell? ⟨q6 + 1, 0, none⟩ = some (.slice B6 m6 d6) := keep_cell hb (by with_reducible assumption); have gw2 : wa11.cell? ⟨q9, 0, none⟩ = some (.slice B9 m9 d9) := keep_cell hb (by with_reducible assumption); have gw3 : wa11.cell? ⟨q4, 0, none⟩ = some (.slice B1 m1 d1) := keep_cell hb (by with_reducible assumption); have gw4 : wa11.cell? ⟨q4 + 1, 0, none⟩ = some (.slice B2 m2 d2) := keep_cell hb (by with_reducible assumption))
      | (go_at_call 20; (with_reducible refine (C2.out _ (by first | with_reducible assumption | exact And.left (by with_reducible assumption)) _ _ _ hw12).mono ?_); rintro e wa12 ⟨rfl, hb⟩; go_split_ands; have hBw : Below W9.heap.size W9 wa12 := keep_below (by with_reducible assumption) hb; have gw0 : wa12.cell? ⟨q6, 0, none⟩ = some (.slice B5 m5 d5) := keep_cell hb (by with_reducible assumption); have gw1 : wa12.cell? ⟨q6 + 1, 0, none⟩ = some (.slice B6 m6 d6) := keep_cell hb (by with_reducible assumption); have gw2 : wa12.cell? ⟨q9, 0, none⟩ = some (.slice B9 m9 d9) := keep_cell hb (by with_reducible assumption); have gw3 : wa12.cell? ⟨q4, 0, none⟩ = some (.slice B1 m1 d1) := keep_cell hb (by with_reducible assumption); have gw4 : wa12.cell? ⟨q4 + 1, 0, none⟩ = some (.slice B2 m2 d2) := keep_cell hb (by with_reducible assumption); (first | (with_reducible have hw12 := WordsIn.below hw12 hb) | (with_reducible have hw12 := WordsIn.below (WordsIn.below hw12 (up_alloc _ _)) hb) | (with_reducible have hw12 := WordsIn.below (WordsIn.below (WordsIn.below hw12 (up_alloc _ _)) (up_alloc _ _)) hb)))
      | (go_at_call 17; (with_reducible refine (C3.out _ (by first | with_reducible assumption | exact And.left (by with_reducible assumption))).mono ?_); rintro e wa13 ⟨B13, m13, d13, rfl, hw13, hb, _⟩; go_split_ands; have hBw : Below W9.heap.size W9 wa13 := keep_below (by with_reducible assumption) hb; have gw0 : wa13.cell? ⟨q6, 0, none⟩ = some (.slice B5 m5 d5) := keep_cell hb (by with_reducible assumption); have gw1 : wa13.cell? ⟨q6 + 1, 0, none⟩ = some (.slice B6 m6 d6) := keep_cell hb (by with_reducible assumption); have gw2 : wa13.cell? ⟨q9, 0, none⟩ = some (.slice B9 m9 d9) := keep_cell hb (by with_reducible assumption); have gw3 : wa13.cell? ⟨q4, 0, none⟩ = some (.slice B1 m1 d1) := keep_cell hb (by with_reducible assumption); have gw4 : wa13.cell? ⟨q4 + 1, 0, none⟩ = some (.slice B2 m2 d2) := keep_cell hb (by with_reducible assumption); (first | (with_reducible have hw12 := WordsIn.below hw12 hb) | (with_reducible have hw12 := WordsIn.below (WordsIn.below hw12 (up_alloc _ _)) hb) | (with_reducible have hw12 := WordsIn.below (WordsIn.below (WordsIn.below hw12 (up_alloc _ _)) (up_alloc _ _)) hb)))
      | (go_at_call 20; (with_reducible refine (C4.out _ (by first | with_reducible assumption | exact And.left (by with_reducible assumption)) _ _ _ hw13).mono ?_); rintro e wa14 ⟨rfl, hb⟩; go_split_ands; have hBw : Below W9.heap.size W9 wa14 := keep_below (by with_reducible assumption) hb; have gw0 : wa14.cell? ⟨q6, 0, none⟩ = some (.slice B5 m5 d5) := keep_cell hb (by with_reducible assumption); have gw1 : wa14.cell? ⟨q6 + 1, 0, none⟩ = some (.slice B6 m6 d6) := keep_cell hb (by with_reducible assumption); have gw2 : wa14.cell? ⟨q9, 0, none⟩ = some (.slice B9 m9 d9) := keep_cell hb (by with_reducible assumption); have gw3 : wa14.cell? ⟨q4, 0, none⟩ = some (.slice B1 m1 d1) := keep_cell hb (by with_reducible assumption); have gw4 : wa14.cell? ⟨q4 + 1, 0, none⟩ = some (.slice B2 m2 d2) := keep_cell hb (by with_reducible assumption); (first | (with_reducible have hw12 := WordsIn.below hw12 hb) | (with_reducible have hw12 := WordsIn.below (WordsIn.below hw12 (up_alloc _ _)) hb) | (with_reducible have hw12 := WordsIn.below (WordsIn.below (WordsIn.below hw12 (up_alloc _ _)) (up_alloc _ _)) hb)); (first | (with_reducible have hw13 := WordsIn.below hw13 hb) | (with_reducible have hw13 := WordsIn.below (WordsIn.below hw13 (up_alloc _ _)) hb) | (with_reducible have hw13 := WordsIn.below (WordsIn.below (WordsIn.below hw13 (up_alloc _ _)) (up_alloc _ _)) hb))))
  clear hb
  have hB := keep_below hB hBw
  have HN1 := Lib.hid (HN1.out.below hBw)
  have HN2 := Lib.hid (HN2.out.below hBw)
  have g3 := keep_cell hBw g3
  have g4 := keep_cell hBw g4
  have HN5 := Lib.hid (HN5.out.below hBw)
  have HN6 := Lib.hid (HN6.out.below hBw)
  have g7 := keep_cell hBw g7
  have g8 := keep_cell hBw g8
  have HN9 := Lib.hid (HN9.out.below hBw)
  have g10 := keep_cell hBw g10
  have HN12 := Lib.hid hw12
  have HN13 := Lib.hid hw13
  clear hb0 hBw gw0 gw1 gw2 gw3 gw4 hw12 hw13
  clear j0
  clear j1
  clear j2
  clear j3
  clear j4
  clear C0 C1 C2 C3 C4
  go_wp2
  go_ret
  exact ⟨by first | rfl | simp, hB⟩
theorem gcdReduces_walk (QC : QuotC) (GC : GcdC) (A0 : Option Addr) (n0 c0 : Nat) (l0 : List Nat) (A1 : Option Addr) (n1 c1 : Nat) (l1 : List Nat) (w : World) (h0 : ArgWords w A0 n0 c0 l0) (h1 : ArgWords w A1 n1 c1 l1) (hT : TabAt w) :
    Calls Tryd.prog 5 #[.slice A0 n0 c0, .slice A1 n1 c1] w fun e w' => e = .returned (.bool true) ∧ Below w.heap.size w w' := by
  by_cases ca : dv 18446744073709551616 l0 = 0
  · by_cases cb : dv 18446744073709551616 l1 = 0
    · exact gcdReduces_no QC GC A0 n0 c0 l0 A1 n1 c1 l1 w h0 h1 hT ca cb
    · exact gcdReduces_y QC GC A0 n0 c0 l0 A1 n1 c1 l1 w h0 h1 hT ca cb
  · exact gcdReduces_x QC GC A0 n0 c0 l0 A1 n1 c1 l1 w h0 h1 hT ca
end Go.Proofs.YtplgbokgfphjaaaDoor
