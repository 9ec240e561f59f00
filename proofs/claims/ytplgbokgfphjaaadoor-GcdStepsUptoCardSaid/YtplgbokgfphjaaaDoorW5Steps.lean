/-
  The walk of the law GcdSteps. Conditions: the words that came in are words, at most 1048576 of each; quot's and gcd's functions do as QuotC and GcdC say.
-/
import Derived.Test.YtplgbokgfphjaaaDoorRows
import Derived.Test.YtplgbokgfphjaaaDoorNNums
import Derived.Test.YtplgbokgfphjaaaDoorW5Awake
import Derived.Test.YtplgbokgfphjaaaDoorPMul
import Derived.Test.YtplgbokgfphjaaaDoorNAdd
import Derived.WalkKit
import Derived.Lib.Hide
import Derived.Outline
import Derived.Deep.RegionHeld3
import Derived.IntWalk
import Derived.Deep.DeepCutAuto
import Derived.Deep.CutBlock
namespace Go.Proofs.YtplgbokgfphjaaaDoor
open Go Go.RowKit
set_option maxRecDepth 100000
set_option linter.unusedVariables false
set_option linter.unusedSimpArgs false
theorem gcd_step (x y : Nat) : Nat.gcd (x + y) y = Nat.gcd x y := Nat.gcd_add_self_left y x
set_option maxHeartbeats 16000000 in
theorem gcdSteps_walk (QC : QuotC) (GC : GcdC) (A0 : Option Addr) (n0 c0 : Nat) (l0 : List Nat) (A1 : Option Addr) (n1 c1 : Nat) (l1 : List Nat) (w : World) (h0 : ArgWords w A0 n0 c0 l0) (h1 : ArgWords w A1 n1 c1 l1) (hT : TabAt w)  :
    Calls Tryd.prog 7 #[.slice A0 n0 c0, .slice A1 n1 c1] w fun e w' => e = .returned (.bool true) ∧ Below w.heap.size w w' := by
  have HQC := Lib.hid QC
  have HGC := Lib.hid GC
  have HTB := Lib.hid (fun w' (h : Below w.heap.size w w') => hT.on h)
  obtain ⟨K, hK⟩ : ∃ K, 1048576 = K := ⟨_, rfl⟩
  have O0 := arg_of h0
  have S0 := arg_sz h0
  have O1 := arg_of h1
  have S1 := arg_sz h1
  rw [hK] at S0 S1
  have hK2 : K ≤ 1048576 := by omega
  obtain ⟨x, hx0⟩ : ∃ v, dv 18446744073709551616 l0 = v := ⟨_, rfl⟩
  rw [hx0] at O0 S0
  have HO0 := Lib.hid O0
  have HS0 := Lib.hid S0
  obtain ⟨y, hx1⟩ : ∃ v, dv 18446744073709551616 l1 = v := ⟨_, rfl⟩
  rw [hx1] at O1 S1
  have HO1 := Lib.hid O1
  have HS1 := Lib.hid S1
  clear hT QC GC hK O0 S0 h0 hx0 O1 S1 h1 hx1 
  go_enter Tryd.func7, Tryd.ntmps7
  have hB := Below.refl w.heap.size w
  go_wp2_with fail
  (with_reducible refine (law5_awake HGC.out _ (HTB.out _ hB)).mono ?_)
  rintro e wc1 ⟨rfl, hb⟩
  have hB := keep_below hB hb
  clear hb 
  go_wp2_with fail
  have HZ1 : Hid (Sz (K) (x)) := HS0.out
  (with_reducible refine (HO0.out _ hB).mono ?_)
  rintro e wc2 ⟨B1, m1, d1, rfl, hw1, hb, _⟩
  have hB := keep_below hB hb
  have HN1 := Lib.hid hw1
  clear hb hw1
  go_wp2_with fail
  have HZ2 : Hid (Sz (K) (y)) := HS1.out
  (with_reducible refine (HO1.out _ hB).mono ?_)
  rintro e wc3 ⟨B2, m2, d2, rfl, hw2, hb, _⟩
  have hB := keep_below hB hb
  have HN1 := Lib.hid (HN1.out.below hb)
  have HN2 := Lib.hid hw2
  clear hb hw2
  have gm3_2 : ((wc3.alloc (.cells #[.slice B1 m1 d1] 29)).alloc (.cells #[.slice B2 m2 d2] 29)).cell? ⟨wc3.heap.size, 0, none⟩ = some (.slice B1 m1 d1) := by
    obtain ⟨c1, c2, c3, _⟩ := box2 wc3 29 29 #[.slice B1 m1 d1] #[.slice B2 m2 d2]
    exact c2.cell 0
  have gm4_2 : ((wc3.alloc (.cells #[.slice B1 m1 d1] 29)).alloc (.cells #[.slice B2 m2 d2] 29)).cell? ⟨wc3.heap.size + 1, 0, none⟩ = some (.slice B2 m2 d2) := by
    obtain ⟨c1, c2, c3, _⟩ := box2 wc3 29 29 #[.slice B1 m1 d1] #[.slice B2 m2 d2]
    exact c3.cell 0
  obtain ⟨b1, b2, b3, bz⟩ := box2 wc3 29 29 #[.slice B1 m1 d1] #[.slice B2 m2 d2]
  have hB := keep_below hB b1
  have HN1 := Lib.hid (HN1.out.below b1)
  have HN2 := Lib.hid (HN2.out.below b1)
  have g3 : ((wc3.alloc (.cells #[.slice B1 m1 d1] 29)).alloc (.cells #[.slice B2 m2 d2] 29)).cell? ⟨wc3.heap.size, 0, none⟩ = some (.slice B1 m1 d1) := b2.cell 0
  have g4 : ((wc3.alloc (.cells #[.slice B1 m1 d1] 29)).alloc (.cells #[.slice B2 m2 d2] 29)).cell? ⟨wc3.heap.size + 1, 0, none⟩ = some (.slice B2 m2 d2) := b3.cell 0
  clear b1 b2 b3 bz
  go_wp2_with fail
  clear gm3_2 gm4_2
  generalize (wc3.alloc (.cells #[.slice B1 m1 d1] 29)).alloc (.cells #[.slice B2 m2 d2] 29) = W4 at *
  generalize wc3.heap.size = q4 at *
  have HZ5 : Hid (Sz (K + K) (Nat.gcd x y)) := Sz.gcd HZ1.out HZ2.out
  (with_reducible refine (HGC.out.of (x) (y) B1 B2 m1 m2 d1 d2 _ HN1.out HN2.out (by have := Sz.words HZ1.out HN1.out; omega) (by have := Sz.words HZ2.out HN2.out; omega) (HTB.out _ hB)).mono ?_)
  rintro e wc5 ⟨B5, m5, d5, rfl, hw5, hb⟩
  have hB := keep_below hB hb
  have HN1 := Lib.hid (HN1.out.below hb)
  have HN2 := Lib.hid (HN2.out.below hb)
  have g3 := keep_cell hb g3
  have g4 := keep_cell hb g4
  have HN5 := Lib.hid hw5
  clear hb hw5
  obtain ⟨b1, b2, bz⟩ := box1 wc5 29 #[.slice B5 m5 d5]
  have hB := keep_below hB b1
  have HN1 := Lib.hid (HN1.out.below b1)
  have HN2 := Lib.hid (HN2.out.below b1)
  have g3 := keep_cell b1 g3
  have g4 := keep_cell b1 g4
  have HN5 := Lib.hid (HN5.out.below b1)
  have g6 : (wc5.alloc (.cells #[.slice B5 m5 d5] 29)).cell? ⟨wc5.heap.size, 0, none⟩ = some (.slice B5 m5 d5) := b2.cell 0
  clear b1 b2 bz
  go_wp2_with fail
  generalize wc5.alloc (.cells #[.slice B5 m5 d5] 29) = W6 at *
  generalize wc5.heap.size = q6 at *
  have HZ7 : Hid (Sz (K + K + 1) (x + y)) := Sz.add (Sz.up HZ1.out (by omega)) (Sz.up HZ2.out (by omega))
  have C0 := Lib.hid (fun w' (h : Below W6.heap.size W6 w') => nat_add (x) (y) B1 B2 m1 m2 d1 d2 w' (HN1.out.below h) (HN2.out.below h) (by have := Sz.words HZ1.out HN1.out; omega) (by have := Sz.words HZ2.out HN2.out; omega))
  have HZ8 : Hid (Sz ((K + K + 1) + K) (Nat.gcd (x + y) y)) := Sz.gcd HZ7.out HZ2.out
  have C1 := Lib.hid (fun w' (h : Below W6.heap.size W6 w') B7 m7 d7 (hw7 : WordsIn w' (x + y) B7 m7 d7) => HGC.out.of (x + y) (y) B7 B2 m7 m2 d7 d2 w' hw7 (HN2.out.below h) (by have := Sz.words HZ7.out hw7; omega) (by have := Sz.words HZ2.out HN2.out; omega) (HTB.out _ (keep_below hB h)))
  have C2 := Lib.hid (fun w' (h : Below W6.heap.size W6 w') B8 m8 d8 (hw8 : WordsIn w' (Nat.gcd (x + y) y) B8 m8 d8) => cmpEq (x := Nat.gcd (x + y) y) (y := Nat.gcd x y) (gcd_step x y) hw8 (HN5.out.below h) (by have := Sz.words HZ8.out hw8; omega) (by have := Sz.words HZ5.out HN5.out; omega))
  have HZ9 : Hid (Sz (K + K) (Nat.gcd x x)) := Sz.gcd HZ1.out HZ1.out
  have C3 := Lib.hid (fun w' (h : Below W6.heap.size W6 w') => HGC.out.of (x) (x) B1 B1 m1 m1 d1 d1 w' (HN1.out.below h) (HN1.out.below h) (by have := Sz.words HZ1.out HN1.out; omega) (by have := Sz.words HZ1.out HN1.out; omega) (HTB.out _ (keep_below hB h)))
  have C4 := Lib.hid (fun w' (h : Below W6.heap.size W6 w') B9 m9 d9 (hw9 : WordsIn w' (Nat.gcd x x) B9 m9 d9) => cmpEq (x := Nat.gcd x x) (y := x) (Nat.gcd_self x) hw9 (HN1.out.below h) (by have := Sz.words HZ9.out hw9; omega) (by have := Sz.words HZ1.out HN1.out; omega))
  have HZ10 : Hid (Sz (1) (0)) := (by show (0 : Nat) < 18446744073709551616 ^ 1; decide)
  have C5 := Lib.hid (fun w' (h : Below W6.heap.size W6 w') => nat_of_nil w')
  have HZ11 : Hid (Sz (K + 1) (Nat.gcd x 0)) := Sz.gcd HZ1.out HZ10.out
  have C6 := Lib.hid (fun w' (h : Below W6.heap.size W6 w') B10 m10 d10 (hw10 : WordsIn w' (0) B10 m10 d10) => HGC.out.of (x) (0) B1 B10 m1 m10 d1 d10 w' (HN1.out.below h) hw10 (by have := Sz.words HZ1.out HN1.out; omega) (by have := Sz.words HZ10.out hw10; omega) (HTB.out _ (keep_below hB h)))
  have C7 := Lib.hid (fun w' (h : Below W6.heap.size W6 w') B11 m11 d11 (hw11 : WordsIn w' (Nat.gcd x 0) B11 m11 d11) => cmpEq (x := Nat.gcd x 0) (y := x) (Nat.gcd_zero_right x) hw11 (HN1.out.below h) (by have := Sz.words HZ11.out hw11; omega) (by have := Sz.words HZ1.out HN1.out; omega))
  have hb0 : Below W6.heap.size W6 W6.drew := (Below.refl _ W6).drew
  have j0 : W6.drew.cell? ⟨q4, 0, none⟩ = some (.slice B1 m1 d1) := g3
  have j1 : W6.drew.cell? ⟨q4 + 1, 0, none⟩ = some (.slice B2 m2 d2) := g4
  have j2 : W6.drew.cell? ⟨q6, 0, none⟩ = some (.slice B5 m5 d5) := g6
  go_region_held3 (fun w' => Below W6.heap.size W6 w' ∧ w'.cell? ⟨q4, 0, none⟩ = some (.slice B1 m1 d1) ∧ w'.cell? ⟨q4 + 1, 0, none⟩ = some (.slice B2 m2 d2) ∧ w'.cell? ⟨q6, 0, none⟩ = some (.slice B5 m5 d5))
    (first | (with_reducible exact ⟨hb0, j0, j1, j2⟩) | (go_split_ands; (repeat' apply And.intro); all_goals (first | with_reducible assumption | with_reducible exact keep_below (by with_reducible assumption) hb | with_reducible exact keep_cell hb (by with_reducible assumption) | with_reducible exact keep_below_alloc _ (by with_reducible assumption) | with_reducible exact keep_cell_alloc _ (by with_reducible assumption) | with_reducible exact keep_below_alloc _ (keep_below_alloc _ (by with_reducible assumption)) | with_reducible exact keep_cell_alloc _ (keep_cell_alloc _ (by with_reducible assumption)) | with_reducible exact keep_below_alloc _ (keep_below_alloc _ (keep_below_alloc _ (by with_reducible assumption))) | with_reducible exact keep_cell_alloc _ (keep_cell_alloc _ (keep_cell_alloc _ (by with_reducible assumption))))))
    (first
      | (go_at_call 23; (with_reducible refine (C0.out _ (by first | with_reducible assumption | exact And.left (by with_reducible assumption))).mono ?_); rintro e wa7 ⟨B7, m7, d7, rfl, hw7, hb, _⟩; go_split_ands; have hBw : Below W6.heap.size W6 wa7 := keep_below (by with_reducible assumption) hb; have gw0 : wa7.cell? ⟨q4, 0, none⟩ = some (.slice B1 m1 d1) := keep_cell hb (by with_reducible assumption); have gw1 : wa7.cell? ⟨q4 + 1, 0, none⟩ = some (.slice B2 m2 d2) := keep_cell hb (by with_reducible assumption); have gw2 : wa7.cell? ⟨q6, 0, none⟩ = some (.slice B5 m5 d5) := keep_cell hb (by with_reducible assumption))
      | (go_at_call 14; (with_reducible refine (C1.out _ (by first | with_reducible assumption | exact And.left (by with_reducible assumption)) _ _ _ hw7).mono ?_); rintro e wa8 ⟨B8, m8, d8, rfl, hw8, hb⟩; go_split_ands; have hBw : Below W6.heap.size W6 wa8 := keep_below (by with_reducible assumption) hb; have gw0 : wa8.cell? ⟨q4, 0, none⟩ = some (.slice B1 m1 d1) := keep_cell hb (by with_reducible assumption); have gw1 : wa8.cell? ⟨q4 + 1, 0, none⟩ = some (.slice B2 m2 d2) := keep_cell hb (by with_reducible assumption); have gw2 : wa8.cell? ⟨q6, 0, none⟩ = some (.slice B5 m5 d5) := keep_cell hb (by with_reducible assumption); (first | (with_reducible have hw7 := WordsIn.below hw7 hb) | (with_reducible have hw7 := WordsIn.below (WordsIn.below hw7 (up_alloc _ _)) hb) | (with_reducible have hw7 := WordsIn.below (WordsIn.below (WordsIn.below hw7 (up_alloc _ _)) (up_alloc _ _)) hb)))
      | (go_at_call 20; (with_reducible refine (C2.out _ (by first | with_reducible assumption | exact And.left (by with_reducible assumption)) _ _ _ hw8).mono ?_); rintro e wa9 ⟨rfl, hb⟩; go_split_ands; have hBw : Below W6.heap.size W6 wa9 := keep_below (by with_reducible assumption) hb; have gw0 : wa9.cell? ⟨q4, 0, none⟩ = some (.slice B1 m1 d1) := keep_cell hb (by with_reducible assumption); have gw1 : wa9.cell? ⟨q4 + 1, 0, none⟩ = some (.slice B2 m2 d2) := keep_cell hb (by with_reducible assumption); have gw2 : wa9.cell? ⟨q6, 0, none⟩ = some (.slice B5 m5 d5) := keep_cell hb (by with_reducible assumption); (first | (with_reducible have hw7 := WordsIn.below hw7 hb) | (with_reducible have hw7 := WordsIn.below (WordsIn.below hw7 (up_alloc _ _)) hb) | (with_reducible have hw7 := WordsIn.below (WordsIn.below (WordsIn.below hw7 (up_alloc _ _)) (up_alloc _ _)) hb)); (first | (with_reducible have hw8 := WordsIn.below hw8 hb) | (with_reducible have hw8 := WordsIn.below (WordsIn.below hw8 (up_alloc _ _)) hb) | (with_reducible have hw8 := WordsIn.below (WordsIn.below (WordsIn.below hw8 (up_alloc _ _)) (up_alloc _ _)) hb)))
      | (go_at_call 14; (with_reducible refine (C3.out _ (by first | with_reducible assumption | exact And.left (by with_reducible assumption))).mono ?_); rintro e wa10 ⟨B9, m9, d9, rfl, hw9, hb⟩; go_split_ands; have hBw : Below W6.heap.size W6 wa10 := keep_below (by with_reducible assumption) hb; have gw0 : wa10.cell? ⟨q4, 0, none⟩ = some (.slice B1 m1 d1) := keep_cell hb (by with_reducible assumption); have gw1 : wa10.cell? ⟨q4 + 1, 0, none⟩ = some (.slice B2 m2 d2) := keep_cell hb (by with_reducible assumption); have gw2 : wa10.cell? ⟨q6, 0, none⟩ = some (.slice B5 m5 d5) := keep_cell hb (by with_reducible assumption); (first | (with_reducible have hw7 := WordsIn.below hw7 hb) | (with_reducible have hw7 := WordsIn.below (WordsIn.below hw7 (up_alloc _ _)) hb) | (with_reducible have hw7 := WordsIn.below (WordsIn.below (WordsIn.below hw7 (up_alloc _ _)) (up_alloc _ _)) hb)); (first | (with_reducible have hw8 := WordsIn.below hw8 hb) | (with_reducible have hw8 := WordsIn.below (WordsIn.below hw8 (up_alloc _ _)) hb) | (with_reducible have hw8 := WordsIn.below (WordsIn.below (WordsIn.below hw8 (up_alloc _ _)) (up_alloc _ _)) hb)))
      | (go_at_call 20; (with_reducible refine (C4.out _ (by first | with_reducible assumption | exact And.left (by with_reducible assumption)) _ _ _ hw9).mono ?_); rintro e wa11 ⟨rfl, hb⟩; go_split_ands; have hBw : Below W6.heap.size W6 wa11 := keep_below (by with_reducible assumption) hb; have gw0 : wa11.cell? ⟨q4, 0, none⟩ = some (.slice B1 m1 d1) := keep_cell hb (by with_reducible assumption); have gw1 : wa11.cell? ⟨q4 + 1, 0, none⟩ = some (.slice B2 m2 d2) := keep_cell hb (by with_reducible assumption); have gw2 : wa11.cell? ⟨q6, 0, none⟩ = some (.slice B5 m5 d5) := keep_cell hb (by with_reducible assumption); (first | (with_reducible have hw7 := WordsIn.below hw7 hb) | (with_reducible have hw7 := WordsIn.below (WordsIn.below hw7 (up_alloc _ _)) hb) | (with_reducible have hw7 := WordsIn.below (WordsIn.below (WordsIn.below hw7 (up_alloc _ _)) (up_alloc _ _)) hb)); (first | (with_reducible have hw8 := WordsIn.below hw8 hb) | (with_reducible have hw8 := WordsIn.below (WordsIn.below hw8 (up_alloc _ _)) hb) | (with_reducible have hw8 := WordsIn.below (WordsIn.below (WordsIn.below hw8 (up_alloc _ _)) (up_alloc _ _)) hb)); (first | (with_reducible have hw9 := WordsIn.below hw9 hb) | (with_reducible have hw9 := WordsIn.below (WordsIn.below hw9 (up_alloc _ _)) hb) | (with_reducible have hw9 := WordsIn.below (WordsIn.below (WordsIn.below hw9 (up_alloc _ _)) (up_alloc _ _)) hb)))
      | (go_at_call 12; (with_reducible refine (C5.out _ (by first | with_reducible assumption | exact And.left (by with_reducible assumption))).mono ?_); rintro e wa12 ⟨B10, m10, d10, rfl, hw10, hb, _⟩; go_split_ands; have hBw : Below W6.heap.size W6 wa12 := keep_below (by with_reducible assumption) hb; have gw0 : wa12.cell? ⟨q4, 0, none⟩ = some (.slice B1 m1 d1) := keep_cell hb (by with_reducible assumption); have gw1 : wa12.cell? ⟨q4 + 1, 0, none⟩ = some (.slice B2 m2 d2) := keep_cell hb (by with_reducible assumption); have gw2 : wa12.cell? ⟨q6, 0, none⟩ = some (.slice B5 m5 d5) := keep_cell hb (by with_reducible assumption); (first | (with_reducible have hw7 := WordsIn.below hw7 hb) | (with_reducible have hw7 := WordsIn.below (WordsIn.below hw7 (up_alloc _ _)) hb) | (with_reducible have hw7 := WordsIn.below (WordsIn.below (WordsIn.below hw7 (up_alloc _ _)) (up_alloc _ _)) hb)); (first | (with_reducible have hw8 := WordsIn.below hw8 hb) | (with_reducible have hw8 := WordsIn.below (WordsIn.below hw8 (up_alloc _ _)) hb) | (with_reducible have hw8 := WordsIn.below (WordsIn.below (WordsIn.below hw8 (up_alloc _ _)) (up_alloc _ _)) hb)); (first | (with_reducible have hw9 := WordsIn.below hw9 hb) | (with_reducible have hw9 := WordsIn.below (WordsIn.below hw9 (up_alloc _ _)) hb) | (with_reducible have hw9 := WordsIn.below (WordsIn.below (WordsIn.below hw9 (up_alloc _ _)) (up_alloc _ _)) hb)))
      | (go_at_call 14; (with_reducible refine (C6.out _ (by first | with_reducible assumption | exact And.left (by with_reducible assumption)) _ _ _ hw10).mono ?_); rintro e wa13 ⟨B11, m11, d11, rfl, hw11, hb⟩; go_split_ands; have hBw : Below W6.heap.size W6 wa13 := keep_below (by with_reducible assumption) hb; have gw0 : wa13.cell? ⟨q4, 0, none⟩ = some (.slice B1 m1 d1) := keep_cell hb (by with_reducible assumption); have gw1 : wa13.cell? ⟨q4 + 1, 0, none⟩ = some (.slice B2 m2 d2) := keep_cell hb (by with_reducible assumption); have gw2 : wa13.cell? ⟨q6, 0, none⟩ = some (.slice B5 m5 d5) := keep_cell hb (by with_reducible assumption); (first | (with_reducible have hw7 := WordsIn.below hw7 hb) | (with_reducible have hw7 := WordsIn.below (WordsIn.below hw7 (up_alloc _ _)) hb) | (with_reducible have hw7 := WordsIn.below (WordsIn.below (WordsIn.below hw7 (up_alloc _ _)) (up_alloc _ _)) hb)); (first | (with_reducible have hw8 := WordsIn.below hw8 hb) | (with_reducible have hw8 := WordsIn.below (WordsIn.below hw8 (up_alloc _ _)) hb) | (with_reducible have hw8 := WordsIn.below (WordsIn.below (WordsIn.below hw8 (up_alloc _ _)) (up_alloc _ _)) hb)); (first | (with_reducible have hw9 := WordsIn.below hw9 hb) | (with_reducible have hw9 := WordsIn.below (WordsIn.below hw9 (up_alloc _ _)) hb) | (with_reducible have hw9 := WordsIn.below (WordsIn.below (WordsIn.below hw9 (up_alloc _ _)) (up_alloc _ _)) hb)); (first | (with_reducible have hw10 := WordsIn.below hw10 hb) | (with_reducible have hw10 := WordsIn.below (WordsIn.below hw10 (up_alloc _ _)) hb) | (with_reducible have hw10 := WordsIn.below (WordsIn.below (WordsIn.below hw10 (up_alloc _ _)) (up_alloc _ _)) hb)))
      | (go_at_call 20; (with_reducible refine (C7.out _ (by first | with_reducible assumption | exact And.left (by with_reducible assumption)) _ _ _ hw11).mono ?_); rintro e wa14 ⟨rfl, hb⟩; go_split_ands; have hBw : Below W6.heap.size W6 wa14 := keep_below (by with_reducible assumption) hb; have gw0 : wa14.cell? ⟨q4, 0, none⟩ = some (.slice B1 m1 d1) := keep_cell hb (by with_reducible assumption); have gw1 : wa14.cell? ⟨q4 + 1, 0, none⟩ = some (.slice B2 m2 d2) := keep_cell hb (by with_reducible assumption); have gw2 : wa14.cell? ⟨q6, 0, none⟩ = some (.slice B5 m5 d5) := keep_cell hb (by with_reducible assumption); (first | (with_reducible have hw7 := WordsIn.below hw7 hb) | (with_reducible have hw7 := WordsIn.below (WordsIn.below hw7 (up_alloc _ _)) hb) | (with_reducible have hw7 := WordsIn.below (WordsIn.below (WordsIn.below hw7 (up_alloc _ _)) (up_alloc _ _)) hb)); (first | (with_reducible have hw8 := WordsIn.below hw8 hb) | (with_reducible have hw8 := WordsIn.below (WordsIn.below hw8 (up_alloc _ _)) hb) | (with_reducible have hw8 := WordsIn.below (WordsIn.below (WordsIn.below hw8 (up_alloc _ _)) (up_alloc _ _)) hb)); (first | (with_reducible have hw9 := WordsIn.below hw9 hb) | (with_reducible have hw9 := WordsIn.below (WordsIn.below hw9 (up_alloc _ _)) hb) | (with_reducible have hw9 := WordsIn.below (WordsIn.below (WordsIn.below hw9 (up_alloc _ _)) (up_alloc _ _)) hb)); (first | (with_reducible have hw10 := WordsIn.below hw10 hb) | (with_reducible have hw10 := WordsIn.below (WordsIn.below hw10 (up_alloc _ _)) hb) | (with_reducible have hw10 := WordsIn.below (WordsIn.below (WordsIn.below hw10 (up_alloc _ _)) (up_alloc _ _)) hb)); (first | (with_reducible have hw11 := WordsIn.below hw11 hb) | (with_reducible have hw11 := WordsIn.below (WordsIn.below hw11 (up_alloc _ _)) hb) | (with_reducible have hw11 := WordsIn.below (WordsIn.below (WordsIn.below hw11 (up_alloc _ _)) (up_alloc _ _)) hb))))
  clear hb
  have hB := keep_below hB hBw
  have HN1 := Lib.hid (HN1.out.below hBw)
  have HN2 := Lib.hid (HN2.out.below hBw)
  have g3 := keep_cell hBw g3
  have g4 := keep_cell hBw g4
  have HN5 := Lib.hid (HN5.out.below hBw)
  have g6 := keep_cell hBw g6
  have HN7 := Lib.hid hw7
  have HN8 := Lib.hid hw8
  have HN9 := Lib.hid hw9
  have HN10 := Lib.hid hw10
  have HN11 := Lib.hid hw11
  clear hb0 hBw gw0 gw1 gw2 hw7 hw8 hw9 hw10 hw11
  clear j0
  clear j1
  clear j2
  clear C0 C1 C2 C3 C4 C5 C6 C7
  go_wp2
  go_ret
  exact ⟨by first | rfl | simp, hB⟩
end Go.Proofs.YtplgbokgfphjaaaDoor
