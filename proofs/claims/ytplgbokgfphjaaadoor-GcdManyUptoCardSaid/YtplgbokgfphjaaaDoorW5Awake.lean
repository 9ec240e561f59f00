/-
  The contract of the law's awake (actuarylaw05). Conditions: the words that came in are words, at most 1048576 of each; quot's and gcd's functions do as QuotC and GcdC say.
-/
import Derived.Test.YtplgbokgfphjaaaDoorRows
import Derived.Test.YtplgbokgfphjaaaDoorNNums
import Derived.Test.YtplgbokgfphjaaaDoorP5C
import Derived.Test.YtplgbokgfphjaaaDoorNWrap
import Derived.Test.YtplgbokgfphjaaaDoorBunV
import Derived.WalkKit
import Derived.Lib.Hide
import Derived.Outline
import Derived.Deep.RegionHeld3
import Derived.IntWalk
import Derived.Deep.DeepCutAuto
import Derived.Deep.CutBlock
namespace Go.Proofs.YtplgbokgfphjaaaDoor
open Go Go.RowKit
set_option maxRecDepth 100000
set_option linter.unusedVariables false
set_option linter.unusedSimpArgs false
def SaysYes5 (w : World) (e : Ending) (w' : World) : Prop := e = .returned (.bool true) ∧ Below w.heap.size w w'
theorem g1_dg : dg 18446744073709551616 (Nat.gcd 12 18) = [6] := by rw [show Nat.gcd 12 18 = 6 from by decide]; exact dg_one (a := 6) (by decide) (by decide)
theorem g2_dg : dg 18446744073709551616 (Nat.gcd 0 5) = [5] := by rw [show Nat.gcd 0 5 = 5 from by decide]; exact dg_one (a := 5) (by decide) (by decide)
theorem g3_dg : dg 18446744073709551616 (Nat.lcm 4 6) = [12] := by rw [show Nat.lcm 4 6 = 12 from by decide]; exact dg_one (a := 12) (by decide) (by decide)
theorem g4_dg : dg 18446744073709551616 (12 / Nat.gcd 12 18) = [2] := by rw [show 12 / Nat.gcd 12 18 = 2 from by decide]; exact dg_one (a := 2) (by decide) (by decide)
theorem g5_dg : dg 18446744073709551616 (18 / Nat.gcd 12 18) = [3] := by rw [show 18 / Nat.gcd 12 18 = 3 from by decide]; exact dg_one (a := 3) (by decide) (by decide)
theorem g6_dg : dg 18446744073709551616 (7 / Nat.gcd 0 7) = [1] := by rw [show 7 / Nat.gcd 0 7 = 1 from by decide]; exact dg_one (a := 1) (by decide) (by decide)
theorem g7_dg : dg 18446744073709551616 (lcmL [2, 3, 4]) = [12] := by rw [show lcmL [2, 3, 4] = 12 from by decide]; exact dg_one (a := 12) (by decide) (by decide)
theorem small_dg {x : Nat} (h : x < 18446744073709551616) : (dg 18446744073709551616 x).length ≤ 1073741824 := Nat.le_trans (dg_len_le (by decide) x 1 (by rw [Nat.pow_one]; exact h)) (by decide)
theorem all_nil : ∀ k, k ≤ 0 → (dg 18446744073709551616 (gcdL (([] : List Nat).take k))).length ≤ 1073741824 := fun k hk => by
  obtain rfl : k = 0 := by omega
  exact small_dg (by decide)
theorem least_el : ∀ i, i < 3 → (dg 18446744073709551616 ([2, 3, 4].getD i 0)).length ≤ 1073741824 := fun i hi => match i, hi with
  | 0, _ => small_dg (by decide)
  | 1, _ => small_dg (by decide)
  | 2, _ => small_dg (by decide)
theorem least_sz : ∀ k, k ≤ 3 → (dg 18446744073709551616 (lcmL ([2, 3, 4].take k))).length ≤ 1073741824 := fun k hk => match k, hk with
  | 0, _ => small_dg (by decide)
  | 1, _ => small_dg (by decide)
  | 2, _ => small_dg (by decide)
  | 3, _ => small_dg (by decide)
set_option maxHeartbeats 16000000 in
theorem law5_awake (GC : GcdC) (w : World) (hT : TabAt w) : Calls Tryd.prog 9 #[] w (SaysYes5 w) := by
  have HGC := Lib.hid GC
  have HTB := Lib.hid (fun w' (h : Below w.heap.size w w') => hT.on h)
  clear GC hT
  go_enter Tryd.func9, Tryd.ntmps9
  have hB := Below.refl w.heap.size w
  obtain ⟨b1, b2, bz⟩ := box1 w 35 #[.int .u64 12]
  have hB := keep_below hB b1
  have k1 := b2
  clear b1 b2 bz
  go_wp2_with fail
  generalize w.alloc (.cells #[.int .u64 12] 35) = W1 at *
  have HZ2 : Hid (Sz (1) (12)) := (by show (12 : Nat) < 18446744073709551616 ^ 1; decide)
  (with_reducible refine (of_lits _ [12] _ _ 1 (12) k1 rfl rfl (dgs1 12 (by decide)) rfl (by decide)).mono ?_)
  rintro e wc2 ⟨B2, m2, d2, rfl, hw2, hb, _⟩
  have hB := keep_below hB hb
  have k1 := keep_blk hb k1
  have HN2 := Lib.hid hw2
  clear hb hw2
  obtain ⟨b1, b2, bz⟩ := box1 wc2 35 #[.int .u64 18]
  have hB := keep_below hB b1
  have k1 := keep_blk b1 k1
  have HN2 := Lib.hid (HN2.out.below b1)
  have k3 := b2
  clear b1 b2 bz
  go_wp2_with fail
  generalize wc2.alloc (.cells #[.int .u64 18] 35) = W3 at *
  generalize wc2.heap.size = q3 at *
  have HZ4 : Hid (Sz (1) (18)) := (by show (18 : Nat) < 18446744073709551616 ^ 1; decide)
  (with_reducible refine (of_lits _ [18] _ _ 1 (18) k3 rfl rfl (dgs1 18 (by decide)) rfl (by decide)).mono ?_)
  rintro e wc4 ⟨B4, m4, d4, rfl, hw4, hb, _⟩
  have hB := keep_below hB hb
  have k1 := keep_blk hb k1
  have HN2 := Lib.hid (HN2.out.below hb)
  have k3 := keep_blk hb k3
  have HN4 := Lib.hid hw4
  clear hb hw4
  go_wp2_with fail
  have HZ5 : Hid (Sz (1) (12 / Nat.gcd 12 18)) := Sz.of_le HZ2.out (Nat.div_le_self _ _)
  have HZ6 : Hid (Sz (1) (18 / Nat.gcd 12 18)) := Sz.of_le HZ4.out (Nat.div_le_self _ _)
  (with_reducible refine (HGC.out.reduce (12) (18) B2 B4 m2 m4 d2 d4 _ HN2.out HN4.out (by have := Sz.words HZ2.out HN2.out; omega) (by have := Sz.words HZ4.out HN4.out; omega) (HTB.out _ hB)).mono ?_)
  rintro e wc5 ⟨B5, m5, d5, B6, m6, d6, rfl, hw5, hw6, hb⟩
  have hB := keep_below hB hb
  have k1 := keep_blk hb k1
  have HN2 := Lib.hid (HN2.out.below hb)
  have k3 := keep_blk hb k3
  have HN4 := Lib.hid (HN4.out.below hb)
  have HN5 := Lib.hid hw5
  have HN6 := Lib.hid hw6
  clear hb hw5 hw6
  obtain ⟨b1, b2, b3, bz⟩ := box2 wc5 29 29 #[.slice B5 m5 d5] #[.slice B6 m6 d6]
  have hB := keep_below hB b1
  have k1 := keep_blk b1 k1
  have HN2 := Lib.hid (HN2.out.below b1)
  have k3 := keep_blk b1 k3
  have HN4 := Lib.hid (HN4.out.below b1)
  have HN5 := Lib.hid (HN5.out.below b1)
  have HN6 := Lib.hid (HN6.out.below b1)
  have g7 : ((wc5.alloc (.cells #[.slice B5 m5 d5] 29)).alloc (.cells #[.slice B6 m6 d6] 29)).cell? ⟨wc5.heap.size, 0, none⟩ = some (.slice B5 m5 d5) := b2.cell 0
  have g8 : ((wc5.alloc (.cells #[.slice B5 m5 d5] 29)).alloc (.cells #[.slice B6 m6 d6] 29)).cell? ⟨wc5.heap.size + 1, 0, none⟩ = some (.slice B6 m6 d6) := b3.cell 0
  clear b1 b2 b3 bz
  go_wp2_with fail
  generalize (wc5.alloc (.cells #[.slice B5 m5 d5] 29)).alloc (.cells #[.slice B6 m6 d6] 29) = W6 at *
  generalize wc5.heap.size = q6 at *
  have HZ9 : Hid (Sz (1) (0)) := (by show (0 : Nat) < 18446744073709551616 ^ 1; decide)
  (with_reducible refine (nat_of_nil _).mono ?_)
  rintro e wc7 ⟨B9, m9, d9, rfl, hw9, hb, _⟩
  have hB := keep_below hB hb
  have k1 := keep_blk hb k1
  have HN2 := Lib.hid (HN2.out.below hb)
  have k3 := keep_blk hb k3
  have HN4 := Lib.hid (HN4.out.below hb)
  have HN5 := Lib.hid (HN5.out.below hb)
  have HN6 := Lib.hid (HN6.out.below hb)
  have g7 := keep_cell hb g7
  have g8 := keep_cell hb g8
  have HN9 := Lib.hid hw9
  clear hb hw9
  obtain ⟨b1, b2, bz⟩ := box1 wc7 35 #[.int .u64 7]
  have hB := keep_below hB b1
  have k1 := keep_blk b1 k1
  have HN2 := Lib.hid (HN2.out.below b1)
  have k3 := keep_blk b1 k3
  have HN4 := Lib.hid (HN4.out.below b1)
  have HN5 := Lib.hid (HN5.out.below b1)
  have HN6 := Lib.hid (HN6.out.below b1)
  have g7 := keep_cell b1 g7
  have g8 := keep_cell b1 g8
  have HN9 := Lib.hid (HN9.out.below b1)
  have k10 := b2
  clear b1 b2 bz
  go_wp2_with fail
  generalize wc7.alloc (.cells #[.int .u64 7] 35) = W8 at *
  generalize wc7.heap.size = q8 at *
  have HZ11 : Hid (Sz (1) (7)) := (by show (7 : Nat) < 18446744073709551616 ^ 1; decide)
  (with_reducible refine (of_lits _ [7] _ _ 1 (7) k10 rfl rfl (dgs1 7 (by decide)) rfl (by decide)).mono ?_)
  rintro e wc9 ⟨B11, m11, d11, rfl, hw11, hb, _⟩
  have hB := keep_below hB hb
  have k1 := keep_blk hb k1
  have HN2 := Lib.hid (HN2.out.below hb)
  have k3 := keep_blk hb k3
  have HN4 := Lib.hid (HN4.out.below hb)
  have HN5 := Lib.hid (HN5.out.below hb)
  have HN6 := Lib.hid (HN6.out.below hb)
  have g7 := keep_cell hb g7
  have g8 := keep_cell hb g8
  have HN9 := Lib.hid (HN9.out.below hb)
  have k10 := keep_blk hb k10
  have HN11 := Lib.hid hw11
  clear hb hw11
  go_wp2_with fail
  have HZ12 : Hid (Sz (1) (0 / Nat.gcd 0 7)) := Sz.of_le HZ9.out (Nat.div_le_self _ _)
  have HZ13 : Hid (Sz (1) (7 / Nat.gcd 0 7)) := Sz.of_le HZ11.out (Nat.div_le_self _ _)
  (with_reducible refine (HGC.out.reduce (0) (7) B9 B11 m9 m11 d9 d11 _ HN9.out HN11.out (by have := Sz.words HZ9.out HN9.out; omega) (by have := Sz.words HZ11.out HN11.out; omega) (HTB.out _ hB)).mono ?_)
  rintro e wc10 ⟨B12, m12, d12, B13, m13, d13, rfl, hw12, hw13, hb⟩
  have hB := keep_below hB hb
  have k1 := keep_blk hb k1
  have HN2 := Lib.hid (HN2.out.below hb)
  have k3 := keep_blk hb k3
  have HN4 := Lib.hid (HN4.out.below hb)
  have HN5 := Lib.hid (HN5.out.below hb)
  have HN6 := Lib.hid (HN6.out.below hb)
  have g7 := keep_cell hb g7
  have g8 := keep_cell hb g8
  have HN9 := Lib.hid (HN9.out.below hb)
  have k10 := keep_blk hb k10
  have HN11 := Lib.hid (HN11.out.below hb)
  have HN12 := Lib.hid hw12
  have HN13 := Lib.hid hw13
  clear hb hw12 hw13
  obtain ⟨b1, b2, b3, b4, bz⟩ := box3 wc10 29 29 35 #[.slice B12 m12 d12] #[.slice B13 m13 d13] #[.int .u64 12]
  have hB := keep_below hB b1
  have k1 := keep_blk b1 k1
  have HN2 := Lib.hid (HN2.out.below b1)
  have k3 := keep_blk b1 k3
  have HN4 := Lib.hid (HN4.out.below b1)
  have HN5 := Lib.hid (HN5.out.below b1)
  have HN6 := Lib.hid (HN6.out.below b1)
  have g7 := keep_cell b1 g7
  have g8 := keep_cell b1 g8
  have HN9 := Lib.hid (HN9.out.below b1)
  have k10 := keep_blk b1 k10
  have HN11 := Lib.hid (HN11.out.below b1)
  have HN12 := Lib.hid (HN12.out.below b1)
  have HN13 := Lib.hid (HN13.out.below b1)
  have g14 : (((wc10.alloc (.cells #[.slice B12 m12 d12] 29)).alloc (.cells #[.slice B13 m13 d13] 29)).alloc (.cells #[.int .u64 12] 35)).cell? ⟨wc10.heap.size, 0, none⟩ = some (.slice B12 m12 d12) := b2.cell 0
  have g15 : (((wc10.alloc (.cells #[.slice B12 m12 d12] 29)).alloc (.cells #[.slice B13 m13 d13] 29)).alloc (.cells #[.int .u64 12] 35)).cell? ⟨wc10.heap.size + 1, 0, none⟩ = some (.slice B13 m13 d13) := b3.cell 0
  have k16 := b4
  clear b1 b2 b3 b4 bz
  go_wp2_with fail
  generalize ((wc10.alloc (.cells #[.slice B12 m12 d12] 29)).alloc (.cells #[.slice B13 m13 d13] 29)).alloc (.cells #[.int .u64 12] 35) = W11 at *
  generalize wc10.heap.size = q11 at *
  have HZ17 : Hid (Sz (1) (12)) := (by show (12 : Nat) < 18446744073709551616 ^ 1; decide)
  (with_reducible refine (of_lits _ [12] _ _ 1 (12) k16 rfl rfl (dgs1 12 (by decide)) rfl (by decide)).mono ?_)
  rintro e wc12 ⟨B17, m17, d17, rfl, hw17, hb, _⟩
  have hB := keep_below hB hb
  have k1 := keep_blk hb k1
  have HN2 := Lib.hid (HN2.out.below hb)
  have k3 := keep_blk hb k3
  have HN4 := Lib.hid (HN4.out.below hb)
  have HN5 := Lib.hid (HN5.out.below hb)
  have HN6 := Lib.hid (HN6.out.below hb)
  have g7 := keep_cell hb g7
  have g8 := keep_cell hb g8
  have HN9 := Lib.hid (HN9.out.below hb)
  have k10 := keep_blk hb k10
  have HN11 := Lib.hid (HN11.out.below hb)
  have HN12 := Lib.hid (HN12.out.below hb)
  have HN13 := Lib.hid (HN13.out.below hb)
  have g14 := keep_cell hb g14
  have g15 := keep_cell hb g15
  have k16 := keep_blk hb k16
  have HN17 := Lib.hid hw17
  clear hb hw17
  obtain ⟨b1, b2, bz⟩ := box1 wc12 35 #[.int .u64 18]
  have hB := keep_below hB b1
  have k1 := keep_blk b1 k1
  have HN2 := Lib.hid (HN2.out.below b1)
  have k3 := keep_blk b1 k3
  have HN4 := Lib.hid (HN4.out.below b1)
  have HN5 := Lib.hid (HN5.out.below b1)
  have HN6 := Lib.hid (HN6.out.below b1)
  have g7 := keep_cell b1 g7
  have g8 := keep_cell b1 g8
  have HN9 := Lib.hid (HN9.out.below b1)
  have k10 := keep_blk b1 k10
  have HN11 := Lib.hid (HN11.out.below b1)
  have HN12 := Lib.hid (HN12.out.below b1)
  have HN13 := Lib.hid (HN13.out.below b1)
  have g14 := keep_cell b1 g14
  have g15 := keep_cell b1 g15
  have k16 := keep_blk b1 k16
  have HN17 := Lib.hid (HN17.out.below b1)
  have k18 := b2
  clear b1 b2 bz
  go_wp2_with fail
  generalize wc12.alloc (.cells #[.int .u64 18] 35) = W13 at *
  generalize wc12.heap.size = q13 at *
  have HZ19 : Hid (Sz (1) (18)) := (by show (18 : Nat) < 18446744073709551616 ^ 1; decide)
  (with_reducible refine (of_lits _ [18] _ _ 1 (18) k18 rfl rfl (dgs1 18 (by decide)) rfl (by decide)).mono ?_)
  rintro e wc14 ⟨B19, m19, d19, rfl, hw19, hb, _⟩
  have hB := keep_below hB hb
  have k1 := keep_blk hb k1
  have HN2 := Lib.hid (HN2.out.below hb)
  have k3 := keep_blk hb k3
  have HN4 := Lib.hid (HN4.out.below hb)
  have HN5 := Lib.hid (HN5.out.below hb)
  have HN6 := Lib.hid (HN6.out.below hb)
  have g7 := keep_cell hb g7
  have g8 := keep_cell hb g8
  have HN9 := Lib.hid (HN9.out.below hb)
  have k10 := keep_blk hb k10
  have HN11 := Lib.hid (HN11.out.below hb)
  have HN12 := Lib.hid (HN12.out.below hb)
  have HN13 := Lib.hid (HN13.out.below hb)
  have g14 := keep_cell hb g14
  have g15 := keep_cell hb g15
  have k16 := keep_blk hb k16
  have HN17 := Lib.hid (HN17.out.below hb)
  have k18 := keep_blk hb k18
  have HN19 := Lib.hid hw19
  clear hb hw19
  go_wp2_with fail
  have HZ20 : Hid (Sz (1 + 1) (Nat.gcd 12 18)) := Sz.gcd HZ17.out HZ19.out
  (with_reducible refine (HGC.out.of (12) (18) B17 B19 m17 m19 d17 d19 _ HN17.out HN19.out (by have := Sz.words HZ17.out HN17.out; omega) (by have := Sz.words HZ19.out HN19.out; omega) (HTB.out _ hB)).mono ?_)
  rintro e wc15 ⟨B20, m20, d20, rfl, hw20, hb⟩
  have hB := keep_below hB hb
  have k1 := keep_blk hb k1
  have HN2 := Lib.hid (HN2.out.below hb)
  have k3 := keep_blk hb k3
  have HN4 := Lib.hid (HN4.out.below hb)
  have HN5 := Lib.hid (HN5.out.below hb)
  have HN6 := Lib.hid (HN6.out.below hb)
  have g7 := keep_cell hb g7
  have g8 := keep_cell hb g8
  have HN9 := Lib.hid (HN9.out.below hb)
  have k10 := keep_blk hb k10
  have HN11 := Lib.hid (HN11.out.below hb)
  have HN12 := Lib.hid (HN12.out.below hb)
  have HN13 := Lib.hid (HN13.out.below hb)
  have g14 := keep_cell hb g14
  have g15 := keep_cell hb g15
  have k16 := keep_blk hb k16
  have HN17 := Lib.hid (HN17.out.below hb)
  have k18 := keep_blk hb k18
  have HN19 := Lib.hid (HN19.out.below hb)
  have HN20 := Lib.hid hw20
  clear hb hw20
  obtain ⟨b1, b2, bz⟩ := box1 wc15 35 #[.int .u64 6]
  have hB := keep_below hB b1
  have k1 := keep_blk b1 k1
  have HN2 := Lib.hid (HN2.out.below b1)
  have k3 := keep_blk b1 k3
  have HN4 := Lib.hid (HN4.out.below b1)
  have HN5 := Lib.hid (HN5.out.below b1)
  have HN6 := Lib.hid (HN6.out.below b1)
  have g7 := keep_cell b1 g7
  have g8 := keep_cell b1 g8
  have HN9 := Lib.hid (HN9.out.below b1)
  have k10 := keep_blk b1 k10
  have HN11 := Lib.hid (HN11.out.below b1)
  have HN12 := Lib.hid (HN12.out.below b1)
  have HN13 := Lib.hid (HN13.out.below b1)
  have g14 := keep_cell b1 g14
  have g15 := keep_cell b1 g15
  have k16 := keep_blk b1 k16
  have HN17 := Lib.hid (HN17.out.below b1)
  have k18 := keep_blk b1 k18
  have HN19 := Lib.hid (HN19.out.below b1)
  have HN20 := Lib.hid (HN20.out.below b1)
  have k21 := b2
  clear b1 b2 bz
  go_wp2_with fail
  generalize wc15.alloc (.cells #[.int .u64 6] 35) = W16 at *
  generalize wc15.heap.size = q16 at *
  obtain rfl : m20 = 1 := len_of HN20.out g1_dg
  (with_reducible refine (is_lits (Nat.gcd 12 18) B20 1 d20 _ _ [6] _ HN20.out k21 rfl rfl (dgs1 6 (by decide)) g1_dg (by decide)).mono ?_)
  rintro e wc17 ⟨rfl, hb⟩
  have hB := keep_below hB hb
  have k1 := keep_blk hb k1
  have HN2 := Lib.hid (HN2.out.below hb)
  have k3 := keep_blk hb k3
  have HN4 := Lib.hid (HN4.out.below hb)
  have HN5 := Lib.hid (HN5.out.below hb)
  have HN6 := Lib.hid (HN6.out.below hb)
  have g7 := keep_cell hb g7
  have g8 := keep_cell hb g8
  have HN9 := Lib.hid (HN9.out.below hb)
  have k10 := keep_blk hb k10
  have HN11 := Lib.hid (HN11.out.below hb)
  have HN12 := Lib.hid (HN12.out.below hb)
  have HN13 := Lib.hid (HN13.out.below hb)
  have g14 := keep_cell hb g14
  have g15 := keep_cell hb g15
  have k16 := keep_blk hb k16
  have HN17 := Lib.hid (HN17.out.below hb)
  have k18 := keep_blk hb k18
  have HN19 := Lib.hid (HN19.out.below hb)
  have HN20 := Lib.hid (HN20.out.below hb)
  have k21 := keep_blk hb k21
  clear hb 
  go_wp2_with fail
  have HZ22 : Hid (Sz (1) (0)) := (by show (0 : Nat) < 18446744073709551616 ^ 1; decide)
  (with_reducible refine (nat_of_nil _).mono ?_)
  rintro e wc18 ⟨B22, m22, d22, rfl, hw22, hb, _⟩
  have hB := keep_below hB hb
  have k1 := keep_blk hb k1
  have HN2 := Lib.hid (HN2.out.below hb)
  have k3 := keep_blk hb k3
  have HN4 := Lib.hid (HN4.out.below hb)
  have HN5 := Lib.hid (HN5.out.below hb)
  have HN6 := Lib.hid (HN6.out.below hb)
  have g7 := keep_cell hb g7
  have g8 := keep_cell hb g8
  have HN9 := Lib.hid (HN9.out.below hb)
  have k10 := keep_blk hb k10
  have HN11 := Lib.hid (HN11.out.below hb)
  have HN12 := Lib.hid (HN12.out.below hb)
  have HN13 := Lib.hid (HN13.out.below hb)
  have g14 := keep_cell hb g14
  have g15 := keep_cell hb g15
  have k16 := keep_blk hb k16
  have HN17 := Lib.hid (HN17.out.below hb)
  have k18 := keep_blk hb k18
  have HN19 := Lib.hid (HN19.out.below hb)
  have HN20 := Lib.hid (HN20.out.below hb)
  have k21 := keep_blk hb k21
  have HN22 := Lib.hid hw22
  clear hb hw22
  obtain ⟨b1, b2, bz⟩ := box1 wc18 35 #[.int .u64 5]
  have hB := keep_below hB b1
  have k1 := keep_blk b1 k1
  have HN2 := Lib.hid (HN2.out.below b1)
  have k3 := keep_blk b1 k3
  have HN4 := Lib.hid (HN4.out.below b1)
  have HN5 := Lib.hid (HN5.out.below b1)
  have HN6 := Lib.hid (HN6.out.below b1)
  have g7 := keep_cell b1 g7
  have g8 := keep_cell b1 g8
  have HN9 := Lib.hid (HN9.out.below b1)
  have k10 := keep_blk b1 k10
  have HN11 := Lib.hid (HN11.out.below b1)
  have HN12 := Lib.hid (HN12.out.below b1)
  have HN13 := Lib.hid (HN13.out.below b1)
  have g14 := keep_cell b1 g14
  have g15 := keep_cell b1 g15
  have k16 := keep_blk b1 k16
  have HN17 := Lib.hid (HN17.out.below b1)
  have k18 := keep_blk b1 k18
  have HN19 := Lib.hid (HN19.out.below b1)
  have HN20 := Lib.hid (HN20.out.below b1)
  have k21 := keep_blk b1 k21
  have HN22 := Lib.hid (HN22.out.below b1)
  have k23 := b2
  clear b1 b2 bz
  go_wp2_with fail
  generalize wc18.alloc (.cells #[.int .u64 5] 35) = W19 at *
  generalize wc18.heap.size = q19 at *
  have HZ24 : Hid (Sz (1) (5)) := (by show (5 : Nat) < 18446744073709551616 ^ 1; decide)
  (with_reducible refine (of_lits _ [5] _ _ 1 (5) k23 rfl rfl (dgs1 5 (by decide)) rfl (by decide)).mono ?_)
  rintro e wc20 ⟨B24, m24, d24, rfl, hw24, hb, _⟩
  have hB := keep_below hB hb
  have k1 := keep_blk hb k1
  have HN2 := Lib.hid (HN2.out.below hb)
  have k3 := keep_blk hb k3
  have HN4 := Lib.hid (HN4.out.below hb)
  have HN5 := Lib.hid (HN5.out.below hb)
  have HN6 := Lib.hid (HN6.out.below hb)
  have g7 := keep_cell hb g7
  have g8 := keep_cell hb g8
  have HN9 := Lib.hid (HN9.out.below hb)
  have k10 := keep_blk hb k10
  have HN11 := Lib.hid (HN11.out.below hb)
  have HN12 := Lib.hid (HN12.out.below hb)
  have HN13 := Lib.hid (HN13.out.below hb)
  have g14 := keep_cell hb g14
  have g15 := keep_cell hb g15
  have k16 := keep_blk hb k16
  have HN17 := Lib.hid (HN17.out.below hb)
  have k18 := keep_blk hb k18
  have HN19 := Lib.hid (HN19.out.below hb)
  have HN20 := Lib.hid (HN20.out.below hb)
  have k21 := keep_blk hb k21
  have HN22 := Lib.hid (HN22.out.below hb)
  have k23 := keep_blk hb k23
  have HN24 := Lib.hid hw24
  clear hb hw24
  go_wp2_with fail
  have HZ25 : Hid (Sz (1 + 1) (Nat.gcd 0 5)) := Sz.gcd HZ22.out HZ24.out
  (with_reducible refine (HGC.out.of (0) (5) B22 B24 m22 m24 d22 d24 _ HN22.out HN24.out (by have := Sz.words HZ22.out HN22.out; omega) (by have := Sz.words HZ24.out HN24.out; omega) (HTB.out _ hB)).mono ?_)
  rintro e wc21 ⟨B25, m25, d25, rfl, hw25, hb⟩
  have hB := keep_below hB hb
  have k1 := keep_blk hb k1
  have HN2 := Lib.hid (HN2.out.below hb)
  have k3 := keep_blk hb k3
  have HN4 := Lib.hid (HN4.out.below hb)
  have HN5 := Lib.hid (HN5.out.below hb)
  have HN6 := Lib.hid (HN6.out.below hb)
  have g7 := keep_cell hb g7
  have g8 := keep_cell hb g8
  have HN9 := Lib.hid (HN9.out.below hb)
  have k10 := keep_blk hb k10
  have HN11 := Lib.hid (HN11.out.below hb)
  have HN12 := Lib.hid (HN12.out.below hb)
  have HN13 := Lib.hid (HN13.out.below hb)
  have g14 := keep_cell hb g14
  have g15 := keep_cell hb g15
  have k16 := keep_blk hb k16
  have HN17 := Lib.hid (HN17.out.below hb)
  have k18 := keep_blk hb k18
  have HN19 := Lib.hid (HN19.out.below hb)
  have HN20 := Lib.hid (HN20.out.below hb)
  have k21 := keep_blk hb k21
  have HN22 := Lib.hid (HN22.out.below hb)
  have k23 := keep_blk hb k23
  have HN24 := Lib.hid (HN24.out.below hb)
  have HN25 := Lib.hid hw25
  clear hb hw25
  obtain ⟨b1, b2, bz⟩ := box1 wc21 35 #[.int .u64 5]
  have hB := keep_below hB b1
  have k1 := keep_blk b1 k1
  have HN2 := Lib.hid (HN2.out.below b1)
  have k3 := keep_blk b1 k3
  have HN4 := Lib.hid (HN4.out.below b1)
  have HN5 := Lib.hid (HN5.out.below b1)
  have HN6 := Lib.hid (HN6.out.below b1)
  have g7 := keep_cell b1 g7
  have g8 := keep_cell b1 g8
  have HN9 := Lib.hid (HN9.out.below b1)
  have k10 := keep_blk b1 k10
  have HN11 := Lib.hid (HN11.out.below b1)
  have HN12 := Lib.hid (HN12.out.below b1)
  have HN13 := Lib.hid (HN13.out.below b1)
  have g14 := keep_cell b1 g14
  have g15 := keep_cell b1 g15
  have k16 := keep_blk b1 k16
  have HN17 := Lib.hid (HN17.out.below b1)
  have k18 := keep_blk b1 k18
  have HN19 := Lib.hid (HN19.out.below b1)
  have HN20 := Lib.hid (HN20.out.below b1)
  have k21 := keep_blk b1 k21
  have HN22 := Lib.hid (HN22.out.below b1)
  have k23 := keep_blk b1 k23
  have HN24 := Lib.hid (HN24.out.below b1)
  have HN25 := Lib.hid (HN25.out.below b1)
  have k26 := b2
  clear b1 b2 bz
  go_wp2_with fail
  generalize wc21.alloc (.cells #[.int .u64 5] 35) = W22 at *
  generalize wc21.heap.size = q22 at *
  obtain rfl : m25 = 1 := len_of HN25.out g2_dg
  (with_reducible refine (is_lits (Nat.gcd 0 5) B25 1 d25 _ _ [5] _ HN25.out k26 rfl rfl (dgs1 5 (by decide)) g2_dg (by decide)).mono ?_)
  rintro e wc23 ⟨rfl, hb⟩
  have hB := keep_below hB hb
  have k1 := keep_blk hb k1
  have HN2 := Lib.hid (HN2.out.below hb)
  have k3 := keep_blk hb k3
  have HN4 := Lib.hid (HN4.out.below hb)
  have HN5 := Lib.hid (HN5.out.below hb)
  have HN6 := Lib.hid (HN6.out.below hb)
  have g7 := keep_cell hb g7
  have g8 := keep_cell hb g8
  have HN9 := Lib.hid (HN9.out.below hb)
  have k10 := keep_blk hb k10
  have HN11 := Lib.hid (HN11.out.below hb)
  have HN12 := Lib.hid (HN12.out.below hb)
  have HN13 := Lib.hid (HN13.out.below hb)
  have g14 := keep_cell hb g14
  have g15 := keep_cell hb g15
  have k16 := keep_blk hb k16
  have HN17 := Lib.hid (HN17.out.below hb)
  have k18 := keep_blk hb k18
  have HN19 := Lib.hid (HN19.out.below hb)
  have HN20 := Lib.hid (HN20.out.below hb)
  have k21 := keep_blk hb k21
  have HN22 := Lib.hid (HN22.out.below hb)
  have k23 := keep_blk hb k23
  have HN24 := Lib.hid (HN24.out.below hb)
  have HN25 := Lib.hid (HN25.out.below hb)
  have k26 := keep_blk hb k26
  clear hb 
  obtain ⟨b1, b2, bz⟩ := box1 wc23 35 #[.int .u64 4]
  have hB := keep_below hB b1
  have k1 := keep_blk b1 k1
  have HN2 := Lib.hid (HN2.out.below b1)
  have k3 := keep_blk b1 k3
  have HN4 := Lib.hid (HN4.out.below b1)
  have HN5 := Lib.hid (HN5.out.below b1)
  have HN6 := Lib.hid (HN6.out.below b1)
  have g7 := keep_cell b1 g7
  have g8 := keep_cell b1 g8
  have HN9 := Lib.hid (HN9.out.below b1)
  have k10 := keep_blk b1 k10
  have HN11 := Lib.hid (HN11.out.below b1)
  have HN12 := Lib.hid (HN12.out.below b1)
  have HN13 := Lib.hid (HN13.out.below b1)
  have g14 := keep_cell b1 g14
  have g15 := keep_cell b1 g15
  have k16 := keep_blk b1 k16
  have HN17 := Lib.hid (HN17.out.below b1)
  have k18 := keep_blk b1 k18
  have HN19 := Lib.hid (HN19.out.below b1)
  have HN20 := Lib.hid (HN20.out.below b1)
  have k21 := keep_blk b1 k21
  have HN22 := Lib.hid (HN22.out.below b1)
  have k23 := keep_blk b1 k23
  have HN24 := Lib.hid (HN24.out.below b1)
  have HN25 := Lib.hid (HN25.out.below b1)
  have k26 := keep_blk b1 k26
  have k27 := b2
  clear b1 b2 bz
  go_wp2_with fail
  generalize wc23.alloc (.cells #[.int .u64 4] 35) = W24 at *
  generalize wc23.heap.size = q24 at *
  have HZ28 : Hid (Sz (1) (4)) := (by show (4 : Nat) < 18446744073709551616 ^ 1; decide)
  (with_reducible refine (of_lits _ [4] _ _ 1 (4) k27 rfl rfl (dgs1 4 (by decide)) rfl (by decide)).mono ?_)
  rintro e wc25 ⟨B28, m28, d28, rfl, hw28, hb, _⟩
  have hB := keep_below hB hb
  have k1 := keep_blk hb k1
  have HN2 := Lib.hid (HN2.out.below hb)
  have k3 := keep_blk hb k3
  have HN4 := Lib.hid (HN4.out.below hb)
  have HN5 := Lib.hid (HN5.out.below hb)
  have HN6 := Lib.hid (HN6.out.below hb)
  have g7 := keep_cell hb g7
  have g8 := keep_cell hb g8
  have HN9 := Lib.hid (HN9.out.below hb)
  have k10 := keep_blk hb k10
  have HN11 := Lib.hid (HN11.out.below hb)
  have HN12 := Lib.hid (HN12.out.below hb)
  have HN13 := Lib.hid (HN13.out.below hb)
  have g14 := keep_cell hb g14
  have g15 := keep_cell hb g15
  have k16 := keep_blk hb k16
  have HN17 := Lib.hid (HN17.out.below hb)
  have k18 := keep_blk hb k18
  have HN19 := Lib.hid (HN19.out.below hb)
  have HN20 := Lib.hid (HN20.out.below hb)
  have k21 := keep_blk hb k21
  have HN22 := Lib.hid (HN22.out.below hb)
  have k23 := keep_blk hb k23
  have HN24 := Lib.hid (HN24.out.below hb)
  have HN25 := Lib.hid (HN25.out.below hb)
  have k26 := keep_blk hb k26
  have k27 := keep_blk hb k27
  have HN28 := Lib.hid hw28
  clear hb hw28
  obtain ⟨b1, b2, bz⟩ := box1 wc25 35 #[.int .u64 6]
  have hB := keep_below hB b1
  have k1 := keep_blk b1 k1
  have HN2 := Lib.hid (HN2.out.below b1)
  have k3 := keep_blk b1 k3
  have HN4 := Lib.hid (HN4.out.below b1)
  have HN5 := Lib.hid (HN5.out.below b1)
  have HN6 := Lib.hid (HN6.out.below b1)
  have g7 := keep_cell b1 g7
  have g8 := keep_cell b1 g8
  have HN9 := Lib.hid (HN9.out.below b1)
  have k10 := keep_blk b1 k10
  have HN11 := Lib.hid (HN11.out.below b1)
  have HN12 := Lib.hid (HN12.out.below b1)
  have HN13 := Lib.hid (HN13.out.below b1)
  have g14 := keep_cell b1 g14
  have g15 := keep_cell b1 g15
  have k16 := keep_blk b1 k16
  have HN17 := Lib.hid (HN17.out.below b1)
  have k18 := keep_blk b1 k18
  have HN19 := Lib.hid (HN19.out.below b1)
  have HN20 := Lib.hid (HN20.out.below b1)
  have k21 := keep_blk b1 k21
  have HN22 := Lib.hid (HN22.out.below b1)
  have k23 := keep_blk b1 k23
  have HN24 := Lib.hid (HN24.out.below b1)
  have HN25 := Lib.hid (HN25.out.below b1)
  have k26 := keep_blk b1 k26
  have k27 := keep_blk b1 k27
  have HN28 := Lib.hid (HN28.out.below b1)
  have k29 := b2
  clear b1 b2 bz
  go_wp2_with fail
  generalize wc25.alloc (.cells #[.int .u64 6] 35) = W26 at *
  generalize wc25.heap.size = q26 at *
  have HZ30 : Hid (Sz (1) (6)) := (by show (6 : Nat) < 18446744073709551616 ^ 1; decide)
  (with_reducible refine (of_lits _ [6] _ _ 1 (6) k29 rfl rfl (dgs1 6 (by decide)) rfl (by decide)).mono ?_)
  rintro e wc27 ⟨B30, m30, d30, rfl, hw30, hb, _⟩
  have hB := keep_below hB hb
  have k1 := keep_blk hb k1
  have HN2 := Lib.hid (HN2.out.below hb)
  have k3 := keep_blk hb k3
  have HN4 := Lib.hid (HN4.out.below hb)
  have HN5 := Lib.hid (HN5.out.below hb)
  have HN6 := Lib.hid (HN6.out.below hb)
  have g7 := keep_cell hb g7
  have g8 := keep_cell hb g8
  have HN9 := Lib.hid (HN9.out.below hb)
  have k10 := keep_blk hb k10
  have HN11 := Lib.hid (HN11.out.below hb)
  have HN12 := Lib.hid (HN12.out.below hb)
  have HN13 := Lib.hid (HN13.out.below hb)
  have g14 := keep_cell hb g14
  have g15 := keep_cell hb g15
  have k16 := keep_blk hb k16
  have HN17 := Lib.hid (HN17.out.below hb)
  have k18 := keep_blk hb k18
  have HN19 := Lib.hid (HN19.out.below hb)
  have HN20 := Lib.hid (HN20.out.below hb)
  have k21 := keep_blk hb k21
  have HN22 := Lib.hid (HN22.out.below hb)
  have k23 := keep_blk hb k23
  have HN24 := Lib.hid (HN24.out.below hb)
  have HN25 := Lib.hid (HN25.out.below hb)
  have k26 := keep_blk hb k26
  have k27 := keep_blk hb k27
  have HN28 := Lib.hid (HN28.out.below hb)
  have k29 := keep_blk hb k29
  have HN30 := Lib.hid hw30
  clear hb hw30
  go_wp2_with fail
  have HZ31 : Hid (Sz (1 + 1) (Nat.lcm 4 6)) := Sz.lcm HZ28.out HZ30.out
  (with_reducible refine (HGC.out.lcm (4) (6) B28 B30 m28 m30 d28 d30 _ HN28.out HN30.out (by have := Sz.words HZ28.out HN28.out; omega) (by have := Sz.words HZ30.out HN30.out; omega) (HTB.out _ hB)).mono ?_)
  rintro e wc28 ⟨B31, m31, d31, rfl, hw31, hb⟩
  have hB := keep_below hB hb
  have k1 := keep_blk hb k1
  have HN2 := Lib.hid (HN2.out.below hb)
  have k3 := keep_blk hb k3
  have HN4 := Lib.hid (HN4.out.below hb)
  have HN5 := Lib.hid (HN5.out.below hb)
  have HN6 := Lib.hid (HN6.out.below hb)
  have g7 := keep_cell hb g7
  have g8 := keep_cell hb g8
  have HN9 := Lib.hid (HN9.out.below hb)
  have k10 := keep_blk hb k10
  have HN11 := Lib.hid (HN11.out.below hb)
  have HN12 := Lib.hid (HN12.out.below hb)
  have HN13 := Lib.hid (HN13.out.below hb)
  have g14 := keep_cell hb g14
  have g15 := keep_cell hb g15
  have k16 := keep_blk hb k16
  have HN17 := Lib.hid (HN17.out.below hb)
  have k18 := keep_blk hb k18
  have HN19 := Lib.hid (HN19.out.below hb)
  have HN20 := Lib.hid (HN20.out.below hb)
  have k21 := keep_blk hb k21
  have HN22 := Lib.hid (HN22.out.below hb)
  have k23 := keep_blk hb k23
  have HN24 := Lib.hid (HN24.out.below hb)
  have HN25 := Lib.hid (HN25.out.below hb)
  have k26 := keep_blk hb k26
  have k27 := keep_blk hb k27
  have HN28 := Lib.hid (HN28.out.below hb)
  have k29 := keep_blk hb k29
  have HN30 := Lib.hid (HN30.out.below hb)
  have HN31 := Lib.hid hw31
  clear hb hw31
  obtain ⟨b1, b2, bz⟩ := box1 wc28 35 #[.int .u64 12]
  have hB := keep_below hB b1
  have k1 := keep_blk b1 k1
  have HN2 := Lib.hid (HN2.out.below b1)
  have k3 := keep_blk b1 k3
  have HN4 := Lib.hid (HN4.out.below b1)
  have HN5 := Lib.hid (HN5.out.below b1)
  have HN6 := Lib.hid (HN6.out.below b1)
  have g7 := keep_cell b1 g7
  have g8 := keep_cell b1 g8
  have HN9 := Lib.hid (HN9.out.below b1)
  have k10 := keep_blk b1 k10
  have HN11 := Lib.hid (HN11.out.below b1)
  have HN12 := Lib.hid (HN12.out.below b1)
  have HN13 := Lib.hid (HN13.out.below b1)
  have g14 := keep_cell b1 g14
  have g15 := keep_cell b1 g15
  have k16 := keep_blk b1 k16
  have HN17 := Lib.hid (HN17.out.below b1)
  have k18 := keep_blk b1 k18
  have HN19 := Lib.hid (HN19.out.below b1)
  have HN20 := Lib.hid (HN20.out.below b1)
  have k21 := keep_blk b1 k21
  have HN22 := Lib.hid (HN22.out.below b1)
  have k23 := keep_blk b1 k23
  have HN24 := Lib.hid (HN24.out.below b1)
  have HN25 := Lib.hid (HN25.out.below b1)
  have k26 := keep_blk b1 k26
  have k27 := keep_blk b1 k27
  have HN28 := Lib.hid (HN28.out.below b1)
  have k29 := keep_blk b1 k29
  have HN30 := Lib.hid (HN30.out.below b1)
  have HN31 := Lib.hid (HN31.out.below b1)
  have k32 := b2
  clear b1 b2 bz
  go_wp2_with fail
  generalize wc28.alloc (.cells #[.int .u64 12] 35) = W29 at *
  generalize wc28.heap.size = q29 at *
  obtain rfl : m31 = 1 := len_of HN31.out g3_dg
  (with_reducible refine (is_lits (Nat.lcm 4 6) B31 1 d31 _ _ [12] _ HN31.out k32 rfl rfl (dgs1 12 (by decide)) g3_dg (by decide)).mono ?_)
  rintro e wc30 ⟨rfl, hb⟩
  have hB := keep_below hB hb
  have k1 := keep_blk hb k1
  have HN2 := Lib.hid (HN2.out.below hb)
  have k3 := keep_blk hb k3
  have HN4 := Lib.hid (HN4.out.below hb)
  have HN5 := Lib.hid (HN5.out.below hb)
  have HN6 := Lib.hid (HN6.out.below hb)
  have g7 := keep_cell hb g7
  have g8 := keep_cell hb g8
  have HN9 := Lib.hid (HN9.out.below hb)
  have k10 := keep_blk hb k10
  have HN11 := Lib.hid (HN11.out.below hb)
  have HN12 := Lib.hid (HN12.out.below hb)
  have HN13 := Lib.hid (HN13.out.below hb)
  have g14 := keep_cell hb g14
  have g15 := keep_cell hb g15
  have k16 := keep_blk hb k16
  have HN17 := Lib.hid (HN17.out.below hb)
  have k18 := keep_blk hb k18
  have HN19 := Lib.hid (HN19.out.below hb)
  have HN20 := Lib.hid (HN20.out.below hb)
  have k21 := keep_blk hb k21
  have HN22 := Lib.hid (HN22.out.below hb)
  have k23 := keep_blk hb k23
  have HN24 := Lib.hid (HN24.out.below hb)
  have HN25 := Lib.hid (HN25.out.below hb)
  have k26 := keep_blk hb k26
  have k27 := keep_blk hb k27
  have HN28 := Lib.hid (HN28.out.below hb)
  have k29 := keep_blk hb k29
  have HN30 := Lib.hid (HN30.out.below hb)
  have HN31 := Lib.hid (HN31.out.below hb)
  have k32 := keep_blk hb k32
  clear hb 
  obtain ⟨b1, b2, bz⟩ := box1 wc30 35 #[.int .u64 2]
  have hB := keep_below hB b1
  have k1 := keep_blk b1 k1
  have HN2 := Lib.hid (HN2.out.below b1)
  have k3 := keep_blk b1 k3
  have HN4 := Lib.hid (HN4.out.below b1)
  have HN5 := Lib.hid (HN5.out.below b1)
  have HN6 := Lib.hid (HN6.out.below b1)
  have g7 := keep_cell b1 g7
  have g8 := keep_cell b1 g8
  have HN9 := Lib.hid (HN9.out.below b1)
  have k10 := keep_blk b1 k10
  have HN11 := Lib.hid (HN11.out.below b1)
  have HN12 := Lib.hid (HN12.out.below b1)
  have HN13 := Lib.hid (HN13.out.below b1)
  have g14 := keep_cell b1 g14
  have g15 := keep_cell b1 g15
  have k16 := keep_blk b1 k16
  have HN17 := Lib.hid (HN17.out.below b1)
  have k18 := keep_blk b1 k18
  have HN19 := Lib.hid (HN19.out.below b1)
  have HN20 := Lib.hid (HN20.out.below b1)
  have k21 := keep_blk b1 k21
  have HN22 := Lib.hid (HN22.out.below b1)
  have k23 := keep_blk b1 k23
  have HN24 := Lib.hid (HN24.out.below b1)
  have HN25 := Lib.hid (HN25.out.below b1)
  have k26 := keep_blk b1 k26
  have k27 := keep_blk b1 k27
  have HN28 := Lib.hid (HN28.out.below b1)
  have k29 := keep_blk b1 k29
  have HN30 := Lib.hid (HN30.out.below b1)
  have HN31 := Lib.hid (HN31.out.below b1)
  have k32 := keep_blk b1 k32
  have k33 := b2
  clear b1 b2 bz
  go_wp2_with fail
  generalize wc30.alloc (.cells #[.int .u64 2] 35) = W31 at *
  generalize wc30.heap.size = q31 at *
  obtain rfl : m5 = 1 := len_of HN5.out g4_dg
  (with_reducible refine (is_lits (12 / Nat.gcd 12 18) B5 1 d5 _ _ [2] _ HN5.out k33 rfl rfl (dgs1 2 (by decide)) g4_dg (by decide)).mono ?_)
  rintro e wc32 ⟨rfl, hb⟩
  have hB := keep_below hB hb
  have k1 := keep_blk hb k1
  have HN2 := Lib.hid (HN2.out.below hb)
  have k3 := keep_blk hb k3
  have HN4 := Lib.hid (HN4.out.below hb)
  have HN5 := Lib.hid (HN5.out.below hb)
  have HN6 := Lib.hid (HN6.out.below hb)
  have g7 := keep_cell hb g7
  have g8 := keep_cell hb g8
  have HN9 := Lib.hid (HN9.out.below hb)
  have k10 := keep_blk hb k10
  have HN11 := Lib.hid (HN11.out.below hb)
  have HN12 := Lib.hid (HN12.out.below hb)
  have HN13 := Lib.hid (HN13.out.below hb)
  have g14 := keep_cell hb g14
  have g15 := keep_cell hb g15
  have k16 := keep_blk hb k16
  have HN17 := Lib.hid (HN17.out.below hb)
  have k18 := keep_blk hb k18
  have HN19 := Lib.hid (HN19.out.below hb)
  have HN20 := Lib.hid (HN20.out.below hb)
  have k21 := keep_blk hb k21
  have HN22 := Lib.hid (HN22.out.below hb)
  have k23 := keep_blk hb k23
  have HN24 := Lib.hid (HN24.out.below hb)
  have HN25 := Lib.hid (HN25.out.below hb)
  have k26 := keep_blk hb k26
  have k27 := keep_blk hb k27
  have HN28 := Lib.hid (HN28.out.below hb)
  have k29 := keep_blk hb k29
  have HN30 := Lib.hid (HN30.out.below hb)
  have HN31 := Lib.hid (HN31.out.below hb)
  have k32 := keep_blk hb k32
  have k33 := keep_blk hb k33
  clear hb 
  obtain ⟨b1, b2, bz⟩ := box1 wc32 35 #[.int .u64 3]
  have hB := keep_below hB b1
  have k1 := keep_blk b1 k1
  have HN2 := Lib.hid (HN2.out.below b1)
  have k3 := keep_blk b1 k3
  have HN4 := Lib.hid (HN4.out.below b1)
  have HN5 := Lib.hid (HN5.out.below b1)
  have HN6 := Lib.hid (HN6.out.below b1)
  have g7 := keep_cell b1 g7
  have g8 := keep_cell b1 g8
  have HN9 := Lib.hid (HN9.out.below b1)
  have k10 := keep_blk b1 k10
  have HN11 := Lib.hid (HN11.out.below b1)
  have HN12 := Lib.hid (HN12.out.below b1)
  have HN13 := Lib.hid (HN13.out.below b1)
  have g14 := keep_cell b1 g14
  have g15 := keep_cell b1 g15
  have k16 := keep_blk b1 k16
  have HN17 := Lib.hid (HN17.out.below b1)
  have k18 := keep_blk b1 k18
  have HN19 := Lib.hid (HN19.out.below b1)
  have HN20 := Lib.hid (HN20.out.below b1)
  have k21 := keep_blk b1 k21
  have HN22 := Lib.hid (HN22.out.below b1)
  have k23 := keep_blk b1 k23
  have HN24 := Lib.hid (HN24.out.below b1)
  have HN25 := Lib.hid (HN25.out.below b1)
  have k26 := keep_blk b1 k26
  have k27 := keep_blk b1 k27
  have HN28 := Lib.hid (HN28.out.below b1)
  have k29 := keep_blk b1 k29
  have HN30 := Lib.hid (HN30.out.below b1)
  have HN31 := Lib.hid (HN31.out.below b1)
  have k32 := keep_blk b1 k32
  have k33 := keep_blk b1 k33
  have k34 := b2
  clear b1 b2 bz
  go_wp2_with fail
  generalize wc32.alloc (.cells #[.int .u64 3] 35) = W33 at *
  generalize wc32.heap.size = q33 at *
  obtain rfl : m6 = 1 := len_of HN6.out g5_dg
  (with_reducible refine (is_lits (18 / Nat.gcd 12 18) B6 1 d6 _ _ [3] _ HN6.out k34 rfl rfl (dgs1 3 (by decide)) g5_dg (by decide)).mono ?_)
  rintro e wc34 ⟨rfl, hb⟩
  have hB := keep_below hB hb
  have k1 := keep_blk hb k1
  have HN2 := Lib.hid (HN2.out.below hb)
  have k3 := keep_blk hb k3
  have HN4 := Lib.hid (HN4.out.below hb)
  have HN5 := Lib.hid (HN5.out.below hb)
  have HN6 := Lib.hid (HN6.out.below hb)
  have g7 := keep_cell hb g7
  have g8 := keep_cell hb g8
  have HN9 := Lib.hid (HN9.out.below hb)
  have k10 := keep_blk hb k10
  have HN11 := Lib.hid (HN11.out.below hb)
  have HN12 := Lib.hid (HN12.out.below hb)
  have HN13 := Lib.hid (HN13.out.below hb)
  have g14 := keep_cell hb g14
  have g15 := keep_cell hb g15
  have k16 := keep_blk hb k16
  have HN17 := Lib.hid (HN17.out.below hb)
  have k18 := keep_blk hb k18
  have HN19 := Lib.hid (HN19.out.below hb)
  have HN20 := Lib.hid (HN20.out.below hb)
  have k21 := keep_blk hb k21
  have HN22 := Lib.hid (HN22.out.below hb)
  have k23 := keep_blk hb k23
  have HN24 := Lib.hid (HN24.out.below hb)
  have HN25 := Lib.hid (HN25.out.below hb)
  have k26 := keep_blk hb k26
  have k27 := keep_blk hb k27
  have HN28 := Lib.hid (HN28.out.below hb)
  have k29 := keep_blk hb k29
  have HN30 := Lib.hid (HN30.out.below hb)
  have HN31 := Lib.hid (HN31.out.below hb)
  have k32 := keep_blk hb k32
  have k33 := keep_blk hb k33
  have k34 := keep_blk hb k34
  clear hb 
  go_wp2_with fail
  (with_reducible refine (zero_yes (Nat.zero_div _) HN12.out).mono ?_)
  rintro e wc35 ⟨rfl, hb⟩
  have hB := keep_below hB hb
  have k1 := keep_blk hb k1
  have HN2 := Lib.hid (HN2.out.below hb)
  have k3 := keep_blk hb k3
  have HN4 := Lib.hid (HN4.out.below hb)
  have HN5 := Lib.hid (HN5.out.below hb)
  have HN6 := Lib.hid (HN6.out.below hb)
  have g7 := keep_cell hb g7
  have g8 := keep_cell hb g8
  have HN9 := Lib.hid (HN9.out.below hb)
  have k10 := keep_blk hb k10
  have HN11 := Lib.hid (HN11.out.below hb)
  have HN12 := Lib.hid (HN12.out.below hb)
  have HN13 := Lib.hid (HN13.out.below hb)
  have g14 := keep_cell hb g14
  have g15 := keep_cell hb g15
  have k16 := keep_blk hb k16
  have HN17 := Lib.hid (HN17.out.below hb)
  have k18 := keep_blk hb k18
  have HN19 := Lib.hid (HN19.out.below hb)
  have HN20 := Lib.hid (HN20.out.below hb)
  have k21 := keep_blk hb k21
  have HN22 := Lib.hid (HN22.out.below hb)
  have k23 := keep_blk hb k23
  have HN24 := Lib.hid (HN24.out.below hb)
  have HN25 := Lib.hid (HN25.out.below hb)
  have k26 := keep_blk hb k26
  have k27 := keep_blk hb k27
  have HN28 := Lib.hid (HN28.out.below hb)
  have k29 := keep_blk hb k29
  have HN30 := Lib.hid (HN30.out.below hb)
  have HN31 := Lib.hid (HN31.out.below hb)
  have k32 := keep_blk hb k32
  have k33 := keep_blk hb k33
  have k34 := keep_blk hb k34
  clear hb 
  obtain ⟨b1, b2, bz⟩ := box1 wc35 35 #[.int .u64 1]
  have hB := keep_below hB b1
  have k1 := keep_blk b1 k1
  have HN2 := Lib.hid (HN2.out.below b1)
  have k3 := keep_blk b1 k3
  have HN4 := Lib.hid (HN4.out.below b1)
  have HN5 := Lib.hid (HN5.out.below b1)
  have HN6 := Lib.hid (HN6.out.below b1)
  have g7 := keep_cell b1 g7
  have g8 := keep_cell b1 g8
  have HN9 := Lib.hid (HN9.out.below b1)
  have k10 := keep_blk b1 k10
  have HN11 := Lib.hid (HN11.out.below b1)
  have HN12 := Lib.hid (HN12.out.below b1)
  have HN13 := Lib.hid (HN13.out.below b1)
  have g14 := keep_cell b1 g14
  have g15 := keep_cell b1 g15
  have k16 := keep_blk b1 k16
  have HN17 := Lib.hid (HN17.out.below b1)
  have k18 := keep_blk b1 k18
  have HN19 := Lib.hid (HN19.out.below b1)
  have HN20 := Lib.hid (HN20.out.below b1)
  have k21 := keep_blk b1 k21
  have HN22 := Lib.hid (HN22.out.below b1)
  have k23 := keep_blk b1 k23
  have HN24 := Lib.hid (HN24.out.below b1)
  have HN25 := Lib.hid (HN25.out.below b1)
  have k26 := keep_blk b1 k26
  have k27 := keep_blk b1 k27
  have HN28 := Lib.hid (HN28.out.below b1)
  have k29 := keep_blk b1 k29
  have HN30 := Lib.hid (HN30.out.below b1)
  have HN31 := Lib.hid (HN31.out.below b1)
  have k32 := keep_blk b1 k32
  have k33 := keep_blk b1 k33
  have k34 := keep_blk b1 k34
  have k35 := b2
  clear b1 b2 bz
  go_wp2_with fail
  generalize wc35.alloc (.cells #[.int .u64 1] 35) = W36 at *
  generalize wc35.heap.size = q36 at *
  obtain rfl : m13 = 1 := len_of HN13.out g6_dg
  (with_reducible refine (is_lits (7 / Nat.gcd 0 7) B13 1 d13 _ _ [1] _ HN13.out k35 rfl rfl (dgs1 1 (by decide)) g6_dg (by decide)).mono ?_)
  rintro e wc37 ⟨rfl, hb⟩
  have hB := keep_below hB hb
  have k1 := keep_blk hb k1
  have HN2 := Lib.hid (HN2.out.below hb)
  have k3 := keep_blk hb k3
  have HN4 := Lib.hid (HN4.out.below hb)
  have HN5 := Lib.hid (HN5.out.below hb)
  have HN6 := Lib.hid (HN6.out.below hb)
  have g7 := keep_cell hb g7
  have g8 := keep_cell hb g8
  have HN9 := Lib.hid (HN9.out.below hb)
  have k10 := keep_blk hb k10
  have HN11 := Lib.hid (HN11.out.below hb)
  have HN12 := Lib.hid (HN12.out.below hb)
  have HN13 := Lib.hid (HN13.out.below hb)
  have g14 := keep_cell hb g14
  have g15 := keep_cell hb g15
  have k16 := keep_blk hb k16
  have HN17 := Lib.hid (HN17.out.below hb)
  have k18 := keep_blk hb k18
  have HN19 := Lib.hid (HN19.out.below hb)
  have HN20 := Lib.hid (HN20.out.below hb)
  have k21 := keep_blk hb k21
  have HN22 := Lib.hid (HN22.out.below hb)
  have k23 := keep_blk hb k23
  have HN24 := Lib.hid (HN24.out.below hb)
  have HN25 := Lib.hid (HN25.out.below hb)
  have k26 := keep_blk hb k26
  have k27 := keep_blk hb k27
  have HN28 := Lib.hid (HN28.out.below hb)
  have k29 := keep_blk hb k29
  have HN30 := Lib.hid (HN30.out.below hb)
  have HN31 := Lib.hid (HN31.out.below hb)
  have k32 := keep_blk hb k32
  have k33 := keep_blk hb k33
  have k34 := keep_blk hb k34
  have k35 := keep_blk hb k35
  clear hb 
  go_wp2_with fail
  have HZ36 : Hid (Sz (1) (gcdL [])) := (by show gcdL [] < 18446744073709551616 ^ 1; decide)
  (with_reducible refine (HGC.out.all [] none 0 0 _ (NumsIn.none_ _) (by decide) (by intro i hi; omega) all_nil (HTB.out _ hB)).mono ?_)
  rintro e wc38 ⟨B36, m36, d36, rfl, hw36, hb⟩
  have hB := keep_below hB hb
  have k1 := keep_blk hb k1
  have HN2 := Lib.hid (HN2.out.below hb)
  have k3 := keep_blk hb k3
  have HN4 := Lib.hid (HN4.out.below hb)
  have HN5 := Lib.hid (HN5.out.below hb)
  have HN6 := Lib.hid (HN6.out.below hb)
  have g7 := keep_cell hb g7
  have g8 := keep_cell hb g8
  have HN9 := Lib.hid (HN9.out.below hb)
  have k10 := keep_blk hb k10
  have HN11 := Lib.hid (HN11.out.below hb)
  have HN12 := Lib.hid (HN12.out.below hb)
  have HN13 := Lib.hid (HN13.out.below hb)
  have g14 := keep_cell hb g14
  have g15 := keep_cell hb g15
  have k16 := keep_blk hb k16
  have HN17 := Lib.hid (HN17.out.below hb)
  have k18 := keep_blk hb k18
  have HN19 := Lib.hid (HN19.out.below hb)
  have HN20 := Lib.hid (HN20.out.below hb)
  have k21 := keep_blk hb k21
  have HN22 := Lib.hid (HN22.out.below hb)
  have k23 := keep_blk hb k23
  have HN24 := Lib.hid (HN24.out.below hb)
  have HN25 := Lib.hid (HN25.out.below hb)
  have k26 := keep_blk hb k26
  have k27 := keep_blk hb k27
  have HN28 := Lib.hid (HN28.out.below hb)
  have k29 := keep_blk hb k29
  have HN30 := Lib.hid (HN30.out.below hb)
  have HN31 := Lib.hid (HN31.out.below hb)
  have k32 := keep_blk hb k32
  have k33 := keep_blk hb k33
  have k34 := keep_blk hb k34
  have k35 := keep_blk hb k35
  have HN36 := Lib.hid hw36
  clear hb hw36
  go_wp2_with fail
  (with_reducible refine (zero_yes rfl HN36.out).mono ?_)
  rintro e wc39 ⟨rfl, hb⟩
  have hB := keep_below hB hb
  have k1 := keep_blk hb k1
  have HN2 := Lib.hid (HN2.out.below hb)
  have k3 := keep_blk hb k3
  have HN4 := Lib.hid (HN4.out.below hb)
  have HN5 := Lib.hid (HN5.out.below hb)
  have HN6 := Lib.hid (HN6.out.below hb)
  have g7 := keep_cell hb g7
  have g8 := keep_cell hb g8
  have HN9 := Lib.hid (HN9.out.below hb)
  have k10 := keep_blk hb k10
  have HN11 := Lib.hid (HN11.out.below hb)
  have HN12 := Lib.hid (HN12.out.below hb)
  have HN13 := Lib.hid (HN13.out.below hb)
  have g14 := keep_cell hb g14
  have g15 := keep_cell hb g15
  have k16 := keep_blk hb k16
  have HN17 := Lib.hid (HN17.out.below hb)
  have k18 := keep_blk hb k18
  have HN19 := Lib.hid (HN19.out.below hb)
  have HN20 := Lib.hid (HN20.out.below hb)
  have k21 := keep_blk hb k21
  have HN22 := Lib.hid (HN22.out.below hb)
  have k23 := keep_blk hb k23
  have HN24 := Lib.hid (HN24.out.below hb)
  have HN25 := Lib.hid (HN25.out.below hb)
  have k26 := keep_blk hb k26
  have k27 := keep_blk hb k27
  have HN28 := Lib.hid (HN28.out.below hb)
  have k29 := keep_blk hb k29
  have HN30 := Lib.hid (HN30.out.below hb)
  have HN31 := Lib.hid (HN31.out.below hb)
  have k32 := keep_blk hb k32
  have k33 := keep_blk hb k33
  have k34 := keep_blk hb k34
  have k35 := keep_blk hb k35
  have HN36 := Lib.hid (HN36.out.below hb)
  clear hb 
  obtain ⟨b1, b2, bz⟩ := box1 wc39 35 #[.int .u64 2]
  have hB := keep_below hB b1
  have k1 := keep_blk b1 k1
  have HN2 := Lib.hid (HN2.out.below b1)
  have k3 := keep_blk b1 k3
  have HN4 := Lib.hid (HN4.out.below b1)
  have HN5 := Lib.hid (HN5.out.below b1)
  have HN6 := Lib.hid (HN6.out.below b1)
  have g7 := keep_cell b1 g7
  have g8 := keep_cell b1 g8
  have HN9 := Lib.hid (HN9.out.below b1)
  have k10 := keep_blk b1 k10
  have HN11 := Lib.hid (HN11.out.below b1)
  have HN12 := Lib.hid (HN12.out.below b1)
  have HN13 := Lib.hid (HN13.out.below b1)
  have g14 := keep_cell b1 g14
  have g15 := keep_cell b1 g15
  have k16 := keep_blk b1 k16
  have HN17 := Lib.hid (HN17.out.below b1)
  have k18 := keep_blk b1 k18
  have HN19 := Lib.hid (HN19.out.below b1)
  have HN20 := Lib.hid (HN20.out.below b1)
  have k21 := keep_blk b1 k21
  have HN22 := Lib.hid (HN22.out.below b1)
  have k23 := keep_blk b1 k23
  have HN24 := Lib.hid (HN24.out.below b1)
  have HN25 := Lib.hid (HN25.out.below b1)
  have k26 := keep_blk b1 k26
  have k27 := keep_blk b1 k27
  have HN28 := Lib.hid (HN28.out.below b1)
  have k29 := keep_blk b1 k29
  have HN30 := Lib.hid (HN30.out.below b1)
  have HN31 := Lib.hid (HN31.out.below b1)
  have k32 := keep_blk b1 k32
  have k33 := keep_blk b1 k33
  have k34 := keep_blk b1 k34
  have k35 := keep_blk b1 k35
  have HN36 := Lib.hid (HN36.out.below b1)
  have k37 := b2
  clear b1 b2 bz
  go_wp2_with fail
  generalize wc39.alloc (.cells #[.int .u64 2] 35) = W40 at *
  generalize wc39.heap.size = q40 at *
  have HZ38 : Hid (Sz (1) (2)) := (by show (2 : Nat) < 18446744073709551616 ^ 1; decide)
  (with_reducible refine (of_lits _ [2] _ _ 1 (2) k37 rfl rfl (dgs1 2 (by decide)) rfl (by decide)).mono ?_)
  rintro e wc41 ⟨B38, m38, d38, rfl, hw38, hb, _⟩
  have hB := keep_below hB hb
  have k1 := keep_blk hb k1
  have HN2 := Lib.hid (HN2.out.below hb)
  have k3 := keep_blk hb k3
  have HN4 := Lib.hid (HN4.out.below hb)
  have HN5 := Lib.hid (HN5.out.below hb)
  have HN6 := Lib.hid (HN6.out.below hb)
  have g7 := keep_cell hb g7
  have g8 := keep_cell hb g8
  have HN9 := Lib.hid (HN9.out.below hb)
  have k10 := keep_blk hb k10
  have HN11 := Lib.hid (HN11.out.below hb)
  have HN12 := Lib.hid (HN12.out.below hb)
  have HN13 := Lib.hid (HN13.out.below hb)
  have g14 := keep_cell hb g14
  have g15 := keep_cell hb g15
  have k16 := keep_blk hb k16
  have HN17 := Lib.hid (HN17.out.below hb)
  have k18 := keep_blk hb k18
  have HN19 := Lib.hid (HN19.out.below hb)
  have HN20 := Lib.hid (HN20.out.below hb)
  have k21 := keep_blk hb k21
  have HN22 := Lib.hid (HN22.out.below hb)
  have k23 := keep_blk hb k23
  have HN24 := Lib.hid (HN24.out.below hb)
  have HN25 := Lib.hid (HN25.out.below hb)
  have k26 := keep_blk hb k26
  have k27 := keep_blk hb k27
  have HN28 := Lib.hid (HN28.out.below hb)
  have k29 := keep_blk hb k29
  have HN30 := Lib.hid (HN30.out.below hb)
  have HN31 := Lib.hid (HN31.out.below hb)
  have k32 := keep_blk hb k32
  have k33 := keep_blk hb k33
  have k34 := keep_blk hb k34
  have k35 := keep_blk hb k35
  have HN36 := Lib.hid (HN36.out.below hb)
  have k37 := keep_blk hb k37
  have HN38 := Lib.hid hw38
  clear hb hw38
  obtain ⟨b1, b2, bz⟩ := box1 wc41 35 #[.int .u64 3]
  have hB := keep_below hB b1
  have k1 := keep_blk b1 k1
  have HN2 := Lib.hid (HN2.out.below b1)
  have k3 := keep_blk b1 k3
  have HN4 := Lib.hid (HN4.out.below b1)
  have HN5 := Lib.hid (HN5.out.below b1)
  have HN6 := Lib.hid (HN6.out.below b1)
  have g7 := keep_cell b1 g7
  have g8 := keep_cell b1 g8
  have HN9 := Lib.hid (HN9.out.below b1)
  have k10 := keep_blk b1 k10
  have HN11 := Lib.hid (HN11.out.below b1)
  have HN12 := Lib.hid (HN12.out.below b1)
  have HN13 := Lib.hid (HN13.out.below b1)
  have g14 := keep_cell b1 g14
  have g15 := keep_cell b1 g15
  have k16 := keep_blk b1 k16
  have HN17 := Lib.hid (HN17.out.below b1)
  have k18 := keep_blk b1 k18
  have HN19 := Lib.hid (HN19.out.below b1)
  have HN20 := Lib.hid (HN20.out.below b1)
  have k21 := keep_blk b1 k21
  have HN22 := Lib.hid (HN22.out.below b1)
  have k23 := keep_blk b1 k23
  have HN24 := Lib.hid (HN24.out.below b1)
  have HN25 := Lib.hid (HN25.out.below b1)
  have k26 := keep_blk b1 k26
  have k27 := keep_blk b1 k27
  have HN28 := Lib.hid (HN28.out.below b1)
  have k29 := keep_blk b1 k29
  have HN30 := Lib.hid (HN30.out.below b1)
  have HN31 := Lib.hid (HN31.out.below b1)
  have k32 := keep_blk b1 k32
  have k33 := keep_blk b1 k33
  have k34 := keep_blk b1 k34
  have k35 := keep_blk b1 k35
  have HN36 := Lib.hid (HN36.out.below b1)
  have k37 := keep_blk b1 k37
  have HN38 := Lib.hid (HN38.out.below b1)
  have k39 := b2
  clear b1 b2 bz
  go_wp2_with fail
  generalize wc41.alloc (.cells #[.int .u64 3] 35) = W42 at *
  generalize wc41.heap.size = q42 at *
  have HZ40 : Hid (Sz (1) (3)) := (by show (3 : Nat) < 18446744073709551616 ^ 1; decide)
  (with_reducible refine (of_lits _ [3] _ _ 1 (3) k39 rfl rfl (dgs1 3 (by decide)) rfl (by decide)).mono ?_)
  rintro e wc43 ⟨B40, m40, d40, rfl, hw40, hb, _⟩
  have hB := keep_below hB hb
  have k1 := keep_blk hb k1
  have HN2 := Lib.hid (HN2.out.below hb)
  have k3 := keep_blk hb k3
  have HN4 := Lib.hid (HN4.out.below hb)
  have HN5 := Lib.hid (HN5.out.below hb)
  have HN6 := Lib.hid (HN6.out.below hb)
  have g7 := keep_cell hb g7
  have g8 := keep_cell hb g8
  have HN9 := Lib.hid (HN9.out.below hb)
  have k10 := keep_blk hb k10
  have HN11 := Lib.hid (HN11.out.below hb)
  have HN12 := Lib.hid (HN12.out.below hb)
  have HN13 := Lib.hid (HN13.out.below hb)
  have g14 := keep_cell hb g14
  have g15 := keep_cell hb g15
  have k16 := keep_blk hb k16
  have HN17 := Lib.hid (HN17.out.below hb)
  have k18 := keep_blk hb k18
  have HN19 := Lib.hid (HN19.out.below hb)
  have HN20 := Lib.hid (HN20.out.below hb)
  have k21 := keep_blk hb k21
  have HN22 := Lib.hid (HN22.out.below hb)
  have k23 := keep_blk hb k23
  have HN24 := Lib.hid (HN24.out.below hb)
  have HN25 := Lib.hid (HN25.out.below hb)
  have k26 := keep_blk hb k26
  have k27 := keep_blk hb k27
  have HN28 := Lib.hid (HN28.out.below hb)
  have k29 := keep_blk hb k29
  have HN30 := Lib.hid (HN30.out.below hb)
  have HN31 := Lib.hid (HN31.out.below hb)
  have k32 := keep_blk hb k32
  have k33 := keep_blk hb k33
  have k34 := keep_blk hb k34
  have k35 := keep_blk hb k35
  have HN36 := Lib.hid (HN36.out.below hb)
  have k37 := keep_blk hb k37
  have HN38 := Lib.hid (HN38.out.below hb)
  have k39 := keep_blk hb k39
  have HN40 := Lib.hid hw40
  clear hb hw40
  obtain ⟨b1, b2, bz⟩ := box1 wc43 35 #[.int .u64 4]
  have hB := keep_below hB b1
  have k1 := keep_blk b1 k1
  have HN2 := Lib.hid (HN2.out.below b1)
  have k3 := keep_blk b1 k3
  have HN4 := Lib.hid (HN4.out.below b1)
  have HN5 := Lib.hid (HN5.out.below b1)
  have HN6 := Lib.hid (HN6.out.below b1)
  have g7 := keep_cell b1 g7
  have g8 := keep_cell b1 g8
  have HN9 := Lib.hid (HN9.out.below b1)
  have k10 := keep_blk b1 k10
  have HN11 := Lib.hid (HN11.out.below b1)
  have HN12 := Lib.hid (HN12.out.below b1)
  have HN13 := Lib.hid (HN13.out.below b1)
  have g14 := keep_cell b1 g14
  have g15 := keep_cell b1 g15
  have k16 := keep_blk b1 k16
  have HN17 := Lib.hid (HN17.out.below b1)
  have k18 := keep_blk b1 k18
  have HN19 := Lib.hid (HN19.out.below b1)
  have HN20 := Lib.hid (HN20.out.below b1)
  have k21 := keep_blk b1 k21
  have HN22 := Lib.hid (HN22.out.below b1)
  have k23 := keep_blk b1 k23
  have HN24 := Lib.hid (HN24.out.below b1)
  have HN25 := Lib.hid (HN25.out.below b1)
  have k26 := keep_blk b1 k26
  have k27 := keep_blk b1 k27
  have HN28 := Lib.hid (HN28.out.below b1)
  have k29 := keep_blk b1 k29
  have HN30 := Lib.hid (HN30.out.below b1)
  have HN31 := Lib.hid (HN31.out.below b1)
  have k32 := keep_blk b1 k32
  have k33 := keep_blk b1 k33
  have k34 := keep_blk b1 k34
  have k35 := keep_blk b1 k35
  have HN36 := Lib.hid (HN36.out.below b1)
  have k37 := keep_blk b1 k37
  have HN38 := Lib.hid (HN38.out.below b1)
  have k39 := keep_blk b1 k39
  have HN40 := Lib.hid (HN40.out.below b1)
  have k41 := b2
  clear b1 b2 bz
  go_wp2_with fail
  generalize wc43.alloc (.cells #[.int .u64 4] 35) = W44 at *
  generalize wc43.heap.size = q44 at *
  have HZ42 : Hid (Sz (1) (4)) := (by show (4 : Nat) < 18446744073709551616 ^ 1; decide)
  (with_reducible refine (of_lits _ [4] _ _ 1 (4) k41 rfl rfl (dgs1 4 (by decide)) rfl (by decide)).mono ?_)
  rintro e wc45 ⟨B42, m42, d42, rfl, hw42, hb, _⟩
  have hB := keep_below hB hb
  have k1 := keep_blk hb k1
  have HN2 := Lib.hid (HN2.out.below hb)
  have k3 := keep_blk hb k3
  have HN4 := Lib.hid (HN4.out.below hb)
  have HN5 := Lib.hid (HN5.out.below hb)
  have HN6 := Lib.hid (HN6.out.below hb)
  have g7 := keep_cell hb g7
  have g8 := keep_cell hb g8
  have HN9 := Lib.hid (HN9.out.below hb)
  have k10 := keep_blk hb k10
  have HN11 := Lib.hid (HN11.out.below hb)
  have HN12 := Lib.hid (HN12.out.below hb)
  have HN13 := Lib.hid (HN13.out.below hb)
  have g14 := keep_cell hb g14
  have g15 := keep_cell hb g15
  have k16 := keep_blk hb k16
  have HN17 := Lib.hid (HN17.out.below hb)
  have k18 := keep_blk hb k18
  have HN19 := Lib.hid (HN19.out.below hb)
  have HN20 := Lib.hid (HN20.out.below hb)
  have k21 := keep_blk hb k21
  have HN22 := Lib.hid (HN22.out.below hb)
  have k23 := keep_blk hb k23
  have HN24 := Lib.hid (HN24.out.below hb)
  have HN25 := Lib.hid (HN25.out.below hb)
  have k26 := keep_blk hb k26
  have k27 := keep_blk hb k27
  have HN28 := Lib.hid (HN28.out.below hb)
  have k29 := keep_blk hb k29
  have HN30 := Lib.hid (HN30.out.below hb)
  have HN31 := Lib.hid (HN31.out.below hb)
  have k32 := keep_blk hb k32
  have k33 := keep_blk hb k33
  have k34 := keep_blk hb k34
  have k35 := keep_blk hb k35
  have HN36 := Lib.hid (HN36.out.below hb)
  have k37 := keep_blk hb k37
  have HN38 := Lib.hid (HN38.out.below hb)
  have k39 := keep_blk hb k39
  have HN40 := Lib.hid (HN40.out.below hb)
  have k41 := keep_blk hb k41
  have HN42 := Lib.hid hw42
  clear hb hw42
  obtain ⟨b1, b2, bz⟩ := box1 wc45 29 #[.slice B38 m38 d38, .slice B40 m40 d40, .slice B42 m42 d42]
  have hB := keep_below hB b1
  have k1 := keep_blk b1 k1
  have HN2 := Lib.hid (HN2.out.below b1)
  have k3 := keep_blk b1 k3
  have HN4 := Lib.hid (HN4.out.below b1)
  have HN5 := Lib.hid (HN5.out.below b1)
  have HN6 := Lib.hid (HN6.out.below b1)
  have g7 := keep_cell b1 g7
  have g8 := keep_cell b1 g8
  have HN9 := Lib.hid (HN9.out.below b1)
  have k10 := keep_blk b1 k10
  have HN11 := Lib.hid (HN11.out.below b1)
  have HN12 := Lib.hid (HN12.out.below b1)
  have HN13 := Lib.hid (HN13.out.below b1)
  have g14 := keep_cell b1 g14
  have g15 := keep_cell b1 g15
  have k16 := keep_blk b1 k16
  have HN17 := Lib.hid (HN17.out.below b1)
  have k18 := keep_blk b1 k18
  have HN19 := Lib.hid (HN19.out.below b1)
  have HN20 := Lib.hid (HN20.out.below b1)
  have k21 := keep_blk b1 k21
  have HN22 := Lib.hid (HN22.out.below b1)
  have k23 := keep_blk b1 k23
  have HN24 := Lib.hid (HN24.out.below b1)
  have HN25 := Lib.hid (HN25.out.below b1)
  have k26 := keep_blk b1 k26
  have k27 := keep_blk b1 k27
  have HN28 := Lib.hid (HN28.out.below b1)
  have k29 := keep_blk b1 k29
  have HN30 := Lib.hid (HN30.out.below b1)
  have HN31 := Lib.hid (HN31.out.below b1)
  have k32 := keep_blk b1 k32
  have k33 := keep_blk b1 k33
  have k34 := keep_blk b1 k34
  have k35 := keep_blk b1 k35
  have HN36 := Lib.hid (HN36.out.below b1)
  have k37 := keep_blk b1 k37
  have HN38 := Lib.hid (HN38.out.below b1)
  have k39 := keep_blk b1 k39
  have HN40 := Lib.hid (HN40.out.below b1)
  have k41 := keep_blk b1 k41
  have HN42 := Lib.hid (HN42.out.below b1)
  have k43 := b2
  clear b1 b2 bz
  go_wp2_with fail
  generalize wc45.alloc (.cells #[.slice B38 m38 d38, .slice B40 m40 d40, .slice B42 m42 d42] 29) = W46 at *
  generalize wc45.heap.size = q46 at *
  have HZ44 : Hid (Sz (1) (lcmL [2, 3, 4])) := (by show lcmL [2, 3, 4] < 18446744073709551616 ^ 1; decide)
  (with_reducible refine (HGC.out.least [2, 3, 4] _ 3 3 _ (nums3 k43 HN38.out HN40.out HN42.out) (by decide) least_el least_sz (HTB.out _ hB)).mono ?_)
  rintro e wc47 ⟨B44, m44, d44, rfl, hw44, hb⟩
  have hB := keep_below hB hb
  have k1 := keep_blk hb k1
  have HN2 := Lib.hid (HN2.out.below hb)
  have k3 := keep_blk hb k3
  have HN4 := Lib.hid (HN4.out.below hb)
  have HN5 := Lib.hid (HN5.out.below hb)
  have HN6 := Lib.hid (HN6.out.below hb)
  have g7 := keep_cell hb g7
  have g8 := keep_cell hb g8
  have HN9 := Lib.hid (HN9.out.below hb)
  have k10 := keep_blk hb k10
  have HN11 := Lib.hid (HN11.out.below hb)
  have HN12 := Lib.hid (HN12.out.below hb)
  have HN13 := Lib.hid (HN13.out.below hb)
  have g14 := keep_cell hb g14
  have g15 := keep_cell hb g15
  have k16 := keep_blk hb k16
  have HN17 := Lib.hid (HN17.out.below hb)
  have k18 := keep_blk hb k18
  have HN19 := Lib.hid (HN19.out.below hb)
  have HN20 := Lib.hid (HN20.out.below hb)
  have k21 := keep_blk hb k21
  have HN22 := Lib.hid (HN22.out.below hb)
  have k23 := keep_blk hb k23
  have HN24 := Lib.hid (HN24.out.below hb)
  have HN25 := Lib.hid (HN25.out.below hb)
  have k26 := keep_blk hb k26
  have k27 := keep_blk hb k27
  have HN28 := Lib.hid (HN28.out.below hb)
  have k29 := keep_blk hb k29
  have HN30 := Lib.hid (HN30.out.below hb)
  have HN31 := Lib.hid (HN31.out.below hb)
  have k32 := keep_blk hb k32
  have k33 := keep_blk hb k33
  have k34 := keep_blk hb k34
  have k35 := keep_blk hb k35
  have HN36 := Lib.hid (HN36.out.below hb)
  have k37 := keep_blk hb k37
  have HN38 := Lib.hid (HN38.out.below hb)
  have k39 := keep_blk hb k39
  have HN40 := Lib.hid (HN40.out.below hb)
  have k41 := keep_blk hb k41
  have HN42 := Lib.hid (HN42.out.below hb)
  have k43 := keep_blk hb k43
  have HN44 := Lib.hid hw44
  clear hb hw44
  obtain ⟨b1, b2, bz⟩ := box1 wc47 35 #[.int .u64 12]
  have hB := keep_below hB b1
  have k1 := keep_blk b1 k1
  have HN2 := Lib.hid (HN2.out.below b1)
  have k3 := keep_blk b1 k3
  have HN4 := Lib.hid (HN4.out.below b1)
  have HN5 := Lib.hid (HN5.out.below b1)
  have HN6 := Lib.hid (HN6.out.below b1)
  have g7 := keep_cell b1 g7
  have g8 := keep_cell b1 g8
  have HN9 := Lib.hid (HN9.out.below b1)
  have k10 := keep_blk b1 k10
  have HN11 := Lib.hid (HN11.out.below b1)
  have HN12 := Lib.hid (HN12.out.below b1)
  have HN13 := Lib.hid (HN13.out.below b1)
  have g14 := keep_cell b1 g14
  have g15 := keep_cell b1 g15
  have k16 := keep_blk b1 k16
  have HN17 := Lib.hid (HN17.out.below b1)
  have k18 := keep_blk b1 k18
  have HN19 := Lib.hid (HN19.out.below b1)
  have HN20 := Lib.hid (HN20.out.below b1)
  have k21 := keep_blk b1 k21
  have HN22 := Lib.hid (HN22.out.below b1)
  have k23 := keep_blk b1 k23
  have HN24 := Lib.hid (HN24.out.below b1)
  have HN25 := Lib.hid (HN25.out.below b1)
  have k26 := keep_blk b1 k26
  have k27 := keep_blk b1 k27
  have HN28 := Lib.hid (HN28.out.below b1)
  have k29 := keep_blk b1 k29
  have HN30 := Lib.hid (HN30.out.below b1)
  have HN31 := Lib.hid (HN31.out.below b1)
  have k32 := keep_blk b1 k32
  have k33 := keep_blk b1 k33
  have k34 := keep_blk b1 k34
  have k35 := keep_blk b1 k35
  have HN36 := Lib.hid (HN36.out.below b1)
  have k37 := keep_blk b1 k37
  have HN38 := Lib.hid (HN38.out.below b1)
  have k39 := keep_blk b1 k39
  have HN40 := Lib.hid (HN40.out.below b1)
  have k41 := keep_blk b1 k41
  have HN42 := Lib.hid (HN42.out.below b1)
  have k43 := keep_blk b1 k43
  have HN44 := Lib.hid (HN44.out.below b1)
  have k45 := b2
  clear b1 b2 bz
  go_wp2_with fail
  generalize wc47.alloc (.cells #[.int .u64 12] 35) = W48 at *
  generalize wc47.heap.size = q48 at *
  obtain rfl : m44 = 1 := len_of HN44.out g7_dg
  (with_reducible refine (is_lits (lcmL [2, 3, 4]) B44 1 d44 _ _ [12] _ HN44.out k45 rfl rfl (dgs1 12 (by decide)) g7_dg (by decide)).mono ?_)
  rintro e wc49 ⟨rfl, hb⟩
  have hB := keep_below hB hb
  have k1 := keep_blk hb k1
  have HN2 := Lib.hid (HN2.out.below hb)
  have k3 := keep_blk hb k3
  have HN4 := Lib.hid (HN4.out.below hb)
  have HN5 := Lib.hid (HN5.out.below hb)
  have HN6 := Lib.hid (HN6.out.below hb)
  have g7 := keep_cell hb g7
  have g8 := keep_cell hb g8
  have HN9 := Lib.hid (HN9.out.below hb)
  have k10 := keep_blk hb k10
  have HN11 := Lib.hid (HN11.out.below hb)
  have HN12 := Lib.hid (HN12.out.below hb)
  have HN13 := Lib.hid (HN13.out.below hb)
  have g14 := keep_cell hb g14
  have g15 := keep_cell hb g15
  have k16 := keep_blk hb k16
  have HN17 := Lib.hid (HN17.out.below hb)
  have k18 := keep_blk hb k18
  have HN19 := Lib.hid (HN19.out.below hb)
  have HN20 := Lib.hid (HN20.out.below hb)
  have k21 := keep_blk hb k21
  have HN22 := Lib.hid (HN22.out.below hb)
  have k23 := keep_blk hb k23
  have HN24 := Lib.hid (HN24.out.below hb)
  have HN25 := Lib.hid (HN25.out.below hb)
  have k26 := keep_blk hb k26
  have k27 := keep_blk hb k27
  have HN28 := Lib.hid (HN28.out.below hb)
  have k29 := keep_blk hb k29
  have HN30 := Lib.hid (HN30.out.below hb)
  have HN31 := Lib.hid (HN31.out.below hb)
  have k32 := keep_blk hb k32
  have k33 := keep_blk hb k33
  have k34 := keep_blk hb k34
  have k35 := keep_blk hb k35
  have HN36 := Lib.hid (HN36.out.below hb)
  have k37 := keep_blk hb k37
  have HN38 := Lib.hid (HN38.out.below hb)
  have k39 := keep_blk hb k39
  have HN40 := Lib.hid (HN40.out.below hb)
  have k41 := keep_blk hb k41
  have HN42 := Lib.hid (HN42.out.below hb)
  have k43 := keep_blk hb k43
  have HN44 := Lib.hid (HN44.out.below hb)
  have k45 := keep_blk hb k45
  clear hb 
  go_wp2
  go_ret
  exact ⟨by first | rfl | simp, hB⟩
end Go.Proofs.YtplgbokgfphjaaaDoor
