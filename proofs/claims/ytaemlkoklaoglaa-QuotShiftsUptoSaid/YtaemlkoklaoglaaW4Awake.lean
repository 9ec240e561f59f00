/-
  The contract of the law's awake (actuarylaw04). Conditions: the words that came in are words, at most 1048576 of each; quot's functions do as QuotC says.
-/
import Derived.Test.YtaemlkoklaoglaaRows
import Derived.Test.YtaemlkoklaoglaaNNums
import Derived.Test.YtaemlkoklaoglaaP4C
import Derived.Test.YtaemlkoklaoglaaNWrap
import Derived.Test.YtaemlkoklaoglaaN2Lits
import Derived.WalkKit
import Derived.Lib.Hide
import Derived.Outline
import Derived.Deep.RegionHeld3
import Derived.IntWalk
import Derived.Deep.DeepCutAuto
import Derived.Deep.CutBlock
namespace Go.Proofs.Ytaemlkoklaoglaa
open Go Go.RowKit
set_option maxRecDepth 100000
set_option linter.unusedVariables false
set_option linter.unusedSimpArgs false
def SaysYes4 (w : World) (e : Ending) (w' : World) : Prop := e = .returned (.bool true) ∧ Below w.heap.size w w'
theorem q4_dg : dg 18446744073709551616 (340282366920938463463374607431768211456 / 18446744073709551617) = [18446744073709551615] := dg_one (a := 18446744073709551615) (by decide) (by decide)
theorem r4_dg : dg 18446744073709551616 (340282366920938463463374607431768211456 % 18446744073709551617) = [1] := dg_one (a := 1) (by decide) (by decide)
theorem p4_dg : dg 18446744073709551616 (100 / 7) = [14] := dg_one (a := 14) (by decide) (by decide)
set_option maxHeartbeats 16000000 in
theorem law4_awake (QC : QuotC) (w : World) : Calls Try.prog 9 #[] w (SaysYes4 w) := by
  have HQC := Lib.hid QC
  clear QC
  go_enter Try.func9, Try.ntmps9
  have hB := Below.refl w.heap.size w
  obtain ⟨b1, b2, bz⟩ := box1 w 23 #[.int .u64 0, .int .u64 0, .int .u64 1]
  have hB := keep_below hB b1
  have k1 := b2
  clear b1 b2 bz
  go_wp2_with fail
  generalize w.alloc (.cells #[.int .u64 0, .int .u64 0, .int .u64 1] 23) = W1 at *
  have HZ2 : Hid (Sz (3) (340282366920938463463374607431768211456)) := (by show (340282366920938463463374607431768211456 : Nat) < 18446744073709551616 ^ 3; decide)
  refine (of_lits _ [0, 0, 1] _ _ 3 (340282366920938463463374607431768211456) k1 rfl rfl (dgs3 0 0 1 (by decide) (by decide) (by decide)) rfl (by decide)).mono ?_
  rintro e wc2 ⟨B2, m2, d2, rfl, hw2, hb, _⟩
  have hB := keep_below hB hb
  have k1 := keep_blk hb k1
  have HN2 := Lib.hid hw2
  clear hb hw2
  obtain ⟨b1, b2, bz⟩ := box1 wc2 23 #[.int .u64 1, .int .u64 1]
  have hB := keep_below hB b1
  have k1 := keep_blk b1 k1
  have HN2 := Lib.hid (HN2.out.below b1)
  have k3 := b2
  clear b1 b2 bz
  go_wp2_with fail
  generalize wc2.alloc (.cells #[.int .u64 1, .int .u64 1] 23) = W3 at *
  generalize wc2.heap.size = q3 at *
  have HZ4 : Hid (Sz (2) (18446744073709551617)) := (by show (18446744073709551617 : Nat) < 18446744073709551616 ^ 2; decide)
  refine (of_lits _ [1, 1] _ _ 2 (18446744073709551617) k3 rfl rfl (dgs2 1 1 (by decide) (by decide)) rfl (by decide)).mono ?_
  rintro e wc4 ⟨B4, m4, d4, rfl, hw4, hb, _⟩
  have hB := keep_below hB hb
  have k1 := keep_blk hb k1
  have HN2 := Lib.hid (HN2.out.below hb)
  have k3 := keep_blk hb k3
  have HN4 := Lib.hid hw4
  clear hb hw4
  go_wp2_with fail
  have HZ5 : Hid (Sz (3) (340282366920938463463374607431768211456 / 18446744073709551617)) := Sz.of_le HZ2.out (Nat.div_le_self _ _)
  have HZ6 : Hid (Sz (3) (340282366920938463463374607431768211456 % 18446744073709551617)) := Sz.of_le HZ2.out (Nat.mod_le _ _)
  refine (HQC.out.divMod (340282366920938463463374607431768211456) (18446744073709551617) B2 B4 m2 m4 d2 d4 _ HN2.out HN4.out (by have := Sz.words HZ2.out HN2.out; omega) (by have := Sz.words HZ4.out HN4.out; omega) (by decide)).mono ?_
  rintro e wc5 ⟨B5, m5, d5, B6, m6, d6, rfl, hw5, hw6, hb⟩
  have hB := keep_below hB hb
  have k1 := keep_blk hb k1
  have HN2 := Lib.hid (HN2.out.below hb)
  have k3 := keep_blk hb k3
  have HN4 := Lib.hid (HN4.out.below hb)
  have HN5 := Lib.hid hw5
  have HN6 := Lib.hid hw6
  clear hb hw5 hw6
  obtain ⟨b1, b2, b3, b4, bz⟩ := box3 wc5 26 26 23 #[.slice B5 m5 d5] #[.slice B6 m6 d6] #[.int .u64 100]
  have hB := keep_below hB b1
  have k1 := keep_blk b1 k1
  have HN2 := Lib.hid (HN2.out.below b1)
  have k3 := keep_blk b1 k3
  have HN4 := Lib.hid (HN4.out.below b1)
  have HN5 := Lib.hid (HN5.out.below b1)
  have HN6 := Lib.hid (HN6.out.below b1)
  have g7 : (((wc5.alloc (.cells #[.slice B5 m5 d5] 26)).alloc (.cells #[.slice B6 m6 d6] 26)).alloc (.cells #[.int .u64 100] 23)).cell? ⟨wc5.heap.size, 0, none⟩ = some (.slice B5 m5 d5) := b2.cell 0
  have g8 : (((wc5.alloc (.cells #[.slice B5 m5 d5] 26)).alloc (.cells #[.slice B6 m6 d6] 26)).alloc (.cells #[.int .u64 100] 23)).cell? ⟨wc5.heap.size + 1, 0, none⟩ = some (.slice B6 m6 d6) := b3.cell 0
  have k9 := b4
  clear b1 b2 b3 b4 bz
  go_wp2_with fail
  generalize ((wc5.alloc (.cells #[.slice B5 m5 d5] 26)).alloc (.cells #[.slice B6 m6 d6] 26)).alloc (.cells #[.int .u64 100] 23) = W6 at *
  generalize wc5.heap.size = q6 at *
  have HZ10 : Hid (Sz (1) (100)) := (by show (100 : Nat) < 18446744073709551616 ^ 1; decide)
  refine (of_lits _ [100] _ _ 1 (100) k9 rfl rfl (dgs1 100 (by decide)) rfl (by decide)).mono ?_
  rintro e wc7 ⟨B10, m10, d10, rfl, hw10, hb, _⟩
  have hB := keep_below hB hb
  have k1 := keep_blk hb k1
  have HN2 := Lib.hid (HN2.out.below hb)
  have k3 := keep_blk hb k3
  have HN4 := Lib.hid (HN4.out.below hb)
  have HN5 := Lib.hid (HN5.out.below hb)
  have HN6 := Lib.hid (HN6.out.below hb)
  have g7 := keep_cell hb g7
  have g8 := keep_cell hb g8
  have k9 := keep_blk hb k9
  have HN10 := Lib.hid hw10
  clear hb hw10
  go_wp2_with fail
  have HZ11 : Hid (Sz (1) (100 / 7)) := Sz.of_le HZ10.out (Nat.div_le_self _ _)
  refine (HQC.out.byWord (100) (7) B10 m10 d10 _ HN10.out (by have := Sz.words HZ10.out HN10.out; omega) (by decide) (by decide)).mono ?_
  rintro e wc8 ⟨B11, m11, d11, rfl, hw11, hb⟩
  have hB := keep_below hB hb
  have k1 := keep_blk hb k1
  have HN2 := Lib.hid (HN2.out.below hb)
  have k3 := keep_blk hb k3
  have HN4 := Lib.hid (HN4.out.below hb)
  have HN5 := Lib.hid (HN5.out.below hb)
  have HN6 := Lib.hid (HN6.out.below hb)
  have g7 := keep_cell hb g7
  have g8 := keep_cell hb g8
  have k9 := keep_blk hb k9
  have HN10 := Lib.hid (HN10.out.below hb)
  have HN11 := Lib.hid hw11
  clear hb hw11
  obtain ⟨b1, b2, b3, bz⟩ := box2 wc8 26 23 #[.slice B11 m11 d11] #[.int .u64 5]
  have hB := keep_below hB b1
  have k1 := keep_blk b1 k1
  have HN2 := Lib.hid (HN2.out.below b1)
  have k3 := keep_blk b1 k3
  have HN4 := Lib.hid (HN4.out.below b1)
  have HN5 := Lib.hid (HN5.out.below b1)
  have HN6 := Lib.hid (HN6.out.below b1)
  have g7 := keep_cell b1 g7
  have g8 := keep_cell b1 g8
  have k9 := keep_blk b1 k9
  have HN10 := Lib.hid (HN10.out.below b1)
  have HN11 := Lib.hid (HN11.out.below b1)
  have g12 : ((wc8.alloc (.cells #[.slice B11 m11 d11] 26)).alloc (.cells #[.int .u64 5] 23)).cell? ⟨wc8.heap.size, 0, none⟩ = some (.slice B11 m11 d11) := b2.cell 0
  have k13 := b3
  clear b1 b2 b3 bz
  go_wp2_with fail
  generalize (wc8.alloc (.cells #[.slice B11 m11 d11] 26)).alloc (.cells #[.int .u64 5] 23) = W9 at *
  generalize wc8.heap.size = q9 at *
  have HZ14 : Hid (Sz (1) (5)) := (by show (5 : Nat) < 18446744073709551616 ^ 1; decide)
  refine (of_lits _ [5] _ _ 1 (5) k13 rfl rfl (dgs1 5 (by decide)) rfl (by decide)).mono ?_
  rintro e wc10 ⟨B14, m14, d14, rfl, hw14, hb, _⟩
  have hB := keep_below hB hb
  have k1 := keep_blk hb k1
  have HN2 := Lib.hid (HN2.out.below hb)
  have k3 := keep_blk hb k3
  have HN4 := Lib.hid (HN4.out.below hb)
  have HN5 := Lib.hid (HN5.out.below hb)
  have HN6 := Lib.hid (HN6.out.below hb)
  have g7 := keep_cell hb g7
  have g8 := keep_cell hb g8
  have k9 := keep_blk hb k9
  have HN10 := Lib.hid (HN10.out.below hb)
  have HN11 := Lib.hid (HN11.out.below hb)
  have g12 := keep_cell hb g12
  have k13 := keep_blk hb k13
  have HN14 := Lib.hid hw14
  clear hb hw14
  go_wp2_with fail
  have HZ15 : Hid (Sz (1) (0)) := (by show (0 : Nat) < 18446744073709551616 ^ 1; decide)
  refine (show Calls Try.prog 10 #[.slice none 0 0] _ (GivesN2 _ 0) from nat_of none 0 0 [] _ Reads.none_ (by intro d hd; simp at hd) (Nat.le_refl _) (by decide) (by decide)).mono ?_
  rintro e wc11 ⟨B15, m15, d15, rfl, hw15, hb, _⟩
  have hB := keep_below hB hb
  have k1 := keep_blk hb k1
  have HN2 := Lib.hid (HN2.out.below hb)
  have k3 := keep_blk hb k3
  have HN4 := Lib.hid (HN4.out.below hb)
  have HN5 := Lib.hid (HN5.out.below hb)
  have HN6 := Lib.hid (HN6.out.below hb)
  have g7 := keep_cell hb g7
  have g8 := keep_cell hb g8
  have k9 := keep_blk hb k9
  have HN10 := Lib.hid (HN10.out.below hb)
  have HN11 := Lib.hid (HN11.out.below hb)
  have g12 := keep_cell hb g12
  have k13 := keep_blk hb k13
  have HN14 := Lib.hid (HN14.out.below hb)
  have HN15 := Lib.hid hw15
  clear hb hw15
  go_wp2_with fail
  have HZ16 : Hid (Sz (1) (0)) := (by show (0 : Nat) < 18446744073709551616 ^ 1; decide)
  have HZ17 : Hid (Sz (1) (0)) := (by show (0 : Nat) < 18446744073709551616 ^ 1; decide)
  refine (HQC.out.divModNo (5) (0) B14 B15 m14 m15 d14 d15 _ HN14.out HN15.out (by have := Sz.words HZ14.out HN14.out; omega) (by have := Sz.words HZ15.out HN15.out; omega) rfl).mono ?_
  rintro e wc12 ⟨B16, m16, d16, B17, m17, d17, rfl, hw16, hw17, hb⟩
  have hB := keep_below hB hb
  have k1 := keep_blk hb k1
  have HN2 := Lib.hid (HN2.out.below hb)
  have k3 := keep_blk hb k3
  have HN4 := Lib.hid (HN4.out.below hb)
  have HN5 := Lib.hid (HN5.out.below hb)
  have HN6 := Lib.hid (HN6.out.below hb)
  have g7 := keep_cell hb g7
  have g8 := keep_cell hb g8
  have k9 := keep_blk hb k9
  have HN10 := Lib.hid (HN10.out.below hb)
  have HN11 := Lib.hid (HN11.out.below hb)
  have g12 := keep_cell hb g12
  have k13 := keep_blk hb k13
  have HN14 := Lib.hid (HN14.out.below hb)
  have HN15 := Lib.hid (HN15.out.below hb)
  have HN16 := Lib.hid hw16
  have HN17 := Lib.hid hw17
  clear hb hw16 hw17
  have gm7_2 : ((wc12.alloc (.cells #[.slice B16 m16 d16] 26)).alloc (.cells #[.slice B17 m17 d17] 26)).cell? ⟨q6, 0, none⟩ = some (.slice B5 m5 d5) := keep_cell_alloc _ (keep_cell_alloc _ (g7))
  obtain ⟨b1, b2, b3, b4, bz⟩ := box3 wc12 26 26 23 #[.slice B16 m16 d16] #[.slice B17 m17 d17] #[.int .u64 18446744073709551615]
  have hB := keep_below hB b1
  have k1 := keep_blk b1 k1
  have HN2 := Lib.hid (HN2.out.below b1)
  have k3 := keep_blk b1 k3
  have HN4 := Lib.hid (HN4.out.below b1)
  have HN5 := Lib.hid (HN5.out.below b1)
  have HN6 := Lib.hid (HN6.out.below b1)
  have g7 := keep_cell b1 g7
  have g8 := keep_cell b1 g8
  have k9 := keep_blk b1 k9
  have HN10 := Lib.hid (HN10.out.below b1)
  have HN11 := Lib.hid (HN11.out.below b1)
  have g12 := keep_cell b1 g12
  have k13 := keep_blk b1 k13
  have HN14 := Lib.hid (HN14.out.below b1)
  have HN15 := Lib.hid (HN15.out.below b1)
  have HN16 := Lib.hid (HN16.out.below b1)
  have HN17 := Lib.hid (HN17.out.below b1)
  have g18 : (((wc12.alloc (.cells #[.slice B16 m16 d16] 26)).alloc (.cells #[.slice B17 m17 d17] 26)).alloc (.cells #[.int .u64 18446744073709551615] 23)).cell? ⟨wc12.heap.size, 0, none⟩ = some (.slice B16 m16 d16) := b2.cell 0
  have g19 : (((wc12.alloc (.cells #[.slice B16 m16 d16] 26)).alloc (.cells #[.slice B17 m17 d17] 26)).alloc (.cells #[.int .u64 18446744073709551615] 23)).cell? ⟨wc12.heap.size + 1, 0, none⟩ = some (.slice B17 m17 d17) := b3.cell 0
  have k20 := b4
  clear b1 b2 b3 b4 bz
  go_wp2_with fail
  clear gm7_2
  generalize ((wc12.alloc (.cells #[.slice B16 m16 d16] 26)).alloc (.cells #[.slice B17 m17 d17] 26)).alloc (.cells #[.int .u64 18446744073709551615] 23) = W13 at *
  generalize wc12.heap.size = q13 at *
  obtain rfl : m5 = 1 := len_of HN5.out q4_dg
  refine (is_lits (340282366920938463463374607431768211456 / 18446744073709551617) B5 1 d5 _ _ [18446744073709551615] _ HN5.out k20 rfl rfl (dgs1 18446744073709551615 (by decide)) q4_dg (by decide)).mono ?_
  rintro e wc14 ⟨rfl, hb⟩
  have hB := keep_below hB hb
  have k1 := keep_blk hb k1
  have HN2 := Lib.hid (HN2.out.below hb)
  have k3 := keep_blk hb k3
  have HN4 := Lib.hid (HN4.out.below hb)
  have HN5 := Lib.hid (HN5.out.below hb)
  have HN6 := Lib.hid (HN6.out.below hb)
  have g7 := keep_cell hb g7
  have g8 := keep_cell hb g8
  have k9 := keep_blk hb k9
  have HN10 := Lib.hid (HN10.out.below hb)
  have HN11 := Lib.hid (HN11.out.below hb)
  have g12 := keep_cell hb g12
  have k13 := keep_blk hb k13
  have HN14 := Lib.hid (HN14.out.below hb)
  have HN15 := Lib.hid (HN15.out.below hb)
  have HN16 := Lib.hid (HN16.out.below hb)
  have HN17 := Lib.hid (HN17.out.below hb)
  have g18 := keep_cell hb g18
  have g19 := keep_cell hb g19
  have k20 := keep_blk hb k20
  clear hb 
  obtain ⟨b1, b2, bz⟩ := box1 wc14 23 #[.int .u64 1]
  have hB := keep_below hB b1
  have k1 := keep_blk b1 k1
  have HN2 := Lib.hid (HN2.out.below b1)
  have k3 := keep_blk b1 k3
  have HN4 := Lib.hid (HN4.out.below b1)
  have HN5 := Lib.hid (HN5.out.below b1)
  have HN6 := Lib.hid (HN6.out.below b1)
  have g7 := keep_cell b1 g7
  have g8 := keep_cell b1 g8
  have k9 := keep_blk b1 k9
  have HN10 := Lib.hid (HN10.out.below b1)
  have HN11 := Lib.hid (HN11.out.below b1)
  have g12 := keep_cell b1 g12
  have k13 := keep_blk b1 k13
  have HN14 := Lib.hid (HN14.out.below b1)
  have HN15 := Lib.hid (HN15.out.below b1)
  have HN16 := Lib.hid (HN16.out.below b1)
  have HN17 := Lib.hid (HN17.out.below b1)
  have g18 := keep_cell b1 g18
  have g19 := keep_cell b1 g19
  have k20 := keep_blk b1 k20
  have k21 := b2
  clear b1 b2 bz
  go_wp2_with fail
  generalize wc14.alloc (.cells #[.int .u64 1] 23) = W15 at *
  generalize wc14.heap.size = q15 at *
  obtain rfl : m6 = 1 := len_of HN6.out r4_dg
  refine (is_lits (340282366920938463463374607431768211456 % 18446744073709551617) B6 1 d6 _ _ [1] _ HN6.out k21 rfl rfl (dgs1 1 (by decide)) r4_dg (by decide)).mono ?_
  rintro e wc16 ⟨rfl, hb⟩
  have hB := keep_below hB hb
  have k1 := keep_blk hb k1
  have HN2 := Lib.hid (HN2.out.below hb)
  have k3 := keep_blk hb k3
  have HN4 := Lib.hid (HN4.out.below hb)
  have HN5 := Lib.hid (HN5.out.below hb)
  have HN6 := Lib.hid (HN6.out.below hb)
  have g7 := keep_cell hb g7
  have g8 := keep_cell hb g8
  have k9 := keep_blk hb k9
  have HN10 := Lib.hid (HN10.out.below hb)
  have HN11 := Lib.hid (HN11.out.below hb)
  have g12 := keep_cell hb g12
  have k13 := keep_blk hb k13
  have HN14 := Lib.hid (HN14.out.below hb)
  have HN15 := Lib.hid (HN15.out.below hb)
  have HN16 := Lib.hid (HN16.out.below hb)
  have HN17 := Lib.hid (HN17.out.below hb)
  have g18 := keep_cell hb g18
  have g19 := keep_cell hb g19
  have k20 := keep_blk hb k20
  have k21 := keep_blk hb k21
  clear hb 
  obtain ⟨b1, b2, bz⟩ := box1 wc16 23 #[.int .u64 14]
  have hB := keep_below hB b1
  have k1 := keep_blk b1 k1
  have HN2 := Lib.hid (HN2.out.below b1)
  have k3 := keep_blk b1 k3
  have HN4 := Lib.hid (HN4.out.below b1)
  have HN5 := Lib.hid (HN5.out.below b1)
  have HN6 := Lib.hid (HN6.out.below b1)
  have g7 := keep_cell b1 g7
  have g8 := keep_cell b1 g8
  have k9 := keep_blk b1 k9
  have HN10 := Lib.hid (HN10.out.below b1)
  have HN11 := Lib.hid (HN11.out.below b1)
  have g12 := keep_cell b1 g12
  have k13 := keep_blk b1 k13
  have HN14 := Lib.hid (HN14.out.below b1)
  have HN15 := Lib.hid (HN15.out.below b1)
  have HN16 := Lib.hid (HN16.out.below b1)
  have HN17 := Lib.hid (HN17.out.below b1)
  have g18 := keep_cell b1 g18
  have g19 := keep_cell b1 g19
  have k20 := keep_blk b1 k20
  have k21 := keep_blk b1 k21
  have k22 := b2
  clear b1 b2 bz
  go_wp2_with fail
  generalize wc16.alloc (.cells #[.int .u64 14] 23) = W17 at *
  generalize wc16.heap.size = q17 at *
  obtain rfl : m11 = 1 := len_of HN11.out p4_dg
  refine (is_lits (100 / 7) B11 1 d11 _ _ [14] _ HN11.out k22 rfl rfl (dgs1 14 (by decide)) p4_dg (by decide)).mono ?_
  rintro e wc18 ⟨rfl, hb⟩
  have hB := keep_below hB hb
  have k1 := keep_blk hb k1
  have HN2 := Lib.hid (HN2.out.below hb)
  have k3 := keep_blk hb k3
  have HN4 := Lib.hid (HN4.out.below hb)
  have HN5 := Lib.hid (HN5.out.below hb)
  have HN6 := Lib.hid (HN6.out.below hb)
  have g7 := keep_cell hb g7
  have g8 := keep_cell hb g8
  have k9 := keep_blk hb k9
  have HN10 := Lib.hid (HN10.out.below hb)
  have HN11 := Lib.hid (HN11.out.below hb)
  have g12 := keep_cell hb g12
  have k13 := keep_blk hb k13
  have HN14 := Lib.hid (HN14.out.below hb)
  have HN15 := Lib.hid (HN15.out.below hb)
  have HN16 := Lib.hid (HN16.out.below hb)
  have HN17 := Lib.hid (HN17.out.below hb)
  have g18 := keep_cell hb g18
  have g19 := keep_cell hb g19
  have k20 := keep_blk hb k20
  have k21 := keep_blk hb k21
  have k22 := keep_blk hb k22
  clear hb 
  go_wp2_with fail
  have HZ23 : Hid (Sz (1) (0)) := (by show (0 : Nat) < 18446744073709551616 ^ 1; decide)
  refine (show Calls Try.prog 10 #[.slice none 0 0] _ (GivesN2 _ 0) from nat_of none 0 0 [] _ Reads.none_ (by intro d hd; simp at hd) (Nat.le_refl _) (by decide) (by decide)).mono ?_
  rintro e wc19 ⟨B23, m23, d23, rfl, hw23, hb, _⟩
  have hB := keep_below hB hb
  have k1 := keep_blk hb k1
  have HN2 := Lib.hid (HN2.out.below hb)
  have k3 := keep_blk hb k3
  have HN4 := Lib.hid (HN4.out.below hb)
  have HN5 := Lib.hid (HN5.out.below hb)
  have HN6 := Lib.hid (HN6.out.below hb)
  have g7 := keep_cell hb g7
  have g8 := keep_cell hb g8
  have k9 := keep_blk hb k9
  have HN10 := Lib.hid (HN10.out.below hb)
  have HN11 := Lib.hid (HN11.out.below hb)
  have g12 := keep_cell hb g12
  have k13 := keep_blk hb k13
  have HN14 := Lib.hid (HN14.out.below hb)
  have HN15 := Lib.hid (HN15.out.below hb)
  have HN16 := Lib.hid (HN16.out.below hb)
  have HN17 := Lib.hid (HN17.out.below hb)
  have g18 := keep_cell hb g18
  have g19 := keep_cell hb g19
  have k20 := keep_blk hb k20
  have k21 := keep_blk hb k21
  have k22 := keep_blk hb k22
  have HN23 := Lib.hid hw23
  clear hb hw23
  go_wp2_with fail
  have HZ24 : Hid (Sz (1) (0)) := (by show (0 : Nat) < 18446744073709551616 ^ 1; decide)
  refine (show Calls Try.prog 10 #[.slice none 0 0] _ (GivesN2 _ 0) from nat_of none 0 0 [] _ Reads.none_ (by intro d hd; simp at hd) (Nat.le_refl _) (by decide) (by decide)).mono ?_
  rintro e wc20 ⟨B24, m24, d24, rfl, hw24, hb, _⟩
  have hB := keep_below hB hb
  have k1 := keep_blk hb k1
  have HN2 := Lib.hid (HN2.out.below hb)
  have k3 := keep_blk hb k3
  have HN4 := Lib.hid (HN4.out.below hb)
  have HN5 := Lib.hid (HN5.out.below hb)
  have HN6 := Lib.hid (HN6.out.below hb)
  have g7 := keep_cell hb g7
  have g8 := keep_cell hb g8
  have k9 := keep_blk hb k9
  have HN10 := Lib.hid (HN10.out.below hb)
  have HN11 := Lib.hid (HN11.out.below hb)
  have g12 := keep_cell hb g12
  have k13 := keep_blk hb k13
  have HN14 := Lib.hid (HN14.out.below hb)
  have HN15 := Lib.hid (HN15.out.below hb)
  have HN16 := Lib.hid (HN16.out.below hb)
  have HN17 := Lib.hid (HN17.out.below hb)
  have g18 := keep_cell hb g18
  have g19 := keep_cell hb g19
  have k20 := keep_blk hb k20
  have k21 := keep_blk hb k21
  have k22 := keep_blk hb k22
  have HN23 := Lib.hid (HN23.out.below hb)
  have HN24 := Lib.hid hw24
  clear hb hw24
  go_wp2_with fail
  have DV25 : Hid (dvdB (0) (0) = true) := rfl
  refine (DV25.out ▸ HQC.out.divides (0) (0) B23 B24 m23 m24 d23 d24 _ HN23.out HN24.out (by have := Sz.words HZ23.out HN23.out; omega) (by have := Sz.words HZ24.out HN24.out; omega)).mono ?_
  rintro e wc21 ⟨rfl, hb⟩
  have hB := keep_below hB hb
  have k1 := keep_blk hb k1
  have HN2 := Lib.hid (HN2.out.below hb)
  have k3 := keep_blk hb k3
  have HN4 := Lib.hid (HN4.out.below hb)
  have HN5 := Lib.hid (HN5.out.below hb)
  have HN6 := Lib.hid (HN6.out.below hb)
  have g7 := keep_cell hb g7
  have g8 := keep_cell hb g8
  have k9 := keep_blk hb k9
  have HN10 := Lib.hid (HN10.out.below hb)
  have HN11 := Lib.hid (HN11.out.below hb)
  have g12 := keep_cell hb g12
  have k13 := keep_blk hb k13
  have HN14 := Lib.hid (HN14.out.below hb)
  have HN15 := Lib.hid (HN15.out.below hb)
  have HN16 := Lib.hid (HN16.out.below hb)
  have HN17 := Lib.hid (HN17.out.below hb)
  have g18 := keep_cell hb g18
  have g19 := keep_cell hb g19
  have k20 := keep_blk hb k20
  have k21 := keep_blk hb k21
  have k22 := keep_blk hb k22
  have HN23 := Lib.hid (HN23.out.below hb)
  have HN24 := Lib.hid (HN24.out.below hb)
  clear hb 
  go_wp2
  go_ret
  exact ⟨by first | rfl | simp, hB⟩
end Go.Proofs.Ytaemlkoklaoglaa
