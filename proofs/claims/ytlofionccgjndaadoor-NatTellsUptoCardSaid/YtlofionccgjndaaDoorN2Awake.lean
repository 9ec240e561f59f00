/-
  The contract of the law's awake (actuarylaw02): the document's examples are told. Conditions: none.
-/
import Derived.Test.YtlofionccgjndaaDoorRows
import Derived.Test.YtlofionccgjndaaDoorN2Is
import Derived.Test.YtlofionccgjndaaDoorNSub
import Derived.Test.YtlofionccgjndaaDoorNShr
import Derived.Test.YtlofionccgjndaaDoorNLow
import Derived.WalkKit
import Derived.Lib.Hide
import Derived.Outline
namespace Go.Proofs.YtlofionccgjndaaDoor
open Go Go.RowKit
set_option maxRecDepth 100000
set_option linter.unusedVariables false
def SaysYesA (w : World) (e : Ending) (w' : World) : Prop := e = .returned (.bool true) ∧ Below w.heap.size w w'
/-- Of, of words written out. -/
theorem of_lits (cs : Array Value) (l : List Nat) (w : World) (g n x : Nat) (hk : Blk w g 30 cs) (hn : cs.size = n) (hv : cs.toList = vals .u64 l) (hd : Dgs 18446744073709551616 l) (hx : dv 18446744073709551616 l = x) (hs : n ≤ 1000) :
    Calls Tryd.prog 5 #[.slice (some ⟨g, 0, none⟩) n n] w (GivesN2 w x) := by
  have hl : l.length = n := by
    have h := congrArg List.length hv
    rw [vals_length] at h
    rw [← h]; simpa using hn
  have := nat_of (some ⟨g, 0, none⟩) n n l w (blk_reads hk hn (by rw [hv, List.take_of_length_le (by rw [vals_length]; omega)]) hl) hd (Nat.le_refl _) (by omega) (by omega)
  rw [hx] at this
  exact this
theorem dgs1 (a : Nat) (ha : a < 18446744073709551616) : Dgs 18446744073709551616 [a] := by intro d hd; simp at hd; omega
theorem dgs2 (a b : Nat) (ha : a < 18446744073709551616) (hb : b < 18446744073709551616) : Dgs 18446744073709551616 [a, b] := by intro d hd; simp at hd; omega
theorem dgs3 (a b c : Nat) (ha : a < 18446744073709551616) (hb : b < 18446744073709551616) (hc : c < 18446744073709551616) : Dgs 18446744073709551616 [a, b, c] := by intro d hd; simp at hd; omega
theorem dg_two {a b : Nat} (ha : a < 18446744073709551616) (hb : b < 18446744073709551616) (h0 : b ≠ 0) : dg 18446744073709551616 (a + 18446744073709551616 * b) = [a, b] := by
  have h := dg_of (b := 18446744073709551616) (by decide) (l := [a, b]) (dgs2 a b ha hb) (by intro _; simpa using h0)
  rw [h]
  simp [dv]
theorem dg_one {a : Nat} (ha : a < 18446744073709551616) (h0 : a ≠ 0) : dg 18446744073709551616 a = [a] := by
  have h := dg_of (b := 18446744073709551616) (by decide) (l := [a]) (dgs1 a ha) (by intro _; simpa using h0)
  rw [h]
  simp [dv]
theorem x1_dg : dg 18446744073709551616 36893488147419103233 = [1, 2] := dg_two (a := 1) (b := 2) (by decide) (by decide) (by decide)
theorem x1_half : dg 18446744073709551616 (36893488147419103233 / 2 ^ 1) = [0, 1] := dg_two (a := 0) (b := 1) (by decide) (by decide) (by decide)
theorem x1_bits : bitLen 36893488147419103233 = 66 := by decide +kernel
theorem x3_bits : bitLen 129127208515966861317 = 67 := by decide +kernel
theorem x3_low : dg 18446744073709551616 (129127208515966861317 % 2 ^ 65) = [5, 1] := dg_two (a := 5) (b := 1) (by decide) (by decide) (by decide)
theorem x2_dg : dg 18446744073709551616 (18446744073709551616 - 1) = [18446744073709551615] := dg_one (a := 18446744073709551615) (by decide) (by decide)
theorem x1_word : wd 36893488147419103233 1 = 2 := by decide +kernel
theorem b_dg : dg 18446744073709551616 18446744073709551616 = [0, 1] := dg_two (a := 0) (b := 1) (by decide) (by decide) (by decide)
theorem x3_dg : dg 18446744073709551616 129127208515966861317 = [5, 7] := dg_two (a := 5) (b := 7) (by decide) (by decide) (by decide)
theorem is_lits (x : Nat) (A : Option Addr) (n c g : Nat) (cs : Array Value) (l : List Nat) (w : World) (h : WordsIn w x A n c) (hk : Blk w g 30 cs) (hn : cs.size = n) (hv : cs.toList = vals .u64 l) (hd : Dgs 18446744073709551616 l) (hx : dg 18446744073709551616 x = l) (hs : n ≤ 1000) :
    Calls Tryd.prog 21 #[.agg #[.slice A n c], .slice (some ⟨g, 0, none⟩) n n] w (SaysB w true) := by
  have hl : l.length = n := by
    have h := congrArg List.length hv
    rw [vals_length] at h
    rw [← h]; simpa using hn
  have := law2_is_eq x l A (some ⟨g, 0, none⟩) c n n w h (blk_reads hk hn (by rw [hv, List.take_of_length_le (by rw [vals_length]; omega)]) hl) hd (by omega)
  rw [hx] at this
  simpa using this
theorem up_alloc (w : World) (o : Obj) : Below w.heap.size w (w.alloc o) := (Below.refl _ w).alloc (Nat.le_refl _) o
theorem up2 {w0 w w' : World} (h : Below w0.heap.size w0 w) (hb : Below w.heap.size w w') : Below w0.heap.size w0 w' := keep_below h hb
theorem len_of {w : World} {x : Nat} {A : Option Addr} {n c : Nat} {l : List Nat} (h : WordsIn w x A n c) (hx : dg 18446744073709551616 x = l) : n = l.length := by rw [← h.len, hx]
set_option maxHeartbeats 8000000 in
theorem law2_awake (w : World) : Calls Tryd.prog 4 #[] w (SaysYesA w) := by
  go_enter Tryd.func4, Tryd.ntmps4
  go_wp2_with fail
  generalize hW : w.alloc (.cells #[.int .u64 1, .int .u64 2, .int .u64 0] 30) = W0
  obtain ⟨b1, b2, b5⟩ := box1 w 30 #[.int .u64 1, .int .u64 2, .int .u64 0]
  rw [hW] at b1 b2 b5
  clear hW
  refine (of_lits _ [1, 2, 0] W0 _ 3 36893488147419103233 b2 rfl rfl (dgs3 1 2 0 (by decide) (by decide) (by decide)) rfl (by decide)).mono ?_
  rintro e w1 ⟨A1, n1, c1, rfl, hw1, hb, _⟩
  have hB := keep_below b1 hb
  obtain rfl : n1 = 2 := len_of hw1 x1_dg
  clear hb b1 b2 b5
  have HX1 := Lib.hid hw1
  clear hw1
  go_wp2_with fail
  -- Of(0, 1)
  generalize hW : (w1.alloc (.cells #[.slice A1 2 c1] 25)).alloc (.cells #[.int .u64 0, .int .u64 1] 30) = W1
  obtain ⟨b1, b2, b3, b5⟩ := box2 w1 25 30 #[.slice A1 2 c1] #[.int .u64 0, .int .u64 1]
  rw [hW] at b1 b2 b3 b5
  clear hW
  refine (of_lits _ [0, 1] W1 _ 2 18446744073709551616 b3 rfl rfl (dgs2 0 1 (by decide) (by decide)) rfl (by decide)).mono ?_
  rintro e w2 ⟨A2, n2, c2, rfl, hw2, hb, _⟩
  obtain rfl : n2 = 2 := len_of hw2 b_dg
  have st := up2 b1 hb
  have hB := keep_below hB st
  have g1 : w2.cell? ⟨w1.heap.size, 0, none⟩ = some (.slice A1 2 c1) := keep_cell hb (b2.cell 0)
  have HX1 := Lib.hid (HX1.out.below st)
  have HX2 := Lib.hid hw2
  clear hb b1 b2 b3 b5 hw2 st
  go_wp2_with fail
  -- Of(1)
  generalize hW : w2.alloc (.cells #[.int .u64 1] 30) = W2
  obtain ⟨b1, b2, b5⟩ := box1 w2 30 #[.int .u64 1]
  rw [hW] at b1 b2 b5
  clear hW
  refine (of_lits _ [1] W2 _ 1 1 b2 rfl rfl (dgs1 1 (by decide)) rfl (by decide)).mono ?_
  rintro e w3 ⟨A3, n3, c3, rfl, hw3, hb, _⟩
  obtain rfl : n3 = 1 := len_of hw3 (dg_one (a := 1) (by decide) (by decide))
  have st := up2 b1 hb
  have hB := keep_below hB st
  have g1 := keep_cell st g1
  have HX1 := Lib.hid (HX1.out.below st)
  have HX2 := Lib.hid (HX2.out.below st)
  have HX3 := Lib.hid hw3
  clear hb b1 b2 b5 hw3 st
  go_wp2_with fail
  -- Sub
  refine (nat_sub 18446744073709551616 1 A2 A3 2 1 c2 c3 w3 HX2.out HX3.out (by decide) (by decide) (by decide)).mono ?_
  rintro e w4 ⟨A4, n4, c4, rfl, hw4, hb, _⟩
  obtain rfl : n4 = 1 := len_of hw4 x2_dg
  have hB := keep_below hB hb
  have g1 := keep_cell hb g1
  have HX1 := Lib.hid (HX1.out.below hb)
  have HX4 := Lib.hid hw4
  clear hb hw4
  go_wp2_with fail
  -- Of(5, 7)
  generalize hW : (w4.alloc (.cells #[.slice A4 1 c4] 25)).alloc (.cells #[.int .u64 5, .int .u64 7] 30) = W3
  obtain ⟨b1, b2, b3, b5⟩ := box2 w4 25 30 #[.slice A4 1 c4] #[.int .u64 5, .int .u64 7]
  rw [hW] at b1 b2 b3 b5
  clear hW
  refine (of_lits _ [5, 7] W3 _ 2 129127208515966861317 b3 rfl rfl (dgs2 5 7 (by decide) (by decide)) rfl (by decide)).mono ?_
  rintro e w5 ⟨A5, n5, c5, rfl, hw5, hb, _⟩
  obtain rfl : n5 = 2 := len_of hw5 x3_dg
  have st := up2 b1 hb
  have hB := keep_below hB st
  have g1 := keep_cell st g1
  have g2 : w5.cell? ⟨w4.heap.size, 0, none⟩ = some (.slice A4 1 c4) := keep_cell hb (b2.cell 0)
  have HX1 := Lib.hid (HX1.out.below st)
  have HX4 := Lib.hid (HX4.out.below st)
  have HX5 := Lib.hid hw5
  clear hb b1 b2 b3 b5 hw5 st
  go_wp2_with fail
  -- Low(65)
  refine (nat_low 129127208515966861317 65 A5 2 c5 w5 HX5.out (by decide) (by rw [x3_bits]; decide)).mono ?_
  rintro e w6 ⟨A6, n6, c6, rfl, hw6, hb, _⟩
  obtain rfl : n6 = 2 := len_of hw6 x3_low
  have hB := keep_below hB hb
  have g1 := keep_cell hb g1
  have g2 := keep_cell hb g2
  have HX1 := Lib.hid (HX1.out.below hb)
  have HX4 := Lib.hid (HX4.out.below hb)
  have HX6 := Lib.hid hw6
  clear hb hw6
  have st := up_alloc w6 (.cells #[.slice A6 2 c6] 25)
  have hk6 := Blk.new w6 25 #[.slice A6 2 c6]
  have hB := keep_below hB st
  have q1 := keep_cell st g1
  have q2 := keep_cell st g2
  have q3 : (w6.alloc (.cells #[.slice A6 2 c6] 25)).cell? ⟨w6.heap.size, 0, none⟩ = some (.slice A6 2 c6) := hk6.cell 0
  have HX1 := Lib.hid (HX1.out.below st)
  have HX4 := Lib.hid (HX4.out.below st)
  have HX6 := Lib.hid (HX6.out.below st)
  clear st hk6 g1 g2
  go_wp2_with fail
  generalize w6.alloc (.cells #[.slice A6 2 c6] 25) = W6 at *
  generalize w6.heap.size = h6 at *
  -- Len
  refine (nat_len 0 _ _ _ _).mono ?_
  rintro e w7 ⟨rfl, hb⟩
  have hB := keep_below hB hb
  have g1 := keep_cell hb q1
  have g2 := keep_cell hb q2
  have g3 := keep_cell hb q3
  have HX1 := Lib.hid (HX1.out.below hb)
  have HX4 := Lib.hid (HX4.out.below hb)
  have HX6 := Lib.hid (HX6.out.below hb)
  clear hb q1 q2 q3
  go_wp2_with fail
  -- Word(1)
  have WW : Calls Tryd.prog 12 #[.agg #[.slice A1 2 c1], .int .i64 1] w7 fun e w' => e = .returned (.int .u64 2) ∧ Below w7.heap.size w7 w' := by
    have h := nat_word 36893488147419103233 A1 2 c1 1 w7 HX1.out
    rw [x1_word] at h
    exact h
  refine WW.mono ?_
  rintro e w8 ⟨rfl, hb⟩
  clear WW
  have hB := keep_below hB hb
  have g1 := keep_cell hb g1
  have g2 := keep_cell hb g2
  have g3 := keep_cell hb g3
  have HX1 := Lib.hid (HX1.out.below hb)
  have HX4 := Lib.hid (HX4.out.below hb)
  have HX6 := Lib.hid (HX6.out.below hb)
  clear hb
  go_wp2_with fail
  -- Bits
  have WW : Calls Tryd.prog 15 #[.agg #[.slice A1 2 c1]] w8 fun e w' => e = .returned (.int .i64 66) ∧ Below w8.heap.size w8 w' := by
    have h := nat_bits 36893488147419103233 A1 2 c1 w8 HX1.out (by decide)
    rw [x1_bits] at h
    exact h
  refine WW.mono ?_
  rintro e w9 ⟨rfl, hb⟩
  clear WW
  have hB := keep_below hB hb
  have g1 := keep_cell hb g1
  have g2 := keep_cell hb g2
  have g3 := keep_cell hb g3
  have HX1 := Lib.hid (HX1.out.below hb)
  have HX4 := Lib.hid (HX4.out.below hb)
  have HX6 := Lib.hid (HX6.out.below hb)
  clear hb
  go_wp2_with fail
  -- Shr(1)
  refine (nat_shr 36893488147419103233 1 A1 2 c1 w9 HX1.out (by decide) (by rw [x1_bits]; decide)).mono ?_
  rintro e w10 ⟨A7, n7, c7, rfl, hw7, hb, _⟩
  obtain rfl : n7 = 2 := len_of hw7 x1_half
  have hB := keep_below hB hb
  have g2 := keep_cell hb g2
  have g3 := keep_cell hb g3
  have HX4 := Lib.hid (HX4.out.below hb)
  have HX6 := Lib.hid (HX6.out.below hb)
  have HX7 := Lib.hid hw7
  clear hb hw7 g1
  go_wp2_with fail
  -- Is(.., 0, 1)
  generalize hW : w10.alloc (.cells #[.int .u64 0, .int .u64 1] 30) = W10
  obtain ⟨b1, b2, b5⟩ := box1 w10 30 #[.int .u64 0, .int .u64 1]
  rw [hW] at b1 b2 b5
  clear hW
  refine (is_lits _ A7 2 c7 _ _ [0, 1] W10 (HX7.out.below b1) b2 rfl rfl (dgs2 0 1 (by decide) (by decide)) x1_half (by decide)).mono ?_
  rintro e w11 ⟨rfl, hb⟩
  have st := up2 b1 hb
  have hB := keep_below hB st
  have g2 := keep_cell st g2
  have g3 := keep_cell st g3
  have HX4 := Lib.hid (HX4.out.below st)
  have HX6 := Lib.hid (HX6.out.below st)
  clear hb b1 b2 b5 st
  go_wp2_with fail
  -- Is(d, ..)
  generalize hW : w11.alloc (.cells #[.int .u64 18446744073709551615] 30) = W11
  obtain ⟨b1, b2, b5⟩ := box1 w11 30 #[.int .u64 18446744073709551615]
  rw [hW] at b1 b2 b5
  clear hW
  refine (is_lits _ A4 1 c4 _ _ [18446744073709551615] W11 (HX4.out.below b1) b2 rfl rfl (dgs1 _ (by decide)) x2_dg (by decide)).mono ?_
  rintro e w12 ⟨rfl, hb⟩
  have st := up2 b1 hb
  have hB := keep_below hB st
  have g3 := keep_cell st g3
  have HX6 := Lib.hid (HX6.out.below st)
  clear hb b1 b2 b5 st
  go_wp2_with fail
  -- Is(l, 5, 1)
  generalize hW : w12.alloc (.cells #[.int .u64 5, .int .u64 1] 30) = W12
  obtain ⟨b1, b2, b5⟩ := box1 w12 30 #[.int .u64 5, .int .u64 1]
  rw [hW] at b1 b2 b5
  clear hW
  refine (is_lits _ A6 2 c6 _ _ [5, 1] W12 (HX6.out.below b1) b2 rfl rfl (dgs2 5 1 (by decide) (by decide)) x3_low (by decide)).mono ?_
  rintro e w13 ⟨rfl, hb⟩
  have hB := keep_below hB (up2 b1 hb)
  clear hb b1 b2 b5
  go_wp2
  go_ret
  exact ⟨rfl, hB⟩
end Go.Proofs.YtlofionccgjndaaDoor
