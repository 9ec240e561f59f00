/-
  The walk of the law NatSums. Conditions: the words that came in are words, at most 1048576 of each.
-/
import Derived.Test.YtlofionccgjndaaRows
import Derived.Test.YtlofionccgjndaaN2Args
import Derived.Test.YtlofionccgjndaaNAdd
import Derived.Test.YtlofionccgjndaaNSub
import Derived.Test.YtlofionccgjndaaN2Like
import Derived.Test.YtlofionccgjndaaR2Of
import Derived.Test.YtlofionccgjndaaR2Cmp
import Derived.Test.YtlofionccgjndaaR2Add
import Derived.Test.YtlofionccgjndaaR2Sub
import Derived.WalkKit
import Derived.Lib.Hide
import Derived.Outline
import Derived.Deep.RegionHeld3
namespace Go.Proofs.Ytlofionccgjndaa
open Go Go.RowKit
set_option maxRecDepth 100000
set_option linter.unusedVariables false
/-- The reference's number, of the words that came in. -/
theorem arg_ref {w : World} {A : Option Addr} {n c : Nat} {l : List Nat} (h : ArgWords w A n c l) : ∀ w', Below w.heap.size w w' → Calls Try.prog 10 #[.slice A n c] w' (Gives16 w' (dv 18446744073709551616 l)) := fun w' hb =>
  ref2_of A n c l w' ((h.reads.below hb).more hb.size) h.dgs (by have := h.small; have := h.fits; omega)
theorem Sz.len16 {K x : Nat} (h : Sz K x) : (dg 65536 x).length ≤ 4 * K := dg_len_le (by decide) _ _ (by rw [pow_four]; exact h)
theorem Sz.holds {K x : Nat} (h : Sz K x) {w : World} {A : Option Addr} {n c : Nat} (hw : Holds16 w x A n c) : n ≤ 4 * K := by rw [hw.len]; exact h.len16
set_option maxHeartbeats 8000000 in
theorem natSums_walk (A0 : Option Addr) (n0 c0 : Nat) (l0 : List Nat) (A1 : Option Addr) (n1 c1 : Nat) (l1 : List Nat) (w : World) (h0 : ArgWords w A0 n0 c0 l0) (h1 : ArgWords w A1 n1 c1 l1) :
    Calls Try.prog 3 #[.slice A0 n0 c0, .slice A1 n1 c1] w fun e w' => e = .returned (.bool true) ∧ Below w.heap.size w w' := by
  obtain ⟨K, hK⟩ : ∃ K, 1048576 = K := ⟨_, rfl⟩
  have O0 := arg_of h0
  have O1 := arg_of h1
  have P0 := arg_ref h0
  have P1 := arg_ref h1
  have S0 := arg_sz h0
  have S1 := arg_sz h1
  rw [hK] at S0 S1
  have hK2 : K ≤ 1048576 := by omega
  obtain ⟨x, hx⟩ : ∃ x, dv 18446744073709551616 l0 = x := ⟨_, rfl⟩
  obtain ⟨y, hy⟩ : ∃ x, dv 18446744073709551616 l1 = x := ⟨_, rfl⟩
  rw [hx] at O0 S0 P0
  rw [hy] at O1 S1 P1
  have HO0 := Lib.hid O0
  have HO1 := Lib.hid O1
  have HP0 := Lib.hid P0
  have HP1 := Lib.hid P1
  have HS0 := Lib.hid S0
  have HS1 := Lib.hid S1
  clear O0 O1 S0 S1 P0 P1 h0 h1 hx hy hK
  go_enter Try.func3, Try.ntmps3
  go_wp2_with fail
  refine (law2_awake _).mono ?_
  rintro e w1 ⟨rfl, hB⟩
  go_wp2_with fail
  refine (HO0.out _ hB).mono ?_
  rintro e w2 ⟨B0, m0, d0, rfl, hw0, hb, _⟩
  have hB := keep_below hB hb
  have HX := Lib.hid hw0
  clear hb hw0
  go_wp2_with fail
  refine (HO1.out _ hB).mono ?_
  rintro e w3 ⟨B1, m1, d1, rfl, hw1, hb, _⟩
  have hB := keep_below hB hb
  have HX := Lib.hid (HX.out.below hb)
  have HY := Lib.hid hw1
  clear hb hw1
  go_wp2_with fail
  generalize hW : (w3.alloc (.cells #[.slice B0 m0 d0] 25)).alloc (.cells #[.slice B1 m1 d1] 25) = W3
  obtain ⟨b1, b2, b3, b5⟩ := box2 w3 25 25 #[.slice B0 m0 d0] #[.slice B1 m1 d1]
  rw [hW] at b1 b2 b3 b5
  have hB := keep_below hB b1
  have HX := Lib.hid (HX.out.below b1)
  have HY := Lib.hid (HY.out.below b1)
  have g5 : W3.cell? ⟨w3.heap.size, 0, none⟩ = some (.slice B0 m0 d0) := b2.cell 0
  have g6 : W3.cell? ⟨w3.heap.size + 1, 0, none⟩ = some (.slice B1 m1 d1) := b3.cell 0
  clear hW b1 b2 b3 b5
  generalize w3.heap.size = p at *
  -- the reference's numbers
  refine (HP0.out _ hB).mono ?_
  intro e w4 hg
  obtain ⟨C0, r0, f0, rfl, hh0, hb⟩ := hg.elim
  have hB := keep_below hB hb
  have HX := Lib.hid (HX.out.below hb)
  have HY := Lib.hid (HY.out.below hb)
  have HP := Lib.hid hh0
  have g5 := keep_cell hb g5
  have g6 := keep_cell hb g6
  clear hb hh0 hg
  go_wp2_with fail
  refine (HP1.out _ hB).mono ?_
  intro e w5 hg
  obtain ⟨C1, r1, f1, rfl, hh1, hb⟩ := hg.elim
  have hB := keep_below hB hb
  have HX := Lib.hid (HX.out.below hb)
  have HY := Lib.hid (HY.out.below hb)
  have HP := Lib.hid (HP.out.below hb)
  have HQ := Lib.hid hh1
  have g5 := keep_cell hb g5
  have g6 := keep_cell hb g6
  clear hb hh1 hg
  go_wp2_with fail
  -- Cmp of the reference
  have hrp := HS0.out.holds HP.out
  have hrq := HS1.out.holds HQ.out
  have RC := ref2_cmp x y C0 C1 r0 r1 f0 f1 w5 HP.out HQ.out (by omega) (by omega)
  obtain ⟨v, hv⟩ : ∃ v, cmpI x y = v := ⟨_, rfl⟩
  rw [hv] at RC
  have HV := Lib.hid hv
  clear hv
  refine RC.mono ?_
  rintro e w6 ⟨rfl, k6, rfl⟩
  have hb : Below w5.heap.size w5 (w5.drewN k6) := below_drewN_ (Below.refl _ _) _
  have hB := keep_below hB hb
  have HX := Lib.hid (HX.out.below hb)
  have HY := Lib.hid (HY.out.below hb)
  have HP := Lib.hid (HP.out.below hb)
  have HQ := Lib.hid (HQ.out.below hb)
  have g5 := keep_cell hb g5
  have g6 := keep_cell hb g6
  clear hb RC
  go_wp2_with fail
  by_cases hle : y ≤ x
  · have hv0 := cmpI_ge hle
    rw [HV.out] at hv0
    have hv1 : decide (v ≥ 0) = true := by simpa using hv0
    have hv2 : decide (0 ≤ v) = true := by simpa using hv0
    have HLE := Lib.hid hle
    have NS := nat_sub x y B0 B1 m0 m1 d0 d1 (w5.drewN k6) HX.out HY.out (by have := HS0.out.words HX.out; omega) (by have := HS1.out.words HY.out; omega) hle
    clear hle
    refine NS.mono ?_
    clear NS
    rintro e w7 ⟨B2, m2, d2, rfl, hw2, hb, _⟩
    have hb := keep_below hb (up_alloc w7 (.cells #[.slice B2 m2 d2] 25))
    have hB := keep_below hB hb
    have HX := Lib.hid (HX.out.below hb)
    have HY := Lib.hid (HY.out.below hb)
    have HP := Lib.hid (HP.out.below hb)
    have HQ := Lib.hid (HQ.out.below hb)
    have g5 := keep_cell hb g5
    have g6 := keep_cell hb g6
    have HD := Lib.hid (hw2.below (up_alloc w7 (.cells #[.slice B2 m2 d2] 25)))
    have g10 : (w7.alloc (.cells #[.slice B2 m2 d2] 25)).cell? ⟨w7.heap.size, 0, none⟩ = some (.slice B2 m2 d2) := (Blk.new w7 _ _).cell 0
    clear hb hw2
    go_wp2_with fail
    generalize w7.alloc (.cells #[.slice B2 m2 d2] 25) = W7 at *
    generalize w7.heap.size = q at *
    have NC := cmp_sz (x := x) (y := y) HS0.out HS1.out (by omega) HX.out HY.out
    rw [HV.out] at NC
    refine NC.mono ?_
    rintro e w8 ⟨rfl, hb⟩
    have hB := keep_below hB hb
    have HX := Lib.hid (HX.out.below hb)
    have HY := Lib.hid (HY.out.below hb)
    have HP := Lib.hid (HP.out.below hb)
    have HQ := Lib.hid (HQ.out.below hb)
    have g5 := keep_cell hb g5
    have g6 := keep_cell hb g6
    have HD := Lib.hid (HD.out.below hb)
    have g10 := keep_cell hb g10
    clear hb NC
    go_wp2_with fail
    refine (nat_add x y B0 B1 m0 m1 d0 d1 w8 HX.out HY.out (by have := HS0.out.words HX.out; omega) (by have := HS1.out.words HY.out; omega)).mono ?_
    rintro e w9 ⟨B3, m3, d3, rfl, hw3, hb, _⟩
    have hB := keep_below hB hb
    have HX := Lib.hid (HX.out.below hb)
    have HY := Lib.hid (HY.out.below hb)
    have HP := Lib.hid (HP.out.below hb)
    have HQ := Lib.hid (HQ.out.below hb)
    have g5 := keep_cell hb g5
    have g6 := keep_cell hb g6
    have HD := Lib.hid (HD.out.below hb)
    have g10 := keep_cell hb g10
    have HSm := Lib.hid hw3
    clear hb hw3
    go_wp2_with fail
    refine (ref2_add x y C0 C1 r0 r1 f0 f1 w9 HP.out HQ.out (by omega) (by omega)).mono ?_
    intro e w10 hg
    obtain ⟨C2, r2, f2, rfl, hh2, hb⟩ := hg.elim
    have hB := keep_below hB hb
    have HX := Lib.hid (HX.out.below hb)
    have HY := Lib.hid (HY.out.below hb)
    have HP := Lib.hid (HP.out.below hb)
    have HQ := Lib.hid (HQ.out.below hb)
    have g5 := keep_cell hb g5
    have g6 := keep_cell hb g6
    have HD := Lib.hid (HD.out.below hb)
    have HSm := Lib.hid (HSm.out.below hb)
    have g10 := keep_cell hb g10
    have HR := Lib.hid hh2
    clear hb hh2 hg
    go_wp2_with fail
    refine (law2_like (x + y) B3 C2 m3 d3 r2 f2 w10 HSm.out HR.out (by have := (HS0.out.add HS1.out).words HSm.out; omega) (by have := (HS0.out.add HS1.out).holds HR.out; omega)).mono ?_
    rintro e w11 ⟨rfl, hb⟩
    have hB := keep_below hB hb
    have HX := Lib.hid (HX.out.below hb)
    have HY := Lib.hid (HY.out.below hb)
    have HP := Lib.hid (HP.out.below hb)
    have HQ := Lib.hid (HQ.out.below hb)
    have g5 := keep_cell hb g5
    have g6 := keep_cell hb g6
    have HD := Lib.hid (HD.out.below hb)
    have g10 := keep_cell hb g10
    clear hb HSm HR
    go_wp2_with fail
    have L1 := Lib.hid (fun w' (h : Below w11.heap.size w11 w') => ref2_sub x y HLE.out C0 C1 r0 r1 f0 f1 w' (HP.out.below h) (HQ.out.below h) (by omega) (by omega))
    have L2 := Lib.hid (fun w' (h : Below w11.heap.size w11 w') C' r' f' (hh : Holds16 w' (x - y) C' r' f') => law2_like (x - y) B2 C' m2 d2 r' f' w' (HD.out.below h) hh (by have := (HS0.out.of_le (Nat.sub_le x y)).words HD.out; omega) (by have := (HS0.out.of_le (Nat.sub_le x y)).holds hh; omega))
    have L3 := Lib.hid (fun w' (h : Below w11.heap.size w11 w') => law2_like x B0 C0 m0 d0 r0 f0 w' (HX.out.below h) (HP.out.below h) (by have := HS0.out.words HX.out; omega) (by omega))
    have L4 := Lib.hid (fun w' (h : Below w11.heap.size w11 w') => law2_like y B1 C1 m1 d1 r1 f1 w' (HY.out.below h) (HQ.out.below h) (by have := HS1.out.words HY.out; omega) (by omega))
    have hb0 : Below w11.heap.size w11 w11.drew := (Below.refl _ w11).drew
    have j5 : w11.drew.cell? ⟨p, 0, none⟩ = some (.slice B0 m0 d0) := g5
    have j6 : w11.drew.cell? ⟨p + 1, 0, none⟩ = some (.slice B1 m1 d1) := g6
    have j10 : w11.drew.cell? ⟨q, 0, none⟩ = some (.slice B2 m2 d2) := g10
    go_region_held3 (fun w' => Below w11.heap.size w11 w' ∧ w'.cell? ⟨p, 0, none⟩ = some (.slice B0 m0 d0) ∧ w'.cell? ⟨p + 1, 0, none⟩ = some (.slice B1 m1 d1) ∧ w'.cell? ⟨q, 0, none⟩ = some (.slice B2 m2 d2))
      (first | (exact ⟨hb0, j5, j6, j10⟩) | (go_split_ands; refine ⟨?_, ?_, ?_, ?_⟩; all_goals (first | with_reducible assumption | exact keep_below (by with_reducible assumption) hb | exact keep_cell hb (by with_reducible assumption))))
      (first
        | (go_at_call 18; (with_reducible refine (L1.out _ (by first | with_reducible assumption | exact And.left (by with_reducible assumption))).mono ?_); intro e w' hg; obtain ⟨C4, r4, f4, rfl, hh4, hb⟩ := hg.elim; clear hg)
        | (go_at_call 14; (with_reducible refine (L2.out _ (by first | with_reducible assumption | exact And.left (by with_reducible assumption)) _ _ _ hh4).mono ?_); rintro e w' ⟨rfl, hb⟩)
        | (go_at_call 14; (with_reducible refine (L3.out _ (by first | with_reducible assumption | exact And.left (by with_reducible assumption))).mono ?_); rintro e w' ⟨rfl, hb⟩)
        | (go_at_call 14; (with_reducible refine (L4.out _ (by first | with_reducible assumption | exact And.left (by with_reducible assumption))).mono ?_); rintro e w' ⟨rfl, hb⟩))
    rename_i hH
    obtain ⟨hb7, _, _, _⟩ := hH
    have hB := keep_below hB hb7
    clear hb hb0 hb7
    go_wp2
    go_ret
    exact ⟨by first | rfl | simp, hB⟩
  · have hlt : x < y := by omega
    have hv0 := cmpI_lt hlt
    rw [HV.out] at hv0
    have hv1 : decide (v ≥ 0) = false := by simp; omega
    have hv2 : decide (0 ≤ v) = false := by simp; omega
    have hv3 : ¬ 0 ≤ v := by omega
    have NS := nat_sub_no x y B0 B1 m0 m1 d0 d1 (w5.drewN k6) HX.out HY.out (by have := HS0.out.words HX.out; omega) (by have := HS1.out.words HY.out; omega) hlt
    have HV0 := Lib.hid hv0
    clear hle hlt hv0
    refine NS.mono ?_
    clear NS
    rintro e w7 ⟨B2, m2, d2, rfl, hw2, hb, _⟩
    obtain rfl : m2 = 0 := len_of hw2 (dg_zero _)
    have hb := keep_below hb (up_alloc w7 (.cells #[.slice B2 0 d2] 25))
    have hB := keep_below hB hb
    have HX := Lib.hid (HX.out.below hb)
    have HY := Lib.hid (HY.out.below hb)
    have HP := Lib.hid (HP.out.below hb)
    have HQ := Lib.hid (HQ.out.below hb)
    have g5 := keep_cell hb g5
    have g6 := keep_cell hb g6
    have HD := Lib.hid (hw2.below (up_alloc w7 (.cells #[.slice B2 0 d2] 25)))
    have g10 : (w7.alloc (.cells #[.slice B2 0 d2] 25)).cell? ⟨w7.heap.size, 0, none⟩ = some (.slice B2 0 d2) := (Blk.new w7 _ _).cell 0
    clear hb hw2
    go_wp2_with fail
    generalize w7.alloc (.cells #[.slice B2 0 d2] 25) = W7 at *
    generalize w7.heap.size = q at *
    have NC := cmp_sz (x := x) (y := y) HS0.out HS1.out (by omega) HX.out HY.out
    rw [HV.out] at NC
    refine NC.mono ?_
    rintro e w8 ⟨rfl, hb⟩
    have hB := keep_below hB hb
    have HX := Lib.hid (HX.out.below hb)
    have HY := Lib.hid (HY.out.below hb)
    have HP := Lib.hid (HP.out.below hb)
    have HQ := Lib.hid (HQ.out.below hb)
    have g5 := keep_cell hb g5
    have g6 := keep_cell hb g6
    have HD := Lib.hid (HD.out.below hb)
    have g10 := keep_cell hb g10
    clear hb NC
    go_wp2_with fail
    refine (nat_add x y B0 B1 m0 m1 d0 d1 w8 HX.out HY.out (by have := HS0.out.words HX.out; omega) (by have := HS1.out.words HY.out; omega)).mono ?_
    rintro e w9 ⟨B3, m3, d3, rfl, hw3, hb, _⟩
    have hB := keep_below hB hb
    have HX := Lib.hid (HX.out.below hb)
    have HY := Lib.hid (HY.out.below hb)
    have HP := Lib.hid (HP.out.below hb)
    have HQ := Lib.hid (HQ.out.below hb)
    have g5 := keep_cell hb g5
    have g6 := keep_cell hb g6
    have HD := Lib.hid (HD.out.below hb)
    have g10 := keep_cell hb g10
    have HSm := Lib.hid hw3
    clear hb hw3
    go_wp2_with fail
    refine (ref2_add x y C0 C1 r0 r1 f0 f1 w9 HP.out HQ.out (by omega) (by omega)).mono ?_
    intro e w10 hg
    obtain ⟨C2, r2, f2, rfl, hh2, hb⟩ := hg.elim
    have hB := keep_below hB hb
    have HX := Lib.hid (HX.out.below hb)
    have HY := Lib.hid (HY.out.below hb)
    have HP := Lib.hid (HP.out.below hb)
    have HQ := Lib.hid (HQ.out.below hb)
    have g5 := keep_cell hb g5
    have g6 := keep_cell hb g6
    have HD := Lib.hid (HD.out.below hb)
    have HSm := Lib.hid (HSm.out.below hb)
    have g10 := keep_cell hb g10
    have HR := Lib.hid hh2
    clear hb hh2 hg
    go_wp2_with fail
    refine (law2_like (x + y) B3 C2 m3 d3 r2 f2 w10 HSm.out HR.out (by have := (HS0.out.add HS1.out).words HSm.out; omega) (by have := (HS0.out.add HS1.out).holds HR.out; omega)).mono ?_
    rintro e w11 ⟨rfl, hb⟩
    have hB := keep_below hB hb
    have HX := Lib.hid (HX.out.below hb)
    have HY := Lib.hid (HY.out.below hb)
    have HP := Lib.hid (HP.out.below hb)
    have HQ := Lib.hid (HQ.out.below hb)
    have g5 := keep_cell hb g5
    have g6 := keep_cell hb g6
    have HD := Lib.hid (HD.out.below hb)
    have g10 := keep_cell hb g10
    clear hb HSm HR
    go_wp2_with fail
    refine (nat_zero_yes B2 d2 w11).mono ?_
    rintro e w12 ⟨rfl, hb⟩
    have hB := keep_below hB hb
    clear hb
    go_wp2
    go_ret
    exact ⟨by first | rfl | simp, hB⟩
end Go.Proofs.Ytlofionccgjndaa
