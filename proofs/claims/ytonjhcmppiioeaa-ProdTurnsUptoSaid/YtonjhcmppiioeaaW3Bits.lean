/-
  The walk of the law ProdBits. Conditions: the words that came in are words, at most 1048576 of each; prod's functions do as ProdC says.
-/
import Derived.Test.YtonjhcmppiioeaaRows
import Derived.Test.YtonjhcmppiioeaaW3Awake
import Derived.Test.YtonjhcmppiioeaaNAdd
import Derived.Test.YtonjhcmppiioeaaNBits
import Derived.WalkKit
import Derived.Lib.Hide
import Derived.Outline
import Derived.Deep.RegionHeld3
namespace Go.Proofs.Ytonjhcmppiioeaa
open Go Go.RowKit
set_option maxRecDepth 100000
set_option linter.unusedVariables false
set_option linter.unusedSimpArgs false
theorem Sz.bits3 {K x : Nat} (h : Sz K x) : bitLen x ≤ 64 * K := bitLen_le _ _ (by
  unfold Sz at h
  rw [show (18446744073709551616 : Nat) = 2 ^ 64 from rfl, ← Nat.pow_mul] at h
  exact h)
theorem bitLen_pos {x : Nat} (h : x ≠ 0) : ∃ a, bitLen x = a + 1 ∧ 2 ^ a ≤ x ∧ x < 2 ^ (a + 1) :=
  ⟨x.log2, by unfold bitLen; rw [if_neg h], Nat.log2_self_le h, Nat.lt_log2_self⟩
theorem bits_mul {x y : Nat} (hx : x ≠ 0) (hy : y ≠ 0) : bitLen (x * y) = bitLen x + bitLen y ∨ bitLen (x * y) = bitLen x + bitLen y - 1 := by
  obtain ⟨a, ea, h1, h2⟩ := bitLen_pos hx
  obtain ⟨b, eb, h3, h4⟩ := bitLen_pos hy
  obtain ⟨c, ec, h5, h6⟩ := bitLen_pos (Nat.mul_ne_zero hx hy)
  have h7 : 2 ^ (a + b) ≤ x * y := by rw [Nat.pow_add]; exact Nat.mul_le_mul h1 h3
  have h8 : x * y < 2 ^ (a + 1 + (b + 1)) := by rw [Nat.pow_add]; exact Nat.mul_lt_mul'' h2 h4
  have h9 : a + b < c + 1 := (Nat.pow_lt_pow_iff_right (by decide)).1 (Nat.lt_of_le_of_lt h7 h6)
  have h10 : c < a + 1 + (b + 1) := (Nat.pow_lt_pow_iff_right (by decide)).1 (Nat.lt_of_le_of_lt h5 h8)
  omega
set_option maxHeartbeats 16000000 in
theorem prodBits_core (PC : ProdC) (A0 : Option Addr) (n0 c0 : Nat) (l0 : List Nat) (A1 : Option Addr) (n1 c1 : Nat) (l1 : List Nat) (w : World) (h0 : ArgWords w A0 n0 c0 l0) (h1 : ArgWords w A1 n1 c1 l1) :
    Calls Try.prog 7 #[.slice A0 n0 c0, .slice A1 n1 c1] w fun e w' => e = .returned (.bool true) ∧ Below w.heap.size w w' := by
  have HPC := Lib.hid PC
  obtain ⟨K, hK⟩ : ∃ K, 1048576 = K := ⟨_, rfl⟩
  have O0 := arg_of h0
  have S0 := arg_sz h0
  have O1 := arg_of h1
  have S1 := arg_sz h1
  rw [hK] at S0 S1
  have hK2 : K ≤ 1048576 := by omega
  obtain ⟨x, hx0⟩ : ∃ v, dv 18446744073709551616 l0 = v := ⟨_, rfl⟩
  rw [hx0] at O0 S0
  have HO0 := Lib.hid O0
  have HS0 := Lib.hid S0
  obtain ⟨y, hx1⟩ : ∃ v, dv 18446744073709551616 l1 = v := ⟨_, rfl⟩
  rw [hx1] at O1 S1
  have HO1 := Lib.hid O1
  have HS1 := Lib.hid S1
  clear PC O0 S0 h0 hx0 O1 S1 h1 hx1 hK
  go_enter Try.func7, Try.ntmps7
  go_wp2_with fail
  refine (law3_awake HPC.out _).mono ?_
  rintro e w1 ⟨rfl, hB⟩
  go_wp2_with fail
  refine (HO0.out _ hB).mono ?_
  rintro e v0 ⟨B0, m0, d0, rfl, hw0, hb, _⟩
  have hB := keep_below hB hb
  have HX := Lib.hid hw0
  clear hb hw0
  go_wp2_with fail
  refine (HO1.out _ hB).mono ?_
  rintro e v1 ⟨B1, m1, d1, rfl, hw0, hb, _⟩
  have hB := keep_below hB hb
  have HX := Lib.hid (HX.out.below hb)
  have HY := Lib.hid hw0
  clear hb hw0
  go_wp2_with fail
  generalize hW : (v1.alloc (.cells #[.slice B0 m0 d0] 29)).alloc (.cells #[.slice B1 m1 d1] 29) = W4
  obtain ⟨b1, b2, b3, b5⟩ := box2 v1 29 29 #[.slice B0 m0 d0] #[.slice B1 m1 d1]
  rw [hW] at b1 b2 b3 b5
  have hB := keep_below hB b1
  have HX := Lib.hid (HX.out.below b1)
  have HY := Lib.hid (HY.out.below b1)
  have g0 : W4.cell? ⟨v1.heap.size, 0, none⟩ = some (.slice B0 m0 d0) := b2.cell 0
  have g1 : W4.cell? ⟨v1.heap.size + 1, 0, none⟩ = some (.slice B1 m1 d1) := b3.cell 0
  clear hW b1 b2 b3 b5
  generalize v1.heap.size = p at *
  have hm0 := HS0.out.words HX.out
  have hm1 := HS1.out.words HY.out
  refine (HPC.out.mul x y B0 B1 m0 m1 d0 d1 W4 HX.out HY.out (by omega) (by omega)).mono ?_
  rintro e w5 ⟨B3, m3, d3, rfl, hw3, hb, _⟩
  have hb := keep_below hb (up_alloc w5 (.cells #[.slice B3 m3 d3] 29))
  have hB := keep_below hB hb
  have HX := Lib.hid (HX.out.below hb)
  have HY := Lib.hid (HY.out.below hb)
  have g0 := keep_cell hb g0
  have g1 := keep_cell hb g1
  have HP := Lib.hid (hw3.below (up_alloc w5 (.cells #[.slice B3 m3 d3] 29)))
  have g3 : (w5.alloc (.cells #[.slice B3 m3 d3] 29)).cell? ⟨w5.heap.size, 0, none⟩ = some (.slice B3 m3 d3) := (Blk.new w5 _ _).cell 0
  clear hb hw3
  go_wp2_with fail
  generalize w5.alloc (.cells #[.slice B3 m3 d3] 29) = W5 at *
  generalize w5.heap.size = q at *
  have hm3 := (HS0.out.mul HS1.out).words HP.out
  by_cases h0 : m0 = 0
  · have hx0 : x = 0 := len_zero (by rw [HX.out.len]; exact h0)
    have hp0 := HP.out
    rw [hx0, Nat.zero_mul] at hp0
    obtain rfl : m3 = 0 := len_of hp0 (dg_zero _)
    subst h0
    clear hp0 hx0
    refine (nat_zero_yes B0 d0 W5).mono ?_
    rintro e w6 ⟨rfl, hb⟩
    have hB := keep_below hB hb
    have g3 := keep_cell hb g3
    clear hb
    go_wp2_with fail
    refine (nat_zero_yes B3 d3 w6).mono ?_
    rintro e w7 ⟨rfl, hb⟩
    have hB := keep_below hB hb
    clear hb
    go_wp2
    go_ret
    exact ⟨by first | rfl | simp, hB⟩
  · refine (nat_zero_no B0 m0 d0 h0 W5).mono ?_
    rintro e w6 ⟨rfl, hb⟩
    have hB := keep_below hB hb
    have HX := Lib.hid (HX.out.below hb)
    have HY := Lib.hid (HY.out.below hb)
    have HP := Lib.hid (HP.out.below hb)
    have g0 := keep_cell hb g0
    have g1 := keep_cell hb g1
    have g3 := keep_cell hb g3
    clear hb
    have H0 := Lib.hid h0
    clear h0
    go_wp2_with fail
    by_cases h1 : m1 = 0
    · have hy0 : y = 0 := len_zero (by rw [HY.out.len]; exact h1)
      have hp0 := HP.out
      rw [hy0, Nat.mul_zero] at hp0
      obtain rfl : m3 = 0 := len_of hp0 (dg_zero _)
      subst h1
      clear hp0 hy0
      refine (nat_zero_yes B1 d1 w6).mono ?_
      rintro e w7 ⟨rfl, hb⟩
      have hB := keep_below hB hb
      have g3 := keep_cell hb g3
      clear hb
      go_wp2_with fail
      refine (nat_zero_yes B3 d3 w7).mono ?_
      rintro e w8 ⟨rfl, hb⟩
      have hB := keep_below hB hb
      clear hb
      go_wp2
      go_ret
      exact ⟨by first | rfl | simp, hB⟩
    · refine (nat_zero_no B1 m1 d1 h1 w6).mono ?_
      rintro e w7 ⟨rfl, hb⟩
      have hB := keep_below hB hb
      have HX := Lib.hid (HX.out.below hb)
      have HY := Lib.hid (HY.out.below hb)
      have HP := Lib.hid (HP.out.below hb)
      have g0 := keep_cell hb g0
      have g1 := keep_cell hb g1
      have g3 := keep_cell hb g3
      have hbm := bits_mul (x := x) (y := y) (by rintro rfl; exact H0.out (len_of HX.out (dg_zero _))) (by rintro rfl; exact h1 (len_of HY.out (dg_zero _)))
      have hbx1 : 1 ≤ bitLen x := by
        obtain ⟨a, ea, _⟩ := bitLen_pos (x := x) (by rintro rfl; exact H0.out (len_of HX.out (dg_zero _)))
        omega
      have hlx := HS0.out.bits3
      have hly := HS1.out.bits3
      have NX := (fun w' (h : Below w7.heap.size w7 w') => nat_bits x B0 m0 d0 w' (HX.out.below h) (by omega))
      have NY := (fun w' (h : Below w7.heap.size w7 w') => nat_bits y B1 m1 d1 w' (HY.out.below h) (by omega))
      have NP := (fun w' (h : Below w7.heap.size w7 w') => nat_bits (x * y) B3 m3 d3 w' (HP.out.below h) (by omega))
      obtain ⟨bx, hbx⟩ : ∃ b, bitLen x = b := ⟨_, rfl⟩
      obtain ⟨by', hby⟩ : ∃ b, bitLen y = b := ⟨_, rfl⟩
      obtain ⟨bp, hbp⟩ : ∃ b, bitLen (x * y) = b := ⟨_, rfl⟩
      rw [hbx] at NX hlx hbm hbx1
      rw [hby] at NY hly hbm
      rw [hbp] at NP hbm
      have HNX := Lib.hid NX
      have HNY := Lib.hid NY
      have HNP := Lib.hid NP
      clear NX NY NP hbx hby hbp h1 hb
      have hpx : 1 ≤ bx + by' := by omega
      have hF : (((bp : Int) == (bx : Int) + (by' : Int)) = true) ∨ ((((bp : Int) == (bx : Int) + (by' : Int)) = false) ∧ (((bp : Int) == (bx : Int) + (by' : Int) - 1) = true)) := by
        rcases hbm with hc | hc
        · exact .inl (by rw [beq_iff_eq]; omega)
        · exact .inr ⟨beq_eq_false_iff_ne.2 (by omega), by rw [beq_iff_eq]; omega⟩
      clear hbm
      obtain ⟨z1, z2⟩ : IntKind.i64.wrap ((bx : Int) + (by' : Int)) = (bx : Int) + (by' : Int) ∧ IntKind.i64.wrap ((bx : Int) + (by' : Int) - 1) = (bx : Int) + (by' : Int) - 1 := ⟨IntWalk.i64_in _ (by omega), IntWalk.i64_in _ (by omega)⟩
      go_wp2_with fail
      have hb0 : Below w7.heap.size w7 w7.drew := (Below.refl _ w7).drew
      have j0 : w7.drew.cell? ⟨p, 0, none⟩ = some (.slice B0 m0 d0) := g0
      have j1 : w7.drew.cell? ⟨p + 1, 0, none⟩ = some (.slice B1 m1 d1) := g1
      go_region_held3 (fun w' => Below w7.heap.size w7 w' ∧ w'.cell? ⟨p, 0, none⟩ = some (.slice B0 m0 d0) ∧ w'.cell? ⟨p + 1, 0, none⟩ = some (.slice B1 m1 d1))
        (first | (exact ⟨hb0, j0, j1⟩) | (go_split_ands; refine ⟨?_, ?_, ?_⟩; all_goals (first | with_reducible assumption | exact keep_below (by with_reducible assumption) hb | exact keep_cell hb (by with_reducible assumption) | exact keep_below_alloc _ (by with_reducible assumption) | exact keep_cell_alloc _ (by with_reducible assumption))))
        (first
          | (go_at_call 24; (with_reducible refine (HNX.out _ (by first | with_reducible assumption | exact And.left (by with_reducible assumption))).mono ?_); rintro e w' ⟨rfl, hb⟩)
          | (go_at_call 24; (with_reducible refine (HNY.out _ (by first | with_reducible assumption | exact And.left (by with_reducible assumption))).mono ?_); rintro e w' ⟨rfl, hb⟩))
      rename_i hH
      obtain ⟨hb7, _, _⟩ := hH
      have g3 := keep_cell hb7 g3
      have hB := keep_below hB hb7
      have hb8 := hb7
      clear hb hb0
      go_wp2_with fail
      refine (HNP.out _ hb8).mono ?_
      rintro e w9 ⟨rfl, hb⟩
      have hB := keep_below hB hb
      have g3 := keep_cell hb g3
      have hb9 := keep_below hb8 hb
      clear hb hb7 hb8
      rcases hF with f1 | ⟨f1, f2⟩
      · go_wp2
        go_ret
        exact ⟨by first | rfl | simp, hB⟩
      · go_wp2_with fail
        refine (HNP.out _ hb9).mono ?_
        rintro e w10 ⟨rfl, hb⟩
        have hB := keep_below hB hb
        clear hb
        go_wp2
        go_ret
        exact ⟨by first | rfl | simp, hB⟩
end Go.Proofs.Ytonjhcmppiioeaa
