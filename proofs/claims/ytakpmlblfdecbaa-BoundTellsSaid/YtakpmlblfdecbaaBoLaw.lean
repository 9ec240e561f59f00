/-
  The walks of layer 15's laws that take integers alone. Conditions: the integers are of their kinds.
-/
import Derived.Test.YtakpmlblfdecbaaRows
import Derived.Test.YtakpmlblfdecbaaBoDet
import Derived.Test.YtakpmlblfdecbaaBoBases
import Derived.WalkKit
import Derived.Lib.Hide
import Derived.Outline
import Derived.Below
namespace Go.Proofs.Ytakpmlblfdecbaa
open Go Go.RowKit
set_option maxRecDepth 100000
set_option linter.unusedVariables false
set_option linter.unusedSimpArgs false
set_option maxHeartbeats 1000000 in
theorem law15_awake (w : World) : Calls Try.prog 7 #[] w fun e w' => e = .returned (.bool true) ∧ Below w.heap.size w w' := by
  have C1 := bound_det 2 3 (by decide) (by decide) (by decide) (by decide)
  have C2 := bound_det 0 0 (by decide) (by decide) (by decide) (by decide)
  have C3 := bound_bases 5 2 100 (by decide) (by decide) (by decide)
  have C4 := bound_bases 64 32 1000 (by decide) (by decide) (by decide)
  rw [detV_a] at C1
  rw [detV_b] at C2
  rw [basesV_a] at C3
  rw [basesV_b] at C4
  have C1 := Lib.hid C1
  have C2 := Lib.hid C2
  have C3 := Lib.hid C3
  have C4 := Lib.hid C4
  go_enter Try.func7, Try.ntmps7
  go_wp2_with fail
  refine (C1.out w).mono ?_; rintro e w' ⟨rfl, rfl⟩
  go_wp2_with fail
  refine (C2.out w).mono ?_; rintro e w' ⟨rfl, rfl⟩
  go_wp2_with fail
  refine (C3.out w).mono ?_; rintro e w1 ⟨rfl, h1⟩
  go_wp2_with fail
  refine (C4.out w1).mono ?_; rintro e w2 ⟨rfl, h2⟩
  go_wp2_with fail
  go_ret
  exact ⟨rfl, h1.trans (h2.mono h1.size)⟩
set_option maxHeartbeats 1000000 in
theorem boundGrows_walk (n b : Int) (hn : -9223372036854775808 ≤ n ∧ n ≤ 9223372036854775807) (hb : -9223372036854775808 ≤ b ∧ b ≤ 9223372036854775807) (w : World) :
    Calls Try.prog 5 #[.int .i64 n, .int .i64 b] w fun e w' => e = .returned (.bool true) ∧ Below w.heap.size w w' := by
  have C0 := Lib.hid (law15_awake w)
  by_cases h : 0 ≤ n ∧ n < 64 ∧ 0 ≤ b ∧ b < 1048576
  · obtain ⟨h0, h1, k0, k1⟩ := h
    have C1 := Lib.hid (bound_det n b h0 (by omega) k0 (by omega))
    have C2 := Lib.hid (bound_det (n + 1) b (by omega) (by omega) k0 (by omega))
    have C3 := Lib.hid (bound_det n (b + 1) h0 (by omega) (by omega) (by omega))
    have C4 := Lib.hid (bound_sol n b h0 (by omega) k0 (by omega))
    have C5 := Lib.hid (bound_sol (n + 1) b (by omega) (by omega) k0 (by omega))
    have C6 := Lib.hid (bound_sol n (b + 1) h0 (by omega) (by omega) (by omega))
    have l1 : detV n b ≤ detV (n + 1) b := detV_mono h0 (by omega) k0 (Int.le_refl _)
    have l2 : detV n b ≤ detV n (b + 1) := detV_mono h0 (Int.le_refl _) k0 (by omega)
    have p0 : 0 ≤ (n + 1) * b := Int.mul_nonneg (by omega) k0
    have l3 : 2 * detV n ((n + 1) * b) ≤ 2 * detV (n + 1) ((n + 1 + 1) * b) := by
      have := detV_mono h0 (show n ≤ n + 1 by omega) p0 (Int.mul_le_mul_of_nonneg_right (show n + 1 ≤ n + 1 + 1 by omega) k0)
      omega
    have l4 : 2 * detV n ((n + 1) * b) ≤ 2 * detV n ((n + 1) * (b + 1)) := by
      have := detV_mono h0 (Int.le_refl n) p0 (Int.mul_le_mul_of_nonneg_left (show b ≤ b + 1 by omega) (show 0 ≤ n + 1 by omega))
      omega
    generalize detV n b = d1 at *
    generalize detV (n + 1) b = d2 at *
    generalize detV n (b + 1) = d3 at *
    generalize 2 * detV n ((n + 1) * b) = d4 at *
    generalize 2 * detV (n + 1) ((n + 1 + 1) * b) = d5 at *
    generalize 2 * detV n ((n + 1) * (b + 1)) = d6 at *
    have z1 : decide (d1 ≤ d2) = true := decide_eq_true l1
    have z2 : decide (d1 ≤ d3) = true := decide_eq_true l2
    have z3 : decide (d4 ≤ d5) = true := decide_eq_true l3
    have z4 : decide (d4 ≤ d6) = true := decide_eq_true l4
    clear p0 l1 l2 l3 l4
    go_enter Try.func5, Try.ntmps5
    go_wp2_with fail
    refine C0.out.mono ?_; rintro e w1 ⟨rfl, hB⟩
    go_wp2_with fail
    refine (C1.out w1).mono ?_; rintro e w' ⟨rfl, rfl⟩
    go_wp2_with fail
    refine (C2.out w1).mono ?_; rintro e w' ⟨rfl, rfl⟩
    go_wp2_with fail
    refine (C3.out w1).mono ?_; rintro e w' ⟨rfl, rfl⟩
    go_wp2_with fail
    refine (C4.out w1).mono ?_; rintro e w' ⟨rfl, rfl⟩
    go_wp2_with fail
    refine (C5.out w1).mono ?_; rintro e w' ⟨rfl, rfl⟩
    go_wp2_with fail
    refine (C6.out w1).mono ?_; rintro e w' ⟨rfl, rfl⟩
    go_wp2_with fail
    go_ret
    exact ⟨rfl, hB⟩
  · go_enter Try.func5, Try.ntmps5
    go_wp2_with fail
    refine C0.out.mono ?_; rintro e w1 ⟨rfl, hB⟩
    go_wp2_with fail
    all_goals first
      | (exfalso; omega)
      | (go_ret; exact ⟨rfl, hB⟩)
set_option maxHeartbeats 1000000 in
theorem boundPascal_walk (n m : Int) (hn : 0 ≤ n ∧ n ≤ 255) (hm : 0 ≤ m ∧ m ≤ 255) (w : World) :
    Calls Try.prog 6 #[.int .u8 n, .int .u8 m] w fun e w' => e = .returned (.bool true) ∧ Below w.heap.size w w' := by
  have C0 := Lib.hid (law15_awake w)
  obtain ⟨a, ha⟩ : ∃ a, n % 30 = a := ⟨_, rfl⟩
  obtain ⟨b, hb⟩ : ∃ b, m % 32 = b := ⟨_, rfl⟩
  have a0 : 0 ≤ a ∧ a < 30 := by omega
  have b0 : 0 ≤ b ∧ b < 32 := by omega
  have E1 := Lib.hid ha
  have E2 := Lib.hid hb
  have C1 := bound_bases (a + 1) b 1099511627776 (by omega) (by omega) (by omega)
  have C2 := bound_bases a b 1099511627776 (by omega) (by omega) (by omega)
  have C3 := bound_bases a (b - 1) 1099511627776 (by omega) (by omega) (by omega)
  have C4 := bound_bases (a + 1) (a + 1 - b) 1099511627776 (by omega) (by omega) (by omega)
  rw [basesV_small _ (by omega)] at C1 C2 C3 C4
  have C1 := Lib.hid C1
  have C2 := Lib.hid C2
  have C3 := Lib.hid C3
  have C4 := Lib.hid C4
  have x2 := chI_bd b (show a ≤ 30 by omega)
  have x3 := chI_bd (b - 1) (show a ≤ 30 by omega)
  have y1 : chI (a + 1) b = chI a b + chI a (b - 1) := by
    have := chI_succ (n := a + 1) (m := b) (by omega) (by omega)
    rwa [show a + 1 - 1 = a by omega] at this
  have y2 : chI (a + 1) (a + 1 - b) = chI (a + 1) b := chI_sym (by omega)
  rw [y1] at y2
  rw [y2] at C4
  rw [y1] at C1
  generalize chI a b = X at *
  generalize chI a (b - 1) = Y at *
  clear y1 y2 ha hb
  go_enter Try.func6, Try.ntmps6
  go_wp2_with fail
  refine C0.out.mono ?_; rintro e w1 ⟨rfl, h1⟩
  go_wp2_with (simp only [E1.out, E2.out])
  refine (C1.out w1).mono ?_; rintro e w2 ⟨rfl, h2⟩
  go_wp2_with fail
  refine (C2.out w2).mono ?_; rintro e w3 ⟨rfl, h3⟩
  go_wp2_with fail
  refine (C3.out w3).mono ?_; rintro e w4 ⟨rfl, h4⟩
  go_wp2_with fail
  refine (C4.out w4).mono ?_; rintro e w5 ⟨rfl, h5⟩
  go_wp2_with fail
  go_ret
  have g2 := h1.trans (h2.mono h1.size)
  have g3 := g2.trans (h3.mono g2.size)
  have g4 := g3.trans (h4.mono g3.size)
  exact ⟨rfl, g4.trans (h5.mono g4.size)⟩
end Go.Proofs.Ytakpmlblfdecbaa
