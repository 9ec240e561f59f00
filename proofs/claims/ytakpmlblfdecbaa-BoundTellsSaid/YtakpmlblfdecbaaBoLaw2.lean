/-
  The walks of layer 15's laws that ask the reference. Conditions: the integers are of their kinds.
-/
import Derived.Test.YtakpmlblfdecbaaRows
import Derived.Test.YtakpmlblfdecbaaBoLaw
import Derived.Test.YtakpmlblfdecbaaRBo
import Derived.WalkKit
import Derived.Lib.Hide
import Derived.Outline
import Derived.Below
namespace Go.Proofs.Ytakpmlblfdecbaa
open Go Go.RowKit
set_option maxRecDepth 100000
set_option linter.unusedVariables false
set_option linter.unusedSimpArgs false
set_option maxHeartbeats 1000000 in
theorem boundTells_walk (n b : Int) (hn : -9223372036854775808 ≤ n ∧ n ≤ 9223372036854775807) (hb : -9223372036854775808 ≤ b ∧ b ≤ 9223372036854775807) (w : World) :
    Calls Try.prog 3 #[.int .i64 n, .int .i64 b] w fun e w' => e = .returned (.bool true) ∧ Below w.heap.size w w' := by
  have C0 := Lib.hid (law15_awake w)
  by_cases h : 0 ≤ n ∧ n ≤ 64 ∧ 0 ≤ b ∧ b ≤ 1073741824
  · obtain ⟨h0, h1, k0, k1⟩ := h
    have C1 := Lib.hid (bound_det n b h0 h1 k0 k1)
    have C2 := Lib.hid (ref15_det n b h0 h1 k0 k1)
    by_cases hs : b ≤ 1048576
    · have C3 := Lib.hid (bound_rat n b h0 h1 k0 hs)
      have C4 := Lib.hid (bound_sol n b h0 h1 k0 hs)
      have q1 := mulBd h0 h1 k0 hs
      have q2 := mulBd (show 0 ≤ n + 1 by omega) (show n + 1 ≤ 65 by omega) k0 hs
      have q3 := mulBd h0 h1 h0 h1
      have q4 := mulBd q3.1 q3.2 k0 hs
      have C5 := Lib.hid (ref15_det n (n * b) h0 h1 q1.1 (by omega))
      have C6 := Lib.hid (ref15_det n ((n + 1) * b) h0 h1 q2.1 (by omega))
      have d1 := detV_bd n (n * b) h0 h1 q1.1 (by omega)
      have d2 := detV_bd n ((n + 1) * b) h0 h1 q2.1 (by omega)
      generalize detV n b = D at *
      generalize detV n (n * b) = D1 at *
      generalize detV n ((n + 1) * b) = D2 at *
      go_enter Try.func3, Try.ntmps3
      go_wp2_with fail
      refine C0.out.mono ?_; rintro e w1 ⟨rfl, h1'⟩
      go_wp2_with fail
      refine (C1.out w1).mono ?_; rintro e w' ⟨rfl, rfl⟩
      go_wp2_with fail
      refine (C2.out w1).mono ?_; rintro e w2 ⟨rfl, h2'⟩
      have g2 := h1'.trans (h2'.mono h1'.size)
      go_wp2_with fail
      refine (C3.out w2).mono ?_; rintro e w' ⟨rfl, rfl⟩
      go_wp2_with fail
      refine (C4.out w2).mono ?_; rintro e w' ⟨rfl, rfl⟩
      go_wp2_with fail
      refine (C5.out w2).mono ?_; rintro e w3 ⟨rfl, h3'⟩
      have g3 := g2.trans (h3'.mono g2.size)
      go_wp2_with fail
      refine (C6.out w3).mono ?_; rintro e w4 ⟨rfl, h4'⟩
      have g4 := g3.trans (h4'.mono g3.size)
      go_wp2_with fail
      go_ret
      exact ⟨rfl, g4⟩
    · have zs : decide (b ≤ 1048576) = false := decide_eq_false hs
      have C3 := Lib.hid (bound_rat_no n b (by omega))
      have C4 := Lib.hid (bound_sol_no n b (by omega))
      generalize detV n b = D at *
      go_enter Try.func3, Try.ntmps3
      go_wp2_with fail
      refine C0.out.mono ?_; rintro e w1 ⟨rfl, h1'⟩
      go_wp2_with fail
      refine (C1.out w1).mono ?_; rintro e w' ⟨rfl, rfl⟩
      go_wp2_with fail
      refine (C2.out w1).mono ?_; rintro e w2 ⟨rfl, h2'⟩
      have g2 := h1'.trans (h2'.mono h1'.size)
      go_wp2_with fail
      refine (C3.out w2).mono ?_; rintro e w' ⟨rfl, rfl⟩
      go_wp2_with fail
      refine (C4.out w2).mono ?_; rintro e w' ⟨rfl, rfl⟩
      go_wp2_with fail
      go_ret
      exact ⟨rfl, g2⟩
  · have C1 := Lib.hid (bound_det_no n b h)
    have C2 := Lib.hid (ref15_det_no n b h)
    have C3 := Lib.hid (bound_rat_no n b (by omega))
    have C4 := Lib.hid (bound_sol_no n b (by omega))
    have z : (decide (0 ≤ n) && decide (n ≤ 64) && decide (0 ≤ b) && decide (b ≤ 1048576)) = false := by
      rw [← Bool.not_eq_true]; intro hh; simp at hh; omega
    go_enter Try.func3, Try.ntmps3
    go_wp2_with fail
    refine C0.out.mono ?_; rintro e w1 ⟨rfl, h1'⟩
    go_wp2_with fail
    refine (C1.out w1).mono ?_; rintro e w' ⟨rfl, rfl⟩
    go_wp2_with fail
    refine (C2.out w1).mono ?_; rintro e w2 ⟨rfl, h2'⟩
    have g2 := h1'.trans (h2'.mono h1'.size)
    go_wp2_with fail
    refine (C3.out w2).mono ?_; rintro e w' ⟨rfl, rfl⟩
    go_wp2_with fail
    refine (C4.out w2).mono ?_; rintro e w' ⟨rfl, rfl⟩
    go_wp2_with fail
    all_goals first
      | (exfalso; omega)
      | (go_ret; exact ⟨rfl, g2⟩)
      | (go_ret; refine ⟨?_, g2⟩; show Ending.returned (.bool (!decide (b ≤ 1048576))) = _; rw [decide_eq_false (by omega)]; rfl)
theorem ref15_bases (n m most : Int) (hn : n ≤ 200) (hk : -9223372036854775808 ≤ most ∧ most ≤ 9223372036854775807) (w : World) :
    Calls Try.prog 13 #[.int .i64 n, .int .i64 m, .int .i64 most] w fun e w' => e = .returned (.tuple #[.int .i64 (basesV n m most).1, .bool (basesV n m most).2]) ∧ Below w.heap.size w w' := by
  by_cases hout : m < 0 ∨ n < m
  · have hB := Below.refl w.heap.size w
    have e : basesV n m most = (0, true) := by unfold basesV; rw [if_pos hout]
    rw [e]
    go_enter Try.func13, Try.ntmps13
    go_wp2_with fail
    all_goals first
      | (exfalso; omega)
      | (go_ret2; exact ⟨rfl, hB⟩)
  · obtain ⟨m, rfl⟩ := Int.eq_ofNat_of_zero_le (show 0 ≤ m from by omega)
    obtain ⟨n, rfl⟩ := Int.eq_ofNat_of_zero_le (show 0 ≤ n from by omega)
    refine (ref15_bases_in n m most (by omega) (by omega) hk w).mono ?_
    rintro e w' ⟨rfl, hB⟩
    refine ⟨?_, hB⟩
    have e : basesV n m most = if ((ch n m : Nat) : Int) ≤ mostI most then (((ch n m : Nat) : Int), true) else (mostI most + 1, false) := by
      unfold basesV; rw [if_neg hout]; simp only [Int.toNat_natCast]
    rw [e]
    split <;> simp_all
set_option maxHeartbeats 1000000 in
theorem boundBases_walk (n m most : Int) (hn : -9223372036854775808 ≤ n ∧ n ≤ 9223372036854775807) (hm : -9223372036854775808 ≤ m ∧ m ≤ 9223372036854775807) (hk : -9223372036854775808 ≤ most ∧ most ≤ 9223372036854775807) (w : World) :
    Calls Try.prog 4 #[.int .i64 n, .int .i64 m, .int .i64 most] w fun e w' => e = .returned (.bool true) ∧ Below w.heap.size w w' := by
  have C0 := Lib.hid (law15_awake w)
  by_cases h : 200 < n
  · go_enter Try.func4, Try.ntmps4
    go_wp2_with fail
    refine C0.out.mono ?_; rintro e w1 ⟨rfl, h1⟩
    go_wp2_with fail
    go_ret
    exact ⟨rfl, h1⟩
  · have C1 := Lib.hid (bound_bases n m most (by omega) hm.1 hm.2)
    have C2 := Lib.hid (ref15_bases n m most (by omega) hk)
    generalize (basesV n m most).1 = X at *
    generalize (basesV n m most).2 = Y at *
    go_enter Try.func4, Try.ntmps4
    go_wp2_with fail
    refine C0.out.mono ?_; rintro e w1 ⟨rfl, h1⟩
    go_wp2_with fail
    refine (C1.out w1).mono ?_; rintro e w2 ⟨rfl, h2⟩
    have g2 := h1.trans (h2.mono h1.size)
    go_wp2_with fail
    refine (C2.out w2).mono ?_; rintro e w3 ⟨rfl, h3⟩
    have g3 := g2.trans (h3.mono g2.size)
    go_wp2_with fail
    go_ret
    exact ⟨by simp, g3⟩
end Go.Proofs.Ytakpmlblfdecbaa
