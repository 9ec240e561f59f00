/-
  The contracts of bound's functions. Conditions: sizes as each says.
-/
import Derived.Test.YtakpmlblfdecbaaRows
import Derived.Test.YtakpmlblfdecbaaBoMath
import Derived.Test.YtakpmlblfdecbaaBunD
import Derived.Test.YtakpmlblfdecbaaBunW
import Derived.Test.YtakpmlblfdecbaaBunX
import Derived.WalkKit
import Derived.Lib.Hide
import Derived.Outline
import Derived.LoopTactic
import Derived.Deep.LoopGhost
import Derived.Lib.MinMax
import Derived.Below
namespace Go.Proofs.Ytakpmlblfdecbaa
open Go Go.RowKit
set_option maxRecDepth 100000
set_option linter.unusedVariables false
set_option linter.unusedSimpArgs false
theorem bound_may (n b most : Int) (w : World) :
    Calls Try.prog 14 #[.int .i64 n, .int .i64 b, .int .i64 most] w fun e w' => e = .returned (.bool (decide (0 ≤ n) && decide (n ≤ 64) && decide (0 ≤ b) && decide (b ≤ most))) ∧ w = w' := by
  go_enter Try.func14, Try.ntmps14
  go_wp2
  all_goals
    go_ret
    exact ⟨by first | (simp_all; done) | (congr 2; simp_all; omega), rfl⟩
theorem bound_det_ (n b : Int) (h0 : 0 ≤ n) (h1 : n ≤ 64) (k0 : 0 ≤ b) (k1 : b ≤ 1099511627776) (w : World) :
    Calls Try.prog 15 #[.int .i64 n, .int .i64 b] w fun e w' => e = .returned (.int .i64 (detV n b)) ∧ w = w' := by
  have C := Lib.hid (word_len n (by unfold Wd; omega) w)
  have hl := lenN64 h0 h1
  have b1 := mulBd h0 h1 hl.1 hl.2
  have b2 := mulBd h0 h1 k0 k1
  have e : detV n b = n * b + (n * lenN n + 1) / 2 + 1 := rfl
  rw [e]
  generalize lenN n = L at *
  go_enter Try.func15, Try.ntmps15
  go_wp2_with (go_at_call 18; refine C.out.mono ?_; rintro e w' ⟨rfl, rfl⟩)
  go_ret
  exact ⟨by first | rfl | (congr 2; omega), rfl⟩

theorem bound_det (n b : Int) (h0 : 0 ≤ n) (h1 : n ≤ 64) (k0 : 0 ≤ b) (k1 : b ≤ 1073741824) (w : World) :
    Calls Try.prog 8 #[.int .i64 n, .int .i64 b] w fun e w' => e = .returned (.tuple #[.int .i64 (detV n b), .bool true]) ∧ w = w' := by
  have C1 := Lib.hid (bound_may n b 1073741824 w)
  have e1 : (decide (0 ≤ n) && decide (n ≤ 64) && decide (0 ≤ b) && decide (b ≤ 1073741824)) = true := by simp; omega
  rw [e1] at C1
  have C2 := Lib.hid (bound_det_ n b h0 h1 k0 (by omega) w)
  clear e1
  go_enter Try.func8, Try.ntmps8
  go_wp2_with (first | (go_at_call 14; refine C1.out.mono ?_; rintro e w' ⟨rfl, rfl⟩) | (go_at_call 15; refine C2.out.mono ?_; rintro e w' ⟨rfl, rfl⟩))
  go_ret2
  exact ⟨rfl, rfl⟩
theorem bound_det_no (n b : Int) (h : ¬ (0 ≤ n ∧ n ≤ 64 ∧ 0 ≤ b ∧ b ≤ 1073741824)) (w : World) :
    Calls Try.prog 8 #[.int .i64 n, .int .i64 b] w fun e w' => e = .returned (.tuple #[.int .i64 0, .bool false]) ∧ w = w' := by
  have C1 := Lib.hid (bound_may n b 1073741824 w)
  have e1 : (decide (0 ≤ n) && decide (n ≤ 64) && decide (0 ≤ b) && decide (b ≤ 1073741824)) = false := by
    rw [← Bool.not_eq_true]; intro hh; simp at hh; omega
  rw [e1] at C1
  clear e1
  go_enter Try.func8, Try.ntmps8
  go_wp2_with (go_at_call 14; refine C1.out.mono ?_; rintro e w' ⟨rfl, rfl⟩)
  go_ret2
  exact ⟨rfl, rfl⟩
theorem bound_rat (n b : Int) (h0 : 0 ≤ n) (h1 : n ≤ 64) (k0 : 0 ≤ b) (k1 : b ≤ 1048576) (w : World) :
    Calls Try.prog 10 #[.int .i64 n, .int .i64 b] w fun e w' => e = .returned (.tuple #[.int .i64 (detV n (n * b) + n * n * b + 1), .bool true]) ∧ w = w' := by
  have C1 := Lib.hid (bound_may n b 1048576 w)
  have e1 : (decide (0 ≤ n) && decide (n ≤ 64) && decide (0 ≤ b) && decide (b ≤ 1048576)) = true := by simp; omega
  rw [e1] at C1
  have b2 := mulBd h0 h1 k0 k1
  have b3 := mulBd h0 h1 h0 h1
  have b4 := mulBd b3.1 b3.2 k0 k1
  have C2 := Lib.hid (bound_det_ n (n * b) h0 h1 b2.1 (by omega) w)
  have b5 := detV_bd n (n * b) h0 h1 b2.1 (by omega)
  generalize detV n (n * b) = D at *
  clear e1
  go_enter Try.func10, Try.ntmps10
  go_wp2_with (first | (go_at_call 14; refine C1.out.mono ?_; rintro e w' ⟨rfl, rfl⟩) | (go_at_call 15; refine C2.out.mono ?_; rintro e w' ⟨rfl, rfl⟩))
  go_ret2
  exact ⟨rfl, rfl⟩
theorem bound_rat_no (n b : Int) (h : ¬ (0 ≤ n ∧ n ≤ 64 ∧ 0 ≤ b ∧ b ≤ 1048576)) (w : World) :
    Calls Try.prog 10 #[.int .i64 n, .int .i64 b] w fun e w' => e = .returned (.tuple #[.int .i64 0, .bool false]) ∧ w = w' := by
  have C1 := Lib.hid (bound_may n b 1048576 w)
  have e1 : (decide (0 ≤ n) && decide (n ≤ 64) && decide (0 ≤ b) && decide (b ≤ 1048576)) = false := by
    rw [← Bool.not_eq_true]; intro hh; simp at hh; omega
  rw [e1] at C1
  clear e1
  go_enter Try.func10, Try.ntmps10
  go_wp2_with (go_at_call 14; refine C1.out.mono ?_; rintro e w' ⟨rfl, rfl⟩)
  go_ret2
  exact ⟨rfl, rfl⟩
theorem bound_sol (n b : Int) (h0 : 0 ≤ n) (h1 : n ≤ 64) (k0 : 0 ≤ b) (k1 : b ≤ 1048576) (w : World) :
    Calls Try.prog 11 #[.int .i64 n, .int .i64 b] w fun e w' => e = .returned (.tuple #[.int .i64 (2 * detV n ((n + 1) * b)), .bool true]) ∧ w = w' := by
  have C1 := Lib.hid (bound_may n b 1048576 w)
  have e1 : (decide (0 ≤ n) && decide (n ≤ 64) && decide (0 ≤ b) && decide (b ≤ 1048576)) = true := by simp; omega
  rw [e1] at C1
  have b2 := mulBd (show 0 ≤ n + 1 by omega) (show n + 1 ≤ 65 by omega) k0 k1
  have C2 := Lib.hid (bound_det_ n ((n + 1) * b) h0 h1 b2.1 (by omega) w)
  have b5 := detV_bd n ((n + 1) * b) h0 h1 b2.1 (by omega)
  generalize detV n ((n + 1) * b) = D at *
  clear e1
  go_enter Try.func11, Try.ntmps11
  go_wp2_with (first | (go_at_call 14; refine C1.out.mono ?_; rintro e w' ⟨rfl, rfl⟩) | (go_at_call 15; refine C2.out.mono ?_; rintro e w' ⟨rfl, rfl⟩))
  go_ret2
  exact ⟨rfl, rfl⟩
theorem bound_sol_no (n b : Int) (h : ¬ (0 ≤ n ∧ n ≤ 64 ∧ 0 ≤ b ∧ b ≤ 1048576)) (w : World) :
    Calls Try.prog 11 #[.int .i64 n, .int .i64 b] w fun e w' => e = .returned (.tuple #[.int .i64 0, .bool false]) ∧ w = w' := by
  have C1 := Lib.hid (bound_may n b 1048576 w)
  have e1 : (decide (0 ≤ n) && decide (n ≤ 64) && decide (0 ≤ b) && decide (b ≤ 1048576)) = false := by
    rw [← Bool.not_eq_true]; intro hh; simp at hh; omega
  rw [e1] at C1
  clear e1
  go_enter Try.func11, Try.ntmps11
  go_wp2_with (go_at_call 14; refine C1.out.mono ?_; rintro e w' ⟨rfl, rfl⟩)
  go_ret2
  exact ⟨rfl, rfl⟩
end Go.Proofs.Ytakpmlblfdecbaa
