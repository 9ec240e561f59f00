/-
  The contracts of cmp.Compare of ints and of words. Conditions: none.
-/
import Derived.Test.YtaemlkoklaoglaaRows
import Derived.Test.YtaemlkoklaoglaaBunD
import Derived.WalkKit
import Derived.Lib.Hide
import Derived.Outline
namespace Go.Proofs.Ytaemlkoklaoglaa
open Go Go.RowKit
set_option maxRecDepth 100000
set_option linter.unusedVariables false
theorem nan_int (x : Int) (w : World) : Calls Try.prog 59 #[.int .i64 x] w fun e w' => e = .returned (.bool false) ∧ w = w' := by
  go_enter Try.func59, Try.ntmps59
  go_wp2
  go_ret
  exact ⟨by simp, rfl⟩
theorem nan_u64 (x : Int) (w : World) : Calls Try.prog 60 #[.int .u64 x] w fun e w' => e = .returned (.bool false) ∧ w = w' := by
  go_enter Try.func60, Try.ntmps60
  go_wp2
  go_ret
  exact ⟨by simp, rfl⟩
theorem compare_int (x y : Nat) (w : World) : Calls Try.prog 45 #[.int .i64 x, .int .i64 y] w fun e w' => e = .returned (.int .i64 (cmpI x y)) ∧ w = w' := by
  have C : x < y ∧ Hid (cmpI x y = -1) ∨ y < x ∧ Hid (cmpI x y = 1) ∨ ¬ x < y ∧ ¬ y < x ∧ Hid (cmpI x y = 0) := by
    rcases Nat.lt_trichotomy x y with h | h | h
    · exact .inl ⟨h, cmpI_lt h⟩
    · exact .inr (.inr ⟨by omega, by omega, cmpI_eq h⟩)
    · exact .inr (.inl ⟨h, cmpI_gt h⟩)
  rcases C with ⟨h, H⟩ | ⟨h, H⟩ | ⟨h, h', H⟩
  all_goals
    go_enter Try.func45, Try.ntmps45
    go_wp2_with fail
    refine (nan_int _ _).mono ?_
    rintro e w' ⟨rfl, rfl⟩
    go_wp2_with fail
    refine (nan_int _ _).mono ?_
    rintro e w' ⟨rfl, rfl⟩
    go_wp2
    go_ret
    exact ⟨by rw [H.out]; rfl, rfl⟩
theorem compare_u64 (x y : Nat) (w : World) : Calls Try.prog 46 #[.int .u64 x, .int .u64 y] w fun e w' => e = .returned (.int .i64 (cmpI x y)) ∧ w = w' := by
  have C : x < y ∧ Hid (cmpI x y = -1) ∨ y < x ∧ Hid (cmpI x y = 1) ∨ ¬ x < y ∧ ¬ y < x ∧ Hid (cmpI x y = 0) := by
    rcases Nat.lt_trichotomy x y with h | h | h
    · exact .inl ⟨h, cmpI_lt h⟩
    · exact .inr (.inr ⟨by omega, by omega, cmpI_eq h⟩)
    · exact .inr (.inl ⟨h, cmpI_gt h⟩)
  rcases C with ⟨h, H⟩ | ⟨h, H⟩ | ⟨h, h', H⟩
  all_goals
    go_enter Try.func46, Try.ntmps46
    go_wp2_with fail
    refine (nan_u64 _ _).mono ?_
    rintro e w' ⟨rfl, rfl⟩
    go_wp2_with fail
    refine (nan_u64 _ _).mono ?_
    rintro e w' ⟨rfl, rfl⟩
    go_wp2
    go_ret
    exact ⟨by rw [H.out]; rfl, rfl⟩
end Go.Proofs.Ytaemlkoklaoglaa
