/-
  The contract of the reference's Trim (actuaryref02). Conditions: slices that hold a number's digits; lengths up to 2 to the 38.
  The contract of the reference's Digit (actuaryref02). Conditions: slices that hold a number's digits; lengths up to 2 to the 38.
  The contract of the reference's Power (actuaryref02). Conditions: slices that hold a number's digits; lengths up to 2 to the 38.
  The contract of the reference's Cmp (actuaryref02). Conditions: slices that hold a number's digits; lengths up to 2 to the 38.
  The contract of the reference's Of (actuaryref02). Conditions: slices that hold a number's digits; lengths up to 2 to the 38.
  The contract of the reference's Words (actuaryref02). Conditions: slices that hold a number's digits; lengths up to 2 to the 38.
  The contract of the reference's Is (actuaryref02). Conditions: slices that hold a number's digits; lengths up to 2 to the 38.
  The contract of the reference's Add (actuaryref02). Conditions: slices that hold a number's digits; lengths up to 2 to the 38.
  The contract of the reference's Small (actuaryref02). Conditions: slices that hold a number's digits; lengths up to 2 to the 38.
  The contract of the reference's Sub (actuaryref02). Conditions: slices that hold a number's digits; lengths up to 2 to the 38.
  The contract of the reference's Shl (actuaryref02). Conditions: slices that hold a number's digits; lengths up to 2 to the 38.
  The contract of the reference's Bits (actuaryref02). Conditions: a slice that holds a number's digits; its length up to 2 to the 38.
  The contract of the reference's Bit (actuaryref02). Conditions: a slice that holds a number's digits; its length up to 2 to the 38.
-/
import Derived.Test.YtaemlkoklaoglabRows
import Derived.Test.YtaemlkoklaoglabBunD
import Derived.Test.YtaemlkoklaoglabBunE
import Derived.Test.YtaemlkoklaoglabTN
import Derived.Test.YtaemlkoklaoglabBit
import Derived.WalkKit
import Derived.Lib.Hide
import Derived.Outline
import Derived.Deep.QuietTactic
import Derived.BigQuiet
import Derived.LoopTactic
import Derived.Deep.LoopGhost
import Derived.Deep.DeepCutAuto
import Derived.Deep.CutBlock
namespace Go.Proofs.Ytaemlkoklaoglab
open Go Go.RowKit
set_option maxRecDepth 100000
set_option linter.unusedVariables false
end Go.Proofs.Ytaemlkoklaoglab
namespace Go.Proofs.Ytaemlkoklaoglab
open Go Go.RowKit
set_option maxRecDepth 100000
set_option linter.unusedVariables false
end Go.Proofs.Ytaemlkoklaoglab
namespace Go.Proofs.Ytaemlkoklaoglab
open Go Go.RowKit
set_option maxRecDepth 100000
set_option linter.unusedVariables false
end Go.Proofs.Ytaemlkoklaoglab
namespace Go.Proofs.Ytaemlkoklaoglab
open Go Go.RowKit
set_option maxRecDepth 100000
set_option linter.unusedVariables false
end Go.Proofs.Ytaemlkoklaoglab
namespace Go.Proofs.Ytaemlkoklaoglab
open Go Go.RowKit
set_option maxRecDepth 100000
set_option linter.unusedVariables false
end Go.Proofs.Ytaemlkoklaoglab
namespace Go.Proofs.Ytaemlkoklaoglab
open Go Go.RowKit
set_option maxRecDepth 100000
set_option linter.unusedVariables false
end Go.Proofs.Ytaemlkoklaoglab
namespace Go.Proofs.Ytaemlkoklaoglab
open Go Go.RowKit
set_option maxRecDepth 100000
set_option linter.unusedVariables false
end Go.Proofs.Ytaemlkoklaoglab
namespace Go.Proofs.Ytaemlkoklaoglab
open Go Go.RowKit
set_option maxRecDepth 100000
set_option linter.unusedVariables false
end Go.Proofs.Ytaemlkoklaoglab
namespace Go.Proofs.Ytaemlkoklaoglab
open Go Go.RowKit
set_option maxRecDepth 100000
set_option linter.unusedVariables false
end Go.Proofs.Ytaemlkoklaoglab
namespace Go.Proofs.Ytaemlkoklaoglab
open Go Go.RowKit
set_option maxRecDepth 100000
set_option linter.unusedVariables false
end Go.Proofs.Ytaemlkoklaoglab
namespace Go.Proofs.Ytaemlkoklaoglab
open Go Go.RowKit
set_option maxRecDepth 100000
set_option linter.unusedVariables false
end Go.Proofs.Ytaemlkoklaoglab
namespace Go.Proofs.Ytaemlkoklaoglab
open Go Go.RowKit
set_option maxRecDepth 100000
set_option linter.unusedVariables false
theorem bitLen_top {x n : Nat} (hx : (dg 65536 x).length = n + 1) : x / 65536 ^ n % 65536 = x / 65536 ^ n ∧ 0 < x / 65536 ^ n ∧ x / 65536 ^ n < 65536 ∧ bitLen x = 16 * n + bitLen (x / 65536 ^ n) := by
  have hx0 : x ≠ 0 := by rintro rfl; simp [dg_zero] at hx
  have h1 := dg_lt (b := 65536) (by decide) x
  have h2 := (dg_ge (b := 65536) (by decide) x hx0).2
  rw [hx] at h1 h2
  have h3 : x / 65536 ^ n < 65536 := (Nat.div_lt_iff_lt_mul (Nat.pow_pos (by decide))).2 (by rw [Nat.mul_comm, ← Nat.pow_succ]; exact h1)
  have h4 : 0 < x / 65536 ^ n := Nat.div_pos (by simpa using h2) (Nat.pow_pos (by decide))
  refine ⟨Nat.mod_eq_of_lt h3, h4, h3, ?_⟩
  have e : (65536 : Nat) ^ n = 2 ^ (16 * n) := by rw [show (65536 : Nat) = 2 ^ 16 from rfl, ← Nat.pow_mul]
  rw [e] at h4 ⊢
  exact bitLen_shift x (16 * n) (by omega)
theorem bitLen_hit (d j : Nat) (h0 : d / 2 ^ j = 0) (h1 : 1 ≤ j ∧ d / 2 ^ (j - 1) ≠ 0) : bitLen d = j := by
  obtain ⟨i, rfl⟩ : ∃ i, j = i + 1 := ⟨j - 1, by omega⟩
  rw [Nat.add_sub_cancel] at h1
  refine bitLen_of d i ?_ ?_
  · rcases Nat.lt_or_ge d (2 ^ i) with h | h
    · exact absurd (Nat.div_eq_of_lt h) h1.2
    · exact h
  · rcases (Nat.div_eq_zero_iff).1 h0 with h | h
    · have := Nat.two_pow_pos (i + 1); omega
    · exact h
end Go.Proofs.Ytaemlkoklaoglab
namespace Go.Proofs.Ytaemlkoklaoglab
open Go Go.RowKit
set_option maxRecDepth 100000
set_option linter.unusedVariables false
theorem bit_two (x k : Nat) : x / 65536 ^ (k / 16) % 65536 / 2 ^ (k % 16) % 2 = x / 2 ^ k % 2 := by
  have h1 : x / 2 ^ k = x / 65536 ^ (k / 16) / 2 ^ (k % 16) := (shr_two x k).symm
  rw [h1]
  generalize x / 65536 ^ (k / 16) = y
  obtain ⟨j, hj⟩ : ∃ j, k % 16 + (j + 1) = 16 := ⟨15 - k % 16, by omega⟩
  have e : (65536 : Nat) = 2 ^ (k % 16) * 2 ^ (j + 1) := by rw [← Nat.pow_add, hj]
  have h2 : y % 65536 / 2 ^ (k % 16) = y / 2 ^ (k % 16) % 2 ^ (j + 1) := by rw [e, Nat.mod_mul_right_div_self]
  rw [h2, Nat.pow_succ, Nat.mod_mul_left_mod]
end Go.Proofs.Ytaemlkoklaoglab
