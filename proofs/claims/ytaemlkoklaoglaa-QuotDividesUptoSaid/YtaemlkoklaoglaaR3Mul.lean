/-
  The contract of the reference's Mul (actuaryref03): the product. Conditions: slices that hold a number's digits; lengths up to 2 to the 36.
-/
import Derived.Test.YtaemlkoklaoglaaRows
import Derived.Test.YtaemlkoklaoglaaBunR
import Derived.Test.YtaemlkoklaoglaaBunE
import Derived.WalkKit
import Derived.Lib.Hide
import Derived.Outline
import Derived.LoopTactic
import Derived.Deep.LoopGhost
import Derived.Deep.RegionHeld3
namespace Go.Proofs.Ytaemlkoklaoglaa
open Go Go.RowKit
set_option maxRecDepth 100000
set_option linter.unusedVariables false
theorem mul_len16 {x y n m : Nat} (hx : (dg 65536 x).length ≤ n) (hy : (dg 65536 y).length ≤ m) : (dg 65536 (x * y)).length ≤ n + m := by
  refine dg_len_le (by decide) _ _ ?_
  rw [Nat.pow_add]
  exact Nat.mul_lt_mul'' (Nat.lt_of_lt_of_le (dg_lt (by decide) x) (Nat.pow_le_pow_right (by decide) hx)) (Nat.lt_of_lt_of_le (dg_lt (by decide) y) (Nat.pow_le_pow_right (by decide) hy))
theorem mul_step16 (x y j : Nat) : x * (y / 65536 ^ (j + 1)) * 2 ^ 16 + (x * (y / 65536 ^ j % 65536) + 0) = x * (y / 65536 ^ j) := by
  conv => rhs; rw [dig_up 65536 y j]
  rw [Nat.mul_add, show (2 : Nat) ^ 16 = 65536 from by decide, Nat.mul_assoc, Nat.mul_comm (y / 65536 ^ (j + 1)) 65536]
  exact congrArg _ (Nat.add_zero _)
theorem holds_nil (w : World) : Holds16 w 0 none 0 0 := ⟨Reads.none_, Nat.le_refl _, by omega⟩
end Go.Proofs.Ytaemlkoklaoglaa
