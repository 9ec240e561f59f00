/-
  The contract of the reference's Pow (actuaryref03): a power. Conditions: a slice that holds a number's digits; the number is 0 or 1, or the power's length is up to 2 to the 35.
-/
import Derived.Test.YtaemlkoklaoglaaRows
import Derived.Test.YtaemlkoklaoglaaR3Mul
import Derived.Test.YtaemlkoklaoglaaBunR
import Derived.Test.YtaemlkoklaoglaaNDig
import Derived.WalkKit
import Derived.Lib.Hide
import Derived.Outline
import Derived.LoopTactic
import Derived.Deep.LoopGhost
namespace Go.Proofs.Ytaemlkoklaoglaa
open Go Go.RowKit
set_option maxRecDepth 100000
set_option linter.unusedVariables false
/-- A number's digits, in new memory or in what was handed in. -/
def GivesH (w : World) (x : Nat) (e : Ending) (w' : World) : Prop := ∃ (A : Option Addr) (n c : Nat), e = .returned (.slice A n c) ∧ Holds16 w' x A n c ∧ Below w.heap.size w w'
theorem holds_one (w : World) (g : Nat) (h : Blk w g 3 #[.int .i64 1]) : Holds16 w 1 (some ⟨g, 0, none⟩) 1 1 := by
  have e : dg 65536 1 = [1] := by
    rw [dg_step (by decide) (by decide)]
    rfl
  refine ⟨?_, Nat.le_refl _, by omega⟩
  rw [e]
  refine ⟨rfl, fun _ => ⟨_, rfl, h.lt, fun j u hu => ?_⟩⟩
  match j, hu with
  | 0, hu => simp [vals] at hu; subst hu; exact h.cell 0
theorem pow_len16 {x n : Nat} (hx : (dg 65536 x).length ≤ n) : ∀ i, (dg 65536 (x ^ i)).length ≤ n * i + 1
  | 0 => by rw [Nat.pow_zero]; exact dg_len_le (by decide) _ _ (by rw [Nat.mul_zero]; decide)
  | i + 1 => by
    rw [Nat.pow_succ]
    have := mul_len16 (pow_len16 hx i) hx
    rw [Nat.mul_succ]
    omega
theorem bit_one {x : Nat} (h : bitLen x = 1) : x = 1 := by
  unfold bitLen at h
  split at h
  · omega
  · rename_i h0
    have h1 := @Nat.lt_log2_self x
    rw [show x.log2 = 0 from by omega] at h1
    omega
end Go.Proofs.Ytaemlkoklaoglaa
