/-
  The contract of nat.Nat's Shl: a number times a power of two, and which there are. Conditions: the value is a number; its length is up to 2 to the 39.
  The contract of nat.Nat's Shr: a number by a power of two, rounded down. Conditions: the value is a number; its length is up to 2 to the 39.
  The contract of nat.Nat's Low: a number's lowest bits. Conditions: the value is a number; its length is up to 2 to the 39.
  Shr and Low of a number, by whatever k from 0 on; the reference's numbers of the words that came in. Conditions: the value is a number; its length is up to 2 to the 39.
-/
import Derived.Test.YtnnhcicdildfaaaRows
import Derived.Test.YtnnhcicdildfaaaBunE
import Derived.Test.YtnnhcicdildfaaaNDig
import Derived.Test.YtnnhcicdildfaaaNPost
import Derived.Test.YtnnhcicdildfaaaNShiftMath
import Derived.Test.YtnnhcicdildfaaaNBits
import Derived.Test.YtnnhcicdildfaaaBunP
import Derived.WalkKit
import Derived.Lib.Hide
import Derived.Outline
import Derived.LoopTactic
import Derived.Deep.LoopGhost
import Derived.Deep.DeepCutAuto
import Derived.Deep.CutBlock
import Derived.Deep.RegionHeld3
import Derived.BigRegion
namespace Go.Proofs.Ytnnhcicdildfaaa
open Go Go.RowKit
set_option maxRecDepth 100000
set_option linter.unusedVariables false
end Go.Proofs.Ytnnhcicdildfaaa
namespace Go.Proofs.Ytnnhcicdildfaaa
open Go Go.RowKit
set_option maxRecDepth 100000
set_option linter.unusedVariables false
theorem words_zero' (w : World) : WordsIn w 0 none 0 0 := ⟨Reads.none_, Nat.le_refl _, by omega⟩
end Go.Proofs.Ytnnhcicdildfaaa
namespace Go.Proofs.Ytnnhcicdildfaaa
open Go Go.RowKit
set_option maxRecDepth 100000
set_option linter.unusedVariables false
theorem words_zeroL (w : World) : WordsIn w 0 none 0 0 := ⟨Reads.none_, Nat.le_refl _, by omega⟩
theorem bitLen_lt (x : Nat) : x < 2 ^ bitLen x := by
  unfold bitLen
  split
  · rename_i h; subst h; decide
  · exact Nat.lt_log2_self
end Go.Proofs.Ytnnhcicdildfaaa
namespace Go.Proofs.Ytnnhcicdildfaaa
open Go Go.RowKit
set_option linter.unusedVariables false
theorem Sz.shl' {K x k M : Nat} (h : Sz K x) (hk : k ≤ 64 * M) : Sz (K + M) (2 ^ k * x) := by
  unfold Sz at *
  have h1 : 2 ^ k ≤ 18446744073709551616 ^ M := by
    rw [show (18446744073709551616 : Nat) = 2 ^ 64 from rfl, ← Nat.pow_mul]
    exact Nat.pow_le_pow_right (by decide) hk
  rw [Nat.pow_add, Nat.mul_comm (18446744073709551616 ^ K)]
  exact Nat.lt_of_le_of_lt (Nat.mul_le_mul_right x h1) (Nat.mul_lt_mul_of_pos_left h (Nat.pow_pos (by decide)))
theorem Sz.shl {K x k : Nat} (h : Sz K x) (hk : k ≤ 65536) : Sz (K + 1024) (2 ^ k * x) := h.shl' (by omega)
end Go.Proofs.Ytnnhcicdildfaaa
