/-
  The contracts of prod's Mul and Square: the product. Conditions: the values are numbers; lengths up to 2 to the 38.
-/
import Derived.Test.YtnnhcicdildfaaaRows
import Derived.Test.YtnnhcicdildfaaaBunO
import Derived.Test.YtnnhcicdildfaaaBunM
import Derived.Test.YtnnhcicdildfaaaBunW
import Derived.WalkKit
import Derived.Lib.Hide
import Derived.Outline
import Derived.LoopTactic
import Derived.Deep.LoopGhost
import Derived.IntWalk
namespace Go.Proofs.Ytnnhcicdildfaaa
open Go Go.RowKit
set_option maxRecDepth 100000
set_option linter.unusedVariables false
/-- One step of a row: MulAdd, over numbers. -/
theorem muladd_nat (p q r s : Nat) (hp : p < 18446744073709551616) (hq : q < 18446744073709551616) (hr : r < 18446744073709551616) (hs : s < 18446744073709551616) (w : World) :
    Calls Try.prog 45 #[.int .u64 p, .int .u64 q, .int .u64 r, .int .u64 s] w fun e w' => e = .returned (.tuple #[.int .u64 (((p * q + r + s) / 18446744073709551616 : Nat) : Int), .int .u64 (((p * q + r + s) % 18446744073709551616 : Nat) : Int)]) ∧ w = w' := by
  have h := word_muladd p q r s ⟨by omega, by omega⟩ ⟨by omega, by omega⟩ ⟨by omega, by omega⟩ ⟨by omega, by omega⟩ w
  rw [(ma_nat p q r s).1, (ma_nat p q r s).2] at h
  exact h
end Go.Proofs.Ytnnhcicdildfaaa
