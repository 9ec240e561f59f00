/-
  What makes a number and tells whether there is one; small facts. Conditions: none beyond each lemma's own.
-/
import Derived.Test.YtnnhcicdildfaaaBunE
namespace Go.Proofs.Ytnnhcicdildfaaa
open Go Go.RowKit
set_option linter.unusedVariables false
/-- What makes a number and tells whether there is one. -/
def GivesNT (w : World) (x : Nat) (b : Bool) (e : Ending) (w' : World) : Prop := ∃ (A : Option Addr) (n c : Nat), e = .returned (.tuple #[.agg #[.slice A n c], .bool b]) ∧ WordsIn w' x A n c ∧ Below w.heap.size w w' ∧ Fresh w A
theorem words_zero (w : World) : WordsIn w 0 none 0 0 := ⟨Reads.none_, Nat.le_refl _, by omega⟩
theorem cmpI_ge {x y : Nat} (h : y ≤ x) : 0 ≤ cmpI x y := by
  unfold cmpI
  rw [if_neg (by omega)]
  split <;> omega
end Go.Proofs.Ytnnhcicdildfaaa
