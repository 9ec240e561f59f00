/-
  nat.Of of no words is 0. Conditions: none.
-/
import Derived.Test.YtnnhcicdildfaaaRows
import Derived.Test.YtnnhcicdildfaaaBunE
import Derived.WalkKit
import Derived.Lib.Hide
namespace Go.Proofs.Ytnnhcicdildfaaa
open Go Go.RowKit
theorem nat_of_nil (w : World) : Calls Try.prog 10 #[.slice none 0 0] w (GivesN2 w 0) := nat_of none 0 0 [] w Reads.none_ (by intro d hd; simp at hd) (Nat.le_refl _) (by decide) (by decide)
end Go.Proofs.Ytnnhcicdildfaaa
