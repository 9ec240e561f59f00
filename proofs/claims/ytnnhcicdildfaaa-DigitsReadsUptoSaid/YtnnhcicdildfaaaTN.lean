/-
  The reference's number is a slice of ints. Conditions: none.
-/
import Derived.Test.YtnnhcicdildfaaaRows
import Derived.KernelRfl
import Derived.Below
namespace Go.Proofs.Ytnnhcicdildfaaa
open Go Go.RowKit
theorem under_N : Try.prog.underlying 28 = some (.slice 3) := by kernel_rfl
end Go.Proofs.Ytnnhcicdildfaaa
