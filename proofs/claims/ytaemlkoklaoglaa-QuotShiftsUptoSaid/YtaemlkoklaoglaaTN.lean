/-
  The reference's number is a slice of ints. Conditions: none.
-/
import Derived.Test.YtaemlkoklaoglaaRows
import Derived.KernelRfl
import Derived.Below
namespace Go.Proofs.Ytaemlkoklaoglaa
open Go Go.RowKit
theorem under_N : Try.prog.underlying 29 = some (.slice 3) := by kernel_rfl
end Go.Proofs.Ytaemlkoklaoglaa
