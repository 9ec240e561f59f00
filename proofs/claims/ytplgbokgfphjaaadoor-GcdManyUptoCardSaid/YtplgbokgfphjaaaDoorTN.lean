/-
  The reference's number is a slice of ints. Conditions: none.
-/
import Derived.Test.YtplgbokgfphjaaaDoorRows
import Derived.KernelRfl
import Derived.Below
namespace Go.Proofs.YtplgbokgfphjaaaDoor
open Go Go.RowKit
theorem under_N : Tryd.prog.underlying 25 = some (.slice 3) := by kernel_rfl
end Go.Proofs.YtplgbokgfphjaaaDoor
