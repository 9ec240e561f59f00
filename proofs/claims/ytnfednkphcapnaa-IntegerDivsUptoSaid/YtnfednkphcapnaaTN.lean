/-
  The reference's number is a slice of ints. Conditions: none.
-/
import Derived.Test.YtnfednkphcapnaaRows
import Derived.KernelRfl
import Derived.Below
namespace Go.Proofs.Ytnfednkphcapnaa
open Go Go.RowKit
theorem under_N : Try.prog.underlying 32 = some (.slice 3) := by kernel_rfl
end Go.Proofs.Ytnfednkphcapnaa
