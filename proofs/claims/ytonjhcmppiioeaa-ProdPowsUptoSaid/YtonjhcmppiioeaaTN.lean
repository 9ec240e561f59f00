/-
  The reference's number is a slice of ints. Conditions: none.
-/
import Derived.Test.YtonjhcmppiioeaaRows
import Derived.KernelRfl
import Derived.Below
namespace Go.Proofs.Ytonjhcmppiioeaa
open Go Go.RowKit
theorem under_N : Try.prog.underlying 26 = some (.slice 3) := by kernel_rfl
end Go.Proofs.Ytonjhcmppiioeaa
