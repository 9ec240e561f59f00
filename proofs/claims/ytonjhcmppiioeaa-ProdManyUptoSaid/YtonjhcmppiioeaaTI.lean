/-
  The rows of int and uint64 in the table of types. Conditions: none.
-/
import Derived.Test.YtonjhcmppiioeaaRows
import Derived.KernelRfl
import Derived.Below
namespace Go.Proofs.Ytonjhcmppiioeaa
open Go Go.RowKit
theorem infoI : (Try.prog.info? 3).map (fun i => (i.zero, i.size, i.bytes)) = some (some (.int .i64 0), 1, 8) := by kernel_rfl
theorem infoU : (Try.prog.info? 23).map (fun i => (i.zero, i.size, i.bytes)) = some (some (.int .u64 0), 1, 8) := by kernel_rfl
end Go.Proofs.Ytonjhcmppiioeaa
