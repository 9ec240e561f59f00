/-
  The rows of int and uint64 in the table of types. Conditions: none.
-/
import Derived.Test.YtonjhcmppiioeaaDoorRows
import Derived.KernelRfl
import Derived.Below
namespace Go.Proofs.YtonjhcmppiioeaaDoor
open Go Go.RowKit
theorem infoI : (Tryd.prog.info? 3).map (fun i => (i.zero, i.size, i.bytes)) = some (some (.int .i64 0), 1, 8) := by kernel_rfl
theorem infoU : (Tryd.prog.info? 30).map (fun i => (i.zero, i.size, i.bytes)) = some (some (.int .u64 0), 1, 8) := by kernel_rfl
end Go.Proofs.YtonjhcmppiioeaaDoor
