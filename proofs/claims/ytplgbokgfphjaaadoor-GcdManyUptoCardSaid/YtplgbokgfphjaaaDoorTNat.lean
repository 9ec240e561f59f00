/-
  The row of a number in the table of types: a struct of one slice. Conditions: none.
-/
import Derived.Test.YtplgbokgfphjaaaDoorRows
import Derived.KernelRfl
import Derived.Below
namespace Go.Proofs.YtplgbokgfphjaaaDoor
open Go Go.RowKit
theorem infoN : (Tryd.prog.info? 29).map (fun i => (i.zero, i.size, i.bytes)) = some (some (.agg #[.slice none 0 0]), 1, 24) := by kernel_rfl
end Go.Proofs.YtplgbokgfphjaaaDoor
