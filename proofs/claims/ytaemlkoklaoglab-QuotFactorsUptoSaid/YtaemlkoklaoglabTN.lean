/-
  The reference's number is a slice of ints. Conditions: none.
-/
import Derived.Test.YtaemlkoklaoglabRows
import Derived.KernelRfl
import Derived.Below
namespace Go.Proofs.Ytaemlkoklaoglab
open Go Go.RowKit

end Go.Proofs.Ytaemlkoklaoglab
