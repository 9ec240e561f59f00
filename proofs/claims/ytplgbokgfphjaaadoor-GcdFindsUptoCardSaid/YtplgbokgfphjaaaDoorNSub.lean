/-
  The contract of nat.Sub: the difference, and whether there is one. Conditions: the values are numbers; lengths up to 2 to the 39.
-/
import Derived.Test.YtplgbokgfphjaaaDoorRows
import Derived.Test.YtplgbokgfphjaaaDoorBunE
import Derived.Test.YtplgbokgfphjaaaDoorNDig
import Derived.Test.YtplgbokgfphjaaaDoorBunW
import Derived.Test.YtplgbokgfphjaaaDoorBunC
import Derived.Test.YtplgbokgfphjaaaDoorNPost
import Derived.WalkKit
import Derived.Lib.Hide
import Derived.Outline
import Derived.LoopTactic
import Derived.Deep.LoopGhost
import Derived.Deep.DeepCutAuto
import Derived.Deep.CutBlock
import Derived.Deep.RegionHeld3
namespace Go.Proofs.YtplgbokgfphjaaaDoor
open Go Go.RowKit
set_option maxRecDepth 100000
set_option linter.unusedVariables false
end Go.Proofs.YtplgbokgfphjaaaDoor
