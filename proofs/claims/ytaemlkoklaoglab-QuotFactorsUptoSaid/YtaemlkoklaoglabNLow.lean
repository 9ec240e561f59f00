/-
  The contract of nat.Nat's Low: a number's lowest bits. Conditions: the value is a number; its length is up to 2 to the 39.
-/
import Derived.Test.YtaemlkoklaoglabRows
import Derived.Test.YtaemlkoklaoglabBunE
import Derived.Test.YtaemlkoklaoglabNDig
import Derived.Test.YtaemlkoklaoglabNBits
import Derived.Test.YtaemlkoklaoglabNShiftMath
import Derived.WalkKit
import Derived.Lib.Hide
import Derived.Outline
import Derived.LoopTactic
import Derived.Deep.LoopGhost
import Derived.Deep.DeepCutAuto
import Derived.Deep.CutBlock
import Derived.Deep.RegionHeld3
namespace Go.Proofs.Ytaemlkoklaoglab
open Go Go.RowKit
set_option maxRecDepth 100000
set_option linter.unusedVariables false
theorem words_zeroL (w : World) : WordsIn w 0 none 0 0 := ⟨Reads.none_, Nat.le_refl _, by omega⟩
theorem bitLen_lt (x : Nat) : x < 2 ^ bitLen x := by
  unfold bitLen
  split
  · rename_i h; subst h; decide
  · exact Nat.lt_log2_self
end Go.Proofs.Ytaemlkoklaoglab
