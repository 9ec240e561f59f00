/- What this claim leans on. -/
import Derived.Test.YtipmllfnpldbdaaGreatDoorFBunZ
import Derived.LaidMore
import Derived.Lib.LaidTab
set_option linter.unusedVariables false
set_option linter.unusedSimpArgs false
namespace Go.Proofs.YtipmllfnpldbdaaGreatDoor
open Go Go.RowKit Go.Proofs.Tryz
set_option maxHeartbeats 16000000
theorem lu : prog.globalNamed "math/bits.deBruijn64tab" = some 1:=zV
theorem jD:(prog.globals[1]?).map (·.type)=some 218:=zV
theorem jC:prog.cellsOf 218=64:=zV
theorem lr:prog.cellsOf 5=1:=zV
theorem jE {W : World} (h : laidMetH prog [("math/bits.deBruijn64tab",Rows.laid_math_bits_deBruijn64tab)] W) : zu W:=by
 have hT : Lib.TabIs prog W "math/bits.deBruijn64tab" .u8 (Lib.deBruijn64tab.map Int.ofNat) :=
  Lib.tabIs_of_head (rest:=[]) lu jD underlying218 underlying5 lr jC h
 intro j hj;have:=hT.cell lu j (by simpa using hj);rw [this];simp only [qQ,QM];cases Lib.deBruijn64tab[j]?<;>rfl
