/- What this claim leans on. -/
import Derived.Test.YtielpgdebeggbaaGreatDoorWBunT
import Derived.LaidMore
import Derived.Lib.LaidTab
set_option linter.unusedVariables false
set_option linter.unusedSimpArgs false
namespace Go.Proofs.YtielpgdebeggbaaGreatDoor
open Go Go.RowKit Go.Proofs.Tryz
set_option maxHeartbeats 16000000
theorem gH : prog.globalNamed "math/bits.deBruijn64tab" = some 0:=ye
theorem bD:(prog.globals[0]?).map (·.type)=some 178:=ye
theorem bC:prog.cellsOf 178=64:=ye
theorem gG:prog.cellsOf 5=1:=ye
theorem bE {W : World} (h : laidMetH prog [("math/bits.deBruijn64tab",Rows.laid_math_bits_deBruijn64tab)] W) : zt W:=by
 have hT : Lib.TabIs prog W "math/bits.deBruijn64tab" .u8 (Lib.deBruijn64tab.map Int.ofNat) :=
  Lib.tabIs_of_head (rest:=[]) gH bD underlying178 underlying5 gG bC h
 intro j hj;have:=hT.cell gH j (by simpa using hj);rw [this];simp only [qQ,qN];cases Lib.deBruijn64tab[j]?<;>rfl
