/- What this claim leans on. -/
import Derived.Test.YtdfdjfiognhbgaaGreatDoorDBunZ
import Derived.LaidMore
import Derived.Lib.LaidTab
set_option linter.unusedVariables false
set_option linter.unusedSimpArgs false
namespace Go.Proofs.YtdfdjfiognhbgaaGreatDoor
open Go Go.RowKit Go.Proofs.Tryz
set_option maxHeartbeats 16000000
theorem gM : prog.globalNamed "math/bits.deBruijn64tab" = some 0:=zP
theorem cH:(prog.globals[0]?).map (·.type)=some 221:=zP
theorem cG:prog.cellsOf 221=64:=zP
theorem gL:prog.cellsOf 5=1:=zP
theorem cI {W : World} (h : laidMetH prog [("math/bits.deBruijn64tab",Rows.laid_math_bits_deBruijn64tab)] W) : zu W:=by
 have hT : Lib.TabIs prog W "math/bits.deBruijn64tab" .u8 (Lib.deBruijn64tab.map Int.ofNat) :=
  Lib.tabIs_of_head (rest:=[]) gM cH underlying221 underlying5 gL cG h
 intro j hj;have:=hT.cell gM j (by simpa using hj);rw [this];simp only [qQ,QQ];cases Lib.deBruijn64tab[j]?<;>rfl
