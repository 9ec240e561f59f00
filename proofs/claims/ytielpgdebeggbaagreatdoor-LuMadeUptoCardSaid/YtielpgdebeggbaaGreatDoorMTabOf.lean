/- What this claim leans on. -/
import Derived.Test.YtielpgdebeggbaaGreatDoorMBunZ
import Derived.LaidMore
import Derived.Lib.LaidTab
set_option linter.unusedVariables false
set_option linter.unusedSimpArgs false
namespace Go.Proofs.YtielpgdebeggbaaGreatDoor
open Go Go.RowKit Go.Proofs.Tryz
set_option maxHeartbeats 16000000
theorem fI : prog.globalNamed "math/bits.deBruijn64tab" = some 0:=yd
theorem Ze:(prog.globals[0]?).map (·.type)=some 178:=yd
theorem Zd:prog.cellsOf 178=64:=yd
theorem fH:prog.cellsOf 5=1:=yd
theorem Zf {W : World} (h : laidMetH prog [("math/bits.deBruijn64tab",Rows.laid_math_bits_deBruijn64tab)] W) : zu W:=by
 have hT : Lib.TabIs prog W "math/bits.deBruijn64tab" .u8 (Lib.deBruijn64tab.map Int.ofNat) :=
  Lib.tabIs_of_head (rest:=[]) fI Ze underlying178 underlying5 fH Zd h
 intro j hj;have:=hT.cell fI j (by simpa using hj);rw [this];simp only [qQ,qW];cases Lib.deBruijn64tab[j]?<;>rfl
