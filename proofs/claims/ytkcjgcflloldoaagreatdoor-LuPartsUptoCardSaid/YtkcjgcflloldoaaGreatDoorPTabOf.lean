/- What this claim leans on. -/
import Derived.Test.YtkcjgcflloldoaaGreatDoorPBunT
import Derived.LaidMore
import Derived.Lib.LaidTab
set_option linter.unusedVariables false
set_option linter.unusedSimpArgs false
namespace Go.Proofs.YtkcjgcflloldoaaGreatDoor
open Go Go.RowKit Go.Proofs.Tryz
set_option maxHeartbeats 16000000
theorem eX : prog.globalNamed "math/bits.deBruijn64tab" = some 0:=zU
theorem ZW:(prog.globals[0]?).map (·.type)=some 201:=zU
theorem ZV:prog.cellsOf 201=64:=zU
theorem eW:prog.cellsOf 5=1:=zU
theorem ZX {W : World} (h : laidMetH prog [("math/bits.deBruijn64tab",Rows.laid_math_bits_deBruijn64tab)] W) : zu W:=by
 have hT : Lib.TabIs prog W "math/bits.deBruijn64tab" .u8 (Lib.deBruijn64tab.map Int.ofNat) :=
  Lib.tabIs_of_head (rest:=[]) eX ZW underlying201 underlying5 eW ZV h
 intro j hj;have:=hT.cell eX j (by simpa using hj);rw [this];simp only [qQ,qW];cases Lib.deBruijn64tab[j]?<;>rfl
