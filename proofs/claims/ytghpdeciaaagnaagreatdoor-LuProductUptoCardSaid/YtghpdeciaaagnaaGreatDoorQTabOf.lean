/- What this claim leans on. -/
import Derived.Test.YtghpdeciaaagnaaGreatDoorQBunT
import Derived.LaidMore
import Derived.Lib.LaidTab
namespace Go.Proofs.YtghpdeciaaagnaaGreatDoor
open Go Go.RowKit Go.Proofs.Tryz
set_option maxHeartbeats 16000000
theorem tabG : prog.globalNamed "math/bits.deBruijn64tab" = some 0:=kr9
theorem tabT:(prog.globals[0]?).map (·.type)=some 234:=kr9
theorem tabC:prog.cellsOf 234=64:=kr9
theorem tabC1:prog.cellsOf 5=1:=kr9
theorem tab_of {W : World} (h : laidMetH prog [("math/bits.deBruijn64tab",Rows.laid_math_bits_deBruijn64tab)] W) : zai W:=by
 have hT : Lib.TabIs prog W "math/bits.deBruijn64tab" .u8 (Lib.deBruijn64tab.map Int.ofNat) :=
  Lib.tabIs_of_head (rest:=[]) tabG tabT underlying234 underlying5 tabC1 tabC h
 intro j hj;have:=hT.cell tabG j (by simpa using hj);rw [this];simp only [List.getD_eq_getElem?_getD,List.getElem?_map];cases Lib.deBruijn64tab[j]?<;>rfl
