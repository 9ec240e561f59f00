/- What this claim leans on. -/
import Derived.Test.YtghpdeciaaagnaaGreatDoorIBunT
import Derived.LaidMore
import Derived.Lib.LaidTab
namespace Go.Proofs.YtghpdeciaaagnaaGreatDoor
open Go Go.RowKit
set_option maxHeartbeats 16000000
theorem tabG : Tryz.prog.globalNamed "math/bits.deBruijn64tab" = some 0:=by kernel_rfl
theorem tabT:(Tryz.prog.globals[0]?).map (·.type)=some 234:=by kernel_rfl
theorem tabC:Tryz.prog.cellsOf 234=64:=by kernel_rfl
theorem tabC1:Tryz.prog.cellsOf 5=1:=by kernel_rfl
theorem tab_of {W : World} (h : laidMetH Tryz.prog [("math/bits.deBruijn64tab",Rows.laid_math_bits_deBruijn64tab)] W) : zai W:=by
 have hT : Lib.TabIs Tryz.prog W "math/bits.deBruijn64tab" .u8 (Lib.deBruijn64tab.map Int.ofNat) :=
  Lib.tabIs_of_head (rest:=[]) tabG tabT Tryz.underlying234 Tryz.underlying5 tabC1 tabC h
 intro j hj
 have:=hT.cell tabG j (by simpa using hj)
 rw [this]
 simp only [List.getD_eq_getElem?_getD,List.getElem?_map]
 cases Lib.deBruijn64tab[j]?<;>rfl
