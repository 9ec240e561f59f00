/- What this claim leans on. -/
import Derived.Test.YtgigccjiblaefaaDoorLBunT
import Derived.LaidMore
import Derived.Lib.LaidTab
import Derived.OpenShut
import Derived.ProofKit
namespace Go.Proofs.YtgigccjiblaefaaDoor
open Go Go.RowKit
theorem tabG : Tryd.prog.globalNamed "math/bits.deBruijn64tab" = some 0 := by kernel_rfl
theorem tabT : (Tryd.prog.globals[0]?).map (·.type) = some 111 := by kernel_rfl
theorem tabC : Tryd.prog.cellsOf 111 = 64 := by kernel_rfl
theorem tabC1 : Tryd.prog.cellsOf 5 = 1 := by kernel_rfl
theorem tab_of {W : World} (h : laidMetH Tryd.prog [("math/bits.deBruijn64tab", Rows.laid_math_bits_deBruijn64tab)] W) : zan W := by
 have hT : Lib.TabIs Tryd.prog W "math/bits.deBruijn64tab" .u8 (Lib.deBruijn64tab.map Int.ofNat) :=
  Lib.tabIs_of_head (rest := []) tabG tabT Tryd.underlying111 Tryd.underlying5 tabC1 tabC h
 intro j hj
 have := hT.cell tabG j (by simpa using hj)
 rw [this]
 simp only [List.getD_eq_getElem?_getD, List.getElem?_map]
 cases Lib.deBruijn64tab[j]? <;> rfl
end Go.Proofs.YtgigccjiblaefaaDoor
