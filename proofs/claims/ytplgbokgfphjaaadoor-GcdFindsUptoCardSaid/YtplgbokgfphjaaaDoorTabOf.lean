/-
  TrailingZeros64's table out of the row's list. Conditions: none.
-/
import Derived.Test.YtplgbokgfphjaaaDoorRows
import Derived.Test.YtplgbokgfphjaaaDoorBunT
import Derived.ProofKit
import Derived.OpenShut
import Derived.LaidMore
import Derived.Lib.LaidTab
namespace Go.Proofs.YtplgbokgfphjaaaDoor
open Go Go.RowKit
/-! ### TrailingZeros64's table -/
theorem tabG : Tryd.prog.globalNamed "math/bits.deBruijn64tab" = some 0 := by kernel_rfl
theorem tabT : (Tryd.prog.globals[0]?).map (·.type) = some 89 := by kernel_rfl
theorem tabC : Tryd.prog.cellsOf 89 = 64 := by kernel_rfl
theorem tabC1 : Tryd.prog.cellsOf 5 = 1 := by kernel_rfl
theorem tab_of {W : World} (h : laidMetH Tryd.prog [("math/bits.deBruijn64tab", Rows.laid_math_bits_deBruijn64tab)] W) : TabAt W := by
  have hT : Lib.TabIs Tryd.prog W "math/bits.deBruijn64tab" .u8 (Lib.deBruijn64tab.map Int.ofNat) :=
    Lib.tabIs_of_head (rest := []) tabG tabT Tryd.underlying89 Tryd.underlying5 tabC1 tabC h
  intro j hj
  have := hT.cell tabG j (by simpa using hj)
  rw [this]
  simp only [List.getD_eq_getElem?_getD, List.getElem?_map]
  cases Lib.deBruijn64tab[j]? <;> rfl
end Go.Proofs.YtplgbokgfphjaaaDoor
