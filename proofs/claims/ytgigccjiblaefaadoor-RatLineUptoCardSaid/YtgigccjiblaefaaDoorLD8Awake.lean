/- What this claim leans on. -/
import Derived.Test.YtgigccjiblaefaaDoorLW8Far
namespace Go.Proofs.YtgigccjiblaefaaDoor
open Go Go.RowKit
set_option linter.unusedVariables false
theorem zep : (Rat.divInt 6 (-4)).num = -3 := by rw [Rat.num_divInt]; decide
theorem zeP : (Rat.divInt 6 (-4)).den = 2 := by rw [Rat.den_divInt]; decide
theorem aw_ne : Rat.divInt 6 (-4) ≠ 0 := fun h => by
 have := congrArg Rat.num h
 rw [zep] at this
 exact absurd this (by decide)
theorem aw_floor : (Rat.divInt 6 (-4)).floor = -2 := by rw [Rat.floor_def, zep, zeP]; decide
theorem aw_ceil : (Rat.divInt 6 (-4)).ceil = -1 := by rw [Rat.ceil_eq_neg_floor_neg, Rat.floor_def, Rat.neg_num, Rat.neg_den, zep, zeP]; decide
theorem aw_inv : (Rat.divInt 6 (-4))⁻¹.num = -2 := by rw [Rat.num_inv, zep, zeP]; decide
theorem aw_sum : Rat.divInt 1 2 + Rat.divInt 1 3 = Rat.divInt 5 6 := by
 rw [Rat.divInt_add_divInt _ _ (by decide) (by decide)]; rfl
theorem aw_bits : ((bitLen (Rat.divInt 6 (-4)).num.natAbs + bitLen (Rat.divInt 6 (-4)).den : Nat) : Int) = 4 := by rw [zep, zeP]; decide
theorem aw_dg : dg 18446744073709551616 (Rat.divInt 6 (-4)).den = [2] := by rw [zeP]; exact zib (by decide) (by decide)
end Go.Proofs.YtgigccjiblaefaaDoor
