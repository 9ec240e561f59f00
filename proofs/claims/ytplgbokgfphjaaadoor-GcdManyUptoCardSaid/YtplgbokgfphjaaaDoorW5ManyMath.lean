/-
  Arithmetic for the law GcdMany: the numbers of the first rows, what they have in common, what they all go into. Conditions: as each says.
-/
import Derived.Test.YtplgbokgfphjaaaDoorRows
import Derived.Test.YtplgbokgfphjaaaDoorP5C
import Derived.Test.YtplgbokgfphjaaaDoorBunV
import Derived.WalkKit
import Derived.Lib.Hide
import Derived.Outline
namespace Go.Proofs.YtplgbokgfphjaaaDoor
open Go Go.RowKit
set_option linter.unusedVariables false
/-- The numbers of the first k rows. -/
def rowNums (R : Nat → Option Addr × Nat × Nat × List Nat) (k : Nat) : List Nat := (List.range k).map fun r => dv 18446744073709551616 (R r).2.2.2
theorem rowNums_succ (R : Nat → Option Addr × Nat × Nat × List Nat) (k : Nat) : rowNums R (k + 1) = rowNums R k ++ [dv 18446744073709551616 (R k).2.2.2] := by simp [rowNums, List.range_succ]
theorem rowNums_len (R : Nat → Option Addr × Nat × Nat × List Nat) (k : Nat) : (rowNums R k).length = k := by simp [rowNums]
theorem rowNums_take (R : Nat → Option Addr × Nat × Nat × List Nat) {j k : Nat} (h : k ≤ j) : (rowNums R j).take k = rowNums R k := by
  simp [rowNums, ← List.map_take, List.take_range, Nat.min_eq_left h]
theorem rowNums_get (R : Nat → Option Addr × Nat × Nat × List Nat) {j k : Nat} (h : k < j) : (rowNums R j).getD k 0 = dv 18446744073709551616 (R k).2.2.2 := by
  simp [rowNums, List.getD_eq_getElem?_getD, List.getElem?_map, List.getElem?_range h]
theorem gcdL_snoc (l : List Nat) (x : Nat) : gcdL (l ++ [x]) = Nat.gcd (gcdL l) x := by simp [gcdL]
theorem lcmL_snoc (l : List Nat) (x : Nat) : lcmL (l ++ [x]) = Nat.lcm (lcmL l) x := by simp [lcmL]
/-- Is one of the first k rows' numbers 0? -/
def anyZ (R : Nat → Option Addr × Nat × Nat × List Nat) : Nat → Bool
  | 0 => false
  | k + 1 => anyZ R k || decide (dv 18446744073709551616 (R k).2.2.2 = 0)
theorem anyZ_yes (R : Nat → Option Addr × Nat × Nat × List Nat) {k : Nat} (h : anyZ R k = true) : anyZ R (k + 1) = true := by simp [anyZ, h]
theorem anyZ_zero (R : Nat → Option Addr × Nat × Nat × List Nat) {k : Nat} (h : dv 18446744073709551616 (R k).2.2.2 = 0) : anyZ R (k + 1) = true := by simp [anyZ, h]
theorem anyZ_no (R : Nat → Option Addr × Nat × Nat × List Nat) {k : Nat} (h : anyZ R k = false) (hx : dv 18446744073709551616 (R k).2.2.2 ≠ 0) : anyZ R (k + 1) = false := by simp [anyZ, h, hx]
/-- What all go into is 0 where one of them is. -/
theorem lcmL_zero (R : Nat → Option Addr × Nat × Nat × List Nat) (k : Nat) : lcmL (rowNums R k) = 0 ↔ anyZ R k = true := by
  induction k with
  | zero => simp [rowNums, lcmL, anyZ]
  | succ k ih =>
    rw [rowNums_succ, lcmL_snoc, Nat.lcm_eq_zero_iff, ih]
    simp [anyZ]
theorem gcdL_dvd (R : Nat → Option Addr × Nat × Nat × List Nat) (k : Nat) : ∀ r, r < k → gcdL (rowNums R k) ∣ dv 18446744073709551616 (R r).2.2.2 := by
  induction k with
  | zero => intro r h; omega
  | succ k ih =>
    intro r h
    rw [rowNums_succ, gcdL_snoc]
    by_cases hr : r = k
    · subst hr; exact Nat.gcd_dvd_right _ _
    · exact Nat.dvd_trans (Nat.gcd_dvd_left _ _) (ih r (by omega))
theorem dvd_lcmL (R : Nat → Option Addr × Nat × Nat × List Nat) (k : Nat) : ∀ r, r < k → dv 18446744073709551616 (R r).2.2.2 ∣ lcmL (rowNums R k) := by
  induction k with
  | zero => intro r h; omega
  | succ k ih =>
    intro r h
    rw [rowNums_succ, lcmL_snoc]
    by_cases hr : r = k
    · subst hr; exact Nat.dvd_lcm_right _ _
    · exact Nat.dvd_trans (ih r (by omega)) (Nat.dvd_lcm_left _ _)
/-- How long what is made of k numbers of up to K words is. -/
theorem gcdL_sz {K : Nat} (R : Nat → Option Addr × Nat × Nat × List Nat) (k : Nat) (h : ∀ r, r < k → Sz K (dv 18446744073709551616 (R r).2.2.2)) : Sz (K * k + 1) (gcdL (rowNums R k)) := by
  induction k with
  | zero => show (0 : Nat) < 18446744073709551616 ^ _; exact Nat.pow_pos (by decide)
  | succ k ih =>
    rw [rowNums_succ, gcdL_snoc]
    exact ((ih (fun r hr => h r (by omega))).gcd (h k (by omega))).up (by rw [Nat.mul_succ]; omega)
theorem lcmL_sz {K : Nat} (R : Nat → Option Addr × Nat × Nat × List Nat) (k : Nat) (h : ∀ r, r < k → Sz K (dv 18446744073709551616 (R r).2.2.2)) : Sz (K * k + 1) (lcmL (rowNums R k)) := by
  induction k with
  | zero => exact Sz.up (K := 1) (by show (1 : Nat) < 18446744073709551616 ^ 1; decide) (by omega)
  | succ k ih =>
    rw [rowNums_succ, lcmL_snoc]
    exact ((ih (fun r hr => h r (by omega))).lcm (h k (by omega))).up (by rw [Nat.mul_succ]; omega)
theorem gcdL_nil : gcdL [] = 0 := rfl
theorem lcmL_nil : lcmL [] = 1 := rfl
end Go.Proofs.YtplgbokgfphjaaaDoor
