/- What this claim leans on. -/
import Derived.Test.YtgigccjiblaefaaDoorSBunT
import Derived.Test.YtgigccjiblaefaaDoorSBunN
import Derived.Deep.Matrix
import Derived.IntWalk
import Derived.LaidMore
import Derived.Laws.BytesArg
import Derived.Lib.LaidTab
namespace Go.Proofs.YtgigccjiblaefaaDoor
open Go Go.RowKit
open Go.ChangeShapes Go.WideShapes Go.ChangeAt Go.Deep
set_option linter.unusedVariables false
namespace UA
theorem mem_le {H : Type} {d : DataW H} {l : List (DataW H)} (h : d ∈ l) : Rows.uptoBulk d ≤ Rows.uptoBulkAll l := by
 induction l with
 | nil => cases h
 | cons x r ih =>
   simp only [Rows.uptoBulkAll]
   rcases List.mem_cons.1 h with rfl | h
   ·omega
   ·have := ih h; omega
end UA
end Go.Proofs.YtgigccjiblaefaaDoor
namespace Go.Proofs.YtgigccjiblaefaaDoor
open Go Go.RowKit
theorem tabG : Tryd.prog.globalNamed "math/bits.deBruijn64tab" = some 0 := by kernel_rfl
theorem tabT : (Tryd.prog.globals[0]?).map (·.type) = some 111 := by kernel_rfl
theorem tabC : Tryd.prog.cellsOf 111 = 64 := by kernel_rfl
theorem tabC1 : Tryd.prog.cellsOf 5 = 1 := by kernel_rfl
theorem tab_of {W : World} (h : laidMetH Tryd.prog [("math/bits.deBruijn64tab", Rows.laid_math_bits_deBruijn64tab)] W) : zal W := by
 have hT : Lib.TabIs Tryd.prog W "math/bits.deBruijn64tab" .u8 (Lib.deBruijn64tab.map Int.ofNat) :=
  Lib.tabIs_of_head (rest := []) tabG tabT Tryd.underlying111 Tryd.underlying5 tabC1 tabC h
 intro j hj
 have := hT.cell tabG j (by simpa using hj)
 rw [this]
 simp only [List.getD_eq_getElem?_getD, List.getElem?_map]
 cases Lib.deBruijn64tab[j]? <;> rfl
end Go.Proofs.YtgigccjiblaefaaDoor
namespace Go.Proofs.YtgigccjiblaefaaDoor
open Go Go.RowKit
set_option linter.unusedVariables false
end Go.Proofs.YtgigccjiblaefaaDoor
namespace Go.Proofs.YtgigccjiblaefaaDoor
open Go Go.RowKit
set_option linter.unusedVariables false
end Go.Proofs.YtgigccjiblaefaaDoor
namespace Go.Proofs.YtgigccjiblaefaaDoor
open Go Go.RowKit
set_option linter.unusedVariables false
end Go.Proofs.YtgigccjiblaefaaDoor
namespace Go.Proofs.YtgigccjiblaefaaDoor
open Go Go.RowKit
set_option linter.unusedVariables false
def zeo (x y : Int) : Int := if x < y then -1 else if x = y then 0 else 1
theorem zeD (x y : Int) : zeo x y = 0 ↔ x = y := by unfold zeo; split <;> (try split) <;> omega
def zeC (x : Int) : Int := if x < 0 then -1 else if x = 0 then 0 else 1
def qI (x y : Int) : Int := if 0 ≤ y then x / y else (-x) / (-y)
def rI (x y : Int) : Int := if 0 ≤ y then x % y else -((-x) % (-y))
theorem qI_rI (x y : Int) : qI x y * y + rI x y = x := by
 unfold qI rI
 split
 ·rw [Int.mul_comm]; exact Int.mul_ediv_add_emod x y
 ·have h := Int.mul_ediv_add_emod (-x) (-y)
  rw [Int.neg_mul] at h
  rw [Int.mul_comm]
  omega
theorem zhZ {x y : Int} (hy : y ≠ 0) : (rI x y).natAbs < y.natAbs := by
 unfold rI
 split
 ·have h1 := Int.emod_nonneg x hy
  have h2 := Int.emod_lt_of_pos x (show 0 < y by omega)
  omega
 ·have h1 := Int.emod_nonneg (-x) (show -y ≠ 0 by omega)
  have h2 := Int.emod_lt_of_pos (-x) (show 0 < -y by omega)
  omega
theorem ziA {x y : Int} (hy : y ≠ 0) : rI x y = 0 ∨ (0 < rI x y ∧ 0 < y ∨ rI x y < 0 ∧ y < 0) := by
 unfold rI
 split
 ·have h1 := Int.emod_nonneg x hy
  omega
 ·have h1 := Int.emod_nonneg (-x) (show -y ≠ 0 by omega)
  omega
theorem zhY {x y q r : Int} (hy : y ≠ 0) (h : q * y + r = x) (hr : r = 0 ∨ (0 < r ∧ 0 < y ∨ r < 0 ∧ y < 0)) (hl : r.natAbs < y.natAbs) : q = qI x y ∧ r = rI x y := by
 have h1 := qI_rI x y
 have h2 := zhZ (x := x) hy
 have h3 := ziA (x := x) hy
 have hd : (q - qI x y) * y = rI x y - r := by rw [Int.sub_mul]; omega
 have hq : q - qI x y = 0 := by
  generalize q - qI x y = t at *
  generalize rI x y = r' at *
  rcases Int.lt_trichotomy t 0 with h0 | h0 | h0
  ·exfalso
   rcases Int.lt_trichotomy y 0 with hy0 | hy0 | hy0
   ·have : (-t - 1) * (-y) ≥ 0 := Int.mul_nonneg (by omega) (by omega)
    rw [Int.sub_mul, Int.neg_mul_neg] at this
    omega
   ·omega
   ·have : (-t - 1) * y ≥ 0 := Int.mul_nonneg (by omega) (by omega)
    rw [Int.sub_mul, Int.neg_mul] at this
    omega
  ·exact h0
  ·exfalso
   rcases Int.lt_trichotomy y 0 with hy0 | hy0 | hy0
   ·have : (t - 1) * (-y) ≥ 0 := Int.mul_nonneg (by omega) (by omega)
    rw [Int.sub_mul, Int.mul_neg] at this
    omega
   ·omega
   ·have : (t - 1) * y ≥ 0 := Int.mul_nonneg (by omega) (by omega)
    rw [Int.sub_mul] at this
    omega
 rw [hq, Int.zero_mul] at hd
 omega
end Go.Proofs.YtgigccjiblaefaaDoor
namespace Go.Proofs.YtgigccjiblaefaaDoor
open Go Go.RowKit
set_option linter.unusedVariables false
def zbB (w : World) (x : Nat) (e : Ending) (w' : World) : Prop := ∃ (A : Option Addr) (n c : Nat), e = .returned (.agg #[.slice A n c]) ∧ zae w' x A n c ∧ Below w.heap.size w w'
def zga (w : World) (x y : Nat) (e : Ending) (w' : World) : Prop := ∃ (A : Option Addr) (n c : Nat) (B : Option Addr) (m d : Nat), e = .returned (.tuple #[.agg #[.slice A n c], .agg #[.slice B m d]]) ∧ zae w' x A n c ∧ zae w' y B m d ∧ Below w.heap.size w w'
theorem Sz.gcd {K K' x y : Nat} (h : Sz K x) (h' : Sz K' y) : Sz (K + K') (Nat.gcd x y) := by
 rcases Nat.eq_zero_or_pos x with e | e
 ·rw [e, Nat.gcd_zero_left]; exact h'.up (by omega)
 ·exact (h.of_le (Nat.gcd_le_left y e)).up (by omega)
structure GcdC : Prop where
 of : ∀ (x y : Nat) (A D : Option Addr) (n m c d : Nat) (w : World), zae w x A n c → zae w y D m d → n ≤ 1073741824 → m ≤ 1073741824 → zal w → Calls Tryd.prog 57 #[.agg #[.slice A n c], .agg #[.slice D m d]] w (zbB w (Nat.gcd x y))
 reduce : ∀ (x y : Nat) (A D : Option Addr) (n m c d : Nat) (w : World), zae w x A n c → zae w y D m d → n ≤ 1073741824 → m ≤ 1073741824 → zal w → Calls Tryd.prog 37 #[.agg #[.slice A n c], .agg #[.slice D m d]] w (zga w (x / Nat.gcd x y) (y / Nat.gcd x y))
end Go.Proofs.YtgigccjiblaefaaDoor
