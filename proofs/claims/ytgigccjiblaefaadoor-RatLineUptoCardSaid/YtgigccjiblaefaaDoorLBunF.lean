/- What this claim leans on. -/
import Derived.Test.YtgigccjiblaefaaDoorRows
import Derived.Below
import Derived.BigQuiet
import Derived.ChangeArms
import Derived.ChangeOld
import Derived.Deep.AppendLies
import Derived.Deep.CutBlock
import Derived.Deep.DeepCutAuto
import Derived.Deep.Draws
import Derived.Deep.LoopGhost
import Derived.Deep.QuietTactic
import Derived.Deep.RegionHeld3
import Derived.KernelRfl
import Derived.Laws.Bits64b
import Derived.Laws.BytesArg
import Derived.Laws.Externs
import Derived.Laws.MakeOwn
import Derived.Laws.MathBits
import Derived.Laws.OwnMore
import Derived.Laws.Rows
import Derived.Lib.Hide
import Derived.Lib.Mul64
import Derived.Lib.SliceRun
import Derived.Lib.SmallJoins
import Derived.Lib.TrailingZeros
import Derived.LoopTactic
import Derived.Maps.AppendAt
import Derived.OpenShut
import Derived.Outline
import Derived.OwnWalk
import Derived.ProofKit
import Derived.RegionTactic
import Derived.WalkKit
namespace Go.Proofs.YtgigccjiblaefaaDoor
open Go Go.RowKit
set_option linter.unusedVariables false
def zdq (x y : Int) : Int := if x < y then -1 else if x = y then 0 else 1
theorem zeE (x y : Int) : zdq x y = 0 ↔ x = y := by unfold zdq; split <;> (try split) <;> omega
theorem cmpZ_neg (x y : Int) : zdq y x = -zdq x y := by unfold zdq; split <;> split <;> (try split) <;> omega
def zcN (x : Int) : Int := if x < 0 then -1 else if x = 0 then 0 else 1
theorem zfV (x : Int) : -1 ≤ zcN x ∧ zcN x ≤ 1 := by unfold zcN; split <;> (try split) <;> omega
def qI (x y : Int) : Int := if 0 ≤ y then x / y else (-x) / (-y)
def rI (x y : Int) : Int := if 0 ≤ y then x % y else -((-x) % (-y))
theorem qI_rI (x y : Int) : qI x y * y + rI x y = x := by
 unfold qI rI
 split
 ·rw [Int.mul_comm]; exact Int.mul_ediv_add_emod x y
 ·have h := Int.mul_ediv_add_emod (-x) (-y)
  rw [Int.neg_mul] at h
  rw [Int.mul_comm]
  omega
theorem zil {x y : Int} (hy : y ≠ 0) : (rI x y).natAbs < y.natAbs := by
 unfold rI
 split
 ·have h1 := Int.emod_nonneg x hy
  have h2 := Int.emod_lt_of_pos x (show 0 < y by omega)
  omega
 ·have h1 := Int.emod_nonneg (-x) (show -y ≠ 0 by omega)
  have h2 := Int.emod_lt_of_pos (-x) (show 0 < -y by omega)
  omega
theorem ziw {x y : Int} (hy : y ≠ 0) : rI x y = 0 ∨ (0 < rI x y ∧ 0 < y ∨ rI x y < 0 ∧ y < 0) := by
 unfold rI
 split
 ·have h1 := Int.emod_nonneg x hy
  omega
 ·have h1 := Int.emod_nonneg (-x) (show -y ≠ 0 by omega)
  omega
theorem zhU {x y q r : Int} (hy : y ≠ 0) (h : q * y + r = x) (hr : r = 0 ∨ (0 < r ∧ 0 < y ∨ r < 0 ∧ y < 0)) (hl : r.natAbs < y.natAbs) : q = qI x y ∧ r = rI x y := by
 have h1 := qI_rI x y
 have h2 := zil (x := x) hy
 have h3 := ziw (x := x) hy
 have hd : (q - qI x y) * y = rI x y - r := by rw [Int.sub_mul]; omega
 have hq : q - qI x y = 0 := by
  generalize q - qI x y = t at *
  generalize rI x y = r' at *
  rcases Int.lt_trichotomy t 0 with h0 | h0 | h0
  ·exfalso
   rcases Int.lt_trichotomy y 0 with hy0 | hy0 | hy0
   ·have : (-t - 1) * (-y) ≥ 0 := Int.mul_nonneg (by omega) (by omega)
    rw [Int.sub_mul, Int.neg_mul_neg] at this
    omega
   ·omega
   ·have : (-t - 1) * y ≥ 0 := Int.mul_nonneg (by omega) (by omega)
    rw [Int.sub_mul, Int.neg_mul] at this
    omega
  ·exact h0
  ·exfalso
   rcases Int.lt_trichotomy y 0 with hy0 | hy0 | hy0
   ·have : (t - 1) * (-y) ≥ 0 := Int.mul_nonneg (by omega) (by omega)
    rw [Int.sub_mul, Int.mul_neg] at this
    omega
   ·omega
   ·have : (t - 1) * y ≥ 0 := Int.mul_nonneg (by omega) (by omega)
    rw [Int.sub_mul] at this
    omega
 rw [hq, Int.zero_mul] at hd
 omega
end Go.Proofs.YtgigccjiblaefaaDoor
