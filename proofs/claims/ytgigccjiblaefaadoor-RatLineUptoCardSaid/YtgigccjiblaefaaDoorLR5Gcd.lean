/- What this claim leans on. -/
import Derived.Test.YtgigccjiblaefaaDoorRows
import Derived.Below
import Derived.BigQuiet
import Derived.BigRegion
import Derived.ChangeArms
import Derived.ChangeOld
import Derived.Deep.AppendLies
import Derived.Deep.CutBlock
import Derived.Deep.DeepCutAuto
import Derived.Deep.Draws
import Derived.Deep.LoopGhost
import Derived.Deep.QuietTactic
import Derived.Deep.RegionHeld3
import Derived.Deep.RegionLaw
import Derived.IntWalk
import Derived.KernelRfl
import Derived.Laws.Bits64b
import Derived.Laws.BytesArg
import Derived.Laws.CopyOwn
import Derived.Laws.Externs
import Derived.Laws.MakeOwn
import Derived.Laws.MathBits
import Derived.Laws.OwnMore
import Derived.Laws.Rows
import Derived.Lib.Hide
import Derived.Lib.Mul64
import Derived.Lib.SliceRun
import Derived.Lib.SmallJoins
import Derived.Lib.TrailingZeros
import Derived.LoopIn
import Derived.LoopNIn
import Derived.LoopTactic
import Derived.Maps.AppendAt
import Derived.OpenShut
import Derived.OrdersHeld
import Derived.OrdersIn
import Derived.Outline
import Derived.OwnWalk
import Derived.OwnWalkIn
import Derived.ProofKit
import Derived.RangeFuncBound
import Derived.RangeFuncBox
import Derived.RangeFuncCalls
import Derived.RangeFuncLeaves
import Derived.RangeFuncNested
import Derived.RegionTactic
import Derived.Shelf.Abstract
import Derived.Shelf.RegionOpen
import Derived.TacticsInMore
import Derived.WalkKit
namespace Go.Proofs.YtgigccjiblaefaaDoor
open Go Go.RowKit
set_option maxRecDepth 100000
set_option linter.unusedVariables false
theorem cop2 {q : Nat} (h : q % 2 ≠ 0) : Nat.gcd 2 q = 1 := by
 have h1 : Nat.gcd 2 q ∣ 2 := Nat.gcd_dvd_left 2 q
 have h2 := Nat.le_of_dvd (by decide) h1
 have h3 : Nat.gcd 2 q ≠ 0 := fun e => by rw [e] at h1; exact absurd (Nat.eq_zero_of_zero_dvd h1) (by decide)
 have h4 : Nat.gcd 2 q ≠ 2 := fun e => h (Nat.mod_eq_zero_of_dvd (by rw [← e]; exact Nat.gcd_dvd_right 2 q))
 omega
theorem zdA {p q : Nat} (hp : p % 2 = 0) (hq : q % 2 ≠ 0) : Nat.gcd (p / 2) q = Nat.gcd p q := by
 have e : p = 2 * (p / 2) := by omega
 have h : Nat.Coprime 2 q := cop2 hq
 rw [show Nat.gcd p q = Nat.gcd (2 * (p / 2)) q from by rw [← e]]
 exact (h.gcd_mul_left_cancel (p / 2)).symm
theorem gcd_take {p q : Nat} (h : q ≤ p) : Nat.gcd (p - q) q = Nat.gcd p q := by
 obtain ⟨s, rfl⟩ : ∃ s, p = q + s := ⟨p - q, by omega⟩
 rw [Nat.add_sub_cancel_left, Nat.gcd_self_add_left]
end Go.Proofs.YtgigccjiblaefaaDoor
