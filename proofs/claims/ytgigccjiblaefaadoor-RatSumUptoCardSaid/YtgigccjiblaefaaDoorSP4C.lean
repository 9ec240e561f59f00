/- What this claim leans on. -/
import Derived.Test.YtgigccjiblaefaaDoorSW8Far
import Derived.BigRegion
import Derived.Deep.RegionLaw
import Derived.Laws.CopyOwn
import Derived.LoopIn
import Derived.LoopNIn
import Derived.OrdersIn
import Derived.OwnWalkIn
import Derived.RangeFuncBound
import Derived.RangeFuncBox
import Derived.RangeFuncCalls
import Derived.RangeFuncLeaves
import Derived.RangeFuncNested
import Derived.Shelf.Abstract
import Derived.Shelf.RegionOpen
import Derived.TacticsInMore
namespace Go.Proofs.YtgigccjiblaefaaDoor
open Go Go.RowKit
set_option linter.unusedVariables false
def zbs (w : World) (q r : Nat) (b : Bool) (e : Ending) (w' : World) : Prop := ∃ (A : Option Addr) (n c : Nat) (B : Option Addr) (m d : Nat), e = .returned (.tuple #[.agg #[.slice A n c], .agg #[.slice B m d], .bool b]) ∧ zae w' q A n c ∧ zae w' r B m d ∧ Below w.heap.size w w'
def zcN (w : World) (x : Nat) (b : Bool) (e : Ending) (w' : World) : Prop := ∃ (A : Option Addr) (n c : Nat), e = .returned (.tuple #[.agg #[.slice A n c], .bool b]) ∧ zae w' x A n c ∧ Below w.heap.size w w'
def zef (w : World) (q x : Nat) (b : Bool) (e : Ending) (w' : World) : Prop := ∃ (A : Option Addr) (n c : Nat), e = .returned (.tuple #[.agg #[.slice A n c], .int .u64 (x : Int), .bool b]) ∧ zae w' q A n c ∧ Below w.heap.size w w'
structure QuotC : Prop where
 divMod : ∀ (x y : Nat) (A D : Option Addr) (n m c d : Nat) (w : World), zae w x A n c → zae w y D m d → n ≤ 1073741824 → m ≤ 1073741824 → y ≠ 0 → Calls Tryd.prog 64 #[.agg #[.slice A n c], .agg #[.slice D m d]] w (zbs w (x / y) (x % y) true)
 divModNo : ∀ (x y : Nat) (A D : Option Addr) (n m c d : Nat) (w : World), zae w x A n c → zae w y D m d → n ≤ 1073741824 → m ≤ 1073741824 → y = 0 → Calls Tryd.prog 64 #[.agg #[.slice A n c], .agg #[.slice D m d]] w (zbs w 0 0 false)
 div : ∀ (x y : Nat) (A D : Option Addr) (n m c d : Nat) (w : World), zae w x A n c → zae w y D m d → n ≤ 1073741824 → m ≤ 1073741824 → y ≠ 0 → Calls Tryd.prog 58 #[.agg #[.slice A n c], .agg #[.slice D m d]] w (zcN w (x / y) true)
 mod : ∀ (x y : Nat) (A D : Option Addr) (n m c d : Nat) (w : World), zae w x A n c → zae w y D m d → n ≤ 1073741824 → m ≤ 1073741824 → y ≠ 0 → Calls Tryd.prog 82 #[.agg #[.slice A n c], .agg #[.slice D m d]] w (zcN w (x % y) true)
 byWord : ∀ (x a : Nat) (A : Option Addr) (n c : Nat) (w : World), zae w x A n c → n ≤ 1073741824 → a < 18446744073709551616 → a ≠ 0 → Calls Tryd.prog 77 #[.agg #[.slice A n c], .int .u64 a] w (zef w (x / a) (x % a) true)
 byWordNo : ∀ (x : Nat) (A : Option Addr) (n c : Nat) (w : World), zae w x A n c → n ≤ 1073741824 → Calls Tryd.prog 77 #[.agg #[.slice A n c], .int .u64 0] w (zef w 0 0 false)
set_option maxRecDepth 100000
theorem cop2 {q : Nat} (h : q % 2 ≠ 0) : Nat.gcd 2 q = 1 := by
 have h1 : Nat.gcd 2 q ∣ 2 := Nat.gcd_dvd_left 2 q
 have h2 := Nat.le_of_dvd (by decide) h1
 have h3 : Nat.gcd 2 q ≠ 0 := fun e => by rw [e] at h1; exact absurd (Nat.eq_zero_of_zero_dvd h1) (by decide)
 have h4 : Nat.gcd 2 q ≠ 2 := fun e => h (Nat.mod_eq_zero_of_dvd (by rw [← e]; exact Nat.gcd_dvd_right 2 q))
 omega
theorem zdx {p q : Nat} (hp : p % 2 = 0) (hq : q % 2 ≠ 0) : Nat.gcd (p / 2) q = Nat.gcd p q := by
 have e : p = 2 * (p / 2) := by omega
 have h : Nat.Coprime 2 q := cop2 hq
 rw [show Nat.gcd p q = Nat.gcd (2 * (p / 2)) q from by rw [← e]]
 exact (h.gcd_mul_left_cancel (p / 2)).symm
theorem gcd_take {p q : Nat} (h : q ≤ p) : Nat.gcd (p - q) q = Nat.gcd p q := by
 obtain ⟨s, rfl⟩ : ∃ s, p = q + s := ⟨p - q, by omega⟩
 rw [Nat.add_sub_cancel_left, Nat.gcd_self_add_left]
theorem zeq : (Rat.divInt 6 (-4)).num = -3 := by rw [Rat.num_divInt]; decide
theorem zfq : (Rat.divInt 6 (-4)).den = 2 := by rw [Rat.den_divInt]; decide
theorem aw_ne : Rat.divInt 6 (-4) ≠ 0 := fun h => by
 have := congrArg Rat.num h
 rw [zeq] at this
 exact absurd this (by decide)
theorem aw_floor : (Rat.divInt 6 (-4)).floor = -2 := by rw [Rat.floor_def, zeq, zfq]; decide
theorem aw_ceil : (Rat.divInt 6 (-4)).ceil = -1 := by rw [Rat.ceil_eq_neg_floor_neg, Rat.floor_def, Rat.neg_num, Rat.neg_den, zeq, zfq]; decide
theorem aw_inv : (Rat.divInt 6 (-4))⁻¹.num = -2 := by rw [Rat.num_inv, zeq, zfq]; decide
theorem aw_sum : Rat.divInt 1 2 + Rat.divInt 1 3 = Rat.divInt 5 6 := by
 rw [Rat.divInt_add_divInt _ _ (by decide) (by decide)]; rfl
theorem aw_bits : ((bitLen (Rat.divInt 6 (-4)).num.natAbs + bitLen (Rat.divInt 6 (-4)).den : Nat) : Int) = 4 := by rw [zeq, zfq]; decide
theorem aw_dg : dg 18446744073709551616 (Rat.divInt 6 (-4)).den = [2] := by rw [zfq]; exact zii (by decide) (by decide)
end Go.Proofs.YtgigccjiblaefaaDoor
