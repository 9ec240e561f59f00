/- What this claim leans on. -/
import Derived.Test.YtgigccjiblaefaaGreatDoorBBunN
import Derived.Laws.BytesArg
namespace Go.Proofs.YtgigccjiblaefaaGreatDoor
open Go Go.RowKit
set_option linter.unusedVariables false
def zbG (w : World) (q r : Nat) (b : Bool) (e : Ending) (w' : World) : Prop := ∃ (A : Option Addr) (n c : Nat) (B : Option Addr) (m d : Nat), e = .returned (.tuple #[.agg #[.slice A n c], .agg #[.slice B m d], .bool b]) ∧ zag w' q A n c ∧ zag w' r B m d ∧ Below w.heap.size w w'
def zdd (w : World) (x : Nat) (b : Bool) (e : Ending) (w' : World) : Prop := ∃ (A : Option Addr) (n c : Nat), e = .returned (.tuple #[.agg #[.slice A n c], .bool b]) ∧ zag w' x A n c ∧ Below w.heap.size w w'
def zeI (w : World) (q x : Nat) (b : Bool) (e : Ending) (w' : World) : Prop := ∃ (A : Option Addr) (n c : Nat), e = .returned (.tuple #[.agg #[.slice A n c], .int .u64 (x : Int), .bool b]) ∧ zag w' q A n c ∧ Below w.heap.size w w'
structure QuotC : Prop where
 divMod : ∀ (x y : Nat) (A D : Option Addr) (n m c d : Nat) (w : World), zag w x A n c → zag w y D m d → n ≤ 1073741824 → m ≤ 1073741824 → y ≠ 0 → Calls Tryz.prog 110 #[.agg #[.slice A n c], .agg #[.slice D m d]] w (zbG w (x / y) (x % y) true)
 divModNo : ∀ (x y : Nat) (A D : Option Addr) (n m c d : Nat) (w : World), zag w x A n c → zag w y D m d → n ≤ 1073741824 → m ≤ 1073741824 → y = 0 → Calls Tryz.prog 110 #[.agg #[.slice A n c], .agg #[.slice D m d]] w (zbG w 0 0 false)
 div : ∀ (x y : Nat) (A D : Option Addr) (n m c d : Nat) (w : World), zag w x A n c → zag w y D m d → n ≤ 1073741824 → m ≤ 1073741824 → y ≠ 0 → Calls Tryz.prog 95 #[.agg #[.slice A n c], .agg #[.slice D m d]] w (zdd w (x / y) true)
 mod : ∀ (x y : Nat) (A D : Option Addr) (n m c d : Nat) (w : World), zag w x A n c → zag w y D m d → n ≤ 1073741824 → m ≤ 1073741824 → y ≠ 0 → Calls Tryz.prog 131 #[.agg #[.slice A n c], .agg #[.slice D m d]] w (zdd w (x % y) true)
 byWord : ∀ (x a : Nat) (A : Option Addr) (n c : Nat) (w : World), zag w x A n c → n ≤ 1073741824 → a < 18446744073709551616 → a ≠ 0 → Calls Tryz.prog 126 #[.agg #[.slice A n c], .int .u64 a] w (zeI w (x / a) (x % a) true)
 byWordNo : ∀ (x : Nat) (A : Option Addr) (n c : Nat) (w : World), zag w x A n c → n ≤ 1073741824 → Calls Tryz.prog 126 #[.agg #[.slice A n c], .int .u64 0] w (zeI w 0 0 false)
def zeV (x y : Int) : Int := if x < y then -1 else if x = y then 0 else 1
theorem zfq (x y : Int) : zeV x y = 0 ↔ x = y := by unfold zeV; split <;> (try split) <;> omega
def zcX (x : Int) : Int := if x < 0 then -1 else if x = 0 then 0 else 1
theorem sgnZ_eq (x : Int) : zcX x = 0 ↔ x = 0 := by unfold zcX; split <;> (try split) <;> omega
def qI (x y : Int) : Int := if 0 ≤ y then x / y else (-x) / (-y)
def rI (x y : Int) : Int := if 0 ≤ y then x % y else -((-x) % (-y))
theorem qI_rI (x y : Int) : qI x y * y + rI x y = x := by
 unfold qI rI
 split
 ·rw [Int.mul_comm]; exact Int.mul_ediv_add_emod x y
 ·have h := Int.mul_ediv_add_emod (-x) (-y)
  rw [Int.neg_mul] at h
  rw [Int.mul_comm]
  omega
theorem zjg {x y : Int} (hy : y ≠ 0) : (rI x y).natAbs < y.natAbs := by
 unfold rI
 split
 ·have h1 := Int.emod_nonneg x hy
  have h2 := Int.emod_lt_of_pos x (show 0 < y by omega)
  omega
 ·have h1 := Int.emod_nonneg (-x) (show -y ≠ 0 by omega)
  have h2 := Int.emod_lt_of_pos (-x) (show 0 < -y by omega)
  omega
theorem zjY {x y : Int} (hy : y ≠ 0) : rI x y = 0 ∨ (0 < rI x y ∧ 0 < y ∨ rI x y < 0 ∧ y < 0) := by
 unfold rI
 split
 ·have h1 := Int.emod_nonneg x hy
  omega
 ·have h1 := Int.emod_nonneg (-x) (show -y ≠ 0 by omega)
  omega
theorem ziQ {x y q r : Int} (hy : y ≠ 0) (h : q * y + r = x) (hr : r = 0 ∨ (0 < r ∧ 0 < y ∨ r < 0 ∧ y < 0)) (hl : r.natAbs < y.natAbs) : q = qI x y ∧ r = rI x y := by
 have h1 := qI_rI x y
 have h2 := zjg (x := x) hy
 have h3 := zjY (x := x) hy
 have hd : (q - qI x y) * y = rI x y - r := by rw [Int.sub_mul]; omega
 have hq : q - qI x y = 0 := by
  generalize q - qI x y = t at *
  generalize rI x y = r' at *
  rcases Int.lt_trichotomy t 0 with h0 | h0 | h0
  ·exfalso
   rcases Int.lt_trichotomy y 0 with hy0 | hy0 | hy0
   ·have : (-t - 1) * (-y) ≥ 0 := Int.mul_nonneg (by omega) (by omega)
    rw [Int.sub_mul, Int.neg_mul_neg] at this
    omega
   ·omega
   ·have : (-t - 1) * y ≥ 0 := Int.mul_nonneg (by omega) (by omega)
    rw [Int.sub_mul, Int.neg_mul] at this
    omega
  ·exact h0
  ·exfalso
   rcases Int.lt_trichotomy y 0 with hy0 | hy0 | hy0
   ·have : (t - 1) * (-y) ≥ 0 := Int.mul_nonneg (by omega) (by omega)
    rw [Int.sub_mul, Int.mul_neg] at this
    omega
   ·omega
   ·have : (t - 1) * y ≥ 0 := Int.mul_nonneg (by omega) (by omega)
    rw [Int.sub_mul] at this
    omega
 rw [hq, Int.zero_mul] at hd
 omega
theorem zed (a : Int) (g : Nat) : (a / (g : Int)).natAbs ≤ a.natAbs := by
 rcases Nat.eq_zero_or_pos g with rfl | hg
 ·simp
 ·exact Int.natAbs_ediv_le_natAbs a g
theorem ziV (a b : Rat) : (a + b).num.natAbs ≤ a.num.natAbs * b.den + b.num.natAbs * a.den := by
 rw [Rat.num_add]
 refine Nat.le_trans (zed _ _) (Nat.le_trans (Int.natAbs_add_le _ _) ?_)
 rw [Int.natAbs_mul, Int.natAbs_mul, Int.natAbs_natCast, Int.natAbs_natCast]
 exact Nat.le_refl _
theorem zjK (a b : Rat) : (a + b).den ≤ a.den * b.den := by rw [Rat.den_add]; exact Nat.div_le_self _ _
theorem zjm (a b : Rat) : (a * b).num.natAbs ≤ a.num.natAbs * b.num.natAbs := by
 rw [Rat.num_mul]
 refine Nat.le_trans (zed _ _) ?_
 rw [Int.natAbs_mul]
 exact Nat.le_refl _
theorem zjt (a b : Rat) : (a * b).den ≤ a.den * b.den := by rw [Rat.den_mul]; exact Nat.div_le_self _ _
theorem zjF (a : Rat) : (a⁻¹).num.natAbs ≤ a.den := by
 rw [Rat.num_inv, Int.natAbs_mul, Int.natAbs_natCast]
 by_cases h : a.num = 0
 ·simp [h]
 ·rw [Int.natAbs_sign_of_ne_zero h, Nat.one_mul]; exact Nat.le_refl _
theorem zgi (p q : Int) : (Rat.divInt p q).num.natAbs ≤ p.natAbs := by
 rw [Rat.num_divInt]
 refine Nat.le_trans (zed _ _) ?_
 rw [Int.natAbs_mul]
 by_cases h : q = 0
 ·simp [h]
 ·rw [Int.natAbs_sign_of_ne_zero h, Nat.one_mul]; exact Nat.le_refl _
def LtQ (b : Nat) (r : Rat) : Prop := r.num.natAbs < b ∧ r.den < b
theorem LtQ.up {b b' : Nat} {r : Rat} (h : LtQ b r) (hb : b ≤ b') : LtQ b' r := ⟨Nat.lt_of_lt_of_le h.1 hb, Nat.lt_of_lt_of_le h.2 hb⟩
theorem LtQ.pos {b : Nat} {r : Rat} (h : LtQ b r) : 1 < b := Nat.lt_of_le_of_lt (Nat.pos_of_ne_zero r.den_nz) h.2
theorem LtQ.add {b b' : Nat} {r s : Rat} (h : LtQ b r) (h' : LtQ b' s) : LtQ (2 * (b * b')) (r + s) := by
 have h1 : r.num.natAbs * s.den < b * b' := Nat.mul_lt_mul'' h.1 h'.2
 have h2 : s.num.natAbs * r.den < b * b' := by rw [Nat.mul_comm b b']; exact Nat.mul_lt_mul'' h'.1 h.2
 have h3 : r.den * s.den < b * b' := Nat.mul_lt_mul'' h.2 h'.2
 have h4 := ziV r s
 have h5 := zjK r s
 exact ⟨by omega, by omega⟩
theorem LtQ.mul {b b' : Nat} {r s : Rat} (h : LtQ b r) (h' : LtQ b' s) : LtQ (b * b') (r * s) :=
 ⟨Nat.lt_of_le_of_lt (zjm r s) (Nat.mul_lt_mul'' h.1 h'.1), Nat.lt_of_le_of_lt (zjt r s) (Nat.mul_lt_mul'' h.2 h'.2)⟩
theorem LtQ.neg {b : Nat} {r : Rat} (h : LtQ b r) : LtQ b (-r) := ⟨by rw [Rat.neg_num, Int.natAbs_neg]; exact h.1, h.2⟩
theorem LtQ.inv {b : Nat} {r : Rat} (h : LtQ b r) : LtQ b r⁻¹ := by
 refine ⟨Nat.lt_of_le_of_lt (zjF r) h.2, ?_⟩
 rw [Rat.den_inv]
 split
 ·exact h.pos
 ·exact h.1
theorem LtQ.div {b b' : Nat} {r s : Rat} (h : LtQ b r) (h' : LtQ b' s) : LtQ (b * b') (r / s) := by rw [Rat.div_def]; exact h.mul h'.inv
theorem LtQ.made {b : Nat} {p q : Int} (hp : p.natAbs < b) (hq : q.natAbs < b) (hb : 1 < b) : LtQ b (Rat.divInt p q) := by
 refine ⟨Nat.lt_of_le_of_lt (zgi p q) hp, ?_⟩
 rw [Rat.den_divInt]
 split
 ·exact hb
 ·exact Nat.lt_of_le_of_lt (Nat.div_le_self _ _) hq
def cmpQ (r s : Rat) : Int := if r < s then -1 else if r = s then 0 else 1
theorem zjy (r s : Rat) : cmpQ r s = zeV (r.num * s.den) (s.num * r.den) := by
 unfold cmpQ zeV
 by_cases h1 : r < s
 ·rw [if_pos h1, if_pos ((Rat.lt_iff r s).1 h1)]
 ·rw [if_neg h1, if_neg (fun h => h1 ((Rat.lt_iff r s).2 h))]
  by_cases h2 : r = s
  ·rw [if_pos h2, if_pos (Rat.eq_iff_mul_eq_mul.1 h2)]
  ·rw [if_neg h2, if_neg (fun h => h2 (Rat.eq_iff_mul_eq_mul.2 h))]
def sgnQ (r : Rat) : Int := zcX r.num
def minQ (r s : Rat) : Rat := if cmpQ r s ≤ 0 then r else s
def maxQ (r s : Rat) : Rat := if cmpQ r s ≤ 0 then s else r
theorem floor_qI (r : Rat) : r.floor = qI r.num (r.den : Int) := by
 unfold qI
 rw [if_pos (by omega), Rat.floor_def]
theorem zif (p q : Int) (hq : q ≠ 0) : (Rat.divInt p q).num.natAbs = p.natAbs / Nat.gcd p.natAbs q.natAbs := by
 rw [Rat.num_divInt, Int.gcd]
 have hd : (Nat.gcd q.natAbs p.natAbs : Int) ∣ q.sign * p := Int.dvd_trans (Int.ofNat_dvd_left.2 (Nat.gcd_dvd_right ..)) (Int.dvd_mul_left ..)
 rw [Int.natAbs_ediv_of_dvd hd, Int.natAbs_mul, Int.natAbs_sign_of_ne_zero hq, Nat.one_mul, Int.natAbs_natCast, Nat.gcd_comm]
theorem ziz (p q : Int) (hq : q ≠ 0) : (Rat.divInt p q).den = q.natAbs / Nat.gcd p.natAbs q.natAbs := by
 rw [Rat.den_divInt, if_neg hq, Int.gcd, Nat.gcd_comm]
theorem zgK (p q : Int) (hq : q ≠ 0) : (Rat.divInt p q).num < 0 ↔ (p < 0 ∧ 0 < q ∨ 0 < p ∧ q < 0) := by
 rw [Rat.num_divInt]
 have hg0 : 0 < (q.gcd p : Int) := by
  have : 0 < q.gcd p := Int.gcd_pos_of_ne_zero_left p hq
  omega
 have e : q.sign * p / (q.gcd p : Int) < 0 ↔ q.sign * p < 0 := by
  constructor
  ·intro h
   refine Int.not_le.1 fun h1 => ?_
   have := Int.ediv_nonneg h1 (Int.le_of_lt hg0)
   omega
  ·intro h
   exact Int.ediv_neg_of_neg_of_pos h hg0
 rw [e]
 rcases Int.lt_or_gt_of_ne hq with h | h
 ·rw [Int.sign_eq_neg_one_of_neg h]; omega
 ·rw [Int.sign_eq_one_of_pos h]; omega
end Go.Proofs.YtgigccjiblaefaaGreatDoor
