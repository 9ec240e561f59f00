/- What this claim leans on. -/
import Derived.Test.YtgigccjiblaefaaGreatDoorABunN
import Derived.Test.YtgigccjiblaefaaGreatDoorABunF
namespace Go.Proofs.YtgigccjiblaefaaGreatDoor
open Go Go.RowKit
set_option linter.unusedVariables false
theorem zdK (a : Int) (g : Nat) : (a / (g : Int)).natAbs ≤ a.natAbs := by
 rcases Nat.eq_zero_or_pos g with rfl | hg
 ·simp
 ·exact Int.natAbs_ediv_le_natAbs a g
theorem zie (a b : Rat) : (a + b).num.natAbs ≤ a.num.natAbs * b.den + b.num.natAbs * a.den := by
 rw [Rat.num_add]
 refine Nat.le_trans (zdK _ _) (Nat.le_trans (Int.natAbs_add_le _ _) ?_)
 rw [Int.natAbs_mul, Int.natAbs_mul, Int.natAbs_natCast, Int.natAbs_natCast]
 exact Nat.le_refl _
theorem zis (a b : Rat) : (a + b).den ≤ a.den * b.den := by rw [Rat.den_add]; exact Nat.div_le_self _ _
theorem ziq (a b : Rat) : (a * b).num.natAbs ≤ a.num.natAbs * b.num.natAbs := by
 rw [Rat.num_mul]
 refine Nat.le_trans (zdK _ _) ?_
 rw [Int.natAbs_mul]
 exact Nat.le_refl _
theorem ziB (a b : Rat) : (a * b).den ≤ a.den * b.den := by rw [Rat.den_mul]; exact Nat.div_le_self _ _
theorem zhR (a : Rat) : (a⁻¹).num.natAbs ≤ a.den := by
 rw [Rat.num_inv, Int.natAbs_mul, Int.natAbs_natCast]
 by_cases h : a.num = 0
 ·simp [h]
 ·rw [Int.natAbs_sign_of_ne_zero h, Nat.one_mul]; exact Nat.le_refl _
theorem zfx (p q : Int) : (Rat.divInt p q).num.natAbs ≤ p.natAbs := by
 rw [Rat.num_divInt]
 refine Nat.le_trans (zdK _ _) ?_
 rw [Int.natAbs_mul]
 by_cases h : q = 0
 ·simp [h]
 ·rw [Int.natAbs_sign_of_ne_zero h, Nat.one_mul]; exact Nat.le_refl _
def LtQ (b : Nat) (r : Rat) : Prop := r.num.natAbs < b ∧ r.den < b
theorem LtQ.up {b b' : Nat} {r : Rat} (h : LtQ b r) (hb : b ≤ b') : LtQ b' r := ⟨Nat.lt_of_lt_of_le h.1 hb, Nat.lt_of_lt_of_le h.2 hb⟩
theorem LtQ.pos {b : Nat} {r : Rat} (h : LtQ b r) : 1 < b := Nat.lt_of_le_of_lt (Nat.pos_of_ne_zero r.den_nz) h.2
theorem LtQ.add {b b' : Nat} {r s : Rat} (h : LtQ b r) (h' : LtQ b' s) : LtQ (2 * (b * b')) (r + s) := by
 have h1 : r.num.natAbs * s.den < b * b' := Nat.mul_lt_mul'' h.1 h'.2
 have h2 : s.num.natAbs * r.den < b * b' := by rw [Nat.mul_comm b b']; exact Nat.mul_lt_mul'' h'.1 h.2
 have h3 : r.den * s.den < b * b' := Nat.mul_lt_mul'' h.2 h'.2
 have h4 := zie r s
 have h5 := zis r s
 exact ⟨by omega, by omega⟩
theorem LtQ.mul {b b' : Nat} {r s : Rat} (h : LtQ b r) (h' : LtQ b' s) : LtQ (b * b') (r * s) :=
 ⟨Nat.lt_of_le_of_lt (ziq r s) (Nat.mul_lt_mul'' h.1 h'.1), Nat.lt_of_le_of_lt (ziB r s) (Nat.mul_lt_mul'' h.2 h'.2)⟩
theorem LtQ.neg {b : Nat} {r : Rat} (h : LtQ b r) : LtQ b (-r) := ⟨by rw [Rat.neg_num, Int.natAbs_neg]; exact h.1, h.2⟩
theorem LtQ.sub {b b' : Nat} {r s : Rat} (h : LtQ b r) (h' : LtQ b' s) : LtQ (2 * (b * b')) (r - s) := by rw [Rat.sub_eq_add_neg]; exact h.add h'.neg
theorem LtQ.inv {b : Nat} {r : Rat} (h : LtQ b r) : LtQ b r⁻¹ := by
 refine ⟨Nat.lt_of_le_of_lt (zhR r) h.2, ?_⟩
 rw [Rat.den_inv]
 split
 ·exact h.pos
 ·exact h.1
theorem LtQ.div {b b' : Nat} {r s : Rat} (h : LtQ b r) (h' : LtQ b' s) : LtQ (b * b') (r / s) := by rw [Rat.div_def]; exact h.mul h'.inv
theorem LtQ.made {b : Nat} {p q : Int} (hp : p.natAbs < b) (hq : q.natAbs < b) (hb : 1 < b) : LtQ b (Rat.divInt p q) := by
 refine ⟨Nat.lt_of_le_of_lt (zfx p q) hp, ?_⟩
 rw [Rat.den_divInt]
 split
 ·exact hb
 ·exact Nat.lt_of_le_of_lt (Nat.div_le_self _ _) hq
theorem LtQ.whole {b : Nat} {z : Int} (hz : z.natAbs < b) (hb : 1 < b) : LtQ b (z : Rat) := ⟨by rw [Rat.num_intCast]; exact hz, by rw [Rat.den_intCast]; exact hb⟩
def zbu (r s : Rat) : Int := if r < s then -1 else if r = s then 0 else 1
theorem zdJ (r s : Rat) : zbu r s = zcI (r.num * s.den) (s.num * r.den) := by
 unfold zbu zcI
 by_cases h1 : r < s
 ·rw [if_pos h1, if_pos ((Rat.lt_iff r s).1 h1)]
 ·rw [if_neg h1, if_neg (fun h => h1 ((Rat.lt_iff r s).2 h))]
  by_cases h2 : r = s
  ·rw [if_pos h2, if_pos (Rat.eq_iff_mul_eq_mul.1 h2)]
  ·rw [if_neg h2, if_neg (fun h => h2 (Rat.eq_iff_mul_eq_mul.2 h))]
theorem cmpQ_lt (r s : Rat) : zbu r s < 0 ↔ r < s := by
 unfold zbu
 by_cases h1 : r < s
 ·simp [h1]
 ·rw [if_neg h1]
  by_cases h2 : r = s <;> simp [h1, h2]
theorem cmpQ_eq (r s : Rat) : zbu r s = 0 ↔ r = s := by
 unfold zbu
 by_cases h1 : r < s
 ·rw [if_pos h1]
  constructor
  ·intro h; omega
  ·intro h; exact absurd h (Rat.ne_of_lt h1)
 ·rw [if_neg h1]
  by_cases h2 : r = s <;> simp [h2]
theorem ziK (r s : Rat) : 0 < zbu r s ↔ s < r := by
 unfold zbu
 by_cases h1 : r < s
 ·rw [if_pos h1]
  constructor
  ·intro h; omega
  ·intro h; exact absurd (Rat.le_of_lt h) (Rat.not_le.2 h1)
 ·rw [if_neg h1]
  by_cases h2 : r = s
  ·rw [if_pos h2, h2]
   constructor
   ·intro h; omega
   ·intro h; exact absurd h Rat.lt_irrefl
  ·rw [if_neg h2]
   constructor
   ·intro _; exact Rat.lt_of_le_of_ne (Rat.not_lt.1 h1) (fun e => h2 e.symm)
   ·intro _; omega
theorem zdY (r s : Rat) : zbu s r = -zbu r s := by
 rw [zdJ, zdJ, cmpZ_neg]
def sgnQ (r : Rat) : Int := zet r.num
theorem zgr (r s : Rat) : zbu r s ≤ 0 ↔ r ≤ s := by
 constructor
 ·intro h; exact Rat.not_lt.1 (fun h' => by have := (ziK r s).2 h'; omega)
 ·intro h; exact Int.not_lt.1 (fun h' => absurd h (Rat.not_le.2 ((ziK r s).1 h')))
def minQ (r s : Rat) : Rat := if zbu r s ≤ 0 then r else s
def zdd (r s : Rat) : Rat := if zbu r s ≤ 0 then s else r
theorem zjc (r : Rat) : r.abs = zdd r (-r) := by
 unfold zdd
 by_cases h : zbu r (-r) ≤ 0
 ·rw [if_pos h]
  have h1 := (zgr _ _).1 h
  by_cases h0 : 0 ≤ r
  ·have h2 : -r ≤ 0 := by have := Rat.neg_le_neg h0; rwa [Rat.neg_zero] at this
   have h3 := Rat.le_antisymm (Rat.le_trans h1 h2) h0
   subst h3; rfl
  ·exact Rat.abs_of_nonpos (Rat.le_of_lt (Rat.not_le.1 h0))
 ·rw [if_neg h]
  by_cases h0 : 0 ≤ r
  ·exact Rat.abs_of_nonneg h0
  ·exfalso
   have h1 : r ≤ 0 := Rat.le_of_lt (Rat.not_le.1 h0)
   have h2 : 0 ≤ -r := by have := Rat.neg_le_neg h1; rwa [Rat.neg_zero] at this
   exact h ((zgr _ _).2 (Rat.le_trans h1 h2))
theorem zbL (r : Rat) : r * (r.den : Rat) = (r.num : Rat) := by
 have h0 : (r.den : Rat) ≠ 0 := fun h => r.den_nz (by
  have := congrArg Rat.num h
  rw [Rat.num_natCast] at this
  exact Int.ofNat.inj this)
 have h1 : r = (r.num : Rat) / ((r.den : Int) : Rat) := by
  have := Rat.num_divInt_den r
  rw [Rat.divInt_eq_div] at this
  exact this.symm
 have h2 : ((r.den : Int) : Rat) = (r.den : Rat) := rfl
 rw [h2] at h1
 generalize r.num = p at *
 generalize r.den = q at *
 rw [h1, Rat.div_mul_cancel h0]
theorem ziO (r : Rat) : r.den = 1 ↔ (r.num : Rat) = r := by
 constructor
 ·intro h
  exact Rat.ext (by rw [Rat.num_intCast]) (by rw [Rat.den_intCast, h])
 ·intro h
  have := congrArg Rat.den h
  rw [Rat.den_intCast] at this
  exact this.symm
theorem zdL (r : Rat) : ((r.floor : Int) : Rat) = r ↔ r.den = 1 := by
 constructor
 ·intro h
  have := congrArg Rat.den h
  rw [Rat.den_intCast] at this
  exact this.symm
 ·intro h
  have h1 : r.floor = r.num := by rw [Rat.floor_def, h]; simp
  rw [h1]
  exact (ziO r).1 h
theorem floor_qI (r : Rat) : r.floor = qI r.num (r.den : Int) := by
 unfold qI
 rw [if_pos (by omega), Rat.floor_def]
theorem zew (r : Rat) : zbu ((r.floor : Int) : Rat) r ≤ 0 := (zgr _ _).2 (Rat.floor_le r)
theorem zex (r : Rat) : zbu r (((r.floor : Int) : Rat) + 1) < 0 := by
 refine (cmpQ_lt _ _).2 ?_
 have := Rat.lt_floor_add_one r
 rwa [Rat.intCast_add] at this
theorem zgS (r : Rat) : ((r.ceil : Int) : Rat) = ((r.floor : Int) : Rat) + (if r.den = 1 then 0 else 1) := by
 by_cases h : r.den = 1
 ·rw [if_pos h, Rat.add_zero]
  have e := (ziO r).1 h
  rw [← e, Rat.ceil_intCast, Rat.floor_intCast]
 ·rw [if_neg h]
  have h1 : r.ceil = r.floor + 1 := by
   have a : r.ceil ≤ r.floor + 1 := Rat.ceil_le_iff.2 (Rat.le_of_lt (Rat.lt_floor_add_one r))
   have b : r.floor < r.ceil := Rat.lt_ceil_iff.2 (Rat.lt_of_le_of_ne (Rat.floor_le r) (fun e => h ((zdL r).1 e)))
   omega
  rw [h1, Rat.intCast_add]
  rfl
theorem made_num (p q : Int) (hq : q ≠ 0) : (Rat.divInt p q).num.natAbs = p.natAbs / Nat.gcd p.natAbs q.natAbs := by
 rw [Rat.num_divInt, Int.gcd]
 have hd : (Nat.gcd q.natAbs p.natAbs : Int) ∣ q.sign * p := Int.dvd_trans (Int.ofNat_dvd_left.2 (Nat.gcd_dvd_right ..)) (Int.dvd_mul_left ..)
 rw [Int.natAbs_ediv_of_dvd hd, Int.natAbs_mul, Int.natAbs_sign_of_ne_zero hq, Nat.one_mul, Int.natAbs_natCast, Nat.gcd_comm]
theorem made_den (p q : Int) (hq : q ≠ 0) : (Rat.divInt p q).den = q.natAbs / Nat.gcd p.natAbs q.natAbs := by
 rw [Rat.den_divInt, if_neg hq, Int.gcd, Nat.gcd_comm]
theorem zjM (p q : Int) (hq : q ≠ 0) : (Rat.divInt p q).num < 0 ↔ (p < 0 ∧ 0 < q ∨ 0 < p ∧ q < 0) := by
 rw [Rat.num_divInt]
 have hg0 : 0 < (q.gcd p : Int) := by
  have : 0 < q.gcd p := Int.gcd_pos_of_ne_zero_left p hq
  omega
 have e : q.sign * p / (q.gcd p : Int) < 0 ↔ q.sign * p < 0 := by
  constructor
  ·intro h
   refine Int.not_le.1 fun h1 => ?_
   have := Int.ediv_nonneg h1 (Int.le_of_lt hg0)
   omega
  ·intro h
   exact Int.ediv_neg_of_neg_of_pos h hg0
 rw [e]
 rcases Int.lt_or_gt_of_ne hq with h | h
 ·rw [Int.sign_eq_neg_one_of_neg h]; omega
 ·rw [Int.sign_eq_one_of_pos h]; omega
end Go.Proofs.YtgigccjiblaefaaGreatDoor
