/- What this claim leans on. -/
import Derived.Test.YtgigccjiblaefaaDoorSUArgs2
namespace Go.Proofs.YtgigccjiblaefaaDoor
open Go Go.RowKit
set_option linter.unusedVariables false
theorem zdA (a : Int) (g : Nat) : (a / (g : Int)).natAbs ≤ a.natAbs := by
 rcases Nat.eq_zero_or_pos g with rfl | hg
 ·simp
 ·exact Int.natAbs_ediv_le_natAbs a g
theorem zir (a b : Rat) : (a + b).num.natAbs ≤ a.num.natAbs * b.den + b.num.natAbs * a.den := by
 rw [Rat.num_add]
 refine Nat.le_trans (zdA _ _) (Nat.le_trans (Int.natAbs_add_le _ _) ?_)
 rw [Int.natAbs_mul, Int.natAbs_mul, Int.natAbs_natCast, Int.natAbs_natCast]
 exact Nat.le_refl _
theorem zie (a b : Rat) : (a + b).den ≤ a.den * b.den := by rw [Rat.den_add]; exact Nat.div_le_self _ _
theorem ziq (a b : Rat) : (a * b).num.natAbs ≤ a.num.natAbs * b.num.natAbs := by
 rw [Rat.num_mul]
 refine Nat.le_trans (zdA _ _) ?_
 rw [Int.natAbs_mul]
 exact Nat.le_refl _
theorem zhJ (a b : Rat) : (a * b).den ≤ a.den * b.den := by rw [Rat.den_mul]; exact Nat.div_le_self _ _
theorem zhW (a : Rat) : (a⁻¹).num.natAbs ≤ a.den := by
 rw [Rat.num_inv, Int.natAbs_mul, Int.natAbs_natCast]
 by_cases h : a.num = 0
 ·simp [h]
 ·rw [Int.natAbs_sign_of_ne_zero h, Nat.one_mul]; exact Nat.le_refl _
theorem zft (p q : Int) : (Rat.divInt p q).num.natAbs ≤ p.natAbs := by
 rw [Rat.num_divInt]
 refine Nat.le_trans (zdA _ _) ?_
 rw [Int.natAbs_mul]
 by_cases h : q = 0
 ·simp [h]
 ·rw [Int.natAbs_sign_of_ne_zero h, Nat.one_mul]; exact Nat.le_refl _
def LtQ (b : Nat) (r : Rat) : Prop := r.num.natAbs < b ∧ r.den < b
theorem LtQ.up {b b' : Nat} {r : Rat} (h : LtQ b r) (hb : b ≤ b') : LtQ b' r := ⟨Nat.lt_of_lt_of_le h.1 hb, Nat.lt_of_lt_of_le h.2 hb⟩
theorem LtQ.pos {b : Nat} {r : Rat} (h : LtQ b r) : 1 < b := Nat.lt_of_le_of_lt (Nat.pos_of_ne_zero r.den_nz) h.2
theorem LtQ.add {b b' : Nat} {r s : Rat} (h : LtQ b r) (h' : LtQ b' s) : LtQ (2 * (b * b')) (r + s) := by
 have h1 : r.num.natAbs * s.den < b * b' := Nat.mul_lt_mul'' h.1 h'.2
 have h2 : s.num.natAbs * r.den < b * b' := by rw [Nat.mul_comm b b']; exact Nat.mul_lt_mul'' h'.1 h.2
 have h3 : r.den * s.den < b * b' := Nat.mul_lt_mul'' h.2 h'.2
 have h4 := zir r s
 have h5 := zie r s
 exact ⟨by omega, by omega⟩
theorem LtQ.mul {b b' : Nat} {r s : Rat} (h : LtQ b r) (h' : LtQ b' s) : LtQ (b * b') (r * s) :=
 ⟨Nat.lt_of_le_of_lt (ziq r s) (Nat.mul_lt_mul'' h.1 h'.1), Nat.lt_of_le_of_lt (zhJ r s) (Nat.mul_lt_mul'' h.2 h'.2)⟩
theorem LtQ.neg {b : Nat} {r : Rat} (h : LtQ b r) : LtQ b (-r) := ⟨by rw [Rat.neg_num, Int.natAbs_neg]; exact h.1, h.2⟩
theorem LtQ.inv {b : Nat} {r : Rat} (h : LtQ b r) : LtQ b r⁻¹ := by
 refine ⟨Nat.lt_of_le_of_lt (zhW r) h.2, ?_⟩
 rw [Rat.den_inv]
 split
 ·exact h.pos
 ·exact h.1
theorem LtQ.div {b b' : Nat} {r s : Rat} (h : LtQ b r) (h' : LtQ b' s) : LtQ (b * b') (r / s) := by rw [Rat.div_def]; exact h.mul h'.inv
theorem LtQ.made {b : Nat} {p q : Int} (hp : p.natAbs < b) (hq : q.natAbs < b) (hb : 1 < b) : LtQ b (Rat.divInt p q) := by
 refine ⟨Nat.lt_of_le_of_lt (zft p q) hp, ?_⟩
 rw [Rat.den_divInt]
 split
 ·exact hb
 ·exact Nat.lt_of_le_of_lt (Nat.div_le_self _ _) hq
def cmpQ (r s : Rat) : Int := if r < s then -1 else if r = s then 0 else 1
theorem zis (r s : Rat) : cmpQ r s = zeo (r.num * s.den) (s.num * r.den) := by
 unfold cmpQ zeo
 by_cases h1 : r < s
 ·rw [if_pos h1, if_pos ((Rat.lt_iff r s).1 h1)]
 ·rw [if_neg h1, if_neg (fun h => h1 ((Rat.lt_iff r s).2 h))]
  by_cases h2 : r = s
  ·rw [if_pos h2, if_pos (Rat.eq_iff_mul_eq_mul.1 h2)]
  ·rw [if_neg h2, if_neg (fun h => h2 (Rat.eq_iff_mul_eq_mul.2 h))]
def sgnQ (r : Rat) : Int := zeC r.num
theorem floor_qI (r : Rat) : r.floor = qI r.num (r.den : Int) := by
 unfold qI
 rw [if_pos (by omega), Rat.floor_def]
theorem made_num (p q : Int) (hq : q ≠ 0) : (Rat.divInt p q).num.natAbs = p.natAbs / Nat.gcd p.natAbs q.natAbs := by
 rw [Rat.num_divInt, Int.gcd]
 have hd : (Nat.gcd q.natAbs p.natAbs : Int) ∣ q.sign * p := Int.dvd_trans (Int.ofNat_dvd_left.2 (Nat.gcd_dvd_right ..)) (Int.dvd_mul_left ..)
 rw [Int.natAbs_ediv_of_dvd hd, Int.natAbs_mul, Int.natAbs_sign_of_ne_zero hq, Nat.one_mul, Int.natAbs_natCast, Nat.gcd_comm]
theorem made_den (p q : Int) (hq : q ≠ 0) : (Rat.divInt p q).den = q.natAbs / Nat.gcd p.natAbs q.natAbs := by
 rw [Rat.den_divInt, if_neg hq, Int.gcd, Nat.gcd_comm]
theorem zjy (p q : Int) (hq : q ≠ 0) : (Rat.divInt p q).num < 0 ↔ (p < 0 ∧ 0 < q ∨ 0 < p ∧ q < 0) := by
 rw [Rat.num_divInt]
 have hg0 : 0 < (q.gcd p : Int) := by
  have : 0 < q.gcd p := Int.gcd_pos_of_ne_zero_left p hq
  omega
 have e : q.sign * p / (q.gcd p : Int) < 0 ↔ q.sign * p < 0 := by
  constructor
  ·intro h
   refine Int.not_le.1 fun h1 => ?_
   have := Int.ediv_nonneg h1 (Int.le_of_lt hg0)
   omega
  ·intro h
   exact Int.ediv_neg_of_neg_of_pos h hg0
 rw [e]
 rcases Int.lt_or_gt_of_ne hq with h | h
 ·rw [Int.sign_eq_neg_one_of_neg h]; omega
 ·rw [Int.sign_eq_one_of_pos h]; omega
end Go.Proofs.YtgigccjiblaefaaDoor
