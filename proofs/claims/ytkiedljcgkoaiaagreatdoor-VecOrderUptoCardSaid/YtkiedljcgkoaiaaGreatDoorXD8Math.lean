/- What this claim leans on. -/
import Derived.Test.YtkiedljcgkoaiaaGreatDoorXP4C
namespace Go.Proofs.YtkiedljcgkoaiaaGreatDoor
open Go Go.RowKit
set_option maxHeartbeats 16000000
set_option linter.unusedVariables false
theorem zej (a : Int) (g : Nat) : (a / (g : Int)).natAbs ≤ a.natAbs:=by
 rcases Nat.eq_zero_or_pos g with rfl | hg
 ·simp
 ·exact Int.natAbs_ediv_le_natAbs a g
theorem zjj (a b : Rat) : (a + b).num.natAbs ≤ a.num.natAbs * b.den + b.num.natAbs * a.den:=by
 rw [Rat.num_add]
 refine Nat.le_trans (zej _ _) (Nat.le_trans (Int.natAbs_add_le _ _) ?_)
 rw [Int.natAbs_mul,Int.natAbs_mul,Int.natAbs_natCast,Int.natAbs_natCast]
 exact Nat.le_refl _
theorem ziU (a b : Rat) : (a + b).den ≤ a.den * b.den:=by rw [Rat.den_add]; exact Nat.div_le_self _ _
theorem zjk (a b : Rat) : (a * b).num.natAbs ≤ a.num.natAbs * b.num.natAbs:=by
 rw [Rat.num_mul]
 refine Nat.le_trans (zej _ _) ?_
 rw [Int.natAbs_mul]
 exact Nat.le_refl _
theorem ziV (a b : Rat) : (a * b).den ≤ a.den * b.den:=by rw [Rat.den_mul]; exact Nat.div_le_self _ _
theorem zgr (p q : Int) : (Rat.divInt p q).num.natAbs ≤ p.natAbs:=by
 rw [Rat.num_divInt]
 refine Nat.le_trans (zej _ _) ?_
 rw [Int.natAbs_mul]
 by_cases h : q = 0
 ·simp [h]
 ·rw [Int.natAbs_sign_of_ne_zero h,Nat.one_mul]; exact Nat.le_refl _
def LtQ (b : Nat) (r : Rat) : Prop:=r.num.natAbs < b ∧ r.den < b
theorem LtQ.up {b b' : Nat} {r : Rat} (h : LtQ b r) (hb : b ≤ b') : LtQ b' r:=⟨Nat.lt_of_lt_of_le h.1 hb,Nat.lt_of_lt_of_le h.2 hb⟩
theorem LtQ.add {b b' : Nat} {r s : Rat} (h : LtQ b r) (h' : LtQ b' s) : LtQ (2 * (b * b')) (r + s):=by
 have h1 : r.num.natAbs * s.den < b * b':=Nat.mul_lt_mul'' h.1 h'.2
 have h2 : s.num.natAbs * r.den < b * b':=by rw [Nat.mul_comm b b']; exact Nat.mul_lt_mul'' h'.1 h.2
 have h3 : r.den * s.den < b * b':=Nat.mul_lt_mul'' h.2 h'.2
 have h4:=zjj r s
 have h5:=ziU r s
 exact ⟨by omega,by omega⟩
theorem LtQ.mul {b b' : Nat} {r s : Rat} (h : LtQ b r) (h' : LtQ b' s) : LtQ (b * b') (r * s) :=
 ⟨Nat.lt_of_le_of_lt (zjk r s) (Nat.mul_lt_mul'' h.1 h'.1),Nat.lt_of_le_of_lt (ziV r s) (Nat.mul_lt_mul'' h.2 h'.2)⟩
theorem LtQ.neg {b : Nat} {r : Rat} (h : LtQ b r) : LtQ b (-r):=⟨by rw [Rat.neg_num,Int.natAbs_neg]; exact h.1,h.2⟩
theorem LtQ.sub {b b' : Nat} {r s : Rat} (h : LtQ b r) (h' : LtQ b' s) : LtQ (2 * (b * b')) (r - s):=by rw [Rat.sub_eq_add_neg]; exact h.add h'.neg
theorem LtQ.made {b : Nat} {p q : Int} (hp : p.natAbs < b) (hq : q.natAbs < b) (hb : 1 < b) : LtQ b (Rat.divInt p q):=by
 refine ⟨Nat.lt_of_le_of_lt (zgr p q) hp,?_⟩
 rw [Rat.den_divInt]
 split
 ·exact hb
 ·exact Nat.lt_of_le_of_lt (Nat.div_le_self _ _) hq
theorem LtQ.whole {b : Nat} {z : Int} (hz : z.natAbs < b) (hb : 1 < b) : LtQ b (z : Rat):=⟨by rw [Rat.num_intCast]; exact hz,by rw [Rat.den_intCast]; exact hb⟩
def zbY (r s : Rat) : Int:=if r < s then -1 else if r = s then 0 else 1
theorem zeh (r s : Rat) : zbY r s = zdY (r.num * s.den) (s.num * r.den):=by
 unfold zbY zdY
 by_cases h1 : r < s
 ·rw [if_pos h1,if_pos ((Rat.lt_iff r s).1 h1)]
 ·rw [if_neg h1,if_neg (fun h => h1 ((Rat.lt_iff r s).2 h))]
  by_cases h2 : r = s
  ·rw [if_pos h2,if_pos (Rat.eq_iff_mul_eq_mul.1 h2)]
  ·rw [if_neg h2,if_neg (fun h => h2 (Rat.eq_iff_mul_eq_mul.2 h))]
theorem cmpQ_eq (r s : Rat) : zbY r s = 0 ↔ r = s:=by
 unfold zbY
 by_cases h1 : r < s
 ·rw [if_pos h1]
  constructor
  ·intro h; omega
  ·intro h; exact absurd h (Rat.ne_of_lt h1)
 ·rw [if_neg h1]
  by_cases h2 : r = s <;> simp [h2]
theorem zjJ (r s : Rat) : 0 < zbY r s ↔ s < r:=by
 unfold zbY
 by_cases h1 : r < s
 ·rw [if_pos h1]
  constructor
  ·intro h; omega
  ·intro h; exact absurd (Rat.le_of_lt h) (Rat.not_le.2 h1)
 ·rw [if_neg h1]
  by_cases h2 : r = s
  ·rw [if_pos h2,h2]
   constructor
   ·intro h; omega
   ·intro h; exact absurd h Rat.lt_irrefl
  ·rw [if_neg h2]
   constructor
   ·intro _; exact Rat.lt_of_le_of_ne (Rat.not_lt.1 h1) (fun e => h2 e.symm)
   ·intro _; omega
theorem cmpQ_bd (r s : Rat) : -1 ≤ zbY r s ∧ zbY r s ≤ 1:=by unfold zbY; split <;> (try split) <;> omega
theorem zhJ (r s : Rat) : zbY s r = -zbY r s:=by
 rw [zeh,zeh,cmpZ_neg]
def sgnQ (r : Rat) : Int:=zeW r.num
theorem num_pos (r : Rat) : 0 < r.num ↔ 0 < r:=by
 have h1:=Rat.num_nonneg (q:=r)
 have h2:=Rat.num_eq_zero (q:=r)
 constructor
 ·intro h
  exact Rat.lt_of_le_of_ne (h1.1 (by omega)) (fun e => by have:=h2.2 e.symm; omega)
 ·intro h
  have a:=h1.2 (Rat.le_of_lt h)
  have b : r.num ≠ 0:=fun e => by rw [h2.1 e] at h; exact Rat.lt_irrefl h
  omega
theorem num_neg (r : Rat) : r.num < 0 ↔ r < 0:=by
 have h1:=num_pos (-r)
 rw [Rat.neg_num] at h1
 constructor
 ·intro h
  have:=h1.1 (by omega)
  have h3:=Rat.neg_lt_neg this
  rwa [Rat.neg_neg,Rat.neg_zero] at h3
 ·intro h
  have h3:=Rat.neg_lt_neg h
  rw [Rat.neg_zero] at h3
  have:=h1.2 h3
  omega
theorem ziR {r s t : Rat} (h1 : zbY r s ≤ 0) (h2 : zbY s t ≤ 0) : zbY r t ≤ 0:=by
 have f : ∀ a b : Rat,zbY a b ≤ 0 → a ≤ b:=fun a b h => Rat.not_lt.1 (fun h' => by have:=(zjJ a b).2 h'; omega)
 have g:=Rat.le_trans (f _ _ h1) (f _ _ h2)
 refine Int.not_lt.1 fun h => ?_
 exact absurd g (Rat.not_le.2 ((zjJ _ _).1 h))
theorem made_num (p q : Int) (hq : q ≠ 0) : (Rat.divInt p q).num.natAbs = p.natAbs / Nat.gcd p.natAbs q.natAbs:=by
 rw [Rat.num_divInt,Int.gcd]
 have hd : (Nat.gcd q.natAbs p.natAbs : Int) ∣ q.sign * p:=Int.dvd_trans (Int.ofNat_dvd_left.2 (Nat.gcd_dvd_right ..)) (Int.dvd_mul_left ..)
 rw [Int.natAbs_ediv_of_dvd hd,Int.natAbs_mul,Int.natAbs_sign_of_ne_zero hq,Nat.one_mul,Int.natAbs_natCast,Nat.gcd_comm]
theorem made_den (p q : Int) (hq : q ≠ 0) : (Rat.divInt p q).den = q.natAbs / Nat.gcd p.natAbs q.natAbs:=by
 rw [Rat.den_divInt,if_neg hq,Int.gcd,Nat.gcd_comm]
theorem zkE (p q : Int) (hq : q ≠ 0) : (Rat.divInt p q).num < 0 ↔ (p < 0 ∧ 0 < q ∨ 0 < p ∧ q < 0):=by
 rw [Rat.num_divInt]
 have hg0 : 0 < (q.gcd p : Int):=by
  have : 0 < q.gcd p:=Int.gcd_pos_of_ne_zero_left p hq
  omega
 have e : q.sign * p / (q.gcd p : Int) < 0 ↔ q.sign * p < 0:=by
  constructor
  ·intro h
   refine Int.not_le.1 fun h1 => ?_
   have:=Int.ediv_nonneg h1 (Int.le_of_lt hg0)
   omega
  ·intro h
   exact Int.ediv_neg_of_neg_of_pos h hg0
 rw [e]
 rcases Int.lt_or_gt_of_ne hq with h | h
 ·rw [Int.sign_eq_neg_one_of_neg h]; omega
 ·rw [Int.sign_eq_one_of_pos h]; omega
end Go.Proofs.YtkiedljcgkoaiaaGreatDoor
