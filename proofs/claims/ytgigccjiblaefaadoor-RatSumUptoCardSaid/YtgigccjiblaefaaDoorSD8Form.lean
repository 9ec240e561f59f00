/- What this claim leans on. -/
import Derived.Test.YtgigccjiblaefaaDoorSBun7
namespace Go.Proofs.YtgigccjiblaefaaDoor
open Go Go.RowKit
set_option linter.unusedVariables false
theorem form_eq {r : Rat} {t : Int} {d : Nat} (hd : d ≠ 0) (hc : Nat.gcd t.natAbs d = 1) (h : r = Rat.divInt t d) : r.num = t ∧ r.den = d := by
 have e : (⟨t, d, hd, hc⟩ : Rat) = Rat.divInt t d := Rat.mk_eq_divInt
 rw [← e] at h
 subst h
 exact ⟨rfl, rfl⟩
theorem sgnI_div (t : Int) (h : Nat) (hd : h ∣ t.natAbs) : t = (h : Int) * zau (decide (t < 0)) (t.natAbs / h) := by
 obtain ⟨k, hk⟩ := hd
 by_cases h0 : h = 0
 ·subst h0; rw [Nat.zero_mul] at hk; have : t = 0 := Int.natAbs_eq_zero.1 hk; subst this; simp
 have e : t.natAbs / h = k := by rw [hk]; exact Nat.mul_div_cancel_left _ (Nat.pos_of_ne_zero h0)
 rw [e]
 unfold zau
 by_cases ht : t < 0
 ·rw [decide_eq_true ht, if_pos rfl, Int.mul_neg, ← Int.natCast_mul, ← hk]; omega
 ·rw [decide_eq_false ht, if_neg (by decide), ← Int.natCast_mul, ← hk]; omega
theorem zjI {p1 p2 t : Int} {q1 mA mB : Nat} (hc : Nat.gcd p1.natAbs q1 = 1) (hA : mA ∣ q1) (hm : Nat.gcd mA mB = 1) (ht : t = p1 * mB + p2 * mA) : Nat.gcd t.natAbs mA = 1 := by
 refine Nat.dvd_one.1 ?_
 have h1 : Nat.gcd t.natAbs mA ∣ mA := Nat.gcd_dvd_right _ _
 have h2 : Nat.gcd t.natAbs mA ∣ t.natAbs := Nat.gcd_dvd_left _ _
 generalize Nat.gcd t.natAbs mA = d at *
 have h3 : (d : Int) ∣ p1 * mB := by
  have a := Int.ofNat_dvd_left.2 h2
  have b : (d : Int) ∣ p2 * mA := Int.dvd_trans (Int.ofNat_dvd.2 h1) (Int.dvd_mul_left _ _)
  have c := Int.dvd_sub a b
  rw [ht, Int.add_sub_cancel] at c
  exact c
 have h4 : d ∣ p1.natAbs * mB := by
  have := Int.ofNat_dvd_left.1 h3
  rwa [Int.natAbs_mul, Int.natAbs_natCast] at this
 have h5 : Nat.Coprime d mB := Nat.Coprime.coprime_dvd_left h1 hm
 have h6 : d ∣ p1.natAbs := h5.dvd_of_dvd_mul_right h4
 have h7 := Nat.dvd_gcd h6 (Nat.dvd_trans h1 hA)
 rwa [hc] at h7
theorem zjh (a b : Rat) {mA mB : Nat} {t : Int} (hA : mA = a.den / Nat.gcd a.den b.den) (hB : mB = b.den / Nat.gcd a.den b.den) (ht : t = a.num * mB + b.num * mA) :
  (a + b).num = zau (decide (t < 0)) (t.natAbs / Nat.gcd t.natAbs b.den) ∧ (a + b).den = mA * (b.den / Nat.gcd t.natAbs b.den) := by
 have g0 : 0 < Nat.gcd a.den b.den := Nat.gcd_pos_of_pos_left _ (Nat.pos_of_ne_zero a.den_nz)
 have k0 : 0 < Nat.gcd t.natAbs b.den := Nat.gcd_pos_of_pos_right _ (Nat.pos_of_ne_zero b.den_nz)
 have ea : Nat.gcd a.den b.den * mA = a.den := by rw [hA]; exact Nat.mul_div_cancel' (Nat.gcd_dvd_left _ _)
 have eb : Nat.gcd a.den b.den * mB = b.den := by rw [hB]; exact Nat.mul_div_cancel' (Nat.gcd_dvd_right _ _)
 have hm : Nat.gcd mA mB = 1 := by rw [hA, hB]; exact Nat.gcd_div_gcd_div_gcd_of_pos_left (Nat.pos_of_ne_zero a.den_nz)
 have hp : Nat.gcd t.natAbs mA = 1 := zjI a.reduced ⟨_, (Nat.mul_comm mA _ ▸ ea).symm⟩ hm ht
 have eh : Nat.gcd t.natAbs b.den * (b.den / Nat.gcd t.natAbs b.den) = b.den := Nat.mul_div_cancel' (Nat.gcd_dvd_right _ _)
 have et := sgnI_div t (Nat.gcd t.natAbs b.den) (Nat.gcd_dvd_left _ _)
 have hq : Nat.gcd (t.natAbs / Nat.gcd t.natAbs b.den) (b.den / Nat.gcd t.natAbs b.den) = 1 := Nat.gcd_div_gcd_div_gcd_of_pos_right (Nat.pos_of_ne_zero b.den_nz)
 have mA0 : mA ≠ 0 := fun h => a.den_nz (by rw [← ea, h]; rfl)
 have r0 : b.den / Nat.gcd t.natAbs b.den ≠ 0 := fun h => b.den_nz (by rw [← eh, h]; rfl)
 refine form_eq (Nat.mul_ne_zero mA0 r0) ?_ ?_
 ·rw [zbf]
  refine Nat.Coprime.mul_right ?_ hq
  exact Nat.Coprime.coprime_dvd_left (Nat.div_dvd_of_dvd (Nat.gcd_dvd_left _ _)) hp
 ·have e1 : a + b = Rat.divInt (a.num * b.den + b.num * a.den) ((a.den * b.den : Nat) : Int) := by rw [Rat.add_def']; rfl
  have e2 : a.num * (b.den : Int) + b.num * (a.den : Int) = (Nat.gcd a.den b.den : Int) * t := by
   rw [ht]
   generalize Nat.gcd a.den b.den = g at *
   rw [← eb, ← ea, Int.natCast_mul, Int.natCast_mul, Int.mul_add, Int.mul_left_comm, Int.mul_left_comm b.num]
  have e3 : ((a.den * b.den : Nat) : Int) = (Nat.gcd a.den b.den : Int) * ((mA * b.den : Nat) : Int) := by
   generalize Nat.gcd a.den b.den = g at *
   rw [← ea, Nat.mul_assoc, Int.natCast_mul]
  rw [e1, e2, e3, Rat.divInt_mul_left (by omega)]
  generalize Nat.gcd t.natAbs b.den = h at *
  have e4 : ((mA * b.den : Nat) : Int) = (h : Int) * ((mA * (b.den / h) : Nat) : Int) := by
   conv => lhs; rw [← eh]
   rw [Nat.mul_left_comm, Int.natCast_mul]
  rw [e4]
  conv => lhs; rw [et]
  exact Rat.divInt_mul_left (by omega)
theorem zjc (a : Rat) (h : a ≠ 0) : (a⁻¹).num = zau (decide (a.num < 0)) a.den ∧ (a⁻¹).den = a.num.natAbs := by
 have hn : a.num ≠ 0 := fun e => h (Rat.num_eq_zero.1 e)
 constructor
 ·rw [Rat.num_inv]
  unfold zau
  rcases Int.lt_or_gt_of_ne hn with h1 | h1
  ·rw [Int.sign_eq_neg_one_of_neg h1, decide_eq_true h1, if_pos rfl]; omega
  ·rw [Int.sign_eq_one_of_pos h1, decide_eq_false (by omega), if_neg (by decide)]; omega
 ·rw [Rat.den_inv, if_neg hn]
theorem zjB (a : Rat) : (-a).num = zau (!decide (a.num < 0)) a.num.natAbs ∧ (-a).den = a.den := by
 refine ⟨?_, rfl⟩
 rw [Rat.neg_num]
 unfold zau
 by_cases h : a.num < 0
 ·simp [h]; omega
 ·simp [h]; omega
theorem zjT {a b : Rat} (ha : a.den = 1) (hb : b.den = 1) : (a + b) = ((a.num + b.num : Int) : Rat) := by
 have h1 : a = ((a.num : Int) : Rat) := Rat.ext (by rw [Rat.num_intCast]) (by rw [Rat.den_intCast, ha])
 have h2 : b = ((b.num : Int) : Rat) := Rat.ext (by rw [Rat.num_intCast]) (by rw [Rat.den_intCast, hb])
 rw [Rat.intCast_add, ← h1, ← h2]
end Go.Proofs.YtgigccjiblaefaaDoor
