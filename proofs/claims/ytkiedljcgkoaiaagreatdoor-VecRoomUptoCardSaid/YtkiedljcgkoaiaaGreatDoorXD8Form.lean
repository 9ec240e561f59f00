/- What this claim leans on. -/
import Derived.Test.YtkiedljcgkoaiaaGreatDoorXBun7
namespace Go.Proofs.YtkiedljcgkoaiaaGreatDoor
open Go Go.RowKit
set_option maxHeartbeats 16000000
set_option linter.unusedVariables false
theorem zjR {r : Rat} {t : Int} {d : Nat} (hd : d ≠ 0) (hc : Nat.gcd t.natAbs d = 1) (h : r = Rat.divInt t d) : r.num = t ∧ r.den = d:=by
 have e : (⟨t,d,hd,hc⟩ : Rat) = Rat.divInt t d:=Rat.mk_eq_divInt
 rw [← e] at h
 subst h
 exact ⟨rfl,rfl⟩
theorem zgi (t : Int) (h : Nat) (hd : h ∣ t.natAbs) : t = (h : Int) * zaC (decide (t < 0)) (t.natAbs / h):=by
 obtain ⟨k,hk⟩:=hd
 by_cases h0 : h = 0
 ·subst h0; rw [Nat.zero_mul] at hk; have : t = 0:=Int.natAbs_eq_zero.1 hk; subst this; simp
 have e : t.natAbs / h = k:=by rw [hk]; exact Nat.mul_div_cancel_left _ (Nat.pos_of_ne_zero h0)
 rw [e]
 unfold zaC
 by_cases ht : t < 0
 ·rw [decide_eq_true ht,if_pos rfl,Int.mul_neg,← Int.natCast_mul,← hk]; omega
 ·rw [decide_eq_false ht,if_neg (by decide),← Int.natCast_mul,← hk]; omega
theorem sgnI_mul (s u : Bool) (x y : Nat) : zaC s x * zaC u y = zaC (s != u) (x * y):=by
 cases s <;> cases u <;> simp [zaC,Int.natCast_mul,Int.neg_mul,Int.mul_neg]
theorem zli {p1 p2 t : Int} {q1 mA mB : Nat} (hc : Nat.gcd p1.natAbs q1 = 1) (hA : mA ∣ q1) (hm : Nat.gcd mA mB = 1) (ht : t = p1 * mB + p2 * mA) : Nat.gcd t.natAbs mA = 1:=by
 refine Nat.dvd_one.1 ?_
 have h1 : Nat.gcd t.natAbs mA ∣ mA:=Nat.gcd_dvd_right _ _
 have h2 : Nat.gcd t.natAbs mA ∣ t.natAbs:=Nat.gcd_dvd_left _ _
 generalize Nat.gcd t.natAbs mA = d at *
 have h3 : (d : Int) ∣ p1 * mB:=by
  have a:=Int.ofNat_dvd_left.2 h2
  have b : (d : Int) ∣ p2 * mA:=Int.dvd_trans (Int.ofNat_dvd.2 h1) (Int.dvd_mul_left _ _)
  have c:=Int.dvd_sub a b
  rw [ht,Int.add_sub_cancel] at c
  exact c
 have h4 : d ∣ p1.natAbs * mB:=by
  have:=Int.ofNat_dvd_left.1 h3
  rwa [Int.natAbs_mul,Int.natAbs_natCast] at this
 have h5 : Nat.Coprime d mB:=Nat.Coprime.coprime_dvd_left h1 hm
 have h6 : d ∣ p1.natAbs:=h5.dvd_of_dvd_mul_right h4
 have h7:=Nat.dvd_gcd h6 (Nat.dvd_trans h1 hA)
 rwa [hc] at h7
theorem zkJ (a b : Rat) {mA mB : Nat} {t : Int} (hA : mA = a.den / Nat.gcd a.den b.den) (hB : mB = b.den / Nat.gcd a.den b.den) (ht : t = a.num * mB + b.num * mA) :
  (a + b).num = zaC (decide (t < 0)) (t.natAbs / Nat.gcd t.natAbs b.den) ∧ (a + b).den = mA * (b.den / Nat.gcd t.natAbs b.den):=by
 have g0 : 0 < Nat.gcd a.den b.den:=Nat.gcd_pos_of_pos_left _ (Nat.pos_of_ne_zero a.den_nz)
 have k0 : 0 < Nat.gcd t.natAbs b.den:=Nat.gcd_pos_of_pos_right _ (Nat.pos_of_ne_zero b.den_nz)
 have ea : Nat.gcd a.den b.den * mA = a.den:=by rw [hA]; exact Nat.mul_div_cancel' (Nat.gcd_dvd_left _ _)
 have eb : Nat.gcd a.den b.den * mB = b.den:=by rw [hB]; exact Nat.mul_div_cancel' (Nat.gcd_dvd_right _ _)
 have hm : Nat.gcd mA mB = 1:=by rw [hA,hB]; exact Nat.gcd_div_gcd_div_gcd_of_pos_left (Nat.pos_of_ne_zero a.den_nz)
 have hp : Nat.gcd t.natAbs mA = 1:=zli a.reduced ⟨_,(Nat.mul_comm mA _ ▸ ea).symm⟩ hm ht
 have eh : Nat.gcd t.natAbs b.den * (b.den / Nat.gcd t.natAbs b.den) = b.den:=Nat.mul_div_cancel' (Nat.gcd_dvd_right _ _)
 have et:=zgi t (Nat.gcd t.natAbs b.den) (Nat.gcd_dvd_left _ _)
 have hq : Nat.gcd (t.natAbs / Nat.gcd t.natAbs b.den) (b.den / Nat.gcd t.natAbs b.den) = 1:=Nat.gcd_div_gcd_div_gcd_of_pos_right (Nat.pos_of_ne_zero b.den_nz)
 have mA0 : mA ≠ 0:=fun h => a.den_nz (by rw [← ea,h]; rfl)
 have r0 : b.den / Nat.gcd t.natAbs b.den ≠ 0:=fun h => b.den_nz (by rw [← eh,h]; rfl)
 refine zjR (Nat.mul_ne_zero mA0 r0) ?_ ?_
 ·rw [zcu]
  refine Nat.Coprime.mul_right ?_ hq
  exact Nat.Coprime.coprime_dvd_left (Nat.div_dvd_of_dvd (Nat.gcd_dvd_left _ _)) hp
 ·have e1 : a + b = Rat.divInt (a.num * b.den + b.num * a.den) ((a.den * b.den : Nat) : Int):=by rw [Rat.add_def']; rfl
  have e2 : a.num * (b.den : Int) + b.num * (a.den : Int) = (Nat.gcd a.den b.den : Int) * t:=by
   rw [ht]
   generalize Nat.gcd a.den b.den = g at *
   rw [← eb,← ea,Int.natCast_mul,Int.natCast_mul,Int.mul_add,Int.mul_left_comm,Int.mul_left_comm b.num]
  have e3 : ((a.den * b.den : Nat) : Int) = (Nat.gcd a.den b.den : Int) * ((mA * b.den : Nat) : Int):=by
   generalize Nat.gcd a.den b.den = g at *
   rw [← ea,Nat.mul_assoc,Int.natCast_mul]
  rw [e1,e2,e3,Rat.divInt_mul_left (by omega)]
  generalize Nat.gcd t.natAbs b.den = h at *
  have e4 : ((mA * b.den : Nat) : Int) = (h : Int) * ((mA * (b.den / h) : Nat) : Int):=by
   conv => lhs; rw [← eh]
   rw [Nat.mul_left_comm,Int.natCast_mul]
  rw [e4]
  conv => lhs; rw [et]
  exact Rat.divInt_mul_left (by omega)
theorem zkK (a b : Rat) : (a * b).num = zaC (decide (a.num < 0) != decide (b.num < 0)) (a.num.natAbs / Nat.gcd a.num.natAbs b.den * (b.num.natAbs / Nat.gcd b.num.natAbs a.den)) ∧
  (a * b).den = a.den / Nat.gcd b.num.natAbs a.den * (b.den / Nat.gcd a.num.natAbs b.den):=by
 have g0 : 0 < Nat.gcd a.num.natAbs b.den:=Nat.gcd_pos_of_pos_right _ (Nat.pos_of_ne_zero b.den_nz)
 have k0 : 0 < Nat.gcd b.num.natAbs a.den:=Nat.gcd_pos_of_pos_right _ (Nat.pos_of_ne_zero a.den_nz)
 have ea : Nat.gcd b.num.natAbs a.den * (a.den / Nat.gcd b.num.natAbs a.den) = a.den:=Nat.mul_div_cancel' (Nat.gcd_dvd_right _ _)
 have eb : Nat.gcd a.num.natAbs b.den * (b.den / Nat.gcd a.num.natAbs b.den) = b.den:=Nat.mul_div_cancel' (Nat.gcd_dvd_right _ _)
 have ta:=zgi a.num _ (Nat.gcd_dvd_left a.num.natAbs b.den)
 have tb:=zgi b.num _ (Nat.gcd_dvd_left b.num.natAbs a.den)
 have c1 : Nat.Coprime (a.num.natAbs / Nat.gcd a.num.natAbs b.den) (b.den / Nat.gcd a.num.natAbs b.den):=Nat.gcd_div_gcd_div_gcd_of_pos_right (Nat.pos_of_ne_zero b.den_nz)
 have c2 : Nat.Coprime (b.num.natAbs / Nat.gcd b.num.natAbs a.den) (a.den / Nat.gcd b.num.natAbs a.den):=Nat.gcd_div_gcd_div_gcd_of_pos_right (Nat.pos_of_ne_zero a.den_nz)
 have c3 : Nat.Coprime (a.num.natAbs / Nat.gcd a.num.natAbs b.den) (a.den / Nat.gcd b.num.natAbs a.den) :=
  Nat.Coprime.coprime_dvd_left (Nat.div_dvd_of_dvd (Nat.gcd_dvd_left _ _)) (Nat.Coprime.coprime_dvd_right (Nat.div_dvd_of_dvd (Nat.gcd_dvd_right _ _)) a.reduced)
 have c4 : Nat.Coprime (b.num.natAbs / Nat.gcd b.num.natAbs a.den) (b.den / Nat.gcd a.num.natAbs b.den) :=
  Nat.Coprime.coprime_dvd_left (Nat.div_dvd_of_dvd (Nat.gcd_dvd_left _ _)) (Nat.Coprime.coprime_dvd_right (Nat.div_dvd_of_dvd (Nat.gcd_dvd_right _ _)) b.reduced)
 refine zjR (fun h => ?_) ?_ ?_
 ·rcases Nat.mul_eq_zero.1 h with h | h
  ·rw [h] at ea; exact a.den_nz ea.symm
  ·rw [h] at eb; exact b.den_nz eb.symm
 ·rw [zcu]
  exact Nat.Coprime.mul_right (Nat.Coprime.mul_left c3 c2) (Nat.Coprime.mul_left c1 c4)
 ·have e1 : a * b = Rat.divInt (a.num * b.num) ((a.den * b.den : Nat) : Int):=by rw [Rat.mul_def']; rfl
  rw [e1,← sgnI_mul]
  generalize a.num.natAbs / Nat.gcd a.num.natAbs b.den = x1 at *
  generalize b.num.natAbs / Nat.gcd b.num.natAbs a.den = x2 at *
  generalize b.den / Nat.gcd a.num.natAbs b.den = y2 at *
  generalize a.den / Nat.gcd b.num.natAbs a.den = y1 at *
  generalize Nat.gcd a.num.natAbs b.den = g at *
  generalize Nat.gcd b.num.natAbs a.den = k at *
  generalize zaC (decide (a.num < 0)) x1 = u1 at *
  generalize zaC (decide (b.num < 0)) x2 = u2 at *
  have e2 : a.num * b.num = ((g * k : Nat) : Int) * (u1 * u2):=by
   rw [ta,tb,Int.natCast_mul]; simp only [Int.mul_assoc,Int.mul_left_comm]
  have e3 : ((a.den * b.den : Nat) : Int) = ((g * k : Nat) : Int) * ((y1 * y2 : Nat) : Int):=by
   rw [← ea,← eb,← Int.natCast_mul]; congr 1; simp only [Nat.mul_left_comm,Nat.mul_comm]
  rw [e2,e3]
  exact Rat.divInt_mul_left (by have:=Nat.mul_pos g0 k0; omega)
theorem zkL (a : Rat) : (-a).num = zaC (!decide (a.num < 0)) a.num.natAbs ∧ (-a).den = a.den:=by
 refine ⟨?_,rfl⟩
 rw [Rat.neg_num]
 unfold zaC
 by_cases h : a.num < 0
 ·simp [h]; omega
 ·simp [h]; omega
theorem zln {a b : Rat} (ha : a.den = 1) (hb : b.den = 1) : (a + b) = ((a.num + b.num : Int) : Rat):=by
 have h1 : a = ((a.num : Int) : Rat):=Rat.ext (by rw [Rat.num_intCast]) (by rw [Rat.den_intCast,ha])
 have h2 : b = ((b.num : Int) : Rat):=Rat.ext (by rw [Rat.num_intCast]) (by rw [Rat.den_intCast,hb])
 rw [Rat.intCast_add,← h1,← h2]
theorem zeY {a b : Rat} (h : a = 0 ∨ b = 0 ∨ a.den = 1 ∧ b.den = 1) : (a * b) = ((a.num * b.num : Int) : Rat):=by
 rcases h with h | h | ⟨ha,hb⟩
 ·subst h; rw [Rat.zero_mul,show (0 : Rat).num = 0 from rfl,Int.zero_mul]; rfl
 ·subst h; rw [Rat.mul_zero,show (0 : Rat).num = 0 from rfl,Int.mul_zero]; rfl
 ·have h1 : a = ((a.num : Int) : Rat):=Rat.ext (by rw [Rat.num_intCast]) (by rw [Rat.den_intCast,ha])
  have h2 : b = ((b.num : Int) : Rat):=Rat.ext (by rw [Rat.num_intCast]) (by rw [Rat.den_intCast,hb])
  rw [Rat.intCast_mul,← h1,← h2]
end Go.Proofs.YtkiedljcgkoaiaaGreatDoor
