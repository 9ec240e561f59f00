/- What this claim leans on. -/
import Derived.Test.YtgigccjiblaefaaGreatDoorBBun7
import Derived.Test.YtgigccjiblaefaaGreatDoorBR5Gcd
import Derived.Test.YtgigccjiblaefaaGreatDoorBBunU
namespace Go.Proofs.YtgigccjiblaefaaGreatDoor
open Go Go.RowKit
set_option linter.unusedVariables false
def zbW (w : World) (x : Nat) (e : Ending) (w' : World) : Prop := ∃ (A : Option Addr) (n c : Nat), e = .returned (.agg #[.slice A n c]) ∧ zag w' x A n c ∧ Below w.heap.size w w'
def zhd (w : World) (x y : Nat) (e : Ending) (w' : World) : Prop := ∃ (A : Option Addr) (n c : Nat) (B : Option Addr) (m d : Nat), e = .returned (.tuple #[.agg #[.slice A n c], .agg #[.slice B m d]]) ∧ zag w' x A n c ∧ zag w' y B m d ∧ Below w.heap.size w w'
def copB (x y : Nat) : Bool := decide (Nat.gcd x y = 1)
theorem Sz.gcd {K K' x y : Nat} (h : Sz K x) (h' : Sz K' y) : Sz (K + K') (Nat.gcd x y) := by
 rcases Nat.eq_zero_or_pos x with e | e
 ·rw [e, Nat.gcd_zero_left]; exact h'.up (by omega)
 ·exact (h.of_le (Nat.gcd_le_left y e)).up (by omega)
structure GcdC : Prop where
 of : ∀ (x y : Nat) (A D : Option Addr) (n m c d : Nat) (w : World), zag w x A n c → zag w y D m d → n ≤ 1073741824 → m ≤ 1073741824 → zao w → Calls Tryz.prog 89 #[.agg #[.slice A n c], .agg #[.slice D m d]] w (zbW w (Nat.gcd x y))
 coprime : ∀ (x y : Nat) (A D : Option Addr) (n m c d : Nat) (w : World), zag w x A n c → zag w y D m d → n ≤ 1073741824 → m ≤ 1073741824 → zao w → Calls Tryz.prog 46 #[.agg #[.slice A n c], .agg #[.slice D m d]] w fun e w' => e = .returned (.bool (copB x y)) ∧ Below w.heap.size w w'
 reduce : ∀ (x y : Nat) (A D : Option Addr) (n m c d : Nat) (w : World), zag w x A n c → zag w y D m d → n ≤ 1073741824 → m ≤ 1073741824 → zao w → Calls Tryz.prog 58 #[.agg #[.slice A n c], .agg #[.slice D m d]] w (zhd w (x / Nat.gcd x y) (y / Nat.gcd x y))
theorem form_eq {r : Rat} {t : Int} {d : Nat} (hd : d ≠ 0) (hc : Nat.gcd t.natAbs d = 1) (h : r = Rat.divInt t d) : r.num = t ∧ r.den = d := by
 have e : (⟨t, d, hd, hc⟩ : Rat) = Rat.divInt t d := Rat.mk_eq_divInt
 rw [← e] at h
 subst h
 exact ⟨rfl, rfl⟩
theorem sgnI_div (t : Int) (h : Nat) (hd : h ∣ t.natAbs) : t = (h : Int) * zax (decide (t < 0)) (t.natAbs / h) := by
 obtain ⟨k, hk⟩ := hd
 by_cases h0 : h = 0
 ·subst h0; rw [Nat.zero_mul] at hk; have : t = 0 := Int.natAbs_eq_zero.1 hk; subst this; simp
 have e : t.natAbs / h = k := by rw [hk]; exact Nat.mul_div_cancel_left _ (Nat.pos_of_ne_zero h0)
 rw [e]
 unfold zax
 by_cases ht : t < 0
 ·rw [decide_eq_true ht, if_pos rfl, Int.mul_neg, ← Int.natCast_mul, ← hk]; omega
 ·rw [decide_eq_false ht, if_neg (by decide), ← Int.natCast_mul, ← hk]; omega
theorem zli {p1 p2 t : Int} {q1 mA mB : Nat} (hc : Nat.gcd p1.natAbs q1 = 1) (hA : mA ∣ q1) (hm : Nat.gcd mA mB = 1) (ht : t = p1 * mB + p2 * mA) : Nat.gcd t.natAbs mA = 1 := by
 refine Nat.dvd_one.1 ?_
 have h1 : Nat.gcd t.natAbs mA ∣ mA := Nat.gcd_dvd_right _ _
 have h2 : Nat.gcd t.natAbs mA ∣ t.natAbs := Nat.gcd_dvd_left _ _
 generalize Nat.gcd t.natAbs mA = d at *
 have h3 : (d : Int) ∣ p1 * mB := by
  have a := Int.ofNat_dvd_left.2 h2
  have b : (d : Int) ∣ p2 * mA := Int.dvd_trans (Int.ofNat_dvd.2 h1) (Int.dvd_mul_left _ _)
  have c := Int.dvd_sub a b
  rw [ht, Int.add_sub_cancel] at c
  exact c
 have h4 : d ∣ p1.natAbs * mB := by
  have := Int.ofNat_dvd_left.1 h3
  rwa [Int.natAbs_mul, Int.natAbs_natCast] at this
 have h5 : Nat.Coprime d mB := Nat.Coprime.coprime_dvd_left h1 hm
 have h6 : d ∣ p1.natAbs := h5.dvd_of_dvd_mul_right h4
 have h7 := Nat.dvd_gcd h6 (Nat.dvd_trans h1 hA)
 rwa [hc] at h7
theorem zlb (a b : Rat) {mA mB : Nat} {t : Int} (hA : mA = a.den / Nat.gcd a.den b.den) (hB : mB = b.den / Nat.gcd a.den b.den) (ht : t = a.num * mB + b.num * mA) :
  (a + b).num = zax (decide (t < 0)) (t.natAbs / Nat.gcd t.natAbs b.den) ∧ (a + b).den = mA * (b.den / Nat.gcd t.natAbs b.den) := by
 have g0 : 0 < Nat.gcd a.den b.den := Nat.gcd_pos_of_pos_left _ (Nat.pos_of_ne_zero a.den_nz)
 have k0 : 0 < Nat.gcd t.natAbs b.den := Nat.gcd_pos_of_pos_right _ (Nat.pos_of_ne_zero b.den_nz)
 have ea : Nat.gcd a.den b.den * mA = a.den := by rw [hA]; exact Nat.mul_div_cancel' (Nat.gcd_dvd_left _ _)
 have eb : Nat.gcd a.den b.den * mB = b.den := by rw [hB]; exact Nat.mul_div_cancel' (Nat.gcd_dvd_right _ _)
 have hm : Nat.gcd mA mB = 1 := by rw [hA, hB]; exact Nat.gcd_div_gcd_div_gcd_of_pos_left (Nat.pos_of_ne_zero a.den_nz)
 have hp : Nat.gcd t.natAbs mA = 1 := zli a.reduced ⟨_, (Nat.mul_comm mA _ ▸ ea).symm⟩ hm ht
 have eh : Nat.gcd t.natAbs b.den * (b.den / Nat.gcd t.natAbs b.den) = b.den := Nat.mul_div_cancel' (Nat.gcd_dvd_right _ _)
 have et := sgnI_div t (Nat.gcd t.natAbs b.den) (Nat.gcd_dvd_left _ _)
 have hq : Nat.gcd (t.natAbs / Nat.gcd t.natAbs b.den) (b.den / Nat.gcd t.natAbs b.den) = 1 := Nat.gcd_div_gcd_div_gcd_of_pos_right (Nat.pos_of_ne_zero b.den_nz)
 have mA0 : mA ≠ 0 := fun h => a.den_nz (by rw [← ea, h]; rfl)
 have r0 : b.den / Nat.gcd t.natAbs b.den ≠ 0 := fun h => b.den_nz (by rw [← eh, h]; rfl)
 refine form_eq (Nat.mul_ne_zero mA0 r0) ?_ ?_
 ·rw [zbo]
  refine Nat.Coprime.mul_right ?_ hq
  exact Nat.Coprime.coprime_dvd_left (Nat.div_dvd_of_dvd (Nat.gcd_dvd_left _ _)) hp
 ·have e1 : a + b = Rat.divInt (a.num * b.den + b.num * a.den) ((a.den * b.den : Nat) : Int) := by rw [Rat.add_def']; rfl
  have e2 : a.num * (b.den : Int) + b.num * (a.den : Int) = (Nat.gcd a.den b.den : Int) * t := by
   rw [ht]
   generalize Nat.gcd a.den b.den = g at *
   rw [← eb, ← ea, Int.natCast_mul, Int.natCast_mul, Int.mul_add, Int.mul_left_comm, Int.mul_left_comm b.num]
  have e3 : ((a.den * b.den : Nat) : Int) = (Nat.gcd a.den b.den : Int) * ((mA * b.den : Nat) : Int) := by
   generalize Nat.gcd a.den b.den = g at *
   rw [← ea, Nat.mul_assoc, Int.natCast_mul]
  rw [e1, e2, e3, Rat.divInt_mul_left (by omega)]
  generalize Nat.gcd t.natAbs b.den = h at *
  have e4 : ((mA * b.den : Nat) : Int) = (h : Int) * ((mA * (b.den / h) : Nat) : Int) := by
   conv => lhs; rw [← eh]
   rw [Nat.mul_left_comm, Int.natCast_mul]
  rw [e4]
  conv => lhs; rw [et]
  exact Rat.divInt_mul_left (by omega)
theorem zkZ (a : Rat) (h : a ≠ 0) : (a⁻¹).num = zax (decide (a.num < 0)) a.den ∧ (a⁻¹).den = a.num.natAbs := by
 have hn : a.num ≠ 0 := fun e => h (Rat.num_eq_zero.1 e)
 constructor
 ·rw [Rat.num_inv]
  unfold zax
  rcases Int.lt_or_gt_of_ne hn with h1 | h1
  ·rw [Int.sign_eq_neg_one_of_neg h1, decide_eq_true h1, if_pos rfl]; omega
  ·rw [Int.sign_eq_one_of_pos h1, decide_eq_false (by omega), if_neg (by decide)]; omega
 ·rw [Rat.den_inv, if_neg hn]
theorem zkO (a : Rat) : (-a).num = zax (!decide (a.num < 0)) a.num.natAbs ∧ (-a).den = a.den := by
 refine ⟨?_, rfl⟩
 rw [Rat.neg_num]
 unfold zax
 by_cases h : a.num < 0
 ·simp [h]; omega
 ·simp [h]; omega
theorem zkw (a : Rat) : (a.abs).num = zax false a.num.natAbs ∧ (a.abs).den = a.den := by
 by_cases h : 0 ≤ a
 ·rw [Rat.abs_of_nonneg h]
  have := Rat.num_nonneg.2 h
  exact ⟨by unfold zax; simp; omega, rfl⟩
 ·rw [Rat.abs_of_nonpos (Rat.le_of_lt (Rat.not_le.1 h))]
  refine ⟨?_, rfl⟩
  rw [Rat.neg_num]
  have : ¬ 0 ≤ a.num := fun h1 => h (Rat.num_nonneg.1 h1)
  unfold zax; simp; omega
theorem zkv {a b : Rat} (ha : a.den = 1) (hb : b.den = 1) : (a + b) = ((a.num + b.num : Int) : Rat) := by
 have h1 : a = ((a.num : Int) : Rat) := Rat.ext (by rw [Rat.num_intCast]) (by rw [Rat.den_intCast, ha])
 have h2 : b = ((b.num : Int) : Rat) := Rat.ext (by rw [Rat.num_intCast]) (by rw [Rat.den_intCast, hb])
 rw [Rat.intCast_add, ← h1, ← h2]
set_option maxRecDepth 100000
theorem zcv (x y : Nat) (A D : Option Addr) (n m c d : Nat) (w : World) (hA : zal w x A n c) (hD : zal w y D m d) (hn : n ≤ 1073741824) (hm : m ≤ 1073741824) :
  Calls Tryz.prog 67 #[.slice A n c, .slice D m d] w (GivesH w (Nat.gcd x y)) := by
 by_cases hx : x = 0
 ·have e : n = 0 := by rw [hA.len, hx, zbH]; rfl
  have HD := Lib.hid hD
  have hg : Nat.gcd x y = y := by rw [hx, Nat.gcd_zero_left]
  rw [hg]
  subst e
  clear hA hD hx hg
  go_enter Tryz.func67, Tryz.ntmps67
  go_wp2
  go_ret
  exact ⟨D, m, d, rfl, HD.out, Below.refl _ _⟩
 ·by_cases hy : y = 0
  ·have e : m = 0 := by rw [hD.len, hy, zbH]; rfl
   have hn0 := zcZ hA hx
   have z1 : ((n : Int) == 0) = false := by simp; omega
   have HA := Lib.hid hA
   have hg : Nat.gcd x y = x := by rw [hy, Nat.gcd_zero_right]
   rw [hg]
   subst e
   clear hA hD hx hy hg hn0
   go_enter Tryz.func67, Tryz.ntmps67
   go_wp2
   go_ret
   exact ⟨A, n, c, rfl, HA.out, Below.refl _ _⟩
  ·refine (ref5_gcd x y A D n m c d w hA hD hn hm hx hy).mono fun e w' hg => ?_
   obtain ⟨A', n', c', he, hh, hb⟩ := hg.elim
   exact ⟨A', n', c', he, hh, hb⟩
end Go.Proofs.YtgigccjiblaefaaGreatDoor
