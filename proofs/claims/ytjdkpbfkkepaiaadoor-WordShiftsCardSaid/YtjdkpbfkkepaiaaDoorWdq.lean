/-
  Plain arithmetic behind math/bits.Div64: one digit of the quotient, guessed and mended; two digits; the shift ahead. Conditions: none beyond each lemma's own.
-/
import Derived.Test.YtjdkpbfkkepaiaaDoorWd0
namespace Go.Proofs.YtjdkpbfkkepaiaaDoor
open Go

theorem dg_mul (q Y : Int) : q * Y = (q * (Y / 4294967296)) * 4294967296 + q * (Y % 4294967296) := by
  have h : Y = Y / 4294967296 * 4294967296 + Y % 4294967296 := by omega
  calc q * Y = q * (Y / 4294967296 * 4294967296 + Y % 4294967296) := by rw [← h]
    _ = _ := by rw [Int.mul_add, Int.mul_assoc]

/-- What is divided for one digit; the digit; what is left. -/
def dgN (U u : Int) : Int := U * 4294967296 + u
def dgQ (U u Y : Int) : Int := dgN U u / Y
def dgR (U u Y : Int) : Int := dgN U u % Y

/-- Where the loop stands: q is the guess, r what the guess leaves of the high half. -/
structure Dig (U u Y q r : Int) : Prop where
  sum : U = q * (Y / 4294967296) + r
  low : 0 ≤ r
  q_lo : dgQ U u Y ≤ q
  q_hi : q ≤ 4294967297

section
variable {U u Y q r : Int}

theorem dgQ_bd (hU : 0 ≤ U) (hUY : U < Y) (hu : 0 ≤ u) (hu' : u < 4294967296) : 0 ≤ dgQ U u Y ∧ dgQ U u Y < 4294967296 := by
  unfold dgQ dgN
  refine ⟨Int.ediv_nonneg (by omega) (by omega), Int.ediv_lt_of_lt_mul (by omega) ?_⟩
  have : (U + 1) * 4294967296 ≤ Y * 4294967296 := Int.mul_le_mul_of_nonneg_right (by omega) (by omega)
  omega
theorem dgR_bd (hY : 0 < Y) : 0 ≤ dgR U u Y ∧ dgR U u Y < Y := ⟨Int.emod_nonneg _ (by omega), Int.emod_lt_of_pos _ hY⟩
theorem dg_whole (U u Y : Int) : dgQ U u Y * Y + dgR U u Y = dgN U u := by unfold dgQ dgR; rw [Int.mul_comm]; exact Int.mul_ediv_add_emod _ _

/-- What is at most the digit: what times Y is at most what is divided. -/
theorem le_dgQ (hY : 0 < Y) : q ≤ dgQ U u Y ↔ q * Y ≤ dgN U u := by unfold dgQ; exact Int.le_ediv_iff_mul_le hY

theorem Dig.start (hU : 0 ≤ U) (hUY : U < Y) (hY : 9223372036854775808 ≤ Y) (hY' : Y < 18446744073709551616) (hu : 0 ≤ u) (hu' : u < 4294967296) :
    Dig U u Y (U / (Y / 4294967296)) (U - U / (Y / 4294967296) * (Y / 4294967296)) := by
  have hA : 2147483648 ≤ Y / 4294967296 := by omega
  have hm := Int.mul_ediv_add_emod U (Y / 4294967296)
  have hr0 := Int.emod_nonneg U (show Y / 4294967296 ≠ 0 by omega)
  rw [Int.mul_comm] at hm
  refine ⟨by omega, by omega, ?_, ?_⟩
  · refine (Int.le_ediv_iff_mul_le (by omega)).2 ?_
    have h1 := (le_dgQ (U := U) (u := u) (Y := Y) (q := dgQ U u Y) (by omega)).1 (Int.le_refl _)
    have hb := dgQ_bd hU hUY hu hu'
    have h2 := dg_mul (dgQ U u Y) Y
    have h3 : 0 ≤ dgQ U u Y * (Y % 4294967296) := Int.mul_nonneg hb.1 (by omega)
    unfold dgN at h1
    omega
  · have h4 : U / (Y / 4294967296) < 4294967298 := by
      refine Int.ediv_lt_of_lt_mul (by omega) ?_
      omega
    omega

/-- The test says yes: the guess is too great. -/
theorem Dig.down (h : Dig U u Y q r) (hU : 0 ≤ U) (hUY : U < Y) (hY : 9223372036854775808 ≤ Y) (hu : 0 ≤ u) (hu' : u < 4294967296)
    (ht : 4294967296 ≤ q ∨ 4294967296 * r + u < q * (Y % 4294967296)) : Dig U u Y (q - 1) (r + Y / 4294967296) := by
  have hb := dgQ_bd hU hUY hu hu'
  obtain ⟨hs, hl, h1, h2⟩ := h
  refine ⟨by rw [Int.sub_mul]; omega, by omega, ?_, by omega⟩
  rcases ht with ht | ht
  · omega
  · have : ¬ q ≤ dgQ U u Y := by
      rw [le_dgQ (by omega)]
      have := dg_mul q Y
      unfold dgN
      omega
    omega
/-- The test says no: the guess is the digit. -/
theorem Dig.done (h : Dig U u Y q r) (hY : 9223372036854775808 ≤ Y) (ht : q * (Y % 4294967296) ≤ 4294967296 * r + u) : q = dgQ U u Y := by
  obtain ⟨hs, hl, h1, h2⟩ := h
  have : q ≤ dgQ U u Y := by
    rw [le_dgQ (by omega)]
    have := dg_mul q Y
    unfold dgN
    omega
  omega
/-- What is left has grown past 32 bits: the guess is the digit. -/
theorem Dig.past (h : Dig U u Y q r) (hY : 9223372036854775808 ≤ Y) (hu : 0 ≤ u) (hq : q ≤ 4294967296) (hr : 4294967296 ≤ r) : q = dgQ U u Y := by
  refine h.done hY ?_
  have h0 : q * (Y % 4294967296) ≤ 4294967296 * (Y % 4294967296) := Int.mul_le_mul_of_nonneg_right hq (by omega)
  omega
/-- No product of the test runs over. -/
theorem Dig.room (h : Dig U u Y q r) (hU : 0 ≤ U) (hUY : U < Y) (hu : 0 ≤ u) (hu' : u < 4294967296) (hr : r < 4294967296) :
    0 ≤ q ∧ 0 ≤ q * (Y % 4294967296) ∧ q * (Y % 4294967296) < 18446744073709551616 ∧ 0 ≤ 4294967296 * r + u ∧ 4294967296 * r + u < 18446744073709551616 := by
  have hb := dgQ_bd hU hUY hu hu'
  obtain ⟨hs, hl, h1, h2⟩ := h
  have h3 : q * (Y % 4294967296) ≤ 4294967297 * (Y % 4294967296) := Int.mul_le_mul_of_nonneg_right h2 (by omega)
  have h4 : 0 ≤ q * (Y % 4294967296) := Int.mul_nonneg (by omega) (by omega)
  omega

/-- What is left behind a digit, as the code reckons it: all wraps fall away. -/
theorem dg_left (hY : 0 < Y) (hY' : Y < 18446744073709551616) :
    ((U * 4294967296 % 18446744073709551616 + u) % 18446744073709551616 - dgQ U u Y * Y % 18446744073709551616) % 18446744073709551616 = dgR U u Y := by
  have h := dg_whole U u Y
  have hb := dgR_bd (U := U) (u := u) hY
  unfold dgN at h
  omega
end

/-- Two digits make the quotient. -/
theorem dg_two (U V Y : Int) (hU : 0 ≤ U) (hUY : U < Y) :
    dgQ U (V / 4294967296) Y * 4294967296 + dgQ (dgR U (V / 4294967296) Y) (V % 4294967296) Y = (U * 18446744073709551616 + V) / Y ∧
    dgR (dgR U (V / 4294967296) Y) (V % 4294967296) Y = (U * 18446744073709551616 + V) % Y := by
  have hY : 0 < Y := by omega
  have h1 := dg_whole U (V / 4294967296) Y
  have h2 := dg_whole (dgR U (V / 4294967296) Y) (V % 4294967296) Y
  have b2 := dgR_bd (U := dgR U (V / 4294967296) Y) (u := V % 4294967296) hY
  have key : Y * (dgQ U (V / 4294967296) Y * 4294967296 + dgQ (dgR U (V / 4294967296) Y) (V % 4294967296) Y) + dgR (dgR U (V / 4294967296) Y) (V % 4294967296) Y = U * 18446744073709551616 + V := by
    generalize dgQ (dgR U (V / 4294967296) Y) (V % 4294967296) Y = q0 at *
    generalize dgR (dgR U (V / 4294967296) Y) (V % 4294967296) Y = r0 at *
    generalize dgQ U (V / 4294967296) Y = q1 at *
    generalize dgR U (V / 4294967296) Y = r1 at *
    unfold dgN at h1 h2
    rw [Int.mul_add, Int.mul_comm Y, Int.mul_comm Y, Int.mul_right_comm]
    omega
  have e1 := Int.ediv_emod_unique (a := U * 18446744073709551616 + V) (b := Y) (r := dgR (dgR U (V / 4294967296) Y) (V % 4294967296) Y) (q := dgQ U (V / 4294967296) Y * 4294967296 + dgQ (dgR U (V / 4294967296) Y) (V % 4294967296) Y) hY
  obtain ⟨g1, g2⟩ := e1.2 ⟨by rw [Int.add_comm]; exact key, b2.1, b2.2⟩
  exact ⟨g1.symm, g2.symm⟩

/-- Shifted up, both, the quotient is the same, and what is left is shifted up, too. -/
theorem dg_shift (M y P : Int) (hP : 0 < P) : (M * P) / (y * P) = M / y ∧ (M * P) % (y * P) / P = M % y := by
  refine ⟨Int.mul_ediv_mul_of_pos_left _ _ hP, ?_⟩
  rw [Int.mul_comm M, Int.mul_comm y, Int.mul_emod_mul_of_pos _ _ hP]
  exact Int.mul_ediv_cancel_left _ (by omega)

/-- The shift ahead: the divisor fills its word, and what is divided keeps to two words. -/
theorem dg_norm (hi lo y : Int) (s : Nat) (hs : s ≤ 63) (hh : 0 ≤ hi) (hy0 : hi < y) (hl : 0 ≤ lo) (hl' : lo < 18446744073709551616) :
    0 ≤ hi * 2 ^ s + lo / 2 ^ (64 - s) ∧ hi * 2 ^ s + lo / 2 ^ (64 - s) < y * 2 ^ s ∧
    (hi * 2 ^ s + lo / 2 ^ (64 - s)) * 18446744073709551616 + lo * 2 ^ s % 18446744073709551616 = (hi * 18446744073709551616 + lo) * 2 ^ s := by
  have hp : (0 : Int) < 2 ^ s := Int.pow_pos (by decide)
  have hp' : (0 : Int) < 2 ^ (64 - s) := Int.pow_pos (by decide)
  have hpp : (2 : Int) ^ (64 - s) * 2 ^ s = 18446744073709551616 := by
    rw [← Int.pow_add, show 64 - s + s = 64 from by omega]; decide
  have hlt : lo / 2 ^ (64 - s) < 2 ^ s := by
    refine Int.ediv_lt_of_lt_mul hp' ?_
    rw [Int.mul_comm, hpp]; exact hl'
  have h0 : 0 ≤ lo / 2 ^ (64 - s) := Int.ediv_nonneg hl (by omega)
  have hh2 : 0 ≤ hi * 2 ^ s := Int.mul_nonneg hh (by omega)
  have hstep : (hi + 1) * 2 ^ s ≤ y * 2 ^ s := Int.mul_le_mul_of_nonneg_right (by omega) (by omega)
  have e : lo * 2 ^ s / 18446744073709551616 = lo / 2 ^ (64 - s) := by
    rw [← hpp]; exact Int.mul_ediv_mul_of_pos_left _ _ hp
  have e2 := Int.mul_ediv_add_emod (lo * 2 ^ s) 18446744073709551616
  rw [e] at e2
  refine ⟨by omega, ?_, ?_⟩
  · rw [Int.add_mul] at hstep; omega
  · generalize lo / 2 ^ (64 - s) = a at *
    generalize hb : lo * 2 ^ s = b at *
    have : (hi * 18446744073709551616 + lo) * 2 ^ s = hi * 2 ^ s * 18446744073709551616 + b := by
      rw [Int.add_mul, hb, Int.mul_right_comm]
    rw [this]
    generalize hi * 2 ^ s = c at *
    omega

/-- The shift by the leading noughts fills the word. -/
theorem len_norm (y : Int) (h0 : 0 < y) (h1 : y < 18446744073709551616) : ∃ s : Nat, 64 - lenN y = s ∧ s ≤ 63 ∧ 9223372036854775808 ≤ y * 2 ^ s ∧ y * 2 ^ s < 18446744073709551616 := by
  have hb := bitLen_spec y.toNat
  have hl := bitLen_le y.toNat 64 (by omega)
  have hne : y.toNat ≠ 0 := by omega
  have h3 := hb.2 hne
  have hpos : 1 ≤ bitLen y.toNat := by
    rcases Nat.eq_zero_or_pos (bitLen y.toNat) with h | h
    · rw [h] at hb; simp at hb; omega
    · exact h
  refine ⟨64 - bitLen y.toNat, by unfold lenN; omega, by omega, ?_, ?_⟩
  · have : (2 : Nat) ^ (bitLen y.toNat - 1) * 2 ^ (64 - bitLen y.toNat) ≤ y.toNat * 2 ^ (64 - bitLen y.toNat) := Nat.mul_le_mul_right _ h3
    rw [← Nat.pow_add, show bitLen y.toNat - 1 + (64 - bitLen y.toNat) = 63 from by omega] at this
    have e : y * 2 ^ (64 - bitLen y.toNat) = ((y.toNat * 2 ^ (64 - bitLen y.toNat) : Nat) : Int) := by
      rw [Int.natCast_mul, Int.toNat_of_nonneg (by omega), Int.natCast_pow]; rfl
    rw [e]
    omega
  · have : y.toNat * 2 ^ (64 - bitLen y.toNat) < 2 ^ bitLen y.toNat * 2 ^ (64 - bitLen y.toNat) := Nat.mul_lt_mul_of_pos_right hb.1 (Nat.two_pow_pos _)
    rw [← Nat.pow_add, show bitLen y.toNat + (64 - bitLen y.toNat) = 64 from by omega] at this
    have e : y * 2 ^ (64 - bitLen y.toNat) = ((y.toNat * 2 ^ (64 - bitLen y.toNat) : Nat) : Int) := by
      rw [Int.natCast_mul, Int.toNat_of_nonneg (by omega), Int.natCast_pow]; rfl
    rw [e]
    omega

/-- The high word, shifted, and the low word's uppermost bits lie apart. -/
theorem or_join (a b : Int) (s : Nat) (h0 : 0 ≤ a) (h1 : a * 2 ^ s < 18446744073709551616) (h2 : 0 ≤ b) (h3 : b < 2 ^ s) (hs : s ≤ 63) :
    bits .or .u64 (a * 2 ^ s) b = a * 2 ^ s + b := by
  obtain ⟨a, rfl⟩ := Int.eq_ofNat_of_zero_le h0
  obtain ⟨b, rfl⟩ := Int.eq_ofNat_of_zero_le h2
  have e : (a : Int) * 2 ^ s = ((a * 2 ^ s : Nat) : Int) := by rw [Int.natCast_mul, Int.natCast_pow]; rfl
  have e3 : b < 2 ^ s := by
    have : ((2 ^ s : Nat) : Int) = (2 : Int) ^ s := by rw [Int.natCast_pow]; rfl
    omega
  have hb64 : b < 18446744073709551616 := Nat.lt_of_lt_of_le e3 (by
    have := Nat.pow_le_pow_right (n := 2) (by decide) (show s ≤ 64 from by omega)
    simpa using this)
  rw [e] at h1 ⊢
  rw [bits_or_u64_nat _ _ (by omega) hb64]
  have := Nat.shiftLeft_add_eq_or_of_lt e3 a
  rw [Nat.shiftLeft_eq] at this
  rw [← this]
  omega
end Go.Proofs.YtjdkpbfkkepaiaaDoor
