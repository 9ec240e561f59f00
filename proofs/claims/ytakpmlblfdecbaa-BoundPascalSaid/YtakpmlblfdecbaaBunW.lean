/-
  Plain arithmetic of words: no program is named here. Conditions: none beyond each lemma's own.
  Plain arithmetic behind math/bits.Div64: one digit of the quotient, guessed and mended; two digits; the shift ahead. Conditions: none beyond each lemma's own.
  A word's lowest bit. Conditions: none beyond the lemma's own.
  The contract of math/bits.Add64. Conditions: the arguments are words.
  The contract of math/bits.Sub64. Conditions: the arguments are words.
  The contract of math/bits.Mul64. Conditions: the arguments are words.
  The contract of math/bits.Len64. Conditions: the argument is a word.
  The contract of math/bits.LeadingZeros64. Conditions: the argument is a word.
  The contract of word.Add. Conditions: the arguments are words.
  The contract of word.Sub. Conditions: the arguments are words.
  The contract of word.Mul. Conditions: the arguments are words.
  The contract of word.MulAdd. Conditions: the arguments are words.
  The contract of word.Len. Conditions: the argument is a word.
  The contract of word.Lead. Conditions: the argument is a word.
-/
import Derived.Test.YtakpmlblfdecbaaRows
import Derived.Lib.TrailingZeros
import Derived.Lib.Mul64
import Derived.Laws.MathBits
import Derived.Laws.Bits64b
import Derived.WalkKit
import Derived.Lib.Hide
import Derived.Outline
import Derived.Laws.Externs
namespace Go.Proofs.Ytakpmlblfdecbaa
open Go Go.RowKit
/-! ### Sums and differences: each answer under a name of its own -/
def addLo (x y c : Int) : Int := (x + y + c % 2) % 18446744073709551616
def addHi (x y c : Int) : Int := (x + y + c % 2) / 18446744073709551616
def subLo (x y c : Int) : Int := (x - y - c % 2) % 18446744073709551616
def subHi (x y c : Int) : Int := if x < y + c % 2 then 1 else 0
def Wd (x : Int) : Prop := 0 ≤ x ∧ x < 18446744073709551616
theorem addLo_wd (x y c : Int) : Wd (addLo x y c) := by unfold Wd addLo; omega
theorem subLo_wd (x y c : Int) : Wd (subLo x y c) := by unfold Wd subLo; omega
theorem addHi_bd {x y c : Int} (hx : Wd x) (hy : Wd y) : 0 ≤ addHi x y c ∧ addHi x y c ≤ 1 := by unfold Wd at hx hy; unfold addHi; omega
theorem subHi_bd (x y c : Int) : 0 ≤ subHi x y c ∧ subHi x y c ≤ 1 := by unfold subHi; split <;> omega
theorem addHi_wd {x y c : Int} (hx : Wd x) (hy : Wd y) : Wd (addHi x y c) := by have := addHi_bd (c := c) hx hy; unfold Wd; omega
theorem subHi_wd (x y c : Int) : Wd (subHi x y c) := by have := subHi_bd x y c; unfold Wd; omega
theorem add_whole (x y c : Int) : addHi x y c * 18446744073709551616 + addLo x y c = x + y + c % 2 := by unfold addHi addLo; omega
theorem sub_whole {x y c : Int} (hx : Wd x) (hy : Wd y) : subLo x y c = x - y - c % 2 + subHi x y c * 18446744073709551616 := by
  unfold Wd at hx hy; unfold subLo subHi; split <;> omega
/-! ### Products -/
def mulHi (x y : Int) : Int := x * y / 18446744073709551616
def mulLo (x y : Int) : Int := x * y % 18446744073709551616
def maHi (x y a b : Int) : Int := (x * y + a + b) / 18446744073709551616
def maLo (x y a b : Int) : Int := (x * y + a + b) % 18446744073709551616
theorem mul_bd {x y : Int} (hx : Wd x) (hy : Wd y) : 0 ≤ x * y ∧ x * y ≤ 340282366920938463426481119284349108225 := by
  obtain ⟨a, b⟩ := hx; obtain ⟨c, d⟩ := hy
  refine ⟨Int.mul_nonneg a c, ?_⟩
  have : x * y ≤ 18446744073709551615 * 18446744073709551615 := Int.mul_le_mul (by omega) (by omega) c (by omega)
  simpa using this
theorem mulHi_wd {x y : Int} (hx : Wd x) (hy : Wd y) : Wd (mulHi x y) := by have := mul_bd hx hy; unfold Wd mulHi; omega
theorem mulHi_le {x y : Int} (hx : Wd x) (hy : Wd y) : mulHi x y ≤ 18446744073709551614 := by have := mul_bd hx hy; unfold mulHi; omega
theorem mulLo_wd (x y : Int) : Wd (mulLo x y) := by unfold Wd mulLo; omega
theorem maLo_wd (x y a b : Int) : Wd (maLo x y a b) := by unfold Wd maLo; omega
theorem maHi_wd {x y a b : Int} (hx : Wd x) (hy : Wd y) (ha : Wd a) (hb : Wd b) : Wd (maHi x y a b) := by
  have := mul_bd hx hy; unfold Wd at *; unfold maHi; omega
theorem ma_whole (x y a b : Int) : maHi x y a b * 18446744073709551616 + maLo x y a b = x * y + a + b := by unfold maHi maLo; omega
theorem mul_whole (x y : Int) : mulHi x y * 18446744073709551616 + mulLo x y = x * y := by unfold mulHi mulLo; omega
/-- How MulAdd reckons: by the product's two words and two sums that may go over. -/
theorem maLo_eq (x y a b : Int) : ((mulLo x y + a) % 18446744073709551616 + b) % 18446744073709551616 = maLo x y a b := by
  unfold mulLo maLo; omega
theorem maHi_eq (x y a b : Int) : mulHi x y + (mulLo x y + a) / 18446744073709551616 + ((mulLo x y + a) % 18446744073709551616 + b) / 18446744073709551616 = maHi x y a b := by
  unfold mulLo mulHi maHi; omega
/-! ### How many bits -/
def lenN (x : Int) : Int := (bitLen x.toNat : Nat)
def trailN (x : Int) : Int := (Lib.ctz 64 x.toNat : Nat)
theorem bitLen_le (n k : Nat) (h : n < 2 ^ k) : bitLen n ≤ k := by
  unfold bitLen
  split
  · omega
  · rename_i h0
    have := (Nat.log2_lt h0).2 h
    omega
theorem lenN_bd {x : Int} (hx : Wd x) : 0 ≤ lenN x ∧ lenN x ≤ 64 := by
  unfold Wd at hx
  have := bitLen_le x.toNat 64 (by omega)
  unfold lenN; omega
theorem ctz_le (x : Nat) (hx : x < 2 ^ 64) : Lib.ctz 64 x ≤ 64 := by
  by_cases h : x = 0
  · subst h; decide
  · have := (Lib.lowest_bit 64 x h hx).2; omega
theorem trailN_bd {x : Int} (hx : Wd x) : 0 ≤ trailN x ∧ trailN x ≤ 64 := by
  unfold Wd at hx
  have := ctz_le x.toNat (by omega)
  unfold trailN; omega
/-! ### The quotient of two words by one: the two digits of 32 bits -/
def divQ (hi lo y : Int) : Int := (hi * 18446744073709551616 + lo) / y
def divR (hi lo y : Int) : Int := (hi * 18446744073709551616 + lo) % y
theorem divR_bd (hi lo : Int) {y : Int} (hy : 0 < y) : 0 ≤ divR hi lo y ∧ divR hi lo y < y := ⟨Int.emod_nonneg _ (by omega), Int.emod_lt_of_pos _ hy⟩
theorem divQ_wd {hi lo y : Int} (h0 : Wd hi) (h1 : Wd lo) (hy : hi < y) : Wd (divQ hi lo y) := by
  unfold Wd at *; unfold divQ
  refine ⟨Int.ediv_nonneg (by omega) (by omega), ?_⟩
  refine Int.ediv_lt_of_lt_mul (by omega) ?_
  have : (hi + 1) * 18446744073709551616 ≤ y * 18446744073709551616 := Int.mul_le_mul_of_nonneg_right (by omega) (by omega)
  omega
theorem div_whole (hi lo y : Int) : y * divQ hi lo y + divR hi lo y = hi * 18446744073709551616 + lo := Int.mul_ediv_add_emod _ _
end Go.Proofs.Ytakpmlblfdecbaa
namespace Go.Proofs.Ytakpmlblfdecbaa
open Go Go.RowKit
theorem dg_mul (q Y : Int) : q * Y = (q * (Y / 4294967296)) * 4294967296 + q * (Y % 4294967296) := by
  have h : Y = Y / 4294967296 * 4294967296 + Y % 4294967296 := by omega
  calc q * Y = q * (Y / 4294967296 * 4294967296 + Y % 4294967296) := by rw [← h]
    _ = _ := by rw [Int.mul_add, Int.mul_assoc]
/-- What is divided for one digit; the digit; what is left. -/
def dgN (U u : Int) : Int := U * 4294967296 + u
def dgQ (U u Y : Int) : Int := dgN U u / Y
def dgR (U u Y : Int) : Int := dgN U u % Y
/-- Where the loop stands: q is the guess, r what the guess leaves of the high half. -/
structure Dig (U u Y q r : Int) : Prop where
  sum : U = q * (Y / 4294967296) + r
  low : 0 ≤ r
  q_lo : dgQ U u Y ≤ q
  q_hi : q ≤ 4294967297
section
variable {U u Y q r : Int}
theorem dgQ_bd (hU : 0 ≤ U) (hUY : U < Y) (hu : 0 ≤ u) (hu' : u < 4294967296) : 0 ≤ dgQ U u Y ∧ dgQ U u Y < 4294967296 := by
  unfold dgQ dgN
  refine ⟨Int.ediv_nonneg (by omega) (by omega), Int.ediv_lt_of_lt_mul (by omega) ?_⟩
  have : (U + 1) * 4294967296 ≤ Y * 4294967296 := Int.mul_le_mul_of_nonneg_right (by omega) (by omega)
  omega
theorem dgR_bd (hY : 0 < Y) : 0 ≤ dgR U u Y ∧ dgR U u Y < Y := ⟨Int.emod_nonneg _ (by omega), Int.emod_lt_of_pos _ hY⟩
theorem dg_whole (U u Y : Int) : dgQ U u Y * Y + dgR U u Y = dgN U u := by unfold dgQ dgR; rw [Int.mul_comm]; exact Int.mul_ediv_add_emod _ _
/-- What is at most the digit: what times Y is at most what is divided. -/
theorem le_dgQ (hY : 0 < Y) : q ≤ dgQ U u Y ↔ q * Y ≤ dgN U u := by unfold dgQ; exact Int.le_ediv_iff_mul_le hY
theorem Dig.start (hU : 0 ≤ U) (hUY : U < Y) (hY : 9223372036854775808 ≤ Y) (hY' : Y < 18446744073709551616) (hu : 0 ≤ u) (hu' : u < 4294967296) :
    Dig U u Y (U / (Y / 4294967296)) (U - U / (Y / 4294967296) * (Y / 4294967296)) := by
  have hA : 2147483648 ≤ Y / 4294967296 := by omega
  have hm := Int.mul_ediv_add_emod U (Y / 4294967296)
  have hr0 := Int.emod_nonneg U (show Y / 4294967296 ≠ 0 by omega)
  rw [Int.mul_comm] at hm
  refine ⟨by omega, by omega, ?_, ?_⟩
  · refine (Int.le_ediv_iff_mul_le (by omega)).2 ?_
    have h1 := (le_dgQ (U := U) (u := u) (Y := Y) (q := dgQ U u Y) (by omega)).1 (Int.le_refl _)
    have hb := dgQ_bd hU hUY hu hu'
    have h2 := dg_mul (dgQ U u Y) Y
    have h3 : 0 ≤ dgQ U u Y * (Y % 4294967296) := Int.mul_nonneg hb.1 (by omega)
    unfold dgN at h1
    omega
  · have h4 : U / (Y / 4294967296) < 4294967298 := by
      refine Int.ediv_lt_of_lt_mul (by omega) ?_
      omega
    omega
/-- The test says yes: the guess is too great. -/
theorem Dig.down (h : Dig U u Y q r) (hU : 0 ≤ U) (hUY : U < Y) (hY : 9223372036854775808 ≤ Y) (hu : 0 ≤ u) (hu' : u < 4294967296)
    (ht : 4294967296 ≤ q ∨ 4294967296 * r + u < q * (Y % 4294967296)) : Dig U u Y (q - 1) (r + Y / 4294967296) := by
  have hb := dgQ_bd hU hUY hu hu'
  obtain ⟨hs, hl, h1, h2⟩ := h
  refine ⟨by rw [Int.sub_mul]; omega, by omega, ?_, by omega⟩
  rcases ht with ht | ht
  · omega
  · have : ¬ q ≤ dgQ U u Y := by
      rw [le_dgQ (by omega)]
      have := dg_mul q Y
      unfold dgN
      omega
    omega
/-- The test says no: the guess is the digit. -/
theorem Dig.done (h : Dig U u Y q r) (hY : 9223372036854775808 ≤ Y) (ht : q * (Y % 4294967296) ≤ 4294967296 * r + u) : q = dgQ U u Y := by
  obtain ⟨hs, hl, h1, h2⟩ := h
  have : q ≤ dgQ U u Y := by
    rw [le_dgQ (by omega)]
    have := dg_mul q Y
    unfold dgN
    omega
  omega
/-- What is left has grown past 32 bits: the guess is the digit. -/
theorem Dig.past (h : Dig U u Y q r) (hY : 9223372036854775808 ≤ Y) (hu : 0 ≤ u) (hq : q ≤ 4294967296) (hr : 4294967296 ≤ r) : q = dgQ U u Y := by
  refine h.done hY ?_
  have h0 : q * (Y % 4294967296) ≤ 4294967296 * (Y % 4294967296) := Int.mul_le_mul_of_nonneg_right hq (by omega)
  omega
/-- No product of the test runs over. -/
theorem Dig.room (h : Dig U u Y q r) (hU : 0 ≤ U) (hUY : U < Y) (hu : 0 ≤ u) (hu' : u < 4294967296) (hr : r < 4294967296) :
    0 ≤ q ∧ 0 ≤ q * (Y % 4294967296) ∧ q * (Y % 4294967296) < 18446744073709551616 ∧ 0 ≤ 4294967296 * r + u ∧ 4294967296 * r + u < 18446744073709551616 := by
  have hb := dgQ_bd hU hUY hu hu'
  obtain ⟨hs, hl, h1, h2⟩ := h
  have h3 : q * (Y % 4294967296) ≤ 4294967297 * (Y % 4294967296) := Int.mul_le_mul_of_nonneg_right h2 (by omega)
  have h4 : 0 ≤ q * (Y % 4294967296) := Int.mul_nonneg (by omega) (by omega)
  omega
/-- What is left behind a digit, as the code reckons it: all wraps fall away. -/
theorem dg_left (hY : 0 < Y) (hY' : Y < 18446744073709551616) :
    ((U * 4294967296 % 18446744073709551616 + u) % 18446744073709551616 - dgQ U u Y * Y % 18446744073709551616) % 18446744073709551616 = dgR U u Y := by
  have h := dg_whole U u Y
  have hb := dgR_bd (U := U) (u := u) hY
  unfold dgN at h
  omega
end
/-- Two digits make the quotient. -/
theorem dq_two (U V Y : Int) (hU : 0 ≤ U) (hUY : U < Y) :
    dgQ U (V / 4294967296) Y * 4294967296 + dgQ (dgR U (V / 4294967296) Y) (V % 4294967296) Y = (U * 18446744073709551616 + V) / Y ∧
    dgR (dgR U (V / 4294967296) Y) (V % 4294967296) Y = (U * 18446744073709551616 + V) % Y := by
  have hY : 0 < Y := by omega
  have h1 := dg_whole U (V / 4294967296) Y
  have h2 := dg_whole (dgR U (V / 4294967296) Y) (V % 4294967296) Y
  have b2 := dgR_bd (U := dgR U (V / 4294967296) Y) (u := V % 4294967296) hY
  have key : Y * (dgQ U (V / 4294967296) Y * 4294967296 + dgQ (dgR U (V / 4294967296) Y) (V % 4294967296) Y) + dgR (dgR U (V / 4294967296) Y) (V % 4294967296) Y = U * 18446744073709551616 + V := by
    generalize dgQ (dgR U (V / 4294967296) Y) (V % 4294967296) Y = q0 at *
    generalize dgR (dgR U (V / 4294967296) Y) (V % 4294967296) Y = r0 at *
    generalize dgQ U (V / 4294967296) Y = q1 at *
    generalize dgR U (V / 4294967296) Y = r1 at *
    unfold dgN at h1 h2
    rw [Int.mul_add, Int.mul_comm Y, Int.mul_comm Y, Int.mul_right_comm]
    omega
  have e1 := Int.ediv_emod_unique (a := U * 18446744073709551616 + V) (b := Y) (r := dgR (dgR U (V / 4294967296) Y) (V % 4294967296) Y) (q := dgQ U (V / 4294967296) Y * 4294967296 + dgQ (dgR U (V / 4294967296) Y) (V % 4294967296) Y) hY
  obtain ⟨g1, g2⟩ := e1.2 ⟨by rw [Int.add_comm]; exact key, b2.1, b2.2⟩
  exact ⟨g1.symm, g2.symm⟩
/-- Shifted up, both, the quotient is the same, and what is left is shifted up, too. -/
theorem dg_shift (M y P : Int) (hP : 0 < P) : (M * P) / (y * P) = M / y ∧ (M * P) % (y * P) / P = M % y := by
  refine ⟨Int.mul_ediv_mul_of_pos_left _ _ hP, ?_⟩
  rw [Int.mul_comm M, Int.mul_comm y, Int.mul_emod_mul_of_pos _ _ hP]
  exact Int.mul_ediv_cancel_left _ (by omega)
/-- The shift ahead: the divisor fills its word, and what is divided keeps to two words. -/
theorem dg_norm (hi lo y : Int) (s : Nat) (hs : s ≤ 63) (hh : 0 ≤ hi) (hy0 : hi < y) (hl : 0 ≤ lo) (hl' : lo < 18446744073709551616) :
    0 ≤ hi * 2 ^ s + lo / 2 ^ (64 - s) ∧ hi * 2 ^ s + lo / 2 ^ (64 - s) < y * 2 ^ s ∧
    (hi * 2 ^ s + lo / 2 ^ (64 - s)) * 18446744073709551616 + lo * 2 ^ s % 18446744073709551616 = (hi * 18446744073709551616 + lo) * 2 ^ s := by
  have hp : (0 : Int) < 2 ^ s := Int.pow_pos (by decide)
  have hp' : (0 : Int) < 2 ^ (64 - s) := Int.pow_pos (by decide)
  have hpp : (2 : Int) ^ (64 - s) * 2 ^ s = 18446744073709551616 := by
    rw [← Int.pow_add, show 64 - s + s = 64 from by omega]; decide
  have hlt : lo / 2 ^ (64 - s) < 2 ^ s := by
    refine Int.ediv_lt_of_lt_mul hp' ?_
    rw [Int.mul_comm, hpp]; exact hl'
  have h0 : 0 ≤ lo / 2 ^ (64 - s) := Int.ediv_nonneg hl (by omega)
  have hh2 : 0 ≤ hi * 2 ^ s := Int.mul_nonneg hh (by omega)
  have hstep : (hi + 1) * 2 ^ s ≤ y * 2 ^ s := Int.mul_le_mul_of_nonneg_right (by omega) (by omega)
  have e : lo * 2 ^ s / 18446744073709551616 = lo / 2 ^ (64 - s) := by
    rw [← hpp]; exact Int.mul_ediv_mul_of_pos_left _ _ hp
  have e2 := Int.mul_ediv_add_emod (lo * 2 ^ s) 18446744073709551616
  rw [e] at e2
  refine ⟨by omega, ?_, ?_⟩
  · rw [Int.add_mul] at hstep; omega
  · generalize lo / 2 ^ (64 - s) = a at *
    generalize hb : lo * 2 ^ s = b at *
    have : (hi * 18446744073709551616 + lo) * 2 ^ s = hi * 2 ^ s * 18446744073709551616 + b := by
      rw [Int.add_mul, hb, Int.mul_right_comm]
    rw [this]
    generalize hi * 2 ^ s = c at *
    omega
/-- The shift by the leading noughts fills the word. -/
theorem len_norm (y : Int) (h0 : 0 < y) (h1 : y < 18446744073709551616) : ∃ s : Nat, 64 - lenN y = s ∧ s ≤ 63 ∧ 9223372036854775808 ≤ y * 2 ^ s ∧ y * 2 ^ s < 18446744073709551616 := by
  have hb := bitLen_spec y.toNat
  have hl := bitLen_le y.toNat 64 (by omega)
  have hne : y.toNat ≠ 0 := by omega
  have h3 := hb.2 hne
  have hpos : 1 ≤ bitLen y.toNat := by
    rcases Nat.eq_zero_or_pos (bitLen y.toNat) with h | h
    · rw [h] at hb; simp at hb; omega
    · exact h
  refine ⟨64 - bitLen y.toNat, by unfold lenN; omega, by omega, ?_, ?_⟩
  · have : (2 : Nat) ^ (bitLen y.toNat - 1) * 2 ^ (64 - bitLen y.toNat) ≤ y.toNat * 2 ^ (64 - bitLen y.toNat) := Nat.mul_le_mul_right _ h3
    rw [← Nat.pow_add, show bitLen y.toNat - 1 + (64 - bitLen y.toNat) = 63 from by omega] at this
    have e : y * 2 ^ (64 - bitLen y.toNat) = ((y.toNat * 2 ^ (64 - bitLen y.toNat) : Nat) : Int) := by
      rw [Int.natCast_mul, Int.toNat_of_nonneg (by omega), Int.natCast_pow]; rfl
    rw [e]
    omega
  · have : y.toNat * 2 ^ (64 - bitLen y.toNat) < 2 ^ bitLen y.toNat * 2 ^ (64 - bitLen y.toNat) := Nat.mul_lt_mul_of_pos_right hb.1 (Nat.two_pow_pos _)
    rw [← Nat.pow_add, show bitLen y.toNat + (64 - bitLen y.toNat) = 64 from by omega] at this
    have e : y * 2 ^ (64 - bitLen y.toNat) = ((y.toNat * 2 ^ (64 - bitLen y.toNat) : Nat) : Int) := by
      rw [Int.natCast_mul, Int.toNat_of_nonneg (by omega), Int.natCast_pow]; rfl
    rw [e]
    omega
/-- The high word, shifted, and the low word's uppermost bits lie apart. -/
theorem or_join (a b : Int) (s : Nat) (h0 : 0 ≤ a) (h1 : a * 2 ^ s < 18446744073709551616) (h2 : 0 ≤ b) (h3 : b < 2 ^ s) (hs : s ≤ 63) :
    bits .or .u64 (a * 2 ^ s) b = a * 2 ^ s + b := by
  obtain ⟨a, rfl⟩ := Int.eq_ofNat_of_zero_le h0
  obtain ⟨b, rfl⟩ := Int.eq_ofNat_of_zero_le h2
  have e : (a : Int) * 2 ^ s = ((a * 2 ^ s : Nat) : Int) := by rw [Int.natCast_mul, Int.natCast_pow]; rfl
  have e3 : b < 2 ^ s := by
    have : ((2 ^ s : Nat) : Int) = (2 : Int) ^ s := by rw [Int.natCast_pow]; rfl
    omega
  have hb64 : b < 18446744073709551616 := Nat.lt_of_lt_of_le e3 (by
    have := Nat.pow_le_pow_right (n := 2) (by decide) (show s ≤ 64 from by omega)
    simpa using this)
  rw [e] at h1 ⊢
  rw [bits_or_u64_nat _ _ (by omega) hb64]
  have := Nat.shiftLeft_add_eq_or_of_lt e3 a
  rw [Nat.shiftLeft_eq] at this
  rw [← this]
  omega
end Go.Proofs.Ytakpmlblfdecbaa
namespace Go.Proofs.Ytakpmlblfdecbaa
open Go Go.RowKit
theorem low1 (c : Int) (hc : Wd c) : bits .and .u64 c 1 = c % 2 := by
  obtain ⟨h0, h1⟩ := hc
  obtain ⟨c, rfl⟩ := Int.eq_ofNat_of_zero_le h0
  have h := bits_and_u64_nat c 1 (by omega) (by omega)
  have e : c &&& 1 = c % 2 := Nat.and_two_pow_sub_one_eq_mod c 1
  rw [e] at h
  simpa using h
end Go.Proofs.Ytakpmlblfdecbaa
namespace Go.Proofs.Ytakpmlblfdecbaa
open Go Go.RowKit

end Go.Proofs.Ytakpmlblfdecbaa
namespace Go.Proofs.Ytakpmlblfdecbaa
open Go Go.RowKit
/-! ### math/bits.Add64, Sub64: the model's own entries -/
def sub64E : Array Value → Sem Value := fun args => do
  let (x, y, b) ← Extern.MathBitsCarry.three "Sub64" args
  pure (Extern.MathBitsCarry.pair ((x + Extern.MathBitsCarry.m64 - y - b) % Extern.MathBitsCarry.m64) (if x < y + b then 1 else 0))
theorem run_sub64E (P : Program) (x y b : Nat) (hb : b ≤ 1) (w : World) :
    (sub64E #[.int .u64 x, .int .u64 y, .int .u64 b]).run P w =
      .ok (.tuple #[.int .u64 (((x + 18446744073709551616 - y - b) % 18446744073709551616 : Nat) : Int), .int .u64 ((if x < y + b then 1 else 0 : Nat) : Int)]) w := by
  have : b = 0 ∨ b = 1 := by omega
  rcases this with rfl | rfl <;> rfl
end Go.Proofs.Ytakpmlblfdecbaa
namespace Go.Proofs.Ytakpmlblfdecbaa
open Go Go.RowKit
/-! ### math/bits.Mul64: the school method on halves -/
namespace M64
theorem maskN (a : Nat) (ha : a < 18446744073709551616) : bits .and .u64 (a : Int) 4294967295 = ((a % 4294967296 : Nat) : Int) := by
  have h := bits_and_u64_nat a 4294967295 ha (by omega)
  have e : a &&& 4294967295 = a % 4294967296 := Nat.and_two_pow_sub_one_eq_mod a 32
  rw [e] at h
  exact h
theorem divN (a : Nat) : (a : Int) / 4294967296 = ((a / 4294967296 : Nat) : Int) := by omega
theorem mulN (a b : Nat) : (a : Int) * (b : Int) = ((a * b : Nat) : Int) := (Int.natCast_mul a b).symm
theorem addN (a b : Nat) : (a : Int) + (b : Int) = ((a + b : Nat) : Int) := (Int.natCast_add a b).symm
theorem wrapN (a : Nat) (ha : a < 18446744073709551616) : IntKind.u64.wrap (a : Int) = (a : Int) := by rw [IntKind.wrap_u64]; omega
theorem wrapM (a : Nat) : IntKind.u64.wrap (a : Int) = ((a % 18446744073709551616 : Nat) : Int) := by rw [IntKind.wrap_u64]; omega
end M64
set_option maxHeartbeats 1000000 in
theorem mul64_nat (x y : Nat) (hx : x < 18446744073709551616) (hy : y < 18446744073709551616) (w : World) :
    Calls Try.prog 22 #[.int .u64 x, .int .u64 y] w fun e w' => e = .returned (.tuple #[.int .u64 ((x * y / 18446744073709551616 : Nat) : Int), .int .u64 ((x * y % 18446744073709551616 : Nat) : Int)]) ∧ w = w' := by
  obtain ⟨bd, bt, bw, hhi⟩ := Lib.mul64_hi x y hx hy
  have ba := Lib.half_mul_le (a := x / 4294967296) (b := y / 4294967296) (by omega) (by omega)
  have bb := Lib.half_mul_le (a := x / 4294967296) (b := y % 4294967296) (by omega) (by omega)
  have bc := Lib.half_mul_le (a := x % 4294967296) (b := y / 4294967296) (by omega) (by omega)
  have ba' : x / 4294967296 * (y / 4294967296) < 18446744073709551616 := by omega
  have bb' : x / 4294967296 * (y % 4294967296) < 18446744073709551616 := by omega
  have bc' : x % 4294967296 * (y / 4294967296) < 18446744073709551616 := by omega
  have bh1 : x / 4294967296 * (y / 4294967296) + (x / 4294967296 * (y % 4294967296) + x % 4294967296 * (y % 4294967296) / 4294967296) / 4294967296 < 18446744073709551616 := by omega
  have bh : x / 4294967296 * (y / 4294967296) + (x / 4294967296 * (y % 4294967296) + x % 4294967296 * (y % 4294967296) / 4294967296) / 4294967296 + ((x / 4294967296 * (y % 4294967296) + x % 4294967296 * (y % 4294967296) / 4294967296) % 4294967296 + x % 4294967296 * (y / 4294967296)) / 4294967296 < 18446744073709551616 := by omega
  go_enter Try.func22, Try.ntmps22
  go_wp2
  simp only [M64.maskN x hx, M64.maskN y hy, M64.divN, M64.mulN, M64.addN, M64.wrapN _ bd, M64.wrapN _ bb', M64.wrapN _ bt, M64.maskN _ bt, M64.wrapN _ bc', M64.wrapN _ bw, M64.wrapN _ ba', M64.wrapN _ bh1, M64.wrapN _ bh, M64.wrapM (x * y)]
  rw [hhi]
  go_ret2
  exact ⟨rfl, rfl⟩
theorem mul64 (x y : Int) (hx : Wd x) (hy : Wd y) (w : World) :
    Calls Try.prog 22 #[.int .u64 x, .int .u64 y] w fun e w' => e = .returned (.tuple #[.int .u64 (mulHi x y), .int .u64 (mulLo x y)]) ∧ w = w' := by
  obtain ⟨hx0, hx1⟩ := hx
  obtain ⟨hy0, hy1⟩ := hy
  obtain ⟨x, rfl⟩ := Int.eq_ofNat_of_zero_le hx0
  obtain ⟨y, rfl⟩ := Int.eq_ofNat_of_zero_le hy0
  have e1 : mulHi x y = ((x * y / 18446744073709551616 : Nat) : Int) := by unfold mulHi; rw [← Int.natCast_mul]; omega
  have e2 : mulLo x y = ((x * y % 18446744073709551616 : Nat) : Int) := by unfold mulLo; rw [← Int.natCast_mul]; omega
  rw [e1, e2]
  exact mul64_nat x y (by omega) (by omega) w
end Go.Proofs.Ytakpmlblfdecbaa
namespace Go.Proofs.Ytakpmlblfdecbaa
open Go Go.RowKit
/-! ### math/bits.Len64, LeadingZeros64, TrailingZeros64 -/
theorem len_way (x z : Int) (k : Nat) (hk : k ≤ 56) (h0 : 0 ≤ z) (h1 : z < 256) (hz : z.toNat = x.toNat / 2 ^ k) (hne : k = 0 ∨ z ≠ 0) : wrap64 ((k : Int) + wrap64 ((bitLen z.toNat : Nat) : Int)) = lenN x := by
  have hl := bitLen_le8 z.toNat (by omega)
  have e1 : wrap64 ((bitLen z.toNat : Nat) : Int) = ((bitLen z.toNat : Nat) : Int) := IntWalk.wrap64_in _ (by omega)
  have e2 : bitLen x.toNat = k + bitLen z.toNat := by
    rcases hne with rfl | hne
    · rw [hz]; simp
    · rw [hz]; exact bitLen_shift x.toNat k (by rw [← hz]; omega)
  rw [e1, IntWalk.wrap64_in _ (by omega)]
  unfold lenN
  rw [e2]
  omega
theorem len_way0 (x : Int) (h0 : 0 ≤ x) (h1 : x < 256) : wrap64 (wrap64 ((bitLen x.toNat : Nat) : Int)) = lenN x := by
  have hl := bitLen_le8 x.toNat (by omega)
  have e : wrap64 ((bitLen x.toNat : Nat) : Int) = ((bitLen x.toNat : Nat) : Int) := IntWalk.wrap64_in _ (by omega)
  rw [e, e]
  rfl
set_option maxRecDepth 100000 in
set_option maxHeartbeats 1000000 in
theorem len64 (x : Int) (hx : Wd x) (w : World) :
    Calls Try.prog 21 #[.int .u64 x] w fun e w' => e = .returned (.int .i64 (lenN x)) ∧ w = w' := by
  obtain ⟨h0, h1⟩ := hx
  go_enter Try.func21, Try.ntmps21
  go_wp2
  all_goals
    go_ret
    refine ⟨congrArg Ending.returned (congrArg (Value.int IntKind.i64) ?_), rfl⟩
    rw [len8tab_get]
  all_goals first
    | exact len_way x (x / 4294967296 / 65536 / 256) 56 (by omega) (by omega) (by omega) (by omega) (.inr (by omega))
    | exact len_way x (x / 4294967296 / 65536) 48 (by omega) (by omega) (by omega) (by omega) (.inr (by omega))
    | exact len_way x (x / 4294967296 / 256) 40 (by omega) (by omega) (by omega) (by omega) (.inr (by omega))
    | exact len_way x (x / 4294967296) 32 (by omega) (by omega) (by omega) (by omega) (.inr (by omega))
    | exact len_way x (x / 65536 / 256) 24 (by omega) (by omega) (by omega) (by omega) (.inr (by omega))
    | exact len_way x (x / 65536) 16 (by omega) (by omega) (by omega) (by omega) (.inr (by omega))
    | exact len_way x (x / 256) 8 (by omega) (by omega) (by omega) (by omega) (.inr (by omega))
    | exact len_way0 x (by omega) (by omega)
end Go.Proofs.Ytakpmlblfdecbaa
namespace Go.Proofs.Ytakpmlblfdecbaa
open Go Go.RowKit
theorem lead64 (x : Int) (hx : Wd x) (w : World) :
    Calls Try.prog 24 #[.int .u64 x] w fun e w' => e = .returned (.int .i64 (64 - lenN x)) ∧ w = w' := by
  have H := Lib.hid (len64 x hx w)
  have b := lenN_bd hx
  obtain ⟨b0, b1⟩ := b
  go_enter Try.func24, Try.ntmps24
  go_wp2_with (go_at_call 21; refine H.out.mono ?_; rintro e w' ⟨rfl, rfl⟩)
  go_ret
  exact ⟨rfl, rfl⟩
end Go.Proofs.Ytakpmlblfdecbaa
namespace Go.Proofs.Ytakpmlblfdecbaa
open Go Go.RowKit

end Go.Proofs.Ytakpmlblfdecbaa
namespace Go.Proofs.Ytakpmlblfdecbaa
open Go Go.RowKit

end Go.Proofs.Ytakpmlblfdecbaa
namespace Go.Proofs.Ytakpmlblfdecbaa
open Go Go.RowKit
theorem word_mul (x y : Int) (hx : Wd x) (hy : Wd y) (w : World) :
    Calls Try.prog 19 #[.int .u64 x, .int .u64 y] w fun e w' => e = .returned (.tuple #[.int .u64 (mulHi x y), .int .u64 (mulLo x y)]) ∧ w = w' := by
  have H := Lib.hid (mul64 x y hx hy w)
  go_enter Try.func19, Try.ntmps19
  go_wp2_with (go_at_call 22; refine H.out.mono ?_; rintro e w' ⟨rfl, rfl⟩)
  go_ret2
  exact ⟨rfl, rfl⟩
end Go.Proofs.Ytakpmlblfdecbaa
namespace Go.Proofs.Ytakpmlblfdecbaa
open Go Go.RowKit

end Go.Proofs.Ytakpmlblfdecbaa
namespace Go.Proofs.Ytakpmlblfdecbaa
open Go Go.RowKit
theorem word_len (x : Int) (hx : Wd x) (w : World) :
    Calls Try.prog 18 #[.int .u64 x] w fun e w' => e = .returned (.int .i64 (lenN x)) ∧ w = w' := by
  have H := Lib.hid (len64 x hx w)
  go_enter Try.func18, Try.ntmps18
  go_wp2_with (go_at_call 21; refine H.out.mono ?_; rintro e w' ⟨rfl, rfl⟩)
  go_ret
  exact ⟨rfl, rfl⟩
end Go.Proofs.Ytakpmlblfdecbaa
namespace Go.Proofs.Ytakpmlblfdecbaa
open Go Go.RowKit

end Go.Proofs.Ytakpmlblfdecbaa
