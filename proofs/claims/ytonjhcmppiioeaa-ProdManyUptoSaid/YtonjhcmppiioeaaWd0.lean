/-
  Plain arithmetic of words: no program is named here. Conditions: none beyond each lemma's own.
-/
import Derived.Lib.TrailingZeros
import Derived.Lib.Mul64
import Derived.Laws.MathBits
import Derived.Laws.Bits64b
import Derived.WalkKit
namespace Go.Proofs.Ytonjhcmppiioeaa
open Go Go.RowKit
/-! ### Sums and differences: each answer under a name of its own -/
def addLo (x y c : Int) : Int := (x + y + c % 2) % 18446744073709551616
def addHi (x y c : Int) : Int := (x + y + c % 2) / 18446744073709551616
def subLo (x y c : Int) : Int := (x - y - c % 2) % 18446744073709551616
def subHi (x y c : Int) : Int := if x < y + c % 2 then 1 else 0
def Wd (x : Int) : Prop := 0 ≤ x ∧ x < 18446744073709551616
theorem addLo_wd (x y c : Int) : Wd (addLo x y c) := by unfold Wd addLo; omega
theorem subLo_wd (x y c : Int) : Wd (subLo x y c) := by unfold Wd subLo; omega
theorem addHi_bd {x y c : Int} (hx : Wd x) (hy : Wd y) : 0 ≤ addHi x y c ∧ addHi x y c ≤ 1 := by unfold Wd at hx hy; unfold addHi; omega
theorem subHi_bd (x y c : Int) : 0 ≤ subHi x y c ∧ subHi x y c ≤ 1 := by unfold subHi; split <;> omega
theorem addHi_wd {x y c : Int} (hx : Wd x) (hy : Wd y) : Wd (addHi x y c) := by have := addHi_bd (c := c) hx hy; unfold Wd; omega
theorem subHi_wd (x y c : Int) : Wd (subHi x y c) := by have := subHi_bd x y c; unfold Wd; omega
theorem add_whole (x y c : Int) : addHi x y c * 18446744073709551616 + addLo x y c = x + y + c % 2 := by unfold addHi addLo; omega
theorem sub_whole {x y c : Int} (hx : Wd x) (hy : Wd y) : subLo x y c = x - y - c % 2 + subHi x y c * 18446744073709551616 := by
  unfold Wd at hx hy; unfold subLo subHi; split <;> omega
/-! ### Products -/
def mulHi (x y : Int) : Int := x * y / 18446744073709551616
def mulLo (x y : Int) : Int := x * y % 18446744073709551616
def maHi (x y a b : Int) : Int := (x * y + a + b) / 18446744073709551616
def maLo (x y a b : Int) : Int := (x * y + a + b) % 18446744073709551616
theorem mul_bd {x y : Int} (hx : Wd x) (hy : Wd y) : 0 ≤ x * y ∧ x * y ≤ 340282366920938463426481119284349108225 := by
  obtain ⟨a, b⟩ := hx; obtain ⟨c, d⟩ := hy
  refine ⟨Int.mul_nonneg a c, ?_⟩
  have : x * y ≤ 18446744073709551615 * 18446744073709551615 := Int.mul_le_mul (by omega) (by omega) c (by omega)
  simpa using this
theorem mulHi_wd {x y : Int} (hx : Wd x) (hy : Wd y) : Wd (mulHi x y) := by have := mul_bd hx hy; unfold Wd mulHi; omega
theorem mulHi_le {x y : Int} (hx : Wd x) (hy : Wd y) : mulHi x y ≤ 18446744073709551614 := by have := mul_bd hx hy; unfold mulHi; omega
theorem mulLo_wd (x y : Int) : Wd (mulLo x y) := by unfold Wd mulLo; omega
theorem maLo_wd (x y a b : Int) : Wd (maLo x y a b) := by unfold Wd maLo; omega
theorem maHi_wd {x y a b : Int} (hx : Wd x) (hy : Wd y) (ha : Wd a) (hb : Wd b) : Wd (maHi x y a b) := by
  have := mul_bd hx hy; unfold Wd at *; unfold maHi; omega
theorem ma_whole (x y a b : Int) : maHi x y a b * 18446744073709551616 + maLo x y a b = x * y + a + b := by unfold maHi maLo; omega
theorem mul_whole (x y : Int) : mulHi x y * 18446744073709551616 + mulLo x y = x * y := by unfold mulHi mulLo; omega
/-- How MulAdd reckons: by the product's two words and two sums that may go over. -/
theorem maLo_eq (x y a b : Int) : ((mulLo x y + a) % 18446744073709551616 + b) % 18446744073709551616 = maLo x y a b := by
  unfold mulLo maLo; omega
theorem maHi_eq (x y a b : Int) : mulHi x y + (mulLo x y + a) / 18446744073709551616 + ((mulLo x y + a) % 18446744073709551616 + b) / 18446744073709551616 = maHi x y a b := by
  unfold mulLo mulHi maHi; omega
/-! ### How many bits -/
def lenN (x : Int) : Int := (bitLen x.toNat : Nat)
def trailN (x : Int) : Int := (Lib.ctz 64 x.toNat : Nat)
theorem bitLen_le (n k : Nat) (h : n < 2 ^ k) : bitLen n ≤ k := by
  unfold bitLen
  split
  · omega
  · rename_i h0
    have := (Nat.log2_lt h0).2 h
    omega
theorem lenN_bd {x : Int} (hx : Wd x) : 0 ≤ lenN x ∧ lenN x ≤ 64 := by
  unfold Wd at hx
  have := bitLen_le x.toNat 64 (by omega)
  unfold lenN; omega
theorem ctz_le (x : Nat) (hx : x < 2 ^ 64) : Lib.ctz 64 x ≤ 64 := by
  by_cases h : x = 0
  · subst h; decide
  · have := (Lib.lowest_bit 64 x h hx).2; omega
theorem trailN_bd {x : Int} (hx : Wd x) : 0 ≤ trailN x ∧ trailN x ≤ 64 := by
  unfold Wd at hx
  have := ctz_le x.toNat (by omega)
  unfold trailN; omega
/-! ### The quotient of two words by one: the two digits of 32 bits -/
def divQ (hi lo y : Int) : Int := (hi * 18446744073709551616 + lo) / y
def divR (hi lo y : Int) : Int := (hi * 18446744073709551616 + lo) % y
theorem divR_bd (hi lo : Int) {y : Int} (hy : 0 < y) : 0 ≤ divR hi lo y ∧ divR hi lo y < y := ⟨Int.emod_nonneg _ (by omega), Int.emod_lt_of_pos _ hy⟩
theorem divQ_wd {hi lo y : Int} (h0 : Wd hi) (h1 : Wd lo) (hy : hi < y) : Wd (divQ hi lo y) := by
  unfold Wd at *; unfold divQ
  refine ⟨Int.ediv_nonneg (by omega) (by omega), ?_⟩
  refine Int.ediv_lt_of_lt_mul (by omega) ?_
  have : (hi + 1) * 18446744073709551616 ≤ y * 18446744073709551616 := Int.mul_le_mul_of_nonneg_right (by omega) (by omega)
  omega
theorem div_whole (hi lo y : Int) : y * divQ hi lo y + divR hi lo y = hi * 18446744073709551616 + lo := Int.mul_ediv_add_emod _ _
end Go.Proofs.Ytonjhcmppiioeaa
