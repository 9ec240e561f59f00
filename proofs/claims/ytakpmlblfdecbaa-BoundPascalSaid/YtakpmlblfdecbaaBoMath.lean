/-
  In how many ways m of n are chosen (Pascal's triangle), and what layer 15's functions tell, as functions of plain numbers. Conditions: none beyond each lemma's own.
-/
import Derived.Test.YtakpmlblfdecbaaBunW
namespace Go.Proofs.Ytakpmlblfdecbaa
open Go Go.RowKit
set_option linter.unusedVariables false
/-- In how many ways m of n are chosen. -/
def ch : Nat → Nat → Nat
  | _, 0 => 1
  | 0, _ + 1 => 0
  | n + 1, m + 1 => ch n m + ch n (m + 1)
theorem ch_zero (n : Nat) : ch n 0 = 1 := by cases n <;> rfl
theorem ch_succ (n m : Nat) : ch (n + 1) (m + 1) = ch n m + ch n (m + 1) := rfl
theorem ch_out : ∀ n m, n < m → ch n m = 0
  | 0, 0, h => absurd h (by omega)
  | 0, _ + 1, _ => rfl
  | n + 1, 0, h => absurd h (by omega)
  | n + 1, m + 1, h => by rw [ch_succ, ch_out n m (by omega), ch_out n (m + 1) (by omega)]
theorem ch_full : ∀ n, ch n n = 1
  | 0 => rfl
  | n + 1 => by rw [ch_succ, ch_full n, ch_out n (n + 1) (by omega)]
theorem ch_sym : ∀ n a b, a + b = n → ch n a = ch n b
  | 0, a, b, h => by obtain rfl : a = 0 := by omega
                     obtain rfl : b = 0 := by omega
                     rfl
  | n + 1, 0, b, h => by obtain rfl : b = n + 1 := by omega
                         rw [ch_zero, ch_full]
  | n + 1, a + 1, 0, h => by obtain rfl : a = n := by omega
                             rw [ch_zero, ch_full]
  | n + 1, a + 1, b + 1, h => by rw [ch_succ, ch_succ, ch_sym n a (b + 1) (by omega), ch_sym n (a + 1) b (by omega), Nat.add_comm]
theorem ch_mul : ∀ n k, ch (n + 1) (k + 1) * (k + 1) = ch n k * (n + 1)
  | 0, 0 => rfl
  | 0, k + 1 => by rw [ch_succ, ch_out 0 (k + 1) (by omega), ch_out 0 (k + 2) (by omega)]; omega
  | n + 1, 0 => by
    have h := ch_mul n 0
    rw [ch_zero] at h
    rw [ch_succ, ch_zero]
    omega
  | n + 1, k + 1 => by
    have h1 := ch_mul n k
    have h2 := ch_mul n (k + 1)
    have e := ch_succ n k
    rw [ch_succ (n + 1) (k + 1), Nat.add_mul, h2, e]
    rw [e] at h1
    generalize ch n k = a at *
    generalize ch n (k + 1) = b at *
    grind
theorem ch_step (a k : Nat) : ch a k ≤ ch (a + 1) (k + 1) := by rw [ch_succ]; omega
theorem ch_mono (a k : Nat) : ∀ j, ch a k ≤ ch (a + j) (k + j)
  | 0 => Nat.le_refl _
  | j + 1 => Nat.le_trans (ch_mono a k j) (ch_step _ _)
theorem ch_mono_ {n m a k : Nat} (hm : m ≤ n) (hk : k ≤ m) (ha : a + m = n + k) : ch a k ≤ ch n m := by
  have h := ch_mono a k (m - k)
  rwa [show a + (m - k) = n from by omega, show k + (m - k) = m from by omega] at h
theorem ch_pos : ∀ n m, m ≤ n → 1 ≤ ch n m
  | n, 0, _ => by rw [ch_zero]; omega
  | 0, m + 1, h => absurd h (by omega)
  | n + 1, m + 1, h => by have := ch_pos n m (by omega); rw [ch_succ]; omega
/-- What is told of a number that may be no word. -/
def Word_ (C x : Nat) (b : Bool) : Prop := (b = true ∧ C = x ∧ x < 18446744073709551616) ∨ (b = false ∧ x = 0 ∧ 18446744073709551616 ≤ C)
/-- One step of choosing: what Mul and Div make of it. -/
theorem ch_div {a f y c : Nat} (hy : 0 < y) (ha : a < 18446744073709551616) (hf : f < 18446744073709551616) (h : c * y = a * f) :
    (mulHi a f < (y : Int) ↔ c < 18446744073709551616) ∧ divQ (mulHi a f) (mulLo a f) y = (c : Nat) := by
  have e : (a : Int) * (f : Int) = ((c * y : Nat) : Int) := by rw [h, Int.natCast_mul]
  have q : mulHi (a : Int) f = ((c * y / 18446744073709551616 : Nat) : Int) := by unfold mulHi; rw [e]; omega
  refine ⟨?_, ?_⟩
  · rw [q]
    have := Nat.div_lt_iff_lt_mul (x := c * y) (y := y) (k := 18446744073709551616) (by omega)
    constructor
    · intro hlt
      have h2 : c * y < y * 18446744073709551616 := this.1 (by omega)
      rw [Nat.mul_comm y] at h2
      exact Nat.lt_of_mul_lt_mul_right h2
    · intro hlt
      have h2 : c * y < 18446744073709551616 * y := Nat.mul_lt_mul_of_pos_right hlt hy
      have := this.2 (by omega)
      omega
  · unfold divQ
    rw [mul_whole, e]
    rw [← Int.natCast_ediv, Nat.mul_div_cancel _ hy]
/-- The most that is asked, as Bases takes it. -/
def mostI (most : Int) : Int := min (max most 0) 1099511627776
theorem mostI_bd (most : Int) : 0 ≤ mostI most ∧ mostI most ≤ 1099511627776 := by unfold mostI; omega
/-- What Bases tells. -/
def basesV (n m most : Int) : Int × Bool :=
  if m < 0 ∨ n < m then (0, true) else if ((ch n.toNat m.toNat : Nat) : Int) ≤ mostI most then (((ch n.toNat m.toNat : Nat) : Int), true) else (mostI most + 1, false)
/-- What Det tells, where it tells something. -/
def detV (n b : Int) : Int := n * b + (n * lenN n + 1) / 2 + 1
theorem lenN64 {n : Int} (h0 : 0 ≤ n) (h1 : n ≤ 64) : 0 ≤ lenN n ∧ lenN n ≤ 7 := by
  have := bitLen_le n.toNat 7 (by omega)
  unfold lenN; omega
theorem mulBd {n l N L : Int} (h0 : 0 ≤ n) (h1 : n ≤ N) (k0 : 0 ≤ l) (k1 : l ≤ L) : 0 ≤ n * l ∧ n * l ≤ N * L :=
  ⟨Int.mul_nonneg h0 k0, Int.mul_le_mul h1 k1 k0 (by omega)⟩
theorem len_half (x : Nat) (h : x ≠ 0) : bitLen x = bitLen (x / 2) + 1 := by
  unfold bitLen
  by_cases h1 : x / 2 = 0
  · obtain rfl : x = 1 := by omega
    rfl
  · rw [if_neg h, if_neg h1, Nat.log2_def]
    rw [if_pos (by omega)]
theorem lenN_mono {a b : Int} (h : a ≤ b) (ha : 0 ≤ a) : lenN a ≤ lenN b := by
  unfold lenN
  obtain ⟨a, rfl⟩ := Int.eq_ofNat_of_zero_le ha
  obtain ⟨b, rfl⟩ := Int.eq_ofNat_of_zero_le (Int.le_trans ha h)
  have key : ∀ (y x : Nat), x ≤ y → bitLen x ≤ bitLen y := by
    intro y
    induction y using Nat.strongRecOn with
    | _ y ih =>
      intro x hx
      rcases Nat.eq_zero_or_pos x with rfl | hp
      · unfold bitLen; simp
      · rw [len_half x (by omega), len_half y (by omega)]
        have := ih (y / 2) (by omega) (x / 2) (by omega)
        omega
  have := key b a (by omega)
  simp only [Int.toNat_natCast]
  omega
theorem detV_bd (n b : Int) (h0 : 0 ≤ n) (h1 : n ≤ 64) (k0 : 0 ≤ b) (k1 : b ≤ 1099511627776) : 1 ≤ detV n b ∧ detV n b ≤ 70368744178000 := by
  have hl := lenN64 h0 h1
  have b1 := mulBd h0 h1 hl.1 hl.2
  have b2 := mulBd h0 h1 k0 k1
  unfold detV
  omega
theorem detV_mono {n m b c : Int} (h0 : 0 ≤ n) (h1 : n ≤ m) (k0 : 0 ≤ b) (k1 : b ≤ c) : detV n b ≤ detV m c := by
  have e1 : n * b ≤ m * c := Int.mul_le_mul h1 k1 k0 (by omega)
  have hl := lenN_mono h1 h0
  have e2 : n * lenN n ≤ m * lenN m := Int.mul_le_mul h1 hl (by unfold lenN; omega) (by omega)
  unfold detV
  omega
theorem ch_le_pow : ∀ n m, ch n m ≤ 2 ^ n
  | n, 0 => by rw [ch_zero]; exact Nat.one_le_two_pow
  | 0, m + 1 => by rw [ch_out 0 (m + 1) (by omega)]; omega
  | n + 1, m + 1 => by have h1 := ch_le_pow n m; have h2 := ch_le_pow n (m + 1); rw [ch_succ, Nat.pow_succ]; omega
/-- In how many ways m of n are chosen, m of any sign. -/
def chI (n m : Int) : Int := if m < 0 ∨ n < m then 0 else (ch n.toNat m.toNat : Nat)
theorem chI_nat (n m : Nat) : chI n m = (ch n m : Nat) := by
  unfold chI
  split
  · rw [ch_out n m (by omega)]; rfl
  · simp
theorem chI_neg {n m : Int} (h : m < 0) : chI n m = 0 := by unfold chI; rw [if_pos (.inl h)]
theorem chI_bd {n : Int} (m : Int) (h1 : n ≤ 30) : 0 ≤ chI n m ∧ chI n m ≤ 1073741824 := by
  unfold chI
  split
  · omega
  · have h := ch_le_pow n.toNat m.toNat
    have h2 : 2 ^ n.toNat ≤ 2 ^ 30 := Nat.pow_le_pow_right (by omega) (by omega)
    omega
theorem basesV_small {n : Int} (m : Int) (h1 : n ≤ 30) : basesV n m 1099511627776 = (chI n m, true) := by
  have hb := chI_bd m h1
  unfold chI at hb
  unfold basesV chI
  split
  · rfl
  · rename_i h
    rw [if_neg h] at hb
    have e : mostI 1099511627776 = 1099511627776 := by unfold mostI; omega
    rw [e, if_pos (by omega)]
theorem chI_succ {n m : Int} (h0 : 1 ≤ n) (h1 : 0 ≤ m) : chI n m = chI (n - 1) m + chI (n - 1) (m - 1) := by
  obtain ⟨m, rfl⟩ := Int.eq_ofNat_of_zero_le h1
  obtain ⟨k, hk⟩ := Int.eq_ofNat_of_zero_le (show 0 ≤ n - 1 by omega)
  obtain rfl : n = ((k + 1 : Nat) : Int) := by omega
  rw [show ((k + 1 : Nat) : Int) - 1 = (k : Int) by omega, chI_nat, chI_nat]
  cases m with
  | zero => rw [chI_neg (by omega), ch_zero, ch_zero]; rfl
  | succ m => rw [show ((m + 1 : Nat) : Int) - 1 = (m : Int) by omega, chI_nat, ch_succ]; omega
theorem chI_sym {n m : Int} (h0 : 0 ≤ n) : chI n (n - m) = chI n m := by
  unfold chI
  by_cases h : m < 0 ∨ n < m
  · rw [if_pos h, if_pos (by omega)]
  · rw [if_neg h, if_neg (by omega), ch_sym n.toNat (n - m).toNat m.toNat (by omega)]
theorem basesV_a : basesV 5 2 100 = (10, true) := by decide
theorem basesV_b : basesV 64 32 1000 = (1001, false) := by
  have h : ch 35 3 ≤ ch 64 32 := ch_mono_ (by decide) (by decide) (by decide)
  have h2 : 1000 < ch 35 3 := by decide +kernel
  have e : mostI 1000 = 1000 := by decide
  unfold basesV
  rw [if_neg (by decide), e, if_neg]
  · rfl
  · show ¬ ((ch 64 32 : Nat) : Int) ≤ 1000
    omega
theorem detV_a : detV 2 3 = 9 := by decide
theorem detV_b : detV 0 0 = 1 := by decide
end Go.Proofs.Ytakpmlblfdecbaa
