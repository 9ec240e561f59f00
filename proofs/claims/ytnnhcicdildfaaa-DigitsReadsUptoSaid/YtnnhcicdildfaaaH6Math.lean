/-
  Plain arithmetic of bytes in words: one byte of a number, and a word that bytes are laid into. Conditions: as each says.
-/
import Derived.Test.YtnnhcicdildfaaaNShiftMath
import Derived.Test.YtnnhcicdildfaaaD6Size
import Derived.Laws.Bits64b
namespace Go.Proofs.Ytnnhcicdildfaaa
open Go Go.RowKit
set_option linter.unusedVariables false
theorem p256 (k : Nat) : (256 : Nat) ^ k = 2 ^ (8 * k) := by rw [show (256 : Nat) = 2 ^ 8 from rfl, ← Nat.pow_mul]
theorem p64 (k : Nat) : (18446744073709551616 : Nat) ^ k = 2 ^ (64 * k) := by rw [show (18446744073709551616 : Nat) = 2 ^ 64 from rfl, ← Nat.pow_mul]
/-- Byte k of a number, out of its words. -/
theorem byte_of (x k : Nat) : (dg 256 x).getD k 0 = wd x (k / 8) / 2 ^ (8 * (k % 8)) % 256 := by
  rw [dv_getD (by decide) (dg_dgs (by decide) x), dv_dg (by decide)]
  unfold wd
  rw [p256, p64, show (18446744073709551616 : Nat) = 2 ^ (8 * (k % 8)) * 2 ^ (64 - 8 * (k % 8)) by rw [← Nat.pow_add, show 8 * (k % 8) + (64 - 8 * (k % 8)) = 64 by omega],
    Nat.mod_mul_right_div_self, Nat.div_div_eq_div_mul, ← Nat.pow_add, show 64 * (k / 8) + 8 * (k % 8) = 8 * k by omega]
  have e : 2 ^ (64 - 8 * (k % 8)) = 256 * 2 ^ (56 - 8 * (k % 8)) := by rw [show (256 : Nat) = 2 ^ 8 from rfl, ← Nat.pow_add]; congr 1; omega
  rw [e, Nat.mod_mul_right_mod]
/-- A byte more: the words. -/
theorem wd_byte {v d k : Nat} (hv : v < 256 ^ k) (hd : d < 256) (j : Nat) :
    wd (v + 256 ^ k * d) j = if j = k / 8 then 2 ^ (8 * (k % 8)) * d + wd v j else wd v j := by
  unfold wd
  rw [p256] at hv ⊢
  rw [p64]
  rcases Nat.lt_trichotomy j (k / 8) with h | h | h
  · rw [if_neg (by omega)]
    have e : 2 ^ (8 * k) * d = 2 ^ (64 * j) * (18446744073709551616 * (2 ^ (8 * k - 64 * j - 64) * d)) := by
      rw [show (18446744073709551616 : Nat) = 2 ^ 64 from rfl, ← Nat.mul_assoc, ← Nat.mul_assoc, ← Nat.pow_add, ← Nat.pow_add]
      congr 2; omega
    rw [e, Nat.add_mul_div_left _ _ (Nat.two_pow_pos _), Nat.add_mul_mod_self_left]
  · rw [if_pos h]
    have e : 2 ^ (8 * k) * d = 2 ^ (64 * j) * (2 ^ (8 * (k % 8)) * d) := by
      rw [← Nat.mul_assoc, ← Nat.pow_add]
      congr 2; omega
    have h1 : v / 2 ^ (64 * j) < 2 ^ (8 * (k % 8)) := (Nat.div_lt_iff_lt_mul (Nat.two_pow_pos _)).2 (by rw [← Nat.pow_add, show 8 * (k % 8) + 64 * j = 8 * k by omega]; exact hv)
    have h2 : 2 ^ (8 * (k % 8)) * (d + 1) ≤ 2 ^ (8 * (k % 8)) * 256 := Nat.mul_le_mul_left _ hd
    have h3 : 2 ^ (8 * (k % 8)) * 256 ≤ 18446744073709551616 := by
      rw [show (256 : Nat) = 2 ^ 8 from rfl, ← Nat.pow_add]
      exact Nat.le_trans (Nat.pow_le_pow_right (by decide) (show 8 * (k % 8) + 8 ≤ 64 by omega)) (by decide)
    rw [e, Nat.add_mul_div_left _ _ (Nat.two_pow_pos _)]
    rw [Nat.mul_add] at h2
    rw [Nat.mod_eq_of_lt (by omega), Nat.mod_eq_of_lt (show v / 2 ^ (64 * j) < 18446744073709551616 by omega)]
    omega
  · rw [if_neg (by omega)]
    have h1 : v < 2 ^ (64 * j) := Nat.lt_of_lt_of_le hv (Nat.pow_le_pow_right (by decide) (by omega))
    have h2 : v + 2 ^ (8 * k) * d < 2 ^ (64 * j) := by
      have h3 : 2 ^ (8 * k) * (d + 1) ≤ 2 ^ (8 * k) * 256 := Nat.mul_le_mul_left _ hd
      rw [Nat.mul_add] at h3
      have h4 : 2 ^ (8 * k) * 256 ≤ 2 ^ (64 * j) := by
        rw [show (256 : Nat) = 2 ^ 8 from rfl, ← Nat.pow_add]
        exact Nat.pow_le_pow_right (by decide) (by omega)
      omega
    rw [Nat.div_eq_of_lt h1, Nat.div_eq_of_lt h2]
theorem wd_room {v k : Nat} (hv : v < 256 ^ k) : wd v (k / 8) < 2 ^ (8 * (k % 8)) := by
  unfold wd
  rw [p256] at hv
  rw [p64]
  refine Nat.lt_of_le_of_lt (Nat.mod_le _ _) ((Nat.div_lt_iff_lt_mul (Nat.two_pow_pos _)).2 ?_)
  rw [← Nat.pow_add, show 8 * (k % 8) + 64 * (k / 8) = 8 * k by omega]; exact hv
/-- Words that hold a number. -/
def HoldsW (M : List Nat) (n x : Nat) : Prop := M.length = n ∧ ∀ j, j < n → M.getD j 0 = wd x j
theorem HoldsW.start (n : Nat) : HoldsW (List.replicate n 0) n 0 := ⟨by simp, fun j hj => by simp [List.getD_eq_getElem?_getD, hj, wd]⟩
theorem HoldsW.dv_ {M : List Nat} {n x : Nat} (h : HoldsW M n x) (hx : x < 18446744073709551616 ^ n) : dv 18446744073709551616 M = x := by
  have e : M = firstW x n := by
    refine List.ext_getElem (by rw [h.1, firstW_len]) fun k h1 h2 => ?_
    have h3 := h.2 k (by rw [← h.1]; exact h1)
    rw [List.getD_eq_getElem?_getD, List.getElem?_eq_getElem h1] at h3
    refine Eq.trans h3 ?_
    simp [firstW]
  rw [e, firstW_dv, Nat.mod_eq_of_lt hx]
theorem HoldsW.dgs {M : List Nat} {n x : Nat} (h : HoldsW M n x) : Dgs 18446744073709551616 M := by
  intro d hd
  obtain ⟨k, hk, rfl⟩ := List.getElem_of_mem hd
  have h3 := h.2 k (by rw [← h.1]; exact hk)
  rw [List.getD_eq_getElem?_getD, List.getElem?_eq_getElem hk] at h3
  have h4 : M[k] = wd x k := h3
  rw [h4]; exact wd_lt x k
theorem getD_set' (l : List Nat) (i k a : Nat) : (l.set i a).getD k 0 = if i = k ∧ k < l.length then a else l.getD k 0 := by
  simp only [List.getD_eq_getElem?_getD, List.getElem?_set]
  by_cases h : i = k
  · subst h
    by_cases h2 : i < l.length
    · simp [h2]
    · simp [h2]
  · simp [h]
/-- One byte laid in. -/
theorem HoldsW.step {M : List Nat} {n v d k : Nat} (h : HoldsW M n v) (hv : v < 256 ^ k) (hd : d < 256) (hk : k / 8 < n) : HoldsW (M.set (k / 8) (2 ^ (8 * (k % 8)) * d + M.getD (k / 8) 0)) n (v + 256 ^ k * d) := by
  refine ⟨by simpa using h.1, fun j hj => ?_⟩
  rw [getD_set', wd_byte hv hd j, h.1]
  by_cases hjk : k / 8 = j
  · subst hjk
    rw [if_pos ⟨rfl, hj⟩, if_pos rfl, h.2 _ hk]
  · rw [if_neg (by omega), if_neg (by omega), h.2 j hj]
/-- What the last k bytes make. -/
def tailP (l : List Nat) (k : Nat) : Nat := dv 256 (l.reverse.take k)
theorem tailP_lt {l : List Nat} (hd : Dgs 256 l) (k : Nat) : tailP l k < 256 ^ k := by
  have h1 := dv_lt (b := 256) (l := l.reverse.take k) (fun d hd' => hd d (by have := List.mem_of_mem_take hd'; simpa using this))
  exact Nat.lt_of_lt_of_le h1 (Nat.pow_le_pow_right (by decide) (List.length_take_le _ _))
theorem tailP_step {l : List Nat} {k : Nat} (h : k < l.length) : tailP l (k + 1) = tailP l k + 256 ^ k * l.getD (l.length - 1 - k) 0 := by
  unfold tailP
  rw [dv_take_succ, List.getD_eq_getElem?_getD, List.getD_eq_getElem?_getD, List.getElem?_reverse h]
theorem tailP_all (l : List Nat) : tailP l l.length = valP l := by
  unfold tailP valP
  rw [List.take_of_length_le (by simp)]
/-- Of a row of bytes the last k are a number's. -/
def FilledB (x n k : Nat) (M : List Nat) : Prop := M.length = n ∧ ∀ j, j < k → M.getD (n - 1 - j) 0 = (dg 256 x).getD j 0
theorem FilledB.start (x n : Nat) : FilledB x n 0 (List.replicate n 0) := ⟨by simp, fun j hj => by omega⟩
theorem FilledB.step {x n k : Nat} {M : List Nat} (h : FilledB x n k M) (hk : k < n) : FilledB x n (k + 1) (M.set (n - 1 - k) ((dg 256 x).getD k 0)) := by
  refine ⟨by simpa using h.1, fun j hj => ?_⟩
  rw [getD_set', h.1]
  by_cases hjk : j = k
  · subst hjk; rw [if_pos ⟨rfl, by omega⟩]
  · rw [if_neg (by omega), h.2 j (by omega)]
theorem FilledB.done {x n : Nat} {M : List Nat} (h : FilledB x n n M) (hn : n = (dg 256 x).length) : M = bytesL x := by
  unfold bytesL
  refine List.ext_getElem (by rw [h.1, hn]; simp) fun k h1 h2 => ?_
  have hk : k < n := by rw [← h.1]; exact h1
  have h3 := h.2 (n - 1 - k) (by omega)
  rw [show n - 1 - (n - 1 - k) = k by omega, List.getD_eq_getElem?_getD, List.getElem?_eq_getElem h1] at h3
  rw [List.getElem_reverse]
  refine Eq.trans h3 ?_
  rw [List.getD_eq_getElem?_getD, List.getElem?_eq_getElem (by omega)]
  show (dg 256 x)[n - 1 - k] = _
  congr 1; omega
end Go.Proofs.Ytnnhcicdildfaaa
