/-
  Plain arithmetic of products, word by word. Conditions: none beyond each lemma's own.
-/
import Derived.Test.YtonjhcmppiioeaaNDig
namespace Go.Proofs.Ytonjhcmppiioeaa
open Go Go.RowKit
set_option linter.unusedVariables false
theorem set_take (l : List Nat) (k d : Nat) (h : k < l.length) : (l.set k d).take (k + 1) = l.take k ++ [d] := by
  rw [List.take_succ_eq_append_getElem (by simpa using h)]
  simp [List.take_set]
  exact List.set_eq_of_length_le (by simp; omega)
theorem set_drop (l : List Nat) (k d : Nat) : (l.set k d).drop (k + 1) = l.drop (k + 1) := by
  rw [List.drop_set, if_pos (by omega)]
theorem Dgs.set_ {b : Nat} {l : List Nat} (h : Dgs b l) (k : Nat) {d : Nat} (hd : d < b) : Dgs b (l.set k d) := by
  intro e he
  rcases List.mem_or_eq_of_mem_set he with h1 | h1
  · exact h e h1
  · omega
theorem drop_get {l m : List Nat} {k : Nat} (h : l.drop k = m.drop k) : l.getD k 0 = m.getD k 0 := by
  have h1 := congrArg (fun l => l.getD 0 0) h
  simpa [List.getD_eq_getElem?_getD, List.getElem?_drop] using h1
theorem drop_more {l m : List Nat} {k : Nat} (h : l.drop k = m.drop k) : l.drop (k + 1) = m.drop (k + 1) := by
  have h1 := congrArg (List.drop 1) h
  rwa [List.drop_drop, List.drop_drop] at h1
/-- A number by one word, and a word more: k words of it done, in place. -/
structure ByB (x a b k n : Nat) (L : List Nat) (c : Nat) : Prop where
  len : L.length = n
  dgs : Dgs 18446744073709551616 L
  carry : c < 18446744073709551616
  rest : L.drop k = (dg 18446744073709551616 x).drop k
  sum : dv 18446744073709551616 (L.take k) + 18446744073709551616 ^ k * c = x % 18446744073709551616 ^ k * a + b
theorem ByB.start {x a b n : Nat} (hn : (dg 18446744073709551616 x).length = n) (hb : b < 18446744073709551616) : ByB x a b 0 n (dg 18446744073709551616 x) b :=
  ⟨hn, dg_dgs (by decide) x, hb, rfl, by simp [dv, Nat.mod_one]⟩
theorem ma_carry {p q r s : Nat} (hp : p < 18446744073709551616) (hq : q < 18446744073709551616) (hr : r < 18446744073709551616) (hs : s < 18446744073709551616) : (p * q + r + s) / 18446744073709551616 < 18446744073709551616 := by
  have h1 : p * q ≤ 18446744073709551615 * 18446744073709551615 := Nat.mul_le_mul (by omega) (by omega)
  omega
theorem ByB.get {x a b k n c : Nat} {L : List Nat} (h : ByB x a b k n L c) : L.getD k 0 = wd x k := by rw [drop_get h.rest, wd_get]
theorem ByB.step {x a b k n c s : Nat} {L : List Nat} (h : ByB x a b k n L c) (ha : a < 18446744073709551616) (hk : k < n) (hs : s = wd x k * a + c + 0) :
    ByB x a b (k + 1) n (L.set k (s % 18446744073709551616)) (s / 18446744073709551616) := by
  refine ⟨by simpa using h.len, h.dgs.set_ k (Nat.mod_lt _ (by decide)), ?_, by rw [set_drop]; exact drop_more h.rest, ?_⟩
  · rw [hs]; exact ma_carry (wd_lt x k) ha h.carry (by decide)
  · have e := h.sum
    rw [set_take _ _ _ (by rw [h.len]; exact hk), dv_snoc, List.length_take, h.len, Nat.min_eq_left (by omega), mod_step_b 18446744073709551616 x k, Nat.pow_succ, Nat.mul_assoc, Nat.add_assoc, ← Nat.mul_add, Nat.mod_add_div, hs]
    show _ = (x % _ + 18446744073709551616 ^ k * wd x k) * a + b
    rw [Nat.add_zero, Nat.mul_add, Nat.add_mul, ← Nat.mul_assoc]
    omega
theorem ByB.done {x a b n c : Nat} {L : List Nat} (h : ByB x a b n n L c) (hn : (dg 18446744073709551616 x).length ≤ n) : dv 18446744073709551616 (L ++ [c]) = x * a + b := by
  have e := h.sum
  rw [List.take_of_length_le (by rw [h.len]; exact Nat.le_refl _), Nat.mod_eq_of_lt (Nat.lt_of_lt_of_le (dg_lt (by decide) x) (Nat.pow_le_pow_right (by decide) hn))] at e
  rw [dv_snoc, h.len, e]
/-- One row of a product: j words of y, by a, added in at place i. -/
structure RowB (L0 : List Nat) (y a i j N : Nat) (L : List Nat) (c : Nat) : Prop where
  len : L.length = N
  dgs : Dgs 18446744073709551616 L
  carry : c < 18446744073709551616
  rest : L.drop (i + j) = L0.drop (i + j)
  sum : dv 18446744073709551616 (L.take (i + j)) + 18446744073709551616 ^ (i + j) * c = dv 18446744073709551616 (L0.take (i + j)) + 18446744073709551616 ^ i * (a * (y % 18446744073709551616 ^ j))
theorem RowB.start {L0 : List Nat} {N : Nat} (y a i : Nat) (hn : L0.length = N) (hd : Dgs 18446744073709551616 L0) : RowB L0 y a i 0 N L0 0 :=
  ⟨hn, hd, by decide, rfl, by simp [Nat.mod_one]⟩
theorem RowB.step {L0 L : List Nat} {y a i j N c s : Nat} (h : RowB L0 y a i j N L c) (ha : a < 18446744073709551616) (hk : i + j < N) (hs : s = wd y j * a + L.getD (i + j) 0 + c) :
    RowB L0 y a i (j + 1) N (L.set (i + j) (s % 18446744073709551616)) (s / 18446744073709551616) := by
  have hp := h.dgs.getD (by decide) (i + j)
  refine ⟨by simpa using h.len, h.dgs.set_ _ (Nat.mod_lt _ (by decide)), ?_, by rw [← Nat.add_assoc, set_drop]; exact drop_more h.rest, ?_⟩
  · rw [hs]; exact ma_carry (wd_lt y j) ha hp h.carry
  · have e := h.sum
    have eg := drop_get h.rest
    rw [← Nat.add_assoc, set_take _ _ _ (by rw [h.len]; exact hk), dv_snoc, List.length_take, h.len, Nat.min_eq_left (by omega), dv_take_succ _ L0, ← eg, mod_step_b 18446744073709551616 y j, Nat.pow_succ, Nat.mul_assoc, Nat.add_assoc, ← Nat.mul_add, Nat.mod_add_div, hs]
    obtain ⟨p, hpp⟩ : ∃ p, L.getD (i + j) 0 = p := ⟨_, rfl⟩
    rw [hpp]
    show _ = _ + 18446744073709551616 ^ i * (a * (y % _ + 18446744073709551616 ^ j * wd y j))
    rw [Nat.mul_add, Nat.mul_add, Nat.mul_add a, Nat.mul_add (18446744073709551616 ^ i)]
    have e2 : 18446744073709551616 ^ i * (a * (18446744073709551616 ^ j * wd y j)) = 18446744073709551616 ^ (i + j) * (wd y j * a) := by
      rw [Nat.pow_add, Nat.mul_assoc (18446744073709551616 ^ i)]
      refine congrArg _ ?_
      rw [Nat.mul_left_comm, Nat.mul_comm a]
    rw [e2]
    omega
/-- A product: i words of x done. -/
structure MulB (x y i m N : Nat) (L : List Nat) : Prop where
  len : L.length = N
  dgs : Dgs 18446744073709551616 L
  sum : dv 18446744073709551616 (L.take (i + m)) = x % 18446744073709551616 ^ i * y
theorem MulB.start (x y m N : Nat) : MulB x y 0 m N (List.replicate N 0) := by
  refine ⟨by simp, Dgs.zeros (by decide) N, ?_⟩
  rw [List.take_replicate, dv_zeros, Nat.pow_zero, Nat.mod_one, Nat.zero_mul]
theorem MulB.step {x y i m N c : Nat} {L0 L : List Nat} (h0 : MulB x y i m N L0) (h : RowB L0 y (wd x i) i m N L c) (hy : (dg 18446744073709551616 y).length ≤ m) (hk : i + m < N) : MulB x y (i + 1) m N (L.set (i + m) c) := by
  refine ⟨by simpa using h.len, h.dgs.set_ _ h.carry, ?_⟩
  have e := h.sum
  rw [h0.sum, Nat.mod_eq_of_lt (Nat.lt_of_lt_of_le (dg_lt (by decide) y) (Nat.pow_le_pow_right (by decide) hy))] at e
  rw [show i + 1 + m = i + m + 1 from by omega, set_take _ _ _ (by rw [h.len]; exact hk), dv_snoc, List.length_take, h.len, Nat.min_eq_left (by omega), e, mod_step_b 18446744073709551616 x i, Nat.add_mul]
  show _ = _ + 18446744073709551616 ^ i * wd x i * y
  rw [Nat.mul_assoc]
theorem MulB.done {x y n m : Nat} {L : List Nat} (h : MulB x y n m (n + m) L) (hx : (dg 18446744073709551616 x).length ≤ n) : dv 18446744073709551616 L = x * y := by
  have e := h.sum
  rwa [List.take_of_length_le (by rw [h.len]; exact Nat.le_refl _), Nat.mod_eq_of_lt (Nat.lt_of_lt_of_le (dg_lt (by decide) x) (Nat.pow_le_pow_right (by decide) hx))] at e
theorem ma_nat (p q r s : Nat) : maHi (p : Int) (q : Int) (r : Int) (s : Int) = ((p * q + r + s) / 18446744073709551616 : Nat) ∧ maLo (p : Int) (q : Int) (r : Int) (s : Int) = ((p * q + r + s) % 18446744073709551616 : Nat) := by
  unfold maHi maLo
  constructor <;> simp
end Go.Proofs.Ytonjhcmppiioeaa
