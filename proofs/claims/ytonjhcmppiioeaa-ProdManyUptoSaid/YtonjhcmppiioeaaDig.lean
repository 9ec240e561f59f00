/-
  Plain arithmetic of digits to a base, the lowest first. Conditions: none beyond each lemma's own.
-/
import Derived.Test.YtonjhcmppiioeaaWd0
namespace Go.Proofs.Ytonjhcmppiioeaa
open Go Go.RowKit
/-- The number that digits stand for. -/
def dv (b : Nat) : List Nat → Nat
  | [] => 0
  | d :: l => d + b * dv b l
/-- Digits to the base b. -/
def Dgs (b : Nat) (l : List Nat) : Prop := ∀ d ∈ l, d < b
/-- A number's digits, without noughts above. -/
def dgAux (b : Nat) : Nat → Nat → List Nat
  | 0, _ => []
  | f + 1, x => if x = 0 then [] else x % b :: dgAux b f (x / b)
def dg (b x : Nat) : List Nat := dgAux b x x
theorem dgAux_more : ∀ (b f g x : Nat), 2 ≤ b → x ≤ f → x ≤ g → dgAux b f x = dgAux b g x
  | b, 0, g, x, _, h, _ => by
    have : x = 0 := by omega
    subst this
    cases g <;> simp [dgAux]
  | b, f + 1, 0, x, _, _, h => by
    have : x = 0 := by omega
    subst this
    simp [dgAux]
  | b, f + 1, g + 1, x, hb, h1, h2 => by
    unfold dgAux
    split
    · rfl
    · rename_i hx
      have : x / b < x := Nat.div_lt_self (by omega) (by omega)
      rw [dgAux_more b f g (x / b) hb (by omega) (by omega)]
theorem dg_zero (b : Nat) : dg b 0 = [] := rfl
theorem dg_step {b x : Nat} (hb : 2 ≤ b) (hx : x ≠ 0) : dg b x = x % b :: dg b (x / b) := by
  obtain ⟨y, rfl⟩ : ∃ y, x = y + 1 := ⟨x - 1, by omega⟩
  unfold dg
  rw [dgAux, if_neg hx]
  have : (y + 1) / b < y + 1 := Nat.div_lt_self (by omega) (by omega)
  rw [dgAux_more b y ((y + 1) / b) _ hb (by omega) (Nat.le_refl _)]
theorem dg_ind {b : Nat} (hb : 2 ≤ b) {P : Nat → Prop} (h0 : P 0) (hs : ∀ x, x ≠ 0 → P (x / b) → P x) (x : Nat) : P x := by
  induction x using Nat.strongRecOn with
  | ind x ih =>
    by_cases hx : x = 0
    · subst hx; exact h0
    · exact hs x hx (ih _ (Nat.div_lt_self (by omega) (by omega)))
theorem dv_dg {b : Nat} (hb : 2 ≤ b) (x : Nat) : dv b (dg b x) = x := by
  refine dg_ind hb (P := fun x => dv b (dg b x) = x) rfl (fun x hx ih => ?_) x
  rw [dg_step hb hx, dv, ih]
  exact Nat.mod_add_div x b
theorem dg_dgs {b : Nat} (hb : 2 ≤ b) (x : Nat) : Dgs b (dg b x) := by
  refine dg_ind hb (P := fun x => Dgs b (dg b x)) (by intro d hd; simp [dg_zero] at hd) (fun x hx ih => ?_) x
  rw [dg_step hb hx]
  intro d hd
  rcases List.mem_cons.1 hd with rfl | hd
  · exact Nat.mod_lt _ (by omega)
  · exact ih d hd
theorem dv_append (b : Nat) : ∀ (l m : List Nat), dv b (l ++ m) = dv b l + b ^ l.length * dv b m
  | [], m => by simp [dv]
  | d :: l, m => by
    rw [List.cons_append, dv, dv, dv_append b l m, List.length_cons, Nat.pow_succ, Nat.mul_add, Nat.add_assoc, Nat.mul_comm (b ^ l.length) b, Nat.mul_assoc]
theorem Dgs.append {b : Nat} {l m : List Nat} (hl : Dgs b l) (hm : Dgs b m) : Dgs b (l ++ m) := by
  intro d hd
  rcases List.mem_append.1 hd with h | h
  · exact hl d h
  · exact hm d h
theorem Dgs.take {b : Nat} {l : List Nat} (hl : Dgs b l) (k : Nat) : Dgs b (l.take k) := fun d hd => hl d (List.mem_of_mem_take hd)
theorem Dgs.drop {b : Nat} {l : List Nat} (hl : Dgs b l) (k : Nat) : Dgs b (l.drop k) := fun d hd => hl d (List.mem_of_mem_drop hd)
theorem Dgs.getD {b : Nat} {l : List Nat} (hl : Dgs b l) (hb : 0 < b) (k : Nat) : l.getD k 0 < b := by
  by_cases hk : k < l.length
  · exact hl _ (by rw [List.getD_eq_getElem?_getD, List.getElem?_eq_getElem hk]; exact List.getElem_mem hk)
  · rw [List.getD_eq_getElem?_getD, List.getElem?_eq_none (by omega)]; exact hb
theorem Dgs.zeros {b : Nat} (hb : 0 < b) (n : Nat) : Dgs b (List.replicate n 0) := by
  intro d hd
  rw [List.eq_of_mem_replicate hd]; exact hb
theorem dv_zeros (b : Nat) : ∀ n, dv b (List.replicate n 0) = 0
  | 0 => rfl
  | n + 1 => by rw [List.replicate_succ, dv, dv_zeros b n]; simp
theorem dv_lt {b : Nat} : ∀ {l : List Nat}, Dgs b l → dv b l < b ^ l.length
  | [], _ => by simp [dv]
  | d :: l, h => by
    have h1 := h d (by simp)
    have h2 := dv_lt (l := l) (fun e he => h e (by simp [he]))
    rw [dv, List.length_cons, Nat.pow_succ, Nat.mul_comm (b ^ l.length) b]
    have : b * (dv b l + 1) ≤ b * b ^ l.length := Nat.mul_le_mul_left b h2
    rw [Nat.mul_add] at this
    omega
theorem dv_snoc (b : Nat) (l : List Nat) (d : Nat) : dv b (l ++ [d]) = dv b l + b ^ l.length * d := by rw [dv_append]; simp [dv]
theorem dv_take_succ (b : Nat) (l : List Nat) (k : Nat) : dv b (l.take (k + 1)) = dv b (l.take k) + b ^ k * l.getD k 0 := by
  by_cases h : k < l.length
  · rw [List.take_succ_eq_append_getElem h, dv_snoc, List.length_take, Nat.min_eq_left (by omega)]
    simp [List.getD, List.getElem?_eq_getElem h]
  · rw [List.take_of_length_le (by omega), List.take_of_length_le (by omega), List.getD_eq_getElem?_getD, List.getElem?_eq_none (by omega)]
    simp
theorem dv_split (b : Nat) (l : List Nat) (k : Nat) (hk : k ≤ l.length) : dv b l = dv b (l.take k) + b ^ k * dv b (l.drop k) := by
  have h := dv_append b (l.take k) (l.drop k)
  rw [List.take_append_drop, List.length_take, Nat.min_eq_left hk] at h
  exact h
theorem dv_take {b : Nat} (hb : 0 < b) {l : List Nat} (h : Dgs b l) (k : Nat) : dv b (l.take k) = dv b l % b ^ k := by
  by_cases hk : k ≤ l.length
  · have h2 := dv_lt (h.take k)
    rw [List.length_take, Nat.min_eq_left hk] at h2
    rw [dv_split b l k hk, Nat.add_mul_mod_self_left]
    exact (Nat.mod_eq_of_lt h2).symm
  · rw [List.take_of_length_le (by omega)]
    have h2 := dv_lt h
    exact (Nat.mod_eq_of_lt (Nat.lt_of_lt_of_le h2 (Nat.pow_le_pow_right hb (by omega)))).symm
theorem dv_drop {b : Nat} (hb : 0 < b) {l : List Nat} (h : Dgs b l) (k : Nat) : dv b (l.drop k) = dv b l / b ^ k := by
  by_cases hk : k ≤ l.length
  · have h2 := dv_lt (h.take k)
    rw [List.length_take, Nat.min_eq_left hk] at h2
    rw [dv_split b l k hk, Nat.add_mul_div_left _ _ (Nat.pow_pos hb), Nat.div_eq_of_lt h2, Nat.zero_add]
  · rw [List.drop_of_length_le (by omega)]
    have h2 := dv_lt h
    exact (Nat.div_eq_of_lt (Nat.lt_of_lt_of_le h2 (Nat.pow_le_pow_right hb (by omega)))).symm
theorem dv_getD {b : Nat} (hb : 0 < b) {l : List Nat} (h : Dgs b l) (k : Nat) : l.getD k 0 = dv b l / b ^ k % b := by
  have h1 := dv_drop hb h k
  rw [← h1]
  by_cases hk : k < l.length
  · rw [List.drop_eq_getElem_cons hk, dv, Nat.add_mul_mod_self_left, List.getD_eq_getElem?_getD, List.getElem?_eq_getElem hk]
    exact (Nat.mod_eq_of_lt (h _ (List.getElem_mem hk))).symm
  · rw [List.drop_of_length_le (by omega), List.getD_eq_getElem?_getD, List.getElem?_eq_none (by omega)]
    simp [dv]
/-- No nought above. -/
def Nrm (l : List Nat) : Prop := l ≠ [] → l.getD (l.length - 1) 0 ≠ 0
theorem Nrm.nil : Nrm [] := fun h => absurd rfl h
theorem Nrm.tail {d : Nat} {l : List Nat} (h : Nrm (d :: l)) : Nrm l := by
  intro hl
  have h2 := h (by simp)
  have hp : 0 < l.length := List.length_pos_iff.2 hl
  rw [List.length_cons, show l.length + 1 - 1 = (l.length - 1) + 1 from by omega] at h2
  simpa using h2
theorem nrm_dg {b : Nat} (hb : 2 ≤ b) (x : Nat) : Nrm (dg b x) := by
  refine dg_ind hb (P := fun x => Nrm (dg b x)) Nrm.nil (fun x hx ih => ?_) x
  rw [dg_step hb hx]
  intro _
  by_cases h : dg b (x / b) = []
  · rw [h]
    have h0 := dv_dg hb (x / b)
    rw [h] at h0
    have hlt : x < b := by
      rcases Nat.lt_or_ge x b with h2 | h2
      · exact h2
      · have := Nat.div_pos h2 (by omega)
        simp [dv] at h0
        omega
    simp [Nat.mod_eq_of_lt hlt]
    exact hx
  · have hp : 0 < (dg b (x / b)).length := List.length_pos_iff.2 h
    rw [List.length_cons, show (dg b (x / b)).length + 1 - 1 = ((dg b (x / b)).length - 1) + 1 from by omega]
    simpa using ih h
theorem dg_of {b : Nat} (hb : 2 ≤ b) : ∀ {l : List Nat}, Dgs b l → Nrm l → l = dg b (dv b l)
  | [], _, _ => rfl
  | d :: l, h, hn => by
    have h1 := h d (by simp)
    have h0 : Dgs b l := fun e he => h e (by simp [he])
    have e := dg_of hb h0 hn.tail
    have hne : dv b (d :: l) ≠ 0 := by
      rw [dv]
      intro hz
      have hd : d = 0 := by omega
      have hl : b * dv b l = 0 := by omega
      have hl2 : dv b l = 0 := by
        rcases Nat.mul_eq_zero.1 hl with h | h
        · omega
        · exact h
      rw [hl2, dg_zero] at e
      subst e
      subst hd
      exact hn (by simp) (by simp)
    rw [dg_step hb hne, dv, Nat.add_mul_mod_self_left, Nat.mod_eq_of_lt h1, Nat.add_mul_div_left _ _ (by omega), Nat.div_eq_of_lt h1, Nat.zero_add, ← e]
/-- The least number of so many digits. -/
theorem dg_ge {b : Nat} (hb : 2 ≤ b) (x : Nat) (hx : x ≠ 0) : 1 ≤ (dg b x).length ∧ b ^ ((dg b x).length - 1) ≤ x := by
  have hne : dg b x ≠ [] := by rw [dg_step hb hx]; simp
  have hp := List.length_pos_iff.2 hne
  refine ⟨hp, ?_⟩
  have hn := nrm_dg hb x hne
  rw [dv_getD (by omega) (dg_dgs hb x), dv_dg hb] at hn
  rcases Nat.lt_or_ge x (b ^ ((dg b x).length - 1)) with h | h
  · rw [Nat.div_eq_of_lt h] at hn; simp at hn
  · exact h
theorem dg_lt {b : Nat} (hb : 2 ≤ b) (x : Nat) : x < b ^ (dg b x).length := by
  have := dv_lt (dg_dgs hb x)
  rwa [dv_dg hb] at this
theorem dg_len_le {b : Nat} (hb : 2 ≤ b) (x n : Nat) (h : x < b ^ n) : (dg b x).length ≤ n := by
  by_cases hx : x = 0
  · subst hx; simp [dg_zero]
  · have h2 := dg_ge hb x hx
    have : b ^ ((dg b x).length - 1) < b ^ n := Nat.lt_of_le_of_lt h2.2 h
    have := (Nat.pow_lt_pow_iff_right (by omega)).1 this
    omega
theorem dg_len_mono {b : Nat} (hb : 2 ≤ b) {x y : Nat} (h : x ≤ y) : (dg b x).length ≤ (dg b y).length := dg_len_le hb _ _ (Nat.lt_of_le_of_lt h (dg_lt hb y))
theorem dg_inj {b : Nat} (hb : 2 ≤ b) {x y : Nat} (h : dg b x = dg b y) : x = y := by rw [← dv_dg hb x, h, dv_dg hb]
/-- Trimmed digits: behind so many noughts above struck, the number is the same. -/
theorem dv_strike (b : Nat) {l : List Nat} {n : Nat} (hn : n < l.length) (h : l.getD n 0 = 0) : dv b (l.take (n + 1)) = dv b (l.take n) := by
  have _ := hn
  rw [dv_take_succ, h]; simp
theorem dg_trim {b : Nat} (hb : 2 ≤ b) {l : List Nat} {n : Nat} (h : Dgs b l) (hn : n ≤ l.length) (hv : dv b (l.take n) = dv b l) (hz : n = 0 ∨ l.getD (n - 1) 0 ≠ 0) : l.take n = dg b (dv b l) := by
  rw [← hv]
  refine dg_of hb (h.take n) ?_
  intro hne
  rw [List.length_take, Nat.min_eq_left hn]
  rcases hz with rfl | hz
  · simp at hne
  · by_cases h0 : n = 0
    · subst h0; simp at hne
    · rw [List.getD_eq_getElem?_getD, List.getElem?_take, if_pos (by omega), ← List.getD_eq_getElem?_getD]
      exact hz
/-! ### Comparing from above -/
theorem dig_up (b x j : Nat) : x / b ^ j = b * (x / b ^ (j + 1)) + x / b ^ j % b := by
  rw [Nat.pow_succ, ← Nat.div_div_eq_div_mul]
  exact (Nat.div_add_mod _ _).symm
theorem cmp_eq {b x y j : Nat} (h : x / b ^ (j + 1) = y / b ^ (j + 1)) (hd : x / b ^ j % b = y / b ^ j % b) : x / b ^ j = y / b ^ j := by
  rw [dig_up b x j, dig_up b y j, h, hd]
theorem cmp_lt {b x y j : Nat} (h : x / b ^ (j + 1) = y / b ^ (j + 1)) (hd : x / b ^ j % b < y / b ^ j % b) : x < y := by
  have h1 := dig_up b x j
  have h2 := dig_up b y j
  rw [h] at h1
  rcases Nat.lt_or_ge x y with hl | hl
  · exact hl
  · have := Nat.div_le_div_right (c := b ^ j) hl
    omega
theorem len_lt {b : Nat} (hb : 2 ≤ b) {x y : Nat} (h : (dg b x).length < (dg b y).length) : x < y := by
  rcases Nat.lt_or_ge x y with hl | hl
  · exact hl
  · have := dg_len_mono hb hl
    omega
/-! ### Four digits to a word -/
theorem pow_four (i : Nat) : (65536 : Nat) ^ (4 * i) = 18446744073709551616 ^ i := by rw [Nat.pow_mul]
theorem mod_up (b y s : Nat) : y % b ^ (s + 1) = y % b + b * (y / b % b ^ s) := by rw [Nat.pow_succ, Nat.mul_comm (b ^ s) b, Nat.mod_mul]
theorem mod_step_b (b x k : Nat) : x % b ^ (k + 1) = x % b ^ k + b ^ k * (x / b ^ k % b) := by rw [Nat.pow_succ, Nat.mod_mul]
/-- One digit more of a word, on top of the digits of the words ahead. -/
theorem of_step {D : List Nat} {v w i k : Nat} (hlen : D.length = 4 * i + k) (hv : dv 65536 D = v + 18446744073709551616 ^ i * (w % 65536 ^ k)) :
    dv 65536 (D ++ [w / 65536 ^ k % 65536]) = v + 18446744073709551616 ^ i * (w % 65536 ^ (k + 1)) := by
  rw [dv_snoc, hv, hlen, mod_step_b 65536 w k, Nat.mul_add, Nat.pow_add, pow_four, Nat.mul_assoc, Nat.add_assoc]
/-- A word, from its four digits: one digit lower. -/
theorem word_step (x t s : Nat) : x / 65536 ^ (t + 1) % 65536 ^ s * 65536 + x / 65536 ^ t % 65536 = x / 65536 ^ t % 65536 ^ (s + 1) := by
  rw [mod_up 65536 (x / 65536 ^ t) s, Nat.div_div_eq_div_mul, ← Nat.pow_succ, Nat.mul_comm, Nat.add_comm]
/-- Where the words stand: j of them. -/
structure WordsAt (x j : Nat) (L : List Nat) : Prop where
  len : L.length = j
  dgs : Dgs 18446744073709551616 L
  val : dv 18446744073709551616 L = x % 18446744073709551616 ^ j
theorem WordsAt.start (x : Nat) : WordsAt x 0 [] := ⟨rfl, by intro d hd; simp at hd, by simp [dv, Nat.mod_one]⟩
theorem WordsAt.step {x j : Nat} {L : List Nat} (h : WordsAt x j L) : WordsAt x (j + 1) (L ++ [x / 65536 ^ (4 * j) % 65536 ^ 4]) := by
  refine ⟨by simp [h.len], h.dgs.append (by intro d hd; simp at hd; subst hd; exact Nat.mod_lt _ (by decide)), ?_⟩
  rw [dv_snoc, h.val, h.len, pow_four, show (65536 : Nat) ^ 4 = 18446744073709551616 from by decide, ← mod_step_b]
theorem WordsAt.done {x j : Nat} {L : List Nat} (h : WordsAt x j L) (hlo : j = 0 ∨ 4 * (j - 1) < (dg 65536 x).length) (hhi : (dg 65536 x).length ≤ 4 * j) : L = dg 18446744073709551616 x := by
  have hx : x < 18446744073709551616 ^ j := by
    rw [← pow_four]
    exact Nat.lt_of_lt_of_le (dg_lt (by decide) x) (Nat.pow_le_pow_right (by decide) hhi)
  have hv : dv 18446744073709551616 L = x := by rw [h.val, Nat.mod_eq_of_lt hx]
  conv => rhs; rw [← hv]
  refine dg_of (by decide) h.dgs ?_
  intro hne
  have hj : j ≠ 0 := by
    rintro rfl
    exact hne (List.length_eq_zero_iff.1 h.len)
  obtain ⟨i, rfl⟩ : ∃ i, j = i + 1 := ⟨j - 1, by omega⟩
  rw [dv_getD (by decide) h.dgs, hv, h.len]
  have hlo' : 4 * i < (dg 65536 x).length := by omega
  have hx0 : x ≠ 0 := by rintro rfl; simp [dg_zero] at hlo'
  have hge : 18446744073709551616 ^ i ≤ x := by
    rw [← pow_four]
    exact Nat.le_trans (Nat.pow_le_pow_right (by decide) (by omega)) (dg_ge (by decide) x hx0).2
  have h1 : 0 < x / 18446744073709551616 ^ (i + 1 - 1) := Nat.div_pos (by simpa using hge) (Nat.pow_pos (by decide))
  have h2 : x / 18446744073709551616 ^ (i + 1 - 1) < 18446744073709551616 := by
    rw [Nat.add_sub_cancel]
    refine (Nat.div_lt_iff_lt_mul (Nat.pow_pos (by decide))).2 ?_
    rw [Nat.mul_comm, ← Nat.pow_succ]; exact hx
  rw [Nat.mod_eq_of_lt h2]
  omega
end Go.Proofs.Ytonjhcmppiioeaa
