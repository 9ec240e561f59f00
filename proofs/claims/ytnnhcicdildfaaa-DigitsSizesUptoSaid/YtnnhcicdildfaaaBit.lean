/-
  Plain arithmetic of a number's bits, the lowest first. Conditions: none beyond each lemma's own.
-/
import Derived.Test.YtnnhcicdildfaaaBunW
namespace Go.Proofs.Ytnnhcicdildfaaa
open Go Go.RowKit
/-- The lowest n bits of x. -/
def bitsN : Nat → Nat → List Int
  | 0, _ => []
  | n + 1, x => ((x % 2 : Nat) : Int) :: bitsN n (x / 2)
/-- The number that a list of bits stands for. -/
def bv : List Int → Int
  | [] => 0
  | b :: l => b + 2 * bv l
def Bit (b : Int) : Prop := 0 ≤ b ∧ b ≤ 1
def Bits (l : List Int) : Prop := ∀ b ∈ l, Bit b
theorem bitsN_length : ∀ n x, (bitsN n x).length = n
  | 0, _ => rfl
  | n + 1, x => by simp [bitsN, bitsN_length n]
theorem bitsN_snoc : ∀ n x, bitsN (n + 1) x = bitsN n x ++ [((x / 2 ^ n % 2 : Nat) : Int)]
  | 0, x => by simp [bitsN]
  | n + 1, x => by
    rw [bitsN, bitsN_snoc n (x / 2), bitsN, Nat.div_div_eq_div_mul, List.cons_append, show 2 * 2 ^ n = 2 ^ (n + 1) from by rw [Nat.pow_succ, Nat.mul_comm]]
theorem bitsN_bits : ∀ n x, Bits (bitsN n x)
  | 0, _ => by intro b hb; simp [bitsN] at hb
  | n + 1, x => by
    intro b hb
    simp only [bitsN, List.mem_cons] at hb
    rcases hb with rfl | hb
    · unfold Bit; omega
    · exact bitsN_bits n _ b hb
theorem bv_bitsN : ∀ n x, bv (bitsN n x) = ((x % 2 ^ n : Nat) : Int)
  | 0, x => by simp [bitsN, bv, Nat.mod_one]
  | n + 1, x => by
    rw [bitsN, bv, bv_bitsN n (x / 2)]
    have h : x % 2 ^ (n + 1) = x % 2 + 2 * (x / 2 % 2 ^ n) := by
      rw [Nat.pow_succ, Nat.mul_comm (2 ^ n) 2, Nat.mod_mul]
    omega
theorem bv_append : ∀ (l m : List Int), bv (l ++ m) = bv l + 2 ^ l.length * bv m
  | [], m => by simp [bv]
  | b :: l, m => by
    rw [List.cons_append, bv, bv, bv_append l m, List.length_cons, Int.pow_succ, Int.mul_add, Int.mul_comm (2 ^ l.length) 2, Int.mul_assoc]
    omega
theorem bv_bd : ∀ {l : List Int}, Bits l → 0 ≤ bv l ∧ bv l < 2 ^ l.length
  | [], _ => by simp [bv]
  | b :: l, h => by
    have h1 := h b (by simp)
    have h2 := bv_bd (l := l) (fun c hc => h c (by simp [hc]))
    unfold Bit at h1
    rw [bv, List.length_cons, Int.pow_succ]
    omega
theorem bits_eq : ∀ {l : List Int}, Bits l → l = bitsN l.length (bv l).toNat
  | [], _ => rfl
  | b :: l, h => by
    have h1 := h b (by simp)
    have h0 : Bits l := fun c hc => h c (by simp [hc])
    have h2 := bv_bd h0
    have e := bits_eq h0
    unfold Bit at h1
    rw [List.length_cons, bitsN, bv]
    have e1 : (b + 2 * bv l).toNat % 2 = b.toNat := by omega
    have e2 : (b + 2 * bv l).toNat / 2 = (bv l).toNat := by omega
    rw [e1, e2, ← e]
    congr 1
    omega
theorem bitsN_mod (n x : Nat) : bitsN n (x % 2 ^ n) = bitsN n x := by
  have h := bits_eq (bitsN_bits n x)
  rw [bitsN_length, bv_bitsN, Int.toNat_natCast] at h
  exact h.symm
theorem bitsN_take : ∀ (n m x : Nat), (bitsN (n + m) x).take n = bitsN n x
  | 0, m, x => by simp [bitsN]
  | n + 1, m, x => by
    rw [show n + 1 + m = (n + m) + 1 from by omega, bitsN, List.take_succ_cons, bitsN_take n m, bitsN]
theorem bitsN_drop : ∀ (n m x : Nat), (bitsN (n + m) x).drop n = bitsN m (x / 2 ^ n)
  | 0, m, x => by simp
  | n + 1, m, x => by
    rw [show n + 1 + m = (n + m) + 1 from by omega, bitsN, List.drop_succ_cons, bitsN_drop n m, Nat.div_div_eq_div_mul, show 2 * 2 ^ n = 2 ^ (n + 1) from by rw [Nat.pow_succ, Nat.mul_comm]]
theorem bitsN_get (n x k : Nat) (hk : k < n) : (bitsN n x)[k]? = some (((x / 2 ^ k) % 2 : Nat) : Int) := by
  obtain ⟨d, rfl⟩ : ∃ d, n = k + (d + 1) := ⟨n - k - 1, by omega⟩
  have h := bitsN_drop k (d + 1) x
  have : (bitsN (k + (d + 1)) x)[k]? = ((bitsN (k + (d + 1)) x).drop k)[0]? := by rw [List.getElem?_drop]; simp
  rw [this, h]
  simp [bitsN]
theorem bits_append {l m : List Int} (hl : Bits l) (hm : Bits m) : Bits (l ++ m) := by
  intro b hb
  rcases List.mem_append.1 hb with h | h
  · exact hl b h
  · exact hm b h
theorem bits_zeros (n : Nat) : Bits (List.replicate n 0) := by
  intro b hb
  have := List.eq_of_mem_replicate hb
  subst this
  unfold Bit; omega
theorem bv_zeros : ∀ n, bv (List.replicate n 0) = 0
  | 0 => rfl
  | n + 1 => by rw [List.replicate_succ, bv, bv_zeros n]; rfl
theorem bv_take_succ (l : List Int) (k : Nat) : bv (l.take (k + 1)) = bv (l.take k) + 2 ^ k * l.getD k 0 := by
  by_cases h : k < l.length
  · rw [List.take_succ_eq_append_getElem h, bv_append, List.length_take, Nat.min_eq_left (by omega)]
    simp [bv, List.getD, List.getElem?_eq_getElem h]
  · rw [List.take_of_length_le (by omega), List.take_of_length_le (by omega), List.getD_eq_getElem?_getD, List.getElem?_eq_none (by omega)]
    simp
theorem getD_bit {l : List Int} (h : Bits l) (k : Nat) : Bit (l.getD k 0) := by
  by_cases hk : k < l.length
  · exact h _ (by rw [List.getD_eq_getElem?_getD, List.getElem?_eq_getElem hk]; exact List.getElem_mem hk)
  · rw [List.getD_eq_getElem?_getD, List.getElem?_eq_none (by omega)]; unfold Bit; simp
/-- Adding up, bit by bit: where it stands behind k bits. -/
structure AddAt (a b : List Int) (k : Nat) (out : List Int) (c : Int) : Prop where
  len : out.length = k
  bits : Bits out
  carry : Bit c
  sum : bv (a.take k) + bv (b.take k) = bv out + 2 ^ k * c
theorem AddAt.start (a b : List Int) : AddAt a b 0 [] 0 := ⟨rfl, by intro x hx; simp at hx, by unfold Bit; omega, by simp [bv]⟩
theorem AddAt.step {a b out : List Int} {k : Nat} {c s : Int} (h : AddAt a b k out c) (ha : Bits a) (hb : Bits b) (hs : s = c + a.getD k 0 + b.getD k 0) : AddAt a b (k + 1) (out ++ [s % 2]) (s / 2) := by
  have h1 := getD_bit ha k
  have h2 := getD_bit hb k
  have h3 := h.carry
  unfold Bit at h1 h2 h3
  refine ⟨by simp [h.len], bits_append h.bits (by intro x hx; simp at hx; subst hx; unfold Bit; omega), by unfold Bit; omega, ?_⟩
  have e := h.sum
  rw [bv_take_succ, bv_take_succ, bv_append, h.len]
  simp only [bv, Int.mul_zero, Int.add_zero]
  have e2 : (2 : Int) ^ (k + 1) * (s / 2) = 2 ^ k * (2 * (s / 2)) := by rw [Int.pow_succ, Int.mul_assoc]
  have e3 : (2 : Int) ^ k * (s % 2) + 2 ^ k * (2 * (s / 2)) = 2 ^ k * s := by rw [← Int.mul_add]; congr 1; omega
  have e4 : (2 : Int) ^ k * s = 2 ^ k * c + 2 ^ k * a.getD k 0 + 2 ^ k * b.getD k 0 := by rw [hs, Int.mul_add, Int.mul_add]
  omega
theorem AddAt.done {a b out : List Int} {k : Nat} {c : Int} (h : AddAt a b k out c) (ha : a.length ≤ k) (hb : b.length ≤ k) : out = bitsN k (bv a + bv b).toNat := by
  have e := h.sum
  rw [List.take_of_length_le ha, List.take_of_length_le hb] at e
  have h1 := bits_eq h.bits
  have h2 := bv_bd h.bits
  have h3 := h.carry
  rw [h.len] at h1 h2
  have hp : (2 : Int) ^ k = ((2 ^ k : Nat) : Int) := by rw [Int.natCast_pow]; rfl
  rw [h1, ← bitsN_mod k (bv a + bv b).toNat]
  congr 1
  rw [e]
  obtain ⟨c0, c1⟩ := h3
  obtain ⟨o, ho⟩ := Int.eq_ofNat_of_zero_le h2.1
  obtain ⟨c, rfl⟩ := Int.eq_ofNat_of_zero_le c0
  rw [hp, ho] at h2
  rw [ho, hp, ← Int.natCast_mul, ← Int.natCast_add, Int.toNat_natCast, Int.toNat_natCast, Nat.add_mul_mod_self_left]
  exact (Nat.mod_eq_of_lt (by omega)).symm
theorem mod_step (y k : Nat) : y % 2 ^ (k + 1) = y % 2 ^ k + 2 ^ k * (y / 2 ^ k % 2) := by rw [Nat.pow_succ, Nat.mod_mul]
/-- The product, bit by bit: one more factor of two. -/
theorem mul_step (x y k : Nat) (hx : x < 18446744073709551616) (hk : k < 64) :
    bv (bitsN 128 (((x * (y % 2 ^ k) : Nat) : Int) + bv (List.replicate k 0 ++ bitsN 64 x)).toNat) = ((x * (y % 2 ^ k) + x * 2 ^ k : Nat) : Int) := by
  rw [bv_append, bv_zeros, List.length_replicate, bv_bitsN, bv_bitsN]
  have e0 : x % 2 ^ 64 = x := Nat.mod_eq_of_lt (by omega)
  rw [e0]
  have e1 : (0 : Int) + 2 ^ k * ((x : Nat) : Int) = ((x * 2 ^ k : Nat) : Int) := by rw [Int.zero_add, Int.natCast_mul, Int.natCast_pow, Int.mul_comm]; rfl
  rw [e1, ← Int.natCast_add, Int.toNat_natCast]
  congr 1
  apply Nat.mod_eq_of_lt
  have h1 : y % 2 ^ k < 2 ^ k := Nat.mod_lt _ (Nat.two_pow_pos k)
  have h2 : x * (y % 2 ^ k) + x * 2 ^ k ≤ x * 2 ^ (k + 1) := by rw [← Nat.mul_add, Nat.pow_succ]; exact Nat.mul_le_mul_left _ (by omega)
  have h3 : x * 2 ^ (k + 1) ≤ x * 2 ^ 64 := Nat.mul_le_mul_left _ (Nat.pow_le_pow_right (by decide) (by omega))
  have h4 : x * 2 ^ 64 < 18446744073709551616 * 2 ^ 64 := Nat.mul_lt_mul_of_pos_right hx (by decide)
  have h5 : (18446744073709551616 : Nat) * 2 ^ 64 = 2 ^ 128 := by decide
  omega
theorem bitLen_of (x j : Nat) (h1 : 2 ^ j ≤ x) (h2 : x < 2 ^ (j + 1)) : bitLen x = j + 1 := by
  have hne : x ≠ 0 := by have := Nat.two_pow_pos j; omega
  unfold bitLen
  rw [if_neg hne, (Nat.log2_eq_iff hne).2 ⟨h1, h2⟩]
/-- From above, the first bit that is 1. -/
theorem len_hit (x j : Nat) (h0 : x / 2 ^ (j + 1) = 0) (h1 : x / 2 ^ j % 2 = 1) : bitLen x = j + 1 := by
  have hp := Nat.two_pow_pos j
  refine bitLen_of x j ?_ ?_
  · rcases Nat.lt_or_ge x (2 ^ j) with h | h
    · rw [Nat.div_eq_of_lt h] at h1; omega
    · exact h
  · rcases (Nat.div_eq_zero_iff).1 h0 with h | h
    · have := Nat.two_pow_pos (j + 1); omega
    · exact h
theorem len_miss (x j : Nat) (h0 : x / 2 ^ (j + 1) = 0) (h1 : x / 2 ^ j % 2 = 0) : x / 2 ^ j = 0 := by
  rw [Nat.pow_succ, ← Nat.div_div_eq_div_mul] at h0
  omega
/-- From below, the first bit that is 1. -/
theorem ctz_hit : ∀ (k f x : Nat), x % 2 ^ k = 0 → x / 2 ^ k % 2 = 1 → k < f → Lib.ctzFrom f x = k
  | _, 0, _, _, _, h => by omega
  | 0, f + 1, x, _, h, _ => by
    unfold Lib.ctzFrom
    rw [Nat.pow_zero, Nat.div_one] at h
    rw [if_pos h]
  | k + 1, f + 1, x, h0, h1, hk => by
    have e := mod_step (x / 2) 0
    have hm : x % 2 ^ (k + 1) = x % 2 + 2 * (x / 2 % 2 ^ k) := by rw [Nat.pow_succ, Nat.mul_comm (2 ^ k) 2, Nat.mod_mul]
    have h2 : x % 2 = 0 := by omega
    have h3 : x / 2 % 2 ^ k = 0 := by omega
    have h4 : x / 2 / 2 ^ k % 2 = 1 := by rw [Nat.div_div_eq_div_mul, show 2 * 2 ^ k = 2 ^ (k + 1) from by rw [Nat.pow_succ, Nat.mul_comm]]; exact h1
    unfold Lib.ctzFrom
    rw [if_neg (by omega), ctz_hit k f (x / 2) h3 h4 (by omega)]
    omega
theorem ctz_of_hit (x k : Nat) (h0 : x % 2 ^ k = 0) (h1 : x / 2 ^ k % 2 = 1) (hk : k < 64) : Lib.ctz 64 x = k := by
  have hne : x ≠ 0 := by rintro rfl; simp at h1
  unfold Lib.ctz
  rw [if_neg hne]
  exact ctz_hit k 64 x h0 h1 hk
theorem ctz_miss (x k : Nat) (h0 : x % 2 ^ k = 0) (h1 : x / 2 ^ k % 2 = 0) : x % 2 ^ (k + 1) = 0 := by rw [mod_step, h0, h1, Nat.mul_zero]
/-- Taking away, bit by bit: where it stands behind k bits. -/
structure LessAt (x y c k : Nat) (out : List Int) (b : Int) : Prop where
  len : out.length = k
  bits : Bits out
  lack : Bit b
  sum : bv out - 2 ^ k * b = ((x % 2 ^ k : Nat) : Int) - ((y % 2 ^ k : Nat) : Int) - (if k = 0 then 0 else (c : Int) % 2)
  first : k = 0 → b = 0
theorem LessAt.start (x y c : Nat) : LessAt x y c 0 [] 0 := ⟨rfl, by intro b hb; simp at hb, by unfold Bit; omega, by simp [bv, Nat.mod_one], fun _ => rfl⟩
/-- What is reckoned for one bit. -/
def lessD (x y c k : Nat) (b : Int) : Int := ((x / 2 ^ k % 2 : Nat) : Int) - ((y / 2 ^ k % 2 : Nat) : Int) - b - (if k = 0 then (c : Int) % 2 else 0)
theorem lessD_bd {x y c k : Nat} {b : Int} (hb : Bit b) (h0 : k = 0 → b = 0) : -2 ≤ lessD x y c k b ∧ lessD x y c k b ≤ 1 := by
  unfold Bit at hb
  unfold lessD
  split
  · rename_i h; have := h0 h; omega
  · omega
theorem LessAt.step {x y c k : Nat} {out : List Int} {b d b' : Int} (h : LessAt x y c k out b) (hd : d = lessD x y c k b + 2 * b') (hb' : b' = if lessD x y c k b < 0 then 1 else 0) : LessAt x y c (k + 1) (out ++ [d]) b' := by
  have hbd := lessD_bd (x := x) (y := y) (c := c) h.lack h.first
  have hB : Bit b' := by unfold Bit; split at hb' <;> omega
  refine ⟨by simp [h.len], bits_append h.bits (by intro z hz; simp at hz; subst hz; unfold Bit; split at hb' <;> omega), hB, ?_, by omega⟩
  have e := h.sum
  rw [bv_append, h.len, mod_step x k, mod_step y k]
  simp only [bv, Int.mul_zero, Int.add_zero, if_neg (Nat.succ_ne_zero k)]
  have hD : (if k = 0 then (0 : Int) else (c : Int) % 2) + (if k = 0 then (c : Int) % 2 else 0) = (c : Int) % 2 := by split <;> omega
  have hk0 : 2 ^ k * (if k = 0 then (c : Int) % 2 else 0) = (if k = 0 then (c : Int) % 2 else 0) := by
    split
    · rename_i h; subst h; simp
    · simp
  have e1 : (2 : Int) ^ k * d = 2 ^ k * ((x / 2 ^ k % 2 : Nat) : Int) - 2 ^ k * ((y / 2 ^ k % 2 : Nat) : Int) - 2 ^ k * b - 2 ^ k * (if k = 0 then (c : Int) % 2 else 0) + 2 ^ k * (2 * b') := by
    rw [hd]; unfold lessD; rw [Int.mul_add, Int.mul_sub, Int.mul_sub, Int.mul_sub]
  have e2 : (2 : Int) ^ (k + 1) * b' = 2 ^ k * (2 * b') := by rw [Int.pow_succ, Int.mul_assoc]
  have e3 : ((x % 2 ^ k + 2 ^ k * (x / 2 ^ k % 2) : Nat) : Int) = ((x % 2 ^ k : Nat) : Int) + 2 ^ k * ((x / 2 ^ k % 2 : Nat) : Int) := by rw [Int.natCast_add, Int.natCast_mul, Int.natCast_pow]; rfl
  have e4 : ((y % 2 ^ k + 2 ^ k * (y / 2 ^ k % 2) : Nat) : Int) = ((y % 2 ^ k : Nat) : Int) + 2 ^ k * ((y / 2 ^ k % 2 : Nat) : Int) := by rw [Int.natCast_add, Int.natCast_mul, Int.natCast_pow]; rfl
  rw [e3, e4]
  rw [hk0] at e1
  omega
theorem LessAt.done {x y c : Nat} {out : List Int} {b : Int} (h : LessAt x y c 64 out b) (hx : x < 18446744073709551616) (hy : y < 18446744073709551616) : bv out = subLo x y c ∧ b = subHi x y c := by
  have e := h.sum
  have hbd := bv_bd h.bits
  have hl := h.lack
  rw [h.len] at hbd
  rw [show x % 2 ^ 64 = x from Nat.mod_eq_of_lt (by omega), show y % 2 ^ 64 = y from Nat.mod_eq_of_lt (by omega)] at e
  simp only [show (2 : Int) ^ 64 = 18446744073709551616 from by decide, show ¬ (64 : Nat) = 0 from by decide, if_false] at e hbd
  unfold Bit at hl
  unfold subLo subHi
  refine ⟨by omega, ?_⟩
  split <;> omega
end Go.Proofs.Ytnnhcicdildfaaa
