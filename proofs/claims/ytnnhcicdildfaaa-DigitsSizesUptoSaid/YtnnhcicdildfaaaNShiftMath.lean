/-
  Plain arithmetic of shifts, word by word. Conditions: none beyond each lemma's own.
-/
import Derived.Test.YtnnhcicdildfaaaNDig
import Derived.Laws.Bits64b
namespace Go.Proofs.Ytnnhcicdildfaaa
open Go Go.RowKit
theorem kpow (k : Nat) : 18446744073709551616 ^ (k / 64) * 2 ^ (k % 64) = 2 ^ k := by
  rw [show (18446744073709551616 : Nat) = 2 ^ 64 from rfl, ← Nat.pow_mul, ← Nat.pow_add, Nat.div_add_mod]
theorem two64 {r : Nat} (h : r ≤ 64) : 2 ^ (64 - r) * 2 ^ r = 18446744073709551616 := by
  rw [← Nat.pow_add, Nat.sub_add_cancel h]
/-- A multiple of a power of two, or'ed with what is below it. -/
theorem or_apart {i a b : Nat} (h : b < 2 ^ i) : 2 ^ i * a ||| b = 2 ^ i * a + b := (Nat.two_pow_add_eq_or_of_lt h a).symm
theorem or_apart' {i a b : Nat} (h : b < 2 ^ i) : b ||| 2 ^ i * a = 2 ^ i * a + b := by rw [Nat.or_comm]; exact or_apart h
theorem or_u64 {i a b : Nat} (h : b < 2 ^ i) (hab : 2 ^ i * a + b < 18446744073709551616) : bits .or .u64 ((2 ^ i * a : Nat) : Int) (b : Int) = ((2 ^ i * a + b : Nat) : Int) := by
  rw [bits_or_u64_nat _ _ (by omega) (by omega), or_apart h]
theorem or_u64' {i a b : Nat} (h : b < 2 ^ i) (hab : 2 ^ i * a + b < 18446744073709551616) : bits .or .u64 (b : Int) ((2 ^ i * a : Nat) : Int) = ((2 ^ i * a + b : Nat) : Int) := by
  rw [bits_or_u64_nat _ _ (by omega) (by omega), or_apart' h]
/-- A word shifted up: what stays of it. -/
theorem shl_low (a r : Nat) (hr : r ≤ 64) : a * 2 ^ r % 18446744073709551616 = 2 ^ r * (a % 2 ^ (64 - r)) := by
  rw [← two64 hr, Nat.mul_comm (2 ^ (64 - r)), Nat.mul_comm a, Nat.mul_mod_mul_left]
/-- Word i of a number by a power of two. -/
theorem wd_shr (x k i : Nat) : wd (x / 2 ^ k) i = wd x (k / 64 + i) / 2 ^ (k % 64) + 2 ^ (64 - k % 64) * (wd x (k / 64 + i + 1) % 2 ^ (k % 64)) := by
  have hr : k % 64 ≤ 64 := by omega
  have e1 : x / 2 ^ k / 18446744073709551616 ^ i = x / 18446744073709551616 ^ (k / 64 + i) / 2 ^ (k % 64) := by
    rw [Nat.div_div_eq_div_mul, Nat.div_div_eq_div_mul, ← kpow k, Nat.pow_add]
    congr 1
    rw [Nat.mul_assoc, Nat.mul_assoc, Nat.mul_comm (2 ^ (k % 64))]
  have e2 : x / 18446744073709551616 ^ (k / 64 + i + 1) = x / 18446744073709551616 ^ (k / 64 + i) / 18446744073709551616 := by
    rw [Nat.pow_succ, ← Nat.div_div_eq_div_mul]
  unfold wd
  rw [e1, e2]
  generalize x / 18446744073709551616 ^ (k / 64 + i) = y
  generalize k % 64 = r at *
  have e3 : y / 18446744073709551616 % 18446744073709551616 % 2 ^ r = y / 18446744073709551616 % 2 ^ r := by
    refine Nat.mod_mod_of_dvd _ ?_
    rw [← two64 hr]
    exact Nat.dvd_mul_left _ _
  rw [e3]
  have e4 : y = 18446744073709551616 * (y / 18446744073709551616) + y % 18446744073709551616 := (Nat.div_add_mod _ _).symm
  generalize hq : y / 18446744073709551616 = q at *
  generalize hm : y % 18446744073709551616 = m at *
  have hm1 : m < 18446744073709551616 := by omega
  subst e4
  rw [← two64 hr] at hm1 ⊢
  have e5 : 2 ^ (64 - r) * 2 ^ r * q + m = m + 2 ^ r * (2 ^ (64 - r) * q) := by rw [Nat.add_comm, Nat.mul_comm (2 ^ (64 - r)) (2 ^ r), Nat.mul_assoc]
  rw [e5, Nat.add_mul_div_left _ _ (Nat.two_pow_pos r)]
  have e6 : m / 2 ^ r < 2 ^ (64 - r) := (Nat.div_lt_iff_lt_mul (Nat.two_pow_pos r)).2 hm1
  have e7 : 2 ^ (64 - r) * q = 2 ^ (64 - r) * 2 ^ r * (q / 2 ^ r) + 2 ^ (64 - r) * (q % 2 ^ r) := by
    rw [Nat.mul_assoc, ← Nat.mul_add, Nat.div_add_mod]
  rw [e7, Nat.add_comm (2 ^ (64 - r) * 2 ^ r * (q / 2 ^ r)), ← Nat.add_assoc, Nat.add_mul_mod_self_left]
  refine Nat.mod_eq_of_lt ?_
  have e8 : q % 2 ^ r < 2 ^ r := Nat.mod_lt _ (Nat.two_pow_pos r)
  have e9 : 2 ^ (64 - r) * (q % 2 ^ r + 1) ≤ 2 ^ (64 - r) * 2 ^ r := Nat.mul_le_mul_left _ e8
  rw [Nat.mul_add] at e9
  omega
/-- The first i words of a number. -/
def firstW (y i : Nat) : List Nat := (List.range i).map (wd y)
theorem firstW_len (y i : Nat) : (firstW y i).length = i := by simp [firstW]
theorem firstW_succ (y i : Nat) : firstW y (i + 1) = firstW y i ++ [wd y i] := by simp [firstW, List.range_succ]
theorem firstW_dgs (y i : Nat) : Dgs 18446744073709551616 (firstW y i) := by
  intro d hd
  obtain ⟨j, _, rfl⟩ := List.mem_map.1 hd
  exact wd_lt y j
theorem firstW_dv (y : Nat) : ∀ i, dv 18446744073709551616 (firstW y i) = y % 18446744073709551616 ^ i
  | 0 => by simp [firstW, dv, Nat.mod_one]
  | i + 1 => by rw [firstW_succ, dv_snoc, firstW_dv y i, firstW_len, mod_step_b 18446744073709551616 y i]; rfl
theorem firstW_all {y i : Nat} (h : (dg 18446744073709551616 y).length ≤ i) : dv 18446744073709551616 (firstW y i) = y := by
  rw [firstW_dv]
  exact Nat.mod_eq_of_lt (Nat.lt_of_lt_of_le (dg_lt (by decide) y) (Nat.pow_le_pow_right (by decide) h))
theorem wrap_u64n (m : Nat) : IntKind.u64.wrap (m : Int) = ((m % 18446744073709551616 : Nat) : Int) := by
  simp [IntKind.wrap, IntKind.bits, IntKind.signed]
theorem shr_cell {a b r : Nat} (ha : a < 18446744073709551616) (hr : r < 64) :
    bits .or .u64 ((a : Int) / 2 ^ r) (IntKind.u64.wrap ((b : Int) * 2 ^ (64 - r))) = ((a / 2 ^ r + 2 ^ (64 - r) * (b % 2 ^ r) : Nat) : Int) := by
  have e1 : (a : Int) / 2 ^ r = ((a / 2 ^ r : Nat) : Int) := by simp
  have e2 : (b : Int) * 2 ^ (64 - r) = ((b * 2 ^ (64 - r) : Nat) : Int) := by simp
  have e3 : b * 2 ^ (64 - r) % 18446744073709551616 = 2 ^ (64 - r) * (b % 2 ^ r) := by
    rw [shl_low b (64 - r) (by omega), show 64 - (64 - r) = r from by omega]
  rw [e1, e2, wrap_u64n, e3]
  have h1 : a / 2 ^ r < 2 ^ (64 - r) := (Nat.div_lt_iff_lt_mul (Nat.two_pow_pos r)).2 (by rw [two64 (by omega)]; exact ha)
  have h2 : b % 2 ^ r < 2 ^ r := Nat.mod_lt _ (Nat.two_pow_pos r)
  have h3 : 2 ^ (64 - r) * (b % 2 ^ r + 1) ≤ 2 ^ (64 - r) * 2 ^ r := Nat.mul_le_mul_left _ h2
  rw [two64 (by omega), Nat.mul_add] at h3
  rw [or_u64' h1 (by omega), Nat.add_comm]
theorem lowB (x k : Nat) : x % 18446744073709551616 ^ (k / 64) + 18446744073709551616 ^ (k / 64) * (wd x (k / 64) % 2 ^ (k % 64)) = x % 2 ^ k := by
  have h2 : wd x (k / 64) % 2 ^ (k % 64) = x / 18446744073709551616 ^ (k / 64) % 2 ^ (k % 64) := by
    unfold wd
    refine Nat.mod_mod_of_dvd _ ?_
    rw [show (18446744073709551616 : Nat) = 2 ^ 64 from rfl]
    exact Nat.pow_dvd_pow 2 (by omega)
  rw [h2, ← kpow k, Nat.mod_mul]
theorem low_done (x k : Nat) : dv 18446744073709551616 (firstW x (k / 64) ++ [wd x (k / 64) % 2 ^ (k % 64)]) = x % 2 ^ k := by
  rw [dv_snoc, firstW_dv, firstW_len, lowB]
theorem firstW_take (x q : Nat) (h : q ≤ (dg 18446744073709551616 x).length) : (dg 18446744073709551616 x).take q = firstW x q := by
  refine List.ext_getElem (by rw [firstW_len, List.length_take, Nat.min_eq_left h]) (fun i h1 h2 => ?_)
  rw [firstW_len] at h2
  have e := wd_get x i
  rw [List.getD_eq_getElem?_getD, List.getElem?_eq_getElem (by omega)] at e
  simp [firstW, ← e]
theorem and_mask {a r : Nat} (ha : a < 18446744073709551616) (hr : r < 64) : bits .and .u64 (a : Int) ((2 ^ r - 1 : Nat) : Int) = ((a % 2 ^ r : Nat) : Int) := by
  have h : 2 ^ r ≤ 2 ^ 63 := Nat.pow_le_pow_right (by decide) (by omega)
  rw [bits_and_u64_nat _ _ ha (by omega), Nat.and_two_pow_sub_one_eq_mod]
theorem blk_reads2 {w : World} {g n : Nat} {t : TypeId} {cs : Array Value} {l : List Nat} (h : Blk w g t cs) (hv : cs.toList.take n = vals .u64 l) (hl : l.length = n) : Reads w w.heap.size 1 (some ⟨g, 0, none⟩) n (vals .u64 l) := by
  refine ⟨by rw [vals_length]; omega, fun _ => ⟨_, rfl, h.lt, fun j u hu => ?_⟩⟩
  have e : (⟨g, 0, none⟩ : Addr).add j = ⟨g, j, none⟩ := by unfold Addr.add; split <;> simp_all
  have hj : j < n := by
    have := (List.getElem?_eq_some_iff.1 hu).1
    rw [vals_length] at this; omega
  rw [e, h.cell j, ← Array.getElem?_toList]
  rw [← hv, List.getElem?_take, if_pos hj] at hu
  exact hu
theorem cell_of_take {cs : Array Value} {n j : Nat} {l : List Nat} (hv : cs.toList.take n = vals .u64 l) (hj : j < n) {d : Nat} (hd : l[j]? = some d) : cs[j]? = some (.int .u64 (d : Int)) := by
  have h : (cs.toList.take n)[j]? = some (.int .u64 (d : Int)) := by rw [hv]; simp [vals, hd]
  rw [List.getElem?_take, if_pos hj] at h
  rw [← Array.getElem?_toList]; exact h
theorem mask_cell {a r : Nat} (ha : a < 18446744073709551616) (hr : r < 64) : bits .and .u64 (a : Int) (IntKind.u64.wrap (IntKind.u64.wrap (2 ^ r) - 1)) = ((a % 2 ^ r : Nat) : Int) := by
  have h : 2 ^ r ≤ 2 ^ 63 := Nat.pow_le_pow_right (by decide) (by omega)
  have h0 : 0 < 2 ^ r := Nat.two_pow_pos r
  have e1 : (2 : Int) ^ r = ((2 ^ r : Nat) : Int) := by simp
  rw [e1, wrap_u64n, Nat.mod_eq_of_lt (by omega), show ((2 ^ r : Nat) : Int) - 1 = ((2 ^ r - 1 : Nat) : Int) from by omega, wrap_u64n, Nat.mod_eq_of_lt (by omega)]
  exact and_mask ha hr
/-! ### A number times a small power of two, word by word -/
structure SmallB (x m k : Nat) (out : List Nat) (c : Nat) : Prop where
  len : out.length = k
  dgs : Dgs 18446744073709551616 out
  carry : c < m
  sum : dv 18446744073709551616 out + 18446744073709551616 ^ k * c = x % 18446744073709551616 ^ k * m
theorem SmallB.start (x m : Nat) (hm : 0 < m) : SmallB x m 0 [] 0 := ⟨rfl, by intro d hd; simp at hd, hm, by simp [dv, Nat.mod_one]⟩
theorem SmallB.step {x m k c s : Nat} {out : List Nat} (h : SmallB x m k out c) (hs : s = wd x k * m + c) : SmallB x m (k + 1) (out ++ [s % 18446744073709551616]) (s / 18446744073709551616) := by
  have h1 := wd_lt x k
  have h3 := h.carry
  have h4 : (wd x k + 1) * m ≤ 18446744073709551616 * m := Nat.mul_le_mul_right m h1
  rw [Nat.add_mul] at h4
  refine ⟨by simp [h.len], h.dgs.append (by intro d hd; simp at hd; subst hd; exact Nat.mod_lt _ (by decide)), (Nat.div_lt_iff_lt_mul (by decide)).2 (by rw [Nat.mul_comm m]; omega), ?_⟩
  have e := h.sum
  have e2 : 18446744073709551616 ^ k * (s % 18446744073709551616) + 18446744073709551616 ^ k * (18446744073709551616 * (s / 18446744073709551616)) = 18446744073709551616 ^ k * s := by rw [← Nat.mul_add, Nat.mod_add_div]
  have e3 : 18446744073709551616 ^ k * s = 18446744073709551616 ^ k * wd x k * m + 18446744073709551616 ^ k * c := by rw [hs, Nat.mul_add, Nat.mul_assoc]
  rw [dv_snoc, h.len, Nat.pow_succ, Nat.mul_assoc (18446744073709551616 ^ k) 18446744073709551616, ← Nat.pow_succ, mod_step_b 18446744073709551616 x k, Nat.add_mul]
  unfold wd at e3
  omega
theorem SmallB.done {x m n q c : Nat} {out : List Nat} (h : SmallB x m n out c) (hx : (dg 18446744073709551616 x).length ≤ n) : dv 18446744073709551616 (List.replicate q 0 ++ out ++ [c]) = 18446744073709551616 ^ q * m * x := by
  have e := h.sum
  have h1 : x < 18446744073709551616 ^ n := Nat.lt_of_lt_of_le (dg_lt (by decide) x) (Nat.pow_le_pow_right (by decide) hx)
  rw [Nat.mod_eq_of_lt h1] at e
  rw [List.append_assoc, dv_append, dv_zeros, List.length_replicate, dv_snoc, h.len, e, Nat.zero_add, Nat.mul_assoc, Nat.mul_comm m]
theorem shl_key (a : Nat) {r : Nat} (hr : r < 64) : ∃ hi lo : Nat, a / 2 ^ (64 - r) = hi ∧ 2 ^ r * (a % 2 ^ (64 - r)) = lo ∧ a * 2 ^ r = 18446744073709551616 * hi + lo ∧ lo + 2 ^ r ≤ 18446744073709551616 := by
  refine ⟨_, _, rfl, rfl, ?_, ?_⟩
  · rw [← two64 (r := r) (by omega), Nat.mul_assoc, Nat.mul_comm (2 ^ r) (a / 2 ^ (64 - r)), ← Nat.mul_assoc, Nat.mul_comm (2 ^ r), ← Nat.add_mul, Nat.div_add_mod]
  · have h2 : a % 2 ^ (64 - r) < 2 ^ (64 - r) := Nat.mod_lt _ (Nat.two_pow_pos _)
    have h3 : 2 ^ r * (a % 2 ^ (64 - r) + 1) ≤ 2 ^ r * 2 ^ (64 - r) := Nat.mul_le_mul_left _ h2
    rw [Nat.mul_comm (2 ^ r) (2 ^ (64 - r)), two64 (by omega), Nat.mul_add, Nat.mul_one] at h3
    exact h3
theorem shl_cell {a c r : Nat} (hr : r < 64) (hc : c < 2 ^ r) : bits .or .u64 (c : Int) (IntKind.u64.wrap ((a : Int) * 2 ^ r)) = (((a * 2 ^ r + c) % 18446744073709551616 : Nat) : Int) := by
  have e2 : (a : Int) * 2 ^ r = ((a * 2 ^ r : Nat) : Int) := by simp
  obtain ⟨hi, lo, e3, e4, e5, e6⟩ := shl_key a hr
  have e7 : 2 ^ r * (a % 2 ^ (64 - r)) + c < 18446744073709551616 := by rw [e4]; omega
  rw [e2, wrap_u64n, shl_low a r (by omega), or_u64' hc e7, e4, e5]
  generalize 2 ^ r = p at *
  omega
theorem shl_carry {a c r : Nat} (hr : r < 64) (hc : c < 2 ^ r) : (a : Int) / 2 ^ (64 - r) = (((a * 2 ^ r + c) / 18446744073709551616 : Nat) : Int) := by
  have e1 : (a : Int) / 2 ^ (64 - r) = ((a / 2 ^ (64 - r) : Nat) : Int) := by simp
  obtain ⟨hi, lo, e3, e4, e5, e6⟩ := shl_key a hr
  rw [e1, e3, e5]
  generalize 2 ^ r = p at *
  omega
theorem set_two {α : Type} {P R : List α} {j : Nat} {c z a b : α} (h : P.length = j) : ((P ++ c :: z :: R).set j a).set (j + 1) b = P ++ a :: b :: R := by
  subst h
  rw [List.set_append_right _ _ (Nat.le_refl _), Nat.sub_self, List.set_cons_zero, List.set_append_right _ _ (by omega)]
  simp
theorem vals_rep (n : Nat) : vals .u64 (List.replicate (n + 1) 0) = .int .u64 0 :: vals .u64 (List.replicate n 0) := by simp [vals, List.replicate_succ]
end Go.Proofs.Ytnnhcicdildfaaa
