/-
  Plain arithmetic of a division as on paper: how far a divisor is shifted up, and what that changes. Conditions: none beyond each lemma's own.
-/
import Derived.Test.YtaemlkoklaoglaaBunM
import Derived.Test.YtaemlkoklaoglaaNBits
import Derived.Test.YtaemlkoklaoglaaBunW
namespace Go.Proofs.Ytaemlkoklaoglaa
open Go Go.RowKit
set_option linter.unusedVariables false
theorem norm_up {d m : Nat} (hd : (dg 18446744073709551616 d).length = m + 1) : ∃ up : Nat, (64 - lenN ((wd d m : Nat) : Int) = (up : Int)) ∧ up ≤ 63 ∧ 2 ^ up * d < 18446744073709551616 ^ (m + 1) ∧ 18446744073709551616 ≤ 2 * (2 ^ up * d / 18446744073709551616 ^ m) := by
  obtain ⟨h1, h2, _⟩ := bitLen_topB hd
  have h3 := wd_lt d m
  obtain ⟨up, e, hu, hlo, hhi⟩ := len_norm ((wd d m : Nat) : Int) (by omega) (by omega)
  refine ⟨up, e, hu, ?_, ?_⟩
  · obtain ⟨t, ht⟩ : ∃ t, wd d m = t := ⟨_, rfl⟩
    rw [ht] at h1 hhi
    have h4 : t * 2 ^ up < 2 ^ (64 - up) * 2 ^ up := by
      rw [← Nat.pow_add, show 64 - up + up = 64 from by omega]
      have : ((t * 2 ^ up : Nat) : Int) < ((2 ^ 64 : Nat) : Int) := by
        rw [Int.natCast_mul, Int.natCast_pow]
        exact hhi
      omega
    have h5 : t + 1 ≤ 2 ^ (64 - up) := Nat.lt_of_mul_lt_mul_right h4
    have h6 : d < (t + 1) * 18446744073709551616 ^ m := by
      have := Nat.lt_div_mul_add (a := d) (b := 18446744073709551616 ^ m) (Nat.pow_pos (by decide))
      rw [← h1] at this
      rw [Nat.add_mul, Nat.one_mul]
      exact this
    have h7 : d < 2 ^ (64 - up) * 18446744073709551616 ^ m := Nat.lt_of_lt_of_le h6 (Nat.mul_le_mul_right _ h5)
    have h8 : 2 ^ up * d < 2 ^ up * (2 ^ (64 - up) * 18446744073709551616 ^ m) := (Nat.mul_lt_mul_left (Nat.two_pow_pos up)).2 h7
    rw [← Nat.mul_assoc, ← Nat.pow_add, show up + (64 - up) = 64 from by omega] at h8
    rw [Nat.pow_succ']
    exact h8
  · rw [h1] at hlo
    obtain ⟨t, ht⟩ : ∃ t, d / 18446744073709551616 ^ m = t := ⟨_, rfl⟩
    rw [ht] at hlo
    have h4 : t * 2 ^ up ≤ 2 ^ up * d / 18446744073709551616 ^ m := by
      refine (Nat.le_div_iff_mul_le (Nat.pow_pos (by decide))).2 ?_
      rw [Nat.mul_comm t, Nat.mul_assoc, ← ht]
      exact Nat.mul_le_mul_left _ (Nat.div_mul_le_self _ _)
    have h5 : ((9223372036854775808 : Nat) : Int) ≤ ((t * 2 ^ up : Nat) : Int) := by
      rw [Int.natCast_mul, Int.natCast_pow]
      exact hlo
    omega
theorem norm_len {x n up : Nat} (hx : (dg 18446744073709551616 x).length = n) (hu : up ≤ 63) : (dg 18446744073709551616 (2 ^ up * x)).length ≤ n + 1 := by
  have h := dg_lt (b := 18446744073709551616) (by decide) x
  rw [hx] at h
  refine dg_len_le (by decide) _ _ ?_
  rw [Nat.pow_succ']
  exact Nat.mul_lt_mul'' (Nat.lt_of_le_of_lt (Nat.pow_le_pow_right (by decide) hu) (by decide)) h
theorem norm_first {x d n m k up : Nat} (hx : (dg 18446744073709551616 x).length = n) (hd : (dg 18446744073709551616 d).length = m + 1) (hk : m + k = n) : 2 ^ up * x / 18446744073709551616 ^ k < 2 ^ up * d := by
  refine (Nat.div_lt_iff_lt_mul (Nat.pow_pos (by decide))).2 ?_
  have h := dg_lt (b := 18446744073709551616) (by decide) x
  rw [hx, ← hk, Nat.pow_add] at h
  have h0 : d ≠ 0 := fun e => by rw [e, dg_zero] at hd; simp at hd
  have h2 := (dg_ge (b := 18446744073709551616) (by decide) d h0).2
  rw [hd, Nat.add_sub_cancel] at h2
  rw [Nat.mul_assoc]
  refine (Nat.mul_lt_mul_left (Nat.two_pow_pos up)).2 ?_
  exact Nat.lt_of_lt_of_le h (Nat.mul_le_mul_right _ h2)
theorem norm_top {D m : Nat} {L : List Nat} (hl : L.length = m + 1) (hd : Dgs 18446744073709551616 L) (hv : dv 18446744073709551616 L = D) (h : 18446744073709551616 ≤ 2 * (D / 18446744073709551616 ^ m)) : 18446744073709551616 ≤ 2 * L.getD m 0 := by
  rw [dv_getD (by decide) hd, hv]
  have h1 := dv_lt hd
  rw [hl, hv, Nat.pow_succ] at h1
  have h2 : D / 18446744073709551616 ^ m < 18446744073709551616 := (Nat.div_lt_iff_lt_mul (Nat.pow_pos (by decide))).2 (by rw [Nat.mul_comm]; exact h1)
  rw [Nat.mod_eq_of_lt h2]
  exact h
theorem norm_quot (x d up : Nat) : 2 ^ up * x / (2 ^ up * d) = x / d ∧ 2 ^ up * x % (2 ^ up * d) / 2 ^ up = x % d := by
  refine ⟨Nat.mul_div_mul_left _ _ (Nat.two_pow_pos up), ?_⟩
  rw [Nat.mul_mod_mul_left, Nat.mul_div_cancel_left _ (Nat.two_pow_pos up)]
end Go.Proofs.Ytaemlkoklaoglaa
