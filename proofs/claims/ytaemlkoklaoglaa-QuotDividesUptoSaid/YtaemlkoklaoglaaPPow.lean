/-
  The contract of prod's Pow: a power, or that there is none. Conditions: the value is a number of up to 2 to the 38 words.
-/
import Derived.Test.YtaemlkoklaoglaaRows
import Derived.Test.YtaemlkoklaoglaaPMul
import Derived.Test.YtaemlkoklaoglaaNBits
import Derived.Test.YtaemlkoklaoglaaNPost
import Derived.Test.YtaemlkoklaoglaaBunW
import Derived.Test.YtaemlkoklaoglaaN2Lits
import Derived.WalkKit
import Derived.Lib.Hide
import Derived.Outline
import Derived.LoopTactic
import Derived.Deep.LoopGhost
import Derived.IntWalk
namespace Go.Proofs.Ytaemlkoklaoglaa
open Go Go.RowKit
set_option maxRecDepth 100000
set_option linter.unusedVariables false
theorem low1i (c : Nat) (hc : c < 9223372036854775808) : bits .and .i64 (c : Int) 1 = ((c % 2 : Nat) : Int) := by
  have h1 : (BitVec.ofInt 64 (c : Int)).toNat = c := by
    rw [BitVec.ofInt_natCast, BitVec.toNat_ofNat]; exact Nat.mod_eq_of_lt (by omega)
  have h2 : (BitVec.ofInt 64 (1 : Int)).toNat = 1 := by decide
  show IntKind.i64.wrap ((BitVec.ofInt 64 (c : Int) &&& BitVec.ofInt 64 1).toNat : Int) = _
  rw [BitVec.toNat_and, h1, h2, show c &&& 1 = c % 2 from Nat.and_two_pow_sub_one_eq_mod c 1]
  exact IntWalk.i64_in _ (by omega)
theorem pow_le1 {x : Nat} (hx : x ≤ 1) (e : Nat) : x ^ e ≤ 1 := by
  have : x = 0 ∨ x = 1 := by omega
  rcases this with rfl | rfl
  · rcases Nat.eq_zero_or_pos e with rfl | h
    · decide
    · rw [Nat.zero_pow h]; omega
  · rw [Nat.one_pow]; omega
theorem bit_le1 {x : Nat} (h : bitLen x ≤ 1) : x ≤ 1 := by
  rcases Nat.lt_or_ge 1 x with h1 | h1
  · have h2 : bitLen x = bitLen x := rfl
    unfold bitLen at h
    rw [if_neg (by omega)] at h
    have h3 := Nat.lt_log2_self (n := x)
    have : x.log2 = 0 := by omega
    rw [this] at h3; omega
  · exact h1
theorem lt_bits (x : Nat) : x < 2 ^ bitLen x := by
  unfold bitLen
  split
  · rename_i h; subst h; decide
  · exact Nat.lt_log2_self
/-- No power on the way is long. -/
theorem pow_lens {x k : Nat} (h : bitLen x ≤ 1 ∨ k * bitLen x ≤ 65536) (e : Nat) (he : e ≤ k) : (dg 18446744073709551616 (x ^ e)).length ≤ 1025 := by
  obtain ⟨M, hM⟩ : ∃ M, 1025 = M := ⟨_, rfl⟩
  rw [hM]
  refine dg_len_le (by decide) _ _ ?_
  have hB : (18446744073709551616 : Nat) ^ M = 2 ^ (64 * M) := by rw [show (18446744073709551616 : Nat) = 2 ^ 64 from rfl, ← Nat.pow_mul]
  rw [hB]
  rcases h with h | h
  · exact Nat.lt_of_le_of_lt (pow_le1 (bit_le1 h) e) (Nat.lt_of_lt_of_le (by decide : 1 < 2 ^ 1) (Nat.pow_le_pow_right (by decide) (by omega)))
  · have h1 : x ^ e ≤ (2 ^ bitLen x) ^ e := Nat.pow_le_pow_left (Nat.le_of_lt (lt_bits x)) e
    rw [← Nat.pow_mul] at h1
    have h2 : bitLen x * e ≤ k * bitLen x := by rw [Nat.mul_comm k]; exact Nat.mul_le_mul_left _ he
    exact Nat.lt_of_le_of_lt h1 ((Nat.pow_lt_pow_iff_right (by decide)).2 (by omega))
theorem shr_step (k j : Nat) : k / 2 ^ j = k / 2 ^ (j + 1) + k / 2 ^ (j + 1) + k / 2 ^ j % 2 := by
  rw [Nat.pow_succ, ← Nat.div_div_eq_div_mul]; omega
end Go.Proofs.Ytaemlkoklaoglaa
