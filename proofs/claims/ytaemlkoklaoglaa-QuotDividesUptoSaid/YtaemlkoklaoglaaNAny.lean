/-
  Shr and Low of a number, by whatever k from 0 on; the reference's numbers of the words that came in. Conditions: the value is a number; its length is up to 2 to the 39.
-/
import Derived.Test.YtaemlkoklaoglaaRows
import Derived.Test.YtaemlkoklaoglaaBunP
import Derived.Test.YtaemlkoklaoglaaNShr
import Derived.Test.YtaemlkoklaoglaaNLow
import Derived.WalkKit
import Derived.Lib.Hide
import Derived.Outline
namespace Go.Proofs.Ytaemlkoklaoglaa
open Go Go.RowKit
set_option linter.unusedVariables false
theorem nat_shr_any (x k : Nat) (A : Option Addr) (n c : Nat) (w : World) (hA : WordsIn w x A n c) (hn : n ≤ 549755813888) :
    Calls Try.prog 25 #[.agg #[.slice A n c], .int .i64 k] w (GivesN2 w (x / 2 ^ k)) := by
  by_cases h : bitLen x ≤ k
  · rw [Nat.div_eq_of_lt (Nat.lt_of_lt_of_le (bitLen_lt x) (Nat.pow_le_pow_right (by decide) h))]
    exact nat_shr_all x k A n c w hA hn h
  · exact nat_shr x k A n c w hA hn (by omega)
theorem nat_low_any (x k : Nat) (A : Option Addr) (n c : Nat) (w : World) (hA : WordsIn w x A n c) (hn : n ≤ 549755813888) :
    Calls Try.prog 26 #[.agg #[.slice A n c], .int .i64 k] w (GivesN2 w (x % 2 ^ k)) := by
  by_cases h : bitLen x ≤ k
  · exact nat_low_all x k A n c w hA hn h
  · exact nat_low x k A n c w hA hn (by omega)
theorem Sz.shl' {K x k M : Nat} (h : Sz K x) (hk : k ≤ 64 * M) : Sz (K + M) (2 ^ k * x) := by
  unfold Sz at *
  have h1 : 2 ^ k ≤ 18446744073709551616 ^ M := by
    rw [show (18446744073709551616 : Nat) = 2 ^ 64 from rfl, ← Nat.pow_mul]
    exact Nat.pow_le_pow_right (by decide) hk
  rw [Nat.pow_add, Nat.mul_comm (18446744073709551616 ^ K)]
  exact Nat.lt_of_le_of_lt (Nat.mul_le_mul_right x h1) (Nat.mul_lt_mul_of_pos_left h (Nat.pow_pos (by decide)))
theorem Sz.shl {K x k : Nat} (h : Sz K x) (hk : k ≤ 65536) : Sz (K + 1024) (2 ^ k * x) := h.shl' (by omega)
end Go.Proofs.Ytaemlkoklaoglaa
