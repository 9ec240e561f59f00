/-
  The contract of the reference's Power (actuaryref02). Conditions: slices that hold a number's digits; lengths up to 2 to the 38.
-/
import Derived.Test.YtonjhcmppiioeaaRows
import Derived.Test.YtonjhcmppiioeaaNat0
import Derived.WalkKit
import Derived.Lib.Hide
import Derived.Outline
import Derived.Deep.QuietTactic
import Derived.BigQuiet
import Derived.LoopTactic
import Derived.Deep.LoopGhost
import Derived.Deep.DeepCutAuto
import Derived.Deep.CutBlock
namespace Go.Proofs.Ytonjhcmppiioeaa
open Go Go.RowKit
set_option maxRecDepth 100000
set_option linter.unusedVariables false
/-- Power: 2 to the k, of k from 0 to 15. -/
theorem ref2_power (k : Nat) (hk : k ≤ 15) (w : World) :
    Calls Try.prog 47 #[.int .i64 k] w fun e w' => e = .returned (.int .i64 (2 ^ k : Nat)) ∧ w = w' := by
  go_enter Try.func47, Try.ntmps47
  go_wp2
  go_loop [3, 4] (fun s i => ∃ j : Nat, j ≤ k ∧ i = .int .i64 j ∧ s = .int .i64 (2 ^ j : Nat)) (fun _ i => k - (intOf i).toNat)
  case atStart => exact ⟨0, Nat.zero_le _, rfl, rfl⟩
  case round =>
    obtain ⟨j, hj, rfl, rfl⟩ := hrel
    have hp : 2 ^ j ≤ 2 ^ 15 := Nat.pow_le_pow_right (by decide) (by omega)
    have HS : Hid (2 ^ (j + 1) = 2 * 2 ^ j) := by show _ = _; rw [Nat.pow_succ, Nat.mul_comm]
    obtain ⟨p, he⟩ : ∃ p, 2 ^ j = p := ⟨_, rfl⟩
    by_cases h : j < k
    · rw [he] at hp HS ⊢
      clear he
      have hp' : p ≤ 32768 := by simpa using hp
      go_wp2
      go_round
      case rel => exact ⟨j + 1, by omega, by go_num, by rw [HS.out]; go_num⟩
      case measure => simp only [intOf]; omega
    · have hjk : j = k := by omega
      subst hjk
      clear he
      go_wp2
      go_ret
      exact ⟨rfl, rfl⟩
/-- Power, of what is left of a division by 16. -/
theorem ref2_power' (k : Nat) (w : World) : Calls Try.prog 47 #[.int .i64 ((k : Int) % 16)] w fun e w' => e = .returned (.int .i64 (2 ^ (k % 16) : Nat)) ∧ w = w' := by
  have h := ref2_power (k % 16) (by omega) w
  rw [show ((k % 16 : Nat) : Int) = (k : Int) % 16 from by omega] at h
  exact h
end Go.Proofs.Ytonjhcmppiioeaa
