/-
  The contract of the reference's Bit (actuaryref02). Conditions: a slice that holds a number's digits; its length up to 2 to the 38.
-/
import Derived.Test.YtlofionccgjndaaDoorRows
import Derived.Test.YtlofionccgjndaaDoorR2Digit
import Derived.Test.YtlofionccgjndaaDoorR2Power
import Derived.WalkKit
import Derived.Lib.Hide
import Derived.Outline
namespace Go.Proofs.YtlofionccgjndaaDoor
open Go Go.RowKit
set_option maxRecDepth 100000
set_option linter.unusedVariables false
theorem bit_two (x k : Nat) : x / 65536 ^ (k / 16) % 65536 / 2 ^ (k % 16) % 2 = x / 2 ^ k % 2 := by
  have h1 : x / 2 ^ k = x / 65536 ^ (k / 16) / 2 ^ (k % 16) := (shr_two x k).symm
  rw [h1]
  generalize x / 65536 ^ (k / 16) = y
  obtain ⟨j, hj⟩ : ∃ j, k % 16 + (j + 1) = 16 := ⟨15 - k % 16, by omega⟩
  have e : (65536 : Nat) = 2 ^ (k % 16) * 2 ^ (j + 1) := by rw [← Nat.pow_add, hj]
  have h2 : y % 65536 / 2 ^ (k % 16) = y / 2 ^ (k % 16) % 2 ^ (j + 1) := by rw [e, Nat.mod_mul_right_div_self]
  rw [h2, Nat.pow_succ, Nat.mod_mul_left_mod]

theorem ref2_bit_neg (A : Option Addr) (n c : Nat) (k : Int) (w : World) (hk : k < 0) :
    Calls Tryd.prog 14 #[.slice A n c, .int .i64 k] w fun e w' => e = .returned (.int .i64 0) ∧ w = w' := by
  go_enter Tryd.func14, Tryd.ntmps14
  go_wp2
  go_ret
  exact ⟨rfl, rfl⟩

set_option maxHeartbeats 2000000 in
theorem ref2_bit (x k : Nat) (A : Option Addr) (n c : Nat) (w : World) (hA : Holds16 w x A n c) (hn : n ≤ 274877906944) (hk : k ≤ 9223372036854775807) :
    Calls Tryd.prog 14 #[.slice A n c, .int .i64 k] w fun e w' => e = .returned (.int .i64 (x / 2 ^ k % 2 : Nat)) ∧ w = w' := by
  have D1 := ref2_digit A n c (k / 16) _ _ w hA.1 (by omega)
  rw [dig16, show ((k / 16 : Nat) : Int) = (k : Int) / 16 from by omega] at D1
  have P := ref2_power' k w
  have hp := pow_lt16 k
  have hp0 : 0 < 2 ^ (k % 16) := Nat.two_pow_pos _
  have hb := bit_two x k
  have ha : x / 65536 ^ (k / 16) % 65536 < 65536 := Nat.mod_lt _ (by decide)
  obtain ⟨a, hae⟩ : ∃ a, x / 65536 ^ (k / 16) % 65536 = a := ⟨_, rfl⟩
  obtain ⟨p, hpe⟩ : ∃ p, 2 ^ (k % 16) = p := ⟨_, rfl⟩
  rw [hae] at D1 hb ha
  rw [hpe] at P hp hp0 hb
  obtain ⟨b, hbe⟩ : ∃ b, x / 2 ^ k % 2 = b := ⟨_, rfl⟩
  rw [hbe] at hb ⊢
  have HD := Lib.hid D1
  have HP := Lib.hid P
  have HB := Lib.hid hb
  have hpn : ¬ p = 0 := by omega
  have hq : a / p ≤ a := Nat.div_le_self _ _
  have hq2 : (a : Int) / (p : Int) = ((a / p : Nat) : Int) := (Int.natCast_ediv a p).symm
  have HQ := Lib.hid hq2
  have hq0 : 0 ≤ (a : Int) / (p : Int) := by rw [hq2]; exact Int.natCast_nonneg _
  have hq1 : (a : Int) / (p : Int) ≤ 65535 := by
    have h1 : a / p ≤ 65535 := Nat.le_trans hq (by omega)
    rw [hq2]; exact (Int.ofNat_le.2 h1 : ((a / p : Nat) : Int) ≤ ((65535 : Nat) : Int))
  clear D1 P hb hae hpe hbe hA hq2
  go_enter Tryd.func14, Tryd.ntmps14
  go_wp2_with fail
  refine HD.out.mono ?_
  rintro e w' ⟨rfl, rfl⟩
  go_wp2_with fail
  refine HP.out.mono ?_
  rintro e w' ⟨rfl, rfl⟩
  go_wp2
  go_ret
  refine ⟨ret_i64 ?_, rfl⟩
  show (a : Int) / (p : Int) % 2 = (b : Int)
  rw [HQ.out, ← HB.out]
  exact (Int.natCast_emod _ _).symm
end Go.Proofs.YtlofionccgjndaaDoor
