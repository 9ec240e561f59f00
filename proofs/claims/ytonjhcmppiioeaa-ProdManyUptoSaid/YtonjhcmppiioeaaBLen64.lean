/-
  The contract of math/bits.Len64. Conditions: the argument is a word.
-/
import Derived.Test.YtonjhcmppiioeaaRows
import Derived.Test.YtonjhcmppiioeaaWd0
import Derived.WalkKit
import Derived.Lib.Hide
import Derived.Outline
namespace Go.Proofs.Ytonjhcmppiioeaa
open Go Go.RowKit
/-! ### math/bits.Len64, LeadingZeros64, TrailingZeros64 -/
theorem len_way (x z : Int) (k : Nat) (hk : k ≤ 56) (h0 : 0 ≤ z) (h1 : z < 256) (hz : z.toNat = x.toNat / 2 ^ k) (hne : k = 0 ∨ z ≠ 0) : wrap64 ((k : Int) + wrap64 ((bitLen z.toNat : Nat) : Int)) = lenN x := by
  have hl := bitLen_le8 z.toNat (by omega)
  have e1 : wrap64 ((bitLen z.toNat : Nat) : Int) = ((bitLen z.toNat : Nat) : Int) := IntWalk.wrap64_in _ (by omega)
  have e2 : bitLen x.toNat = k + bitLen z.toNat := by
    rcases hne with rfl | hne
    · rw [hz]; simp
    · rw [hz]; exact bitLen_shift x.toNat k (by rw [← hz]; omega)
  rw [e1, IntWalk.wrap64_in _ (by omega)]
  unfold lenN
  rw [e2]
  omega
theorem len_way0 (x : Int) (h0 : 0 ≤ x) (h1 : x < 256) : wrap64 (wrap64 ((bitLen x.toNat : Nat) : Int)) = lenN x := by
  have hl := bitLen_le8 x.toNat (by omega)
  have e : wrap64 ((bitLen x.toNat : Nat) : Int) = ((bitLen x.toNat : Nat) : Int) := IntWalk.wrap64_in _ (by omega)
  rw [e, e]
  rfl
set_option maxRecDepth 100000 in
set_option maxHeartbeats 1000000 in
theorem len64 (x : Int) (hx : Wd x) (w : World) :
    Calls Try.prog 48 #[.int .u64 x] w fun e w' => e = .returned (.int .i64 (lenN x)) ∧ w = w' := by
  obtain ⟨h0, h1⟩ := hx
  go_enter Try.func48, Try.ntmps48
  go_wp2
  all_goals
    go_ret
    refine ⟨congrArg Ending.returned (congrArg (Value.int IntKind.i64) ?_), rfl⟩
    rw [len8tab_get]
  all_goals first
    | exact len_way x (x / 4294967296 / 65536 / 256) 56 (by omega) (by omega) (by omega) (by omega) (.inr (by omega))
    | exact len_way x (x / 4294967296 / 65536) 48 (by omega) (by omega) (by omega) (by omega) (.inr (by omega))
    | exact len_way x (x / 4294967296 / 256) 40 (by omega) (by omega) (by omega) (by omega) (.inr (by omega))
    | exact len_way x (x / 4294967296) 32 (by omega) (by omega) (by omega) (by omega) (.inr (by omega))
    | exact len_way x (x / 65536 / 256) 24 (by omega) (by omega) (by omega) (by omega) (.inr (by omega))
    | exact len_way x (x / 65536) 16 (by omega) (by omega) (by omega) (by omega) (.inr (by omega))
    | exact len_way x (x / 256) 8 (by omega) (by omega) (by omega) (by omega) (.inr (by omega))
    | exact len_way0 x (by omega) (by omega)
end Go.Proofs.Ytonjhcmppiioeaa
