/-
  The contract of the reference's Is (actuaryref02). Conditions: slices that hold a number's digits; lengths up to 2 to the 38.
-/
import Derived.Test.YtonjhcmppiioeaaRows
import Derived.Test.YtonjhcmppiioeaaR2Words
import Derived.WalkKit
import Derived.Lib.Hide
import Derived.Outline
import Derived.Deep.QuietTactic
import Derived.BigQuiet
import Derived.LoopTactic
import Derived.Deep.LoopGhost
import Derived.Deep.DeepCutAuto
import Derived.Deep.CutBlock
namespace Go.Proofs.Ytonjhcmppiioeaa
open Go Go.RowKit
set_option maxRecDepth 100000
set_option linter.unusedVariables false
set_option maxHeartbeats 4000000 in
/-- Is, of the number's own words: true. -/
theorem ref2_is (x : Nat) (A D : Option Addr) (n c m d : Nat) (w : World) (hA : Holds16 w x A n c) (hn : n ≤ 1099511627776) (hD : Reads w w.heap.size 1 D m (vals .u64 (dg 18446744073709551616 x))) (hm : m ≤ 1099511627776) :
    Calls Try.prog 38 #[.slice A n c, .slice D m d] w fun e w' => e = .returned (.bool true) ∧ Below w.heap.size w w' := by
  have W1 := ref2_words x A n c w hA hn
  unfold GivesW at W1
  obtain ⟨L, hL⟩ : ∃ L, dg 18446744073709551616 x = L := ⟨_, rfl⟩
  rw [hL] at W1 hD
  have hlen := hD.len_
  rw [hlen] at W1
  have HW := Lib.hid W1
  clear W1 hlen hL
  go_enter Try.func38, Try.ntmps38
  go_wp2_with fail
  refine HW.out.mono ?_
  rintro e w1 ⟨A1, c1, rfl, hr1, hc1, ⟨_, _⟩, hb1⟩
  have hD1 := hD.below hb1
  go_wp2_with fail
  go_loopg [6] (m + 1) (fun g i wr => ∃ (k q : Nat), k ≤ m ∧ m < g + k ∧ i = .int .i64 k ∧ wr = w1.drewN q)
  case atStart => exact ⟨0, 0, Nat.zero_le _, by omega, rfl, rfl⟩
  case round =>
    obtain ⟨k, q, hk, hg, rfl, rfl⟩ := hrel
    by_cases hlt : k < m
    · obtain ⟨ad, rfl, hadb, h1⟩ := val_at hr1 (k := k) hlt
      obtain ⟨ae, rfl, haeb, h2⟩ := val_at hD1 (k := k) hlt
      obtain ⟨p, hp⟩ : ∃ p, L.getD k 0 = p := ⟨_, rfl⟩
      rw [hp] at h1 h2
      clear hp
      go_wp2
      go_quiet (fail)
      go_wp2
      go_roundg (m - k)
      case measure => omega
      case rel => exact ⟨k + 1, _, by omega, by omega, by go_num, rfl⟩
    · go_wp2
      go_ret
      exact ⟨rfl, below_drewN_ hb1 q⟩
end Go.Proofs.Ytonjhcmppiioeaa
