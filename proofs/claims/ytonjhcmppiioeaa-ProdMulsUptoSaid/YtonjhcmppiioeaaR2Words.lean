/-
  The contract of the reference's Words (actuaryref02). Conditions: slices that hold a number's digits; lengths up to 2 to the 38.
-/
import Derived.Test.YtonjhcmppiioeaaRows
import Derived.Test.YtonjhcmppiioeaaR2Digit
import Derived.WalkKit
import Derived.Lib.Hide
import Derived.Outline
import Derived.Deep.QuietTactic
import Derived.BigQuiet
import Derived.LoopTactic
import Derived.Deep.LoopGhost
import Derived.Deep.DeepCutAuto
import Derived.Deep.CutBlock
namespace Go.Proofs.Ytonjhcmppiioeaa
open Go Go.RowKit
set_option maxRecDepth 100000
set_option linter.unusedVariables false
set_option maxHeartbeats 4000000 in
/-- Words: a number's words. -/
theorem ref2_words (x : Nat) (A : Option Addr) (n c : Nat) (w : World) (hA : Holds16 w x A n c) (hn : n ≤ 1099511627776) :
    Calls Try.prog 39 #[.slice A n c] w (GivesW w x) := by
  obtain ⟨i0, hi0, hz0, hz1, hz2⟩ := info_parts infoU
  have HLN := Lib.hid hA.len
  have hR := hA.1
  go_enter Try.func39, Try.ntmps39
  go_wp2
  go_loopg [3, 4, 5, 6] (n + 1) (fun g v i _ _ wr => ∃ (j : Nat) (L : List Nat), (j = 0 ∨ 4 * (j - 1) < n) ∧ n < g + j ∧ i = .int .i64 (4 * (j : Int)) ∧ WordsAt x j L ∧ wr.ownsRow w.heap.size 23 1 v j (vals .u64 L) ∧ Below w.heap.size w wr)
  case atStart => exact ⟨0, [], .inl rfl, by omega, rfl, WordsAt.start x, World.ownsRow_nil _ _ _ _, Below.refl _ _⟩
  case round =>
    obtain ⟨j, L, hj, hg, rfl, hat, hown, hbl⟩ := hrel
    by_cases hlt : 4 * j < n
    · have HS := Lib.hid hat.step
      have hR' := hR.below hbl
      have DG := Lib.hid (fun (k : Nat) => ref2_digit A n c k _ _ wr hR' hn)
      clear hat hR'
      have hj40 : j ≤ 1099511627776 := by omega
      have hb4 : decide (4 * (j : Int) < (n : Int)) = true := by simp; omega
      go_wp2
      go_loopg [5, 6] 5 (fun g s i wq => ∃ m : Nat, m ≤ 4 ∧ m < g ∧ i = .int .i64 ((m : Int) - 1) ∧ s = .int .u64 ((x / 65536 ^ (4 * j + m) % 65536 ^ (4 - m) : Nat) : Int) ∧ wq = wr)
      case atStart => exact ⟨4, by omega, by omega, rfl, by simp [Nat.mod_one], rfl⟩
      case round =>
        obtain ⟨m, hm, hgm, rfl, rfl, rfl⟩ := hrel
        by_cases hm0 : m = 0
        · subst hm0
          obtain ⟨y, hy⟩ : ∃ y, x / 65536 ^ (4 * j) % 65536 ^ 4 = y := ⟨_, rfl⟩
          simp only [Nat.add_zero, Nat.sub_zero, hy]
          rw [hy] at HS
          clear hy
          go_wp2_with (at_builtin; refine wpList_append_own _ rfl _ _ 22 rfl w.heap.size 23 i0 (.int .u64 0) 1 8 Try.underlying22 hi0 hz0 hz1 hz2 rfl (by decide) _ _ _ rfl (hown.alloc _) ⟨wr.heap.size, 0, none⟩ 1 1 [.int .u64 (y : Int)] rfl rfl (push_cells _ _ _) (push_one _ _) (by unfold maxLen; omega) (by omega) (by have := hbl.size; simp; omega) ?_; intro v' w1 hown' hgrow _)
          have hb' : Below w.heap.size w w1 := (hbl.alloc hbl.size _).grown hgrow (by have := hbl.size; simp; omega) (fun g hg => (hown.lt g hg).1)
          have hown2 : w1.ownsRow w.heap.size 23 1 v' (j + 1) (vals .u64 (L ++ [y])) := by
            rw [vals_append]; simpa [vals] using hown'
          clear hown' hgrow hown hbl
          go_wp2
          go_roundg (n - j)
          case measure => omega
          case rel => exact ⟨j + 1, _, .inr (by omega), by omega, by go_num, HS.out, hown2, hb'⟩
        · obtain ⟨q, rfl⟩ : ∃ q, m = q + 1 := ⟨m - 1, by omega⟩
          have hst := word_step x (4 * j + q) (4 - (q + 1))
          rw [show 4 - (q + 1) + 1 = 4 - q from by omega] at hst
          have hst2 : x / 65536 ^ (4 * j + (q + 1)) % 65536 ^ (4 - (q + 1)) * 65536 + x / 65536 ^ (4 * j + q) % 65536 = x / 65536 ^ (4 * j + q) % 65536 ^ (4 - q) := hst
          have D1 := DG.out (4 * j + q)
          rw [dig16] at D1
          have hb1 : x / 65536 ^ (4 * j + (q + 1)) % 65536 ^ (4 - (q + 1)) < 65536 ^ 3 := Nat.lt_of_lt_of_le (Nat.mod_lt _ (Nat.pow_pos (by decide))) (Nat.pow_le_pow_right (by decide) (by omega))
          have hb2 : x / 65536 ^ (4 * j + q) % 65536 < 65536 := Nat.mod_lt _ (by decide)
          obtain ⟨a, ha⟩ : ∃ a, x / 65536 ^ (4 * j + (q + 1)) % 65536 ^ (4 - (q + 1)) = a := ⟨_, rfl⟩
          obtain ⟨b, hb⟩ : ∃ a, x / 65536 ^ (4 * j + q) % 65536 = a := ⟨_, rfl⟩
          rw [ha] at hst2 hb1 ⊢
          rw [hb] at hst2 hb2 D1
          have HST := Lib.hid hst2
          rw [show ((4 * j + q : Nat) : Int) = 4 * (j : Int) + (q : Int) from by omega] at D1
          have HD1 := Lib.hid D1
          have hb1' : a < 281474976710656 := by simpa using hb1
          clear hst hst2 ha hb D1 hb1 HS
          go_wp2_with fail
          refine HD1.out.mono ?_
          rintro e w' ⟨rfl, rfl⟩
          go_wp2_with fail
          go_roundg (q + 1)
          case measure => omega
          case rel => exact ⟨q, by omega, by omega, by go_num, by rw [← HST.out]; go_num, rfl⟩
    · have e := hat.done (by have := HLN.out; omega) (by have := HLN.out; omega)
      have HE : Hid (j = (dg 18446744073709551616 x).length) := by show _ = _; rw [← e, hat.len]
      have HG : Hid (∀ w' v, w'.ownsRow w.heap.size 23 1 v j (vals .u64 L) → Below w.heap.size w w' → GivesW w x (.returned v) w') := by
        intro w' v ho hb
        unfold GivesW
        rw [← e, hat.len]
        exact gives_of_own ho hb
      clear e hat
      go_wp2
      go_ret
      exact HG.out _ _ hown hbl
end Go.Proofs.Ytonjhcmppiioeaa
