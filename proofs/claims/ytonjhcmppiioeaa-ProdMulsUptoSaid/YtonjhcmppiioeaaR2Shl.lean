/-
  The contract of the reference's Shl (actuaryref02). Conditions: slices that hold a number's digits; lengths up to 2 to the 38.
-/
import Derived.Test.YtonjhcmppiioeaaRows
import Derived.Test.YtonjhcmppiioeaaR2Small
import Derived.Test.YtonjhcmppiioeaaR2Power
import Derived.Test.YtonjhcmppiioeaaTN
import Derived.WalkKit
import Derived.Lib.Hide
import Derived.Outline
import Derived.Deep.QuietTactic
import Derived.BigQuiet
import Derived.LoopTactic
import Derived.Deep.LoopGhost
import Derived.Deep.DeepCutAuto
import Derived.Deep.CutBlock
namespace Go.Proofs.Ytonjhcmppiioeaa
open Go Go.RowKit
set_option maxRecDepth 100000
set_option linter.unusedVariables false
set_option maxHeartbeats 4000000 in
theorem ref2_shl (x k : Nat) (A : Option Addr) (n c : Nat) (w : World) (hA : Holds16 w x A n c) (hn : n ≤ 274877906944) (hk : k ≤ 274877906944) :
    Calls Try.prog 36 #[.slice A n c, .int .i64 k] w (Gives16 w (x * 2 ^ k)) := by
  obtain ⟨i0, hi0, hz0, hz1, hz2⟩ := info_parts infoI
  have HLN := Lib.hid hA.len
  have HA := Lib.hid hA
  clear hA
  go_enter Try.func36, Try.ntmps36
  go_wp2
  go_loopg [5, 6] (k / 16 + 1) (fun g v i wr => ∃ (j : Nat), j ≤ k / 16 ∧ k / 16 < g + j ∧ i = .int .i64 j ∧ wr.ownsRow w.heap.size 3 1 v j (vals .i64 (List.replicate j 0)) ∧ Below w.heap.size w wr)
  case atStart => exact ⟨0, by omega, by omega, rfl, World.ownsRow_nil _ _ _ _, Below.refl _ _⟩
  case round =>
    obtain ⟨j, hj, hg, rfl, hown, hbl⟩ := hrel
    by_cases hlt : j < k / 16
    · go_wp2_with (at_builtin; refine wpList_append_own _ rfl _ _ 25 rfl w.heap.size 3 i0 (.int .i64 0) 1 8 Try.underlying25 hi0 hz0 hz1 hz2 rfl (by decide) _ _ _ rfl (hown.alloc _) ⟨wr.heap.size, 0, none⟩ 1 1 [.int .i64 0] rfl rfl (push_cells _ _ _) (push_one _ _) (by unfold maxLen; omega) (by omega) (by have := hbl.size; simp; omega) ?_; intro v' w1 hown' hgrow _)
      have hb' : Below w.heap.size w w1 := (hbl.alloc hbl.size _).grown hgrow (by have := hbl.size; simp; omega) (fun g hg => (hown.lt g hg).1)
      have hown2 : w1.ownsRow w.heap.size 3 1 v' (j + 1) (vals .i64 (List.replicate (j + 1) 0)) := by
        rw [List.replicate_succ', vals_append]; exact hown'
      clear hown' hgrow hown hbl
      go_wp2
      go_roundg (k / 16 - j)
      case measure => omega
      case rel => exact ⟨j + 1, by omega, by omega, by go_num, hown2, hb'⟩
    · have hjk : j = k / 16 := by omega
      have P := Lib.hid (ref2_power' k wr)
      have hp := pow_lt16 k
      have S0 := ref2_small x (2 ^ (k % 16)) 0 A n c wr (HA.out.below hbl) (by omega) (by omega) (by decide)
      have hfin := pow_split k
      obtain ⟨p, hpe⟩ : ∃ p, 2 ^ (k % 16) = p := ⟨_, rfl⟩
      rw [hpe] at P hp S0 hfin
      rw [Nat.add_zero] at S0
      have S := Lib.hid S0
      have HF : Hid (65536 ^ j * (x * p) = x * 2 ^ k) := by
        show _ = _
        rw [hjk, ← hfin, ← Nat.mul_assoc, Nat.mul_comm _ x, Nat.mul_assoc]
      have hlen := dg_len_le (b := 65536) (by decide) (x * p) (n + 1) (by
        have h1 := dg_lt (b := 65536) (by decide) x
        rw [← HLN.out] at h1
        rw [Nat.pow_succ]
        exact Nat.mul_lt_mul_of_lt_of_le h1 (by omega) (by decide))
      clear hfin S0 hpe
      go_wp2_with fail
      refine P.out.mono ?_
      rintro e w' ⟨rfl, rfl⟩
      go_wp2_with fail
      refine S.out.mono ?_
      intro e w2 hg2
      obtain ⟨A2, n2, c2, rfl, hh2, hb2⟩ := hg2.elim
      have hn2 : n2 ≤ n + 1 := by rw [hh2.len]; exact hlen
      have hown2 := own_below hown hb2
      have hbl2 := hbl.trans (hb2.mono hbl.size)
      have hr2 := hh2.1
      have hlen2 := hr2.len_
      clear hown hh2 hb2 hbl hg2
      go_wp2_with (at_builtin; refine wpList_append_any2 _ rfl (.tmp 16) (.tmp 21) 25 26 rfl w.heap.size 3 3 i0 (.int .i64 0) 1 8 Try.underlying25 under_N hi0 hz0 hz1 hz2 rfl (by decide) _ _ _ rfl hown2 _ A2 n2 c2 (vals .i64 (dg 65536 (x * p))) rfl hr2 (vals_one _ _) (by unfold maxLen; omega) (by omega) hbl2.size ?_; intro v' w1 hown' hgrow hat)
      have hb' : Below w.heap.size w w1 := hbl2.grown hgrow hbl2.size (fun g hg => (hown2.lt g hg).1)
      rw [← vals_append] at hown'
      have T := ref2_trim_own hown' ((Dgs.zeros (by decide) j).append (dg_dgs (by decide) (x * p))) (by omega)
      rw [dv_append, dv_zeros, List.length_replicate, dv_dg (by decide), Nat.zero_add, HF.out] at T
      have HT := Lib.hid T
      clear T hown2 hown' hgrow hbl2 hr2 hat
      go_wp2_with fail
      refine HT.out.mono ?_
      intro e w3 hg3
      have hg4 := hg3.from_ hb'
      obtain ⟨A4, n4, c4, rfl, hh4, hb4⟩ := hg3.elim
      clear hg3 hh4 hb4
      go_wp2_with fail
      go_ret
      exact hg4
end Go.Proofs.Ytonjhcmppiioeaa
