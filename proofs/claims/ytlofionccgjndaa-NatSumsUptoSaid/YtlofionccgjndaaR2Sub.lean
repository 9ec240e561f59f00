/-
  The contract of the reference's Sub (actuaryref02). Conditions: slices that hold a number's digits; lengths up to 2 to the 38.
-/
import Derived.Test.YtlofionccgjndaaRows
import Derived.Test.YtlofionccgjndaaR2Trim
import Derived.Test.YtlofionccgjndaaR2Digit
import Derived.WalkKit
import Derived.Lib.Hide
import Derived.Outline
import Derived.Deep.QuietTactic
import Derived.BigQuiet
import Derived.LoopTactic
import Derived.Deep.LoopGhost
import Derived.Deep.DeepCutAuto
import Derived.Deep.CutBlock
namespace Go.Proofs.Ytlofionccgjndaa
open Go Go.RowKit
set_option maxRecDepth 100000
set_option linter.unusedVariables false
set_option maxHeartbeats 4000000 in
theorem ref2_sub (x y : Nat) (hyx : y ≤ x) (A D : Option Addr) (n m c d : Nat) (w : World) (hA : Holds16 w x A n c) (hD : Holds16 w y D m d) (hn : n ≤ 549755813888) (hm : m ≤ 549755813888) :
    Calls Try.prog 18 #[.slice A n c, .slice D m d] w (Gives16 w (x - y)) := by
  obtain ⟨i0, hi0, hz0, hz1, hz2⟩ := info_parts infoI
  have HLN := Lib.hid hA.len
  have hR := hA.1
  have hS := hD.1
  go_enter Try.func18, Try.ntmps18
  go_wp2
  go_loopg [5, 6, 7, 8] (n + 1) (fun g v s i _ wr => ∃ (k cc : Nat) (out : List Nat), k ≤ n ∧ n < g + k ∧ i = .int .i64 k ∧ s = .int .i64 cc ∧ Sub16 x y k out cc ∧
      wr.ownsRow w.heap.size 3 1 v k (vals .i64 out) ∧ Below w.heap.size w wr)
  case atStart => exact ⟨0, 0, [], by omega, by omega, rfl, rfl, Sub16.start x y, World.ownsRow_nil _ _ _ _, Below.refl _ _⟩
  case round =>
    obtain ⟨k, cc, out, hk, hg, rfl, rfl, hat, hown, hbl⟩ := hrel
    have hcc := hat.lack
    by_cases hlt : k < n
    · obtain ⟨ad, rfl, hadb, hc0⟩ := val_at hR hlt
      have hc1 : wr.cell? (ad.add k) = some (.int .i64 ((dg 65536 x).getD k 0 : Nat)) := (hbl.cell (by rw [block_of_add]; exact hadb)).trans hc0
      rw [dig16] at hc1
      have D2 := fun q => ref2_digit D m d k _ _ (wr.drewN q) ((hS.below hbl).drewN q) (by omega)
      rw [dig16] at D2
      have ha1 : x / 65536 ^ k % 65536 < 65536 := Nat.mod_lt _ (by decide)
      have hb1 : y / 65536 ^ k % 65536 < 65536 := Nat.mod_lt _ (by decide)
      have hst := fun (d c' : Nat) => hat.step (d := d) (c' := c')
      obtain ⟨a, ha⟩ : ∃ b, x / 65536 ^ k % 65536 = b := ⟨_, rfl⟩
      obtain ⟨b, hb⟩ : ∃ b, y / 65536 ^ k % 65536 = b := ⟨_, rfl⟩
      rw [ha] at hc1 ha1 hst
      rw [hb] at D2 hb1 hst
      have HD2 := Lib.hid D2
      have HST := Lib.hid hst
      clear D2 hst ha hb hat hc0
      by_cases hneg : a < b + cc
      · have HN := Lib.hid (HST.out (a + 65536 - b - cc) 1 (by omega) (by omega) (by omega))
        have hneg' : decide ((a : Int) - b - cc < 0) = true := by simp; omega
        clear HST
        go_wp2_with fail
        go_quiet ((go_at_call 39; exact quiet_left (HD2.out _)))
        go_wp2_with (at_builtin; refine wpList_append_own _ rfl _ _ 27 rfl w.heap.size 3 i0 (.int .i64 0) 1 8 Try.underlying27 hi0 hz0 hz1 hz2 rfl (by decide) _ _ _ rfl ((hown.drewN_ nq).alloc _) ⟨(wr.drewN nq).heap.size, 0, none⟩ 1 1 [.int .i64 ((a : Int) - b - cc + 65536)] rfl rfl (push_cells _ _ _) (push_one _ _) (by unfold maxLen; omega) (by omega) (by have := hbl.size; simp; omega) ?_; intro v' w1 hown' hgrow _)
        have hb' : Below w.heap.size w w1 := ((below_drewN_ hbl nq).alloc hbl.size _).grown hgrow (by have := hbl.size; simp; omega) (fun g hg => (hown.lt g hg).1)
        have ed : (a : Int) - (b : Int) - (cc : Int) + 65536 = ((a + 65536 - b - cc : Nat) : Int) := by omega
        rw [ed] at hown'
        have hown2 : w1.ownsRow w.heap.size 3 1 v' (k + 1) (vals .i64 (out ++ [a + 65536 - b - cc])) := by
          rw [vals_append]; exact hown'
        clear hown' hgrow hown hbl hc1 ed
        go_wp2
        go_roundg (n - k)
        case measure => omega
        case rel => exact ⟨k + 1, 1, _, by omega, by omega, by go_num, rfl, HN.out, hown2, hb'⟩
      · have HN := Lib.hid (HST.out (a - b - cc) 0 (by omega) (by omega) (by omega))
        have hneg' : decide ((a : Int) - b - cc < 0) = false := by simp; omega
        clear HST
        go_wp2_with fail
        go_quiet ((go_at_call 39; exact quiet_left (HD2.out _)))
        go_wp2_with (at_builtin; refine wpList_append_own _ rfl _ _ 27 rfl w.heap.size 3 i0 (.int .i64 0) 1 8 Try.underlying27 hi0 hz0 hz1 hz2 rfl (by decide) _ _ _ rfl ((hown.drewN_ nq).alloc _) ⟨(wr.drewN nq).heap.size, 0, none⟩ 1 1 [.int .i64 ((a : Int) - b - cc)] rfl rfl (push_cells _ _ _) (push_one _ _) (by unfold maxLen; omega) (by omega) (by have := hbl.size; simp; omega) ?_; intro v' w1 hown' hgrow _)
        have hb' : Below w.heap.size w w1 := ((below_drewN_ hbl nq).alloc hbl.size _).grown hgrow (by have := hbl.size; simp; omega) (fun g hg => (hown.lt g hg).1)
        have ed : (a : Int) - (b : Int) - (cc : Int) = ((a - b - cc : Nat) : Int) := by omega
        rw [ed] at hown'
        have hown2 : w1.ownsRow w.heap.size 3 1 v' (k + 1) (vals .i64 (out ++ [a - b - cc])) := by
          rw [vals_append]; exact hown'
        clear hown' hgrow hown hbl hc1 ed
        go_wp2
        go_roundg (n - k)
        case measure => omega
        case rel => exact ⟨k + 1, 0, _, by omega, by omega, by go_num, rfl, HN.out, hown2, hb'⟩
    · have hkn : k = n := by omega
      subst hkn
      have e := hat.done hyx (by have := HLN.out; omega)
      have T := ref2_trim_own hown hat.dgs (by omega)
      rw [e] at T
      have HT := Lib.hid T
      clear e T hat hown
      go_wp2_with fail
      refine HT.out.mono ?_
      intro e w2 hg2
      have hg3 := hg2.from_ hbl
      obtain ⟨A2, n2, c2, rfl, hh2, hb2⟩ := hg2.elim
      clear hg2 hh2 hb2
      go_wp2_with fail
      go_ret
      exact hg3
end Go.Proofs.Ytlofionccgjndaa
