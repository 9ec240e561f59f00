/-
  The contracts of the reference of layer 15 (Len, Det, Bases). Conditions: sizes as each says.
-/
import Derived.Test.YtakpmlblfdecbaaRows
import Derived.Test.YtakpmlblfdecbaaBoMath
import Derived.Test.YtakpmlblfdecbaaBunD
import Derived.Test.YtakpmlblfdecbaaBunE
import Derived.WalkKit
import Derived.Lib.Hide
import Derived.Outline
import Derived.LoopTactic
import Derived.Deep.LoopGhost
import Derived.Deep.QuietTactic
import Derived.BigQuiet
import Derived.Lib.MinMax
import Derived.Below
import Derived.Deep.Onto
import Derived.Deep.DeepCutAuto
import Derived.Deep.CutBlock
namespace Go.Proofs.Ytakpmlblfdecbaa
open Go Go.RowKit
set_option maxRecDepth 100000
set_option linter.unusedVariables false
set_option linter.unusedSimpArgs false
set_option maxHeartbeats 1000000 in
theorem ref15_len (n : Nat) (hn : n ≤ 1000) (w : World) :
    Calls Try.prog 16 #[.int .i64 (n : Int)] w fun e w' => e = .returned (.int .i64 (lenN n)) ∧ Below w.heap.size w w' := by
  have hB := Below.refl w.heap.size w
  go_enter Try.func16, Try.ntmps16
  go_wp2_with fail
  go_loopg [0, 3] (n + 1) (fun g x k wr => ∃ (a j : Nat), a < g ∧ a ≤ n ∧ j + a ≤ n ∧ x = .int .i64 (a : Int) ∧ k = .int .i64 (j : Int) ∧ Hid (bitLen a + j = bitLen n) ∧ Below w.heap.size w wr)
  case atStart => exact ⟨n, 0, by omega, by omega, by omega, rfl, rfl, rfl, hB⟩
  case round =>
    clear hB
    obtain ⟨a, j, hg, ha, hj, rfl, rfl, HL, hB⟩ := hrel
    rcases Nat.eq_zero_or_pos a with rfl | hp
    · go_wp2
      go_ret
      refine ⟨?_, hB⟩
      have h := HL.out
      rw [show bitLen 0 = 0 from rfl] at h
      unfold lenN
      rw [Int.toNat_natCast, ← h]
      simp
    · have HL2 : Hid (bitLen (a / 2) + (j + 1) = bitLen n) := by
        have h := HL.out
        rw [len_half a (by omega)] at h
        show _ = _
        omega
      clear HL
      go_wp2
      go_roundg a
      case measure => omega
      case rel => exact ⟨a / 2, j + 1, by omega, by omega, by omega, by go_num, by go_num, HL2, hB⟩
theorem bo_tup {a b : Int} {x : Bool} (h : a = b) : Ending.returned (.tuple #[.int .i64 a, .bool x]) = Ending.returned (.tuple #[.int .i64 b, .bool x]) := by rw [h]
theorem ref15_det_no (n b : Int) (h : ¬ (0 ≤ n ∧ n ≤ 64 ∧ 0 ≤ b ∧ b ≤ 1073741824)) (w : World) :
    Calls Try.prog 9 #[.int .i64 n, .int .i64 b] w fun e w' => e = .returned (.tuple #[.int .i64 0, .bool false]) ∧ Below w.heap.size w w' := by
  have hB := Below.refl w.heap.size w
  go_enter Try.func9, Try.ntmps9
  go_wp2
  all_goals first | (exfalso; omega) | (go_ret2; exact ⟨rfl, hB⟩)
theorem ref15_det (n b : Int) (h0 : 0 ≤ n) (h1 : n ≤ 64) (k0 : 0 ≤ b) (k1 : b ≤ 1073741824) (w : World) :
    Calls Try.prog 9 #[.int .i64 n, .int .i64 b] w fun e w' => e = .returned (.tuple #[.int .i64 (detV n b), .bool true]) ∧ Below w.heap.size w w' := by
  have C : Hid (Calls Try.prog 16 #[.int .i64 n] w fun e w' => e = .returned (.int .i64 (lenN n)) ∧ Below w.heap.size w w') := by
    obtain ⟨n, rfl⟩ := Int.eq_ofNat_of_zero_le h0
    exact ref15_len n (by omega) w
  have hl := lenN64 h0 h1
  have b1 := mulBd h0 h1 hl.1 hl.2
  have b2 := mulBd h0 h1 k0 k1
  have e : detV n b = n * b + (n * lenN n + 1) / 2 + 1 := rfl
  rw [e]
  generalize lenN n = L at *
  by_cases ho : n * L % 2 = 1
  · have zo : (n * L % 2 == 1) = true := by simp [ho]
    go_enter Try.func9, Try.ntmps9
    go_wp2_with (go_at_call 16; refine C.out.mono ?_; rintro e w' ⟨rfl, hB⟩)
    go_ret2
    exact ⟨bo_tup (by omega), hB⟩
  · have zo : (n * L % 2 == 1) = false := by simp [ho]
    go_enter Try.func9, Try.ntmps9
    go_wp2_with (go_at_call 16; refine C.out.mono ?_; rintro e w' ⟨rfl, hB⟩)
    go_ret2
    exact ⟨bo_tup (by omega), hB⟩
/-- The first places of row k of Pascal's triangle, none more than M + 1. -/
def pasc (M k n : Nat) : List Nat := (List.range n).map fun i => min (ch k i) (M + 1)
theorem pasc_len (M k n : Nat) : (pasc M k n).length = n := by simp [pasc]
theorem pasc_succ (M k n : Nat) : pasc M k (n + 1) = pasc M k n ++ [min (ch k n) (M + 1)] := by simp [pasc, List.range_succ]
theorem pasc_one (M k : Nat) : pasc M k 1 = [1] := by simp [pasc, ch_zero]
theorem pasc_get (M k n i : Nat) (h : i < n) : (pasc M k n).getD i 0 = min (ch k i) (M + 1) := by simp [pasc, List.getD_eq_getElem?_getD, h]
theorem pasc_at (M k n i : Nat) (h : i < n) : (vals .i64 (pasc M k n))[i]? = some (.int .i64 ((min (ch k i) (M + 1) : Nat) : Int)) := by simp [vals, pasc, h]
theorem pasc_step (M k i : Nat) : min (min (ch k i) (M + 1) + min (ch k (i + 1)) (M + 1)) (M + 1) = min (ch (k + 1) (i + 1)) (M + 1) := by rw [ch_succ]; omega
set_option maxHeartbeats 4000000 in
theorem ref15_bases_in (n m : Nat) (most : Int) (hn : n ≤ 200) (hm : m ≤ n) (hw : -9223372036854775808 ≤ most ∧ most ≤ 9223372036854775807) (w : World) :
    Calls Try.prog 13 #[.int .i64 (n : Int), .int .i64 (m : Int), .int .i64 most] w fun e w' =>
      e = .returned (.tuple #[.int .i64 (if ((ch n m : Nat) : Int) ≤ mostI most then ((ch n m : Nat) : Int) else mostI most + 1), .bool (decide (((ch n m : Nat) : Int) ≤ mostI most))]) ∧ Below w.heap.size w w' := by
  have zb : decide (n < m) = false := by simp; omega
  have zb2 : decide ((n : Int) < (m : Int)) = false := by simp; omega
  have zb3 : decide ((m : Int) < 0) = false := by simp
  have hB := Below.refl w.heap.size w
  obtain ⟨i0, hi0, hz0, hz1, hz2⟩ := info_parts infoI
  obtain ⟨M, hM⟩ := Int.eq_ofNat_of_zero_le (mostI_bd most).1
  have hM1 : M ≤ 1099511627776 := by have := (mostI_bd most).2; omega
  rw [hM]
  have HM := Lib.hid hM
  clear hM
  go_enter Try.func13, Try.ntmps13
  go_upto_if 14 with fail
  go_cut [2] (fun v wc => v = .int .i64 (max most 0) ∧ wc = w)
  case first =>
    by_cases h : most < 0
    · go_wp2
      go_meet
      exact ⟨congrArg (Value.int .i64) (by omega), rfl⟩
    · go_wp2
      go_meet
      exact ⟨congrArg (Value.int .i64) (by omega), rfl⟩
  case rest =>
  obtain ⟨rfl, rfl⟩ := hcut
  go_upto_if 16 with fail
  go_cut [2] (fun v wy => v = .int .i64 (M : Int) ∧ wy = wc)
  case first =>
    by_cases h : 1099511627776 < max most 0
    · go_wp2
      go_meet
      exact ⟨congrArg (Value.int .i64) (by have := HM.out; unfold mostI at this; omega), rfl⟩
    · go_wp2
      go_meet
      exact ⟨congrArg (Value.int .i64) (by have := HM.out; unfold mostI at this; omega), rfl⟩
  case rest =>
  obtain ⟨rfl, rfl⟩ := hcut
  go_wp2_with fail
  have HL0 : wc.ownsRow wc.heap.size 3 1 (.slice none 0 0) 0 [] := World.ownsRow_nil _ _ _ _
  go_loopg [8, 9] (n + 1) (fun g v i wr => ∃ (k : Nat) (A : Option Addr) (c : Nat), k ≤ n ∧ n < g + k ∧ i = .int .i64 (k : Int) ∧ v = .slice A (k + 1) c ∧ wr.ownsRow wc.heap.size 3 1 (.slice A (k + 1) c) (k + 1) (vals .i64 (pasc M k (k + 1))) ∧ Below wc.heap.size wc wr)
  case atStart => exact ⟨0, _, _, by omega, by omega, rfl, rfl, by rw [pasc_one]; exact World.ownsRow_lit wc #[.int .i64 1] 1 (Nat.le_refl _) (by unfold maxLen; decide) rfl, hB.alloc (Nat.le_refl _) _⟩
  case round =>
    clear hB HL0
    obtain ⟨k, A, c, hk, hg, rfl, rfl, hown, hB⟩ := hrel
    have hRd := Reads.of_own hown
    obtain ⟨W, rfl⟩ : ∃ W, W = wr := ⟨_, rfl⟩
    by_cases hlt : k < n
    · have hB2 := Below.refl W.heap.size W
      go_wp2_with fail
      go_loopg [10, 11] (k + 2) (fun g v i wx => ∃ (p : Nat), p ≤ k ∧ k < g + p ∧ i = .int .i64 ((p : Int) + 1) ∧ wx.ownsRow W.heap.size 3 1 v (p + 1) (vals .i64 (pasc M (k + 1) (p + 1))) ∧ Below W.heap.size W wx)
      case atStart => exact ⟨0, by omega, by omega, rfl, by rw [pasc_one]; exact World.ownsRow_lit W #[.int .i64 1] 1 (Nat.le_refl _) (by unfold maxLen; decide) rfl, hB2.alloc (Nat.le_refl _) _⟩
      case round =>
        clear hB2
        obtain ⟨p, hp, hg2, rfl, hown2, hB2⟩ := hrel
        by_cases hlt2 : p < k
        · obtain ⟨g1, cap1, e, -, -⟩ := hown.form (by omega)
          cases e
          have hownB := own_below hown hB2
          have c1 := (hownB.cellAt p (by omega)).trans (pasc_at M k (k + 1) p (by omega))
          have c2 := (hownB.cellAt (p + 1) (by omega)).trans (pasc_at M k (k + 1) (p + 1) (by omega))
          have hst := pasc_step M k p
          have ha : min (ch k p) (M + 1) ≤ M + 1 := Nat.min_le_right _ _
          have hb : min (ch k (p + 1)) (M + 1) ≤ M + 1 := Nat.min_le_right _ _
          generalize min (ch k p) (M + 1) = a at *
          generalize min (ch k (p + 1)) (M + 1) = b at *
          have HST := Lib.hid hst
          clear hst
          have hB3 : Below W.heap.size W wr.drew := hB2.drew
          have hown3 : wr.drew.ownsRow W.heap.size 3 1 _ (p + 1) (vals .i64 (pasc M (k + 1) (p + 1))) := hown2
          clear hB2 hown2
          go_wp2_with fail
          go_region
          generalize wr.drew = w2 at *
          by_cases h3 : M + 1 < a + b
          · have hq : M + 1 = min (ch (k + 1) (p + 1)) (M + 1) := by rw [← HST.out]; omega
            have HQ := Lib.hid hq
            clear hq HST
            go_wp2_with (at_builtin; refine wpList_append_own _ rfl _ _ 34 rfl W.heap.size 3 i0 (.int .i64 0) 1 8 Try.underlying34 hi0 hz0 hz1 hz2 rfl (by decide) _ _ _ rfl (hown3.alloc _) ⟨w2.heap.size, 0, none⟩ 1 1 [.int .i64 ((M : Int) + 1)] rfl rfl (push_cells _ _ _) (push_one _ _) (by unfold maxLen; omega) (by omega) (by have := hB3.size; simp; omega) ?_; intro v' w1 hown' hgrow _)
            have hb' : Below W.heap.size W w1 := (hB3.alloc hB3.size _).grown hgrow (by have := hB3.size; simp; omega) (fun g hg => (hown3.lt g hg).1)
            have hown4 : w1.ownsRow W.heap.size 3 1 v' (p + 1 + 1) (vals .i64 (pasc M (k + 1) (p + 1 + 1))) := by
              rw [pasc_succ, vals_append, ← HQ.out]; exact hown'
            clear hown' hgrow hown3 hB3
            go_wp2
            go_roundg (k - p)
            case measure => omega
            case rel => exact ⟨p + 1, by omega, by omega, by go_num, hown4, hb'⟩
          · have hq : a + b = min (ch (k + 1) (p + 1)) (M + 1) := by rw [← HST.out]; omega
            have HQ := Lib.hid hq
            clear hq HST
            go_wp2_with (at_builtin; refine wpList_append_own _ rfl _ _ 34 rfl W.heap.size 3 i0 (.int .i64 0) 1 8 Try.underlying34 hi0 hz0 hz1 hz2 rfl (by decide) _ _ _ rfl (hown3.alloc _) ⟨w2.heap.size, 0, none⟩ 1 1 [.int .i64 ((a : Int) + (b : Int))] rfl rfl (push_cells _ _ _) (push_one _ _) (by unfold maxLen; omega) (by omega) (by have := hB3.size; simp; omega) ?_; intro v' w1 hown' hgrow _)
            have hb' : Below W.heap.size W w1 := (hB3.alloc hB3.size _).grown hgrow (by have := hB3.size; simp; omega) (fun g hg => (hown3.lt g hg).1)
            have hown4 : w1.ownsRow W.heap.size 3 1 v' (p + 1 + 1) (vals .i64 (pasc M (k + 1) (p + 1 + 1))) := by
              rw [pasc_succ, vals_append, ← HQ.out]; exact hown'
            clear hown' hgrow hown3 hB3
            go_wp2
            go_roundg (k - p)
            case measure => omega
            case rel => exact ⟨p + 1, by omega, by omega, by go_num, hown4, hb'⟩
        · obtain rfl : p = k := by omega
          clear hlt2
          go_wp2_with (at_builtin; refine wpList_append_own _ rfl _ _ 34 rfl W.heap.size 3 i0 (.int .i64 0) 1 8 Try.underlying34 hi0 hz0 hz1 hz2 rfl (by decide) _ _ _ rfl (hown2.alloc _) ⟨wr.heap.size, 0, none⟩ 1 1 [.int .i64 1] rfl rfl (push_cells _ _ _) (push_one _ _) (by unfold maxLen; omega) (by omega) (by have := hB2.size; simp; omega) ?_; intro v' w1 hown' hgrow _)
          have hb' : Below W.heap.size W w1 := (hB2.alloc hB2.size _).grown hgrow (by have := hB2.size; simp; omega) (fun g hg => (hown2.lt g hg).1)
          have hown4 : w1.ownsRow W.heap.size 3 1 v' (p + 1 + 1) (vals .i64 (pasc M (p + 1) (p + 1 + 1))) := by
            rw [pasc_succ, vals_append, ch_full, Nat.min_eq_left (by omega)]; exact hown'
          obtain ⟨A2, c2, rfl, -⟩ := own_form hown4
          clear hown' hgrow hown2 hB2
          go_wp2
          go_roundg (n - p)
          case measure => omega
          case rel => exact ⟨p + 1, A2, c2, by omega, by omega, by go_num, rfl, hown4.mono hB.size, hB.trans (hb'.mono hB.size)⟩
    · obtain rfl : k = n := by omega
      obtain ⟨g1, cap1, e, -, -⟩ := hown.form (by omega)
      cases e
      have c1 := (hown.cellAt m (by omega)).trans (pasc_at M k (k + 1) m (by omega))
      by_cases h3 : ch k m ≤ M
      · have e1 : min (ch k m) (M + 1) = ch k m := by omega
        rw [e1] at c1
        have e2 : ((ch k m : Nat) : Int) ≤ (M : Int) := by omega
        have e3 : ¬ (M : Int) < ((ch k m : Nat) : Int) := by omega
        go_wp2_with fail
        go_ret2
        refine ⟨?_, hB⟩
        first | (rw [if_pos e2, decide_eq_true e2]; done) | (rw [if_pos e2, decide_eq_true e2]; rfl) | rfl
      · have e1 : min (ch k m) (M + 1) = M + 1 := by omega
        rw [e1] at c1
        have e2 : ¬ ((ch k m : Nat) : Int) ≤ (M : Int) := by omega
        go_wp2_with fail
        go_ret2
        refine ⟨?_, hB⟩
        first | (rw [if_neg e2, decide_eq_false e2]; done) | (rw [if_neg e2, decide_eq_false e2]; rfl) | rfl
end Go.Proofs.Ytakpmlblfdecbaa
