/-
  The contract of quot's raised: a number's words, shifted up, in a row of the call's own of a given length. Conditions: the value is a number of up to 2 to the 38 words; the shift is below 64; the row is long enough.
-/
import Derived.Test.YtaemlkoklaoglaaRows
import Derived.Test.YtaemlkoklaoglaaQTake
import Derived.Test.YtaemlkoklaoglaaNShl
import Derived.Test.YtaemlkoklaoglaaBunE
import Derived.WalkKit
import Derived.Lib.Hide
import Derived.Outline
import Derived.IntWalk
import Derived.Laws.CopyOwn
namespace Go.Proofs.Ytaemlkoklaoglaa
open Go Go.RowKit
set_option maxRecDepth 100000
set_option linter.unusedVariables false
/-- A row of the call's own, N words, that comes to X. -/
def GivesRow (w : World) (ty : TypeId) (N X : Nat) (e : Ending) (w' : World) : Prop :=
  ∃ (g : Nat) (L : List Nat), e = .returned (.slice (some ⟨g, 0, none⟩) N N) ∧ w.heap.size ≤ g ∧ Row64 w' ty g N N L ∧ Dgs 18446744073709551616 L ∧ dv 18446744073709551616 L = X ∧ Below w.heap.size w w'
theorem dv_pad (b : Nat) (l : List Nat) (n : Nat) : dv b (l ++ List.replicate n 0) = dv b l := by rw [dv_append, dv_zeros, Nat.mul_zero, Nat.add_zero]
set_option maxHeartbeats 4000000 in
theorem quot_raised (x up N : Nat) (A : Option Addr) (n c : Nat) (w : World) (hA : WordsIn w x A n c) (hn : n ≤ 274877906944) (hup : up ≤ 63) (hN : (dg 18446744073709551616 (2 ^ up * x)).length ≤ N) (hN2 : N ≤ 549755813888) :
    Calls Try.prog 53 #[.agg #[.slice A n c], .int .i64 up, .int .i64 N] w (GivesRow w 23 N (2 ^ up * x)) := by
  obtain ⟨i0, hi0, hz0, hz1, hz2⟩ := info_parts infoU
  have HS := Lib.hid (fun w' (hb : Below w.heap.size w w') => nat_shl x up A n c w' (hA.below hb) (by omega) (by omega))
  obtain ⟨y, hy⟩ : ∃ y, 2 ^ up * x = y := ⟨_, rfl⟩
  rw [hy] at HS hN ⊢
  have HW := Lib.hid (fun w' A' n' c' (h : WordsIn w' y A' n' c') (hb : n' ≤ 1099511627776) => nat_words y A' n' c' w' h hb)
  have HN := Lib.hid hN
  obtain ⟨Z, hZ⟩ : ∃ Z, madeCells (Value.cells (.int .u64 0)) N = Z := ⟨_, rfl⟩
  have HZL : Hid (Z = (vals .u64 (List.replicate N 0)).toArray) := by
    show _ = _
    have h : Z.toList = vals .u64 (List.replicate N 0) := by
      rw [← hZ]
      exact (toList_madeCells_one _ _).trans (by simp [vals])
    rw [← h]
  have hmk : ∀ W : World, (Instr.makeSlice 22 (.int .i64 (N : Int)) (.int .i64 (N : Int))).run Try.prog W = .ok (.slice (some ⟨W.heap.size, 0, none⟩) N N) (W.alloc (.cells Z 23)) := fun W => by
    have h := run_make_rowN _ _ i0 _ Try.underlying22 hi0 hz0 .i64 .i64 N N (Nat.le_refl _) (by rw [hz2]; omega) (by omega) W
    rw [hz1, Nat.mul_one, hZ] at h
    exact h
  clear hZ hA hN hy hup
  go_enter Try.func53, Try.ntmps53
  go_wp2_with fail
  generalize hW : w.alloc (.cells #[.slice A n c] 26) = W0
  obtain ⟨b1, b2, b5⟩ := box1 w 26 #[.slice A n c]
  rw [hW] at b1 b2 b5
  clear hW b2
  refine (HS.out _ b1).mono ?_
  rintro e w1 ⟨A1, n1, c1, rfl, hy1, hb, hf1⟩
  have hB := keep_below b1 hb
  clear hb b1 b5
  obtain ⟨d1, d2, d5⟩ := box1 w1 26 #[.slice A1 n1 c1]
  have d0 := hB.size
  have hB := keep_below hB d1
  have hy1 := hy1.below d1
  have g1 : (w1.alloc (.cells #[.slice A1 n1 c1] 26)).cell? ⟨w1.heap.size, 0, none⟩ = some (.slice A1 n1 c1) := d2.cell 0
  clear d1 d2 d5 hf1
  go_wp2_with fail
  have hy2 := hy1.below ((Below.refl _ (w1.alloc (.cells #[.slice A1 n1 c1] 26))).alloc (Nat.le_refl _) (.cells Z 23))
  have hz := Blk.new (w1.alloc (.cells #[.slice A1 n1 c1] 26)) 23 Z
  have hB := keep_below_alloc (.cells Z 23) hB
  have hgs : w.heap.size ≤ (w1.alloc (.cells #[.slice A1 n1 c1] 26)).heap.size := by have := hB.size; simp at this ⊢; have := d0; omega
  rw [show (w1.alloc (.cells #[.slice A1 n1 c1] 26)).heap.size = w1.heap.size + 1 from by simp] at hz hgs
  obtain ⟨gs, hge⟩ : ∃ g, w1.heap.size + 1 = g := ⟨_, rfl⟩
  rw [hge] at hz hgs ⊢
  generalize (w1.alloc (.cells #[.slice A1 n1 c1] 26)).alloc (.cells Z 23) = W2 at *
  clear hge hy1 g1 hmk
  have hln := hy2.len
  have hnN : n1 ≤ N := by have := HN.out; omega
  refine (HW.out _ A1 n1 c1 hy2 (by omega)).mono ?_
  rintro e w3 ⟨A2, c2, rfl, hr2, _, ⟨_, hfr⟩, hb⟩
  have hB := keep_below hB hb
  have hz := keep_blk hb hz
  rw [HZL.out] at hz
  rw [hln] at hr2
  rw [hln]
  have hdl := hr2.len_
  have hdd := dg_dgs (b := 18446744073709551616) (by decide) y
  have hdv := dv_dg (b := 18446744073709551616) (by decide) y
  obtain ⟨D, hD⟩ : ∃ D, dg 18446744073709551616 y = D := ⟨_, rfl⟩
  rw [hD] at hr2 hdl hdd hdv
  have hpos : 0 < (vals .u64 D).length → ∃ ad, A2 = some ad ∧ ∀ j v, (vals .u64 D)[j]? = some v → w3.cell? (ad.add j) = some v := fun h => by
    rw [vals_length] at h
    obtain ⟨ad, e, _, hc⟩ := hr2.2 (by omega)
    exact ⟨ad, e, hc⟩
  have HPOS := Lib.hid hpos
  have HRES : Hid (∀ w4, Hid (w4.heap[gs]? = some (.cells (splice (vals .u64 (List.replicate N 0)) 0 (vals .u64 D)).toArray 23 (0, 0))) → Below w.heap.size w w4 → GivesRow w 23 N y (.returned (.slice (some ⟨gs, 0, none⟩) N N)) w4) := fun w4 h4 hB4 => by
    have e : splice (vals .u64 (List.replicate N 0)) 0 (vals .u64 D) = vals .u64 (D ++ List.replicate (N - n1) 0) := by
      unfold splice
      rw [List.take_zero, List.nil_append, Nat.zero_add, vals_length, vals_drop, hdl, List.drop_replicate, ← vals_append]
    rw [e] at h4
    refine ⟨gs, D ++ List.replicate (N - n1) 0, rfl, hgs, ⟨_, h4.out, Nat.le_refl _, by unfold maxLen; omega, by simp [vals_length]; omega, by simp; omega, ?_⟩, hdd.append (Dgs.zeros (by decide) _), by rw [dv_pad, hdv], hB4⟩
    show (vals .u64 (D ++ List.replicate (N - n1) 0)).take N = _
    rw [List.take_of_length_le (by rw [vals_length]; simp; omega)]
  have HZ2 := Lib.hid hz
  have HBB := Lib.hid hB
  clear hz hB hpos hdd hdv hD hr2 hfr hb hln hy2 HZL
  have hu := Try.underlying22
  go_wp2_with ((with_reducible show wpList _ _ _ _ _ _); refine wpList_copy_splice (o := ⟨some 21, _, _, _, _, _⟩) rfl (.tmp 18) (.tmp 20) 22 22 rfl 23 hu (by rw [hi0]; simp [hz1]) (some ⟨gs, 0, none⟩) A2 N N n1 c2 rfl rfl gs 0 (vals .u64 (List.replicate N 0)) 23 HZ2.out (vals .u64 D) (by rw [vals_length, hdl]; exact (Nat.min_eq_left hnN).symm) (fun h => ⟨rfl, HPOS.out h⟩) (by rw [vals_length, vals_length]; simp; omega) (vals_one _ _) w.heap.size w HBB.out hgs ?_; intro w4 h4 hB4)
  have G := Lib.hid (HRES.out w4 h4 hB4)
  clear h4 hB4
  go_wp2
  go_ret
  exact G.out
end Go.Proofs.Ytaemlkoklaoglaa
