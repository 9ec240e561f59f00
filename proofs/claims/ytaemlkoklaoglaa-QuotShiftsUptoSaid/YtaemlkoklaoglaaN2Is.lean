/-
  The contract of the law's Is (actuarylaw02): has a number these words? Conditions: the value is a number; the words read; lengths up to 2 to the 40.
-/
import Derived.Test.YtaemlkoklaoglaaRows
import Derived.Test.YtaemlkoklaoglaaNDig
import Derived.WalkKit
import Derived.Lib.Hide
import Derived.Outline
import Derived.Deep.QuietTactic
import Derived.BigQuiet
import Derived.LoopTactic
import Derived.Deep.LoopGhost
import Derived.Deep.DeepCutAuto
import Derived.Deep.CutBlock
import Derived.Deep.RegionHeld3
namespace Go.Proofs.Ytaemlkoklaoglaa
open Go Go.RowKit
set_option maxRecDepth 100000
set_option linter.unusedVariables false
theorem take_eq_succ {M L : List Nat} {k : Nat} (h : M.take k = L.take k) (h1 : k < M.length) (h2 : k < L.length) (he : M.getD k 0 = L.getD k 0) : M.take (k + 1) = L.take (k + 1) := by
  rw [List.getD_eq_getElem?_getD, List.getD_eq_getElem?_getD, List.getElem?_eq_getElem h1, List.getElem?_eq_getElem h2] at he
  have he' : M[k] = L[k] := by simpa using he
  rw [List.take_succ_eq_append_getElem h1, List.take_succ_eq_append_getElem h2, h, he']
/-- What tells. -/
def SaysB (w : World) (b : Bool) (e : Ending) (w' : World) : Prop := e = .returned (.bool b) ∧ Below w.heap.size w w'
set_option maxHeartbeats 4000000 in
theorem law2_is_len (x : Nat) (L : List Nat) (A D : Option Addr) (n c m d : Nat) (w : World) (hA : WordsIn w x A n c) (hD : Reads w w.heap.size 1 D m (vals .u64 L)) (hn : n ≤ 1099511627776) (hm : m ≤ 1099511627776) (hne : n ≠ m) :
    Calls Try.prog 27 #[.agg #[.slice A n c], .slice D m d] w (SaysB w false) := by
  have HW := (fun w' (hb : Below w.heap.size w w') => nat_words x A n c w' (hA.below hb) hn)
  unfold GivesW at HW
  rw [hA.len] at HW
  have HWS := Lib.hid HW
  have hne' : ((n : Int) != (m : Int)) = true := by simp; omega
  have hne2 : ((n : Int) == (m : Int)) = false := by simp; omega
  clear HW hA hD hne
  go_enter Try.func27, Try.ntmps27
  go_wp2_with fail
  obtain ⟨b1, b2, b5⟩ := box1 w 26 #[.slice A n c]
  refine (HWS.out _ b1).mono ?_
  rintro e w1 ⟨A1, c1, rfl, hr1, _, _, hb⟩
  have hB := keep_below b1 hb
  clear hb hr1 b1 b2 b5
  go_wp2
  go_ret
  exact ⟨rfl, hB⟩
set_option maxHeartbeats 4000000 in
theorem law2_is_eq (x : Nat) (L : List Nat) (A D : Option Addr) (c m d : Nat) (w : World) (hA : WordsIn w x A m c) (hD : Reads w w.heap.size 1 D m (vals .u64 L)) (hL : Dgs 18446744073709551616 L) (hm : m ≤ 1099511627776) :
    Calls Try.prog 27 #[.agg #[.slice A m c], .slice D m d] w (SaysB w (decide (dg 18446744073709551616 x = L))) := by
  have HW := (fun w' (hb : Below w.heap.size w w') => nat_words x A m c w' (hA.below hb) hm)
  unfold GivesW at HW
  have hlen := hA.len
  rw [hlen] at HW
  have HX := Lib.hid (fun w' (hb : Below w.heap.size w w') k => nat_word x A m c k w' (hA.below hb))
  have HWS := Lib.hid HW
  have hll := Lib.hid hD.len_
  have HLM := Lib.hid hlen
  have HLD := Lib.hid hL
  obtain ⟨M, hM⟩ : ∃ M, dg 18446744073709551616 x = M := ⟨_, rfl⟩
  have HMW := Lib.hid (fun k => (wd_get x k))
  rw [hM] at HWS HLM HMW ⊢
  clear HW hA hlen hL hM
  go_enter Try.func27, Try.ntmps27
  go_wp2_with fail
  obtain ⟨b1, b2, b5⟩ := box1 w 26 #[.slice A m c]
  refine (HWS.out _ b1).mono ?_
  rintro e w1 ⟨A1, c1, rfl, hr1, _, ⟨_, hfr⟩, hb⟩
  have hB := keep_below b1 hb
  have g1 : w1.cell? ⟨w.heap.size, 0, none⟩ = some (.slice A m c) := keep_cell hb (b2.cell 0)
  clear hb b1 b2 b5 hfr
  go_wp2_with fail
  refine (nat_len x _ _ _ _).mono ?_
  rintro e w2 ⟨rfl, hb⟩
  have hB := keep_below hB hb
  have g1 := keep_cell hb g1
  have hr1 := (hr1.below hb).more hb.size
  clear hb
  go_wp2_with fail
  go_loopg [6] (m + 1) (fun g ix wr => ∃ k : Nat, k ≤ m ∧ m < g + k ∧ ix = .int .i64 k ∧ Hid (M.take k = L.take k) ∧ Below w.heap.size w wr ∧ wr.cell? ⟨w.heap.size, 0, none⟩ = some (.slice A m c) ∧ Reads wr wr.heap.size 1 A1 m (vals .u64 M))
  case atStart => exact ⟨0, Nat.zero_le _, by omega, rfl, rfl, hB, g1, hr1⟩
  case round =>
    clear hB g1 hr1
    obtain ⟨k, hk, hg, rfl, hT, hB, g1, hr1⟩ := hrel
    by_cases hlt : k < m
    · have hD1 := hD.below hB
      obtain ⟨ad, rfl, hadb, h1⟩ := val_at hr1 (k := k) hlt
      obtain ⟨ae, rfl, haeb, h2⟩ := val_at hD1 (k := k) hlt
      have hd1 := HMW.out k
      have HXK := (fun w' hb => HX.out w' hb k)
      by_cases he : M.getD k 0 = L.getD k 0
      · have HT2 := Lib.hid (take_eq_succ hT.out (by have := HLM.out; omega) (by have := hll.out; omega) he)
        rw [← hd1] at HXK
        rw [← he] at h2
        obtain ⟨p, hp⟩ : ∃ p, M.getD k 0 = p := ⟨_, rfl⟩
        rw [hp] at h1 h2 HXK
        have HXH := Lib.hid HXK
        have HR1 := Lib.hid hr1
        clear he hp HXK hd1 hD1 hr1
        obtain ⟨s1, s2⟩ : (0 : Int) ≤ (k : Int) ∧ (k : Int) < (m : Int) := by omega
        go_wp2_with fail
        have hb0 := hB.drew
        have hx1 : wr.drew.cell? (ad.add k) = some (.int .u64 p) := h1
        have hx2 : wr.drew.cell? (ae.add k) = some (.int .u64 p) := h2
        have hr0 : Reads wr.drew wr.drew.heap.size 1 (some ad) m (vals .u64 M) := HR1.out
        have g0 : wr.drew.cell? ⟨w.heap.size, 0, none⟩ = some (.slice A m c) := g1
        go_region_held3 (fun w' => Below w.heap.size w w' ∧ w'.cell? ⟨w.heap.size, 0, none⟩ = some (.slice A m c) ∧ w'.cell? (ad.add k) = some (.int .u64 p) ∧ w'.cell? (ae.add k) = some (.int .u64 p) ∧ Reads w' w'.heap.size 1 (some ad) m (vals .u64 M))
          (first | (exact ⟨hb0, g0, hx1, hx2, hr0⟩) | (go_split_ands; refine ⟨?_, ?_, ?_, ?_, ?_⟩; all_goals (first | with_reducible assumption | exact keep_below (by with_reducible assumption) hb | exact keep_cell hb (by with_reducible assumption) | exact (Reads.below (by with_reducible assumption) hb).more hb.size)))
          (first
            | (go_at_call 48; with_reducible refine (HXH.out _ (by first | with_reducible assumption | exact And.left (by with_reducible assumption))).mono ?_; rintro e w' ⟨rfl, hb⟩))
        rename_i hH
        obtain ⟨hB2, g2, _, _, hr2⟩ := hH
        clear hb hb0 hx1 hx2 hr0 g0 hB g1 h1 h2
        go_wp2
        go_roundg (m - k)
        case measure => omega
        case rel => exact ⟨k + 1, by omega, by omega, by go_num, HT2.out, hB2, g2, hr2⟩
      · have hF : Hid (decide (M = L) = false) := by
          show _ = _
          simp only [decide_eq_false_iff_not]
          rintro rfl
          exact he rfl
        obtain ⟨p, hp⟩ : ∃ p, M.getD k 0 = p := ⟨_, rfl⟩
        obtain ⟨r, hr⟩ : ∃ p, L.getD k 0 = p := ⟨_, rfl⟩
        rw [hp] at h1 he
        rw [hr] at h2 he
        have he1 : ((p : Int) != (r : Int)) = true := by simp; omega
        have he2 : ((p : Int) == (r : Int)) = false := by simp; omega
        have HR1 := Lib.hid hr1
        clear hp hr he HXK hd1 hD1 hr1
        obtain ⟨s1, s2⟩ : (0 : Int) ≤ (k : Int) ∧ (k : Int) < (m : Int) := by omega
        go_wp2_with fail
        go_quiet (fail)
        go_wp2
        go_ret
        exact ⟨by rw [hF.out]; rfl, below_drewN_ hB _⟩
    · have hkm : k = m := by omega
      subst hkm
      have hF : Hid (decide (M = L) = true) := by
        show _ = _
        have h := hT.out
        rw [List.take_of_length_le (by have := HLM.out; omega), List.take_of_length_le (by have := hll.out; omega)] at h
        simpa using h
      go_wp2
      go_ret
      exact ⟨by rw [hF.out]; rfl, hB⟩
theorem law2_is (x : Nat) (L : List Nat) (A D : Option Addr) (n c m d : Nat) (w : World) (hA : WordsIn w x A n c) (hD : Reads w w.heap.size 1 D m (vals .u64 L)) (hL : Dgs 18446744073709551616 L) (hn : n ≤ 1099511627776) (hm : m ≤ 1099511627776) :
    Calls Try.prog 27 #[.agg #[.slice A n c], .slice D m d] w (SaysB w (decide (dg 18446744073709551616 x = L))) := by
  by_cases h : n = m
  · subst h
    exact law2_is_eq x L A D c n d w hA hD hL hn
  · have e : decide (dg 18446744073709551616 x = L) = false := by
      simp only [decide_eq_false_iff_not]
      rintro rfl
      exact h (by rw [← hA.len, ← hD.len_])
    rw [e]
    exact law2_is_len x L A D n c m d w hA hD hn hm h
end Go.Proofs.Ytaemlkoklaoglaa
