/-
  The contract of the law's Is (actuarylaw02): has a number these words? Conditions: the value is a number; the words read; lengths up to 2 to the 40.
  Numbers and words that are written out; small steps of a walk. Conditions: none beyond each lemma's own.
  What the laws on numbers share: a number out of the words that came in; how long numbers are. Conditions: none beyond each lemma's own.
-/
import Derived.Test.YtplgbokgfphjaaaDoorRows
import Derived.Test.YtplgbokgfphjaaaDoorNDig
import Derived.Test.YtplgbokgfphjaaaDoorUArgs
import Derived.Test.YtplgbokgfphjaaaDoorBunE
import Derived.Test.YtplgbokgfphjaaaDoorBunC
import Derived.WalkKit
import Derived.Lib.Hide
import Derived.Outline
import Derived.Deep.QuietTactic
import Derived.BigQuiet
import Derived.LoopTactic
import Derived.Deep.LoopGhost
import Derived.Deep.DeepCutAuto
import Derived.Deep.CutBlock
import Derived.Deep.RegionHeld3
namespace Go.Proofs.YtplgbokgfphjaaaDoor
open Go Go.RowKit
set_option maxRecDepth 100000
set_option linter.unusedVariables false
theorem take_eq_succ {M L : List Nat} {k : Nat} (h : M.take k = L.take k) (h1 : k < M.length) (h2 : k < L.length) (he : M.getD k 0 = L.getD k 0) : M.take (k + 1) = L.take (k + 1) := by
  rw [List.getD_eq_getElem?_getD, List.getD_eq_getElem?_getD, List.getElem?_eq_getElem h1, List.getElem?_eq_getElem h2] at he
  have he' : M[k] = L[k] := by simpa using he
  rw [List.take_succ_eq_append_getElem h1, List.take_succ_eq_append_getElem h2, h, he']
/-- What tells. -/
def SaysB (w : World) (b : Bool) (e : Ending) (w' : World) : Prop := e = .returned (.bool b) ∧ Below w.heap.size w w'
set_option maxHeartbeats 4000000 in
theorem law2_is_len (x : Nat) (L : List Nat) (A D : Option Addr) (n c m d : Nat) (w : World) (hA : WordsIn w x A n c) (hD : Reads w w.heap.size 1 D m (vals .u64 L)) (hn : n ≤ 1099511627776) (hm : m ≤ 1099511627776) (hne : n ≠ m) :
    Calls Tryd.prog 16 #[.agg #[.slice A n c], .slice D m d] w (SaysB w false) := by
  have HW := (fun w' (hb : Below w.heap.size w w') => nat_words x A n c w' (hA.below hb) hn)
  unfold GivesW at HW
  rw [hA.len] at HW
  have HWS := Lib.hid HW
  have hne' : ((n : Int) != (m : Int)) = true := by simp; omega
  have hne2 : ((n : Int) == (m : Int)) = false := by simp; omega
  clear HW hA hD hne
  go_enter Tryd.func16, Tryd.ntmps16
  go_wp2_with fail
  obtain ⟨b1, b2, b5⟩ := box1 w 29 #[.slice A n c]
  refine (HWS.out _ b1).mono ?_
  rintro e w1 ⟨A1, c1, rfl, hr1, _, _, hb⟩
  have hB := keep_below b1 hb
  clear hb hr1 b1 b2 b5
  go_wp2
  go_ret
  exact ⟨rfl, hB⟩
set_option maxHeartbeats 4000000 in
theorem law2_is_eq (x : Nat) (L : List Nat) (A D : Option Addr) (c m d : Nat) (w : World) (hA : WordsIn w x A m c) (hD : Reads w w.heap.size 1 D m (vals .u64 L)) (hL : Dgs 18446744073709551616 L) (hm : m ≤ 1099511627776) :
    Calls Tryd.prog 16 #[.agg #[.slice A m c], .slice D m d] w (SaysB w (decide (dg 18446744073709551616 x = L))) := by
  have HW := (fun w' (hb : Below w.heap.size w w') => nat_words x A m c w' (hA.below hb) hm)
  unfold GivesW at HW
  have hlen := hA.len
  rw [hlen] at HW
  have HX := Lib.hid (fun w' (hb : Below w.heap.size w w') k => nat_word x A m c k w' (hA.below hb))
  have HWS := Lib.hid HW
  have hll := Lib.hid hD.len_
  have HLM := Lib.hid hlen
  have HLD := Lib.hid hL
  obtain ⟨M, hM⟩ : ∃ M, dg 18446744073709551616 x = M := ⟨_, rfl⟩
  have HMW := Lib.hid (fun k => (wd_get x k))
  rw [hM] at HWS HLM HMW ⊢
  clear HW hA hlen hL hM
  go_enter Tryd.func16, Tryd.ntmps16
  go_wp2_with fail
  obtain ⟨b1, b2, b5⟩ := box1 w 29 #[.slice A m c]
  refine (HWS.out _ b1).mono ?_
  rintro e w1 ⟨A1, c1, rfl, hr1, _, ⟨_, hfr⟩, hb⟩
  have hB := keep_below b1 hb
  have g1 : w1.cell? ⟨w.heap.size, 0, none⟩ = some (.slice A m c) := keep_cell hb (b2.cell 0)
  clear hb b1 b2 b5 hfr
  go_wp2_with fail
  refine (nat_len x _ _ _ _).mono ?_
  rintro e w2 ⟨rfl, hb⟩
  have hB := keep_below hB hb
  have g1 := keep_cell hb g1
  have hr1 := (hr1.below hb).more hb.size
  clear hb
  go_wp2_with fail
  go_loopg [6] (m + 1) (fun g ix wr => ∃ k : Nat, k ≤ m ∧ m < g + k ∧ ix = .int .i64 k ∧ Hid (M.take k = L.take k) ∧ Below w.heap.size w wr ∧ wr.cell? ⟨w.heap.size, 0, none⟩ = some (.slice A m c) ∧ Reads wr wr.heap.size 1 A1 m (vals .u64 M))
  case atStart => exact ⟨0, Nat.zero_le _, by omega, rfl, rfl, hB, g1, hr1⟩
  case round =>
    clear hB g1 hr1
    obtain ⟨k, hk, hg, rfl, hT, hB, g1, hr1⟩ := hrel
    by_cases hlt : k < m
    · have hD1 := hD.below hB
      obtain ⟨ad, rfl, hadb, h1⟩ := val_at hr1 (k := k) hlt
      obtain ⟨ae, rfl, haeb, h2⟩ := val_at hD1 (k := k) hlt
      have hd1 := HMW.out k
      have HXK := (fun w' hb => HX.out w' hb k)
      by_cases he : M.getD k 0 = L.getD k 0
      · have HT2 := Lib.hid (take_eq_succ hT.out (by have := HLM.out; omega) (by have := hll.out; omega) he)
        rw [← hd1] at HXK
        rw [← he] at h2
        obtain ⟨p, hp⟩ : ∃ p, M.getD k 0 = p := ⟨_, rfl⟩
        rw [hp] at h1 h2 HXK
        have HXH := Lib.hid HXK
        have HR1 := Lib.hid hr1
        clear he hp HXK hd1 hD1 hr1
        obtain ⟨s1, s2⟩ : (0 : Int) ≤ (k : Int) ∧ (k : Int) < (m : Int) := by omega
        go_wp2_with fail
        have hb0 := hB.drew
        have hx1 : wr.drew.cell? (ad.add k) = some (.int .u64 p) := h1
        have hx2 : wr.drew.cell? (ae.add k) = some (.int .u64 p) := h2
        have hr0 : Reads wr.drew wr.drew.heap.size 1 (some ad) m (vals .u64 M) := HR1.out
        have g0 : wr.drew.cell? ⟨w.heap.size, 0, none⟩ = some (.slice A m c) := g1
        go_region_held3 (fun w' => Below w.heap.size w w' ∧ w'.cell? ⟨w.heap.size, 0, none⟩ = some (.slice A m c) ∧ w'.cell? (ad.add k) = some (.int .u64 p) ∧ w'.cell? (ae.add k) = some (.int .u64 p) ∧ Reads w' w'.heap.size 1 (some ad) m (vals .u64 M))
          (first | (exact ⟨hb0, g0, hx1, hx2, hr0⟩) | (go_split_ands; refine ⟨?_, ?_, ?_, ?_, ?_⟩; all_goals (first | with_reducible assumption | exact keep_below (by with_reducible assumption) hb | exact keep_cell hb (by with_reducible assumption) | exact (Reads.below (by with_reducible assumption) hb).more hb.size)))
          (first
            | (go_at_call 44; with_reducible refine (HXH.out _ (by first | with_reducible assumption | exact And.left (by with_reducible assumption))).mono ?_; rintro e w' ⟨rfl, hb⟩))
        rename_i hH
        obtain ⟨hB2, g2, _, _, hr2⟩ := hH
        clear hb hb0 hx1 hx2 hr0 g0 hB g1 h1 h2
        go_wp2
        go_roundg (m - k)
        case measure => omega
        case rel => exact ⟨k + 1, by omega, by omega, by go_num, HT2.out, hB2, g2, hr2⟩
      · have hF : Hid (decide (M = L) = false) := by
          show _ = _
          simp only [decide_eq_false_iff_not]
          rintro rfl
          exact he rfl
        obtain ⟨p, hp⟩ : ∃ p, M.getD k 0 = p := ⟨_, rfl⟩
        obtain ⟨r, hr⟩ : ∃ p, L.getD k 0 = p := ⟨_, rfl⟩
        rw [hp] at h1 he
        rw [hr] at h2 he
        have he1 : ((p : Int) != (r : Int)) = true := by simp; omega
        have he2 : ((p : Int) == (r : Int)) = false := by simp; omega
        have HR1 := Lib.hid hr1
        clear hp hr he HXK hd1 hD1 hr1
        obtain ⟨s1, s2⟩ : (0 : Int) ≤ (k : Int) ∧ (k : Int) < (m : Int) := by omega
        go_wp2_with fail
        go_quiet (fail)
        go_wp2
        go_ret
        exact ⟨by rw [hF.out]; rfl, below_drewN_ hB _⟩
    · have hkm : k = m := by omega
      subst hkm
      have hF : Hid (decide (M = L) = true) := by
        show _ = _
        have h := hT.out
        rw [List.take_of_length_le (by have := HLM.out; omega), List.take_of_length_le (by have := hll.out; omega)] at h
        simpa using h
      go_wp2
      go_ret
      exact ⟨by rw [hF.out]; rfl, hB⟩
theorem law2_is (x : Nat) (L : List Nat) (A D : Option Addr) (n c m d : Nat) (w : World) (hA : WordsIn w x A n c) (hD : Reads w w.heap.size 1 D m (vals .u64 L)) (hL : Dgs 18446744073709551616 L) (hn : n ≤ 1099511627776) (hm : m ≤ 1099511627776) :
    Calls Tryd.prog 16 #[.agg #[.slice A n c], .slice D m d] w (SaysB w (decide (dg 18446744073709551616 x = L))) := by
  by_cases h : n = m
  · subst h
    exact law2_is_eq x L A D c n d w hA hD hL hn
  · have e : decide (dg 18446744073709551616 x = L) = false := by
      simp only [decide_eq_false_iff_not]
      rintro rfl
      exact h (by rw [← hA.len, ← hD.len_])
    rw [e]
    exact law2_is_len x L A D n c m d w hA hD hn hm h
end Go.Proofs.YtplgbokgfphjaaaDoor
namespace Go.Proofs.YtplgbokgfphjaaaDoor
open Go Go.RowKit
set_option maxRecDepth 100000
set_option linter.unusedVariables false
/-- Of, of words written out. -/
theorem of_lits (cs : Array Value) (l : List Nat) (w : World) (g n x : Nat) (hk : Blk w g 35 cs) (hn : cs.size = n) (hv : cs.toList = vals .u64 l) (hd : Dgs 18446744073709551616 l) (hx : dv 18446744073709551616 l = x) (hs : n ≤ 1000) :
    Calls Tryd.prog 12 #[.slice (some ⟨g, 0, none⟩) n n] w (GivesN2 w x) := by
  have hl : l.length = n := by
    have h := congrArg List.length hv
    rw [vals_length] at h
    rw [← h]; simpa using hn
  have := nat_of (some ⟨g, 0, none⟩) n n l w (blk_reads hk hn (by rw [hv, List.take_of_length_le (by rw [vals_length]; omega)]) hl) hd (Nat.le_refl _) (by omega) (by omega)
  rw [hx] at this
  exact this
theorem dgs1 (a : Nat) (ha : a < 18446744073709551616) : Dgs 18446744073709551616 [a] := by intro d hd; simp at hd; omega
theorem dgs2 (a b : Nat) (ha : a < 18446744073709551616) (hb : b < 18446744073709551616) : Dgs 18446744073709551616 [a, b] := by intro d hd; simp at hd; omega
theorem dgs3 (a b c : Nat) (ha : a < 18446744073709551616) (hb : b < 18446744073709551616) (hc : c < 18446744073709551616) : Dgs 18446744073709551616 [a, b, c] := by intro d hd; simp at hd; omega
theorem dg_two {a b : Nat} (ha : a < 18446744073709551616) (hb : b < 18446744073709551616) (h0 : b ≠ 0) : dg 18446744073709551616 (a + 18446744073709551616 * b) = [a, b] := by
  have h := dg_of (b := 18446744073709551616) (by decide) (l := [a, b]) (dgs2 a b ha hb) (by intro _; simpa using h0)
  rw [h]
  simp [dv]
theorem dg_one {a : Nat} (ha : a < 18446744073709551616) (h0 : a ≠ 0) : dg 18446744073709551616 a = [a] := by
  have h := dg_of (b := 18446744073709551616) (by decide) (l := [a]) (dgs1 a ha) (by intro _; simpa using h0)
  rw [h]
  simp [dv]
theorem is_lits (x : Nat) (A : Option Addr) (n c g : Nat) (cs : Array Value) (l : List Nat) (w : World) (h : WordsIn w x A n c) (hk : Blk w g 35 cs) (hn : cs.size = n) (hv : cs.toList = vals .u64 l) (hd : Dgs 18446744073709551616 l) (hx : dg 18446744073709551616 x = l) (hs : n ≤ 1000) :
    Calls Tryd.prog 16 #[.agg #[.slice A n c], .slice (some ⟨g, 0, none⟩) n n] w (SaysB w true) := by
  have hl : l.length = n := by
    have h := congrArg List.length hv
    rw [vals_length] at h
    rw [← h]; simpa using hn
  have := law2_is_eq x l A (some ⟨g, 0, none⟩) c n n w h (blk_reads hk hn (by rw [hv, List.take_of_length_le (by rw [vals_length]; omega)]) hl) hd (by omega)
  rw [hx] at this
  simpa using this
theorem up_alloc (w : World) (o : Obj) : Below w.heap.size w (w.alloc o) := (Below.refl _ w).alloc (Nat.le_refl _) o
theorem up2 {w0 w w' : World} (h : Below w0.heap.size w0 w) (hb : Below w.heap.size w w') : Below w0.heap.size w0 w' := keep_below h hb
theorem len_of {w : World} {x : Nat} {A : Option Addr} {n c : Nat} {l : List Nat} (h : WordsIn w x A n c) (hx : dg 18446744073709551616 x = l) : n = l.length := by rw [← h.len, hx]
end Go.Proofs.YtplgbokgfphjaaaDoor
namespace Go.Proofs.YtplgbokgfphjaaaDoor
open Go Go.RowKit
set_option linter.unusedVariables false
theorem arg_of {w : World} {A : Option Addr} {n c : Nat} {l : List Nat} (h : ArgWords w A n c l) : ∀ w', Below w.heap.size w w' → Calls Tryd.prog 12 #[.slice A n c] w' (GivesN2 w' (dv 18446744073709551616 l)) := fun w' hb =>
  nat_of A n c l w' ((h.reads.below hb).more hb.size) h.dgs h.fits (by have := h.small; omega) (by have := h.small; have := h.fits; omega)
/-- A number of at most so many words. -/
def Sz (K x : Nat) : Prop := x < 18446744073709551616 ^ K
theorem Sz.of_le {K x y : Nat} (h : Sz K x) (hy : y ≤ x) : Sz K y := Nat.lt_of_le_of_lt hy h
theorem Sz.up {K K' x : Nat} (h : Sz K x) (hk : K ≤ K') : Sz K' x := Nat.lt_of_lt_of_le h (Nat.pow_le_pow_right (by decide) hk)
theorem Sz.add {K x y : Nat} (h : Sz K x) (h' : Sz K y) : Sz (K + 1) (x + y) := by
  unfold Sz at *
  rw [Nat.pow_succ]
  omega
theorem Sz.mul {K K' x y : Nat} (h : Sz K x) (h' : Sz K' y) : Sz (K + K') (x * y) := by
  unfold Sz at *
  rw [Nat.pow_add]
  exact Nat.mul_lt_mul'' h h'
theorem Sz.len {K x : Nat} (h : Sz K x) : (dg 18446744073709551616 x).length ≤ K := dg_len_le (by decide) _ _ h
theorem Sz.words {K x : Nat} (h : Sz K x) {w : World} {A : Option Addr} {n c : Nat} (hw : WordsIn w x A n c) : n ≤ K := by rw [← hw.len]; exact h.len
theorem arg_sz {w : World} {A : Option Addr} {n c : Nat} {l : List Nat} (h : ArgWords w A n c l) : Sz 1048576 (dv 18446744073709551616 l) := by
  have h1 := dv_lt h.dgs
  have h2 := h.reads.len_
  have h3 := h.fits
  have h4 := h.small
  exact Sz.up (K := l.length) h1 (by omega)
theorem cmp_sz {K x y : Nat} (hx : Sz K x) (hy : Sz K y) (hK : K ≤ 1099511627776) {w : World} {A D : Option Addr} {n m c d : Nat} (hA : WordsIn w x A n c) (hD : WordsIn w y D m d) :
    Calls Tryd.prog 20 #[.agg #[.slice A n c], .agg #[.slice D m d]] w (SaysI w (cmpI x y)) :=
  nat_cmp x y A D n m c d w hA hD (Nat.le_trans (hx.words hA) hK) (Nat.le_trans (hy.words hD) hK)
theorem cmpI_01 {x y : Nat} (h : y ≤ x) : 0 ≤ cmpI x y ∧ cmpI x y ≤ 1 := by
  unfold cmpI
  rw [if_neg (by omega)]
  split <;> omega
theorem cmp_same {K x y : Nat} (hx : Sz K x) (h : x = y) (hK : K ≤ 1099511627776) {w : World} {A D : Option Addr} {n m c d : Nat} (hA : WordsIn w x A n c) (hD : WordsIn w y D m d) :
    Calls Tryd.prog 20 #[.agg #[.slice A n c], .agg #[.slice D m d]] w (SaysI w 0) := by
  have := cmp_sz hx (h ▸ hx) hK hA hD
  rw [cmpI_eq h] at this
  exact this
theorem cmpI_neg (x y : Nat) : IntKind.i64.wrap (-(cmpI y x)) = cmpI x y := by
  rcases Nat.lt_trichotomy x y with h | h | h
  · rw [cmpI_lt h, cmpI_gt h]; decide
  · rw [cmpI_eq h, cmpI_eq h.symm]; decide
  · rw [cmpI_gt h, cmpI_lt h]; decide
theorem cmpI_le0 (x y : Nat) : decide (cmpI x y ≤ 0) = decide (x ≤ y) := by
  rw [Bool.eq_iff_iff]
  simp only [decide_eq_true_eq]
  unfold cmpI
  split
  · omega
  · split <;> omega
theorem order_case (x y z : Nat) : decide (cmpI x y ≤ 0) = false ∨ (decide (cmpI x y ≤ 0) = true ∧ decide (cmpI y z ≤ 0) = false) ∨ (decide (cmpI x y ≤ 0) = true ∧ decide (cmpI y z ≤ 0) = true ∧ decide (0 < cmpI x z) = false) := by
  rw [cmpI_le0, cmpI_le0]
  by_cases h1 : x ≤ y
  · by_cases h2 : y ≤ z
    · refine .inr (.inr ⟨by simpa using h1, by simpa using h2, ?_⟩)
      have h3 : decide (cmpI x z ≤ 0) = true := by rw [cmpI_le0]; simp; omega
      simp only [decide_eq_true_eq] at h3
      simp only [decide_eq_false_iff_not]
      omega
    · exact .inr (.inl ⟨by simpa using h1, by simpa using h2⟩)
  · exact .inl (by simpa using h1)
theorem cmp_dg (x y : Nat) : (cmpI x y == 0) = decide (dg 18446744073709551616 x = dg 18446744073709551616 y) := by
  rw [Bool.eq_iff_iff]
  simp only [beq_iff_eq, decide_eq_true_eq]
  constructor
  · intro h
    have : x = y := by
      rcases Nat.lt_trichotomy x y with h1 | h1 | h1
      · rw [cmpI_lt h1] at h; omega
      · exact h1
      · rw [cmpI_gt h1] at h; omega
    rw [this]
  · intro h
    exact cmpI_eq (dg_inj (by decide) h)
end Go.Proofs.YtplgbokgfphjaaaDoor
