/-
  The contract of the law's Is (actuarylaw02): has a number these words? Conditions: the value is a number; the words read; lengths up to 2 to the 40.
  Numbers and words that are written out; small steps of a walk. Conditions: none beyond each lemma's own.
  What the laws on numbers share: a number out of the words that came in; how long numbers are. Conditions: none beyond each lemma's own.
-/
import Derived.Test.YtnnhcicdildfaaaRows
import Derived.Test.YtnnhcicdildfaaaNDig
import Derived.Test.YtnnhcicdildfaaaUArgs
import Derived.Test.YtnnhcicdildfaaaBunE
import Derived.Test.YtnnhcicdildfaaaBunC
import Derived.WalkKit
import Derived.Lib.Hide
import Derived.Outline
import Derived.Deep.QuietTactic
import Derived.BigQuiet
import Derived.LoopTactic
import Derived.Deep.LoopGhost
import Derived.Deep.DeepCutAuto
import Derived.Deep.CutBlock
import Derived.Deep.RegionHeld3
namespace Go.Proofs.Ytnnhcicdildfaaa
open Go Go.RowKit
set_option maxRecDepth 100000
set_option linter.unusedVariables false
theorem take_eq_succ {M L : List Nat} {k : Nat} (h : M.take k = L.take k) (h1 : k < M.length) (h2 : k < L.length) (he : M.getD k 0 = L.getD k 0) : M.take (k + 1) = L.take (k + 1) := by
  rw [List.getD_eq_getElem?_getD, List.getD_eq_getElem?_getD, List.getElem?_eq_getElem h1, List.getElem?_eq_getElem h2] at he
  have he' : M[k] = L[k] := by simpa using he
  rw [List.take_succ_eq_append_getElem h1, List.take_succ_eq_append_getElem h2, h, he']
/-- What tells. -/
def SaysB (w : World) (b : Bool) (e : Ending) (w' : World) : Prop := e = .returned (.bool b) ∧ Below w.heap.size w w'
end Go.Proofs.Ytnnhcicdildfaaa
namespace Go.Proofs.Ytnnhcicdildfaaa
open Go Go.RowKit
set_option maxRecDepth 100000
set_option linter.unusedVariables false
/-- Of, of words written out. -/
theorem of_lits (cs : Array Value) (l : List Nat) (w : World) (g n x : Nat) (hk : Blk w g 50 cs) (hn : cs.size = n) (hv : cs.toList = vals .u64 l) (hd : Dgs 18446744073709551616 l) (hx : dv 18446744073709551616 l = x) (hs : n ≤ 1000) :
    Calls Try.prog 10 #[.slice (some ⟨g, 0, none⟩) n n] w (GivesN2 w x) := by
  have hl : l.length = n := by
    have h := congrArg List.length hv
    rw [vals_length] at h
    rw [← h]; simpa using hn
  have := nat_of (some ⟨g, 0, none⟩) n n l w (blk_reads hk hn (by rw [hv, List.take_of_length_le (by rw [vals_length]; omega)]) hl) hd (Nat.le_refl _) (by omega) (by omega)
  rw [hx] at this
  exact this
theorem dgs1 (a : Nat) (ha : a < 18446744073709551616) : Dgs 18446744073709551616 [a] := by intro d hd; simp at hd; omega
theorem dgs2 (a b : Nat) (ha : a < 18446744073709551616) (hb : b < 18446744073709551616) : Dgs 18446744073709551616 [a, b] := by intro d hd; simp at hd; omega
theorem dgs3 (a b c : Nat) (ha : a < 18446744073709551616) (hb : b < 18446744073709551616) (hc : c < 18446744073709551616) : Dgs 18446744073709551616 [a, b, c] := by intro d hd; simp at hd; omega
theorem dg_two {a b : Nat} (ha : a < 18446744073709551616) (hb : b < 18446744073709551616) (h0 : b ≠ 0) : dg 18446744073709551616 (a + 18446744073709551616 * b) = [a, b] := by
  have h := dg_of (b := 18446744073709551616) (by decide) (l := [a, b]) (dgs2 a b ha hb) (by intro _; simpa using h0)
  rw [h]
  simp [dv]
theorem dg_one {a : Nat} (ha : a < 18446744073709551616) (h0 : a ≠ 0) : dg 18446744073709551616 a = [a] := by
  have h := dg_of (b := 18446744073709551616) (by decide) (l := [a]) (dgs1 a ha) (by intro _; simpa using h0)
  rw [h]
  simp [dv]
theorem up_alloc (w : World) (o : Obj) : Below w.heap.size w (w.alloc o) := (Below.refl _ w).alloc (Nat.le_refl _) o
theorem up2 {w0 w w' : World} (h : Below w0.heap.size w0 w) (hb : Below w.heap.size w w') : Below w0.heap.size w0 w' := keep_below h hb
theorem len_of {w : World} {x : Nat} {A : Option Addr} {n c : Nat} {l : List Nat} (h : WordsIn w x A n c) (hx : dg 18446744073709551616 x = l) : n = l.length := by rw [← h.len, hx]
end Go.Proofs.Ytnnhcicdildfaaa
namespace Go.Proofs.Ytnnhcicdildfaaa
open Go Go.RowKit
set_option linter.unusedVariables false
theorem arg_of {w : World} {A : Option Addr} {n c : Nat} {l : List Nat} (h : ArgWords w A n c l) : ∀ w', Below w.heap.size w w' → Calls Try.prog 10 #[.slice A n c] w' (GivesN2 w' (dv 18446744073709551616 l)) := fun w' hb =>
  nat_of A n c l w' ((h.reads.below hb).more hb.size) h.dgs h.fits (by have := h.small; omega) (by have := h.small; have := h.fits; omega)
/-- A number of at most so many words. -/
def Sz (K x : Nat) : Prop := x < 18446744073709551616 ^ K
theorem Sz.of_le {K x y : Nat} (h : Sz K x) (hy : y ≤ x) : Sz K y := Nat.lt_of_le_of_lt hy h
theorem Sz.up {K K' x : Nat} (h : Sz K x) (hk : K ≤ K') : Sz K' x := Nat.lt_of_lt_of_le h (Nat.pow_le_pow_right (by decide) hk)
theorem Sz.add {K x y : Nat} (h : Sz K x) (h' : Sz K y) : Sz (K + 1) (x + y) := by
  unfold Sz at *
  rw [Nat.pow_succ]
  omega
theorem Sz.mul {K K' x y : Nat} (h : Sz K x) (h' : Sz K' y) : Sz (K + K') (x * y) := by
  unfold Sz at *
  rw [Nat.pow_add]
  exact Nat.mul_lt_mul'' h h'
theorem Sz.len {K x : Nat} (h : Sz K x) : (dg 18446744073709551616 x).length ≤ K := dg_len_le (by decide) _ _ h
theorem Sz.words {K x : Nat} (h : Sz K x) {w : World} {A : Option Addr} {n c : Nat} (hw : WordsIn w x A n c) : n ≤ K := by rw [← hw.len]; exact h.len
theorem arg_sz {w : World} {A : Option Addr} {n c : Nat} {l : List Nat} (h : ArgWords w A n c l) : Sz 1048576 (dv 18446744073709551616 l) := by
  have h1 := dv_lt h.dgs
  have h2 := h.reads.len_
  have h3 := h.fits
  have h4 := h.small
  exact Sz.up (K := l.length) h1 (by omega)
theorem cmp_sz {K x y : Nat} (hx : Sz K x) (hy : Sz K y) (hK : K ≤ 1099511627776) {w : World} {A D : Option Addr} {n m c d : Nat} (hA : WordsIn w x A n c) (hD : WordsIn w y D m d) :
    Calls Try.prog 23 #[.agg #[.slice A n c], .agg #[.slice D m d]] w (SaysI w (cmpI x y)) :=
  nat_cmp x y A D n m c d w hA hD (Nat.le_trans (hx.words hA) hK) (Nat.le_trans (hy.words hD) hK)
theorem cmpI_01 {x y : Nat} (h : y ≤ x) : 0 ≤ cmpI x y ∧ cmpI x y ≤ 1 := by
  unfold cmpI
  rw [if_neg (by omega)]
  split <;> omega
theorem cmp_same {K x y : Nat} (hx : Sz K x) (h : x = y) (hK : K ≤ 1099511627776) {w : World} {A D : Option Addr} {n m c d : Nat} (hA : WordsIn w x A n c) (hD : WordsIn w y D m d) :
    Calls Try.prog 23 #[.agg #[.slice A n c], .agg #[.slice D m d]] w (SaysI w 0) := by
  have := cmp_sz hx (h ▸ hx) hK hA hD
  rw [cmpI_eq h] at this
  exact this
theorem cmpI_neg (x y : Nat) : IntKind.i64.wrap (-(cmpI y x)) = cmpI x y := by
  rcases Nat.lt_trichotomy x y with h | h | h
  · rw [cmpI_lt h, cmpI_gt h]; decide
  · rw [cmpI_eq h, cmpI_eq h.symm]; decide
  · rw [cmpI_gt h, cmpI_lt h]; decide
theorem cmpI_le0 (x y : Nat) : decide (cmpI x y ≤ 0) = decide (x ≤ y) := by
  rw [Bool.eq_iff_iff]
  simp only [decide_eq_true_eq]
  unfold cmpI
  split
  · omega
  · split <;> omega
theorem order_case (x y z : Nat) : decide (cmpI x y ≤ 0) = false ∨ (decide (cmpI x y ≤ 0) = true ∧ decide (cmpI y z ≤ 0) = false) ∨ (decide (cmpI x y ≤ 0) = true ∧ decide (cmpI y z ≤ 0) = true ∧ decide (0 < cmpI x z) = false) := by
  rw [cmpI_le0, cmpI_le0]
  by_cases h1 : x ≤ y
  · by_cases h2 : y ≤ z
    · refine .inr (.inr ⟨by simpa using h1, by simpa using h2, ?_⟩)
      have h3 : decide (cmpI x z ≤ 0) = true := by rw [cmpI_le0]; simp; omega
      simp only [decide_eq_true_eq] at h3
      simp only [decide_eq_false_iff_not]
      omega
    · exact .inr (.inl ⟨by simpa using h1, by simpa using h2⟩)
  · exact .inl (by simpa using h1)
theorem cmp_dg (x y : Nat) : (cmpI x y == 0) = decide (dg 18446744073709551616 x = dg 18446744073709551616 y) := by
  rw [Bool.eq_iff_iff]
  simp only [beq_iff_eq, decide_eq_true_eq]
  constructor
  · intro h
    have : x = y := by
      rcases Nat.lt_trichotomy x y with h1 | h1 | h1
      · rw [cmpI_lt h1] at h; omega
      · exact h1
      · rw [cmpI_gt h1] at h; omega
    rw [this]
  · intro h
    exact cmpI_eq (dg_inj (by decide) h)
end Go.Proofs.Ytnnhcicdildfaaa
