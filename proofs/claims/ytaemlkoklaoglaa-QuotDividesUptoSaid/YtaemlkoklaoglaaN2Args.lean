/-
  What the laws on numbers share: a number out of the words that came in; how long numbers are. Conditions: none beyond each lemma's own.
-/
import Derived.Test.YtaemlkoklaoglaaRows
import Derived.Test.YtaemlkoklaoglaaUArgs
import Derived.Test.YtaemlkoklaoglaaBunE
import Derived.Test.YtaemlkoklaoglaaNCmp
import Derived.Test.YtaemlkoklaoglaaN2Lits
import Derived.WalkKit
import Derived.Lib.Hide
import Derived.Outline
namespace Go.Proofs.Ytaemlkoklaoglaa
open Go Go.RowKit
set_option linter.unusedVariables false
theorem arg_of {w : World} {A : Option Addr} {n c : Nat} {l : List Nat} (h : ArgWords w A n c l) : ∀ w', Below w.heap.size w w' → Calls Try.prog 10 #[.slice A n c] w' (GivesN2 w' (dv 18446744073709551616 l)) := fun w' hb =>
  nat_of A n c l w' ((h.reads.below hb).more hb.size) h.dgs h.fits (by have := h.small; omega) (by have := h.small; have := h.fits; omega)
/-- A number of at most so many words. -/
def Sz (K x : Nat) : Prop := x < 18446744073709551616 ^ K
theorem Sz.of_le {K x y : Nat} (h : Sz K x) (hy : y ≤ x) : Sz K y := Nat.lt_of_le_of_lt hy h
theorem Sz.up {K K' x : Nat} (h : Sz K x) (hk : K ≤ K') : Sz K' x := Nat.lt_of_lt_of_le h (Nat.pow_le_pow_right (by decide) hk)
theorem Sz.add {K x y : Nat} (h : Sz K x) (h' : Sz K y) : Sz (K + 1) (x + y) := by
  unfold Sz at *
  rw [Nat.pow_succ]
  omega
theorem Sz.mul {K K' x y : Nat} (h : Sz K x) (h' : Sz K' y) : Sz (K + K') (x * y) := by
  unfold Sz at *
  rw [Nat.pow_add]
  exact Nat.mul_lt_mul'' h h'
theorem Sz.len {K x : Nat} (h : Sz K x) : (dg 18446744073709551616 x).length ≤ K := dg_len_le (by decide) _ _ h
theorem Sz.words {K x : Nat} (h : Sz K x) {w : World} {A : Option Addr} {n c : Nat} (hw : WordsIn w x A n c) : n ≤ K := by rw [← hw.len]; exact h.len
theorem arg_sz {w : World} {A : Option Addr} {n c : Nat} {l : List Nat} (h : ArgWords w A n c l) : Sz 1048576 (dv 18446744073709551616 l) := by
  have h1 := dv_lt h.dgs
  have h2 := h.reads.len_
  have h3 := h.fits
  have h4 := h.small
  exact Sz.up (K := l.length) h1 (by omega)
theorem cmp_sz {K x y : Nat} (hx : Sz K x) (hy : Sz K y) (hK : K ≤ 1099511627776) {w : World} {A D : Option Addr} {n m c d : Nat} (hA : WordsIn w x A n c) (hD : WordsIn w y D m d) :
    Calls Try.prog 18 #[.agg #[.slice A n c], .agg #[.slice D m d]] w (SaysI w (cmpI x y)) :=
  nat_cmp x y A D n m c d w hA hD (Nat.le_trans (hx.words hA) hK) (Nat.le_trans (hy.words hD) hK)
theorem cmpI_01 {x y : Nat} (h : y ≤ x) : 0 ≤ cmpI x y ∧ cmpI x y ≤ 1 := by
  unfold cmpI
  rw [if_neg (by omega)]
  split <;> omega
theorem cmp_same {K x y : Nat} (hx : Sz K x) (h : x = y) (hK : K ≤ 1099511627776) {w : World} {A D : Option Addr} {n m c d : Nat} (hA : WordsIn w x A n c) (hD : WordsIn w y D m d) :
    Calls Try.prog 18 #[.agg #[.slice A n c], .agg #[.slice D m d]] w (SaysI w 0) := by
  have := cmp_sz hx (h ▸ hx) hK hA hD
  rw [cmpI_eq h] at this
  exact this
theorem cmpI_neg (x y : Nat) : IntKind.i64.wrap (-(cmpI y x)) = cmpI x y := by
  rcases Nat.lt_trichotomy x y with h | h | h
  · rw [cmpI_lt h, cmpI_gt h]; decide
  · rw [cmpI_eq h, cmpI_eq h.symm]; decide
  · rw [cmpI_gt h, cmpI_lt h]; decide
theorem cmpI_le0 (x y : Nat) : decide (cmpI x y ≤ 0) = decide (x ≤ y) := by
  rw [Bool.eq_iff_iff]
  simp only [decide_eq_true_eq]
  unfold cmpI
  split
  · omega
  · split <;> omega
theorem order_case (x y z : Nat) : decide (cmpI x y ≤ 0) = false ∨ (decide (cmpI x y ≤ 0) = true ∧ decide (cmpI y z ≤ 0) = false) ∨ (decide (cmpI x y ≤ 0) = true ∧ decide (cmpI y z ≤ 0) = true ∧ decide (0 < cmpI x z) = false) := by
  rw [cmpI_le0, cmpI_le0]
  by_cases h1 : x ≤ y
  · by_cases h2 : y ≤ z
    · refine .inr (.inr ⟨by simpa using h1, by simpa using h2, ?_⟩)
      have h3 : decide (cmpI x z ≤ 0) = true := by rw [cmpI_le0]; simp; omega
      simp only [decide_eq_true_eq] at h3
      simp only [decide_eq_false_iff_not]
      omega
    · exact .inr (.inl ⟨by simpa using h1, by simpa using h2⟩)
  · exact .inl (by simpa using h1)
theorem cmp_dg (x y : Nat) : (cmpI x y == 0) = decide (dg 18446744073709551616 x = dg 18446744073709551616 y) := by
  rw [Bool.eq_iff_iff]
  simp only [beq_iff_eq, decide_eq_true_eq]
  constructor
  · intro h
    have : x = y := by
      rcases Nat.lt_trichotomy x y with h1 | h1 | h1
      · rw [cmpI_lt h1] at h; omega
      · exact h1
      · rw [cmpI_gt h1] at h; omega
    rw [this]
  · intro h
    exact cmpI_eq (dg_inj (by decide) h)
end Go.Proofs.Ytaemlkoklaoglaa
