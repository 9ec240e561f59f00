/-
  What the law NatTells needs besides: words in a row of the call's own; a number's facts. Conditions: none beyond each lemma's own.
-/
import Derived.Test.YtlofionccgjndaaDoorRows
import Derived.Test.YtlofionccgjndaaDoorNTold
import Derived.Test.YtlofionccgjndaaDoorN2Args
import Derived.Test.YtlofionccgjndaaDoorNBits
import Derived.Test.YtlofionccgjndaaDoorR2Of
import Derived.WalkKit
import Derived.Lib.Hide
import Derived.Outline
namespace Go.Proofs.YtlofionccgjndaaDoor
open Go Go.RowKit
set_option linter.unusedVariables false
/-- A slice of words that the call owns. -/
def OwnsW (B : Nat) (w : World) (A : Option Addr) (n c : Nat) (l : List Nat) : Prop :=
  n ≤ c ∧ c ≤ 9223372036854775807 ∧ Reads w w.heap.size 1 A n (vals .u64 l) ∧ (0 < n → ∃ g cs, A = some ⟨g, 0, none⟩ ∧ B ≤ g ∧ Blk w g 30 cs ∧ n ≤ cs.size ∧ cs.toList.take n = vals .u64 l)
theorem ownsW_of {B : Nat} {w : World} {v : Value} {n : Nat} {l : List Nat} (h : w.ownsRow B 30 1 v n (vals .u64 l)) : ∃ A c, v = .slice A n c ∧ OwnsW B w A n c l := by
  obtain ⟨A, c, e, hr, h1, h2, _⟩ := own_form h
  refine ⟨A, c, e, h1, h2, hr, fun hn => ?_⟩
  rcases h.2 with ⟨_, h0⟩ | ⟨g, cap, cur, e2, hb, hh, hnc, hcm, hsz, htk⟩
  · omega
  · rw [e] at e2
    injection e2 with e3
    exact ⟨g, cur, e3, hb, hh, by omega, by simpa using htk⟩
theorem words_set2 {w : World} {A : Option Addr} {n c x : Nat} (h : WordsIn w x A n c) {p : Addr} (hp : ∀ ad, A = some ad → ad.block ≠ p.block) (u : Value) : WordsIn (w.setCell p u) x A n c := words_set h hp u
theorem holds_set {w : World} {A : Option Addr} {n c x : Nat} (h : Holds16 w x A n c) {p : Addr} (hp : ∀ ad, A = some ad → ad.block ≠ p.block) (u : Value) : Holds16 (w.setCell p u) x A n c := by
  obtain ⟨hr, h1, h2⟩ := h
  refine ⟨⟨hr.1, fun hn => ?_⟩, h1, h2⟩
  obtain ⟨ad, e, hb, hc⟩ := hr.2 hn
  refine ⟨ad, e, by simpa using hb, fun j v hv => ?_⟩
  refine (World.cell?_setCell_other w p _ u (fun e2 => hp ad e ?_)).trans (hc j v hv)
  have := congrArg Addr.block e2
  rw [block_of_add] at this
  first | exact this | exact this.symm
theorem Sz.len16T {K x : Nat} (h : Sz K x) : (dg 65536 x).length ≤ 4 * K := dg_len_le (by decide) _ _ (by rw [pow_four]; exact h)
theorem Sz.bits {K x : Nat} (h : Sz K x) : bitLen x ≤ 64 * K := bitLen_le _ _ (by
  unfold Sz at h
  rw [show (18446744073709551616 : Nat) = 2 ^ 64 from rfl, ← Nat.pow_mul] at h
  exact h)
theorem len16_zero (x : Nat) : ((((dg 65536 x).length : Nat) : Int) == 0) = decide ((dg 18446744073709551616 x).length = 0) := by
  by_cases h : x = 0
  · subst h; rfl
  · have h1 := (dg_ge (b := 65536) (by decide) x h).1
    have h2 := (dg_ge (b := 18446744073709551616) (by decide) x h).1
    rw [decide_eq_false (by omega)]
    exact beq_eq_false_iff_ne.2 (by omega)
/-- How far the search for the lowest 1 has come. -/
def LowZ (x j : Nat) : Prop := ∀ i, i < j → x / 2 ^ i % 2 = 0
theorem LowZ.start (x : Nat) : LowZ x 0 := fun i h => absurd h (by omega)
theorem LowZ.step {x j : Nat} (h : LowZ x j) (h0 : x / 2 ^ j % 2 = 0) : LowZ x (j + 1) := fun i hi => by
  by_cases e : i = j
  · rw [e]; exact h0
  · exact h i (by omega)
theorem top_bit {x : Nat} (h : x ≠ 0) : x / 2 ^ (bitLen x - 1) % 2 = 1 := by
  have h1 : bitLen x = x.log2 + 1 := by unfold bitLen; rw [if_neg h]
  rw [h1, Nat.add_sub_cancel]
  have h2 := Nat.log2_self_le h
  have h3 := @Nat.lt_log2_self x
  have h4 : 1 ≤ x / 2 ^ x.log2 := Nat.div_pos h2 (Nat.two_pow_pos _)
  have h5 : x / 2 ^ x.log2 < 2 := (Nat.div_lt_iff_lt_mul (Nat.two_pow_pos _)).2 (by rw [Nat.mul_comm, ← Nat.pow_succ]; exact h3)
  omega
theorem LowZ.full {x : Nat} (h : LowZ x (bitLen x)) : bitLen x = twosN x := by
  by_cases h0 : x = 0
  · subst h0; decide
  · have h1 : 0 < bitLen x := by unfold bitLen; rw [if_neg h0]; omega
    have := h (bitLen x - 1) (by omega)
    rw [top_bit h0] at this
    omega
theorem LowZ.hit {x j : Nat} (h : LowZ x j) (hj : j < bitLen x) (h1 : x / 2 ^ j % 2 = 1) : j = twosN x :=
  tw_find h (fun e => by subst e; rw [show bitLen 0 = 0 from rfl] at hj; omega) (fun _ => h1)
/-- What Uint tells. -/
theorem uint_any (x : Nat) (A : Option Addr) (n c : Nat) (w : World) (hA : WordsIn w x A n c) :
    Calls Tryd.prog 8 #[.agg #[.slice A n c]] w fun e w' => e = .returned (.tuple #[.int .u64 (if n ≤ 1 then wd x 0 else 0 : Nat), .bool (decide ((n : Int) ≤ 1))]) ∧ Below w.heap.size w w' := by
  by_cases h : n ≤ 1
  · have e : decide ((n : Int) ≤ 1) = true := by simp; omega
    rw [if_pos h, e]
    exact nat_uint_one x A n c w hA h
  · have e : decide ((n : Int) ≤ 1) = false := by simp; omega
    rw [if_neg h, e]
    exact nat_uint_more A n c w (by omega)
end Go.Proofs.YtlofionccgjndaaDoor
