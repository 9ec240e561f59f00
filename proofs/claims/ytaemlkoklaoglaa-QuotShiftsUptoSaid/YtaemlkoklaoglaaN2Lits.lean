/-
  Numbers and words that are written out; small steps of a walk. Conditions: none beyond each lemma's own.
-/
import Derived.Test.YtaemlkoklaoglaaRows
import Derived.Test.YtaemlkoklaoglaaN2Is
import Derived.WalkKit
import Derived.Lib.Hide
import Derived.Outline
namespace Go.Proofs.Ytaemlkoklaoglaa
open Go Go.RowKit
set_option maxRecDepth 100000
set_option linter.unusedVariables false
/-- Of, of words written out. -/
theorem of_lits (cs : Array Value) (l : List Nat) (w : World) (g n x : Nat) (hk : Blk w g 23 cs) (hn : cs.size = n) (hv : cs.toList = vals .u64 l) (hd : Dgs 18446744073709551616 l) (hx : dv 18446744073709551616 l = x) (hs : n ≤ 1000) :
    Calls Try.prog 10 #[.slice (some ⟨g, 0, none⟩) n n] w (GivesN2 w x) := by
  have hl : l.length = n := by
    have h := congrArg List.length hv
    rw [vals_length] at h
    rw [← h]; simpa using hn
  have := nat_of (some ⟨g, 0, none⟩) n n l w (blk_reads hk hn (by rw [hv, List.take_of_length_le (by rw [vals_length]; omega)]) hl) hd (Nat.le_refl _) (by omega) (by omega)
  rw [hx] at this
  exact this
theorem dgs1 (a : Nat) (ha : a < 18446744073709551616) : Dgs 18446744073709551616 [a] := by intro d hd; simp at hd; omega
theorem dgs2 (a b : Nat) (ha : a < 18446744073709551616) (hb : b < 18446744073709551616) : Dgs 18446744073709551616 [a, b] := by intro d hd; simp at hd; omega
theorem dgs3 (a b c : Nat) (ha : a < 18446744073709551616) (hb : b < 18446744073709551616) (hc : c < 18446744073709551616) : Dgs 18446744073709551616 [a, b, c] := by intro d hd; simp at hd; omega
theorem dg_two {a b : Nat} (ha : a < 18446744073709551616) (hb : b < 18446744073709551616) (h0 : b ≠ 0) : dg 18446744073709551616 (a + 18446744073709551616 * b) = [a, b] := by
  have h := dg_of (b := 18446744073709551616) (by decide) (l := [a, b]) (dgs2 a b ha hb) (by intro _; simpa using h0)
  rw [h]
  simp [dv]
theorem dg_one {a : Nat} (ha : a < 18446744073709551616) (h0 : a ≠ 0) : dg 18446744073709551616 a = [a] := by
  have h := dg_of (b := 18446744073709551616) (by decide) (l := [a]) (dgs1 a ha) (by intro _; simpa using h0)
  rw [h]
  simp [dv]
theorem is_lits (x : Nat) (A : Option Addr) (n c g : Nat) (cs : Array Value) (l : List Nat) (w : World) (h : WordsIn w x A n c) (hk : Blk w g 23 cs) (hn : cs.size = n) (hv : cs.toList = vals .u64 l) (hd : Dgs 18446744073709551616 l) (hx : dg 18446744073709551616 x = l) (hs : n ≤ 1000) :
    Calls Try.prog 27 #[.agg #[.slice A n c], .slice (some ⟨g, 0, none⟩) n n] w (SaysB w true) := by
  have hl : l.length = n := by
    have h := congrArg List.length hv
    rw [vals_length] at h
    rw [← h]; simpa using hn
  have := law2_is_eq x l A (some ⟨g, 0, none⟩) c n n w h (blk_reads hk hn (by rw [hv, List.take_of_length_le (by rw [vals_length]; omega)]) hl) hd (by omega)
  rw [hx] at this
  simpa using this
theorem up_alloc (w : World) (o : Obj) : Below w.heap.size w (w.alloc o) := (Below.refl _ w).alloc (Nat.le_refl _) o
theorem up2 {w0 w w' : World} (h : Below w0.heap.size w0 w) (hb : Below w.heap.size w w') : Below w0.heap.size w0 w' := keep_below h hb
theorem len_of {w : World} {x : Nat} {A : Option Addr} {n c : Nat} {l : List Nat} (h : WordsIn w x A n c) (hx : dg 18446744073709551616 x = l) : n = l.length := by rw [← h.len, hx]
end Go.Proofs.Ytaemlkoklaoglaa
