/-
  The rows of int and uint64 in the table of types. Conditions: none.
  The contract of nat.trim: the words without noughts above, in the very memory. Conditions: the words read; their length is up to 2 to the 40.
  The contract of slices.Clone of words: the same words in new memory. Conditions: the words read; their length is up to 2 to the 40.
  The contracts of what only looks at a number: nat.Nat's Len, Word, Zero. Conditions: the value is a number.
  The contracts of nat.Of and nat.Nat's Words. Conditions: the words read; their length is up to 2 to the 40.
-/
import Derived.Test.YtakpmlblfdecbaaRows
import Derived.Test.YtakpmlblfdecbaaBunD
import Derived.KernelRfl
import Derived.Below
import Derived.WalkKit
import Derived.Lib.Hide
import Derived.Outline
import Derived.LoopTactic
import Derived.Deep.LoopGhost
import Derived.Lib.SliceRun
namespace Go.Proofs.Ytakpmlblfdecbaa
open Go Go.RowKit
theorem infoI : (Try.prog.info? 3).map (fun i => (i.zero, i.size, i.bytes)) = some (some (.int .i64 0), 1, 8) := by kernel_rfl
theorem infoU : (Try.prog.info? 31).map (fun i => (i.zero, i.size, i.bytes)) = some (some (.int .u64 0), 1, 8) := by kernel_rfl
end Go.Proofs.Ytakpmlblfdecbaa
namespace Go.Proofs.Ytakpmlblfdecbaa
open Go Go.RowKit
set_option maxRecDepth 100000
set_option linter.unusedVariables false
/-- What trim hands back of a slice: the number's words, where they lay. -/
def TrimR (w : World) (B : Nat) (A : Option Addr) (x : Nat) (e : Ending) (w' : World) : Prop :=
  ∃ (A' : Option Addr) (c' : Nat), e = .returned (.slice A' (dg 18446744073709551616 x).length c') ∧ Reads w B 1 A' (dg 18446744073709551616 x).length (vals .u64 (dg 18446744073709551616 x)) ∧ (dg 18446744073709551616 x).length ≤ c' ∧ c' ≤ 9223372036854775807 ∧ (A' = A ∨ A' = none) ∧ w = w'
end Go.Proofs.Ytakpmlblfdecbaa
namespace Go.Proofs.Ytakpmlblfdecbaa
open Go Go.RowKit
set_option maxRecDepth 100000
set_option linter.unusedVariables false
theorem gives_none (w : World) (l : List Nat) (hl : l = []) : Gives w 0 (vals .u64 l) (.returned (.slice none 0 0)) w := by
  subst hl
  exact ⟨none, 0, rfl, Reads.none_, Nat.le_refl _, ⟨by omega, by intro ad e; cases e⟩, Below.refl _ _⟩
/-- Words in a row of the call's own. -/
def GivesOwn (w : World) (n : Nat) (xs : List Value) (e : Ending) (w' : World) : Prop := ∃ v, e = .returned v ∧ w'.ownsRow w.heap.size 31 1 v n xs ∧ Below w.heap.size w w'
end Go.Proofs.Ytakpmlblfdecbaa
namespace Go.Proofs.Ytakpmlblfdecbaa
open Go Go.RowKit
set_option maxRecDepth 100000
set_option linter.unusedVariables false
/-- What a number's value is: a slice that reads as the words. -/
def WordsIn (w : World) (x : Nat) (A : Option Addr) (n c : Nat) : Prop := Reads w w.heap.size 1 A n (vals .u64 (dg 18446744073709551616 x)) ∧ n ≤ c ∧ c ≤ 9223372036854775807
theorem WordsIn.len {w : World} {x : Nat} {A : Option Addr} {n c : Nat} (h : WordsIn w x A n c) : (dg 18446744073709551616 x).length = n := h.1.len_
theorem WordsIn.below {w w' : World} {x : Nat} {A : Option Addr} {n c : Nat} (h : WordsIn w x A n c) (hb : Below w.heap.size w w') : WordsIn w' x A n c :=
  ⟨(h.1.below hb).more hb.size, h.2⟩
theorem WordsIn.drewN {w : World} {x : Nat} {A : Option Addr} {n c : Nat} (h : WordsIn w x A n c) (k : Nat) : WordsIn (w.drewN k) x A n c := h
theorem WordsIn.nat {w : World} {x : Nat} {A : Option Addr} {n c : Nat} (h : WordsIn w x A n c) : NatIs w x (.agg #[.slice A n c]) := ⟨A, n, c, rfl, h⟩
theorem NatIs.words {w : World} {x : Nat} {v : Value} (h : NatIs w x v) : ∃ (A : Option Addr) (n c : Nat), v = .agg #[.slice A n c] ∧ WordsIn w x A n c := h
theorem keep_cell {w w' : World} {p : Addr} {v : Value} (hb : Below w.heap.size w w') (h : w.cell? p = some v) : w'.cell? p = some v := (hb.cell (World.block_lt_of_cell? w p h)).trans h
theorem keep_below {w w1 w' : World} (h : Below w.heap.size w w1) (hb : Below w1.heap.size w1 w') : Below w.heap.size w w' := h.trans (hb.mono h.size)
/-- Word k of a number. -/
def wd (x k : Nat) : Nat := x / 18446744073709551616 ^ k % 18446744073709551616
theorem wd_lt (x k : Nat) : wd x k < 18446744073709551616 := Nat.mod_lt _ (by decide)
theorem wd_get (x k : Nat) : (dg 18446744073709551616 x).getD k 0 = wd x k := by rw [dv_getD (by decide) (dg_dgs (by decide) x), dv_dg (by decide)]; rfl
theorem wd_above (x k : Nat) (h : (dg 18446744073709551616 x).length ≤ k) : wd x k = 0 := by
  rw [← wd_get, List.getD_eq_getElem?_getD, List.getElem?_eq_none h]; rfl
end Go.Proofs.Ytakpmlblfdecbaa
namespace Go.Proofs.Ytakpmlblfdecbaa
open Go Go.RowKit
set_option maxRecDepth 100000
set_option linter.unusedVariables false
/-- An address of memory that is new behind w. -/
def Fresh (w : World) (A : Option Addr) : Prop := ∀ ad, A = some ad → w.heap.size ≤ ad.block
theorem Fresh.none_ (w : World) : Fresh w none := fun _ e => by cases e
theorem Fresh.from_ {w w1 : World} {A : Option Addr} (h : Fresh w1 A) (hb : Below w.heap.size w w1) : Fresh w A := fun ad e => Nat.le_trans hb.size (h ad e)
/-- What makes a number says: its words, in new memory. -/
def GivesN2 (w : World) (x : Nat) (e : Ending) (w' : World) : Prop := ∃ (A : Option Addr) (n c : Nat), e = .returned (.agg #[.slice A n c]) ∧ WordsIn w' x A n c ∧ Below w.heap.size w w' ∧ Fresh w A
theorem GivesN2.from_ {w w1 w' : World} {x : Nat} {e : Ending} (h : GivesN2 w1 x e w') (hb : Below w.heap.size w w1) : GivesN2 w x e w' := by
  obtain ⟨A, n, c, he, hn, h3, h4⟩ := h
  exact ⟨A, n, c, he, hn, hb.trans (h3.mono hb.size), h4.from_ hb⟩
/-- The number, laid into a result cell that is not its memory. -/
theorem words_set {w : World} {A : Option Addr} {n c x : Nat} (h : WordsIn w x A n c) {p : Addr} (hp : ∀ ad, A = some ad → ad.block ≠ p.block) (u : Value) : WordsIn (w.setCell p u) x A n c := by
  obtain ⟨hr, h1, h2⟩ := h
  refine ⟨⟨hr.1, fun hn => ?_⟩, h1, h2⟩
  obtain ⟨ad, e, hb, hc⟩ := hr.2 hn
  refine ⟨ad, e, by simpa using hb, fun j v hv => ?_⟩
  refine (World.cell?_setCell_other w p _ u (fun e2 => hp ad e ?_)).trans (hc j v hv)
  have := congrArg Addr.block e2
  rw [block_of_add] at this
  first | exact this | exact this.symm
theorem done_set {w w2 : World} {x n c : Nat} {A : Option Addr} (h : WordsIn w2 x A n c) (hb : Below w.heap.size w w2) {p : Addr} (hp : w.heap.size ≤ p.block) (hA : ∀ ad, A = some ad → ad.block ≠ p.block) (hf : Fresh w A) (u : Value) : GivesN2 w x (.returned (.agg #[.slice A n c])) (w2.setCell p u) :=
  ⟨A, n, c, rfl, words_set h hA u, hb.setCell hp u, hf⟩
end Go.Proofs.Ytakpmlblfdecbaa
