/-
  A natural number as a value: a struct of one slice, the words, without noughts above. Conditions: none beyond each lemma's own.
-/
import Derived.Test.YtonjhcmppiioeaaNat0
namespace Go.Proofs.Ytonjhcmppiioeaa
open Go Go.RowKit
/-- The value v is the number x in the world w. -/
def NatIs (w : World) (x : Nat) (v : Value) : Prop :=
  ∃ (A : Option Addr) (n c : Nat), v = .agg #[.slice A n c] ∧ Reads w w.heap.size 1 A n (vals .u64 (dg 18446744073709551616 x)) ∧ n ≤ c ∧ c ≤ 9223372036854775807
theorem NatIs.below {w w' : World} {x : Nat} {v : Value} (h : NatIs w x v) (hb : Below w.heap.size w w') : NatIs w' x v := by
  obtain ⟨A, n, c, e, hr, h1, h2⟩ := h
  exact ⟨A, n, c, e, (hr.below hb).more hb.size, h1, h2⟩
theorem NatIs.drewN {w : World} {x : Nat} {v : Value} (h : NatIs w x v) (k : Nat) : NatIs (w.drewN k) x v := h
/-- What a call gives back that makes a number. -/
def GivesN (w : World) (x : Nat) (e : Ending) (w' : World) : Prop := ∃ v, e = .returned v ∧ NatIs w' x v ∧ Below w.heap.size w w'
theorem GivesN.from_ {w w1 w' : World} {x : Nat} {e : Ending} (h : GivesN w1 x e w') (hb : Below w.heap.size w w1) : GivesN w x e w' := by
  obtain ⟨v, he, hn, h3⟩ := h
  exact ⟨v, he, hn, hb.trans (h3.mono hb.size)⟩
end Go.Proofs.Ytonjhcmppiioeaa
