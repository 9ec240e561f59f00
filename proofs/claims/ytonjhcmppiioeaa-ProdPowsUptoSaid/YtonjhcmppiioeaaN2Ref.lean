/-
  The reference's numbers of the words that came in; how many digits numbers have. Conditions: none beyond each lemma's own.
-/
import Derived.Test.YtonjhcmppiioeaaRows
import Derived.Test.YtonjhcmppiioeaaN2Args
import Derived.Test.YtonjhcmppiioeaaR2Of
import Derived.WalkKit
import Derived.Lib.Hide
import Derived.Outline
namespace Go.Proofs.Ytonjhcmppiioeaa
open Go Go.RowKit
set_option linter.unusedVariables false
theorem arg_ref2 {w : World} {A : Option Addr} {n c : Nat} {l : List Nat} (h : ArgWords w A n c l) : ∀ w', Below w.heap.size w w' → Calls Try.prog 10 #[.slice A n c] w' (Gives16 w' (dv 18446744073709551616 l)) := fun w' hb =>
  ref2_of A n c l w' ((h.reads.below hb).more hb.size) h.dgs (by have := h.small; have := h.fits; omega)
theorem Sz.len16' {K x : Nat} (h : Sz K x) : (dg 65536 x).length ≤ 4 * K := dg_len_le (by decide) _ _ (by rw [pow_four]; exact h)
theorem Sz.holds' {K x : Nat} (h : Sz K x) {w : World} {A : Option Addr} {n c : Nat} (hw : Holds16 w x A n c) : n ≤ 4 * K := by rw [hw.len]; exact h.len16'
end Go.Proofs.Ytonjhcmppiioeaa
