/-
  TrailingZeros64's table, as its initialiser lays it. Conditions: none.
-/
import Derived.Test.YtonjhcmppiioeaaDoorRows
import Derived.Test.YtonjhcmppiioeaaDoorWd0
import Derived.WalkKit
import Derived.Lib.Hide
import Derived.Outline
import Derived.Deep.Draws
namespace Go.Proofs.YtonjhcmppiioeaaDoor
open Go Go.RowKit
/-- TrailingZeros64's table, as its initialiser lays it: what the listed variable gives. -/
def TabAt (w : World) : Prop := ∀ j, j < Lib.deBruijn64tab.length → w.cell? ⟨0, j, none⟩ = some (.int .u8 (Lib.deBruijn64tab.getD j 0 : Nat))
theorem TabAt.below {B : Nat} {w w' : World} (h : TabAt w) (hb : Below B w w') (hB : 0 < B) : TabAt w' := fun j hj => (hb.cell (p := ⟨0, j, none⟩) hB).trans (h j hj)
theorem TabAt.drewN {w : World} (h : TabAt w) (n : Nat) : TabAt (w.drewN n) := h
theorem TabAt.on {w w' : World} (h : TabAt w) (hb : Below w.heap.size w w') : TabAt w' := h.below hb (by
  have := h 0 (by decide)
  exact World.block_lt_of_cell? w _ this)
end Go.Proofs.YtonjhcmppiioeaaDoor
