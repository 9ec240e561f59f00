/-
  No cell of these rows narrows 'for every input' (looked for: loops, veiled, ifaces, maps, wideKeys, modest, calm, conditions, laid).
  DERIVED. THE GIVEN ROWS OF THIS SEAT. 6 by the template 'for every input the law returns true; each argument reads behind the call as it read before'; 0 by the template 'total and deterministic' (their statements: YtonjhcmppiioeaaTotals.lean).
  GIVEN WITH THE SEED: the statements are not yours to turn. If you find one false, say at which input.
  Laid BY PROGRAM, IN A SANDBOX (cutbox-rows.mjs): the forced cells as the released guide's own fill.sh prints them over the translation 9ff2a69a042901bf… (all of the seat's roots in one cut). By AI agents, Wed Nov 11 2026. No macro, syntax, notation, axiom, sorry.
-/
import Derived.Test.YtonjhcmppiioeaaChecked
import GoSem.Claim
import GoSem.ClaimJoined
import GoSem.ClaimMapViews
import Derived.JoinedTies
import Derived.KernelRfl
namespace Go.Proofs.Ytonjhcmppiioeaa
/- THE CELL 'sum', in the pinned program and in every row, IS THE sha256 OF THE DUMP (.gsa) THAT YtonjhcmppiioeaaProg.lean LOADS. Nothing in Lean hashes anything: it is a label: what it is worth is what the hold of that sum in a sandbox is worth. -/
noncomputable def Try.pinned : Pinned := { name := "ytonjhcmppiioeaa", sum := "9ff2a69a042901bfb2b429b765f04ae63bcd534f3c75fd6dc67b9612522fb907", checked := Try.checked }
namespace Rows
def none {H : Type} : Left H := { results := [], args := [] }

/-- 'actuarylaw03.ProdMuls': WHATEVER THE INPUT: true; the input reads as it did. -/
def prodMulsSpec : ChangeSpec := { name := "prodMuls", fn := fun _ => fun
  | [d1, d2, d3, d4] => { results := [.lit (.bool true)], args := [d1, d2, d3, d4] }
  | _ => none }
def prodMulsRow : OpenClaim := { program := "ytonjhcmppiioeaa", sum := "9ff2a69a042901bfb2b429b765f04ae63bcd534f3c75fd6dc67b9612522fb907", func := "actuary/actuarylaw03.ProdMuls", spec := "prodMuls", inPlace := ["math/bits.Add64"], apart := false }
def ProdMulsSaid : Prop := prodMulsRow.holds Try.pinned (OpenSpec.ofChange prodMulsSpec)

/-- ITS FALSE NEIGHBOUR: 'it returns false'. Refute it at one input. -/
def prodMulsWrong : ChangeSpec := { name := "prodMuls", fn := fun _ => fun
  | [d1, d2, d3, d4] => { results := [.lit (.bool false)], args := [d1, d2, d3, d4] }
  | _ => none }
def ProdMulsWrongFalsely : Prop := prodMulsRow.holds Try.pinned (OpenSpec.ofChange prodMulsWrong)

/-- 'actuarylaw03.ProdPows': WHATEVER THE INPUT: true; the input reads as it did. -/
def prodPowsSpec : ChangeSpec := { name := "prodPows", fn := fun _ => fun
  | [d1, d2] => { results := [.lit (.bool true)], args := [d1, d2] }
  | _ => none }
def prodPowsRow : OpenClaim := { program := "ytonjhcmppiioeaa", sum := "9ff2a69a042901bfb2b429b765f04ae63bcd534f3c75fd6dc67b9612522fb907", func := "actuary/actuarylaw03.ProdPows", spec := "prodPows", inPlace := ["math/bits.Add64"], apart := false }
def ProdPowsSaid : Prop := prodPowsRow.holds Try.pinned (OpenSpec.ofChange prodPowsSpec)

/-- ITS FALSE NEIGHBOUR: 'it returns false'. Refute it at one input. -/
def prodPowsWrong : ChangeSpec := { name := "prodPows", fn := fun _ => fun
  | [d1, d2] => { results := [.lit (.bool false)], args := [d1, d2] }
  | _ => none }
def ProdPowsWrongFalsely : Prop := prodPowsRow.holds Try.pinned (OpenSpec.ofChange prodPowsWrong)

/-- 'actuarylaw03.ProdTurns': WHATEVER THE INPUT: true; the input reads as it did. -/
def prodTurnsSpec : ChangeSpec := { name := "prodTurns", fn := fun _ => fun
  | [d1, d2, d3] => { results := [.lit (.bool true)], args := [d1, d2, d3] }
  | _ => none }
def prodTurnsRow : OpenClaim := { program := "ytonjhcmppiioeaa", sum := "9ff2a69a042901bfb2b429b765f04ae63bcd534f3c75fd6dc67b9612522fb907", func := "actuary/actuarylaw03.ProdTurns", spec := "prodTurns", inPlace := ["math/bits.Add64"], apart := false }
def ProdTurnsSaid : Prop := prodTurnsRow.holds Try.pinned (OpenSpec.ofChange prodTurnsSpec)

/-- ITS FALSE NEIGHBOUR: 'it returns false'. Refute it at one input. -/
def prodTurnsWrong : ChangeSpec := { name := "prodTurns", fn := fun _ => fun
  | [d1, d2, d3] => { results := [.lit (.bool false)], args := [d1, d2, d3] }
  | _ => none }
def ProdTurnsWrongFalsely : Prop := prodTurnsRow.holds Try.pinned (OpenSpec.ofChange prodTurnsWrong)

/-- 'actuarylaw03.ProdSpreads': WHATEVER THE INPUT: true; the input reads as it did. -/
def prodSpreadsSpec : ChangeSpec := { name := "prodSpreads", fn := fun _ => fun
  | [d1, d2, d3] => { results := [.lit (.bool true)], args := [d1, d2, d3] }
  | _ => none }
def prodSpreadsRow : OpenClaim := { program := "ytonjhcmppiioeaa", sum := "9ff2a69a042901bfb2b429b765f04ae63bcd534f3c75fd6dc67b9612522fb907", func := "actuary/actuarylaw03.ProdSpreads", spec := "prodSpreads", inPlace := ["math/bits.Add64"], apart := false }
def ProdSpreadsSaid : Prop := prodSpreadsRow.holds Try.pinned (OpenSpec.ofChange prodSpreadsSpec)

/-- ITS FALSE NEIGHBOUR: 'it returns false'. Refute it at one input. -/
def prodSpreadsWrong : ChangeSpec := { name := "prodSpreads", fn := fun _ => fun
  | [d1, d2, d3] => { results := [.lit (.bool false)], args := [d1, d2, d3] }
  | _ => none }
def ProdSpreadsWrongFalsely : Prop := prodSpreadsRow.holds Try.pinned (OpenSpec.ofChange prodSpreadsWrong)

/-- 'actuarylaw03.ProdBits': WHATEVER THE INPUT: true; the input reads as it did. -/
def prodBitsSpec : ChangeSpec := { name := "prodBits", fn := fun _ => fun
  | [d1, d2] => { results := [.lit (.bool true)], args := [d1, d2] }
  | _ => none }
def prodBitsRow : OpenClaim := { program := "ytonjhcmppiioeaa", sum := "9ff2a69a042901bfb2b429b765f04ae63bcd534f3c75fd6dc67b9612522fb907", func := "actuary/actuarylaw03.ProdBits", spec := "prodBits", inPlace := ["math/bits.Add64"], apart := false }
def ProdBitsSaid : Prop := prodBitsRow.holds Try.pinned (OpenSpec.ofChange prodBitsSpec)

/-- ITS FALSE NEIGHBOUR: 'it returns false'. Refute it at one input. -/
def prodBitsWrong : ChangeSpec := { name := "prodBits", fn := fun _ => fun
  | [d1, d2] => { results := [.lit (.bool false)], args := [d1, d2] }
  | _ => none }
def ProdBitsWrongFalsely : Prop := prodBitsRow.holds Try.pinned (OpenSpec.ofChange prodBitsWrong)

/-- 'actuarylaw03.ProdMany': WHATEVER THE INPUT: true; the input reads as it did. -/
def prodManySpec : ChangeSpec := { name := "prodMany", fn := fun _ => fun
  | [d] => { results := [.lit (.bool true)], args := [d] }
  | _ => none }
def prodManyRow : OpenClaim := { program := "ytonjhcmppiioeaa", sum := "9ff2a69a042901bfb2b429b765f04ae63bcd534f3c75fd6dc67b9612522fb907", func := "actuary/actuarylaw03.ProdMany", spec := "prodMany", inPlace := ["math/bits.Add64"], apart := false }
def ProdManySaid : Prop := prodManyRow.holds Try.pinned (OpenSpec.ofChange prodManySpec)

/-- ITS FALSE NEIGHBOUR: 'it returns false'. Refute it at one input. -/
def prodManyWrong : ChangeSpec := { name := "prodMany", fn := fun _ => fun
  | [d] => { results := [.lit (.bool false)], args := [d] }
  | _ => none }
def ProdManyWrongFalsely : Prop := prodManyRow.holds Try.pinned (OpenSpec.ofChange prodManyWrong)

/- THE SECOND FORM. 'bulk': how many values and letters a reading holds, each counted each time it is reached (what is shared counts as often as it is met; a slice's spare places count too). A statement '..UptoSaid' is the law's where the arguments, and the package variables that the reading takes, are together of bulk at most 1048576: NARROWER than '..Said'. Prove '..Said' where nothing that the law and all that it calls make is longer than what came in: it says more and counts as full. Else prove '..UptoSaid'. A law counts once. -/
mutual
def uptoBulk {H : Type} : DataW H → Nat
  | .lit (.string bytes) => bytes.length + 1
  | .lit _ => 1
  | .nil => 1
  | .ptr d => uptoBulk d + 1
  | .slice elems spare => uptoBulkAll elems + uptoBulkAll spare + 1
  | .agg parts => uptoBulkAll parts + 1
  | .iface _ d => uptoBulk d + 1
  | .map entries => uptoBulkEntries entries + 1
  | .held _ => 1
def uptoBulkAll {H : Type} : List (DataW H) → Nat
  | [] => 0
  | d :: r => uptoBulk d + uptoBulkAll r
def uptoBulkEntries {H : Type} : List (Lit × DataW H) → Nat
  | [] => 0
  | x :: r => uptoBulkEntry x + uptoBulkEntries r
def uptoBulkEntry {H : Type} : Lit × DataW H → Nat
  | (.string bytes, d) => bytes.length + uptoBulk d + 1
  | (_, d) => uptoBulk d + 1
 end
def uptoSmall : (H : Type) → List (DataW H) → Bool := fun _ ds => decide (uptoBulkAll ds ≤ 1048576)
def OpenSpec.upto (s : _root_.Go.ChangeSpec) : _root_.Go.OpenSpec := { _root_.Go.OpenSpec.ofChange s with cond := some uptoSmall }

/-- 'actuarylaw03.ProdMuls', WHERE WHAT IT READS IS OF BULK AT MOST 1048576: true; the input reads as it did. -/
def prodMulsUptoRow : OpenClaim := { program := "ytonjhcmppiioeaa", sum := "9ff2a69a042901bfb2b429b765f04ae63bcd534f3c75fd6dc67b9612522fb907", func := "actuary/actuarylaw03.ProdMuls", spec := "prodMuls", inPlace := ["math/bits.Add64"], apart := false, narrowed := true }
def ProdMulsUptoSaid : Prop := prodMulsUptoRow.holds Try.pinned (OpenSpec.upto prodMulsSpec)

/-- 'actuarylaw03.ProdPows', WHERE WHAT IT READS IS OF BULK AT MOST 1048576: true; the input reads as it did. -/
def prodPowsUptoRow : OpenClaim := { program := "ytonjhcmppiioeaa", sum := "9ff2a69a042901bfb2b429b765f04ae63bcd534f3c75fd6dc67b9612522fb907", func := "actuary/actuarylaw03.ProdPows", spec := "prodPows", inPlace := ["math/bits.Add64"], apart := false, narrowed := true }
def ProdPowsUptoSaid : Prop := prodPowsUptoRow.holds Try.pinned (OpenSpec.upto prodPowsSpec)

/-- 'actuarylaw03.ProdTurns', WHERE WHAT IT READS IS OF BULK AT MOST 1048576: true; the input reads as it did. -/
def prodTurnsUptoRow : OpenClaim := { program := "ytonjhcmppiioeaa", sum := "9ff2a69a042901bfb2b429b765f04ae63bcd534f3c75fd6dc67b9612522fb907", func := "actuary/actuarylaw03.ProdTurns", spec := "prodTurns", inPlace := ["math/bits.Add64"], apart := false, narrowed := true }
def ProdTurnsUptoSaid : Prop := prodTurnsUptoRow.holds Try.pinned (OpenSpec.upto prodTurnsSpec)

/-- 'actuarylaw03.ProdSpreads', WHERE WHAT IT READS IS OF BULK AT MOST 1048576: true; the input reads as it did. -/
def prodSpreadsUptoRow : OpenClaim := { program := "ytonjhcmppiioeaa", sum := "9ff2a69a042901bfb2b429b765f04ae63bcd534f3c75fd6dc67b9612522fb907", func := "actuary/actuarylaw03.ProdSpreads", spec := "prodSpreads", inPlace := ["math/bits.Add64"], apart := false, narrowed := true }
def ProdSpreadsUptoSaid : Prop := prodSpreadsUptoRow.holds Try.pinned (OpenSpec.upto prodSpreadsSpec)

/-- 'actuarylaw03.ProdBits', WHERE WHAT IT READS IS OF BULK AT MOST 1048576: true; the input reads as it did. -/
def prodBitsUptoRow : OpenClaim := { program := "ytonjhcmppiioeaa", sum := "9ff2a69a042901bfb2b429b765f04ae63bcd534f3c75fd6dc67b9612522fb907", func := "actuary/actuarylaw03.ProdBits", spec := "prodBits", inPlace := ["math/bits.Add64"], apart := false, narrowed := true }
def ProdBitsUptoSaid : Prop := prodBitsUptoRow.holds Try.pinned (OpenSpec.upto prodBitsSpec)

/-- 'actuarylaw03.ProdMany', WHERE WHAT IT READS IS OF BULK AT MOST 1048576: true; the input reads as it did. -/
def prodManyUptoRow : OpenClaim := { program := "ytonjhcmppiioeaa", sum := "9ff2a69a042901bfb2b429b765f04ae63bcd534f3c75fd6dc67b9612522fb907", func := "actuary/actuarylaw03.ProdMany", spec := "prodMany", inPlace := ["math/bits.Add64"], apart := false, narrowed := true }
def ProdManyUptoSaid : Prop := prodManyUptoRow.holds Try.pinned (OpenSpec.upto prodManySpec)

end Rows
end Go.Proofs.Ytonjhcmppiioeaa
