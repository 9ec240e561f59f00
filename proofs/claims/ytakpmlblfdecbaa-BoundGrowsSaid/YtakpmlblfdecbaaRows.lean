/-
  No cell of these rows narrows 'for every input' (looked for: loops, veiled, ifaces, maps, wideKeys, modest, calm, conditions, laid).
  DERIVED. THE GIVEN ROWS OF THIS SEAT. 4 by the template 'for every input the law returns true; each argument reads behind the call as it read before'; 0 by the template 'total and deterministic' (their statements: YtakpmlblfdecbaaTotals.lean).
  GIVEN WITH THE SEED: the statements are not yours to turn. If you find one false, say at which input.
  Laid BY PROGRAM, IN A SANDBOX (cutbox-rows.mjs): the forced cells as the released guide's own fill.sh prints them over the translation e45f36f41a2eefc5… (all of the seat's roots in one cut). By AI agents, Wed Nov 11 2026. No macro, syntax, notation, axiom, sorry.
-/
import Derived.Test.YtakpmlblfdecbaaChecked
import GoSem.Claim
import GoSem.ClaimJoined
import GoSem.ClaimMapViews
import Derived.JoinedTies
import Derived.KernelRfl
namespace Go.Proofs.Ytakpmlblfdecbaa
/- THE CELL 'sum', in the pinned program and in every row, IS THE sha256 OF THE DUMP (.gsa) THAT YtakpmlblfdecbaaProg.lean LOADS. Nothing in Lean hashes anything: it is a label: what it is worth is what the hold of that sum in a sandbox is worth. -/
noncomputable def Try.pinned : Pinned := { name := "ytakpmlblfdecbaa", sum := "e45f36f41a2eefc5bf1ab5c9361480190dc1ee7357c6bbe93086c4252acd2f8e", checked := Try.checked }
namespace Rows
def none {H : Type} : Left H := { results := [], args := [] }

/-- 'actuarylaw15.BoundTells': WHATEVER THE INPUT: true; the input reads as it did. -/
def boundTellsSpec : ChangeSpec := { name := "boundTells", fn := fun _ => fun
  | [d1, d2] => { results := [.lit (.bool true)], args := [d1, d2] }
  | _ => none }
def boundTellsRow : OpenClaim := { program := "ytakpmlblfdecbaa", sum := "e45f36f41a2eefc5bf1ab5c9361480190dc1ee7357c6bbe93086c4252acd2f8e", func := "actuary/actuarylaw15.BoundTells", spec := "boundTells", named := ["math/bits.divideError", "math/bits.overflowError"], apart := false }
def BoundTellsSaid : Prop := boundTellsRow.holds Try.pinned (OpenSpec.ofChange boundTellsSpec)

/-- ITS FALSE NEIGHBOUR: 'it returns false'. Refute it at one input. -/
def boundTellsWrong : ChangeSpec := { name := "boundTells", fn := fun _ => fun
  | [d1, d2] => { results := [.lit (.bool false)], args := [d1, d2] }
  | _ => none }
def BoundTellsWrongFalsely : Prop := boundTellsRow.holds Try.pinned (OpenSpec.ofChange boundTellsWrong)

/-- 'actuarylaw15.BoundBases': WHATEVER THE INPUT: true; the input reads as it did. -/
def boundBasesSpec : ChangeSpec := { name := "boundBases", fn := fun _ => fun
  | [d1, d2, d3] => { results := [.lit (.bool true)], args := [d1, d2, d3] }
  | _ => none }
def boundBasesRow : OpenClaim := { program := "ytakpmlblfdecbaa", sum := "e45f36f41a2eefc5bf1ab5c9361480190dc1ee7357c6bbe93086c4252acd2f8e", func := "actuary/actuarylaw15.BoundBases", spec := "boundBases", named := ["math/bits.divideError", "math/bits.overflowError"], apart := false }
def BoundBasesSaid : Prop := boundBasesRow.holds Try.pinned (OpenSpec.ofChange boundBasesSpec)

/-- ITS FALSE NEIGHBOUR: 'it returns false'. Refute it at one input. -/
def boundBasesWrong : ChangeSpec := { name := "boundBases", fn := fun _ => fun
  | [d1, d2, d3] => { results := [.lit (.bool false)], args := [d1, d2, d3] }
  | _ => none }
def BoundBasesWrongFalsely : Prop := boundBasesRow.holds Try.pinned (OpenSpec.ofChange boundBasesWrong)

/-- 'actuarylaw15.BoundGrows': WHATEVER THE INPUT: true; the input reads as it did. -/
def boundGrowsSpec : ChangeSpec := { name := "boundGrows", fn := fun _ => fun
  | [d1, d2] => { results := [.lit (.bool true)], args := [d1, d2] }
  | _ => none }
def boundGrowsRow : OpenClaim := { program := "ytakpmlblfdecbaa", sum := "e45f36f41a2eefc5bf1ab5c9361480190dc1ee7357c6bbe93086c4252acd2f8e", func := "actuary/actuarylaw15.BoundGrows", spec := "boundGrows", named := ["math/bits.divideError", "math/bits.overflowError"], apart := false }
def BoundGrowsSaid : Prop := boundGrowsRow.holds Try.pinned (OpenSpec.ofChange boundGrowsSpec)

/-- ITS FALSE NEIGHBOUR: 'it returns false'. Refute it at one input. -/
def boundGrowsWrong : ChangeSpec := { name := "boundGrows", fn := fun _ => fun
  | [d1, d2] => { results := [.lit (.bool false)], args := [d1, d2] }
  | _ => none }
def BoundGrowsWrongFalsely : Prop := boundGrowsRow.holds Try.pinned (OpenSpec.ofChange boundGrowsWrong)

/-- 'actuarylaw15.BoundPascal': WHATEVER THE INPUT: true; the input reads as it did. -/
def boundPascalSpec : ChangeSpec := { name := "boundPascal", fn := fun _ => fun
  | [d1, d2] => { results := [.lit (.bool true)], args := [d1, d2] }
  | _ => none }
def boundPascalRow : OpenClaim := { program := "ytakpmlblfdecbaa", sum := "e45f36f41a2eefc5bf1ab5c9361480190dc1ee7357c6bbe93086c4252acd2f8e", func := "actuary/actuarylaw15.BoundPascal", spec := "boundPascal", named := ["math/bits.divideError", "math/bits.overflowError"], apart := false }
def BoundPascalSaid : Prop := boundPascalRow.holds Try.pinned (OpenSpec.ofChange boundPascalSpec)

/-- ITS FALSE NEIGHBOUR: 'it returns false'. Refute it at one input. -/
def boundPascalWrong : ChangeSpec := { name := "boundPascal", fn := fun _ => fun
  | [d1, d2] => { results := [.lit (.bool false)], args := [d1, d2] }
  | _ => none }
def BoundPascalWrongFalsely : Prop := boundPascalRow.holds Try.pinned (OpenSpec.ofChange boundPascalWrong)

/- THE SECOND FORM. 'bulk': how many values and letters a reading holds, each counted each time it is reached (what is shared counts as often as it is met; a slice's spare places count too). A statement '..UptoSaid' is the law's where the arguments, and the package variables that the reading takes, are together of bulk at most 1048576: NARROWER than '..Said'. Prove '..Said' where nothing that the law and all that it calls make is longer than what came in: it says more and counts as full. Else prove '..UptoSaid'. A law counts once. -/
mutual
def uptoBulk {H : Type} : DataW H → Nat
  | .lit (.string bytes) => bytes.length + 1
  | .lit _ => 1
  | .nil => 1
  | .ptr d => uptoBulk d + 1
  | .slice elems spare => uptoBulkAll elems + uptoBulkAll spare + 1
  | .agg parts => uptoBulkAll parts + 1
  | .iface _ d => uptoBulk d + 1
  | .map entries => uptoBulkEntries entries + 1
  | .held _ => 1
def uptoBulkAll {H : Type} : List (DataW H) → Nat
  | [] => 0
  | d :: r => uptoBulk d + uptoBulkAll r
def uptoBulkEntries {H : Type} : List (Lit × DataW H) → Nat
  | [] => 0
  | x :: r => uptoBulkEntry x + uptoBulkEntries r
def uptoBulkEntry {H : Type} : Lit × DataW H → Nat
  | (.string bytes, d) => bytes.length + uptoBulk d + 1
  | (_, d) => uptoBulk d + 1
 end
def uptoSmall : (H : Type) → List (DataW H) → Bool := fun _ ds => decide (uptoBulkAll ds ≤ 1048576)
def OpenSpec.upto (s : _root_.Go.ChangeSpec) : _root_.Go.OpenSpec := { _root_.Go.OpenSpec.ofChange s with cond := some uptoSmall }

/-- 'actuarylaw15.BoundTells', WHERE WHAT IT READS IS OF BULK AT MOST 1048576: true; the input reads as it did. -/
def boundTellsUptoRow : OpenClaim := { program := "ytakpmlblfdecbaa", sum := "e45f36f41a2eefc5bf1ab5c9361480190dc1ee7357c6bbe93086c4252acd2f8e", func := "actuary/actuarylaw15.BoundTells", spec := "boundTells", named := ["math/bits.divideError", "math/bits.overflowError"], apart := false, narrowed := true }
def BoundTellsUptoSaid : Prop := boundTellsUptoRow.holds Try.pinned (OpenSpec.upto boundTellsSpec)

/-- 'actuarylaw15.BoundBases', WHERE WHAT IT READS IS OF BULK AT MOST 1048576: true; the input reads as it did. -/
def boundBasesUptoRow : OpenClaim := { program := "ytakpmlblfdecbaa", sum := "e45f36f41a2eefc5bf1ab5c9361480190dc1ee7357c6bbe93086c4252acd2f8e", func := "actuary/actuarylaw15.BoundBases", spec := "boundBases", named := ["math/bits.divideError", "math/bits.overflowError"], apart := false, narrowed := true }
def BoundBasesUptoSaid : Prop := boundBasesUptoRow.holds Try.pinned (OpenSpec.upto boundBasesSpec)

/-- 'actuarylaw15.BoundGrows', WHERE WHAT IT READS IS OF BULK AT MOST 1048576: true; the input reads as it did. -/
def boundGrowsUptoRow : OpenClaim := { program := "ytakpmlblfdecbaa", sum := "e45f36f41a2eefc5bf1ab5c9361480190dc1ee7357c6bbe93086c4252acd2f8e", func := "actuary/actuarylaw15.BoundGrows", spec := "boundGrows", named := ["math/bits.divideError", "math/bits.overflowError"], apart := false, narrowed := true }
def BoundGrowsUptoSaid : Prop := boundGrowsUptoRow.holds Try.pinned (OpenSpec.upto boundGrowsSpec)

/-- 'actuarylaw15.BoundPascal', WHERE WHAT IT READS IS OF BULK AT MOST 1048576: true; the input reads as it did. -/
def boundPascalUptoRow : OpenClaim := { program := "ytakpmlblfdecbaa", sum := "e45f36f41a2eefc5bf1ab5c9361480190dc1ee7357c6bbe93086c4252acd2f8e", func := "actuary/actuarylaw15.BoundPascal", spec := "boundPascal", named := ["math/bits.divideError", "math/bits.overflowError"], apart := false, narrowed := true }
def BoundPascalUptoSaid : Prop := boundPascalUptoRow.holds Try.pinned (OpenSpec.upto boundPascalSpec)

end Rows
end Go.Proofs.Ytakpmlblfdecbaa
