/-
  No cell of these rows narrows 'for every input' (looked for: loops, veiled, ifaces, maps, wideKeys, modest, calm, conditions, laid).
  DERIVED. THE GIVEN ROWS OF THIS SEAT. 6 by the template 'for every input the law returns true; each argument reads behind the call as it read before'; 0 by the template 'total and deterministic' (their statements: YtaemlkoklaoglaaTotals.lean).
  GIVEN WITH THE SEED: the statements are not yours to turn. If you find one false, say at which input.
  Laid BY PROGRAM, IN A SANDBOX (cutbox-rows.mjs): the forced cells as the released guide's own fill.sh prints them over the translation 298d138031975e7e… (all of the seat's roots in one cut). By AI agents, Wed Nov 11 2026. No macro, syntax, notation, axiom, sorry.
-/
import Derived.Test.YtaemlkoklaoglaaChecked
import GoSem.Claim
import GoSem.ClaimJoined
import GoSem.ClaimMapViews
import Derived.JoinedTies
import Derived.KernelRfl
namespace Go.Proofs.Ytaemlkoklaoglaa
/- THE CELL 'sum', in the pinned program and in every row, IS THE sha256 OF THE DUMP (.gsa) THAT YtaemlkoklaoglaaProg.lean LOADS. Nothing in Lean hashes anything: it is a label: what it is worth is what the hold of that sum in a sandbox is worth. -/
noncomputable def Try.pinned : Pinned := { name := "ytaemlkoklaoglaa", sum := "298d138031975e7ec9b7fb6c303d1c8a5dc9b6bc8952cf7cfdab3e8b2ee2a56c", checked := Try.checked }
namespace Rows
def none {H : Type} : Left H := { results := [], args := [] }

/-- 'actuarylaw04.QuotDivides': WHATEVER THE INPUT: true; the input reads as it did. -/
def quotDividesSpec : ChangeSpec := { name := "quotDivides", fn := fun _ => fun
  | [d1, d2, d3] => { results := [.lit (.bool true)], args := [d1, d2, d3] }
  | _ => none }
def quotDividesRow : OpenClaim := { program := "ytaemlkoklaoglaa", sum := "298d138031975e7ec9b7fb6c303d1c8a5dc9b6bc8952cf7cfdab3e8b2ee2a56c", func := "actuary/actuarylaw04.QuotDivides", spec := "quotDivides", inPlace := ["math/bits.Add64", "math/bits.Sub64"], unfollowed := true, recurses := true, named := ["math/bits.divideError", "math/bits.overflowError"], apart := false }
def QuotDividesSaid : Prop := quotDividesRow.holds Try.pinned (OpenSpec.ofChange quotDividesSpec)

/-- ITS FALSE NEIGHBOUR: 'it returns false'. Refute it at one input. -/
def quotDividesWrong : ChangeSpec := { name := "quotDivides", fn := fun _ => fun
  | [d1, d2, d3] => { results := [.lit (.bool false)], args := [d1, d2, d3] }
  | _ => none }
def QuotDividesWrongFalsely : Prop := quotDividesRow.holds Try.pinned (OpenSpec.ofChange quotDividesWrong)

/-- 'actuarylaw04.QuotBack': WHATEVER THE INPUT: true; the input reads as it did. -/
def quotBackSpec : ChangeSpec := { name := "quotBack", fn := fun _ => fun
  | [d1, d2] => { results := [.lit (.bool true)], args := [d1, d2] }
  | _ => none }
def quotBackRow : OpenClaim := { program := "ytaemlkoklaoglaa", sum := "298d138031975e7ec9b7fb6c303d1c8a5dc9b6bc8952cf7cfdab3e8b2ee2a56c", func := "actuary/actuarylaw04.QuotBack", spec := "quotBack", inPlace := ["math/bits.Add64", "math/bits.Sub64"], unfollowed := true, recurses := true, named := ["math/bits.divideError", "math/bits.overflowError"], apart := false }
def QuotBackSaid : Prop := quotBackRow.holds Try.pinned (OpenSpec.ofChange quotBackSpec)

/-- ITS FALSE NEIGHBOUR: 'it returns false'. Refute it at one input. -/
def quotBackWrong : ChangeSpec := { name := "quotBack", fn := fun _ => fun
  | [d1, d2] => { results := [.lit (.bool false)], args := [d1, d2] }
  | _ => none }
def QuotBackWrongFalsely : Prop := quotBackRow.holds Try.pinned (OpenSpec.ofChange quotBackWrong)

/-- 'actuarylaw04.QuotMade': WHATEVER THE INPUT: true; the input reads as it did. -/
def quotMadeSpec : ChangeSpec := { name := "quotMade", fn := fun _ => fun
  | [d1, d2, d3] => { results := [.lit (.bool true)], args := [d1, d2, d3] }
  | _ => none }
def quotMadeRow : OpenClaim := { program := "ytaemlkoklaoglaa", sum := "298d138031975e7ec9b7fb6c303d1c8a5dc9b6bc8952cf7cfdab3e8b2ee2a56c", func := "actuary/actuarylaw04.QuotMade", spec := "quotMade", inPlace := ["math/bits.Add64", "math/bits.Sub64"], unfollowed := true, recurses := true, named := ["math/bits.divideError", "math/bits.overflowError"], apart := false }
def QuotMadeSaid : Prop := quotMadeRow.holds Try.pinned (OpenSpec.ofChange quotMadeSpec)

/-- ITS FALSE NEIGHBOUR: 'it returns false'. Refute it at one input. -/
def quotMadeWrong : ChangeSpec := { name := "quotMade", fn := fun _ => fun
  | [d1, d2, d3] => { results := [.lit (.bool false)], args := [d1, d2, d3] }
  | _ => none }
def QuotMadeWrongFalsely : Prop := quotMadeRow.holds Try.pinned (OpenSpec.ofChange quotMadeWrong)

/-- 'actuarylaw04.QuotNear': WHATEVER THE INPUT: true; the input reads as it did. -/
def quotNearSpec : ChangeSpec := { name := "quotNear", fn := fun _ => fun
  | [d1, d2] => { results := [.lit (.bool true)], args := [d1, d2] }
  | _ => none }
def quotNearRow : OpenClaim := { program := "ytaemlkoklaoglaa", sum := "298d138031975e7ec9b7fb6c303d1c8a5dc9b6bc8952cf7cfdab3e8b2ee2a56c", func := "actuary/actuarylaw04.QuotNear", spec := "quotNear", inPlace := ["math/bits.Add64", "math/bits.Sub64"], unfollowed := true, recurses := true, named := ["math/bits.divideError", "math/bits.overflowError"], apart := false }
def QuotNearSaid : Prop := quotNearRow.holds Try.pinned (OpenSpec.ofChange quotNearSpec)

/-- ITS FALSE NEIGHBOUR: 'it returns false'. Refute it at one input. -/
def quotNearWrong : ChangeSpec := { name := "quotNear", fn := fun _ => fun
  | [d1, d2] => { results := [.lit (.bool false)], args := [d1, d2] }
  | _ => none }
def QuotNearWrongFalsely : Prop := quotNearRow.holds Try.pinned (OpenSpec.ofChange quotNearWrong)

/-- 'actuarylaw04.QuotTwice': WHATEVER THE INPUT: true; the input reads as it did. -/
def quotTwiceSpec : ChangeSpec := { name := "quotTwice", fn := fun _ => fun
  | [d1, d2, d3] => { results := [.lit (.bool true)], args := [d1, d2, d3] }
  | _ => none }
def quotTwiceRow : OpenClaim := { program := "ytaemlkoklaoglaa", sum := "298d138031975e7ec9b7fb6c303d1c8a5dc9b6bc8952cf7cfdab3e8b2ee2a56c", func := "actuary/actuarylaw04.QuotTwice", spec := "quotTwice", inPlace := ["math/bits.Add64", "math/bits.Sub64"], unfollowed := true, recurses := true, named := ["math/bits.divideError", "math/bits.overflowError"], apart := false }
def QuotTwiceSaid : Prop := quotTwiceRow.holds Try.pinned (OpenSpec.ofChange quotTwiceSpec)

/-- ITS FALSE NEIGHBOUR: 'it returns false'. Refute it at one input. -/
def quotTwiceWrong : ChangeSpec := { name := "quotTwice", fn := fun _ => fun
  | [d1, d2, d3] => { results := [.lit (.bool false)], args := [d1, d2, d3] }
  | _ => none }
def QuotTwiceWrongFalsely : Prop := quotTwiceRow.holds Try.pinned (OpenSpec.ofChange quotTwiceWrong)

/-- 'actuarylaw04.QuotShifts': WHATEVER THE INPUT: true; the input reads as it did. -/
def quotShiftsSpec : ChangeSpec := { name := "quotShifts", fn := fun _ => fun
  | [d1, d2] => { results := [.lit (.bool true)], args := [d1, d2] }
  | _ => none }
def quotShiftsRow : OpenClaim := { program := "ytaemlkoklaoglaa", sum := "298d138031975e7ec9b7fb6c303d1c8a5dc9b6bc8952cf7cfdab3e8b2ee2a56c", func := "actuary/actuarylaw04.QuotShifts", spec := "quotShifts", inPlace := ["math/bits.Add64", "math/bits.Sub64"], unfollowed := true, recurses := true, named := ["math/bits.divideError", "math/bits.overflowError"], apart := false }
def QuotShiftsSaid : Prop := quotShiftsRow.holds Try.pinned (OpenSpec.ofChange quotShiftsSpec)

/-- ITS FALSE NEIGHBOUR: 'it returns false'. Refute it at one input. -/
def quotShiftsWrong : ChangeSpec := { name := "quotShifts", fn := fun _ => fun
  | [d1, d2] => { results := [.lit (.bool false)], args := [d1, d2] }
  | _ => none }
def QuotShiftsWrongFalsely : Prop := quotShiftsRow.holds Try.pinned (OpenSpec.ofChange quotShiftsWrong)

/- THE SECOND FORM. 'bulk': how many values and letters a reading holds, each counted each time it is reached (what is shared counts as often as it is met; a slice's spare places count too). A statement '..UptoSaid' is the law's where the arguments, and the package variables that the reading takes, are together of bulk at most 1048576: NARROWER than '..Said'. Prove '..Said' where nothing that the law and all that it calls make is longer than what came in: it says more and counts as full. Else prove '..UptoSaid'. A law counts once. -/
mutual
def uptoBulk {H : Type} : DataW H → Nat
  | .lit (.string bytes) => bytes.length + 1
  | .lit _ => 1
  | .nil => 1
  | .ptr d => uptoBulk d + 1
  | .slice elems spare => uptoBulkAll elems + uptoBulkAll spare + 1
  | .agg parts => uptoBulkAll parts + 1
  | .iface _ d => uptoBulk d + 1
  | .map entries => uptoBulkEntries entries + 1
  | .held _ => 1
def uptoBulkAll {H : Type} : List (DataW H) → Nat
  | [] => 0
  | d :: r => uptoBulk d + uptoBulkAll r
def uptoBulkEntries {H : Type} : List (Lit × DataW H) → Nat
  | [] => 0
  | x :: r => uptoBulkEntry x + uptoBulkEntries r
def uptoBulkEntry {H : Type} : Lit × DataW H → Nat
  | (.string bytes, d) => bytes.length + uptoBulk d + 1
  | (_, d) => uptoBulk d + 1
 end
def uptoSmall : (H : Type) → List (DataW H) → Bool := fun _ ds => decide (uptoBulkAll ds ≤ 1048576)
def OpenSpec.upto (s : _root_.Go.ChangeSpec) : _root_.Go.OpenSpec := { _root_.Go.OpenSpec.ofChange s with cond := some uptoSmall }

/-- 'actuarylaw04.QuotDivides', WHERE WHAT IT READS IS OF BULK AT MOST 1048576: true; the input reads as it did. -/
def quotDividesUptoRow : OpenClaim := { program := "ytaemlkoklaoglaa", sum := "298d138031975e7ec9b7fb6c303d1c8a5dc9b6bc8952cf7cfdab3e8b2ee2a56c", func := "actuary/actuarylaw04.QuotDivides", spec := "quotDivides", inPlace := ["math/bits.Add64", "math/bits.Sub64"], unfollowed := true, recurses := true, named := ["math/bits.divideError", "math/bits.overflowError"], apart := false, narrowed := true }
def QuotDividesUptoSaid : Prop := quotDividesUptoRow.holds Try.pinned (OpenSpec.upto quotDividesSpec)

/-- 'actuarylaw04.QuotBack', WHERE WHAT IT READS IS OF BULK AT MOST 1048576: true; the input reads as it did. -/
def quotBackUptoRow : OpenClaim := { program := "ytaemlkoklaoglaa", sum := "298d138031975e7ec9b7fb6c303d1c8a5dc9b6bc8952cf7cfdab3e8b2ee2a56c", func := "actuary/actuarylaw04.QuotBack", spec := "quotBack", inPlace := ["math/bits.Add64", "math/bits.Sub64"], unfollowed := true, recurses := true, named := ["math/bits.divideError", "math/bits.overflowError"], apart := false, narrowed := true }
def QuotBackUptoSaid : Prop := quotBackUptoRow.holds Try.pinned (OpenSpec.upto quotBackSpec)

/-- 'actuarylaw04.QuotMade', WHERE WHAT IT READS IS OF BULK AT MOST 1048576: true; the input reads as it did. -/
def quotMadeUptoRow : OpenClaim := { program := "ytaemlkoklaoglaa", sum := "298d138031975e7ec9b7fb6c303d1c8a5dc9b6bc8952cf7cfdab3e8b2ee2a56c", func := "actuary/actuarylaw04.QuotMade", spec := "quotMade", inPlace := ["math/bits.Add64", "math/bits.Sub64"], unfollowed := true, recurses := true, named := ["math/bits.divideError", "math/bits.overflowError"], apart := false, narrowed := true }
def QuotMadeUptoSaid : Prop := quotMadeUptoRow.holds Try.pinned (OpenSpec.upto quotMadeSpec)

/-- 'actuarylaw04.QuotNear', WHERE WHAT IT READS IS OF BULK AT MOST 1048576: true; the input reads as it did. -/
def quotNearUptoRow : OpenClaim := { program := "ytaemlkoklaoglaa", sum := "298d138031975e7ec9b7fb6c303d1c8a5dc9b6bc8952cf7cfdab3e8b2ee2a56c", func := "actuary/actuarylaw04.QuotNear", spec := "quotNear", inPlace := ["math/bits.Add64", "math/bits.Sub64"], unfollowed := true, recurses := true, named := ["math/bits.divideError", "math/bits.overflowError"], apart := false, narrowed := true }
def QuotNearUptoSaid : Prop := quotNearUptoRow.holds Try.pinned (OpenSpec.upto quotNearSpec)

/-- 'actuarylaw04.QuotTwice', WHERE WHAT IT READS IS OF BULK AT MOST 1048576: true; the input reads as it did. -/
def quotTwiceUptoRow : OpenClaim := { program := "ytaemlkoklaoglaa", sum := "298d138031975e7ec9b7fb6c303d1c8a5dc9b6bc8952cf7cfdab3e8b2ee2a56c", func := "actuary/actuarylaw04.QuotTwice", spec := "quotTwice", inPlace := ["math/bits.Add64", "math/bits.Sub64"], unfollowed := true, recurses := true, named := ["math/bits.divideError", "math/bits.overflowError"], apart := false, narrowed := true }
def QuotTwiceUptoSaid : Prop := quotTwiceUptoRow.holds Try.pinned (OpenSpec.upto quotTwiceSpec)

/-- 'actuarylaw04.QuotShifts', WHERE WHAT IT READS IS OF BULK AT MOST 1048576: true; the input reads as it did. -/
def quotShiftsUptoRow : OpenClaim := { program := "ytaemlkoklaoglaa", sum := "298d138031975e7ec9b7fb6c303d1c8a5dc9b6bc8952cf7cfdab3e8b2ee2a56c", func := "actuary/actuarylaw04.QuotShifts", spec := "quotShifts", inPlace := ["math/bits.Add64", "math/bits.Sub64"], unfollowed := true, recurses := true, named := ["math/bits.divideError", "math/bits.overflowError"], apart := false, narrowed := true }
def QuotShiftsUptoSaid : Prop := quotShiftsUptoRow.holds Try.pinned (OpenSpec.upto quotShiftsSpec)

end Rows
end Go.Proofs.Ytaemlkoklaoglaa
