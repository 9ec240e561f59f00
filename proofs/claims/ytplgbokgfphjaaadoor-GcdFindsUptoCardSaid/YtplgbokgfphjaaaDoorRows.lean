/-
  NARROWER THAN 'FOR EVERY INPUT', by the rows' own cells (each row's printed sentence says how): GcdFinds: laid · GcdGreatest: laid · GcdReduces: laid · GcdLcm: laid · GcdSteps: laid · GcdMany: laid.
  DERIVED. THE GIVEN ROWS OF THIS SEAT. 6 by the template 'for every input the law returns true; each argument reads behind the call as it read before'; 0 by the template 'total and deterministic' (their statements: YtplgbokgfphjaaaDoorTotals.lean).
  GIVEN WITH THE SEED: the statements are not yours to turn. If you find one false, say at which input.
  Laid BY PROGRAM, IN A SANDBOX (cutbox-rows.mjs): the forced cells as the released guide's own fill.sh prints them over the translation fb68c7a2575e4863… (all of the seat's roots in one cut). By AI agents, Wed Nov 11 2026. No macro, syntax, notation, axiom, sorry.
-/
import Derived.Test.YtplgbokgfphjaaaDoorChecked
import GoSem.Claim
import GoSem.ClaimJoined
import GoSem.ClaimMapViews
import Derived.JoinedTies
import Derived.KernelRfl
namespace Go.Proofs.YtplgbokgfphjaaaDoor
/- THE CELL 'sum', in the pinned program and in every row, IS THE sha256 OF THE DUMP (.gsa) THAT YtplgbokgfphjaaaDoorProg.lean LOADS. Nothing in Lean hashes anything: it is a label: what it is worth is what the hold of that sum in a sandbox is worth. -/
noncomputable def Tryd.pinned : Pinned := { name := "ytplgbokgfphjaaadoor", sum := "fb68c7a2575e4863bd1ba59d51a6bc2f1aade653558dd0b53ee0ba474ead1615", checked := Tryd.checked }
namespace Rows
def none {H : Type} : Left H := { results := [], args := [] }

/- WHAT THE LISTED PACKAGE-LEVEL VARIABLES READ AS WHEN THE CALL BEGINS. Each datum BY PROGRAM (the guide's laid-datum.mjs) off the statement by which the dump's own 'gosem.cut.vars' lays the variable. In a bare row this is a premise. The card (YtplgbokgfphjaaaDoorCards.lean) ties it to the program's text. -/
def laid_math_bits_deBruijn64tab {H : Type} : DataW H := .agg [.lit (.int .u8 0), .lit (.int .u8 1), .lit (.int .u8 56), .lit (.int .u8 2), .lit (.int .u8 57), .lit (.int .u8 49), .lit (.int .u8 28), .lit (.int .u8 3), .lit (.int .u8 61), .lit (.int .u8 58), .lit (.int .u8 42), .lit (.int .u8 50), .lit (.int .u8 38), .lit (.int .u8 29), .lit (.int .u8 17), .lit (.int .u8 4), .lit (.int .u8 62), .lit (.int .u8 47), .lit (.int .u8 59), .lit (.int .u8 36), .lit (.int .u8 45), .lit (.int .u8 43), .lit (.int .u8 51), .lit (.int .u8 22), .lit (.int .u8 53), .lit (.int .u8 39), .lit (.int .u8 33), .lit (.int .u8 30), .lit (.int .u8 24), .lit (.int .u8 18), .lit (.int .u8 12), .lit (.int .u8 5), .lit (.int .u8 63), .lit (.int .u8 55), .lit (.int .u8 48), .lit (.int .u8 27), .lit (.int .u8 60), .lit (.int .u8 41), .lit (.int .u8 37), .lit (.int .u8 16), .lit (.int .u8 46), .lit (.int .u8 35), .lit (.int .u8 44), .lit (.int .u8 21), .lit (.int .u8 52), .lit (.int .u8 32), .lit (.int .u8 23), .lit (.int .u8 11), .lit (.int .u8 54), .lit (.int .u8 26), .lit (.int .u8 40), .lit (.int .u8 15), .lit (.int .u8 34), .lit (.int .u8 20), .lit (.int .u8 31), .lit (.int .u8 10), .lit (.int .u8 25), .lit (.int .u8 14), .lit (.int .u8 19), .lit (.int .u8 9), .lit (.int .u8 13), .lit (.int .u8 8), .lit (.int .u8 7), .lit (.int .u8 6)]

/-- 'actuarylaw05.GcdFinds': WHATEVER THE INPUT: true; the input reads as it did. -/
def gcdFindsSpec : ChangeSpec := { name := "gcdFinds", fn := fun _ => fun
  | [d1, d2] => { results := [.lit (.bool true)], args := [d1, d2] }
  | _ => none }
def gcdFindsRow : OpenClaim := { program := "ytplgbokgfphjaaadoor", sum := "fb68c7a2575e4863bd1ba59d51a6bc2f1aade653558dd0b53ee0ba474ead1615", func := "actuary/actuarylaw05.GcdFinds", spec := "gcdFinds", inPlace := ["math/bits.Add64", "math/bits.Sub64"], unfollowed := true, recurses := true, named := ["math/bits.deBruijn64tab", "math/bits.divideError", "math/bits.overflowError"], apart := false, laid := [("math/bits.deBruijn64tab", laid_math_bits_deBruijn64tab)] }
def GcdFindsSaid : Prop := gcdFindsRow.holds Tryd.pinned (OpenSpec.ofChange gcdFindsSpec)

/-- ITS FALSE NEIGHBOUR: 'it returns false'. Refute it at one input. -/
def gcdFindsWrong : ChangeSpec := { name := "gcdFinds", fn := fun _ => fun
  | [d1, d2] => { results := [.lit (.bool false)], args := [d1, d2] }
  | _ => none }
def GcdFindsWrongFalsely : Prop := gcdFindsRow.holds Tryd.pinned (OpenSpec.ofChange gcdFindsWrong)

/-- 'actuarylaw05.GcdGreatest': WHATEVER THE INPUT: true; the input reads as it did. -/
def gcdGreatestSpec : ChangeSpec := { name := "gcdGreatest", fn := fun _ => fun
  | [d1, d2, d3] => { results := [.lit (.bool true)], args := [d1, d2, d3] }
  | _ => none }
def gcdGreatestRow : OpenClaim := { program := "ytplgbokgfphjaaadoor", sum := "fb68c7a2575e4863bd1ba59d51a6bc2f1aade653558dd0b53ee0ba474ead1615", func := "actuary/actuarylaw05.GcdGreatest", spec := "gcdGreatest", inPlace := ["math/bits.Add64", "math/bits.Sub64"], unfollowed := true, recurses := true, named := ["math/bits.deBruijn64tab", "math/bits.divideError", "math/bits.overflowError"], apart := false, laid := [("math/bits.deBruijn64tab", laid_math_bits_deBruijn64tab)] }
def GcdGreatestSaid : Prop := gcdGreatestRow.holds Tryd.pinned (OpenSpec.ofChange gcdGreatestSpec)

/-- ITS FALSE NEIGHBOUR: 'it returns false'. Refute it at one input. -/
def gcdGreatestWrong : ChangeSpec := { name := "gcdGreatest", fn := fun _ => fun
  | [d1, d2, d3] => { results := [.lit (.bool false)], args := [d1, d2, d3] }
  | _ => none }
def GcdGreatestWrongFalsely : Prop := gcdGreatestRow.holds Tryd.pinned (OpenSpec.ofChange gcdGreatestWrong)

/-- 'actuarylaw05.GcdReduces': WHATEVER THE INPUT: true; the input reads as it did. -/
def gcdReducesSpec : ChangeSpec := { name := "gcdReduces", fn := fun _ => fun
  | [d1, d2] => { results := [.lit (.bool true)], args := [d1, d2] }
  | _ => none }
def gcdReducesRow : OpenClaim := { program := "ytplgbokgfphjaaadoor", sum := "fb68c7a2575e4863bd1ba59d51a6bc2f1aade653558dd0b53ee0ba474ead1615", func := "actuary/actuarylaw05.GcdReduces", spec := "gcdReduces", inPlace := ["math/bits.Add64", "math/bits.Sub64"], unfollowed := true, recurses := true, named := ["math/bits.deBruijn64tab", "math/bits.divideError", "math/bits.overflowError"], apart := false, laid := [("math/bits.deBruijn64tab", laid_math_bits_deBruijn64tab)] }
def GcdReducesSaid : Prop := gcdReducesRow.holds Tryd.pinned (OpenSpec.ofChange gcdReducesSpec)

/-- ITS FALSE NEIGHBOUR: 'it returns false'. Refute it at one input. -/
def gcdReducesWrong : ChangeSpec := { name := "gcdReduces", fn := fun _ => fun
  | [d1, d2] => { results := [.lit (.bool false)], args := [d1, d2] }
  | _ => none }
def GcdReducesWrongFalsely : Prop := gcdReducesRow.holds Tryd.pinned (OpenSpec.ofChange gcdReducesWrong)

/-- 'actuarylaw05.GcdLcm': WHATEVER THE INPUT: true; the input reads as it did. -/
def gcdLcmSpec : ChangeSpec := { name := "gcdLcm", fn := fun _ => fun
  | [d1, d2] => { results := [.lit (.bool true)], args := [d1, d2] }
  | _ => none }
def gcdLcmRow : OpenClaim := { program := "ytplgbokgfphjaaadoor", sum := "fb68c7a2575e4863bd1ba59d51a6bc2f1aade653558dd0b53ee0ba474ead1615", func := "actuary/actuarylaw05.GcdLcm", spec := "gcdLcm", inPlace := ["math/bits.Add64", "math/bits.Sub64"], unfollowed := true, recurses := true, named := ["math/bits.deBruijn64tab", "math/bits.divideError", "math/bits.overflowError"], apart := false, laid := [("math/bits.deBruijn64tab", laid_math_bits_deBruijn64tab)] }
def GcdLcmSaid : Prop := gcdLcmRow.holds Tryd.pinned (OpenSpec.ofChange gcdLcmSpec)

/-- ITS FALSE NEIGHBOUR: 'it returns false'. Refute it at one input. -/
def gcdLcmWrong : ChangeSpec := { name := "gcdLcm", fn := fun _ => fun
  | [d1, d2] => { results := [.lit (.bool false)], args := [d1, d2] }
  | _ => none }
def GcdLcmWrongFalsely : Prop := gcdLcmRow.holds Tryd.pinned (OpenSpec.ofChange gcdLcmWrong)

/-- 'actuarylaw05.GcdSteps': WHATEVER THE INPUT: true; the input reads as it did. -/
def gcdStepsSpec : ChangeSpec := { name := "gcdSteps", fn := fun _ => fun
  | [d1, d2] => { results := [.lit (.bool true)], args := [d1, d2] }
  | _ => none }
def gcdStepsRow : OpenClaim := { program := "ytplgbokgfphjaaadoor", sum := "fb68c7a2575e4863bd1ba59d51a6bc2f1aade653558dd0b53ee0ba474ead1615", func := "actuary/actuarylaw05.GcdSteps", spec := "gcdSteps", inPlace := ["math/bits.Add64", "math/bits.Sub64"], unfollowed := true, recurses := true, named := ["math/bits.deBruijn64tab", "math/bits.divideError", "math/bits.overflowError"], apart := false, laid := [("math/bits.deBruijn64tab", laid_math_bits_deBruijn64tab)] }
def GcdStepsSaid : Prop := gcdStepsRow.holds Tryd.pinned (OpenSpec.ofChange gcdStepsSpec)

/-- ITS FALSE NEIGHBOUR: 'it returns false'. Refute it at one input. -/
def gcdStepsWrong : ChangeSpec := { name := "gcdSteps", fn := fun _ => fun
  | [d1, d2] => { results := [.lit (.bool false)], args := [d1, d2] }
  | _ => none }
def GcdStepsWrongFalsely : Prop := gcdStepsRow.holds Tryd.pinned (OpenSpec.ofChange gcdStepsWrong)

/-- 'actuarylaw05.GcdMany': WHATEVER THE INPUT: true; the input reads as it did. -/
def gcdManySpec : ChangeSpec := { name := "gcdMany", fn := fun _ => fun
  | [d] => { results := [.lit (.bool true)], args := [d] }
  | _ => none }
def gcdManyRow : OpenClaim := { program := "ytplgbokgfphjaaadoor", sum := "fb68c7a2575e4863bd1ba59d51a6bc2f1aade653558dd0b53ee0ba474ead1615", func := "actuary/actuarylaw05.GcdMany", spec := "gcdMany", inPlace := ["math/bits.Add64", "math/bits.Sub64"], unfollowed := true, recurses := true, named := ["math/bits.deBruijn64tab", "math/bits.divideError", "math/bits.overflowError"], apart := false, laid := [("math/bits.deBruijn64tab", laid_math_bits_deBruijn64tab)] }
def GcdManySaid : Prop := gcdManyRow.holds Tryd.pinned (OpenSpec.ofChange gcdManySpec)

/-- ITS FALSE NEIGHBOUR: 'it returns false'. Refute it at one input. -/
def gcdManyWrong : ChangeSpec := { name := "gcdMany", fn := fun _ => fun
  | [d] => { results := [.lit (.bool false)], args := [d] }
  | _ => none }
def GcdManyWrongFalsely : Prop := gcdManyRow.holds Tryd.pinned (OpenSpec.ofChange gcdManyWrong)

/- THE SECOND FORM. 'bulk': how many values and letters a reading holds, each counted each time it is reached (what is shared counts as often as it is met; a slice's spare places count too). A statement '..UptoSaid' is the law's where the arguments, and the package variables that the reading takes, are together of bulk at most 1048576: NARROWER than '..Said'. Prove '..Said' where nothing that the law and all that it calls make is longer than what came in: it says more and counts as full. Else prove '..UptoSaid'. A law counts once. -/
mutual
def uptoBulk {H : Type} : DataW H → Nat
  | .lit (.string bytes) => bytes.length + 1
  | .lit _ => 1
  | .nil => 1
  | .ptr d => uptoBulk d + 1
  | .slice elems spare => uptoBulkAll elems + uptoBulkAll spare + 1
  | .agg parts => uptoBulkAll parts + 1
  | .iface _ d => uptoBulk d + 1
  | .map entries => uptoBulkEntries entries + 1
  | .held _ => 1
def uptoBulkAll {H : Type} : List (DataW H) → Nat
  | [] => 0
  | d :: r => uptoBulk d + uptoBulkAll r
def uptoBulkEntries {H : Type} : List (Lit × DataW H) → Nat
  | [] => 0
  | x :: r => uptoBulkEntry x + uptoBulkEntries r
def uptoBulkEntry {H : Type} : Lit × DataW H → Nat
  | (.string bytes, d) => bytes.length + uptoBulk d + 1
  | (_, d) => uptoBulk d + 1
 end
def uptoSmall : (H : Type) → List (DataW H) → Bool := fun _ ds => decide (uptoBulkAll ds ≤ 1048576)
def OpenSpec.upto (s : _root_.Go.ChangeSpec) : _root_.Go.OpenSpec := { _root_.Go.OpenSpec.ofChange s with cond := some uptoSmall }

/-- 'actuarylaw05.GcdFinds', WHERE WHAT IT READS IS OF BULK AT MOST 1048576: true; the input reads as it did. -/
def gcdFindsUptoRow : OpenClaim := { program := "ytplgbokgfphjaaadoor", sum := "fb68c7a2575e4863bd1ba59d51a6bc2f1aade653558dd0b53ee0ba474ead1615", func := "actuary/actuarylaw05.GcdFinds", spec := "gcdFinds", inPlace := ["math/bits.Add64", "math/bits.Sub64"], unfollowed := true, recurses := true, named := ["math/bits.deBruijn64tab", "math/bits.divideError", "math/bits.overflowError"], apart := false, laid := [("math/bits.deBruijn64tab", laid_math_bits_deBruijn64tab)], narrowed := true }
def GcdFindsUptoSaid : Prop := gcdFindsUptoRow.holds Tryd.pinned (OpenSpec.upto gcdFindsSpec)

/-- 'actuarylaw05.GcdGreatest', WHERE WHAT IT READS IS OF BULK AT MOST 1048576: true; the input reads as it did. -/
def gcdGreatestUptoRow : OpenClaim := { program := "ytplgbokgfphjaaadoor", sum := "fb68c7a2575e4863bd1ba59d51a6bc2f1aade653558dd0b53ee0ba474ead1615", func := "actuary/actuarylaw05.GcdGreatest", spec := "gcdGreatest", inPlace := ["math/bits.Add64", "math/bits.Sub64"], unfollowed := true, recurses := true, named := ["math/bits.deBruijn64tab", "math/bits.divideError", "math/bits.overflowError"], apart := false, laid := [("math/bits.deBruijn64tab", laid_math_bits_deBruijn64tab)], narrowed := true }
def GcdGreatestUptoSaid : Prop := gcdGreatestUptoRow.holds Tryd.pinned (OpenSpec.upto gcdGreatestSpec)

/-- 'actuarylaw05.GcdReduces', WHERE WHAT IT READS IS OF BULK AT MOST 1048576: true; the input reads as it did. -/
def gcdReducesUptoRow : OpenClaim := { program := "ytplgbokgfphjaaadoor", sum := "fb68c7a2575e4863bd1ba59d51a6bc2f1aade653558dd0b53ee0ba474ead1615", func := "actuary/actuarylaw05.GcdReduces", spec := "gcdReduces", inPlace := ["math/bits.Add64", "math/bits.Sub64"], unfollowed := true, recurses := true, named := ["math/bits.deBruijn64tab", "math/bits.divideError", "math/bits.overflowError"], apart := false, laid := [("math/bits.deBruijn64tab", laid_math_bits_deBruijn64tab)], narrowed := true }
def GcdReducesUptoSaid : Prop := gcdReducesUptoRow.holds Tryd.pinned (OpenSpec.upto gcdReducesSpec)

/-- 'actuarylaw05.GcdLcm', WHERE WHAT IT READS IS OF BULK AT MOST 1048576: true; the input reads as it did. -/
def gcdLcmUptoRow : OpenClaim := { program := "ytplgbokgfphjaaadoor", sum := "fb68c7a2575e4863bd1ba59d51a6bc2f1aade653558dd0b53ee0ba474ead1615", func := "actuary/actuarylaw05.GcdLcm", spec := "gcdLcm", inPlace := ["math/bits.Add64", "math/bits.Sub64"], unfollowed := true, recurses := true, named := ["math/bits.deBruijn64tab", "math/bits.divideError", "math/bits.overflowError"], apart := false, laid := [("math/bits.deBruijn64tab", laid_math_bits_deBruijn64tab)], narrowed := true }
def GcdLcmUptoSaid : Prop := gcdLcmUptoRow.holds Tryd.pinned (OpenSpec.upto gcdLcmSpec)

/-- 'actuarylaw05.GcdSteps', WHERE WHAT IT READS IS OF BULK AT MOST 1048576: true; the input reads as it did. -/
def gcdStepsUptoRow : OpenClaim := { program := "ytplgbokgfphjaaadoor", sum := "fb68c7a2575e4863bd1ba59d51a6bc2f1aade653558dd0b53ee0ba474ead1615", func := "actuary/actuarylaw05.GcdSteps", spec := "gcdSteps", inPlace := ["math/bits.Add64", "math/bits.Sub64"], unfollowed := true, recurses := true, named := ["math/bits.deBruijn64tab", "math/bits.divideError", "math/bits.overflowError"], apart := false, laid := [("math/bits.deBruijn64tab", laid_math_bits_deBruijn64tab)], narrowed := true }
def GcdStepsUptoSaid : Prop := gcdStepsUptoRow.holds Tryd.pinned (OpenSpec.upto gcdStepsSpec)

/-- 'actuarylaw05.GcdMany', WHERE WHAT IT READS IS OF BULK AT MOST 1048576: true; the input reads as it did. -/
def gcdManyUptoRow : OpenClaim := { program := "ytplgbokgfphjaaadoor", sum := "fb68c7a2575e4863bd1ba59d51a6bc2f1aade653558dd0b53ee0ba474ead1615", func := "actuary/actuarylaw05.GcdMany", spec := "gcdMany", inPlace := ["math/bits.Add64", "math/bits.Sub64"], unfollowed := true, recurses := true, named := ["math/bits.deBruijn64tab", "math/bits.divideError", "math/bits.overflowError"], apart := false, laid := [("math/bits.deBruijn64tab", laid_math_bits_deBruijn64tab)], narrowed := true }
def GcdManyUptoSaid : Prop := gcdManyUptoRow.holds Tryd.pinned (OpenSpec.upto gcdManySpec)

end Rows
end Go.Proofs.YtplgbokgfphjaaaDoor
