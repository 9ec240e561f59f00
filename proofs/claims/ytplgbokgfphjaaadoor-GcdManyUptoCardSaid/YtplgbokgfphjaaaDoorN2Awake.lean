/-
  The contract of the law's awake (actuarylaw02): the document's examples are told. Conditions: none.
-/
import Derived.Test.YtplgbokgfphjaaaDoorRows
import Derived.Test.YtplgbokgfphjaaaDoorBunV
import Derived.Test.YtplgbokgfphjaaaDoorNSub
import Derived.Test.YtplgbokgfphjaaaDoorBunS
import Derived.WalkKit
import Derived.Lib.Hide
import Derived.Outline
namespace Go.Proofs.YtplgbokgfphjaaaDoor
open Go Go.RowKit
set_option maxRecDepth 100000
set_option linter.unusedVariables false
def SaysYesA (w : World) (e : Ending) (w' : World) : Prop := e = .returned (.bool true) ∧ Below w.heap.size w w'
theorem x1_dg : dg 18446744073709551616 36893488147419103233 = [1, 2] := dg_two (a := 1) (b := 2) (by decide) (by decide) (by decide)
theorem x1_half : dg 18446744073709551616 (36893488147419103233 / 2 ^ 1) = [0, 1] := dg_two (a := 0) (b := 1) (by decide) (by decide) (by decide)
theorem x1_bits : bitLen 36893488147419103233 = 66 := by decide +kernel
theorem x3_bits : bitLen 129127208515966861317 = 67 := by decide +kernel
theorem x3_low : dg 18446744073709551616 (129127208515966861317 % 2 ^ 65) = [5, 1] := dg_two (a := 5) (b := 1) (by decide) (by decide) (by decide)
theorem x2_dg : dg 18446744073709551616 (18446744073709551616 - 1) = [18446744073709551615] := dg_one (a := 18446744073709551615) (by decide) (by decide)
theorem x1_word : wd 36893488147419103233 1 = 2 := by decide +kernel
theorem b_dg : dg 18446744073709551616 18446744073709551616 = [0, 1] := dg_two (a := 0) (b := 1) (by decide) (by decide) (by decide)
theorem x3_dg : dg 18446744073709551616 129127208515966861317 = [5, 7] := dg_two (a := 5) (b := 7) (by decide) (by decide) (by decide)
end Go.Proofs.YtplgbokgfphjaaaDoor
