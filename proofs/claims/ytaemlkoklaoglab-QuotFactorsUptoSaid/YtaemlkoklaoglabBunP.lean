/-
  The reference's numbers of the words that came in; how many digits numbers have. Conditions: none beyond each lemma's own.
  The contract of the law's Like (actuarylaw02): is a number the reference's? Conditions: both are one number; lengths up to 2 to the 40.
-/
import Derived.Test.YtaemlkoklaoglabRows
import Derived.Test.YtaemlkoklaoglabN2Args
import Derived.Test.YtaemlkoklaoglabBunR
import Derived.Test.YtaemlkoklaoglabNDig
import Derived.WalkKit
import Derived.Lib.Hide
import Derived.Outline
namespace Go.Proofs.Ytaemlkoklaoglab
open Go Go.RowKit
set_option linter.unusedVariables false
theorem Sz.len16' {K x : Nat} (h : Sz K x) : (dg 65536 x).length ≤ 4 * K := dg_len_le (by decide) _ _ (by rw [pow_four]; exact h)
theorem Sz.holds' {K x : Nat} (h : Sz K x) {w : World} {A : Option Addr} {n c : Nat} (hw : Holds16 w x A n c) : n ≤ 4 * K := by rw [hw.len]; exact h.len16'
end Go.Proofs.Ytaemlkoklaoglab
namespace Go.Proofs.Ytaemlkoklaoglab
open Go Go.RowKit
set_option maxRecDepth 100000
set_option linter.unusedVariables false
def SaysYes (w : World) (e : Ending) (w' : World) : Prop := e = .returned (.bool true) ∧ Below w.heap.size w w'
end Go.Proofs.Ytaemlkoklaoglab
