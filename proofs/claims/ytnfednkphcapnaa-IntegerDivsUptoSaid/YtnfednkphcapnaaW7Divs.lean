/-
  The walk of the law IntegerDivs. Conditions: the words that came in are at most 1048576; integer's functions do as IntC says.
-/
import Derived.Test.YtnfednkphcapnaaRows
import Derived.Test.YtnfednkphcapnaaW7DivsA
import Derived.Test.YtnfednkphcapnaaW7DivsB
import Derived.WalkKit
import Derived.Lib.Hide
import Derived.Outline
import Derived.IntWalk
import Derived.Deep.RegionHeld3
namespace Go.Proofs.Ytnfednkphcapnaa
open Go Go.RowKit
set_option maxRecDepth 100000
set_option linter.unusedVariables false
set_option linter.unusedSimpArgs false
theorem integerDivs_core {T : World → Prop} (hTb : ∀ w w', T w → Below w.heap.size w w' → T w') (IC : IntC T) (s0 : Bool) (A0 : Option Addr) (n0 c0 : Nat) (l0 : List Nat) (s1 : Bool) (A1 : Option Addr) (n1 c1 : Nat) (l1 : List Nat) (w : World) (h0 : ArgWords w A0 n0 c0 l0) (h1 : ArgWords w A1 n1 c1 l1) (hT : T w) :
    Calls Try.prog 4 #[.agg #[.bool s0, .slice A0 n0 c0], .agg #[.bool s1, .slice A1 n1 c1]] w fun e w' => e = .returned (.bool true) ∧ Below w.heap.size w w' := by
  by_cases k0 : n0 ≤ 20
  · by_cases k1 : n1 ≤ 20
    · by_cases hy : zOf s1 l1 = 0
      · exact integerDivs_0 hTb IC s0 A0 n0 c0 l0 s1 A1 n1 c1 l1 w h0 h1 k0 k1 hy hT
      · exact integerDivs_1 hTb IC s0 A0 n0 c0 l0 s1 A1 n1 c1 l1 w h0 h1 k0 k1 hy hT
    · exact integerDivs_l1 hTb IC s0 A0 n0 c0 l0 s1 A1 n1 c1 l1 w h0 h1 k0 (by omega) hT
  · exact integerDivs_l0 hTb IC s0 A0 n0 c0 l0 s1 A1 n1 c1 l1 w h0 h1 (by omega) hT
end Go.Proofs.Ytnfednkphcapnaa
