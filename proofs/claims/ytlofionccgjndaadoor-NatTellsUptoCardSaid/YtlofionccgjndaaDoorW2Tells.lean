/-
  The walk of the law NatTells. Conditions: the words that came in are words, at most 1048576 of them; k is an int; TrailingZeros64's table reads as its initialiser lays it.
-/
import Derived.Test.YtlofionccgjndaaDoorRows
import Derived.Test.YtlofionccgjndaaDoorW2TellsNeg
import Derived.Test.YtlofionccgjndaaDoorW2TellsInn
import Derived.Test.YtlofionccgjndaaDoorW2TellsOut
import Derived.WalkKit
namespace Go.Proofs.YtlofionccgjndaaDoor
open Go Go.RowKit
theorem natTells_walk (A0 : Option Addr) (n0 c0 : Nat) (l0 : List Nat) (a1 : Int) (w : World) (h0 : ArgWords w A0 n0 c0 l0) (h1 : -9223372036854775808 ≤ a1 ∧ a1 ≤ 9223372036854775807) (hT : TabAt w) :
    Calls Tryd.prog 3 #[.slice A0 n0 c0, .int .i64 a1] w fun e w' => e = .returned (.bool true) ∧ Below w.heap.size w w' := by
  by_cases hk : a1 < 0
  · exact natTells_neg A0 n0 c0 l0 a1 w h0 hk hT
  · obtain ⟨kn, rfl⟩ : ∃ kn : Nat, a1 = (kn : Int) := ⟨a1.toNat, by omega⟩
    by_cases hk2 : kn < (dg 18446744073709551616 (dv 18446744073709551616 l0)).length
    · exact natTells_inn A0 n0 c0 l0 kn w h0 hk2 hT
    · exact natTells_out A0 n0 c0 l0 kn w h0 (by omega) (by omega) hT
end Go.Proofs.YtlofionccgjndaaDoor
