/-
  The contract of math/bits.Add64. Conditions: the arguments are words.
-/
import Derived.Test.YtonjhcmppiioeaaRows
import Derived.Test.YtonjhcmppiioeaaWd0
import Derived.WalkKit
import Derived.Lib.Hide
import Derived.Outline
import Derived.Laws.Externs
namespace Go.Proofs.Ytonjhcmppiioeaa
open Go Go.RowKit
theorem add64 (x y c : Int) (hx : Wd x) (hy : Wd y) (hc0 : 0 ≤ c) (hc : c ≤ 1) (w : World) :
    (callFunc 46 #[.int .u64 x, .int .u64 y, .int .u64 c]).run Try.prog w = .ok (.value (.tuple #[.int .u64 (addLo x y c), .int .u64 (addHi x y c)])) w := by
  rw [run_callFunc_extern Try.func46 (by kernel_rfl) (by kernel_rfl) (by kernel_rfl) (e := add64Entry) (by kernel_rfl), run_add64 x y c hx.1 hy.1 hc0 hc]
  have e : c % 2 = c := by omega
  unfold addLo addHi
  rw [e]
  rfl
end Go.Proofs.Ytonjhcmppiioeaa
