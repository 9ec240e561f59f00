/-
  The contract of word.Trail. Conditions: the argument is a word; TrailingZeros64's table reads as its initialiser lays it.
-/
import Derived.Test.YtonjhcmppiioeaaDoorRows
import Derived.Test.YtonjhcmppiioeaaDoorBTrail64
import Derived.WalkKit
import Derived.Lib.Hide
import Derived.Outline
namespace Go.Proofs.YtonjhcmppiioeaaDoor
open Go Go.RowKit
theorem word_trail (x : Int) (hx : Wd x) (w : World) (hT : TabAt w) :
    Calls Tryd.prog 26 #[.int .u64 x] w fun e w' => e = .returned (.int .i64 (trailN x)) ∧ w = w' := by
  have H := Lib.hid (trail64 x hx w hT)
  clear hT
  go_enter Tryd.func26, Tryd.ntmps26
  go_wp2_with (go_at_call 32; refine H.out.mono ?_; rintro e w' ⟨rfl, rfl⟩)
  go_ret
  exact ⟨rfl, rfl⟩
end Go.Proofs.YtonjhcmppiioeaaDoor
