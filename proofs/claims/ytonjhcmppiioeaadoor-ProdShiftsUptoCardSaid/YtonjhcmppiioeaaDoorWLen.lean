/-
  The contract of word.Len. Conditions: the argument is a word.
-/
import Derived.Test.YtonjhcmppiioeaaDoorRows
import Derived.Test.YtonjhcmppiioeaaDoorBLen64
import Derived.WalkKit
import Derived.Lib.Hide
import Derived.Outline
namespace Go.Proofs.YtonjhcmppiioeaaDoor
open Go Go.RowKit
theorem word_len (x : Int) (hx : Wd x) (w : World) :
    Calls Tryd.prog 17 #[.int .u64 x] w fun e w' => e = .returned (.int .i64 (lenN x)) ∧ w = w' := by
  have H := Lib.hid (len64 x hx w)
  go_enter Tryd.func17, Tryd.ntmps17
  go_wp2_with (go_at_call 27; refine H.out.mono ?_; rintro e w' ⟨rfl, rfl⟩)
  go_ret
  exact ⟨rfl, rfl⟩
end Go.Proofs.YtonjhcmppiioeaaDoor
