/-
  The contract of word.Len. Conditions: the argument is a word.
-/
import Derived.Test.YtonjhcmppiioeaaRows
import Derived.Test.YtonjhcmppiioeaaBLen64
import Derived.WalkKit
import Derived.Lib.Hide
import Derived.Outline
namespace Go.Proofs.Ytonjhcmppiioeaa
open Go Go.RowKit
theorem word_len (x : Int) (hx : Wd x) (w : World) :
    Calls Try.prog 41 #[.int .u64 x] w fun e w' => e = .returned (.int .i64 (lenN x)) ∧ w = w' := by
  have H := Lib.hid (len64 x hx w)
  go_enter Try.func41, Try.ntmps41
  go_wp2_with (go_at_call 48; refine H.out.mono ?_; rintro e w' ⟨rfl, rfl⟩)
  go_ret
  exact ⟨rfl, rfl⟩
end Go.Proofs.Ytonjhcmppiioeaa
