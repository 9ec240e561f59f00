/-
  The contract of word.Trail. Conditions: the argument is a word; TrailingZeros64's table reads as its initialiser lays it.
-/
import Derived.Test.YtlofionccgjndaaDoorRows
import Derived.Test.YtlofionccgjndaaDoorBTrail64
import Derived.WalkKit
import Derived.Lib.Hide
import Derived.Outline
namespace Go.Proofs.YtlofionccgjndaaDoor
open Go Go.RowKit
theorem word_trail (x : Int) (hx : Wd x) (w : World) (hT : TabAt w) :
    Calls Tryd.prog 30 #[.int .u64 x] w fun e w' => e = .returned (.int .i64 (trailN x)) ∧ w = w' := by
  have H := Lib.hid (trail64 x hx w hT)
  clear hT
  go_enter Tryd.func30, Tryd.ntmps30
  go_wp2_with (go_at_call 34; refine H.out.mono ?_; rintro e w' ⟨rfl, rfl⟩)
  go_ret
  exact ⟨rfl, rfl⟩
end Go.Proofs.YtlofionccgjndaaDoor
