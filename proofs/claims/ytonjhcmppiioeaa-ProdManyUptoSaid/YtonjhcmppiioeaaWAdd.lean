/-
  The contract of word.Add. Conditions: the arguments are words.
-/
import Derived.Test.YtonjhcmppiioeaaRows
import Derived.Test.YtonjhcmppiioeaaBAdd64
import Derived.Test.YtonjhcmppiioeaaLow1
import Derived.WalkKit
import Derived.Lib.Hide
import Derived.Outline
namespace Go.Proofs.Ytonjhcmppiioeaa
open Go Go.RowKit
set_option maxHeartbeats 400000 in
theorem word_add (x y c : Int) (hx : Wd x) (hy : Wd y) (hc : Wd c) (w : World) :
    Calls Try.prog 44 #[.int .u64 x, .int .u64 y, .int .u64 c] w fun e w' => e = .returned (.tuple #[.int .u64 (addLo x y c), .int .u64 (addHi x y c)]) ∧ w = w' := by
  have L := Lib.hid (low1 c hc)
  have H := Lib.hid (add64 x y (c % 2) hx hy (by omega) (by omega))
  have e1 : addLo x y (c % 2) = addLo x y c := by unfold addLo; omega
  have e2 : addHi x y (c % 2) = addHi x y c := by unfold addHi; omega
  rw [e1, e2] at H
  clear e1 e2
  go_enter Try.func44, Try.ntmps44
  go_wp2_with (first | simp only [L.out, H.out])
  go_ret2
  exact ⟨rfl, rfl⟩
end Go.Proofs.Ytonjhcmppiioeaa
