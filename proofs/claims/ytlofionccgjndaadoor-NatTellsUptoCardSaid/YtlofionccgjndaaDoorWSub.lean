/-
  The contract of word.Sub. Conditions: the arguments are words.
-/
import Derived.Test.YtlofionccgjndaaDoorRows
import Derived.Test.YtlofionccgjndaaDoorBSub64
import Derived.Test.YtlofionccgjndaaDoorLow1
import Derived.WalkKit
import Derived.Lib.Hide
import Derived.Outline
namespace Go.Proofs.YtlofionccgjndaaDoor
open Go Go.RowKit
set_option maxHeartbeats 400000 in
theorem word_sub (x y c : Int) (hx : Wd x) (hy : Wd y) (hc : Wd c) (w : World) :
    Calls Tryd.prog 32 #[.int .u64 x, .int .u64 y, .int .u64 c] w fun e w' => e = .returned (.tuple #[.int .u64 (subLo x y c), .int .u64 (subHi x y c)]) ∧ w = w' := by
  have L := Lib.hid (low1 c hc)
  have H := Lib.hid (sub64 x y (c % 2) hx hy (by omega) (by omega))
  have e1 : subLo x y (c % 2) = subLo x y c := by unfold subLo; omega
  have e2 : subHi x y (c % 2) = subHi x y c := by unfold subHi; rw [show c % 2 % 2 = c % 2 from by omega]
  rw [e1, e2] at H
  clear e1 e2
  go_enter Tryd.func32, Tryd.ntmps32
  go_wp2_with (first | simp only [L.out, H.out])
  go_ret2
  exact ⟨rfl, rfl⟩
end Go.Proofs.YtlofionccgjndaaDoor
