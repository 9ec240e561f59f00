/-
  The contract of word.MulAdd. Conditions: the arguments are words.
-/
import Derived.Test.YtonjhcmppiioeaaRows
import Derived.Test.YtonjhcmppiioeaaBMul64
import Derived.Test.YtonjhcmppiioeaaBAdd64
import Derived.WalkKit
import Derived.Lib.Hide
import Derived.Outline
namespace Go.Proofs.Ytonjhcmppiioeaa
open Go Go.RowKit
/-- MulAdd: the two sums' carries never run the high word over. -/
theorem word_muladd (x y a b : Int) (hx : Wd x) (hy : Wd y) (ha : Wd a) (hb : Wd b) (w : World) :
    Calls Try.prog 32 #[.int .u64 x, .int .u64 y, .int .u64 a, .int .u64 b] w fun e w' => e = .returned (.tuple #[.int .u64 (maHi x y a b), .int .u64 (maLo x y a b)]) ∧ w = w' := by
  have hl := mulLo_wd x y
  have hs := addLo_wd (mulLo x y) a 0
  have H := Lib.hid (mul64 x y hx hy w)
  have A1 := Lib.hid (add64 (mulLo x y) a 0 hl ha (by omega) (by omega) w)
  have A2 := Lib.hid (add64 (addLo (mulLo x y) a 0) b 0 hs hb (by omega) (by omega) w)
  have eL : addLo (addLo (mulLo x y) a 0) b 0 = maLo x y a b := by rw [← maLo_eq]; unfold addLo; omega
  have eH : mulHi x y + addHi (mulLo x y) a 0 + addHi (addLo (mulLo x y) a 0) b 0 = maHi x y a b := by rw [← maHi_eq]; unfold addHi addLo; omega
  have b1 := mulHi_wd hx hy
  have b2 := addHi_bd (c := 0) hl ha
  have b3 := addHi_bd (c := 0) hs hb
  have b4 := maHi_wd hx hy ha hb
  have EL := Lib.hid eL
  have EH := Lib.hid eH
  have W1 : Hid (IntKind.u64.wrap (mulHi x y + addHi (mulLo x y) a 0) = mulHi x y + addHi (mulLo x y) a 0) := by
    rw [IntKind.wrap_u64]; unfold Wd at *; show _ % _ = _; omega
  have W2 : Hid (IntKind.u64.wrap (maHi x y a b) = maHi x y a b) := by
    rw [IntKind.wrap_u64]; unfold Wd at *; show _ % _ = _; omega
  clear eL eH b1 b2 b3 b4 hl hs
  go_enter Try.func32, Try.ntmps32
  go_wp2_with (first | (go_at_call 45; refine H.out.mono ?_; rintro e w' ⟨rfl, rfl⟩) | simp only [A1.out] | simp only [A2.out])
  simp only [W1.out, W2.out, EL.out, EH.out]
  go_ret2
  exact ⟨rfl, rfl⟩
end Go.Proofs.Ytonjhcmppiioeaa
