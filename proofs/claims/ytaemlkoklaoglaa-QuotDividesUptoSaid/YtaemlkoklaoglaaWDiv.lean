/-
  The contract of word.Div. Conditions: the arguments are words.
-/
import Derived.Test.YtaemlkoklaoglaaRows
import Derived.Test.YtaemlkoklaoglaaBDiv64
import Derived.WalkKit
import Derived.Lib.Hide
import Derived.Outline
namespace Go.Proofs.Ytaemlkoklaoglaa
open Go Go.RowKit
theorem word_div_yes (hi lo y : Int) (h0 : Wd hi) (h1 : hi < y) (hy : y < 18446744073709551616) (hl : Wd lo) (w : World) :
    Calls Try.prog 44 #[.int .u64 hi, .int .u64 lo, .int .u64 y] w fun e w' => e = .returned (.tuple #[.int .u64 (divQ hi lo y), .int .u64 (divR hi lo y), .bool true]) ∧ ∃ n, w' = w.drewN n := by
  have H := Lib.hid (div64 hi lo y h0 h1 hy hl w)
  have z1 : decide (y ≤ hi) = false := by simp; omega
  go_enter Try.func44, Try.ntmps44
  go_wp2_with (go_at_call 58; refine H.out.mono ?_; rintro e w' ⟨rfl, n, rfl⟩)
  go_ret3
  exact ⟨rfl, n, rfl⟩
theorem word_div_no (hi lo y : Int) (h1 : y ≤ hi) (w : World) :
    Calls Try.prog 44 #[.int .u64 hi, .int .u64 lo, .int .u64 y] w fun e w' => e = .returned (.tuple #[.int .u64 0, .int .u64 0, .bool false]) ∧ w = w' := by
  have z1 : decide (y ≤ hi) = true := by simp; omega
  go_enter Try.func44, Try.ntmps44
  go_wp2
  go_ret3
  exact ⟨rfl, rfl⟩
theorem word_div_big (hi lo y : Int) (h0 : 0 < hi) (h1 : hi < y) (hy : y < 18446744073709551616) (hl : Wd lo) (w : World) :
    Calls Try.prog 44 #[.int .u64 hi, .int .u64 lo, .int .u64 y] w fun e w' => e = .returned (.tuple #[.int .u64 (divQ hi lo y), .int .u64 (divR hi lo y), .bool true]) ∧ w = w' := by
  have H := Lib.hid (div64_big hi lo y h0 h1 hy hl w)
  have z1 : decide (y ≤ hi) = false := by simp; omega
  go_enter Try.func44, Try.ntmps44
  go_wp2_with (go_at_call 58; refine H.out.mono ?_; rintro e w' ⟨rfl, rfl⟩)
  go_ret3
  exact ⟨rfl, rfl⟩
end Go.Proofs.Ytaemlkoklaoglaa
