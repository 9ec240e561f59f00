/-
  The statements of the first stage that ask no reference: the document's examples hold, and each law's walk. Conditions: the arguments are words; TrailingZeros64's table reads as its initialiser lays it.
-/
import Derived.Test.YtjdkpbfkkepaiaaDoorWd2
namespace Go.Proofs.YtjdkpbfkkepaiaaDoor
open Go Go.RowKit

theorem word_div_big (hi lo y : Int) (h0 : 0 < hi) (h1 : hi < y) (hy : y < 18446744073709551616) (hl : Wd lo) (w : World) :
    Calls Tryd.prog 26 #[.int .u64 hi, .int .u64 lo, .int .u64 y] w fun e w' => e = .returned (.tuple #[.int .u64 (divQ hi lo y), .int .u64 (divR hi lo y), .bool true]) ∧ w = w' := by
  have H := Lib.hid (div64_big hi lo y h0 h1 hy hl w)
  have z1 : decide (y ≤ hi) = false := by simp; omega
  go_enter Tryd.func26, Tryd.ntmps26
  go_wp2_with (go_at_call 35; refine H.out.mono ?_; rintro e w' ⟨rfl, rfl⟩)
  go_ret3
  exact ⟨rfl, rfl⟩

/-! ### The document's examples -/
namespace Aw
theorem c1 (w : World) : Calls Tryd.prog 10 #[.int .u64 18446744073709551615, .int .u64 0, .int .u64 1] w fun e w' => e = .returned (.tuple #[.int .u64 0, .int .u64 1]) ∧ w = w' := by
  have h := word_add 18446744073709551615 0 1 (by unfold Wd; omega) (by unfold Wd; omega) (by unfold Wd; omega) w
  rw [show addLo 18446744073709551615 0 1 = 0 from by decide +kernel, show addHi 18446744073709551615 0 1 = 1 from by decide +kernel] at h
  exact h
theorem c2 (w : World) : Calls Tryd.prog 12 #[.int .u64 0, .int .u64 0, .int .u64 3] w fun e w' => e = .returned (.tuple #[.int .u64 18446744073709551615, .int .u64 1]) ∧ w = w' := by
  have h := word_sub 0 0 3 (by unfold Wd; omega) (by unfold Wd; omega) (by unfold Wd; omega) w
  rw [show subLo 0 0 3 = 18446744073709551615 from by decide +kernel, show subHi 0 0 3 = 1 from by decide +kernel] at h
  exact h
theorem c3 (w : World) : Calls Tryd.prog 15 #[.int .u64 18446744073709551615, .int .u64 18446744073709551615] w fun e w' => e = .returned (.tuple #[.int .u64 18446744073709551614, .int .u64 1]) ∧ w = w' := by
  have h := word_mul 18446744073709551615 18446744073709551615 (by unfold Wd; omega) (by unfold Wd; omega) w
  rw [show mulHi 18446744073709551615 18446744073709551615 = 18446744073709551614 from by decide +kernel, show mulLo 18446744073709551615 18446744073709551615 = 1 from by decide +kernel] at h
  exact h
theorem c4 (w : World) : Calls Tryd.prog 26 #[.int .u64 1, .int .u64 0, .int .u64 3] w fun e w' => e = .returned (.tuple #[.int .u64 6148914691236517205, .int .u64 1, .bool true]) ∧ w = w' := by
  have h := word_div_big 1 0 3 (by omega) (by omega) (by omega) (by unfold Wd; omega) w
  rw [show divQ 1 0 3 = 6148914691236517205 from by decide +kernel, show divR 1 0 3 = 1 from by decide +kernel] at h
  exact h
theorem c5 (w : World) : Calls Tryd.prog 26 #[.int .u64 3, .int .u64 0, .int .u64 3] w fun e w' => e = .returned (.tuple #[.int .u64 0, .int .u64 0, .bool false]) ∧ w = w' :=
  word_div_no 3 0 3 (by omega) w
theorem c6 (w : World) : Calls Tryd.prog 21 #[.int .u64 0] w fun e w' => e = .returned (.int .i64 0) ∧ w = w' := by
  have h := word_len 0 (by unfold Wd; omega) w
  rw [show lenN 0 = 0 from by decide +kernel] at h
  exact h
theorem c7 (w : World) : Calls Tryd.prog 23 #[.int .u64 1] w fun e w' => e = .returned (.int .i64 63) ∧ w = w' := by
  have h := word_lead 1 (by unfold Wd; omega) w
  rw [show 64 - lenN 1 = 63 from by decide +kernel] at h
  exact h
theorem c8 (w : World) (hT : TabAt w) : Calls Tryd.prog 24 #[.int .u64 40] w fun e w' => e = .returned (.int .i64 3) ∧ w = w' := by
  have h := word_trail 40 (by unfold Wd; omega) w hT
  rw [show trailN 40 = 3 from by decide +kernel] at h
  exact h
end Aw

set_option maxHeartbeats 1000000 in
theorem awake_any (w : World) (hT : TabAt w) : Calls Tryd.prog 14 #[] w fun e w' => e = .returned (.bool true) ∧ w = w' := by
  have C1 := Lib.hid (Aw.c1 w)
  have C2 := Lib.hid (Aw.c2 w)
  have C3 := Lib.hid (Aw.c3 w)
  have C4 := Lib.hid (Aw.c4 w)
  have C5 := Lib.hid (Aw.c5 w)
  have C6 := Lib.hid (Aw.c6 w)
  have C7 := Lib.hid (Aw.c7 w)
  have C8 := Lib.hid (Aw.c8 w hT)
  clear hT
  go_enter Tryd.func14, Tryd.ntmps14
  go_wp2_with fail
  refine C1.out.mono ?_
  rintro e w' ⟨rfl, rfl⟩
  go_wp2_with fail
  refine C2.out.mono ?_
  rintro e w' ⟨rfl, rfl⟩
  go_wp2_with fail
  refine C3.out.mono ?_
  rintro e w' ⟨rfl, rfl⟩
  go_wp2_with fail
  refine C4.out.mono ?_
  rintro e w' ⟨rfl, rfl⟩
  go_wp2_with fail
  refine C5.out.mono ?_
  rintro e w' ⟨rfl, rfl⟩
  go_wp2_with fail
  refine C6.out.mono ?_
  rintro e w' ⟨rfl, rfl⟩
  go_wp2_with fail
  refine C7.out.mono ?_
  rintro e w' ⟨rfl, rfl⟩
  go_wp2_with fail
  refine C8.out.mono ?_
  rintro e w' ⟨rfl, rfl⟩
  go_wp2_with fail
  go_ret
  exact ⟨rfl, rfl⟩

/-! ### WordBack -/
theorem back1 {x y c : Int} (hx : Wd x) (hy : Wd y) : subLo (addLo x y c) y c = x ∧ subHi (addLo x y c) y c = addHi x y c := by
  unfold Wd at *
  unfold subLo subHi addLo addHi
  refine ⟨by omega, ?_⟩
  split <;> omega
theorem back2 {x y c : Int} (hx : Wd x) (hy : Wd y) : addLo (subLo x y c) y c = x ∧ addHi (subLo x y c) y c = subHi x y c := by
  unfold Wd at *
  unfold subLo subHi addLo addHi
  refine ⟨by omega, ?_⟩
  split <;> omega

set_option maxHeartbeats 1000000 in
theorem wordBack_walk (x y c : Int) (hx : Wd x) (hy : Wd y) (hc : Wd c) (w : World) (hT : TabAt w) :
    Calls Tryd.prog 6 #[.int .u64 x, .int .u64 y, .int .u64 c] w fun e w' => e = .returned (.bool true) ∧ Below w.heap.size w w' := by
  have C1 := Lib.hid (word_add x y c hx hy hc w)
  have C2 := Lib.hid (word_sub (addLo x y c) y c (addLo_wd x y c) hy hc w)
  have C3 := Lib.hid (word_sub x y c hx hy hc w)
  have C4 := Lib.hid (word_add (subLo x y c) y c (subLo_wd x y c) hy hc w)
  have C5 := Lib.hid (awake_any w hT)
  rw [(back1 (c := c) hx hy).1, (back1 (c := c) hx hy).2] at C2
  rw [(back2 (c := c) hx hy).1, (back2 (c := c) hx hy).2] at C4
  obtain ⟨u0, u1⟩ := addHi_bd (c := c) hx hy
  obtain ⟨v0, v1⟩ := subHi_bd x y c
  clear hT
  go_enter Tryd.func6, Tryd.ntmps6
  go_wp2_with fail
  refine C1.out.mono ?_
  rintro e w' ⟨rfl, rfl⟩
  go_wp2_with fail
  refine C2.out.mono ?_
  rintro e w' ⟨rfl, rfl⟩
  go_wp2_with fail
  refine C3.out.mono ?_
  rintro e w' ⟨rfl, rfl⟩
  go_wp2_with fail
  refine C4.out.mono ?_
  rintro e w' ⟨rfl, rfl⟩
  go_wp2_with fail
  refine C5.out.mono ?_
  rintro e w' ⟨rfl, rfl⟩
  go_wp2_with fail
  go_ret
  exact ⟨rfl, Below.refl _ _⟩
end Go.Proofs.YtjdkpbfkkepaiaaDoor
