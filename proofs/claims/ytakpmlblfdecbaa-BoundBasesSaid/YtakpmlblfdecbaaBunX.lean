/-
  The contract of math/bits.Div64. Conditions: the arguments are words, the high word below the divisor.
  The contract of word.Div. Conditions: the arguments are words.
-/
import Derived.Test.YtakpmlblfdecbaaRows
import Derived.Test.YtakpmlblfdecbaaBunW
import Derived.WalkKit
import Derived.Lib.Hide
import Derived.Outline
import Derived.Deep.QuietTactic
import Derived.BigQuiet
import Derived.LoopTactic
import Derived.Deep.LoopGhost
import Derived.Deep.DeepCutAuto
import Derived.Deep.CutBlock
namespace Go.Proofs.Ytakpmlblfdecbaa
open Go Go.RowKit
set_option maxRecDepth 100000 in
set_option maxHeartbeats 1000000 in
theorem div64_big (hi lo y : Int) (h0 : 0 < hi) (h1 : hi < y) (hy : y < 18446744073709551616) (hl : Wd lo) (w : World) :
    Calls Try.prog 23 #[.int .u64 hi, .int .u64 lo, .int .u64 y] w fun e w' => e = .returned (.tuple #[.int .u64 (divQ hi lo y), .int .u64 (divR hi lo y)]) ∧ w = w' := by
  obtain ⟨hl0, hl1⟩ := hl
  have H := Lib.hid (lead64 y (by unfold Wd; omega) w)
  obtain ⟨s, hs0, hs, hY0, hY1⟩ := len_norm y (by omega) hy
  rw [hs0] at H
  clear hs0
  obtain ⟨hU0, hU1, hUV⟩ := dg_norm hi lo y s hs (by omega) h1 hl0 hl1
  have hdiv := dg_shift (hi * 18446744073709551616 + lo) y (2 ^ s) (Int.pow_pos (by decide))
  obtain ⟨Y, hYe⟩ : ∃ Y, y * 2 ^ s = Y := ⟨_, rfl⟩
  have hlow : lo / 2 ^ (64 - s) < 2 ^ s := by
    refine Int.ediv_lt_of_lt_mul (Int.pow_pos (by decide)) ?_
    rw [← Int.pow_add, show s + (64 - s) = 64 from by omega]; simpa using hl1
  have hlow0 : 0 ≤ lo / 2 ^ (64 - s) := Int.ediv_nonneg hl0 (Int.le_of_lt (Int.pow_pos (by decide)))
  have hhs : 0 ≤ hi * 2 ^ s := Int.mul_nonneg (by omega) (Int.le_of_lt (Int.pow_pos (by decide)))
  have hor := or_join hi (lo / 2 ^ (64 - s)) s (by omega) (by omega) hlow0 hlow hs
  have hwr : IntKind.u64.wrap (hi * 2 ^ s) = hi * 2 ^ s := by rw [IntKind.wrap_u64]; omega
  obtain ⟨U, hUe⟩ : ∃ U, hi * 2 ^ s + lo / 2 ^ (64 - s) = U := ⟨_, rfl⟩
  obtain ⟨V, hVe⟩ : ∃ V, lo * 2 ^ s % 18446744073709551616 = V := ⟨_, rfl⟩
  have hV : 0 ≤ V ∧ V < 18446744073709551616 := by omega
  have E1 : Hid (IntKind.u64.wrap (y * 2 ^ s) = Y) := by rw [hYe, IntKind.wrap_u64]; show _ % _ = _; omega
  have E3 : Hid (bits .or .u64 (IntKind.u64.wrap (hi * 2 ^ s)) (lo / 2 ^ (64 - s)) = U) := by rw [hwr, hor]; exact hUe
  have E4 : Hid (IntKind.u64.wrap (lo * 2 ^ s) = V) := by rw [IntKind.wrap_u64]; exact hVe
  have E2 : Hid (bits .and .u64 Y 4294967295 = Y % 4294967296) := and_low32 Y (by omega) (by omega)
  have E5 : Hid (bits .and .u64 V 4294967295 = V % 4294967296) := and_low32 V (by omega) (by omega)
  rw [hYe] at hY0 hY1 hU1 hdiv
  rw [hUe] at hU0 hU1 hUV
  rw [hVe] at hUV
  obtain ⟨hV0, hV1⟩ := hV
  have hd2 := dq_two U V Y hU0 hU1
  have D1 := Dig.start (u := V / 4294967296) hU0 hU1 hY0 hY1 (by omega) (by omega)
  have b1 := D1.low
  have b2 := D1.q_hi
  have b3 := D1.sum
  have hq0 : 0 ≤ U / (Y / 4294967296) := Int.ediv_nonneg hU0 (by omega)
  have hq1 : 0 ≤ U / (Y / 4294967296) * (Y / 4294967296) := Int.mul_nonneg hq0 (by omega)
  have hA : 2147483648 ≤ Y / 4294967296 := by omega
  have hr32 : U - U / (Y / 4294967296) * (Y / 4294967296) < 4294967296 := by
    have hm := Int.mul_ediv_add_emod U (Y / 4294967296)
    have hlt := Int.emod_lt_of_pos U (show 0 < Y / 4294967296 by omega)
    rw [Int.mul_comm] at hm
    omega
  have bQ1 := dgQ_bd (U := U) (u := V / 4294967296) (Y := Y) hU0 hU1 (by omega) (by omega)
  have bT := dgR_bd (U := U) (u := V / 4294967296) (Y := Y) (by omega)
  have e6 := dg_left (U := U) (u := V / 4294967296) (Y := Y) (by omega) hY1
  obtain ⟨Q1, hQ1⟩ : ∃ q, dgQ U (V / 4294967296) Y = q := ⟨_, rfl⟩
  obtain ⟨T, hT⟩ : ∃ q, dgR U (V / 4294967296) Y = q := ⟨_, rfl⟩
  rw [hT] at bT e6 hd2
  rw [hQ1] at bQ1 e6 hd2
  obtain ⟨hT0, hT1⟩ := bT
  obtain ⟨hQ10, hQ11⟩ := bQ1
  have D2 := Dig.start (u := V % 4294967296) hT0 hT1 hY0 hY1 (by omega) (by omega)
  have c1 := D2.low
  have c2 := D2.q_hi
  have hp0 : 0 ≤ T / (Y / 4294967296) := Int.ediv_nonneg hT0 (by omega)
  have hp1 : 0 ≤ T / (Y / 4294967296) * (Y / 4294967296) := Int.mul_nonneg hp0 (by omega)
  have ht32 : T - T / (Y / 4294967296) * (Y / 4294967296) < 4294967296 := by
    have hm := Int.mul_ediv_add_emod T (Y / 4294967296)
    have hlt := Int.emod_lt_of_pos T (show 0 < Y / 4294967296 by omega)
    rw [Int.mul_comm] at hm
    omega
  have bQ0 := dgQ_bd (U := T) (u := V % 4294967296) (Y := Y) hT0 hT1 (by omega) (by omega)
  have bT0 := dgR_bd (U := T) (u := V % 4294967296) (Y := Y) (by omega)
  have e7 := dg_left (U := T) (u := V % 4294967296) (Y := Y) (by omega) hY1
  obtain ⟨Q0, hQ0⟩ : ∃ q, dgQ T (V % 4294967296) Y = q := ⟨_, rfl⟩
  obtain ⟨T0, hT0e⟩ : ∃ q, dgR T (V % 4294967296) Y = q := ⟨_, rfl⟩
  rw [hT0e] at bT0 e7 hd2
  rw [hQ0] at bQ0 e7 hd2
  obtain ⟨hT00, hT01⟩ := bT0
  obtain ⟨hQ00, hQ01⟩ := bQ0
  have E6 : Hid (IntKind.u64.wrap (IntKind.u64.wrap (IntKind.u64.wrap (U * 4294967296) + V / 4294967296) - IntKind.u64.wrap (Q1 * Y)) = T) := by
    rw [IntKind.wrap_u64, IntKind.wrap_u64, IntKind.wrap_u64, IntKind.wrap_u64]; exact e6
  have E7 : Hid (IntKind.u64.wrap (IntKind.u64.wrap (IntKind.u64.wrap (T * 4294967296) + V % 4294967296) - IntKind.u64.wrap (Q0 * Y)) = T0) := by
    rw [IntKind.wrap_u64, IntKind.wrap_u64, IntKind.wrap_u64, IntKind.wrap_u64]; exact e7
  have FQ : Hid (Q1 * 4294967296 + Q0 = divQ hi lo y) := by
    unfold divQ; show _ = _; rw [hd2.1, hUV]; exact hdiv.1
  have FR : Hid (T0 / 2 ^ s = divR hi lo y) := by
    unfold divR; show _ = _; rw [hd2.2, hUV]; exact hdiv.2
  have HD1 := Lib.hid D1
  have HD2 := Lib.hid D2
  have HQ1 := Lib.hid hQ1
  have HQ0 := Lib.hid hQ0
  clear hdiv hUV hd2 hYe hUe hVe hor hwr b3 D1 D2 hlow hlow0 hhs e6 e7 hQ1 hQ0 hT hT0e
  have z1 : (y == 0) = false := beq_eq_false_iff_ne.2 (by omega)
  have z2 : (hi == 0) = false := beq_eq_false_iff_ne.2 (by omega)
  have z3 : decide (y ≤ hi) = false := by simp; omega
  go_enter Try.func23, Try.ntmps23
  go_upto_block 0 with (first | (go_at_call 24; refine H.out.mono ?_; rintro e w' ⟨rfl, rfl⟩) | simp only [E1.out, E2.out, E3.out, E4.out, E5.out])
  clear E1 E2 E3 E4 E5 H
  go_cut [15, 16] (fun q _ wc => q = .int .u64 Q1 ∧ wc = w)
  case first =>
    go_wp2_with fail
    go_loopg [15, 16] 4294967298 (fun k q r wr => ∃ q0 r0 : Int, q = .int .u64 q0 ∧ r = .int .u64 r0 ∧ Dig U (V / 4294967296) Y q0 r0 ∧ r0 < 4294967296 ∧ q0 < k ∧ wr = w)
    case atStart => exact ⟨_, _, rfl, rfl, HD1.out, hr32, by omega, rfl⟩
    case round =>
      obtain ⟨q, r, rfl, rfl, hd, hr, hk, rfl⟩ := hrel
      obtain ⟨g0, g1, g2, g3, g4⟩ := hd.room hU0 hU1 (by omega) (by omega) hr
      by_cases ht : 4294967296 ≤ q ∨ 4294967296 * r + V / 4294967296 < q * (Y % 4294967296)
      · have hd' := hd.down hU0 hU1 hY0 (by omega) (by omega) ht
        have hq0 := (dgQ_bd (U := U) (u := V / 4294967296) (Y := Y) hU0 hU1 (by omega) (by omega)).1
        have hl' := hd'.q_lo
        have hq' := hd.q_hi
        have hq1 : 1 ≤ q := by omega
        go_wp2
        all_goals first
          | (go_meet; exact ⟨congrArg (Value.int .u64) ((hd'.past hY0 (by omega) (by omega) (by omega)).trans HQ1.out), rfl⟩)
          | (go_roundg (gk - 1)
             case measure => omega
             case rel => exact ⟨_, _, rfl, rfl, hd', by omega, by omega, rfl⟩)
      · go_wp2
        go_meet
        exact ⟨congrArg (Value.int .u64) ((hd.done hY0 (by omega)).trans HQ1.out), rfl⟩
  case rest =>
    obtain ⟨rfl, rfl⟩ := hcut
    go_upto_block 2 with (simp only [E6.out])
    clear E6
    go_cut [18, 16] (fun q _ wd => q = .int .u64 Q0 ∧ wd = wc)
    case first =>
      go_wp2_with fail
      go_loopg [18, 16] 4294967298 (fun k q r wr => ∃ q0 r0 : Int, q = .int .u64 q0 ∧ r = .int .u64 r0 ∧ Dig T (V % 4294967296) Y q0 r0 ∧ r0 < 4294967296 ∧ q0 < k ∧ wr = wc)
      case atStart => exact ⟨_, _, rfl, rfl, HD2.out, ht32, by omega, rfl⟩
      case round =>
        obtain ⟨q, r, rfl, rfl, hd, hr, hk, rfl⟩ := hrel
        obtain ⟨g0, g1, g2, g3, g4⟩ := hd.room hT0 hT1 (by omega) (by omega) hr
        by_cases ht : 4294967296 ≤ q ∨ 4294967296 * r + V % 4294967296 < q * (Y % 4294967296)
        · have hd' := hd.down hT0 hT1 hY0 (by omega) (by omega) ht
          have hq0 := (dgQ_bd (U := T) (u := V % 4294967296) (Y := Y) hT0 hT1 (by omega) (by omega)).1
          have hl' := hd'.q_lo
          have hq' := hd.q_hi
          have hq1 : 1 ≤ q := by omega
          go_wp2
          all_goals first
            | (go_meet; exact ⟨congrArg (Value.int .u64) ((hd'.past hY0 (by omega) (by omega) (by omega)).trans HQ0.out), rfl⟩)
            | (go_roundg (gk - 1)
               case measure => omega
               case rel => exact ⟨_, _, rfl, rfl, hd', by omega, by omega, rfl⟩)
        · go_wp2
          go_meet
          exact ⟨congrArg (Value.int .u64) ((hd.done hY0 (by omega)).trans HQ0.out), rfl⟩
    case rest =>
      obtain ⟨rfl, rfl⟩ := hcut
      go_wp2_with (simp only [E7.out])
      simp only [FQ.out, FR.out]
      go_ret2
      exact ⟨rfl, rfl⟩
/-- Where the high word is 0: one division, in an order that Go leaves open. -/
theorem div64_small (lo y : Int) (h1 : 0 < y) (hy : y < 18446744073709551616) (hl : Wd lo) (w : World) :
    Calls Try.prog 23 #[.int .u64 0, .int .u64 lo, .int .u64 y] w fun e w' => e = .returned (.tuple #[.int .u64 (divQ 0 lo y), .int .u64 (divR 0 lo y)]) ∧ ∃ n, w' = w.drewN n := by
  obtain ⟨hl0, hl1⟩ := hl
  have z1 : (y == 0) = false := beq_eq_false_iff_ne.2 (by omega)
  have z3 : decide (y ≤ 0) = false := by simp; omega
  have q0 : 0 ≤ lo / y := Int.ediv_nonneg hl0 (by omega)
  have q1 : lo / y < 18446744073709551616 := Int.lt_of_le_of_lt (Int.ediv_le_self y hl0) hl1
  have r0 : 0 ≤ lo % y := Int.emod_nonneg _ (by omega)
  have r1 : lo % y < 18446744073709551616 := Int.lt_trans (Int.emod_lt_of_pos _ h1) hy
  have FQ : Hid (lo / y = divQ 0 lo y) := by unfold divQ; show _ = _; simp
  have FR : Hid (lo % y = divR 0 lo y) := by unfold divR; show _ = _; simp
  go_enter Try.func23, Try.ntmps23
  go_wp2
  go_quiet (fail)
  go_wp2
  simp only [FQ.out, FR.out]
  go_ret2
  exact ⟨rfl, _, rfl⟩
theorem div64 (hi lo y : Int) (h0 : Wd hi) (h1 : hi < y) (hy : y < 18446744073709551616) (hl : Wd lo) (w : World) :
    Calls Try.prog 23 #[.int .u64 hi, .int .u64 lo, .int .u64 y] w fun e w' => e = .returned (.tuple #[.int .u64 (divQ hi lo y), .int .u64 (divR hi lo y)]) ∧ ∃ n, w' = w.drewN n := by
  by_cases hz : hi = 0
  · subst hz
    exact div64_small lo y h1 hy hl w
  · refine (div64_big hi lo y (by have := h0.1; omega) h1 hy hl w).mono ?_
    rintro e w' ⟨rfl, rfl⟩
    exact ⟨rfl, 0, rfl⟩
end Go.Proofs.Ytakpmlblfdecbaa
namespace Go.Proofs.Ytakpmlblfdecbaa
open Go Go.RowKit
theorem word_div_yes (hi lo y : Int) (h0 : Wd hi) (h1 : hi < y) (hy : y < 18446744073709551616) (hl : Wd lo) (w : World) :
    Calls Try.prog 20 #[.int .u64 hi, .int .u64 lo, .int .u64 y] w fun e w' => e = .returned (.tuple #[.int .u64 (divQ hi lo y), .int .u64 (divR hi lo y), .bool true]) ∧ ∃ n, w' = w.drewN n := by
  have H := Lib.hid (div64 hi lo y h0 h1 hy hl w)
  have z1 : decide (y ≤ hi) = false := by simp; omega
  go_enter Try.func20, Try.ntmps20
  go_wp2_with (go_at_call 23; refine H.out.mono ?_; rintro e w' ⟨rfl, n, rfl⟩)
  go_ret3
  exact ⟨rfl, n, rfl⟩
theorem word_div_no (hi lo y : Int) (h1 : y ≤ hi) (w : World) :
    Calls Try.prog 20 #[.int .u64 hi, .int .u64 lo, .int .u64 y] w fun e w' => e = .returned (.tuple #[.int .u64 0, .int .u64 0, .bool false]) ∧ w = w' := by
  have z1 : decide (y ≤ hi) = true := by simp; omega
  go_enter Try.func20, Try.ntmps20
  go_wp2
  go_ret3
  exact ⟨rfl, rfl⟩
theorem word_div_big (hi lo y : Int) (h0 : 0 < hi) (h1 : hi < y) (hy : y < 18446744073709551616) (hl : Wd lo) (w : World) :
    Calls Try.prog 20 #[.int .u64 hi, .int .u64 lo, .int .u64 y] w fun e w' => e = .returned (.tuple #[.int .u64 (divQ hi lo y), .int .u64 (divR hi lo y), .bool true]) ∧ w = w' := by
  have H := Lib.hid (div64_big hi lo y h0 h1 hy hl w)
  have z1 : decide (y ≤ hi) = false := by simp; omega
  go_enter Try.func20, Try.ntmps20
  go_wp2_with (go_at_call 23; refine H.out.mono ?_; rintro e w' ⟨rfl, rfl⟩)
  go_ret3
  exact ⟨rfl, rfl⟩
end Go.Proofs.Ytakpmlblfdecbaa
