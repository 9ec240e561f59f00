/-
  The contracts of bound's choices and Bases. Conditions: choose from at most 200.
-/
import Derived.Test.YtakpmlblfdecbaaRows
import Derived.Test.YtakpmlblfdecbaaBoMath
import Derived.Test.YtakpmlblfdecbaaBunD
import Derived.Test.YtakpmlblfdecbaaBunW
import Derived.Test.YtakpmlblfdecbaaBunX
import Derived.WalkKit
import Derived.Lib.Hide
import Derived.Outline
import Derived.LoopTactic
import Derived.Deep.LoopGhost
import Derived.Lib.MinMax
import Derived.Below
namespace Go.Proofs.Ytakpmlblfdecbaa
open Go Go.RowKit
set_option maxRecDepth 100000
set_option linter.unusedVariables false
set_option linter.unusedSimpArgs false
set_option maxHeartbeats 1000000 in
theorem bound_choices (n m : Nat) (hn : n ≤ 1000) (hm : m ≤ n) (w : World) :
    Calls Try.prog 17 #[.int .i64 (n : Int), .int .i64 (m : Int)] w fun e w' => ∃ (x : Nat) (b : Bool), e = .returned (.tuple #[.int .u64 (x : Int), .bool b]) ∧ Word_ (ch n m) x b ∧ Below w.heap.size w w' := by
  have hB := Below.refl w.heap.size w
  go_enter Try.func17, Try.ntmps17
  go_wp2_with fail
  go_loopg [6, 7] (m + 1) (fun g s i wr => ∃ (j a : Nat), j ≤ m ∧ m < g + j ∧ i = .int .i64 ((j : Int) + 1) ∧ s = .int .u64 (a : Int) ∧ a < 18446744073709551616 ∧ Hid (ch (n - m + j) j = a) ∧ Below w.heap.size w wr)
  case atStart => exact ⟨0, 1, by omega, by omega, rfl, rfl, by omega, ch_zero _, hB⟩
  case round =>
    clear hB
    obtain ⟨j, a, hj, hg, rfl, rfl, ha, HA, hB⟩ := hrel
    by_cases hlt : j < m
    · have hf : n - m + j + 1 < 18446744073709551616 := by omega
      have hst := ch_mul (n - m + j) j
      rw [HA.out] at hst
      obtain ⟨c, hc⟩ : ∃ c, ch (n - m + j + 1) (j + 1) = c := ⟨_, rfl⟩
      rw [hc] at hst
      obtain ⟨hd1, hd2⟩ := ch_div (y := j + 1) (by omega) ha hf hst
      have C1 := Lib.hid (fun w => word_mul (a : Int) ((n - m + j + 1 : Nat) : Int) (by unfold Wd; omega) (by unfold Wd; omega) w)
      have q0 := mulHi_wd (x := (a : Int)) (y := ((n - m + j + 1 : Nat) : Int)) (by unfold Wd; omega) (by unfold Wd; omega)
      have q1 := mulLo_wd (a : Int) ((n - m + j + 1 : Nat) : Int)
      generalize mulHi (a : Int) ((n - m + j + 1 : Nat) : Int) = hi at *
      generalize mulLo (a : Int) ((n - m + j + 1 : Nat) : Int) = lo at *
      obtain ⟨f, hfe⟩ : ∃ f, n - m + j + 1 = f := ⟨_, rfl⟩
      have e1 : ((n : Int) - (m : Int) + ((j : Int) + 1)) = (f : Int) := by omega
      rw [hfe] at C1 hf
      have HC := Lib.hid hc
      have E1 := Lib.hid e1
      clear hc hst HA hfe e1
      by_cases hcw : c < 18446744073709551616
      · have C2 := Lib.hid (fun w => word_div_yes hi lo ((j + 1 : Nat) : Int) q0 (hd1.2 hcw) (by omega) q1 w)
        rw [hd2] at C2
        generalize divR hi lo ((j + 1 : Nat) : Int) = rr at *
        clear hd1 hd2 q0 q1
        go_wp2_with (first | (go_at_call 19; rw [E1.out]; refine (C1.out _).mono ?_; rintro e w' ⟨rfl, rfl⟩) | (go_at_call 20; refine (C2.out _).mono ?_; rintro e w' ⟨rfl, nn, rfl⟩))
        go_roundg (m - j)
        case measure => omega
        case rel => exact ⟨j + 1, c, by omega, by omega, by go_num, rfl, hcw, HC, below_drewN_ hB _⟩
      · have C2 := Lib.hid (fun w => word_div_no hi lo ((j + 1 : Nat) : Int) (by have := mt hd1.1 hcw; omega) w)
        have hle : c ≤ ch n m := by rw [← HC.out]; exact ch_mono_ hm (by omega) (by omega)
        clear hd1 hd2 q0 q1
        go_wp2_with (first | (go_at_call 19; rw [E1.out]; refine (C1.out _).mono ?_; rintro e w' ⟨rfl, rfl⟩) | (go_at_call 20; refine (C2.out _).mono ?_; rintro e w' ⟨rfl, rfl⟩))
        go_ret2
        exact ⟨0, false, rfl, .inr ⟨rfl, rfl, by omega⟩, hB⟩
    · obtain rfl : j = m := by omega
      have e : ch n j = a := by rw [← HA.out, Nat.sub_add_cancel hm]
      go_wp2
      go_ret2
      exact ⟨a, true, rfl, .inl ⟨rfl, e, ha⟩, hB⟩
set_option maxHeartbeats 1000000 in
theorem bound_bases (n m most : Int) (hn : n ≤ 1000) (k0 : -9223372036854775808 ≤ m) (k1 : m ≤ 9223372036854775807) (w : World) :
    Calls Try.prog 12 #[.int .i64 n, .int .i64 m, .int .i64 most] w fun e w' => e = .returned (.tuple #[.int .i64 (basesV n m most).1, .bool (basesV n m most).2]) ∧ Below w.heap.size w w' := by
  have hB := Below.refl w.heap.size w
  have hM := mostI_bd most
  by_cases hout : m < 0 ∨ n < m
  · have e : basesV n m most = (0, true) := by unfold basesV; rw [if_pos hout]
    rw [e]
    go_enter Try.func12, Try.ntmps12
    go_wp2
    all_goals
      first | (exfalso; omega) | (go_ret2; exact ⟨rfl, hB⟩)
  · obtain ⟨m, rfl⟩ := Int.eq_ofNat_of_zero_le (show 0 ≤ m from by omega)
    obtain ⟨n, rfl⟩ := Int.eq_ofNat_of_zero_le (show 0 ≤ n from by omega)
    have hmn : m ≤ n := by omega
    obtain ⟨k, hk⟩ : ∃ k, min m (n - m) = k := ⟨_, rfl⟩
    have hkn : k ≤ n := by omega
    have hkc : ch n k = ch n m := by
      rcases Nat.le_total m (n - m) with h | h
      · rw [← hk, Nat.min_eq_left h]
      · rw [← hk, Nat.min_eq_right h]; exact ch_sym n _ _ (by omega)
    have C := Lib.hid (bound_choices n k (by omega) hkn w)
    rw [hkc] at C
    have e : basesV n m most = if ((ch n m : Nat) : Int) ≤ mostI most then (((ch n m : Nat) : Int), true) else (mostI most + 1, false) := by
      unfold basesV; rw [if_neg hout]; simp only [Int.toNat_natCast]
    rw [e]
    have EM : Hid (min (max most 0) 1099511627776 = mostI most) := rfl
    have EK : Hid (min (m : Int) ((n : Int) - (m : Int)) = (k : Int)) := by show _ = _; omega
    obtain ⟨M, hMe⟩ : ∃ M, mostI most = M := ⟨_, rfl⟩
    rw [hMe] at EM hM ⊢
    obtain ⟨c, hc⟩ : ∃ c, ch n m = c := ⟨_, rfl⟩
    rw [hc] at C ⊢
    clear hkc hc hMe e hk
    go_enter Try.func12, Try.ntmps12
    go_wp2_with (first | simp only [EM.out] | (go_at_call 17; rw [EK.out]; refine C.out.mono ?_; rintro e w' ⟨x, b, rfl, (⟨rfl, rfl, hx⟩ | ⟨rfl, rfl, hx⟩), hB⟩))
    all_goals
      go_ret2
      refine ⟨?_, hB⟩
      first | (rw [if_pos (by omega)]; first | done | rfl) | (rw [if_neg (by omega)]; first | done | rfl) | rfl
end Go.Proofs.Ytakpmlblfdecbaa
