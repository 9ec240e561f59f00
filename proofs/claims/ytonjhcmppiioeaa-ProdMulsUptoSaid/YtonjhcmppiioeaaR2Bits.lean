/-
  The contract of the reference's Bits (actuaryref02). Conditions: a slice that holds a number's digits; its length up to 2 to the 38.
-/
import Derived.Test.YtonjhcmppiioeaaRows
import Derived.Test.YtonjhcmppiioeaaNat0
import Derived.Test.YtonjhcmppiioeaaBit
import Derived.WalkKit
import Derived.Lib.Hide
import Derived.Outline
import Derived.LoopTactic
import Derived.Deep.LoopGhost
namespace Go.Proofs.Ytonjhcmppiioeaa
open Go Go.RowKit
set_option maxRecDepth 100000
set_option linter.unusedVariables false
theorem bitLen_top {x n : Nat} (hx : (dg 65536 x).length = n + 1) : x / 65536 ^ n % 65536 = x / 65536 ^ n ∧ 0 < x / 65536 ^ n ∧ x / 65536 ^ n < 65536 ∧ bitLen x = 16 * n + bitLen (x / 65536 ^ n) := by
  have hx0 : x ≠ 0 := by rintro rfl; simp [dg_zero] at hx
  have h1 := dg_lt (b := 65536) (by decide) x
  have h2 := (dg_ge (b := 65536) (by decide) x hx0).2
  rw [hx] at h1 h2
  have h3 : x / 65536 ^ n < 65536 := (Nat.div_lt_iff_lt_mul (Nat.pow_pos (by decide))).2 (by rw [Nat.mul_comm, ← Nat.pow_succ]; exact h1)
  have h4 : 0 < x / 65536 ^ n := Nat.div_pos (by simpa using h2) (Nat.pow_pos (by decide))
  refine ⟨Nat.mod_eq_of_lt h3, h4, h3, ?_⟩
  have e : (65536 : Nat) ^ n = 2 ^ (16 * n) := by rw [show (65536 : Nat) = 2 ^ 16 from rfl, ← Nat.pow_mul]
  rw [e] at h4 ⊢
  exact bitLen_shift x (16 * n) (by omega)
theorem bitLen_hit (d j : Nat) (h0 : d / 2 ^ j = 0) (h1 : 1 ≤ j ∧ d / 2 ^ (j - 1) ≠ 0) : bitLen d = j := by
  obtain ⟨i, rfl⟩ : ∃ i, j = i + 1 := ⟨j - 1, by omega⟩
  rw [Nat.add_sub_cancel] at h1
  refine bitLen_of d i ?_ ?_
  · rcases Nat.lt_or_ge d (2 ^ i) with h | h
    · exact absurd (Nat.div_eq_of_lt h) h1.2
    · exact h
  · rcases (Nat.div_eq_zero_iff).1 h0 with h | h
    · have := Nat.two_pow_pos (i + 1); omega
    · exact h

set_option maxHeartbeats 2000000 in
theorem ref2_bits (x : Nat) (A : Option Addr) (n c : Nat) (w : World) (hA : Holds16 w x A n c) (hn : n ≤ 274877906944) :
    Calls Try.prog 19 #[.slice A n c] w fun e w' => e = .returned (.int .i64 (bitLen x : Nat)) ∧ w = w' := by
  have hln := hA.len
  have hR := hA.1
  by_cases h0 : n = 0
  · subst h0
    have hx : x = 0 := by
      have := dg_lt (b := 65536) (by decide) x
      rw [← hln] at this
      simpa using this
    subst hx
    clear hln
    go_enter Try.func19, Try.ntmps19
    go_wp2
    go_ret
    exact ⟨rfl, rfl⟩
  · obtain ⟨m, rfl⟩ : ∃ m, n = m + 1 := ⟨n - 1, by omega⟩
    obtain ⟨t1, t2, t3, t4⟩ := bitLen_top (x := x) (n := m) hln.symm
    obtain ⟨ad, rfl, hadb, hc⟩ := val_at hR (k := m) (by omega)
    rw [dig16, t1] at hc
    obtain ⟨d, hd⟩ : ∃ d, x / 65536 ^ m = d := ⟨_, rfl⟩
    rw [hd] at hc t2 t3 t4
    have HT := Lib.hid t4
    have hz : (((m + 1 : Nat) : Int) == 0) = false := beq_eq_false_iff_ne.2 (by omega)
    clear hln t1 hd t4 hA
    go_enter Try.func19, Try.ntmps19
    go_wp2
    go_loopg [3, 4] 18 (fun g s i wr => ∃ j : Nat, j ≤ 16 ∧ 16 < g + j ∧ s = .int .i64 (16 * (m : Int) + j) ∧ i = .int .i64 ((d / 2 ^ j : Nat) : Int) ∧ Hid (j = 0 ∨ d / 2 ^ (j - 1) ≠ 0) ∧ wr = w)
    case atStart => exact ⟨0, by omega, by omega, by go_num, by simp, .inl rfl, rfl⟩
    case round =>
      obtain ⟨j, hj, hg, rfl, rfl, H, rfl⟩ := hrel
      have HD : Hid (d / 2 ^ (j + 1) = d / 2 ^ j / 2) := by show _ = _; rw [Nat.pow_succ, ← Nat.div_div_eq_div_mul]
      by_cases hz2 : d / 2 ^ j = 0
      · have HB : Hid (bitLen x = 16 * m + j) := by
          show _ = _
          rw [HT.out, bitLen_hit d j hz2 ?_]
          rcases H.out with h | h
          · subst h; simp at hz2; omega
          · refine ⟨?_, h⟩
            rcases Nat.eq_zero_or_pos j with h2 | h2
            · subst h2; simp at hz2; omega
            · exact h2
        rw [hz2]
        clear hz2
        go_wp2
        go_ret
        exact ⟨ret_i64 (by rw [HB.out]; go_num), rfl⟩
      · have hj16 : j < 16 := by
          rcases Nat.lt_or_ge j 16 with h | h
          · exact h
          · have : j = 16 := by omega
            subst this
            exact absurd (Nat.div_eq_of_lt (by simpa using t3)) hz2
        have HN : Hid (j + 1 = 0 ∨ d / 2 ^ (j + 1 - 1) ≠ 0) := .inr (by simpa using hz2)
        have hlt : d / 2 ^ j < 65536 := Nat.lt_of_le_of_lt (Nat.div_le_self _ _) t3
        obtain ⟨y, hy⟩ : ∃ y, d / 2 ^ j = y := ⟨_, rfl⟩
        rw [hy] at hz2 HD hlt ⊢
        have hy0 : 0 < y := by omega
        clear hy hz2
        go_wp2
        go_roundg (16 - j)
        case measure => omega
        case rel => exact ⟨j + 1, by omega, by omega, by go_num, by rw [HD.out]; go_num, HN, rfl⟩
end Go.Proofs.Ytonjhcmppiioeaa
