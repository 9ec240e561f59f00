/-
  The contract of nat.Nat's Bits: how many bits a number has. Conditions: the value is a number; its length is up to 2 to the 40.
-/
import Derived.Test.YtnnhcicdildfaaaRows
import Derived.Test.YtnnhcicdildfaaaBunE
import Derived.Test.YtnnhcicdildfaaaBunW
import Derived.Test.YtnnhcicdildfaaaBit
import Derived.WalkKit
import Derived.Lib.Hide
import Derived.Outline
namespace Go.Proofs.Ytnnhcicdildfaaa
open Go Go.RowKit
set_option maxRecDepth 100000
set_option linter.unusedVariables false
theorem bitLen_topB {x n : Nat} (hx : (dg 18446744073709551616 x).length = n + 1) : wd x n = x / 18446744073709551616 ^ n ∧ 0 < wd x n ∧ bitLen x = 64 * n + bitLen (wd x n) := by
  have hx0 : x ≠ 0 := by rintro rfl; simp [dg_zero] at hx
  have h1 := dg_lt (b := 18446744073709551616) (by decide) x
  have h2 := (dg_ge (b := 18446744073709551616) (by decide) x hx0).2
  rw [hx] at h1 h2
  have h3 : x / 18446744073709551616 ^ n < 18446744073709551616 := (Nat.div_lt_iff_lt_mul (Nat.pow_pos (by decide))).2 (by rw [Nat.mul_comm, ← Nat.pow_succ]; exact h1)
  have h4 : 0 < x / 18446744073709551616 ^ n := Nat.div_pos (by simpa using h2) (Nat.pow_pos (by decide))
  have h5 : wd x n = x / 18446744073709551616 ^ n := Nat.mod_eq_of_lt h3
  refine ⟨h5, by omega, ?_⟩
  rw [h5]
  have e : (18446744073709551616 : Nat) ^ n = 2 ^ (64 * n) := by rw [show (18446744073709551616 : Nat) = 2 ^ 64 from rfl, ← Nat.pow_mul]
  rw [e] at h4 ⊢
  exact bitLen_shift x (64 * n) (by omega)
theorem nat_zero_yes (A : Option Addr) (c : Nat) (w : World) : Calls Try.prog 24 #[.agg #[.slice A 0 c]] w fun e w' => e = .returned (.bool true) ∧ Below w.heap.size w w' := nat_zero A 0 c w
theorem nat_zero_no (A : Option Addr) (n c : Nat) (hn : n ≠ 0) (w : World) : Calls Try.prog 24 #[.agg #[.slice A n c]] w fun e w' => e = .returned (.bool false) ∧ Below w.heap.size w w' := by
  have := nat_zero A n c w
  rw [decide_eq_false hn] at this
  exact this
theorem len_zero {x : Nat} (h : (dg 18446744073709551616 x).length = 0) : x = 0 := by
  have h1 := dg_lt (b := 18446744073709551616) (by decide) x
  rw [h] at h1
  omega
set_option maxHeartbeats 2000000 in
theorem nat_bits (x : Nat) (A : Option Addr) (n c : Nat) (w : World) (hA : WordsIn w x A n c) (hn : n ≤ 1099511627776) :
    Calls Try.prog 26 #[.agg #[.slice A n c]] w fun e w' => e = .returned (.int .i64 (bitLen x : Nat)) ∧ Below w.heap.size w w' := by
  have hln := hA.len
  by_cases h0 : n = 0
  · subst h0
    have hx : x = 0 := len_zero hln
    subst hx
    have HZ := Lib.hid (fun w => nat_zero_yes A c w)
    clear hln hA
    go_enter Try.func26, Try.ntmps26
    go_wp2_with fail
    refine (HZ.out _).mono ?_
    rintro e w1 ⟨rfl, hb⟩
    have hB := keep_below ((Below.refl _ w).alloc (Nat.le_refl _) _) hb
    clear hb
    go_wp2
    go_ret
    exact ⟨rfl, hB⟩
  · obtain ⟨m, rfl⟩ : ∃ m, n = m + 1 := ⟨n - 1, by omega⟩
    obtain ⟨h1, h2, h3⟩ := bitLen_topB hln
    have hlt := wd_lt x m
    obtain ⟨ad, rfl, hadb, hx⟩ := val_at hA.1 (k := m) (by omega)
    rw [wd_get] at hx
    have HZ := Lib.hid (fun w => nat_zero_no (some ad) (m + 1) c (by omega) w)
    have WL := (fun w => word_len (wd x m : Nat) ⟨by omega, by omega⟩ w)
    have hbl : bitLen (wd x m) ≤ 64 := bitLen_le _ 64 (by simpa using hlt)
    have e : lenN ((wd x m : Nat) : Int) = ((bitLen (wd x m) : Nat) : Int) := by unfold lenN; simp
    rw [e] at WL
    obtain ⟨a, ha⟩ : ∃ a, wd x m = a := ⟨_, rfl⟩
    rw [ha] at hx WL hbl h3
    obtain ⟨b, hbe⟩ : ∃ b, bitLen a = b := ⟨_, rfl⟩
    rw [hbe] at WL hbl h3
    have HW := Lib.hid WL
    have H3 := Lib.hid h3
    clear WL h3 hbe ha e hlt h1 h2 hln h0 hA
    go_enter Try.func26, Try.ntmps26
    go_wp2_with fail
    refine (HZ.out _).mono ?_
    rintro e w1 ⟨rfl, hb⟩
    have hB := keep_below ((Below.refl _ w).alloc (Nat.le_refl _) _) hb
    have g1 : w1.cell? ⟨w.heap.size, 0, none⟩ = some (.slice (some ad) (m + 1) c) := keep_cell hb ((Blk.new w 25 #[.slice (some ad) (m + 1) c]).cell 0)
    have g2 : w1.cell? (ad.add m) = some (.int .u64 a) := (hB.cell (by rw [block_of_add]; exact hadb)).trans hx
    clear hb hx
    go_wp2_with fail
    refine (HW.out _).mono ?_
    rintro e w2 ⟨rfl, rfl⟩
    go_wp2
    go_ret
    exact ⟨by rw [H3.out]; go_num, hB⟩
end Go.Proofs.Ytnnhcicdildfaaa
