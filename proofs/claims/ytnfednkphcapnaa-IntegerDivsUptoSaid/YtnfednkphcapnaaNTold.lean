/-
  The contracts of what is told of a number by Uint, Bit and Twos, and of its words in a row of the call's own. Conditions: the value is a number; its length is up to 2 to the 40; Twos: TrailingZeros64's table reads as its initialiser lays it.
-/
import Derived.Test.YtnfednkphcapnaaRows
import Derived.Test.YtnfednkphcapnaaBunO
import Derived.Test.YtnfednkphcapnaaBunN
import Derived.Test.YtnfednkphcapnaaBunT
import Derived.Test.YtnfednkphcapnaaBunW
import Derived.WalkKit
import Derived.Lib.Hide
import Derived.Outline
import Derived.LoopTactic
import Derived.Deep.LoopGhost
namespace Go.Proofs.Ytnfednkphcapnaa
open Go Go.RowKit
set_option maxRecDepth 100000
set_option linter.unusedVariables false
theorem nat_uint_one (x : Nat) (A : Option Addr) (n c : Nat) (w : World) (hA : WordsIn w x A n c) (hn : n ≤ 1) :
    Calls Try.prog 63 #[.agg #[.slice A n c]] w fun e w' => e = .returned (.tuple #[.int .u64 (wd x 0 : Nat), .bool true]) ∧ Below w.heap.size w w' := by
  have WX := (fun w' (h : Below w.heap.size w w') => nat_word x A n c 0 w' (hA.below h))
  obtain ⟨a, ha⟩ : ∃ a, wd x 0 = a := ⟨_, rfl⟩
  rw [ha] at WX ⊢
  have HWX := Lib.hid WX
  have h1 : decide ((1 : Int) < (n : Int)) = false := by simp; omega
  have h2 : decide ((n : Int) > 1) = false := by simp; omega
  have h3 : ¬ 1 < n := by omega
  clear WX ha hA
  go_enter Try.func63, Try.ntmps63
  go_wp2_with fail
  obtain ⟨b1, b2, b5⟩ := box1 w 27 #[.slice A n c]
  refine (HWX.out _ b1).mono ?_
  rintro e w1 ⟨rfl, hb⟩
  have hB := keep_below b1 hb
  clear hb b1 b2 b5
  go_wp2
  go_ret2
  exact ⟨rfl, hB⟩
theorem nat_uint_more (A : Option Addr) (n c : Nat) (w : World) (hn : 1 < n) :
    Calls Try.prog 63 #[.agg #[.slice A n c]] w fun e w' => e = .returned (.tuple #[.int .u64 0, .bool false]) ∧ Below w.heap.size w w' := by
  go_enter Try.func63, Try.ntmps63
  go_wp2
  go_ret2
  exact ⟨rfl, (Below.refl _ w).alloc (Nat.le_refl _) _⟩
theorem bit_wd (x k : Nat) : wd x (k / 64) / 2 ^ (k % 64) % 2 = x / 2 ^ k % 2 := by
  have h := wd_shr x k 0
  have e : wd (x / 2 ^ k) 0 % 2 = x / 2 ^ k % 2 := by
    unfold wd
    rw [Nat.pow_zero, Nat.div_one]
    exact Nat.mod_mod_of_dvd _ (by decide)
  rw [← e, h, Nat.add_zero]
  obtain ⟨r, hr⟩ : ∃ r, k % 64 = r := ⟨_, rfl⟩
  have hr64 : r < 64 := by omega
  rw [hr]
  obtain ⟨s, hs⟩ : ∃ s, 64 - r = s + 1 := ⟨63 - r, by omega⟩
  rw [hs, Nat.pow_succ, Nat.mul_comm (2 ^ s) 2, Nat.mul_assoc, Nat.add_mul_mod_self_left]
def TW (x t : Nat) : Prop := (x = 0 ∧ t = 0) ∨ ∃ m, x = 2 ^ t * (2 * m + 1)
def twosN (x : Nat) : Nat := if x = 0 then 0 else Lib.ctzFrom x x
theorem tw_bit {x t : Nat} {m : Nat} (h : x = 2 ^ t * (2 * m + 1)) : x / 2 ^ t % 2 = 1 := by
  rw [h, Nat.mul_div_cancel_left _ (Nat.two_pow_pos t)]; omega
theorem tw_low {x t j : Nat} {m : Nat} (h : x = 2 ^ t * (2 * m + 1)) (hj : j < t) : x / 2 ^ j % 2 = 0 := by
  obtain ⟨s, rfl⟩ : ∃ s, t = j + (s + 1) := ⟨t - j - 1, by omega⟩
  rw [h, Nat.pow_add, Nat.mul_assoc, Nat.mul_div_cancel_left _ (Nat.two_pow_pos j), Nat.pow_succ, Nat.mul_comm (2 ^ s) 2, Nat.mul_assoc]
  exact Nat.mul_mod_right _ _
theorem tw_pos {x t : Nat} {m : Nat} (h : x = 2 ^ t * (2 * m + 1)) : x ≠ 0 := by
  have := Nat.two_pow_pos t
  rw [h]
  exact Nat.ne_of_gt (Nat.mul_pos this (by omega))
theorem tw_N (x : Nat) : TW x (twosN x) := by
  unfold TW twosN
  by_cases h : x = 0
  · exact .inl ⟨h, by rw [if_pos h]⟩
  · rw [if_neg h]
    obtain ⟨m, hm, _⟩ := Lib.ctzFrom_spec x x (by omega) Nat.lt_two_pow_self
    exact .inr ⟨m, hm⟩
/-- The lowest 1: where all below is 0. -/
theorem tw_find {x t : Nat} (hlow : ∀ j, j < t → x / 2 ^ j % 2 = 0) (hx : x = 0 → t = 0) (h1 : x ≠ 0 → x / 2 ^ t % 2 = 1) : t = twosN x := by
  rcases tw_N x with ⟨e, h⟩ | ⟨m, h⟩
  · rw [hx e, h]
  · have h0 := tw_pos h
    rcases Nat.lt_trichotomy t (twosN x) with hl | hl | hl
    · have := tw_low h hl
      rw [h1 h0] at this; omega
    · exact hl
    · have := tw_bit h
      rw [hlow _ hl] at this; omega
theorem tw_of {x t m : Nat} (h : x = 2 ^ t * (2 * m + 1)) : t = twosN x :=
  tw_find (fun j hj => tw_low h hj) (fun e => absurd e (tw_pos h)) (fun _ => tw_bit h)
theorem tw_word {x k : Nat} (h0 : x % 18446744073709551616 ^ k = 0) (hw : wd x k ≠ 0) : 64 * k + Lib.ctz 64 (wd x k) = twosN x := by
  have hlt := wd_lt x k
  obtain ⟨m, hm, hc⟩ := Lib.ctzFrom_spec 64 (wd x k) (by omega) (by simpa using hlt)
  have ec : Lib.ctz 64 (wd x k) = Lib.ctzFrom 64 (wd x k) := by unfold Lib.ctz; rw [if_neg hw]
  rw [ec]
  generalize Lib.ctzFrom 64 (wd x k) = c at *
  obtain ⟨s, hs⟩ : ∃ s, 64 = c + (s + 1) := ⟨63 - c, by omega⟩
  obtain ⟨q, hq⟩ : ∃ q, x / 18446744073709551616 ^ k / 18446744073709551616 = q := ⟨_, rfl⟩
  have e1 : x / 18446744073709551616 ^ k = 18446744073709551616 * q + wd x k := by rw [← hq]; exact (Nat.div_add_mod _ _).symm
  have e2 : x = 18446744073709551616 ^ k * (x / 18446744073709551616 ^ k) := by
    have := Nat.div_add_mod x (18446744073709551616 ^ k)
    rw [h0] at this; omega
  have e3 : (18446744073709551616 : Nat) = 2 ^ c * (2 * 2 ^ s) := by
    rw [show (18446744073709551616 : Nat) = 2 ^ 64 from rfl, hs, Nat.pow_add, Nat.pow_succ, Nat.mul_comm (2 ^ s) 2]
  refine tw_of (m := 2 ^ s * q + m) ?_
  have e4 : (18446744073709551616 : Nat) ^ k = 2 ^ (64 * k) := by rw [show (18446744073709551616 : Nat) = 2 ^ 64 from rfl, ← Nat.pow_mul]
  have e5 : 18446744073709551616 * q + wd x k = 2 ^ c * (2 * (2 ^ s * q + m) + 1) := by
    rw [hm]
    conv => lhs; rw [e3]
    rw [Nat.mul_assoc, ← Nat.mul_add, Nat.mul_add 2, Nat.mul_assoc, Nat.add_assoc]
  rw [e2, e1, e5, e4, ← Nat.mul_assoc, ← Nat.pow_add]
end Go.Proofs.Ytnfednkphcapnaa
