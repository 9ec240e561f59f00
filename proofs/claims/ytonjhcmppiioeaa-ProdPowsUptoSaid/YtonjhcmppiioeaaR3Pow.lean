/-
  The contract of the reference's Pow (actuaryref03): a power. Conditions: a slice that holds a number's digits; the number is 0 or 1, or the power's length is up to 2 to the 35.
-/
import Derived.Test.YtonjhcmppiioeaaRows
import Derived.Test.YtonjhcmppiioeaaR3Mul
import Derived.Test.YtonjhcmppiioeaaR2Bits
import Derived.Test.YtonjhcmppiioeaaNDig
import Derived.WalkKit
import Derived.Lib.Hide
import Derived.Outline
import Derived.LoopTactic
import Derived.Deep.LoopGhost
namespace Go.Proofs.Ytonjhcmppiioeaa
open Go Go.RowKit
set_option maxRecDepth 100000
set_option linter.unusedVariables false
/-- A number's digits, in new memory or in what was handed in. -/
def GivesH (w : World) (x : Nat) (e : Ending) (w' : World) : Prop := ∃ (A : Option Addr) (n c : Nat), e = .returned (.slice A n c) ∧ Holds16 w' x A n c ∧ Below w.heap.size w w'
theorem holds_one (w : World) (g : Nat) (h : Blk w g 3 #[.int .i64 1]) : Holds16 w 1 (some ⟨g, 0, none⟩) 1 1 := by
  have e : dg 65536 1 = [1] := by
    rw [dg_step (by decide) (by decide)]
    rfl
  refine ⟨?_, Nat.le_refl _, by omega⟩
  rw [e]
  refine ⟨rfl, fun _ => ⟨_, rfl, h.lt, fun j u hu => ?_⟩⟩
  match j, hu with
  | 0, hu => simp [vals] at hu; subst hu; exact h.cell 0
theorem pow_len16 {x n : Nat} (hx : (dg 65536 x).length ≤ n) : ∀ i, (dg 65536 (x ^ i)).length ≤ n * i + 1
  | 0 => by rw [Nat.pow_zero]; exact dg_len_le (by decide) _ _ (by rw [Nat.mul_zero]; decide)
  | i + 1 => by
    rw [Nat.pow_succ]
    have := mul_len16 (pow_len16 hx i) hx
    rw [Nat.mul_succ]
    omega
theorem bit_one {x : Nat} (h : bitLen x = 1) : x = 1 := by
  unfold bitLen at h
  split at h
  · omega
  · rename_i h0
    have h1 := @Nat.lt_log2_self x
    rw [show x.log2 = 0 from by omega] at h1
    omega
set_option maxHeartbeats 4000000 in
theorem ref3_pow_small (x k : Nat) (A : Option Addr) (n c : Nat) (w : World) (hA : Holds16 w x A n c) (hn : n ≤ 274877906944) (hb : bitLen x ≤ 1) (hk : k ≤ 9223372036854775807) :
    Calls Try.prog 21 #[.slice A n c, .int .i64 k] w (GivesH w (x ^ k)) := by
  have hln := hA.len
  obtain ⟨b1, b2, b5⟩ := box1 w 3 #[.int .i64 1]
  have h1 := holds_one _ _ b2
  have hAx := hA.below b1
  have hpow : (k = 0 → x ^ k = 1) ∧ (0 < k → x ^ k = x) := by
    refine ⟨fun h => by rw [h, Nat.pow_zero], fun h => ?_⟩
    by_cases h0 : x = 0
    · rw [h0, Nat.zero_pow h]
    · have : x = 1 := bit_one (by have : 0 < bitLen x := by unfold bitLen; rw [if_neg h0]; omega
                                  omega)
      rw [this, Nat.one_pow]
  by_cases hn0 : n = 0
  · subst hn0
    by_cases hk0 : k = 0
    · have HG : Hid (GivesH w (x ^ k) (.returned (.slice (some ⟨w.heap.size, 0, none⟩) 1 1)) (w.alloc (.cells #[.int .i64 1] 3))) := by
        rw [hpow.1 hk0]
        exact ⟨_, _, _, rfl, h1, b1⟩
      subst hk0
      clear hpow hln hA hAx h1 b1 b2 b5
      go_enter Try.func21, Try.ntmps21
      go_wp2
      go_ret
      exact HG.out
    · have HG : Hid (GivesH w (x ^ k) (.returned (.slice A 0 c)) (w.alloc (.cells #[.int .i64 1] 3))) := by
        rw [hpow.2 (by omega)]
        exact ⟨_, _, _, rfl, hAx, b1⟩
      have hkd : decide ((0 : Int) < (k : Int)) = true := by simp; omega
      clear hpow hln hA hAx h1 b1 b2 b5
      go_enter Try.func21, Try.ntmps21
      go_wp2
      go_ret
      exact HG.out
  · have hx1 : x = 1 := bit_one (by
      have h0 : x ≠ 0 := by rintro rfl; rw [dg_zero] at hln; simp at hln; omega
      have : 0 < bitLen x := by unfold bitLen; rw [if_neg h0]; omega
      omega)
    have hnz : ((n : Int) == 0) = false := beq_eq_false_iff_ne.2 (by omega)
    have RB := ref2_bits x A n c (w.alloc (.cells #[.int .i64 1] 3)) hAx hn
    rw [show bitLen x = 1 from by rw [hx1]; decide +kernel] at RB
    have HRB := Lib.hid RB
    by_cases hk0 : k = 0
    · have HG : Hid (GivesH w (x ^ k) (.returned (.slice (some ⟨w.heap.size, 0, none⟩) 1 1)) (w.alloc (.cells #[.int .i64 1] 3))) := by
        rw [hpow.1 hk0]
        exact ⟨_, _, _, rfl, h1, b1⟩
      subst hk0
      clear hpow hln hA hAx h1 b1 b2 b5 RB hx1
      go_enter Try.func21, Try.ntmps21
      go_wp2_with fail
      refine HRB.out.mono ?_
      rintro e w' ⟨rfl, rfl⟩
      go_wp2
      go_ret
      exact HG.out
    · have HG : Hid (GivesH w (x ^ k) (.returned (.slice A n c)) (w.alloc (.cells #[.int .i64 1] 3))) := by
        rw [hpow.2 (by omega)]
        exact ⟨_, _, _, rfl, hAx, b1⟩
      have hkd : decide ((0 : Int) < (k : Int)) = true := by simp; omega
      clear hpow hln hA hAx h1 b1 b2 b5 RB hx1
      go_enter Try.func21, Try.ntmps21
      go_wp2_with fail
      refine HRB.out.mono ?_
      rintro e w' ⟨rfl, rfl⟩
      go_wp2
      go_ret
      exact HG.out
set_option maxHeartbeats 4000000 in
theorem ref3_pow_loop (x k : Nat) (A : Option Addr) (n c : Nat) (w : World) (hA : Holds16 w x A n c) (hn : n ≤ 34359738368) (hb : 2 ≤ bitLen x) (hkn : n * k ≤ 34359738368) (hk : k ≤ 9223372036854775807) :
    Calls Try.prog 21 #[.slice A n c, .int .i64 k] w (GivesH w (x ^ k)) := by
  have hln := hA.len
  obtain ⟨b1, b2, b5⟩ := box1 w 3 #[.int .i64 1]
  have h1 := holds_one _ _ b2
  have hn0 : n ≠ 0 := by
    rintro rfl
    have h := dg_lt (b := 65536) (by decide) x
    rw [← hln] at h
    have : x = 0 := by simpa using h
    rw [this] at hb
    exact absurd hb (by decide)
  have hnz : ((n : Int) == 0) = false := beq_eq_false_iff_ne.2 (by omega)
  have RB := ref2_bits x A n c (w.alloc (.cells #[.int .i64 1] 3)) (hA.below b1) (by omega)
  obtain ⟨z, hz⟩ : ∃ z, bitLen x = z := ⟨_, rfl⟩
  rw [hz] at RB hb
  have hz1 : ((z : Int) == 1) = false := beq_eq_false_iff_ne.2 (by omega)
  have HRB := Lib.hid RB
  have HA := Lib.hid (fun w' (hb : Below w.heap.size w w') => hA.below hb)
  have H1 := Lib.hid h1
  have HB1 := Lib.hid b1
  have hxl := Lib.hid hln
  have hmono : Hid (∀ i, i ≤ k → n * i + 1 ≤ 34359738369) := fun i hi => by have := Nat.mul_le_mul_left n hi; omega
  clear hln hA h1 b1 b2 b5 RB hz hb
  go_enter Try.func21, Try.ntmps21
  go_wp2_with fail
  refine HRB.out.mono ?_
  rintro e w' ⟨rfl, rfl⟩
  have hW1 := HB1.out
  have hO1 := Lib.hid H1.out
  clear H1 HB1 HRB
  go_wp2_with fail
  generalize w.alloc (.cells #[.int .i64 1] 3) = W1 at *
  go_loopg [5, 6] (k + 1) (fun g o ix wr => ∃ (i : Nat) (A' : Option Addr) (n' c' : Nat), i ≤ k ∧ k < g + i ∧ ix = .int .i64 i ∧ o = .slice A' n' c' ∧ Hid (Holds16 wr (x ^ i) A' n' c') ∧ Below w.heap.size w wr)
  case atStart => exact ⟨0, _, _, _, Nat.zero_le _, by omega, rfl, rfl, by show Holds16 _ _ _ _ _; rw [Nat.pow_zero]; exact hO1.out, hW1⟩
  case round =>
    obtain ⟨i, A', n', c', hi, hg, rfl, rfl, hO, hB⟩ := hrel
    by_cases hlt : i < k
    · have hl' : n' ≤ 34359738369 := by
        have h2 := pow_len16 (x := x) (n := n) (by have := hxl.out; omega) i
        have h3 := hmono.out i hi
        rw [hO.out.len]; omega
      have M := ref3_mul (x ^ i) x A' A n' n c' c wr hO.out (HA.out _ hB) (by omega) (by omega)
      rw [← Nat.pow_succ] at M
      have HM := Lib.hid M
      clear M
      go_wp2_with fail
      refine HM.out.mono ?_
      rintro e w' ⟨A2, n2, c2, rfl, hh, hb⟩
      have hB2 := keep_below hB hb
      have HN := Lib.hid hh
      clear hb hh HM
      go_wp2
      go_roundg (k - i)
      case measure => omega
      case rel => exact ⟨i + 1, _, _, _, by omega, by omega, by go_num, rfl, HN, hB2⟩
    · have hik : i = k := by omega
      subst hik
      go_wp2
      go_ret
      exact ⟨_, _, _, rfl, hO.out, hB⟩
end Go.Proofs.Ytonjhcmppiioeaa
