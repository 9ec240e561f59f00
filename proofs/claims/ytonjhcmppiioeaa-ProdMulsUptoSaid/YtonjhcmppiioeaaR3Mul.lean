/-
  The contract of the reference's Mul (actuaryref03): the product. Conditions: slices that hold a number's digits; lengths up to 2 to the 36.
-/
import Derived.Test.YtonjhcmppiioeaaRows
import Derived.Test.YtonjhcmppiioeaaR2Add
import Derived.Test.YtonjhcmppiioeaaR2Shl
import Derived.Test.YtonjhcmppiioeaaR2Small
import Derived.Test.YtonjhcmppiioeaaNLook
import Derived.WalkKit
import Derived.Lib.Hide
import Derived.Outline
import Derived.LoopTactic
import Derived.Deep.LoopGhost
import Derived.Deep.RegionHeld3
namespace Go.Proofs.Ytonjhcmppiioeaa
open Go Go.RowKit
set_option maxRecDepth 100000
set_option linter.unusedVariables false
theorem mul_len16 {x y n m : Nat} (hx : (dg 65536 x).length ≤ n) (hy : (dg 65536 y).length ≤ m) : (dg 65536 (x * y)).length ≤ n + m := by
  refine dg_len_le (by decide) _ _ ?_
  rw [Nat.pow_add]
  exact Nat.mul_lt_mul'' (Nat.lt_of_lt_of_le (dg_lt (by decide) x) (Nat.pow_le_pow_right (by decide) hx)) (Nat.lt_of_lt_of_le (dg_lt (by decide) y) (Nat.pow_le_pow_right (by decide) hy))
theorem mul_step16 (x y j : Nat) : x * (y / 65536 ^ (j + 1)) * 2 ^ 16 + (x * (y / 65536 ^ j % 65536) + 0) = x * (y / 65536 ^ j) := by
  conv => rhs; rw [dig_up 65536 y j]
  rw [Nat.mul_add, show (2 : Nat) ^ 16 = 65536 from by decide, Nat.mul_assoc, Nat.mul_comm (y / 65536 ^ (j + 1)) 65536]
  exact congrArg _ (Nat.add_zero _)
theorem holds_nil (w : World) : Holds16 w 0 none 0 0 := ⟨Reads.none_, Nat.le_refl _, by omega⟩
set_option maxHeartbeats 4000000 in
theorem ref3_mul (x y : Nat) (A D : Option Addr) (n m c d : Nat) (w : World) (hA : Holds16 w x A n c) (hD : Holds16 w y D m d) (hn : n ≤ 68719476736) (hm : m ≤ 68719476736) :
    Calls Try.prog 15 #[.slice A n c, .slice D m d] w fun e w' => ∃ (A' : Option Addr) (n' c' : Nat), e = .returned (.slice A' n' c') ∧ Holds16 w' (x * y) A' n' c' ∧ Below w.heap.size w w' := by
  have hlx := Lib.hid hA.len
  have hly := Lib.hid hD.len
  have HA := Lib.hid (fun w' (hb : Below w.heap.size w w') => hA.below hb)
  have hR := hD.1
  have H0 : Hid (x * (y / 65536 ^ m) = 0) := by
    show _ = _
    rw [Nat.div_eq_of_lt (by rw [hly.out]; exact dg_lt (by decide) y), Nat.mul_zero]
  clear hA hD
  go_enter Try.func15, Try.ntmps15
  go_wp2_with fail
  go_loopg [5, 6] (m + 1) (fun g o ix wr => ∃ (k : Nat) (A' : Option Addr) (n' c' : Nat), k ≤ m ∧ k < g ∧ ix = .int .i64 ((k : Int) - 1) ∧ o = .slice A' n' c' ∧ Hid (Holds16 wr (x * (y / 65536 ^ k)) A' n' c') ∧ Below w.heap.size w wr)
  case atStart => exact ⟨m, none, 0, 0, Nat.le_refl _, by omega, rfl, rfl, by show Holds16 _ _ _ _ _; rw [H0.out]; exact holds_nil _, Below.refl _ _⟩
  case round =>
    obtain ⟨k, A', n', c', hk, hg, rfl, rfl, hO, hB⟩ := hrel
    by_cases hk0 : k = 0
    · subst hk0
      have hO2 := hO.out
      rw [Nat.pow_zero, Nat.div_one] at hO2
      have HG := Lib.hid hO2
      clear hO hO2
      go_wp2
      go_ret
      exact ⟨_, _, _, rfl, HG.out, hB⟩
    · obtain ⟨j, rfl⟩ : ∃ j, k = j + 1 := ⟨k - 1, by omega⟩
      obtain ⟨ad, rfl, hadb, hc0⟩ := val_at (hR.below hB) (k := j) (by omega)
      rw [dig16] at hc0
      have hlt : y / 65536 ^ j % 65536 < 65536 := Nat.mod_lt _ (by decide)
      have hst := mul_step16 x y j
      have hnl : n' ≤ n + m := by
        rw [hO.out.len]
        exact mul_len16 (by have := hlx.out; omega) (by have := hly.out; have := dg_len_mono (b := 65536) (by decide) (Nat.div_le_self y (65536 ^ (j + 1))); omega)
      have hzl : ∀ {w' : World} {A'' : Option Addr} {n'' c'' : Nat}, Holds16 w' (x * (y / 65536 ^ (j + 1)) * 2 ^ 16) A'' n'' c'' → n'' ≤ n + m + 1 := fun h => by
        rw [h.len]
        have h2 := mul_len16 (x := x) (y := y / 65536 ^ (j + 1) * 2 ^ 16) (n := n) (m := m) (by have := hlx.out; omega) (by
          have h3 : y / 65536 ^ (j + 1) * 2 ^ 16 ≤ y := by
            rw [show (2 : Nat) ^ 16 = 65536 from by decide]
            have h4 := Nat.div_mul_le_self y (65536 ^ (j + 1))
            have h5 : 65536 ≤ 65536 ^ (j + 1) := by rw [Nat.pow_succ]; exact Nat.le_mul_of_pos_left _ (Nat.pow_pos (by decide))
            exact Nat.le_trans (Nat.mul_le_mul_left _ h5) h4
          have := dg_len_mono (b := 65536) (by decide) h3
          have := hly.out; omega)
        rw [Nat.mul_assoc]
        omega
      obtain ⟨dd, hdd⟩ : ∃ v, y / 65536 ^ j % 65536 = v := ⟨_, rfl⟩
      rw [hdd] at hc0 hlt hst
      have S1 := Lib.hid (fun w' (h : Below wr.heap.size wr w') => show Calls Try.prog 36 #[.slice A' n' c', .int .i64 16] w' (Gives16 w' (x * (y / 65536 ^ (j + 1)) * 2 ^ 16)) from ref2_shl (x * (y / 65536 ^ (j + 1))) 16 A' n' c' w' (hO.out.below h) (by omega) (by omega))
      have S2 := Lib.hid (fun w' (h : Below wr.heap.size wr w') => show Calls Try.prog 37 #[.slice A n c, .int .i64 dd, .int .i64 0] w' (Gives16 w' (x * dd + 0)) from ref2_small x dd 0 A n c w' ((HA.out _ hB).below h) (by omega) hlt (by decide))
      have S3 := (fun w' (h : Below wr.heap.size wr w') A1 n1 c1 A2 n2 c2 (h1 : Holds16 w' (x * (y / 65536 ^ (j + 1)) * 2 ^ 16) A1 n1 c1) (h2 : Holds16 w' (x * dd + 0) A2 n2 c2) => ref2_add _ _ A1 A2 n1 n2 c1 c2 w' h1 h2 (by have := hzl h1; omega) (by rw [h2.len, Nat.add_zero]; have := mul_len16 (x := x) (y := dd) (n := n) (m := 1) (by have := hlx.out; omega) (dg_len_le (by decide) _ _ (by simpa using hlt)); omega))
      rw [hst] at S3
      have hS3 := Lib.hid S3
      clear S3 hst hdd hlt hzl
      obtain ⟨s1, s2⟩ : (0 : Int) ≤ (j : Int) ∧ (j : Int) < (m : Int) := by omega
      go_wp2_with fail
      have hb0 : Below wr.heap.size wr wr.drew := (Below.refl _ wr).drew
      have hc1 : wr.drew.cell? (ad.add j) = some (.int .i64 dd) := hc0
      go_region_held3 (fun w' => Below wr.heap.size wr w' ∧ w'.cell? (ad.add j) = some (.int .i64 dd))
        (first | (exact ⟨hb0, hc1⟩) | (go_split_ands; refine ⟨?_, ?_⟩; all_goals (first | with_reducible assumption | exact keep_below (by with_reducible assumption) hb | exact keep_cell hb (by with_reducible assumption))))
        (first
          | (go_at_call 36; (with_reducible refine (S1.out _ (by first | with_reducible assumption | exact And.left (by with_reducible assumption))).mono ?_); intro e w' hg; obtain ⟨A8, n8, c8, rfl, hh8, hb⟩ := hg.elim; clear hg)
          | (go_at_call 37; (with_reducible refine (S2.out _ (by first | with_reducible assumption | exact And.left (by with_reducible assumption))).mono ?_); intro e w' hg; obtain ⟨A9, n9, c9, rfl, hh9, hb⟩ := hg.elim; have hh8 := hh8.below hb; clear hg)
          | (go_at_call 14; (with_reducible refine (hS3.out _ (by first | with_reducible assumption | exact And.left (by with_reducible assumption)) _ _ _ _ _ _ hh8 hh9).mono ?_); intro e w' hg; obtain ⟨A7, n7, c7, rfl, hh7, hb⟩ := hg.elim; clear hg))
      rename_i hH
      obtain ⟨hb6, _⟩ := hH
      have hB2 := keep_below hB hb6
      have HN := Lib.hid hh7
      clear hb hb0 hb6 hh7 hh8 hh9 hc1
      go_wp2
      go_roundg (j + 1)
      case measure => omega
      case rel => exact ⟨j, _, _, _, by omega, by omega, by go_num, rfl, HN, hB2⟩
end Go.Proofs.Ytonjhcmppiioeaa
