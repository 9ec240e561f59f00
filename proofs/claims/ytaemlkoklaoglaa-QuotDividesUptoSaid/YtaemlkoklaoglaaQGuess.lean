/-
  The contract of quot's guess: by the two highest words of a piece and of a divisor, how often one goes into the other, or one more. Conditions: the cells hold the words; the piece's highest word is not above the divisor's.
-/
import Derived.Test.YtaemlkoklaoglaaRows
import Derived.Test.YtaemlkoklaoglaaBunM
import Derived.Test.YtaemlkoklaoglaaWDiv
import Derived.Test.YtaemlkoklaoglaaBunW
import Derived.WalkKit
import Derived.Lib.Hide
import Derived.Outline
import Derived.IntWalk
import Derived.Deep.QuietTactic
import Derived.BigQuiet
namespace Go.Proofs.Ytaemlkoklaoglaa
open Go Go.RowKit
set_option maxRecDepth 100000
set_option linter.unusedVariables false
/-- The guess. -/
def guessT (u2 u1 h : Nat) : Nat := if u2 < h then (u2 * 18446744073709551616 + u1) / h else 18446744073709551615
def guessR (u2 u1 h : Nat) : Nat := if u2 < h then (u2 * 18446744073709551616 + u1) % h else u1 + h
def guessN (u2 u1 h v : Nat) : Nat := if guessR u2 u1 h < guessT u2 u1 h * v / 18446744073709551616 ∧ guessR u2 u1 h < 18446744073709551616 then guessT u2 u1 h - 1 else guessT u2 u1 h
theorem guessT_lt {u2 u1 h : Nat} (hu : u1 < 18446744073709551616) : guessT u2 u1 h < 18446744073709551616 := by
  unfold guessT
  split
  · rename_i hc
    refine (Nat.div_lt_iff_lt_mul (by omega)).2 ?_
    have : (u2 + 1) * 18446744073709551616 ≤ h * 18446744073709551616 := Nat.mul_le_mul_right _ hc
    rw [Nat.mul_comm _ h]
    omega
  · decide
theorem guess_le {P D U h v M u2 u1 : Nat} (H : Two P D U h v M) (hU : U = u2 * 18446744073709551616 + u1) (hu : u1 < 18446744073709551616) : P / D ≤ guessN u2 u1 h v ∧ guessN u2 u1 h v ≤ P / D + 1 ∧ guessN u2 u1 h v < 18446744073709551616 := by
  have hh := H.hh
  have ht := H.top
  have hq := H.q.2.2
  have tb := guessT_lt (u2 := u2) (h := h) hu
  have e : guessT u2 u1 h * h + guessR u2 u1 h = U := by
    unfold guessT guessR
    split
    · rw [hU, Nat.mul_comm _ h, Nat.div_add_mod]
    · obtain rfl : u2 = h := by rw [hU] at ht; omega
      rw [hU]; omega
  have lo : P / D ≤ guessT u2 u1 h := by
    unfold guessT
    split
    · rw [← hU]
      exact (Nat.le_div_iff_mul_le (by omega)).2 H.le
    · omega
  have up : guessT u2 u1 h ≤ P / D + 2 := H.two (by omega) tb
  obtain ⟨t, hte⟩ : ∃ t, guessT u2 u1 h = t := ⟨_, rfl⟩
  obtain ⟨r, hre⟩ : ∃ r, guessR u2 u1 h = r := ⟨_, rfl⟩
  unfold guessN
  rw [hte] at lo up tb e
  rw [hre] at e
  rw [hte, hre]
  obtain ⟨q, hqe⟩ : ∃ q, P / D = q := ⟨_, rfl⟩
  have vb := H.vb
  have h2 : t * v / 18446744073709551616 < 18446744073709551616 := by
    refine (Nat.div_lt_iff_lt_mul (by decide)).2 ?_
    exact Nat.lt_of_le_of_lt (Nat.mul_le_mul (show t ≤ 18446744073709551615 by omega) (show v ≤ 18446744073709551615 by omega)) (by decide)
  have d1 := H.dec (t := t) (r := r) e
  have d2 := H.one (t := t) (r := r) e tb
  rw [hqe] at lo up hq d1 d2 ⊢
  obtain ⟨x, hx⟩ : ∃ x, t * v / 18446744073709551616 = x := ⟨_, rfl⟩
  rw [hx] at h2
  split
  · rename_i hc
    rw [hx] at hc
    have h1 := d1 ((Nat.le_div_iff_mul_le (by decide)).1 (by rw [hx]; omega))
    clear d1 d2
    omega
  · rename_i hc
    rw [hx] at hc
    have h1 := d2 ((Nat.div_lt_iff_lt_mul (by decide)).1 (by rw [hx]; omega))
    clear d1 d2
    omega
theorem mul_nat (x y : Nat) (hx : x < 18446744073709551616) (hy : y < 18446744073709551616) (w : World) :
    Calls Try.prog 70 #[.int .u64 x, .int .u64 y] w fun e w' => e = .returned (.tuple #[.int .u64 ((x * y / 18446744073709551616 : Nat) : Int), .int .u64 ((x * y % 18446744073709551616 : Nat) : Int)]) ∧ w = w' := by
  have h := word_mul x y ⟨by omega, by omega⟩ ⟨by omega, by omega⟩ w
  rw [show mulHi (x : Int) (y : Int) = ((x * y / 18446744073709551616 : Nat) : Int) from by unfold mulHi; simp, show mulLo (x : Int) (y : Int) = ((x * y % 18446744073709551616 : Nat) : Int) from by unfold mulLo; simp] at h
  exact h
theorem div_nat (hi lo y : Nat) (h1 : hi < y) (hy : y < 18446744073709551616) (hl : lo < 18446744073709551616) (w : World) :
    Calls Try.prog 44 #[.int .u64 hi, .int .u64 lo, .int .u64 y] w fun e w' => e = .returned (.tuple #[.int .u64 (((hi * 18446744073709551616 + lo) / y : Nat) : Int), .int .u64 (((hi * 18446744073709551616 + lo) % y : Nat) : Int), .bool true]) ∧ ∃ n, w' = w.drewN n := by
  have h := word_div_yes hi lo y ⟨by omega, by omega⟩ (by omega) (by omega) ⟨by omega, by omega⟩ w
  rw [show divQ (hi : Int) (lo : Int) (y : Int) = (((hi * 18446744073709551616 + lo) / y : Nat) : Int) from by unfold divQ; simp, show divR (hi : Int) (lo : Int) (y : Int) = (((hi * 18446744073709551616 + lo) % y : Nat) : Int) from by unfold divR; simp] at h
  exact h
theorem add_nat (x y c : Nat) (hx : x < 18446744073709551616) (hy : y < 18446744073709551616) (hc : c ≤ 1) (w : World) :
    Calls Try.prog 47 #[.int .u64 x, .int .u64 y, .int .u64 c] w fun e w' => e = .returned (.tuple #[.int .u64 (((x + y + c) % 18446744073709551616 : Nat) : Int), .int .u64 (((x + y + c) / 18446744073709551616 : Nat) : Int)]) ∧ w = w' := by
  have h := word_add x y c ⟨by omega, by omega⟩ ⟨by omega, by omega⟩ ⟨by omega, by omega⟩ w
  rw [addLo_nat hc, addHi_nat hc] at h
  exact h
/-- What the guess says, over a world that may draw. -/
def SaysU (w : World) (t : Nat) (e : Ending) (w' : World) : Prop := e = .returned (.int .u64 (t : Int)) ∧ ∃ n, w' = w.drewN n
set_option maxHeartbeats 4000000 in
theorem guess_in (g k m c1 cd : Nat) (ad : Addr) (u2 u1 h v : Nat) (w : World) (hm : 2 ≤ m) (hm2 : m ≤ 1099511627776) (hc1 : m + 1 ≤ c1) (hc : c1 ≤ 9223372036854775807) (hcd : m ≤ cd) (hcd2 : cd ≤ 9223372036854775807)
    (hU2 : w.cell? ⟨g, k + m, none⟩ = some (.int .u64 (u2 : Int))) (hU1 : w.cell? ⟨g, k + (m - 1), none⟩ = some (.int .u64 (u1 : Int))) (hH : w.cell? (ad.add (m - 1)) = some (.int .u64 (h : Int))) (hV : w.cell? (ad.add (m - 2)) = some (.int .u64 (v : Int)))
    (u2b : u2 < 18446744073709551616) (u1b : u1 < 18446744073709551616) (hb : h < 18446744073709551616) (vb : v < 18446744073709551616) (hlt : u2 < h) :
    Calls Try.prog 66 #[.slice (some ⟨g, k, none⟩) (m + 1) c1, .slice (some ad) m cd] w (SaysU w (guessN u2 u1 h v)) := by
  have et : guessT u2 u1 h = (u2 * 18446744073709551616 + u1) / h := if_pos hlt
  have er : guessR u2 u1 h = (u2 * 18446744073709551616 + u1) % h := if_pos hlt
  have rb : (u2 * 18446744073709551616 + u1) % h < 18446744073709551616 := Nat.lt_trans (Nat.mod_lt _ (by omega)) hb
  have tb := guessT_lt (u2 := u2) (h := h) u1b
  have HD := fun w => div_nat u2 u1 h hlt hb u1b w
  have HM := fun w => mul_nat (guessT u2 u1 h) v tb vb w
  have HN : guessN u2 u1 h v = if guessR u2 u1 h < guessT u2 u1 h * v / 18446744073709551616 ∧ guessR u2 u1 h < 18446744073709551616 then guessT u2 u1 h - 1 else guessT u2 u1 h := rfl
  rw [et, er] at HN
  rw [et] at HM tb
  clear et er
  obtain ⟨t, ht⟩ : ∃ t, (u2 * 18446744073709551616 + u1) / h = t := ⟨_, rfl⟩
  obtain ⟨r, hr⟩ : ∃ r, (u2 * 18446744073709551616 + u1) % h = r := ⟨_, rfl⟩
  rw [ht, hr] at HD HN
  rw [hr] at rb
  rw [ht] at HM tb
  obtain ⟨nd, hnd⟩ : ∃ nd, t * v / 18446744073709551616 = nd := ⟨_, rfl⟩
  obtain ⟨nl, hnl⟩ : ∃ nl, t * v % 18446744073709551616 = nl := ⟨_, rfl⟩
  rw [hnd, hnl] at HM
  rw [hnd] at HN
  have hnt : nd ≤ t := by
    rw [← hnd]
    refine Nat.le_trans (Nat.div_le_div_right (Nat.mul_le_mul_left t (Nat.le_of_lt vb))) ?_
    rw [Nat.mul_div_cancel _ (by decide)]
    exact Nat.le_refl _
  have HDH := Lib.hid HD
  have HMH := Lib.hid HM
  obtain ⟨GN, hGN⟩ : ∃ GN, guessN u2 u1 h v = GN := ⟨_, rfl⟩
  rw [hGN] at HN ⊢
  have hJ : IntKind.i64.wrap ((m : Int) - 1) = (m : Int) - 1 ∧ IntKind.i64.wrap ((m : Int) - 2) = (m : Int) - 2 := ⟨IntWalk.i64_in _ (by omega), IntWalk.i64_in _ (by omega)⟩
  have hK : ((m : Int) - 1).toNat = m - 1 ∧ ((m : Int) - 2).toNat = m - 2 := ⟨by omega, by omega⟩
  have hL : (0 : Int) ≤ (m : Int) - 1 ∧ (m : Int) - 1 < (m : Int) ∧ (0 : Int) ≤ (m : Int) - 2 ∧ (m : Int) - 2 < (m : Int) ∧ (m : Int) < (m : Int) + 1 ∧ (m : Int) - 1 < (m : Int) + 1 := by omega
  obtain ⟨l1, l2, l3, l4, l5, l6⟩ := hL
  by_cases hc : r < nd
  · rw [if_pos ⟨hc, rb⟩] at HN
    have HG := Lib.hid HN
    have t1 : decide ((r : Int) < (nd : Int)) = true := by simpa using hc
    have t2 : 0 < t := by omega
    have t3 : IntKind.u64.wrap ((t : Int) - 1) = (t : Int) - 1 := by rw [IntKind.wrap_u64]; omega
    clear HD HM HN ht hr hnd hnl hGN rb hlt hcd2
    obtain ⟨j1, j2⟩ := hJ
    obtain ⟨j3, j4⟩ := hK
    go_enter Try.func66, Try.ntmps66
    go_wp2
    go_quiet (fail)
    obtain ⟨w1, hw1⟩ : ∃ w1, w.drewN nq = w1 := ⟨_, rfl⟩
    have HW1 := Lib.hid hw1
    have hU2 : w1.cell? ⟨g, k + m, none⟩ = some (.int .u64 (u2 : Int)) := by rw [← hw1]; exact hU2
    have hU1 : w1.cell? ⟨g, k + (m - 1), none⟩ = some (.int .u64 (u1 : Int)) := by rw [← hw1]; exact hU1
    rw [hw1]
    clear hw1
    go_wp2
    go_quiet ((go_at_call 44; exact Calls.quiet_of (HDH.out _)))
    go_wp2_with (go_at_call 70; (with_reducible refine (HMH.out _).mono ?_); rintro e w' ⟨rfl, rfl⟩)
    go_ret
    refine ⟨by rw [HG.out]; show Ending.returned (.int .u64 ((t : Int) - 1)) = _; rw [Int.ofNat_sub (by omega)]; rfl, ?_⟩
    rw [← HW1.out, World.drewN_drewN]
    exact ⟨_, rfl⟩
  · rw [if_neg (fun h => hc h.1)] at HN
    have HG := Lib.hid HN
    have t1 : decide ((r : Int) < (nd : Int)) = false := by simpa using hc
    clear HD HM HN ht hr hnd hnl hGN rb hlt hcd2
    obtain ⟨j1, j2⟩ := hJ
    obtain ⟨j3, j4⟩ := hK
    go_enter Try.func66, Try.ntmps66
    go_wp2
    go_quiet (fail)
    obtain ⟨w1, hw1⟩ : ∃ w1, w.drewN nq = w1 := ⟨_, rfl⟩
    have HW1 := Lib.hid hw1
    have hU2 : w1.cell? ⟨g, k + m, none⟩ = some (.int .u64 (u2 : Int)) := by rw [← hw1]; exact hU2
    have hU1 : w1.cell? ⟨g, k + (m - 1), none⟩ = some (.int .u64 (u1 : Int)) := by rw [← hw1]; exact hU1
    rw [hw1]
    clear hw1
    go_wp2
    go_quiet ((go_at_call 44; exact Calls.quiet_of (HDH.out _)))
    go_wp2_with (go_at_call 70; (with_reducible refine (HMH.out _).mono ?_); rintro e w' ⟨rfl, rfl⟩)
    go_ret
    refine ⟨by rw [HG.out]; rfl, ?_⟩
    rw [← HW1.out, World.drewN_drewN]
    exact ⟨_, rfl⟩
set_option maxHeartbeats 4000000 in
theorem guess_eq (g k m c1 cd : Nat) (ad : Addr) (u2 u1 h v : Nat) (w : World) (hm : 2 ≤ m) (hm2 : m ≤ 1099511627776) (hc1 : m + 1 ≤ c1) (hc : c1 ≤ 9223372036854775807) (hcd : m ≤ cd) (hcd2 : cd ≤ 9223372036854775807)
    (hU2 : w.cell? ⟨g, k + m, none⟩ = some (.int .u64 (u2 : Int))) (hU1 : w.cell? ⟨g, k + (m - 1), none⟩ = some (.int .u64 (u1 : Int))) (hH : w.cell? (ad.add (m - 1)) = some (.int .u64 (h : Int))) (hV : w.cell? (ad.add (m - 2)) = some (.int .u64 (v : Int)))
    (u2b : u2 < 18446744073709551616) (u1b : u1 < 18446744073709551616) (hb : h < 18446744073709551616) (vb : v < 18446744073709551616) (hlt : ¬ u2 < h) :
    Calls Try.prog 66 #[.slice (some ⟨g, k, none⟩) (m + 1) c1, .slice (some ad) m cd] w (SaysU w (guessN u2 u1 h v)) := by
  have et : guessT u2 u1 h = 18446744073709551615 := if_neg hlt
  have er : guessR u2 u1 h = u1 + h := if_neg hlt
  have HD := fun w => word_div_no u2 u1 h (by omega) w
  have HM : ∀ w, Calls Try.prog 70 #[.int .u64 18446744073709551615, .int .u64 v] w fun e w' => e = .returned (.tuple #[.int .u64 ((18446744073709551615 * v / 18446744073709551616 : Nat) : Int), .int .u64 ((18446744073709551615 * v % 18446744073709551616 : Nat) : Int)]) ∧ w = w' := fun w => mul_nat 18446744073709551615 v (by decide) vb w
  have HA : ∀ w, Calls Try.prog 47 #[.int .u64 u1, .int .u64 h, .int .u64 0] w fun e w' => e = .returned (.tuple #[.int .u64 (((u1 + h + 0) % 18446744073709551616 : Nat) : Int), .int .u64 (((u1 + h + 0) / 18446744073709551616 : Nat) : Int)]) ∧ w = w' := fun w => add_nat u1 h 0 u1b hb (by decide) w
  have HN : guessN u2 u1 h v = if guessR u2 u1 h < guessT u2 u1 h * v / 18446744073709551616 ∧ guessR u2 u1 h < 18446744073709551616 then guessT u2 u1 h - 1 else guessT u2 u1 h := rfl
  rw [et, er] at HN
  clear et er
  obtain ⟨nd, hnd⟩ : ∃ nd, 18446744073709551615 * v / 18446744073709551616 = nd := ⟨_, rfl⟩
  obtain ⟨nl, hnl⟩ : ∃ nl, 18446744073709551615 * v % 18446744073709551616 = nl := ⟨_, rfl⟩
  rw [hnd, hnl] at HM
  rw [hnd] at HN
  have HDH := Lib.hid HD
  have HMH := Lib.hid HM
  obtain ⟨GN, hGN⟩ : ∃ GN, guessN u2 u1 h v = GN := ⟨_, rfl⟩
  rw [hGN] at HN ⊢
  have hJ : IntKind.i64.wrap ((m : Int) - 1) = (m : Int) - 1 ∧ IntKind.i64.wrap ((m : Int) - 2) = (m : Int) - 2 := ⟨IntWalk.i64_in _ (by omega), IntWalk.i64_in _ (by omega)⟩
  have hK : ((m : Int) - 1).toNat = m - 1 ∧ ((m : Int) - 2).toNat = m - 2 := ⟨by omega, by omega⟩
  have hL : (0 : Int) ≤ (m : Int) - 1 ∧ (m : Int) - 1 < (m : Int) ∧ (0 : Int) ≤ (m : Int) - 2 ∧ (m : Int) - 2 < (m : Int) ∧ (m : Int) < (m : Int) + 1 ∧ (m : Int) - 1 < (m : Int) + 1 := by omega
  obtain ⟨l1, l2, l3, l4, l5, l6⟩ := hL
  by_cases hr : u1 + h < 18446744073709551616
  · rw [show (u1 + h + 0) % 18446744073709551616 = u1 + h from by omega, show (u1 + h + 0) / 18446744073709551616 = 0 from by omega] at HA
    obtain ⟨r, hre⟩ : ∃ r, u1 + h = r := ⟨_, rfl⟩
    rw [hre] at HA HN hr
    have HAH := Lib.hid HA
    by_cases hc : r < nd
    · rw [if_pos ⟨hc, hr⟩] at HN
      have HG := Lib.hid HN
      have t1 : decide ((r : Int) < (nd : Int)) = true := by simpa using hc
      clear hre hr
      clear HD HM HN HA hnd hnl hGN hlt hcd2
      obtain ⟨j1, j2⟩ := hJ
      obtain ⟨j3, j4⟩ := hK
      go_enter Try.func66, Try.ntmps66
      go_wp2
      go_quiet (fail)
      obtain ⟨w1, hw1⟩ : ∃ w1, w.drewN nq = w1 := ⟨_, rfl⟩
      have HW1 := Lib.hid hw1
      have hU2 : w1.cell? ⟨g, k + m, none⟩ = some (.int .u64 (u2 : Int)) := by rw [← hw1]; exact hU2
      have hU1 : w1.cell? ⟨g, k + (m - 1), none⟩ = some (.int .u64 (u1 : Int)) := by rw [← hw1]; exact hU1
      rw [hw1]
      clear hw1
      go_wp2
      go_quiet ((go_at_call 44; exact quiet_left (HDH.out _)))
      have hU1 : (w1.drewN nq).cell? ⟨g, k + (m - 1), none⟩ = some (.int .u64 (u1 : Int)) := hU1
      go_wp2_with (first | (go_at_call 70; (with_reducible refine (HMH.out _).mono ?_); rintro e w' ⟨rfl, rfl⟩) | (go_at_call 47; (with_reducible refine (HAH.out _).mono ?_); rintro e w' ⟨rfl, rfl⟩))
      go_ret
      refine ⟨by rw [HG.out]; rfl, ?_⟩
      rw [← HW1.out, World.drewN_drewN]
      exact ⟨_, rfl⟩
    · rw [if_neg (fun h => hc h.1)] at HN
      have HG := Lib.hid HN
      have t1 : decide ((r : Int) < (nd : Int)) = false := by simpa using hc
      clear hre hr
      clear HD HM HN HA hnd hnl hGN hlt hcd2
      obtain ⟨j1, j2⟩ := hJ
      obtain ⟨j3, j4⟩ := hK
      go_enter Try.func66, Try.ntmps66
      go_wp2
      go_quiet (fail)
      obtain ⟨w1, hw1⟩ : ∃ w1, w.drewN nq = w1 := ⟨_, rfl⟩
      have HW1 := Lib.hid hw1
      have hU2 : w1.cell? ⟨g, k + m, none⟩ = some (.int .u64 (u2 : Int)) := by rw [← hw1]; exact hU2
      have hU1 : w1.cell? ⟨g, k + (m - 1), none⟩ = some (.int .u64 (u1 : Int)) := by rw [← hw1]; exact hU1
      rw [hw1]
      clear hw1
      go_wp2
      go_quiet ((go_at_call 44; exact quiet_left (HDH.out _)))
      have hU1 : (w1.drewN nq).cell? ⟨g, k + (m - 1), none⟩ = some (.int .u64 (u1 : Int)) := hU1
      go_wp2_with (first | (go_at_call 70; (with_reducible refine (HMH.out _).mono ?_); rintro e w' ⟨rfl, rfl⟩) | (go_at_call 47; (with_reducible refine (HAH.out _).mono ?_); rintro e w' ⟨rfl, rfl⟩))
      go_ret
      refine ⟨by rw [HG.out]; rfl, ?_⟩
      rw [← HW1.out, World.drewN_drewN]
      exact ⟨_, rfl⟩
  · rw [show (u1 + h + 0) / 18446744073709551616 = 1 from by omega] at HA
    obtain ⟨r, hre⟩ : ∃ r, (u1 + h + 0) % 18446744073709551616 = r := ⟨_, rfl⟩
    rw [hre] at HA
    have HAH := Lib.hid HA
    rw [if_neg (fun h => hr h.2)] at HN
    have HG := Lib.hid HN
    clear hre hr
    clear HD HM HN HA hnd hnl hGN hlt hcd2
    obtain ⟨j1, j2⟩ := hJ
    obtain ⟨j3, j4⟩ := hK
    go_enter Try.func66, Try.ntmps66
    go_wp2
    go_quiet (fail)
    obtain ⟨w1, hw1⟩ : ∃ w1, w.drewN nq = w1 := ⟨_, rfl⟩
    have HW1 := Lib.hid hw1
    have hU2 : w1.cell? ⟨g, k + m, none⟩ = some (.int .u64 (u2 : Int)) := by rw [← hw1]; exact hU2
    have hU1 : w1.cell? ⟨g, k + (m - 1), none⟩ = some (.int .u64 (u1 : Int)) := by rw [← hw1]; exact hU1
    rw [hw1]
    clear hw1
    go_wp2
    go_quiet ((go_at_call 44; exact quiet_left (HDH.out _)))
    have hU1 : (w1.drewN nq).cell? ⟨g, k + (m - 1), none⟩ = some (.int .u64 (u1 : Int)) := hU1
    go_wp2_with (first | (go_at_call 70; (with_reducible refine (HMH.out _).mono ?_); rintro e w' ⟨rfl, rfl⟩) | (go_at_call 47; (with_reducible refine (HAH.out _).mono ?_); rintro e w' ⟨rfl, rfl⟩))
    go_ret
    refine ⟨by rw [HG.out]; rfl, ?_⟩
    rw [← HW1.out, World.drewN_drewN]
    exact ⟨_, rfl⟩
end Go.Proofs.Ytaemlkoklaoglaa
