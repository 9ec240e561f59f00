/- What this claim leans on. -/
import Derived.Test.YtgigccjiblaefaaGreatDoorBBunR
namespace Go.Proofs.YtgigccjiblaefaaGreatDoor
open Go Go.RowKit
set_option maxRecDepth 100000
set_option linter.unusedVariables false
theorem zgo (w : World) : zal w 0 none 0 0 := ⟨zap.none_, Nat.le_refl _, by omega⟩
def GivesH (w : World) (x : Nat) (e : Ending) (w' : World) : Prop := ∃ (A : Option Addr) (n c : Nat), e = .returned (.slice A n c) ∧ zal w' x A n c ∧ Below w.heap.size w w'
theorem zle (w : World) (g : Nat) (h : Blk w g 3 #[.int .i64 1]) : zal w 1 (some ⟨g, 0, none⟩) 1 1 := by
 have e : dg 65536 1 = [1] := by
  rw [zcQ (by decide) (by decide)]
  rfl
 refine ⟨?_, Nat.le_refl _, by omega⟩
 rw [e]
 refine ⟨rfl, fun _ => ⟨_, rfl, h.lt, fun j u hu => ?_⟩⟩
 match j, hu with
 | 0, hu => simp [zar] at hu; subst hu; exact h.cell 0
def zgE (w : World) (q r : Nat) (e : Ending) (w' : World) : Prop := ∃ (A : Option Addr) (n c : Nat) (B : Option Addr) (m d : Nat), e = .returned (.tuple #[.slice A n c, .slice B m d]) ∧ zal w' q A n c ∧ zal w' r B m d ∧ Below w.heap.size w w'
theorem div_no {m y b : Nat} (hb : b < 2) (h : m % y * 2 + b < y) : (m + m + b) / y = m / y * 2 + 0 ∧ (m + m + b) % y = m % y * 2 + b := by
 have h1 := Nat.div_add_mod m y
 have e : m + m + b = y * (m / y * 2) + (m % y * 2 + b) := by rw [Nat.mul_comm (m / y) 2, Nat.mul_left_comm]; omega
 rw [e, Nat.mul_add_div (by omega), Nat.mul_add_mod, Nat.div_eq_of_lt h, Nat.mod_eq_of_lt h]
 exact ⟨rfl, rfl⟩
theorem div_yes {m y b : Nat} (hy : y ≠ 0) (hb : b < 2) (h : y ≤ m % y * 2 + b) : (m + m + b) / y = m / y * 2 + 0 + 1 ∧ (m + m + b) % y = m % y * 2 + b - y := by
 have h1 := Nat.div_add_mod m y
 have h2 := Nat.mod_lt m (y := y) (by omega)
 have h3 : m % y * 2 + b - y < y := by omega
 have e : m + m + b = y * (m / y * 2 + 1) + (m % y * 2 + b - y) := by rw [Nat.mul_add, Nat.mul_comm (m / y) 2, Nat.mul_left_comm]; omega
 rw [e, Nat.mul_add_div (by omega), Nat.mul_add_mod, Nat.div_eq_of_lt h3, Nat.mod_eq_of_lt h3]
 exact ⟨rfl, rfl⟩
theorem ziK (x y : Nat) : decide (0 ≤ zaU x y) = decide (y ≤ x) := by
 rw [Bool.eq_iff_iff]
 simp only [decide_eq_true_eq]
 unfold zaU
 split
 ·omega
 ·split <;> omega
set_option maxHeartbeats 4000000 in
theorem zbj (x y : Nat) (A D : Option Addr) (n m c d : Nat) (w : World) (hA : zal w x A n c) (hD : zal w y D m d) (hn : n ≤ 17179869184) (hm : m ≤ 17179869184) (hy : y ≠ 0) :
  Calls Tryz.prog 68 #[.slice A n c, .slice D m d] w (zgE w (x / y) (x % y)) := by
 have hlx := Lib.hid hA.len
 have hly := Lib.hid hD.len
 have HA := Lib.hid (fun w' (hb : Below w.heap.size w w') => hA.below hb)
 have HD := Lib.hid (fun w' (hb : Below w.heap.size w w') => hD.below hb)
 have RB := zgP x A n c w hA (by omega)
 have hbl : bitLen x ≤ 16 * n := by
  have h1 := zaI (b := 65536) (by decide) x
  rw [← hA.len, show (65536 : Nat) = 2 ^ 16 from rfl, ← Nat.pow_mul] at h1
  exact zca _ _ h1
 have h0 : x / 2 ^ bitLen x = 0 := Nat.div_eq_of_lt (lt_bits x)
 obtain ⟨l, hl⟩ : ∃ l, bitLen x = l := ⟨_, rfl⟩
 rw [hl] at RB hbl h0
 have HRB := Lib.hid RB
 have H0 := Lib.hid h0
 clear hA hD RB hl h0
 go_enter Tryz.func68, Tryz.ntmps68
 go_wp2_with fail
 refine HRB.out.mono ?_
 rintro e w' ⟨rfl, rfl⟩
 go_wp2_with fail
 go_loopg [6, 7, 8] (l + 1) (fun g qs rs ix wr => ∃ (j : Nat) (A1 : Option Addr) (n1 c1 : Nat) (A2 : Option Addr) (n2 c2 : Nat), j ≤ l ∧ j < g ∧ ix = .int .i64 ((j : Int) - 1) ∧ qs = .slice A1 n1 c1 ∧ rs = .slice A2 n2 c2 ∧ Hid (zal wr (x / 2 ^ j / y) A1 n1 c1) ∧ Hid (zal wr (x / 2 ^ j % y) A2 n2 c2) ∧ Below w.heap.size w wr)
 case atStart =>
  refine ⟨l, none, 0, 0, none, 0, 0, Nat.le_refl _, by omega, rfl, rfl, rfl, ?_, ?_, Below.refl _ _⟩
  ·show zal _ _ _ _ _; rw [H0.out, Nat.zero_div]; exact zgo _
  ·show zal _ _ _ _ _; rw [H0.out, Nat.zero_mod]; exact zgo _
 case round =>
  obtain ⟨j, A1, n1, c1, A2, n2, c2, hjl, hg, rfl, rfl, rfl, hq, hr, hB⟩ := hrel
  by_cases hj : j = 0
  ·subst hj
   have e1 := hq.out
   have e2 := hr.out
   rw [Nat.pow_zero, Nat.div_one] at e1 e2
   have HG : Hid (zgE w (x / y) (x % y) (.returned (.tuple #[.slice A1 n1 c1, .slice A2 n2 c2])) wr) := ⟨_, _, _, _, _, _, rfl, e1, e2, hB⟩
   clear hq hr e1 e2
   go_wp2
   go_ret2
   exact HG.out
  ·obtain ⟨i, rfl⟩ : ∃ i, j = i + 1 := ⟨j - 1, by omega⟩
   have hqn : n1 ≤ n := by
    rw [hq.out.len, hlx.out]
    exact zaM (by decide) (Nat.le_trans (Nat.div_le_self _ _) (Nat.div_le_self _ _))
   have hrn : n2 ≤ m := by
    rw [hr.out.len, hly.out]
    exact zaM (by decide) (Nat.le_of_lt (Nat.mod_lt _ (by omega)))
   have hbit : x / 2 ^ i % 2 < 2 := Nat.mod_lt _ (by decide)
   have hst := shr_step x i
   have WB := ref2_bit x i A n c wr (HA.out _ hB) (by omega) (by omega)
   obtain ⟨M, hM⟩ : ∃ M, x / 2 ^ (i + 1) = M := ⟨_, rfl⟩
   obtain ⟨b, hb⟩ : ∃ b, x / 2 ^ i % 2 = b := ⟨_, rfl⟩
   rw [hM] at hq hr hst
   rw [hb] at hst hbit WB
   have S1 := zeh (M % y) 2 b A2 n2 c2 wr hr.out (by omega) (by decide) (by omega)
   have HWB := Lib.hid WB
   have HS1 := Lib.hid S1
   have HST := Lib.hid hst
   have hr1 : (dg 65536 (M % y * 2 + b)).length ≤ n2 + 1 := by
    refine zaX (by decide) _ _ ?_
    have h1 := zaI (b := 65536) (by decide) (M % y)
    rw [← hr.out.len] at h1
    rw [Nat.pow_succ]; omega
   have hq1 : (dg 65536 (M / y * 2 + 0)).length ≤ n1 + 1 := by
    refine zaX (by decide) _ _ ?_
    have h1 := zaI (b := 65536) (by decide) (M / y)
    rw [← hq.out.len] at h1
    rw [Nat.pow_succ]; omega
   clear WB S1 hM hb hr hst
   go_wp2_with fail
   refine HWB.out.mono ?_
   rintro e w' ⟨rfl, rfl⟩
   go_wp2_with fail
   refine HS1.out.mono ?_
   intro e w1 hg1
   obtain ⟨A3, n3, c3, rfl, hh3, hb1⟩ := hg1.elim
   have hB1 := zad hB hb1
   have hn3 : n3 ≤ m + 1 := by rw [hh3.len]; omega
   have HS2 := Lib.hid (zeh (M / y) 2 0 A1 n1 c1 w1 (hq.out.below hb1) (by omega) (by decide) (by decide))
   have H3 := Lib.hid hh3
   clear hg1 hh3 hb1 hq HS1
   go_wp2_with fail
   refine HS2.out.mono ?_
   intro e w2 hg2
   obtain ⟨A4, n4, c4, rfl, hh4, hb2⟩ := hg2.elim
   have hB2 := zad hB1 hb2
   have hn4 : n4 ≤ n + 1 := by rw [hh4.len]; omega
   have H3 := Lib.hid (H3.out.below hb2)
   have H4 := Lib.hid hh4
   have HCM := Lib.hid (zex (M % y * 2 + b) y A3 D n3 m c3 d w2 H3.out (HD.out _ hB2) (by omega) (by omega))
   clear hg2 hh4 hb2 HS2
   go_wp2_with fail
   refine HCM.out.mono ?_
   rintro e w3 ⟨rfl, q, rfl⟩
   clear HCM
   by_cases hlt : M % y * 2 + b < y
   ·have hd : decide (zaU (M % y * 2 + b) y ≥ 0) = false := by
     show decide (0 ≤ zaU _ _) = false
     rw [ziK]; simp; omega
    have hd2 : decide (0 ≤ zaU (M % y * 2 + b) y) = false := hd
    obtain ⟨e1, e2⟩ := div_no hbit hlt
    rw [← HST.out] at e1 e2
    have HQ : Hid (zal (w2.drewN q) (x / 2 ^ i / y) A4 n4 c4) := by show zal _ _ _ _ _; rw [e1]; exact H4.out
    have HR : Hid (zal (w2.drewN q) (x / 2 ^ i % y) A3 n3 c3) := by show zal _ _ _ _ _; rw [e2]; exact H3.out
    have hB3 := zaJ hB2 q
    obtain ⟨z, hz⟩ : ∃ z, zaU (M % y * 2 + b) y = z := ⟨_, rfl⟩
    rw [hz] at hd hd2 ⊢
    clear e1 e2 hz hlt
    go_wp2
    go_roundg (i + 1)
    case measure => omega
    case rel => exact ⟨i, _, _, _, _, _, _, by omega, by omega, by go_num, rfl, rfl, HQ, HR, hB3⟩
   ·have hd : decide (zaU (M % y * 2 + b) y ≥ 0) = true := by
     show decide (0 ≤ zaU _ _) = true
     rw [ziK]; simp; omega
    have hd2 : decide (0 ≤ zaU (M % y * 2 + b) y) = true := hd
    obtain ⟨e1, e2⟩ := div_yes hy hbit (by omega : y ≤ M % y * 2 + b)
    rw [← HST.out] at e1 e2
    have HS3 := Lib.hid (zdC (M % y * 2 + b) y (by omega) A3 D n3 m c3 d (w2.drewN q) H3.out (HD.out _ (zaJ hB2 q)) (by omega) (by omega))
    have E1 := Lib.hid e1
    have E2 := Lib.hid e2
    have hB3 := zaJ hB2 q
    obtain ⟨z, hz⟩ : ∃ z, zaU (M % y * 2 + b) y = z := ⟨_, rfl⟩
    rw [hz] at hd hd2 ⊢
    clear e1 e2 hz hlt
    go_wp2_with fail
    refine HS3.out.mono ?_
    intro e w4 hg3
    obtain ⟨A5, n5, c5, rfl, hh5, hb3⟩ := hg3.elim
    have hB4 := zad hB3 hb3
    have H4b : zal (w2.drewN q) (M / y * 2 + 0) A4 n4 c4 := H4.out
    have st := zaY w4 (.cells #[.int .i64 1] 3)
    have h1 := zle _ _ (Blk.new w4 3 #[.int .i64 1])
    have HS4 := Lib.hid (ref2_add (M / y * 2 + 0) 1 A4 (some ⟨w4.heap.size, 0, none⟩) n4 1 c4 1 _ ((H4b.below hb3).below st) h1 (by omega) (by omega))
    have H5 := Lib.hid (hh5.below st)
    have hB5 := zad hB4 st
    clear hg3 hh5 hb3 HS3 H4b h1 st
    go_wp2_with fail
    refine HS4.out.mono ?_
    intro e w5 hg4
    obtain ⟨A6, n6, c6, rfl, hh6, hb4⟩ := hg4.elim
    have hB6 := zad hB5 hb4
    have HQ : Hid (zal w5 (x / 2 ^ i / y) A6 n6 c6) := by show zal _ _ _ _ _; rw [E1.out]; exact hh6
    have HR : Hid (zal w5 (x / 2 ^ i % y) A5 n5 c5) := by show zal _ _ _ _ _; rw [E2.out]; exact H5.out.below hb4
    clear hg4 hh6 hb4 HS4
    go_wp2
    go_roundg (i + 1)
    case measure => omega
    case rel => exact ⟨i, _, _, _, _, _, _, by omega, by omega, by go_num, rfl, rfl, HQ, HR, hB6⟩
end Go.Proofs.YtgigccjiblaefaaGreatDoor
