/-
  The walks of WordSums, WordMuls and WordLens. Conditions: the arguments are words; TrailingZeros64's table reads as its initialiser lays it.
-/
import Derived.Test.YtjdkpbfkkepaiaaDoorWd7
namespace Go.Proofs.YtjdkpbfkkepaiaaDoor
open Go Go.RowKit
set_option maxRecDepth 100000

theorem TabAt.on {w w' : World} (h : TabAt w) (hb : Below w.heap.size w w') : TabAt w' := h.below hb (by
  have := h 0 (by decide)
  exact World.block_lt_of_cell? w _ this)

set_option maxHeartbeats 1000000 in
theorem wordSums_walk (x y c : Int) (hx : Wd x) (hy : Wd y) (hc : Wd c) (w : World) (hT : TabAt w) :
    Calls Tryd.prog 3 #[.int .u64 x, .int .u64 y, .int .u64 c] w fun e w' => e = .returned (.bool true) ∧ Below w.heap.size w w' := by
  have C1 := Lib.hid (word_add x y c hx hy hc w)
  have C3 := Lib.hid (fun w => word_sub x y c hx hy hc w)
  have C2 : Hid (Calls Tryd.prog 11 #[.int .u64 x, .int .u64 y, .int .u64 c] w fun e w' => e = .returned (.tuple #[.int .u64 (addLo x y c), .int .u64 (addHi x y c)]) ∧ Below w.heap.size w w') := by
    obtain ⟨x, rfl⟩ := Int.eq_ofNat_of_zero_le hx.1
    obtain ⟨y, rfl⟩ := Int.eq_ofNat_of_zero_le hy.1
    obtain ⟨c, rfl⟩ := Int.eq_ofNat_of_zero_le hc.1
    exact ref_sum x y c (by have := hx.2; omega) (by have := hy.2; omega) (by have := hc.2; omega) w
  have C4 : Hid (∀ w, Calls Tryd.prog 13 #[.int .u64 x, .int .u64 y, .int .u64 c] w fun e w' => e = .returned (.tuple #[.int .u64 (subLo x y c), .int .u64 (subHi x y c)]) ∧ Below w.heap.size w w') := by
    obtain ⟨x, rfl⟩ := Int.eq_ofNat_of_zero_le hx.1
    obtain ⟨y, rfl⟩ := Int.eq_ofNat_of_zero_le hy.1
    obtain ⟨c, rfl⟩ := Int.eq_ofNat_of_zero_le hc.1
    exact fun w => ref_less x y c (by have := hx.2; omega) (by have := hy.2; omega) (by have := hc.2; omega) w
  go_enter Tryd.func3, Tryd.ntmps3
  go_wp2_with fail
  refine C1.out.mono ?_
  rintro e w' ⟨rfl, rfl⟩
  go_wp2_with fail
  refine C2.out.mono ?_
  rintro e w1 ⟨rfl, hb1⟩
  go_wp2_with fail
  refine (C3.out w1).mono ?_
  rintro e w' ⟨rfl, rfl⟩
  go_wp2_with fail
  refine (C4.out w1).mono ?_
  rintro e w2 ⟨rfl, hb2⟩
  have hb : Below w.heap.size w w2 := hb1.trans (hb2.mono hb1.size)
  have C5 := Lib.hid (awake_any w2 (hT.on hb))
  clear hT hb1 hb2
  go_wp2_with fail
  refine C5.out.mono ?_
  rintro e w' ⟨rfl, rfl⟩
  go_wp2_with fail
  go_ret
  exact ⟨rfl, hb⟩

set_option maxHeartbeats 1000000 in
theorem wordLens_walk (x : Int) (hx : Wd x) (w : World) (hT : TabAt w) :
    Calls Tryd.prog 5 #[.int .u64 x] w fun e w' => e = .returned (.bool true) ∧ Below w.heap.size w w' := by
  have C0 := Lib.hid (awake_any w hT)
  have C1 := Lib.hid (fun w => word_len x hx w)
  have C3 := Lib.hid (fun w => word_lead x hx w)
  have C5 := Lib.hid (fun w hT => word_trail x hx w hT)
  have C2 : Hid (∀ w, Calls Tryd.prog 22 #[.int .u64 x] w fun e w' => e = .returned (.int .i64 (lenN x)) ∧ Below w.heap.size w w') := by
    obtain ⟨x, rfl⟩ := Int.eq_ofNat_of_zero_le hx.1
    exact fun w => ref_len x (by have := hx.2; omega) w
  have C6 : Hid (∀ w, Calls Tryd.prog 25 #[.int .u64 x] w fun e w' => e = .returned (.int .i64 (trailN x)) ∧ Below w.heap.size w w') := by
    obtain ⟨x, rfl⟩ := Int.eq_ofNat_of_zero_le hx.1
    exact fun w => ref_trail x (by have := hx.2; omega) w
  obtain ⟨l0, l1⟩ := lenN_bd hx
  have HT := Lib.hid hT
  clear hT
  go_enter Tryd.func5, Tryd.ntmps5
  go_wp2_with fail
  refine C0.out.mono ?_
  rintro e w' ⟨rfl, rfl⟩
  go_wp2_with fail
  refine (C1.out w).mono ?_
  rintro e w' ⟨rfl, rfl⟩
  go_wp2_with fail
  refine (C2.out w).mono ?_
  rintro e w1 ⟨rfl, hb1⟩
  go_wp2_with fail
  refine (C3.out w1).mono ?_
  rintro e w' ⟨rfl, rfl⟩
  go_wp2_with fail
  refine (C2.out w1).mono ?_
  rintro e w2 ⟨rfl, hb2⟩
  have hb := hb1.trans (hb2.mono hb1.size)
  have T2 := Lib.hid (HT.out.on hb)
  clear hb1 hb2
  go_wp2_with fail
  refine (C5.out w2 T2.out).mono ?_
  rintro e w' ⟨rfl, rfl⟩
  go_wp2_with fail
  refine (C6.out w2).mono ?_
  rintro e w3 ⟨rfl, hb3⟩
  have hb' := hb.trans (hb3.mono hb.size)
  clear hb hb3
  go_wp2_with fail
  go_ret
  exact ⟨rfl, hb'⟩

theorem mul_nat (x y : Nat) (hx : x < 18446744073709551616) (hy : y < 18446744073709551616) : x * y < 18446744073709551616 * 18446744073709551616 :=
  Nat.lt_of_le_of_lt (Nat.mul_le_mul (Nat.le_of_lt hx) (Nat.le_refl y)) (Nat.mul_lt_mul_of_pos_left hy (by decide))

set_option maxHeartbeats 2000000 in
theorem wordMuls_nat (x y a b : Nat) (hx : x < 18446744073709551616) (hy : y < 18446744073709551616) (ha : a < 18446744073709551616) (hb : b < 18446744073709551616) (w : World) (hT : TabAt w) :
    Calls Tryd.prog 4 #[.int .u64 x, .int .u64 y, .int .u64 a, .int .u64 b] w fun e w' => e = .returned (.bool true) ∧ Below w.heap.size w w' := by
  have wx : Wd (x : Int) := by unfold Wd; omega
  have wy : Wd (y : Int) := by unfold Wd; omega
  have wa : Wd (a : Int) := by unfold Wd; omega
  have wb : Wd (b : Int) := by unfold Wd; omega
  have hp := mul_nat x y hx hy
  have M1 := Lib.hid (ref_mul x y hx hy w)
  have M2 := Lib.hid (fun w => ref_mul x y hx hy w)
  have BA := Lib.hid (fun w => ref_bits' a ha w)
  have BB := Lib.hid (fun w => ref_bits' b hb w)
  have W1 := Lib.hid (word_mul x y wx wy w)
  have W2 := Lib.hid (fun w => word_muladd x y a b wx wy wa wb w)
  have f1 : ((x * y / 18446744073709551616 % 18446744073709551616 : Nat) : Int) = mulHi x y := by unfold mulHi; rw [← Int.natCast_mul]; omega
  have f2 : ((x * y % 18446744073709551616 : Nat) : Int) = mulLo x y := by unfold mulLo; rw [← Int.natCast_mul]; omega
  have f3 : (((x * y + a + b) / 18446744073709551616 % 18446744073709551616 : Nat) : Int) = maHi x y a b := by
    have h := maHi_wd wx wy wa wb
    unfold Wd maHi at h
    unfold maHi
    rw [← Int.natCast_mul] at h ⊢
    omega
  have f4 : (((x * y + a + b) % 18446744073709551616 : Nat) : Int) = maLo x y a b := by unfold maLo; rw [← Int.natCast_mul]; omega
  have g1 : (bv (bitsN 128 (x * y)) + bv (bitsN 64 a)).toNat = x * y + a := by
    rw [bv_bitsN, bv_bitsN, show x * y % 2 ^ 128 = x * y from Nat.mod_eq_of_lt (by omega), show a % 2 ^ 64 = a from Nat.mod_eq_of_lt (by omega)]; omega
  have hq : x * y + a < 2 ^ 128 := by
    have : x * y ≤ 18446744073709551615 * 18446744073709551615 := Nat.mul_le_mul (by omega) (by omega)
    omega
  have g2 : (bv (bitsN 128 (x * y + a)) + bv (bitsN 64 b)).toNat = x * y + a + b := by
    rw [bv_bitsN, bv_bitsN, show (x * y + a) % 2 ^ 128 = x * y + a from Nat.mod_eq_of_lt hq, show b % 2 ^ 64 = b from Nat.mod_eq_of_lt (by omega)]; omega
  obtain ⟨z, hz⟩ : ∃ z, x * y = z := ⟨_, rfl⟩
  rw [hz] at M1 f1 f2 f3 f4 g1 g2
  have M3 : Hid (∀ w, Calls Tryd.prog 17 #[.int .u64 x, .int .u64 y] w (Gives w 128 (ints (bitsN 128 z)))) := fun w => by have := M2.out w; rw [hz] at this; exact this
  have G1 := Lib.hid g1
  have G2 := Lib.hid g2
  have F1 := Lib.hid f1
  have F2 := Lib.hid f2
  have F3 := Lib.hid f3
  have F4 := Lib.hid f4
  have HT := Lib.hid hT
  clear f1 f2 f3 f4 g1 g2 hp hq hz M2 hT
  go_enter Tryd.func4, Tryd.ntmps4
  go_wp2_with fail
  refine W1.out.mono ?_
  rintro e w' ⟨rfl, rfl⟩
  go_wp2_with fail
  refine M1.out.mono ?_
  rintro e w1 ⟨A1, c1, rfl, hr1, hc1, ⟨hm1, _⟩, hb1⟩
  have T1 := Lib.hid (ref_two' A1 c1 z w1 hr1 hc1 hm1 _ _ F1.out F2.out)
  clear hr1
  go_wp2_with fail
  refine T1.out.mono ?_
  rintro e w2 ⟨rfl, n1, rfl⟩
  have hb2 := below_drewN_ hb1 n1
  clear hb1
  generalize w1.drewN n1 = v1 at *
  go_wp2_with fail
  refine (W2.out v1).mono ?_
  rintro e w' ⟨rfl, rfl⟩
  go_wp2_with fail
  refine (M3.out v1).mono ?_
  rintro e w3 ⟨A3, c3, rfl, hr3, hc3, _, hb3⟩
  go_wp2_with fail
  refine (BA.out w3).mono ?_
  rintro e w4 ⟨A4, c4, rfl, hr4, hc4, _, hb4⟩
  have P1 := ref_add' A3 A4 128 64 c3 c4 _ _ w4 ((hr3.below hb4).more hb4.size) hr4 (bitsN_bits _ _) (bitsN_bits _ _) (by omega) (by omega)
  rw [G1.out] at P1
  have Q1 := Lib.hid P1
  clear P1
  go_wp2_with fail
  refine Q1.out.mono ?_
  rintro e w5 ⟨A5, c5, rfl, hr5, hc5, _, hb5⟩
  go_wp2_with fail
  refine (BB.out w5).mono ?_
  rintro e w6 ⟨A6, c6, rfl, hr6, hc6, _, hb6⟩
  have P2 := ref_add' A5 A6 128 64 c5 c6 _ _ w6 ((hr5.below hb6).more hb6.size) hr6 (bitsN_bits _ _) (bitsN_bits _ _) (by omega) (by omega)
  rw [G2.out] at P2
  have Q2 := Lib.hid P2
  clear P2
  go_wp2_with fail
  refine Q2.out.mono ?_
  rintro e w7 ⟨A7, c7, rfl, hr7, hc7, ⟨hm7, _⟩, hb7⟩
  have T2 := Lib.hid (ref_two' A7 c7 _ w7 hr7 hc7 hm7 _ _ F3.out F4.out)
  have k3 := hb2.trans (hb3.mono hb2.size)
  have k4 := k3.trans (hb4.mono k3.size)
  have k5 := k4.trans (hb5.mono k4.size)
  have k6 := k5.trans (hb6.mono k5.size)
  have k7 := k6.trans (hb7.mono k6.size)
  clear hr3 hr4 hr5 hr6 hr7 hb2 hb3 hb4 hb5 hb6 hb7 k3 k4 k5 k6
  go_wp2_with fail
  refine T2.out.mono ?_
  rintro e w8 ⟨rfl, n8, rfl⟩
  have k8 := below_drewN_ k7 n8
  have C5 := Lib.hid (awake_any (w7.drewN n8) (HT.out.on k8))
  clear k7
  go_wp2_with fail
  refine C5.out.mono ?_
  rintro e w' ⟨rfl, rfl⟩
  go_wp2_with fail
  go_ret
  exact ⟨rfl, k8⟩
theorem wordMuls_walk (x y a b : Int) (hx : Wd x) (hy : Wd y) (ha : Wd a) (hb : Wd b) (w : World) (hT : TabAt w) :
    Calls Tryd.prog 4 #[.int .u64 x, .int .u64 y, .int .u64 a, .int .u64 b] w fun e w' => e = .returned (.bool true) ∧ Below w.heap.size w w' := by
  obtain ⟨x, rfl⟩ := Int.eq_ofNat_of_zero_le hx.1
  obtain ⟨y, rfl⟩ := Int.eq_ofNat_of_zero_le hy.1
  obtain ⟨a, rfl⟩ := Int.eq_ofNat_of_zero_le ha.1
  obtain ⟨b, rfl⟩ := Int.eq_ofNat_of_zero_le hb.1
  exact wordMuls_nat x y a b (by have := hx.2; omega) (by have := hy.2; omega) (by have := ha.2; omega) (by have := hb.2; omega) w hT
end Go.Proofs.YtjdkpbfkkepaiaaDoor
