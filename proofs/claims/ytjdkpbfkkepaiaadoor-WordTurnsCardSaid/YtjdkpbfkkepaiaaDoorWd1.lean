/-
  The contracts of math/bits and of the package word, as far as neither divides: what each call returns. Conditions: the arguments are words (64 bits); TrailingZeros64's table reads as its initialiser lays it.
-/
import Derived.Test.YtjdkpbfkkepaiaaDoorRows
import Derived.Test.YtjdkpbfkkepaiaaDoorWd0
import Derived.WalkKit
import Derived.Laws.Externs
import Derived.Laws.Bits64b
import Derived.Lib.LaidTab
import Derived.Lib.Hide
import Derived.BigQuiet
import Derived.Deep.QuietTactic
import Derived.Outline
namespace Go.Proofs.YtjdkpbfkkepaiaaDoor
open Go Go.RowKit

/-! ### math/bits.Add64, Sub64: the model's own entries -/
def sub64E : Array Value → Sem Value := fun args => do
  let (x, y, b) ← Extern.MathBitsCarry.three "Sub64" args
  pure (Extern.MathBitsCarry.pair ((x + Extern.MathBitsCarry.m64 - y - b) % Extern.MathBitsCarry.m64) (if x < y + b then 1 else 0))
theorem run_sub64E (P : Program) (x y b : Nat) (hb : b ≤ 1) (w : World) :
    (sub64E #[.int .u64 x, .int .u64 y, .int .u64 b]).run P w =
      .ok (.tuple #[.int .u64 (((x + 18446744073709551616 - y - b) % 18446744073709551616 : Nat) : Int), .int .u64 ((if x < y + b then 1 else 0 : Nat) : Int)]) w := by
  have : b = 0 ∨ b = 1 := by omega
  rcases this with rfl | rfl <;> rfl
theorem add64 (x y c : Int) (hx : Wd x) (hy : Wd y) (hc0 : 0 ≤ c) (hc : c ≤ 1) (w : World) :
    (callFunc 27 #[.int .u64 x, .int .u64 y, .int .u64 c]).run Tryd.prog w = .ok (.value (.tuple #[.int .u64 (addLo x y c), .int .u64 (addHi x y c)])) w := by
  rw [run_callFunc_extern Tryd.func27 (by kernel_rfl) (by kernel_rfl) (by kernel_rfl) (e := add64Entry) (by kernel_rfl), run_add64 x y c hx.1 hy.1 hc0 hc]
  have e : c % 2 = c := by omega
  unfold addLo addHi
  rw [e]
  rfl
theorem sub64 (x y b : Int) (hx : Wd x) (hy : Wd y) (hb0 : 0 ≤ b) (hb : b ≤ 1) (w : World) :
    (callFunc 28 #[.int .u64 x, .int .u64 y, .int .u64 b]).run Tryd.prog w = .ok (.value (.tuple #[.int .u64 (subLo x y b), .int .u64 (subHi x y b)])) w := by
  obtain ⟨hx0, hx1⟩ := hx
  obtain ⟨hy0, hy1⟩ := hy
  obtain ⟨x, rfl⟩ := Int.eq_ofNat_of_zero_le hx0
  obtain ⟨y, rfl⟩ := Int.eq_ofNat_of_zero_le hy0
  obtain ⟨b, rfl⟩ := Int.eq_ofNat_of_zero_le hb0
  have e1 : (((x + 18446744073709551616 - y - b) % 18446744073709551616 : Nat) : Int) = subLo x y b := by unfold subLo; omega
  have e2 : ((if x < y + b then 1 else 0 : Nat) : Int) = subHi x y b := by unfold subHi; split <;> split <;> omega
  rw [run_callFunc_extern Tryd.func28 (by kernel_rfl) (by kernel_rfl) (by kernel_rfl) (e := sub64E) (by kernel_rfl), run_sub64E _ x y b (by omega), e1, e2]
  rfl

theorem low1 (c : Int) (hc : Wd c) : bits .and .u64 c 1 = c % 2 := by
  obtain ⟨h0, h1⟩ := hc
  obtain ⟨c, rfl⟩ := Int.eq_ofNat_of_zero_le h0
  have h := bits_and_u64_nat c 1 (by omega) (by omega)
  have e : c &&& 1 = c % 2 := Nat.and_two_pow_sub_one_eq_mod c 1
  rw [e] at h
  simpa using h

set_option maxHeartbeats 400000 in
theorem word_add (x y c : Int) (hx : Wd x) (hy : Wd y) (hc : Wd c) (w : World) :
    Calls Tryd.prog 10 #[.int .u64 x, .int .u64 y, .int .u64 c] w fun e w' => e = .returned (.tuple #[.int .u64 (addLo x y c), .int .u64 (addHi x y c)]) ∧ w = w' := by
  have L := Lib.hid (low1 c hc)
  have H := Lib.hid (add64 x y (c % 2) hx hy (by omega) (by omega))
  have e1 : addLo x y (c % 2) = addLo x y c := by unfold addLo; omega
  have e2 : addHi x y (c % 2) = addHi x y c := by unfold addHi; omega
  rw [e1, e2] at H
  clear e1 e2
  go_enter Tryd.func10, Tryd.ntmps10
  go_wp2_with (first | simp only [L.out, H.out])
  go_ret2
  exact ⟨rfl, rfl⟩

set_option maxHeartbeats 400000 in
theorem word_sub (x y c : Int) (hx : Wd x) (hy : Wd y) (hc : Wd c) (w : World) :
    Calls Tryd.prog 12 #[.int .u64 x, .int .u64 y, .int .u64 c] w fun e w' => e = .returned (.tuple #[.int .u64 (subLo x y c), .int .u64 (subHi x y c)]) ∧ w = w' := by
  have L := Lib.hid (low1 c hc)
  have H := Lib.hid (sub64 x y (c % 2) hx hy (by omega) (by omega))
  have e1 : subLo x y (c % 2) = subLo x y c := by unfold subLo; omega
  have e2 : subHi x y (c % 2) = subHi x y c := by unfold subHi; rw [show c % 2 % 2 = c % 2 from by omega]
  rw [e1, e2] at H
  clear e1 e2
  go_enter Tryd.func12, Tryd.ntmps12
  go_wp2_with (first | simp only [L.out, H.out])
  go_ret2
  exact ⟨rfl, rfl⟩

/-! ### math/bits.Mul64: the school method on halves -/
namespace M64
theorem maskN (a : Nat) (ha : a < 18446744073709551616) : bits .and .u64 (a : Int) 4294967295 = ((a % 4294967296 : Nat) : Int) := by
  have h := bits_and_u64_nat a 4294967295 ha (by omega)
  have e : a &&& 4294967295 = a % 4294967296 := Nat.and_two_pow_sub_one_eq_mod a 32
  rw [e] at h
  exact h
theorem divN (a : Nat) : (a : Int) / 4294967296 = ((a / 4294967296 : Nat) : Int) := by omega
theorem mulN (a b : Nat) : (a : Int) * (b : Int) = ((a * b : Nat) : Int) := (Int.natCast_mul a b).symm
theorem addN (a b : Nat) : (a : Int) + (b : Int) = ((a + b : Nat) : Int) := (Int.natCast_add a b).symm
theorem wrapN (a : Nat) (ha : a < 18446744073709551616) : IntKind.u64.wrap (a : Int) = (a : Int) := by rw [IntKind.wrap_u64]; omega
theorem wrapM (a : Nat) : IntKind.u64.wrap (a : Int) = ((a % 18446744073709551616 : Nat) : Int) := by rw [IntKind.wrap_u64]; omega
end M64

set_option maxHeartbeats 1000000 in
theorem mul64_nat (x y : Nat) (hx : x < 18446744073709551616) (hy : y < 18446744073709551616) (w : World) :
    Calls Tryd.prog 30 #[.int .u64 x, .int .u64 y] w fun e w' => e = .returned (.tuple #[.int .u64 ((x * y / 18446744073709551616 : Nat) : Int), .int .u64 ((x * y % 18446744073709551616 : Nat) : Int)]) ∧ w = w' := by
  obtain ⟨bd, bt, bw, hhi⟩ := Lib.mul64_hi x y hx hy
  have ba := Lib.half_mul_le (a := x / 4294967296) (b := y / 4294967296) (by omega) (by omega)
  have bb := Lib.half_mul_le (a := x / 4294967296) (b := y % 4294967296) (by omega) (by omega)
  have bc := Lib.half_mul_le (a := x % 4294967296) (b := y / 4294967296) (by omega) (by omega)
  have ba' : x / 4294967296 * (y / 4294967296) < 18446744073709551616 := by omega
  have bb' : x / 4294967296 * (y % 4294967296) < 18446744073709551616 := by omega
  have bc' : x % 4294967296 * (y / 4294967296) < 18446744073709551616 := by omega
  have bh1 : x / 4294967296 * (y / 4294967296) + (x / 4294967296 * (y % 4294967296) + x % 4294967296 * (y % 4294967296) / 4294967296) / 4294967296 < 18446744073709551616 := by omega
  have bh : x / 4294967296 * (y / 4294967296) + (x / 4294967296 * (y % 4294967296) + x % 4294967296 * (y % 4294967296) / 4294967296) / 4294967296 + ((x / 4294967296 * (y % 4294967296) + x % 4294967296 * (y % 4294967296) / 4294967296) % 4294967296 + x % 4294967296 * (y / 4294967296)) / 4294967296 < 18446744073709551616 := by omega
  go_enter Tryd.func30, Tryd.ntmps30
  go_wp2
  simp only [M64.maskN x hx, M64.maskN y hy, M64.divN, M64.mulN, M64.addN, M64.wrapN _ bd, M64.wrapN _ bb', M64.wrapN _ bt, M64.maskN _ bt, M64.wrapN _ bc', M64.wrapN _ bw, M64.wrapN _ ba', M64.wrapN _ bh1, M64.wrapN _ bh, M64.wrapM (x * y)]
  rw [hhi]
  go_ret2
  exact ⟨rfl, rfl⟩

theorem mul64 (x y : Int) (hx : Wd x) (hy : Wd y) (w : World) :
    Calls Tryd.prog 30 #[.int .u64 x, .int .u64 y] w fun e w' => e = .returned (.tuple #[.int .u64 (mulHi x y), .int .u64 (mulLo x y)]) ∧ w = w' := by
  obtain ⟨hx0, hx1⟩ := hx
  obtain ⟨hy0, hy1⟩ := hy
  obtain ⟨x, rfl⟩ := Int.eq_ofNat_of_zero_le hx0
  obtain ⟨y, rfl⟩ := Int.eq_ofNat_of_zero_le hy0
  have e1 : mulHi x y = ((x * y / 18446744073709551616 : Nat) : Int) := by unfold mulHi; rw [← Int.natCast_mul]; omega
  have e2 : mulLo x y = ((x * y % 18446744073709551616 : Nat) : Int) := by unfold mulLo; rw [← Int.natCast_mul]; omega
  rw [e1, e2]
  exact mul64_nat x y (by omega) (by omega) w

theorem word_mul (x y : Int) (hx : Wd x) (hy : Wd y) (w : World) :
    Calls Tryd.prog 15 #[.int .u64 x, .int .u64 y] w fun e w' => e = .returned (.tuple #[.int .u64 (mulHi x y), .int .u64 (mulLo x y)]) ∧ w = w' := by
  have H := Lib.hid (mul64 x y hx hy w)
  go_enter Tryd.func15, Tryd.ntmps15
  go_wp2_with (go_at_call 30; refine H.out.mono ?_; rintro e w' ⟨rfl, rfl⟩)
  go_ret2
  exact ⟨rfl, rfl⟩

/-- MulAdd: the two sums' carries never run the high word over. -/
theorem word_muladd (x y a b : Int) (hx : Wd x) (hy : Wd y) (ha : Wd a) (hb : Wd b) (w : World) :
    Calls Tryd.prog 18 #[.int .u64 x, .int .u64 y, .int .u64 a, .int .u64 b] w fun e w' => e = .returned (.tuple #[.int .u64 (maHi x y a b), .int .u64 (maLo x y a b)]) ∧ w = w' := by
  have hl := mulLo_wd x y
  have hs := addLo_wd (mulLo x y) a 0
  have H := Lib.hid (mul64 x y hx hy w)
  have A1 := Lib.hid (add64 (mulLo x y) a 0 hl ha (by omega) (by omega) w)
  have A2 := Lib.hid (add64 (addLo (mulLo x y) a 0) b 0 hs hb (by omega) (by omega) w)
  have eL : addLo (addLo (mulLo x y) a 0) b 0 = maLo x y a b := by rw [← maLo_eq]; unfold addLo; omega
  have eH : mulHi x y + addHi (mulLo x y) a 0 + addHi (addLo (mulLo x y) a 0) b 0 = maHi x y a b := by rw [← maHi_eq]; unfold addHi addLo; omega
  have b1 := mulHi_wd hx hy
  have b2 := addHi_bd (c := 0) hl ha
  have b3 := addHi_bd (c := 0) hs hb
  have b4 := maHi_wd hx hy ha hb
  have EL := Lib.hid eL
  have EH := Lib.hid eH
  have W1 : Hid (IntKind.u64.wrap (mulHi x y + addHi (mulLo x y) a 0) = mulHi x y + addHi (mulLo x y) a 0) := by
    rw [IntKind.wrap_u64]; unfold Wd at *; show _ % _ = _; omega
  have W2 : Hid (IntKind.u64.wrap (maHi x y a b) = maHi x y a b) := by
    rw [IntKind.wrap_u64]; unfold Wd at *; show _ % _ = _; omega
  clear eL eH b1 b2 b3 b4 hl hs
  go_enter Tryd.func18, Tryd.ntmps18
  go_wp2_with (first | (go_at_call 30; refine H.out.mono ?_; rintro e w' ⟨rfl, rfl⟩) | simp only [A1.out] | simp only [A2.out])
  simp only [W1.out, W2.out, EL.out, EH.out]
  go_ret2
  exact ⟨rfl, rfl⟩

/-! ### math/bits.Len64, LeadingZeros64, TrailingZeros64 -/
theorem len_way (x z : Int) (k : Nat) (hk : k ≤ 56) (h0 : 0 ≤ z) (h1 : z < 256) (hz : z.toNat = x.toNat / 2 ^ k) (hne : k = 0 ∨ z ≠ 0) : wrap64 ((k : Int) + wrap64 ((bitLen z.toNat : Nat) : Int)) = lenN x := by
  have hl := bitLen_le8 z.toNat (by omega)
  have e1 : wrap64 ((bitLen z.toNat : Nat) : Int) = ((bitLen z.toNat : Nat) : Int) := IntWalk.wrap64_in _ (by omega)
  have e2 : bitLen x.toNat = k + bitLen z.toNat := by
    rcases hne with rfl | hne
    · rw [hz]; simp
    · rw [hz]; exact bitLen_shift x.toNat k (by rw [← hz]; omega)
  rw [e1, IntWalk.wrap64_in _ (by omega)]
  unfold lenN
  rw [e2]
  omega
theorem len_way0 (x : Int) (h0 : 0 ≤ x) (h1 : x < 256) : wrap64 (wrap64 ((bitLen x.toNat : Nat) : Int)) = lenN x := by
  have hl := bitLen_le8 x.toNat (by omega)
  have e : wrap64 ((bitLen x.toNat : Nat) : Int) = ((bitLen x.toNat : Nat) : Int) := IntWalk.wrap64_in _ (by omega)
  rw [e, e]
  rfl

set_option maxRecDepth 100000 in
set_option maxHeartbeats 1000000 in
theorem len64 (x : Int) (hx : Wd x) (w : World) :
    Calls Tryd.prog 32 #[.int .u64 x] w fun e w' => e = .returned (.int .i64 (lenN x)) ∧ w = w' := by
  obtain ⟨h0, h1⟩ := hx
  go_enter Tryd.func32, Tryd.ntmps32
  go_wp2
  all_goals
    go_ret
    refine ⟨congrArg Ending.returned (congrArg (Value.int IntKind.i64) ?_), rfl⟩
    rw [len8tab_get]
  all_goals first
    | exact len_way x (x / 4294967296 / 65536 / 256) 56 (by omega) (by omega) (by omega) (by omega) (.inr (by omega))
    | exact len_way x (x / 4294967296 / 65536) 48 (by omega) (by omega) (by omega) (by omega) (.inr (by omega))
    | exact len_way x (x / 4294967296 / 256) 40 (by omega) (by omega) (by omega) (by omega) (.inr (by omega))
    | exact len_way x (x / 4294967296) 32 (by omega) (by omega) (by omega) (by omega) (.inr (by omega))
    | exact len_way x (x / 65536 / 256) 24 (by omega) (by omega) (by omega) (by omega) (.inr (by omega))
    | exact len_way x (x / 65536) 16 (by omega) (by omega) (by omega) (by omega) (.inr (by omega))
    | exact len_way x (x / 256) 8 (by omega) (by omega) (by omega) (by omega) (.inr (by omega))
    | exact len_way0 x (by omega) (by omega)

theorem lead64 (x : Int) (hx : Wd x) (w : World) :
    Calls Tryd.prog 33 #[.int .u64 x] w fun e w' => e = .returned (.int .i64 (64 - lenN x)) ∧ w = w' := by
  have H := Lib.hid (len64 x hx w)
  have b := lenN_bd hx
  obtain ⟨b0, b1⟩ := b
  go_enter Tryd.func33, Tryd.ntmps33
  go_wp2_with (go_at_call 32; refine H.out.mono ?_; rintro e w' ⟨rfl, rfl⟩)
  go_ret
  exact ⟨rfl, rfl⟩

/-- TrailingZeros64's table, as its initialiser lays it: what the listed variable gives. -/
def TabAt (w : World) : Prop := ∀ j, j < Lib.deBruijn64tab.length → w.cell? ⟨0, j, none⟩ = some (.int .u8 (Lib.deBruijn64tab.getD j 0 : Nat))
theorem TabAt.below {B : Nat} {w w' : World} (h : TabAt w) (hb : Below B w w') (hB : 0 < B) : TabAt w' := fun j hj => (hb.cell (p := ⟨0, j, none⟩) hB).trans (h j hj)
theorem TabAt.drewN {w : World} (h : TabAt w) (n : Nat) : TabAt (w.drewN n) := h

theorem tz_key (x a : Nat) (hx : x < 18446744073709551616) (hx0 : x ≠ 0) (hlow : x &&& (18446744073709551616 - x) = a) :
    IntKind.u64.wrap (bits BinOp.and IntKind.u64 (x : Int) (IntKind.u64.wrap (-(x : Int))) * 285870213051353865) / 288230376151711744 = ((a * 285870213051353865 % 18446744073709551616 / 288230376151711744 : Nat) : Int) := by
  have e1 : IntKind.u64.wrap (-(x : Int)) = ((18446744073709551616 - x : Nat) : Int) := by rw [IntKind.wrap_u64]; omega
  rw [e1, bits_and_u64_nat x _ hx (by omega), hlow, IntKind.wrap_u64]
  omega

set_option maxHeartbeats 1000000 in
theorem trail64_core (x k idx : Nat) (w : World) (hx0 : ((x : Int) == 0) = false)
    (key : IntKind.u64.wrap (bits BinOp.and IntKind.u64 (x : Int) (IntKind.u64.wrap (-(x : Int))) * 285870213051353865) / 288230376151711744 = (idx : Int))
    (hi : idx < 64) (hk : k < 64) (hcell : w.cell? ⟨0, idx, none⟩ = some (.int .u8 k)) :
    Calls Tryd.prog 34 #[.int .u64 x] w fun e w' => e = .returned (.int .i64 k) ∧ w = w' := by
  go_enter Tryd.func34, Tryd.ntmps34
  go_wp2_with (simp only [key])
  go_ret
  exact ⟨rfl, rfl⟩
theorem trail64_zero (w : World) :
    Calls Tryd.prog 34 #[.int .u64 0] w fun e w' => e = .returned (.int .i64 64) ∧ w = w' := by
  go_enter Tryd.func34, Tryd.ntmps34
  go_wp2
  go_ret
  exact ⟨rfl, rfl⟩
theorem trail64 (x : Int) (hx : Wd x) (w : World) (hT : TabAt w) :
    Calls Tryd.prog 34 #[.int .u64 x] w fun e w' => e = .returned (.int .i64 (trailN x)) ∧ w = w' := by
  obtain ⟨h0, h1⟩ := hx
  obtain ⟨x, rfl⟩ := Int.eq_ofNat_of_zero_le h0
  have hN : x < 18446744073709551616 := by omega
  unfold trailN
  rw [Int.toNat_natCast]
  by_cases hx0 : x = 0
  · subst hx0
    exact trail64_zero w
  · obtain ⟨hlow, hk⟩ := Lib.lowest_bit 64 x hx0 hN
    obtain ⟨hi, htab⟩ := Lib.deBruijn64_at _ hk
    have hcell := hT _ hi
    rw [htab] at hcell
    exact trail64_core x _ _ w (by simp; omega) (tz_key x _ hN hx0 hlow) hi hk hcell

theorem word_len (x : Int) (hx : Wd x) (w : World) :
    Calls Tryd.prog 21 #[.int .u64 x] w fun e w' => e = .returned (.int .i64 (lenN x)) ∧ w = w' := by
  have H := Lib.hid (len64 x hx w)
  go_enter Tryd.func21, Tryd.ntmps21
  go_wp2_with (go_at_call 32; refine H.out.mono ?_; rintro e w' ⟨rfl, rfl⟩)
  go_ret
  exact ⟨rfl, rfl⟩
theorem word_lead (x : Int) (hx : Wd x) (w : World) :
    Calls Tryd.prog 23 #[.int .u64 x] w fun e w' => e = .returned (.int .i64 (64 - lenN x)) ∧ w = w' := by
  have H := Lib.hid (lead64 x hx w)
  go_enter Tryd.func23, Tryd.ntmps23
  go_wp2_with (go_at_call 33; refine H.out.mono ?_; rintro e w' ⟨rfl, rfl⟩)
  go_ret
  exact ⟨rfl, rfl⟩
theorem word_trail (x : Int) (hx : Wd x) (w : World) (hT : TabAt w) :
    Calls Tryd.prog 24 #[.int .u64 x] w fun e w' => e = .returned (.int .i64 (trailN x)) ∧ w = w' := by
  have H := Lib.hid (trail64 x hx w hT)
  clear hT
  go_enter Tryd.func24, Tryd.ntmps24
  go_wp2_with (go_at_call 34; refine H.out.mono ?_; rintro e w' ⟨rfl, rfl⟩)
  go_ret
  exact ⟨rfl, rfl⟩
end Go.Proofs.YtjdkpbfkkepaiaaDoor
