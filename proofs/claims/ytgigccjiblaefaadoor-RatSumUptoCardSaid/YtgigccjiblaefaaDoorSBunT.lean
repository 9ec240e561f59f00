/- What this claim leans on. -/
import Derived.Test.YtgigccjiblaefaaDoorSBunW
import Derived.Deep.Draws
namespace Go.Proofs.YtgigccjiblaefaaDoor
open Go Go.RowKit
def zal (w : World) : Prop := ∀ j, j < Lib.deBruijn64tab.length → w.cell? ⟨0, j, none⟩ = some (.int .u8 (Lib.deBruijn64tab.getD j 0 : Nat))
theorem zal.below {B : Nat} {w w' : World} (h : zal w) (hb : Below B w w') (hB : 0 < B) : zal w' := fun j hj => (hb.cell (p := ⟨0, j, none⟩) hB).trans (h j hj)
theorem zal.drewN {w : World} (h : zal w) (n : Nat) : zal (w.drewN n) := h
theorem zal.on {w w' : World} (h : zal w) (hb : Below w.heap.size w w') : zal w' := h.below hb (by
 have := h 0 (by decide)
 exact World.block_lt_of_cell? w _ this)
theorem tz_key (x a : Nat) (hx : x < 18446744073709551616) (hx0 : x ≠ 0) (hlow : x &&& (18446744073709551616 - x) = a) :
  IntKind.u64.wrap (bits BinOp.and IntKind.u64 (x : Int) (IntKind.u64.wrap (-(x : Int))) * 285870213051353865) / 288230376151711744 = ((a * 285870213051353865 % 18446744073709551616 / 288230376151711744 : Nat) : Int) := by
 have e1 : IntKind.u64.wrap (-(x : Int)) = ((18446744073709551616 - x : Nat) : Int) := by rw [IntKind.wrap_u64]; omega
 rw [e1, bits_and_u64_nat x _ hx (by omega), hlow, IntKind.wrap_u64]
 omega
set_option maxHeartbeats 1000000 in
theorem zfY (x k idx : Nat) (w : World) (hx0 : ((x : Int) == 0) = false)
  (key : IntKind.u64.wrap (bits BinOp.and IntKind.u64 (x : Int) (IntKind.u64.wrap (-(x : Int))) * 285870213051353865) / 288230376151711744 = (idx : Int))
  (hi : idx < 64) (hk : k < 64) (hcell : w.cell? ⟨0, idx, none⟩ = some (.int .u8 k)) :
  Calls Tryd.prog 96 #[.int .u64 x] w fun e w' => e = .returned (.int .i64 k) ∧ w = w' := by
 go_enter Tryd.func96, Tryd.ntmps96
 go_wp2_with (simp only [key])
 go_ret
 exact ⟨rfl, rfl⟩
theorem zge (w : World) :
  Calls Tryd.prog 96 #[.int .u64 0] w fun e w' => e = .returned (.int .i64 64) ∧ w = w' := by
 go_enter Tryd.func96, Tryd.ntmps96
 go_wp2
 go_ret
 exact ⟨rfl, rfl⟩
theorem ziJ (x : Int) (hx : Wd x) (w : World) (hT : zal w) :
  Calls Tryd.prog 96 #[.int .u64 x] w fun e w' => e = .returned (.int .i64 (zdC x)) ∧ w = w' := by
 obtain ⟨h0, h1⟩ := hx
 obtain ⟨x, rfl⟩ := Int.eq_ofNat_of_zero_le h0
 have hN : x < 18446744073709551616 := by omega
 unfold zdC
 rw [Int.toNat_natCast]
 by_cases hx0 : x = 0
 ·subst hx0
  exact zge w
 ·obtain ⟨hlow, hk⟩ := Lib.lowest_bit 64 x hx0 hN
  obtain ⟨hi, htab⟩ := Lib.deBruijn64_at _ hk
  have hcell := hT _ hi
  rw [htab] at hcell
  exact zfY x _ _ w (by simp; omega) (tz_key x _ hN hx0 hlow) hi hk hcell
theorem zhI (x : Int) (hx : Wd x) (w : World) (hT : zal w) :
  Calls Tryd.prog 85 #[.int .u64 x] w fun e w' => e = .returned (.int .i64 (zdC x)) ∧ w = w' := by
 have H := Lib.hid (ziJ x hx w hT)
 clear hT
 go_enter Tryd.func85, Tryd.ntmps85
 go_wp2_with (go_at_call 96; refine H.out.mono ?_; rintro e w' ⟨rfl, rfl⟩)
 go_ret
 exact ⟨rfl, rfl⟩
end Go.Proofs.YtgigccjiblaefaaDoor
