/-
  TrailingZeros64's table, as its initialiser lays it. Conditions: none.
  The contract of math/bits.TrailingZeros64. Conditions: the argument is a word; the table reads as its initialiser lays it.
  The contract of word.Trail. Conditions: the argument is a word; TrailingZeros64's table reads as its initialiser lays it.
-/
import Derived.Test.YtplgbokgfphjaaaDoorRows
import Derived.Test.YtplgbokgfphjaaaDoorBunW
import Derived.WalkKit
import Derived.Lib.Hide
import Derived.Outline
import Derived.Deep.Draws
namespace Go.Proofs.YtplgbokgfphjaaaDoor
open Go Go.RowKit
/-- TrailingZeros64's table, as its initialiser lays it: what the listed variable gives. -/
def TabAt (w : World) : Prop := ∀ j, j < Lib.deBruijn64tab.length → w.cell? ⟨0, j, none⟩ = some (.int .u8 (Lib.deBruijn64tab.getD j 0 : Nat))
theorem TabAt.below {B : Nat} {w w' : World} (h : TabAt w) (hb : Below B w w') (hB : 0 < B) : TabAt w' := fun j hj => (hb.cell (p := ⟨0, j, none⟩) hB).trans (h j hj)
theorem TabAt.drewN {w : World} (h : TabAt w) (n : Nat) : TabAt (w.drewN n) := h
theorem TabAt.on {w w' : World} (h : TabAt w) (hb : Below w.heap.size w w') : TabAt w' := h.below hb (by
  have := h 0 (by decide)
  exact World.block_lt_of_cell? w _ this)
end Go.Proofs.YtplgbokgfphjaaaDoor
namespace Go.Proofs.YtplgbokgfphjaaaDoor
open Go Go.RowKit
theorem tz_key (x a : Nat) (hx : x < 18446744073709551616) (hx0 : x ≠ 0) (hlow : x &&& (18446744073709551616 - x) = a) :
    IntKind.u64.wrap (bits BinOp.and IntKind.u64 (x : Int) (IntKind.u64.wrap (-(x : Int))) * 285870213051353865) / 288230376151711744 = ((a * 285870213051353865 % 18446744073709551616 / 288230376151711744 : Nat) : Int) := by
  have e1 : IntKind.u64.wrap (-(x : Int)) = ((18446744073709551616 - x : Nat) : Int) := by rw [IntKind.wrap_u64]; omega
  rw [e1, bits_and_u64_nat x _ hx (by omega), hlow, IntKind.wrap_u64]
  omega
set_option maxHeartbeats 1000000 in
theorem trail64_core (x k idx : Nat) (w : World) (hx0 : ((x : Int) == 0) = false)
    (key : IntKind.u64.wrap (bits BinOp.and IntKind.u64 (x : Int) (IntKind.u64.wrap (-(x : Int))) * 285870213051353865) / 288230376151711744 = (idx : Int))
    (hi : idx < 64) (hk : k < 64) (hcell : w.cell? ⟨0, idx, none⟩ = some (.int .u8 k)) :
    Calls Tryd.prog 69 #[.int .u64 x] w fun e w' => e = .returned (.int .i64 k) ∧ w = w' := by
  go_enter Tryd.func69, Tryd.ntmps69
  go_wp2_with (simp only [key])
  go_ret
  exact ⟨rfl, rfl⟩
theorem trail64_zero (w : World) :
    Calls Tryd.prog 69 #[.int .u64 0] w fun e w' => e = .returned (.int .i64 64) ∧ w = w' := by
  go_enter Tryd.func69, Tryd.ntmps69
  go_wp2
  go_ret
  exact ⟨rfl, rfl⟩
theorem trail64 (x : Int) (hx : Wd x) (w : World) (hT : TabAt w) :
    Calls Tryd.prog 69 #[.int .u64 x] w fun e w' => e = .returned (.int .i64 (trailN x)) ∧ w = w' := by
  obtain ⟨h0, h1⟩ := hx
  obtain ⟨x, rfl⟩ := Int.eq_ofNat_of_zero_le h0
  have hN : x < 18446744073709551616 := by omega
  unfold trailN
  rw [Int.toNat_natCast]
  by_cases hx0 : x = 0
  · subst hx0
    exact trail64_zero w
  · obtain ⟨hlow, hk⟩ := Lib.lowest_bit 64 x hx0 hN
    obtain ⟨hi, htab⟩ := Lib.deBruijn64_at _ hk
    have hcell := hT _ hi
    rw [htab] at hcell
    exact trail64_core x _ _ w (by simp; omega) (tz_key x _ hN hx0 hlow) hi hk hcell
end Go.Proofs.YtplgbokgfphjaaaDoor
namespace Go.Proofs.YtplgbokgfphjaaaDoor
open Go Go.RowKit
theorem word_trail (x : Int) (hx : Wd x) (w : World) (hT : TabAt w) :
    Calls Tryd.prog 58 #[.int .u64 x] w fun e w' => e = .returned (.int .i64 (trailN x)) ∧ w = w' := by
  have H := Lib.hid (trail64 x hx w hT)
  clear hT
  go_enter Tryd.func58, Tryd.ntmps58
  go_wp2_with (go_at_call 69; refine H.out.mono ?_; rintro e w' ⟨rfl, rfl⟩)
  go_ret
  exact ⟨rfl, rfl⟩
end Go.Proofs.YtplgbokgfphjaaaDoor
