/-
  The contract of math/bits.Sub64. Conditions: the arguments are words.
-/
import Derived.Test.YtlofionccgjndaaDoorRows
import Derived.Test.YtlofionccgjndaaDoorWd0
import Derived.WalkKit
import Derived.Lib.Hide
import Derived.Outline
import Derived.Laws.Externs
namespace Go.Proofs.YtlofionccgjndaaDoor
open Go Go.RowKit
/-! ### math/bits.Add64, Sub64: the model's own entries -/
def sub64E : Array Value → Sem Value := fun args => do
  let (x, y, b) ← Extern.MathBitsCarry.three "Sub64" args
  pure (Extern.MathBitsCarry.pair ((x + Extern.MathBitsCarry.m64 - y - b) % Extern.MathBitsCarry.m64) (if x < y + b then 1 else 0))
theorem run_sub64E (P : Program) (x y b : Nat) (hb : b ≤ 1) (w : World) :
    (sub64E #[.int .u64 x, .int .u64 y, .int .u64 b]).run P w =
      .ok (.tuple #[.int .u64 (((x + 18446744073709551616 - y - b) % 18446744073709551616 : Nat) : Int), .int .u64 ((if x < y + b then 1 else 0 : Nat) : Int)]) w := by
  have : b = 0 ∨ b = 1 := by omega
  rcases this with rfl | rfl <;> rfl
theorem sub64 (x y b : Int) (hx : Wd x) (hy : Wd y) (hb0 : 0 ≤ b) (hb : b ≤ 1) (w : World) :
    (callFunc 37 #[.int .u64 x, .int .u64 y, .int .u64 b]).run Tryd.prog w = .ok (.value (.tuple #[.int .u64 (subLo x y b), .int .u64 (subHi x y b)])) w := by
  obtain ⟨hx0, hx1⟩ := hx
  obtain ⟨hy0, hy1⟩ := hy
  obtain ⟨x, rfl⟩ := Int.eq_ofNat_of_zero_le hx0
  obtain ⟨y, rfl⟩ := Int.eq_ofNat_of_zero_le hy0
  obtain ⟨b, rfl⟩ := Int.eq_ofNat_of_zero_le hb0
  have e1 : (((x + 18446744073709551616 - y - b) % 18446744073709551616 : Nat) : Int) = subLo x y b := by unfold subLo; omega
  have e2 : ((if x < y + b then 1 else 0 : Nat) : Int) = subHi x y b := by unfold subHi; split <;> split <;> omega
  rw [run_callFunc_extern Tryd.func37 (by kernel_rfl) (by kernel_rfl) (by kernel_rfl) (e := sub64E) (by kernel_rfl), run_sub64E _ x y b (by omega), e1, e2]
  rfl
end Go.Proofs.YtlofionccgjndaaDoor
