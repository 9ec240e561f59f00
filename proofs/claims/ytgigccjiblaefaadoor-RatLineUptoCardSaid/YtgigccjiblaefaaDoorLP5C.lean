/- What this claim leans on. -/
import Derived.Test.YtgigccjiblaefaaDoorLBunT
import Derived.Test.YtgigccjiblaefaaDoorLBunN
import Derived.IntWalk
import Derived.Laws.BytesArg
namespace Go.Proofs.YtgigccjiblaefaaDoor
open Go Go.RowKit
set_option linter.unusedVariables false
def zbH (w : World) (x : Nat) (e : Ending) (w' : World) : Prop := ∃ (A : Option Addr) (n c : Nat), e = .returned (.agg #[.slice A n c]) ∧ zae w' x A n c ∧ Below w.heap.size w w'
def zgg (w : World) (x y : Nat) (e : Ending) (w' : World) : Prop := ∃ (A : Option Addr) (n c : Nat) (B : Option Addr) (m d : Nat), e = .returned (.tuple #[.agg #[.slice A n c], .agg #[.slice B m d]]) ∧ zae w' x A n c ∧ zae w' y B m d ∧ Below w.heap.size w w'
theorem Sz.gcd {K K' x y : Nat} (h : Sz K x) (h' : Sz K' y) : Sz (K + K') (Nat.gcd x y) := by
 rcases Nat.eq_zero_or_pos x with e | e
 ·rw [e, Nat.gcd_zero_left]; exact h'.up (by omega)
 ·exact (h.of_le (Nat.gcd_le_left y e)).up (by omega)
structure GcdC : Prop where
 of : ∀ (x y : Nat) (A D : Option Addr) (n m c d : Nat) (w : World), zae w x A n c → zae w y D m d → n ≤ 1073741824 → m ≤ 1073741824 → zan w → Calls Tryd.prog 57 #[.agg #[.slice A n c], .agg #[.slice D m d]] w (zbH w (Nat.gcd x y))
 reduce : ∀ (x y : Nat) (A D : Option Addr) (n m c d : Nat) (w : World), zae w x A n c → zae w y D m d → n ≤ 1073741824 → m ≤ 1073741824 → zan w → Calls Tryd.prog 37 #[.agg #[.slice A n c], .agg #[.slice D m d]] w (zgg w (x / Nat.gcd x y) (y / Nat.gcd x y))
end Go.Proofs.YtgigccjiblaefaaDoor
