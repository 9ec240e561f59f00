/- What this claim leans on. -/
import Derived.Test.YtgigccjiblaefaaGreatDoorABunT
import Derived.Test.YtgigccjiblaefaaGreatDoorABunN
import Derived.IntWalk
import Derived.Laws.BytesArg
namespace Go.Proofs.YtgigccjiblaefaaGreatDoor
open Go Go.RowKit
set_option linter.unusedVariables false
def zbO (w : World) (x : Nat) (e : Ending) (w' : World) : Prop := ∃ (A : Option Addr) (n c : Nat), e = .returned (.agg #[.slice A n c]) ∧ zae w' x A n c ∧ Below w.heap.size w w'
def zga (w : World) (x y : Nat) (e : Ending) (w' : World) : Prop := ∃ (A : Option Addr) (n c : Nat) (B : Option Addr) (m d : Nat), e = .returned (.tuple #[.agg #[.slice A n c], .agg #[.slice B m d]]) ∧ zae w' x A n c ∧ zae w' y B m d ∧ Below w.heap.size w w'
def copB (x y : Nat) : Bool := decide (Nat.gcd x y = 1)
theorem Sz.gcd {K K' x y : Nat} (h : Sz K x) (h' : Sz K' y) : Sz (K + K') (Nat.gcd x y) := by
 rcases Nat.eq_zero_or_pos x with e | e
 ·rw [e, Nat.gcd_zero_left]; exact h'.up (by omega)
 ·exact (h.of_le (Nat.gcd_le_left y e)).up (by omega)
structure GcdC : Prop where
 of : ∀ (x y : Nat) (A D : Option Addr) (n m c d : Nat) (w : World), zae w x A n c → zae w y D m d → n ≤ 1073741824 → m ≤ 1073741824 → zan w → Calls Tryz.prog 89 #[.agg #[.slice A n c], .agg #[.slice D m d]] w (zbO w (Nat.gcd x y))
 coprime : ∀ (x y : Nat) (A D : Option Addr) (n m c d : Nat) (w : World), zae w x A n c → zae w y D m d → n ≤ 1073741824 → m ≤ 1073741824 → zan w → Calls Tryz.prog 46 #[.agg #[.slice A n c], .agg #[.slice D m d]] w fun e w' => e = .returned (.bool (copB x y)) ∧ Below w.heap.size w w'
 reduce : ∀ (x y : Nat) (A D : Option Addr) (n m c d : Nat) (w : World), zae w x A n c → zae w y D m d → n ≤ 1073741824 → m ≤ 1073741824 → zan w → Calls Tryz.prog 58 #[.agg #[.slice A n c], .agg #[.slice D m d]] w (zga w (x / Nat.gcd x y) (y / Nat.gcd x y))
end Go.Proofs.YtgigccjiblaefaaGreatDoor
