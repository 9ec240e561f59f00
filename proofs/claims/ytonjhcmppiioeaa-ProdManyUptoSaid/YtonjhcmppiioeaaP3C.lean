/-
  What the laws on products lean on of package prod, as one bundle: to be shown of the developers' functions. Conditions: as each says.
-/
import Derived.Test.YtonjhcmppiioeaaRows
import Derived.Test.YtonjhcmppiioeaaN2Args
import Derived.Test.YtonjhcmppiioeaaNPost
import Derived.WalkKit
import Derived.Lib.Hide
import Derived.Outline
namespace Go.Proofs.Ytonjhcmppiioeaa
open Go Go.RowKit
set_option linter.unusedVariables false
/-- What prod's functions do, over numbers of up to 2 to the 30 words. -/
structure ProdC : Prop where
  mul : ∀ (x y : Nat) (A D : Option Addr) (n m c d : Nat) (w : World), WordsIn w x A n c → WordsIn w y D m d → n ≤ 1073741824 → m ≤ 1073741824 → Calls Try.prog 11 #[.agg #[.slice A n c], .agg #[.slice D m d]] w (GivesN2 w (x * y))
  byWord : ∀ (x a b : Nat) (A : Option Addr) (n c : Nat) (w : World), WordsIn w x A n c → n ≤ 1073741824 → a < 18446744073709551616 → b < 18446744073709551616 → Calls Try.prog 13 #[.agg #[.slice A n c], .int .u64 a, .int .u64 b] w (GivesN2 w (x * a + b))
  square : ∀ (x : Nat) (A : Option Addr) (n c : Nat) (w : World), WordsIn w x A n c → n ≤ 1073741824 → Calls Try.prog 17 #[.agg #[.slice A n c]] w (GivesN2 w (x * x))
  powNo : ∀ (x : Nat) (k : Int) (A : Option Addr) (n c : Nat) (w : World), WordsIn w x A n c → n ≤ 1073741824 → k ≤ 9223372036854775807 → (k < 0 ∨ (2 ≤ bitLen x ∧ 65536 < k * (bitLen x : Nat))) → Calls Try.prog 18 #[.agg #[.slice A n c], .int .i64 k] w (GivesNT w 0 false)
  powYes : ∀ (x k : Nat) (A : Option Addr) (n c : Nat) (w : World), WordsIn w x A n c → n ≤ 1073741824 → k ≤ 9223372036854775807 → (bitLen x ≤ 1 ∨ k * bitLen x ≤ 65536) → Calls Try.prog 18 #[.agg #[.slice A n c], .int .i64 k] w (GivesNT w (x ^ k) true)
theorem Sz.mul {K K' x y : Nat} (h : Sz K x) (h' : Sz K' y) : Sz (K + K') (x * y) := by
  unfold Sz at *
  rw [Nat.pow_add]
  exact Nat.mul_lt_mul'' h h'
end Go.Proofs.Ytonjhcmppiioeaa
