/-
  What the laws on common divisors lean on of package gcd, as one bundle: to be shown of the developers' functions. Conditions: as each says.
-/
import Derived.Test.YtplgbokgfphjaaaDoorRows
import Derived.Test.YtplgbokgfphjaaaDoorP4C
import Derived.Test.YtplgbokgfphjaaaDoorNNums
import Derived.Test.YtplgbokgfphjaaaDoorBunT
import Derived.WalkKit
import Derived.Lib.Hide
import Derived.Outline
namespace Go.Proofs.YtplgbokgfphjaaaDoor
open Go Go.RowKit
set_option linter.unusedVariables false
theorem nat_of_nil (w : World) : Calls Tryd.prog 12 #[.slice none 0 0] w (GivesN2 w 0) := nat_of none 0 0 [] w Reads.none_ (by intro d hd; simp at hd) (Nat.le_refl _) (by decide) (by decide)
/-- A number, new or not. -/
def GivesNW (w : World) (x : Nat) (e : Ending) (w' : World) : Prop := ∃ (A : Option Addr) (n c : Nat), e = .returned (.agg #[.slice A n c]) ∧ WordsIn w' x A n c ∧ Below w.heap.size w w'
/-- Two numbers, new or not. -/
def GivesNN (w : World) (x y : Nat) (e : Ending) (w' : World) : Prop := ∃ (A : Option Addr) (n c : Nat) (B : Option Addr) (m d : Nat), e = .returned (.tuple #[.agg #[.slice A n c], .agg #[.slice B m d]]) ∧ WordsIn w' x A n c ∧ WordsIn w' y B m d ∧ Below w.heap.size w w'
/-- Have x and y nothing in common? -/
def copB (x y : Nat) : Bool := decide (Nat.gcd x y = 1)
def gcdL (xs : List Nat) : Nat := xs.foldl Nat.gcd 0
def lcmL (xs : List Nat) : Nat := xs.foldl Nat.lcm 1
theorem Sz.gcd {K K' x y : Nat} (h : Sz K x) (h' : Sz K' y) : Sz (K + K') (Nat.gcd x y) := by
  rcases Nat.eq_zero_or_pos x with e | e
  · rw [e, Nat.gcd_zero_left]; exact h'.up (by omega)
  · exact (h.of_le (Nat.gcd_le_left y e)).up (by omega)
theorem Sz.lcm {K K' x y : Nat} (h : Sz K x) (h' : Sz K' y) : Sz (K + K') (Nat.lcm x y) :=
  (h.mul h').of_le (Nat.div_le_self _ _)
theorem nums3 {w : World} {g x y z : Nat} {t : TypeId} {A B C : Option Addr} {n m k c d e : Nat} (h : Blk w g t #[.slice A n c, .slice B m d, .slice C k e]) (hx : WordsIn w x A n c) (hy : WordsIn w y B m d) (hz : WordsIn w z C k e) : NumsIn w (some ⟨g, 0, none⟩) 3 3 [x, y, z] := by
  refine ⟨rfl, Nat.le_refl _, by decide, fun i hi => ?_⟩
  have ha : ∀ j, (⟨g, 0, none⟩ : Addr).add j = ⟨g, j, none⟩ := fun j => by unfold Addr.add; split <;> simp_all
  match i, hi with
  | 0, _ => exact ⟨_, A, n, c, rfl, h.lt, by rw [ha]; exact h.cell 0, hx⟩
  | 1, _ => exact ⟨_, B, m, d, rfl, h.lt, by rw [ha]; exact h.cell 1, hy⟩
  | 2, _ => exact ⟨_, C, k, e, rfl, h.lt, by rw [ha]; exact h.cell 2, hz⟩
/-- What gcd's functions do, over numbers of up to 2 to the 30 words. -/
structure GcdC : Prop where
  of : ∀ (x y : Nat) (A D : Option Addr) (n m c d : Nat) (w : World), WordsIn w x A n c → WordsIn w y D m d → n ≤ 1073741824 → m ≤ 1073741824 → TabAt w → Calls Tryd.prog 14 #[.agg #[.slice A n c], .agg #[.slice D m d]] w (GivesNW w (Nat.gcd x y))
  lcm : ∀ (x y : Nat) (A D : Option Addr) (n m c d : Nat) (w : World), WordsIn w x A n c → WordsIn w y D m d → n ≤ 1073741824 → m ≤ 1073741824 → TabAt w → Calls Tryd.prog 22 #[.agg #[.slice A n c], .agg #[.slice D m d]] w (GivesNW w (Nat.lcm x y))
  coprime : ∀ (x y : Nat) (A D : Option Addr) (n m c d : Nat) (w : World), WordsIn w x A n c → WordsIn w y D m d → n ≤ 1073741824 → m ≤ 1073741824 → TabAt w → Calls Tryd.prog 15 #[.agg #[.slice A n c], .agg #[.slice D m d]] w fun e w' => e = .returned (.bool (copB x y)) ∧ Below w.heap.size w w'
  reduce : ∀ (x y : Nat) (A D : Option Addr) (n m c d : Nat) (w : World), WordsIn w x A n c → WordsIn w y D m d → n ≤ 1073741824 → m ≤ 1073741824 → TabAt w → Calls Tryd.prog 21 #[.agg #[.slice A n c], .agg #[.slice D m d]] w (GivesNN w (x / Nat.gcd x y) (y / Nat.gcd x y))
  all : ∀ (xs : List Nat) (A : Option Addr) (n c : Nat) (w : World), NumsIn w A n c xs → n ≤ 1073741824 → (∀ i, i < n → (dg 18446744073709551616 (xs.getD i 0)).length ≤ 1073741824) → (∀ k, k ≤ n → (dg 18446744073709551616 (gcdL (xs.take k))).length ≤ 1073741824) → TabAt w → Calls Tryd.prog 24 #[.slice A n c] w (GivesNW w (gcdL xs))
  least : ∀ (xs : List Nat) (A : Option Addr) (n c : Nat) (w : World), NumsIn w A n c xs → n ≤ 1073741824 → (∀ i, i < n → (dg 18446744073709551616 (xs.getD i 0)).length ≤ 1073741824) → (∀ k, k ≤ n → (dg 18446744073709551616 (lcmL (xs.take k))).length ≤ 1073741824) → TabAt w → Calls Tryd.prog 25 #[.slice A n c] w (GivesNW w (lcmL xs))
end Go.Proofs.YtplgbokgfphjaaaDoor
