/-
  What the laws on quotients lean on of package quot, as one bundle: to be shown of the developers' functions. Conditions: as each says.
-/
import Derived.Test.YtnfednkphcapnaaRows
import Derived.Test.YtnfednkphcapnaaBunN
import Derived.WalkKit
import Derived.Lib.Hide
import Derived.Outline
namespace Go.Proofs.Ytnfednkphcapnaa
open Go Go.RowKit
set_option linter.unusedVariables false
/-- A quotient, what is left, and whether there is one. -/
def GivesQR (w : World) (q r : Nat) (b : Bool) (e : Ending) (w' : World) : Prop := ∃ (A : Option Addr) (n c : Nat) (B : Option Addr) (m d : Nat), e = .returned (.tuple #[.agg #[.slice A n c], .agg #[.slice B m d], .bool b]) ∧ WordsIn w' q A n c ∧ WordsIn w' r B m d ∧ Below w.heap.size w w'
/-- A number, new or not, and whether there is one. -/
def GivesNB (w : World) (x : Nat) (b : Bool) (e : Ending) (w' : World) : Prop := ∃ (A : Option Addr) (n c : Nat), e = .returned (.tuple #[.agg #[.slice A n c], .bool b]) ∧ WordsIn w' x A n c ∧ Below w.heap.size w w'
/-- A quotient, a word that is left, and whether there is one. -/
def GivesQX (w : World) (q x : Nat) (b : Bool) (e : Ending) (w' : World) : Prop := ∃ (A : Option Addr) (n c : Nat), e = .returned (.tuple #[.agg #[.slice A n c], .int .u64 (x : Int), .bool b]) ∧ WordsIn w' q A n c ∧ Below w.heap.size w w'
/-- Does y divide x? -/
def dvdB (y x : Nat) : Bool := decide (x % y = 0)
theorem dvdB_zero (x : Nat) : dvdB 0 x = decide (x = 0) := by unfold dvdB; rw [Nat.mod_zero]
theorem dvdB_iff (y x : Nat) : dvdB y x = true ↔ y ∣ x := by unfold dvdB; rw [decide_eq_true_eq]; exact (Nat.dvd_iff_mod_eq_zero).symm
theorem dvdB_of {y x : Nat} (h : y ∣ x) : dvdB y x = true := (dvdB_iff y x).2 h
/-- What quot's functions do, over numbers of up to 2 to the 30 words. -/
structure QuotC : Prop where
  divMod : ∀ (x y : Nat) (A D : Option Addr) (n m c d : Nat) (w : World), WordsIn w x A n c → WordsIn w y D m d → n ≤ 1073741824 → m ≤ 1073741824 → y ≠ 0 → Calls Try.prog 50 #[.agg #[.slice A n c], .agg #[.slice D m d]] w (GivesQR w (x / y) (x % y) true)
  divModNo : ∀ (x y : Nat) (A D : Option Addr) (n m c d : Nat) (w : World), WordsIn w x A n c → WordsIn w y D m d → n ≤ 1073741824 → m ≤ 1073741824 → y = 0 → Calls Try.prog 50 #[.agg #[.slice A n c], .agg #[.slice D m d]] w (GivesQR w 0 0 false)
  byWord : ∀ (x a : Nat) (A : Option Addr) (n c : Nat) (w : World), WordsIn w x A n c → n ≤ 1073741824 → a < 18446744073709551616 → a ≠ 0 → Calls Try.prog 74 #[.agg #[.slice A n c], .int .u64 a] w (GivesQX w (x / a) (x % a) true)
  byWordNo : ∀ (x : Nat) (A : Option Addr) (n c : Nat) (w : World), WordsIn w x A n c → n ≤ 1073741824 → Calls Try.prog 74 #[.agg #[.slice A n c], .int .u64 0] w (GivesQX w 0 0 false)
end Go.Proofs.Ytnfednkphcapnaa
