/-
  What the laws on bytes and texts lean on of package digits, as one bundle: to be shown of the developers' functions. Conditions: as each says; T: what a world must give besides (a table's fact, or nothing).
-/
import Derived.Test.YtnnhcicdildfaaaRows
import Derived.Test.YtnnhcicdildfaaaP4C
import Derived.Test.YtnnhcicdildfaaaNNums
import Derived.Test.YtnnhcicdildfaaaD6Str
import Derived.WalkKit
import Derived.Lib.Hide
import Derived.Outline
namespace Go.Proofs.Ytnnhcicdildfaaa
open Go Go.RowKit
set_option linter.unusedVariables false
/-- A row of bytes of the call's own. -/
def GivesRow8 (w : World) (l : List Nat) (e : Ending) (w' : World) : Prop := ∃ v, e = .returned v ∧ w'.ownsRow w.heap.size 5 1 v l.length (vals .u8 l) ∧ Below w.heap.size w w'
/-- What digits' functions do, over numbers of up to 2 to the 24 words, bytes and texts of up to 2 to the 31. -/
structure DigitsC (T : World → Prop) : Prop where
  size : ∀ (x : Nat) (A : Option Addr) (n c : Nat) (w : World), T w → WordsIn w x A n c → n ≤ 16777216 → Calls Try.prog 14 #[.agg #[.slice A n c]] w fun e w' => e = .returned (.int .i64 ((dg 256 x).length : Nat)) ∧ Below w.heap.size w w'
  bytes : ∀ (x : Nat) (A : Option Addr) (n c : Nat) (w : World), T w → WordsIn w x A n c → n ≤ 16777216 → Calls Try.prog 12 #[.agg #[.slice A n c]] w (GivesRow8 w (bytesL x))
  plain : ∀ (l : List Nat) (A : Option Addr) (n c : Nat) (w : World), T w → Reads w w.heap.size 1 A n (vals .u8 l) → Dgs 256 l → n ≤ c → c ≤ 9223372036854775807 → n ≤ 2147483648 → Calls Try.prog 22 #[.slice A n c] w fun e w' => e = .returned (.bool (plainL l)) ∧ Below w.heap.size w w'
  parse : ∀ (l : List Nat) (A : Option Addr) (n c : Nat) (w : World), T w → Reads w w.heap.size 1 A n (vals .u8 l) → Dgs 256 l → n ≤ c → c ≤ 9223372036854775807 → n ≤ 2147483648 → Calls Try.prog 17 #[.slice A n c] w (GivesNB w (if plainL l then valP l else 0) (plainL l))
  text : ∀ (x : Nat) (A : Option Addr) (n c : Nat) (w : World), T w → WordsIn w x A n c → n ≤ 16777216 → Calls Try.prog 15 #[.agg #[.slice A n c]] w fun e w' => e = .returned (.string (strS (textS x))) ∧ Below w.heap.size w w'
  read : ∀ (s : ByteArray) (w : World), T w → s.size ≤ 2147483648 → Calls Try.prog 19 #[.string s] w (GivesNB w (if okR s.data.toList then valR s.data.toList else 0) (okR s.data.toList))
end Go.Proofs.Ytnnhcicdildfaaa
