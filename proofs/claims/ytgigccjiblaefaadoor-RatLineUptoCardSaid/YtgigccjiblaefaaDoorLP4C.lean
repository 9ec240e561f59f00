/- What this claim leans on. -/
import Derived.Test.YtgigccjiblaefaaDoorLBunE
import Derived.BigQuiet
import Derived.ChangeArms
import Derived.ChangeOld
import Derived.Deep.CutBlock
import Derived.Deep.DeepCutAuto
import Derived.Deep.RegionHeld3
import Derived.Lib.SmallJoins
import Derived.OpenShut
import Derived.ProofKit
namespace Go.Proofs.YtgigccjiblaefaaDoor
open Go Go.RowKit
set_option linter.unusedVariables false
def zbB (w : World) (q r : Nat) (b : Bool) (e : Ending) (w' : World) : Prop := ∃ (A : Option Addr) (n c : Nat) (B : Option Addr) (m d : Nat), e = .returned (.tuple #[.agg #[.slice A n c], .agg #[.slice B m d], .bool b]) ∧ zae w' q A n c ∧ zae w' r B m d ∧ Below w.heap.size w w'
def zcF (w : World) (x : Nat) (b : Bool) (e : Ending) (w' : World) : Prop := ∃ (A : Option Addr) (n c : Nat), e = .returned (.tuple #[.agg #[.slice A n c], .bool b]) ∧ zae w' x A n c ∧ Below w.heap.size w w'
def zdU (w : World) (q x : Nat) (b : Bool) (e : Ending) (w' : World) : Prop := ∃ (A : Option Addr) (n c : Nat), e = .returned (.tuple #[.agg #[.slice A n c], .int .u64 (x : Int), .bool b]) ∧ zae w' q A n c ∧ Below w.heap.size w w'
structure QuotC : Prop where
 divMod : ∀ (x y : Nat) (A D : Option Addr) (n m c d : Nat) (w : World), zae w x A n c → zae w y D m d → n ≤ 1073741824 → m ≤ 1073741824 → y ≠ 0 → Calls Tryd.prog 64 #[.agg #[.slice A n c], .agg #[.slice D m d]] w (zbB w (x / y) (x % y) true)
 divModNo : ∀ (x y : Nat) (A D : Option Addr) (n m c d : Nat) (w : World), zae w x A n c → zae w y D m d → n ≤ 1073741824 → m ≤ 1073741824 → y = 0 → Calls Tryd.prog 64 #[.agg #[.slice A n c], .agg #[.slice D m d]] w (zbB w 0 0 false)
 div : ∀ (x y : Nat) (A D : Option Addr) (n m c d : Nat) (w : World), zae w x A n c → zae w y D m d → n ≤ 1073741824 → m ≤ 1073741824 → y ≠ 0 → Calls Tryd.prog 58 #[.agg #[.slice A n c], .agg #[.slice D m d]] w (zcF w (x / y) true)
 mod : ∀ (x y : Nat) (A D : Option Addr) (n m c d : Nat) (w : World), zae w x A n c → zae w y D m d → n ≤ 1073741824 → m ≤ 1073741824 → y ≠ 0 → Calls Tryd.prog 82 #[.agg #[.slice A n c], .agg #[.slice D m d]] w (zcF w (x % y) true)
 byWord : ∀ (x a : Nat) (A : Option Addr) (n c : Nat) (w : World), zae w x A n c → n ≤ 1073741824 → a < 18446744073709551616 → a ≠ 0 → Calls Tryd.prog 77 #[.agg #[.slice A n c], .int .u64 a] w (zdU w (x / a) (x % a) true)
 byWordNo : ∀ (x : Nat) (A : Option Addr) (n c : Nat) (w : World), zae w x A n c → n ≤ 1073741824 → Calls Tryd.prog 77 #[.agg #[.slice A n c], .int .u64 0] w (zdU w 0 0 false)
end Go.Proofs.YtgigccjiblaefaaDoor
