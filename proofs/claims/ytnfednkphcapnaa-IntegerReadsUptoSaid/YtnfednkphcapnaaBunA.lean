/-
  What the laws on bytes and texts lean on of package digits, as one bundle: to be shown of the developers' functions. Conditions: as each says; T: what a world must give besides (a table's fact, or nothing).
  nat.Of of no words is 0. Conditions: none.
  The contract of the law's awake (actuarylaw06); what the walks of stage 6 share. Conditions: digits' functions do as DigitsC says.
-/
import Derived.Test.YtnfednkphcapnaaRows
import Derived.Test.YtnfednkphcapnaaP4C
import Derived.Test.YtnfednkphcapnaaNNums
import Derived.Test.YtnfednkphcapnaaBunF
import Derived.Test.YtnfednkphcapnaaBunE
import Derived.Test.YtnfednkphcapnaaBunN
import Derived.Test.YtnfednkphcapnaaBunO
import Derived.WalkKit
import Derived.Lib.Hide
import Derived.Outline
import Derived.IntWalk
namespace Go.Proofs.Ytnfednkphcapnaa
open Go Go.RowKit
set_option linter.unusedVariables false
/-- A row of bytes of the call's own. -/
def GivesRow8 (w : World) (l : List Nat) (e : Ending) (w' : World) : Prop := ∃ v, e = .returned v ∧ w'.ownsRow w.heap.size 5 1 v l.length (vals .u8 l) ∧ Below w.heap.size w w'
/-- What digits' functions do, over numbers of up to 2 to the 24 words, bytes and texts of up to 2 to the 31. -/
structure DigitsC (T : World → Prop) : Prop where
  text : ∀ (x : Nat) (A : Option Addr) (n c : Nat) (w : World), T w → WordsIn w x A n c → n ≤ 16777216 → Calls Try.prog 59 #[.agg #[.slice A n c]] w fun e w' => e = .returned (.string (strS (textS x))) ∧ Below w.heap.size w w'
  read : ∀ (s : ByteArray) (w : World), T w → s.size ≤ 2147483648 → Calls Try.prog 58 #[.string s] w (GivesNB w (if okR s.data.toList then valR s.data.toList else 0) (okR s.data.toList))
end Go.Proofs.Ytnfednkphcapnaa
namespace Go.Proofs.Ytnfednkphcapnaa
open Go Go.RowKit
theorem nat_of_nil (w : World) : Calls Try.prog 38 #[.slice none 0 0] w (GivesN2 w 0) := nat_of none 0 0 [] w Reads.none_ (by intro d hd; simp at hd) (Nat.le_refl _) (by decide) (by decide)
end Go.Proofs.Ytnfednkphcapnaa
namespace Go.Proofs.Ytnfednkphcapnaa
open Go Go.RowKit
set_option maxRecDepth 100000
set_option linter.unusedVariables false
set_option linter.unusedSimpArgs false
def SaysYes6 (w : World) (e : Ending) (w' : World) : Prop := e = .returned (.bool true) ∧ Below w.heap.size w w'
theorem blk_reads8 {w : World} {g n : Nat} {t : TypeId} {cs : Array Value} {l : List Nat} (h : Blk w g t cs) (hn : cs.size = n) (hv : cs.toList = vals .u8 l) : Reads w w.heap.size 1 (some ⟨g, 0, none⟩) n (vals .u8 l) := by
  refine ⟨by rw [← hv]; simpa using hn, fun _ => ⟨_, rfl, h.lt, fun j u hu => ?_⟩⟩
  have e : (⟨g, 0, none⟩ : Addr).add j = ⟨g, j, none⟩ := by unfold Addr.add; split <;> simp_all
  rw [e, h.cell j, ← Array.getElem?_toList, hv]
  exact hu
theorem aw6_bytes : bytesL 256 = [1, 0] := bytesL_back (l := [1, 0]) (by intro d hd; simp at hd; omega) (by decide)
theorem aw6_text : textS 18446744073709551616 = [49, 56, 52, 52, 54, 55, 52, 52, 48, 55, 51, 55, 48, 57, 53, 53, 49, 54, 49, 54] := text_back (s := [49, 56, 52, 52, 54, 55, 52, 52, 48, 55, 51, 55, 48, 57, 53, 53, 49, 54, 49, 54]) (by decide)
theorem aw6_zero : textS 0 = [48] := rfl
end Go.Proofs.Ytnfednkphcapnaa
