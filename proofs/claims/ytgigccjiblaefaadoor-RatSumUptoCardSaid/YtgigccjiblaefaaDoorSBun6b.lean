/- What this claim leans on. -/
import Derived.Test.YtgigccjiblaefaaDoorSBun6
import Derived.Test.YtgigccjiblaefaaDoorSW8Far
import Derived.Deep.RegionLaw
import Derived.LoopIn
import Derived.LoopNIn
import Derived.OrdersIn
import Derived.OwnWalkIn
import Derived.RangeFuncBound
import Derived.RangeFuncCalls
import Derived.RangeFuncLeaves
import Derived.RangeFuncNested
import Derived.Shelf.Abstract
import Derived.Shelf.RegionOpen
import Derived.TacticsInMore
namespace Go.Proofs.YtgigccjiblaefaaDoor
open Go Go.RowKit
set_option maxRecDepth 100000
set_option linter.unusedVariables false
set_option linter.unusedSimpArgs false
def Aside (v : Value) (B : Option Addr) (m : Nat) : Prop := 0 < m → ∀ ad, B = some ad → v.ownBlock ≠ some ad.block
theorem Aside.words {w w' : World} {v v' : Value} {x m d : Nat} {B : Option Addr} (h : Aside v B m) (hx : zae w x B m d) (hg : zej w v w' v') : zae w' x B m d ∧ Aside v' B m := by
 refine ⟨zcX hx hg.grown (fun hm ad e => (h hm ad e).symm), fun hm ad e => ?_⟩
 rcases hg.at_ with h1 | h1
 ·rw [h1]; exact h hm ad e
 ·intro h2
  have := h1 _ h2
  obtain ⟨ad', e', hb, _⟩ := hx.1.2 hm
  rw [e] at e'
  injection e' with e'
  subst e'
  omega
theorem zej.blk {w w' : World} {v v' : Value} {base g n : Nat} {t e : TypeId} {cs : Array Value} {vs : List Value} (h : zej w v w' v') (hv : w.ownsRow base e 1 v n vs) (hk : Blk w g t cs) (hg : g < base) : Blk w' g t cs :=
 hk.grown h.grown (fun e => by have := (hv.lt g e.symm).1; omega)
def TextB (x y : Nat) (D : List Nat) : Prop := Dgs 10 D ∧ dv 10 D + 10 ^ D.length * y = x
theorem TextB.len {x y : Nat} {D : List Nat} (h : TextB x y D) (hy : y ≠ 0) : 10 ^ D.length ≤ x := by
 have := h.2
 have h1 : 10 ^ D.length * 1 ≤ 10 ^ D.length * y := Nat.mul_le_mul_left _ (by omega)
 omega
theorem zbh {P : Program} {f : FuncId} {args : Array Value} {w : World} {z v : Int} (e : z = v) (h : Calls P f args w (zbA w z)) : Calls P f args w fun e w' => e = .returned (.int .i64 v) ∧ Below w.heap.size w w' := by
 subst e; exact h
theorem zax {P : Program} {f : FuncId} {args : Array Value} {w : World} {b t : Bool} (e : b = t) (h : Calls P f args w fun e w' => e = .returned (.bool b) ∧ Below w.heap.size w w') : Calls P f args w fun e w' => e = .returned (.bool t) ∧ Below w.heap.size w w' := by
 subst e; exact h
theorem zdX {T : World → Prop} (IC : IntC T) (x : Nat) (A : Option Addr) (n c : Nat) (w : World) (hT : T w) (h : zae w x A n c) (hn : n ≤ 268435456) : Calls Tryd.prog 29 #[.bool false, .agg #[.slice A n c]] w (zav w (x : Int)) :=
 IC.new false x A n c w hT h hn
def dOf (l : List Nat) : Nat := if dv 18446744073709551616 l = 0 then 1 else dv 18446744073709551616 l
theorem dOf_sz {K : Nat} {l : List Nat} (h : Sz K (dv 18446744073709551616 l)) (hK : 0 < K) : Sz K (dOf l) := by
 unfold dOf
 split
 ·exact zbZ hK
 ·exact h
def fOf (s : Bool) (l e : List Nat) : Rat := Rat.divInt (zOf s l) (dOf e : Int)
theorem fOf_sz {w : World} {s : Bool} {A E : Option Addr} {n c u v : Nat} {l e : List Nat} (h : zaI w A n c l) (k : zaI w E u v e) : SzQ 1048576 (fOf s l e) :=
 SzQ.made (by rw [zgx]; exact zdv h) (by rw [Int.natAbs_natCast]; exact dOf_sz (zdv k) (by decide)) (by decide)
end Go.Proofs.YtgigccjiblaefaaDoor
