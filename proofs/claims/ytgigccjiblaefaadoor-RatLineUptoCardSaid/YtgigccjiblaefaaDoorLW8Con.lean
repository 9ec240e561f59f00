/- What this claim leans on. -/
import Derived.Test.YtgigccjiblaefaaDoorLW8Far
namespace Go.Proofs.YtgigccjiblaefaaDoor
open Go Go.RowKit
set_option linter.unusedVariables false
theorem zaF {P : Program} {f : FuncId} {args : Array Value} {w : World} {z v : Int} (e : z = v) (h : Calls P f args w (zbJ w z)) : Calls P f args w fun e w' => e = .returned (.int .i64 v) ∧ Below w.heap.size w w' := by
 subst e; exact h
theorem zas {P : Program} {f : FuncId} {args : Array Value} {w : World} {b t : Bool} (e : b = t) (h : Calls P f args w fun e w' => e = .returned (.bool b) ∧ Below w.heap.size w w') : Calls P f args w fun e w' => e = .returned (.bool t) ∧ Below w.heap.size w w' := by
 subst e; exact h
theorem zea {T : World → Prop} (IC : IntC T) (x : Nat) (A : Option Addr) (n c : Nat) (w : World) (hT : T w) (h : zae w x A n c) (hn : n ≤ 268435456) : Calls Tryd.prog 29 #[.bool false, .agg #[.slice A n c]] w (zaC w (x : Int)) :=
 IC.new false x A n c w hT h hn
def dOf (l : List Nat) : Nat := if dv 18446744073709551616 l = 0 then 1 else dv 18446744073709551616 l
theorem dOf_sz {K : Nat} {l : List Nat} (h : Sz K (dv 18446744073709551616 l)) (hK : 0 < K) : Sz K (dOf l) := by
 unfold dOf
 split
 ·exact zch hK
 ·exact h
def fOf (s : Bool) (l e : List Nat) : Rat := Rat.divInt (zOf s l) (dOf e : Int)
theorem zcI {w : World} {s : Bool} {A E : Option Addr} {n c u v : Nat} {l e : List Nat} (h : zat w A n c l) (k : zat w E u v e) : SzQ 1048576 (fOf s l e) :=
 SzQ.made (by rw [zgb]; exact zdB h) (by rw [Int.natAbs_natCast]; exact dOf_sz (zdB k) (by decide)) (by decide)
end Go.Proofs.YtgigccjiblaefaaDoor
