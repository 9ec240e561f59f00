/- What this claim leans on. -/
import Derived.Test.YtgigccjiblaefaaDoorSUArgs2
import Derived.Deep.Slices
namespace Go.Proofs.YtgigccjiblaefaaDoor
open Go Go.RowKit
open Go.ChangeShapes Go.WideShapes Go.ChangeAt Go.Deep
set_option linter.unusedVariables false
structure zdR where
 s : Bool
 A : Option Addr
 n : Nat
 c : Nat
 l : List Nat
 E : Option Addr
 u : Nat
 v : Nat
 e : List Nat
structure zgN (W : World) (A : Option Addr) (n c : Nat) (R : Nat → zdR) : Prop where
 fits : n ≤ c
 small : c ≤ 1048576
 row : ∀ r, r < n → ∃ ad, A = some ad ∧ ad.block < W.heap.size ∧ W.cell? (ad.add (r * 3)) = some (.bool (R r).s) ∧ W.cell? (ad.add (r * 3 + 1)) = some (.slice (R r).A (R r).n (R r).c) ∧ W.cell? (ad.add (r * 3 + 2)) = some (.slice (R r).E (R r).u (R r).v) ∧ zaI W (R r).A (R r).n (R r).c (R r).l ∧ zaI W (R r).E (R r).u (R r).v (R r).e
theorem arg_parts {H : Type} {enc : TypeId × Value → H} {P : Program} {W : World} {fuel : Nat} {t0 t e : TypeId} {f0 f1 g0 g1 : Field} {A : Option Addr} {n c : Nat} {x : DataW H × List MemPlace}
  (ht : P.underlying t0 = some (.slice t)) (hs : P.underlying t = some (.struct #[f0, f1])) (hf : (f0.offset, P.cellsOf f0.type, f1.offset, P.cellsOf f1.type) = (0, 2, 2, 1)) (hC : P.cellsOf t = 3)
  (hs0 : P.underlying f0.type = some (.struct #[g0, g1])) (hg : (g0.offset, P.cellsOf g0.type, g1.offset, P.cellsOf g1.type) = (0, 1, 1, 1))
  (hb0 : P.underlying g0.type = some .bool) (hs1 : P.underlying g1.type = some (.slice e)) (hs2 : P.underlying f1.type = some (.slice e)) (he : P.underlying e = some (.int .u64)) (hc : P.cellsOf e = 1)
  (h : DataW.trod enc P W 0 (fun _ => true) true fuel t0 (Value.slice A n c).cells.toList = some x) (hb : Rows.uptoBulk x.1 ≤ 1048576) : ∃ R, zgN W A n c R := by
 rcases open_slice ht h with ⟨hcs, _⟩ | ⟨a, len, cap, m, k, D, Pl, hcs, _, hl, hm, hmm, hx, hi⟩
 ·simp [Value.cells] at hcs
  obtain ⟨rfl, rfl, rfl⟩ := hcs
  exact ⟨fun _ => ⟨false, none, 0, 0, [], none, 0, 0, []⟩, Nat.le_refl _, by omega, fun r hr => by omega⟩
 ·simp [Value.cells] at hcs
  obtain ⟨rfl, rfl, rfl⟩ := hcs
  rw [if_pos rfl] at hmm
  rw [hmm] at hx hi
  subst hx
  have hss := UA.slice_le (H := H) ((List.range n).map D) ((List.range (c - n)).map fun j => D (n + j))
  have hb' : Rows.uptoBulk (DataW.slice (H := H) ((List.range n).map D) ((List.range (c - n)).map fun j => D (n + j))) ≤ 1048576 := hb
  have hcc : c ≤ 1048576 := by
   simp only [List.length_map, List.length_range] at hss
   omega
  have each : ∀ r, r < n → ∃ V : zdR, W.cell? (a.add (r * 3)) = some (.bool V.s) ∧ W.cell? (a.add (r * 3 + 1)) = some (.slice V.A V.n V.c) ∧ W.cell? (a.add (r * 3 + 2)) = some (.slice V.E V.u V.v) ∧ zaI W V.A V.n V.c V.l ∧ zaI W V.E V.u V.v V.e := fun r hr => by
   obtain ⟨cs, hcl, htr⟩ := hi r (by omega)
   rw [hC] at hcl
   obtain ⟨_, hlen, hat⟩ := World.cells?_some hcl
   obtain ⟨c0, c1, c2, rfl⟩ : ∃ c0 c1 c2, cs = [c0, c1, c2] := by
    match cs, hlen with
    | [c0, c1, c2], _ => exact ⟨c0, c1, c2, rfl⟩
   have hD : Rows.uptoBulk (D r) ≤ 1048576 := by
    have hm1 : D r ∈ (List.range n).map D := List.mem_map.2 ⟨r, List.mem_range.2 hr, rfl⟩
    have hm2 := UA.mem_le hm1
    simp only [Rows.uptoBulk] at hb'
    omega
   obtain ⟨b, A', n', c', l', E', u', v', k', rfl, rfl, rfl, wA, wE⟩ := ziv (x := (D r, Pl r)) hs hf hs0 hg hb0 hs1 hs2 he hc htr hD
   have h0 := hat 0 (by decide)
   have h1 := hat 1 (by decide)
   have h2 := hat 2 (by decide)
   rw [Go.Deep.add_add] at h0 h1 h2
   exact ⟨⟨b, A', n', c', l', E', u', v', k'⟩, h0, h1, h2, wA, wE⟩
  refine ⟨fun r => if hr : r < n then (each r hr).choose else ⟨false, none, 0, 0, [], none, 0, 0, []⟩, hl, hcc, fun r hr => ⟨a, rfl, ?_, ?_⟩⟩
  ·have := World.block_lt_of_cell? W _ (each r hr).choose_spec.1
   rw [zaA] at this
   exact this
  ·simp only [dif_pos hr]
   exact (each r hr).choose_spec
end Go.Proofs.YtgigccjiblaefaaDoor
