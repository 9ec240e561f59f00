/-
  What a slice of bytes, and a string, that came in give: they read; their places are at most the reading's bulk. Conditions: none beyond each lemma's own.
-/
import Derived.Test.YtnnhcicdildfaaaRows
import Derived.Test.YtnnhcicdildfaaaUArgs
import Derived.ProofKit
import Derived.OpenShut
import Derived.ChangeOld
import Derived.Below
import Derived.ChangeMaps5
namespace Go.Proofs.Ytnnhcicdildfaaa
open Go Go.RowKit
open Go.ChangeShapes Go.WideShapes Go.ChangeAt
set_option linter.unusedVariables false
/-- A slice of bytes that came in. -/
structure ArgBytes (W : World) (A : Option Addr) (n c : Nat) (l : List Nat) : Prop where
  reads : Reads W W.heap.size 1 A n (vals .u8 l)
  dgs : Dgs 256 l
  fits : n ≤ c
  small : c ≤ 1048576

theorem arg_bytes {H : Type} {enc : TypeId × Value → H} {P : Program} {W : World} {fuel : Nat} {t e : TypeId} {A : Option Addr} {n c : Nat} {x : DataW H × List MemPlace} (ht : P.underlying t = some (.slice e)) (he : P.underlying e = some (.int .u8)) (hc : P.cellsOf e = 1)
    (h : DataW.trod enc P W 0 (fun _ => true) true fuel t (Value.slice A n c).cells.toList = some x) (hb : Rows.uptoBulk x.1 ≤ 1048576) : ∃ l, ArgBytes W A n c l := by
  rcases open_ints ht he hc h with ⟨hcs, _⟩ | ⟨a, len, cap, zs, hcs, _, hl, hm, hz, hx, hcell, hwz⟩
  · simp [Value.cells] at hcs
    obtain ⟨rfl, rfl, rfl⟩ := hcs
    exact ⟨[], ⟨Reads.none_, by intro d hd; simp at hd, Nat.le_refl _, by omega⟩⟩
  · simp [Value.cells] at hcs
    obtain ⟨rfl, rfl, rfl⟩ := hcs
    have hz' : zs.length = c := by simpa using hz
    subst hx
    have hs := UA.slice_le (H := H) (lits .u8 (zs.take n)) (lits .u8 (zs.drop n))
    have hlen : (lits (H := H) .u8 (zs.take n)).length + (lits (H := H) .u8 (zs.drop n)).length = c := by
      simp [lits]; omega
    have hb' : Rows.uptoBulk (DataW.slice (lits (H := H) .u8 (zs.take n)) (lits (H := H) .u8 (zs.drop n))) ≤ 1048576 := hb
    refine ⟨(zs.take n).map Int.toNat, ⟨?_, ?_, hl, ?_⟩⟩
    · refine ⟨by simp [vals]; omega, fun hn => ⟨a, rfl, ?_, fun j u hu => ?_⟩⟩
      · have h0 := hcell 0 (by omega)
        have := World.block_lt_of_cell? W _ h0
        rw [block_of_add] at this
        exact this
      · have hj : j < n := by
          have := (List.getElem?_eq_some_iff.1 hu).1
          simp [vals] at this; omega
        rw [hcell j (by omega), ← hu]
        have hw := hwz (zs.getD j 0) (by rw [List.getD_eq_getElem?_getD, List.getElem?_eq_getElem (by omega)]; exact List.getElem_mem (by omega))
        have hb0 := bounds_u8 hw
        simp only [vals, List.getElem?_map, List.getElem?_take, if_pos hj, List.getElem?_eq_getElem (show j < zs.length by omega), Option.map_some, Option.some.injEq, Value.int.injEq, true_and]
        rw [List.getD_eq_getElem?_getD, List.getElem?_eq_getElem (show j < zs.length by omega)] at hb0 ⊢
        simp at hb0 ⊢
        omega
    · intro d hd
      obtain ⟨z, hz2, rfl⟩ := List.mem_map.1 hd
      have := bounds_u8 (hwz z (List.mem_of_mem_take hz2))
      omega
    · omega
end Go.Proofs.Ytnnhcicdildfaaa
