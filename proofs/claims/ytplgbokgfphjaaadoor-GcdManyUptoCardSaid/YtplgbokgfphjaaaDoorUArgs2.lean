/-
  What a slice of slices of words that came in gives: each row reads as words; its places are at most the reading's bulk. Conditions: none beyond each lemma's own.
-/
import Derived.Test.YtplgbokgfphjaaaDoorRows
import Derived.Test.YtplgbokgfphjaaaDoorUArgs
import Derived.ProofKit
import Derived.OpenShut
import Derived.ChangeOld
import Derived.Below
import Derived.Deep.Matrix
namespace Go.Proofs.YtplgbokgfphjaaaDoor
open Go Go.RowKit
open Go.ChangeShapes Go.WideShapes Go.ChangeAt Go.Deep
set_option linter.unusedVariables false
namespace UA
theorem mem_le {H : Type} {d : DataW H} {l : List (DataW H)} (h : d ∈ l) : Rows.uptoBulk d ≤ Rows.uptoBulkAll l := by
  induction l with
  | nil => cases h
  | cons x r ih =>
    simp only [Rows.uptoBulkAll]
    rcases List.mem_cons.1 h with rfl | h
    · omega
    · have := ih h; omega
theorem row_le {H : Type} (k : IntKind) (A : Option Addr) (L : Nat) (zs : List Int) (h : A = none → zs.length = 0) : zs.length ≤ Rows.uptoBulk (H := H) (intRow k A L zs) := by
  cases A with
  | none => rw [h rfl]; exact Nat.zero_le _
  | some a =>
    have h1 := slice_le (H := H) (lits k (zs.take L)) (lits k (zs.drop L))
    have h2 : (lits (H := H) k (zs.take L)).length + (lits (H := H) k (zs.drop L)).length = zs.length := by simp [lits]; omega
    show _ ≤ Rows.uptoBulk (DataW.slice (lits k (zs.take L)) (lits k (zs.drop L)))
    omega
end UA
/-- Cells that hold words, as a slice of them. -/
theorem words_of_cells {W : World} {A : Option Addr} {n c : Nat} {zs : List Int} (hl : n ≤ c) (hc : c ≤ 1048576) (hz : zs.length = c) (hwz : ∀ z ∈ zs, (Lit.int .u64 z).wf = true) (hn : A = none → c = 0)
    (hcell : ∀ a, A = some a → ∀ i, i < c → W.cell? (a.add i) = some (.int .u64 (zs.getD i 0))) : ∃ l, ArgWords W A n c l := by
  refine ⟨(zs.take n).map Int.toNat, ⟨?_, ?_, hl, hc⟩⟩
  · refine ⟨by simp [vals]; omega, fun hn0 => ?_⟩
    cases A with
    | none => have := hn rfl; omega
    | some a =>
      refine ⟨a, rfl, ?_, fun j u hu => ?_⟩
      · have h0 := hcell a rfl 0 (by omega)
        have := World.block_lt_of_cell? W _ h0
        rw [block_of_add] at this
        exact this
      · have hj : j < n := by
          have := (List.getElem?_eq_some_iff.1 hu).1
          simp [vals] at this; omega
        rw [hcell a rfl j (by omega), ← hu]
        have hw := hwz (zs.getD j 0) (by rw [List.getD_eq_getElem?_getD, List.getElem?_eq_getElem (by omega)]; exact List.getElem_mem (by omega))
        have hb0 := bounds_u64 hw
        simp only [vals, List.getElem?_map, List.getElem?_take, if_pos hj, List.getElem?_eq_getElem (show j < zs.length by omega), Option.map_some, Option.some.injEq, Value.int.injEq, true_and]
        rw [List.getD_eq_getElem?_getD, List.getElem?_eq_getElem (show j < zs.length by omega)] at hb0 ⊢
        simp at hb0 ⊢
        omega
  · intro d hd
    obtain ⟨z, hz2, rfl⟩ := List.mem_map.1 hd
    have := bounds_u64 (hwz z (List.mem_of_mem_take hz2))
    omega
/-- A slice of slices of words that came in: row r is the slice R r. -/
structure ArgRows (W : World) (A : Option Addr) (n c : Nat) (R : Nat → Option Addr × Nat × Nat × List Nat) : Prop where
  fits : n ≤ c
  small : c ≤ 1048576
  row : ∀ r, r < n → ∃ ad, A = some ad ∧ ad.block < W.heap.size ∧ W.cell? (ad.add r) = some (.slice (R r).1 (R r).2.1 (R r).2.2.1) ∧ ArgWords W (R r).1 (R r).2.1 (R r).2.2.1 (R r).2.2.2
theorem arg_rows {H : Type} {enc : TypeId × Value → H} {P : Program} {W : World} {fuel : Nat} {t e q : TypeId} {A : Option Addr} {n c : Nat} {x : DataW H × List MemPlace} (ht : P.underlying t = some (.slice e)) (he : P.underlying e = some (.slice q)) (hq : P.underlying q = some (.int .u64)) (ce : P.cellsOf e = 1) (cq : P.cellsOf q = 1)
    (h : DataW.trod enc P W 0 (fun _ => true) true fuel t (Value.slice A n c).cells.toList = some x) (hb : Rows.uptoBulk x.1 ≤ 1048576) : ∃ R, ArgRows W A n c R := by
  rcases open_int_rows ht he hq ce cq h with ⟨hcs, _⟩ | ⟨a, len, cap, AA, L, C, Z, hcs, _, hl, hm, hx, hrow⟩
  · simp [Value.cells] at hcs
    obtain ⟨rfl, rfl, rfl⟩ := hcs
    exact ⟨fun _ => (none, 0, 0, []), Nat.le_refl _, by omega, fun r hr => by omega⟩
  · simp [Value.cells] at hcs
    obtain ⟨rfl, rfl, rfl⟩ := hcs
    subst hx
    have hs := UA.slice_le (H := H) ((List.range n).map fun r => intRow .u64 (AA r) (L r) (Z r)) ((List.range (c - n)).map fun j => intRow .u64 (AA (n + j)) (L (n + j)) (Z (n + j)))
    have hb' : Rows.uptoBulk (DataW.slice (H := H) ((List.range n).map fun r => intRow .u64 (AA r) (L r) (Z r)) ((List.range (c - n)).map fun j => intRow .u64 (AA (n + j)) (L (n + j)) (Z (n + j)))) ≤ 1048576 := hb
    have hcc : c ≤ 1048576 := by
      simp only [List.length_map, List.length_range] at hs
      omega
    have each : ∀ r, r < n → ∃ l, ArgWords W (AA r) (L r) (C r) l := fun r hr => by
      obtain ⟨h1, h2, h3, h4, h5, h6, h7⟩ := hrow r (by omega)
      have hbr : C r ≤ 1048576 := by
        have hm1 : intRow (H := H) .u64 (AA r) (L r) (Z r) ∈ (List.range n).map fun r => intRow .u64 (AA r) (L r) (Z r) := List.mem_map.2 ⟨r, List.mem_range.2 hr, rfl⟩
        have hm2 := UA.mem_le hm1
        have hm3 := UA.row_le (H := H) .u64 (AA r) (L r) (Z r) (fun e => by rw [h4]; exact h6 e)
        simp only [Rows.uptoBulk] at hb'
        omega
      exact words_of_cells h2 hbr h4 h5 h6 (fun a' ha => (h7 a' ha).2)
    have pick : ∃ l : Nat → List Nat, ∀ r, r < n → ArgWords W (AA r) (L r) (C r) (l r) :=
      ⟨fun r => if hr : r < n then (each r hr).choose else [], fun r hr => by simp only [dif_pos hr]; exact (each r hr).choose_spec⟩
    obtain ⟨l, hl2⟩ := pick
    refine ⟨fun r => (AA r, L r, C r, l r), hl, hcc, fun r hr => ⟨a, rfl, ?_, (hrow r (by omega)).1, hl2 r hr⟩⟩
    have := World.block_lt_of_cell? W _ (hrow r (by omega)).1
    rw [block_of_add] at this
    exact this
end Go.Proofs.YtplgbokgfphjaaaDoor
