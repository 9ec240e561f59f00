/-
  A row of bytes that a call made itself, told by the bytes that stand in it: reading, storing, handing on. Conditions: none beyond each lemma's own.
-/
import Derived.Test.YtnnhcicdildfaaaRows
import Derived.Test.YtnnhcicdildfaaaBunO
import Derived.Below
import Derived.Laws.OwnMore
import Derived.Laws.MakeOwn
namespace Go.Proofs.Ytnnhcicdildfaaa
open Go Go.RowKit
set_option linter.unusedVariables false
/-- Block g is a row of cap cells, the first n of which hold the bytes L. -/
def Row8 (w : World) (t : TypeId) (g cap n : Nat) (L : List Nat) : Prop :=
  ∃ cur, Blk w g t cur ∧ n ≤ cap ∧ cap ≤ maxLen ∧ cur.size = cap ∧ L.length = n ∧ cur.toList.take n = vals .u8 L
section
variable {w w' : World} {t : TypeId} {g cap n : Nat} {L : List Nat}
theorem Row8.len (h : Row8 w t g cap n L) : L.length = n := by obtain ⟨_, _, _, _, _, h, _⟩ := h; exact h
theorem Row8.room (h : Row8 w t g cap n L) : n ≤ cap ∧ cap ≤ maxLen := by obtain ⟨_, _, h, h2, _⟩ := h; exact ⟨h, h2⟩
theorem Row8.lt (h : Row8 w t g cap n L) : g < w.heap.size := by obtain ⟨_, h, _⟩ := h; exact h.lt
theorem Row8.cell (h : Row8 w t g cap n L) (k : Nat) (hk : k < n) : w.cell? ⟨g, k, none⟩ = some (.int .u8 (L.getD k 0 : Nat)) := by
  obtain ⟨cur, hb, h1, h2, h3, h4, h5⟩ := h
  rw [hb.cell k, ← Array.getElem?_toList, ← vals_getD .u8 L k (by omega), ← h5, List.getElem?_take, if_pos hk]
theorem Row8.frozen (h : Row8 w t g cap n L) (k : Nat) : w.frozen? ⟨g, k, none⟩ = false := by
  obtain ⟨cur, hb, _⟩ := h
  exact hb.frozen k
theorem Row8.set_ (h : Row8 w t g cap n L) (k d : Nat) (hk : k < n) : Row8 (w.setCell ⟨g, k, none⟩ (.int .u8 (d : Int))) t g cap n (L.set k d) := by
  obtain ⟨cur, hb, h1, h2, h3, h4, h5⟩ := h
  refine ⟨_, hb.set_ k _, h1, h2, by simpa using h3, by simpa using h4, ?_⟩
  rw [Array.toList_setIfInBounds, List.take_set, h5]
  unfold vals
  rw [List.map_set]
theorem Row8.below {B : Nat} (h : Row8 w t g cap n L) (hb : Below B w w') (hg : g < B) : Row8 w' t g cap n L := by
  obtain ⟨cur, h0, h1⟩ := h
  exact ⟨cur, h0.below hb hg, h1⟩
theorem Row8.keep (h : Row8 w t g cap n L) (hb : Below w.heap.size w w') : Row8 w' t g cap n L := h.below hb h.lt
theorem Row8.drew (h : Row8 w t g cap n L) : Row8 w.drew t g cap n L := h
theorem Row8.alloc (h : Row8 w t g cap n L) (o : Obj) : Row8 (w.alloc o) t g cap n L := by
  obtain ⟨cur, h0, h1⟩ := h
  exact ⟨cur, h0.alloc o, h1⟩
theorem Row8.far (h : Row8 w t g cap n L) {p : Addr} (hp : g ≠ p.block) (u : Value) : Row8 (w.setCell p u) t g cap n L := by
  obtain ⟨cur, h0, h1⟩ := h
  exact ⟨cur, h0.far hp u, h1⟩
theorem Row8.reads (h : Row8 w t g cap n L) : Reads w w.heap.size 1 (some ⟨g, 0, none⟩) n (vals .u8 L) := by
  have hl := h.lt
  have hc := h.cell
  have hn := h.len
  refine ⟨by rw [vals_length]; omega, fun _ => ⟨_, rfl, hl, fun j u hu => ?_⟩⟩
  have hj : j < L.length := by
    rcases Nat.lt_or_ge j L.length with hj | hj
    · exact hj
    · rw [List.getElem?_eq_none (by rw [vals_length]; exact hj)] at hu; cases hu
  have e : (⟨g, 0, none⟩ : Addr).add j = ⟨g, j, none⟩ := by unfold Addr.add; split <;> simp_all
  rw [e, hc j (by omega), ← vals_getD .u8 L j hj, hu]
theorem Row8.own (h : Row8 w t g cap n L) {base : Nat} (hb : base ≤ g) : w.ownsRow base t 1 (.slice (some ⟨g, 0, none⟩) n cap) n (vals .u8 L) := by
  obtain ⟨cur, h0, h1, h2, h3, h4, h5⟩ := h
  exact ⟨by rw [vals_length]; omega, .inr ⟨g, cap, cur, rfl, hb, h0, h1, h2, by omega, by rw [Nat.mul_one]; exact h5⟩⟩
theorem Row8.made (w : World) (t : TypeId) (N : Nat) (hN : N ≤ maxLen) : Row8 (w.alloc (.cells (madeCells (Value.cells (.int .u8 0)) N) t)) t w.heap.size N N (List.replicate N 0) := by
  refine ⟨_, Blk.new w t _, Nat.le_refl _, hN, size_madeCells _ _, by simp, ?_⟩
  show (madeCells #[Value.int .u8 0] N).toList.take N = _
  rw [toList_madeCells_one, List.take_of_length_le (by simp)]
  simp [vals]
theorem Row8.of_own {base : Nat} {v : Value} {l : List Nat} (h : w.ownsRow base t 1 v n (vals .u8 l)) (hn : 0 < n) : ∃ g cap, v = .slice (some ⟨g, 0, none⟩) n cap ∧ base ≤ g ∧ Row8 w t g cap n l := by
  obtain ⟨h1, h2⟩ := h
  rcases h2 with ⟨_, h⟩ | ⟨g, cap, cur, e, hb, hk, a, b, c, d⟩
  · omega
  · refine ⟨g, cap, e, hb, cur, hk, a, b, by omega, by rw [vals_length] at h1; omega, ?_⟩
    rw [Nat.mul_one] at d
    exact d
end
end Go.Proofs.Ytnnhcicdildfaaa
