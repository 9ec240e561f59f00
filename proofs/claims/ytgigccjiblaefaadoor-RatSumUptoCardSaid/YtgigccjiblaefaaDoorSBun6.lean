/- What this claim leans on. -/
import Derived.Test.YtgigccjiblaefaaDoorSBunQ
import Derived.Laws.BytesArg
namespace Go.Proofs.YtgigccjiblaefaaDoor
open Go Go.RowKit
set_option linter.unusedVariables false
def zbi (w : World) (t : TypeId) (g cap n : Nat) (L : List Nat) : Prop :=
 ∃ cur, Blk w g t cur ∧ n ≤ cap ∧ cap ≤ maxLen ∧ cur.size = cap ∧ L.length = n ∧ cur.toList.take n = zaq .u8 L
section
variable {w w' : World} {t : TypeId} {g cap n : Nat} {L : List Nat}
theorem zbi.len (h : zbi w t g cap n L) : L.length = n := by obtain ⟨_, _, _, _, _, h, _⟩ := h; exact h
theorem zbi.room (h : zbi w t g cap n L) : n ≤ cap ∧ cap ≤ maxLen := by obtain ⟨_, _, h, h2, _⟩ := h; exact ⟨h, h2⟩
theorem zbi.lt (h : zbi w t g cap n L) : g < w.heap.size := by obtain ⟨_, h, _⟩ := h; exact h.lt
theorem zbi.cell (h : zbi w t g cap n L) (k : Nat) (hk : k < n) : w.cell? ⟨g, k, none⟩ = some (.int .u8 (L.getD k 0 : Nat)) := by
 obtain ⟨cur, hb, h1, h2, h3, h4, h5⟩ := h
 rw [hb.cell k, ← Array.getElem?_toList, ← zby .u8 L k (by omega), ← h5, List.getElem?_take, if_pos hk]
theorem zbi.frozen (h : zbi w t g cap n L) (k : Nat) : w.frozen? ⟨g, k, none⟩ = false := by
 obtain ⟨cur, hb, _⟩ := h
 exact hb.frozen k
theorem zbi.set_ (h : zbi w t g cap n L) (k d : Nat) (hk : k < n) : zbi (w.setCell ⟨g, k, none⟩ (.int .u8 (d : Int))) t g cap n (L.set k d) := by
 obtain ⟨cur, hb, h1, h2, h3, h4, h5⟩ := h
 refine ⟨_, hb.set_ k _, h1, h2, by simpa using h3, by simpa using h4, ?_⟩
 rw [Array.toList_setIfInBounds, List.take_set, h5]
 unfold zaq
 rw [List.map_set]
theorem zbi.below {B : Nat} (h : zbi w t g cap n L) (hb : Below B w w') (hg : g < B) : zbi w' t g cap n L := by
 obtain ⟨cur, h0, h1⟩ := h
 exact ⟨cur, h0.below hb hg, h1⟩
theorem zbi.keep (h : zbi w t g cap n L) (hb : Below w.heap.size w w') : zbi w' t g cap n L := h.below hb h.lt
theorem zbi.drew (h : zbi w t g cap n L) : zbi w.drew t g cap n L := h
theorem zbi.alloc (h : zbi w t g cap n L) (o : Obj) : zbi (w.alloc o) t g cap n L := by
 obtain ⟨cur, h0, h1⟩ := h
 exact ⟨cur, h0.alloc o, h1⟩
theorem zbi.far (h : zbi w t g cap n L) {p : Addr} (hp : g ≠ p.block) (u : Value) : zbi (w.setCell p u) t g cap n L := by
 obtain ⟨cur, h0, h1⟩ := h
 exact ⟨cur, h0.far hp u, h1⟩
theorem zbi.reads (h : zbi w t g cap n L) : zan w w.heap.size 1 (some ⟨g, 0, none⟩) n (zaq .u8 L) := by
 have hl := h.lt
 have hc := h.cell
 have hn := h.len
 refine ⟨by rw [zar]; omega, fun _ => ⟨_, rfl, hl, fun j u hu => ?_⟩⟩
 have hj : j < L.length := by
  rcases Nat.lt_or_ge j L.length with hj | hj
  ·exact hj
  ·rw [List.getElem?_eq_none (by rw [zar]; exact hj)] at hu; cases hu
 have e : (⟨g, 0, none⟩ : Addr).add j = ⟨g, j, none⟩ := by unfold Addr.add; split <;> simp_all
 rw [e, hc j (by omega), ← zby .u8 L j hj, hu]
theorem zbi.own (h : zbi w t g cap n L) {base : Nat} (hb : base ≤ g) : w.ownsRow base t 1 (.slice (some ⟨g, 0, none⟩) n cap) n (zaq .u8 L) := by
 obtain ⟨cur, h0, h1, h2, h3, h4, h5⟩ := h
 exact ⟨by rw [zar]; omega, .inr ⟨g, cap, cur, rfl, hb, h0, h1, h2, by omega, by rw [Nat.mul_one]; exact h5⟩⟩
theorem zbi.made (w : World) (t : TypeId) (N : Nat) (hN : N ≤ maxLen) : zbi (w.alloc (.cells (madeCells (Value.cells (.int .u8 0)) N) t)) t w.heap.size N N (List.replicate N 0) := by
 refine ⟨_, Blk.new w t _, Nat.le_refl _, hN, size_madeCells _ _, by simp, ?_⟩
 show (madeCells #[Value.int .u8 0] N).toList.take N = _
 rw [toList_madeCells_one, List.take_of_length_le (by simp)]
 simp [zaq]
theorem zbi.of_own {base : Nat} {v : Value} {l : List Nat} (h : w.ownsRow base t 1 v n (zaq .u8 l)) (hn : 0 < n) : ∃ g cap, v = .slice (some ⟨g, 0, none⟩) n cap ∧ base ≤ g ∧ zbi w t g cap n l := by
 obtain ⟨h1, h2⟩ := h
 rcases h2 with ⟨_, h⟩ | ⟨g, cap, cur, e, hb, hk, a, b, c, d⟩
 ·omega
 ·refine ⟨g, cap, e, hb, cur, hk, a, b, by omega, by rw [zar] at h1; omega, ?_⟩
  rw [Nat.mul_one] at d
  exact d
end
set_option maxRecDepth 100000
set_option linter.unusedSimpArgs false
structure zej (w : World) (v : Value) (w' : World) (v' : Value) : Prop where
 grown : w.grownBy w' v.ownBlock
 at_ : v'.ownBlock = v.ownBlock ∨ ∀ g, v'.ownBlock = some g → w.heap.size ≤ g
theorem zej.refl (w : World) (v : Value) : zej w v w v := ⟨World.grownBy.refl _ _, .inl rfl⟩
theorem zej.alloc (w : World) (v : Value) (o : Obj) : zej w v (w.alloc o) v := ⟨World.grownBy_alloc w o _, .inl rfl⟩
theorem zej.trans {w w1 w2 : World} {v v1 v2 : Value} (h : zej w v w1 v1) (k : zej w1 v1 w2 v2) : zej w v w2 v2 := by
 refine ⟨⟨k.grown.os.trans h.grown.os, k.grown.tape.trans h.grown.tape, k.grown.output.trans h.grown.output, Nat.le_trans h.grown.size k.grown.size, fun i hi hne => ?_⟩, ?_⟩
 ·refine (k.grown.block i (Nat.lt_of_lt_of_le hi h.grown.size) (fun e => ?_)).trans (h.grown.block i hi hne)
  rcases h.at_ with h1 | h1
  ·exact hne (by rw [e, h1])
  ·have := h1 i e.symm; omega
 ·rcases k.at_ with k1 | k1
  ·rw [k1]; exact h.at_
  ·exact .inr fun g hg => Nat.le_trans h.grown.size (k1 g hg)
theorem zej.below {w w' : World} {v : Value} (hb : Below w.heap.size w w') : zej w v w' v := ⟨⟨hb.os, hb.tape, hb.output, hb.size, fun i hi _ => hb.block i hi⟩, .inl rfl⟩
theorem Off.drew {g : Nat} {w w' : World} (h : Off g w w') : Off g w w'.drew := ⟨h.os, h.tape, h.output, h.size, h.block⟩
end Go.Proofs.YtgigccjiblaefaaDoor
