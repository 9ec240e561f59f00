/- What this claim leans on. -/
import Derived.Test.YtgigccjiblaefaaGreatDoorBBunQ
import Derived.Laws.BytesArg
namespace Go.Proofs.YtgigccjiblaefaaGreatDoor
open Go Go.RowKit
set_option linter.unusedVariables false
def zbu (w : World) (t : TypeId) (g cap n : Nat) (L : List Nat) : Prop :=
 ∃ cur, Blk w g t cur ∧ n ≤ cap ∧ cap ≤ maxLen ∧ cur.size = cap ∧ L.length = n ∧ cur.toList.take n = zar .u8 L
section
variable {w w' : World} {t : TypeId} {g cap n : Nat} {L : List Nat}
theorem zbu.len (h : zbu w t g cap n L) : L.length = n := by obtain ⟨_, _, _, _, _, h, _⟩ := h; exact h
theorem zbu.room (h : zbu w t g cap n L) : n ≤ cap ∧ cap ≤ maxLen := by obtain ⟨_, _, h, h2, _⟩ := h; exact ⟨h, h2⟩
theorem zbu.lt (h : zbu w t g cap n L) : g < w.heap.size := by obtain ⟨_, h, _⟩ := h; exact h.lt
theorem zbu.cell (h : zbu w t g cap n L) (k : Nat) (hk : k < n) : w.cell? ⟨g, k, none⟩ = some (.int .u8 (L.getD k 0 : Nat)) := by
 obtain ⟨cur, hb, h1, h2, h3, h4, h5⟩ := h
 rw [hb.cell k, ← Array.getElem?_toList, ← zbO .u8 L k (by omega), ← h5, List.getElem?_take, if_pos hk]
theorem zbu.frozen (h : zbu w t g cap n L) (k : Nat) : w.frozen? ⟨g, k, none⟩ = false := by
 obtain ⟨cur, hb, _⟩ := h
 exact hb.frozen k
theorem zbu.set_ (h : zbu w t g cap n L) (k d : Nat) (hk : k < n) : zbu (w.setCell ⟨g, k, none⟩ (.int .u8 (d : Int))) t g cap n (L.set k d) := by
 obtain ⟨cur, hb, h1, h2, h3, h4, h5⟩ := h
 refine ⟨_, hb.set_ k _, h1, h2, by simpa using h3, by simpa using h4, ?_⟩
 rw [Array.toList_setIfInBounds, List.take_set, h5]
 unfold zar
 rw [List.map_set]
theorem zbu.below {B : Nat} (h : zbu w t g cap n L) (hb : Below B w w') (hg : g < B) : zbu w' t g cap n L := by
 obtain ⟨cur, h0, h1⟩ := h
 exact ⟨cur, h0.below hb hg, h1⟩
theorem zbu.keep (h : zbu w t g cap n L) (hb : Below w.heap.size w w') : zbu w' t g cap n L := h.below hb h.lt
theorem zbu.drew (h : zbu w t g cap n L) : zbu w.drew t g cap n L := h
theorem zbu.alloc (h : zbu w t g cap n L) (o : Obj) : zbu (w.alloc o) t g cap n L := by
 obtain ⟨cur, h0, h1⟩ := h
 exact ⟨cur, h0.alloc o, h1⟩
theorem zbu.far (h : zbu w t g cap n L) {p : Addr} (hp : g ≠ p.block) (u : Value) : zbu (w.setCell p u) t g cap n L := by
 obtain ⟨cur, h0, h1⟩ := h
 exact ⟨cur, h0.far hp u, h1⟩
theorem zbu.reads (h : zbu w t g cap n L) : zap w w.heap.size 1 (some ⟨g, 0, none⟩) n (zar .u8 L) := by
 have hl := h.lt
 have hc := h.cell
 have hn := h.len
 refine ⟨by rw [zau]; omega, fun _ => ⟨_, rfl, hl, fun j u hu => ?_⟩⟩
 have hj : j < L.length := by
  rcases Nat.lt_or_ge j L.length with hj | hj
  ·exact hj
  ·rw [List.getElem?_eq_none (by rw [zau]; exact hj)] at hu; cases hu
 have e : (⟨g, 0, none⟩ : Addr).add j = ⟨g, j, none⟩ := by unfold Addr.add; split <;> simp_all
 rw [e, hc j (by omega), ← zbO .u8 L j hj, hu]
theorem zbu.own (h : zbu w t g cap n L) {base : Nat} (hb : base ≤ g) : w.ownsRow base t 1 (.slice (some ⟨g, 0, none⟩) n cap) n (zar .u8 L) := by
 obtain ⟨cur, h0, h1, h2, h3, h4, h5⟩ := h
 exact ⟨by rw [zau]; omega, .inr ⟨g, cap, cur, rfl, hb, h0, h1, h2, by omega, by rw [Nat.mul_one]; exact h5⟩⟩
theorem zbu.made (w : World) (t : TypeId) (N : Nat) (hN : N ≤ maxLen) : zbu (w.alloc (.cells (madeCells (Value.cells (.int .u8 0)) N) t)) t w.heap.size N N (List.replicate N 0) := by
 refine ⟨_, Blk.new w t _, Nat.le_refl _, hN, size_madeCells _ _, by simp, ?_⟩
 show (madeCells #[Value.int .u8 0] N).toList.take N = _
 rw [toList_madeCells_one, List.take_of_length_le (by simp)]
 simp [zar]
theorem zbu.of_own {base : Nat} {v : Value} {l : List Nat} (h : w.ownsRow base t 1 v n (zar .u8 l)) (hn : 0 < n) : ∃ g cap, v = .slice (some ⟨g, 0, none⟩) n cap ∧ base ≤ g ∧ zbu w t g cap n l := by
 obtain ⟨h1, h2⟩ := h
 rcases h2 with ⟨_, h⟩ | ⟨g, cap, cur, e, hb, hk, a, b, c, d⟩
 ·omega
 ·refine ⟨g, cap, e, hb, cur, hk, a, b, by omega, by rw [zau] at h1; omega, ?_⟩
  rw [Nat.mul_one] at d
  exact d
end
set_option maxRecDepth 100000
set_option linter.unusedSimpArgs false
structure zeQ (w : World) (v : Value) (w' : World) (v' : Value) : Prop where
 grown : w.grownBy w' v.ownBlock
 at_ : v'.ownBlock = v.ownBlock ∨ ∀ g, v'.ownBlock = some g → w.heap.size ≤ g
theorem zeQ.refl (w : World) (v : Value) : zeQ w v w v := ⟨World.grownBy.refl _ _, .inl rfl⟩
theorem zeQ.alloc (w : World) (v : Value) (o : Obj) : zeQ w v (w.alloc o) v := ⟨World.grownBy_alloc w o _, .inl rfl⟩
theorem zeQ.trans {w w1 w2 : World} {v v1 v2 : Value} (h : zeQ w v w1 v1) (k : zeQ w1 v1 w2 v2) : zeQ w v w2 v2 := by
 refine ⟨⟨k.grown.os.trans h.grown.os, k.grown.tape.trans h.grown.tape, k.grown.output.trans h.grown.output, Nat.le_trans h.grown.size k.grown.size, fun i hi hne => ?_⟩, ?_⟩
 ·refine (k.grown.block i (Nat.lt_of_lt_of_le hi h.grown.size) (fun e => ?_)).trans (h.grown.block i hi hne)
  rcases h.at_ with h1 | h1
  ·exact hne (by rw [e, h1])
  ·have := h1 i e.symm; omega
 ·rcases k.at_ with k1 | k1
  ·rw [k1]; exact h.at_
  ·exact .inr fun g hg => Nat.le_trans h.grown.size (k1 g hg)
theorem zeQ.below {w w' : World} {v : Value} (hb : Below w.heap.size w w') : zeQ w v w' v := ⟨⟨hb.os, hb.tape, hb.output, hb.size, fun i hi _ => hb.block i hi⟩, .inl rfl⟩
def lowD (n p : Nat) : List Nat := (List.range n).map fun k => p / 10 ^ k % 10
theorem zik (n p : Nat) : (lowD n p).length = n := by simp [lowD]
theorem zkQ (n p : Nat) : lowD (n + 1) p = lowD n p ++ [p / 10 ^ n % 10] := by simp [lowD, List.range_succ]
theorem lowD_dgs (n p : Nat) : Dgs 10 (lowD n p) := by
 intro d hd
 obtain ⟨j, _, rfl⟩ := List.mem_map.1 hd
 exact Nat.mod_lt _ (by decide)
theorem zjS (p : Nat) : ∀ n, dv 10 (lowD n p) = p % 10 ^ n
 | 0 => by simp [lowD, dv, Nat.mod_one]
 | n + 1 => by rw [zkQ, zaW, zjS p n, zik, zaE 10 p n]
theorem zio (l : List Nat) (i k a : Nat) : (l.set i a).getD k 0 = if i = k ∧ k < l.length then a else l.getD k 0 := by
 simp only [List.getD_eq_getElem?_getD, List.getElem?_set]
 by_cases h : i = k
 ·subst h
  by_cases h2 : i < l.length
  ·simp [h2]
  ·simp [h2]
 ·simp [h]
def zfz (L : List Nat) (i : Nat) (M : List Nat) : Prop := M.length = L.length ∧ ∀ j, j < L.length → M.getD j 0 = if j < i ∨ L.length ≤ j + i then L.getD (L.length - 1 - j) 0 else L.getD j 0
theorem zfz.start (L : List Nat) : zfz L 0 L := ⟨rfl, fun j hj => by rw [if_neg (by omega)]⟩
theorem zfz.step {L M : List Nat} {i j : Nat} (h : zfz L i M) (hij : i + j + 1 = L.length) (hlt : i < j) : zfz L (i + 1) ((M.set i (M.getD j 0)).set j (M.getD i 0)) := by
 obtain ⟨h1, h2⟩ := h
 refine ⟨by simpa using h1, fun k hk => ?_⟩
 rw [zio, zio, List.length_set, h1]
 by_cases hkj : j = k
 ·subst hkj
  rw [if_pos ⟨rfl, hk⟩, if_pos (by omega), h2 i (by omega), if_neg (by omega)]
  congr 1; omega
 ·rw [if_neg (by omega)]
  by_cases hki : i = k
  ·subst hki
   rw [if_pos ⟨rfl, hk⟩, if_pos (by omega), h2 j (by omega), if_neg (by omega)]
   congr 1; omega
  ·rw [if_neg (by omega), h2 k hk]
   by_cases hc : k < i ∨ L.length ≤ k + i
   ·rw [if_pos hc, if_pos (by omega)]
   ·rw [if_neg hc, if_neg (by omega)]
theorem zfz.done {L M : List Nat} {i j : Nat} (h : zfz L i M) (hij : i + j + 1 = L.length) (hle : j ≤ i) : M = L.reverse := by
 obtain ⟨h1, h2⟩ := h
 refine List.ext_getElem (by simpa using h1) fun k hk hk2 => ?_
 have h3 := h2 k (by omega)
 rw [List.getD_eq_getElem?_getD, List.getElem?_eq_getElem hk] at h3
 rw [List.getElem_reverse]
 have e1 : L[L.length - 1 - k]'(by omega) = L.getD (L.length - 1 - k) 0 := by rw [List.getD_eq_getElem?_getD, List.getElem?_eq_getElem (by omega)]; rfl
 rw [e1]
 refine Eq.trans h3 ?_
 by_cases hc : k < i ∨ L.length ≤ k + i
 ·rw [if_pos hc]
 ·rw [if_neg hc]
  congr 1; omega
theorem Off.drew {g : Nat} {w w' : World} (h : Off g w w') : Off g w w'.drew := ⟨h.os, h.tape, h.output, h.size, h.block⟩
end Go.Proofs.YtgigccjiblaefaaGreatDoor
