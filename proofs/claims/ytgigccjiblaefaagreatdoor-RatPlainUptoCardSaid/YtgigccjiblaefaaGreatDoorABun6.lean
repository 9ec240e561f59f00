/- What this claim leans on. -/
import Derived.Test.YtgigccjiblaefaaGreatDoorANNums
import Derived.Test.YtgigccjiblaefaaGreatDoorABunQ
import Derived.Deep.RegionLaw
import Derived.Laws.BytesArg
import Derived.LoopIn
import Derived.LoopNIn
import Derived.OrdersHeld
import Derived.OrdersIn
import Derived.OwnWalkIn
import Derived.RangeFuncBound
import Derived.RangeFuncCalls
import Derived.RangeFuncLeaves
import Derived.RangeFuncNested
import Derived.Shelf.Abstract
import Derived.Shelf.RegionOpen
import Derived.TacticsInMore
namespace Go.Proofs.YtgigccjiblaefaaGreatDoor
open Go Go.RowKit
set_option linter.unusedVariables false
def zby (w : World) (t : TypeId) (g cap n : Nat) (L : List Nat) : Prop :=
 ∃ cur, Blk w g t cur ∧ n ≤ cap ∧ cap ≤ maxLen ∧ cur.size = cap ∧ L.length = n ∧ cur.toList.take n = zay .u8 L
section
variable {w w' : World} {t : TypeId} {g cap n : Nat} {L : List Nat}
theorem zby.len (h : zby w t g cap n L) : L.length = n := by obtain ⟨_, _, _, _, _, h, _⟩ := h; exact h
theorem zby.room (h : zby w t g cap n L) : n ≤ cap ∧ cap ≤ maxLen := by obtain ⟨_, _, h, h2, _⟩ := h; exact ⟨h, h2⟩
theorem zby.lt (h : zby w t g cap n L) : g < w.heap.size := by obtain ⟨_, h, _⟩ := h; exact h.lt
theorem zby.cell (h : zby w t g cap n L) (k : Nat) (hk : k < n) : w.cell? ⟨g, k, none⟩ = some (.int .u8 (L.getD k 0 : Nat)) := by
 obtain ⟨cur, hb, h1, h2, h3, h4, h5⟩ := h
 rw [hb.cell k, ← Array.getElem?_toList, ← zbW .u8 L k (by omega), ← h5, List.getElem?_take, if_pos hk]
theorem zby.frozen (h : zby w t g cap n L) (k : Nat) : w.frozen? ⟨g, k, none⟩ = false := by
 obtain ⟨cur, hb, _⟩ := h
 exact hb.frozen k
theorem zby.set_ (h : zby w t g cap n L) (k d : Nat) (hk : k < n) : zby (w.setCell ⟨g, k, none⟩ (.int .u8 (d : Int))) t g cap n (L.set k d) := by
 obtain ⟨cur, hb, h1, h2, h3, h4, h5⟩ := h
 refine ⟨_, hb.set_ k _, h1, h2, by simpa using h3, by simpa using h4, ?_⟩
 rw [Array.toList_setIfInBounds, List.take_set, h5]
 unfold zay
 rw [List.map_set]
theorem zby.below {B : Nat} (h : zby w t g cap n L) (hb : Below B w w') (hg : g < B) : zby w' t g cap n L := by
 obtain ⟨cur, h0, h1⟩ := h
 exact ⟨cur, h0.below hb hg, h1⟩
theorem zby.keep (h : zby w t g cap n L) (hb : Below w.heap.size w w') : zby w' t g cap n L := h.below hb h.lt
theorem zby.drew (h : zby w t g cap n L) : zby w.drew t g cap n L := h
theorem zby.alloc (h : zby w t g cap n L) (o : Obj) : zby (w.alloc o) t g cap n L := by
 obtain ⟨cur, h0, h1⟩ := h
 exact ⟨cur, h0.alloc o, h1⟩
theorem zby.far (h : zby w t g cap n L) {p : Addr} (hp : g ≠ p.block) (u : Value) : zby (w.setCell p u) t g cap n L := by
 obtain ⟨cur, h0, h1⟩ := h
 exact ⟨cur, h0.far hp u, h1⟩
theorem zby.reads (h : zby w t g cap n L) : zav w w.heap.size 1 (some ⟨g, 0, none⟩) n (zay .u8 L) := by
 have hl := h.lt
 have hc := h.cell
 have hn := h.len
 refine ⟨by rw [zaA]; omega, fun _ => ⟨_, rfl, hl, fun j u hu => ?_⟩⟩
 have hj : j < L.length := by
  rcases Nat.lt_or_ge j L.length with hj | hj
  ·exact hj
  ·rw [List.getElem?_eq_none (by rw [zaA]; exact hj)] at hu; cases hu
 have e : (⟨g, 0, none⟩ : Addr).add j = ⟨g, j, none⟩ := by unfold Addr.add; split <;> simp_all
 rw [e, hc j (by omega), ← zbW .u8 L j hj, hu]
theorem zby.own (h : zby w t g cap n L) {base : Nat} (hb : base ≤ g) : w.ownsRow base t 1 (.slice (some ⟨g, 0, none⟩) n cap) n (zay .u8 L) := by
 obtain ⟨cur, h0, h1, h2, h3, h4, h5⟩ := h
 exact ⟨by rw [zaA]; omega, .inr ⟨g, cap, cur, rfl, hb, h0, h1, h2, by omega, by rw [Nat.mul_one]; exact h5⟩⟩
theorem zby.made (w : World) (t : TypeId) (N : Nat) (hN : N ≤ maxLen) : zby (w.alloc (.cells (madeCells (Value.cells (.int .u8 0)) N) t)) t w.heap.size N N (List.replicate N 0) := by
 refine ⟨_, Blk.new w t _, Nat.le_refl _, hN, size_madeCells _ _, by simp, ?_⟩
 show (madeCells #[Value.int .u8 0] N).toList.take N = _
 rw [toList_madeCells_one, List.take_of_length_le (by simp)]
 simp [zay]
theorem zby.of_own {base : Nat} {v : Value} {l : List Nat} (h : w.ownsRow base t 1 v n (zay .u8 l)) (hn : 0 < n) : ∃ g cap, v = .slice (some ⟨g, 0, none⟩) n cap ∧ base ≤ g ∧ zby w t g cap n l := by
 obtain ⟨h1, h2⟩ := h
 rcases h2 with ⟨_, h⟩ | ⟨g, cap, cur, e, hb, hk, a, b, c, d⟩
 ·omega
 ·refine ⟨g, cap, e, hb, cur, hk, a, b, by omega, by rw [zaA] at h1; omega, ?_⟩
  rw [Nat.mul_one] at d
  exact d
end
set_option maxRecDepth 100000
set_option linter.unusedSimpArgs false
structure zeq (w : World) (v : Value) (w' : World) (v' : Value) : Prop where
 grown : w.grownBy w' v.ownBlock
 at_ : v'.ownBlock = v.ownBlock ∨ ∀ g, v'.ownBlock = some g → w.heap.size ≤ g
theorem zeq.refl (w : World) (v : Value) : zeq w v w v := ⟨World.grownBy.refl _ _, .inl rfl⟩
theorem zeq.alloc (w : World) (v : Value) (o : Obj) : zeq w v (w.alloc o) v := ⟨World.grownBy_alloc w o _, .inl rfl⟩
theorem zeq.trans {w w1 w2 : World} {v v1 v2 : Value} (h : zeq w v w1 v1) (k : zeq w1 v1 w2 v2) : zeq w v w2 v2 := by
 refine ⟨⟨k.grown.os.trans h.grown.os, k.grown.tape.trans h.grown.tape, k.grown.output.trans h.grown.output, Nat.le_trans h.grown.size k.grown.size, fun i hi hne => ?_⟩, ?_⟩
 ·refine (k.grown.block i (Nat.lt_of_lt_of_le hi h.grown.size) (fun e => ?_)).trans (h.grown.block i hi hne)
  rcases h.at_ with h1 | h1
  ·exact hne (by rw [e, h1])
  ·have := h1 i e.symm; omega
 ·rcases k.at_ with k1 | k1
  ·rw [k1]; exact h.at_
  ·exact .inr fun g hg => Nat.le_trans h.grown.size (k1 g hg)
theorem zeq.below {w w' : World} {v : Value} (hb : Below w.heap.size w w') : zeq w v w' v := ⟨⟨hb.os, hb.tape, hb.output, hb.size, fun i hi _ => hb.block i hi⟩, .inl rfl⟩
theorem Off.drew {g : Nat} {w w' : World} (h : Off g w w') : Off g w w'.drew := ⟨h.os, h.tape, h.output, h.size, h.block⟩
def Aside (v : Value) (B : Option Addr) (m : Nat) : Prop := 0 < m → ∀ ad, B = some ad → v.ownBlock ≠ some ad.block
theorem Aside.words {w w' : World} {v v' : Value} {x m d : Nat} {B : Option Addr} (h : Aside v B m) (hx : zae w x B m d) (hg : zeq w v w' v') : zae w' x B m d ∧ Aside v' B m := by
 refine ⟨zgT hx hg.grown (fun hm ad e => (h hm ad e).symm), fun hm ad e => ?_⟩
 rcases hg.at_ with h1 | h1
 ·rw [h1]; exact h hm ad e
 ·intro h2
  have := h1 _ h2
  obtain ⟨ad', e', hb, _⟩ := hx.1.2 hm
  rw [e] at e'
  injection e' with e'
  subst e'
  omega
theorem zeq.blk {w w' : World} {v v' : Value} {base g n : Nat} {t e : TypeId} {cs : Array Value} {vs : List Value} (h : zeq w v w' v') (hv : w.ownsRow base e 1 v n vs) (hk : Blk w g t cs) (hg : g < base) : Blk w' g t cs :=
 hk.grown h.grown (fun e => by have := (hv.lt g e.symm).1; omega)
def TextB (x y : Nat) (D : List Nat) : Prop := Dgs 10 D ∧ dv 10 D + 10 ^ D.length * y = x
theorem TextB.len {x y : Nat} {D : List Nat} (h : TextB x y D) (hy : y ≠ 0) : 10 ^ D.length ≤ x := by
 have := h.2
 have h1 : 10 ^ D.length * 1 ≤ 10 ^ D.length * y := Nat.mul_le_mul_left _ (by omega)
 omega
end Go.Proofs.YtgigccjiblaefaaGreatDoor
