/- What this claim leans on. -/
import Derived.Test.YtgigccjiblaefaaGreatDoorBBunN
namespace Go.Proofs.YtgigccjiblaefaaGreatDoor
open Go Go.RowKit
set_option maxRecDepth 100000
set_option linter.unusedVariables false
theorem zck (x : Nat) (A : Option Addr) (n c : Nat) (w : World) (h : zag w x A n c) (hn : n ≤ 1099511627776) :
  Calls Tryz.prog 88 #[.agg #[.slice A n c]] w (zdL w n (zar .u64 (dg 18446744073709551616 x))) := by
 obtain ⟨hr, h1, h2⟩ := h
 have hlen := hr.len_
 have C : ∀ o, Calls Tryz.prog 96 #[.slice A n c] (w.alloc o) (zdL w n (zar .u64 (dg 18446744073709551616 x))) := fun o => by
  have hro := ((hr.alloc (Nat.le_refl _) o).more (B' := (w.alloc o).heap.size) (by simp))
  rcases A with _ | ad
  ·have hn0 : n = 0 := by
    rcases Nat.eq_zero_or_pos n with h | h
    ·exact h
    ·obtain ⟨ad, e, _⟩ := hr.2 h
     cases e
   subst hn0
   have hl : zar .u64 (dg 18446744073709551616 x) = [] := by rw [List.eq_nil_of_length_eq_zero hlen]; rfl
   rw [hl]
   exact (zgh c _).mono fun e w' ⟨he, hw⟩ => ⟨_, he, World.ownsRow_nil _ _ _ _, by rw [← hw]; exact (Below.refl _ w).alloc (Nat.le_refl _) o⟩
  ·refine (zdZ ad n c _ (w.alloc o) hro hn).mono fun e w' ⟨v, he, ho, hb⟩ => ?_
   refine ⟨v, he, ⟨ho.1, ?_⟩, ((Below.refl _ w).alloc (Nat.le_refl _) o).trans (hb.mono (by simp))⟩
   rcases ho.2 with h | ⟨g, cap, cur, e1, e2, e3⟩
   ·exact .inl h
   ·exact .inr ⟨g, cap, cur, e1, Nat.le_trans (by simp) e2, e3⟩
 obtain ⟨L, hL⟩ : ∃ L, zar .u64 (dg 18446744073709551616 x) = L := ⟨_, rfl⟩
 rw [hL] at C ⊢
 have HC := Lib.hid C
 clear C hr hlen hL
 go_enter Tryz.func88, Tryz.ntmps88
 go_wp2_with fail
 refine (HC.out _).mono ?_
 intro e w1 hg
 have G := Lib.hid hg
 obtain ⟨v, rfl, _, _⟩ := hg
 go_wp2
 go_ret
 exact G.out
def zan (w : World) (t : TypeId) (g cap n : Nat) (L : List Nat) : Prop :=
 ∃ cur, Blk w g t cur ∧ n ≤ cap ∧ cap ≤ maxLen ∧ cur.size = cap ∧ L.length = n ∧ cur.toList.take n = zar .u64 L
section
variable {w w' : World} {t : TypeId} {g cap n : Nat} {L : List Nat}
theorem zan.len (h : zan w t g cap n L) : L.length = n := by obtain ⟨_, _, _, _, _, h, _⟩ := h; exact h
theorem zan.room (h : zan w t g cap n L) : n ≤ cap ∧ cap ≤ maxLen := by obtain ⟨_, _, h, h2, _⟩ := h; exact ⟨h, h2⟩
theorem zan.lt (h : zan w t g cap n L) : g < w.heap.size := by obtain ⟨_, h, _⟩ := h; exact h.lt
theorem zbO (k : IntKind) (l : List Nat) (i : Nat) (h : i < l.length) : (zar k l)[i]? = some (.int k (l.getD i 0 : Nat)) := by
 simp [zar, List.getD, List.getElem?_eq_getElem h]
theorem zan.cell (h : zan w t g cap n L) (k : Nat) (hk : k < n) : w.cell? ⟨g, k, none⟩ = some (.int .u64 (L.getD k 0 : Nat)) := by
 obtain ⟨cur, hb, h1, h2, h3, h4, h5⟩ := h
 rw [hb.cell k, ← Array.getElem?_toList, ← zbO .u64 L k (by omega), ← h5, List.getElem?_take, if_pos hk]
theorem zan.frozen (h : zan w t g cap n L) (k : Nat) : w.frozen? ⟨g, k, none⟩ = false := by
 obtain ⟨cur, hb, _⟩ := h
 exact hb.frozen k
theorem zan.set_ (h : zan w t g cap n L) (k d : Nat) (hk : k < n) : zan (w.setCell ⟨g, k, none⟩ (.int .u64 (d : Int))) t g cap n (L.set k d) := by
 obtain ⟨cur, hb, h1, h2, h3, h4, h5⟩ := h
 refine ⟨_, hb.set_ k _, h1, h2, by simpa using h3, by simpa using h4, ?_⟩
 rw [Array.toList_setIfInBounds, List.take_set, h5]
 unfold zar
 rw [List.map_set]
theorem zan.below {B : Nat} (h : zan w t g cap n L) (hb : Below B w w') (hg : g < B) : zan w' t g cap n L := by
 obtain ⟨cur, h0, h1⟩ := h
 exact ⟨cur, h0.below hb hg, h1⟩
theorem zan.keep (h : zan w t g cap n L) (hb : Below w.heap.size w w') : zan w' t g cap n L := h.below hb h.lt
theorem zan.drew (h : zan w t g cap n L) : zan w.drew t g cap n L := h
theorem zan.alloc (h : zan w t g cap n L) (o : Obj) : zan (w.alloc o) t g cap n L := by
 obtain ⟨cur, h0, h1⟩ := h
 exact ⟨cur, h0.alloc o, h1⟩
theorem zan.far (h : zan w t g cap n L) {p : Addr} (hp : g ≠ p.block) (u : Value) : zan (w.setCell p u) t g cap n L := by
 obtain ⟨cur, h0, h1⟩ := h
 exact ⟨cur, h0.far hp u, h1⟩
theorem zan.reads (h : zan w t g cap n L) : zap w w.heap.size 1 (some ⟨g, 0, none⟩) n (zar .u64 L) := by
 have hl := h.lt
 have hc := h.cell
 have hn := h.len
 refine ⟨by rw [zau]; omega, fun _ => ⟨_, rfl, hl, fun j u hu => ?_⟩⟩
 have hj : j < L.length := by
  rcases Nat.lt_or_ge j L.length with hj | hj
  ·exact hj
  ·rw [List.getElem?_eq_none (by rw [zau]; exact hj)] at hu; cases hu
 have e : (⟨g, 0, none⟩ : Addr).add j = ⟨g, j, none⟩ := by unfold Addr.add; split <;> simp_all
 rw [e, hc j (by omega), ← zbO .u64 L j hj, hu]
theorem zan.own (h : zan w t g cap n L) {base : Nat} (hb : base ≤ g) : w.ownsRow base t 1 (.slice (some ⟨g, 0, none⟩) n cap) n (zar .u64 L) := by
 obtain ⟨cur, h0, h1, h2, h3, h4, h5⟩ := h
 exact ⟨by rw [zau]; omega, .inr ⟨g, cap, cur, rfl, hb, h0, h1, h2, by omega, by rw [Nat.mul_one]; exact h5⟩⟩
theorem zan.made (w : World) (t : TypeId) (N : Nat) (hN : N ≤ maxLen) : zan (w.alloc (.cells (madeCells (Value.cells (.int .u64 0)) N) t)) t w.heap.size N N (List.replicate N 0) := by
 refine ⟨_, Blk.new w t _, Nat.le_refl _, hN, size_madeCells _ _, by simp, ?_⟩
 show (madeCells #[Value.int .u64 0] N).toList.take N = _
 rw [toList_madeCells_one, List.take_of_length_le (by simp)]
 simp [zar]
theorem zan.of_own {base : Nat} {v : Value} {l : List Nat} (h : w.ownsRow base t 1 v n (zar .u64 l)) (hn : 0 < n) : ∃ g cap, v = .slice (some ⟨g, 0, none⟩) n cap ∧ base ≤ g ∧ zan w t g cap n l := by
 obtain ⟨h1, h2⟩ := h
 rcases h2 with ⟨_, h⟩ | ⟨g, cap, cur, e, hb, hk, a, b, c, d⟩
 ·omega
 ·refine ⟨g, cap, e, hb, cur, hk, a, b, by omega, by rw [zau] at h1; omega, ?_⟩
  rw [Nat.mul_one] at d
  exact d
end
theorem zap.of_grown_own {w : World} {base n : Nat} {t : TypeId} {v : Value} {xs : List Value} (h : w.ownsRow base t 1 v n xs) : ∃ A c, v = .slice A n c ∧ n ≤ c ∧ c ≤ maxLen ∧ zap w w.heap.size 1 A n xs := by
 have h0 := h
 obtain ⟨h1, h2⟩ := h
 rcases h2 with ⟨e, hn⟩ | ⟨g, cap, cur, e, hb, hk, a, b, c, d⟩
 ·subst hn
  exact ⟨none, 0, e, Nat.le_refl _, by unfold maxLen; omega, by subst e; exact zap.of_own h0⟩
 ·exact ⟨_, _, e, a, b, by subst e; exact zap.of_own h0⟩
end Go.Proofs.YtgigccjiblaefaaGreatDoor
