/- What this claim leans on. -/
import Derived.Test.YtgigccjiblaefaaDoorSBunN
namespace Go.Proofs.YtgigccjiblaefaaDoor
open Go Go.RowKit
set_option maxRecDepth 100000
set_option linter.unusedVariables false
theorem zbN (x : Nat) (A : Option Addr) (n c : Nat) (w : World) (h : zae w x A n c) (hn : n ≤ 1099511627776) :
  Calls Tryd.prog 45 #[.agg #[.slice A n c]] w (zcV w n (zaq .u64 (dg 18446744073709551616 x))) := by
 obtain ⟨hr, h1, h2⟩ := h
 have hlen := hr.len_
 have C : ∀ o, Calls Tryd.prog 52 #[.slice A n c] (w.alloc o) (zcV w n (zaq .u64 (dg 18446744073709551616 x))) := fun o => by
  have hro := ((hr.alloc (Nat.le_refl _) o).more (B' := (w.alloc o).heap.size) (by simp))
  rcases A with _ | ad
  ·have hn0 : n = 0 := by
    rcases Nat.eq_zero_or_pos n with h | h
    ·exact h
    ·obtain ⟨ad, e, _⟩ := hr.2 h
     cases e
   subst hn0
   have hl : zaq .u64 (dg 18446744073709551616 x) = [] := by rw [List.eq_nil_of_length_eq_zero hlen]; rfl
   rw [hl]
   exact (zfr c _).mono fun e w' ⟨he, hw⟩ => ⟨_, he, World.ownsRow_nil _ _ _ _, by rw [← hw]; exact (Below.refl _ w).alloc (Nat.le_refl _) o⟩
  ·refine (zdt ad n c _ (w.alloc o) hro hn).mono fun e w' ⟨v, he, ho, hb⟩ => ?_
   refine ⟨v, he, ⟨ho.1, ?_⟩, ((Below.refl _ w).alloc (Nat.le_refl _) o).trans (hb.mono (by simp))⟩
   rcases ho.2 with h | ⟨g, cap, cur, e1, e2, e3⟩
   ·exact .inl h
   ·exact .inr ⟨g, cap, cur, e1, Nat.le_trans (by simp) e2, e3⟩
 obtain ⟨L, hL⟩ : ∃ L, zaq .u64 (dg 18446744073709551616 x) = L := ⟨_, rfl⟩
 rw [hL] at C ⊢
 have HC := Lib.hid C
 clear C hr hlen hL
 go_enter Tryd.func45, Tryd.ntmps45
 go_wp2_with fail
 refine (HC.out _).mono ?_
 intro e w1 hg
 have G := Lib.hid hg
 obtain ⟨v, rfl, _, _⟩ := hg
 go_wp2
 go_ret
 exact G.out
def zak (w : World) (t : TypeId) (g cap n : Nat) (L : List Nat) : Prop :=
 ∃ cur, Blk w g t cur ∧ n ≤ cap ∧ cap ≤ maxLen ∧ cur.size = cap ∧ L.length = n ∧ cur.toList.take n = zaq .u64 L
section
variable {w w' : World} {t : TypeId} {g cap n : Nat} {L : List Nat}
theorem zak.len (h : zak w t g cap n L) : L.length = n := by obtain ⟨_, _, _, _, _, h, _⟩ := h; exact h
theorem zak.room (h : zak w t g cap n L) : n ≤ cap ∧ cap ≤ maxLen := by obtain ⟨_, _, h, h2, _⟩ := h; exact ⟨h, h2⟩
theorem zak.lt (h : zak w t g cap n L) : g < w.heap.size := by obtain ⟨_, h, _⟩ := h; exact h.lt
theorem zby (k : IntKind) (l : List Nat) (i : Nat) (h : i < l.length) : (zaq k l)[i]? = some (.int k (l.getD i 0 : Nat)) := by
 simp [zaq, List.getD, List.getElem?_eq_getElem h]
theorem zak.cell (h : zak w t g cap n L) (k : Nat) (hk : k < n) : w.cell? ⟨g, k, none⟩ = some (.int .u64 (L.getD k 0 : Nat)) := by
 obtain ⟨cur, hb, h1, h2, h3, h4, h5⟩ := h
 rw [hb.cell k, ← Array.getElem?_toList, ← zby .u64 L k (by omega), ← h5, List.getElem?_take, if_pos hk]
theorem zak.frozen (h : zak w t g cap n L) (k : Nat) : w.frozen? ⟨g, k, none⟩ = false := by
 obtain ⟨cur, hb, _⟩ := h
 exact hb.frozen k
theorem zak.set_ (h : zak w t g cap n L) (k d : Nat) (hk : k < n) : zak (w.setCell ⟨g, k, none⟩ (.int .u64 (d : Int))) t g cap n (L.set k d) := by
 obtain ⟨cur, hb, h1, h2, h3, h4, h5⟩ := h
 refine ⟨_, hb.set_ k _, h1, h2, by simpa using h3, by simpa using h4, ?_⟩
 rw [Array.toList_setIfInBounds, List.take_set, h5]
 unfold zaq
 rw [List.map_set]
theorem zak.below {B : Nat} (h : zak w t g cap n L) (hb : Below B w w') (hg : g < B) : zak w' t g cap n L := by
 obtain ⟨cur, h0, h1⟩ := h
 exact ⟨cur, h0.below hb hg, h1⟩
theorem zak.keep (h : zak w t g cap n L) (hb : Below w.heap.size w w') : zak w' t g cap n L := h.below hb h.lt
theorem zak.drew (h : zak w t g cap n L) : zak w.drew t g cap n L := h
theorem zak.alloc (h : zak w t g cap n L) (o : Obj) : zak (w.alloc o) t g cap n L := by
 obtain ⟨cur, h0, h1⟩ := h
 exact ⟨cur, h0.alloc o, h1⟩
theorem zak.far (h : zak w t g cap n L) {p : Addr} (hp : g ≠ p.block) (u : Value) : zak (w.setCell p u) t g cap n L := by
 obtain ⟨cur, h0, h1⟩ := h
 exact ⟨cur, h0.far hp u, h1⟩
theorem zak.reads (h : zak w t g cap n L) : zan w w.heap.size 1 (some ⟨g, 0, none⟩) n (zaq .u64 L) := by
 have hl := h.lt
 have hc := h.cell
 have hn := h.len
 refine ⟨by rw [zar]; omega, fun _ => ⟨_, rfl, hl, fun j u hu => ?_⟩⟩
 have hj : j < L.length := by
  rcases Nat.lt_or_ge j L.length with hj | hj
  ·exact hj
  ·rw [List.getElem?_eq_none (by rw [zar]; exact hj)] at hu; cases hu
 have e : (⟨g, 0, none⟩ : Addr).add j = ⟨g, j, none⟩ := by unfold Addr.add; split <;> simp_all
 rw [e, hc j (by omega), ← zby .u64 L j hj, hu]
theorem zak.own (h : zak w t g cap n L) {base : Nat} (hb : base ≤ g) : w.ownsRow base t 1 (.slice (some ⟨g, 0, none⟩) n cap) n (zaq .u64 L) := by
 obtain ⟨cur, h0, h1, h2, h3, h4, h5⟩ := h
 exact ⟨by rw [zar]; omega, .inr ⟨g, cap, cur, rfl, hb, h0, h1, h2, by omega, by rw [Nat.mul_one]; exact h5⟩⟩
theorem zak.made (w : World) (t : TypeId) (N : Nat) (hN : N ≤ maxLen) : zak (w.alloc (.cells (madeCells (Value.cells (.int .u64 0)) N) t)) t w.heap.size N N (List.replicate N 0) := by
 refine ⟨_, Blk.new w t _, Nat.le_refl _, hN, size_madeCells _ _, by simp, ?_⟩
 show (madeCells #[Value.int .u64 0] N).toList.take N = _
 rw [toList_madeCells_one, List.take_of_length_le (by simp)]
 simp [zaq]
theorem zak.of_own {base : Nat} {v : Value} {l : List Nat} (h : w.ownsRow base t 1 v n (zaq .u64 l)) (hn : 0 < n) : ∃ g cap, v = .slice (some ⟨g, 0, none⟩) n cap ∧ base ≤ g ∧ zak w t g cap n l := by
 obtain ⟨h1, h2⟩ := h
 rcases h2 with ⟨_, h⟩ | ⟨g, cap, cur, e, hb, hk, a, b, c, d⟩
 ·omega
 ·refine ⟨g, cap, e, hb, cur, hk, a, b, by omega, by rw [zar] at h1; omega, ?_⟩
  rw [Nat.mul_one] at d
  exact d
end
theorem zan.of_grown_own {w : World} {base n : Nat} {t : TypeId} {v : Value} {xs : List Value} (h : w.ownsRow base t 1 v n xs) : ∃ A c, v = .slice A n c ∧ n ≤ c ∧ c ≤ maxLen ∧ zan w w.heap.size 1 A n xs := by
 have h0 := h
 obtain ⟨h1, h2⟩ := h
 rcases h2 with ⟨e, hn⟩ | ⟨g, cap, cur, e, hb, hk, a, b, c, d⟩
 ·subst hn
  exact ⟨none, 0, e, Nat.le_refl _, by unfold maxLen; omega, by subst e; exact zan.of_own h0⟩
 ·exact ⟨_, _, e, a, b, by subst e; exact zan.of_own h0⟩
end Go.Proofs.YtgigccjiblaefaaDoor
