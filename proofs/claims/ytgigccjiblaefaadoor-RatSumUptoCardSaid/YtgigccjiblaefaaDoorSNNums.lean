/- What this claim leans on. -/
import Derived.Test.YtgigccjiblaefaaDoorSBunO
namespace Go.Proofs.YtgigccjiblaefaaDoor
open Go Go.RowKit
set_option linter.unusedVariables false
structure zgk (w : World) (A : Option Addr) (n c : Nat) (xs : List Nat) : Prop where
 len : xs.length = n
 fits : n ≤ c
 most : c ≤ 9223372036854775807
 num : ∀ i, i < n → ∃ (ad : Addr) (B : Option Addr) (m d : Nat), A = some ad ∧ ad.block < w.heap.size ∧ w.cell? (ad.add i) = some (.slice B m d) ∧ zae w (xs.getD i 0) B m d
theorem zgk.below {w w' : World} {A : Option Addr} {n c : Nat} {xs : List Nat} (h : zgk w A n c xs) (hb : Below w.heap.size w w') : zgk w' A n c xs :=
 ⟨h.len, h.fits, h.most, fun i hi => by
  obtain ⟨ad, B, m, d, e, h1, h2, h3⟩ := h.num i hi
  exact ⟨ad, B, m, d, e, Nat.lt_of_lt_of_le h1 hb.size, zaa hb h2, h3.below hb⟩⟩
theorem zcF {w : World} {A : Option Addr} {n c x : Nat} (h : zae w x A n c) {p : Addr} (hp : 0 < n → ∀ ad, A = some ad → ad.block ≠ p.block) (u : Value) : zae (w.setCell p u) x A n c := by
 by_cases hn : 0 < n
 ·exact zbw h (hp hn) u
 ·exact ⟨⟨h.1.1, fun h0 => absurd h0 hn⟩, h.2⟩
theorem zcX {w w' : World} {x : Nat} {B : Option Addr} {m d : Nat} (h : zae w x B m d) {row : Option Nat} (hg : w.grownBy w' row) (hr : 0 < m → ∀ ad, B = some ad → some ad.block ≠ row) : zae w' x B m d := by
 obtain ⟨hr0, h1, h2⟩ := h
 refine ⟨⟨hr0.1, fun hn => ?_⟩, h1, h2⟩
 obtain ⟨ad, e, hb, hc⟩ := hr0.2 hn
 refine ⟨ad, e, Nat.lt_of_lt_of_le hb hg.size, fun j u hu => ?_⟩
 exact (World.cell?_of_block (hg.block _ (by rw [zaA]; exact hb) (by rw [zaA]; exact hr hn ad e))).trans (hc j u hu)
theorem zgq {w : World} {A : Option Addr} {n c x g : Nat} {t : TypeId} {a : Option Addr} {b d : Nat} (h : zae w x A n c) (hk : Blk w g t #[.slice a b d]) : 0 < n → ∀ ad, A = some ad → ad.block ≠ g := fun hn ad e hg => by
 obtain ⟨ad', e', _, hc⟩ := h.1.2 hn
 rw [e] at e'
 injection e' with e'
 subst e'
 have hl := h.len
 have h0 := hc 0 (.int .u64 ((dg 18446744073709551616 x).getD 0 0 : Nat)) (zby .u64 _ 0 (by omega))
 have e0 : ad.add 0 = ad := by unfold Addr.add; rw [if_pos rfl]
 rw [e0] at h0
 obtain ⟨bk, off, pr⟩ := ad
 simp only at hg
 subst hg
 unfold Blk at hk
 cases pr with
 | none =>
   rw [show w.cell? ⟨bk, off, none⟩ = #[Value.slice a b d][off]? from cell_of_row w bk off _ t (0, 0) hk] at h0
   match off, h0 with
   | 0, h0 => simp at h0
   | o + 1, h0 => simp at h0
 | some q => simp [World.cell?, hk] at h0
theorem zaH {w : World} {A : Option Addr} {n c x g : Nat} {t : TypeId} {a : Option Addr} {b d : Nat} (h : zae w x A n c) (hk : Blk w g t #[.slice a b d]) (u : Value) : zae (w.setCell ⟨g, 0, none⟩ u) x A n c :=
 zcF h (zgq h hk) u
theorem zaj {w : World} {A : Option Addr} {n c x g : Nat} {a : Option Addr} {b d : Nat} (h : zae w x A n c) (hk : zaY w g (.slice a b d)) (u : Value) : zae (w.setCell ⟨g, 0, none⟩ u) x A n c := by
 obtain ⟨t, hk⟩ := hk
 exact zaH h hk u
def zhg (base : Nat) (v : Value) (B : Option Addr) (m : Nat) : Prop := 0 < m → ∀ ad, B = some ad → base ≤ ad.block ∧ v.ownBlock ≠ some ad.block
theorem zhg.grow {w w' : World} {base x m d : Nat} {v v' : Value} {B : Option Addr} (h : zhg base v B m) (hx : zae w x B m d) (hg : w.grownBy w' v.ownBlock) (ha : v'.ownBlock = v.ownBlock ∨ v'.ownBlock = some w.heap.size) : zae w' x B m d ∧ zhg base v' B m := by
 refine ⟨zcX hx hg (fun hm ad e => (h hm ad e).2.symm), fun hm ad e => ⟨(h hm ad e).1, ?_⟩⟩
 rcases ha with ha | ha
 ·rw [ha]; exact (h hm ad e).2
 ·rw [ha]
  obtain ⟨ad', e', hlt, _⟩ := hx.1.2 hm
  rw [e] at e'
  injection e' with e'
  subst e'
  intro hh
  injection hh with hh
  omega
structure zbc (w : World) (base : Nat) (v : Value) (xs : List Nat) (vs : List Value) : Prop where
 own : w.ownsRow base 29 1 v xs.length vs
 num : ∀ i, i < xs.length → ∃ (B : Option Addr) (m d : Nat), vs[i]? = some (.slice B m d) ∧ zae w (xs.getD i 0) B m d ∧ zhg base v B m
theorem zbc.nil (w : World) (base : Nat) : zbc w base (.slice none 0 0) [] [] := ⟨World.ownsRow_nil _ _ _ _, fun i hi => by simp at hi⟩
theorem zbc.len {w : World} {base : Nat} {v : Value} {xs : List Nat} {vs : List Value} (h : zbc w base v xs vs) : vs.length = xs.length := by have := h.own.1; omega
theorem zbc.shape {w : World} {base : Nat} {v : Value} {xs : List Nat} {vs : List Value} (h : zbc w base v xs vs) : ∃ A c, v = .slice A xs.length c ∧ zgk w A xs.length c xs := by
 obtain ⟨A, c, e, h1, h2, h3⟩ := zan.of_grown_own h.own
 refine ⟨A, c, e, rfl, h1, by unfold maxLen at h2; omega, fun i hi => ?_⟩
 obtain ⟨B, m, d, hv, hw, _⟩ := h.num i hi
 obtain ⟨ad, ea, hb, hc⟩ := h3.2 (by omega)
 exact ⟨ad, B, m, d, ea, hb, hc i _ hv, hw⟩
theorem zbc.below {w w' : World} {base : Nat} {v : Value} {xs : List Nat} {vs : List Value} (h : zbc w base v xs vs) (hb : Below w.heap.size w w') : zbc w' base v xs vs := by
 refine ⟨⟨h.own.1, ?_⟩, fun i hi => ?_⟩
 ·rcases h.own.2 with h1 | ⟨g, cap, cur, e1, e2, e3, e4⟩
  ·exact .inl h1
  ·exact .inr ⟨g, cap, cur, e1, e2, (hb.block g (Blk.lt (t := 29) (cs := cur) e3)).trans e3, e4⟩
 ·obtain ⟨B, m, d, hv, hw, hf⟩ := h.num i hi
  exact ⟨B, m, d, hv, hw.below hb, hf⟩
theorem zbc.set_ {w : World} {base : Nat} {v : Value} {xs : List Nat} {vs : List Value} (h : zbc w base v xs vs) {p : Addr} (hp : p.block < base) (u : Value) : zbc (w.setCell p u) base v xs vs := by
 refine ⟨⟨h.own.1, ?_⟩, fun i hi => ?_⟩
 ·rcases h.own.2 with h1 | ⟨g, cap, cur, e1, e2, e3, e4⟩
  ·exact .inl h1
  ·exact .inr ⟨g, cap, cur, e1, e2, Blk.far (t := 29) (cs := cur) e3 (by omega) u, e4⟩
 ·obtain ⟨B, m, d, hv, hw, hf⟩ := h.num i hi
  exact ⟨B, m, d, hv, zcF hw (fun hm ad e => by have := (hf hm ad e).1; omega) u, hf⟩
theorem zbc.grow {w w' : World} {base n : Nat} {v v' : Value} {xs : List Nat} {vs : List Value} {x : Nat} {B : Option Addr} {m d : Nat} (h : zbc w base v xs vs) (hx : zae w x B m d) (hB : zhg base v B m)
  (ho : w'.ownsRow base 29 1 v' n (vs ++ [.slice B m d])) (hn : n = xs.length + 1) (hg : w.grownBy w' v.ownBlock) (ha : v'.ownBlock = v.ownBlock ∨ v'.ownBlock = some w.heap.size) : zbc w' base v' (xs ++ [x]) (vs ++ [.slice B m d]) := by
 have hl := h.len
 refine ⟨by rw [List.length_append, List.length_singleton, ← hn]; exact ho, fun i hi => ?_⟩
 rw [List.length_append, List.length_singleton] at hi
 by_cases hlt : i < xs.length
 ·obtain ⟨C, k, e, hv, hw, hf⟩ := h.num i hlt
  obtain ⟨h1, h2⟩ := hf.grow hw hg ha
  refine ⟨C, k, e, by rw [List.getElem?_append_left (by omega)]; exact hv, ?_, h2⟩
  rw [List.getD_eq_getElem?_getD, List.getElem?_append_left hlt, ← List.getD_eq_getElem?_getD]
  exact h1
 ·have hi2 : i = xs.length := by omega
  subst hi2
  obtain ⟨h1, h2⟩ := hB.grow hx hg ha
  refine ⟨B, m, d, by rw [List.getElem?_append_right (by omega), hl]; simp, ?_, h2⟩
  rw [List.getD_eq_getElem?_getD, List.getElem?_append_right (Nat.le_refl _)]
  simpa using h1
end Go.Proofs.YtgigccjiblaefaaDoor
