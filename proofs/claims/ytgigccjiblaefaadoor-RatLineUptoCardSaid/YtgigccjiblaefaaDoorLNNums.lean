/- What this claim leans on. -/
import Derived.Test.YtgigccjiblaefaaDoorLBunO
namespace Go.Proofs.YtgigccjiblaefaaDoor
open Go Go.RowKit
set_option linter.unusedVariables false
structure zif (w : World) (A : Option Addr) (n c : Nat) (xs : List Nat) : Prop where
 len : xs.length = n
 fits : n ≤ c
 most : c ≤ 9223372036854775807
 num : ∀ i, i < n → ∃ (ad : Addr) (B : Option Addr) (m d : Nat), A = some ad ∧ ad.block < w.heap.size ∧ w.cell? (ad.add i) = some (.slice B m d) ∧ zae w (xs.getD i 0) B m d
theorem zif.below {w w' : World} {A : Option Addr} {n c : Nat} {xs : List Nat} (h : zif w A n c xs) (hb : Below w.heap.size w w') : zif w' A n c xs :=
 ⟨h.len, h.fits, h.most, fun i hi => by
  obtain ⟨ad, B, m, d, e, h1, h2, h3⟩ := h.num i hi
  exact ⟨ad, B, m, d, e, Nat.lt_of_lt_of_le h1 hb.size, zaa hb h2, h3.below hb⟩⟩
theorem zcG {w : World} {A : Option Addr} {n c x : Nat} (h : zae w x A n c) {p : Addr} (hp : 0 < n → ∀ ad, A = some ad → ad.block ≠ p.block) (u : Value) : zae (w.setCell p u) x A n c := by
 by_cases hn : 0 < n
 ·exact zbE h (hp hn) u
 ·exact ⟨⟨h.1.1, fun h0 => absurd h0 hn⟩, h.2⟩
theorem zhj {w w' : World} {x : Nat} {B : Option Addr} {m d : Nat} (h : zae w x B m d) {row : Option Nat} (hg : w.grownBy w' row) (hr : 0 < m → ∀ ad, B = some ad → some ad.block ≠ row) : zae w' x B m d := by
 obtain ⟨hr0, h1, h2⟩ := h
 refine ⟨⟨hr0.1, fun hn => ?_⟩, h1, h2⟩
 obtain ⟨ad, e, hb, hc⟩ := hr0.2 hn
 refine ⟨ad, e, Nat.lt_of_lt_of_le hb hg.size, fun j u hu => ?_⟩
 exact (World.cell?_of_block (hg.block _ (by rw [zaO]; exact hb) (by rw [zaO]; exact hr hn ad e))).trans (hc j u hu)
theorem zgr {w : World} {A : Option Addr} {n c x g : Nat} {t : TypeId} {a : Option Addr} {b d : Nat} (h : zae w x A n c) (hk : Blk w g t #[.slice a b d]) : 0 < n → ∀ ad, A = some ad → ad.block ≠ g := fun hn ad e hg => by
 obtain ⟨ad', e', _, hc⟩ := h.1.2 hn
 rw [e] at e'
 injection e' with e'
 subst e'
 have hl := h.len
 have h0 := hc 0 (.int .u64 ((dg 18446744073709551616 x).getD 0 0 : Nat)) (zbP .u64 _ 0 (by omega))
 have e0 : ad.add 0 = ad := by unfold Addr.add; rw [if_pos rfl]
 rw [e0] at h0
 obtain ⟨bk, off, pr⟩ := ad
 simp only at hg
 subst hg
 unfold Blk at hk
 cases pr with
 | none =>
   rw [show w.cell? ⟨bk, off, none⟩ = #[Value.slice a b d][off]? from cell_of_row w bk off _ t (0, 0) hk] at h0
   match off, h0 with
   | 0, h0 => simp at h0
   | o + 1, h0 => simp at h0
 | some q => simp [World.cell?, hk] at h0
theorem zaL {w : World} {A : Option Addr} {n c x g : Nat} {t : TypeId} {a : Option Addr} {b d : Nat} (h : zae w x A n c) (hk : Blk w g t #[.slice a b d]) (u : Value) : zae (w.setCell ⟨g, 0, none⟩ u) x A n c :=
 zcG h (zgr h hk) u
theorem zak {w : World} {A : Option Addr} {n c x g : Nat} {a : Option Addr} {b d : Nat} (h : zae w x A n c) (hk : zbk w g (.slice a b d)) (u : Value) : zae (w.setCell ⟨g, 0, none⟩ u) x A n c := by
 obtain ⟨t, hk⟩ := hk
 exact zaL h hk u
def Apart (base : Nat) (v : Value) (B : Option Addr) (m : Nat) : Prop := 0 < m → ∀ ad, B = some ad → base ≤ ad.block ∧ v.ownBlock ≠ some ad.block
structure zbV (w : World) (base : Nat) (v : Value) (xs : List Nat) (vs : List Value) : Prop where
 own : w.ownsRow base 29 1 v xs.length vs
 num : ∀ i, i < xs.length → ∃ (B : Option Addr) (m d : Nat), vs[i]? = some (.slice B m d) ∧ zae w (xs.getD i 0) B m d ∧ Apart base v B m
theorem zbV.nil (w : World) (base : Nat) : zbV w base (.slice none 0 0) [] [] := ⟨World.ownsRow_nil _ _ _ _, fun i hi => by simp at hi⟩
theorem zbV.len {w : World} {base : Nat} {v : Value} {xs : List Nat} {vs : List Value} (h : zbV w base v xs vs) : vs.length = xs.length := by have := h.own.1; omega
theorem zbV.below {w w' : World} {base : Nat} {v : Value} {xs : List Nat} {vs : List Value} (h : zbV w base v xs vs) (hb : Below w.heap.size w w') : zbV w' base v xs vs := by
 refine ⟨⟨h.own.1, ?_⟩, fun i hi => ?_⟩
 ·rcases h.own.2 with h1 | ⟨g, cap, cur, e1, e2, e3, e4⟩
  ·exact .inl h1
  ·exact .inr ⟨g, cap, cur, e1, e2, (hb.block g (Blk.lt (t := 29) (cs := cur) e3)).trans e3, e4⟩
 ·obtain ⟨B, m, d, hv, hw, hf⟩ := h.num i hi
  exact ⟨B, m, d, hv, hw.below hb, hf⟩
theorem zbV.set_ {w : World} {base : Nat} {v : Value} {xs : List Nat} {vs : List Value} (h : zbV w base v xs vs) {p : Addr} (hp : p.block < base) (u : Value) : zbV (w.setCell p u) base v xs vs := by
 refine ⟨⟨h.own.1, ?_⟩, fun i hi => ?_⟩
 ·rcases h.own.2 with h1 | ⟨g, cap, cur, e1, e2, e3, e4⟩
  ·exact .inl h1
  ·exact .inr ⟨g, cap, cur, e1, e2, Blk.far (t := 29) (cs := cur) e3 (by omega) u, e4⟩
 ·obtain ⟨B, m, d, hv, hw, hf⟩ := h.num i hi
  exact ⟨B, m, d, hv, zcG hw (fun hm ad e => by have := (hf hm ad e).1; omega) u, hf⟩
end Go.Proofs.YtgigccjiblaefaaDoor
