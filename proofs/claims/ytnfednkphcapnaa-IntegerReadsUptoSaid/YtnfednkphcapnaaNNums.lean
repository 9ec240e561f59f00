/-
  A slice of numbers: what it holds, and what becomes of it. Conditions: none beyond each lemma's own.
-/
import Derived.Test.YtnfednkphcapnaaRows
import Derived.Test.YtnfednkphcapnaaBunN
import Derived.Test.YtnfednkphcapnaaBunO
import Derived.Below
namespace Go.Proofs.Ytnfednkphcapnaa
open Go Go.RowKit
set_option linter.unusedVariables false
/-- A slice of numbers: place i holds the number xs i. -/
structure NumsIn (w : World) (A : Option Addr) (n c : Nat) (xs : List Nat) : Prop where
  len : xs.length = n
  fits : n ≤ c
  most : c ≤ 9223372036854775807
  num : ∀ i, i < n → ∃ (ad : Addr) (B : Option Addr) (m d : Nat), A = some ad ∧ ad.block < w.heap.size ∧ w.cell? (ad.add i) = some (.slice B m d) ∧ WordsIn w (xs.getD i 0) B m d
theorem NumsIn.below {w w' : World} {A : Option Addr} {n c : Nat} {xs : List Nat} (h : NumsIn w A n c xs) (hb : Below w.heap.size w w') : NumsIn w' A n c xs :=
  ⟨h.len, h.fits, h.most, fun i hi => by
    obtain ⟨ad, B, m, d, e, h1, h2, h3⟩ := h.num i hi
    exact ⟨ad, B, m, d, e, Nat.lt_of_lt_of_le h1 hb.size, keep_cell hb h2, h3.below hb⟩⟩
theorem NumsIn.none_ (w : World) : NumsIn w none 0 0 [] := ⟨rfl, Nat.le_refl _, by omega, fun i hi => by omega⟩
theorem words_set0 {w : World} {A : Option Addr} {n c x : Nat} (h : WordsIn w x A n c) {p : Addr} (hp : 0 < n → ∀ ad, A = some ad → ad.block ≠ p.block) (u : Value) : WordsIn (w.setCell p u) x A n c := by
  by_cases hn : 0 < n
  · exact words_set h (hp hn) u
  · exact ⟨⟨h.1.1, fun h0 => absurd h0 hn⟩, h.2⟩
/-- What lies elsewhere stays, when a row of the call's own grows. -/
theorem words_grown {w w' : World} {x : Nat} {B : Option Addr} {m d : Nat} (h : WordsIn w x B m d) {row : Option Nat} (hg : w.grownBy w' row) (hr : 0 < m → ∀ ad, B = some ad → some ad.block ≠ row) : WordsIn w' x B m d := by
  obtain ⟨hr0, h1, h2⟩ := h
  refine ⟨⟨hr0.1, fun hn => ?_⟩, h1, h2⟩
  obtain ⟨ad, e, hb, hc⟩ := hr0.2 hn
  refine ⟨ad, e, Nat.lt_of_lt_of_le hb hg.size, fun j u hu => ?_⟩
  exact (World.cell?_of_block (hg.block _ (by rw [block_of_add]; exact hb) (by rw [block_of_add]; exact hr hn ad e))).trans (hc j u hu)
/-- A number's words do not lie in the cell of a variable. -/
theorem words_ne_blk {w : World} {A : Option Addr} {n c x g : Nat} {t : TypeId} {a : Option Addr} {b d : Nat} (h : WordsIn w x A n c) (hk : Blk w g t #[.slice a b d]) : 0 < n → ∀ ad, A = some ad → ad.block ≠ g := fun hn ad e hg => by
  obtain ⟨ad', e', _, hc⟩ := h.1.2 hn
  rw [e] at e'
  injection e' with e'
  subst e'
  have hl := h.len
  have h0 := hc 0 (.int .u64 ((dg 18446744073709551616 x).getD 0 0 : Nat)) (vals_getD .u64 _ 0 (by omega))
  have e0 : ad.add 0 = ad := by unfold Addr.add; rw [if_pos rfl]
  rw [e0] at h0
  obtain ⟨bk, off, pr⟩ := ad
  simp only at hg
  subst hg
  unfold Blk at hk
  cases pr with
  | none =>
    rw [show w.cell? ⟨bk, off, none⟩ = #[Value.slice a b d][off]? from cell_of_row w bk off _ t (0, 0) hk] at h0
    match off, h0 with
    | 0, h0 => simp at h0
    | o + 1, h0 => simp at h0
  | some q => simp [World.cell?, hk] at h0
theorem words_set_blk {w : World} {A : Option Addr} {n c x g : Nat} {t : TypeId} {a : Option Addr} {b d : Nat} (h : WordsIn w x A n c) (hk : Blk w g t #[.slice a b d]) (u : Value) : WordsIn (w.setCell ⟨g, 0, none⟩ u) x A n c :=
  words_set0 h (words_ne_blk h hk) u
theorem words_set_blk1 {w : World} {A : Option Addr} {n c x g : Nat} {a : Option Addr} {b d : Nat} (h : WordsIn w x A n c) (hk : Blk1 w g (.slice a b d)) (u : Value) : WordsIn (w.setCell ⟨g, 0, none⟩ u) x A n c := by
  obtain ⟨t, hk⟩ := hk
  exact words_set_blk h hk u
/-- A number that lies apart from a row of the call's own, whose blocks begin at base. -/
def Apart (base : Nat) (v : Value) (B : Option Addr) (m : Nat) : Prop := 0 < m → ∀ ad, B = some ad → base ≤ ad.block ∧ v.ownBlock ≠ some ad.block
theorem Apart.grow {w w' : World} {base x m d : Nat} {v v' : Value} {B : Option Addr} (h : Apart base v B m) (hx : WordsIn w x B m d) (hg : w.grownBy w' v.ownBlock) (ha : v'.ownBlock = v.ownBlock ∨ v'.ownBlock = some w.heap.size) : WordsIn w' x B m d ∧ Apart base v' B m := by
  refine ⟨words_grown hx hg (fun hm ad e => (h hm ad e).2.symm), fun hm ad e => ⟨(h hm ad e).1, ?_⟩⟩
  rcases ha with ha | ha
  · rw [ha]; exact (h hm ad e).2
  · rw [ha]
    obtain ⟨ad', e', hlt, _⟩ := hx.1.2 hm
    rw [e] at e'
    injection e' with e'
    subst e'
    intro hh
    injection hh with hh
    omega
theorem Apart.fresh {w : World} {base : Nat} {v : Value} {B : Option Addr} {m n : Nat} {e : TypeId} {vs : List Value} (hf : Fresh w B) (hv : w.ownsRow base e 1 v n vs) (hb : base ≤ w.heap.size) : Apart base v B m := fun _ ad e => by
  have h1 := hf ad e
  refine ⟨by omega, fun hh => ?_⟩
  have := (hv.lt _ hh).2
  omega
/-- A row of numbers of the call's own. -/
structure OwnNums (w : World) (base : Nat) (v : Value) (xs : List Nat) (vs : List Value) : Prop where
  own : w.ownsRow base 27 1 v xs.length vs
  num : ∀ i, i < xs.length → ∃ (B : Option Addr) (m d : Nat), vs[i]? = some (.slice B m d) ∧ WordsIn w (xs.getD i 0) B m d ∧ Apart base v B m
theorem OwnNums.nil (w : World) (base : Nat) : OwnNums w base (.slice none 0 0) [] [] := ⟨World.ownsRow_nil _ _ _ _, fun i hi => by simp at hi⟩
theorem OwnNums.len {w : World} {base : Nat} {v : Value} {xs : List Nat} {vs : List Value} (h : OwnNums w base v xs vs) : vs.length = xs.length := by have := h.own.1; omega
theorem OwnNums.shape {w : World} {base : Nat} {v : Value} {xs : List Nat} {vs : List Value} (h : OwnNums w base v xs vs) : ∃ A c, v = .slice A xs.length c ∧ NumsIn w A xs.length c xs := by
  obtain ⟨A, c, e, h1, h2, h3⟩ := Reads.of_grown_own h.own
  refine ⟨A, c, e, rfl, h1, by unfold maxLen at h2; omega, fun i hi => ?_⟩
  obtain ⟨B, m, d, hv, hw, _⟩ := h.num i hi
  obtain ⟨ad, ea, hb, hc⟩ := h3.2 (by omega)
  exact ⟨ad, B, m, d, ea, hb, hc i _ hv, hw⟩
theorem OwnNums.below {w w' : World} {base : Nat} {v : Value} {xs : List Nat} {vs : List Value} (h : OwnNums w base v xs vs) (hb : Below w.heap.size w w') : OwnNums w' base v xs vs := by
  refine ⟨⟨h.own.1, ?_⟩, fun i hi => ?_⟩
  · rcases h.own.2 with h1 | ⟨g, cap, cur, e1, e2, e3, e4⟩
    · exact .inl h1
    · exact .inr ⟨g, cap, cur, e1, e2, (hb.block g (Blk.lt (t := 27) (cs := cur) e3)).trans e3, e4⟩
  · obtain ⟨B, m, d, hv, hw, hf⟩ := h.num i hi
    exact ⟨B, m, d, hv, hw.below hb, hf⟩
theorem OwnNums.set_ {w : World} {base : Nat} {v : Value} {xs : List Nat} {vs : List Value} (h : OwnNums w base v xs vs) {p : Addr} (hp : p.block < base) (u : Value) : OwnNums (w.setCell p u) base v xs vs := by
  refine ⟨⟨h.own.1, ?_⟩, fun i hi => ?_⟩
  · rcases h.own.2 with h1 | ⟨g, cap, cur, e1, e2, e3, e4⟩
    · exact .inl h1
    · exact .inr ⟨g, cap, cur, e1, e2, Blk.far (t := 27) (cs := cur) e3 (by omega) u, e4⟩
  · obtain ⟨B, m, d, hv, hw, hf⟩ := h.num i hi
    exact ⟨B, m, d, hv, words_set0 hw (fun hm ad e => by have := (hf hm ad e).1; omega) u, hf⟩
/-- The row, with one number more behind it. -/
theorem OwnNums.grow {w w' : World} {base n : Nat} {v v' : Value} {xs : List Nat} {vs : List Value} {x : Nat} {B : Option Addr} {m d : Nat} (h : OwnNums w base v xs vs) (hx : WordsIn w x B m d) (hB : Apart base v B m)
    (ho : w'.ownsRow base 27 1 v' n (vs ++ [.slice B m d])) (hn : n = xs.length + 1) (hg : w.grownBy w' v.ownBlock) (ha : v'.ownBlock = v.ownBlock ∨ v'.ownBlock = some w.heap.size) : OwnNums w' base v' (xs ++ [x]) (vs ++ [.slice B m d]) := by
  have hl := h.len
  refine ⟨by rw [List.length_append, List.length_singleton, ← hn]; exact ho, fun i hi => ?_⟩
  rw [List.length_append, List.length_singleton] at hi
  by_cases hlt : i < xs.length
  · obtain ⟨C, k, e, hv, hw, hf⟩ := h.num i hlt
    obtain ⟨h1, h2⟩ := hf.grow hw hg ha
    refine ⟨C, k, e, by rw [List.getElem?_append_left (by omega)]; exact hv, ?_, h2⟩
    rw [List.getD_eq_getElem?_getD, List.getElem?_append_left hlt, ← List.getD_eq_getElem?_getD]
    exact h1
  · have hi2 : i = xs.length := by omega
    subst hi2
    obtain ⟨h1, h2⟩ := hB.grow hx hg ha
    refine ⟨B, m, d, by rw [List.getElem?_append_right (by omega), hl]; simp, ?_, h2⟩
    rw [List.getD_eq_getElem?_getD, List.getElem?_append_right (Nat.le_refl _)]
    simpa using h1
end Go.Proofs.Ytnfednkphcapnaa
