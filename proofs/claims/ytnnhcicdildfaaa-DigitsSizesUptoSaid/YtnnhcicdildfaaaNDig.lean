/-
  Plain arithmetic of words, the lowest first: adding up and taking away, word by word. Conditions: none beyond each lemma's own.
-/
import Derived.Test.YtnnhcicdildfaaaBunE
namespace Go.Proofs.Ytnnhcicdildfaaa
open Go Go.RowKit
/-! ### Adding up, word by word -/
structure AddB (x y k : Nat) (out : List Nat) (c : Nat) : Prop where
  len : out.length = k
  dgs : Dgs 18446744073709551616 out
  carry : c ≤ 1
  sum : x % 18446744073709551616 ^ k + y % 18446744073709551616 ^ k = dv 18446744073709551616 out + 18446744073709551616 ^ k * c
theorem AddB.start (x y : Nat) : AddB x y 0 [] 0 := ⟨rfl, by intro d hd; simp at hd, by omega, by simp [dv, Nat.mod_one]⟩
theorem AddB.step {x y k c s : Nat} {out : List Nat} (h : AddB x y k out c) (hs : s = wd x k + wd y k + c) : AddB x y (k + 1) (out ++ [s % 18446744073709551616]) (s / 18446744073709551616) := by
  have h1 := wd_lt x k
  have h2 := wd_lt y k
  have h3 := h.carry
  refine ⟨by simp [h.len], h.dgs.append (by intro d hd; simp at hd; subst hd; exact Nat.mod_lt _ (by decide)), by omega, ?_⟩
  have e := h.sum
  unfold wd at hs
  rw [mod_step_b 18446744073709551616 x k, mod_step_b 18446744073709551616 y k, dv_snoc, h.len, Nat.pow_succ, Nat.mul_assoc, Nat.add_assoc (dv 18446744073709551616 out), ← Nat.mul_add, Nat.mod_add_div, hs, Nat.mul_add, Nat.mul_add]
  omega
theorem AddB.done {x y k c : Nat} {out : List Nat} (h : AddB x y (k + 1) out c) (hx : (dg 18446744073709551616 x).length ≤ k) (hy : (dg 18446744073709551616 y).length ≤ k) : dv 18446744073709551616 out = x + y := by
  have e := h.sum
  have h1 : x < 18446744073709551616 ^ k := Nat.lt_of_lt_of_le (dg_lt (by decide) x) (Nat.pow_le_pow_right (by decide) hx)
  have h2 : y < 18446744073709551616 ^ k := Nat.lt_of_lt_of_le (dg_lt (by decide) y) (Nat.pow_le_pow_right (by decide) hy)
  rw [Nat.pow_succ] at e
  rw [Nat.mod_eq_of_lt (by omega), Nat.mod_eq_of_lt (by omega)] at e
  have h3 := h.carry
  have h4 : c = 0 ∨ c = 1 := by omega
  rcases h4 with rfl | rfl
  · omega
  · omega
theorem addLo_nat {a b c : Nat} (hc : c ≤ 1) : addLo (a : Int) (b : Int) (c : Int) = (((a + b + c) % 18446744073709551616 : Nat) : Int) := by unfold addLo; omega
theorem addHi_nat {a b c : Nat} (hc : c ≤ 1) : addHi (a : Int) (b : Int) (c : Int) = (((a + b + c) / 18446744073709551616 : Nat) : Int) := by unfold addHi; omega
/-! ### Taking away, word by word -/
structure SubB (x y k : Nat) (out : List Nat) (c : Nat) : Prop where
  len : out.length = k
  dgs : Dgs 18446744073709551616 out
  lack : c ≤ 1
  sum : dv 18446744073709551616 out + y % 18446744073709551616 ^ k = x % 18446744073709551616 ^ k + 18446744073709551616 ^ k * c
theorem SubB.start (x y : Nat) : SubB x y 0 [] 0 := ⟨rfl, by intro d hd; simp at hd, by omega, by simp [dv, Nat.mod_one]⟩
theorem SubB.step {x y k c d c' : Nat} {out : List Nat} (h : SubB x y k out c) (hd : d < 18446744073709551616) (hc : c' ≤ 1) (hs : d + wd y k + c = wd x k + 18446744073709551616 * c') : SubB x y (k + 1) (out ++ [d]) c' := by
  refine ⟨by simp [h.len], h.dgs.append (by intro e he; simp at he; subst he; exact hd), hc, ?_⟩
  have e := h.sum
  have e2 : 18446744073709551616 ^ k * d + 18446744073709551616 ^ k * (y / 18446744073709551616 ^ k % 18446744073709551616) + 18446744073709551616 ^ k * c = 18446744073709551616 ^ k * (x / 18446744073709551616 ^ k % 18446744073709551616) + 18446744073709551616 ^ k * (18446744073709551616 * c') := by
    unfold wd at hs
    rw [← Nat.mul_add, ← Nat.mul_add, hs, Nat.mul_add]
  rw [mod_step_b 18446744073709551616 x k, mod_step_b 18446744073709551616 y k, dv_snoc, h.len, Nat.pow_succ, Nat.mul_assoc (18446744073709551616 ^ k) 18446744073709551616 c']
  omega
theorem SubB.done {x y k c : Nat} {out : List Nat} (h : SubB x y k out c) (hyx : y ≤ x) (hx : (dg 18446744073709551616 x).length ≤ k) : dv 18446744073709551616 out = x - y := by
  have e := h.sum
  have h1 : x < 18446744073709551616 ^ k := Nat.lt_of_lt_of_le (dg_lt (by decide) x) (Nat.pow_le_pow_right (by decide) hx)
  have h3 := dv_lt h.dgs
  rw [h.len] at h3
  rw [Nat.mod_eq_of_lt h1, Nat.mod_eq_of_lt (Nat.lt_of_le_of_lt hyx h1)] at e
  have h4 := h.lack
  have : c = 0 ∨ c = 1 := by omega
  rcases this with rfl | rfl <;> omega
theorem sub_nat {a b c : Nat} (ha : a < 18446744073709551616) (hb : b < 18446744073709551616) (hc : c ≤ 1) :
    ∃ d c' : Nat, subLo (a : Int) (b : Int) (c : Int) = (d : Int) ∧ subHi (a : Int) (b : Int) (c : Int) = (c' : Int) ∧ d < 18446744073709551616 ∧ c' ≤ 1 ∧ d + b + c = a + 18446744073709551616 * c' := by
  refine ⟨((a : Int) - b - c).emod 18446744073709551616 |>.toNat, if a < b + c then 1 else 0, ?_, ?_, ?_, ?_, ?_⟩
  · unfold subLo; show ((a : Int) - b - (c : Int) % 2) % 18446744073709551616 = ((((a : Int) - b - c) % 18446744073709551616).toNat : Int); omega
  · unfold subHi; split <;> split <;> omega
  · show (((a : Int) - b - c) % 18446744073709551616).toNat < _; omega
  · split <;> omega
  · show (((a : Int) - b - c) % 18446744073709551616).toNat + b + c = _; split <;> omega
/-! ### Cells that are set one behind the other -/
theorem take_set (cs : Array Value) (k : Nat) (u : Value) (h : k < cs.size) : (cs.setIfInBounds k u).toList.take (k + 1) = cs.toList.take k ++ [u] := by
  rw [Array.toList_setIfInBounds, List.take_succ_eq_append_getElem (by simpa using h)]
  simp [List.take_set]
  exact List.set_eq_of_length_le (by simp; omega)
theorem vals_snoc (K : IntKind) (l : List Nat) (d : Nat) : vals K (l ++ [d]) = vals K l ++ [.int K (d : Int)] := by simp [vals]
theorem blk_reads {w : World} {g n : Nat} {t : TypeId} {cs : Array Value} {l : List Nat} (h : Blk w g t cs) (hn : cs.size = n) (hv : cs.toList.take n = vals .u64 l) (hl : l.length = n) : Reads w w.heap.size 1 (some ⟨g, 0, none⟩) n (vals .u64 l) := by
  refine ⟨by rw [vals_length]; omega, fun _ => ⟨_, rfl, h.lt, fun j u hu => ?_⟩⟩
  have e : (⟨g, 0, none⟩ : Addr).add j = ⟨g, j, none⟩ := by unfold Addr.add; split <;> simp_all
  rw [e, h.cell j, ← Array.getElem?_toList]
  rw [List.take_of_length_le (by simp; omega)] at hv
  rw [hv]; exact hu
theorem keep_blk {w w' : World} {g : Nat} {t : TypeId} {cs : Array Value} (hb : Below w.heap.size w w') (h : Blk w g t cs) : Blk w' g t cs := h.below hb h.lt
/-! ### Boxes that a call lays ahead of its text -/
theorem box1 (w : World) (t : TypeId) (a : Array Value) : Below w.heap.size w (w.alloc (.cells a t)) ∧ Blk (w.alloc (.cells a t)) w.heap.size t a ∧ w.heap.size + 1 ≤ (w.alloc (.cells a t)).heap.size :=
  ⟨(Below.refl _ w).alloc (Nat.le_refl _) _, Blk.new w t a, by simp⟩
theorem box2 (w : World) (t s : TypeId) (a b : Array Value) : Below w.heap.size w ((w.alloc (.cells a t)).alloc (.cells b s)) ∧ Blk ((w.alloc (.cells a t)).alloc (.cells b s)) w.heap.size t a ∧ Blk ((w.alloc (.cells a t)).alloc (.cells b s)) (w.heap.size + 1) s b ∧ w.heap.size + 2 ≤ ((w.alloc (.cells a t)).alloc (.cells b s)).heap.size := by
  obtain ⟨h1, h2, h3⟩ := box1 w t a
  have h4 := Blk.new (w.alloc (.cells a t)) s b
  have e : (w.alloc (.cells a t)).heap.size = w.heap.size + 1 := by simp
  rw [e] at h4
  exact ⟨h1.alloc h1.size _, h2.alloc _, h4, by simp⟩
theorem box3 (w : World) (t s r : TypeId) (a b c : Array Value) : Below w.heap.size w (((w.alloc (.cells a t)).alloc (.cells b s)).alloc (.cells c r)) ∧ Blk (((w.alloc (.cells a t)).alloc (.cells b s)).alloc (.cells c r)) w.heap.size t a ∧ Blk (((w.alloc (.cells a t)).alloc (.cells b s)).alloc (.cells c r)) (w.heap.size + 1) s b ∧ Blk (((w.alloc (.cells a t)).alloc (.cells b s)).alloc (.cells c r)) (w.heap.size + 1 + 1) r c ∧ w.heap.size + 3 ≤ (((w.alloc (.cells a t)).alloc (.cells b s)).alloc (.cells c r)).heap.size := by
  obtain ⟨h1, h2, h3, h4⟩ := box2 w t s a b
  have h5 := Blk.new ((w.alloc (.cells a t)).alloc (.cells b s)) r c
  have e : ((w.alloc (.cells a t)).alloc (.cells b s)).heap.size = w.heap.size + 2 := by simp
  rw [e] at h5
  exact ⟨h1.alloc h1.size _, h2.alloc _, h3.alloc _, h5, by simp⟩
theorem keep_cell_alloc {w1 : World} {p : Addr} {v : Value} (o : Obj) (h : w1.cell? p = some v) : (w1.alloc o).cell? p = some v := (World.cell?_alloc_lt w1 o p (World.block_lt_of_cell? w1 p h)).trans h
theorem keep_below_alloc {w w1 : World} (o : Obj) (h : Below w.heap.size w w1) : Below w.heap.size w (w1.alloc o) := h.alloc h.size o
theorem keep_cell_set {w1 : World} {p q : Addr} {v : Value} (u : Value) (hp : p.block ≠ q.block) (h : w1.cell? p = some v) : (w1.setCell q u).cell? p = some v := (World.cell?_setCell_other w1 q p u (fun e => hp (by first | rw [e] | rw [← e]))).trans h
theorem keep_below_set {w w1 : World} {p : Addr} (u : Value) (hp : w.heap.size ≤ p.block) (h : Below w.heap.size w w1) : Below w.heap.size w (w1.setCell p u) := h.setCell hp u
/-- What trim hands back of a row that is known whole, laid into a result cell. -/
theorem trim_done {w wr : World} {gs p x : Nat} {A1 : Option Addr} {c1 : Nat} (hB : Below w.heap.size w wr) (hp : w.heap.size ≤ p) (hg : p ≠ gs) (hr : Reads wr wr.heap.size 1 A1 (dg 18446744073709551616 x).length (vals .u64 (dg 18446744073709551616 x))) (h1 : (dg 18446744073709551616 x).length ≤ c1) (h2 : c1 ≤ 9223372036854775807)
    (hA : A1 = some ⟨gs, 0, none⟩ ∨ A1 = none) (hgs : w.heap.size ≤ gs) (u : Value) : Below w.heap.size w (wr.setCell ⟨p, 0, none⟩ u) ∧ WordsIn (wr.setCell ⟨p, 0, none⟩ u) x A1 (dg 18446744073709551616 x).length c1 ∧ Fresh w A1 :=
  ⟨hB.setCell hp u, words_set ⟨hr, h1, h2⟩ (fun ad e => by
    rcases hA with h | h
    · rw [h] at e
      injection e with e
      subst e
      exact fun e2 => hg e2.symm
    · rw [h] at e; cases e) u, fun ad e => by
    rcases hA with h | h
    · rw [h] at e; injection e with e; subst e; exact hgs
    · rw [h] at e; cases e⟩
theorem blk_set1 {w : World} {g : Nat} {t : TypeId} {a : Value} (h : Blk w g t #[a]) (u : Value) : Blk (w.setCell ⟨g, 0, none⟩ u) g t #[u] := h.set_ 0 u
theorem keep_below_drew {w w1 : World} (h : Below w.heap.size w w1) : Below w.heap.size w w1.drew := h.drew
theorem keep_cell_drew {w1 : World} {p : Addr} {v : Value} (h : w1.cell? p = some v) : w1.drew.cell? p = some v := h
/-- A variable's cell, in a block of its own. -/
def Blk1 (w : World) (g : Nat) (v : Value) : Prop := ∃ t, Blk w g t #[v]
theorem Blk.one {w : World} {g : Nat} {t : TypeId} {v : Value} (h : Blk w g t #[v]) : Blk1 w g v := ⟨t, h⟩
theorem Blk1.cell {w : World} {g : Nat} {v : Value} (h : Blk1 w g v) : w.cell? ⟨g, 0, none⟩ = some v := by obtain ⟨t, h⟩ := h; exact h.cell 0
theorem Blk1.frozen {w : World} {g : Nat} {v : Value} (h : Blk1 w g v) : w.frozen? ⟨g, 0, none⟩ = false := by obtain ⟨t, h⟩ := h; exact h.frozen 0
theorem Blk1.new (w : World) (t : TypeId) (v : Value) : Blk1 (w.alloc (.cells #[v] t)) w.heap.size v := ⟨t, Blk.new w t _⟩
theorem Blk1.two1 (w : World) (t s : TypeId) (v u : Value) : Blk1 ((w.alloc (.cells #[v] t)).alloc (.cells #[u] s)) w.heap.size v := ⟨t, (box2 w t s #[v] #[u]).2.1⟩
theorem Blk1.two2 (w : World) (t s : TypeId) (v u : Value) : Blk1 ((w.alloc (.cells #[v] t)).alloc (.cells #[u] s)) (w.heap.size + 1) u := ⟨s, (box2 w t s #[v] #[u]).2.2.1⟩
theorem Blk1.alloc {w : World} {g : Nat} {v : Value} (h : Blk1 w g v) (o : Obj) : Blk1 (w.alloc o) g v := by obtain ⟨t, h⟩ := h; exact ⟨t, h.alloc o⟩
theorem Blk1.drew {w : World} {g : Nat} {v : Value} (h : Blk1 w g v) : Blk1 w.drew g v := h
theorem Blk1.set_ {w : World} {g : Nat} {v : Value} (h : Blk1 w g v) (u : Value) : Blk1 (w.setCell ⟨g, 0, none⟩ u) g u := by obtain ⟨t, h⟩ := h; exact ⟨t, blk_set1 h u⟩
theorem Blk1.far {w : World} {g : Nat} {v : Value} (h : Blk1 w g v) {p : Addr} (hp : g ≠ p.block) (u : Value) : Blk1 (w.setCell p u) g v := by obtain ⟨t, h⟩ := h; exact ⟨t, h.far hp u⟩
theorem Blk1.keep {w w' : World} {g : Nat} {v : Value} (h : Blk1 w g v) (hb : Below w.heap.size w w') : Blk1 w' g v := by obtain ⟨t, h⟩ := h; exact ⟨t, keep_blk hb h⟩
theorem Blk1.lt {w : World} {g : Nat} {v : Value} (h : Blk1 w g v) : g < w.heap.size := by obtain ⟨t, h⟩ := h; exact h.lt
theorem two_set {w : World} {g1 g2 : Nat} {a b : Value} (h1 : Blk1 w g1 a) (h2 : Blk1 w g2 b) (hne : g1 ≠ g2) :
    (∀ u, (w.setCell ⟨g1, 0, none⟩ u).cell? ⟨g2, 0, none⟩ = some b) ∧ (∀ u, (w.setCell ⟨g1, 0, none⟩ u).frozen? ⟨g2, 0, none⟩ = false) ∧ (∀ u, (w.setCell ⟨g2, 0, none⟩ u).cell? ⟨g1, 0, none⟩ = some a) ∧ (∀ u, (w.setCell ⟨g2, 0, none⟩ u).frozen? ⟨g1, 0, none⟩ = false) :=
  ⟨fun u => (h2.far (p := ⟨g1, 0, none⟩) (by show g2 ≠ g1; omega) u).cell, fun u => (h2.far (p := ⟨g1, 0, none⟩) (by show g2 ≠ g1; omega) u).frozen, fun u => (h1.far (p := ⟨g2, 0, none⟩) (by show g1 ≠ g2; omega) u).cell, fun u => (h1.far (p := ⟨g2, 0, none⟩) (by show g1 ≠ g2; omega) u).frozen⟩
theorem alloc_size (w : World) (o : Obj) : (w.alloc o).heap.size = w.heap.size + 1 := by simp
theorem drew_size (w : World) : w.drew.heap.size = w.heap.size := rfl
theorem Blk1.newAt {w : World} {t : TypeId} {v : Value} {g : Nat} (h : g = w.heap.size) : Blk1 (w.alloc (.cells #[v] t)) g v := by subst h; exact Blk1.new w t v
theorem Blk.newAt {w : World} {t : TypeId} {cs : Array Value} {g : Nat} (h : g = w.heap.size) : Blk (w.alloc (.cells cs t)) g t cs := by subst h; exact Blk.new w t cs
end Go.Proofs.Ytnnhcicdildfaaa
