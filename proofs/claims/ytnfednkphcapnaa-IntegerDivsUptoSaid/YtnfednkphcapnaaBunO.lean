/-
  The contract of nat.Nat's Words with the row that it hands out: one of the call's own. Conditions: the value is a number; its length is up to 2 to the 40.
  A row of words that a call made itself, told by the words that stand in it: reading, storing, handing on. Conditions: none beyond each lemma's own.
-/
import Derived.Test.YtnfednkphcapnaaRows
import Derived.Test.YtnfednkphcapnaaBunE
import Derived.Test.YtnfednkphcapnaaBunN
import Derived.WalkKit
import Derived.Lib.Hide
import Derived.Outline
import Derived.Below
import Derived.Laws.OwnMore
import Derived.Laws.MakeOwn
namespace Go.Proofs.Ytnfednkphcapnaa
open Go Go.RowKit
set_option maxRecDepth 100000
set_option linter.unusedVariables false
/-- Words, in a row of the call's own. -/
theorem nat_words_own (x : Nat) (A : Option Addr) (n c : Nat) (w : World) (h : WordsIn w x A n c) (hn : n ≤ 1099511627776) :
    Calls Try.prog 68 #[.agg #[.slice A n c]] w (GivesOwn w n (vals .u64 (dg 18446744073709551616 x))) := by
  obtain ⟨hr, h1, h2⟩ := h
  have hlen := hr.len_
  have C : ∀ o, Calls Try.prog 64 #[.slice A n c] (w.alloc o) (GivesOwn w n (vals .u64 (dg 18446744073709551616 x))) := fun o => by
    have hro := ((hr.alloc (Nat.le_refl _) o).more (B' := (w.alloc o).heap.size) (by simp))
    rcases A with _ | ad
    · have hn0 : n = 0 := by
        rcases Nat.eq_zero_or_pos n with h | h
        · exact h
        · obtain ⟨ad, e, _⟩ := hr.2 h
          cases e
      subst hn0
      have hl : vals .u64 (dg 18446744073709551616 x) = [] := by rw [List.eq_nil_of_length_eq_zero hlen]; rfl
      rw [hl]
      exact (nat_clone_nil c _).mono fun e w' ⟨he, hw⟩ => ⟨_, he, World.ownsRow_nil _ _ _ _, by rw [← hw]; exact (Below.refl _ w).alloc (Nat.le_refl _) o⟩
    · refine (nat_clone_own ad n c _ (w.alloc o) hro hn).mono fun e w' ⟨v, he, ho, hb⟩ => ?_
      refine ⟨v, he, ⟨ho.1, ?_⟩, ((Below.refl _ w).alloc (Nat.le_refl _) o).trans (hb.mono (by simp))⟩
      rcases ho.2 with h | ⟨g, cap, cur, e1, e2, e3⟩
      · exact .inl h
      · exact .inr ⟨g, cap, cur, e1, Nat.le_trans (by simp) e2, e3⟩
  obtain ⟨L, hL⟩ : ∃ L, vals .u64 (dg 18446744073709551616 x) = L := ⟨_, rfl⟩
  rw [hL] at C ⊢
  have HC := Lib.hid C
  clear C hr hlen hL
  go_enter Try.func68, Try.ntmps68
  go_wp2_with fail
  refine (HC.out _).mono ?_
  intro e w1 hg
  have G := Lib.hid hg
  obtain ⟨v, rfl, _, _⟩ := hg
  go_wp2
  go_ret
  exact G.out
end Go.Proofs.Ytnfednkphcapnaa
namespace Go.Proofs.Ytnfednkphcapnaa
open Go Go.RowKit
set_option linter.unusedVariables false
/-- Block g is a row of cap cells, the first n of which hold the words L. -/
def Row64 (w : World) (t : TypeId) (g cap n : Nat) (L : List Nat) : Prop :=
  ∃ cur, Blk w g t cur ∧ n ≤ cap ∧ cap ≤ maxLen ∧ cur.size = cap ∧ L.length = n ∧ cur.toList.take n = vals .u64 L
section
variable {w w' : World} {t : TypeId} {g cap n : Nat} {L : List Nat}
theorem Row64.len (h : Row64 w t g cap n L) : L.length = n := by obtain ⟨_, _, _, _, _, h, _⟩ := h; exact h
theorem Row64.room (h : Row64 w t g cap n L) : n ≤ cap ∧ cap ≤ maxLen := by obtain ⟨_, _, h, h2, _⟩ := h; exact ⟨h, h2⟩
theorem Row64.lt (h : Row64 w t g cap n L) : g < w.heap.size := by obtain ⟨_, h, _⟩ := h; exact h.lt
theorem vals_getD (k : IntKind) (l : List Nat) (i : Nat) (h : i < l.length) : (vals k l)[i]? = some (.int k (l.getD i 0 : Nat)) := by
  simp [vals, List.getD, List.getElem?_eq_getElem h]
theorem Row64.cell (h : Row64 w t g cap n L) (k : Nat) (hk : k < n) : w.cell? ⟨g, k, none⟩ = some (.int .u64 (L.getD k 0 : Nat)) := by
  obtain ⟨cur, hb, h1, h2, h3, h4, h5⟩ := h
  rw [hb.cell k, ← Array.getElem?_toList, ← vals_getD .u64 L k (by omega), ← h5, List.getElem?_take, if_pos hk]
theorem Row64.frozen (h : Row64 w t g cap n L) (k : Nat) : w.frozen? ⟨g, k, none⟩ = false := by
  obtain ⟨cur, hb, _⟩ := h
  exact hb.frozen k
theorem Row64.set_ (h : Row64 w t g cap n L) (k d : Nat) (hk : k < n) : Row64 (w.setCell ⟨g, k, none⟩ (.int .u64 (d : Int))) t g cap n (L.set k d) := by
  obtain ⟨cur, hb, h1, h2, h3, h4, h5⟩ := h
  refine ⟨_, hb.set_ k _, h1, h2, by simpa using h3, by simpa using h4, ?_⟩
  rw [Array.toList_setIfInBounds, List.take_set, h5]
  unfold vals
  rw [List.map_set]
theorem Row64.below {B : Nat} (h : Row64 w t g cap n L) (hb : Below B w w') (hg : g < B) : Row64 w' t g cap n L := by
  obtain ⟨cur, h0, h1⟩ := h
  exact ⟨cur, h0.below hb hg, h1⟩
theorem Row64.keep (h : Row64 w t g cap n L) (hb : Below w.heap.size w w') : Row64 w' t g cap n L := h.below hb h.lt
theorem Row64.drew (h : Row64 w t g cap n L) : Row64 w.drew t g cap n L := h
theorem Row64.alloc (h : Row64 w t g cap n L) (o : Obj) : Row64 (w.alloc o) t g cap n L := by
  obtain ⟨cur, h0, h1⟩ := h
  exact ⟨cur, h0.alloc o, h1⟩
theorem Row64.far (h : Row64 w t g cap n L) {p : Addr} (hp : g ≠ p.block) (u : Value) : Row64 (w.setCell p u) t g cap n L := by
  obtain ⟨cur, h0, h1⟩ := h
  exact ⟨cur, h0.far hp u, h1⟩
theorem Row64.reads (h : Row64 w t g cap n L) : Reads w w.heap.size 1 (some ⟨g, 0, none⟩) n (vals .u64 L) := by
  have hl := h.lt
  have hc := h.cell
  have hn := h.len
  refine ⟨by rw [vals_length]; omega, fun _ => ⟨_, rfl, hl, fun j u hu => ?_⟩⟩
  have hj : j < L.length := by
    rcases Nat.lt_or_ge j L.length with hj | hj
    · exact hj
    · rw [List.getElem?_eq_none (by rw [vals_length]; exact hj)] at hu; cases hu
  have e : (⟨g, 0, none⟩ : Addr).add j = ⟨g, j, none⟩ := by unfold Addr.add; split <;> simp_all
  rw [e, hc j (by omega), ← vals_getD .u64 L j hj, hu]
theorem Row64.own (h : Row64 w t g cap n L) {base : Nat} (hb : base ≤ g) : w.ownsRow base t 1 (.slice (some ⟨g, 0, none⟩) n cap) n (vals .u64 L) := by
  obtain ⟨cur, h0, h1, h2, h3, h4, h5⟩ := h
  exact ⟨by rw [vals_length]; omega, .inr ⟨g, cap, cur, rfl, hb, h0, h1, h2, by omega, by rw [Nat.mul_one]; exact h5⟩⟩
theorem Row64.made (w : World) (t : TypeId) (N : Nat) (hN : N ≤ maxLen) : Row64 (w.alloc (.cells (madeCells (Value.cells (.int .u64 0)) N) t)) t w.heap.size N N (List.replicate N 0) := by
  refine ⟨_, Blk.new w t _, Nat.le_refl _, hN, size_madeCells _ _, by simp, ?_⟩
  show (madeCells #[Value.int .u64 0] N).toList.take N = _
  rw [toList_madeCells_one, List.take_of_length_le (by simp)]
  simp [vals]
theorem Row64.of_own {base : Nat} {v : Value} {l : List Nat} (h : w.ownsRow base t 1 v n (vals .u64 l)) (hn : 0 < n) : ∃ g cap, v = .slice (some ⟨g, 0, none⟩) n cap ∧ base ≤ g ∧ Row64 w t g cap n l := by
  obtain ⟨h1, h2⟩ := h
  rcases h2 with ⟨_, h⟩ | ⟨g, cap, cur, e, hb, hk, a, b, c, d⟩
  · omega
  · refine ⟨g, cap, e, hb, cur, hk, a, b, by omega, by rw [vals_length] at h1; omega, ?_⟩
    rw [Nat.mul_one] at d
    exact d
end
theorem Reads.of_grown_own {w : World} {base n : Nat} {t : TypeId} {v : Value} {xs : List Value} (h : w.ownsRow base t 1 v n xs) : ∃ A c, v = .slice A n c ∧ n ≤ c ∧ c ≤ maxLen ∧ Reads w w.heap.size 1 A n xs := by
  have h0 := h
  obtain ⟨h1, h2⟩ := h
  rcases h2 with ⟨e, hn⟩ | ⟨g, cap, cur, e, hb, hk, a, b, c, d⟩
  · subst hn
    exact ⟨none, 0, e, Nat.le_refl _, by unfold maxLen; omega, by subst e; exact Reads.of_own h0⟩
  · exact ⟨_, _, e, a, b, by subst e; exact Reads.of_own h0⟩
end Go.Proofs.Ytnfednkphcapnaa
