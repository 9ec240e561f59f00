/-
  Plain arithmetic of words, the lowest first: adding up and taking away, word by word. Conditions: none beyond each lemma's own.
  What makes a number and tells whether there is one; small facts. Conditions: none beyond each lemma's own.
  Plain arithmetic of a number's bits, the lowest first. Conditions: none beyond each lemma's own.
  The contract of nat.Nat's Bits: how many bits a number has. Conditions: the value is a number; its length is up to 2 to the 40.
  Plain arithmetic of shifts, word by word. Conditions: none beyond each lemma's own.
  The contract of the law's Is (actuarylaw02): has a number these words? Conditions: the value is a number; the words read; lengths up to 2 to the 40.
  Numbers and words that are written out; small steps of a walk. Conditions: none beyond each lemma's own.
  What the laws on numbers share: a number out of the words that came in; how long numbers are. Conditions: none beyond each lemma's own.
  The contracts of nat's Zero, Cmp, Sub and others where the answer is known. Conditions: as each says.
-/
import Derived.Test.YtnfednkphcapnaaRows
import Derived.Test.YtnfednkphcapnaaBunE
import Derived.Test.YtnfednkphcapnaaBunW
import Derived.Test.YtnfednkphcapnaaBunZ
import Derived.Test.YtnfednkphcapnaaBunC
import Derived.WalkKit
import Derived.Lib.Hide
import Derived.Outline
import Derived.Laws.Bits64b
import Derived.Deep.QuietTactic
import Derived.BigQuiet
import Derived.LoopTactic
import Derived.Deep.LoopGhost
import Derived.Deep.DeepCutAuto
import Derived.Deep.CutBlock
import Derived.Deep.RegionHeld3
namespace Go.Proofs.Ytnfednkphcapnaa
open Go Go.RowKit
/-! ### Adding up, word by word -/
structure AddB (x y k : Nat) (out : List Nat) (c : Nat) : Prop where
  len : out.length = k
  dgs : Dgs 18446744073709551616 out
  carry : c ≤ 1
  sum : x % 18446744073709551616 ^ k + y % 18446744073709551616 ^ k = dv 18446744073709551616 out + 18446744073709551616 ^ k * c
theorem AddB.start (x y : Nat) : AddB x y 0 [] 0 := ⟨rfl, by intro d hd; simp at hd, by omega, by simp [dv, Nat.mod_one]⟩
theorem AddB.step {x y k c s : Nat} {out : List Nat} (h : AddB x y k out c) (hs : s = wd x k + wd y k + c) : AddB x y (k + 1) (out ++ [s % 18446744073709551616]) (s / 18446744073709551616) := by
  have h1 := wd_lt x k
  have h2 := wd_lt y k
  have h3 := h.carry
  refine ⟨by simp [h.len], h.dgs.append (by intro d hd; simp at hd; subst hd; exact Nat.mod_lt _ (by decide)), by omega, ?_⟩
  have e := h.sum
  unfold wd at hs
  rw [mod_step_b 18446744073709551616 x k, mod_step_b 18446744073709551616 y k, dv_snoc, h.len, Nat.pow_succ, Nat.mul_assoc, Nat.add_assoc (dv 18446744073709551616 out), ← Nat.mul_add, Nat.mod_add_div, hs, Nat.mul_add, Nat.mul_add]
  omega
theorem AddB.done {x y k c : Nat} {out : List Nat} (h : AddB x y (k + 1) out c) (hx : (dg 18446744073709551616 x).length ≤ k) (hy : (dg 18446744073709551616 y).length ≤ k) : dv 18446744073709551616 out = x + y := by
  have e := h.sum
  have h1 : x < 18446744073709551616 ^ k := Nat.lt_of_lt_of_le (dg_lt (by decide) x) (Nat.pow_le_pow_right (by decide) hx)
  have h2 : y < 18446744073709551616 ^ k := Nat.lt_of_lt_of_le (dg_lt (by decide) y) (Nat.pow_le_pow_right (by decide) hy)
  rw [Nat.pow_succ] at e
  rw [Nat.mod_eq_of_lt (by omega), Nat.mod_eq_of_lt (by omega)] at e
  have h3 := h.carry
  have h4 : c = 0 ∨ c = 1 := by omega
  rcases h4 with rfl | rfl
  · omega
  · omega
theorem addLo_nat {a b c : Nat} (hc : c ≤ 1) : addLo (a : Int) (b : Int) (c : Int) = (((a + b + c) % 18446744073709551616 : Nat) : Int) := by unfold addLo; omega
theorem addHi_nat {a b c : Nat} (hc : c ≤ 1) : addHi (a : Int) (b : Int) (c : Int) = (((a + b + c) / 18446744073709551616 : Nat) : Int) := by unfold addHi; omega
/-! ### Taking away, word by word -/
structure SubB (x y k : Nat) (out : List Nat) (c : Nat) : Prop where
  len : out.length = k
  dgs : Dgs 18446744073709551616 out
  lack : c ≤ 1
  sum : dv 18446744073709551616 out + y % 18446744073709551616 ^ k = x % 18446744073709551616 ^ k + 18446744073709551616 ^ k * c
theorem SubB.start (x y : Nat) : SubB x y 0 [] 0 := ⟨rfl, by intro d hd; simp at hd, by omega, by simp [dv, Nat.mod_one]⟩
theorem SubB.step {x y k c d c' : Nat} {out : List Nat} (h : SubB x y k out c) (hd : d < 18446744073709551616) (hc : c' ≤ 1) (hs : d + wd y k + c = wd x k + 18446744073709551616 * c') : SubB x y (k + 1) (out ++ [d]) c' := by
  refine ⟨by simp [h.len], h.dgs.append (by intro e he; simp at he; subst he; exact hd), hc, ?_⟩
  have e := h.sum
  have e2 : 18446744073709551616 ^ k * d + 18446744073709551616 ^ k * (y / 18446744073709551616 ^ k % 18446744073709551616) + 18446744073709551616 ^ k * c = 18446744073709551616 ^ k * (x / 18446744073709551616 ^ k % 18446744073709551616) + 18446744073709551616 ^ k * (18446744073709551616 * c') := by
    unfold wd at hs
    rw [← Nat.mul_add, ← Nat.mul_add, hs, Nat.mul_add]
  rw [mod_step_b 18446744073709551616 x k, mod_step_b 18446744073709551616 y k, dv_snoc, h.len, Nat.pow_succ, Nat.mul_assoc (18446744073709551616 ^ k) 18446744073709551616 c']
  omega
theorem SubB.done {x y k c : Nat} {out : List Nat} (h : SubB x y k out c) (hyx : y ≤ x) (hx : (dg 18446744073709551616 x).length ≤ k) : dv 18446744073709551616 out = x - y := by
  have e := h.sum
  have h1 : x < 18446744073709551616 ^ k := Nat.lt_of_lt_of_le (dg_lt (by decide) x) (Nat.pow_le_pow_right (by decide) hx)
  have h3 := dv_lt h.dgs
  rw [h.len] at h3
  rw [Nat.mod_eq_of_lt h1, Nat.mod_eq_of_lt (Nat.lt_of_le_of_lt hyx h1)] at e
  have h4 := h.lack
  have : c = 0 ∨ c = 1 := by omega
  rcases this with rfl | rfl <;> omega
theorem sub_nat {a b c : Nat} (ha : a < 18446744073709551616) (hb : b < 18446744073709551616) (hc : c ≤ 1) :
    ∃ d c' : Nat, subLo (a : Int) (b : Int) (c : Int) = (d : Int) ∧ subHi (a : Int) (b : Int) (c : Int) = (c' : Int) ∧ d < 18446744073709551616 ∧ c' ≤ 1 ∧ d + b + c = a + 18446744073709551616 * c' := by
  refine ⟨((a : Int) - b - c).emod 18446744073709551616 |>.toNat, if a < b + c then 1 else 0, ?_, ?_, ?_, ?_, ?_⟩
  · unfold subLo; show ((a : Int) - b - (c : Int) % 2) % 18446744073709551616 = ((((a : Int) - b - c) % 18446744073709551616).toNat : Int); omega
  · unfold subHi; split <;> split <;> omega
  · show (((a : Int) - b - c) % 18446744073709551616).toNat < _; omega
  · split <;> omega
  · show (((a : Int) - b - c) % 18446744073709551616).toNat + b + c = _; split <;> omega
/-! ### Cells that are set one behind the other -/
theorem take_set (cs : Array Value) (k : Nat) (u : Value) (h : k < cs.size) : (cs.setIfInBounds k u).toList.take (k + 1) = cs.toList.take k ++ [u] := by
  rw [Array.toList_setIfInBounds, List.take_succ_eq_append_getElem (by simpa using h)]
  simp [List.take_set]
  exact List.set_eq_of_length_le (by simp; omega)
theorem vals_snoc (K : IntKind) (l : List Nat) (d : Nat) : vals K (l ++ [d]) = vals K l ++ [.int K (d : Int)] := by simp [vals]
theorem blk_reads {w : World} {g n : Nat} {t : TypeId} {cs : Array Value} {l : List Nat} (h : Blk w g t cs) (hn : cs.size = n) (hv : cs.toList.take n = vals .u64 l) (hl : l.length = n) : Reads w w.heap.size 1 (some ⟨g, 0, none⟩) n (vals .u64 l) := by
  refine ⟨by rw [vals_length]; omega, fun _ => ⟨_, rfl, h.lt, fun j u hu => ?_⟩⟩
  have e : (⟨g, 0, none⟩ : Addr).add j = ⟨g, j, none⟩ := by unfold Addr.add; split <;> simp_all
  rw [e, h.cell j, ← Array.getElem?_toList]
  rw [List.take_of_length_le (by simp; omega)] at hv
  rw [hv]; exact hu
theorem keep_blk {w w' : World} {g : Nat} {t : TypeId} {cs : Array Value} (hb : Below w.heap.size w w') (h : Blk w g t cs) : Blk w' g t cs := h.below hb h.lt
/-! ### Boxes that a call lays ahead of its text -/
theorem box1 (w : World) (t : TypeId) (a : Array Value) : Below w.heap.size w (w.alloc (.cells a t)) ∧ Blk (w.alloc (.cells a t)) w.heap.size t a ∧ w.heap.size + 1 ≤ (w.alloc (.cells a t)).heap.size :=
  ⟨(Below.refl _ w).alloc (Nat.le_refl _) _, Blk.new w t a, by simp⟩
theorem box2 (w : World) (t s : TypeId) (a b : Array Value) : Below w.heap.size w ((w.alloc (.cells a t)).alloc (.cells b s)) ∧ Blk ((w.alloc (.cells a t)).alloc (.cells b s)) w.heap.size t a ∧ Blk ((w.alloc (.cells a t)).alloc (.cells b s)) (w.heap.size + 1) s b ∧ w.heap.size + 2 ≤ ((w.alloc (.cells a t)).alloc (.cells b s)).heap.size := by
  obtain ⟨h1, h2, h3⟩ := box1 w t a
  have h4 := Blk.new (w.alloc (.cells a t)) s b
  have e : (w.alloc (.cells a t)).heap.size = w.heap.size + 1 := by simp
  rw [e] at h4
  exact ⟨h1.alloc h1.size _, h2.alloc _, h4, by simp⟩
theorem box3 (w : World) (t s r : TypeId) (a b c : Array Value) : Below w.heap.size w (((w.alloc (.cells a t)).alloc (.cells b s)).alloc (.cells c r)) ∧ Blk (((w.alloc (.cells a t)).alloc (.cells b s)).alloc (.cells c r)) w.heap.size t a ∧ Blk (((w.alloc (.cells a t)).alloc (.cells b s)).alloc (.cells c r)) (w.heap.size + 1) s b ∧ Blk (((w.alloc (.cells a t)).alloc (.cells b s)).alloc (.cells c r)) (w.heap.size + 1 + 1) r c ∧ w.heap.size + 3 ≤ (((w.alloc (.cells a t)).alloc (.cells b s)).alloc (.cells c r)).heap.size := by
  obtain ⟨h1, h2, h3, h4⟩ := box2 w t s a b
  have h5 := Blk.new ((w.alloc (.cells a t)).alloc (.cells b s)) r c
  have e : ((w.alloc (.cells a t)).alloc (.cells b s)).heap.size = w.heap.size + 2 := by simp
  rw [e] at h5
  exact ⟨h1.alloc h1.size _, h2.alloc _, h3.alloc _, h5, by simp⟩
theorem keep_cell_alloc {w1 : World} {p : Addr} {v : Value} (o : Obj) (h : w1.cell? p = some v) : (w1.alloc o).cell? p = some v := (World.cell?_alloc_lt w1 o p (World.block_lt_of_cell? w1 p h)).trans h
theorem keep_below_alloc {w w1 : World} (o : Obj) (h : Below w.heap.size w w1) : Below w.heap.size w (w1.alloc o) := h.alloc h.size o
theorem keep_cell_set {w1 : World} {p q : Addr} {v : Value} (u : Value) (hp : p.block ≠ q.block) (h : w1.cell? p = some v) : (w1.setCell q u).cell? p = some v := (World.cell?_setCell_other w1 q p u (fun e => hp (by first | rw [e] | rw [← e]))).trans h
theorem keep_below_set {w w1 : World} {p : Addr} (u : Value) (hp : w.heap.size ≤ p.block) (h : Below w.heap.size w w1) : Below w.heap.size w (w1.setCell p u) := h.setCell hp u
/-- What trim hands back of a row that is known whole, laid into a result cell. -/
theorem trim_done {w wr : World} {gs p x : Nat} {A1 : Option Addr} {c1 : Nat} (hB : Below w.heap.size w wr) (hp : w.heap.size ≤ p) (hg : p ≠ gs) (hr : Reads wr wr.heap.size 1 A1 (dg 18446744073709551616 x).length (vals .u64 (dg 18446744073709551616 x))) (h1 : (dg 18446744073709551616 x).length ≤ c1) (h2 : c1 ≤ 9223372036854775807)
    (hA : A1 = some ⟨gs, 0, none⟩ ∨ A1 = none) (hgs : w.heap.size ≤ gs) (u : Value) : Below w.heap.size w (wr.setCell ⟨p, 0, none⟩ u) ∧ WordsIn (wr.setCell ⟨p, 0, none⟩ u) x A1 (dg 18446744073709551616 x).length c1 ∧ Fresh w A1 :=
  ⟨hB.setCell hp u, words_set ⟨hr, h1, h2⟩ (fun ad e => by
    rcases hA with h | h
    · rw [h] at e
      injection e with e
      subst e
      exact fun e2 => hg e2.symm
    · rw [h] at e; cases e) u, fun ad e => by
    rcases hA with h | h
    · rw [h] at e; injection e with e; subst e; exact hgs
    · rw [h] at e; cases e⟩
theorem blk_set1 {w : World} {g : Nat} {t : TypeId} {a : Value} (h : Blk w g t #[a]) (u : Value) : Blk (w.setCell ⟨g, 0, none⟩ u) g t #[u] := h.set_ 0 u
theorem keep_below_drew {w w1 : World} (h : Below w.heap.size w w1) : Below w.heap.size w w1.drew := h.drew
theorem keep_cell_drew {w1 : World} {p : Addr} {v : Value} (h : w1.cell? p = some v) : w1.drew.cell? p = some v := h
/-- A variable's cell, in a block of its own. -/
def Blk1 (w : World) (g : Nat) (v : Value) : Prop := ∃ t, Blk w g t #[v]
theorem Blk.one {w : World} {g : Nat} {t : TypeId} {v : Value} (h : Blk w g t #[v]) : Blk1 w g v := ⟨t, h⟩
theorem Blk1.cell {w : World} {g : Nat} {v : Value} (h : Blk1 w g v) : w.cell? ⟨g, 0, none⟩ = some v := by obtain ⟨t, h⟩ := h; exact h.cell 0
theorem Blk1.frozen {w : World} {g : Nat} {v : Value} (h : Blk1 w g v) : w.frozen? ⟨g, 0, none⟩ = false := by obtain ⟨t, h⟩ := h; exact h.frozen 0
theorem Blk1.new (w : World) (t : TypeId) (v : Value) : Blk1 (w.alloc (.cells #[v] t)) w.heap.size v := ⟨t, Blk.new w t _⟩
theorem Blk1.two1 (w : World) (t s : TypeId) (v u : Value) : Blk1 ((w.alloc (.cells #[v] t)).alloc (.cells #[u] s)) w.heap.size v := ⟨t, (box2 w t s #[v] #[u]).2.1⟩
theorem Blk1.two2 (w : World) (t s : TypeId) (v u : Value) : Blk1 ((w.alloc (.cells #[v] t)).alloc (.cells #[u] s)) (w.heap.size + 1) u := ⟨s, (box2 w t s #[v] #[u]).2.2.1⟩
theorem Blk1.alloc {w : World} {g : Nat} {v : Value} (h : Blk1 w g v) (o : Obj) : Blk1 (w.alloc o) g v := by obtain ⟨t, h⟩ := h; exact ⟨t, h.alloc o⟩
theorem Blk1.drew {w : World} {g : Nat} {v : Value} (h : Blk1 w g v) : Blk1 w.drew g v := h
theorem Blk1.set_ {w : World} {g : Nat} {v : Value} (h : Blk1 w g v) (u : Value) : Blk1 (w.setCell ⟨g, 0, none⟩ u) g u := by obtain ⟨t, h⟩ := h; exact ⟨t, blk_set1 h u⟩
theorem Blk1.far {w : World} {g : Nat} {v : Value} (h : Blk1 w g v) {p : Addr} (hp : g ≠ p.block) (u : Value) : Blk1 (w.setCell p u) g v := by obtain ⟨t, h⟩ := h; exact ⟨t, h.far hp u⟩
theorem Blk1.keep {w w' : World} {g : Nat} {v : Value} (h : Blk1 w g v) (hb : Below w.heap.size w w') : Blk1 w' g v := by obtain ⟨t, h⟩ := h; exact ⟨t, keep_blk hb h⟩
theorem Blk1.lt {w : World} {g : Nat} {v : Value} (h : Blk1 w g v) : g < w.heap.size := by obtain ⟨t, h⟩ := h; exact h.lt
theorem two_set {w : World} {g1 g2 : Nat} {a b : Value} (h1 : Blk1 w g1 a) (h2 : Blk1 w g2 b) (hne : g1 ≠ g2) :
    (∀ u, (w.setCell ⟨g1, 0, none⟩ u).cell? ⟨g2, 0, none⟩ = some b) ∧ (∀ u, (w.setCell ⟨g1, 0, none⟩ u).frozen? ⟨g2, 0, none⟩ = false) ∧ (∀ u, (w.setCell ⟨g2, 0, none⟩ u).cell? ⟨g1, 0, none⟩ = some a) ∧ (∀ u, (w.setCell ⟨g2, 0, none⟩ u).frozen? ⟨g1, 0, none⟩ = false) :=
  ⟨fun u => (h2.far (p := ⟨g1, 0, none⟩) (by show g2 ≠ g1; omega) u).cell, fun u => (h2.far (p := ⟨g1, 0, none⟩) (by show g2 ≠ g1; omega) u).frozen, fun u => (h1.far (p := ⟨g2, 0, none⟩) (by show g1 ≠ g2; omega) u).cell, fun u => (h1.far (p := ⟨g2, 0, none⟩) (by show g1 ≠ g2; omega) u).frozen⟩
theorem alloc_size (w : World) (o : Obj) : (w.alloc o).heap.size = w.heap.size + 1 := by simp
theorem drew_size (w : World) : w.drew.heap.size = w.heap.size := rfl
theorem Blk1.newAt {w : World} {t : TypeId} {v : Value} {g : Nat} (h : g = w.heap.size) : Blk1 (w.alloc (.cells #[v] t)) g v := by subst h; exact Blk1.new w t v
theorem Blk.newAt {w : World} {t : TypeId} {cs : Array Value} {g : Nat} (h : g = w.heap.size) : Blk (w.alloc (.cells cs t)) g t cs := by subst h; exact Blk.new w t cs
end Go.Proofs.Ytnfednkphcapnaa
namespace Go.Proofs.Ytnfednkphcapnaa
open Go Go.RowKit
set_option linter.unusedVariables false
/-- What makes a number and tells whether there is one. -/
def GivesNT (w : World) (x : Nat) (b : Bool) (e : Ending) (w' : World) : Prop := ∃ (A : Option Addr) (n c : Nat), e = .returned (.tuple #[.agg #[.slice A n c], .bool b]) ∧ WordsIn w' x A n c ∧ Below w.heap.size w w' ∧ Fresh w A
theorem words_zero (w : World) : WordsIn w 0 none 0 0 := ⟨Reads.none_, Nat.le_refl _, by omega⟩
theorem cmpI_ge {x y : Nat} (h : y ≤ x) : 0 ≤ cmpI x y := by
  unfold cmpI
  rw [if_neg (by omega)]
  split <;> omega
end Go.Proofs.Ytnfednkphcapnaa
namespace Go.Proofs.Ytnfednkphcapnaa
open Go Go.RowKit
/-- The lowest n bits of x. -/
def bitsN : Nat → Nat → List Int
  | 0, _ => []
  | n + 1, x => ((x % 2 : Nat) : Int) :: bitsN n (x / 2)
/-- The number that a list of bits stands for. -/
def bv : List Int → Int
  | [] => 0
  | b :: l => b + 2 * bv l
def Bit (b : Int) : Prop := 0 ≤ b ∧ b ≤ 1
def Bits (l : List Int) : Prop := ∀ b ∈ l, Bit b
theorem bitsN_length : ∀ n x, (bitsN n x).length = n
  | 0, _ => rfl
  | n + 1, x => by simp [bitsN, bitsN_length n]
theorem bitsN_snoc : ∀ n x, bitsN (n + 1) x = bitsN n x ++ [((x / 2 ^ n % 2 : Nat) : Int)]
  | 0, x => by simp [bitsN]
  | n + 1, x => by
    rw [bitsN, bitsN_snoc n (x / 2), bitsN, Nat.div_div_eq_div_mul, List.cons_append, show 2 * 2 ^ n = 2 ^ (n + 1) from by rw [Nat.pow_succ, Nat.mul_comm]]
theorem bitsN_bits : ∀ n x, Bits (bitsN n x)
  | 0, _ => by intro b hb; simp [bitsN] at hb
  | n + 1, x => by
    intro b hb
    simp only [bitsN, List.mem_cons] at hb
    rcases hb with rfl | hb
    · unfold Bit; omega
    · exact bitsN_bits n _ b hb
theorem bv_bitsN : ∀ n x, bv (bitsN n x) = ((x % 2 ^ n : Nat) : Int)
  | 0, x => by simp [bitsN, bv, Nat.mod_one]
  | n + 1, x => by
    rw [bitsN, bv, bv_bitsN n (x / 2)]
    have h : x % 2 ^ (n + 1) = x % 2 + 2 * (x / 2 % 2 ^ n) := by
      rw [Nat.pow_succ, Nat.mul_comm (2 ^ n) 2, Nat.mod_mul]
    omega
theorem bv_append : ∀ (l m : List Int), bv (l ++ m) = bv l + 2 ^ l.length * bv m
  | [], m => by simp [bv]
  | b :: l, m => by
    rw [List.cons_append, bv, bv, bv_append l m, List.length_cons, Int.pow_succ, Int.mul_add, Int.mul_comm (2 ^ l.length) 2, Int.mul_assoc]
    omega
theorem bv_bd : ∀ {l : List Int}, Bits l → 0 ≤ bv l ∧ bv l < 2 ^ l.length
  | [], _ => by simp [bv]
  | b :: l, h => by
    have h1 := h b (by simp)
    have h2 := bv_bd (l := l) (fun c hc => h c (by simp [hc]))
    unfold Bit at h1
    rw [bv, List.length_cons, Int.pow_succ]
    omega
theorem bits_eq : ∀ {l : List Int}, Bits l → l = bitsN l.length (bv l).toNat
  | [], _ => rfl
  | b :: l, h => by
    have h1 := h b (by simp)
    have h0 : Bits l := fun c hc => h c (by simp [hc])
    have h2 := bv_bd h0
    have e := bits_eq h0
    unfold Bit at h1
    rw [List.length_cons, bitsN, bv]
    have e1 : (b + 2 * bv l).toNat % 2 = b.toNat := by omega
    have e2 : (b + 2 * bv l).toNat / 2 = (bv l).toNat := by omega
    rw [e1, e2, ← e]
    congr 1
    omega
theorem bitsN_mod (n x : Nat) : bitsN n (x % 2 ^ n) = bitsN n x := by
  have h := bits_eq (bitsN_bits n x)
  rw [bitsN_length, bv_bitsN, Int.toNat_natCast] at h
  exact h.symm
theorem bitsN_take : ∀ (n m x : Nat), (bitsN (n + m) x).take n = bitsN n x
  | 0, m, x => by simp [bitsN]
  | n + 1, m, x => by
    rw [show n + 1 + m = (n + m) + 1 from by omega, bitsN, List.take_succ_cons, bitsN_take n m, bitsN]
theorem bitsN_drop : ∀ (n m x : Nat), (bitsN (n + m) x).drop n = bitsN m (x / 2 ^ n)
  | 0, m, x => by simp
  | n + 1, m, x => by
    rw [show n + 1 + m = (n + m) + 1 from by omega, bitsN, List.drop_succ_cons, bitsN_drop n m, Nat.div_div_eq_div_mul, show 2 * 2 ^ n = 2 ^ (n + 1) from by rw [Nat.pow_succ, Nat.mul_comm]]
theorem bitsN_get (n x k : Nat) (hk : k < n) : (bitsN n x)[k]? = some (((x / 2 ^ k) % 2 : Nat) : Int) := by
  obtain ⟨d, rfl⟩ : ∃ d, n = k + (d + 1) := ⟨n - k - 1, by omega⟩
  have h := bitsN_drop k (d + 1) x
  have : (bitsN (k + (d + 1)) x)[k]? = ((bitsN (k + (d + 1)) x).drop k)[0]? := by rw [List.getElem?_drop]; simp
  rw [this, h]
  simp [bitsN]
theorem bits_append {l m : List Int} (hl : Bits l) (hm : Bits m) : Bits (l ++ m) := by
  intro b hb
  rcases List.mem_append.1 hb with h | h
  · exact hl b h
  · exact hm b h
theorem bits_zeros (n : Nat) : Bits (List.replicate n 0) := by
  intro b hb
  have := List.eq_of_mem_replicate hb
  subst this
  unfold Bit; omega
theorem bv_zeros : ∀ n, bv (List.replicate n 0) = 0
  | 0 => rfl
  | n + 1 => by rw [List.replicate_succ, bv, bv_zeros n]; rfl
theorem bv_take_succ (l : List Int) (k : Nat) : bv (l.take (k + 1)) = bv (l.take k) + 2 ^ k * l.getD k 0 := by
  by_cases h : k < l.length
  · rw [List.take_succ_eq_append_getElem h, bv_append, List.length_take, Nat.min_eq_left (by omega)]
    simp [bv, List.getD, List.getElem?_eq_getElem h]
  · rw [List.take_of_length_le (by omega), List.take_of_length_le (by omega), List.getD_eq_getElem?_getD, List.getElem?_eq_none (by omega)]
    simp
theorem getD_bit {l : List Int} (h : Bits l) (k : Nat) : Bit (l.getD k 0) := by
  by_cases hk : k < l.length
  · exact h _ (by rw [List.getD_eq_getElem?_getD, List.getElem?_eq_getElem hk]; exact List.getElem_mem hk)
  · rw [List.getD_eq_getElem?_getD, List.getElem?_eq_none (by omega)]; unfold Bit; simp
/-- Adding up, bit by bit: where it stands behind k bits. -/
structure AddAt (a b : List Int) (k : Nat) (out : List Int) (c : Int) : Prop where
  len : out.length = k
  bits : Bits out
  carry : Bit c
  sum : bv (a.take k) + bv (b.take k) = bv out + 2 ^ k * c
theorem AddAt.start (a b : List Int) : AddAt a b 0 [] 0 := ⟨rfl, by intro x hx; simp at hx, by unfold Bit; omega, by simp [bv]⟩
theorem AddAt.step {a b out : List Int} {k : Nat} {c s : Int} (h : AddAt a b k out c) (ha : Bits a) (hb : Bits b) (hs : s = c + a.getD k 0 + b.getD k 0) : AddAt a b (k + 1) (out ++ [s % 2]) (s / 2) := by
  have h1 := getD_bit ha k
  have h2 := getD_bit hb k
  have h3 := h.carry
  unfold Bit at h1 h2 h3
  refine ⟨by simp [h.len], bits_append h.bits (by intro x hx; simp at hx; subst hx; unfold Bit; omega), by unfold Bit; omega, ?_⟩
  have e := h.sum
  rw [bv_take_succ, bv_take_succ, bv_append, h.len]
  simp only [bv, Int.mul_zero, Int.add_zero]
  have e2 : (2 : Int) ^ (k + 1) * (s / 2) = 2 ^ k * (2 * (s / 2)) := by rw [Int.pow_succ, Int.mul_assoc]
  have e3 : (2 : Int) ^ k * (s % 2) + 2 ^ k * (2 * (s / 2)) = 2 ^ k * s := by rw [← Int.mul_add]; congr 1; omega
  have e4 : (2 : Int) ^ k * s = 2 ^ k * c + 2 ^ k * a.getD k 0 + 2 ^ k * b.getD k 0 := by rw [hs, Int.mul_add, Int.mul_add]
  omega
theorem AddAt.done {a b out : List Int} {k : Nat} {c : Int} (h : AddAt a b k out c) (ha : a.length ≤ k) (hb : b.length ≤ k) : out = bitsN k (bv a + bv b).toNat := by
  have e := h.sum
  rw [List.take_of_length_le ha, List.take_of_length_le hb] at e
  have h1 := bits_eq h.bits
  have h2 := bv_bd h.bits
  have h3 := h.carry
  rw [h.len] at h1 h2
  have hp : (2 : Int) ^ k = ((2 ^ k : Nat) : Int) := by rw [Int.natCast_pow]; rfl
  rw [h1, ← bitsN_mod k (bv a + bv b).toNat]
  congr 1
  rw [e]
  obtain ⟨c0, c1⟩ := h3
  obtain ⟨o, ho⟩ := Int.eq_ofNat_of_zero_le h2.1
  obtain ⟨c, rfl⟩ := Int.eq_ofNat_of_zero_le c0
  rw [hp, ho] at h2
  rw [ho, hp, ← Int.natCast_mul, ← Int.natCast_add, Int.toNat_natCast, Int.toNat_natCast, Nat.add_mul_mod_self_left]
  exact (Nat.mod_eq_of_lt (by omega)).symm
theorem mod_step (y k : Nat) : y % 2 ^ (k + 1) = y % 2 ^ k + 2 ^ k * (y / 2 ^ k % 2) := by rw [Nat.pow_succ, Nat.mod_mul]
/-- The product, bit by bit: one more factor of two. -/
theorem mul_step (x y k : Nat) (hx : x < 18446744073709551616) (hk : k < 64) :
    bv (bitsN 128 (((x * (y % 2 ^ k) : Nat) : Int) + bv (List.replicate k 0 ++ bitsN 64 x)).toNat) = ((x * (y % 2 ^ k) + x * 2 ^ k : Nat) : Int) := by
  rw [bv_append, bv_zeros, List.length_replicate, bv_bitsN, bv_bitsN]
  have e0 : x % 2 ^ 64 = x := Nat.mod_eq_of_lt (by omega)
  rw [e0]
  have e1 : (0 : Int) + 2 ^ k * ((x : Nat) : Int) = ((x * 2 ^ k : Nat) : Int) := by rw [Int.zero_add, Int.natCast_mul, Int.natCast_pow, Int.mul_comm]; rfl
  rw [e1, ← Int.natCast_add, Int.toNat_natCast]
  congr 1
  apply Nat.mod_eq_of_lt
  have h1 : y % 2 ^ k < 2 ^ k := Nat.mod_lt _ (Nat.two_pow_pos k)
  have h2 : x * (y % 2 ^ k) + x * 2 ^ k ≤ x * 2 ^ (k + 1) := by rw [← Nat.mul_add, Nat.pow_succ]; exact Nat.mul_le_mul_left _ (by omega)
  have h3 : x * 2 ^ (k + 1) ≤ x * 2 ^ 64 := Nat.mul_le_mul_left _ (Nat.pow_le_pow_right (by decide) (by omega))
  have h4 : x * 2 ^ 64 < 18446744073709551616 * 2 ^ 64 := Nat.mul_lt_mul_of_pos_right hx (by decide)
  have h5 : (18446744073709551616 : Nat) * 2 ^ 64 = 2 ^ 128 := by decide
  omega
theorem bitLen_of (x j : Nat) (h1 : 2 ^ j ≤ x) (h2 : x < 2 ^ (j + 1)) : bitLen x = j + 1 := by
  have hne : x ≠ 0 := by have := Nat.two_pow_pos j; omega
  unfold bitLen
  rw [if_neg hne, (Nat.log2_eq_iff hne).2 ⟨h1, h2⟩]
/-- From above, the first bit that is 1. -/
theorem len_hit (x j : Nat) (h0 : x / 2 ^ (j + 1) = 0) (h1 : x / 2 ^ j % 2 = 1) : bitLen x = j + 1 := by
  have hp := Nat.two_pow_pos j
  refine bitLen_of x j ?_ ?_
  · rcases Nat.lt_or_ge x (2 ^ j) with h | h
    · rw [Nat.div_eq_of_lt h] at h1; omega
    · exact h
  · rcases (Nat.div_eq_zero_iff).1 h0 with h | h
    · have := Nat.two_pow_pos (j + 1); omega
    · exact h
theorem len_miss (x j : Nat) (h0 : x / 2 ^ (j + 1) = 0) (h1 : x / 2 ^ j % 2 = 0) : x / 2 ^ j = 0 := by
  rw [Nat.pow_succ, ← Nat.div_div_eq_div_mul] at h0
  omega
/-- From below, the first bit that is 1. -/
theorem ctz_hit : ∀ (k f x : Nat), x % 2 ^ k = 0 → x / 2 ^ k % 2 = 1 → k < f → Lib.ctzFrom f x = k
  | _, 0, _, _, _, h => by omega
  | 0, f + 1, x, _, h, _ => by
    unfold Lib.ctzFrom
    rw [Nat.pow_zero, Nat.div_one] at h
    rw [if_pos h]
  | k + 1, f + 1, x, h0, h1, hk => by
    have e := mod_step (x / 2) 0
    have hm : x % 2 ^ (k + 1) = x % 2 + 2 * (x / 2 % 2 ^ k) := by rw [Nat.pow_succ, Nat.mul_comm (2 ^ k) 2, Nat.mod_mul]
    have h2 : x % 2 = 0 := by omega
    have h3 : x / 2 % 2 ^ k = 0 := by omega
    have h4 : x / 2 / 2 ^ k % 2 = 1 := by rw [Nat.div_div_eq_div_mul, show 2 * 2 ^ k = 2 ^ (k + 1) from by rw [Nat.pow_succ, Nat.mul_comm]]; exact h1
    unfold Lib.ctzFrom
    rw [if_neg (by omega), ctz_hit k f (x / 2) h3 h4 (by omega)]
    omega
theorem ctz_of_hit (x k : Nat) (h0 : x % 2 ^ k = 0) (h1 : x / 2 ^ k % 2 = 1) (hk : k < 64) : Lib.ctz 64 x = k := by
  have hne : x ≠ 0 := by rintro rfl; simp at h1
  unfold Lib.ctz
  rw [if_neg hne]
  exact ctz_hit k 64 x h0 h1 hk
theorem ctz_miss (x k : Nat) (h0 : x % 2 ^ k = 0) (h1 : x / 2 ^ k % 2 = 0) : x % 2 ^ (k + 1) = 0 := by rw [mod_step, h0, h1, Nat.mul_zero]
/-- Taking away, bit by bit: where it stands behind k bits. -/
structure LessAt (x y c k : Nat) (out : List Int) (b : Int) : Prop where
  len : out.length = k
  bits : Bits out
  lack : Bit b
  sum : bv out - 2 ^ k * b = ((x % 2 ^ k : Nat) : Int) - ((y % 2 ^ k : Nat) : Int) - (if k = 0 then 0 else (c : Int) % 2)
  first : k = 0 → b = 0
theorem LessAt.start (x y c : Nat) : LessAt x y c 0 [] 0 := ⟨rfl, by intro b hb; simp at hb, by unfold Bit; omega, by simp [bv, Nat.mod_one], fun _ => rfl⟩
/-- What is reckoned for one bit. -/
def lessD (x y c k : Nat) (b : Int) : Int := ((x / 2 ^ k % 2 : Nat) : Int) - ((y / 2 ^ k % 2 : Nat) : Int) - b - (if k = 0 then (c : Int) % 2 else 0)
theorem lessD_bd {x y c k : Nat} {b : Int} (hb : Bit b) (h0 : k = 0 → b = 0) : -2 ≤ lessD x y c k b ∧ lessD x y c k b ≤ 1 := by
  unfold Bit at hb
  unfold lessD
  split
  · rename_i h; have := h0 h; omega
  · omega
theorem LessAt.step {x y c k : Nat} {out : List Int} {b d b' : Int} (h : LessAt x y c k out b) (hd : d = lessD x y c k b + 2 * b') (hb' : b' = if lessD x y c k b < 0 then 1 else 0) : LessAt x y c (k + 1) (out ++ [d]) b' := by
  have hbd := lessD_bd (x := x) (y := y) (c := c) h.lack h.first
  have hB : Bit b' := by unfold Bit; split at hb' <;> omega
  refine ⟨by simp [h.len], bits_append h.bits (by intro z hz; simp at hz; subst hz; unfold Bit; split at hb' <;> omega), hB, ?_, by omega⟩
  have e := h.sum
  rw [bv_append, h.len, mod_step x k, mod_step y k]
  simp only [bv, Int.mul_zero, Int.add_zero, if_neg (Nat.succ_ne_zero k)]
  have hD : (if k = 0 then (0 : Int) else (c : Int) % 2) + (if k = 0 then (c : Int) % 2 else 0) = (c : Int) % 2 := by split <;> omega
  have hk0 : 2 ^ k * (if k = 0 then (c : Int) % 2 else 0) = (if k = 0 then (c : Int) % 2 else 0) := by
    split
    · rename_i h; subst h; simp
    · simp
  have e1 : (2 : Int) ^ k * d = 2 ^ k * ((x / 2 ^ k % 2 : Nat) : Int) - 2 ^ k * ((y / 2 ^ k % 2 : Nat) : Int) - 2 ^ k * b - 2 ^ k * (if k = 0 then (c : Int) % 2 else 0) + 2 ^ k * (2 * b') := by
    rw [hd]; unfold lessD; rw [Int.mul_add, Int.mul_sub, Int.mul_sub, Int.mul_sub]
  have e2 : (2 : Int) ^ (k + 1) * b' = 2 ^ k * (2 * b') := by rw [Int.pow_succ, Int.mul_assoc]
  have e3 : ((x % 2 ^ k + 2 ^ k * (x / 2 ^ k % 2) : Nat) : Int) = ((x % 2 ^ k : Nat) : Int) + 2 ^ k * ((x / 2 ^ k % 2 : Nat) : Int) := by rw [Int.natCast_add, Int.natCast_mul, Int.natCast_pow]; rfl
  have e4 : ((y % 2 ^ k + 2 ^ k * (y / 2 ^ k % 2) : Nat) : Int) = ((y % 2 ^ k : Nat) : Int) + 2 ^ k * ((y / 2 ^ k % 2 : Nat) : Int) := by rw [Int.natCast_add, Int.natCast_mul, Int.natCast_pow]; rfl
  rw [e3, e4]
  rw [hk0] at e1
  omega
theorem LessAt.done {x y c : Nat} {out : List Int} {b : Int} (h : LessAt x y c 64 out b) (hx : x < 18446744073709551616) (hy : y < 18446744073709551616) : bv out = subLo x y c ∧ b = subHi x y c := by
  have e := h.sum
  have hbd := bv_bd h.bits
  have hl := h.lack
  rw [h.len] at hbd
  rw [show x % 2 ^ 64 = x from Nat.mod_eq_of_lt (by omega), show y % 2 ^ 64 = y from Nat.mod_eq_of_lt (by omega)] at e
  simp only [show (2 : Int) ^ 64 = 18446744073709551616 from by decide, show ¬ (64 : Nat) = 0 from by decide, if_false] at e hbd
  unfold Bit at hl
  unfold subLo subHi
  refine ⟨by omega, ?_⟩
  split <;> omega
end Go.Proofs.Ytnfednkphcapnaa
namespace Go.Proofs.Ytnfednkphcapnaa
open Go Go.RowKit
set_option maxRecDepth 100000
set_option linter.unusedVariables false
theorem bitLen_topB {x n : Nat} (hx : (dg 18446744073709551616 x).length = n + 1) : wd x n = x / 18446744073709551616 ^ n ∧ 0 < wd x n ∧ bitLen x = 64 * n + bitLen (wd x n) := by
  have hx0 : x ≠ 0 := by rintro rfl; simp [dg_zero] at hx
  have h1 := dg_lt (b := 18446744073709551616) (by decide) x
  have h2 := (dg_ge (b := 18446744073709551616) (by decide) x hx0).2
  rw [hx] at h1 h2
  have h3 : x / 18446744073709551616 ^ n < 18446744073709551616 := (Nat.div_lt_iff_lt_mul (Nat.pow_pos (by decide))).2 (by rw [Nat.mul_comm, ← Nat.pow_succ]; exact h1)
  have h4 : 0 < x / 18446744073709551616 ^ n := Nat.div_pos (by simpa using h2) (Nat.pow_pos (by decide))
  have h5 : wd x n = x / 18446744073709551616 ^ n := Nat.mod_eq_of_lt h3
  refine ⟨h5, by omega, ?_⟩
  rw [h5]
  have e : (18446744073709551616 : Nat) ^ n = 2 ^ (64 * n) := by rw [show (18446744073709551616 : Nat) = 2 ^ 64 from rfl, ← Nat.pow_mul]
  rw [e] at h4 ⊢
  exact bitLen_shift x (64 * n) (by omega)
theorem nat_zero_yes (A : Option Addr) (c : Nat) (w : World) : Calls Try.prog 51 #[.agg #[.slice A 0 c]] w fun e w' => e = .returned (.bool true) ∧ Below w.heap.size w w' := nat_zero A 0 c w
theorem nat_zero_no (A : Option Addr) (n c : Nat) (hn : n ≠ 0) (w : World) : Calls Try.prog 51 #[.agg #[.slice A n c]] w fun e w' => e = .returned (.bool false) ∧ Below w.heap.size w w' := by
  have := nat_zero A n c w
  rw [decide_eq_false hn] at this
  exact this
theorem len_zero {x : Nat} (h : (dg 18446744073709551616 x).length = 0) : x = 0 := by
  have h1 := dg_lt (b := 18446744073709551616) (by decide) x
  rw [h] at h1
  omega
set_option maxHeartbeats 2000000 in
theorem nat_bits (x : Nat) (A : Option Addr) (n c : Nat) (w : World) (hA : WordsIn w x A n c) (hn : n ≤ 1099511627776) :
    Calls Try.prog 108 #[.agg #[.slice A n c]] w fun e w' => e = .returned (.int .i64 (bitLen x : Nat)) ∧ Below w.heap.size w w' := by
  have hln := hA.len
  by_cases h0 : n = 0
  · subst h0
    have hx : x = 0 := len_zero hln
    subst hx
    have HZ := Lib.hid (fun w => nat_zero_yes A c w)
    clear hln hA
    go_enter Try.func108, Try.ntmps108
    go_wp2_with fail
    refine (HZ.out _).mono ?_
    rintro e w1 ⟨rfl, hb⟩
    have hB := keep_below ((Below.refl _ w).alloc (Nat.le_refl _) _) hb
    clear hb
    go_wp2
    go_ret
    exact ⟨rfl, hB⟩
  · obtain ⟨m, rfl⟩ : ∃ m, n = m + 1 := ⟨n - 1, by omega⟩
    obtain ⟨h1, h2, h3⟩ := bitLen_topB hln
    have hlt := wd_lt x m
    obtain ⟨ad, rfl, hadb, hx⟩ := val_at hA.1 (k := m) (by omega)
    rw [wd_get] at hx
    have HZ := Lib.hid (fun w => nat_zero_no (some ad) (m + 1) c (by omega) w)
    have WL := (fun w => word_len (wd x m : Nat) ⟨by omega, by omega⟩ w)
    have hbl : bitLen (wd x m) ≤ 64 := bitLen_le _ 64 (by simpa using hlt)
    have e : lenN ((wd x m : Nat) : Int) = ((bitLen (wd x m) : Nat) : Int) := by unfold lenN; simp
    rw [e] at WL
    obtain ⟨a, ha⟩ : ∃ a, wd x m = a := ⟨_, rfl⟩
    rw [ha] at hx WL hbl h3
    obtain ⟨b, hbe⟩ : ∃ b, bitLen a = b := ⟨_, rfl⟩
    rw [hbe] at WL hbl h3
    have HW := Lib.hid WL
    have H3 := Lib.hid h3
    clear WL h3 hbe ha e hlt h1 h2 hln h0 hA
    go_enter Try.func108, Try.ntmps108
    go_wp2_with fail
    refine (HZ.out _).mono ?_
    rintro e w1 ⟨rfl, hb⟩
    have hB := keep_below ((Below.refl _ w).alloc (Nat.le_refl _) _) hb
    have g1 : w1.cell? ⟨w.heap.size, 0, none⟩ = some (.slice (some ad) (m + 1) c) := keep_cell hb ((Blk.new w 27 #[.slice (some ad) (m + 1) c]).cell 0)
    have g2 : w1.cell? (ad.add m) = some (.int .u64 a) := (hB.cell (by rw [block_of_add]; exact hadb)).trans hx
    clear hb hx
    go_wp2_with fail
    refine (HW.out _).mono ?_
    rintro e w2 ⟨rfl, rfl⟩
    go_wp2
    go_ret
    exact ⟨by rw [H3.out]; go_num, hB⟩
end Go.Proofs.Ytnfednkphcapnaa
namespace Go.Proofs.Ytnfednkphcapnaa
open Go Go.RowKit
theorem kpow (k : Nat) : 18446744073709551616 ^ (k / 64) * 2 ^ (k % 64) = 2 ^ k := by
  rw [show (18446744073709551616 : Nat) = 2 ^ 64 from rfl, ← Nat.pow_mul, ← Nat.pow_add, Nat.div_add_mod]
theorem two64 {r : Nat} (h : r ≤ 64) : 2 ^ (64 - r) * 2 ^ r = 18446744073709551616 := by
  rw [← Nat.pow_add, Nat.sub_add_cancel h]
/-- A multiple of a power of two, or'ed with what is below it. -/
theorem or_apart {i a b : Nat} (h : b < 2 ^ i) : 2 ^ i * a ||| b = 2 ^ i * a + b := (Nat.two_pow_add_eq_or_of_lt h a).symm
theorem or_apart' {i a b : Nat} (h : b < 2 ^ i) : b ||| 2 ^ i * a = 2 ^ i * a + b := by rw [Nat.or_comm]; exact or_apart h
theorem or_u64 {i a b : Nat} (h : b < 2 ^ i) (hab : 2 ^ i * a + b < 18446744073709551616) : bits .or .u64 ((2 ^ i * a : Nat) : Int) (b : Int) = ((2 ^ i * a + b : Nat) : Int) := by
  rw [bits_or_u64_nat _ _ (by omega) (by omega), or_apart h]
theorem or_u64' {i a b : Nat} (h : b < 2 ^ i) (hab : 2 ^ i * a + b < 18446744073709551616) : bits .or .u64 (b : Int) ((2 ^ i * a : Nat) : Int) = ((2 ^ i * a + b : Nat) : Int) := by
  rw [bits_or_u64_nat _ _ (by omega) (by omega), or_apart' h]
/-- A word shifted up: what stays of it. -/
theorem shl_low (a r : Nat) (hr : r ≤ 64) : a * 2 ^ r % 18446744073709551616 = 2 ^ r * (a % 2 ^ (64 - r)) := by
  rw [← two64 hr, Nat.mul_comm (2 ^ (64 - r)), Nat.mul_comm a, Nat.mul_mod_mul_left]
/-- Word i of a number by a power of two. -/
theorem wd_shr (x k i : Nat) : wd (x / 2 ^ k) i = wd x (k / 64 + i) / 2 ^ (k % 64) + 2 ^ (64 - k % 64) * (wd x (k / 64 + i + 1) % 2 ^ (k % 64)) := by
  have hr : k % 64 ≤ 64 := by omega
  have e1 : x / 2 ^ k / 18446744073709551616 ^ i = x / 18446744073709551616 ^ (k / 64 + i) / 2 ^ (k % 64) := by
    rw [Nat.div_div_eq_div_mul, Nat.div_div_eq_div_mul, ← kpow k, Nat.pow_add]
    congr 1
    rw [Nat.mul_assoc, Nat.mul_assoc, Nat.mul_comm (2 ^ (k % 64))]
  have e2 : x / 18446744073709551616 ^ (k / 64 + i + 1) = x / 18446744073709551616 ^ (k / 64 + i) / 18446744073709551616 := by
    rw [Nat.pow_succ, ← Nat.div_div_eq_div_mul]
  unfold wd
  rw [e1, e2]
  generalize x / 18446744073709551616 ^ (k / 64 + i) = y
  generalize k % 64 = r at *
  have e3 : y / 18446744073709551616 % 18446744073709551616 % 2 ^ r = y / 18446744073709551616 % 2 ^ r := by
    refine Nat.mod_mod_of_dvd _ ?_
    rw [← two64 hr]
    exact Nat.dvd_mul_left _ _
  rw [e3]
  have e4 : y = 18446744073709551616 * (y / 18446744073709551616) + y % 18446744073709551616 := (Nat.div_add_mod _ _).symm
  generalize hq : y / 18446744073709551616 = q at *
  generalize hm : y % 18446744073709551616 = m at *
  have hm1 : m < 18446744073709551616 := by omega
  subst e4
  rw [← two64 hr] at hm1 ⊢
  have e5 : 2 ^ (64 - r) * 2 ^ r * q + m = m + 2 ^ r * (2 ^ (64 - r) * q) := by rw [Nat.add_comm, Nat.mul_comm (2 ^ (64 - r)) (2 ^ r), Nat.mul_assoc]
  rw [e5, Nat.add_mul_div_left _ _ (Nat.two_pow_pos r)]
  have e6 : m / 2 ^ r < 2 ^ (64 - r) := (Nat.div_lt_iff_lt_mul (Nat.two_pow_pos r)).2 hm1
  have e7 : 2 ^ (64 - r) * q = 2 ^ (64 - r) * 2 ^ r * (q / 2 ^ r) + 2 ^ (64 - r) * (q % 2 ^ r) := by
    rw [Nat.mul_assoc, ← Nat.mul_add, Nat.div_add_mod]
  rw [e7, Nat.add_comm (2 ^ (64 - r) * 2 ^ r * (q / 2 ^ r)), ← Nat.add_assoc, Nat.add_mul_mod_self_left]
  refine Nat.mod_eq_of_lt ?_
  have e8 : q % 2 ^ r < 2 ^ r := Nat.mod_lt _ (Nat.two_pow_pos r)
  have e9 : 2 ^ (64 - r) * (q % 2 ^ r + 1) ≤ 2 ^ (64 - r) * 2 ^ r := Nat.mul_le_mul_left _ e8
  rw [Nat.mul_add] at e9
  omega
/-- The first i words of a number. -/
def firstW (y i : Nat) : List Nat := (List.range i).map (wd y)
theorem firstW_len (y i : Nat) : (firstW y i).length = i := by simp [firstW]
theorem firstW_succ (y i : Nat) : firstW y (i + 1) = firstW y i ++ [wd y i] := by simp [firstW, List.range_succ]
theorem firstW_dgs (y i : Nat) : Dgs 18446744073709551616 (firstW y i) := by
  intro d hd
  obtain ⟨j, _, rfl⟩ := List.mem_map.1 hd
  exact wd_lt y j
theorem firstW_dv (y : Nat) : ∀ i, dv 18446744073709551616 (firstW y i) = y % 18446744073709551616 ^ i
  | 0 => by simp [firstW, dv, Nat.mod_one]
  | i + 1 => by rw [firstW_succ, dv_snoc, firstW_dv y i, firstW_len, mod_step_b 18446744073709551616 y i]; rfl
theorem firstW_all {y i : Nat} (h : (dg 18446744073709551616 y).length ≤ i) : dv 18446744073709551616 (firstW y i) = y := by
  rw [firstW_dv]
  exact Nat.mod_eq_of_lt (Nat.lt_of_lt_of_le (dg_lt (by decide) y) (Nat.pow_le_pow_right (by decide) h))
theorem wrap_u64n (m : Nat) : IntKind.u64.wrap (m : Int) = ((m % 18446744073709551616 : Nat) : Int) := by
  simp [IntKind.wrap, IntKind.bits, IntKind.signed]
theorem shr_cell {a b r : Nat} (ha : a < 18446744073709551616) (hr : r < 64) :
    bits .or .u64 ((a : Int) / 2 ^ r) (IntKind.u64.wrap ((b : Int) * 2 ^ (64 - r))) = ((a / 2 ^ r + 2 ^ (64 - r) * (b % 2 ^ r) : Nat) : Int) := by
  have e1 : (a : Int) / 2 ^ r = ((a / 2 ^ r : Nat) : Int) := by simp
  have e2 : (b : Int) * 2 ^ (64 - r) = ((b * 2 ^ (64 - r) : Nat) : Int) := by simp
  have e3 : b * 2 ^ (64 - r) % 18446744073709551616 = 2 ^ (64 - r) * (b % 2 ^ r) := by
    rw [shl_low b (64 - r) (by omega), show 64 - (64 - r) = r from by omega]
  rw [e1, e2, wrap_u64n, e3]
  have h1 : a / 2 ^ r < 2 ^ (64 - r) := (Nat.div_lt_iff_lt_mul (Nat.two_pow_pos r)).2 (by rw [two64 (by omega)]; exact ha)
  have h2 : b % 2 ^ r < 2 ^ r := Nat.mod_lt _ (Nat.two_pow_pos r)
  have h3 : 2 ^ (64 - r) * (b % 2 ^ r + 1) ≤ 2 ^ (64 - r) * 2 ^ r := Nat.mul_le_mul_left _ h2
  rw [two64 (by omega), Nat.mul_add] at h3
  rw [or_u64' h1 (by omega), Nat.add_comm]
theorem lowB (x k : Nat) : x % 18446744073709551616 ^ (k / 64) + 18446744073709551616 ^ (k / 64) * (wd x (k / 64) % 2 ^ (k % 64)) = x % 2 ^ k := by
  have h2 : wd x (k / 64) % 2 ^ (k % 64) = x / 18446744073709551616 ^ (k / 64) % 2 ^ (k % 64) := by
    unfold wd
    refine Nat.mod_mod_of_dvd _ ?_
    rw [show (18446744073709551616 : Nat) = 2 ^ 64 from rfl]
    exact Nat.pow_dvd_pow 2 (by omega)
  rw [h2, ← kpow k, Nat.mod_mul]
theorem low_done (x k : Nat) : dv 18446744073709551616 (firstW x (k / 64) ++ [wd x (k / 64) % 2 ^ (k % 64)]) = x % 2 ^ k := by
  rw [dv_snoc, firstW_dv, firstW_len, lowB]
theorem firstW_take (x q : Nat) (h : q ≤ (dg 18446744073709551616 x).length) : (dg 18446744073709551616 x).take q = firstW x q := by
  refine List.ext_getElem (by rw [firstW_len, List.length_take, Nat.min_eq_left h]) (fun i h1 h2 => ?_)
  rw [firstW_len] at h2
  have e := wd_get x i
  rw [List.getD_eq_getElem?_getD, List.getElem?_eq_getElem (by omega)] at e
  simp [firstW, ← e]
theorem and_mask {a r : Nat} (ha : a < 18446744073709551616) (hr : r < 64) : bits .and .u64 (a : Int) ((2 ^ r - 1 : Nat) : Int) = ((a % 2 ^ r : Nat) : Int) := by
  have h : 2 ^ r ≤ 2 ^ 63 := Nat.pow_le_pow_right (by decide) (by omega)
  rw [bits_and_u64_nat _ _ ha (by omega), Nat.and_two_pow_sub_one_eq_mod]
theorem blk_reads2 {w : World} {g n : Nat} {t : TypeId} {cs : Array Value} {l : List Nat} (h : Blk w g t cs) (hv : cs.toList.take n = vals .u64 l) (hl : l.length = n) : Reads w w.heap.size 1 (some ⟨g, 0, none⟩) n (vals .u64 l) := by
  refine ⟨by rw [vals_length]; omega, fun _ => ⟨_, rfl, h.lt, fun j u hu => ?_⟩⟩
  have e : (⟨g, 0, none⟩ : Addr).add j = ⟨g, j, none⟩ := by unfold Addr.add; split <;> simp_all
  have hj : j < n := by
    have := (List.getElem?_eq_some_iff.1 hu).1
    rw [vals_length] at this; omega
  rw [e, h.cell j, ← Array.getElem?_toList]
  rw [← hv, List.getElem?_take, if_pos hj] at hu
  exact hu
theorem cell_of_take {cs : Array Value} {n j : Nat} {l : List Nat} (hv : cs.toList.take n = vals .u64 l) (hj : j < n) {d : Nat} (hd : l[j]? = some d) : cs[j]? = some (.int .u64 (d : Int)) := by
  have h : (cs.toList.take n)[j]? = some (.int .u64 (d : Int)) := by rw [hv]; simp [vals, hd]
  rw [List.getElem?_take, if_pos hj] at h
  rw [← Array.getElem?_toList]; exact h
theorem mask_cell {a r : Nat} (ha : a < 18446744073709551616) (hr : r < 64) : bits .and .u64 (a : Int) (IntKind.u64.wrap (IntKind.u64.wrap (2 ^ r) - 1)) = ((a % 2 ^ r : Nat) : Int) := by
  have h : 2 ^ r ≤ 2 ^ 63 := Nat.pow_le_pow_right (by decide) (by omega)
  have h0 : 0 < 2 ^ r := Nat.two_pow_pos r
  have e1 : (2 : Int) ^ r = ((2 ^ r : Nat) : Int) := by simp
  rw [e1, wrap_u64n, Nat.mod_eq_of_lt (by omega), show ((2 ^ r : Nat) : Int) - 1 = ((2 ^ r - 1 : Nat) : Int) from by omega, wrap_u64n, Nat.mod_eq_of_lt (by omega)]
  exact and_mask ha hr
/-! ### A number times a small power of two, word by word -/
structure SmallB (x m k : Nat) (out : List Nat) (c : Nat) : Prop where
  len : out.length = k
  dgs : Dgs 18446744073709551616 out
  carry : c < m
  sum : dv 18446744073709551616 out + 18446744073709551616 ^ k * c = x % 18446744073709551616 ^ k * m
theorem SmallB.start (x m : Nat) (hm : 0 < m) : SmallB x m 0 [] 0 := ⟨rfl, by intro d hd; simp at hd, hm, by simp [dv, Nat.mod_one]⟩
theorem SmallB.step {x m k c s : Nat} {out : List Nat} (h : SmallB x m k out c) (hs : s = wd x k * m + c) : SmallB x m (k + 1) (out ++ [s % 18446744073709551616]) (s / 18446744073709551616) := by
  have h1 := wd_lt x k
  have h3 := h.carry
  have h4 : (wd x k + 1) * m ≤ 18446744073709551616 * m := Nat.mul_le_mul_right m h1
  rw [Nat.add_mul] at h4
  refine ⟨by simp [h.len], h.dgs.append (by intro d hd; simp at hd; subst hd; exact Nat.mod_lt _ (by decide)), (Nat.div_lt_iff_lt_mul (by decide)).2 (by rw [Nat.mul_comm m]; omega), ?_⟩
  have e := h.sum
  have e2 : 18446744073709551616 ^ k * (s % 18446744073709551616) + 18446744073709551616 ^ k * (18446744073709551616 * (s / 18446744073709551616)) = 18446744073709551616 ^ k * s := by rw [← Nat.mul_add, Nat.mod_add_div]
  have e3 : 18446744073709551616 ^ k * s = 18446744073709551616 ^ k * wd x k * m + 18446744073709551616 ^ k * c := by rw [hs, Nat.mul_add, Nat.mul_assoc]
  rw [dv_snoc, h.len, Nat.pow_succ, Nat.mul_assoc (18446744073709551616 ^ k) 18446744073709551616, ← Nat.pow_succ, mod_step_b 18446744073709551616 x k, Nat.add_mul]
  unfold wd at e3
  omega
theorem SmallB.done {x m n q c : Nat} {out : List Nat} (h : SmallB x m n out c) (hx : (dg 18446744073709551616 x).length ≤ n) : dv 18446744073709551616 (List.replicate q 0 ++ out ++ [c]) = 18446744073709551616 ^ q * m * x := by
  have e := h.sum
  have h1 : x < 18446744073709551616 ^ n := Nat.lt_of_lt_of_le (dg_lt (by decide) x) (Nat.pow_le_pow_right (by decide) hx)
  rw [Nat.mod_eq_of_lt h1] at e
  rw [List.append_assoc, dv_append, dv_zeros, List.length_replicate, dv_snoc, h.len, e, Nat.zero_add, Nat.mul_assoc, Nat.mul_comm m]
theorem shl_key (a : Nat) {r : Nat} (hr : r < 64) : ∃ hi lo : Nat, a / 2 ^ (64 - r) = hi ∧ 2 ^ r * (a % 2 ^ (64 - r)) = lo ∧ a * 2 ^ r = 18446744073709551616 * hi + lo ∧ lo + 2 ^ r ≤ 18446744073709551616 := by
  refine ⟨_, _, rfl, rfl, ?_, ?_⟩
  · rw [← two64 (r := r) (by omega), Nat.mul_assoc, Nat.mul_comm (2 ^ r) (a / 2 ^ (64 - r)), ← Nat.mul_assoc, Nat.mul_comm (2 ^ r), ← Nat.add_mul, Nat.div_add_mod]
  · have h2 : a % 2 ^ (64 - r) < 2 ^ (64 - r) := Nat.mod_lt _ (Nat.two_pow_pos _)
    have h3 : 2 ^ r * (a % 2 ^ (64 - r) + 1) ≤ 2 ^ r * 2 ^ (64 - r) := Nat.mul_le_mul_left _ h2
    rw [Nat.mul_comm (2 ^ r) (2 ^ (64 - r)), two64 (by omega), Nat.mul_add, Nat.mul_one] at h3
    exact h3
theorem shl_cell {a c r : Nat} (hr : r < 64) (hc : c < 2 ^ r) : bits .or .u64 (c : Int) (IntKind.u64.wrap ((a : Int) * 2 ^ r)) = (((a * 2 ^ r + c) % 18446744073709551616 : Nat) : Int) := by
  have e2 : (a : Int) * 2 ^ r = ((a * 2 ^ r : Nat) : Int) := by simp
  obtain ⟨hi, lo, e3, e4, e5, e6⟩ := shl_key a hr
  have e7 : 2 ^ r * (a % 2 ^ (64 - r)) + c < 18446744073709551616 := by rw [e4]; omega
  rw [e2, wrap_u64n, shl_low a r (by omega), or_u64' hc e7, e4, e5]
  generalize 2 ^ r = p at *
  omega
theorem shl_carry {a c r : Nat} (hr : r < 64) (hc : c < 2 ^ r) : (a : Int) / 2 ^ (64 - r) = (((a * 2 ^ r + c) / 18446744073709551616 : Nat) : Int) := by
  have e1 : (a : Int) / 2 ^ (64 - r) = ((a / 2 ^ (64 - r) : Nat) : Int) := by simp
  obtain ⟨hi, lo, e3, e4, e5, e6⟩ := shl_key a hr
  rw [e1, e3, e5]
  generalize 2 ^ r = p at *
  omega
theorem set_two {α : Type} {P R : List α} {j : Nat} {c z a b : α} (h : P.length = j) : ((P ++ c :: z :: R).set j a).set (j + 1) b = P ++ a :: b :: R := by
  subst h
  rw [List.set_append_right _ _ (Nat.le_refl _), Nat.sub_self, List.set_cons_zero, List.set_append_right _ _ (by omega)]
  simp
theorem vals_rep (n : Nat) : vals .u64 (List.replicate (n + 1) 0) = .int .u64 0 :: vals .u64 (List.replicate n 0) := by simp [vals, List.replicate_succ]
end Go.Proofs.Ytnfednkphcapnaa
namespace Go.Proofs.Ytnfednkphcapnaa
open Go Go.RowKit
set_option maxRecDepth 100000
set_option linter.unusedVariables false
theorem take_eq_succ {M L : List Nat} {k : Nat} (h : M.take k = L.take k) (h1 : k < M.length) (h2 : k < L.length) (he : M.getD k 0 = L.getD k 0) : M.take (k + 1) = L.take (k + 1) := by
  rw [List.getD_eq_getElem?_getD, List.getD_eq_getElem?_getD, List.getElem?_eq_getElem h1, List.getElem?_eq_getElem h2] at he
  have he' : M[k] = L[k] := by simpa using he
  rw [List.take_succ_eq_append_getElem h1, List.take_succ_eq_append_getElem h2, h, he']
/-- What tells. -/
def SaysB (w : World) (b : Bool) (e : Ending) (w' : World) : Prop := e = .returned (.bool b) ∧ Below w.heap.size w w'
end Go.Proofs.Ytnfednkphcapnaa
namespace Go.Proofs.Ytnfednkphcapnaa
open Go Go.RowKit
set_option maxRecDepth 100000
set_option linter.unusedVariables false
/-- Of, of words written out. -/
theorem of_lits (cs : Array Value) (l : List Nat) (w : World) (g n x : Nat) (hk : Blk w g 77 cs) (hn : cs.size = n) (hv : cs.toList = vals .u64 l) (hd : Dgs 18446744073709551616 l) (hx : dv 18446744073709551616 l = x) (hs : n ≤ 1000) :
    Calls Try.prog 38 #[.slice (some ⟨g, 0, none⟩) n n] w (GivesN2 w x) := by
  have hl : l.length = n := by
    have h := congrArg List.length hv
    rw [vals_length] at h
    rw [← h]; simpa using hn
  have := nat_of (some ⟨g, 0, none⟩) n n l w (blk_reads hk hn (by rw [hv, List.take_of_length_le (by rw [vals_length]; omega)]) hl) hd (Nat.le_refl _) (by omega) (by omega)
  rw [hx] at this
  exact this
theorem dgs1 (a : Nat) (ha : a < 18446744073709551616) : Dgs 18446744073709551616 [a] := by intro d hd; simp at hd; omega
theorem dgs2 (a b : Nat) (ha : a < 18446744073709551616) (hb : b < 18446744073709551616) : Dgs 18446744073709551616 [a, b] := by intro d hd; simp at hd; omega
theorem dgs3 (a b c : Nat) (ha : a < 18446744073709551616) (hb : b < 18446744073709551616) (hc : c < 18446744073709551616) : Dgs 18446744073709551616 [a, b, c] := by intro d hd; simp at hd; omega
theorem dg_two {a b : Nat} (ha : a < 18446744073709551616) (hb : b < 18446744073709551616) (h0 : b ≠ 0) : dg 18446744073709551616 (a + 18446744073709551616 * b) = [a, b] := by
  have h := dg_of (b := 18446744073709551616) (by decide) (l := [a, b]) (dgs2 a b ha hb) (by intro _; simpa using h0)
  rw [h]
  simp [dv]
theorem dg_one {a : Nat} (ha : a < 18446744073709551616) (h0 : a ≠ 0) : dg 18446744073709551616 a = [a] := by
  have h := dg_of (b := 18446744073709551616) (by decide) (l := [a]) (dgs1 a ha) (by intro _; simpa using h0)
  rw [h]
  simp [dv]
theorem up_alloc (w : World) (o : Obj) : Below w.heap.size w (w.alloc o) := (Below.refl _ w).alloc (Nat.le_refl _) o
theorem up2 {w0 w w' : World} (h : Below w0.heap.size w0 w) (hb : Below w.heap.size w w') : Below w0.heap.size w0 w' := keep_below h hb
theorem len_of {w : World} {x : Nat} {A : Option Addr} {n c : Nat} {l : List Nat} (h : WordsIn w x A n c) (hx : dg 18446744073709551616 x = l) : n = l.length := by rw [← h.len, hx]
end Go.Proofs.Ytnfednkphcapnaa
namespace Go.Proofs.Ytnfednkphcapnaa
open Go Go.RowKit
set_option linter.unusedVariables false
theorem arg_of {w : World} {A : Option Addr} {n c : Nat} {l : List Nat} (h : ArgWords w A n c l) : ∀ w', Below w.heap.size w w' → Calls Try.prog 38 #[.slice A n c] w' (GivesN2 w' (dv 18446744073709551616 l)) := fun w' hb =>
  nat_of A n c l w' ((h.reads.below hb).more hb.size) h.dgs h.fits (by have := h.small; omega) (by have := h.small; have := h.fits; omega)
/-- A number of at most so many words. -/
def Sz (K x : Nat) : Prop := x < 18446744073709551616 ^ K
theorem Sz.of_le {K x y : Nat} (h : Sz K x) (hy : y ≤ x) : Sz K y := Nat.lt_of_le_of_lt hy h
theorem Sz.up {K K' x : Nat} (h : Sz K x) (hk : K ≤ K') : Sz K' x := Nat.lt_of_lt_of_le h (Nat.pow_le_pow_right (by decide) hk)
theorem Sz.add {K x y : Nat} (h : Sz K x) (h' : Sz K y) : Sz (K + 1) (x + y) := by
  unfold Sz at *
  rw [Nat.pow_succ]
  omega
theorem Sz.mul {K K' x y : Nat} (h : Sz K x) (h' : Sz K' y) : Sz (K + K') (x * y) := by
  unfold Sz at *
  rw [Nat.pow_add]
  exact Nat.mul_lt_mul'' h h'
theorem Sz.len {K x : Nat} (h : Sz K x) : (dg 18446744073709551616 x).length ≤ K := dg_len_le (by decide) _ _ h
theorem Sz.words {K x : Nat} (h : Sz K x) {w : World} {A : Option Addr} {n c : Nat} (hw : WordsIn w x A n c) : n ≤ K := by rw [← hw.len]; exact h.len
theorem arg_sz {w : World} {A : Option Addr} {n c : Nat} {l : List Nat} (h : ArgWords w A n c l) : Sz 1048576 (dv 18446744073709551616 l) := by
  have h1 := dv_lt h.dgs
  have h2 := h.reads.len_
  have h3 := h.fits
  have h4 := h.small
  exact Sz.up (K := l.length) h1 (by omega)
theorem cmp_sz {K x y : Nat} (hx : Sz K x) (hy : Sz K y) (hK : K ≤ 1099511627776) {w : World} {A D : Option Addr} {n m c d : Nat} (hA : WordsIn w x A n c) (hD : WordsIn w y D m d) :
    Calls Try.prog 34 #[.agg #[.slice A n c], .agg #[.slice D m d]] w (SaysI w (cmpI x y)) :=
  nat_cmp x y A D n m c d w hA hD (Nat.le_trans (hx.words hA) hK) (Nat.le_trans (hy.words hD) hK)
theorem cmpI_01 {x y : Nat} (h : y ≤ x) : 0 ≤ cmpI x y ∧ cmpI x y ≤ 1 := by
  unfold cmpI
  rw [if_neg (by omega)]
  split <;> omega
theorem cmp_same {K x y : Nat} (hx : Sz K x) (h : x = y) (hK : K ≤ 1099511627776) {w : World} {A D : Option Addr} {n m c d : Nat} (hA : WordsIn w x A n c) (hD : WordsIn w y D m d) :
    Calls Try.prog 34 #[.agg #[.slice A n c], .agg #[.slice D m d]] w (SaysI w 0) := by
  have := cmp_sz hx (h ▸ hx) hK hA hD
  rw [cmpI_eq h] at this
  exact this
theorem cmpI_neg (x y : Nat) : IntKind.i64.wrap (-(cmpI y x)) = cmpI x y := by
  rcases Nat.lt_trichotomy x y with h | h | h
  · rw [cmpI_lt h, cmpI_gt h]; decide
  · rw [cmpI_eq h, cmpI_eq h.symm]; decide
  · rw [cmpI_gt h, cmpI_lt h]; decide
theorem cmpI_le0 (x y : Nat) : decide (cmpI x y ≤ 0) = decide (x ≤ y) := by
  rw [Bool.eq_iff_iff]
  simp only [decide_eq_true_eq]
  unfold cmpI
  split
  · omega
  · split <;> omega
theorem order_case (x y z : Nat) : decide (cmpI x y ≤ 0) = false ∨ (decide (cmpI x y ≤ 0) = true ∧ decide (cmpI y z ≤ 0) = false) ∨ (decide (cmpI x y ≤ 0) = true ∧ decide (cmpI y z ≤ 0) = true ∧ decide (0 < cmpI x z) = false) := by
  rw [cmpI_le0, cmpI_le0]
  by_cases h1 : x ≤ y
  · by_cases h2 : y ≤ z
    · refine .inr (.inr ⟨by simpa using h1, by simpa using h2, ?_⟩)
      have h3 : decide (cmpI x z ≤ 0) = true := by rw [cmpI_le0]; simp; omega
      simp only [decide_eq_true_eq] at h3
      simp only [decide_eq_false_iff_not]
      omega
    · exact .inr (.inl ⟨by simpa using h1, by simpa using h2⟩)
  · exact .inl (by simpa using h1)
theorem cmp_dg (x y : Nat) : (cmpI x y == 0) = decide (dg 18446744073709551616 x = dg 18446744073709551616 y) := by
  rw [Bool.eq_iff_iff]
  simp only [beq_iff_eq, decide_eq_true_eq]
  constructor
  · intro h
    have : x = y := by
      rcases Nat.lt_trichotomy x y with h1 | h1 | h1
      · rw [cmpI_lt h1] at h; omega
      · exact h1
      · rw [cmpI_gt h1] at h; omega
    rw [this]
  · intro h
    exact cmpI_eq (dg_inj (by decide) h)
end Go.Proofs.Ytnfednkphcapnaa
namespace Go.Proofs.Ytnfednkphcapnaa
open Go Go.RowKit
set_option linter.unusedVariables false
theorem zero_yes {x : Nat} (h : x = 0) {w : World} {A : Option Addr} {n c : Nat} (hA : WordsIn w x A n c) : Calls Try.prog 51 #[.agg #[.slice A n c]] w fun e w' => e = .returned (.bool true) ∧ Below w.heap.size w w' := by
  subst h
  obtain rfl : n = 0 := len_of hA (dg_zero _)
  exact nat_zero_yes A c w
theorem zero_no {x : Nat} (h : x ≠ 0) {w : World} {A : Option Addr} {n c : Nat} (hA : WordsIn w x A n c) : Calls Try.prog 51 #[.agg #[.slice A n c]] w fun e w' => e = .returned (.bool false) ∧ Below w.heap.size w w' :=
  nat_zero_no A n c (fun h0 => h (len_zero (by rw [hA.len]; exact h0))) w
theorem cmpLt {x y : Nat} (h : x < y) {w : World} {A D : Option Addr} {n m c d : Nat} (hA : WordsIn w x A n c) (hD : WordsIn w y D m d) (hn : n ≤ 1099511627776) (hm : m ≤ 1099511627776) :
    Calls Try.prog 34 #[.agg #[.slice A n c], .agg #[.slice D m d]] w (SaysI w (-1)) := by
  have := nat_cmp x y A D n m c d w hA hD hn hm
  rwa [cmpI_lt h] at this
theorem cmpGt {x y : Nat} (h : y < x) {w : World} {A D : Option Addr} {n m c d : Nat} (hA : WordsIn w x A n c) (hD : WordsIn w y D m d) (hn : n ≤ 1099511627776) (hm : m ≤ 1099511627776) :
    Calls Try.prog 34 #[.agg #[.slice A n c], .agg #[.slice D m d]] w (SaysI w 1) := by
  have := nat_cmp x y A D n m c d w hA hD hn hm
  rwa [cmpI_gt h] at this
theorem cmpEq {x y : Nat} (h : x = y) {w : World} {A D : Option Addr} {n m c d : Nat} (hA : WordsIn w x A n c) (hD : WordsIn w y D m d) (hn : n ≤ 1099511627776) (hm : m ≤ 1099511627776) :
    Calls Try.prog 34 #[.agg #[.slice A n c], .agg #[.slice D m d]] w (SaysI w 0) := by
  have := nat_cmp x y A D n m c d w hA hD hn hm
  rwa [cmpI_eq h] at this
theorem box4 (w : World) (t s r u : TypeId) (a b c d : Array Value) : Below w.heap.size w ((((w.alloc (.cells a t)).alloc (.cells b s)).alloc (.cells c r)).alloc (.cells d u)) ∧ Blk ((((w.alloc (.cells a t)).alloc (.cells b s)).alloc (.cells c r)).alloc (.cells d u)) w.heap.size t a ∧ Blk ((((w.alloc (.cells a t)).alloc (.cells b s)).alloc (.cells c r)).alloc (.cells d u)) (w.heap.size + 1) s b ∧ Blk ((((w.alloc (.cells a t)).alloc (.cells b s)).alloc (.cells c r)).alloc (.cells d u)) (w.heap.size + 1 + 1) r c ∧ Blk ((((w.alloc (.cells a t)).alloc (.cells b s)).alloc (.cells c r)).alloc (.cells d u)) (w.heap.size + 1 + 1 + 1) u d ∧ w.heap.size + 4 ≤ ((((w.alloc (.cells a t)).alloc (.cells b s)).alloc (.cells c r)).alloc (.cells d u)).heap.size := by
  obtain ⟨h1, h2, h3, h4, h5⟩ := box3 w t s r a b c
  have h6 := Blk.new (((w.alloc (.cells a t)).alloc (.cells b s)).alloc (.cells c r)) u d
  have e : (((w.alloc (.cells a t)).alloc (.cells b s)).alloc (.cells c r)).heap.size = w.heap.size + 1 + 1 + 1 := by simp
  rw [e] at h6
  exact ⟨h1.alloc h1.size _, h2.alloc _, h3.alloc _, h4.alloc _, h6, by simp⟩
end Go.Proofs.Ytnfednkphcapnaa
