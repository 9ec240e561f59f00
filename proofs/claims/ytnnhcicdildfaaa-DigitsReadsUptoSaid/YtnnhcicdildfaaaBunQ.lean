/-
  The contract of quot's guess: by the two highest words of a piece and of a divisor, how often one goes into the other, or one more. Conditions: the cells hold the words; the piece's highest word is not above the divisor's.
  The contracts of quot's subtract, addBack and takeOut: a divisor out of a piece of a row, as often as it goes in. Conditions: the row is the call's own; the divisor's words lie in another, earlier block; its highest bit is a 1; the piece without its lowest word is below it.
  The contract of quot's raised: a number's words, shifted up, in a row of the call's own of a given length. Conditions: the value is a number of up to 2 to the 38 words; the shift is below 64; the row is long enough.
  Plain arithmetic of a division as on paper: how far a divisor is shifted up, and what that changes. Conditions: none beyond each lemma's own.
-/
import Derived.Test.YtnnhcicdildfaaaRows
import Derived.Test.YtnnhcicdildfaaaBunM
import Derived.Test.YtnnhcicdildfaaaBunX
import Derived.Test.YtnnhcicdildfaaaBunW
import Derived.Test.YtnnhcicdildfaaaPMul
import Derived.Test.YtnnhcicdildfaaaBunS
import Derived.Test.YtnnhcicdildfaaaBunE
import Derived.Test.YtnnhcicdildfaaaNBits
import Derived.WalkKit
import Derived.Lib.Hide
import Derived.Outline
import Derived.IntWalk
import Derived.Deep.QuietTactic
import Derived.BigQuiet
import Derived.LoopTactic
import Derived.Deep.LoopGhost
import Derived.Maps.AppendAt
import Derived.RangeFuncBox
import Derived.Laws.CopyOwn
namespace Go.Proofs.Ytnnhcicdildfaaa
open Go Go.RowKit
set_option maxRecDepth 100000
set_option linter.unusedVariables false
/-- The guess. -/
def guessT (u2 u1 h : Nat) : Nat := if u2 < h then (u2 * 18446744073709551616 + u1) / h else 18446744073709551615
def guessR (u2 u1 h : Nat) : Nat := if u2 < h then (u2 * 18446744073709551616 + u1) % h else u1 + h
def guessN (u2 u1 h v : Nat) : Nat := if guessR u2 u1 h < guessT u2 u1 h * v / 18446744073709551616 ∧ guessR u2 u1 h < 18446744073709551616 then guessT u2 u1 h - 1 else guessT u2 u1 h
theorem guessT_lt {u2 u1 h : Nat} (hu : u1 < 18446744073709551616) : guessT u2 u1 h < 18446744073709551616 := by
  unfold guessT
  split
  · rename_i hc
    refine (Nat.div_lt_iff_lt_mul (by omega)).2 ?_
    have : (u2 + 1) * 18446744073709551616 ≤ h * 18446744073709551616 := Nat.mul_le_mul_right _ hc
    rw [Nat.mul_comm _ h]
    omega
  · decide
theorem guess_le {P D U h v M u2 u1 : Nat} (H : Two P D U h v M) (hU : U = u2 * 18446744073709551616 + u1) (hu : u1 < 18446744073709551616) : P / D ≤ guessN u2 u1 h v ∧ guessN u2 u1 h v ≤ P / D + 1 ∧ guessN u2 u1 h v < 18446744073709551616 := by
  have hh := H.hh
  have ht := H.top
  have hq := H.q.2.2
  have tb := guessT_lt (u2 := u2) (h := h) hu
  have e : guessT u2 u1 h * h + guessR u2 u1 h = U := by
    unfold guessT guessR
    split
    · rw [hU, Nat.mul_comm _ h, Nat.div_add_mod]
    · obtain rfl : u2 = h := by rw [hU] at ht; omega
      rw [hU]; omega
  have lo : P / D ≤ guessT u2 u1 h := by
    unfold guessT
    split
    · rw [← hU]
      exact (Nat.le_div_iff_mul_le (by omega)).2 H.le
    · omega
  have up : guessT u2 u1 h ≤ P / D + 2 := H.two (by omega) tb
  obtain ⟨t, hte⟩ : ∃ t, guessT u2 u1 h = t := ⟨_, rfl⟩
  obtain ⟨r, hre⟩ : ∃ r, guessR u2 u1 h = r := ⟨_, rfl⟩
  unfold guessN
  rw [hte] at lo up tb e
  rw [hre] at e
  rw [hte, hre]
  obtain ⟨q, hqe⟩ : ∃ q, P / D = q := ⟨_, rfl⟩
  have vb := H.vb
  have h2 : t * v / 18446744073709551616 < 18446744073709551616 := by
    refine (Nat.div_lt_iff_lt_mul (by decide)).2 ?_
    exact Nat.lt_of_le_of_lt (Nat.mul_le_mul (show t ≤ 18446744073709551615 by omega) (show v ≤ 18446744073709551615 by omega)) (by decide)
  have d1 := H.dec (t := t) (r := r) e
  have d2 := H.one (t := t) (r := r) e tb
  rw [hqe] at lo up hq d1 d2 ⊢
  obtain ⟨x, hx⟩ : ∃ x, t * v / 18446744073709551616 = x := ⟨_, rfl⟩
  rw [hx] at h2
  split
  · rename_i hc
    rw [hx] at hc
    have h1 := d1 ((Nat.le_div_iff_mul_le (by decide)).1 (by rw [hx]; omega))
    clear d1 d2
    omega
  · rename_i hc
    rw [hx] at hc
    have h1 := d2 ((Nat.div_lt_iff_lt_mul (by decide)).1 (by rw [hx]; omega))
    clear d1 d2
    omega
theorem div_nat (hi lo y : Nat) (h1 : hi < y) (hy : y < 18446744073709551616) (hl : lo < 18446744073709551616) (w : World) :
    Calls Try.prog 49 #[.int .u64 hi, .int .u64 lo, .int .u64 y] w fun e w' => e = .returned (.tuple #[.int .u64 (((hi * 18446744073709551616 + lo) / y : Nat) : Int), .int .u64 (((hi * 18446744073709551616 + lo) % y : Nat) : Int), .bool true]) ∧ ∃ n, w' = w.drewN n := by
  have h := word_div_yes hi lo y ⟨by omega, by omega⟩ (by omega) (by omega) ⟨by omega, by omega⟩ w
  rw [show divQ (hi : Int) (lo : Int) (y : Int) = (((hi * 18446744073709551616 + lo) / y : Nat) : Int) from by unfold divQ; simp, show divR (hi : Int) (lo : Int) (y : Int) = (((hi * 18446744073709551616 + lo) % y : Nat) : Int) from by unfold divR; simp] at h
  exact h
/-- What the guess says, over a world that may draw. -/
def SaysU (w : World) (t : Nat) (e : Ending) (w' : World) : Prop := e = .returned (.int .u64 (t : Int)) ∧ ∃ n, w' = w.drewN n
end Go.Proofs.Ytnnhcicdildfaaa
namespace Go.Proofs.Ytnnhcicdildfaaa
open Go Go.RowKit
set_option maxRecDepth 100000
set_option linter.unusedVariables false
/-- Nothing that was there has turned but block g. -/
def Off (g : Nat) (w w' : World) : Prop := w.grownBy w' (some g)
section
variable {g : Nat} {w w' w2 : World}
theorem Off.refl (g : Nat) (w : World) : Off g w w := ⟨rfl, rfl, rfl, Nat.le_refl _, fun _ _ _ => rfl⟩
theorem Off.trans (h : Off g w w') (k : Off g w' w2) : Off g w w2 :=
  ⟨k.os.trans h.os, k.tape.trans h.tape, k.output.trans h.output, Nat.le_trans h.size k.size, fun i hi hne => (k.block i (Nat.lt_of_lt_of_le hi h.size) hne).trans (h.block i hi hne)⟩
theorem Off.set_ (h : Off g w w') (k : Nat) (u : Value) : Off g w (w'.setCell ⟨g, k, none⟩ u) :=
  h.trans ⟨rfl, rfl, rfl, by simp [World.setCell], fun i _ hne => Below.heap_setCell _ _ _ i (fun e => hne (by rw [e]))⟩
theorem Off.drewN (h : Off g w w') (n : Nat) : Off g w (w'.drewN n) := ⟨h.os, h.tape, h.output, h.size, h.block⟩
theorem Off.blk {b : Nat} {t : TypeId} {cs : Array Value} (h : Off g w w') (hb : Blk w b t cs) (hne : b ≠ g) : Blk w' b t cs := hb.grown h (fun e => hne (by injection e))
theorem Off.reads {n : Nat} {A : Option Addr} {xs : List Value} (h : Off g w w') (hr : Reads w g 1 A n xs) (hg : g ≤ w.heap.size) : Reads w' g 1 A n xs := hr.grown h hg (fun _ e => by cases e; exact Nat.le_refl _)
theorem Off.below {B : Nat} {w0 : World} (h : Off g w w') (hb : Below B w0 w) (hB : B ≤ w.heap.size) (hg : B ≤ g) : Below B w0 w' := hb.grown h hB (fun _ e => by cases e; exact hg)
theorem Off.cell {p : Addr} {v : Value} (h : Off g w w') (hc : w.cell? p = some v) (hne : p.block ≠ g) : w'.cell? p = some v := World.grownBy.cell h hc (fun e => hne (by injection e))
end
theorem mid_get {A p C : List Nat} {k j : Nat} (hA : A.length = k) (hj : j < p.length) : (A ++ p ++ C).getD (k + j) 0 = p.getD j 0 := by
  simp only [List.getD_eq_getElem?_getD]
  rw [List.append_assoc, List.getElem?_append_right (by omega), List.getElem?_append_left (by omega), hA, Nat.add_sub_cancel_left]
theorem mid_set {A p C : List Nat} {k j d : Nat} (hA : A.length = k) (hj : j < p.length) : (A ++ p ++ C).set (k + j) d = A ++ p.set j d ++ C := by
  rw [List.append_assoc, List.set_append_right _ _ (by omega), hA, Nat.add_sub_cancel_left, List.set_append_left _ _ hj, List.append_assoc]
theorem muladd0 (p q r : Nat) (hp : p < 18446744073709551616) (hq : q < 18446744073709551616) (hr : r < 18446744073709551616) (w : World) :
    Calls Try.prog 45 #[.int .u64 p, .int .u64 q, .int .u64 r, .int .u64 0] w fun e w' => e = .returned (.tuple #[.int .u64 (((p * q + r + 0) / 18446744073709551616 : Nat) : Int), .int .u64 (((p * q + r + 0) % 18446744073709551616 : Nat) : Int)]) ∧ w = w' :=
  muladd_nat p q r 0 hp hq hr (by decide) w
/-- What subtract says and leaves. -/
def TakesR (w : World) (ty : TypeId) (g cap N m t : Nat) (A p C Ld : List Nat) (e : Ending) (w' : World) : Prop :=
  ∃ (b : Nat) (p' : List Nat), e = .returned (.bool (b == 1)) ∧ b ≤ 1 ∧ p'.length = m + 1 ∧ Dgs 18446744073709551616 p' ∧ dv 18446744073709551616 p' + t * dv 18446744073709551616 Ld = dv 18446744073709551616 p + 18446744073709551616 ^ (m + 1) * b ∧ Row64 w' ty g cap N (A ++ p' ++ C) ∧ Off g w w'
/-- What addBack leaves. -/
def BacksR (w : World) (ty : TypeId) (g cap N m : Nat) (A p C Ld : List Nat) (e : Ending) (w' : World) : Prop :=
  ∃ (v : Value) (p' : List Nat), e = .returned v ∧ p'.length = m + 1 ∧ Dgs 18446744073709551616 p' ∧ dv 18446744073709551616 p' = (dv 18446744073709551616 p + dv 18446744073709551616 Ld) % 18446744073709551616 ^ (m + 1) ∧ Row64 w' ty g cap N (A ++ p' ++ C) ∧ Off g w w'
/-- What takeOut says and leaves. -/
def OutR (w : World) (ty : TypeId) (g cap N m : Nat) (A p C Ld : List Nat) (e : Ending) (w' : World) : Prop :=
  ∃ p' : List Nat, e = .returned (.int .u64 ((dv 18446744073709551616 p / dv 18446744073709551616 Ld : Nat) : Int)) ∧ p'.length = m + 1 ∧ Dgs 18446744073709551616 p' ∧ dv 18446744073709551616 p' = dv 18446744073709551616 p % dv 18446744073709551616 Ld ∧ Row64 w' ty g cap N (A ++ p' ++ C) ∧ Off g w w'
end Go.Proofs.Ytnnhcicdildfaaa
namespace Go.Proofs.Ytnnhcicdildfaaa
open Go Go.RowKit
set_option maxRecDepth 100000
set_option linter.unusedVariables false
/-- A row of the call's own, N words, that comes to X. -/
def GivesRow (w : World) (ty : TypeId) (N X : Nat) (e : Ending) (w' : World) : Prop :=
  ∃ (g : Nat) (L : List Nat), e = .returned (.slice (some ⟨g, 0, none⟩) N N) ∧ w.heap.size ≤ g ∧ Row64 w' ty g N N L ∧ Dgs 18446744073709551616 L ∧ dv 18446744073709551616 L = X ∧ Below w.heap.size w w'
theorem dv_pad (b : Nat) (l : List Nat) (n : Nat) : dv b (l ++ List.replicate n 0) = dv b l := by rw [dv_append, dv_zeros, Nat.mul_zero, Nat.add_zero]
end Go.Proofs.Ytnnhcicdildfaaa
namespace Go.Proofs.Ytnnhcicdildfaaa
open Go Go.RowKit
set_option linter.unusedVariables false
theorem norm_up {d m : Nat} (hd : (dg 18446744073709551616 d).length = m + 1) : ∃ up : Nat, (64 - lenN ((wd d m : Nat) : Int) = (up : Int)) ∧ up ≤ 63 ∧ 2 ^ up * d < 18446744073709551616 ^ (m + 1) ∧ 18446744073709551616 ≤ 2 * (2 ^ up * d / 18446744073709551616 ^ m) := by
  obtain ⟨h1, h2, _⟩ := bitLen_topB hd
  have h3 := wd_lt d m
  obtain ⟨up, e, hu, hlo, hhi⟩ := len_norm ((wd d m : Nat) : Int) (by omega) (by omega)
  refine ⟨up, e, hu, ?_, ?_⟩
  · obtain ⟨t, ht⟩ : ∃ t, wd d m = t := ⟨_, rfl⟩
    rw [ht] at h1 hhi
    have h4 : t * 2 ^ up < 2 ^ (64 - up) * 2 ^ up := by
      rw [← Nat.pow_add, show 64 - up + up = 64 from by omega]
      have : ((t * 2 ^ up : Nat) : Int) < ((2 ^ 64 : Nat) : Int) := by
        rw [Int.natCast_mul, Int.natCast_pow]
        exact hhi
      omega
    have h5 : t + 1 ≤ 2 ^ (64 - up) := Nat.lt_of_mul_lt_mul_right h4
    have h6 : d < (t + 1) * 18446744073709551616 ^ m := by
      have := Nat.lt_div_mul_add (a := d) (b := 18446744073709551616 ^ m) (Nat.pow_pos (by decide))
      rw [← h1] at this
      rw [Nat.add_mul, Nat.one_mul]
      exact this
    have h7 : d < 2 ^ (64 - up) * 18446744073709551616 ^ m := Nat.lt_of_lt_of_le h6 (Nat.mul_le_mul_right _ h5)
    have h8 : 2 ^ up * d < 2 ^ up * (2 ^ (64 - up) * 18446744073709551616 ^ m) := (Nat.mul_lt_mul_left (Nat.two_pow_pos up)).2 h7
    rw [← Nat.mul_assoc, ← Nat.pow_add, show up + (64 - up) = 64 from by omega] at h8
    rw [Nat.pow_succ']
    exact h8
  · rw [h1] at hlo
    obtain ⟨t, ht⟩ : ∃ t, d / 18446744073709551616 ^ m = t := ⟨_, rfl⟩
    rw [ht] at hlo
    have h4 : t * 2 ^ up ≤ 2 ^ up * d / 18446744073709551616 ^ m := by
      refine (Nat.le_div_iff_mul_le (Nat.pow_pos (by decide))).2 ?_
      rw [Nat.mul_comm t, Nat.mul_assoc, ← ht]
      exact Nat.mul_le_mul_left _ (Nat.div_mul_le_self _ _)
    have h5 : ((9223372036854775808 : Nat) : Int) ≤ ((t * 2 ^ up : Nat) : Int) := by
      rw [Int.natCast_mul, Int.natCast_pow]
      exact hlo
    omega
theorem norm_len {x n up : Nat} (hx : (dg 18446744073709551616 x).length = n) (hu : up ≤ 63) : (dg 18446744073709551616 (2 ^ up * x)).length ≤ n + 1 := by
  have h := dg_lt (b := 18446744073709551616) (by decide) x
  rw [hx] at h
  refine dg_len_le (by decide) _ _ ?_
  rw [Nat.pow_succ']
  exact Nat.mul_lt_mul'' (Nat.lt_of_le_of_lt (Nat.pow_le_pow_right (by decide) hu) (by decide)) h
theorem norm_first {x d n m k up : Nat} (hx : (dg 18446744073709551616 x).length = n) (hd : (dg 18446744073709551616 d).length = m + 1) (hk : m + k = n) : 2 ^ up * x / 18446744073709551616 ^ k < 2 ^ up * d := by
  refine (Nat.div_lt_iff_lt_mul (Nat.pow_pos (by decide))).2 ?_
  have h := dg_lt (b := 18446744073709551616) (by decide) x
  rw [hx, ← hk, Nat.pow_add] at h
  have h0 : d ≠ 0 := fun e => by rw [e, dg_zero] at hd; simp at hd
  have h2 := (dg_ge (b := 18446744073709551616) (by decide) d h0).2
  rw [hd, Nat.add_sub_cancel] at h2
  rw [Nat.mul_assoc]
  refine (Nat.mul_lt_mul_left (Nat.two_pow_pos up)).2 ?_
  exact Nat.lt_of_lt_of_le h (Nat.mul_le_mul_right _ h2)
theorem norm_top {D m : Nat} {L : List Nat} (hl : L.length = m + 1) (hd : Dgs 18446744073709551616 L) (hv : dv 18446744073709551616 L = D) (h : 18446744073709551616 ≤ 2 * (D / 18446744073709551616 ^ m)) : 18446744073709551616 ≤ 2 * L.getD m 0 := by
  rw [dv_getD (by decide) hd, hv]
  have h1 := dv_lt hd
  rw [hl, hv, Nat.pow_succ] at h1
  have h2 : D / 18446744073709551616 ^ m < 18446744073709551616 := (Nat.div_lt_iff_lt_mul (Nat.pow_pos (by decide))).2 (by rw [Nat.mul_comm]; exact h1)
  rw [Nat.mod_eq_of_lt h2]
  exact h
theorem norm_quot (x d up : Nat) : 2 ^ up * x / (2 ^ up * d) = x / d ∧ 2 ^ up * x % (2 ^ up * d) / 2 ^ up = x % d := by
  refine ⟨Nat.mul_div_mul_left _ _ (Nat.two_pow_pos up), ?_⟩
  rw [Nat.mul_mod_mul_left, Nat.mul_div_cancel_left _ (Nat.two_pow_pos up)]
end Go.Proofs.Ytnnhcicdildfaaa
