/-
  The contracts of digits' appendPiece and of slices.Reverse of bytes. Conditions: the text is a row of the call's own.
-/
import Derived.Test.YtnnhcicdildfaaaRows
import Derived.Test.YtnnhcicdildfaaaH6Small
import Derived.Test.YtnnhcicdildfaaaBunE
import Derived.Test.YtnnhcicdildfaaaBunQ
import Derived.WalkKit
import Derived.Lib.Hide
import Derived.Outline
import Derived.LoopTactic
import Derived.Deep.LoopGhost
import Derived.IntWalk
import Derived.Maps.AppendAt
namespace Go.Proofs.Ytnnhcicdildfaaa
open Go Go.RowKit
set_option maxRecDepth 100000
set_option linter.unusedVariables false
set_option linter.unusedSimpArgs false
theorem infoB : (Try.prog.info? 5).map (fun i => (i.zero, i.size, i.bytes)) = some (some (.int .u8 0), 1, 1) := by kernel_rfl
/-- From one world to a later one nothing has turned but a row of the call's own, which may have moved to new memory. -/
structure Grew (w : World) (v : Value) (w' : World) (v' : Value) : Prop where
  grown : w.grownBy w' v.ownBlock
  at_ : v'.ownBlock = v.ownBlock ∨ ∀ g, v'.ownBlock = some g → w.heap.size ≤ g
theorem Grew.refl (w : World) (v : Value) : Grew w v w v := ⟨World.grownBy.refl _ _, .inl rfl⟩
theorem Grew.alloc (w : World) (v : Value) (o : Obj) : Grew w v (w.alloc o) v := ⟨World.grownBy_alloc w o _, .inl rfl⟩
theorem Grew.trans {w w1 w2 : World} {v v1 v2 : Value} (h : Grew w v w1 v1) (k : Grew w1 v1 w2 v2) : Grew w v w2 v2 := by
  refine ⟨⟨k.grown.os.trans h.grown.os, k.grown.tape.trans h.grown.tape, k.grown.output.trans h.grown.output, Nat.le_trans h.grown.size k.grown.size, fun i hi hne => ?_⟩, ?_⟩
  · refine (k.grown.block i (Nat.lt_of_lt_of_le hi h.grown.size) (fun e => ?_)).trans (h.grown.block i hi hne)
    rcases h.at_ with h1 | h1
    · exact hne (by rw [e, h1])
    · have := h1 i e.symm; omega
  · rcases k.at_ with k1 | k1
    · rw [k1]; exact h.at_
    · exact .inr fun g hg => Nat.le_trans h.grown.size (k1 g hg)
theorem Grew.below {w w' : World} {v : Value} (hb : Below w.heap.size w w') : Grew w v w' v := ⟨⟨hb.os, hb.tape, hb.output, hb.size, fun i hi _ => hb.block i hi⟩, .inl rfl⟩
/-- The lowest n digits of a number, the lowest first. -/
def lowD (n p : Nat) : List Nat := (List.range n).map fun k => p / 10 ^ k % 10
theorem lowD_len (n p : Nat) : (lowD n p).length = n := by simp [lowD]
theorem lowD_succ (n p : Nat) : lowD (n + 1) p = lowD n p ++ [p / 10 ^ n % 10] := by simp [lowD, List.range_succ]
theorem lowD_dgs (n p : Nat) : Dgs 10 (lowD n p) := by
  intro d hd
  obtain ⟨j, _, rfl⟩ := List.mem_map.1 hd
  exact Nat.mod_lt _ (by decide)
theorem lowD_dv (p : Nat) : ∀ n, dv 10 (lowD n p) = p % 10 ^ n
  | 0 => by simp [lowD, dv, Nat.mod_one]
  | n + 1 => by rw [lowD_succ, dv_snoc, lowD_dv p n, lowD_len, mod_step_b 10 p n]
/-- What appendPiece gives: the text, with the digits of a piece behind it, in a row of the call's own. -/
def GivesPiece (base : Nat) (w : World) (v : Value) (n p : Nat) (xs : List Value) (e : Ending) (w' : World) : Prop :=
  ∃ v', e = .returned v' ∧ w'.ownsRow base 5 1 v' (n + 19) (xs ++ vals .u8 (chN (lowD 19 p))) ∧ Grew w v w' v'
set_option maxHeartbeats 4000000 in
theorem digits_appendPiece (base n p : Nat) (v : Value) (xs : List Value) (w : World) (hv : w.ownsRow base 5 1 v n xs) (hb : base ≤ w.heap.size) (hn : n ≤ 1099511627776) (hp : p < 18446744073709551616) :
    Calls Try.prog 33 #[v, .int .u64 (p : Int)] w (GivesPiece base w v n p xs) := by
  obtain ⟨i0, hi0, hz0, hz1, hz2⟩ := info_parts infoB
  have HV := Lib.hid hv
  have HG := Grew.refl w v
  go_enter Try.func33, Try.ntmps33
  go_wp2
  go_loopg [0, 1, 5] 20 (fun g t q i wr => ∃ (k : Nat) (tv : Value), tv = t ∧ k ≤ 19 ∧ 19 < g + k ∧ i = .int .i64 k ∧ q = .int .u64 ((p / 10 ^ k : Nat) : Int) ∧ wr.ownsRow base 5 1 tv (n + k) (xs ++ vals .u8 (chN (lowD k p))) ∧ Grew w v wr tv)
  case atStart => exact ⟨0, _, rfl, by omega, by omega, rfl, by simp, by simpa [lowD, chN, vals] using HV.out, HG⟩
  case round =>
    clear hv HG
    obtain ⟨k, tv, rfl, hk, hg, rfl, rfl, hown, hG⟩ := hrel
    have hbw : base ≤ wr.heap.size := Nat.le_trans hb hG.grown.size
    by_cases hlt : k < 19
    · have HST := Lib.hid (lowD_succ k p)
      have hdv : p / 10 ^ (k + 1) = p / 10 ^ k / 10 := by rw [Nat.pow_succ, Nat.div_div_eq_div_mul]
      have hql : p / 10 ^ k < 18446744073709551616 := Nat.lt_of_le_of_lt (Nat.div_le_self _ _) hp
      obtain ⟨q, hq⟩ : ∃ q, p / 10 ^ k = q := ⟨_, rfl⟩
      rw [hq] at HST hdv hql ⊢
      have HDV := Lib.hid hdv
      clear hq hdv
      have j1 : IntKind.u8.wrap ((q : Int) % 10) = ((q % 10 : Nat) : Int) := by simp [IntKind.wrap, IntKind.bits, IntKind.signed]; omega
      have j2 : IntKind.u8.wrap (48 + ((q % 10 : Nat) : Int)) = ((48 + q % 10 : Nat) : Int) := by simp [IntKind.wrap, IntKind.bits, IntKind.signed]; omega
      go_wp2_with (at_builtin; refine wpList_append_any _ rfl (.tmp 7) (.tmp 12) 30 rfl base 5 i0 (.int .u8 0) 1 1 Try.underlying30 hi0 hz0 hz1 hz2 rfl (by decide) tv (n + k) (xs ++ vals .u8 (chN (lowD k p))) rfl (hown.alloc _) (wr.heap.size + 1) (some ⟨wr.heap.size, 0, none⟩) 1 1 [.int .u8 ((48 + q % 10 : Nat) : Int)] rfl ⟨rfl, fun _ => ⟨_, rfl, by simp, push_cells _ _ _⟩⟩ (push_one _ _) (by unfold maxLen; omega) (by omega) (by simp; omega) ?_; intro v' w1 hown' hgrow hat)
      have hG2 : Grew w v w1 v' := hG.trans ((Grew.alloc wr tv _).trans ⟨hgrow, hat.imp id fun h g hg => by rw [h] at hg; cases hg; exact Nat.le_refl _⟩)
      have hown2 : w1.ownsRow base 5 1 v' (n + (k + 1)) (xs ++ vals .u8 (chN (lowD (k + 1) p))) := by
        rw [HST.out, chN_append, vals_append, ← List.append_assoc]; exact hown'
      clear hown' hgrow hat hown hG HST
      go_wp2
      go_roundg (19 - k)
      case measure => omega
      case rel => exact ⟨k + 1, v', rfl, by omega, by omega, by go_num, by rw [HDV.out]; go_num, hown2, hG2⟩
    · have hk19 : k = 19 := by omega
      subst hk19
      go_wp2
      go_ret
      exact ⟨_, rfl, hown, hG⟩
end Go.Proofs.Ytnnhcicdildfaaa
