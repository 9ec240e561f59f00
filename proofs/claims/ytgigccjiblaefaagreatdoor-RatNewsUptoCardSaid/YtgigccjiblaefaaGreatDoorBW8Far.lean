/- What this claim leans on. -/
import Derived.Test.YtgigccjiblaefaaGreatDoorBP8C
namespace Go.Proofs.YtgigccjiblaefaaGreatDoor
open Go Go.RowKit
set_option linter.unusedVariables false
def zdD (g : Nat) (w w' : World) : Prop := w'.heap.size = w.heap.size ∧ ∀ p : Addr, p.block ≠ g → w'.cell? p = w.cell? p
theorem zdD.refl (g : Nat) (w : World) : zdD g w w := ⟨rfl, fun _ _ => rfl⟩
theorem zdD.set_ {g : Nat} {w w' : World} (h : zdD g w w') (j : Nat) (v : Value) : zdD g w (w'.setCell ⟨g, j, none⟩ v) :=
 ⟨by rw [← h.1]; simp, fun p hp => (World.cell?_setCell_other w' ⟨g, j, none⟩ p v (fun e => hp (by first | rw [e] | rw [← e]))).trans (h.2 p hp)⟩
theorem zcz (w : World) (g : Nat) (v0 : Value) : zdD g w (w.setCell ⟨g, 0, none⟩ v0) := (zdD.refl g w).set_ 0 v0
theorem zer (w : World) (g : Nat) (v0 v1 : Value) : zdD g w ((w.setCell ⟨g, 0, none⟩ v0).setCell ⟨g, 1, none⟩ v1) := (zcz w g v0).set_ 1 v1
theorem off3 (w : World) (g : Nat) (v0 v1 v2 : Value) : zdD g w (((w.setCell ⟨g, 0, none⟩ v0).setCell ⟨g, 1, none⟩ v1).setCell ⟨g, 2, none⟩ v2) := (zer w g v0 v1).set_ 2 v2
def NoU (cs : Array Value) : Prop := ∀ v ∈ cs.toList, ∀ k z, v ≠ .int k z
theorem NoU.s1 (q : Option Addr) (r s : Nat) : NoU #[.slice q r s] := by intro v hv k z e; simp at hv; subst hv; cases e
theorem NoU.s2 (p : Bool) (q : Option Addr) (r s : Nat) : NoU #[.bool p, .slice q r s] := by intro v hv k z e; simp at hv; rcases hv with rfl | rfl <;> cases e
theorem NoU.s3 (p : Bool) (q : Option Addr) (r s : Nat) (q2 : Option Addr) (r2 s2 : Nat) : NoU #[.bool p, .slice q r s, .slice q2 r2 s2] := by intro v hv k z e; simp at hv; rcases hv with rfl | rfl | rfl <;> cases e
theorem zda : NoU #[.slice none 0 0] := NoU.s1 _ _ _
theorem zfJ : NoU #[.bool false, .slice none 0 0] := NoU.s2 _ _ _ _
theorem nou3 : NoU #[.bool false, .slice none 0 0, .slice none 0 0] := NoU.s3 _ _ _ _ _ _ _
theorem zkp {w : World} {A : Option Addr} {n g : Nat} {k : IntKind} {l : List Nat} {t : TypeId} {cs : Array Value} (h : zap w w.heap.size 1 A n (zar k l)) (hk : Blk w g t cs) (hcs : NoU cs) : 0 < n → ∀ ad, A = some ad → ad.block ≠ g := fun hn ad e hg => by
 have hl := h.len_
 obtain ⟨ad', e', _, hc⟩ := h.2 hn
 rw [e] at e'
 injection e' with e'
 subst e'
 have h0 := hc 0 (.int k (l.getD 0 0 : Nat)) (zbO k _ 0 (by omega))
 have e0 : ad.add 0 = ad := by unfold Addr.add; rw [if_pos rfl]
 rw [e0] at h0
 obtain ⟨bk, off, pr⟩ := ad
 simp only at hg
 subst hg
 unfold Blk at hk
 cases pr with
 | none =>
   rw [show w.cell? ⟨bk, off, none⟩ = cs[off]? from cell_of_row w bk off _ t (0, 0) hk, ← Array.getElem?_toList] at h0
   exact hcs _ (List.mem_of_getElem? h0) _ _ rfl
 | some q => simp [World.cell?, hk] at h0
theorem zgw {w w' : World} {A : Option Addr} {n g : Nat} {k : IntKind} {l : List Nat} {t : TypeId} {cs : Array Value} (h : zap w w.heap.size 1 A n (zar k l)) (hk : Blk w g t cs) (hcs : NoU cs) (ho : zdD g w w') : zap w' w'.heap.size 1 A n (zar k l) := by
 have hne := zkp h hk hcs
 refine ⟨h.1, fun hn => ?_⟩
 obtain ⟨ad, e, hb, hc⟩ := h.2 hn
 refine ⟨ad, e, by rw [ho.1]; exact hb, fun j v hv => ?_⟩
 rw [ho.2 (ad.add j) (by rw [zaF]; exact hne hn ad e)]
 exact hc j v hv
theorem zay {w w' : World} {x : Nat} {A : Option Addr} {n c g : Nat} {t : TypeId} {cs : Array Value} (h : zag w x A n c) (hk : Blk w g t cs) (hcs : NoU cs) (ho : zdD g w w') : zag w' x A n c := ⟨zgw h.1 hk hcs ho, h.2⟩
theorem zbn {w w' : World} {z : Int} {b : Bool} {A : Option Addr} {n c g : Nat} {t : TypeId} {cs : Array Value} (h : zas w z b A n c) (hk : Blk w g t cs) (hcs : NoU cs) (ho : zdD g w w') : zas w' z b A n c := ⟨h.1, zay h.2 hk hcs ho⟩
theorem zeB {w w' : World} {r : Rat} {b : Bool} {A : Option Addr} {n c : Nat} {E : Option Addr} {k f : Nat} {g : Nat} {t : TypeId} {cs : Array Value} (h : zaq w r b A n c E k f) (hk : Blk w g t cs) (hcs : NoU cs) (ho : zdD g w w') : zaq w' r b A n c E k f := by
 refine ⟨zbn h.1 hk hcs ho, ?_⟩
 obtain ⟨x, e, hx⟩ := h.2
 exact ⟨x, e, zay hx hk hcs ho⟩
def SzQ (K : Nat) (r : Rat) : Prop := LtQ (18446744073709551616 ^ K) r
theorem SzQ.up {K K' : Nat} {r : Rat} (h : SzQ K r) (hk : K ≤ K') : SzQ K' r := LtQ.up h (Nat.pow_le_pow_right (by decide) hk)
theorem zjI (K K' : Nat) : 2 * (18446744073709551616 ^ K * 18446744073709551616 ^ K') ≤ 18446744073709551616 ^ (K + K' + 1) := by
 rw [Nat.pow_succ, Nat.pow_add, Nat.mul_comm]
 exact Nat.mul_le_mul_left _ (by decide)
theorem SzQ.add {K K' : Nat} {r s : Rat} (h : SzQ K r) (h' : SzQ K' s) : SzQ (K + K' + 1) (r + s) := LtQ.up (LtQ.add h h') (zjI K K')
theorem SzQ.mul {K K' : Nat} {r s : Rat} (h : SzQ K r) (h' : SzQ K' s) : SzQ (K + K') (r * s) := LtQ.up (LtQ.mul h h') (by rw [Nat.pow_add]; exact Nat.le_refl _)
theorem SzQ.div {K K' : Nat} {r s : Rat} (h : SzQ K r) (h' : SzQ K' s) : SzQ (K + K') (r / s) := LtQ.up (LtQ.div h h') (by rw [Nat.pow_add]; exact Nat.le_refl _)
theorem SzQ.neg {K : Nat} {r : Rat} (h : SzQ K r) : SzQ K (-r) := LtQ.neg h
theorem SzQ.inv {K : Nat} {r : Rat} (h : SzQ K r) : SzQ K r⁻¹ := LtQ.inv h
theorem SzQ.abs {K : Nat} {r : Rat} (h : SzQ K r) : SzQ K r.abs := by
 unfold Rat.abs
 split
 ·exact h
 ·exact h.neg
theorem SzQ.num {K : Nat} {r : Rat} (h : SzQ K r) : Sz K r.num.natAbs := h.1
theorem SzQ.den {K : Nat} {r : Rat} (h : SzQ K r) : Sz K r.den := h.2
theorem zcb {K : Nat} (h : 0 < K) : 1 < 18446744073709551616 ^ K := Nat.one_lt_pow (by omega) (by decide)
theorem SzQ.made {K : Nat} {p q : Int} (h : Sz K p.natAbs) (h' : Sz K q.natAbs) (hK : 0 < K) : SzQ K (Rat.divInt p q) := LtQ.made h h' (zcb hK)
theorem SzQ.zero : SzQ 1 (0 : Rat) := ⟨by decide, by decide⟩
theorem zeG (r : Rat) : r.floor.natAbs ≤ r.num.natAbs := by
 rw [Rat.floor_def]
 exact Int.natAbs_ediv_le_natAbs _ _
theorem zij (r : Rat) : r.ceil.natAbs ≤ r.num.natAbs := by
 rw [Rat.ceil_eq_neg_floor_neg, Int.natAbs_neg]
 have := zeG (-r)
 rwa [Rat.neg_num, Int.natAbs_neg] at this
theorem SzQ.floor {K : Nat} {r : Rat} (h : SzQ K r) : Sz K r.floor.natAbs := h.num.of_le (zeG r)
theorem SzQ.ceil {K : Nat} {r : Rat} (h : SzQ K r) : Sz K r.ceil.natAbs := h.num.of_le (zij r)
theorem SzQ.fit {K : Nat} {r : Rat} (h : SzQ K r) {w : World} {b : Bool} {A : Option Addr} {n c : Nat} {E : Option Addr} {k f : Nat} (hr : zaq w r b A n c E k f) (hK : K ≤ 67108864) : zaC n k := by
 refine ⟨Nat.le_trans (h.num.words hr.1.2) (Nat.le_trans hK (by decide)), ?_⟩
 obtain ⟨x, ⟨e, _⟩, hx⟩ := hr.2
 have hd : Sz K x := h.den.of_le (by rw [e]; split <;> omega)
 exact Nat.le_trans (hd.words hx) (Nat.le_trans hK (by decide))
def zcq (D : List Nat) (a0 a : Act) : Prop := a.defers = a0.defers ∧ a.tmps.size = a0.tmps.size ∧ ∀ j, j ∉ D → a.tmps.getD j undef = a0.tmps.getD j undef
theorem zcq.refl (D : List Nat) (a : Act) : zcq D a a := ⟨rfl, rfl, fun _ _ => rfl⟩
theorem rd_ne {a : Act} {i j : Nat} (h : j ≠ i) (v : Value) : (a.put (some i) v).tmps.getD j undef = a.tmps.getD j undef := by
 simp only [Act.put, Array.getD_eq_getD_getElem?]
 rw [Array.getElem?_setIfInBounds_ne (Ne.symm h)]
theorem zaD {a : Act} {i : Nat} (h : i < a.tmps.size) (v : Value) : (a.put (some i) v).tmps.getD i undef = v := by
 simp only [Act.put, Array.getD_eq_getD_getElem?]
 rw [Array.getElem?_setIfInBounds_self_of_lt h]
 rfl
theorem zes (a : Act) (i : Nat) (v : Value) : (a.put (some i) v).tmps.size = a.tmps.size := by simp [Act.put]
theorem zcq.put {D : List Nat} {a0 a : Act} (h : zcq D a0 a) {i : Nat} (hi : i ∈ D) (v : Value) : zcq D a0 (a.put (some i) v) :=
 ⟨h.1, by rw [zes]; exact h.2.1, fun j hj => (rd_ne (fun e => hj (by rw [e]; exact hi)) v).trans (h.2.2 j hj)⟩
theorem zcq.get {D : List Nat} {a0 a : Act} (h : zcq D a0 a) (j : Nat) (hj : j ∉ D) {v : Value} (hv : a0.tmps.getD j undef = v) : a.tmps.getD j undef = v := (h.2.2 j hj).trans hv
theorem zcq.lt {D : List Nat} {a0 a : Act} (h : zcq D a0 a) {j : Nat} (hj : j < a0.tmps.size) : j < a.tmps.size := by rw [h.2.1]; exact hj
theorem act_ext {a b : Act} (hd : a.defers = b.defers) (hs : a.tmps.size = b.tmps.size) (hg : ∀ j, a.tmps.getD j undef = b.tmps.getD j undef) : a = b := by
 obtain ⟨at_, ad⟩ := a
 obtain ⟨bt, bd⟩ := b
 simp only at hd hs hg
 subst hd
 congr 1
 refine Array.ext hs fun j h1 h2 => ?_
 have := hg j
 simp only [Array.getD_eq_getD_getElem?, Array.getElem?_eq_getElem h1, Array.getElem?_eq_getElem h2] at this
 exact this
def zbZ (vs : List (Nat × Value)) (a : Act) : Act := vs.foldl (fun a p => a.put (some p.1) p.2) a
theorem zfi (vs : List (Nat × Value)) (a : Act) : (zbZ vs a).tmps.size = a.tmps.size ∧ (zbZ vs a).defers = a.defers := by
 unfold zbZ
 induction vs generalizing a with
 | nil => exact ⟨rfl, rfl⟩
 | cons p t ih => rw [List.foldl_cons]; have := ih (a.put (some p.1) p.2); exact ⟨this.1.trans (zes _ _ _), this.2⟩
theorem zjC (vs : List (Nat × Value)) (a b : Act) (hs : b.tmps.size = a.tmps.size) (hv : ∀ p ∈ vs, a.tmps.getD p.1 undef = p.2) : ∀ j, (zbZ vs b).tmps.getD j undef = if j ∈ vs.map Prod.fst then a.tmps.getD j undef else b.tmps.getD j undef := by
 intro j
 induction vs generalizing b with
 | nil => rfl
 | cons p t ih =>
   show (zbZ t (b.put (some p.1) p.2)).tmps.getD j undef = _
   rw [ih (b.put (some p.1) p.2) (by rw [zes]; exact hs) (fun q hq => hv q (List.mem_cons_of_mem _ hq))]
   by_cases h1 : j ∈ t.map Prod.fst
   ·rw [if_pos h1, if_pos (by rw [List.map_cons]; exact List.mem_cons_of_mem _ h1)]
   ·rw [if_neg h1]
    by_cases h2 : j = p.1
    ·rw [if_pos (by rw [List.map_cons, h2]; exact List.mem_cons_self), h2, hv p List.mem_cons_self]
     by_cases h3 : p.1 < b.tmps.size
     ·exact zaD h3 _
     ·have h4 := hv p List.mem_cons_self
      have h5 : ¬ p.1 < a.tmps.size := by rw [← hs]; exact h3
      simp only [Array.getD_eq_getD_getElem?] at h4 ⊢
      rw [Array.getElem?_eq_none (by omega)] at h4
      rw [Array.getElem?_eq_none (by rw [zes]; omega)]
      exact h4
    ·rw [if_neg (by rw [List.map_cons]; intro h; rcases List.mem_cons.1 h with h | h; exact h2 h; exact h1 h)]
     exact rd_ne h2 _
theorem zcq.eq {D : List Nat} {a0 a : Act} (h : zcq D a0 a) (vs : List (Nat × Value)) (hD : vs.map Prod.fst = D) (hv : ∀ p ∈ vs, a.tmps.getD p.1 undef = p.2) : a = zbZ vs a0 := by
 subst hD
 refine act_ext (h.1.trans (zfi vs a0).2.symm) (h.2.1.trans (zfi vs a0).1.symm) fun j => ?_
 rw [zjC vs a a0 h.2.1.symm hv j]
 by_cases h1 : j ∈ vs.map Prod.fst
 ·rw [if_pos h1]
 ·rw [if_neg h1]; exact h.2.2 j h1
section
variable {P : Program} {ops0 : Array Oper} {Q : Exit → Act → World → Prop} {md : Region.Mode} {S : World → Prop}
theorem zbl {J : Act → Array Bool → Act → World → Prop} {L : Array Bool} {a0 : Act} {l0 : Array Bool} {w0 : World} {fuel : Nat} (hd : due l0 = fuel) (h0 : J a0 l0 a0 w0)
  (hstep : ∀ (ops : Array Oper) (A0 : Act) (Q' : Exit → Act → World → Prop), ops = ops0 → A0.tmps.size = a0.tmps.size → (∀ i d, A0.tmps.getD i d = a0.tmps.getD i d) → (∀ l a w, J A0 l a w → Region.ready md ops l = [] → l = L) ∧ ∀ l a w i, J A0 l a w → l ≠ L → i ∈ Region.ready md ops l → wpOp P ops Q' i (fun a' w' => S w' ∧ J A0 (l.setIfInBounds i true) a' w') a w)
  (hgoal : ∀ a w, J a0 L a w → wpAnyH P md ops0 Q S (due L) L a w) : wpAnyH P md ops0 Q S fuel l0 a0 w0 :=
 zhn (hstep ops0 a0 Q rfl rfl (fun _ _ => rfl)).1 (hstep ops0 a0 Q rfl rfl (fun _ _ => rfl)).2 hgoal fuel l0 a0 w0 hd h0
theorem wpOp_go {ops : Array Oper} {i : Nat} {o : Oper} {K : Act → World → Prop} {a : Act} {w : World} (ho : ops[i]? = some o) (hg : o.guard = none)
  (h : ∀ K' : Act → World → Prop, Shut (∀ a w, K a w → K' a w) → Oper.wp P o a w K' Q) : wpOp P ops Q i K a w :=
 wpOp_step ho fun K' hK => by
  rw [if_pos (by unfold Region.wanted; rw [hg])]
  exact h K' hK
theorem zhL {o : Oper} {K : Act → World → Prop} {a : Act} {w w' : World} {v : Value} (h : (execOp a.eval o).run P w = .ok (.value v) w') (hK : K (a.put o.dst v) w') : Oper.wp P o a w K Q := by
 unfold Oper.wp; rw [h]; exact hK
theorem zbz {o : Oper} {K : Act → World → Prop} {a : Act} {w : World} {v : Value} {x : Nat} (ho : o.op = .move (.tmp x) ∨ o.op = .assign (.tmp x)) (hx : a.tmps.getD x undef = v) (hK : K (a.put o.dst v) w) : Oper.wp P o a w K Q := by
 refine zhL (v := v) (w' := w) ?_ hK
 unfold execOp
 rcases ho with ho | ho <;> rw [ho] <;> simp only [Act.eval, hx] <;> rfl
theorem zaK {o : Oper} {K : Act → World → Prop} {a : Act} {w : World} {v : Value} {x k : Nat} {vs : Array Value} (ho : o.op = .extract (.tmp x) k) (hx : a.tmps.getD x undef = .tuple vs) (hk : vs[k]? = some v) (hK : K (a.put o.dst v) w) : Oper.wp P o a w K Q := by
 refine zhL (v := v) (w' := w) ?_ hK
 unfold execOp
 rw [ho]
 simp only [Act.eval, hx, Instr.extract, hk]
 rfl
end
end Go.Proofs.YtgigccjiblaefaaGreatDoor
