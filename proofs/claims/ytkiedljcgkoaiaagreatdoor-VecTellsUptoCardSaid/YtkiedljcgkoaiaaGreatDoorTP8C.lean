/- What this claim leans on. -/
import Derived.Test.YtkiedljcgkoaiaaGreatDoorTBunB
namespace Go.Proofs.YtkiedljcgkoaiaaGreatDoor
open Go Go.RowKit
set_option maxHeartbeats 16000000
set_option linter.unusedVariables false
def DenIn (w : World) (q : Nat) (A : oA9) (n c : Nat) : Prop:=∃ x,(q = (if x = 0 then 1 else x) ∧ x ≠ 1) ∧ zag w x A n c
theorem DenIn.below {w w' : World} {q : Nat} {A : oA9} {n c : Nat} (h : DenIn w q A n c) (hb : Below w.heap.size w w') : DenIn w' q A n c:=by
 obtain ⟨x,e,h1⟩:=h
 exact ⟨x,e,h1.below hb⟩
def zan (w : World) (r : Rat) (b : Bool) (A : oA9) (n c : Nat) (E : oA9) (k f : Nat) : Prop:=zay w r.num b A n c ∧ DenIn w r.den E k f
theorem zan.below {w w' : World} {r : Rat} {b : Bool} {A : oA9} {n c : Nat} {E : oA9} {k f : Nat} (h : zan w r b A n c E k f) (hb : Below w.heap.size w w') : zan w' r b A n c E k f:=⟨h.1.below hb,h.2.below hb⟩
theorem zan.to {w : World} {r s : Rat} {b : Bool} {A : oA9} {n c : Nat} {E : oA9} {k f : Nat} (e : r = s) (h : zan w r b A n c E k f) : zan w s b A n c E k f:=e ▸ h
def zaM (w : World) (r : Rat) (e : Ending) (w' : World) : Prop:=∃ (b : Bool) (A : oA9) (n c : Nat) (E : oA9) (k f : Nat),e = .returned (.agg #[.bool b,.slice A n c,.slice E k f]) ∧ zan w' r b A n c E k f ∧ Below w.heap.size w w'
def zcA (w : World) (r : Rat) (t : Bool) (e : Ending) (w' : World) : Prop:=∃ (b : Bool) (A : oA9) (n c : Nat) (E : oA9) (k f : Nat),e = .returned (.tuple #[.agg #[.bool b,.slice A n c,.slice E k f],.bool t]) ∧ zan w' r b A n c E k f ∧ Below w.heap.size w w'
def zaK (n k : Nat) : Prop:=n ≤ 67108864 ∧ k ≤ 67108864
structure RatG0 (T : World → Prop) : Prop where
 mul : ∀ (r s : Rat) (b b' : Bool) (A A' : oA9) (n n' c c' : Nat) (E E' : oA9) (k k' f f' : Nat) (w : World),T w → zan w r b A n c E k f → zan w s b' A' n' c' E' k' f' → zaK n k → zaK n' k' → Calls Tryz.prog 45 #[.agg #[.bool b,.slice A n c,.slice E k f],.agg #[.bool b',.slice A' n' c',.slice E' k' f']] w (zaM w (r * s))
structure RatG1 (T : World → Prop) : Prop where
structure RatG2 (T : World → Prop) : Prop where
 int : ∀ (z : Int) (w : World),T w → -9223372036854775808 ≤ z → z ≤ 9223372036854775807 → Calls Tryz.prog 36 #[.int .i64 z] w (zaM w (z : Rat))
structure RatC (T : World → Prop) (M : Nat → Prop) : Prop where
 g0 : M 0 → RatG0 T
 g1 : M 1 → RatG1 T
 g2 : M 2 → RatG2 T
 new : ∀ (p q : Int) (b b' : Bool) (A D : oA9) (n m c d : Nat) (w : World),T w → zay w p b A n c → zay w q b' D m d → n ≤ 67108864 → m ≤ 67108864 → q ≠ 0 → Calls Tryz.prog 81 #[.agg #[.bool b,.slice A n c],.agg #[.bool b',.slice D m d]] w (zcA w (Rat.divInt p q) true)
 newNo : ∀ (p q : Int) (b b' : Bool) (A D : oA9) (n m c d : Nat) (w : World),T w → zay w p b A n c → zay w q b' D m d → n ≤ 67108864 → m ≤ 67108864 → q = 0 → Calls Tryz.prog 81 #[.agg #[.bool b,.slice A n c],.agg #[.bool b',.slice D m d]] w (zcA w 0 false)
 of : ∀ (p q : Int) (w : World),T w → -9223372036854775808 ≤ p → p ≤ 9223372036854775807 → -9223372036854775808 ≤ q → q ≤ 9223372036854775807 → q ≠ 0 → Calls Tryz.prog 49 #[.int .i64 p,.int .i64 q] w (zcA w (Rat.divInt p q) true)
 ofNo : ∀ (p q : Int) (w : World),T w → -9223372036854775808 ≤ p → p ≤ 9223372036854775807 → q = 0 → Calls Tryz.prog 49 #[.int .i64 p,.int .i64 q] w (zcA w 0 false)
 num : ∀ (r : Rat) (b : Bool) (A : oA9) (n c : Nat) (E : oA9) (k f : Nat) (w : World),T w → zan w r b A n c E k f → zaK n k → Calls Tryz.prog 54 #[.agg #[.bool b,.slice A n c,.slice E k f]] w (zaO w r.num)
 den : ∀ (r : Rat) (b : Bool) (A : oA9) (n c : Nat) (E : oA9) (k f : Nat) (w : World),T w → zan w r b A n c E k f → zaK n k → Calls Tryz.prog 56 #[.agg #[.bool b,.slice A n c,.slice E k f]] w (zdL w r.den)
 sign : ∀ (r : Rat) (b : Bool) (A : oA9) (n c : Nat) (E : oA9) (k f : Nat) (w : World),T w → zan w r b A n c E k f → zaK n k → Calls Tryz.prog 41 #[.agg #[.bool b,.slice A n c,.slice E k f]] w (zbh w (sgnQ r))
 zero : ∀ (r : Rat) (b : Bool) (A : oA9) (n c : Nat) (E : oA9) (k f : Nat) (w : World),T w → zan w r b A n c E k f → zaK n k → Calls Tryz.prog 19 #[.agg #[.bool b,.slice A n c,.slice E k f]] w fun e w' => e = .returned (.bool (decide (r = 0))) ∧ Below w.heap.size w w'
 isInt : ∀ (r : Rat) (b : Bool) (A : oA9) (n c : Nat) (E : oA9) (k f : Nat) (w : World),T w → zan w r b A n c E k f → zaK n k → Calls Tryz.prog 57 #[.agg #[.bool b,.slice A n c,.slice E k f]] w fun e w' => e = .returned (.bool (decide (r.den = 1))) ∧ Below w.heap.size w w'
 bits : ∀ (r : Rat) (b : Bool) (A : oA9) (n c : Nat) (E : oA9) (k f : Nat) (w : World),T w → zan w r b A n c E k f → zaK n k → Calls Tryz.prog 58 #[.agg #[.bool b,.slice A n c,.slice E k f]] w (zbh w ((bitLen r.num.natAbs + bitLen r.den : Nat) : Int))
 neg : ∀ (r : Rat) (b : Bool) (A : oA9) (n c : Nat) (E : oA9) (k f : Nat) (w : World),T w → zan w r b A n c E k f → zaK n k → Calls Tryz.prog 80 #[.agg #[.bool b,.slice A n c,.slice E k f]] w (zaM w (-r))
 add : ∀ (r s : Rat) (b b' : Bool) (A A' : oA9) (n n' c c' : Nat) (E E' : oA9) (k k' f f' : Nat) (w : World),T w → zan w r b A n c E k f → zan w s b' A' n' c' E' k' f' → zaK n k → zaK n' k' → Calls Tryz.prog 38 #[.agg #[.bool b,.slice A n c,.slice E k f],.agg #[.bool b',.slice A' n' c',.slice E' k' f']] w (zaM w (r + s))
 sub : ∀ (r s : Rat) (b b' : Bool) (A A' : oA9) (n n' c c' : Nat) (E E' : oA9) (k k' f f' : Nat) (w : World),T w → zan w r b A n c E k f → zan w s b' A' n' c' E' k' f' → zaK n k → zaK n' k' → Calls Tryz.prog 47 #[.agg #[.bool b,.slice A n c,.slice E k f],.agg #[.bool b',.slice A' n' c',.slice E' k' f']] w (zaM w (r - s))
 cmp : ∀ (r s : Rat) (b b' : Bool) (A A' : oA9) (n n' c c' : Nat) (E E' : oA9) (k k' f f' : Nat) (w : World),T w → zan w r b A n c E k f → zan w s b' A' n' c' E' k' f' → zaK n k → zaK n' k' → Calls Tryz.prog 62 #[.agg #[.bool b,.slice A n c,.slice E k f],.agg #[.bool b',.slice A' n' c',.slice E' k' f']] w (zbh w (zem r s))
 same : ∀ (r s : Rat) (b b' : Bool) (A A' : oA9) (n n' c c' : Nat) (E E' : oA9) (k k' f f' : Nat) (w : World),T w → zan w r b A n c E k f → zan w s b' A' n' c' E' k' f' → zaK n k → zaK n' k' → Calls Tryz.prog 37 #[.agg #[.bool b,.slice A n c,.slice E k f],.agg #[.bool b',.slice A' n' c',.slice E' k' f']] w fun e w' => e = .returned (.bool (decide (r = s))) ∧ Below w.heap.size w w'
def zcl (D : List Nat) (a0 a : Act) : Prop:=a.defers = a0.defers ∧ a.tmps.size = a0.tmps.size ∧ ∀ j,j ∉ D → a.tmps.getD j undef = a0.tmps.getD j undef
theorem zcl.refl (D : List Nat) (a : Act) : zcl D a a:=⟨rfl,rfl,fun _ _ => rfl⟩
theorem rd_ne {a : Act} {i j : Nat} (h : j ≠ i) (v : Value) : (a.put (some i) v).tmps.getD j undef = a.tmps.getD j undef:=by
 simp only [Act.put,Array.getD_eq_getD_getElem?]
 rw [Array.getElem?_setIfInBounds_ne (Ne.symm h)]
theorem zaI {a : Act} {i : Nat} (h : i < a.tmps.size) (v : Value) : (a.put (some i) v).tmps.getD i undef = v:=by
 simp only [Act.put,Array.getD_eq_getD_getElem?]
 rw [Array.getElem?_setIfInBounds_self_of_lt h]
 rfl
theorem zfL (a : Act) (i : Nat) (v : Value) : (a.put (some i) v).tmps.size = a.tmps.size:=by simp [Act.put]
theorem zcl.put {D : List Nat} {a0 a : Act} (h : zcl D a0 a) {i : Nat} (hi : i ∈ D) (v : Value) : zcl D a0 (a.put (some i) v) :=
 ⟨h.1,by rw [zfL]; exact h.2.1,fun j hj => (rd_ne (fun e => hj (by rw [e]; exact hi)) v).trans (h.2.2 j hj)⟩
theorem zcl.get {D : List Nat} {a0 a : Act} (h : zcl D a0 a) (j : Nat) (hj : j ∉ D) {v : Value} (hv : a0.tmps.getD j undef = v) : a.tmps.getD j undef = v:=(h.2.2 j hj).trans hv
theorem zcl.lt {D : List Nat} {a0 a : Act} (h : zcl D a0 a) {j : Nat} (hj : j < a0.tmps.size) : j < a.tmps.size:=by rw [h.2.1]; exact hj
theorem act_ext {a b : Act} (hd : a.defers = b.defers) (hs : a.tmps.size = b.tmps.size) (hg : ∀ j,a.tmps.getD j undef = b.tmps.getD j undef) : a = b:=by
 obtain ⟨at_,ad⟩:=a
 obtain ⟨bt,bd⟩:=b
 simp only at hd hs hg
 subst hd
 congr 1
 refine Array.ext hs fun j h1 h2 => ?_
 have:=hg j
 simp only [Array.getD_eq_getD_getElem?,Array.getElem?_eq_getElem h1,Array.getElem?_eq_getElem h2] at this
 exact this
def zcf (vs : List (Nat × Value)) (a : Act) : Act:=vs.foldl (fun a p => a.put (some p.1) p.2) a
theorem zgx (vs : List (Nat × Value)) (a : Act) : (zcf vs a).tmps.size = a.tmps.size ∧ (zcf vs a).defers = a.defers:=by
 unfold zcf
 induction vs generalizing a with
 | nil => exact ⟨rfl,rfl⟩
 | cons p t ih => rw [List.foldl_cons]; have:=ih (a.put (some p.1) p.2); exact ⟨this.1.trans (zfL _ _ _),this.2⟩
theorem zlA (vs : List (Nat × Value)) (a b : Act) (hs : b.tmps.size = a.tmps.size) (hv : ∀ p ∈ vs,a.tmps.getD p.1 undef = p.2) : ∀ j,(zcf vs b).tmps.getD j undef = if j ∈ vs.map Prod.fst then a.tmps.getD j undef else b.tmps.getD j undef:=by
 intro j
 induction vs generalizing b with
 | nil => rfl
 | cons p t ih =>
   show (zcf t (b.put (some p.1) p.2)).tmps.getD j undef = _
   rw [ih (b.put (some p.1) p.2) (by rw [zfL]; exact hs) (fun q hq => hv q (List.mem_cons_of_mem _ hq))]
   by_cases h1 : j ∈ t.map Prod.fst
   ·rw [if_pos h1,if_pos (by rw [List.map_cons]; exact List.mem_cons_of_mem _ h1)]
   ·rw [if_neg h1]
    by_cases h2 : j = p.1
    ·rw [if_pos (by rw [List.map_cons,h2]; exact List.mem_cons_self),h2,hv p List.mem_cons_self]
     by_cases h3 : p.1 < b.tmps.size
     ·exact zaI h3 _
     ·have h4:=hv p List.mem_cons_self
      have h5 : ¬ p.1 < a.tmps.size:=by rw [← hs]; exact h3
      simp only [Array.getD_eq_getD_getElem?] at h4 ⊢
      rw [Array.getElem?_eq_none (by omega)] at h4
      rw [Array.getElem?_eq_none (by rw [zfL]; omega)]
      exact h4
    ·rw [if_neg (by rw [List.map_cons]; intro h; rcases List.mem_cons.1 h with h | h; exact h2 h; exact h1 h)]
     exact rd_ne h2 _
theorem zcl.eq {D : List Nat} {a0 a : Act} (h : zcl D a0 a) (vs : List (Nat × Value)) (hD : vs.map Prod.fst = D) (hv : ∀ p ∈ vs,a.tmps.getD p.1 undef = p.2) : a = zcf vs a0:=by
 subst hD
 refine act_ext (h.1.trans (zgx vs a0).2.symm) (h.2.1.trans (zgx vs a0).1.symm) fun j => ?_
 rw [zlA vs a a0 h.2.1.symm hv j]
 by_cases h1 : j ∈ vs.map Prod.fst
 ·rw [if_pos h1]
 ·rw [if_neg h1]; exact h.2.2 j h1
section
variable {P : Program} {ops0 : Array Oper} {Q : Exit → Act → World → Prop} {md : Region.Mode} {S : World → Prop}
theorem zbj {J : Act → Array Bool → Act → World → Prop} {L : Array Bool} {a0 : Act} {l0 : Array Bool} {w0 : World} {fuel : Nat} (hd : due l0 = fuel) (h0 : J a0 l0 a0 w0)
  (hstep : ∀ (ops : Array Oper) (A0 : Act) (Q' : Exit → Act → World → Prop),ops = ops0 → A0.tmps.size = a0.tmps.size → (∀ i d,A0.tmps.getD i d = a0.tmps.getD i d) → (∀ l a w,J A0 l a w → Region.ready md ops l = [] → l = L) ∧ ∀ l a w i,J A0 l a w → l ≠ L → i ∈ Region.ready md ops l → wpOp P ops Q' i (fun a' w' => S w' ∧ J A0 (l.setIfInBounds i true) a' w') a w)
  (hgoal : ∀ a w,J a0 L a w → wpAnyH P md ops0 Q S (due L) L a w) : wpAnyH P md ops0 Q S fuel l0 a0 w0 :=
 zjx (hstep ops0 a0 Q rfl rfl (fun _ _ => rfl)).1 (hstep ops0 a0 Q rfl rfl (fun _ _ => rfl)).2 hgoal fuel l0 a0 w0 hd h0
theorem wpOp_go {ops : Array Oper} {i : Nat} {o : Oper} {K : Act → World → Prop} {a : Act} {w : World} (ho : ops[i]? = some o) (hg : o.guard = none)
  (h : ∀ K' : Act → World → Prop,Shut (∀ a w,K a w → K' a w) → Oper.wp P o a w K' Q) : wpOp P ops Q i K a w :=
 wpOp_step ho fun K' hK => by
  rw [if_pos (by unfold Region.wanted; rw [hg])]
  exact h K' hK
theorem zkM {o : Oper} {K : Act → World → Prop} {a : Act} {w w' : World} {v : Value} (h : (execOp a.eval o).run P w = .ok (.value v) w') (hK : K (a.put o.dst v) w') : Oper.wp P o a w K Q:=by
 unfold Oper.wp; rw [h]; exact hK
theorem zdJ {o : Oper} {K : Act → World → Prop} {a : Act} {w : World} {v : Value} {x : Nat} (ho : o.op = .move (.tmp x) ∨ o.op = .assign (.tmp x)) (hx : a.tmps.getD x undef = v) (hK : K (a.put o.dst v) w) : Oper.wp P o a w K Q:=by
 refine zkM (v:=v) (w':=w) ?_ hK
 unfold execOp
 rcases ho with ho | ho <;> rw [ho] <;> simp only [Act.eval,hx] <;> rfl
theorem zbb {o : Oper} {K : Act → World → Prop} {a : Act} {w : World} {v : Value} {x k : Nat} {vs : Array Value} (ho : o.op = .extract (.tmp x) k) (hx : a.tmps.getD x undef = .tuple vs) (hk : vs[k]? = some v) (hK : K (a.put o.dst v) w) : Oper.wp P o a w K Q:=by
 refine zkM (v:=v) (w':=w) ?_ hK
 unfold execOp
 rw [ho]
 simp only [Act.eval,hx,Instr.extract,hk]
 rfl
end
end Go.Proofs.YtkiedljcgkoaiaaGreatDoor
