/- What this claim leans on. -/
import Derived.Test.YtfieheffipfahaaGreatDoorXBun7
import Derived.Test.YtfieheffipfahaaGreatDoorXBunJ
import Derived.Laws.Concat
namespace Go.Proofs.YtfieheffipfahaaGreatDoor
open Go Go.RowKit
set_option maxHeartbeats 16000000
set_option linter.unusedVariables false
def zbP (D : List Nat) (a0 a : Act) : Prop := a.defers = a0.defers ∧ a.tmps.size = a0.tmps.size ∧ ∀ j,j ∉ D → a.tmps.getD j undef = a0.tmps.getD j undef
theorem zbP.refl (D : List Nat) (a : Act) : zbP D a a := ⟨rfl,rfl,fun _ _ => rfl⟩
theorem rd_ne {a : Act} {i j : Nat} (h : j ≠ i) (v : Value) : (a.put (some i) v).tmps.getD j undef = a.tmps.getD j undef := by
 simp only [Act.put,Array.getD_eq_getD_getElem?]
 rw [Array.getElem?_setIfInBounds_ne (Ne.symm h)]
theorem zaq {a : Act} {i : Nat} (h : i < a.tmps.size) (v : Value) : (a.put (some i) v).tmps.getD i undef = v := by
 simp only [Act.put,Array.getD_eq_getD_getElem?]
 rw [Array.getElem?_setIfInBounds_self_of_lt h]
 rfl
theorem zfZ (a : Act) (i : Nat) (v : Value) : (a.put (some i) v).tmps.size = a.tmps.size := by simp [Act.put]
theorem zbP.put {D : List Nat} {a0 a : Act} (h : zbP D a0 a) {i : Nat} (hi : i ∈ D) (v : Value) : zbP D a0 (a.put (some i) v) :=
 ⟨h.1,by rw [zfZ]; exact h.2.1,fun j hj => (rd_ne (fun e => hj (by rw [e]; exact hi)) v).trans (h.2.2 j hj)⟩
theorem zbP.get {D : List Nat} {a0 a : Act} (h : zbP D a0 a) (j : Nat) (hj : j ∉ D) {v : Value} (hv : a0.tmps.getD j undef = v) : a.tmps.getD j undef = v := (h.2.2 j hj).trans hv
theorem zbP.lt {D : List Nat} {a0 a : Act} (h : zbP D a0 a) {j : Nat} (hj : j < a0.tmps.size) : j < a.tmps.size := by rw [h.2.1]; exact hj
theorem act_ext {a b : Act} (hd : a.defers = b.defers) (hs : a.tmps.size = b.tmps.size) (hg : ∀ j,a.tmps.getD j undef = b.tmps.getD j undef) : a = b := by
 obtain ⟨at_,ad⟩ := a
 obtain ⟨bt,bd⟩ := b
 simp only at hd hs hg
 subst hd
 congr 1
 refine Array.ext hs fun j h1 h2 => ?_
 have := hg j
 simp only [Array.getD_eq_getD_getElem?,Array.getElem?_eq_getElem h1,Array.getElem?_eq_getElem h2] at this
 exact this
def zbK (vs : List (Nat × Value)) (a : Act) : Act := vs.foldl (fun a p => a.put (some p.1) p.2) a
theorem zgU (vs : List (Nat × Value)) (a : Act) : (zbK vs a).tmps.size = a.tmps.size ∧ (zbK vs a).defers = a.defers := by
 unfold zbK
 induction vs generalizing a with
 | nil => exact ⟨rfl,rfl⟩
 | cons p t ih => rw [List.foldl_cons]; have := ih (a.put (some p.1) p.2); exact ⟨this.1.trans (zfZ _ _ _),this.2⟩
theorem zmO (vs : List (Nat × Value)) (a b : Act) (hs : b.tmps.size = a.tmps.size) (hv : ∀ p ∈ vs,a.tmps.getD p.1 undef = p.2) : ∀ j,(zbK vs b).tmps.getD j undef = if j ∈ vs.map Prod.fst then a.tmps.getD j undef else b.tmps.getD j undef := by
 intro j
 induction vs generalizing b with
 | nil => rfl
 | cons p t ih =>
   show (zbK t (b.put (some p.1) p.2)).tmps.getD j undef = _
   rw [ih (b.put (some p.1) p.2) (by rw [zfZ]; exact hs) (fun q hq => hv q (List.mem_cons_of_mem _ hq))]
   by_cases h1 : j ∈ t.map Prod.fst
   ·rw [if_pos h1,if_pos (by rw [List.map_cons]; exact List.mem_cons_of_mem _ h1)]
   ·rw [if_neg h1]
    by_cases h2 : j = p.1
    ·rw [if_pos (by rw [List.map_cons,h2]; exact List.mem_cons_self),h2,hv p List.mem_cons_self]
     by_cases h3 : p.1 < b.tmps.size
     ·exact zaq h3 _
     ·have h4 := hv p List.mem_cons_self
      have h5 : ¬ p.1 < a.tmps.size := by rw [← hs]; exact h3
      simp only [Array.getD_eq_getD_getElem?] at h4 ⊢
      rw [Array.getElem?_eq_none (by omega)] at h4
      rw [Array.getElem?_eq_none (by rw [zfZ]; omega)]
      exact h4
    ·rw [if_neg (by rw [List.map_cons]; intro h; rcases List.mem_cons.1 h with h | h; exact h2 h; exact h1 h)]
     exact rd_ne h2 _
theorem zbP.eq {D : List Nat} {a0 a : Act} (h : zbP D a0 a) (vs : List (Nat × Value)) (hD : vs.map Prod.fst = D) (hv : ∀ p ∈ vs,a.tmps.getD p.1 undef = p.2) : a = zbK vs a0 := by
 subst hD
 refine act_ext (h.1.trans (zgU vs a0).2.symm) (h.2.1.trans (zgU vs a0).1.symm) fun j => ?_
 rw [zmO vs a a0 h.2.1.symm hv j]
 by_cases h1 : j ∈ vs.map Prod.fst
 ·rw [if_pos h1]
 ·rw [if_neg h1]; exact h.2.2 j h1
section
variable {P : Program} {ops0 : Array Oper} {Q : Exit → Act → World → Prop} {md : Region.Mode} {S : World → Prop}
theorem zaU {J : Act → Array Bool → Act → World → Prop} {L : Array Bool} {a0 : Act} {l0 : Array Bool} {w0 : World} {fuel : Nat} (hd : due l0 = fuel) (h0 : J a0 l0 a0 w0)
  (hstep : ∀ (ops : Array Oper) (A0 : Act) (Q' : Exit → Act → World → Prop),ops = ops0 → A0.tmps.size = a0.tmps.size → (∀ i d,A0.tmps.getD i d = a0.tmps.getD i d) → (∀ l a w,J A0 l a w → Region.ready md ops l = [] → l = L) ∧ ∀ l a w i,J A0 l a w → l ≠ L → i ∈ Region.ready md ops l → wpOp P ops Q' i (fun a' w' => S w' ∧ J A0 (l.setIfInBounds i true) a' w') a w)
  (hgoal : ∀ a w,J a0 L a w → wpAnyH P md ops0 Q S (due L) L a w) : wpAnyH P md ops0 Q S fuel l0 a0 w0 :=
 zkC (hstep ops0 a0 Q rfl rfl (fun _ _ => rfl)).1 (hstep ops0 a0 Q rfl rfl (fun _ _ => rfl)).2 hgoal fuel l0 a0 w0 hd h0
theorem wpOp_go {ops : Array Oper} {i : Nat} {o : Oper} {K : Act → World → Prop} {a : Act} {w : World} (ho : ops[i]? = some o) (hg : o.guard = none)
  (h : ∀ K' : Act → World → Prop,Shut (∀ a w,K a w → K' a w) → Oper.wp P o a w K' Q) : wpOp P ops Q i K a w :=
 wpOp_step ho fun K' hK => by
  rw [if_pos (by unfold Region.wanted; rw [hg])]
  exact h K' hK
theorem zlX {o : Oper} {K : Act → World → Prop} {a : Act} {w w' : World} {v : Value} (h : (execOp a.eval o).run P w = .ok (.value v) w') (hK : K (a.put o.dst v) w') : Oper.wp P o a w K Q := by
 unfold Oper.wp; rw [h]; exact hK
theorem zaI {o : Oper} {K : Act → World → Prop} {a : Act} {w : World} {v : Value} {x : Nat} (ho : o.op = .move (.tmp x) ∨ o.op = .assign (.tmp x)) (hx : a.tmps.getD x undef = v) (hK : K (a.put o.dst v) w) : Oper.wp P o a w K Q := by
 refine zlX (v := v) (w' := w) ?_ hK
 unfold execOp
 rcases ho with ho | ho <;> rw [ho] <;> simp only [Act.eval,hx] <;> rfl
theorem zas {o : Oper} {K : Act → World → Prop} {a : Act} {w : World} {v : Value} {x k : Nat} {vs : Array Value} (ho : o.op = .extract (.tmp x) k) (hx : a.tmps.getD x undef = .tuple vs) (hk : vs[k]? = some v) (hK : K (a.put o.dst v) w) : Oper.wp P o a w K Q := by
 refine zlX (v := v) (w' := w) ?_ hK
 unfold execOp
 rw [ho]
 simp only [Act.eval,hx,Instr.extract,hk]
 rfl
end
set_option maxRecDepth 100000
set_option linter.unusedSimpArgs false
theorem zaf.to8 {w : World} {x y : Nat} {A : oA9} {n c : Nat} (e : x = y) (h : zaf w x A n c) : zaf w y A n c := e ▸ h
theorem zaz.to8 {w : World} {x y : Int} {b : Bool} {A : oA9} {n c : Nat} (e : x = y) (h : zaz w x b A n c) : zaz w y b A n c := e ▸ h
theorem zoK (x : Nat) (A : oA9) (n c : Nat) (w : World) (h : zaf w x A n c) (hn : n ≤ 1099511627776) :
  Calls Tryz.prog 75 #[.agg #[.slice A n c]] w fun e w' => ∃ (B : oA9) (m d : Nat),e = .returned (.slice B m d) ∧ zaf w' x B m d ∧ Below w.heap.size w w' := by
 refine (zdf x A n c w h hn).mono ?_
 rintro e w' ⟨B,d,rfl,h1,h2,h3,h4⟩
 exact ⟨B,_,d,rfl,⟨h1,h2,h3.1⟩,h4⟩
theorem znK {P : Program} {f : FuncId} {args : Array Value} {w : World} {z v : Int} (e : z = v) (h : Calls P f args w fun e w' => e = .returned (.tuple #[.int .u64 z,.bool true]) ∧ Below w.heap.size w w') : Calls P f args w fun e w' => e = .returned (.tuple #[.int .u64 v,.bool true]) ∧ Below w.heap.size w w' := by
 subst e; exact h
theorem zkP (x : Nat) (A : oA9) (n c : Nat) (w : World) (hA : zaf w x A n c) (hn : n ≤ 1099511627776) : Calls Tryz.prog 29 #[.agg #[.slice A n c]] w (zdL w ((bitLen x : Nat) : Int)) := zdR x A n c w hA hn
theorem zaS {K q x : Nat} (h : Sz K q) (e : q = (if x = 0 then 1 else x) ∧ x ≠ 1) : Sz K x := h.of_le (by rw [e.1]; split <;> omega)
theorem zbr {w : World} {r : Rat} {b : Bool} {A : oA9} {n c : Nat} {E : oA9} {k f K : Nat} (h : zay w r b A n c E k f) (q : zbD n k) (hK : 67108864 = K) : SzQ K r := by
 obtain ⟨x,e,hx⟩ := h.2
 have h1 : Sz K r.num.natAbs := Sz.of_words h.1.2 (by have := q.1; omega)
 have h2 : Sz K x := Sz.of_words hx (by have := q.2; omega)
 refine ⟨h1,?_⟩
 rw [e.1]
 split
 ·exact zcx (by omega)
 ·exact h2
theorem zaO (w : World) : zaf w 0 none 0 0 := by
 refine ⟨⟨by rw [show dg 18446744073709551616 0 = [] from by rw [dg]; rfl]; rfl,fun h => absurd h (by decide)⟩,Nat.le_refl _,by decide⟩
theorem zaQ (w : World) : zay w (0 : Rat) false none 0 0 none 0 0 := ⟨⟨rfl,zaO w⟩,⟨0,⟨rfl,by decide⟩,zaO w⟩⟩
theorem whole_in {w : World} {z : Int} {b : Bool} {A : oA9} {n c : Nat} (h : zaz w z b A n c) : zay w (z : Rat) b A n c none 0 0 := ⟨by rw [Rat.num_intCast]; exact h,⟨0,⟨by rw [Rat.den_intCast]; rfl,by decide⟩,zaO w⟩⟩
theorem zor {w : World} {r : Rat} {z : Int} {b : Bool} {A : oA9} {n c : Nat} {E : oA9} {k f : Nat} (hn : r.num = z) (hd : r.den = 1) (h : zaz w z b A n c) (q : zaf w 0 E k f) : zay w r b A n c E k f :=
 ⟨by rw [hn]; exact h,⟨0,⟨by rw [hd]; rfl,by decide⟩,q⟩⟩
theorem ziB {w : World} {r : Rat} {z : Int} {y : Nat} {b : Bool} {A : oA9} {n c : Nat} {E : oA9} {k f : Nat} (hn : r.num = z) (hd : r.den = y) (hy : y ≠ 1) (h : zaz w z b A n c) (q : zaf w y E k f) : zay w r b A n c E k f :=
 ⟨by rw [hn]; exact h,⟨y,⟨by rw [if_neg (fun h0 => r.den_nz (by rw [hd,h0]))]; exact hd,hy⟩,q⟩⟩
theorem zfy {q x : Nat} (e : q = (if x = 0 then 1 else x) ∧ x ≠ 1) (h : q = 1) : x = 0 := by
 refine Decidable.byContradiction fun h0 => ?_
 rw [if_neg h0] at e
 omega
theorem zdF {q x : Nat} (e : q = (if x = 0 then 1 else x) ∧ x ≠ 1) (h : q ≠ 1) : x ≠ 0 ∧ x = q := by
 have h0 : x ≠ 0 := fun h0 => h (by rw [e.1,if_pos h0])
 refine ⟨h0,?_⟩
 have := e.1
 rw [if_neg h0] at this
 exact this.symm
theorem zow (z : Int) : zcp (decide (z < 0)) z.natAbs = z := by
 unfold zcp
 by_cases h : z < 0
 ·rw [decide_eq_true h,if_pos rfl]; omega
 ·rw [decide_eq_false h,if_neg (by decide)]; omega
theorem zoi {w : World} {x : Nat} {A : oA9} {n c : Nat} (h : zaf w x A n c) (hn : n ≤ 1) : x < 18446744073709551616 := zif h.len hn
theorem len_one {w : World} {x : Nat} {A : oA9} {n c : Nat} (h : zaf w x A n c) (hx : x = 1) : n ≤ 1 := by
 have h1 : Sz 1 x := by rw [hx]; exact zcx (by decide)
 exact h1.words h
theorem zmM (p d : Int) (hd : d ≠ 0) : (Rat.divInt p d).num = zcp (decide (p < 0) != decide (d < 0)) (p.natAbs / Nat.gcd p.natAbs d.natAbs) ∧ (Rat.divInt p d).den = d.natAbs / Nat.gcd p.natAbs d.natAbs := by
 refine ⟨?_,zeB p d hd⟩
 have h1 := zfV p d hd
 have h2 := zeZ p d hd
 rw [← h1]
 generalize (Rat.divInt p d).num = z at *
 unfold zcp
 by_cases hp : p < 0
 ·by_cases hq : d < 0
  ·rw [decide_eq_true hp,decide_eq_true hq]; simp; omega
  ·rw [decide_eq_true hp,decide_eq_false hq]; simp; omega
 ·by_cases hq : d < 0
  ·rw [decide_eq_false hp,decide_eq_true hq]; simp
   by_cases h0 : p = 0
   ·subst h0; simp at h1; omega
   ·omega
  ·rw [decide_eq_false hp,decide_eq_false hq]; simp; omega
end Go.Proofs.YtfieheffipfahaaGreatDoor
