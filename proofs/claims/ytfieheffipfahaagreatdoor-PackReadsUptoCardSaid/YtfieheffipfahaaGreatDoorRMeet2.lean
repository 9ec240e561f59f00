/- What this claim leans on. -/
import Derived.Test.YtfieheffipfahaaGreatDoorRH6Parse
import Derived.Test.YtfieheffipfahaaGreatDoorRBun7
import Derived.Laws.Concat
namespace Go.Proofs.YtfieheffipfahaaGreatDoor
open Go Go.RowKit
set_option maxHeartbeats 16000000
set_option linter.unusedVariables false
def zco (D : List Nat) (a0 a : Act) : Prop:=a.defers = a0.defers ∧ a.tmps.size = a0.tmps.size ∧ ∀ j,j ∉ D → a.tmps.getD j undef = a0.tmps.getD j undef
theorem zco.refl (D : List Nat) (a : Act) : zco D a a:=⟨rfl,rfl,fun _ _ => rfl⟩
theorem rd_ne {a : Act} {i j : Nat} (h : j ≠ i) (v : Value) : (a.put (some i) v).tmps.getD j undef = a.tmps.getD j undef:=by
 simp only [Act.put,Array.getD_eq_getD_getElem?]
 rw [Array.getElem?_setIfInBounds_ne (Ne.symm h)]
theorem zaA {a : Act} {i : Nat} (h : i < a.tmps.size) (v : Value) : (a.put (some i) v).tmps.getD i undef = v:=by
 simp only [Act.put,Array.getD_eq_getD_getElem?]
 rw [Array.getElem?_setIfInBounds_self_of_lt h]
 rfl
theorem zgJ (a : Act) (i : Nat) (v : Value) : (a.put (some i) v).tmps.size = a.tmps.size:=by simp [Act.put]
theorem zco.put {D : List Nat} {a0 a : Act} (h : zco D a0 a) {i : Nat} (hi : i ∈ D) (v : Value) : zco D a0 (a.put (some i) v) :=
 ⟨h.1,by rw [zgJ]; exact h.2.1,fun j hj => (rd_ne (fun e => hj (by rw [e]; exact hi)) v).trans (h.2.2 j hj)⟩
theorem zco.get {D : List Nat} {a0 a : Act} (h : zco D a0 a) (j : Nat) (hj : j ∉ D) {v : Value} (hv : a0.tmps.getD j undef = v) : a.tmps.getD j undef = v:=(h.2.2 j hj).trans hv
theorem zco.lt {D : List Nat} {a0 a : Act} (h : zco D a0 a) {j : Nat} (hj : j < a0.tmps.size) : j < a.tmps.size:=by rw [h.2.1]; exact hj
theorem act_ext {a b : Act} (hd : a.defers = b.defers) (hs : a.tmps.size = b.tmps.size) (hg : ∀ j,a.tmps.getD j undef = b.tmps.getD j undef) : a = b:=by
 obtain ⟨at_,ad⟩:=a
 obtain ⟨bt,bd⟩:=b
 simp only at hd hs hg
 subst hd
 congr 1
 refine Array.ext hs fun j h1 h2 => ?_
 have:=hg j
 simp only [Array.getD_eq_getD_getElem?,Array.getElem?_eq_getElem h1,Array.getElem?_eq_getElem h2] at this
 exact this
def zcl (vs : List (Nat × Value)) (a : Act) : Act:=vs.foldl (fun a p => a.put (some p.1) p.2) a
theorem zhG (vs : List (Nat × Value)) (a : Act) : (zcl vs a).tmps.size = a.tmps.size ∧ (zcl vs a).defers = a.defers:=by
 unfold zcl
 induction vs generalizing a with
 | nil => exact ⟨rfl,rfl⟩
 | cons p t ih => rw [List.foldl_cons]; have:=ih (a.put (some p.1) p.2); exact ⟨this.1.trans (zgJ _ _ _),this.2⟩
theorem zoj (vs : List (Nat × Value)) (a b : Act) (hs : b.tmps.size = a.tmps.size) (hv : ∀ p ∈ vs,a.tmps.getD p.1 undef = p.2) : ∀ j,(zcl vs b).tmps.getD j undef = if j ∈ vs.map Prod.fst then a.tmps.getD j undef else b.tmps.getD j undef:=by
 intro j
 induction vs generalizing b with
 | nil => rfl
 | cons p t ih =>
   show (zcl t (b.put (some p.1) p.2)).tmps.getD j undef = _
   rw [ih (b.put (some p.1) p.2) (by rw [zgJ]; exact hs) (fun q hq => hv q (List.mem_cons_of_mem _ hq))]
   by_cases h1 : j ∈ t.map Prod.fst
   ·rw [if_pos h1,if_pos (by rw [List.map_cons]; exact List.mem_cons_of_mem _ h1)]
   ·rw [if_neg h1]
    by_cases h2 : j = p.1
    ·rw [if_pos (by rw [List.map_cons,h2]; exact List.mem_cons_self),h2,hv p List.mem_cons_self]
     by_cases h3 : p.1 < b.tmps.size
     ·exact zaA h3 _
     ·have h4:=hv p List.mem_cons_self
      have h5 : ¬ p.1 < a.tmps.size:=by rw [← hs]; exact h3
      simp only [Array.getD_eq_getD_getElem?] at h4 ⊢
      rw [Array.getElem?_eq_none (by omega)] at h4
      rw [Array.getElem?_eq_none (by rw [zgJ]; omega)]
      exact h4
    ·rw [if_neg (by rw [List.map_cons]; intro h; rcases List.mem_cons.1 h with h | h; exact h2 h; exact h1 h)]
     exact rd_ne h2 _
theorem zco.eq {D : List Nat} {a0 a : Act} (h : zco D a0 a) (vs : List (Nat × Value)) (hD : vs.map Prod.fst = D) (hv : ∀ p ∈ vs,a.tmps.getD p.1 undef = p.2) : a = zcl vs a0:=by
 subst hD
 refine act_ext (h.1.trans (zhG vs a0).2.symm) (h.2.1.trans (zhG vs a0).1.symm) fun j => ?_
 rw [zoj vs a a0 h.2.1.symm hv j]
 by_cases h1 : j ∈ vs.map Prod.fst
 ·rw [if_pos h1]
 ·rw [if_neg h1]; exact h.2.2 j h1
section
variable {P : Program} {ops0 : Array Oper} {Q : Exit → Act → World → Prop} {md : Region.Mode} {S : World → Prop}
theorem zbk {J : Act → Array Bool → Act → World → Prop} {L : Array Bool} {a0 : Act} {l0 : Array Bool} {w0 : World} {fuel : Nat} (hd : due l0 = fuel) (h0 : J a0 l0 a0 w0)
  (hstep : ∀ (ops : Array Oper) (A0 : Act) (Q' : Exit → Act → World → Prop),ops = ops0 → A0.tmps.size = a0.tmps.size → (∀ i d,A0.tmps.getD i d = a0.tmps.getD i d) → (∀ l a w,J A0 l a w → Region.ready md ops l = [] → l = L) ∧ ∀ l a w i,J A0 l a w → l ≠ L → i ∈ Region.ready md ops l → wpOp P ops Q' i (fun a' w' => S w' ∧ J A0 (l.setIfInBounds i true) a' w') a w)
  (hgoal : ∀ a w,J a0 L a w → wpAnyH P md ops0 Q S (due L) L a w) : wpAnyH P md ops0 Q S fuel l0 a0 w0 :=
 zlK (hstep ops0 a0 Q rfl rfl (fun _ _ => rfl)).1 (hstep ops0 a0 Q rfl rfl (fun _ _ => rfl)).2 hgoal fuel l0 a0 w0 hd h0
theorem wpOp_go {ops : Array Oper} {i : Nat} {o : Oper} {K : Act → World → Prop} {a : Act} {w : World} (ho : ops[i]? = some o) (hg : o.guard = none)
  (h : ∀ K' : Act → World → Prop,Shut (∀ a w,K a w → K' a w) → Oper.wp P o a w K' Q) : wpOp P ops Q i K a w :=
 wpOp_step ho fun K' hK => by
  rw [if_pos (by unfold Region.wanted; rw [hg])]
  exact h K' hK
theorem znp {o : Oper} {K : Act → World → Prop} {a : Act} {w w' : World} {v : Value} (h : (execOp a.eval o).run P w = .ok (.value v) w') (hK : K (a.put o.dst v) w') : Oper.wp P o a w K Q:=by
 unfold Oper.wp; rw [h]; exact hK
theorem zaX {o : Oper} {K : Act → World → Prop} {a : Act} {w : World} {v : Value} {x : Nat} (ho : o.op = .move (.tmp x) ∨ o.op = .assign (.tmp x)) (hx : a.tmps.getD x undef = v) (hK : K (a.put o.dst v) w) : Oper.wp P o a w K Q:=by
 refine znp (v:=v) (w':=w) ?_ hK
 unfold execOp
 rcases ho with ho | ho <;> rw [ho] <;> simp only [Act.eval,hx] <;> rfl
theorem zaD {o : Oper} {K : Act → World → Prop} {a : Act} {w : World} {v : Value} {x k : Nat} {vs : Array Value} (ho : o.op = .extract (.tmp x) k) (hx : a.tmps.getD x undef = .tuple vs) (hk : vs[k]? = some v) (hK : K (a.put o.dst v) w) : Oper.wp P o a w K Q:=by
 refine znp (v:=v) (w':=w) ?_ hK
 unfold execOp
 rw [ho]
 simp only [Act.eval,hx,Instr.extract,hk]
 rfl
end
def Cs (w : World) : List (Addr × Value) → Prop
 | [] => True
 | q :: t => w.cell? q.1 = some q.2 ∧ Cs w t
theorem csn {w : World} : Cs w []:=trivial
theorem csc {w : World} {p : Addr} {v : Value} {l : List (Addr × Value)} (h : w.cell? p = some v) (t : Cs w l) : Cs w ((p,v) :: l):=⟨h,t⟩
theorem Cs.below {w w' : World} {l : List (Addr × Value)} (h : Cs w l) (hb : Below w.heap.size w w') : Cs w' l:=by
 induction l with
 | nil => trivial
 | cons q t ih => exact ⟨zad hb h.1,ih h.2⟩
theorem Cs.drew {w : World} {l : List (Addr × Value)} (h : Cs w l) : Cs w.drew l:=by
 induction l with
 | nil => trivial
 | cons q t ih => exact ⟨h.1,ih h.2⟩
def OffL (g : Nat) : List (Addr × Value) → Prop
 | [] => True
 | q :: t => q.1.block ≠ g ∧ OffL g t
theorem Cs.far {w w' : World} {g : Nat} {l : List (Addr × Value)} (h : Cs w l) (hf : zei g w w') (hn : OffL g l) : Cs w' l:=by
 induction l with
 | nil => trivial
 | cons q t ih => exact ⟨(hf.2 q.1 hn.1).trans h.1,ih h.2 hn.2⟩
theorem cs2 {w : World} {g : Nat} {l : List (Addr × Value)} (x y : Value) (h : Cs w l) (hn : OffL g l:=by (simp only [OffL,and_true]; try omega)) : Cs ((w.setCell ⟨g,0,none⟩ x).setCell ⟨g,1,none⟩ y) l:=h.far (off2 w g x y) hn
theorem cs3 {w : World} {g : Nat} {l : List (Addr × Value)} (x y z : Value) (h : Cs w l) (hn : OffL g l:=by (simp only [OffL,and_true]; try omega)) : Cs (((w.setCell ⟨g,0,none⟩ x).setCell ⟨g,1,none⟩ y).setCell ⟨g,2,none⟩ z) l:=h.far (zcy w g x y z) hn
theorem sb9 : (∀ (a : Act) (d : Nat) (v : Value),a.put (some d) v = { tmps:=a.tmps.setIfInBounds d v,defers:=a.defers }) ∧ (∀ (a : Act) (v : Value),a.put none v = a) ∧ (∀ (l : List Value) (i : Nat) (v : Value),l.toArray.setIfInBounds i v = (l.set i v).toArray) ∧ (∀ (x : Value) (l : List Value) (v : Value),(x :: l).set 0 v = v :: l) ∧ (∀ (x : Value) (l : List Value) (i : Nat) (v : Value),(x :: l).set (i + 1) v = x :: l.set i v) :=
 ⟨fun _ _ _ => rfl,fun _ _ => rfl,fun _ _ _ => List.setIfInBounds_toArray ..,fun _ _ _ => rfl,fun _ _ _ _ => rfl⟩
section
variable {P : Program} {ops : Array Oper} {Q : Exit → Act → World → Prop} {S : World → Prop} {fuel : Nat} {l : Array Bool} {a : Act} {w : World}
theorem rg {id : Nat} {cl : List (Addr × Value)} (h0 : Cs w cl) (h : Cs w.drew cl → wpAnyH P .any ops (NoPanic Q) (fun w' => Cs w' cl) ops.size (Array.replicate ops.size false) a w.drew) (hm : P.follows Departure.mixedOrders = true:=by kernel_rfl) : Code.wp P (.region id ops true) Q a w :=
 wp_region_noPanic (wp_region_held_drew (S:=fun w' => Cs w' cl) hm h0.drew h)
theorem tk (i : Nat) {o : Oper} {v : Value} {a' : Act} (hn : wpAnyH P .any ops (NoPanic Q) S fuel (l.setIfInBounds i true) a' w) (h1 : ops[i]? = some o:=by simp only [List.getElem?_toArray,List.getElem?_cons_succ,List.getElem?_cons_zero]; rfl) (h2 : Region.noSelect ops = true:=by kernel_rfl) (h3 : Region.free .any ops l i = true:=by kernel_rfl) (h4 : (Region.ready .any ops l).contains i = true:=by kernel_rfl) (h5 : Region.wanted o (yielded ops a.tmps) = true:=by rfl) (h6 : ∀ w,S w → Sem.run P (execOp a.eval o) w = Result.ok (Next.value v) w:=by ((intro w hSw; (try dsimp only [Cs] at hSw); go_simp); (try with_reducible rfl))) (hS : S w:=by with_reducible assumption) (ha : a.put o.dst v = a':=by (simp only [sb9]; try rfl)) : wpAnyH P .any ops (NoPanic Q) S (fuel + 1) l a w :=
 wpAnyH_take h1 h2 h3 h4 (fun _ _ _ h => h) (Or.inl ⟨h5,h6⟩) hS (ha ▸ hn)
theorem tu (i : Nat) {o : Oper} {a' : Act} (hn : wpAnyH P .any ops (NoPanic Q) S fuel (l.setIfInBounds i true) a' w) (h1 : ops[i]? = some o:=by simp only [List.getElem?_toArray,List.getElem?_cons_succ,List.getElem?_cons_zero]; rfl) (h2 : Region.noSelect ops = true:=by kernel_rfl) (h3 : Region.free .any ops l i = true:=by kernel_rfl) (h4 : (Region.ready .any ops l).contains i = true:=by kernel_rfl) (h5 : Region.wanted o (yielded ops a.tmps) = false:=by rfl) (hS : S w:=by with_reducible assumption) (ha : a.put o.dst undef = a':=by (simp only [sb9]; try rfl)) : wpAnyH P .any ops (NoPanic Q) S (fuel + 1) l a w :=
 wpAnyH_take h1 h2 h3 h4 (fun _ _ _ h => h) (Or.inr ⟨h5,rfl⟩) hS (ha ▸ hn)
theorem rc (i : Nat) {o : Oper} (hk : ∀ K' : Act → World → Prop,Shut (∀ (a : Act) (w : World),S w → (S w → wpAnyH P .any ops (NoPanic Q) S fuel (l.setIfInBounds i true) a w) → K' a w) → Oper.wp P o a w K' (NoPanic Q)) (h1 : ops[i]? = some o:=by simp only [List.getElem?_toArray,List.getElem?_cons_succ,List.getElem?_cons_zero]; rfl) (h2 : Region.ready .any ops l = [i]:=by kernel_rfl) (h3 : Region.wanted o (yielded ops a.tmps) = true:=by rfl) : wpAnyH P .any ops (NoPanic Q) S (fuel + 1) l a w :=
 wpAnyH_ready h2 (by simp) (AllReadyH.cons h1 (fun K' hK => by rw [if_pos h3]; exact hk K' hK) AllReadyH.nil)
theorem rdn (h : Q .normal a w) (hr : Region.ready .any ops l = []:=by kernel_rfl) : wpAnyH P .any ops (NoPanic Q) S fuel l a w:=wpAnyH_done hr (NoPanic.normal h) fuel
variable {ops0 : Array Oper} {md : Region.Mode} {i : Nat}
theorem rdp (d k : Nat) {o : Oper} {e : Edge} (hi : i ∈ Region.ready md ops l) (hO : ops = ops0) (ho : ops0[i]? = some o:=by simp only [List.getElem?_toArray,List.getElem?_cons_succ,List.getElem?_cons_zero]; rfl) (he : o.after[k]? = some e:=by rfl) (hb : Region.binds md e = true:=by rfl) (hd : e.on = d:=by rfl) : l.getD d false = true:=by
 subst hO; subst hd; exact zpR hi ho he hb
theorem als (i : Nat) {o : Oper} (h : Region.ready md ops l = []) (hO : ops = ops0) (ho : ops0[i]? = some o:=by simp only [List.getElem?_toArray,List.getElem?_cons_succ,List.getElem?_cons_zero]; rfl) (hr : (o.after.toList.all fun e => !Region.binds md e || l.getD e.on false) = true:=by rfl) : l.getD i true = true:=by
 subst hO; exact znD h ho hr
theorem gdl (i : Nat) {L l : Array Bool} (h : L = l) : l.getD i false = L.getD i false:=by rw [h]
theorem Gd.off {b : Bool} (h : Gd b (false = true)) : b = false:=by
 cases b
 ·rfl
 ·exact absurd (h rfl) (by decide)
theorem wog {o : Oper} {K : Act → World → Prop} {Q : Exit → Act → World → Prop} (hO : ops = ops0) (h : ∀ K' : Act → World → Prop,Shut (∀ a w,K a w → K' a w) → Oper.wp P o a w K' Q) (ho : ops0[i]? = some o:=by simp only [List.getElem?_toArray,List.getElem?_cons_succ,List.getElem?_cons_zero]; rfl) (hg : o.guard = none:=by rfl) : wpOp P ops Q i K a w:=by
 subst hO; exact wpOp_go ho hg h
theorem kq0 {f : Bool} {a : Act} {x i : Nat} {u v : Value} (h : Gd f (a.tmps.getD x undef = u)) (hn : x ≠ i:=by decide) : Gd f ((a.put (some i) v).tmps.getD x undef = u):=h.mono fun h => (rd_ne hn _).trans h
theorem kq {f : Bool} {a : Act} {x i : Nat} {u v : Value} {p q : Prop} (h : Gd f (a.tmps.getD x undef = u ∧ p)) (g : p → q) (hn : x ≠ i:=by decide) : Gd f ((a.put (some i) v).tmps.getD x undef = u ∧ q):=h.mono fun h => ⟨(rd_ne hn _).trans h.1,g h.2⟩
end
theorem Blk.c1 {w : World} {g : Nat} {t : TypeId} {x : Value} (h : Blk w g t #[x]) : w.cell? ⟨g,0,none⟩ = some x:=h.cell 0
theorem Blk.c2 {w : World} {g : Nat} {t : TypeId} {x y : Value} (h : Blk w g t #[x,y]) : w.cell? ⟨g,0,none⟩ = some x ∧ w.cell? ⟨g,1,none⟩ = some y:=⟨h.cell 0,h.cell 1⟩
theorem Blk.c3 {w : World} {g : Nat} {t : TypeId} {x y z : Value} (h : Blk w g t #[x,y,z]) : w.cell? ⟨g,0,none⟩ = some x ∧ w.cell? ⟨g,1,none⟩ = some y ∧ w.cell? ⟨g,2,none⟩ = some z:=⟨h.cell 0,h.cell 1,h.cell 2⟩
theorem st1 {w : World} {g : Nat} {t : TypeId} {a : Value} (h : Blk w g t #[a]) : w.cell? ⟨g,0,none⟩ = some a ∧ w.frozen? ⟨g,0,none⟩ = false:=⟨h.cell 0,h.frozen 0⟩
theorem st2 {w : World} {g : Nat} {t : TypeId} {a b : Value} (h : Blk w g t #[a,b]) (x : Value) : w.cell? ⟨g,0,none⟩ = some a ∧ w.frozen? ⟨g,0,none⟩ = false ∧ (w.setCell ⟨g,0,none⟩ x).cell? ⟨g,1,none⟩ = some b ∧ (w.setCell ⟨g,0,none⟩ x).frozen? ⟨g,1,none⟩ = false:=⟨h.cell 0,h.frozen 0,(h.set_ 0 x).cell 1,(h.set_ 0 x).frozen 1⟩
theorem st3 {w : World} {g : Nat} {t : TypeId} {a b c : Value} (h : Blk w g t #[a,b,c]) (x y : Value) : w.cell? ⟨g,0,none⟩ = some a ∧ w.frozen? ⟨g,0,none⟩ = false ∧ (w.setCell ⟨g,0,none⟩ x).cell? ⟨g,1,none⟩ = some b ∧ (w.setCell ⟨g,0,none⟩ x).frozen? ⟨g,1,none⟩ = false ∧ ((w.setCell ⟨g,0,none⟩ x).setCell ⟨g,1,none⟩ y).cell? ⟨g,2,none⟩ = some c ∧ ((w.setCell ⟨g,0,none⟩ x).setCell ⟨g,1,none⟩ y).frozen? ⟨g,2,none⟩ = false :=
 ⟨h.cell 0,h.frozen 0,(h.set_ 0 x).cell 1,(h.set_ 0 x).frozen 1,((h.set_ 0 x).set_ 1 y).cell 2,((h.set_ 0 x).set_ 1 y).frozen 2⟩
theorem sn1 {w : World} {g : Nat} {t : TypeId} {a : Value} (h : Blk w g t #[a]) (x : Value) : Blk (w.setCell ⟨g,0,none⟩ x) g t #[x]:=h.set_ 0 x
theorem sn2 {w : World} {g : Nat} {t : TypeId} {a b : Value} (h : Blk w g t #[a,b]) (x y : Value) : Blk ((w.setCell ⟨g,0,none⟩ x).setCell ⟨g,1,none⟩ y) g t #[x,y]:=(h.set_ 0 x).set_ 1 y
theorem sn3 {w : World} {g : Nat} {t : TypeId} {a b c : Value} (h : Blk w g t #[a,b,c]) (x y z : Value) : Blk (((w.setCell ⟨g,0,none⟩ x).setCell ⟨g,1,none⟩ y).setCell ⟨g,2,none⟩ z) g t #[x,y,z]:=((h.set_ 0 x).set_ 1 y).set_ 2 z
theorem bl1 {w W : World} {g : Nat} (x : Value) (hg : w.heap.size ≤ g) (h : Below w.heap.size w W) : Below w.heap.size w (W.setCell ⟨g,0,none⟩ x):=zao x hg h
theorem bl2 {w W : World} {g : Nat} (x y : Value) (hg : w.heap.size ≤ g) (h : Below w.heap.size w W) : Below w.heap.size w ((W.setCell ⟨g,0,none⟩ x).setCell ⟨g,1,none⟩ y):=zao y hg (zao x hg h)
theorem bl3 {w W : World} {g : Nat} (x y z : Value) (hg : w.heap.size ≤ g) (h : Below w.heap.size w W) : Below w.heap.size w (((W.setCell ⟨g,0,none⟩ x).setCell ⟨g,1,none⟩ y).setCell ⟨g,2,none⟩ z):=zao z hg (bl2 x y hg h)
theorem gn1 {w W : World} {x g : Nat} {t : TypeId} {A : oA9} {n c : Nat} {q : oA9} {r s : Nat} (h : zaf W x A n c) (k : Blk W g t #[.slice q r s]) (hB : Below w.heap.size w W) (hg : w.heap.size ≤ g) : zeA w x (.returned (.agg #[.slice A n c])) (W.setCell ⟨g,0,none⟩ (.slice A n c)) :=
 ⟨_,_,_,rfl,zak h k (NoU.s1 _ _ _) (zaP _ _ _),bl1 _ hg hB⟩
theorem gi2 {w W : World} {z : Int} {g : Nat} {t : TypeId} {b : Bool} {A : oA9} {n c : Nat} {p : Bool} {q : oA9} {r s : Nat} (h : zaE W z b A n c) (k : Blk W g t #[.bool p,.slice q r s]) (hB : Below w.heap.size w W) (hg : w.heap.size ≤ g) : zcC w z (.returned (.agg #[.bool b,.slice A n c])) ((W.setCell ⟨g,0,none⟩ (.bool b)).setCell ⟨g,1,none⟩ (.slice A n c)) :=
 ⟨_,_,_,_,rfl,zcx h k (NoU.s2 _ _ _ _) (off2 _ _ _ _),bl2 _ _ hg hB⟩
theorem gq3 {w W : World} {r : Rat} {g : Nat} {t : TypeId} {b : Bool} {A E : oA9} {n c k f : Nat} {p : Bool} {q q2 : oA9} {r1 s r2 s2 : Nat} (h : zaF W r b A n c E k f) (kd : Blk W g t #[.bool p,.slice q r1 s,.slice q2 r2 s2]) (hB : Below w.heap.size w W) (hg : w.heap.size ≤ g) : zfX w r (.returned (.agg #[.bool b,.slice A n c,.slice E k f])) (((W.setCell ⟨g,0,none⟩ (.bool b)).setCell ⟨g,1,none⟩ (.slice A n c)).setCell ⟨g,2,none⟩ (.slice E k f)) :=
 ⟨_,_,_,_,_,_,_,rfl,zbF h kd (NoU.s3 _ _ _ _ _ _ _) (zcy _ _ _ _ _),bl3 _ _ _ hg hB⟩
theorem gb3 {w W : World} {r : Rat} (u : Bool) {g : Nat} {t : TypeId} {b : Bool} {A E : oA9} {n c k f : Nat} {p : Bool} {q q2 : oA9} {r1 s r2 s2 : Nat} (h : zaF W r b A n c E k f) (kd : Blk W g t #[.bool p,.slice q r1 s,.slice q2 r2 s2]) (hB : Below w.heap.size w W) (hg : w.heap.size ≤ g) : zcn w r u (.returned (.tuple #[.agg #[.bool b,.slice A n c,.slice E k f],.bool u])) (((W.setCell ⟨g,0,none⟩ (.bool b)).setCell ⟨g,1,none⟩ (.slice A n c)).setCell ⟨g,2,none⟩ (.slice E k f)) :=
 ⟨_,_,_,_,_,_,_,rfl,zbF h kd (NoU.s3 _ _ _ _ _ _ _) (zcy _ _ _ _ _),bl3 _ _ _ hg hB⟩
section
variable {P : Program} {ops : Array Oper} {Q : Exit → Act → World → Prop} {S : World → Prop} {fuel : Nat} {l : Array Bool} {a : Act} {w : World}
theorem rgB {id : Nat} (h : Below w.heap.size w w.drew → wpAnyH P .any ops (NoPanic Q) (fun w' => Below w.heap.size w w') ops.size (Array.replicate ops.size false) a w.drew) (hm : P.follows Departure.mixedOrders = true:=by kernel_rfl) : Code.wp P (.region id ops true) Q a w :=
 wp_region_noPanic (wp_region_held_drew (S:=fun w' => Below w.heap.size w w') hm (Below.refl _ w).drew h)
theorem tl (i : Nat) {cl : List (Addr × Value)} (hc : ∀ w,S w → Cs w cl) {o : Oper} {v : Value} {a' : Act} (hn : wpAnyH P .any ops (NoPanic Q) S fuel (l.setIfInBounds i true) a' w) (h1 : ops[i]? = some o:=by simp only [List.getElem?_toArray,List.getElem?_cons_succ,List.getElem?_cons_zero]; rfl) (h2 : Region.noSelect ops = true:=by kernel_rfl) (h3 : Region.free .any ops l i = true:=by kernel_rfl) (h4 : (Region.ready .any ops l).contains i = true:=by kernel_rfl) (h5 : Region.wanted o (yielded ops a.tmps) = true:=by rfl) (h6 : ∀ w,Cs w cl → Sem.run P (execOp a.eval o) w = Result.ok (Next.value v) w:=by ((intro w hSw; (try dsimp only [Cs] at hSw); go_simp); (try with_reducible rfl))) (hS : S w:=by with_reducible assumption) (ha : a.put o.dst v = a':=by (simp only [sb9]; try rfl)) : wpAnyH P .any ops (NoPanic Q) S (fuel + 1) l a w :=
 wpAnyH_take h1 h2 h3 h4 (fun _ _ _ h => h) (Or.inl ⟨h5,fun w hs => h6 w (hc w hs)⟩) hS (ha ▸ hn)
end
theorem szw {K B x n c : Nat} {A : oA9} {w : World} (h : Hid (Sz K x)) (k : zaf w x A n c) (e : K ≤ B:=by omega) : n ≤ B:=Nat.le_trans (h.out.words k) e
theorem szi {K B n c : Nat} {z : Int} {b : Bool} {A : oA9} {w : World} (h : Hid (Sz K z.natAbs)) (k : zaE w z b A n c) (e : K ≤ B:=by omega) : n ≤ B:=Nat.le_trans (h.out.words k.words) e
theorem szq {K n k c f : Nat} {r : Rat} {b : Bool} {A E : oA9} {w : World} (h : Hid (SzQ K r)) (q : zaF w r b A n c E k f) (e : K ≤ 67108864:=by omega) : zbL n k:=SzQ.fit h.out q e
set_option maxRecDepth 100000
set_option linter.unusedSimpArgs false
theorem zaf.to8 {w : World} {x y : Nat} {A : oA9} {n c : Nat} (e : x = y) (h : zaf w x A n c) : zaf w y A n c:=e ▸ h
theorem zaE.to8 {w : World} {x y : Int} {b : Bool} {A : oA9} {n c : Nat} (e : x = y) (h : zaE w x b A n c) : zaE w y b A n c:=e ▸ h
theorem zqi (x : Nat) (A : oA9) (n c : Nat) (w : World) (h : zaf w x A n c) (hn : n ≤ 1099511627776) :
  Calls Tryz.prog 75 #[.agg #[.slice A n c]] w fun e w' => ∃ (B : oA9) (m d : Nat),e = .returned (.slice B m d) ∧ zaf w' x B m d ∧ Below w.heap.size w w':=by
 refine (zdh x A n c w h hn).mono ?_
 rintro e w' ⟨B,d,rfl,h1,h2,h3,h4⟩
 exact ⟨B,_,d,rfl,⟨h1,h2,h3.1⟩,h4⟩
theorem zpe {P : Program} {f : FuncId} {args : Array Value} {w : World} {z v : Int} (e : z = v) (h : Calls P f args w fun e w' => e = .returned (.tuple #[.int .u64 z,.bool true]) ∧ Below w.heap.size w w') : Calls P f args w fun e w' => e = .returned (.tuple #[.int .u64 v,.bool true]) ∧ Below w.heap.size w w':=by
 subst e; exact h
theorem zlZ (x : Nat) (A : oA9) (n c : Nat) (w : World) (hA : zaf w x A n c) (hn : n ≤ 1099511627776) : Calls Tryz.prog 29 #[.agg #[.slice A n c]] w (zdo w ((bitLen x : Nat) : Int)):=zgF x A n c w hA hn
theorem zaV {K q x : Nat} (h : Sz K q) (e : q = (if x = 0 then 1 else x) ∧ x ≠ 1) : Sz K x:=h.of_le (by rw [e.1]; split <;> omega)
theorem zbu {w : World} {r : Rat} {b : Bool} {A : oA9} {n c : Nat} {E : oA9} {k f K : Nat} (h : zaF w r b A n c E k f) (q : zbL n k) (hK : 67108864 = K) : SzQ K r:=by
 obtain ⟨x,e,hx⟩:=h.2
 have h1 : Sz K r.num.natAbs:=Sz.of_words h.1.2 (by have:=q.1; omega)
 have h2 : Sz K x:=Sz.of_words hx (by have:=q.2; omega)
 refine ⟨h1,?_⟩
 rw [e.1]
 split
 ·exact zcr (by omega)
 ·exact h2
theorem zaQ (w : World) : zaf w 0 none 0 0:=by
 refine ⟨⟨by rw [show dg 18446744073709551616 0 = [] from by rw [dg]; rfl]; rfl,fun h => absurd h (by decide)⟩,Nat.le_refl _,by decide⟩
theorem zaS (w : World) : zaF w (0 : Rat) false none 0 0 none 0 0:=⟨⟨rfl,zaQ w⟩,⟨0,⟨rfl,by decide⟩,zaQ w⟩⟩
theorem whole_in {w : World} {z : Int} {b : Bool} {A : oA9} {n c : Nat} (h : zaE w z b A n c) : zaF w (z : Rat) b A n c none 0 0:=⟨by rw [Rat.num_intCast]; exact h,⟨0,⟨by rw [Rat.den_intCast]; rfl,by decide⟩,zaQ w⟩⟩
theorem zpO {w : World} {r : Rat} {z : Int} {b : Bool} {A : oA9} {n c : Nat} {E : oA9} {k f : Nat} (hn : r.num = z) (hd : r.den = 1) (h : zaE w z b A n c) (q : zaf w 0 E k f) : zaF w r b A n c E k f :=
 ⟨by rw [hn]; exact h,⟨0,⟨by rw [hd]; rfl,by decide⟩,q⟩⟩
theorem zjk {w : World} {r : Rat} {z : Int} {y : Nat} {b : Bool} {A : oA9} {n c : Nat} {E : oA9} {k f : Nat} (hn : r.num = z) (hd : r.den = y) (hy : y ≠ 1) (h : zaE w z b A n c) (q : zaf w y E k f) : zaF w r b A n c E k f :=
 ⟨by rw [hn]; exact h,⟨y,⟨by rw [if_neg (fun h0 => r.den_nz (by rw [hd,h0]))]; exact hd,hy⟩,q⟩⟩
theorem zgi {q x : Nat} (e : q = (if x = 0 then 1 else x) ∧ x ≠ 1) (h : q = 1) : x = 0:=by
 refine Decidable.byContradiction fun h0 => ?_
 rw [if_neg h0] at e
 omega
theorem zed {q x : Nat} (e : q = (if x = 0 then 1 else x) ∧ x ≠ 1) (h : q ≠ 1) : x ≠ 0 ∧ x = q:=by
 have h0 : x ≠ 0:=fun h0 => h (by rw [e.1,if_pos h0])
 refine ⟨h0,?_⟩
 have:=e.1
 rw [if_neg h0] at this
 exact this.symm
theorem zpW (z : Int) : zcD (decide (z < 0)) z.natAbs = z:=by
 unfold zcD
 by_cases h : z < 0
 ·rw [decide_eq_true h,if_pos rfl]; omega
 ·rw [decide_eq_false h,if_neg (by decide)]; omega
theorem zpC {w : World} {x : Nat} {A : oA9} {n c : Nat} (h : zaf w x A n c) (hn : n ≤ 1) : x < 18446744073709551616:=ziS h.len hn
theorem len_one {w : World} {x : Nat} {A : oA9} {n c : Nat} (h : zaf w x A n c) (hx : x = 1) : n ≤ 1:=by
 have h1 : Sz 1 x:=by rw [hx]; exact zcr (by decide)
 exact h1.words h
theorem zoh (p d : Int) (hd : d ≠ 0) : (Rat.divInt p d).num = zcD (decide (p < 0) != decide (d < 0)) (p.natAbs / Nat.gcd p.natAbs d.natAbs) ∧ (Rat.divInt p d).den = d.natAbs / Nat.gcd p.natAbs d.natAbs:=by
 refine ⟨?_,zer p d hd⟩
 have h1:=zfj p d hd
 have h2:=zes p d hd
 rw [← h1]
 generalize (Rat.divInt p d).num = z at *
 unfold zcD
 by_cases hp : p < 0
 ·by_cases hq : d < 0
  ·rw [decide_eq_true hp,decide_eq_true hq]; simp; omega
  ·rw [decide_eq_true hp,decide_eq_false hq]; simp; omega
 ·by_cases hq : d < 0
  ·rw [decide_eq_false hp,decide_eq_true hq]; simp
   by_cases h0 : p = 0
   ·subst h0; simp at h1; omega
   ·omega
  ·rw [decide_eq_false hp,decide_eq_false hq]; simp; omega
end Go.Proofs.YtfieheffipfahaaGreatDoor
