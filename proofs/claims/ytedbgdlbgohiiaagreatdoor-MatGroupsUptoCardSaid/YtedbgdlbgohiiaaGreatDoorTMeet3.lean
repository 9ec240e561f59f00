/- What this claim leans on. -/
import Derived.Test.YtedbgdlbgohiiaaGreatDoorTVMath
namespace Go.Proofs.YtedbgdlbgohiiaaGreatDoor
open Go Go.RowKit
set_option maxHeartbeats 16000000
set_option linter.unusedVariables false
def Cs (w : World) : List (Addr × Value) → Prop
 | [] => True
 | q :: t => w.cell? q.1 = some q.2 ∧ Cs w t
theorem csn {w : World} : Cs w []:=trivial
theorem csc {w : World} {p : Addr} {v : Value} {l : List (Addr × Value)} (h : w.cell? p = some v) (t : Cs w l) : Cs w ((p,v) :: l):=⟨h,t⟩
theorem Cs.below {w w' : World} {l : List (Addr × Value)} (h : Cs w l) (hb : Below w.heap.size w w') : Cs w' l:=by
 induction l with
 | nil => trivial
 | cons q t ih => exact ⟨zab hb h.1,ih h.2⟩
theorem Cs.drew {w : World} {l : List (Addr × Value)} (h : Cs w l) : Cs w.drew l:=by
 induction l with
 | nil => trivial
 | cons q t ih => exact ⟨h.1,ih h.2⟩
def OffL (g : Nat) : List (Addr × Value) → Prop
 | [] => True
 | q :: t => q.1.block ≠ g ∧ OffL g t
theorem Cs.far {w w' : World} {g : Nat} {l : List (Addr × Value)} (h : Cs w l) (hf : zdn g w w') (hn : OffL g l) : Cs w' l:=by
 induction l with
 | nil => trivial
 | cons q t ih => exact ⟨(hf.2 q.1 hn.1).trans h.1,ih h.2 hn.2⟩
theorem cs2 {w : World} {g : Nat} {l : List (Addr × Value)} (x y : Value) (h : Cs w l) (hn : OffL g l:=by (simp only [OffL,and_true]; try omega)) : Cs ((w.setCell ⟨g,0,none⟩ x).setCell ⟨g,1,none⟩ y) l:=h.far (zeF w g x y) hn
theorem cs3 {w : World} {g : Nat} {l : List (Addr × Value)} (x y z : Value) (h : Cs w l) (hn : OffL g l:=by (simp only [OffL,and_true]; try omega)) : Cs (((w.setCell ⟨g,0,none⟩ x).setCell ⟨g,1,none⟩ y).setCell ⟨g,2,none⟩ z) l:=h.far (off3 w g x y z) hn
theorem sb9 : (∀ (a : Act) (d : Nat) (v : Value),a.put (some d) v = { tmps:=a.tmps.setIfInBounds d v,defers:=a.defers }) ∧ (∀ (a : Act) (v : Value),a.put none v = a) ∧ (∀ (l : List Value) (i : Nat) (v : Value),l.toArray.setIfInBounds i v = (l.set i v).toArray) ∧ (∀ (x : Value) (l : List Value) (v : Value),(x :: l).set 0 v = v :: l) ∧ (∀ (x : Value) (l : List Value) (i : Nat) (v : Value),(x :: l).set (i + 1) v = x :: l.set i v) :=
 ⟨fun _ _ _ => rfl,fun _ _ => rfl,fun _ _ _ => List.setIfInBounds_toArray ..,fun _ _ _ => rfl,fun _ _ _ _ => rfl⟩
section
variable {P : Program} {ops : Array Oper} {Q : Exit → Act → World → Prop} {S : World → Prop} {fuel : Nat} {l : Array Bool} {a : Act} {w : World}
theorem rg {id : Nat} {cl : List (Addr × Value)} (h0 : Cs w cl) (h : Cs w.drew cl → wpAnyH P .any ops (NoPanic Q) (fun w' => Cs w' cl) ops.size (Array.replicate ops.size false) a w.drew) (hm : P.follows Departure.mixedOrders = true:=by kernel_rfl) : Code.wp P (.region id ops true) Q a w :=
 wp_region_noPanic (wp_region_held_drew (S:=fun w' => Cs w' cl) hm h0.drew h)
theorem tk (i : Nat) {o : Oper} {v : Value} {a' : Act} (hn : wpAnyH P .any ops (NoPanic Q) S fuel (l.setIfInBounds i true) a' w) (h1 : ops[i]? = some o:=by simp only [List.getElem?_toArray,List.getElem?_cons_succ,List.getElem?_cons_zero]; rfl) (h2 : Region.noSelect ops = true:=by kernel_rfl) (h3 : Region.free .any ops l i = true:=by kernel_rfl) (h4 : (Region.ready .any ops l).contains i = true:=by kernel_rfl) (h5 : Region.wanted o (yielded ops a.tmps) = true:=by rfl) (h6 : ∀ w,S w → Sem.run P (execOp a.eval o) w = Result.ok (Next.value v) w:=by ((intro w hSw; (try dsimp only [Cs] at hSw); go_simp); (try with_reducible rfl))) (hS : S w:=by with_reducible assumption) (ha : a.put o.dst v = a':=by (simp only [sb9]; try rfl)) : wpAnyH P .any ops (NoPanic Q) S (fuel + 1) l a w :=
 wpAnyH_take h1 h2 h3 h4 (fun _ _ _ h => h) (Or.inl ⟨h5,h6⟩) hS (ha ▸ hn)
theorem tu (i : Nat) {o : Oper} {a' : Act} (hn : wpAnyH P .any ops (NoPanic Q) S fuel (l.setIfInBounds i true) a' w) (h1 : ops[i]? = some o:=by simp only [List.getElem?_toArray,List.getElem?_cons_succ,List.getElem?_cons_zero]; rfl) (h2 : Region.noSelect ops = true:=by kernel_rfl) (h3 : Region.free .any ops l i = true:=by kernel_rfl) (h4 : (Region.ready .any ops l).contains i = true:=by kernel_rfl) (h5 : Region.wanted o (yielded ops a.tmps) = false:=by rfl) (hS : S w:=by with_reducible assumption) (ha : a.put o.dst undef = a':=by (simp only [sb9]; try rfl)) : wpAnyH P .any ops (NoPanic Q) S (fuel + 1) l a w :=
 wpAnyH_take h1 h2 h3 h4 (fun _ _ _ h => h) (Or.inr ⟨h5,rfl⟩) hS (ha ▸ hn)
theorem rc (i : Nat) {o : Oper} (hk : ∀ K' : Act → World → Prop,Shut (∀ (a : Act) (w : World),S w → (S w → wpAnyH P .any ops (NoPanic Q) S fuel (l.setIfInBounds i true) a w) → K' a w) → Oper.wp P o a w K' (NoPanic Q)) (h1 : ops[i]? = some o:=by simp only [List.getElem?_toArray,List.getElem?_cons_succ,List.getElem?_cons_zero]; rfl) (h2 : Region.ready .any ops l = [i]:=by kernel_rfl) (h3 : Region.wanted o (yielded ops a.tmps) = true:=by rfl) : wpAnyH P .any ops (NoPanic Q) S (fuel + 1) l a w :=
 wpAnyH_ready h2 (by simp) (AllReadyH.cons h1 (fun K' hK => by rw [if_pos h3]; exact hk K' hK) AllReadyH.nil)
theorem rdn (h : Q .normal a w) (hr : Region.ready .any ops l = []:=by kernel_rfl) : wpAnyH P .any ops (NoPanic Q) S fuel l a w:=wpAnyH_done hr (NoPanic.normal h) fuel
variable {ops0 : Array Oper} {md : Region.Mode} {i : Nat}
theorem rdp (d k : Nat) {o : Oper} {e : Edge} (hi : i ∈ Region.ready md ops l) (hO : ops = ops0) (ho : ops0[i]? = some o:=by simp only [List.getElem?_toArray,List.getElem?_cons_succ,List.getElem?_cons_zero]; rfl) (he : o.after[k]? = some e:=by rfl) (hb : Region.binds md e = true:=by rfl) (hd : e.on = d:=by rfl) : l.getD d false = true:=by
 subst hO; subst hd; exact zmP hi ho he hb
theorem als (i : Nat) {o : Oper} (h : Region.ready md ops l = []) (hO : ops = ops0) (ho : ops0[i]? = some o:=by simp only [List.getElem?_toArray,List.getElem?_cons_succ,List.getElem?_cons_zero]; rfl) (hr : (o.after.toList.all fun e => !Region.binds md e || l.getD e.on false) = true:=by rfl) : l.getD i true = true:=by
 subst hO; exact zkg h ho hr
theorem gdl (i : Nat) {L l : Array Bool} (h : L = l) : l.getD i false = L.getD i false:=by rw [h]
theorem Gd.off {b : Bool} (h : Gd b (false = true)) : b = false:=by
 cases b
 ·rfl
 ·exact absurd (h rfl) (by decide)
theorem wog {o : Oper} {K : Act → World → Prop} {Q : Exit → Act → World → Prop} (hO : ops = ops0) (h : ∀ K' : Act → World → Prop,Shut (∀ a w,K a w → K' a w) → Oper.wp P o a w K' Q) (ho : ops0[i]? = some o:=by simp only [List.getElem?_toArray,List.getElem?_cons_succ,List.getElem?_cons_zero]; rfl) (hg : o.guard = none:=by rfl) : wpOp P ops Q i K a w:=by
 subst hO; exact wpOp_go ho hg h
theorem kq0 {f : Bool} {a : Act} {x i : Nat} {u v : Value} (h : Gd f (a.tmps.getD x undef = u)) (hn : x ≠ i:=by decide) : Gd f ((a.put (some i) v).tmps.getD x undef = u):=h.mono fun h => (rd_ne hn _).trans h
theorem kq {f : Bool} {a : Act} {x i : Nat} {u v : Value} {p q : Prop} (h : Gd f (a.tmps.getD x undef = u ∧ p)) (g : p → q) (hn : x ≠ i:=by decide) : Gd f ((a.put (some i) v).tmps.getD x undef = u ∧ q):=h.mono fun h => ⟨(rd_ne hn _).trans h.1,g h.2⟩
end
theorem Blk.c1 {w : World} {g : Nat} {t : TypeId} {x : Value} (h : Blk w g t #[x]) : w.cell? ⟨g,0,none⟩ = some x:=h.cell 0
theorem Blk.c2 {w : World} {g : Nat} {t : TypeId} {x y : Value} (h : Blk w g t #[x,y]) : w.cell? ⟨g,0,none⟩ = some x ∧ w.cell? ⟨g,1,none⟩ = some y:=⟨h.cell 0,h.cell 1⟩
theorem Blk.c3 {w : World} {g : Nat} {t : TypeId} {x y z : Value} (h : Blk w g t #[x,y,z]) : w.cell? ⟨g,0,none⟩ = some x ∧ w.cell? ⟨g,1,none⟩ = some y ∧ w.cell? ⟨g,2,none⟩ = some z:=⟨h.cell 0,h.cell 1,h.cell 2⟩
theorem st1 {w : World} {g : Nat} {t : TypeId} {a : Value} (h : Blk w g t #[a]) : w.cell? ⟨g,0,none⟩ = some a ∧ w.frozen? ⟨g,0,none⟩ = false:=⟨h.cell 0,h.frozen 0⟩
theorem st2 {w : World} {g : Nat} {t : TypeId} {a b : Value} (h : Blk w g t #[a,b]) (x : Value) : w.cell? ⟨g,0,none⟩ = some a ∧ w.frozen? ⟨g,0,none⟩ = false ∧ (w.setCell ⟨g,0,none⟩ x).cell? ⟨g,1,none⟩ = some b ∧ (w.setCell ⟨g,0,none⟩ x).frozen? ⟨g,1,none⟩ = false:=⟨h.cell 0,h.frozen 0,(h.set_ 0 x).cell 1,(h.set_ 0 x).frozen 1⟩
theorem st3 {w : World} {g : Nat} {t : TypeId} {a b c : Value} (h : Blk w g t #[a,b,c]) (x y : Value) : w.cell? ⟨g,0,none⟩ = some a ∧ w.frozen? ⟨g,0,none⟩ = false ∧ (w.setCell ⟨g,0,none⟩ x).cell? ⟨g,1,none⟩ = some b ∧ (w.setCell ⟨g,0,none⟩ x).frozen? ⟨g,1,none⟩ = false ∧ ((w.setCell ⟨g,0,none⟩ x).setCell ⟨g,1,none⟩ y).cell? ⟨g,2,none⟩ = some c ∧ ((w.setCell ⟨g,0,none⟩ x).setCell ⟨g,1,none⟩ y).frozen? ⟨g,2,none⟩ = false :=
 ⟨h.cell 0,h.frozen 0,(h.set_ 0 x).cell 1,(h.set_ 0 x).frozen 1,((h.set_ 0 x).set_ 1 y).cell 2,((h.set_ 0 x).set_ 1 y).frozen 2⟩
theorem sn1 {w : World} {g : Nat} {t : TypeId} {a : Value} (h : Blk w g t #[a]) (x : Value) : Blk (w.setCell ⟨g,0,none⟩ x) g t #[x]:=h.set_ 0 x
theorem sn2 {w : World} {g : Nat} {t : TypeId} {a b : Value} (h : Blk w g t #[a,b]) (x y : Value) : Blk ((w.setCell ⟨g,0,none⟩ x).setCell ⟨g,1,none⟩ y) g t #[x,y]:=(h.set_ 0 x).set_ 1 y
theorem sn3 {w : World} {g : Nat} {t : TypeId} {a b c : Value} (h : Blk w g t #[a,b,c]) (x y z : Value) : Blk (((w.setCell ⟨g,0,none⟩ x).setCell ⟨g,1,none⟩ y).setCell ⟨g,2,none⟩ z) g t #[x,y,z]:=((h.set_ 0 x).set_ 1 y).set_ 2 z
theorem bl1 {w W : World} {g : Nat} (x : Value) (hg : w.heap.size ≤ g) (h : Below w.heap.size w W) : Below w.heap.size w (W.setCell ⟨g,0,none⟩ x):=zae x hg h
theorem bl2 {w W : World} {g : Nat} (x y : Value) (hg : w.heap.size ≤ g) (h : Below w.heap.size w W) : Below w.heap.size w ((W.setCell ⟨g,0,none⟩ x).setCell ⟨g,1,none⟩ y):=zae y hg (zae x hg h)
theorem bl3 {w W : World} {g : Nat} (x y z : Value) (hg : w.heap.size ≤ g) (h : Below w.heap.size w W) : Below w.heap.size w (((W.setCell ⟨g,0,none⟩ x).setCell ⟨g,1,none⟩ y).setCell ⟨g,2,none⟩ z):=zae z hg (bl2 x y hg h)
theorem gn1 {w W : World} {x g : Nat} {t : TypeId} {A : oA9} {n c : Nat} {q : oA9} {r s : Nat} (h : zad W x A n c) (k : Blk W g t #[.slice q r s]) (hB : Below w.heap.size w W) (hg : w.heap.size ≤ g) : zdD w x (.returned (.agg #[.slice A n c])) (W.setCell ⟨g,0,none⟩ (.slice A n c)) :=
 ⟨_,_,_,rfl,zar h k (NoU.s1 _ _ _) (zbt _ _ _),bl1 _ hg hB⟩
theorem gi2 {w W : World} {z : Int} {g : Nat} {t : TypeId} {b : Bool} {A : oA9} {n c : Nat} {p : Bool} {q : oA9} {r s : Nat} (h : zaB W z b A n c) (k : Blk W g t #[.bool p,.slice q r s]) (hB : Below w.heap.size w W) (hg : w.heap.size ≤ g) : zaR w z (.returned (.agg #[.bool b,.slice A n c])) ((W.setCell ⟨g,0,none⟩ (.bool b)).setCell ⟨g,1,none⟩ (.slice A n c)) :=
 ⟨_,_,_,_,rfl,zfs h k (NoU.s2 _ _ _ _) (zeF _ _ _ _),bl2 _ _ hg hB⟩
theorem gq3 {w W : World} {r : Rat} {g : Nat} {t : TypeId} {b : Bool} {A E : oA9} {n c k f : Nat} {p : Bool} {q q2 : oA9} {r1 s r2 s2 : Nat} (h : zaj W r b A n c E k f) (kd : Blk W g t #[.bool p,.slice q r1 s,.slice q2 r2 s2]) (hB : Below w.heap.size w W) (hg : w.heap.size ≤ g) : zaH w r (.returned (.agg #[.bool b,.slice A n c,.slice E k f])) (((W.setCell ⟨g,0,none⟩ (.bool b)).setCell ⟨g,1,none⟩ (.slice A n c)).setCell ⟨g,2,none⟩ (.slice E k f)) :=
 ⟨_,_,_,_,_,_,_,rfl,zgM h kd (NoU.s3 _ _ _ _ _ _ _) (off3 _ _ _ _ _),bl3 _ _ _ hg hB⟩
theorem gb3 {w W : World} {r : Rat} (u : Bool) {g : Nat} {t : TypeId} {b : Bool} {A E : oA9} {n c k f : Nat} {p : Bool} {q q2 : oA9} {r1 s r2 s2 : Nat} (h : zaj W r b A n c E k f) (kd : Blk W g t #[.bool p,.slice q r1 s,.slice q2 r2 s2]) (hB : Below w.heap.size w W) (hg : w.heap.size ≤ g) : zcz w r u (.returned (.tuple #[.agg #[.bool b,.slice A n c,.slice E k f],.bool u])) (((W.setCell ⟨g,0,none⟩ (.bool b)).setCell ⟨g,1,none⟩ (.slice A n c)).setCell ⟨g,2,none⟩ (.slice E k f)) :=
 ⟨_,_,_,_,_,_,_,rfl,zgM h kd (NoU.s3 _ _ _ _ _ _ _) (off3 _ _ _ _ _),bl3 _ _ _ hg hB⟩
section
variable {P : Program} {ops : Array Oper} {Q : Exit → Act → World → Prop} {S : World → Prop} {fuel : Nat} {l : Array Bool} {a : Act} {w : World}
theorem rgB {id : Nat} (h : Below w.heap.size w w.drew → wpAnyH P .any ops (NoPanic Q) (fun w' => Below w.heap.size w w') ops.size (Array.replicate ops.size false) a w.drew) (hm : P.follows Departure.mixedOrders = true:=by kernel_rfl) : Code.wp P (.region id ops true) Q a w :=
 wp_region_noPanic (wp_region_held_drew (S:=fun w' => Below w.heap.size w w') hm (Below.refl _ w).drew h)
theorem tl (i : Nat) {cl : List (Addr × Value)} (hc : ∀ w,S w → Cs w cl) {o : Oper} {v : Value} {a' : Act} (hn : wpAnyH P .any ops (NoPanic Q) S fuel (l.setIfInBounds i true) a' w) (h1 : ops[i]? = some o:=by simp only [List.getElem?_toArray,List.getElem?_cons_succ,List.getElem?_cons_zero]; rfl) (h2 : Region.noSelect ops = true:=by kernel_rfl) (h3 : Region.free .any ops l i = true:=by kernel_rfl) (h4 : (Region.ready .any ops l).contains i = true:=by kernel_rfl) (h5 : Region.wanted o (yielded ops a.tmps) = true:=by rfl) (h6 : ∀ w,Cs w cl → Sem.run P (execOp a.eval o) w = Result.ok (Next.value v) w:=by ((intro w hSw; (try dsimp only [Cs] at hSw); go_simp); (try with_reducible rfl))) (hS : S w:=by with_reducible assumption) (ha : a.put o.dst v = a':=by (simp only [sb9]; try rfl)) : wpAnyH P .any ops (NoPanic Q) S (fuel + 1) l a w :=
 wpAnyH_take h1 h2 h3 h4 (fun _ _ _ h => h) (Or.inl ⟨h5,fun w hs => h6 w (hc w hs)⟩) hS (ha ▸ hn)
end
theorem szw {K B x n c : Nat} {A : oA9} {w : World} (h : Hid (Sz K x)) (k : zad w x A n c) (e : K ≤ B:=by omega) : n ≤ B:=Nat.le_trans (h.out.words k) e
theorem szi {K B n c : Nat} {z : Int} {b : Bool} {A : oA9} {w : World} (h : Hid (Sz K z.natAbs)) (k : zaB w z b A n c) (e : K ≤ B:=by omega) : n ≤ B:=Nat.le_trans (h.out.words k.words) e
theorem szq {K n k c f : Nat} {r : Rat} {b : Bool} {A E : oA9} {w : World} (h : Hid (SzQ K r)) (q : zaj w r b A n c E k f) (e : K ≤ 67108864:=by omega) : zaP n k:=SzQ.fit h.out q e
end Go.Proofs.YtedbgdlbgohiiaaGreatDoor
