/- What this claim leans on. -/
import Derived.Test.YtedbgdlbgohiiaaGreatDoorBVRow
namespace Go.Proofs.YtedbgdlbgohiiaaGreatDoor
open Go Go.RowKit
set_option maxHeartbeats 16000000
set_option linter.unusedVariables false
def Cs (w : World) : List (Addr × Value) → Prop
 | [] => True
 | q :: t => w.cell? q.1 = some q.2 ∧ Cs w t
theorem csn {w : World} : Cs w []:=trivial
theorem csc {w : World} {p : Addr} {v : Value} {l : List (Addr × Value)} (h : w.cell? p = some v) (t : Cs w l) : Cs w ((p,v) :: l):=⟨h,t⟩
theorem Cs.below {w w' : World} {l : List (Addr × Value)} (h : Cs w l) (hb : Below w.heap.size w w') : Cs w' l:=by
 induction l with
 | nil => trivial
 | cons q t ih => exact ⟨zab hb h.1,ih h.2⟩
theorem Cs.drew {w : World} {l : List (Addr × Value)} (h : Cs w l) : Cs w.drew l:=by
 induction l with
 | nil => trivial
 | cons q t ih => exact ⟨h.1,ih h.2⟩
def OffL (g : Nat) : List (Addr × Value) → Prop
 | [] => True
 | q :: t => q.1.block ≠ g ∧ OffL g t
theorem Cs.far {w w' : World} {g : Nat} {l : List (Addr × Value)} (h : Cs w l) (hf : zcK g w w') (hn : OffL g l) : Cs w' l:=by
 induction l with
 | nil => trivial
 | cons q t ih => exact ⟨(hf.2 q.1 hn.1).trans h.1,ih h.2 hn.2⟩
theorem cs2 {w : World} {g : Nat} {l : List (Addr × Value)} (x y : Value) (h : Cs w l) (hn : OffL g l:=by (simp only [OffL,and_true]; try omega)) : Cs ((w.setCell ⟨g,0,none⟩ x).setCell ⟨g,1,none⟩ y) l:=h.far (zdf w g x y) hn
theorem cs3 {w : World} {g : Nat} {l : List (Addr × Value)} (x y z : Value) (h : Cs w l) (hn : OffL g l:=by (simp only [OffL,and_true]; try omega)) : Cs (((w.setCell ⟨g,0,none⟩ x).setCell ⟨g,1,none⟩ y).setCell ⟨g,2,none⟩ z) l:=h.far (off3 w g x y z) hn
theorem sb9 : (∀ (a : Act) (d : Nat) (v : Value),a.put (some d) v = { tmps:=a.tmps.setIfInBounds d v,defers:=a.defers }) ∧ (∀ (a : Act) (v : Value),a.put none v = a) ∧ (∀ (l : List Value) (i : Nat) (v : Value),l.toArray.setIfInBounds i v = (l.set i v).toArray) ∧ (∀ (x : Value) (l : List Value) (v : Value),(x :: l).set 0 v = v :: l) ∧ (∀ (x : Value) (l : List Value) (i : Nat) (v : Value),(x :: l).set (i + 1) v = x :: l.set i v) :=
 ⟨fun _ _ _ => rfl,fun _ _ => rfl,fun _ _ _ => List.setIfInBounds_toArray ..,fun _ _ _ => rfl,fun _ _ _ _ => rfl⟩
section
variable {P : Program} {ops : Array Oper} {Q : Exit → Act → World → Prop} {S : World → Prop} {fuel : Nat} {l : Array Bool} {a : Act} {w : World}
theorem rg {id : Nat} {cl : List (Addr × Value)} (h0 : Cs w cl) (h : Cs w.drew cl → wpAnyH P .any ops (NoPanic Q) (fun w' => Cs w' cl) ops.size (Array.replicate ops.size false) a w.drew) (hm : P.follows Departure.mixedOrders = true:=by kernel_rfl) : Code.wp P (.region id ops true) Q a w :=
 wp_region_noPanic (wp_region_held_drew (S:=fun w' => Cs w' cl) hm h0.drew h)
theorem tk (i : Nat) {o : Oper} {v : Value} {a' : Act} (hn : wpAnyH P .any ops (NoPanic Q) S fuel (l.setIfInBounds i true) a' w) (h1 : ops[i]? = some o:=by simp only [List.getElem?_toArray,List.getElem?_cons_succ,List.getElem?_cons_zero]; rfl) (h2 : Region.noSelect ops = true:=by kernel_rfl) (h3 : Region.free .any ops l i = true:=by kernel_rfl) (h4 : (Region.ready .any ops l).contains i = true:=by kernel_rfl) (h5 : Region.wanted o (yielded ops a.tmps) = true:=by rfl) (h6 : ∀ w,S w → Sem.run P (execOp a.eval o) w = Result.ok (Next.value v) w:=by ((intro w hSw; (try dsimp only [Cs] at hSw); go_simp); (try with_reducible rfl))) (hS : S w:=by with_reducible assumption) (ha : a.put o.dst v = a':=by (simp only [sb9]; try rfl)) : wpAnyH P .any ops (NoPanic Q) S (fuel + 1) l a w :=
 wpAnyH_take h1 h2 h3 h4 (fun _ _ _ h => h) (Or.inl ⟨h5,h6⟩) hS (ha ▸ hn)
theorem tu (i : Nat) {o : Oper} {a' : Act} (hn : wpAnyH P .any ops (NoPanic Q) S fuel (l.setIfInBounds i true) a' w) (h1 : ops[i]? = some o:=by simp only [List.getElem?_toArray,List.getElem?_cons_succ,List.getElem?_cons_zero]; rfl) (h2 : Region.noSelect ops = true:=by kernel_rfl) (h3 : Region.free .any ops l i = true:=by kernel_rfl) (h4 : (Region.ready .any ops l).contains i = true:=by kernel_rfl) (h5 : Region.wanted o (yielded ops a.tmps) = false:=by rfl) (hS : S w:=by with_reducible assumption) (ha : a.put o.dst undef = a':=by (simp only [sb9]; try rfl)) : wpAnyH P .any ops (NoPanic Q) S (fuel + 1) l a w :=
 wpAnyH_take h1 h2 h3 h4 (fun _ _ _ h => h) (Or.inr ⟨h5,rfl⟩) hS (ha ▸ hn)
theorem rc (i : Nat) {o : Oper} (hk : ∀ K' : Act → World → Prop,Shut (∀ (a : Act) (w : World),S w → (S w → wpAnyH P .any ops (NoPanic Q) S fuel (l.setIfInBounds i true) a w) → K' a w) → Oper.wp P o a w K' (NoPanic Q)) (h1 : ops[i]? = some o:=by simp only [List.getElem?_toArray,List.getElem?_cons_succ,List.getElem?_cons_zero]; rfl) (h2 : Region.ready .any ops l = [i]:=by kernel_rfl) (h3 : Region.wanted o (yielded ops a.tmps) = true:=by rfl) : wpAnyH P .any ops (NoPanic Q) S (fuel + 1) l a w :=
 wpAnyH_ready h2 (by simp) (AllReadyH.cons h1 (fun K' hK => by rw [if_pos h3]; exact hk K' hK) AllReadyH.nil)
theorem rdn (h : Q .normal a w) (hr : Region.ready .any ops l = []:=by kernel_rfl) : wpAnyH P .any ops (NoPanic Q) S fuel l a w:=wpAnyH_done hr (NoPanic.normal h) fuel
variable {ops0 : Array Oper} {md : Region.Mode} {i : Nat}
theorem rdp (d k : Nat) {o : Oper} {e : Edge} (hi : i ∈ Region.ready md ops l) (hO : ops = ops0) (ho : ops0[i]? = some o:=by simp only [List.getElem?_toArray,List.getElem?_cons_succ,List.getElem?_cons_zero]; rfl) (he : o.after[k]? = some e:=by rfl) (hb : Region.binds md e = true:=by rfl) (hd : e.on = d:=by rfl) : l.getD d false = true:=by
 subst hO; subst hd; exact znA hi ho he hb
theorem als (i : Nat) {o : Oper} (h : Region.ready md ops l = []) (hO : ops = ops0) (ho : ops0[i]? = some o:=by simp only [List.getElem?_toArray,List.getElem?_cons_succ,List.getElem?_cons_zero]; rfl) (hr : (o.after.toList.all fun e => !Region.binds md e || l.getD e.on false) = true:=by rfl) : l.getD i true = true:=by
 subst hO; exact zkN h ho hr
theorem gdl (i : Nat) {L l : Array Bool} (h : L = l) : l.getD i false = L.getD i false:=by rw [h]
theorem Gd.off {b : Bool} (h : Gd b (false = true)) : b = false:=by
 cases b
 ·rfl
 ·exact absurd (h rfl) (by decide)
theorem wog {o : Oper} {K : Act → World → Prop} {Q : Exit → Act → World → Prop} (hO : ops = ops0) (h : ∀ K' : Act → World → Prop,Shut (∀ a w,K a w → K' a w) → Oper.wp P o a w K' Q) (ho : ops0[i]? = some o:=by simp only [List.getElem?_toArray,List.getElem?_cons_succ,List.getElem?_cons_zero]; rfl) (hg : o.guard = none:=by rfl) : wpOp P ops Q i K a w:=by
 subst hO; exact wpOp_go ho hg h
theorem kq0 {f : Bool} {a : Act} {x i : Nat} {u v : Value} (h : Gd f (a.tmps.getD x undef = u)) (hn : x ≠ i:=by decide) : Gd f ((a.put (some i) v).tmps.getD x undef = u):=h.mono fun h => (rd_ne hn _).trans h
theorem kq {f : Bool} {a : Act} {x i : Nat} {u v : Value} {p q : Prop} (h : Gd f (a.tmps.getD x undef = u ∧ p)) (g : p → q) (hn : x ≠ i:=by decide) : Gd f ((a.put (some i) v).tmps.getD x undef = u ∧ q):=h.mono fun h => ⟨(rd_ne hn _).trans h.1,g h.2⟩
end
theorem Blk.c1 {w : World} {g : Nat} {t : TypeId} {x : Value} (h : Blk w g t #[x]) : w.cell? ⟨g,0,none⟩ = some x:=h.cell 0
theorem Blk.c2 {w : World} {g : Nat} {t : TypeId} {x y : Value} (h : Blk w g t #[x,y]) : w.cell? ⟨g,0,none⟩ = some x ∧ w.cell? ⟨g,1,none⟩ = some y:=⟨h.cell 0,h.cell 1⟩
theorem Blk.c3 {w : World} {g : Nat} {t : TypeId} {x y z : Value} (h : Blk w g t #[x,y,z]) : w.cell? ⟨g,0,none⟩ = some x ∧ w.cell? ⟨g,1,none⟩ = some y ∧ w.cell? ⟨g,2,none⟩ = some z:=⟨h.cell 0,h.cell 1,h.cell 2⟩
theorem st1 {w : World} {g : Nat} {t : TypeId} {a : Value} (h : Blk w g t #[a]) : w.cell? ⟨g,0,none⟩ = some a ∧ w.frozen? ⟨g,0,none⟩ = false:=⟨h.cell 0,h.frozen 0⟩
theorem st2 {w : World} {g : Nat} {t : TypeId} {a b : Value} (h : Blk w g t #[a,b]) (x : Value) : w.cell? ⟨g,0,none⟩ = some a ∧ w.frozen? ⟨g,0,none⟩ = false ∧ (w.setCell ⟨g,0,none⟩ x).cell? ⟨g,1,none⟩ = some b ∧ (w.setCell ⟨g,0,none⟩ x).frozen? ⟨g,1,none⟩ = false:=⟨h.cell 0,h.frozen 0,(h.set_ 0 x).cell 1,(h.set_ 0 x).frozen 1⟩
theorem st3 {w : World} {g : Nat} {t : TypeId} {a b c : Value} (h : Blk w g t #[a,b,c]) (x y : Value) : w.cell? ⟨g,0,none⟩ = some a ∧ w.frozen? ⟨g,0,none⟩ = false ∧ (w.setCell ⟨g,0,none⟩ x).cell? ⟨g,1,none⟩ = some b ∧ (w.setCell ⟨g,0,none⟩ x).frozen? ⟨g,1,none⟩ = false ∧ ((w.setCell ⟨g,0,none⟩ x).setCell ⟨g,1,none⟩ y).cell? ⟨g,2,none⟩ = some c ∧ ((w.setCell ⟨g,0,none⟩ x).setCell ⟨g,1,none⟩ y).frozen? ⟨g,2,none⟩ = false :=
 ⟨h.cell 0,h.frozen 0,(h.set_ 0 x).cell 1,(h.set_ 0 x).frozen 1,((h.set_ 0 x).set_ 1 y).cell 2,((h.set_ 0 x).set_ 1 y).frozen 2⟩
theorem sn1 {w : World} {g : Nat} {t : TypeId} {a : Value} (h : Blk w g t #[a]) (x : Value) : Blk (w.setCell ⟨g,0,none⟩ x) g t #[x]:=h.set_ 0 x
theorem sn2 {w : World} {g : Nat} {t : TypeId} {a b : Value} (h : Blk w g t #[a,b]) (x y : Value) : Blk ((w.setCell ⟨g,0,none⟩ x).setCell ⟨g,1,none⟩ y) g t #[x,y]:=(h.set_ 0 x).set_ 1 y
theorem sn3 {w : World} {g : Nat} {t : TypeId} {a b c : Value} (h : Blk w g t #[a,b,c]) (x y z : Value) : Blk (((w.setCell ⟨g,0,none⟩ x).setCell ⟨g,1,none⟩ y).setCell ⟨g,2,none⟩ z) g t #[x,y,z]:=((h.set_ 0 x).set_ 1 y).set_ 2 z
theorem bl1 {w W : World} {g : Nat} (x : Value) (hg : w.heap.size ≤ g) (h : Below w.heap.size w W) : Below w.heap.size w (W.setCell ⟨g,0,none⟩ x):=zae x hg h
theorem bl2 {w W : World} {g : Nat} (x y : Value) (hg : w.heap.size ≤ g) (h : Below w.heap.size w W) : Below w.heap.size w ((W.setCell ⟨g,0,none⟩ x).setCell ⟨g,1,none⟩ y):=zae y hg (zae x hg h)
theorem bl3 {w W : World} {g : Nat} (x y z : Value) (hg : w.heap.size ≤ g) (h : Below w.heap.size w W) : Below w.heap.size w (((W.setCell ⟨g,0,none⟩ x).setCell ⟨g,1,none⟩ y).setCell ⟨g,2,none⟩ z):=zae z hg (bl2 x y hg h)
theorem gn1 {w W : World} {x g : Nat} {t : TypeId} {A : oA9} {n c : Nat} {q : oA9} {r s : Nat} (h : zad W x A n c) (k : Blk W g t #[.slice q r s]) (hB : Below w.heap.size w W) (hg : w.heap.size ≤ g) : zdF w x (.returned (.agg #[.slice A n c])) (W.setCell ⟨g,0,none⟩ (.slice A n c)) :=
 ⟨_,_,_,rfl,zaq h k (NoU.s1 _ _ _) (zbz _ _ _),bl1 _ hg hB⟩
theorem gi2 {w W : World} {z : Int} {g : Nat} {t : TypeId} {b : Bool} {A : oA9} {n c : Nat} {p : Bool} {q : oA9} {r s : Nat} (h : zaF W z b A n c) (k : Blk W g t #[.bool p,.slice q r s]) (hB : Below w.heap.size w W) (hg : w.heap.size ≤ g) : zaP w z (.returned (.agg #[.bool b,.slice A n c])) ((W.setCell ⟨g,0,none⟩ (.bool b)).setCell ⟨g,1,none⟩ (.slice A n c)) :=
 ⟨_,_,_,_,rfl,zfA h k (NoU.s2 _ _ _ _) (zdf _ _ _ _),bl2 _ _ hg hB⟩
theorem gq3 {w W : World} {r : Rat} {g : Nat} {t : TypeId} {b : Bool} {A E : oA9} {n c k f : Nat} {p : Bool} {q q2 : oA9} {r1 s r2 s2 : Nat} (h : zai W r b A n c E k f) (kd : Blk W g t #[.bool p,.slice q r1 s,.slice q2 r2 s2]) (hB : Below w.heap.size w W) (hg : w.heap.size ≤ g) : zaI w r (.returned (.agg #[.bool b,.slice A n c,.slice E k f])) (((W.setCell ⟨g,0,none⟩ (.bool b)).setCell ⟨g,1,none⟩ (.slice A n c)).setCell ⟨g,2,none⟩ (.slice E k f)) :=
 ⟨_,_,_,_,_,_,_,rfl,zhc h kd (NoU.s3 _ _ _ _ _ _ _) (off3 _ _ _ _ _),bl3 _ _ _ hg hB⟩
theorem gb3 {w W : World} {r : Rat} (u : Bool) {g : Nat} {t : TypeId} {b : Bool} {A E : oA9} {n c k f : Nat} {p : Bool} {q q2 : oA9} {r1 s r2 s2 : Nat} (h : zai W r b A n c E k f) (kd : Blk W g t #[.bool p,.slice q r1 s,.slice q2 r2 s2]) (hB : Below w.heap.size w W) (hg : w.heap.size ≤ g) : zcy w r u (.returned (.tuple #[.agg #[.bool b,.slice A n c,.slice E k f],.bool u])) (((W.setCell ⟨g,0,none⟩ (.bool b)).setCell ⟨g,1,none⟩ (.slice A n c)).setCell ⟨g,2,none⟩ (.slice E k f)) :=
 ⟨_,_,_,_,_,_,_,rfl,zhc h kd (NoU.s3 _ _ _ _ _ _ _) (off3 _ _ _ _ _),bl3 _ _ _ hg hB⟩
section
variable {P : Program} {ops : Array Oper} {Q : Exit → Act → World → Prop} {S : World → Prop} {fuel : Nat} {l : Array Bool} {a : Act} {w : World}
theorem rgB {id : Nat} (h : Below w.heap.size w w.drew → wpAnyH P .any ops (NoPanic Q) (fun w' => Below w.heap.size w w') ops.size (Array.replicate ops.size false) a w.drew) (hm : P.follows Departure.mixedOrders = true:=by kernel_rfl) : Code.wp P (.region id ops true) Q a w :=
 wp_region_noPanic (wp_region_held_drew (S:=fun w' => Below w.heap.size w w') hm (Below.refl _ w).drew h)
theorem tl (i : Nat) {cl : List (Addr × Value)} (hc : ∀ w,S w → Cs w cl) {o : Oper} {v : Value} {a' : Act} (hn : wpAnyH P .any ops (NoPanic Q) S fuel (l.setIfInBounds i true) a' w) (h1 : ops[i]? = some o:=by simp only [List.getElem?_toArray,List.getElem?_cons_succ,List.getElem?_cons_zero]; rfl) (h2 : Region.noSelect ops = true:=by kernel_rfl) (h3 : Region.free .any ops l i = true:=by kernel_rfl) (h4 : (Region.ready .any ops l).contains i = true:=by kernel_rfl) (h5 : Region.wanted o (yielded ops a.tmps) = true:=by rfl) (h6 : ∀ w,Cs w cl → Sem.run P (execOp a.eval o) w = Result.ok (Next.value v) w:=by ((intro w hSw; (try dsimp only [Cs] at hSw); go_simp); (try with_reducible rfl))) (hS : S w:=by with_reducible assumption) (ha : a.put o.dst v = a':=by (simp only [sb9]; try rfl)) : wpAnyH P .any ops (NoPanic Q) S (fuel + 1) l a w :=
 wpAnyH_take h1 h2 h3 h4 (fun _ _ _ h => h) (Or.inl ⟨h5,fun w hs => h6 w (hc w hs)⟩) hS (ha ▸ hn)
end
theorem szw {K B x n c : Nat} {A : oA9} {w : World} (h : Hid (Sz K x)) (k : zad w x A n c) (e : K ≤ B:=by omega) : n ≤ B:=Nat.le_trans (h.out.words k) e
theorem szi {K B n c : Nat} {z : Int} {b : Bool} {A : oA9} {w : World} (h : Hid (Sz K z.natAbs)) (k : zaF w z b A n c) (e : K ≤ B:=by omega) : n ≤ B:=Nat.le_trans (h.out.words k.words) e
theorem szq {K n k c f : Nat} {r : Rat} {b : Bool} {A E : oA9} {w : World} (h : Hid (SzQ K r)) (q : zai w r b A n c E k f) (e : K ≤ 67108864:=by omega) : zaN n k:=SzQ.fit h.out q e
set_option linter.unusedSimpArgs false
def zfT (u : Value) : Prop:=∀ k z,u ≠ .int k z
def zbt (w : World) (v : Value) : Prop:=∀ g,v.ownBlock = some g → ∃ (cur : Array Value) (e : TypeId),w.heap[g]? = some (.cells cur e (0,0)) ∧ ∀ u ∈ cur.toList,zfT u
theorem zbt.nil (w : World) (c : Nat) : zbt w (.slice none 0 c):=fun g h => by simp [Value.ownBlock] at h
theorem zbt.block {w w' : World} {v : Value} (h : zbt w v) (hg : ∀ g,v.ownBlock = some g → w'.heap[g]? = w.heap[g]?) : zbt w' v:=fun g e => by
 obtain ⟨cur,t,h1,h2⟩:=h g e
 exact ⟨cur,t,(hg g e).trans h1,h2⟩
theorem zbt.below {w w' : World} {v : Value} (h : zbt w v) (hb : Below w.heap.size w w') : zbt w' v:=fun g e => by
 obtain ⟨cur,t,h1,h2⟩:=h g e
 exact ⟨cur,t,(hb.block g (Array.getElem?_eq_some_iff.1 h1).1).trans h1,h2⟩
theorem zhP {z : Array Value} {k : Nat} {u : Value} (hz : 0 < z.size) (hu : u ∈ (Builtin.zeroCells z k).toList) : u ∈ z.toList:=by
 unfold Builtin.zeroCells at hu
 rw [Array.mem_toList_iff,Array.mem_map] at hu
 obtain ⟨i,_,rfl⟩:=hu
 have hlt : i % z.size < z.size:=Nat.mod_lt _ hz
 rw [getElem!_pos z (i % z.size) hlt,Array.mem_toList_iff]
 exact Array.getElem_mem hlt
section
variable {P : Program} (w : World)
theorem zhC (base : Nat) (t ty e : TypeId) (i : TypeInfo) (z : Value) (size bytes : Nat) (ht : P.underlying t = some (.slice e)) (hi : P.info? e = some i) (hz : i.zero = some z)
  (hsize : i.size = size) (hby : i.bytes = bytes) (hzs : z.cells.size = size) (hsz : 0 < size)
  (v : Value) (n : Nat) (xs : List Value) (hown : w.ownsRow base e size v n xs)
  (a : Addr) (m c : Nat) (news : List Value) (hl : news.length = m * size) (hnews : ∀ j u,news[j]? = some u → w.cell? (a.add j) = some u) (h1 : ∀ u ∈ news,u.oneCell' = true)
  (h63 : n + m ≤ maxLen) (hbytes : (n + m) * bytes ≤ 140737488355328) (hbase : base ≤ w.heap.size)
  (hv : zbt w v) (hzn : ∀ u ∈ z.cells.toList,zfT u) (hnn : ∀ u ∈ news,zfT u) :
  ∃ v' w',(Builtin.append_ #[t,t] ty #[v,.slice (some a) m c]).run P w = .ok v' w' ∧ w'.ownsRow base e size v' (n + m) (xs ++ news) ∧ w.grownBy w' v.ownBlock ∧
   (v'.ownBlock = v.ownBlock ∨ v'.ownBlock = some w.heap.size) ∧ zbt w' v':=by
 subst hsize
 subst hby
 have hsmall : n + m ≤ 9223372036854775807:=by simp only [maxLen] at h63; omega
 have hlen : (xs ++ news).length = (n + m) * i.size:=by rw [List.length_append,hown.1,hl,Nat.add_mul]
 have grown : ∀ (old : Nat),old < n + m → (∀ u ∈ xs,zfT u) → ∀ (row : Option Nat),
   (w.drew.alloc (.cells (xs.toArray ++ news.toArray ++ Builtin.zeroCells z.cells (grownCap w (n + m) old e - (n + m))) e)).ownsRow base e i.size
     (.slice (some ⟨w.heap.size,0,none⟩) (n + m) (grownCap w (n + m) old e)) (n + m) (xs ++ news) ∧
   w.grownBy (w.drew.alloc (.cells (xs.toArray ++ news.toArray ++ Builtin.zeroCells z.cells (grownCap w (n + m) old e - (n + m))) e)) row ∧
   zbt (w.drew.alloc (.cells (xs.toArray ++ news.toArray ++ Builtin.zeroCells z.cells (grownCap w (n + m) old e - (n + m))) e)) (.slice (some ⟨w.heap.size,0,none⟩) (n + m) (grownCap w (n + m) old e)):=by
  intro old ho hxs row
  have hge:=grownCap_ge w (n + m) old e
  have hcm : grownCap w (n + m) old e ≤ maxLen:=grownCap_le_maxLen w (n + m) old e h63
  refine ⟨⟨hlen,.inr ⟨w.heap.size,_,_,rfl,hbase,heap_alloc_new w.drew _,hge,hcm,?_,?_⟩⟩,⟨rfl,rfl,rfl,by simp,fun k hk _ => heap_alloc_old w.drew _ hk⟩,?_⟩
  ·simp only [Array.size_append,List.size_toArray,size_zeroCells,hzs,hown.1,hl,← Nat.add_mul]
   congr 1
   omega
  ·simp only [Array.toList_append,List.append_assoc]
   rw [← List.append_assoc,← hlen]
   exact List.take_left
  ·intro g hg
   simp [Value.ownBlock] at hg
   subst hg
   refine ⟨_,_,heap_alloc_new w.drew _,fun u hu => ?_⟩
   simp only [Array.toList_append,List.mem_append] at hu
   rcases hu with (hu | hu) | hu
   ·exact hxs u hu
   ·exact hnn u hu
   ·exact hzn u (zhP (by omega) hu)
 rcases hown.2 with ⟨rfl,rfl⟩ | ⟨g,cap,cur,rfl,hbg,hg,hnc,hcm,hcs,htake⟩
 ·have hx : xs = []:=List.eq_nil_of_length_eq_zero (by simpa using hown.1)
  subst hx
  by_cases hm : m = 0
  ·subst hm
   have hn : news = []:=List.eq_nil_of_length_eq_zero (by simpa using hl)
   subst hn
   refine ⟨.slice none 0 0,w,?_,World.ownsRow_nil w base e i.size,⟨rfl,rfl,rfl,Nat.le_refl _,fun _ _ _ => rfl⟩,Or.inl rfl,zbt.nil _ _⟩
   simp [Builtin.append_,run_underlying ht,sizeOf,typeInfo,hi,Builtin.lenOf,Builtin.firstCells,loadCells,loadCellsFrom]
  ·have hr:=run_append_nil (P:=P) w t ty e i z ht hi hz a m c news hl hnews (by omega) (by omega) (by have hb:=hbytes; simp only [Nat.zero_add] at hb; omega)
   have hgr:=grown 0 (by omega) (fun u hu => by cases hu) (Value.ownBlock (.slice none 0 0))
   simp only [Nat.zero_add,List.nil_append,Array.empty_append] at hgr ⊢
   exact ⟨_,_,hr,hgr.1,hgr.2.1,Or.inr rfl,hgr.2.2⟩
 ·obtain ⟨cur2,e2,hg2,hcn⟩:=hv g rfl
  have hcur : cur2 = cur:=by
   rw [hg] at hg2
   injection hg2 with hg2
   injection hg2 with hg2
   exact hg2.symm
  subst hcur
  by_cases hroom : n + m ≤ cap
  ·have hfit : n * i.size + news.length ≤ cur2.size:=by rw [hl,hcs,← Nat.add_mul]; exact Nat.mul_le_mul_right _ hroom
   have hr:=run_append_room (P:=P) w t ty e i ht hi g n cap cur2 hg a m c news hl hnews h1 hroom hfit
   refine ⟨_,_,hr,⟨hlen,.inr ⟨g,cap,_,rfl,hbg,setRow_heap w g cur2 _ e _ hg,hroom,hcm,?_,?_⟩⟩,⟨rfl,rfl,rfl,by simp,fun k _ hk => setRow_other w g k _ (fun e => hk (by simp [Value.ownBlock,e]))⟩,Or.inl rfl,?_⟩
   ·simp only [List.size_toArray,List.length_append,List.length_take,List.length_drop,Array.length_toList]
    omega
   ·rw [htake,← hlen]
    exact List.take_left
   ·intro g' hg'
    simp [Value.ownBlock] at hg'
    subst hg'
    refine ⟨_,_,setRow_heap w g cur2 _ e _ hg,fun u hu => ?_⟩
    rw [List.mem_append,List.mem_append] at hu
    rcases hu with (hu | hu) | hu
    ·exact hcn u (List.mem_of_mem_take hu)
    ·exact hnn u hu
    ·exact hcn u (List.mem_of_mem_drop hu)
  ·have holds : ∀ j u,xs[j]? = some u → w.cell? ((⟨g,0,none⟩ : Addr).add j) = some u:=hown.cells (g:=g) rfl
   have hr:=run_append_grow (P:=P) w t ty e i z ht hi hz ⟨g,0,none⟩ n cap xs hown.1 holds a m c news hl hnews (by omega) (by omega) (growslice_fits (by omega) hbytes)
   have hxs : ∀ u ∈ xs,zfT u:=fun u hu => hcn u (List.mem_of_mem_take (by rw [htake]; exact hu))
   have hgr:=grown cap (by omega) hxs (Value.ownBlock (.slice (some ⟨g,0,none⟩) n cap))
   exact ⟨_,_,hr,hgr.1,hgr.2.1,Or.inr rfl,hgr.2.2⟩
theorem zbO {ops : Array Oper} {rest : List Oper} {o : Oper} {a : Act} {Q : Exit → Act → World → Prop} (hgd : o.guard = none) (s x : Operand) (t : TypeId)
  (ho : o.op = .call { callee:=.builtin .append,args:=#[s,x],argTypes:=#[t,t] })
  (base : Nat) (e : TypeId) (i : TypeInfo) (z : Value) (size bytes : Nat) (ht : P.underlying t = some (.slice e)) (hi : P.info? e = some i) (hz : i.zero = some z)
  (hsize : i.size = size) (hby : i.bytes = bytes) (hzs : z.cells.size = size) (hsz : 0 < size)
  (v : Value) (n : Nat) (xs : List Value) (hs : a.eval s = v) (hown : w.ownsRow base e size v n xs)
  (ad : Addr) (m c : Nat) (news : List Value) (hx : a.eval x = .slice (some ad) m c) (hl : news.length = m * size) (hnews : ∀ j u,news[j]? = some u → w.cell? (ad.add j) = some u) (h1 : ∀ u ∈ news,u.oneCell' = true)
  (h63 : n + m ≤ maxLen) (hbytes : (n + m) * bytes ≤ 140737488355328) (hbase : base ≤ w.heap.size)
  (hv : zbt w v) (hzn : ∀ u ∈ z.cells.toList,zfT u) (hnn : ∀ u ∈ news,zfT u)
  (h : ∀ v' w',w'.ownsRow base e size v' (n + m) (xs ++ news) → w.grownBy w' v.ownBlock → (v'.ownBlock = v.ownBlock ∨ v'.ownBlock = some w.heap.size) → zbt w' v' → wpList P ops Q rest (a.put o.dst v') w') :
  wpList P ops Q (o :: rest) a w:=by
 refine wpList_plain hgd fun K hK => ?_
 obtain ⟨v',w',hr,h2,h3,h4,h5⟩:=zhC (P:=P) w base t o.type e i z size bytes ht hi hz hsize hby hzs hsz v n xs hown ad m c news hl hnews h1 h63 hbytes hbase hv hzn hnn
 unfold Oper.wp execOp
 simp only [ho,resolve,invoke,builtin,Sem.run_bind,Sem.run_pure,Result.andThen_ok,List.map_toArray,List.map_cons,List.map_nil,hs,hx,hr]
 exact hK _ _ (h v' w' h2 h3 h4 h5)
end
theorem zbt.blk {w : World} {v : Value} {g : Nat} (h : zbt w v) (hg : v.ownBlock = some g) : ∃ (t : TypeId) (cs : Array Value),Blk w g t cs ∧ NoU cs:=by
 obtain ⟨cur,e,h1,h2⟩:=h g hg
 exact ⟨e,cur,h1,fun u hu k z => h2 u hu k z⟩
theorem zcV.grown {α : Type} {E : El α} (hE : zcV E) {w w' : World} {v : Value} {x : α} {b : Bool} {A : oA9} {n c : Nat} {F : oA9} {k f : Nat} (h : E w x b A n c F k f) (hg : w.grownBy w' v.ownBlock) (hn : zbt w v) : E w' x b A n c F k f:=by
 cases hv : v.ownBlock with
 | none => rw [hv] at hg; exact hE.below h (zcW hg)
 | some g =>
   rw [hv] at hg
   obtain ⟨t,cs,hk,hc⟩:=hn.blk hv
   exact hE.offg h hk hc (zcm.of_grown hg)
theorem zbe {w w' : World} {g : Nat} {t : TypeId} {cs : Array Value} {row : Option Nat} (h : Blk w g t cs) (hg : w.grownBy w' row) (hne : row ≠ some g) : Blk w' g t cs:=(hg.block g (Blk.lt h) (fun e => hne e.symm)).trans h
structure zcL {α : Type} (E : El α) (w : World) (base : Nat) (t : TypeId) (v : Value) (xs : List α) (vs : List Value) : Prop where
 own : w.ownsRow base t 3 v xs.length vs
 nou : zbt w v
 num : ∀ i x,xs[i]? = some x → ∃ (b : Bool) (B : oA9) (m d : Nat) (F : oA9) (u f : Nat),vs[i * 3]? = some (.bool b) ∧ vs[i * 3 + 1]? = some (.slice B m d) ∧ vs[i * 3 + 2]? = some (.slice F u f) ∧ E w x b B m d F u f
section
variable {α : Type} {E : El α}
theorem zcL.nil (w : World) (base : Nat) (t : TypeId) : zcL E w base t (.slice none 0 0) [] []:=⟨World.ownsRow_nil _ _ _ _,zbt.nil _ _,fun i x hi => by simp at hi⟩
theorem zcL.len {w : World} {base : Nat} {t : TypeId} {v : Value} {xs : List α} {vs : List Value} (h : zcL E w base t v xs vs) : vs.length = xs.length * 3:=h.own.1
theorem zcL.shape {w : World} {base : Nat} {t : TypeId} {v : Value} {xs : List α} {vs : List Value} (h : zcL E w base t v xs vs) : ∃ A c,v = .slice A xs.length c ∧ zaH E w A xs.length c xs ∧ ∀ ad,A = some ad → base ≤ ad.block:=by
 rcases h.own.2 with ⟨rfl,h0⟩ | ⟨g,cap,cur,rfl,hbg,hg,hnc,hcm,hcs,htake⟩
 ·have hx : xs = []:=List.eq_nil_of_length_eq_zero h0
  subst hx
  exact ⟨none,0,rfl,zaH.nil w,fun ad e => by cases e⟩
 ·have hcell:=h.own.cells (g:=g) rfl
  refine ⟨some ⟨g,0,none⟩,cap,rfl,⟨rfl,hnc,by unfold maxLen at hcm; omega,fun i x hi => ?_⟩,fun ad e => by injection e with e; subst e; exact hbg⟩
  obtain ⟨b,B,m,d,F,u,f,h1,h2,h3,h4⟩:=h.num i x hi
  exact ⟨_,b,B,m,d,F,u,f,rfl,(Array.getElem?_eq_some_iff.1 hg).1,hcell _ _ h1,hcell _ _ h2,hcell _ _ h3,h4⟩
theorem zcL.below (hE : zcV E) {w w' : World} {base : Nat} {t : TypeId} {v : Value} {xs : List α} {vs : List Value} (h : zcL E w base t v xs vs) (hb : Below w.heap.size w w') : zcL E w' base t v xs vs:=by
 refine ⟨⟨h.own.1,?_⟩,h.nou.below hb,fun i x hi => ?_⟩
 ·rcases h.own.2 with h1 | ⟨g,cap,cur,e1,e2,e3,e4⟩
  ·exact .inl h1
  ·exact .inr ⟨g,cap,cur,e1,e2,(hb.block g (Blk.lt (t:=t) (cs:=cur) e3)).trans e3,e4⟩
 ·obtain ⟨b,B,m,d,F,u,f,h1,h2,h3,h4⟩:=h.num i x hi
  exact ⟨b,B,m,d,F,u,f,h1,h2,h3,hE.below h4 hb⟩
theorem zcL.grow (hE : zcV E) {w w' : World} {base n : Nat} {t : TypeId} {v v' : Value} {xs : List α} {vs : List Value} {x : α} {b : Bool} {B F : oA9} {m d u f : Nat} (h : zcL E w base t v xs vs) (hx : E w x b B m d F u f)
  (ho : w'.ownsRow base t 3 v' n (vs ++ [.bool b,.slice B m d,.slice F u f])) (hn : n = xs.length + 1) (hg : w.grownBy w' v.ownBlock) (hnu : zbt w' v') : zcL E w' base t v' (xs ++ [x]) (vs ++ [.bool b,.slice B m d,.slice F u f]):=by
 have hl:=h.len
 refine ⟨by rw [List.length_append,List.length_singleton,← hn]; exact ho,hnu,fun i y hi => ?_⟩
 by_cases hlt : i < xs.length
 ·rw [List.getElem?_append_left hlt] at hi
  obtain ⟨b1,B1,m1,d1,F1,u1,f1,h1,h2,h3,h4⟩:=h.num i y hi
  exact ⟨b1,B1,m1,d1,F1,u1,f1,by rw [List.getElem?_append_left (by omega)]; exact h1,by rw [List.getElem?_append_left (by omega)]; exact h2,by rw [List.getElem?_append_left (by omega)]; exact h3,hE.grown h4 hg h.nou⟩
 ·rw [List.getElem?_append_right (by omega)] at hi
  have hi2 : i = xs.length:=by
   have:=(List.getElem?_eq_some_iff.1 hi).1
   simp at this
   omega
  subst hi2
  obtain rfl : x = y:=by
   rw [Nat.sub_self] at hi
   injection hi
  exact ⟨b,B,m,d,F,u,f,by rw [List.getElem?_append_right (by omega),hl,Nat.sub_self]; rfl,by rw [List.getElem?_append_right (by omega),hl,Nat.add_sub_cancel_left]; rfl,by rw [List.getElem?_append_right (by omega),hl,Nat.add_sub_cancel_left]; rfl,hE.grown hx hg h.nou⟩
end
theorem zhf {w : World} {g : Nat} {t : TypeId} {b : Bool} {B F : oA9} {m d u f : Nat} (h : Blk w g t #[.bool b,.slice B m d,.slice F u f]) : ∀ j v,[Value.bool b,.slice B m d,.slice F u f][j]? = some v → w.cell? ((⟨g,0,none⟩ : Addr).add j) = some v:=fun j v hv => by
 rw [zay]
 match j,hv with
 | 0,hv => simp at hv; subst hv; exact h.cell 0
 | 1,hv => simp at hv; subst hv; exact h.cell 1
 | 2,hv => simp at hv; subst hv; exact h.cell 2
theorem zjZ (b : Bool) (B F : oA9) (m d u f : Nat) : ∀ v ∈ [Value.bool b,.slice B m d,.slice F u f],v.oneCell' = true:=by intro v hv; simp at hv; rcases hv with rfl | rfl | rfl <;> rfl
theorem zjY (b : Bool) (B F : oA9) (m d u f : Nat) : ∀ v ∈ [Value.bool b,.slice B m d,.slice F u f],zfT v:=by intro v hv y z; simp at hv; rcases hv with rfl | rfl | rfl <;> (intro h9; cases h9)
theorem ziJ : ∀ u ∈ (Value.agg #[.bool false,.slice none 0 0,.slice none 0 0]).cells.toList,zfT u:=by intro u hu y z; simp [Value.cells] at hu; rcases hu with rfl | rfl <;> (intro h9; cases h9)
end Go.Proofs.YtedbgdlbgohiiaaGreatDoor
