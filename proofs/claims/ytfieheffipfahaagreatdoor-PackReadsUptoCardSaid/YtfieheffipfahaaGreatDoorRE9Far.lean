/- What this claim leans on. -/
import Derived.Test.YtfieheffipfahaaGreatDoorRE9As
import Derived.Test.YtfieheffipfahaaGreatDoorRP8C
namespace Go.Proofs.YtfieheffipfahaaGreatDoor
open Go Go.RowKit
open Go.Extern.Stop Go.Stop Go.Extern
set_option maxHeartbeats 16000000
set_option linter.unusedVariables false
theorem zkS (v : Value) (xT : TypeId) (w : World) : (Instr.typeAssert (.iface 123 v) xT 207 true).run Tryz.prog w = .ok (.tuple #[.nilIface,.bool false]) w:=run_typeAssert_lacksB Tryz.underlying207 (by kernel_rfl) (by kernel_rfl) v xT w
theorem znI (v : Value) (xT : TypeId) (w : World) : (Instr.typeAssert (.iface 123 v) xT 169 true).run Tryz.prog w = .ok (.tuple #[.iface 123 v,.bool true]) w:=run_typeAssert_hasB Tryz.underlying169 (by kernel_rfl) v xT w
theorem znJ (h : Value) (w : World) : (Go.method 364 123 h "Unwrap").run Tryz.prog w = .ok (195,h) w:=by kernel_rfl
theorem zpk (z : Int) (fb : Nat) (t : Addr) (old : Value) (w : World) (hg : w.cell? ⟨0,0,none⟩ = some (.iface 164 (.agg #[.pointer (some ⟨5,44,none⟩)]))) (hf : w.cell? ⟨fb,2,none⟩ = some (.iface 47 (.int .i64 z))) (ht0 : w.cell? t = some old) (hf0 : w.frozen? t = false) :
  Calls Tryz.prog 69 #[.iface 123 (.pointer (some ⟨fb,0,none⟩)),.iface 184 (.pointer (some t))] w fun e w' => e = .returned (.bool true) ∧ w' = ((((w.alloc (.cells #[.pointer (some t)] 184)).alloc (.cells #[.pointer (some ⟨5,184,none⟩),.pointer (some ⟨w.heap.size,0,none⟩),.int .u64 150] 177)).alloc (.cells #[.pointer (some ⟨5,184,none⟩),.pointer (some ⟨w.heap.size,0,none⟩),.int .u64 150] 177)).alloc (.cells #[.int .i64 z] 47)).setCell t (.int .i64 z):=by
 have x_typeOf:=@run_callFunc_extern Tryz.prog 67 _ ReflectliteType.typeOf Tryz.func67 (by kernel_rfl) (by kernel_rfl) (by kernel_rfl) (by kernel_rfl)
 have x_valueOf:=@run_callFunc_extern Tryz.prog 112 _ (fun args => ReflectliteValue.unpack (args.getD 0 (.tuple #[]))) Tryz.func112 (by kernel_rfl) (by kernel_rfl) (by kernel_rfl) (by kernel_rfl)
 have x_type:=@run_callFunc_extern Tryz.prog 113 _ (ReflectliteValue.methodAny (ReflectliteValue.valueError "reflectlite.Value.Type" 0) (fun t _ _ _ => ReflectliteType.toType t)) Tryz.func113 (by kernel_rfl) (by kernel_rfl) (by kernel_rfl) (by kernel_rfl)
 have x_isNil:=@run_callFunc_extern Tryz.prog 114 _ (ReflectliteValue.method (ReflectliteValue.valueError "reflectlite.Value.IsNil" 0) ReflectliteValue.isNil) Tryz.func114 (by kernel_rfl) (by kernel_rfl) (by kernel_rfl) (by kernel_rfl)
 have x_kind:=@run_callFunc_extern Tryz.prog 190 _ (ReflectliteType.abiMethod fun t => do pure (.int .u8 (← Rtype.kind t))) Tryz.func190 (by kernel_rfl) (by kernel_rfl) (by kernel_rfl) (by kernel_rfl)
 have x_telem:=@run_callFunc_extern Tryz.prog 199 _ (ReflectliteType.method ReflectliteType.elem) Tryz.func199 (by kernel_rfl) (by kernel_rfl) (by kernel_rfl) (by kernel_rfl)
 have x_implements:=@run_callFunc_extern Tryz.prog 200 _ (ReflectliteType.relation "Implements" ReflectliteType.implements_) Tryz.func200 (by kernel_rfl) (by kernel_rfl) (by kernel_rfl) (by kernel_rfl)
 have x_assignable:=@run_callFunc_extern Tryz.prog 197 _ (ReflectliteType.relation "AssignableTo" ReflectliteType.assignableTo) Tryz.func197 (by kernel_rfl) (by kernel_rfl) (by kernel_rfl) (by kernel_rfl)
 have x_elem:=@run_callFunc_extern Tryz.prog 134 _ (ReflectliteValue.method (ReflectliteValue.valueError "reflectlite.Value.Elem" 0) ReflectliteValue.elem) Tryz.func134 (by kernel_rfl) (by kernel_rfl) (by kernel_rfl) (by kernel_rfl)
 have x_set:=@run_callFunc_extern Tryz.prog 135 _ ReflectliteValue.set Tryz.func135 (by kernel_rfl) (by kernel_rfl) (by kernel_rfl) (by kernel_rfl)
 have t0:=zfd
 have t1:=zhv
 have m1:=zcu
 have m2:=zih
 have m2':=znG
 have m3:=zlY
 have m4:=zjR
 have m5:=zin
 have m6:=zgv
 have m7:=zgu
 have m8:=zcZ
 have m9:=zil
 have n1:=zjP
 have n2:=zij
 have n3:=zjN
 have l1:=zkS
 have l2:=znI
 have l3:=znJ
 have n4:=zhs ⟨w.heap.size,0,none⟩ t ((w.alloc (.cells #[.pointer (some t)] 184)).alloc (.cells #[.pointer (some ⟨5,184,none⟩),.pointer (some ⟨w.heap.size,0,none⟩),.int .u64 150] 177)) (by simp)
 have hlt : 0 < w.heap.size:=World.block_lt_of_cell? w ⟨0,0,none⟩ hg
 have htl : t.block < w.heap.size:=World.block_lt_of_cell? w t ht0
 have hfl : fb < w.heap.size:=World.block_lt_of_cell? w ⟨fb,2,none⟩ hf
 have hg2 : ((w.alloc (.cells #[.pointer (some t)] 184)).alloc (.cells #[.pointer (some ⟨5,184,none⟩),.pointer (some ⟨w.heap.size,0,none⟩),.int .u64 150] 177)).cell? ⟨0,0,none⟩ = some (.iface 164 (.agg #[.pointer (some ⟨5,44,none⟩)])):=by
  rw [World.cell?_alloc_lt _ _ ⟨0,0,none⟩ (by simp),World.cell?_alloc_lt _ _ ⟨0,0,none⟩ hlt]; exact hg
 have hf2 : (((w.alloc (.cells #[.pointer (some t)] 184)).alloc (.cells #[.pointer (some ⟨5,184,none⟩),.pointer (some ⟨w.heap.size,0,none⟩),.int .u64 150] 177)).alloc (.cells #[.pointer (some ⟨5,184,none⟩),.pointer (some ⟨w.heap.size,0,none⟩),.int .u64 150] 177)).cell? ⟨fb,2,none⟩ = some (.iface 47 (.int .i64 z)):=by
  rw [World.cell?_alloc_lt _ _ ⟨fb,2,none⟩ (by simp; omega),World.cell?_alloc_lt _ _ ⟨fb,2,none⟩ (by simp; omega),World.cell?_alloc_lt _ _ ⟨fb,2,none⟩ hfl]; exact hf
 have n5:=zhq ⟨w.heap.size,0,none⟩ t (((w.alloc (.cells #[.pointer (some t)] 184)).alloc (.cells #[.pointer (some ⟨5,184,none⟩),.pointer (some ⟨w.heap.size,0,none⟩),.int .u64 150] 177)).alloc (.cells #[.pointer (some ⟨5,184,none⟩),.pointer (some ⟨w.heap.size,0,none⟩),.int .u64 150] 177)) (by rw [World.cell?_alloc_lt _ _ ⟨w.heap.size,0,none⟩ (by simp; omega)]; simp)
 have n6:=zlX t ⟨w.heap.size + 1 + 1 + 1,0,none⟩ z old ((((w.alloc (.cells #[.pointer (some t)] 184)).alloc (.cells #[.pointer (some ⟨5,184,none⟩),.pointer (some ⟨w.heap.size,0,none⟩),.int .u64 150] 177)).alloc (.cells #[.pointer (some ⟨5,184,none⟩),.pointer (some ⟨w.heap.size,0,none⟩),.int .u64 150] 177)).alloc (.cells #[.int .i64 z] 47))
  (by rw [World.cell?_alloc_at _ _ _ _ (by simp)]; rfl)
  (by rw [World.cell?_alloc_lt _ _ t (by simp; omega),World.cell?_alloc_lt _ _ t (by simp; omega),World.cell?_alloc_lt _ _ t (by simp; omega),World.cell?_alloc_lt _ _ t htl]; exact ht0)
  (by rw [World.frozen?_alloc_old _ _ t (by simp; omega),World.frozen?_alloc_old _ _ t (by simp; omega),World.frozen?_alloc_old _ _ t (by simp; omega),World.frozen?_alloc_old _ _ t (Nat.ne_of_lt htl)]; exact hf0)
 go_enter Tryz.func69,Tryz.ntmps69
 go_wp2
 refine wp_loop_rounds 2 ?_
 rw [rounds_succ]
 go_wp2
 rw [rounds_succ]
 go_wp2
 go_ret
 exact ⟨rfl,rfl⟩
end Go.Proofs.YtfieheffipfahaaGreatDoor
namespace Go.Proofs.YtfieheffipfahaaGreatDoor
open Go Go.RowKit
set_option maxHeartbeats 16000000
set_option linter.unusedVariables false
def zei (g : Nat) (w w' : World) : Prop:=w'.heap.size = w.heap.size ∧ ∀ p : Addr,p.block ≠ g → w'.cell? p = w.cell? p
theorem zei.refl (g : Nat) (w : World) : zei g w w:=⟨rfl,fun _ _ => rfl⟩
theorem zei.set_ {g : Nat} {w w' : World} (h : zei g w w') (j : Nat) (v : Value) : zei g w (w'.setCell ⟨g,j,none⟩ v) :=
 ⟨by rw [← h.1]; simp,fun p hp => (World.cell?_setCell_other w' ⟨g,j,none⟩ p v (fun e => hp (by first | rw [e] | rw [← e]))).trans (h.2 p hp)⟩
theorem zaP (w : World) (g : Nat) (v0 : Value) : zei g w (w.setCell ⟨g,0,none⟩ v0):=(zei.refl g w).set_ 0 v0
theorem off2 (w : World) (g : Nat) (v0 v1 : Value) : zei g w ((w.setCell ⟨g,0,none⟩ v0).setCell ⟨g,1,none⟩ v1):=(zaP w g v0).set_ 1 v1
theorem zcy (w : World) (g : Nat) (v0 v1 v2 : Value) : zei g w (((w.setCell ⟨g,0,none⟩ v0).setCell ⟨g,1,none⟩ v1).setCell ⟨g,2,none⟩ v2):=(off2 w g v0 v1).set_ 2 v2
def NoU (cs : Array Value) : Prop:=∀ v ∈ cs.toList,∀ k z,v ≠ .int k z
theorem NoU.s1 (q : oA9) (r s : Nat) : NoU #[.slice q r s]:=by intro v hv k z e; simp at hv; subst hv; cases e
theorem NoU.s2 (p : Bool) (q : oA9) (r s : Nat) : NoU #[.bool p,.slice q r s]:=by intro v hv k z e; simp at hv; rcases hv with rfl | rfl <;> cases e
theorem NoU.s3 (p : Bool) (q : oA9) (r s : Nat) (q2 : oA9) (r2 s2 : Nat) : NoU #[.bool p,.slice q r s,.slice q2 r2 s2]:=by intro v hv k z e; simp at hv; rcases hv with rfl | rfl | rfl <;> cases e
theorem nou1 : NoU #[.slice none 0 0]:=NoU.s1 _ _ _
theorem zdE : NoU #[.bool false,.slice none 0 0,.slice none 0 0]:=NoU.s3 _ _ _ _ _ _ _
theorem zpQ {w : World} {A : oA9} {n g : Nat} {k : IntKind} {l : List Nat} {t : TypeId} {cs : Array Value} (h : zas w w.heap.size 1 A n (zaq k l)) (hk : Blk w g t cs) (hcs : NoU cs) : 0 < n → ∀ ad,A = some ad → ad.block ≠ g:=fun hn ad e hg => by
 have hl:=h.len_
 obtain ⟨ad',e',_,hc⟩:=h.2 hn
 rw [e] at e'
 injection e' with e'
 subst e'
 have h0:=hc 0 (.int k (l.getD 0 0 : Nat)) (zcU k _ 0 (by omega))
 have e0 : ad.add 0 = ad:=by unfold Addr.add; rw [if_pos rfl]
 rw [e0] at h0
 obtain ⟨bk,off,pr⟩:=ad
 simp only at hg
 subst hg
 unfold Blk at hk
 cases pr with
 | none =>
   rw [show w.cell? ⟨bk,off,none⟩ = cs[off]? from cell_of_row w bk off _ t (0,0) hk,← Array.getElem?_toList] at h0
   exact hcs _ (List.mem_of_getElem? h0) _ _ rfl
 | some q => simp [World.cell?,hk] at h0
theorem zkr {w w' : World} {A : oA9} {n g : Nat} {k : IntKind} {l : List Nat} {t : TypeId} {cs : Array Value} (h : zas w w.heap.size 1 A n (zaq k l)) (hk : Blk w g t cs) (hcs : NoU cs) (ho : zei g w w') : zas w' w'.heap.size 1 A n (zaq k l):=by
 have hne:=zpQ h hk hcs
 refine ⟨h.1,fun hn => ?_⟩
 obtain ⟨ad,e,hb,hc⟩:=h.2 hn
 refine ⟨ad,e,by rw [ho.1]; exact hb,fun j v hv => ?_⟩
 rw [ho.2 (ad.add j) (by rw [zaK]; exact hne hn ad e)]
 exact hc j v hv
theorem zak {w w' : World} {x : Nat} {A : oA9} {n c g : Nat} {t : TypeId} {cs : Array Value} (h : zaf w x A n c) (hk : Blk w g t cs) (hcs : NoU cs) (ho : zei g w w') : zaf w' x A n c:=⟨zkr h.1 hk hcs ho,h.2⟩
theorem zcx {w w' : World} {z : Int} {b : Bool} {A : oA9} {n c g : Nat} {t : TypeId} {cs : Array Value} (h : zaE w z b A n c) (hk : Blk w g t cs) (hcs : NoU cs) (ho : zei g w w') : zaE w' z b A n c:=⟨h.1,zak h.2 hk hcs ho⟩
theorem zbF {w w' : World} {r : Rat} {b : Bool} {A : oA9} {n c : Nat} {E : oA9} {k f : Nat} {g : Nat} {t : TypeId} {cs : Array Value} (h : zaF w r b A n c E k f) (hk : Blk w g t cs) (hcs : NoU cs) (ho : zei g w w') : zaF w' r b A n c E k f:=by
 refine ⟨zcx h.1 hk hcs ho,?_⟩
 obtain ⟨x,e,hx⟩:=h.2
 exact ⟨x,e,zak hx hk hcs ho⟩
def SzQ (K : Nat) (r : Rat) : Prop:=LtQ (18446744073709551616 ^ K) r
theorem SzQ.up {K K' : Nat} {r : Rat} (h : SzQ K r) (hk : K ≤ K') : SzQ K' r:=LtQ.up h (Nat.pow_le_pow_right (by decide) hk)
theorem zoi (K K' : Nat) : 2 * (18446744073709551616 ^ K * 18446744073709551616 ^ K') ≤ 18446744073709551616 ^ (K + K' + 1):=by
 rw [Nat.pow_succ,Nat.pow_add,Nat.mul_comm]
 exact Nat.mul_le_mul_left _ (by decide)
theorem SzQ.add {K K' : Nat} {r s : Rat} (h : SzQ K r) (h' : SzQ K' s) : SzQ (K + K' + 1) (r + s):=LtQ.up (LtQ.add h h') (zoi K K')
theorem SzQ.neg {K : Nat} {r : Rat} (h : SzQ K r) : SzQ K (-r):=LtQ.neg h
theorem SzQ.abs {K : Nat} {r : Rat} (h : SzQ K r) : SzQ K r.abs:=by
 unfold Rat.abs
 split
 ·exact h
 ·exact h.neg
theorem SzQ.num {K : Nat} {r : Rat} (h : SzQ K r) : Sz K r.num.natAbs:=h.1
theorem SzQ.den {K : Nat} {r : Rat} (h : SzQ K r) : Sz K r.den:=h.2
theorem zcr {K : Nat} (h : 0 < K) : 1 < 18446744073709551616 ^ K:=Nat.one_lt_pow (by omega) (by decide)
theorem SzQ.whole {K : Nat} {z : Int} (h : Sz K z.natAbs) (hK : 0 < K) : SzQ K (z : Rat):=LtQ.whole h (zcr hK)
theorem SzQ.made {K : Nat} {p q : Int} (h : Sz K p.natAbs) (h' : Sz K q.natAbs) (hK : 0 < K) : SzQ K (Rat.divInt p q):=LtQ.made h h' (zcr hK)
theorem SzQ.zero : SzQ 1 (0 : Rat):=⟨by decide,by decide⟩
theorem SzQ.fit {K : Nat} {r : Rat} (h : SzQ K r) {w : World} {b : Bool} {A : oA9} {n c : Nat} {E : oA9} {k f : Nat} (hr : zaF w r b A n c E k f) (hK : K ≤ 67108864) : zbL n k:=by
 refine ⟨Nat.le_trans (h.num.words hr.1.2) (Nat.le_trans hK (by decide)),?_⟩
 obtain ⟨x,⟨e,_⟩,hx⟩:=hr.2
 have hd : Sz K x:=h.den.of_le (by rw [e]; split <;> omega)
 exact Nat.le_trans (hd.words hx) (Nat.le_trans hK (by decide))
end Go.Proofs.YtfieheffipfahaaGreatDoor
namespace Go.Proofs.YtfieheffipfahaaGreatDoor
open Go Go.RowKit
set_option maxHeartbeats 16000000
set_option maxRecDepth 100000
set_option linter.unusedVariables false
def zpg (I : Nat → World → Prop) (k : Nat) (W : World) : Exit → Act → World → Prop:=fun e _ W' => e = .normal ∧ KeepsOthers W W' ∧ I k W'
def zid (P : Program) (gf : Nat) (lb : Array Value) (enc : Nat → Array Value) (N : Nat) (I : Nat → World → Prop) : Prop :=
 ∀ (l : Nat) (J : Nat → World → Prop) (W : World),(∀ k W,J k W → I k W) →
  (∀ k W,k < N → J (k + 1) W → YieldAt Fence.wide 1 P l (enc k) W fun e W' => e = .returned (.bool true) ∧ J k W') →
  J N W → CallsIn Fence.wide 2 P gf (#[.func (.yield l) #[] #[]] ++ lb) W fun e W' => (∃ v,e = .returned v) ∧ J 0 W'
theorem zey {w W : World} {I : Nat → World → Prop} {k b : Nat} {o : Obj} (hI : ∀ k,OwnFrom w.heap.size (fun (_ : Unit) W => I k W)) (h : I k W) (hb : w.heap.size ≤ b) (ho : W.heap[b]? = some o) (hc : o.isCells = false) (o' : Obj) : I k (W.putObj b o') :=
 (hI k).putObj (s:=()) o' h hb ho hc
theorem zjg {P : Program} {g : Operand} {ps : Array Tmp} {assign body : Code} {Q : Exit → Act → World → Prop} {a : Act} {w : World} {gf : Nat} {lb : Array Value} (hg : a.eval g = .func (.func gf) #[] lb)
  (eg : ∀ args w,(callFunc gf args).run P w = .ok (.enter gf args) w) (N : Nat) (enc : Nat → Array Value) (hps : ∀ k,(enc k).size = ps.size) (I : Nat → World → Prop) (hI : ∀ k,OwnFrom w.heap.size (fun (_ : Unit) W => I k W)) (h0 : I N w)
  (hiter : zid P gf lb enc N I) (a1 : Nat → Act)
  (hassign : ∀ (l k : Nat) (W : World) (K : Act → World → Prop),K (a1 k) W → assign.wpIn (Fence.wide.inRound l) 1 P (Exit.then K (fun _ _ _ => False)) { tmps:=(ps.zip (enc k)).foldl (fun t (p,v) => t.setIfInBounds p v) a.tmps,defers:=[] } W)
  (hbody : ∀ (l k : Nat) (W : World),k < N → I (k + 1) W → body.wpIn (Fence.wide.inRound l) 1 P (zpg I k W) (a1 k) W)
  (hdone : ∀ (D : Nat) (W : World),w.heap.size ≤ D → I 0 W → W.heap[D]? = some (.deferred (some [])) → Q .normal { a with defers:={ target:=.collected D,args:=#[] } :: a.defers } W) :
  (Code.rangeFunc g ps assign body).wpIn Fence.wide 3 P Q a w:=by
 refine wpIn_rangeFunc fun fn hfn => ?_
 obtain ⟨r,hr⟩ : ∃ r : Loop,r = { state:=.ready,pending:=none,fn,tmps:=a.tmps,params:=ps,assign,body,defers:=w.heap.size }:=⟨_,rfl⟩
 obtain ⟨V,hV⟩ : ∃ V,(w.alloc (.deferred (some []))).alloc (.loop r) = V:=⟨_,rfl⟩
 have gV : w.grownBy V none:=by rw [← hV]; exact (World.grownBy_alloc w _ none).trans (World.grownBy_alloc _ _ none)
 have rV : V.heap[w.heap.size + 1]? = some (.loop r):=by
  have h:=World.alloc_heap_new (w.alloc (.deferred (some []))) (.loop r)
  rw [World.size_alloc,hV] at h
  exact h
 have dV : V.heap[w.heap.size]? = some (.deferred (some [])):=by
  have h:=World.alloc_heap_new w (.deferred (some []))
  rw [← hV,Below.heap_alloc _ _ _ (by simp)]
  exact h
 have iV : I N V:=hI N () w V none h0 gV (fun _ e => by cases e)
 refine ⟨w.heap.size + 1,[{ target:=.collected w.heap.size,args:=#[] }],V,{ target:=.fn (.func gf) lb,args:=#[.func (.yield (w.heap.size + 1)) #[] #[]] },V,gf,#[.func (.yield (w.heap.size + 1)) #[] #[]] ++ lb,V,?_,?_,fun _ _ => trivial,?_,fun _ => by omega,?_⟩
 ·rw [← hV,hr]; exact run_enterLoop_outer _ _ _ _ _
 ·simp only [resolve,hg]
  simp [go_sem]
 ·simp [invoke,go_sem,eg]
 refine (hiter (w.heap.size + 1) (fun k W => I k W ∧ W.heap[w.heap.size + 1]? = some (.loop r) ∧ W.heap[w.heap.size]? = some (.deferred (some []))) V (fun _ _ h => h.1) ?_ ⟨iV,rV,dV⟩).mono ?_
 ·rintro k W hk ⟨iW,rW,dW⟩
  have hy:=run_yield (P:=P) (args:=enc k) rW (by rw [hr]; exact hps k)
  have lt:=(Array.getElem?_eq_some_iff.1 rW).1
  obtain ⟨rb,hrb⟩ : ∃ rb : Loop,rb = { r with state:=.busy }:=⟨_,rfl⟩
  have rX : (W.putObj (w.heap.size + 1) (.loop rb)).heap[w.heap.size + 1]? = some (.loop rb):=World.putObj_heap_same lt
  have dX : (W.putObj (w.heap.size + 1) (.loop rb)).heap[w.heap.size]? = some (.deferred (some [])):=(World.putObj_heap_other (by omega)).trans dW
  have iX : I (k + 1) (W.putObj (w.heap.size + 1) (.loop rb)):=zey hI iW (by omega) rW rfl _
  rw [hr] at hy
  refine ⟨fn,_,assign,body,hy,roundIn_of_wpIn hfn (hassign _ k W _ ⟨_,by have h:=run_beginRound (P:=P) rW (by rw [hr]); rw [← hrb] at h; exact h,?_⟩)⟩
  refine wpIn_mono (hbody _ k _ hk iX) ?_
  rintro e a3 W3 ⟨rfl,hk3,i3⟩
  have r3:=hk3.same _ _ rX rfl
  have d3:=hk3.same _ _ dX rfl
  have lt3:=(Array.getElem?_eq_some_iff.1 r3).1
  have he:=run_endRound (P:=P) none r3
  refine ⟨_,_,he,rfl,zey hI i3 (by omega) r3 rfl _,?_,(World.putObj_heap_other (by omega)).trans d3⟩
  rw [World.putObj_heap_same lt3,hrb,hr]
  rfl
 ·rintro e W2 ⟨⟨v,rfl⟩,i2,r2,d2⟩
  have he:=run_endLoop (P:=P) r2 (by rw [hr]; simp)
  rw [show r.pending = none from by rw [hr]] at he
  exact ⟨none,_,he,hdone _ _ (Nat.le_refl _) (zey hI i2 (by omega) r2 rfl _) ((World.putObj_heap_other (by omega)).trans d2)⟩
end Go.Proofs.YtfieheffipfahaaGreatDoor
namespace Go.Proofs.YtfieheffipfahaaGreatDoor
open Go Go.RowKit
set_option maxHeartbeats 16000000
set_option maxRecDepth 100000
set_option linter.unusedVariables false
attribute [local go_sem] Oper.semAt_some
theorem zeQ (Bs len cap : Nat) (A : oA9) (v : Nat → Nat) (I : Nat → World → Prop) (hlen : len ≤ 1099511627776)
  (hIb : ∀ k W,I k W → W.cell? ⟨Bs,0,none⟩ = some (.slice A len cap)) (hIc : ∀ k W,k < len → I (k + 1) W → ∃ ad,A = some ad ∧ W.cell? (ad.add k) = some (.int .u64 (v k : Int))) :
  zid Tryz.prog 142 #[.pointer (some ⟨Bs,0,none⟩)] (fun k => #[.int .i64 (k : Int),.int .u64 (v k : Int)]) len I:=by
 intro l J W hJ hY h0
 have hb0:=hIb _ _ (hJ _ _ h0)
 have HB:=lh9 (fun k W (h : J k W) => hIb k W (hJ k W h))
 have HC:=lh9 (fun k W (hk : k < len) (h : J (k + 1) W) => hIc k W hk (hJ _ _ h))
 have HY:=lh9 hY
 have H0:=lh9 h0
 have hw1 : IntKind.i64.wrap ((len : Int) - 1) = (len : Int) - 1:=by rw [IntKind.wrap_i64]; omega
 clear hJ hY h0 hIb hIc
 refine callsIn_of_wp Tryz.func142 rfl trivial ?_ rfl
 simp only [Tryz.ntmps142,List.size_toArray,List.length_cons,List.length_nil,Nat.reduceAdd,Nat.reduceSub,Array.replicate_succ,Array.replicate_zero,List.push_toArray,List.append_toArray,List.nil_append,List.cons_append]
 gi_wp2
 clear hb0 hw1
 gi_loopw [3] (fun i wr => ∃ k : Nat,k ≤ len ∧ i = .int .i64 ((k : Int) - 1) ∧ J k wr) (fun i _ => (intOf i + 1).toNat)
 case atStart => exact ⟨len,Nat.le_refl _,rfl,H0.out⟩
 case round =>
  obtain ⟨k,hk,rfl,hJs⟩:=hrel
  have hb:=HB.out _ _ hJs
  rcases k with _ | k
  ·rw [show ((0 : Nat) : Int) - 1 = -1 from by decide]
   clear hb
   gi_wp2
   go_end0
   exact ⟨⟨_,rfl⟩,hJs⟩
  ·obtain ⟨ad,rfl,hc⟩:=HC.out k wr hk hJs
   obtain ⟨fn,tmps,assign,body,hy,hR⟩:=HY.out k wr hk hJs
   rw [show ((k + 1 : Nat) : Int) - 1 = (k : Int) from by omega]
   have i1 : (0 : Int) ≤ (k : Int):=by omega
   have i2 : (k : Int) < (len : Int):=by omega
   have i3 : IntKind.i64.wrap ((k : Int) - 1) = (k : Int) - 1:=by rw [IntKind.wrap_i64]; omega
   obtain ⟨z,hz⟩ : ∃ z,v k = z:=⟨_,rfl⟩
   try dsimp only at hy
   rw [hz] at hc hy
   clear hz hJs
   gi_wp2
   refine hR.mono ?_
   rintro e W3 ⟨rfl,hJ3⟩
   gi_wp2
   go_roundw
   case rel => exact ⟨k,by omega,rfl,hJ3⟩
   case measure => simp [intOf]
theorem zee (A : oA9) (len cap : Nat) (w : World) :
  Calls Tryz.prog 123 #[.slice A len cap] w fun e w' => e = .returned (.func (.func 142) #[] #[.pointer (some ⟨w.heap.size,0,none⟩)]) ∧ w.alloc (.cells #[.slice A len cap] 22) = w':=by
 go_enter Tryz.func123,Tryz.ntmps123
 go_wp2
 go_ret
 exact ⟨rfl,rfl⟩
end Go.Proofs.YtfieheffipfahaaGreatDoor
namespace Go.Proofs.YtfieheffipfahaaGreatDoor
open Go Go.RowKit
set_option maxHeartbeats 16000000
set_option maxRecDepth 100000
set_option linter.unusedVariables false
section
variable {P : Program} {md : Region.Mode} {ops : Array Oper} {Q : Exit → Act → World → Prop} {l n : Nat}
theorem zng {f : FuncId} {args : Array Value} {w : World} {R R' : Ending → World → Prop} (h : Calls P f args w R) (hr : ∀ e w,R e w → R' e w) : CallsIn (Fence.wide.inRound l) n P f args w R' :=
 CallsIn.inRound l (callsIn_wide.2 (h.mono hr))
theorem zou {row : String} {args : Array Value} {w : World} {R R' : Value → World → Prop} (h : Rows P row args w R) (hr : ∀ e w,R e w → R' e w) : RowsIn (Fence.wide.inRound l) n P row args w R' :=
 fun c cs _ => let ⟨v,w',r,s⟩:=h c cs; ⟨v,w',hr _ _ r,stepsIn_wide.2 s⟩
theorem round_op {o : Oper} {a : Act} {w : World} {K K' : Act → World → Prop} (hd : ∀ c,o.op ≠ .defer c) (hK : ∀ a w,K a w → K' a w) (h : o.wp P a w K Q) : o.wpIn (Fence.wide.inRound l) n P a w K' Q:=by
 refine ⟨fun _ _ => trivial,?_⟩
 rw [Oper.semAt_eq _ _ _ hd]
 unfold Oper.wp at h
 generalize (execOp a.eval o).run P w = r at h ⊢
 cases r with
 | ok x w' =>
   cases x <;> simp only [Oper.upon,Oper.uponIn] at h ⊢ <;>
    first
     | exact hK _ _ h
     | exact ⟨fun e => by simp [Fence.wide] at e,zng h (fun e w'' he => by cases e <;> first | exact hK _ _ he | exact he)⟩
     | exact ⟨fun e => by simp [Fence.wide] at e,zou h (fun _ _ he => hK _ _ he)⟩
     | exact h.elim
 | halt x w' => cases x <;> simp only [Oper.upon,Oper.uponIn] at h ⊢ <;> exact h
theorem zfL (hd : ∀ (i : Nat) (o : Oper),ops[i]? = some o → ∀ c,o.op ≠ .defer c) (hQ : ¬ LetsOut Q) : ∀ (fuel : Nat) (listed : Array Bool) (a : Act) (w : World),wpAny P md ops Q fuel listed a w → wpAnyIn (Fence.wide.inRound l) n P md ops Q fuel listed a w
 | 0,_,_,_,h => h
 | fuel + 1,listed,a,w,h => by
   refine ⟨h.1,fun i hi => ?_⟩
   have h2:=h.2 i hi
   unfold wpOp at h2
   unfold wpOpIn
   cases ho : ops[i]? with
   | none => rw [ho] at h2; exact zfL hd hQ fuel _ _ _ h2
   | some o =>
     rw [ho] at h2
     simp only at h2 ⊢
     split
     ·rename_i hw
      rw [if_pos hw] at h2
      rcases h2 with h2 | h2
      ·exact round_op (hd i o ho) (zfL hd hQ fuel _) h2
      ·exact absurd h2.2 hQ
     ·rename_i hw
      rw [if_neg hw] at h2
      exact ⟨fun _ _ => trivial,zfL hd hQ fuel _ _ _ h2⟩
def zoR (ops : Array Oper) : Bool:=ops.all fun o => match o.op with | .defer _ => false | _ => true
theorem zll (h : zoR ops = true) (i : Nat) (o : Oper) (ho : ops[i]? = some o) (c : Call) : o.op ≠ .defer c:=by
 intro e
 have h1:=Array.all_eq_true.1 h i (Array.getElem?_eq_some_iff.1 ho).1
 rw [(Array.getElem?_eq_some_iff.1 ho).2,e] at h1
 cases h1
theorem zgP {id : Nat} {a : Act} {w : World} {S : World → Prop} (hm : P.follows .mixedOrders = true) (hd : zoR ops = true) (hQ : ∀ a w,¬ Q .outgrown a w) (hS : S w.drew)
  (h : S w.drew → wpAnyH P .any ops Q S ops.size (Array.replicate ops.size false) a w.drew) : (Code.region id ops true).wpIn (Fence.wide.inRound l) n P Q a w :=
 wpIn_region_any hm (zfL (zll hd) (fun ⟨a,w,h⟩ => hQ a w h) _ _ _ _ (wpAny_of_held _ _ _ _ (h hS)))
end
theorem zbv {B b : Nat} {t : TypeId} {cs : Array Value} {W W' : World} {row : Option Nat} (h : Blk W b t cs) (hg : W.grownBy W' row) (hr : ∀ r,row = some r → B ≤ r ∧ ∃ o : Obj,W.heap[r]? = some o ∧ o.isCells = false) : Blk W' b t cs :=
 h.grown hg (fun e => by
  obtain ⟨_,o,ho,hc⟩:=hr b e.symm
  rw [show W.heap[b]? = _ from h] at ho
  cases ho
  cases hc)
theorem zeD {B B0 : Nat} {w W W' : World} {row : Option Nat} (h : Below B0 w W) (h0 : B0 ≤ w.heap.size) (hB : B0 ≤ B) (hg : W.grownBy W' row) (hr : ∀ r,row = some r → B ≤ r ∧ ∃ o : Obj,W.heap[r]? = some o ∧ o.isCells = false) : Below B0 w W' :=
 h.grown hg (Nat.le_trans h0 h.size) (fun r e => Nat.le_trans hB (hr r e).1)
end Go.Proofs.YtfieheffipfahaaGreatDoor
