/- What this claim leans on. -/
import Derived.Test.YtkiedljcgkoaiaaGreatDoorXBunD
import Derived.Deep.LoopGhost
import Derived.Deep.RegionHeld3
import Derived.KernelRfl
import Derived.Lib.SliceRun
import Derived.LoopIn
import Derived.LoopNIn
import Derived.LoopTactic
import Derived.OrdersHeld
import Derived.OrdersIn
import Derived.OwnWalkIn
import Derived.RangeFuncBound
import Derived.RangeFuncCalls
import Derived.RangeFuncLeaves
import Derived.RangeFuncNested
import Derived.Shelf.Abstract
import Derived.Shelf.RegionOpen
import Derived.TacticsInMore
namespace Go.Proofs.YtkiedljcgkoaiaaGreatDoor
open Go Go.RowKit
set_option maxHeartbeats 16000000
set_option maxRecDepth 100000
set_option linter.unusedVariables false
def zkm (I : Nat → World → Prop) (k : Nat) (W : World) : Exit → Act → World → Prop:=fun e _ W' => e = .normal ∧ KeepsOthers W W' ∧ I k W'
def zfA (P : Program) (gf : Nat) (lb : Array Value) (enc : Nat → Array Value) (N : Nat) (I : Nat → World → Prop) : Prop :=
 ∀ (l : Nat) (J : Nat → World → Prop) (W : World),(∀ k W,J k W → I k W) →
  (∀ k W,k < N → J (k + 1) W → YieldAt Fence.wide 1 P l (enc k) W fun e W' => e = .returned (.bool true) ∧ J k W') →
  J N W → CallsIn Fence.wide 2 P gf (#[.func (.yield l) #[] #[]] ++ lb) W fun e W' => (∃ v,e = .returned v) ∧ J 0 W'
theorem zcS {w W : World} {I : Nat → World → Prop} {k b : Nat} {o : Obj} (hI : ∀ k,OwnFrom w.heap.size (fun (_ : Unit) W => I k W)) (h : I k W) (hb : w.heap.size ≤ b) (ho : W.heap[b]? = some o) (hc : o.isCells = false) (o' : Obj) : I k (W.putObj b o') :=
 (hI k).putObj (s:=()) o' h hb ho hc
theorem zgb {P : Program} {g : Operand} {ps : Array Tmp} {assign body : Code} {Q : Exit → Act → World → Prop} {a : Act} {w : World} {gf : Nat} {lb : Array Value} (hg : a.eval g = .func (.func gf) #[] lb)
  (eg : ∀ args w,(callFunc gf args).run P w = .ok (.enter gf args) w) (N : Nat) (enc : Nat → Array Value) (hps : ∀ k,(enc k).size = ps.size) (I : Nat → World → Prop) (hI : ∀ k,OwnFrom w.heap.size (fun (_ : Unit) W => I k W)) (h0 : I N w)
  (hiter : zfA P gf lb enc N I) (a1 : Nat → Act)
  (hassign : ∀ (l k : Nat) (W : World) (K : Act → World → Prop),K (a1 k) W → assign.wpIn (Fence.wide.inRound l) 1 P (Exit.then K (fun _ _ _ => False)) { tmps:=(ps.zip (enc k)).foldl (fun t (p,v) => t.setIfInBounds p v) a.tmps,defers:=[] } W)
  (hbody : ∀ (l k : Nat) (W : World),k < N → I (k + 1) W → body.wpIn (Fence.wide.inRound l) 1 P (zkm I k W) (a1 k) W)
  (hdone : ∀ (D : Nat) (W : World),w.heap.size ≤ D → I 0 W → W.heap[D]? = some (.deferred (some [])) → Q .normal { a with defers:={ target:=.collected D,args:=#[] } :: a.defers } W) :
  (Code.rangeFunc g ps assign body).wpIn Fence.wide 3 P Q a w:=by
 refine wpIn_rangeFunc fun fn hfn => ?_
 obtain ⟨r,hr⟩ : ∃ r : Loop,r = { state:=.ready,pending:=none,fn,tmps:=a.tmps,params:=ps,assign,body,defers:=w.heap.size }:=⟨_,rfl⟩
 obtain ⟨V,hV⟩ : ∃ V,(w.alloc (.deferred (some []))).alloc (.loop r) = V:=⟨_,rfl⟩
 have gV : w.grownBy V none:=by rw [← hV]; exact (World.grownBy_alloc w _ none).trans (World.grownBy_alloc _ _ none)
 have rV : V.heap[w.heap.size + 1]? = some (.loop r):=by
  have h:=World.alloc_heap_new (w.alloc (.deferred (some []))) (.loop r)
  rw [World.size_alloc,hV] at h
  exact h
 have dV : V.heap[w.heap.size]? = some (.deferred (some [])):=by
  have h:=World.alloc_heap_new w (.deferred (some []))
  rw [← hV,Below.heap_alloc _ _ _ (by simp)]
  exact h
 have iV : I N V:=hI N () w V none h0 gV (fun _ e => by cases e)
 refine ⟨w.heap.size + 1,[{ target:=.collected w.heap.size,args:=#[] }],V,{ target:=.fn (.func gf) lb,args:=#[.func (.yield (w.heap.size + 1)) #[] #[]] },V,gf,#[.func (.yield (w.heap.size + 1)) #[] #[]] ++ lb,V,?_,?_,fun _ _ => trivial,?_,fun _ => by omega,?_⟩
 ·rw [← hV,hr]; exact run_enterLoop_outer _ _ _ _ _
 ·simp only [resolve,hg]
  simp [go_sem]
 ·simp [invoke,go_sem,eg]
 refine (hiter (w.heap.size + 1) (fun k W => I k W ∧ W.heap[w.heap.size + 1]? = some (.loop r) ∧ W.heap[w.heap.size]? = some (.deferred (some []))) V (fun _ _ h => h.1) ?_ ⟨iV,rV,dV⟩).mono ?_
 ·rintro k W hk ⟨iW,rW,dW⟩
  have hy:=run_yield (P:=P) (args:=enc k) rW (by rw [hr]; exact hps k)
  have lt:=(Array.getElem?_eq_some_iff.1 rW).1
  obtain ⟨rb,hrb⟩ : ∃ rb : Loop,rb = { r with state:=.busy }:=⟨_,rfl⟩
  have rX : (W.putObj (w.heap.size + 1) (.loop rb)).heap[w.heap.size + 1]? = some (.loop rb):=World.putObj_heap_same lt
  have dX : (W.putObj (w.heap.size + 1) (.loop rb)).heap[w.heap.size]? = some (.deferred (some [])):=(World.putObj_heap_other (by omega)).trans dW
  have iX : I (k + 1) (W.putObj (w.heap.size + 1) (.loop rb)):=zcS hI iW (by omega) rW rfl _
  rw [hr] at hy
  refine ⟨fn,_,assign,body,hy,roundIn_of_wpIn hfn (hassign _ k W _ ⟨_,by have h:=run_beginRound (P:=P) rW (by rw [hr]); rw [← hrb] at h; exact h,?_⟩)⟩
  refine wpIn_mono (hbody _ k _ hk iX) ?_
  rintro e a3 W3 ⟨rfl,hk3,i3⟩
  have r3:=hk3.same _ _ rX rfl
  have d3:=hk3.same _ _ dX rfl
  have lt3:=(Array.getElem?_eq_some_iff.1 r3).1
  have he:=run_endRound (P:=P) none r3
  refine ⟨_,_,he,rfl,zcS hI i3 (by omega) r3 rfl _,?_,(World.putObj_heap_other (by omega)).trans d3⟩
  rw [World.putObj_heap_same lt3,hrb,hr]
  rfl
 ·rintro e W2 ⟨⟨v,rfl⟩,i2,r2,d2⟩
  have he:=run_endLoop (P:=P) r2 (by rw [hr]; simp)
  rw [show r.pending = none from by rw [hr]] at he
  exact ⟨none,_,he,hdone _ _ (Nat.le_refl _) (zcS hI i2 (by omega) r2 rfl _) ((World.putObj_heap_other (by omega)).trans d2)⟩
attribute [local go_sem] Oper.semAt_some
theorem zdp (Bs len cap : Nat) (A : oA9) (v : Nat → Nat) (I : Nat → World → Prop) (hlen : len ≤ 1099511627776)
  (hIb : ∀ k W,I k W → W.cell? ⟨Bs,0,none⟩ = some (.slice A len cap)) (hIc : ∀ k W,k < len → I (k + 1) W → ∃ ad,A = some ad ∧ W.cell? (ad.add k) = some (.int .u64 (v k : Int))) :
  zfA Tryz.prog 154 #[.pointer (some ⟨Bs,0,none⟩)] (fun k => #[.int .i64 (k : Int),.int .u64 (v k : Int)]) len I:=by
 intro l J W hJ hY h0
 have hb0:=hIb _ _ (hJ _ _ h0)
 have HB:=lh9 (fun k W (h : J k W) => hIb k W (hJ k W h))
 have HC:=lh9 (fun k W (hk : k < len) (h : J (k + 1) W) => hIc k W hk (hJ _ _ h))
 have HY:=lh9 hY
 have H0:=lh9 h0
 have hw1 : IntKind.i64.wrap ((len : Int) - 1) = (len : Int) - 1:=by rw [IntKind.wrap_i64]; omega
 clear hJ hY h0 hIb hIc
 refine callsIn_of_wp Tryz.func154 rfl trivial ?_ rfl
 simp only [Tryz.ntmps154,List.size_toArray,List.length_cons,List.length_nil,Nat.reduceAdd,Nat.reduceSub,Array.replicate_succ,Array.replicate_zero,List.push_toArray,List.append_toArray,List.nil_append,List.cons_append]
 gi_wp2
 clear hb0 hw1
 gi_loopw [3] (fun i wr => ∃ k : Nat,k ≤ len ∧ i = .int .i64 ((k : Int) - 1) ∧ J k wr) (fun i _ => (intOf i + 1).toNat)
 case atStart => exact ⟨len,Nat.le_refl _,rfl,H0.out⟩
 case round =>
  obtain ⟨k,hk,rfl,hJs⟩:=hrel
  have hb:=HB.out _ _ hJs
  rcases k with _ | k
  ·rw [show ((0 : Nat) : Int) - 1 = -1 from by decide]
   clear hb
   gi_wp2
   go_end0
   exact ⟨⟨_,rfl⟩,hJs⟩
  ·obtain ⟨ad,rfl,hc⟩:=HC.out k wr hk hJs
   obtain ⟨fn,tmps,assign,body,hy,hR⟩:=HY.out k wr hk hJs
   rw [show ((k + 1 : Nat) : Int) - 1 = (k : Int) from by omega]
   have i1 : (0 : Int) ≤ (k : Int):=by omega
   have i2 : (k : Int) < (len : Int):=by omega
   have i3 : IntKind.i64.wrap ((k : Int) - 1) = (k : Int) - 1:=by rw [IntKind.wrap_i64]; omega
   obtain ⟨z,hz⟩ : ∃ z,v k = z:=⟨_,rfl⟩
   try dsimp only at hy
   rw [hz] at hc hy
   clear hz hJs
   gi_wp2
   refine hR.mono ?_
   rintro e W3 ⟨rfl,hJ3⟩
   gi_wp2
   go_roundw
   case rel => exact ⟨k,by omega,rfl,hJ3⟩
   case measure => simp [intOf]
theorem zcF (A : oA9) (len cap : Nat) (w : World) :
  Calls Tryz.prog 149 #[.slice A len cap] w fun e w' => e = .returned (.func (.func 154) #[] #[.pointer (some ⟨w.heap.size,0,none⟩)]) ∧ w.alloc (.cells #[.slice A len cap] 38) = w':=by
 go_enter Tryz.func149,Tryz.ntmps149
 go_wp2
 go_ret
 exact ⟨rfl,rfl⟩
section
variable {P : Program} {md : Region.Mode} {ops : Array Oper} {Q : Exit → Act → World → Prop} {l n : Nat}
theorem ziu {f : FuncId} {args : Array Value} {w : World} {R R' : Ending → World → Prop} (h : Calls P f args w R) (hr : ∀ e w,R e w → R' e w) : CallsIn (Fence.wide.inRound l) n P f args w R' :=
 CallsIn.inRound l (callsIn_wide.2 (h.mono hr))
theorem zjz {row : String} {args : Array Value} {w : World} {R R' : Value → World → Prop} (h : Rows P row args w R) (hr : ∀ e w,R e w → R' e w) : RowsIn (Fence.wide.inRound l) n P row args w R' :=
 fun c cs _ => let ⟨v,w',r,s⟩:=h c cs; ⟨v,w',hr _ _ r,stepsIn_wide.2 s⟩
theorem round_op {o : Oper} {a : Act} {w : World} {K K' : Act → World → Prop} (hd : ∀ c,o.op ≠ .defer c) (hK : ∀ a w,K a w → K' a w) (h : o.wp P a w K Q) : o.wpIn (Fence.wide.inRound l) n P a w K' Q:=by
 refine ⟨fun _ _ => trivial,?_⟩
 rw [Oper.semAt_eq _ _ _ hd]
 unfold Oper.wp at h
 generalize (execOp a.eval o).run P w = r at h ⊢
 cases r with
 | ok x w' =>
   cases x <;> simp only [Oper.upon,Oper.uponIn] at h ⊢ <;>
    first
     | exact hK _ _ h
     | exact ⟨fun e => by simp [Fence.wide] at e,ziu h (fun e w'' he => by cases e <;> first | exact hK _ _ he | exact he)⟩
     | exact ⟨fun e => by simp [Fence.wide] at e,zjz h (fun _ _ he => hK _ _ he)⟩
     | exact h.elim
 | halt x w' => cases x <;> simp only [Oper.upon,Oper.uponIn] at h ⊢ <;> exact h
theorem zdU (hd : ∀ (i : Nat) (o : Oper),ops[i]? = some o → ∀ c,o.op ≠ .defer c) (hQ : ¬ LetsOut Q) : ∀ (fuel : Nat) (listed : Array Bool) (a : Act) (w : World),wpAny P md ops Q fuel listed a w → wpAnyIn (Fence.wide.inRound l) n P md ops Q fuel listed a w
 | 0,_,_,_,h => h
 | fuel + 1,listed,a,w,h => by
   refine ⟨h.1,fun i hi => ?_⟩
   have h2:=h.2 i hi
   unfold wpOp at h2
   unfold wpOpIn
   cases ho : ops[i]? with
   | none => rw [ho] at h2; exact zdU hd hQ fuel _ _ _ h2
   | some o =>
     rw [ho] at h2
     simp only at h2 ⊢
     split
     ·rename_i hw
      rw [if_pos hw] at h2
      rcases h2 with h2 | h2
      ·exact round_op (hd i o ho) (zdU hd hQ fuel _) h2
      ·exact absurd h2.2 hQ
     ·rename_i hw
      rw [if_neg hw] at h2
      exact ⟨fun _ _ => trivial,zdU hd hQ fuel _ _ _ h2⟩
def zjX (ops : Array Oper) : Bool:=ops.all fun o => match o.op with | .defer _ => false | _ => true
theorem zhi (h : zjX ops = true) (i : Nat) (o : Oper) (ho : ops[i]? = some o) (c : Call) : o.op ≠ .defer c:=by
 intro e
 have h1:=Array.all_eq_true.1 h i (Array.getElem?_eq_some_iff.1 ho).1
 rw [(Array.getElem?_eq_some_iff.1 ho).2,e] at h1
 cases h1
theorem zeJ {id : Nat} {a : Act} {w : World} {S : World → Prop} (hm : P.follows .mixedOrders = true) (hd : zjX ops = true) (hQ : ∀ a w,¬ Q .outgrown a w) (hS : S w.drew)
  (h : S w.drew → wpAnyH P .any ops Q S ops.size (Array.replicate ops.size false) a w.drew) : (Code.region id ops true).wpIn (Fence.wide.inRound l) n P Q a w :=
 wpIn_region_any hm (zdU (zhi hd) (fun ⟨a,w,h⟩ => hQ a w h) _ _ _ _ (wpAny_of_held _ _ _ _ (h hS)))
end
theorem zaO {B b : Nat} {t : TypeId} {cs : Array Value} {W W' : World} {row : Option Nat} (h : Blk W b t cs) (hg : W.grownBy W' row) (hr : ∀ r,row = some r → B ≤ r ∧ ∃ o : Obj,W.heap[r]? = some o ∧ o.isCells = false) : Blk W' b t cs :=
 h.grown hg (fun e => by
  obtain ⟨_,o,ho,hc⟩:=hr b e.symm
  rw [show W.heap[b]? = _ from h] at ho
  cases ho
  cases hc)
theorem zdb {B B0 : Nat} {w W W' : World} {row : Option Nat} (h : Below B0 w W) (h0 : B0 ≤ w.heap.size) (hB : B0 ≤ B) (hg : W.grownBy W' row) (hr : ∀ r,row = some r → B ≤ r ∧ ∃ o : Obj,W.heap[r]? = some o ∧ o.isCells = false) : Below B0 w W' :=
 h.grown hg (Nat.le_trans h0 h.size) (fun r e => Nat.le_trans hB (hr r e).1)
end Go.Proofs.YtkiedljcgkoaiaaGreatDoor
