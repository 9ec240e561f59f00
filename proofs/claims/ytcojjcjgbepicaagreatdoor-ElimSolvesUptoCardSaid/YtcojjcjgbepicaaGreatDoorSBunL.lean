/- What this claim leans on. -/
import Derived.Test.YtcojjcjgbepicaaGreatDoorSUArgs2
namespace Go.Proofs.YtcojjcjgbepicaaGreatDoor
open Go Go.RowKit
set_option maxHeartbeats 16000000
set_option maxRecDepth 100000
set_option linter.unusedVariables false
def zoy (I:Nat->World->Prop)(k:Nat)(W:World):Exit->Act->World->Prop:=λe _ W'=>e=.normal/\KeepsOthers W W'/\I k W'
def zic (P:Program)(gf:Nat)(lb:Array Value)(enc:Nat->Array Value)(N:Nat)(I:Nat->World->Prop):Prop:=
 ∀ (l : Nat) (J : Nat → World → Prop) (W : World),(∀ k W,J k W → I k W) →
  (∀k W,k<N->J (k+1) W->YieldAt Fence.wide 1 P l (enc k) W λe W'=>e=.returned (.bool true)/\J k W')->
  J N W->CallsIn Fence.wide 2 P gf (#[.func (.yield l) #[] #[]]++lb) W λe W'=>(∃v,e=.returned v)/\J 0 W'
theorem zex {w W:World}{I:Nat->World->Prop}{k b:Nat}{o:Obj}(hI:∀k,OwnFrom w.heap.size (fun(_:Unit) W=>I k W))(h:I k W)(hb:w.heap.size<=b)(ho:W.heap[b]?=some o)(hc:o.isCells=false)(o':Obj):I k (W.putObj b o'):=
 (hI k).putObj (s:=()) o' h hb ho hc
theorem ziQ {P:Program}{g:Operand}{ps:Array Tmp}{assign body:Code}{Q:Exit->Act->World->Prop}{a:Act}{w:World}{gf:Nat}{lb:Array Value}(hg:a.eval g=.func (.func gf) #[] lb)
  (eg:∀args w,(callFunc gf args).run P w=.ok (.enter gf args) w) (N:Nat) (enc:Nat->Array Value) (hps:∀k,(enc k).size=ps.size) (I:Nat->World->Prop) (hI:∀k,OwnFrom w.heap.size (fun(_:Unit) W=>I k W)) (h0:I N w)
  (hiter:zic P gf lb enc N I) (a1:Nat->Act)
  (hassign:∀(l k:Nat) (W:World) (K:Act->World->Prop),K (a1 k) W->assign.wpIn (Fence.wide.inRound l) 1 P (Exit.then K (λ_ _ _=>False)) {tmps:=(ps.zip (enc k)).foldl (λt (p,v)=>t.setIfInBounds p v) a.tmps,defers:=[]} W)
  (hbody:∀(l k:Nat) (W:World),k<N->I (k+1) W->body.wpIn (Fence.wide.inRound l) 1 P (zoy I k W) (a1 k) W)
  (hdone:∀(D:Nat) (W:World),w.heap.size<=D->I 0 W->W.heap[D]?=some (.deferred (some []))->Q .normal {a with defers:={target:=.collected D,args:=#[]}::a.defers} W):
  (Code.rangeFunc g ps assign body).wpIn Fence.wide 3 P Q a w:=by
 refine wpIn_rangeFunc λfn hfn=>?_
 obtain⟨r,hr⟩:∃r:Loop,r={state:=.ready,pending:=none,fn,tmps:=a.tmps,params:=ps,assign,body,defers:=w.heap.size}:=⟨_,rfl⟩
 obtain⟨V,hV⟩:∃V,(w.alloc (.deferred (some []))).alloc (.loop r)=V:=⟨_,rfl⟩
 have gV:w.grownBy V none:=by rw [<-hV];exact(World.grownBy_alloc w _ none).trans (World.grownBy_alloc _ _ none)
 have rV:V.heap[w.heap.size+1]?=some (.loop r):=by
  have h:=World.alloc_heap_new (w.alloc (.deferred (some []))) (.loop r)
  rw [World.size_alloc,hV] at h
  exact h
 have dV:V.heap[w.heap.size]?=some (.deferred (some [])):=by
  have h:=World.alloc_heap_new w (.deferred (some []))
  rw [<-hV,Below.heap_alloc _ _ _ (by simp)]
  exact h
 have iV:I N V:=hI N () w V none h0 gV (λ_ e=>by cases e)
 refine⟨w.heap.size+1,[{target:=.collected w.heap.size,args:=#[]}],V,{target:=.fn (.func gf) lb,args:=#[.func (.yield (w.heap.size+1)) #[] #[]]},V,gf,#[.func (.yield (w.heap.size+1)) #[] #[]]++lb,V,?_,?_,λ_ _=>trivial,?_,λ_=>by omega,?_⟩
 ·rw [<-hV,hr];exact run_enterLoop_outer _ _ _ _ _
 ·simp only [resolve,hg]
  simp [go_sem]
 ·simp [invoke,go_sem,eg]
 refine(hiter (w.heap.size+1) (λk W=>I k W/\W.heap[w.heap.size+1]?=some (.loop r)/\W.heap[w.heap.size]?=some (.deferred (some []))) V (λ_ _ h=>h.1) ?_ ⟨iV,rV,dV⟩).mono ?_
 ·rintro k W hk ⟨iW,rW,dW⟩
  have hy:=run_yield (P:=P) (args:=enc k) rW (by rw [hr];exact hps k)
  have lt:=(Array.getElem?_eq_some_iff.1 rW).1
  obtain⟨rb,hrb⟩:∃rb:Loop,rb={r with state:=.busy}:=⟨_,rfl⟩
  have rX:(W.putObj (w.heap.size+1) (.loop rb)).heap[w.heap.size+1]?=some (.loop rb):=World.putObj_heap_same lt
  have dX:(W.putObj (w.heap.size+1) (.loop rb)).heap[w.heap.size]?=some (.deferred (some [])):=(World.putObj_heap_other (by omega)).trans dW
  have iX:I (k+1) (W.putObj (w.heap.size+1) (.loop rb)):=zex hI iW (by omega) rW rfl _
  rw [hr] at hy
  refine⟨fn,_,assign,body,hy,roundIn_of_wpIn hfn (hassign _ k W _ ⟨_,by have h:=run_beginRound (P:=P) rW (by rw [hr]);rw [<-hrb] at h;exact h,?_⟩)⟩
  refine wpIn_mono (hbody _ k _ hk iX) ?_
  rintro e a3 W3 ⟨rfl,hk3,i3⟩
  have r3:=hk3.same _ _ rX rfl
  have d3:=hk3.same _ _ dX rfl
  have lt3:=(Array.getElem?_eq_some_iff.1 r3).1
  have he:=run_endRound (P:=P) none r3
  refine⟨_,_,he,rfl,zex hI i3 (by omega) r3 rfl _,?_,(World.putObj_heap_other (by omega)).trans d3⟩
  rw [World.putObj_heap_same lt3,hrb,hr]
  rfl
 ·rintro e W2 ⟨⟨v,rfl⟩,i2,r2,d2⟩
  have he:=run_endLoop (P:=P) r2 (by rw [hr];simp)
  rw [show r.pending=none from by rw [hr]] at he
  exact⟨none,_,he,hdone _ _ (Nat.le_refl _) (zex hI i2 (by omega) r2 rfl _) ((World.putObj_heap_other (by omega)).trans d2)⟩
attribute [local go_sem] Oper.semAt_some
theorem zeV (Bs len cap:Nat)(A:oA9)(v:Nat->Nat)(I:Nat->World->Prop)(hlen:len<=1099511627776)
  (hIb:∀k W,I k W->W.cell? ⟨Bs,0,none⟩=some (.slice A len cap)) (hIc:∀k W,k<len->I (k+1) W->∃ad,A=some ad/\W.cell? (ad.add k)=some (.int .u64 (v k:Int))):
  zic Tryz.prog 230 #[.pointer (some ⟨Bs,0,none⟩)] (λk=>#[.int .i64 (k:Int),.int .u64 (v k:Int)]) len I:=by
 intro l J W hJ hY h0
 have hb0:=hIb _ _ (hJ _ _ h0)
 have HB:=lh9 (λk W (h:J k W)=>hIb k W (hJ k W h))
 have HC:=lh9 (λk W (hk:k<len) (h:J (k+1) W)=>hIc k W hk (hJ _ _ h))
 have HY:=lh9 hY
 have H0:=lh9 h0
 have hw1:IntKind.i64.wrap ((len:Int) - 1)=(len:Int) - 1:=by rw [IntKind.wrap_i64];omega
 clear hJ hY h0 hIb hIc
 refine callsIn_of_wp Tryz.func230 rfl trivial ?_ rfl
 simp only [Tryz.ntmps230,List.size_toArray,List.length_cons,List.length_nil,Nat.reduceAdd,Nat.reduceSub,Array.replicate_succ,Array.replicate_zero,List.push_toArray,List.append_toArray,List.nil_append,List.cons_append]
 gi_wp2
 clear hb0 hw1
 gi_loopw [3] (λi wr=>∃k:Nat,k<=len/\i=.int .i64 ((k:Int) - 1)/\J k wr) (λi _=>(intOf i+1).toNat)
 case atStart=>exact⟨len,Nat.le_refl _,rfl,H0.out⟩
 case round=>
  obtain⟨k,hk,rfl,hJs⟩:=hrel
  have hb:=HB.out _ _ hJs
  rcases k with _|k
  ·rw [show((0:Nat):Int) - 1= -1 from by decide]
   clear hb
   gi_wp2
   go_end0
   exact⟨⟨_,rfl⟩,hJs⟩
  ·obtain⟨ad,rfl,hc⟩:=HC.out k wr hk hJs
   obtain⟨fn,tmps,assign,body,hy,hR⟩:=HY.out k wr hk hJs
   rw [show((k+1:Nat):Int) - 1=(k:Int) from by omega]
   have i1:(0:Int)<=(k:Int):=by omega
   have i2:(k:Int)<(len:Int):=by omega
   have i3:IntKind.i64.wrap ((k:Int) - 1)=(k:Int) - 1:=by rw [IntKind.wrap_i64];omega
   obtain⟨z,hz⟩:∃z,v k=z:=⟨_,rfl⟩
   try dsimp only at hy
   rw [hz] at hc hy
   clear hz hJs
   gi_wp2
   refine hR.mono ?_
   rintro e W3 ⟨rfl,hJ3⟩
   gi_wp2
   go_roundw
   case rel=>exact⟨k,by omega,rfl,hJ3⟩
   case measure=>simp [intOf]
theorem zeh (A:oA9)(len cap:Nat)(w:World):
  Calls Tryz.prog 224 #[.slice A len cap] w λe w'=>e=.returned (.func (.func 230) #[] #[.pointer (some ⟨w.heap.size,0,none⟩)])/\w.alloc (.cells #[.slice A len cap] 47)=w':=by
 go_enter Tryz.func224,Tryz.ntmps224
 go_wp2
 go_ret
 exact⟨rfl,rfl⟩
section
variable {P:Program}{md:Region.Mode}{ops:Array Oper}{Q:Exit->Act->World->Prop}{l n:Nat}
theorem zme {f:FuncId}{args:Array Value}{w:World}{R R':Ending->World->Prop}(h:Calls P f args w R)(hr:∀e w,R e w->R' e w):CallsIn (Fence.wide.inRound l) n P f args w R':=
 CallsIn.inRound l (callsIn_wide.2 (h.mono hr))
theorem znH {row:String}{args:Array Value}{w:World}{R R':Value->World->Prop}(h:Rows P row args w R)(hr:∀e w,R e w->R' e w):RowsIn (Fence.wide.inRound l) n P row args w R':=
 λc cs _=>let ⟨v,w',r,s⟩:=h c cs;⟨v,w',hr _ _ r,stepsIn_wide.2 s⟩
theorem round_op {o:Oper}{a:Act}{w:World}{K K':Act->World->Prop}(hd:∀c,o.op≠.defer c)(hK:∀a w,K a w->K' a w)(h:o.wp P a w K Q):o.wpIn (Fence.wide.inRound l) n P a w K' Q:=by
 refine⟨λ_ _=>trivial,?_⟩
 rw [Oper.semAt_eq _ _ _ hd]
 unfold Oper.wp at h
 generalize (execOp a.eval o).run P w=r at h⊢
 cases r with
 |ok x w'=>
   cases x <;> simp only [Oper.upon,Oper.uponIn] at h ⊢ <;>
    first
     |exact hK _ _ h
     |exact⟨λe=>by simp [Fence.wide] at e,zme h (λe w'' he=>by cases e<;>first|exact hK _ _ he|exact he)⟩
     |exact⟨λe=>by simp [Fence.wide] at e,znH h (λ_ _ he=>hK _ _ he)⟩
     |exact h.elim
 |halt x w'=>cases x<;>simp only [Oper.upon,Oper.uponIn] at h⊢<;>exact h
theorem zfL (hd:∀(i:Nat) (o:Oper),ops[i]?=some o->∀c,o.op≠.defer c)(hQ:¬ LetsOut Q):∀(fuel:Nat) (listed:Array Bool) (a:Act) (w:World),wpAny P md ops Q fuel listed a w->wpAnyIn (Fence.wide.inRound l) n P md ops Q fuel listed a w
 |0,_,_,_,h=>h
 |fuel+1,listed,a,w,h=>by
   refine⟨h.1,λi hi=>?_⟩
   have h2:=h.2 i hi
   unfold wpOp at h2
   unfold wpOpIn
   cases ho:ops[i]? with
   |none=>rw [ho] at h2;exact zfL hd hQ fuel _ _ _ h2
   |some o=>
     rw [ho] at h2
     simp only at h2⊢
     split
     ·rename_i hw
      rw [if_pos hw] at h2
      rcases h2 with h2|h2
      ·exact round_op (hd i o ho) (zfL hd hQ fuel _) h2
      ·exact absurd h2.2 hQ
     ·rename_i hw
      rw [if_neg hw] at h2
      exact⟨λ_ _=>trivial,zfL hd hQ fuel _ _ _ h2⟩
def zog (ops:Array Oper):Bool:=ops.all λo=>match o.op with|.defer _=>false|_=>true
theorem zkJ (h:zog ops=true)(i:Nat)(o:Oper)(ho:ops[i]?=some o)(c:Call):o.op≠.defer c:=by
 intro e
 have h1:=Array.all_eq_true.1 h i (Array.getElem?_eq_some_iff.1 ho).1
 rw [(Array.getElem?_eq_some_iff.1 ho).2,e] at h1
 cases h1
theorem zgO {id:Nat}{a:Act}{w:World}{S:World->Prop}(hm:P.follows .mixedOrders=true)(hd:zog ops=true)(hQ:∀a w,¬ Q .outgrown a w)(hS:S w.drew)
  (h:S w.drew->wpAnyH P .any ops Q S ops.size (Array.replicate ops.size false) a w.drew):(Code.region id ops true).wpIn (Fence.wide.inRound l) n P Q a w:=
 wpIn_region_any hm (zfL (zkJ hd) (fun⟨a,w,h⟩=>hQ a w h) _ _ _ _ (wpAny_of_held _ _ _ _ (h hS)))
end
theorem zbo {B b:Nat}{t:TypeId}{cs:Array Value}{W W':World}{row:Option Nat}(h:Blk W b t cs)(hg:W.grownBy W' row)(hr:∀r,row=some r->B<=r/\∃o:Obj,W.heap[r]?=some o/\o.isCells=false):Blk W' b t cs:=
 h.grown hg (λe=>by
  obtain⟨_,o,ho,hc⟩:=hr b e.symm
  rw [show W.heap[b]?=_ from h] at ho
  cases ho
  cases hc)
theorem zeI {B B0:Nat}{w W W':World}{row:Option Nat}(h:Below B0 w W)(h0:B0<=w.heap.size)(hB:B0<=B)(hg:W.grownBy W' row)(hr:∀r,row=some r->B<=r/\∃o:Obj,W.heap[r]?=some o/\o.isCells=false):Below B0 w W':=
 h.grown hg (Nat.le_trans h0 h.size) (λr e=>Nat.le_trans hB (hr r e).1)
def sg (c:Nat):Rat:=if c%2=0 then 1 else -1
def skp (c j:Nat):Nat:=if j<c then j else j+1
def mnr (M:Nat->Nat->Rat)(c:Nat):Nat->Nat->Rat:=λi j=>M (i+1) (skp c j)
def zbH:Nat->(Nat->Nat->Rat)->Rat
 |0,_=>1
 |n+1,M=>zaP (n+1) λc=>sg c*M 0 c*zbH n (mnr M c)
theorem zcs (n:Nat)(M:Nat->Nat->Rat):zbH (n+1) M=zaP (n+1) λc=>sg c*M 0 c*zbH n (mnr M c):=rfl
theorem sg_succ (c:Nat):sg (c+1)= -sg c:=by
 unfold sg
 by_cases h:c%2=0
 ·rw [if_neg (by omega),if_pos h]
 ·rw [if_pos (by omega),if_neg h,Rat.neg_neg]
theorem skp_lt {c j n:Nat}(hj:j<n):skp c j<n+1:=by unfold skp;split<;>omega
theorem skp_ne (c j:Nat):skp c j≠c:=by unfold skp;split<;>omega
theorem zcK:∀{n:Nat} {M N:Nat->Nat->Rat},(∀i,i<n->∀j,j<n->M i j=N i j)->zbH n M=zbH n N
 |0,_,_,_=>rfl
 |n+1,M,N,h=>by
   rw [zcs,zcs]
   refine zau λc hc=>?_
   rw [h 0 (by omega) c hc,zcK (n:=n) (M:=mnr M c) (N:=mnr N c) λi hi j hj=>h (i+1) (by omega) _ (skp_lt hj)]
def zbI (M:Nat->Nat->Rat)(k:Nat)(v:Nat->Rat):Nat->Nat->Rat:=λi j=>if j=k then v i else M i j
theorem zcf (M:Nat->Nat->Rat)(k:Nat)(v:Nat->Rat)(i:Nat):zbI M k v i k=v i:=if_pos rfl
theorem zcg (M:Nat->Nat->Rat){k j:Nat}(h:j≠k)(v:Nat->Rat)(i:Nat):zbI M k v i j=M i j:=if_neg h
theorem zfN (M:Nat->Nat->Rat)(k:Nat):zbI M k (λi=>M i k)=M:=by
 funext i j;unfold zbI;split
 ·next h=>rw [h]
 ·rfl
theorem zei (M:Nat->Nat->Rat)(k:Nat)(v:Nat->Rat):mnr (zbI M k v) k=mnr M k:=by
 funext i j;show(if skp k j=k then _ else _)=_;rw [if_neg (skp_ne k j)];rfl
def uns (c k:Nat):Nat:=if k<c then k else k - 1
theorem zlc {c k j:Nat}(h:k≠c):skp c j=k↔j=uns c k:=by unfold skp uns;split<;>split<;>omega
theorem uns_lt {c k n:Nat}(h:k≠c)(hk:k<n+1)(hc:c<n+1):uns c k<n:=by unfold uns;split<;>omega
theorem ziI {M:Nat->Nat->Rat}{c k:Nat}(h:k≠c)(v:Nat->Rat):mnr (zbI M k v) c=zbI (mnr M c) (uns c k) (λi=>v (i+1)):=by
 funext i j
 show(if skp c j=k then _ else _)=(if j=uns c k then _ else _)
 by_cases e:j=uns c k
 ·rw [if_pos e,if_pos ((zlc h).2 e)]
 ·rw [if_neg e,if_neg λq=>e ((zlc h).1 q)];rfl
theorem zdI:∀{n:Nat} (M:Nat->Nat->Rat) {k:Nat} (_:k<n) (a b:Rat) (u v:Nat->Rat),zbH n (zbI M k λi=>a*u i+b*v i)=a*zbH n (zbI M k u)+b*zbH n (zbI M k v)
 |n+1,M,k,hk,a,b,u,v=>by
   rw [zcs,zcs,zcs,zbb,zbb,<-zgR]
   refine zau λc hc=>?_
   by_cases h:k=c
   ·subst h
    rw [zei,zei,zei]
    simp only [zbI,if_true]
    grind
   ·rw [ziI h,ziI h,ziI h,zdI (mnr M c) (uns_lt h hk hc) a b (λi=>u (i+1)) (λi=>v (i+1))]
    simp only [zbI,if_neg (λe:c=k=>h e.symm)]
    grind
theorem zgf {n:Nat}(M:Nat->Nat->Rat){k:Nat}(hk:k<n)(a:Rat)(u:Nat->Rat):zbH n (zbI M k λi=>a*u i)=a*zbH n (zbI M k u):=by
 have h:=zdI M hk a 0 u u
 rw [Rat.zero_mul,Rat.add_zero] at h
 rw [<-h]
 congr 2
 funext i
 grind
theorem zgA {n:Nat}(M:Nat->Nat->Rat){k:Nat}(hk:k<n)(f:Nat->Rat)(u:Nat->Nat->Rat):∀q,zbH n (zbI M k λi=>zaP q λl=>f l*u l i)=zaP q λl=>f l*zbH n (zbI M k (u l))
 |0=>by
   have:=zgf M hk 0 (λ_=>0)
   have e:(λi:Nat=>(0:Rat)*(λ_=>0) i)=λ_=>0:=by funext i;exact Rat.zero_mul _
   rw [e] at this
   show zbH n (zbI M k λi=>0)=0
   rw [this,Rat.zero_mul]
 |q+1=>by
   rw [zaQ,<-zgA M hk f u q]
   have:=zdI M hk 1 (f q) (λi=>zaP q λl=>f l*u l i) (u q)
   rw [Rat.one_mul] at this
   rw [<-this]
   congr 2
   funext i
   rw [zaQ,Rat.one_mul]
theorem zmn {f:Nat->Rat}{k:Nat}(h2:f k+f (k+1)=0):∀{n:Nat},k+1<n->(∀c,c<n->c≠k->c≠k+1->f c=0)->zaP n f=0
 |n+1,hk,h1=>by
   rw [zaQ]
   by_cases e:n=k+1
   ·subst e
    rw [zaQ,zcv λi hi=>h1 i (by omega) (by omega) (by omega),Rat.zero_add,h2]
   ·rw [zmn h2 (n:=n) (by omega) (λc hc=>h1 c (by omega)),h1 n (by omega) (by omega) (by omega),Rat.add_zero]
theorem zdJ:∀{n:Nat} {M:Nat->Nat->Rat} {k:Nat},k+1<n->(∀i,i<n->M i k=M i (k+1))->zbH n M=0
 |n+1,M,k,hk,h=>by
   rw [zcs]
   have h1:∀c,c<n+1->c≠k->c≠k+1->sg c*M 0 c*zbH n (mnr M c)=0:=λc hc e1 e2=>by
    have:zbH n (mnr M c)=0:=by
     refine zdJ (k:=uns c k) ?_ λi hi=>?_
     ·unfold uns;split<;>omega
     ·have a1:skp c (uns c k)=k:=(zlc (Ne.symm e1)).2 rfl
      have a2:skp c (uns c k+1)=k+1:=by unfold skp uns;split<;>split<;>omega
      show M (i+1) (skp c (uns c k))=M (i+1) (skp c (uns c k+1))
      rw [a1,a2];exact h (i+1) (by omega)
    rw [this,Rat.mul_zero]
   have h2:sg k*M 0 k*zbH n (mnr M k)+sg (k+1)*M 0 (k+1)*zbH n (mnr M (k+1))=0:=by
    have:zbH n (mnr M k)=zbH n (mnr M (k+1)):=zcK λi hi j hj=>by
     show M (i+1) (skp k j)=M (i+1) (skp (k+1) j)
     by_cases e:j=k
     ·subst e
      have a1:skp j j=j+1:=by unfold skp;split<;>omega
      have a2:skp (j+1) j=j:=by unfold skp;split<;>omega
      rw [a1,a2];exact(h (i+1) (by omega)).symm
     ·have:skp k j=skp (k+1) j:=by unfold skp;split<;>split<;>omega
      rw [this]
    rw [this,sg_succ,<-h 0 (by omega)]
    grind
   exact zmn (f:=λc=>sg c*M 0 c*zbH n (mnr M c)) h2 (by omega) h1
theorem zoF {n:Nat}(M:Nat->Nat->Rat){k:Nat}(hk:k+1<n)(u v:Nat->Rat):zbH n (zbI (zbI M k u) (k+1) v)= -zbH n (zbI (zbI M k v) (k+1) u):=by
 have z:∀x:Nat->Rat,zbH n (zbI (zbI M k x) (k+1) x)=0:=λx=>zdJ hk λi _=>by
  rw [zcg _ (by omega),zcf,zcf]
 have sw:∀x y:Nat->Rat,zbI (zbI M k x) (k+1) y=zbI (zbI M (k+1) y) k x:=λx y=>by
  funext i j;simp only [zbI];by_cases a:j=k+1
  ·rw [if_pos a,if_neg (by omega),if_pos a]
  ·rw [if_neg a];by_cases b:j=k
   ·rw [if_pos b,if_pos b]
   ·rw [if_neg b,if_neg b,if_neg a]
 have e1:=z (λi=>1*u i+1*v i)
 rw [zdI _ hk,sw,sw,zdI _ (by omega:k<n),zdI _ (by omega:k<n),<-sw,<-sw,<-sw,<-sw,z,z] at e1
 grind
theorem zhd:∀(d:Nat) {n:Nat} {M:Nat->Nat->Rat} {k:Nat},k+1+d<n->(∀i,i<n->M i k=M i (k+1+d))->zbH n M=0
 |0,n,M,k,hk,h=>zdJ hk h
 |d+1,n,M,k,hk,h=>by
   have e:M=zbI (zbI M (k+1+d) λi=>M i (k+1+d)) (k+1+d+1) λi=>M i (k+1+d+1):=by rw [zfN,zfN]
   rw [e,zoF M (by omega),zhd d (k:=k) (by omega),Rat.neg_zero]
   intro i hi
   rw [zcg _ (by omega),zcg _ (by omega),zcg _ (by omega),zcf]
   exact h i hi
theorem zio {n:Nat}{M:Nat->Nat->Rat}{k l:Nat}(hk:k<n)(hl:l<n)(hne:k≠l):zbH n (zbI M k λi=>M i l)=0:=by
 rcases Nat.lt_or_ge k l with h|h
 ·obtain⟨d,rfl⟩:∃d,l=k+1+d:=⟨l - k - 1,by omega⟩
  exact zhd d (by omega) λi _=>by rw [zcf,zcg _ (by omega)]
 ·obtain⟨d,rfl⟩:∃d,k=l+1+d:=⟨k - l - 1,by omega⟩
  exact zhd d (k:=l) (by omega) λi _=>by rw [zcg _ (by omega),zcf]
theorem zhw:∀(n:Nat) {M:Nat->Nat->Rat},(∀i,i<n->M i n=0)->zbH (n+1) M=M n n*zbH n M
 |0,M,_=>by
   show zaP 1 _=_
   rw [zaQ,zhp]
   show 0+1*M 0 0*1=M 0 0*1
   grind
 |n+1,M,h=>by
   rw [zcs,zaQ,h 0 (by omega),Rat.mul_zero,Rat.zero_mul,Rat.add_zero,zcs n,zbb]
   refine zau λc hc=>?_
   rw [zhw n (M:=mnr M c) (λi hi=>by
    show M (i+1) (skp c n)=0
    rw [show skp c n=n+1 by unfold skp;split<;>omega];exact h (i+1) (by omega))]
   have:mnr M c n n=M (n+1) (n+1):=by show M (n+1) (skp c n)=_;rw [show skp c n=n+1 by unfold skp;split<;>omega]
   rw [this]
   grind
