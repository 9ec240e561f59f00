/- What this claim leans on. -/
import Derived.Test.YtlgnacmgepnamaaGreatDoorMBunT
import Derived.Deep.RegionHeld
import Derived.LoopIn
import Derived.LoopNIn
import Derived.OrdersHeld
import Derived.OrdersIn
import Derived.OwnWalkIn
import Derived.RangeFuncBound
import Derived.RangeFuncCalls
import Derived.RangeFuncLeaves
import Derived.RangeFuncNested
import Derived.Shelf.Abstract
import Derived.Shelf.RegionOpen
import Derived.TacticsInMore
namespace Go.Proofs.YtlgnacmgepnamaaGreatDoor
open Go Go.RowKit
set_option maxHeartbeats 16000000
set_option linter.unusedVariables false
def zaF (w:World)(z:Int)(b:Bool)(A:oA9)(n c:Nat):Prop:=b=decide (z<0)/\zag w z.natAbs A n c
theorem zaF.below {w w':World}{z:Int}{b:Bool}{A:oA9}{n c:Nat}(h:zaF w z b A n c)(hb:Below w.heap.size w w'):zaF w' z b A n c:=⟨h.1,h.2.below hb⟩
theorem zaF.words {w:World}{z:Int}{b:Bool}{A:oA9}{n c:Nat}(h:zaF w z b A n c):zag w z.natAbs A n c:=h.2
def zbb (w:World)(z:Int)(e:Ending)(w':World):Prop:=∃(b:Bool) (A:oA9) (n c:Nat),e=.returned (.agg #[.bool b,.slice A n c])/\zaF w' z b A n c/\Below w.heap.size w w'
def zey (w:World)(x:Nat)(e:Ending)(w':World):Prop:=∃(A:oA9) (n c:Nat),e=.returned (.agg #[.slice A n c])/\zag w' x A n c/\Below w.heap.size w w'
structure IntC (T:World->Prop):Prop where
 new:∀(s:Bool) (x:Nat) (A:oA9) (n c:Nat) (w:World),T w->zag w x A n c->n<=268435456->Calls Tryz.prog 129 #[.bool s,.agg #[.slice A n c]] w (zbb w (if s then -(x:Int) else(x:Int)))
 of:∀(z:Int) (w:World),T w-> -9223372036854775808<=z->z<=9223372036854775807->Calls Tryz.prog 68 #[.int .i64 z] w (zbb w z)
 belowI:∀(z:Int) (b:Bool) (A:oA9) (n c:Nat) (w:World),T w->zaF w z b A n c->n<=268435456->Calls Tryz.prog 123 #[.agg #[.bool b,.slice A n c]] w λe w'=>e=.returned (.bool (decide (z<0)))/\Below w.heap.size w w'
 abs:∀(z:Int) (b:Bool) (A:oA9) (n c:Nat) (w:World),T w->zaF w z b A n c->n<=268435456->Calls Tryz.prog 117 #[.agg #[.bool b,.slice A n c]] w (zey w z.natAbs)
 sign:∀(z:Int) (b:Bool) (A:oA9) (n c:Nat) (w:World),T w->zaF w z b A n c->n<=268435456->Calls Tryz.prog 108 #[.agg #[.bool b,.slice A n c]] w (zbT w (zes z))
 cmp:∀(x y:Int) (b b':Bool) (A D:oA9) (n m c d:Nat) (w:World),T w->zaF w x b A n c->zaF w y b' D m d->n<=268435456->m<=268435456->Calls Tryz.prog 58 #[.agg #[.bool b,.slice A n c],.agg #[.bool b',.slice D m d]] w (zbT w (zgQ x y))
 add:∀(x y:Int) (b b':Bool) (A D:oA9) (n m c d:Nat) (w:World),T w->zaF w x b A n c->zaF w y b' D m d->n<=268435456->m<=268435456->Calls Tryz.prog 135 #[.agg #[.bool b,.slice A n c],.agg #[.bool b',.slice D m d]] w (zbb w (x+y))
 mul:∀(x y:Int) (b b':Bool) (A D:oA9) (n m c d:Nat) (w:World),T w->zaF w x b A n c->zaF w y b' D m d->n<=268435456->m<=268435456->Calls Tryz.prog 155 #[.agg #[.bool b,.slice A n c],.agg #[.bool b',.slice D m d]] w (zbb w (x*y))
set_option maxRecDepth 100000
set_option linter.unusedSimpArgs false
theorem zkf {w:World}{A:oA9}{n c x g:Nat}{t:TypeId}{cs:Array Value}(h:zag w x A n c)(hk:Blk w g t cs)(hcs:∀v ∈ cs.toList,∀z,v≠.int .u64 z):0<n->∀ad,A=some ad->ad.block≠g:=λhn ad e hg=>by
 obtain⟨ad',e',_,hc⟩:=h.1.2 hn
 rw [e] at e'
 injection e' with e'
 subst e'
 have hl:=h.len
 have h0:=hc 0 (.int .u64 ((dg 18446744073709551616 x).getD 0 0:Nat)) (zcu .u64 _ 0 (by omega))
 have e0:ad.add 0=ad:=by unfold Addr.add;rw [if_pos rfl]
 rw [e0] at h0
 obtain⟨bk,off,pr⟩:=ad
 simp only at hg
 subst hg
 unfold Blk at hk
 cases pr with
 |none=>
   rw [show w.cell? ⟨bk,off,none⟩=cs[off]? from cell_of_row w bk off _ t (0,0) hk,<-Array.getElem?_toList] at h0
   exact hcs _ (List.mem_of_getElem? h0) _ rfl
 |some q=>simp [World.cell?,hk] at h0
theorem zbo {w:World}{z:Int}{b p:Bool}{A q:oA9}{n c r s g:Nat}{t:TypeId}(h:zaF w z b A n c)(hk:Blk w g t #[.bool p,.slice q r s])(p':Bool)(q':oA9)(r' s':Nat):
  zaF ((w.setCell ⟨g,0,none⟩ (.bool p')).setCell ⟨g,1,none⟩ (.slice q' r' s')) z b A n c:=by
 have h1:=zeS (p:=⟨g,0,none⟩) h.2 (zkf h.2 hk (by intro v hv;simp at hv;rcases hv with rfl|rfl<;>intro z e<;>cases e)) (.bool p')
 exact⟨h.1,zeS (p:=⟨g,1,none⟩) h1 (zkf h1 (hk.set_ 0 (.bool p')) (by intro v hv;simp at hv;rcases hv with rfl|rfl<;>intro z e<;>cases e)) _⟩
def due (l:Array Bool):Nat:=l.toList.countP λb=> !b
section
variable {P:Program}{ops:Array Oper}{Q:Exit->Act->World->Prop}{md:Region.Mode}{S:World->Prop}
theorem zaj {i:Nat}{l:Array Bool}(hi:i ∈ Region.ready md ops l):l.getD i true=false:=(mem_ready.1 hi).1
theorem zcZ {i:Nat}{l:Array Bool}(hi:i ∈ Region.ready md ops l):i<ops.size:=by
 obtain⟨_,o,ho,_⟩:=mem_ready.1 hi
 exact(Array.getElem?_eq_some_iff.1 ho).1
theorem zpE {i k:Nat}{l:Array Bool}{o:Oper}{e:Edge}(hi:i ∈ Region.ready md ops l)(ho:ops[i]?=some o)(he:o.after[k]?=some e)(hb:Region.binds md e=true):l.getD e.on false=true:=by
 obtain⟨_,o',ho',h⟩:=mem_ready.1 hi
 rw [ho] at ho'
 cases ho'
 exact h e (Array.mem_of_getElem? he) hb
theorem zmG {i:Nat}{l:Array Bool}{o:Oper}(h:Region.ready md ops l=[])(ho:ops[i]?=some o)(hr:(o.after.toList.all λe=> !Region.binds md e||l.getD e.on false)=true):l.getD i true=true:=by
 cases hl:l.getD i true
 ·have:i ∈ Region.ready md ops l:=mem_ready.2 ⟨hl,o,ho,λe he hb=>by
   have:=List.all_eq_true.1 hr e (by simpa using he)
   rw [hb] at this
   simpa using this⟩
  rw [h] at this
  cases this
 ·rfl
theorem zod {i:Nat}{l:Array Bool}(h:l.getD i true=false):due (l.setIfInBounds i true)+1=due l:=by
 obtain⟨l⟩:=l
 unfold due
 have hi:i<l.length:=by
  rcases Nat.lt_or_ge i l.length with h'|h'
  ·exact h'
  ·simp [List.getElem?_eq_none h'] at h
 have hv:l[i]=false:=by simpa [hi] using h
 simp only [List.setIfInBounds_toArray]
 clear h
 induction l generalizing i with
 |nil=>simp at hi
 |cons b t ih=>
   cases i with
   |zero=>
     have hb:b=false:=hv
     subst hb
     simp
   |succ j=>
     have:=ih (i:=j) (by simpa using hi) (by simpa using hv)
     simp only [List.set_cons_succ,List.countP_cons]
     omega
theorem zoX {l:Array Bool}(h:due l=0):Region.ready md ops l=[]:=by
 refine List.eq_nil_iff_forall_not_mem.2 λi hi=>?_
 have:=zod (zaj hi)
 omega
theorem zld {J:Act->Array Bool->Act->World->Prop}{L:Array Bool}{a0:Act}(hfull:∀l a w,J a0 l a w->Region.ready md ops l=[]->l=L)
  (hstep:∀l a w i,J a0 l a w->l≠L->i ∈ Region.ready md ops l->wpOp P ops Q i (λa' w'=>S w'/\J a0 (l.setIfInBounds i true) a' w') a w)
  (hgoal:∀a w,J a0 L a w->wpAnyH P md ops Q S (due L) L a w):∀(fuel:Nat) (l:Array Bool) (a:Act) (w:World),due l=fuel->J a0 l a w->wpAnyH P md ops Q S fuel l a w:=by
 intro fuel
 induction fuel with
 |zero=>
   intro l a w hd hJ
   have e:=hfull l a w hJ (zoX hd)
   subst e
   have:=hgoal a w hJ
   rwa [hd] at this
 |succ n ih=>
   intro l a w hd hJ
   by_cases hl:l=L
   ·subst hl
    have:=hgoal a w hJ
    rwa [hd] at this
   ·refine⟨λh=>absurd (hfull l a w hJ h) hl,λi hi=>?_⟩
    exact wpOp_mono (λa' w' ⟨h1,h2⟩=>⟨h1,ih _ a' w' (by have:=zod (zaj hi);omega) h2⟩) (hstep l a w i hJ hl hi)
end
def Gd (f:Bool)(p:Prop):Prop:=f=true->p
theorem Gd.no {p:Prop}:Gd false p:=λh=>by cases h
theorem Gd.yes {p:Prop}(h:p):Gd true p:=λ_=>h
theorem Gd.get {p:Prop}(h:Gd true p):p:=h rfl
theorem Gd.mono {f:Bool}{p q:Prop}(h:Gd f p)(k:p->q):Gd f q:=λe=>k (h e)
def Made (b:Nat)(w:World)(g:Nat)(t:TypeId)(cs:Array Value)(v:Value):Prop:=v=.pointer (some ⟨g,0,none⟩)/\b<=g/\w.heap[g]?=some (.cells cs t (0,0))
theorem Made.lt {b g:Nat}{w:World}{t:TypeId}{cs:Array Value}{v:Value}(h:Made b w g t cs v):g<w.heap.size:=(Array.getElem?_eq_some_iff.1 h.2.2).1
theorem Made.keep {b g:Nat}{w w':World}{t:TypeId}{cs:Array Value}{v:Value}(h:Made b w g t cs v)(hb:Below w.heap.size w w'):Made b w' g t cs v:=⟨h.1,h.2.1,(hb.block g h.lt).trans h.2.2⟩
theorem Made.new (b:Nat)(w:World)(t:TypeId)(cs:Array Value)(hb:b<=w.heap.size):Made b (w.alloc (.cells cs t)) w.heap.size t cs (.pointer (some ⟨w.heap.size,0,none⟩)):=⟨rfl,hb,heap_alloc_new w _⟩
theorem SzI.add {K K':Nat}{x y:Int}(h:Sz K x.natAbs)(h':Sz K' y.natAbs):Sz (K+K'+1) (x+y).natAbs:=
 Sz.of_le (Sz.add (h.up (by omega:K<=K+K')) (h'.up (by omega:K'<=K+K'))) (Int.natAbs_add_le x y)
theorem SzI.mul {K K':Nat}{x y:Int}(h:Sz K x.natAbs)(h':Sz K' y.natAbs):Sz (K+K') (x*y).natAbs:=by
 rw [Int.natAbs_mul];exact Sz.mul h h'
theorem SzI.neg {K:Nat}{x:Int}(h:Sz K x.natAbs):Sz K (-x).natAbs:=by rw [Int.natAbs_neg];exact h
theorem zie {w:World}{x:Nat}{A:oA9}{n c:Nat}(h:zak w x A n c)(hx:x=0):n=0:=by rw [h.len,hx];rfl
theorem zku {w:World}{x:Nat}{A:oA9}{n c:Nat}(h:zak w x A n c)(hx:x≠0):0<n:=by
 rw [h.len]
 exact(zhj (b:=65536) (by decide) x hx).1
theorem sgn_pos {x:Int}(h:0<x):zes x=1:=by unfold zes;rw [if_neg (by omega),if_neg (by omega)]
theorem sgn_neg {x:Int}(h:x<0):zes x= -1:=by unfold zes;rw [if_pos h]
section
variable {P:Program}{f:FuncId}{args:Array Value}{w:World}
theorem icmp_eq {x y:Int}(h:x=y)(hc:Calls P f args w (zbT w (zgQ x y))):Calls P f args w (zbT w 0):=by rw [(zhD x y).2 h] at hc;exact hc
theorem zgT {z:Int}{b:Bool}(h:decide (z<0)=b)(hc:Calls P f args w λe w'=>e=.returned (.bool (decide (z<0)))/\Below w.heap.size w w'):Calls P f args w λe w'=>e=.returned (.bool b)/\Below w.heap.size w w':=by rw [h] at hc;exact hc
theorem zky {x v:Int}(h:zes x=v)(hc:Calls P f args w (zbT w (zes x))):Calls P f args w (zbT w v):=by rw [h] at hc;exact hc
end
def zoJ (I:Nat->World->Prop)(k:Nat)(W:World):Exit->Act->World->Prop:=λe _ W'=>e=.normal/\KeepsOthers W W'/\I k W'
def zhJ (P:Program)(gf:Nat)(lb:Array Value)(enc:Nat->Array Value)(N:Nat)(I:Nat->World->Prop):Prop:=
 ∀ (l : Nat) (J : Nat → World → Prop) (W : World),(∀ k W,J k W → I k W) →
  (∀k W,k<N->J (k+1) W->YieldAt Fence.wide 1 P l (enc k) W λe W'=>e=.returned (.bool true)/\J k W')->
  J N W->CallsIn Fence.wide 2 P gf (#[.func (.yield l) #[] #[]]++lb) W λe W'=>(∃v,e=.returned v)/\J 0 W'
theorem zew {w W:World}{I:Nat->World->Prop}{k b:Nat}{o:Obj}(hI:∀k,OwnFrom w.heap.size (fun(_:Unit) W=>I k W))(h:I k W)(hb:w.heap.size<=b)(ho:W.heap[b]?=some o)(hc:o.isCells=false)(o':Obj):I k (W.putObj b o'):=
 (hI k).putObj (s:=()) o' h hb ho hc
theorem ziB {P:Program}{g:Operand}{ps:Array Tmp}{assign body:Code}{Q:Exit->Act->World->Prop}{a:Act}{w:World}{gf:Nat}{lb:Array Value}(hg:a.eval g=.func (.func gf) #[] lb)
  (eg:∀args w,(callFunc gf args).run P w=.ok (.enter gf args) w) (N:Nat) (enc:Nat->Array Value) (hps:∀k,(enc k).size=ps.size) (I:Nat->World->Prop) (hI:∀k,OwnFrom w.heap.size (fun(_:Unit) W=>I k W)) (h0:I N w)
  (hiter:zhJ P gf lb enc N I) (a1:Nat->Act)
  (hassign:∀(l k:Nat) (W:World) (K:Act->World->Prop),K (a1 k) W->assign.wpIn (Fence.wide.inRound l) 1 P (Exit.then K (λ_ _ _=>False)) {tmps:=(ps.zip (enc k)).foldl (λt (p,v)=>t.setIfInBounds p v) a.tmps,defers:=[]} W)
  (hbody:∀(l k:Nat) (W:World),k<N->I (k+1) W->body.wpIn (Fence.wide.inRound l) 1 P (zoJ I k W) (a1 k) W)
  (hdone:∀(D:Nat) (W:World),w.heap.size<=D->I 0 W->W.heap[D]?=some (.deferred (some []))->Q .normal {a with defers:={target:=.collected D,args:=#[]}::a.defers} W):
  (Code.rangeFunc g ps assign body).wpIn Fence.wide 3 P Q a w:=by
 refine wpIn_rangeFunc λfn hfn=>?_
 obtain⟨r,hr⟩:∃r:Loop,r={state:=.ready,pending:=none,fn,tmps:=a.tmps,params:=ps,assign,body,defers:=w.heap.size}:=⟨_,rfl⟩
 obtain⟨V,hV⟩:∃V,(w.alloc (.deferred (some []))).alloc (.loop r)=V:=⟨_,rfl⟩
 have gV:w.grownBy V none:=by rw [<-hV];exact(World.grownBy_alloc w _ none).trans (World.grownBy_alloc _ _ none)
 have rV:V.heap[w.heap.size+1]?=some (.loop r):=by
  have h:=World.alloc_heap_new (w.alloc (.deferred (some []))) (.loop r)
  rw [World.size_alloc,hV] at h
  exact h
 have dV:V.heap[w.heap.size]?=some (.deferred (some [])):=by
  have h:=World.alloc_heap_new w (.deferred (some []))
  rw [<-hV,Below.heap_alloc _ _ _ (by simp)]
  exact h
 have iV:I N V:=hI N () w V none h0 gV (λ_ e=>by cases e)
 refine⟨w.heap.size+1,[{target:=.collected w.heap.size,args:=#[]}],V,{target:=.fn (.func gf) lb,args:=#[.func (.yield (w.heap.size+1)) #[] #[]]},V,gf,#[.func (.yield (w.heap.size+1)) #[] #[]]++lb,V,?_,?_,λ_ _=>trivial,?_,λ_=>by omega,?_⟩
 ·rw [<-hV,hr];exact run_enterLoop_outer _ _ _ _ _
 ·simp only [resolve,hg]
  simp [go_sem]
 ·simp [invoke,go_sem,eg]
 refine(hiter (w.heap.size+1) (λk W=>I k W/\W.heap[w.heap.size+1]?=some (.loop r)/\W.heap[w.heap.size]?=some (.deferred (some []))) V (λ_ _ h=>h.1) ?_ ⟨iV,rV,dV⟩).mono ?_
 ·rintro k W hk ⟨iW,rW,dW⟩
  have hy:=run_yield (P:=P) (args:=enc k) rW (by rw [hr];exact hps k)
  have lt:=(Array.getElem?_eq_some_iff.1 rW).1
  obtain⟨rb,hrb⟩:∃rb:Loop,rb={r with state:=.busy}:=⟨_,rfl⟩
  have rX:(W.putObj (w.heap.size+1) (.loop rb)).heap[w.heap.size+1]?=some (.loop rb):=World.putObj_heap_same lt
  have dX:(W.putObj (w.heap.size+1) (.loop rb)).heap[w.heap.size]?=some (.deferred (some [])):=(World.putObj_heap_other (by omega)).trans dW
  have iX:I (k+1) (W.putObj (w.heap.size+1) (.loop rb)):=zew hI iW (by omega) rW rfl _
  rw [hr] at hy
  refine⟨fn,_,assign,body,hy,roundIn_of_wpIn hfn (hassign _ k W _ ⟨_,by have h:=run_beginRound (P:=P) rW (by rw [hr]);rw [<-hrb] at h;exact h,?_⟩)⟩
  refine wpIn_mono (hbody _ k _ hk iX) ?_
  rintro e a3 W3 ⟨rfl,hk3,i3⟩
  have r3:=hk3.same _ _ rX rfl
  have d3:=hk3.same _ _ dX rfl
  have lt3:=(Array.getElem?_eq_some_iff.1 r3).1
  have he:=run_endRound (P:=P) none r3
  refine⟨_,_,he,rfl,zew hI i3 (by omega) r3 rfl _,?_,(World.putObj_heap_other (by omega)).trans d3⟩
  rw [World.putObj_heap_same lt3,hrb,hr]
  rfl
 ·rintro e W2 ⟨⟨v,rfl⟩,i2,r2,d2⟩
  have he:=run_endLoop (P:=P) r2 (by rw [hr];simp)
  rw [show r.pending=none from by rw [hr]] at he
  exact⟨none,_,he,hdone _ _ (Nat.le_refl _) (zew hI i2 (by omega) r2 rfl _) ((World.putObj_heap_other (by omega)).trans d2)⟩
attribute [local go_sem] Oper.semAt_some
theorem zeU (Bs len cap:Nat)(A:oA9)(v:Nat->Nat)(I:Nat->World->Prop)(hlen:len<=1099511627776)
  (hIb:∀k W,I k W->W.cell? ⟨Bs,0,none⟩=some (.slice A len cap)) (hIc:∀k W,k<len->I (k+1) W->∃ad,A=some ad/\W.cell? (ad.add k)=some (.int .u64 (v k:Int))):
  zhJ Tryz.prog 198 #[.pointer (some ⟨Bs,0,none⟩)] (λk=>#[.int .i64 (k:Int),.int .u64 (v k:Int)]) len I:=by
 intro l J W hJ hY h0
 have hb0:=hIb _ _ (hJ _ _ h0)
 have HB:=lh9 (λk W (h:J k W)=>hIb k W (hJ k W h))
 have HC:=lh9 (λk W (hk:k<len) (h:J (k+1) W)=>hIc k W hk (hJ _ _ h))
 have HY:=lh9 hY
 have H0:=lh9 h0
 have hw1:IntKind.i64.wrap ((len:Int) - 1)=(len:Int) - 1:=by rw [IntKind.wrap_i64];omega
 clear hJ hY h0 hIb hIc
 refine callsIn_of_wp Tryz.func198 rfl trivial ?_ rfl
 simp only [Tryz.ntmps198,List.size_toArray,List.length_cons,List.length_nil,Nat.reduceAdd,Nat.reduceSub,Array.replicate_succ,Array.replicate_zero,List.push_toArray,List.append_toArray,List.nil_append,List.cons_append]
 gi_wp2
 clear hb0 hw1
 gi_loopw [3] (λi wr=>∃k:Nat,k<=len/\i=.int .i64 ((k:Int) - 1)/\J k wr) (λi _=>(intOf i+1).toNat)
 case atStart=>exact⟨len,Nat.le_refl _,rfl,H0.out⟩
 case round=>
  obtain⟨k,hk,rfl,hJs⟩:=hrel
  have hb:=HB.out _ _ hJs
  rcases k with _|k
  ·rw [show((0:Nat):Int) - 1= -1 from by decide]
   clear hb
   gi_wp2
   go_end0
   exact⟨⟨_,rfl⟩,hJs⟩
  ·obtain⟨ad,rfl,hc⟩:=HC.out k wr hk hJs
   obtain⟨fn,tmps,assign,body,hy,hR⟩:=HY.out k wr hk hJs
   rw [show((k+1:Nat):Int) - 1=(k:Int) from by omega]
   have i1:(0:Int)<=(k:Int):=by omega
   have i2:(k:Int)<(len:Int):=by omega
   have i3:IntKind.i64.wrap ((k:Int) - 1)=(k:Int) - 1:=by rw [IntKind.wrap_i64];omega
   obtain⟨z,hz⟩:∃z,v k=z:=⟨_,rfl⟩
   try dsimp only at hy
   rw [hz] at hc hy
   clear hz hJs
   gi_wp2
   refine hR.mono ?_
   rintro e W3 ⟨rfl,hJ3⟩
   gi_wp2
   go_roundw
   case rel=>exact⟨k,by omega,rfl,hJ3⟩
   case measure=>simp [intOf]
theorem zeh (A:oA9)(len cap:Nat)(w:World):
  Calls Tryz.prog 192 #[.slice A len cap] w λe w'=>e=.returned (.func (.func 198) #[] #[.pointer (some ⟨w.heap.size,0,none⟩)])/\w.alloc (.cells #[.slice A len cap] 42)=w':=by
 go_enter Tryz.func192,Tryz.ntmps192
 go_wp2
 go_ret
 exact⟨rfl,rfl⟩
section
variable {P:Program}{md:Region.Mode}{ops:Array Oper}{Q:Exit->Act->World->Prop}{l n:Nat}
theorem zml {f:FuncId}{args:Array Value}{w:World}{R R':Ending->World->Prop}(h:Calls P f args w R)(hr:∀e w,R e w->R' e w):CallsIn (Fence.wide.inRound l) n P f args w R':=
 CallsIn.inRound l (callsIn_wide.2 (h.mono hr))
theorem znI {row:String}{args:Array Value}{w:World}{R R':Value->World->Prop}(h:Rows P row args w R)(hr:∀e w,R e w->R' e w):RowsIn (Fence.wide.inRound l) n P row args w R':=
 λc cs _=>let ⟨v,w',r,s⟩:=h c cs;⟨v,w',hr _ _ r,stepsIn_wide.2 s⟩
theorem round_op {o:Oper}{a:Act}{w:World}{K K':Act->World->Prop}(hd:∀c,o.op≠.defer c)(hK:∀a w,K a w->K' a w)(h:o.wp P a w K Q):o.wpIn (Fence.wide.inRound l) n P a w K' Q:=by
 refine⟨λ_ _=>trivial,?_⟩
 rw [Oper.semAt_eq _ _ _ hd]
 unfold Oper.wp at h
 generalize (execOp a.eval o).run P w=r at h⊢
 cases r with
 |ok x w'=>
   cases x <;> simp only [Oper.upon,Oper.uponIn] at h ⊢ <;>
    first
     |exact hK _ _ h
     |exact⟨λe=>by simp [Fence.wide] at e,zml h (λe w'' he=>by cases e<;>first|exact hK _ _ he|exact he)⟩
     |exact⟨λe=>by simp [Fence.wide] at e,znI h (λ_ _ he=>hK _ _ he)⟩
     |exact h.elim
 |halt x w'=>cases x<;>simp only [Oper.upon,Oper.uponIn] at h⊢<;>exact h
theorem zfF (hd:∀(i:Nat)(o:Oper),ops[i]?=some o->∀c,o.op≠.defer c)(hQ:¬ LetsOut Q):∀(fuel:Nat) (listed:Array Bool) (a:Act) (w:World),wpAny P md ops Q fuel listed a w->wpAnyIn (Fence.wide.inRound l) n P md ops Q fuel listed a w
 |0,_,_,_,h=>h
 |fuel+1,listed,a,w,h=>by
   refine⟨h.1,λi hi=>?_⟩
   have h2:=h.2 i hi
   unfold wpOp at h2
   unfold wpOpIn
   cases ho:ops[i]? with
   |none=>rw [ho] at h2;exact zfF hd hQ fuel _ _ _ h2
   |some o=>
     rw [ho] at h2
     simp only at h2⊢
     split
     ·rename_i hw
      rw [if_pos hw] at h2
      rcases h2 with h2|h2
      ·exact round_op (hd i o ho) (zfF hd hQ fuel _) h2
      ·exact absurd h2.2 hQ
     ·rename_i hw
      rw [if_neg hw] at h2
      exact⟨λ_ _=>trivial,zfF hd hQ fuel _ _ _ h2⟩
def zos (ops:Array Oper):Bool:=ops.all λo=>match o.op with|.defer _=>false|_=>true
theorem zkE (h:zos ops=true)(i:Nat)(o:Oper)(ho:ops[i]?=some o)(c:Call):o.op≠.defer c:=by
 intro e
 have h1:=Array.all_eq_true.1 h i (Array.getElem?_eq_some_iff.1 ho).1
 rw [(Array.getElem?_eq_some_iff.1 ho).2,e] at h1
 cases h1
theorem zgI {id:Nat}{a:Act}{w:World}{S:World->Prop}(hm:P.follows .mixedOrders=true)(hd:zos ops=true)(hQ:∀a w,¬ Q .outgrown a w)(hS:S w.drew)
  (h:S w.drew->wpAnyH P .any ops Q S ops.size (Array.replicate ops.size false) a w.drew):(Code.region id ops true).wpIn (Fence.wide.inRound l) n P Q a w:=
 wpIn_region_any hm (zfF (zkE hd) (fun⟨a,w,h⟩=>hQ a w h) _ _ _ _ (wpAny_of_held _ _ _ _ (h hS)))
end
theorem zbu {B b:Nat}{t:TypeId}{cs:Array Value}{W W':World}{row:Option Nat}(h:Blk W b t cs)(hg:W.grownBy W' row)(hr:∀r,row=some r->B<=r/\∃o:Obj,W.heap[r]?=some o/\o.isCells=false):Blk W' b t cs:=
 h.grown hg (λe=>by
  obtain⟨_,o,ho,hc⟩:=hr b e.symm
  rw [show W.heap[b]?=_ from h] at ho
  cases ho
  cases hc)
theorem zeD {B B0:Nat}{w W W':World}{row:Option Nat}(h:Below B0 w W)(h0:B0<=w.heap.size)(hB:B0<=B)(hg:W.grownBy W' row)(hr:∀r,row=some r->B<=r/\∃o:Obj,W.heap[r]?=some o/\o.isCells=false):Below B0 w W':=
 h.grown hg (Nat.le_trans h0 h.size) (λr e=>Nat.le_trans hB (hr r e).1)
