/- What this claim leans on. -/
import Derived.Test.YtcojjcjgbepicaaGreatDoorHP4C
import Derived.Deep.RegionHeld
import Derived.LoopIn
import Derived.LoopNIn
import Derived.OrdersHeld
import Derived.OrdersIn
import Derived.OwnWalkIn
import Derived.RangeFuncBound
import Derived.RangeFuncCalls
import Derived.RangeFuncLeaves
import Derived.RangeFuncNested
import Derived.Shelf.Abstract
import Derived.Shelf.RegionOpen
import Derived.TacticsInMore
namespace Go.Proofs.YtcojjcjgbepicaaGreatDoor
open Go Go.RowKit Go.Proofs.Tryz
set_option maxHeartbeats 16000000
set_option linter.unusedVariables false
def zaK (w:World)(z:Int)(b:Bool)(A:oA9)(n c:Nat):Prop:=b=decide (z<0)/\zaf w z.natAbs A n c
theorem zaK.below {w w':World}{z:Int}{b:Bool}{A:oA9}{n c:Nat}(h:zaK w z b A n c)(hb:Below w.heap.size w w'):zaK w' z b A n c:=⟨h.1,h.2.below hb⟩
theorem zaK.words {w:World}{z:Int}{b:Bool}{A:oA9}{n c:Nat}(h:zaK w z b A n c):zaf w z.natAbs A n c:=h.2
def zbi (w:World)(z:Int)(e:Ending)(w':World):Prop:=∃(b:Bool) (A:oA9) (n c:Nat),e=.returned (.agg #[.bool b,.slice A n c])/\zaK w' z b A n c/\Below w.heap.size w w'
def zeU (w:World)(x:Nat)(e:Ending)(w':World):Prop:=∃(A:oA9) (n c:Nat),e=.returned (.agg #[.slice A n c])/\zaf w' x A n c/\Below w.heap.size w w'
structure IntC (T:World->Prop):Prop where
 new:∀(s:Bool) (x:Nat) (A:oA9) (n c:Nat) (w:World),T w->zaf w x A n c->n<=268435456->Calls prog 161 #[.bool s,.agg #[.slice A n c]] w (zbi w (if s then -(x:Int) else(x:Int)))
 of:∀(z:Int) (w:World),T w-> -9223372036854775808<=z->z<=9223372036854775807->Calls prog 111 #[.int .i64 z] w (zbi w z)
 belowI:∀(z:Int) (b:Bool) (A:oA9) (n c:Nat) (w:World),T w->zaK w z b A n c->n<=268435456->Calls prog 108 #[.agg #[.bool b,.slice A n c]] w λe w'=>e=.returned (.bool (decide (z<0)))/\Below w.heap.size w w'
 abs:∀(z:Int) (b:Bool) (A:oA9) (n c:Nat) (w:World),T w->zaK w z b A n c->n<=268435456->Calls prog 109 #[.agg #[.bool b,.slice A n c]] w (zeU w z.natAbs)
 sign:∀(z:Int) (b:Bool) (A:oA9) (n c:Nat) (w:World),T w->zaK w z b A n c->n<=268435456->Calls prog 139 #[.agg #[.bool b,.slice A n c]] w (zcl w (zeO z))
 cmp:∀(x y:Int) (b b':Bool) (A D:oA9) (n m c d:Nat) (w:World),T w->zaK w x b A n c->zaK w y b' D m d->n<=268435456->m<=268435456->Calls prog 117 #[.agg #[.bool b,.slice A n c],.agg #[.bool b',.slice D m d]] w (zcl w (zhy x y))
 add:∀(x y:Int) (b b':Bool) (A D:oA9) (n m c d:Nat) (w:World),T w->zaK w x b A n c->zaK w y b' D m d->n<=268435456->m<=268435456->Calls prog 158 #[.agg #[.bool b,.slice A n c],.agg #[.bool b',.slice D m d]] w (zbi w (x+y))
 mul:∀(x y:Int) (b b':Bool) (A D:oA9) (n m c d:Nat) (w:World),T w->zaK w x b A n c->zaK w y b' D m d->n<=268435456->m<=268435456->Calls prog 121 #[.agg #[.bool b,.slice A n c],.agg #[.bool b',.slice D m d]] w (zbi w (x*y))
set_option maxRecDepth 100000
set_option linter.unusedSimpArgs false
theorem zkS {w:World}{A:oA9}{n c x g:Nat}{t:TypeId}{cs:Array Value}(h:zaf w x A n c)(hk:Blk w g t cs)(a:∀v ∈ cs.toList,∀z,v≠.int .u64 z):0<n->∀ad,A=some ad->ad.block≠g:=λhn ad e hg=>by
 obtain⟨ad',e',_,hc⟩:=h.1.2 hn;rw [e] at e';injection e' with e';subst e';have hl:=h.len;have h0:=hc 0 (.int .u64 ((dg 18446744073709551616 x).getD 0 0:Nat)) (zcO .u64 _ 0 om9);have e0:ad.add 0=ad:=by unfold Addr.add;rw [if_pos rfl]
 rw [e0] at h0;obtain⟨bk,off,pr⟩:=ad;simp only at hg;subst hg;unfold Blk at hk;cases pr with
 |none=>
   rw [show w.cell? ⟨bk,off,none⟩=cs[off]? from cell_of_row w bk off _ t (0,0) hk,<-Array.getElem?_toList] at h0;exact a _ (List.mem_of_getElem? h0) _ rfl
 |some q=>simp [World.cell?,hk] at h0
theorem zbz {w:World}{z:Int}{b p:Bool}{A q:oA9}{n c r s g:Nat}{t:TypeId}(h:zaK w z b A n c)(hk:Blk w g t #[.bool p,.slice q r s])(p':Bool)(q':oA9)(r' s':Nat):
  zaK ((w.setCell ⟨g,0,none⟩ (.bool p')).setCell ⟨g,1,none⟩ (.slice q' r' s')) z b A n c:=by
 have h1:=zfl (p:=⟨g,0,none⟩) h.2 (zkS h.2 hk (by intro v hv;simp at hv;rcases hv with rfl|rfl<;>intro z e<;>cases e)) (.bool p');exact⟨h.1,zfl (p:=⟨g,1,none⟩) h1 (zkS h1 (hk.set_ 0 (.bool p')) (by intro v hv;simp at hv;rcases hv with rfl|rfl<;>intro z e<;>cases e)) _⟩
def due (l:Array Bool):Nat:=l.toList.countP λb=> !b
section
variable {P:Program}{ops:Array Oper}{Q:Exit->Act->World->Prop}{md:Region.Mode}{S:World->Prop}
theorem zah {i:Nat}{l:Array Bool}(hi:i ∈ Region.ready md ops l):l.getD i true=false:=(mem_ready.1 hi).1
theorem zbQ {i:Nat}{l:Array Bool}(hi:i ∈ Region.ready md ops l):i<ops.size:=by
 obtain⟨_,o,ho,_⟩:=mem_ready.1 hi;exact(Array.getElem?_eq_some_iff.1 ho).1
theorem zqW {i k:Nat}{l:Array Bool}{o:Oper}{e:Edge}(hi:i ∈ Region.ready md ops l)(ho:ops[i]?=some o)(he:o.after[k]?=some e)(hb:Region.binds md e=true):l.getD e.on false=true:=by
 obtain⟨_,o',a,h⟩:=mem_ready.1 hi;rw [ho] at a;cases a;exact h e (Array.mem_of_getElem? he) hb
theorem znR {i:Nat}{l:Array Bool}{o:Oper}(h:Region.ready md ops l=[])(ho:ops[i]?=some o)(hr:(o.after.toList.all λe=> !Region.binds md e||l.getD e.on false)=true):l.getD i true=true:=by
 cases hl:l.getD i true
 ·have:i ∈ Region.ready md ops l:=mem_ready.2 ⟨hl,o,ho,λe he hb=>by
   have:=List.all_eq_true.1 hr e (by simpa using he);rw [hb] at this;simpa using this⟩
  rw [h] at this;cases this
 ·rfl
theorem zpr {i:Nat}{l:Array Bool}(h:l.getD i true=false):due (l.setIfInBounds i true)+1=due l:=by
 obtain⟨l⟩:=l;unfold due;have hi:i<l.length:=by
  rcases Nat.lt_or_ge i l.length with h'|h'
  ·exact h'
  ·simp [List.getElem?_eq_none h'] at h
 have hv:l[i]=false:=by simpa [hi] using h
 simp only [List.setIfInBounds_toArray];clear h
 induction l generalizing i with
 |nil=>simp at hi
 |cons b t ih=>
   cases i with
   |zero=>
     have hb:b=false:=hv;subst hb;simp
   |succ j=>
     have:=ih (i:=j) (by simpa using hi) (by simpa using hv);simp only [List.set_cons_succ,List.countP_cons];omega
theorem zql {l:Array Bool}(h:due l=0):Region.ready md ops l=[]:=by
 refine List.eq_nil_iff_forall_not_mem.2 λi hi=>?_;have:=zpr (zah hi);omega
theorem zmc {J:Act->Array Bool->Act->World->Prop}{L:Array Bool}{a0:Act}(c:∀l a w,J a0 l a w->Region.ready md ops l=[]->l=L)
  (f:∀l a w i,J a0 l a w->l≠L->i ∈ Region.ready md ops l->wpOp P ops Q i (λa' w'=>S w'/\J a0 (l.setIfInBounds i true) a' w') a w)
  (d:∀a w,J a0 L a w->wpAnyH P md ops Q S (due L) L a w):∀(b:Nat) (l:Array Bool) (a:Act) (w:World),due l=b->J a0 l a w->wpAnyH P md ops Q S b l a w:=by
 intro b
 induction b with
 |zero=>
   intro l a w hd hJ;have e:=c l a w hJ (zql hd);subst e;have:=d a w hJ;rwa [hd] at this
 |succ n ih=>
   intro l a w hd hJ;by_cases hl:l=L
   ·subst hl;have:=d a w hJ;rwa [hd] at this
   ·refine⟨λh=>absurd (c l a w hJ h) hl,λi hi=>?_⟩;exact wpOp_mono (λa' w' ⟨h1,h2⟩=>⟨h1,ih _ a' w' (by have:=zpr (zah hi);omega) h2⟩) (f l a w i hJ hl hi)
end
def Gd (f:Bool)(p:Prop):Prop:=f=true->p
theorem Gd.no {p:Prop}:Gd false p:=λh=>by cases h
theorem Gd.yes {p:Prop}(h:p):Gd true p:=λ_=>h
theorem Gd.get {p:Prop}(h:Gd true p):p:=h rfl
theorem Gd.mono {f:Bool}{p q:Prop}(h:Gd f p)(k:p->q):Gd f q:=λe=>k (h e)
def Made (b:Nat)(w:World)(g:Nat)(t:TypeId)(cs:Array Value)(v:Value):Prop:=v=.pointer (some ⟨g,0,none⟩)/\b<=g/\w.heap[g]?=some (.cells cs t (0,0))
theorem Made.lt {b g:Nat}{w:World}{t:TypeId}{cs:Array Value}{v:Value}(h:Made b w g t cs v):g<w.heap.size:=(Array.getElem?_eq_some_iff.1 h.2.2).1
theorem Made.keep {b g:Nat}{w w':World}{t:TypeId}{cs:Array Value}{v:Value}(h:Made b w g t cs v)(hb:Below w.heap.size w w'):Made b w' g t cs v:=⟨h.1,h.2.1,(hb.block g h.lt).trans h.2.2⟩
theorem Made.new (b:Nat)(w:World)(t:TypeId)(cs:Array Value)(hb:b<=w.heap.size):Made b (w.alloc (.cells cs t)) w.heap.size t cs (.pointer (some ⟨w.heap.size,0,none⟩)):=⟨rfl,hb,heap_alloc_new w _⟩
theorem SzI.add {K K':Nat}{x y:Int}(h:Sz K x.natAbs)(h':Sz K' y.natAbs):Sz (K+K'+1) (x+y).natAbs:=
 Sz.of_le (Sz.add (h.up (by omega:K<=K+K')) (h'.up (by omega:K'<=K+K'))) (Int.natAbs_add_le x y)
theorem SzI.mul {K K':Nat}{x y:Int}(h:Sz K x.natAbs)(h':Sz K' y.natAbs):Sz (K+K') (x*y).natAbs:=by
 rw [Int.natAbs_mul];exact Sz.mul h h'
theorem SzI.neg {K:Nat}{x:Int}(h:Sz K x.natAbs):Sz K (-x).natAbs:=by rw [Int.natAbs_neg];exact h
theorem ziS {w:World}{x:Nat}{A:oA9}{n c:Nat}(h:zal w x A n c)(hx:x=0):n=0:=by rw [h.len,hx];rfl
theorem zli {w:World}{x:Nat}{A:oA9}{n c:Nat}(h:zal w x A n c)(hx:x≠0):0<n:=by
 rw [h.len];exact(zhT (b:=65536) de9 x hx).1
theorem sgn_pos {x:Int}(h:0<x):zeO x=1:=by unfold zeO;rw [if_neg om9,if_neg om9]
theorem sgn_neg {x:Int}(h:x<0):zeO x= -1:=by unfold zeO;rw [if_pos h]
section
variable {P:Program}{f:FuncId}{args:Array Value}{w:World}
theorem icmp_eq {x y:Int}(h:x=y)(hc:Calls P f args w (zcl w (zhy x y))):Calls P f args w (zcl w 0):=by rw [(zim x y).2 h] at hc;exact hc
theorem zhD {z:Int}{b:Bool}(h:decide (z<0)=b)(hc:Calls P f args w λe w'=>e=.returned (.bool (decide (z<0)))/\Below w.heap.size w w'):Calls P f args w λe w'=>e=.returned (.bool b)/\Below w.heap.size w w':=by rw [h] at hc;exact hc
theorem zlm {x v:Int}(h:zeO x=v)(hc:Calls P f args w (zcl w (zeO x))):Calls P f args w (zcl w v):=by rw [h] at hc;exact hc
end
def zpV (I:Nat->World->Prop)(k:Nat)(W:World):Exit->Act->World->Prop:=λe _ W'=>e=.normal/\KeepsOthers W W'/\I k W'
def zit (P:Program)(gf:Nat)(lb:Array Value)(enc:Nat->Array Value)(N:Nat)(I:Nat->World->Prop):Prop:=
 ∀ (l : Nat) (J : Nat → World → Prop) (W : World),(∀ k W,J k W → I k W) →
  (∀k W,k<N->J (k+1) W->YieldAt Fence.wide 1 P l (enc k) W λe W'=>e=.returned (.bool true)/\J k W')->
  J N W->CallsIn Fence.wide 2 P gf (#[.func (.yield l) #[] #[]]++lb) W λe W'=>(∃v,e=.returned v)/\J 0 W'
theorem zeR {w W:World}{I:Nat->World->Prop}{k b:Nat}{o:Obj}(hI:∀k,OwnFrom w.heap.size (fun(_:Unit) W=>I k W))(h:I k W)(hb:w.heap.size<=b)(ho:W.heap[b]?=some o)(hc:o.isCells=false)(o':Obj):I k (W.putObj b o'):=
 (hI k).putObj (s:=()) o' h hb ho hc
theorem zjm {P:Program}{g:Operand}{ps:Array Tmp}{assign body:Code}{Q:Exit->Act->World->Prop}{a:Act}{w:World}{gf:Nat}{lb:Array Value}(hg:a.eval g=.func (.func gf) #[] lb)
  (eg:∀args w,(callFunc gf args).run P w=.ok (.enter gf args) w) (N:Nat) (c:Nat->Array Value) (o:∀k,(c k).size=ps.size) (I:Nat->World->Prop) (hI:∀k,OwnFrom w.heap.size (fun(_:Unit) W=>I k W)) (h0:I N w)
  (i:zit P gf lb c N I) (a1:Nat->Act)
  (b:∀(l k:Nat) (W:World) (K:Act->World->Prop),K (a1 k) W->assign.wpIn (Fence.wide.inRound l) 1 P (Exit.then K (λ_ _ _=>False)) {tmps:=(ps.zip (c k)).foldl (λt (p,v)=>t.setIfInBounds p v) a.tmps,defers:=[]} W)
  (d:∀(l k:Nat) (W:World),k<N->I (k+1) W->body.wpIn (Fence.wide.inRound l) 1 P (zpV I k W) (a1 k) W)
  (f:∀(D:Nat) (W:World),w.heap.size<=D->I 0 W->W.heap[D]?=some (.deferred (some []))->Q .normal {a with defers:={target:=.collected D,args:=#[]}::a.defers} W):
  (Code.rangeFunc g ps assign body).wpIn Fence.wide 3 P Q a w:=by
 refine wpIn_rangeFunc λfn n=>?_;obtain⟨r,hr⟩:∃r:Loop,r={state:=.ready,pending:=none,fn,tmps:=a.tmps,params:=ps,assign,body,defers:=w.heap.size}:=⟨_,rfl⟩;obtain⟨V,hV⟩:∃V,(w.alloc (.deferred (some []))).alloc (.loop r)=V:=⟨_,rfl⟩;have gV:w.grownBy V none:=by rw [<-hV];exact(World.grownBy_alloc w _ none).trans (World.grownBy_alloc _ _ none)
 have rV:V.heap[w.heap.size+1]?=some (.loop r):=by
  have h:=World.alloc_heap_new (w.alloc (.deferred (some []))) (.loop r);rw [World.size_alloc,hV] at h;exact h
 have dV:V.heap[w.heap.size]?=some (.deferred (some [])):=by
  have h:=World.alloc_heap_new w (.deferred (some []));rw [<-hV,Below.heap_alloc _ _ _ si9];exact h
 have iV:I N V:=hI N () w V none h0 gV (λ_ e=>by cases e);refine⟨w.heap.size+1,[{target:=.collected w.heap.size,args:=#[]}],V,{target:=.fn (.func gf) lb,args:=#[.func (.yield (w.heap.size+1)) #[] #[]]},V,gf,#[.func (.yield (w.heap.size+1)) #[] #[]]++lb,V,?_,?_,λ_ _=>trivial,?_,λ_=>by omega,?_⟩
 ·rw [<-hV,hr];exact run_enterLoop_outer _ _ _ _ _
 ·simp only [resolve,hg];simp [go_sem]
 ·simp [invoke,go_sem,eg]
 refine(i (w.heap.size+1) (λk W=>I k W/\W.heap[w.heap.size+1]?=some (.loop r)/\W.heap[w.heap.size]?=some (.deferred (some []))) V (λ_ _ h=>h.1) ?_ ⟨iV,rV,dV⟩).mono ?_
 ·rintro k W hk ⟨iW,rW,dW⟩;have hy:=run_yield (P:=P) (args:=c k) rW (by rw [hr];exact o k);have lt:=(Array.getElem?_eq_some_iff.1 rW).1;obtain⟨rb,m⟩:∃rb:Loop,rb={r with state:=.busy}:=⟨_,rfl⟩;have rX:(W.putObj (w.heap.size+1) (.loop rb)).heap[w.heap.size+1]?=some (.loop rb):=World.putObj_heap_same lt;have dX:(W.putObj (w.heap.size+1) (.loop rb)).heap[w.heap.size]?=some (.deferred (some [])):=(World.putObj_heap_other om9).trans dW;have iX:I (k+1) (W.putObj (w.heap.size+1) (.loop rb)):=zeR hI iW om9 rW rfl _;rw [hr] at hy;refine⟨fn,_,assign,body,hy,roundIn_of_wpIn n (b _ k W _ ⟨_,by have h:=run_beginRound (P:=P) rW (by rw [hr]);rw [<-m] at h;exact h,?_⟩)⟩;refine wpIn_mono (d _ k _ hk iX) ?_;rintro e a3 W3 ⟨rfl,j,i3⟩;have r3:=j.same _ _ rX rfl;have d3:=j.same _ _ dX rfl;have s:=(Array.getElem?_eq_some_iff.1 r3).1;have he:=run_endRound (P:=P) none r3;refine⟨_,_,he,rfl,zeR hI i3 om9 r3 rfl _,?_,(World.putObj_heap_other om9).trans d3⟩;rw [World.putObj_heap_same s,m,hr];rfl
 ·rintro e W2 ⟨⟨v,rfl⟩,i2,r2,d2⟩;have he:=run_endLoop (P:=P) r2 (by rw [hr];simp);rw [show r.pending=none from by rw [hr]] at he;exact⟨none,_,he,f _ _ (Nat.le_refl _) (zeR hI i2 om9 r2 rfl _) ((World.putObj_heap_other om9).trans d2)⟩
attribute [local go_sem] Oper.semAt_some
theorem zfn (Bs len d:Nat)(A:oA9)(v:Nat->Nat)(I:Nat->World->Prop)(hlen:len<=1099511627776)
  (b:∀k W,I k W->W.cell? ⟨Bs,0,none⟩=some (.slice A len d)) (c:∀k W,k<len->I (k+1) W->∃ad,A=some ad/\W.cell? (ad.add k)=some (.int .u64 (v k:Int))):
  zit prog 230 #[.pointer (some ⟨Bs,0,none⟩)] (λk=>#[.int .i64 (k:Int),.int .u64 (v k:Int)]) len I:=by
 intro l J W hJ hY h0;have g:=b _ _ (hJ _ _ h0);have HB:=lh9 (λk W (h:J k W)=>b k W (hJ k W h));have HC:=lh9 (λk W (hk:k<len) (h:J (k+1) W)=>c k W hk (hJ _ _ h));have HY:=lh9 hY;have H0:=lh9 h0;have j:IntKind.i64.wrap ((len:Int) - 1)=(len:Int) - 1:=by rw [IntKind.wrap_i64];omega
 clear hJ hY h0 b c;refine callsIn_of_wp func230 rfl trivial ?_ rfl;simp only [ntmps230,List.size_toArray,List.length_cons,List.length_nil,Nat.reduceAdd,Nat.reduceSub,Array.replicate_succ,Array.replicate_zero,List.push_toArray,List.append_toArray,List.nil_append,List.cons_append]
 gi_wp2
 clear g j
 gi_loopw [3] (λi wr=>∃k:Nat,k<=len/\i=.int .i64 ((k:Int) - 1)/\J k wr) (λi _=>(intOf i+1).toNat)
 case atStart=>exact⟨len,Nat.le_refl _,rfl,H0.out⟩
 case round=>
  obtain⟨k,hk,rfl,a⟩:=hrel;have hb:=HB.out _ _ a;rcases k with _|k
  ·rw [show((0:Nat):Int) - 1= -1 from by decide];clear hb
   gi_wp2
   go_end0
   exact⟨⟨_,rfl⟩,a⟩
  ·obtain⟨ad,rfl,hc⟩:=HC.out k wr hk a;obtain⟨fn,tmps,assign,body,hy,hR⟩:=HY.out k wr hk a;rw [show((k+1:Nat):Int) - 1=(k:Int) from by omega];have i1:(0:Int)<=(k:Int):=om9;have i2:(k:Int)<(len:Int):=om9;have i3:IntKind.i64.wrap ((k:Int) - 1)=(k:Int) - 1:=by rw [IntKind.wrap_i64];omega
   obtain⟨z,hz⟩:∃z,v k=z:=⟨_,rfl⟩
   try dsimp only at hy
   rw [hz] at hc hy;clear hz a
   gi_wp2
   refine hR.mono ?_;rintro e W3 ⟨rfl,f⟩
   gi_wp2
   go_roundw
   case rel=>exact⟨k,om9,rfl,f⟩
   case measure=>simp [intOf]
theorem zev (A:oA9)(len a:Nat)(w:World):
  Calls prog 224 #[.slice A len a] w λe w'=>e=.returned (.func (.func 230) #[] #[.pointer (some ⟨w.heap.size,0,none⟩)])/\w.alloc (.cells #[.slice A len a] 47)=w':=by
 go_enter func224,ntmps224;go_wp2;go_ret;exact⟨rfl,rfl⟩
section
variable {P:Program}{md:Region.Mode}{ops:Array Oper}{Q:Exit->Act->World->Prop}{l n:Nat}
theorem znt {f:FuncId}{args:Array Value}{w:World}{R R':Ending->World->Prop}(h:Calls P f args w R)(hr:∀e w,R e w->R' e w):CallsIn (Fence.wide.inRound l) n P f args w R':=
 CallsIn.inRound l (callsIn_wide.2 (h.mono hr))
theorem zoZ {row:String}{args:Array Value}{w:World}{R R':Value->World->Prop}(h:Rows P row args w R)(hr:∀e w,R e w->R' e w):RowsIn (Fence.wide.inRound l) n P row args w R':=
 λc cs _=>let ⟨v,w',r,s⟩:=h c cs;⟨v,w',hr _ _ r,stepsIn_wide.2 s⟩
theorem round_op {o:Oper}{a:Act}{w:World}{K K':Act->World->Prop}(hd:∀c,o.op≠.defer c)(hK:∀a w,K a w->K' a w)(h:o.wp P a w K Q):o.wpIn (Fence.wide.inRound l) n P a w K' Q:=by
 refine⟨λ_ _=>trivial,?_⟩;rw [Oper.semAt_eq _ _ _ hd];unfold Oper.wp at h;generalize (execOp a.eval o).run P w=r at h⊢;cases r with
 |ok x w'=>
   cases x <;> simp only [Oper.upon,Oper.uponIn] at h ⊢ <;>
    first
     |exact hK _ _ h
     |exact⟨λe=>by simp [Fence.wide] at e,znt h (λe w'' he=>by cases e<;>first|exact hK _ _ he|exact he)⟩
     |exact⟨λe=>by simp [Fence.wide] at e,zoZ h (λ_ _ he=>hK _ _ he)⟩
     |exact h.elim
 |halt x w'=>cases x<;>simp only [Oper.upon,Oper.uponIn] at h⊢<;>exact h
theorem zge (hd:∀(i:Nat) (o:Oper),ops[i]?=some o->∀c,o.op≠.defer c)(hQ:¬ LetsOut Q):∀(b:Nat) (d:Array Bool) (a:Act) (w:World),wpAny P md ops Q b d a w->wpAnyIn (Fence.wide.inRound l) n P md ops Q b d a w
 |0,_,_,_,h=>h
 |b+1,d,a,w,h=>by
   refine⟨h.1,λi hi=>?_⟩;have h2:=h.2 i hi;unfold wpOp at h2;unfold wpOpIn;cases ho:ops[i]? with
   |none=>rw [ho] at h2;exact zge hd hQ b _ _ _ h2
   |some o=>
     rw [ho] at h2;simp only at h2⊢
     split
     ·rename_i hw
      rw [if_pos hw] at h2;rcases h2 with h2|h2
      ·exact round_op (hd i o ho) (zge hd hQ b _) h2
      ·exact absurd h2.2 hQ
     ·rename_i hw
      rw [if_neg hw] at h2;exact⟨λ_ _=>trivial,zge hd hQ b _ _ _ h2⟩
def zpD (ops:Array Oper):Bool:=ops.all λo=>match o.op with|.defer _=>false|_=>true
theorem zlA (h:zpD ops=true)(i:Nat)(o:Oper)(ho:ops[i]?=some o)(c:Call):o.op≠.defer c:=by
 intro e;have h1:=Array.all_eq_true.1 h i (Array.getElem?_eq_some_iff.1 ho).1;rw [(Array.getElem?_eq_some_iff.1 ho).2,e] at h1;cases h1
theorem zhq {id:Nat}{a:Act}{w:World}{S:World->Prop}(hm:P.follows .mixedOrders=true)(hd:zpD ops=true)(hQ:∀a w,¬ Q .outgrown a w)(hS:S w.drew)
  (h:S w.drew->wpAnyH P .any ops Q S ops.size (Array.replicate ops.size false) a w.drew):(Code.region id ops true).wpIn (Fence.wide.inRound l) n P Q a w:=
 wpIn_region_any hm (zge (zlA hd) (fun⟨a,w,h⟩=>hQ a w h) _ _ _ _ (wpAny_of_held _ _ _ _ (h hS)))
end
theorem zbH {B b:Nat}{t:TypeId}{cs:Array Value}{W W':World}{row:Option Nat}(h:Blk W b t cs)(hg:W.grownBy W' row)(hr:∀r,row=some r->B<=r/\∃o:Obj,W.heap[r]?=some o/\o.isCells=false):Blk W' b t cs:=
 h.grown hg (λe=>by
  obtain⟨_,o,ho,hc⟩:=hr b e.symm;rw [show W.heap[b]?=_ from h] at ho;cases ho;cases hc)
theorem zeZ {B B0:Nat}{w W W':World}{row:Option Nat}(h:Below B0 w W)(h0:B0<=w.heap.size)(hB:B0<=B)(hg:W.grownBy W' row)(hr:∀r,row=some r->B<=r/\∃o:Obj,W.heap[r]?=some o/\o.isCells=false):Below B0 w W':=
 h.grown hg (Nat.le_trans h0 h.size) (λr e=>Nat.le_trans hB (hr r e).1)
