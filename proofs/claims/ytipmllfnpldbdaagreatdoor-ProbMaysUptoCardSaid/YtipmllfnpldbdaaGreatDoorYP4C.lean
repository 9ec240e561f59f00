/- What this claim leans on. -/
import Derived.Test.YtipmllfnpldbdaaGreatDoorYBun7
import Derived.Deep.Slices
import Derived.Laws.Concat
set_option linter.unusedVariables false
set_option linter.unusedSimpArgs false
namespace Go.Proofs.YtipmllfnpldbdaaGreatDoor
open Go Go.RowKit Go.Proofs.Tryz
set_option maxHeartbeats 16000000
variable {a:Act}{args:Array Value}{B b:Nat}{W W' w:World}
def uw (w:World)(q r:Nat)(b:Bool)(e:Ending)(w':World):Prop:=∃(A:zf) (n c:Nat) (B:zf) (m d:Nat),e=.returned (.tuple #[.agg #[.slice A n c],.agg #[.slice B m d],.bool b])/\zp w' q A n c/\zp w' r B m d/\Below w.heap.size w w'
def nP (w:World)(x:Nat)(b:Bool)(e:Ending)(w':World):Prop:=∃(A:zf) (n c:Nat),e=.returned (.tuple #[.agg #[.slice A n c],.bool b])/\zp w' x A n c/\Below w.heap.size w w'
def kh (w:World)(q x:Nat)(b:Bool)(e:Ending)(w':World):Prop:=∃(A:zf) (n c:Nat),e=.returned (.tuple #[.agg #[.slice A n c],.int .u64 (x:Int),.bool b])/\zp w' q A n c/\Below w.heap.size w w'
structure lc:Prop where
 divMod:∀(x y:Nat) (A D:zf) (n m c d:Nat) (w:World),zp w x A n c->zp w y D m d->n<=1073741824->m<=1073741824->y≠0->Calls prog 130 #[.agg #[.slice A n c],.agg #[.slice D m d]] w (uw w (x / y) (x%y) true)
 divModNo:∀(x y:Nat) (A D:zf) (n m c d:Nat) (w:World),zp w x A n c->zp w y D m d->n<=1073741824->m<=1073741824->y=0->Calls prog 130 #[.agg #[.slice A n c],.agg #[.slice D m d]] w (uw w 0 0 false)
 div:∀(x y:Nat) (A D:zf) (n m c d:Nat) (w:World),zp w x A n c->zp w y D m d->n<=1073741824->m<=1073741824->y≠0->Calls prog 115 #[.agg #[.slice A n c],.agg #[.slice D m d]] w (nP w (x / y) true)
 mod:∀(x y:Nat) (A D:zf) (n m c d:Nat) (w:World),zp w x A n c->zp w y D m d->n<=1073741824->m<=1073741824->y≠0->Calls prog 136 #[.agg #[.slice A n c],.agg #[.slice D m d]] w (nP w (x%y) true)
 byWord:∀(x a:Nat) (A:zf) (n c:Nat) (w:World),zp w x A n c->n<=1073741824->a<18446744073709551616->a≠0->Calls prog 140 #[.agg #[.slice A n c],.int .u64 a] w (kh w (x / a) (x%a) true)
 byWordNo:∀(x:Nat) (A:zf) (n c:Nat) (w:World),zp w x A n c->n<=1073741824->Calls prog 140 #[.agg #[.slice A n c],.int .u64 0] w (kh w 0 0 false)
set_option maxRecDepth 100000
theorem cH (f:Rat->Rat->Rat)(F:FuncId)(H:Array Value)(xs ys:List Rat)(A B:zf)(n c d:Nat)(w:World)(ha:zF w A n c xs)(hb:zF w B n d ys)(hn:n<=1073741824)
  (hEn:∀(args:Array Value) (w':World),Sem.run prog (callFunc F args) w'=.ok (.enter F args) w')
  (hF : ∀ i,i < n → ∀ w',Below w.heap.size w w' → ∀ (b b' : Bool) (A A' : zf) (n n' c c' : Nat) (E E' : zf) (k k' f9 I : Nat),zu w' (xs.getD i 0) b A n c E k f9 → zu w' (ys.getD i 0) b' A' n' c' E' k' I →
    Calls prog F (#[.agg #[.bool b,.slice A n c,.slice E k f9],.agg #[.bool b',.slice A' n' c',.slice E' k' I]]++H) w' (ye w' (f (xs.getD i 0) (ys.getD i 0)))):
  Calls prog 62 #[.slice A n c,.slice B n d,.func (.func F) #[] H] w (nQ w n (List.zipWith f xs ys)):=by
 have O:=ha.len;have P:=hb.len;have x:(List.zipWith f xs ys).length=n:=aS O P;unfold nQ;have u:∀i,i<n->(List.zipWith f xs ys)[i]?=some (f (xs.getD i 0) (ys.getD i 0)):=λi hi=>by
  rw [List.getElem?_zipWith,qQ,qQ,qZ za,qZ za];rfl
 obtain⟨zs,S⟩:∃zs,List.zipWith f xs ys=zs:=⟨_,rfl⟩;rw [S] at u x⊢;have HG:=zd u;have G:=zd x;have HF:=zd hF;have HA:=zd ha;have U:=zd hb;obtain⟨Z,hZ⟩:=oG n za;have ac:=λW=>(hZ W).1;have m:=zd (λW=>(hZ W).2);clear hF ha hb O P x S u hZ;have hd0:((n:Int) !=(n:Int))=false:=zD;have i0:(0:Int)<=(n:Int):=za;go_enter func62,ntmps62;go_wp2_with fail;clear ac;have a:=m.o w;have hB:Below w.heap.size w (w.alloc (.cells Z 60)):=(qY _ w).alloc (qX _) _;obtain⟨gp,v⟩:∃g,w.heap.size=g:=⟨_,rfl⟩;have R:w.heap.size<=gp:=za;have hz:gp+1<=(w.alloc (.cells Z 60)).heap.size:=by simp [v]
 rw [v] at a⊢;rw [<-pU 0 zs n] at a;generalize w.alloc (.cells Z 60)=W1 at*;clear v m
 go_loopg [21] (n+1) (λg ix wr=>∃(k:Nat),k<=n/\n<g+k/\ix=.int .i64 k/\yk wr gp n (wD 0 zs n k)/\Below w.heap.size w wr)
 case atStart=>exact⟨0,xQ _,za,rfl,a,hB⟩
 case round=>
  clear a hB hz;obtain⟨k,hkn,hg,rfl,a,hB⟩:=hrel;by_cases hlt:k<n
  ·obtain⟨ad,b1,B1,m1,d1,E1,u1,v1,rfl,-,X,Y,aa,hx⟩:=HA.o.get hB hlt;obtain⟨ae,b2,B2,m2,d2,E2,u2,v2,rfl,hae,L,M,N,hy⟩:=U.o.get hB hlt;have ab:decide ((k:Int)<(n:Int))=true:=by simp;omega
   have i1:(0:Int)<=(k:Int):=za;have i2:(k:Int)<(n:Int):=za;have hgr:=a.lt;obtain⟨st,d3,d4⟩:=zG wr 60 #[.bool b1,.slice B1 m1 d1,.slice E1 u1 v1];have D:=zd d3;have HX:=zd (hx.below st);have HY:=zd (hy.below st);have t:=zd (a.keep st);have j:=zd (ze hB st);have HE:=zd (And.intro (zq st L) (And.intro (zq st M) (zq st N)));clear hx hy a hB st d3 d4 L M N;go_wp2_with fail;clear X Y aa;generalize wr.alloc (.cells #[.bool b1,.slice B1 m1 d1,.slice E1 u1 v1] 60)=W2 at*;generalize wr.heap.size=gb at*;obtain⟨p0,p1,p2⟩:=D.o.c3;obtain⟨e0,e1,e2⟩:=HE.o;have h:=(qY W2.heap.size W2).drew;have y:=pq (k:=k*3) (show ae.block≠gp by omega);refine rg (zk p0 (zk p1 (zk p2 (zk e0 (zk e1 (zk e2 zQ)))))) (λhHeld=>?_);refine tk 0 ?_;refine tk 1 ?_;refine tk 2 ?_;refine tk 3 ?_;refine tk 4 ?_;refine tk 5 ?_;refine tk 6 ?_;refine tk 7 ?_;refine rc 8 (λK hK=>?_);go_simp;refine(HF.o k hlt _ (ze j.o h) _ _ _ _ _ _ _ _ _ _ _ _ _ _ (HX.o.below h) (HY.o.below h)).mono ?_;rintro e w3 ⟨b3,A3,n3,c3,E3,k3,f3,rfl,Q,hb⟩;have h:=ze h hb;refine hK.out _ _ (Cs.below hHeld hb) (λhHeld=>?_);clear hK K hb;refine tk 9 ?_;have z:=t.o.keep h;obtain⟨q0,q1,q2,af,ai,ag,aj,ah,ak⟩:=z.ready hlt (.bool b3) (.slice A3 n3 c3);refine rc 10 (λK hK=>?_);go_simp;have C:=yF.set_ y6 z hlt Q;rw [pW 0 zs n k G.o hlt _ (HG.o k hlt)] at C;have J:=pS (k*3) (k*3+1) (k*3+2) (.bool b3) (.slice A3 n3 c3) (.slice E3 k3 f3) R (ze j.o h);refine hK.out _ _ (Cs.far hHeld (kB _ _ _ _ _ _ _ _) (by refine⟨?_,?_,?_,y,y,y,trivial⟩<;>(show gb≠gp;omega))) (λhHeld=>?_);clear hK K;refine z8 ?_;have V:=zd C;have T:=zd J;clear C J z hHeld h Q af ai ag aj ah ak p0 p1 p2 e0 e1 e2 D HX HY t j HE;go_wp2;go_roundg (n - k)
   case measure=>omega
   case rel=>exact⟨k+1,za,za,by go_num,V.o,T.o⟩
  ·have hk:k=n:=za;subst hk;have ab:decide ((k:Int)<(k:Int))=false:=zD;have HR:=zd (pV 0 zs k G.o▸a);have j:=zd hB;clear a hB;go_wp2
   go_ret2
   exact⟨gp,rfl,R,HR.o,j.o⟩
def sY (w:World)(x:Nat)(e:Ending)(w':World):Prop:=∃(A:zf) (n c:Nat),e=.returned (.agg #[.slice A n c])/\zp w' x A n c/\Below w.heap.size w w'
def gD (w:World)(x y:Nat)(e:Ending)(w':World):Prop:=∃(A:zf) (n c:Nat) (B:zf) (m d:Nat),e=.returned (.tuple #[.agg #[.slice A n c],.agg #[.slice B m d]])/\zp w' x A n c/\zp w' y B m d/\Below w.heap.size w w'
theorem Sz.gcd {K K' x y:Nat}(h:Sz K x)(h':Sz K' y):Sz (K+K') (Nat.gcd x y):=by
 rcases QS x with e|e
 ·rw [e,XN];exact h'.up za
 ·exact(h.of_le (Nat.gcd_le_left y e)).up za
structure jE:Prop where
 of:∀(x y:Nat) (A D:zf) (n m c d:Nat) (w:World),zp w x A n c->zp w y D m d->n<=1073741824->m<=1073741824->zv w->Calls prog 114 #[.agg #[.slice A n c],.agg #[.slice D m d]] w (sY w (Nat.gcd x y))
 reduce:∀(x y:Nat) (A D:zf) (n m c d:Nat) (w:World),zp w x A n c->zp w y D m d->n<=1073741824->m<=1073741824->zv w->Calls prog 94 #[.agg #[.slice A n c],.agg #[.slice D m d]] w (gD w (x / Nat.gcd x y) (y / Nat.gcd x y))
def Vi (I:Nat->World->Prop)(k:Nat)(W:World):Exit->Act->World->Prop:=λe _ W'=>e=.normal/\KeepsOthers W W'/\I k W'
def eP (P:Program)(gf:Nat)(lb:Array Value)(enc:Nat->Array Value)(N:Nat)(I:Nat->World->Prop):Prop:=
 ∀ (l : Nat) (J : Nat → World → Prop) (W : World),(∀ k W,J k W → I k W) →
  (∀k W,k<N->J (k+1) W->YieldAt Fence.wide 1 P l (enc k) W λe W'=>e=.returned (.bool true)/\J k W')->
  J N W->CallsIn Fence.wide 2 P gf (#[.func (.yield l) #[] #[]]++lb) W λe W'=>(∃v,e=.returned v)/\J 0 W'
theorem mJ {I:Nat->World->Prop}{k:Nat}{o:Obj}(hI:∀k,OwnFrom w.heap.size (fun(_:Unit) W=>I k W))(h:I k W)(hb:w.heap.size<=b)(ho:W.heap[b]?=some o)(hc:o.isCells=false)(o':Obj):I k (W.putObj b o'):=
 (hI k).putObj (s:=()) o' h hb ho hc
theorem eJ {P:Program}{g:Operand}{ps:Array Tmp}{assign body:Code}{Q:Exit->Act->World->Prop}{gf:Nat}{lb:Array Value}(hg:a.eval g=.func (.func gf) #[] lb)
  (eg:∀args w,(callFunc gf args).run P w=.ok (.enter gf args) w) (N:Nat) (i:Nat->Array Value) (A:∀k,(i k).size=ps.size) (I:Nat->World->Prop) (hI:∀k,OwnFrom w.heap.size (fun(_:Unit) W=>I k W)) (h0:I N w)
  (u:eP P gf lb i N I) (a1:Nat->Act)
  (d:∀(l k:Nat) (W:World) (K:Act->World->Prop),K (a1 k) W->assign.wpIn (Fence.wide.inRound l) 1 P (Exit.then K (λ_ _ _=>False)) {tmps:=(ps.zip (i k)).foldl (λt (p,v)=>t.setIfInBounds p v) a.tmps,defers:=[]} W)
  (j:∀(l k:Nat) (W:World),k<N->I (k+1) W->body.wpIn (Fence.wide.inRound l) 1 P (Vi I k W) (a1 k) W)
  (m:∀(D:Nat) (W:World),w.heap.size<=D->I 0 W->W.heap[D]?=some (.deferred (some []))->Q .normal {a with defers:={target:=.collected D,args:=#[]}::a.defers} W):
  (Code.rangeFunc g ps assign body).wpIn Fence.wide 3 P Q a w:=by
 refine wpIn_rangeFunc λfn z=>?_;obtain⟨r,hr⟩:∃r:Loop,r={state:=.ready,pending:=none,fn,tmps:=a.tmps,params:=ps,assign,body,defers:=w.heap.size}:=⟨_,rfl⟩;obtain⟨V,hV⟩:∃V,(w.alloc (.deferred (some []))).alloc (.loop r)=V:=⟨_,rfl⟩;have gV:w.grownBy V none:=by rw [<-hV];exact(yI w _ none).trans (yI _ _ none)
 have rV:V.heap[w.heap.size+1]?=some (.loop r):=by
  have h:=World.alloc_heap_new (w.alloc (.deferred (some []))) (.loop r);rw [yK,hV] at h;exact h
 have dV:V.heap[w.heap.size]?=some (.deferred (some [])):=by
  have h:=World.alloc_heap_new w (.deferred (some []));rw [<-hV,Below.heap_alloc _ _ _ zD];exact h
 have iV:I N V:=hI N () w V none h0 gV (λ_ e=>by cases e);refine⟨w.heap.size+1,[{target:=.collected w.heap.size,args:=#[]}],V,{target:=.fn (.func gf) lb,args:=#[.func (.yield (w.heap.size+1)) #[] #[]]},V,gf,#[.func (.yield (w.heap.size+1)) #[] #[]]++lb,V,?_,?_,λ_ _=>trivial,?_,λ_=>by omega,?_⟩
 ·rw [<-hV,hr];exact run_enterLoop_outer _ _ _ _ _
 ·simp only [resolve,hg];simp [go_sem]
 ·simp [invoke,go_sem,eg]
 refine(u (w.heap.size+1) (λk W=>I k W/\W.heap[w.heap.size+1]?=some (.loop r)/\W.heap[w.heap.size]?=some (.deferred (some []))) V (λ_ _ h=>h.1) ?_ ⟨iV,rV,dV⟩).mono ?_
 ·rintro k W hk ⟨iW,rW,dW⟩;have hy:=run_yield (P:=P) (args:=i k) rW (by rw [hr];exact A k);have lt:=(Array.getElem?_eq_some_iff.1 rW).1;obtain⟨rb,y⟩:∃rb:Loop,rb={r with state:=.busy}:=⟨_,rfl⟩;have rX:(W.putObj (w.heap.size+1) (.loop rb)).heap[w.heap.size+1]?=some (.loop rb):=World.putObj_heap_same lt;have dX:(W.putObj (w.heap.size+1) (.loop rb)).heap[w.heap.size]?=some (.deferred (some [])):=(World.putObj_heap_other za).trans dW;have iX:I (k+1) (W.putObj (w.heap.size+1) (.loop rb)):=mJ hI iW za rW rfl _;rw [hr] at hy;refine⟨fn,_,assign,body,hy,roundIn_of_wpIn z (d _ k W _ ⟨_,by have h:=run_beginRound (P:=P) rW (by rw [hr]);rw [<-y] at h;exact h,?_⟩)⟩;refine wpIn_mono (j _ k _ hk iX) ?_;rintro e a3 W3 ⟨rfl,x,i3⟩;have r3:=x.same _ _ rX rfl;have d3:=x.same _ _ dX rfl;have B:=(Array.getElem?_eq_some_iff.1 r3).1;have he:=run_endRound (P:=P) none r3;refine⟨_,_,he,rfl,mJ hI i3 za r3 rfl _,?_,(World.putObj_heap_other za).trans d3⟩;rw [World.putObj_heap_same B,y,hr];rfl
 ·rintro e W2 ⟨⟨v,rfl⟩,i2,r2,d2⟩;have he:=run_endLoop (P:=P) r2 (by rw [hr];simp);rw [show r.pending=none from by rw [hr]] at he;exact⟨none,_,he,m _ _ (qX _) (mJ hI i2 za r2 rfl _) ((World.putObj_heap_other za).trans d2)⟩
attribute [local go_sem] Oper.semAt_some
theorem fD (Bs len j:Nat)(A:zf)(v:Nat->Nat)(I:Nat->World->Prop)(hlen:len<=1099511627776)
  (d:∀k W,I k W->W.cell? ⟨Bs,0,none⟩=some (.slice A len j)) (g:∀k W,k<len->I (k+1) W->∃ad,A=some ad/\W.cell? (ad.add k)=some (.int .u64 (v k:Int))):
  eP prog 155 #[.pointer (some ⟨Bs,0,none⟩)] (λk=>#[.int .i64 (k:Int),.int .u64 (v k:Int)]) len I:=by
 intro l J W hJ hY h0;have t:=d _ _ (hJ _ _ h0);have HB:=zd (λk W (h:J k W)=>d k W (hJ k W h));have HC:=zd (λk W (hk:k<len) (h:J (k+1) W)=>g k W hk (hJ _ _ h));have HY:=zd hY;have H0:=zd h0;have u:IntKind.i64.wrap ((len:Int) - 1)=(len:Int) - 1:=by rw [IntKind.wrap_i64];omega
 clear hJ hY h0 d g;refine callsIn_of_wp func155 rfl trivial ?_ rfl;simp only [ntmps155,xH,xY,YZ,Nat.reduceAdd,Nat.reduceSub,yM,yN,List.push_toArray,yW,XR,yZ]
 gi_wp2
 clear t u
 gi_loopw [3] (λi wr=>∃k:Nat,k<=len/\i=.int .i64 ((k:Int) - 1)/\J k wr) (λi _=>(intOf i+1).toNat)
 case atStart=>exact⟨len,qX _,rfl,H0.o⟩
 case round=>
  obtain⟨k,hk,rfl,a⟩:=hrel;have hb:=HB.out _ _ a;rcases k with _|k
  ·rw [show((0:Nat):Int) - 1= -1 from by decide];clear hb
   gi_wp2
   go_end0
   exact⟨⟨_,rfl⟩,a⟩
  ·obtain⟨ad,rfl,hc⟩:=HC.o k wr hk a;obtain⟨fn,tmps,assign,body,hy,hR⟩:=HY.o k wr hk a;rw [show((k+1:Nat):Int) - 1=(k:Int) from by omega];have i1:(0:Int)<=(k:Int):=za;have i2:(k:Int)<(len:Int):=za;have i3:IntKind.i64.wrap ((k:Int) - 1)=(k:Int) - 1:=by rw [IntKind.wrap_i64];omega
   obtain⟨z,hz⟩:∃z,v k=z:=⟨_,rfl⟩
   try dsimp only at hy
   rw [hz] at hc hy;clear hz a
   gi_wp2
   refine hR.mono ?_;rintro e W3 ⟨rfl,m⟩
   gi_wp2
   go_roundw
   case rel=>exact⟨k,za,rfl,m⟩
   case measure=>simp [intOf]
theorem ii (A:zf)(len a:Nat)(w:World):
  Calls prog 149 #[.slice A len a] w λe w'=>e=.returned (.func (.func 155) #[] #[.pointer (some ⟨w.heap.size,0,none⟩)])/\w.alloc (.cells #[.slice A len a] 54)=w':=by
 go_enter func149,ntmps149;go_wp2;go_ret;exact⟨rfl,rfl⟩
section
variable {P:Program}{md:Region.Mode}{ops:Array Oper}{Q:Exit->Act->World->Prop}{l n:Nat}
theorem Wf {f:FuncId}{R R':Ending->World->Prop}(h:Calls P f args w R)(hr:∀e w,R e w->R' e w):CallsIn (Fence.wide.inRound l) n P f args w R':=
 CallsIn.inRound l (callsIn_wide.2 (h.mono hr))
theorem Wy {row:String}{R R':Value->World->Prop}(h:Rows P row args w R)(hr:∀e w,R e w->R' e w):RowsIn (Fence.wide.inRound l) n P row args w R':=
 λc cs _=>let ⟨v,w',r,s⟩:=h c cs;⟨v,w',hr _ _ r,stepsIn_wide.2 s⟩
theorem sB {o:Oper}{K K':Act->World->Prop}(hd:∀c,o.op≠.defer c)(hK:∀a w,K a w->K' a w)(h:o.wp P a w K Q):o.wpIn (Fence.wide.inRound l) n P a w K' Q:=by
 refine⟨λ_ _=>trivial,?_⟩;rw [Oper.semAt_eq _ _ _ hd];unfold Oper.wp at h;generalize (execOp a.eval o).run P w=r at h⊢;cases r with
 |ok x w'=>
   cases x <;> simp only [Oper.upon,Oper.uponIn] at h ⊢ <;>
    first
     |exact hK _ _ h
     |exact⟨λe=>by simp [Fence.wide] at e,Wf h (λe w'' he=>by cases e<;>first|exact hK _ _ he|exact he)⟩
     |exact⟨λe=>by simp [Fence.wide] at e,Wy h (λ_ _ he=>hK _ _ he)⟩
     |exact h.elim
 |halt x w'=>cases x<;>simp only [Oper.upon,Oper.uponIn] at h⊢<;>exact h
theorem kY (hd:∀(i:Nat) (o:Oper),ops[i]?=some o->∀c,o.op≠.defer c)(hQ:¬ LetsOut Q):∀(d:Nat) (g:Array Bool) (a:Act) (w:World),wpAny P md ops Q d g a w->wpAnyIn (Fence.wide.inRound l) n P md ops Q d g a w
 |0,_,_,_,h=>h
 |d+1,g,a,w,h=>by
   refine⟨h.1,λi hi=>?_⟩;have h2:=h.2 i hi;unfold wpOp at h2;unfold wpOpIn;cases ho:ops[i]? with
   |none=>rw [ho] at h2;exact kY hd hQ d _ _ _ h2
   |some o=>
     rw [ho] at h2;simp only at h2⊢
     split
     ·rename_i hw
      rw [if_pos hw] at h2;rcases h2 with h2|h2
      ·exact sB (hd i o ho) (kY hd hQ d _) h2
      ·exact absurd h2.2 hQ
     ·rename_i hw
      rw [if_neg hw] at h2;exact⟨λ_ _=>trivial,kY hd hQ d _ _ _ h2⟩
def Zl (ops:Array Oper):Bool:=ops.all λo=>match o.op with|.defer _=>false|_=>true
theorem Z3 (h:Zl ops=true)(i:Nat)(o:Oper)(ho:ops[i]?=some o)(c:Call):o.op≠.defer c:=by
 intro e;have h1:=Array.all_eq_true.1 h i (Array.getElem?_eq_some_iff.1 ho).1;rw [(Array.getElem?_eq_some_iff.1 ho).2,e] at h1;cases h1
theorem fO {id:Nat}{S:World->Prop}(hm:P.follows .mixedOrders=true)(hd:Zl ops=true)(hQ:∀a w,¬ Q .outgrown a w)(hS:S w.drew)
  (h:S w.drew->wpAnyH P .any ops Q S ops.size (Array.replicate ops.size false) a w.drew):(Code.region id ops true).wpIn (Fence.wide.inRound l) n P Q a w:=
 wpIn_region_any hm (kY (Z3 hd) (fun⟨a,w,h⟩=>hQ a w h) _ _ _ _ (wpAny_of_held _ _ _ _ (h hS)))
end
theorem wY {t:TypeId}{cs:Array Value}{row:Option Nat}(h:zi W b t cs)(hg:W.grownBy W' row)(hr:∀r,row=some r->B<=r/\∃o:Obj,W.heap[r]?=some o/\o.isCells=false):zi W' b t cs:=
 h.grown hg (λe=>by
  obtain⟨_,o,ho,hc⟩:=hr b e.symm;rw [show W.heap[b]?=_ from h] at ho;cases ho;cases hc)
theorem kM {B0:Nat}{row:Option Nat}(h:Below B0 w W)(h0:B0<=w.heap.size)(hB:B0<=B)(hg:W.grownBy W' row)(hr:∀r,row=some r->B<=r/\∃o:Obj,W.heap[r]?=some o/\o.isCells=false):Below B0 w W':=
 h.grown hg (qC h0 h.size) (λr e=>qC hB (hr r e).1)
theorem xz {T:World->Prop}:oQ T where
 new s x A n c w _ hA hn:=Yz s x A n c w hA za
 of z w _ h1 h2:=WQ z w h1 h2
 belowI z b A n c w _ hA hn:=ZS z b A n c w hA
 abs z b A n c w _ hA hn:=(Yv z b A n c w hA za).mono λ_ _ ⟨A',n',c',he,hw,hb,_⟩=>⟨A',n',c',he,hw,hb⟩
 sign z b A n c w _ hA hn:=Z0 z b A n c w hA
 cmp x y b b' A D n m c d w _ hA hD hn hm:=Yx x y b b' A D n m c d w hA hD za za
 add x y b b' A D n m c d w _ hA hD hn hm:=Yw x y b b' A D n m c d w hA hD za za
 mul x y b b' A D n m c d w _ hA hD hn hm:=Yy x y b b' A D n m c d w hA hD za za
