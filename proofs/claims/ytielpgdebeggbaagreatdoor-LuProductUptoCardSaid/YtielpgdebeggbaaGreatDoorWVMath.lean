/- What this claim leans on. -/
import Derived.Test.YtielpgdebeggbaaGreatDoorWP8C
set_option linter.unusedVariables false
set_option linter.unusedSimpArgs false
namespace Go.Proofs.YtielpgdebeggbaaGreatDoor
open Go Go.RowKit Go.Proofs.Tryz
set_option maxHeartbeats 16000000
variable {a:Act}{p:Int}{xs ys:List Rat}{B K K' L b k n:Nat}{x y:Rat}{W W' w:World}
def so (p q:Int):Rat:=Rat.divInt p (if q=0 then 1 else q)
theorem pp (p:Int):so p 0=(p:Rat):=by
 unfold so;rw [if_pos rfl];exact Rat.ext (by rw [Rat.num_divInt,yW];simp) (by rw [Rat.den_divInt,YQ];simp)
theorem kG {q:Int}(h:q≠0):so p q=Rat.divInt p q:=by unfold so;rw [if_neg h]
theorem dE {z:Int}(h1: -9223372036854775808<=z)(h2:z<=9223372036854775807):Sz 1 z.natAbs:=by
 show z.natAbs<18446744073709551616^1;rw [Nat.pow_one];omega
theorem po {q:Int}(a: -9223372036854775808<=p)(c:p<=9223372036854775807)(d: -9223372036854775808<=q)(g:q<=9223372036854775807):zn 1 (so p q):=by
 unfold so;refine zn.made (dE a c) ?_ zf
 split
 ·exact dE zf zf
 ·exact dE d g
def um (rs:List Rat):Rat:=rs.foldl (λa b=>a+b) 0
theorem RZ (rs:List Rat)(a:Rat):rs.foldl (λa b=>a+b) a=a+um rs:=by
 unfold um
 induction rs generalizing a with
 |nil=>exact(xK a).symm
 |cons r t ih=>
   rw [List.foldl_cons,List.foldl_cons,ih (a+r),ih (0+r),yD,Rat.add_assoc]
theorem Vg:um []=0:=rfl
theorem eI (r:Rat)(rs:List Rat):um (r::rs)=r+um rs:=by
 show(r::rs).foldl (λa b=>a+b) 0=_;rw [List.foldl_cons,RZ,yD]
def wP (xs ys:List Rat):Rat:=um (List.zipWith (λa b=>a*b) xs ys)
theorem Wk (x:Rat)(xs:List Rat)(y:Rat)(ys:List Rat):wP (x::xs) (y::ys)=x*y+wP xs ys:=by
 show um (List.zipWith _ (x::xs) (y::ys))=_;rw [List.zipWith_cons_cons,eI];rfl
def cR (xs ys:List Rat):List Rat:=List.zipWith (λa b=>a+b) xs ys
def bB (xs ys:List Rat):List Rat:=List.zipWith (λa b=>a - b) xs ys
def iY (xs ys:List Rat):List Rat:=List.zipWith (λa b=>a*b) xs ys
def vZ (xs:List Rat)(r:Rat)(ys:List Rat):List Rat:=List.zipWith (λa b=>a+r*b) xs ys
def zT (r:Rat)(xs:List Rat):List Rat:=xs.map λx=>r*x
theorem UC {f:Rat->Rat->Rat}(h:xs.length=n)(k:ys.length=n):(List.zipWith f xs ys).length=n:=by rw [jX,h,k,Nat.min_self]
def vS:List Rat->List Rat->Int
 |[],[]=>0
 |[],_::_=> -1
 |_::_,[]=>1
 |x::xs,y::ys=>if x=y then vS xs ys else uO x y
theorem nj (h:x≠y):uO x y≠0:=λe=>h ((ni x y).1 e)
theorem Zy:∀(xs ys:List Rat),vS xs ys=0↔xs=ys
 |[],[]=>by simp [vS]
 |[],_::_=>by simp [vS]
 |_::_,[]=>by simp [vS]
 |x::xs,y::ys=>by
   unfold vS;by_cases h:x=y
   ·rw [if_pos h,Zy xs ys,h];simp
   ·rw [if_neg h];constructor
    ·intro e;exact absurd e (nj h)
    ·intro e;injection e with e1 e2;exact absurd e1 h
theorem RJ (h:x=y):vS (x::xs) (y::ys)=vS xs ys:=by
 show(if x=y then vS xs ys else uO x y)=_;exact if_pos h
theorem Ss (h:x≠y):vS (x::xs) (y::ys)=uO x y:=by
 show(if x=y then vS xs ys else uO x y)=_;exact if_neg h
theorem ib {xs:List Rat}(h:k<xs.length):xs.drop k=xs.getD k 0::xs.drop (k+1):=by
 rw [yO h,qQ,qY h];rfl
theorem Tj (hx:k<xs.length)(hy:k<ys.length)(h:xs.getD k 0=ys.getD k 0):vS (xs.drop k) (ys.drop k)=vS (xs.drop (k+1)) (ys.drop (k+1)):=by
 rw [ib hx,ib hy,RJ h]
theorem Tc (hx:k<xs.length)(hy:k<ys.length)(h:xs.getD k 0≠ys.getD k 0):vS (xs.drop k) (ys.drop k)=uO (xs.getD k 0) (ys.getD k 0):=by
 rw [ib hx,ib hy,Ss h]
def rE (a b:Nat):Int:=if a<b then -1 else if a=b then 0 else 1
theorem rF (hk:k=min xs.length ys.length):vS (xs.drop k) (ys.drop k)=rE xs.length ys.length:=by
 unfold rE;by_cases h1:xs.length<ys.length
 ·rw [if_pos h1,xC zb,ib (xs:=ys) zb];rfl
 ·rw [if_neg h1];by_cases h2:xs.length=ys.length
  ·rw [if_pos h2,xC zb,xC zb];rfl
  ·rw [if_neg h2,xC (l:=ys) zb,ib (xs:=xs) zb];rfl
def zE (K:Nat)(xs:List Rat):Prop:=∀x ∈ xs,zn K x
theorem zE.at_ (h:zE K xs){k:Nat}(hk:k<xs.length):zn K (xs.getD k 0):=by
 rw [qQ,qY hk];exact h _ (xH hk)
theorem zE.up (h:zE K xs)(e:K<=K'):zE K' xs:=λx hx=>(h x hx).up e
theorem zE.zip {K K' L:Nat}{f:Rat->Rat->Rat}(hf:∀x y,zn K x->zn K' y->zn L (f x y)):∀{xs ys:List Rat},zE K xs->zE K' ys->zE L (List.zipWith f xs ys)
 |[],_,_,_=>λx hx=>by cases hx
 |_::_,[],_,_=>λx hx=>by cases hx
 |x::xs,y::ys,h,k=>λz hz=>by
   rw [List.zipWith_cons_cons] at hz;rcases List.mem_cons.1 hz with rfl|hz
   ·exact hf x y (h x xW) (k y xW)
   ·exact zE.zip hf (λa ha=>h a (XB _ ha)) (λa ha=>k a (XB _ ha)) z hz
theorem zE.add (h:zE K xs)(k:zE K' ys):zE (K+K'+1) (cR xs ys):=zE.zip (λ_ _=>zn.add) h k
theorem zE.sub (h:zE K xs)(k:zE K' ys):zE (K+K'+1) (bB xs ys):=zE.zip (λ_ _=>zn.sub) h k
theorem zE.mul (h:zE K xs)(k:zE K' ys):zE (K+K') (iY xs ys):=zE.zip (λ_ _=>zn.mul) h k
theorem zE.addT {r:Rat}(h:zE K xs)(hr:zn L r)(k:zE K' ys):zE (K+(L+K')+1) (vZ xs r ys):=zE.zip (λ_ _ a b=>a.add (hr.mul b)) h k
theorem zE.scale {r:Rat}(hr:zn L r)(h:zE K xs):zE (L+K) (zT r xs):=λx hx=>by
 obtain⟨y,hy,rfl⟩:=List.mem_map.1 hx;exact hr.mul (h y hy)
theorem Z0 {K:Nat}:∀{xs:List Rat},zE K xs->zn (1+xs.length*(K+1)) (um xs)
 |[],_=>by rw [YM,Nat.zero_mul];exact zn.zero
 |x::xs,h=>by
   rw [eI];exact((h x xW).add (Z0 λa ha=>h a (XB _ ha))).up (by rw [xJ,Nat.succ_mul];omega)
theorem mI (h:zE K xs)(hl:xs.length=n)(k:Nat)(hk:k<=n):zn (1+n*(K+1)) (um (xs.take k)):=by
 have h1:=Z0 (xs:=xs.take k) (K:=K) (λa ha=>h a (xT ha));refine h1.up ?_;rw [qA];have:min k xs.length*(K+1)<=n*(K+1):=qS _ zb;omega
theorem rM {n:Nat}(hx:xs.length=n)(hy:ys.length=n)(h:zE K xs)(k:zE K' ys):zn (1+n*(K+K'+1)) (wP xs ys):=by
 have:=Z0 (zE.mul h k);rw [show(iY xs ys).length=n from UC hx hy] at this;exact this
theorem Qa {r:Rat}(hx:xs.length=n):(zT r xs).length=n:=by unfold zT;rw [QH];exact hx
set_option maxRecDepth 100000
def RD (I:Nat->World->Prop)(k:Nat)(W:World):Exit->Act->World->Prop:=λe _ W'=>e=.normal/\KeepsOthers W W'/\I k W'
def Xy (P:Program)(gf:Nat)(lb:Array Value)(enc:Nat->Array Value)(N:Nat)(I:Nat->World->Prop):Prop:=
 ∀ (l : Nat) (J : Nat → World → Prop) (W : World),(∀ k W,J k W → I k W) →
  (∀k W,k<N->J (k+1) W->YieldAt Fence.wide 1 P l (enc k) W λe W'=>e=.returned (.bool true)/\J k W')->
  J N W->CallsIn Fence.wide 2 P gf (#[.func (.yield l) #[] #[]]++lb) W λe W'=>(∃v,e=.returned v)/\J 0 W'
theorem jV {I:Nat->World->Prop}{o:Obj}(hI:∀k,OwnFrom w.heap.size (fun(_:Unit) W=>I k W))(h:I k W)(hb:w.heap.size<=b)(ho:W.heap[b]?=some o)(hc:o.isCells=false)(o':Obj):I k (W.putObj b o'):=
 (hI k).putObj (s:=()) o' h hb ho hc
theorem Xx {P:Program}{g:Operand}{ps:Array Tmp}{assign body:Code}{Q:Exit->Act->World->Prop}{gf:Nat}{lb:Array Value}(hg:a.eval g=.func (.func gf) #[] lb)
  (eg:∀args w,(callFunc gf args).run P w=.ok (.enter gf args) w) (N:Nat) (d:Nat->Array Value) (u:∀k,(d k).size=ps.size) (I:Nat->World->Prop) (hI:∀k,OwnFrom w.heap.size (fun(_:Unit) W=>I k W)) (h0:I N w)
  (m:Xy P gf lb d N I) (a1:Nat->Act)
  (c:∀(l k:Nat) (W:World) (K:Act->World->Prop),K (a1 k) W->assign.wpIn (Fence.wide.inRound l) 1 P (Exit.then K (λ_ _ _=>False)) {tmps:=(ps.zip (d k)).foldl (λt (p,v)=>t.setIfInBounds p v) a.tmps,defers:=[]} W)
  (i:∀(l k:Nat) (W:World),k<N->I (k+1) W->body.wpIn (Fence.wide.inRound l) 1 P (RD I k W) (a1 k) W)
  (j:∀(D:Nat) (W:World),w.heap.size<=D->I 0 W->W.heap[D]?=some (.deferred (some []))->Q .normal {a with defers:={target:=.collected D,args:=#[]}::a.defers} W):
  (Code.rangeFunc g ps assign body).wpIn Fence.wide 3 P Q a w:=by
 refine wpIn_rangeFunc λfn s=>?_;obtain⟨r,hr⟩:∃r:Loop,r={state:=.ready,pending:=none,fn,tmps:=a.tmps,params:=ps,assign,body,defers:=w.heap.size}:=⟨_,rfl⟩;obtain⟨V,hV⟩:∃V,(w.alloc (.deferred (some []))).alloc (.loop r)=V:=⟨_,rfl⟩;have gV:w.grownBy V none:=by rw [<-hV];exact(jQ w _ none).trans (jQ _ _ none)
 have rV:V.heap[w.heap.size+1]?=some (.loop r):=by
  have h:=World.alloc_heap_new (w.alloc (.deferred (some []))) (.loop r);rw [YL,hV] at h;exact h
 have dV:V.heap[w.heap.size]?=some (.deferred (some [])):=by
  have h:=World.alloc_heap_new w (.deferred (some []));rw [<-hV,Below.heap_alloc _ _ _ zA];exact h
 have iV:I N V:=hI N () w V none h0 gV (λ_ e=>by cases e);refine⟨w.heap.size+1,[{target:=.collected w.heap.size,args:=#[]}],V,{target:=.fn (.func gf) lb,args:=#[.func (.yield (w.heap.size+1)) #[] #[]]},V,gf,#[.func (.yield (w.heap.size+1)) #[] #[]]++lb,V,?_,?_,λ_ _=>trivial,?_,λ_=>by omega,?_⟩
 ·rw [<-hV,hr];exact run_enterLoop_outer _ _ _ _ _
 ·simp only [resolve,hg];simp [go_sem]
 ·simp [invoke,go_sem,eg]
 refine(m (w.heap.size+1) (λk W=>I k W/\W.heap[w.heap.size+1]?=some (.loop r)/\W.heap[w.heap.size]?=some (.deferred (some []))) V (λ_ _ h=>h.1) ?_ ⟨iV,rV,dV⟩).mono ?_
 ·rintro k W hk ⟨iW,rW,dW⟩;have hy:=run_yield (P:=P) (args:=d k) rW (by rw [hr];exact u k);have lt:=(Array.getElem?_eq_some_iff.1 rW).1;obtain⟨rb,o⟩:∃rb:Loop,rb={r with state:=.busy}:=⟨_,rfl⟩;have rX:(W.putObj (w.heap.size+1) (.loop rb)).heap[w.heap.size+1]?=some (.loop rb):=World.putObj_heap_same lt;have dX:(W.putObj (w.heap.size+1) (.loop rb)).heap[w.heap.size]?=some (.deferred (some [])):=(World.putObj_heap_other zb).trans dW;have iX:I (k+1) (W.putObj (w.heap.size+1) (.loop rb)):=jV hI iW zb rW rfl _;rw [hr] at hy;refine⟨fn,_,assign,body,hy,roundIn_of_wpIn s (c _ k W _ ⟨_,by have h:=run_beginRound (P:=P) rW (by rw [hr]);rw [<-o] at h;exact h,?_⟩)⟩;refine wpIn_mono (i _ k _ hk iX) ?_;rintro e a3 W3 ⟨rfl,n,i3⟩;have r3:=n.same _ _ rX rfl;have d3:=n.same _ _ dX rfl;have y:=(Array.getElem?_eq_some_iff.1 r3).1;have he:=run_endRound (P:=P) none r3;refine⟨_,_,he,rfl,jV hI i3 zb r3 rfl _,?_,(World.putObj_heap_other zb).trans d3⟩;rw [World.putObj_heap_same y,o,hr];rfl
 ·rintro e W2 ⟨⟨v,rfl⟩,i2,r2,d2⟩;have he:=run_endLoop (P:=P) r2 (by rw [hr];simp);rw [show r.pending=none from by rw [hr]] at he;exact⟨none,_,he,j _ _ (qX _) (jV hI i2 zb r2 rfl _) ((World.putObj_heap_other zb).trans d2)⟩
attribute [local go_sem] Oper.semAt_some
theorem Yg (Bs len cap:Nat)(A:ze)(v:Nat->Nat)(I:Nat->World->Prop)(hlen:len<=1099511627776)
  (c:∀k W,I k W->W.cell? ⟨Bs,0,none⟩=some (.slice A len cap)) (d:∀k W,k<len->I (k+1) W->∃ad,A=some ad/\W.cell? (ad.add k)=some (.int .u64 (v k:Int))):
  Xy prog 168 #[.pointer (some ⟨Bs,0,none⟩)] (λk=>#[.int .i64 (k:Int),.int .u64 (v k:Int)]) len I:=by
 intro l J W hJ hY h0;have j:=c _ _ (hJ _ _ h0);have HB:=za (λk W (h:J k W)=>c k W (hJ k W h));have HC:=za (λk W (hk:k<len) (h:J (k+1) W)=>d k W hk (hJ _ _ h));have HY:=za hY;have H0:=za h0;have m:IntKind.i64.wrap ((len:Int) - 1)=(len:Int) - 1:=by rw [IntKind.wrap_i64];omega
 clear hJ hY h0 c d;refine callsIn_of_wp func168 rfl trivial ?_ rfl;simp only [ntmps168,XU,xJ,YM,Nat.reduceAdd,Nat.reduceSub,YT,YW,List.push_toArray,jY,XC,YD]
 gi_wp2
 clear j m
 gi_loopw [3] (λi wr=>∃k:Nat,k<=len/\i=.int .i64 ((k:Int) - 1)/\J k wr) (λi _=>(intOf i+1).toNat)
 case atStart=>exact⟨len,qX _,rfl,H0.o⟩
 case round=>
  obtain⟨k,hk,rfl,a⟩:=hrel;have hb:=HB.out _ _ a;rcases k with _|k
  ·rw [show((0:Nat):Int) - 1= -1 from by decide];clear hb
   gi_wp2
   go_end0
   exact⟨⟨_,rfl⟩,a⟩
  ·obtain⟨ad,rfl,hc⟩:=HC.o k wr hk a;obtain⟨fn,tmps,assign,body,hy,hR⟩:=HY.o k wr hk a;rw [show((k+1:Nat):Int) - 1=(k:Int) from by omega];have i1:(0:Int)<=(k:Int):=zb;have i2:(k:Int)<(len:Int):=zb;have i3:IntKind.i64.wrap ((k:Int) - 1)=(k:Int) - 1:=by rw [IntKind.wrap_i64];omega
   obtain⟨z,hz⟩:∃z,v k=z:=⟨_,rfl⟩
   try dsimp only at hy
   rw [hz] at hc hy;clear hz a
   gi_wp2
   refine hR.mono ?_;rintro e W3 ⟨rfl,g⟩
   gi_wp2
   go_roundw
   case rel=>exact⟨k,zb,rfl,g⟩
   case measure=>simp [intOf]
theorem bI (A:ze)(len cap:Nat)(w:World):
  Calls prog 161 #[.slice A len cap] w λe w'=>e=.returned (.func (.func 168) #[] #[.pointer (some ⟨w.heap.size,0,none⟩)])/\w.alloc (.cells #[.slice A len cap] 46)=w':=by
 go_enter func161,ntmps161;go_wp2;go_ret;exact⟨rfl,rfl⟩
section
variable {P:Program}{md:Region.Mode}{ops:Array Oper}{Q:Exit->Act->World->Prop}{l n:Nat}
theorem Sd {f:FuncId}{args:Array Value}{R R':Ending->World->Prop}(h:Calls P f args w R)(hr:∀e w,R e w->R' e w):CallsIn (Fence.wide.inRound l) n P f args w R':=
 CallsIn.inRound l (callsIn_wide.2 (h.mono hr))
theorem S4 {row:String}{args:Array Value}{R R':Value->World->Prop}(h:Rows P row args w R)(hr:∀e w,R e w->R' e w):RowsIn (Fence.wide.inRound l) n P row args w R':=
 λc cs _=>let ⟨v,w',r,s⟩:=h c cs;⟨v,w',hr _ _ r,stepsIn_wide.2 s⟩
theorem py {o:Oper}{K K':Act->World->Prop}(hd:∀c,o.op≠.defer c)(hK:∀a w,K a w->K' a w)(h:o.wp P a w K Q):o.wpIn (Fence.wide.inRound l) n P a w K' Q:=by
 refine⟨λ_ _=>trivial,?_⟩;rw [Oper.semAt_eq _ _ _ hd];unfold Oper.wp at h;generalize (execOp a.eval o).run P w=r at h⊢;cases r with
 |ok x w'=>
   cases x <;> simp only [Oper.upon,Oper.uponIn] at h ⊢ <;>
    first
     |exact hK _ _ h
     |exact⟨λe=>by simp [Fence.wide] at e,Sd h (λe w'' he=>by cases e<;>first|exact hK _ _ he|exact he)⟩
     |exact⟨λe=>by simp [Fence.wide] at e,S4 h (λ_ _ he=>hK _ _ he)⟩
     |exact h.elim
 |halt x w'=>cases x<;>simp only [Oper.upon,Oper.uponIn] at h⊢<;>exact h
theorem eO (hd:∀(i:Nat) (o:Oper),ops[i]?=some o->∀c,o.op≠.defer c)(hQ:¬ LetsOut Q):∀(d:Nat) (g:Array Bool) (a:Act) (w:World),wpAny P md ops Q d g a w->wpAnyIn (Fence.wide.inRound l) n P md ops Q d g a w
 |0,_,_,_,h=>h
 |d+1,g,a,w,h=>by
   refine⟨h.1,λi hi=>?_⟩;have h2:=h.2 i hi;unfold wpOp at h2;unfold wpOpIn;cases ho:ops[i]? with
   |none=>rw [ho] at h2;exact eO hd hQ d _ _ _ h2
   |some o=>
     rw [ho] at h2;simp only at h2⊢
     split
     ·rename_i hw
      rw [if_pos hw] at h2;rcases h2 with h2|h2
      ·exact py (hd i o ho) (eO hd hQ d _) h2
      ·exact absurd h2.2 hQ
     ·rename_i hw
      rw [if_neg hw] at h2;exact⟨λ_ _=>trivial,eO hd hQ d _ _ _ h2⟩
def UL (ops:Array Oper):Bool:=ops.all λo=>match o.op with|.defer _=>false|_=>true
theorem Tz (h:UL ops=true)(i:Nat)(o:Oper)(ho:ops[i]?=some o)(c:Call):o.op≠.defer c:=by
 intro e;have h1:=Array.all_eq_true.1 h i (Array.getElem?_eq_some_iff.1 ho).1;rw [(Array.getElem?_eq_some_iff.1 ho).2,e] at h1;cases h1
theorem Yw {id:Nat}{S:World->Prop}(hm:P.follows .mixedOrders=true)(hd:UL ops=true)(hQ:∀a w,¬ Q .outgrown a w)(hS:S w.drew)
  (h:S w.drew->wpAnyH P .any ops Q S ops.size (Array.replicate ops.size false) a w.drew):(Code.region id ops true).wpIn (Fence.wide.inRound l) n P Q a w:=
 wpIn_region_any hm (eO (Tz hd) (fun⟨a,w,h⟩=>hQ a w h) _ _ _ _ (wpAny_of_held _ _ _ _ (h hS)))
end
theorem uC {t:TypeId}{cs:Array Value}{row:Option Nat}(h:zh W b t cs)(hg:W.grownBy W' row)(hr:∀r,row=some r->B<=r/\∃o:Obj,W.heap[r]?=some o/\o.isCells=false):zh W' b t cs:=
 h.grown hg (λe=>by
  obtain⟨_,o,ho,hc⟩:=hr b e.symm;rw [show W.heap[b]?=_ from h] at ho;cases ho;cases hc)
theorem fX {B0:Nat}{row:Option Nat}(h:Below B0 w W)(h0:B0<=w.heap.size)(hB:B0<=B)(hg:W.grownBy W' row)(hr:∀r,row=some r->B<=r/\∃o:Obj,W.heap[r]?=some o/\o.isCells=false):Below B0 w W':=
 h.grown hg (qH h0 h.size) (λr e=>qH hB (hr r e).1)
