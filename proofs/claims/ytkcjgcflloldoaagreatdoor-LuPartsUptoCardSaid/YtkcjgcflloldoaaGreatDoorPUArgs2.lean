/- What this claim leans on. -/
import Derived.Test.YtkcjgcflloldoaaGreatDoorPBun7
import Derived.ArgAppend
import Derived.Deep.Matrix
import Derived.Deep.RegionLaw
import Derived.Deep.Slices
import Derived.Laws.Concat
import Derived.Laws.IdiomCopy
import Derived.LoopIn
import Derived.LoopNIn
import Derived.OrdersIn
import Derived.OwnWalkIn
import Derived.RangeFuncBound
import Derived.RangeFuncCalls
import Derived.RangeFuncLeaves
import Derived.RangeFuncNested
import Derived.Shelf.Abstract
import Derived.Shelf.RegionOpen
import Derived.TacticsInMore
set_option linter.unusedVariables false
set_option linter.unusedSimpArgs false
namespace Go.Proofs.YtkcjgcflloldoaaGreatDoor
open Go Go.RowKit Go.Proofs.Tryz
open Go.ChangeShapes Go.WideShapes Go.ChangeAt Go.Deep
set_option maxHeartbeats 16000000
namespace UA
set_option maxHeartbeats 16000000
theorem mem_le {H:Type}{d:DataW H}{l:List (DataW H)}(h:d ∈ l):Rows.uptoBulk d<=Rows.uptoBulkAll l:=by
 induction l with
 |nil=>cases h
 |cons x r ih=>
   simp only [Rows.uptoBulkAll];rcases List.mem_cons.1 h with rfl|h
   ·omega
   ·have:=ih h;omega
end UA
open Go Go.RowKit Go.Proofs.Tryz
set_option maxHeartbeats 16000000
variable {a:Act}{L P:List Nat}{B X Y b d g i j k m n t x:Nat}{W W' w:World}
def sY (w:World)(q r:Nat)(b:Bool)(e:Ending)(w':World):Prop:=∃(A:ze) (n c:Nat) (B:ze) (m d:Nat),e=.returned (.tuple #[.agg #[.slice A n c],.agg #[.slice B m d],.bool b])/\zo w' q A n c/\zo w' r B m d/\Below w.heap.size w w'
def iR (w:World)(x:Nat)(b:Bool)(e:Ending)(w':World):Prop:=∃(A:ze) (n c:Nat),e=.returned (.tuple #[.agg #[.slice A n c],.bool b])/\zo w' x A n c/\Below w.heap.size w w'
def cW (w:World)(q x:Nat)(b:Bool)(e:Ending)(w':World):Prop:=∃(A:ze) (n c:Nat),e=.returned (.tuple #[.agg #[.slice A n c],.int .u64 (x:Int),.bool b])/\zo w' q A n c/\Below w.heap.size w w'
structure fN:Prop where
 divMod:∀(x y:Nat) (A D:ze) (n m c d:Nat) (w:World),zo w x A n c->zo w y D m d->n<=1073741824->m<=1073741824->y≠0->Calls prog 161 #[.agg #[.slice A n c],.agg #[.slice D m d]] w (sY w (x / y) (x%y) true)
 divModNo:∀(x y:Nat) (A D:ze) (n m c d:Nat) (w:World),zo w x A n c->zo w y D m d->n<=1073741824->m<=1073741824->y=0->Calls prog 161 #[.agg #[.slice A n c],.agg #[.slice D m d]] w (sY w 0 0 false)
 div:∀(x y:Nat) (A D:ze) (n m c d:Nat) (w:World),zo w x A n c->zo w y D m d->n<=1073741824->m<=1073741824->y≠0->Calls prog 144 #[.agg #[.slice A n c],.agg #[.slice D m d]] w (iR w (x / y) true)
 mod:∀(x y:Nat) (A D:ze) (n m c d:Nat) (w:World),zo w x A n c->zo w y D m d->n<=1073741824->m<=1073741824->y≠0->Calls prog 168 #[.agg #[.slice A n c],.agg #[.slice D m d]] w (iR w (x%y) true)
 byWord:∀(x a:Nat) (A:ze) (n c:Nat) (w:World),zo w x A n c->n<=1073741824->a<18446744073709551616->a≠0->Calls prog 172 #[.agg #[.slice A n c],.int .u64 a] w (cW w (x / a) (x%a) true)
 byWordNo:∀(x:Nat) (A:ze) (n c:Nat) (w:World),zo w x A n c->n<=1073741824->Calls prog 172 #[.agg #[.slice A n c],.int .u64 0] w (cW w 0 0 false)
open Go Go.RowKit Go.Proofs.Tryz
set_option maxHeartbeats 16000000
set_option maxRecDepth 100000
theorem dH (x:Nat)(A:ze)(n c:Nat)(w:World)(hA:zo w x A n c)(hn:n<=1):
  Calls prog 117 #[.agg #[.slice A n c]] w λe w'=>e=.returned (.tuple #[.int .u64 (wd x 0:Nat),.bool true])/\Below w.heap.size w w':=by
 have WX:=(λw' (h:Below w.heap.size w w')=>jp x A n c 0 w' (hA.below h));obtain⟨a,ha⟩:∃a,wd x 0=a:=⟨_,rfl⟩;rw [ha] at WX⊢;have d:=zb WX;have h1:decide ((1:Int)<(n:Int))=false:=by simp;omega
 have h2:decide ((n:Int)>1)=false:=by simp;omega
 have h3:¬ 1<n:=za;clear WX ha hA;go_enter func117,ntmps117;go_wp2_with fail;obtain⟨b1,b2,b5⟩:=zw w 50 #[.slice A n c];refine(d.o _ b1).mono ?_;rintro e w1 ⟨rfl,hb⟩;have hB:=zc b1 hb;clear hb b1 b2 b5;go_wp2
 go_ret2
 exact⟨rfl,hB⟩
theorem dJ (A:ze)(n c:Nat)(w:World)(hn:1<n):
  Calls prog 117 #[.agg #[.slice A n c]] w λe w'=>e=.returned (.tuple #[.int .u64 0,.bool false])/\Below w.heap.size w w':=by
 go_enter func117,ntmps117;go_wp2
 go_ret2
 exact⟨rfl,(qZ _ w).alloc (qX _) _⟩
def TW (x t:Nat):Prop:=(x=0/\t=0)\/∃m,x=2^t*(2*m+1)
def wD (x:Nat):Nat:=if x=0 then 0 else Lib.ctzFrom x x
theorem ZC (h:x=2^t*(2*m+1)):x / 2^t%2=1:=by
 rw [h,XT _ (xZ t)];omega
theorem oG (h:x=2^t*(2*m+1))(hj:j<t):x / 2^j%2=0:=by
 obtain⟨s,rfl⟩:∃s,t=j+(s+1):=⟨t - j - 1,za⟩;rw [h,xU,qH,XT _ (xZ j),qO,qB (2^s) 2,qH];exact Nat.mul_mod_right _ _
theorem oH (h:x=2^t*(2*m+1)):x≠0:=by
 have:=xZ t;rw [h];exact Nat.ne_of_gt (Nat.mul_pos this za)
theorem sD (x:Nat):TW x (wD x):=by
 unfold TW wD;by_cases h:x=0
 ·exact .inl ⟨h,by rw [if_pos h]⟩
 ·rw [if_neg h];obtain⟨m,hm,_⟩:=Lib.ctzFrom_spec x x za Nat.lt_two_pow_self;exact .inr ⟨m,hm⟩
theorem lS (a:∀j,j<t->x / 2^j%2=0)(hx:x=0->t=0)(h1:x≠0->x / 2^t%2=1):t=wD x:=by
 rcases sD x with⟨e,h⟩|⟨m,h⟩
 ·rw [hx e,h]
 ·have h0:=oH h;rcases XV t (wD x) with hl|hl|hl
  ·have:=oG h hl;rw [h1 h0] at this;omega
  ·exact hl
  ·have:=ZC h;rw [a _ hl] at this;omega
theorem dD {m:Nat}(h:x=2^t*(2*m+1)):t=wD x:=
 lS (λj hj=>oG h hj) (λe=>absurd e (oH h)) (λ_=>ZC h)
theorem Sv (h0:x%18446744073709551616^k=0)(hw:wd x k≠0):64*k+Lib.ctz 64 (wd x k)=wD x:=by
 have a:=wX x k;obtain⟨m,hm,hc⟩:=Lib.ctzFrom_spec 64 (wd x k) za (by simpa using a);have ec:Lib.ctz 64 (wd x k)=Lib.ctzFrom 64 (wd x k):=by unfold Lib.ctz;rw [if_neg hw]
 rw [ec];generalize Lib.ctzFrom 64 (wd x k)=c at*;obtain⟨s,hs⟩:∃s,64=c+(s+1):=⟨63 - c,za⟩;obtain⟨q,hq⟩:∃q,x / 18446744073709551616^k / 18446744073709551616=q:=⟨_,rfl⟩;have e1:x / 18446744073709551616^k=18446744073709551616*q+wd x k:=by rw [<-hq];exact(XL _ _).symm
 have e2:x=18446744073709551616^k*(x / 18446744073709551616^k):=by
  have:=XL x (18446744073709551616^k);rw [h0] at this;omega
 have e3:(18446744073709551616:Nat)=2^c*(2*2^s):=by
  rw [show(18446744073709551616:Nat)=2^64 from rfl,hs,xU,qO,qB (2^s) 2]
 refine dD (m:=2^s*q+m) ?_;have e4:(18446744073709551616:Nat)^k=2^(64*k):=by rw [show(18446744073709551616:Nat)=2^64 from rfl,<-yL]
 have e5:18446744073709551616*q+wd x k=2^c*(2*(2^s*q+m)+1):=by
  rw [hm]
  conv=>lhs;rw [e3]
  rw [qH,<-qM,qM 2,qH,xH]
 rw [e2,e1,e5,e4,<-qH,<-xU]
theorem Xg (x:Nat)(A:ze)(n c:Nat)(w:World)(hA:zo w x A n c)(hn:n<=1099511627776)(hT:zu w):
  Calls prog 160 #[.agg #[.slice A n c]] w λe w'=>e=.returned (.int .i64 (wD x:Nat))/\Below w.heap.size w w':=by
 have u:=zb hA.len;have hr:=hA.1;have HT:=zb (λo=>hT.on ((qZ _ w).alloc (qX _) o));have g:∀o,zd (zL (w.alloc o) w.heap.size 1 A n (zt .u64 (dg 18446744073709551616 x))):=λo=>hr.alloc (qX _) o;have HC:=zb g;clear hA hT g hr;go_enter func160,ntmps160;go_wp2_with fail
 go_loop [3,4,8] (λ_ _ ix=>∃k:Nat,k<=n/\ix=.int .i64 k/\zd (x%18446744073709551616^k=0)) (λ_ _ ix=>n - (intOf ix).toNat)
 case atStart=>exact⟨0,QQ _,rfl,by show _=_;simp [XU]⟩
 case round=>
  obtain⟨k,hk,rfl,H⟩:=hrel;by_cases hlt:k<n
  ·obtain⟨ad,rfl,hadb,d⟩:=wQ (HC.o (.cells #[.slice A n c] 50)).o hlt;rw [nD] at d;by_cases hz:wd x k=0
   ·have HN:zd (x%18446744073709551616^(k+1)=0):=by
     show _=_;rw [uh 18446744073709551616 x k,H.o,xR];unfold wd at hz;rw [hz,yD]
    rw [hz] at d;clear hz;go_wp2
    go_round
    case rel=>exact⟨k+1,za,by go_num,HN⟩
    case measure=>simp [intOf];omega
   ·have HV:=zb (Sv H.o hz);have i:=wX x k;have WT:=(λw' (h:zu w')=>Oa ((wd x k:Nat):Int) ⟨za,za⟩ w' h);have m:=jI (wd x k) (by simpa using i);have et:gv ((wd x k:Nat):Int)=((Lib.ctz 64 (wd x k):Nat):Int):=by unfold gv;simp
    rw [et] at WT;obtain⟨t,ht⟩:∃t,Lib.ctz 64 (wd x k)=t:=⟨_,rfl⟩;rw [ht] at WT HV m;obtain⟨a,ha⟩:∃a,wd x k=a:=⟨_,rfl⟩;rw [ha] at d WT hz;have j:=zb WT;have hz':((a:Int)==0)=false:=beq_eq_false_iff_ne.2 za;have hz2:((a:Int) !=0)=true:=by simp;omega
    clear WT ht ha et hz i;go_wp2_with fail;refine(j.o _ (HT.o _)).mono ?_;rintro e w' ⟨rfl,rfl⟩;go_wp2;go_ret;refine⟨X7 ?_,(qZ _ w).alloc (qX _) _⟩;have:=HV.o;omega
  ·have s:k=n:=za;subst s;have HX:zd (wD x=0):=by
    show _=_;have h1:=yv (b:=18446744073709551616) zf x;rw [u.o] at h1;have h2:=H.o;rw [qS h1] at h2;rw [h2];rfl
   go_wp2;go_ret;exact⟨by rw [HX.o];rfl,(qZ _ w).alloc (qX _) _⟩
open Go Go.RowKit Go.Proofs.Tryz
set_option maxHeartbeats 16000000
set_option maxRecDepth 100000
def OC (I:Nat->World->Prop)(k:Nat)(W:World):Exit->Act->World->Prop:=λe _ W'=>e=.normal/\KeepsOthers W W'/\I k W'
def VW (P:Program)(gf:Nat)(lb:Array Value)(enc:Nat->Array Value)(N:Nat)(I:Nat->World->Prop):Prop:=
 ∀ (l : Nat) (J : Nat → World → Prop) (W : World),(∀ k W,J k W → I k W) →
  (∀k W,k<N->J (k+1) W->YieldAt Fence.wide 1 P l (enc k) W λe W'=>e=.returned (.bool true)/\J k W')->
  J N W->CallsIn Fence.wide 2 P gf (#[.func (.yield l) #[] #[]]++lb) W λe W'=>(∃v,e=.returned v)/\J 0 W'
theorem fh {I:Nat->World->Prop}{o:Obj}(hI:∀k,OwnFrom w.heap.size (fun(_:Unit) W=>I k W))(h:I k W)(hb:w.heap.size<=b)(ho:W.heap[b]?=some o)(hc:o.isCells=false)(o':Obj):I k (W.putObj b o'):=
 (hI k).putObj (s:=()) o' h hb ho hc
theorem Ug {P:Program}{g:Operand}{ps:Array Tmp}{assign body:Code}{Q:Exit->Act->World->Prop}{gf:Nat}{lb:Array Value}(hg:a.eval g=.func (.func gf) #[] lb)
  (eg:∀args w,(callFunc gf args).run P w=.ok (.enter gf args) w) (N:Nat) (d:Nat->Array Value) (u:∀k,(d k).size=ps.size) (I:Nat->World->Prop) (hI:∀k,OwnFrom w.heap.size (fun(_:Unit) W=>I k W)) (h0:I N w)
  (m:VW P gf lb d N I) (a1:Nat->Act)
  (c:∀(l k:Nat) (W:World) (K:Act->World->Prop),K (a1 k) W->assign.wpIn (Fence.wide.inRound l) 1 P (Exit.then K (λ_ _ _=>False)) {tmps:=(ps.zip (d k)).foldl (λt (p,v)=>t.setIfInBounds p v) a.tmps,defers:=[]} W)
  (i:∀(l k:Nat) (W:World),k<N->I (k+1) W->body.wpIn (Fence.wide.inRound l) 1 P (OC I k W) (a1 k) W)
  (j:∀(D:Nat) (W:World),w.heap.size<=D->I 0 W->W.heap[D]?=some (.deferred (some []))->Q .normal {a with defers:={target:=.collected D,args:=#[]}::a.defers} W):
  (Code.rangeFunc g ps assign body).wpIn Fence.wide 3 P Q a w:=by
 refine wpIn_rangeFunc λfn s=>?_;obtain⟨r,hr⟩:∃r:Loop,r={state:=.ready,pending:=none,fn,tmps:=a.tmps,params:=ps,assign,body,defers:=w.heap.size}:=⟨_,rfl⟩;obtain⟨V,hV⟩:∃V,(w.alloc (.deferred (some []))).alloc (.loop r)=V:=⟨_,rfl⟩;have gV:w.grownBy V none:=by rw [<-hV];exact(jQ w _ none).trans (jQ _ _ none)
 have rV:V.heap[w.heap.size+1]?=some (.loop r):=by
  have h:=World.alloc_heap_new (w.alloc (.deferred (some []))) (.loop r);rw [YA,hV] at h;exact h
 have dV:V.heap[w.heap.size]?=some (.deferred (some [])):=by
  have h:=World.alloc_heap_new w (.deferred (some []));rw [<-hV,Below.heap_alloc _ _ _ zG];exact h
 have iV:I N V:=hI N () w V none h0 gV (λ_ e=>by cases e);refine⟨w.heap.size+1,[{target:=.collected w.heap.size,args:=#[]}],V,{target:=.fn (.func gf) lb,args:=#[.func (.yield (w.heap.size+1)) #[] #[]]},V,gf,#[.func (.yield (w.heap.size+1)) #[] #[]]++lb,V,?_,?_,λ_ _=>trivial,?_,λ_=>by omega,?_⟩
 ·rw [<-hV,hr];exact run_enterLoop_outer _ _ _ _ _
 ·simp only [resolve,hg];simp [go_sem]
 ·simp [invoke,go_sem,eg]
 refine(m (w.heap.size+1) (λk W=>I k W/\W.heap[w.heap.size+1]?=some (.loop r)/\W.heap[w.heap.size]?=some (.deferred (some []))) V (λ_ _ h=>h.1) ?_ ⟨iV,rV,dV⟩).mono ?_
 ·rintro k W hk ⟨iW,rW,dW⟩;have hy:=run_yield (P:=P) (args:=d k) rW (by rw [hr];exact u k);have lt:=(Array.getElem?_eq_some_iff.1 rW).1;obtain⟨rb,o⟩:∃rb:Loop,rb={r with state:=.busy}:=⟨_,rfl⟩;have rX:(W.putObj (w.heap.size+1) (.loop rb)).heap[w.heap.size+1]?=some (.loop rb):=World.putObj_heap_same lt;have dX:(W.putObj (w.heap.size+1) (.loop rb)).heap[w.heap.size]?=some (.deferred (some [])):=(World.putObj_heap_other za).trans dW;have iX:I (k+1) (W.putObj (w.heap.size+1) (.loop rb)):=fh hI iW za rW rfl _;rw [hr] at hy;refine⟨fn,_,assign,body,hy,roundIn_of_wpIn s (c _ k W _ ⟨_,by have h:=run_beginRound (P:=P) rW (by rw [hr]);rw [<-o] at h;exact h,?_⟩)⟩;refine wpIn_mono (i _ k _ hk iX) ?_;rintro e a3 W3 ⟨rfl,n,i3⟩;have r3:=n.same _ _ rX rfl;have d3:=n.same _ _ dX rfl;have y:=(Array.getElem?_eq_some_iff.1 r3).1;have he:=run_endRound (P:=P) none r3;refine⟨_,_,he,rfl,fh hI i3 za r3 rfl _,?_,(World.putObj_heap_other za).trans d3⟩;rw [World.putObj_heap_same y,o,hr];rfl
 ·rintro e W2 ⟨⟨v,rfl⟩,i2,r2,d2⟩;have he:=run_endLoop (P:=P) r2 (by rw [hr];simp);rw [show r.pending=none from by rw [hr]] at he;exact⟨none,_,he,j _ _ (qX _) (fh hI i2 za r2 rfl _) ((World.putObj_heap_other za).trans d2)⟩
open Go Go.RowKit Go.Proofs.Tryz
set_option maxHeartbeats 16000000
set_option maxRecDepth 100000
attribute [local go_sem] Oper.semAt_some
theorem Vb (Bs len g:Nat)(A:ze)(v:Nat->Nat)(I:Nat->World->Prop)(hlen:len<=1099511627776)
  (c:∀k W,I k W->W.cell? ⟨Bs,0,none⟩=some (.slice A len g)) (d:∀k W,k<len->I (k+1) W->∃ad,A=some ad/\W.cell? (ad.add k)=some (.int .u64 (v k:Int))):
  VW prog 187 #[.pointer (some ⟨Bs,0,none⟩)] (λk=>#[.int .i64 (k:Int),.int .u64 (v k:Int)]) len I:=by
 intro l J W hJ hY h0;have m:=c _ _ (hJ _ _ h0);have HB:=zb (λk W (h:J k W)=>c k W (hJ k W h));have HC:=zb (λk W (hk:k<len) (h:J (k+1) W)=>d k W hk (hJ _ _ h));have HY:=zb hY;have H0:=zb h0;have n:IntKind.i64.wrap ((len:Int) - 1)=(len:Int) - 1:=by rw [IntKind.wrap_i64];omega
 clear hJ hY h0 c d;refine callsIn_of_wp func187 rfl trivial ?_ rfl;simp only [ntmps187,XR,xO,YN,Nat.reduceAdd,Nat.reduceSub,YI,YT,List.push_toArray,jY,yQ,YS]
 gi_wp2
 clear m n
 gi_loopw [3] (λi wr=>∃k:Nat,k<=len/\i=.int .i64 ((k:Int) - 1)/\J k wr) (λi _=>(intOf i+1).toNat)
 case atStart=>exact⟨len,qX _,rfl,H0.o⟩
 case round=>
  obtain⟨k,hk,rfl,a⟩:=hrel;have hb:=HB.out _ _ a;rcases k with _|k
  ·rw [show((0:Nat):Int) - 1= -1 from by decide];clear hb
   gi_wp2
   go_end0
   exact⟨⟨_,rfl⟩,a⟩
  ·obtain⟨ad,rfl,hc⟩:=HC.o k wr hk a;obtain⟨fn,tmps,assign,body,hy,hR⟩:=HY.o k wr hk a;rw [show((k+1:Nat):Int) - 1=(k:Int) from by omega];have i1:(0:Int)<=(k:Int):=za;have i2:(k:Int)<(len:Int):=za;have i3:IntKind.i64.wrap ((k:Int) - 1)=(k:Int) - 1:=by rw [IntKind.wrap_i64];omega
   obtain⟨z,hz⟩:∃z,v k=z:=⟨_,rfl⟩
   try dsimp only at hy
   rw [hz] at hc hy;clear hz a
   gi_wp2
   refine hR.mono ?_;rintro e W3 ⟨rfl,j⟩
   gi_wp2
   go_roundw
   case rel=>exact⟨k,za,rfl,j⟩
   case measure=>simp [intOf]
theorem Z3 (A:ze)(len a:Nat)(w:World):
  Calls prog 181 #[.slice A len a] w λe w'=>e=.returned (.func (.func 187) #[] #[.pointer (some ⟨w.heap.size,0,none⟩)])/\w.alloc (.cells #[.slice A len a] 48)=w':=by
 go_enter func181,ntmps181;go_wp2;go_ret;exact⟨rfl,rfl⟩
open Go Go.RowKit Go.Proofs.Tryz
set_option maxHeartbeats 16000000
set_option maxRecDepth 100000
section
variable {P:Program}{md:Region.Mode}{ops:Array Oper}{Q:Exit->Act->World->Prop}{l n:Nat}
theorem Qz {f:FuncId}{args:Array Value}{R R':Ending->World->Prop}(h:Calls P f args w R)(hr:∀e w,R e w->R' e w):CallsIn (Fence.wide.inRound l) n P f args w R':=
 CallsIn.inRound l (callsIn_wide.2 (h.mono hr))
theorem P3 {row:String}{args:Array Value}{R R':Value->World->Prop}(h:Rows P row args w R)(hr:∀e w,R e w->R' e w):RowsIn (Fence.wide.inRound l) n P row args w R':=
 λc cs _=>let ⟨v,w',r,s⟩:=h c cs;⟨v,w',hr _ _ r,stepsIn_wide.2 s⟩
theorem og {o:Oper}{K K':Act->World->Prop}(hd:∀c,o.op≠.defer c)(hK:∀a w,K a w->K' a w)(h:o.wp P a w K Q):o.wpIn (Fence.wide.inRound l) n P a w K' Q:=by
 refine⟨λ_ _=>trivial,?_⟩;rw [Oper.semAt_eq _ _ _ hd];unfold Oper.wp at h;generalize (execOp a.eval o).run P w=r at h⊢;cases r with
 |ok x w'=>
   cases x <;> simp only [Oper.upon,Oper.uponIn] at h ⊢ <;>
    first
     |exact hK _ _ h
     |exact⟨λe=>by simp [Fence.wide] at e,Qz h (λe w'' he=>by cases e<;>first|exact hK _ _ he|exact he)⟩
     |exact⟨λe=>by simp [Fence.wide] at e,P3 h (λ_ _ he=>hK _ _ he)⟩
     |exact h.elim
 |halt x w'=>cases x<;>simp only [Oper.upon,Oper.uponIn] at h⊢<;>exact h
theorem aU (hd:∀(i:Nat) (o:Oper),ops[i]?=some o->∀c,o.op≠.defer c)(hQ:¬ LetsOut Q):∀(d:Nat) (g:Array Bool) (a:Act) (w:World),wpAny P md ops Q d g a w->wpAnyIn (Fence.wide.inRound l) n P md ops Q d g a w
 |0,_,_,_,h=>h
 |d+1,g,a,w,h=>by
   refine⟨h.1,λi hi=>?_⟩;have h2:=h.2 i hi;unfold wpOp at h2;unfold wpOpIn;cases ho:ops[i]? with
   |none=>rw [ho] at h2;exact aU hd hQ d _ _ _ h2
   |some o=>
     rw [ho] at h2;simp only at h2⊢
     split
     ·rename_i hw
      rw [if_pos hw] at h2;rcases h2 with h2|h2
      ·exact og (hd i o ho) (aU hd hQ d _) h2
      ·exact absurd h2.2 hQ
     ·rename_i hw
      rw [if_neg hw] at h2;exact⟨λ_ _=>trivial,aU hd hQ d _ _ _ h2⟩
def SL (ops:Array Oper):Bool:=ops.all λo=>match o.op with|.defer _=>false|_=>true
theorem RD (h:SL ops=true)(i:Nat)(o:Oper)(ho:ops[i]?=some o)(c:Call):o.op≠.defer c:=by
 intro e;have h1:=Array.all_eq_true.1 h i (Array.getElem?_eq_some_iff.1 ho).1;rw [(Array.getElem?_eq_some_iff.1 ho).2,e] at h1;cases h1
theorem Vl {id:Nat}{S:World->Prop}(hm:P.follows .mixedOrders=true)(hd:SL ops=true)(hQ:∀a w,¬ Q .outgrown a w)(hS:S w.drew)
  (h:S w.drew->wpAnyH P .any ops Q S ops.size (Array.replicate ops.size false) a w.drew):(Code.region id ops true).wpIn (Fence.wide.inRound l) n P Q a w:=
 wpIn_region_any hm (aU (RD hd) (fun⟨a,w,h⟩=>hQ a w h) _ _ _ _ (wpAny_of_held _ _ _ _ (h hS)))
end
theorem uZ {t:TypeId}{cs:Array Value}{row:Option Nat}(h:zh W b t cs)(hg:W.grownBy W' row)(hr:∀r,row=some r->B<=r/\∃o:Obj,W.heap[r]?=some o/\o.isCells=false):zh W' b t cs:=
 h.grown hg (λe=>by
  obtain⟨_,o,ho,hc⟩:=hr b e.symm;rw [show W.heap[b]?=_ from h] at ho;cases ho;cases hc)
theorem bV {B0:Nat}{row:Option Nat}(h:Below B0 w W)(h0:B0<=w.heap.size)(hB:B0<=B)(hg:W.grownBy W' row)(hr:∀r,row=some r->B<=r/\∃o:Obj,W.heap[r]?=some o/\o.isCells=false):Below B0 w W':=
 h.grown hg (qD h0 h.size) (λr e=>qD hB (hr r e).1)
open Go Go.RowKit Go.Proofs.Tryz
set_option maxHeartbeats 16000000
set_option maxRecDepth 100000
open Go Go.RowKit Go.Proofs.Tryz
set_option maxHeartbeats 16000000
set_option maxRecDepth 100000
open Go Go.RowKit Go.Proofs.Tryz
set_option maxHeartbeats 16000000
theorem vl {T:World->Prop}:vf T where
 new s x A n c w _ hA hn:=Qc s x A n c w hA za
 of z w _ h1 h2:=Pr z w h1 h2
 belowI z b A n c w _ hA hn:=Rq z b A n c w hA
 abs z b A n c w _ hA hn:=(R8 z b A n c w hA za).mono λ_ _ ⟨A',n',c',he,hw,hb,_⟩=>⟨A',n',c',he,hw,hb⟩
 sign z b A n c w _ hA hn:=RZ z b A n c w hA
 cmp x y b b' A D n m c d w _ hA hD hn hm:=Qa x y b b' A D n m c d w hA hD za za
 add x y b b' A D n m c d w _ hA hD hn hm:=R9 x y b b' A D n m c d w hA hD za za
 mul x y b b' A D n m c d w _ hA hD hn hm:=Qb x y b b' A D n m c d w hA hD za za
open Go Go.RowKit Go.Proofs.Tryz
set_option maxHeartbeats 16000000
theorem Ob (m:Nat):(Builtin.zeroCells #[Value.int .u64 0] m).toList=List.replicate m (Value.int .u64 0):=by
 refine YX (by simp [Builtin.zeroCells]) (λi h1 h2=>?_);simp [Builtin.zeroCells,XU]
theorem Uo {ty:TypeId}{g c n:Nat}:∀(m k:Nat) (L:List Nat) (W:World),zJ W ty g c n L->k+m<=n->
  zJ (W.setCells g k (List.replicate m (Value.int .u64 0))) ty g c n (L.take k++List.replicate m 0++L.drop (k+m))/\y6 g W (W.setCells g k (List.replicate m (Value.int .u64 0)))
 |0,k,L,W,h,hk=>by
   refine⟨?_,y6.refl g W⟩;simp only [List.replicate_zero,List.append_nil,XX,YC,World.setCells];exact h
 |m+1,k,L,W,h,hk=>by
   have hl:=h.len;obtain⟨h1,h2⟩:=Uo m (k+1) (L.set k 0) (W.setCell ⟨g,k,none⟩ (.int .u64 ((0:Nat):Int))) (h.set_ k 0 za) za;rw [jr _ _ _ za] at h1;have e:(L.set k 0).drop (k+1+m)=L.drop (k+(m+1)):=by
    rw [<-List.drop_drop,fb,List.drop_drop];congr 1;omega
   rw [e] at h1;refine⟨?_,(y6.set_ (y6.refl g W) k _).trans h2⟩;rw [List.replicate_succ (a:=(0:Nat)),show L.take k++0::List.replicate m 0=L.take k++[0]++List.replicate m 0 by simp];exact h1
theorem QF {ty:TypeId}{a k m c:Nat}{A C:List Nat}(h:zJ W ty g a n (A++C))(hA:A.length=k)(hC:C.length=m)(hm:0<m):
  ∃W2,(∀t:TypeId,(Builtin.clear_ #[48] t #[.slice (some ⟨g,k,none⟩) m c]).run prog W=.ok (.tuple #[]) W2)/\zJ W2 ty g a n (A++List.replicate m 0)/\y6 g W W2:=by
 obtain⟨i0,i,o,hz1,hz2⟩:=info_parts o6;have hl:=h.len;rw [qT,hA,hC] at hl;obtain⟨h1,h2⟩:=Uo m k (A++C) W h za;rw [xA (by rw [qT];omega),List.append_nil,<-hA,jJ,hA] at h1;have d:=run_storeCells_cells (P:=prog) g k (List.replicate m (Value.int .u64 0)) 0 W
  (λj hj=>by rw [yM] at hj;rw [XX,h.cell (k+j) za];rfl) (λj _=>h.frozen _) (λv hv=>by rw [List.eq_of_mem_replicate hv];rfl)
 refine⟨_,λt=>?_,h1,h2⟩;obtain⟨m,rfl⟩:∃r,m=r+1:=⟨m - 1,za⟩;have hz:=Ob (m+1);rw [XX] at d;simp [Builtin.clear_,run_underlying underlying48,zeroValue,typeInfo,i,o,hz,d,Value.cells]
theorem PR {c:Nat}{A:ze}(t:TypeId)(W:World):(Builtin.clear_ #[48] t #[.slice A 0 c]).run prog W=.ok (.tuple #[]) W:=by
 cases A<;>simp [Builtin.clear_,run_underlying underlying48]
open Go Go.RowKit Go.Proofs.Tryz
set_option maxHeartbeats 16000000
set_option maxRecDepth 100000
structure ue (P L:List Nat)(k:Nat)(q:List Nat)(b:Nat):Prop where
 len:q.length=P.length
 dgs:zH 18446744073709551616 q
 carry:b<=1
 val:dv 18446744073709551616 (q.take k)+dv 18446744073709551616 (L.take k)=dv 18446744073709551616 (P.take k)+18446744073709551616^k*b
 rest:∀i,k<=i->q.getD i 0=P.getD i 0
theorem ue.start (P L:List Nat)(h:zH 18446744073709551616 P):ue P L 0 P 0:=⟨rfl,h,za,by simp [dv],λ_ _=>rfl⟩
theorem mf {q:List Nat}(h:zH b q)(hd:d<b):zH b (q.set k d):=λx hx=>by
 rcases xL hx with h1|h1
 ·exact h x h1
 ·rw [h1];exact hd
theorem Vh {q:List Nat}(h:k<q.length):(q.set k d).getD k 0=d:=by
 simp [qQ,h]
theorem RR {q:List Nat}(h:k≠i):(q.set k d).getD i 0=q.getD i 0:=by
 simp [qQ,h]
theorem RS (q:List Nat)(k d:Nat):(q.set k d).take k=q.take k:=List.take_set_of_le (qX k)
theorem ue.step {q:List Nat}{d b':Nat}(h:ue P L k q b)(hk:k<P.length)(hd:d<18446744073709551616)(hb:b'<=1)(hs:d+L.getD k 0+b=q.getD k 0+18446744073709551616*b'):ue P L (k+1) (q.set k d) b':=by
 refine⟨by simpa using h.len,mf h.dgs hd,hb,?_,λi hi=>by rw [RR za];exact h.rest i za⟩;have hv:=h.val;have hr:=h.rest k (qX k);rw [uv,uv,uv,RS,Vh (by rw [h.len];exact hk),qO];rw [hr] at hs;obtain⟨B,hB⟩:∃B,18446744073709551616^k=B:=⟨_,rfl⟩;rw [hB] at hv⊢;have e:B*d+B*L.getD k 0+B*b=B*P.getD k 0+B*18446744073709551616*b':=by
  rw [<-qM,<-qM,hs,qM,qH]
 omega
theorem ue.done {L q:List Nat}(h:ue P L P.length q b)(hL:L.length=P.length)(hle:dv 18446744073709551616 L<=dv 18446744073709551616 P):dv 18446744073709551616 q=dv 18446744073709551616 P - dv 18446744073709551616 L:=by
 have hv:=h.val;have hq:=vy h.dgs;rw [h.len] at hq;rw [qV (by rw [h.len];exact qX _),qV za,qV (qX _)] at hv;rcases (show b=0\/b=1 by have:=h.carry;omega) with rfl|rfl
 ·omega
 ·omega
def rH (w:World)(ty:TypeId)(g cap n X:Nat)(e:Ending)(w':World):Prop:=
 ∃(v:Value) (L:List Nat),e=.returned v/\zJ w' ty g cap n L/\zH 18446744073709551616 L/\dv 18446744073709551616 L=X/\y6 g w w'
theorem Q2 (a b c:Nat)(ha:a<18446744073709551616)(hb:b<18446744073709551616)(hc:c<=1):∃d c':Nat,d<18446744073709551616/\c'<=1/\d+b+c=a+18446744073709551616*c'/\
  ∀w:World,(callFunc 186 #[.int .u64 a,.int .u64 b,.int .u64 c]).run prog w=.ok (.value (.tuple #[.int .u64 (d:Int),.int .u64 (c':Int)])) w:=by
 obtain⟨d,c',e1,e2,h1,h2,h3⟩:=Wb ha hb hc;refine⟨d,c',h1,h2,h3,λw=>?_⟩;have h:=ja a b c ⟨za,za⟩ ⟨za,za⟩ za za w;rw [e1,e2] at h;exact h
theorem Vp (ty o:TypeId)(g g2 c1 c2 n:Nat)(L1 L2:List Nat)(w:World)(hR:zJ w ty g c1 n L1)(h2:zJ w o g2 c2 n L2)(E:g2≠g)(c:zH 18446744073709551616 L1)(k:zH 18446744073709551616 L2)
  (m:dv 18446744073709551616 L2<=dv 18446744073709551616 L1) (hn:n<=1099511627776):
  Calls prog 178 #[.slice (some ⟨g,0,none⟩) n c1,.slice (some ⟨g2,0,none⟩) n c2] w (rH w ty g c1 n (dv 18446744073709551616 L1 - dv 18446744073709551616 L2)):=by
 have j:=zb hR.len;have v:=zb h2.len;have s:=zb k;have y:=zb m;have HI:=zb (ue.start L1 L2 c);have HO:=y6.refl g w;clear c k m;go_enter func178,ntmps178;go_wp2_with fail
 go_loopg [4,9] (n+1) (λgg bo ix wr=>∃(i b:Nat) (q:List Nat),i<=n/\n<gg+i/\ix=.int .i64 i/\bo=.int .u64 b/\zd (ue L1 L2 i q b)/\zJ wr ty g c1 n q/\zJ wr o g2 c2 n L2/\y6 g w wr)
 case atStart=>exact⟨0,0,L1,QQ _,za,rfl,rfl,HI,hR,h2,HO⟩
 case round=>
  clear hR HI HO h2;obtain⟨i,bb,q,hin,hgg,rfl,rfl,HI,hR,h2,hO⟩:=hrel;have hI:=HI.o;by_cases hlt:i<n
  ·have k1:=hR.cell i hlt;have k2:=h2.cell i hlt;have k3:=hR.frozen i;obtain⟨d,b',c,C,hx,hS⟩:=Q2 (q.getD i 0) (L2.getD i 0) bb (hI.dgs.getD zf i) (s.o.getD zf i) hI.carry;have B:=zb (hI.step (by rw [j.o];exact hlt) c C hx);have A:=zb (hR.set_ i d hlt);have z:=zb (hO.set_ i (.int .u64 (d:Int)));have u:=zb (h2.far (p:=⟨g,i,none⟩) E (.int .u64 (d:Int)));obtain⟨a,ha⟩:∃b,q.getD i 0=b:=⟨_,rfl⟩;obtain⟨b,hb⟩:∃b,L2.getD i 0=b:=⟨_,rfl⟩;rw [ha] at k1 hS;rw [hb] at k2 hS;have i1:(0:Int)<=(i:Int):=za;have i2:(i:Int)<(n:Int):=za;clear ha hb hx hI HI hR h2 hO;go_wp2;go_roundg (n - i)
   case measure=>omega
   case rel=>exact⟨i+1,b',_,za,za,by go_num,rfl,B,A.o,u.o,z.o⟩
  ·have D:i=n:=za;subst D;have HV:zd (dv 18446744073709551616 q=dv 18446744073709551616 L1 - dv 18446744073709551616 L2):=by
    have e:=j.o;rw [<-e] at hI;exact hI.done (by rw [v.o,e]) y.o
   have t:=zb hI.dgs;clear hI HI;go_wp2
   go_end0
   exact⟨_,q,rfl,hR,t.o,HV.o,hO⟩
open Go Go.RowKit Go.Proofs.Tryz
set_option maxHeartbeats 16000000
set_option maxRecDepth 100000
theorem Yc {s:Nat}(h:L.getD s 0=0):dv 18446744073709551616 (L.take (s+1))=dv 18446744073709551616 (L.take s):=by
 rw [uv,h,yD,XX]
theorem Pa {a:Nat}(ha:a<18446744073709551616)(hb:b<18446744073709551616)(h:¬(a=0/\b=0)):∃c:Nat,bits .or .u64 (a:Int) (b:Int)=(c:Int)/\c≠0:=by
 refine⟨a|||b,bits_or_u64_nat _ _ ha hb,λe=>h ?_⟩;exact Nat.or_eq_zero_iff.1 e
def rG (w:World)(g1 g2 c1 c2 n:Nat)(L1 L2:List Nat)(e:Ending)(w':World):Prop:=
 ∃ s : Nat,1 ≤ s ∧ s ≤ n ∧ e = .returned (.tuple #[.slice (some ⟨g1,0,none⟩) s c1,.slice (some ⟨g2,0,none⟩) s c2]) ∧
  dv 18446744073709551616 (L1.take s)=dv 18446744073709551616 L1/\dv 18446744073709551616 (L2.take s)=dv 18446744073709551616 L2/\Below w.heap.size w w'
theorem R7 (ty t:TypeId)(g1 g2 c1 c2 n:Nat)(L1 L2:List Nat)(w:World)(h1:zJ w ty g1 c1 n L1)(h2:zJ w t g2 c2 n L2)(m:zH 18446744073709551616 L1)(o:zH 18446744073709551616 L2)
  (hx:dv 18446744073709551616 L1≠0) (hn:n<=1099511627776):
  Calls prog 176 #[.slice (some ⟨g1,0,none⟩) n c1,.slice (some ⟨g2,0,none⟩) n c2] w (rG w g1 g2 c1 c2 n L1 L2):=by
 have hn0:1<=n:=by
  rcases xQ n with e|e
  ·have:=h1.len;rw [QX (this.trans e)] at hx;exact absurd rfl hx
  ·exact e
 have hr1:=h1.room.1;have hr2:=h2.room.1;have hb:=qZ w.heap.size w;have HX:=zb hx;have v:=zb m;have y:=zb o;have d:zd (dv 18446744073709551616 (L1.take n)=dv 18446744073709551616 L1):=by show _=_;rw [qV (by rw [h1.len];exact qX _)]
 have g:zd (dv 18446744073709551616 (L2.take n)=dv 18446744073709551616 L2):=by show _=_;rw [qV (by rw [h2.len];exact qX _)]
 clear hx m o;go_enter func176,ntmps176;go_wp2_with fail
 go_loopg [6] (n+1) (λgg u wr=>∃s:Nat,s+1<=n/\s<gg/\u=.int .i64 ((s:Int)+1)/\zd (dv 18446744073709551616 (L1.take (s+1))=dv 18446744073709551616 L1)/\zd (dv 18446744073709551616 (L2.take (s+1))=dv 18446744073709551616 L2)/\zJ wr ty g1 c1 n L1/\zJ wr t g2 c2 n L2/\Below w.heap.size w wr)
 case atStart=>
  obtain⟨s,rfl⟩:∃s,n=s+1:=⟨n - 1,za⟩;exact⟨s,za,za,zG,d,g,h1,h2,hb⟩
 case round=>
  clear d g h1 h2 hb;obtain⟨s,hs,hgg,rfl,d,g,h1,h2,hb⟩:=hrel;have k1:=h1.cell s za;have k2:=h2.cell s za;have i1:(0:Int)<=(s:Int):=za;have i2:(s:Int)<(n:Int):=za;have i3:(s:Int)+1 - 1=(s:Int):=za;have i4:IntKind.i64.wrap (s:Int)=(s:Int):=QS _ za;have i:=v.o.getD zf s;have j:=y.o.getD zf s;by_cases hz:L1.getD s 0=0/\L2.getD s 0=0
  ·obtain⟨z1,z2⟩:=hz;have hs0:s≠0:=λe=>by
    subst e;have h:=d.o;rw [Yc z1] at h;exact HX.o (by rw [<-h];rfl)
   obtain⟨s,rfl⟩:∃r,s=r+1:=⟨s - 1,za⟩;have d:zd (dv 18446744073709551616 (L1.take (s+1))=dv 18446744073709551616 L1):=(Yc z1).symm.trans d.o;have g:zd (dv 18446744073709551616 (L2.take (s+1))=dv 18446744073709551616 L2):=(Yc z2).symm.trans g.o;rw [z1] at k1;rw [z2] at k2;have ho:bits .or .u64 ((0:Nat):Int) ((0:Nat):Int)=0:=zf;clear z1 z2 i j;go_wp2_with fail;go_region;go_wp2;go_roundg (s+1)
   case measure=>omega
   case rel=>exact⟨s,za,za,by go_num,d,g,h1.drew,h2.drew,hb.drew⟩
  ·obtain⟨c,ho,hc0⟩:=Pa i j hz;obtain⟨a,ha⟩:∃a,L1.getD s 0=a:=⟨_,rfl⟩;obtain⟨b,k⟩:∃b,L2.getD s 0=b:=⟨_,rfl⟩;rw [ha] at k1 ho;rw [k] at k2 ho;have hcz:((c:Int)==0)=false:=by simp;omega
   have j1:(s:Int)+1<=(c1:Int):=za;have j2:(s:Int)+1<=(c2:Int):=za;have j3:(0:Int)<=(s:Int)+1:=za;have j4:((s:Int)+1).toNat=s+1:=za;clear ha k hz i j;go_wp2_with fail;go_region;go_wp2_with fail;go_region;go_wp2
   go_ret2
   exact⟨s+1,za,hs,by first|rfl|simp,d.o,g.o,hb.drew.drew⟩
open Go Go.RowKit Go.Proofs.Tryz
set_option maxHeartbeats 16000000
set_option maxRecDepth 100000
theorem Nv {y:Nat}(h:Nat.gcd x y=g):Nat.gcd y (x%y)=g:=by
 rw [<-h,XN x y,Nat.gcd_rec y x,XN]
theorem Nw (h:Nat.gcd x 0=g):x=g:=by rw [<-h,Nat.gcd_zero_right]
theorem UV (x y:Nat)(w:World)(hx:x<18446744073709551616)(hy:y<18446744073709551616):
  Calls prog 156 #[.int .u64 x,.int .u64 y] w λe w'=>e=.returned (.int .u64 (Nat.gcd x y:Nat))/\Below w.heap.size w w':=by
 have hB:=qZ w.heap.size w;obtain⟨g,hg⟩:∃g,Nat.gcd x y=g:=⟨_,rfl⟩;rw [hg];have HG:=zb hg;clear hg;go_enter func156,ntmps156;go_wp2_with fail
 go_loopg [0,1] (y+1) (λgg s0 s1 wr=>∃(a b:Nat),a<18446744073709551616/\b<18446744073709551616/\b<gg/\s0=.int .u64 a/\s1=.int .u64 b/\zd (Nat.gcd a b=g)/\Below w.heap.size w wr)
 case atStart=>exact⟨x,y,hx,hy,za,rfl,rfl,HG,hB⟩
 case round=>
  clear hx hy HG hB;obtain⟨a,b,ha,hb,hgg,rfl,rfl,HG,hB⟩:=hrel;rcases xQ b with rfl|hpos
  ·have HE:=zb (Nw HG.o);clear HG;go_wp2;go_ret;exact⟨by rw [HE.o];rfl,hB⟩
  ·have HE:=zb (Nv HG.o);have hz:((b:Int)==0)=false:=by simp;omega
   have hz2:((b:Int) !=0)=true:=by simp;omega
   have hz3:¬((b:Int)=0):=za;have hm:(a:Int).tmod b=((a%b:Nat):Int):=by rw [xC za];exact(Int.natCast_emod _ _).symm
   have c:a%b<b:=QA _ hpos;have d:(a:Int)%b=((a%b:Nat):Int):=(Int.natCast_emod _ _).symm;obtain⟨r,hr⟩:∃r,a%b=r:=⟨_,rfl⟩;rw [hr] at hm c HE d;clear HG hr;go_wp2_with fail;go_region;go_wp2;go_roundg b
   case measure=>omega
   case rel=>exact⟨b,r,hb,za,c,rfl,by go_num,HE,by first|exact hB|exact hB.drew⟩
open Go Go.RowKit Go.Proofs.Tryz
set_option maxHeartbeats 16000000
set_option maxRecDepth 100000
theorem pM {w':World}(h:y6 g w w'):y6 g w w'.drew:=⟨h.os,h.tape,h.output,h.size,h.block⟩
def uC (Y:Nat)(L:List Nat)(i:Nat):List Nat:=uk Y i++L.drop i
theorem OS (h:i<=L.length):(uC Y L i).length=L.length:=by simp [uC,jc];omega
theorem US (h:i<=k):(uC Y L i).getD k 0=L.getD k 0:=by
 obtain⟨j,rfl⟩:∃j,k=i+j:=⟨k - i,za⟩;simp only [uC,qQ];rw [QJ (by rw [jc];omega),jc,yO,yW]
theorem OT (h:i<L.length):(uC Y L i).set i d=uk Y i++d::L.drop (i+1):=by
 unfold uC;rw [yN _ _ (by rw [jc];omega),jc,XG,yE h,qP]
theorem OU {e:Nat}(h:i<L.length):((uC Y L i).set i d).set i e=(uC Y L i).set i e:=by simp [List.set_set]
theorem V0 (h:i<L.length):(uC Y L i).set i (wd Y i)=uC Y L (i+1):=by
 rw [OT h];unfold uC;rw [Yf,xV];rfl
theorem R6 (Y:Nat)(L:List Nat):uC Y L 0=L:=by simp [uC,uk]
theorem OW {q r:Nat}(hr:r<64):wd (X / 2^(64*q+r)) i=wd X (q+i) / 2^r+2^(64 - r)*(wd X (q+i+1)%2^r):=by
 have h:=oN X (64*q+r) i;rw [show(64*q+r) / 64=q from by omega,show(64*q+r)%64=r from by omega] at h;exact h
theorem OV {q r:Nat}(hX:X<18446744073709551616^n)(hq:q<=n):(dg 18446744073709551616 (X / 2^(64*q+r))).length<=n - q:=by
 refine wP zf _ _ ?_;have e:(18446744073709551616:Nat)^q=2^(64*q):=by rw [show(18446744073709551616:Nat)=2^64 from rfl,<-yL]
 rw [xU,<-xB,<-e];refine QO (QI _ _) ((QM (XB zf)).2 ?_);rw [<-xU,Nat.sub_add_cancel hq];exact hX
def jB (w:World)(ty:TypeId)(g cap n X:Nat)(e:Ending)(w':World):Prop:=
 (X=0/\e=.returned (.bool false)/\w=w')\/(X≠0/\∃L,e=.returned (.bool true)/\zJ w' ty g cap n L/\zH 18446744073709551616 L/\dv 18446744073709551616 L=X / 2^wD X/\y6 g w w')
theorem Tf (ty:TypeId)(g d n:Nat)(L:List Nat)(w:World)(hR:zJ w ty g d n L)(hd:zH 18446744073709551616 L)(hn:n<=1099511627776)(hT:zu w):
  Calls prog 179 #[.slice (some ⟨g,0,none⟩) n d] w (jB w ty g d n (dv 18446744073709551616 L)):=by
 have hl:=hR.len;have hX:=vy hd;rw [hl] at hX;have HW:∀k,L.getD k 0=wd (dv 18446744073709551616 L) k:=λk=>jt zf hd k;obtain⟨X,T⟩:∃X,dv 18446744073709551616 L=X:=⟨_,rfl⟩;rw [T] at hX HW⊢;have HX:=zb hX;have J:=zb HW;have HL:=zb hl;have hnc:=hR.room.1;have HT:=zb hT;have HR:=zb hR;clear hX HW hl T hT hR;go_enter func179,ntmps179;go_wp2_with fail
 go_loop [3] (λix=>∃k:Nat,k<=n/\ix=.int .i64 k/\zd (X%18446744073709551616^k=0)) (λix=>n - (intOf ix).toNat)
 case atStart=>exact⟨0,QQ _,rfl,by show _=_;simp [XU]⟩
 case round=>
  obtain⟨k,hk,rfl,H⟩:=hrel;have i1:(0:Int)<=(k:Int):=za;by_cases hlt:k<n
  ·have G:=HR.o.cell k hlt;rw [J.o] at G;have i2:(k:Int)<(n:Int):=za;by_cases hz:wd X k=0
   ·have HN:zd (X%18446744073709551616^(k+1)=0):=by
     show _=_;rw [uh 18446744073709551616 X k,H.o,xR];unfold wd at hz;rw [hz,yD]
    rw [hz] at G;clear hz;go_wp2
    go_round
    case rel=>exact⟨k+1,za,by go_num,HN⟩
    case measure=>simp [intOf];omega
   ·have HV:=zb (Sv H.o hz);have V:=wX X k;have WT:=Su ((wd X k:Nat):Int) ⟨za,za⟩ w HT.o;have et:gv ((wd X k:Nat):Int)=((Lib.ctz 64 (wd X k):Nat):Int):=by unfold gv;simp
    have E:Lib.ctz 64 (wd X k)<64:=by
     obtain⟨m,hm,hc⟩:=Lib.ctzFrom_spec 64 (wd X k) za (by simpa using V);have ec:Lib.ctz 64 (wd X k)=Lib.ctzFrom 64 (wd X k):=by unfold Lib.ctz;rw [if_neg hz]
     rw [ec];rcases xW (Lib.ctzFrom 64 (wd X k)) 64 with h|h
     ·exact h
     ·have h2:2^64<=2^Lib.ctzFrom 64 (wd X k):=qG zf h;have h3:2^Lib.ctzFrom 64 (wd X k)<=wd X k:=by
       conv=>rhs;rw [hm]
       exact Nat.le_mul_of_pos_right _ za
      omega
    rw [et] at WT;obtain⟨r,hr⟩:∃t,Lib.ctz 64 (wd X k)=t:=⟨_,rfl⟩;rw [hr] at WT HV E;obtain⟨a,ha⟩:∃a,wd X k=a:=⟨_,rfl⟩;rw [ha] at G WT hz;have S:=zb WT;have ag:((a:Int)==0)=false:=beq_eq_false_iff_ne.2 za;have ah:((a:Int) !=0)=true:=by simp;omega
    have M:((k:Int)==(n:Int))=false:=beq_eq_false_iff_ne.2 za;have K:zd (X≠0):=λe=>by
     rw [e] at ha;have:(0:Nat)=a:=by rw [<-ha];unfold wd;simp
     exact hz this.symm
    obtain⟨Y,hY⟩:∃Y,X / 2^(64*k+r)=Y:=⟨_,rfl⟩;have ad:zd (∀i,wd Y i=wd X (k+i) / 2^r+2^(64 - r)*(wd X (k+i+1)%2^r)):=λi=>by rw [<-hY];exact OW E
    have P:zd ((dg 18446744073709551616 Y).length<=n - k):=by show _;rw [<-hY];exact OV HX.o hk
    have ac:zd (Y=X / 2^wD X):=by show _=_;rw [<-hY,HV.o]
    obtain⟨N,hN⟩:∃N,n - k=N:=⟨_,rfl⟩;obtain⟨C,hC⟩:∃N,d - k=N:=⟨_,rfl⟩;rw [hN] at P;have Z:=zb (show N+k=n by omega);have hck:¬(d=k):=za;have hNp:0<N:=za;have i3:(k:Int)<=(n:Int):=za;clear WT hr ha et V hY HV H;go_wp2_with fail;refine S.o.mono ?_;rintro e w' ⟨rfl,rfl⟩;go_wp2_with fail;have R:zJ w ty g d n (uC Y L 0):=by rw [R6];exact HR.o
    have Q:=y6.refl g w;clear ag ah M G hz S
    go_loopg [34] (N+1) (λgg ix wr=>∃i:Nat,i<=N/\N<gg+i/\ix=.int .i64 i/\zJ wr ty g d n (uC Y L i)/\y6 g w wr)
    case atStart=>exact⟨0,za,za,rfl,R,Q⟩
    case round=>
     clear R Q;obtain⟨i,hi,hgg,rfl,hR,hO⟩:=hrel;have hNn:=Z.o;have j0:(0:Int)<=(i:Int):=za;by_cases U:i<N
     ·have B:i<n:=za;have hw:=ad.o i;have I:=wX X (k+i);have O:=wX X (k+i+1);have k1:=hR.cell (k+i) za;rw [US za,J.o] at k1;have k2:=hR.cell i B;have k3:=hR.frozen i;have j1:(i:Int)<(N:Int):=za;have j2:(i:Int)<(n:Int):=za;have j3:IntKind.i64.wrap (64 - (r:Int))=64 - (r:Int):=QS _ za;have j4:IntKind.i64.wrap ((i:Int)+1)=(i:Int)+1:=QS _ za;obtain⟨b,hb⟩:∃b,wd X (k+i+1)=b:=⟨_,rfl⟩;obtain⟨v,hv⟩:∃b,wd X (k+i)=b:=⟨_,rfl⟩;obtain⟨u,hu⟩:∃b,(uC Y L i).getD i 0=b:=⟨_,rfl⟩;rw [hv] at k1 hw I;rw [hb] at hw O;rw [hu] at k2;have e1:(v:Int) / 2^r=((v / 2^r:Nat):Int):=zG;have j:=hR.set_ i (v / 2^r) B;rw [<-e1] at j;have F:=hO.set_ i (.int .u64 ((v:Int) / 2^r));have hll:=HL.o;by_cases hi1:i+1<N
      ·have m1:=j.cell i B;rw [Vh (by rw [OS za];omega),<-e1] at m1;have m2:=hR.cell (k+(i+1)) za;rw [US za,J.o,show wd X (k+(i+1))=b from by rw [<-xH];exact hb] at m2;have m3:=j.frozen i;have j5:(i:Int)+1<(N:Int):=za;have j6:((i:Int)+1).toNat=i+1:=za;have j7:(0:Int)<=(i:Int)+1:=za;have hc:=TI (b:=b) I E;have z:=j.drew.set_ i (v / 2^r+2^(64 - r)*(b%2^r)) B;rw [<-hc,OU za,<-hw,V0 za] at z;have ab:=zb z;have D:=(pM F).set_ i (.int .u64 (bits .or .u64 ((v:Int) / 2^r) (IntKind.u64.wrap ((b:Int)*2^(64 - r)))));have aa:=zb D;clear z D j F hR hO hc e1 hw hb hv hu I O;go_wp2_with fail;go_region;go_wp2;go_roundg (N - i)
       case measure=>omega
       case rel=>exact⟨i+1,za,za,by go_num,ab.o,aa.o⟩
      ·have ae:b=0:=by
        rw [<-hb,show k+i+1=n from by omega];unfold wd;rw [QB HX.o]
       rw [ae,Nat.zero_mod,yD,XX] at hw;rw [<-hw,V0 za] at j;have y:=zb j;have s:=zb F;have j5:¬((i:Int)+1<(N:Int)):=za;clear j F hR hO e1 hw hb hv hu I O;go_wp2;go_roundg (N - i)
       case measure=>omega
       case rel=>exact⟨i+1,za,za,by go_num,y.o,s.o⟩
     ·have U:i=N:=za;subst U;have HF:∀L',L'=uk Y i++List.replicate k 0->zd (zH 18446744073709551616 L'/\dv 18446744073709551616 L'=X / 2^wD X):=λL' e=>by
       subst e;refine⟨(VI _ _).append (zH.zeros zf _),?_⟩;rw [tF,iK,yD,XX,VH P.o,ac.o]
      have o:=zb (HF _ rfl);clear HF;have q1:n - i=k:=za;have q2:(i:Int)<=(n:Int):=za;rcases xQ k with hk0|hkp
      ·subst hk0;have B:i=n:=za;subst B;have y:zd (zJ wr ty g d i (uk Y i++List.replicate 0 0)):=by
        show zJ _ _ _ _ _ _;rw [show uC Y L i=uk Y i++List.replicate 0 0 from by unfold uC;rw [xA (by rw [HL.o];exact qX _)];rfl] at hR;exact hR
       have s:=zb hO;have af:∀(t:TypeId) (A:ze) (c:Nat),(Builtin.clear_ #[48] t #[.slice A 0 c]).run prog wr=.ok (.tuple #[]) wr:=λt A c=>PR t wr;clear hR hO;by_cases hce:d=i
       ·go_wp2;go_ret;exact .inr ⟨K.o,_,rfl,y.o,o.o.o.1,o.o.o.2,s.o⟩
       ·go_wp2;go_ret;exact .inr ⟨K.o,_,rfl,y.o,o.o.o.1,o.o.o.2,s.o⟩
      ·have hci:¬(d=i):=za;obtain⟨W2,af,z,D⟩:=QF (c:=d - i) (k:=i) (m:=k) (A:=uk Y i) (C:=L.drop i) hR (jc _ _) (by rw [xK,HL.o];omega) hkp;have y:=zb z;have s:=zb (hO.trans D);clear hR hO z D;go_wp2;go_ret;exact .inr ⟨K.o,_,rfl,y.o,o.o.o.1,o.o.o.2,s.o⟩
  ·have M:k=n:=za;subst M;have HZ:zd (X=0):=by
    show _=_;have h2:=H.o;rw [qS HX.o] at h2;exact h2
   go_wp2;go_ret;exact .inl ⟨HZ.o,rfl,rfl⟩
open Go Go.RowKit Go.Proofs.Tryz
set_option maxHeartbeats 16000000
set_option maxRecDepth 100000
theorem iy (h:zu w):0<w.heap.size:=xY w ⟨0,0,none⟩ (h 0 zf)
open Go Go.RowKit Go.Proofs.Tryz
set_option maxHeartbeats 16000000
theorem Wm {xs:List Rat}:(xs.drop n).getD j 0=xs.getD (n+j) 0:=by
 rw [qQ,qQ,yW]
