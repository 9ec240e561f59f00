/- What this claim leans on. -/
import Derived.Test.YtipmllfnpldbdaaGreatDoorFBunO
import Derived.Test.YtipmllfnpldbdaaGreatDoorFBunM
import Derived.IntWalk
import Derived.LoopIn
import Derived.LoopNIn
import Derived.OrdersHeld
import Derived.OrdersIn
import Derived.OwnWalkIn
import Derived.RangeFuncBound
import Derived.RangeFuncCalls
import Derived.RangeFuncLeaves
import Derived.RangeFuncNested
import Derived.Shelf.Abstract
import Derived.Shelf.RegionOpen
import Derived.TacticsInMore
set_option linter.unusedVariables false
set_option linter.unusedSimpArgs false
namespace Go.Proofs.YtipmllfnpldbdaaGreatDoor
open Go Go.RowKit Go.Proofs.Tryz
set_option maxHeartbeats 16000000
set_option maxRecDepth 100000
variable {a:Act}{args:Array Value}{B b:Nat}{W W' w:World}
theorem ed (p q r s:Nat)(hp:p<18446744073709551616)(hq:q<18446744073709551616)(hr:r<18446744073709551616)(hs:s<18446744073709551616)(w:World):
  Calls prog 119 #[.int .u64 p,.int .u64 q,.int .u64 r,.int .u64 s] w λe w'=>e=.returned (.tuple #[.int .u64 (((p*q+r+s) / 18446744073709551616:Nat):Int),.int .u64 (((p*q+r+s)%18446744073709551616:Nat):Int)])/\w=w':=by
 have h:=ZT p q r s ⟨za,za⟩ ⟨za,za⟩ ⟨za,za⟩ ⟨za,za⟩ w;rw [(tI p q r s).1,(tI p q r s).2] at h;exact h
theorem kV (x y:Nat)(A D:zf)(n m c d:Nat)(w:World)(hA:zo w x A n c)(hD:zo w y D m d)(hn:n<=274877906944)(hm:m<=274877906944):
  Calls prog 98 #[.agg #[.slice A n c],.agg #[.slice D m d]] w (yq w (x*y)):=by
 obtain⟨i0,ae,ai,aj,ak⟩:=info_parts rE;have af:=zd hA.len;have U:=zd hD.len;have HA:=zm w (λw' hb=>hA.below hb);have HW:=(λw' (hb:Below w.heap.size w w')=>nA y D m d w' (hD.below hb) za);unfold iN at HW;rw [U.o] at HW;have X:=zd HW;obtain⟨N,hN⟩:∃N,n+m=N:=⟨_,rfl⟩;have HN:=zd hN;have hN1:N<=549755813888:=za;obtain⟨Z,hZ⟩:∃Z,madeCells (Value.cells (.int .u64 0)) N=Z:=⟨_,rfl⟩;have ag:∀W:World,(Instr.makeSlice 54 (.int .i64 ((n:Int)+(m:Int))) (.int .i64 ((n:Int)+(m:Int)))).run prog W=.ok (.slice (some ⟨W.heap.size,0,none⟩) N N) (W.alloc (.cells Z 141)):=λW=>by
  have h:=uw _ _ i0 _ underlying54 ae ai .i64 .i64 N N (qX _) (by rw [ak];omega) za W;rw [aj,xO,hZ] at h;rw [show(n:Int)+(m:Int)=(N:Int) from by omega];exact h
 have HZ:=zd hZ;clear hZ hA hD hN HW;go_enter func98,ntmps98;go_wp2_with fail;generalize hW:((w.alloc (.cells #[.slice A n c] 56)).alloc (.cells #[.slice D m d] 56)).alloc (.cells #[.slice none 0 0] 56)=W0;obtain⟨b1,b2,b3,b4,b5⟩:=yd w 56 56 56 #[.slice A n c] #[.slice D m d] #[.slice none 0 0];rw [hW] at b1 b2 b3 b4 b5;have g1:W0.cell? ⟨w.heap.size,0,none⟩=some (.slice A n c):=b2.cell 0;clear hW b2 b3;refine(X.o _ b1).mono ?_;rintro e w1 ⟨A1,c1,rfl,i,_,⟨_,ac⟩,hb⟩;have hB:=ze b1 hb;have g1:=zq hb g1;have hk:=zj hb b4;have I:w.heap.size+3<=w1.heap.size:=qA b5 hb.size;clear hb b1 b4 b5 ac;go_wp2_with fail;refine(wP x _ _ _ _).mono ?_;rintro e w2 ⟨rfl,hb⟩;have hB:=ze hB hb;have g1:=zq hb g1;have hk:=zj hb hk;have i:=(i.below hb).more hb.size;have I:w.heap.size+3<=w2.heap.size:=qA I hb.size;have Y:=λo=>yo o g1;clear hb;go_wp2_with fail;have hR:zw (w2.alloc (.cells Z 141)) 141 w2.heap.size N N (List.replicate N 0):=by
  have h:=zw.made w2 141 N (by unfold maxLen;omega);rw [HZ.o] at h;exact h
 obtain⟨gs,G⟩:∃g,w2.heap.size=g:=⟨_,rfl⟩;have hB:=ym (.cells Z 141) hB;have g1:=yo (.cells Z 141) g1;have hk:=hk.alloc (.cells Z 141);have i:=(i.alloc (qX _) (.cells Z 141)).more (B':=gs) za;rw [G] at hR I;generalize w2.alloc (.cells Z 141)=W3 at*;rw [G];clear G ag Y;refine(wP x _ _ _ _).mono ?_;rintro e w4 ⟨rfl,hb⟩;have hB:=ze hB hb;have g1:=zq hb g1;have hk:=zj hb hk;have i:=i.below (hb.mono (YX hR.lt));have hR:=hR.keep hb;have hI:=zd (rf.start x y m N);clear hb;go_wp2_with fail
 go_loopg [22] (n+1) (λg ix wr=>∃(k:Nat) (L:List Nat),k<=n/\n<g+k/\ix=.int .i64 k/\rf x y k m N L/\zw wr 141 gs N N L/\Below w.heap.size w wr/\wr.cell? ⟨w.heap.size,0,none⟩=some (.slice A n c)/\zi wr (w.heap.size+1+1) 56 #[.slice none 0 0]/\zE wr gs 1 A1 m (zv .u64 (dg 18446744073709551616 y)))
 case atStart=>exact⟨0,_,QE _,za,rfl,hI.o,hR,hB,g1,hk,i⟩
 case round=>
  clear hB g1 hk i hR hI;obtain⟨k,L0,hkn,hg,rfl,hM,hR,hB,g1,hk,i⟩:=hrel;obtain⟨wo,ah⟩:∃wo,wo=wr:=⟨_,rfl⟩;subst ah;by_cases hlt:k<n
  ·have WX:=zm w (λw' h=>ow x A n c k w' (HA.o w' h));have ha:=xj x k;have F:=zd (ww.start y (wd x k) k hM.len hM.dgs);have E:=zd (λL c (h:ww L0 y (wd x k) k m N L c)=>rf.step hM h (by have:=U.o;omega) (by have:=HN.o;omega));obtain⟨a,P⟩:∃a,wd x k=a:=⟨_,rfl⟩;rw [P] at WX ha F E;clear P hM;go_wp2_with fail;refine(WX.o _ hB).mono ?_;rintro e w5 ⟨rfl,hb⟩;have hB:=ze hB hb;have g1:=zq hb g1;have hk:=zj hb hk;have i:=i.below (hb.mono (YX hR.lt));have hR:=hR.keep hb;clear hb;go_wp2_with fail
   go_loopg [9,30] (m+1) (λg cy jx wr=>∃(j cc:Nat) (L:List Nat),j<=m/\m<g+j/\jx=.int .i64 j/\cy=.int .u64 cc/\ww L0 y a k j N L cc/\zw wr 141 gs N N L/\Below w.heap.size w wr/\wr.cell? ⟨w.heap.size,0,none⟩=some (.slice A n c)/\zi wr (w.heap.size+1+1) 56 #[.slice none 0 0]/\zE wr gs 1 A1 m (zv .u64 (dg 18446744073709551616 y)))
   case atStart=>exact⟨0,0,L0,QE _,za,rfl,rfl,F.o,hR,hB,g1,hk,i⟩
   case round=>
    clear hB g1 hk i hR F;obtain⟨j,cc,L,hjm,hg2,rfl,rfl,hI,hR,hB,g1,hk,i⟩:=hrel;by_cases hjl:j<m
    ·have t:=HN.o;obtain⟨ad,rfl,hadb,h1⟩:=uj i (k:=j) hjl;rw [rC] at h1;have hp:=hI.dgs.getD zh (k+j);have h2:=hR.cell (k+j) za;have h3:=hR.frozen (k+j);have Q:=xj y j;have ab:=hI.carry;have B:=hI.step (s:=wd y j*a+L.getD (k+j) 0+cc) ha za rfl;obtain⟨b,R⟩:∃b,wd y j=b:=⟨_,rfl⟩;obtain⟨p,V⟩:∃b,L.getD (k+j) 0=b:=⟨_,rfl⟩;rw [R] at h1 Q B;rw [V] at h2 hp B;have J:=zd (λw'=>ed b a p cc Q ha hp ab w');obtain⟨s1,e1⟩:∃s1,(b*a+p+cc)%18446744073709551616=s1:=⟨_,rfl⟩;obtain⟨s2,e2⟩:∃s2,(b*a+p+cc) / 18446744073709551616=s2:=⟨_,rfl⟩;rw [e1,e2] at J B;have M:=zd B;have z:=zd (hR.set_ (k+j) s1 za);obtain⟨q,hq⟩:∃q,k+j=q:=⟨_,rfl⟩;rw [hq] at h2 h3 M z;have i1:(0:Int)<=(k:Int)+(j:Int):=za;have i2:(k:Int)+(j:Int)<(N:Int):=za;have i3:((k:Int)+(j:Int)).toNat=q:=za;have C:=λu=>zG (p:=⟨gs,q,none⟩) u (by show w.heap.size<=gs;omega) hB;have gS:=λu=>zS (p:=⟨w.heap.size,0,none⟩) (q:=⟨gs,q,none⟩) u (by show w.heap.size≠gs;omega) g1;have kS:=λu=>hk.far (p:=⟨gs,q,none⟩) (by show w.heap.size+1+1≠gs;omega) u;clear B R V e1 e2 hI hq t;go_wp2_with fail;refine(J.o _).mono ?_;rintro e w' ⟨rfl,rfl⟩;go_wp2;go_roundg (m - j)
     case measure=>omega
     case rel=>exact⟨j+1,s2,_,za,za,by go_num,rfl,M.o,z.o,C _,gS _,kS _,i.setCell (qX _) _⟩
    ·have S:j=m:=za;subst S;have t:=HN.o;have h3:=hR.frozen (k+j);have K:=zd (E.o L cc hI);have z:=zd (hR.set_ (k+j) cc za);obtain⟨u,hu⟩:∃u,wr.cell? ⟨gs,k+j,none⟩=some u:=⟨_,hR.cell (k+j) za⟩;obtain⟨q,hq⟩:∃q,k+j=q:=⟨_,rfl⟩;rw [hq] at h3 K z hu;have i1:(0:Int)<=(k:Int)+(j:Int):=za;have i2:(k:Int)+(j:Int)<(N:Int):=za;have i3:((k:Int)+(j:Int)).toNat=q:=za;have C:=λu=>zG (p:=⟨gs,q,none⟩) u (by show w.heap.size<=gs;omega) hB;have gS:=λu=>zS (p:=⟨w.heap.size,0,none⟩) (q:=⟨gs,q,none⟩) u (by show w.heap.size≠gs;omega) g1;have kS:=λu=>hk.far (p:=⟨gs,q,none⟩) (by show w.heap.size+1+1≠gs;omega) u;clear hI hq t E;go_wp2;go_roundg (n - k)
     case measure=>omega
     case rel=>exact⟨k+1,_,za,za,by go_num,K.o,z.o,C _,gS _,kS _,i.setCell (qX _) _⟩
  ·have T:k=n:=za;subst T;have t:=HN.o;have e:=rf.done (L:=L0) (by rw [t];exact hM) (by have:=af.o;omega);have O:=vr (some ⟨gs,0,none⟩) N N L0 wo hR.reads hM.dgs (qX _) za za;rw [e] at O;have HO:=zd O;clear O e t hM;go_wp2_with fail;refine HO.o.mono ?_;rintro e w' ⟨A2,n2,c2,rfl,hw,hb,hf⟩;have H:=zj hb hk;have aa:w'.cell? ⟨w.heap.size+1+1,0,none⟩=some (.slice none 0 0):=H.cell 0;have hf1:=H.frozen 0;have hsz:=hR.lt;have HG : zg (yq w (x * y) (.returned (.agg #[.slice A2 n2 c2])) (w'.setCell ⟨w.heap.size + 1 + 1,0,none⟩ (.slice A2 n2 c2))) :=
    kT hw (ze hB hb) (by show _<=_;simp;omega) (λad e=>by have:=hf ad e;show ad.block≠_;simp;omega) (λad e=>by have:=hf ad e;omega) _
   clear hb hw hf H hsz hk hB g1 i hR;go_wp2;refine bodyPost_ret (v:=.agg #[.slice A2 n2 c2]) (by simp [results,results98,go_sem,aa]) rfl ?_;exact HG.o
def Xk (I:Nat->World->Prop)(k:Nat)(W:World):Exit->Act->World->Prop:=λe _ W'=>e=.normal/\KeepsOthers W W'/\I k W'
def fs (P:Program)(gf:Nat)(lb:Array Value)(enc:Nat->Array Value)(N:Nat)(I:Nat->World->Prop):Prop:=
 ∀ (l : Nat) (J : Nat → World → Prop) (W : World),(∀ k W,J k W → I k W) →
  (∀k W,k<N->J (k+1) W->YieldAt Fence.wide 1 P l (enc k) W λe W'=>e=.returned (.bool true)/\J k W')->
  J N W->CallsIn Fence.wide 2 P gf (#[.func (.yield l) #[] #[]]++lb) W λe W'=>(∃v,e=.returned v)/\J 0 W'
theorem mw {I:Nat->World->Prop}{k:Nat}{o:Obj}(hI:∀k,OwnFrom w.heap.size (fun(_:Unit) W=>I k W))(h:I k W)(hb:w.heap.size<=b)(ho:W.heap[b]?=some o)(hc:o.isCells=false)(o':Obj):I k (W.putObj b o'):=
 (hI k).putObj (s:=()) o' h hb ho hc
theorem ef {P:Program}{g:Operand}{ps:Array Tmp}{assign body:Code}{Q:Exit->Act->World->Prop}{gf:Nat}{lb:Array Value}(hg:a.eval g=.func (.func gf) #[] lb)
  (eg:∀args w,(callFunc gf args).run P w=.ok (.enter gf args) w) (N:Nat) (i:Nat->Array Value) (A:∀k,(i k).size=ps.size) (I:Nat->World->Prop) (hI:∀k,OwnFrom w.heap.size (fun(_:Unit) W=>I k W)) (h0:I N w)
  (u:fs P gf lb i N I) (a1:Nat->Act)
  (d:∀(l k:Nat) (W:World) (K:Act->World->Prop),K (a1 k) W->assign.wpIn (Fence.wide.inRound l) 1 P (Exit.then K (λ_ _ _=>False)) {tmps:=(ps.zip (i k)).foldl (λt (p,v)=>t.setIfInBounds p v) a.tmps,defers:=[]} W)
  (j:∀(l k:Nat) (W:World),k<N->I (k+1) W->body.wpIn (Fence.wide.inRound l) 1 P (Xk I k W) (a1 k) W)
  (m:∀(D:Nat) (W:World),w.heap.size<=D->I 0 W->W.heap[D]?=some (.deferred (some []))->Q .normal {a with defers:={target:=.collected D,args:=#[]}::a.defers} W):
  (Code.rangeFunc g ps assign body).wpIn Fence.wide 3 P Q a w:=by
 refine wpIn_rangeFunc λfn z=>?_;obtain⟨r,hr⟩:∃r:Loop,r={state:=.ready,pending:=none,fn,tmps:=a.tmps,params:=ps,assign,body,defers:=w.heap.size}:=⟨_,rfl⟩;obtain⟨V,hV⟩:∃V,(w.alloc (.deferred (some []))).alloc (.loop r)=V:=⟨_,rfl⟩;have gV:w.grownBy V none:=by rw [<-hV];exact(yM w _ none).trans (yM _ _ none)
 have rV:V.heap[w.heap.size+1]?=some (.loop r):=by
  have h:=World.alloc_heap_new (w.alloc (.deferred (some []))) (.loop r);rw [yZ,hV] at h;exact h
 have dV:V.heap[w.heap.size]?=some (.deferred (some [])):=by
  have h:=World.alloc_heap_new w (.deferred (some []));rw [<-hV,Below.heap_alloc _ _ _ zD];exact h
 have iV:I N V:=hI N () w V none h0 gV (λ_ e=>by cases e);refine⟨w.heap.size+1,[{target:=.collected w.heap.size,args:=#[]}],V,{target:=.fn (.func gf) lb,args:=#[.func (.yield (w.heap.size+1)) #[] #[]]},V,gf,#[.func (.yield (w.heap.size+1)) #[] #[]]++lb,V,?_,?_,λ_ _=>trivial,?_,λ_=>by omega,?_⟩
 ·rw [<-hV,hr];exact run_enterLoop_outer _ _ _ _ _
 ·simp only [resolve,hg];simp [go_sem]
 ·simp [invoke,go_sem,eg]
 refine(u (w.heap.size+1) (λk W=>I k W/\W.heap[w.heap.size+1]?=some (.loop r)/\W.heap[w.heap.size]?=some (.deferred (some []))) V (λ_ _ h=>h.1) ?_ ⟨iV,rV,dV⟩).mono ?_
 ·rintro k W hk ⟨iW,rW,dW⟩;have hy:=run_yield (P:=P) (args:=i k) rW (by rw [hr];exact A k);have lt:=(Array.getElem?_eq_some_iff.1 rW).1;obtain⟨rb,y⟩:∃rb:Loop,rb={r with state:=.busy}:=⟨_,rfl⟩;have rX:(W.putObj (w.heap.size+1) (.loop rb)).heap[w.heap.size+1]?=some (.loop rb):=World.putObj_heap_same lt;have dX:(W.putObj (w.heap.size+1) (.loop rb)).heap[w.heap.size]?=some (.deferred (some [])):=(World.putObj_heap_other za).trans dW;have iX:I (k+1) (W.putObj (w.heap.size+1) (.loop rb)):=mw hI iW za rW rfl _;rw [hr] at hy;refine⟨fn,_,assign,body,hy,roundIn_of_wpIn z (d _ k W _ ⟨_,by have h:=run_beginRound (P:=P) rW (by rw [hr]);rw [<-y] at h;exact h,?_⟩)⟩;refine wpIn_mono (j _ k _ hk iX) ?_;rintro e a3 W3 ⟨rfl,x,i3⟩;have r3:=x.same _ _ rX rfl;have d3:=x.same _ _ dX rfl;have B:=(Array.getElem?_eq_some_iff.1 r3).1;have he:=run_endRound (P:=P) none r3;refine⟨_,_,he,rfl,mw hI i3 za r3 rfl _,?_,(World.putObj_heap_other za).trans d3⟩;rw [World.putObj_heap_same B,y,hr];rfl
 ·rintro e W2 ⟨⟨v,rfl⟩,i2,r2,d2⟩;have he:=run_endLoop (P:=P) r2 (by rw [hr];simp);rw [show r.pending=none from by rw [hr]] at he;exact⟨none,_,he,m _ _ (qX _) (mw hI i2 za r2 rfl _) ((World.putObj_heap_other za).trans d2)⟩
attribute [local go_sem] Oper.semAt_some
theorem gY (Bs len j:Nat)(A:zf)(v:Nat->Nat)(I:Nat->World->Prop)(hlen:len<=1099511627776)
  (d:∀k W,I k W->W.cell? ⟨Bs,0,none⟩=some (.slice A len j)) (g:∀k W,k<len->I (k+1) W->∃ad,A=some ad/\W.cell? (ad.add k)=some (.int .u64 (v k:Int))):
  fs prog 155 #[.pointer (some ⟨Bs,0,none⟩)] (λk=>#[.int .i64 (k:Int),.int .u64 (v k:Int)]) len I:=by
 intro l J W hJ hY h0;have t:=d _ _ (hJ _ _ h0);have HB:=zd (λk W (h:J k W)=>d k W (hJ k W h));have HC:=zd (λk W (hk:k<len) (h:J (k+1) W)=>g k W hk (hJ _ _ h));have HY:=zd hY;have H0:=zd h0;have u:IntKind.i64.wrap ((len:Int) - 1)=(len:Int) - 1:=by rw [IntKind.wrap_i64];omega
 clear hJ hY h0 d g;refine callsIn_of_wp func155 rfl trivial ?_ rfl;simp only [ntmps155,xH,xX,YY,Nat.reduceAdd,Nat.reduceSub,yA,yB,List.push_toArray,yN,XP,yX]
 gi_wp2
 clear t u
 gi_loopw [3] (λi wr=>∃k:Nat,k<=len/\i=.int .i64 ((k:Int) - 1)/\J k wr) (λi _=>(intOf i+1).toNat)
 case atStart=>exact⟨len,qX _,rfl,H0.o⟩
 case round=>
  obtain⟨k,hk,rfl,a⟩:=hrel;have hb:=HB.out _ _ a;rcases k with _|k
  ·rw [show((0:Nat):Int) - 1= -1 from by decide];clear hb
   gi_wp2
   go_end0
   exact⟨⟨_,rfl⟩,a⟩
  ·obtain⟨ad,rfl,hc⟩:=HC.o k wr hk a;obtain⟨fn,tmps,assign,body,hy,hR⟩:=HY.o k wr hk a;rw [show((k+1:Nat):Int) - 1=(k:Int) from by omega];have i1:(0:Int)<=(k:Int):=za;have i2:(k:Int)<(len:Int):=za;have i3:IntKind.i64.wrap ((k:Int) - 1)=(k:Int) - 1:=by rw [IntKind.wrap_i64];omega
   obtain⟨z,hz⟩:∃z,v k=z:=⟨_,rfl⟩
   try dsimp only at hy
   rw [hz] at hc hy;clear hz a
   gi_wp2
   refine hR.mono ?_;rintro e W3 ⟨rfl,m⟩
   gi_wp2
   go_roundw
   case rel=>exact⟨k,za,rfl,m⟩
   case measure=>simp [intOf]
theorem jI (A:zf)(len a:Nat)(w:World):
  Calls prog 149 #[.slice A len a] w λe w'=>e=.returned (.func (.func 155) #[] #[.pointer (some ⟨w.heap.size,0,none⟩)])/\w.alloc (.cells #[.slice A len a] 54)=w':=by
 go_enter func149,ntmps149;go_wp2;go_ret;exact⟨rfl,rfl⟩
section
variable {P:Program}{md:Region.Mode}{ops:Array Oper}{Q:Exit->Act->World->Prop}{l n:Nat}
theorem ZP {f:FuncId}{R R':Ending->World->Prop}(h:Calls P f args w R)(hr:∀e w,R e w->R' e w):CallsIn (Fence.wide.inRound l) n P f args w R':=
 CallsIn.inRound l (callsIn_wide.2 (h.mono hr))
theorem Yu {row:String}{R R':Value->World->Prop}(h:Rows P row args w R)(hr:∀e w,R e w->R' e w):RowsIn (Fence.wide.inRound l) n P row args w R':=
 λc cs _=>let ⟨v,w',r,s⟩:=h c cs;⟨v,w',hr _ _ r,stepsIn_wide.2 s⟩
theorem sm {o:Oper}{K K':Act->World->Prop}(hd:∀c,o.op≠.defer c)(hK:∀a w,K a w->K' a w)(h:o.wp P a w K Q):o.wpIn (Fence.wide.inRound l) n P a w K' Q:=by
 refine⟨λ_ _=>trivial,?_⟩;rw [Oper.semAt_eq _ _ _ hd];unfold Oper.wp at h;generalize (execOp a.eval o).run P w=r at h⊢;cases r with
 |ok x w'=>
   cases x <;> simp only [Oper.upon,Oper.uponIn] at h ⊢ <;>
    first
     |exact hK _ _ h
     |exact⟨λe=>by simp [Fence.wide] at e,ZP h (λe w'' he=>by cases e<;>first|exact hK _ _ he|exact he)⟩
     |exact⟨λe=>by simp [Fence.wide] at e,Yu h (λ_ _ he=>hK _ _ he)⟩
     |exact h.elim
 |halt x w'=>cases x<;>simp only [Oper.upon,Oper.uponIn] at h⊢<;>exact h
theorem kK (hd:∀(i:Nat) (o:Oper),ops[i]?=some o->∀c,o.op≠.defer c)(hQ:¬ LetsOut Q):∀(d:Nat) (g:Array Bool) (a:Act) (w:World),wpAny P md ops Q d g a w->wpAnyIn (Fence.wide.inRound l) n P md ops Q d g a w
 |0,_,_,_,h=>h
 |d+1,g,a,w,h=>by
   refine⟨h.1,λi hi=>?_⟩;have h2:=h.2 i hi;unfold wpOp at h2;unfold wpOpIn;cases ho:ops[i]? with
   |none=>rw [ho] at h2;exact kK hd hQ d _ _ _ h2
   |some o=>
     rw [ho] at h2;simp only at h2⊢
     split
     ·rename_i hw
      rw [if_pos hw] at h2;rcases h2 with h2|h2
      ·exact sm (hd i o ho) (kK hd hQ d _) h2
      ·exact absurd h2.2 hQ
     ·rename_i hw
      rw [if_neg hw] at h2;exact⟨λ_ _=>trivial,kK hd hQ d _ _ _ h2⟩
def cG (ops:Array Oper):Bool:=ops.all λo=>match o.op with|.defer _=>false|_=>true
theorem Zt (h:cG ops=true)(i:Nat)(o:Oper)(ho:ops[i]?=some o)(c:Call):o.op≠.defer c:=by
 intro e;have h1:=Array.all_eq_true.1 h i (Array.getElem?_eq_some_iff.1 ho).1;rw [(Array.getElem?_eq_some_iff.1 ho).2,e] at h1;cases h1
theorem fm {id:Nat}{S:World->Prop}(hm:P.follows .mixedOrders=true)(hd:cG ops=true)(hQ:∀a w,¬ Q .outgrown a w)(hS:S w.drew)
  (h:S w.drew->wpAnyH P .any ops Q S ops.size (Array.replicate ops.size false) a w.drew):(Code.region id ops true).wpIn (Fence.wide.inRound l) n P Q a w:=
 wpIn_region_any hm (kK (Zt hd) (fun⟨a,w,h⟩=>hQ a w h) _ _ _ _ (wpAny_of_held _ _ _ _ (h hS)))
end
theorem va {t:TypeId}{cs:Array Value}{row:Option Nat}(h:zi W b t cs)(hg:W.grownBy W' row)(hr:∀r,row=some r->B<=r/\∃o:Obj,W.heap[r]?=some o/\o.isCells=false):zi W' b t cs:=
 h.grown hg (λe=>by
  obtain⟨_,o,ho,hc⟩:=hr b e.symm;rw [show W.heap[b]?=_ from h] at ho;cases ho;cases hc)
theorem kv {B0:Nat}{row:Option Nat}(h:Below B0 w W)(h0:B0<=w.heap.size)(hB:B0<=B)(hg:W.grownBy W' row)(hr:∀r,row=some r->B<=r/\∃o:Obj,W.heap[r]?=some o/\o.isCells=false):Below B0 w W':=
 h.grown hg (qA h0 h.size) (λr e=>qA hB (hr r e).1)
