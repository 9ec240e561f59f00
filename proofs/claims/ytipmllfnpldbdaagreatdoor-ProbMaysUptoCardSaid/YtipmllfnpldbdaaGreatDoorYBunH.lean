/- What this claim leans on. -/
import Derived.Test.YtipmllfnpldbdaaGreatDoorYBunY
set_option linter.unusedVariables false
set_option linter.unusedSimpArgs false
namespace Go.Proofs.YtipmllfnpldbdaaGreatDoor
open Go Go.RowKit Go.Proofs.Tryz
set_option maxHeartbeats 16000000
set_option maxRecDepth 100000
variable {L1 L2:List Nat}{B q1:Nat}{w:World}
attribute [local go_sem] Oper.semAt_some
def uT (I:Nat->World->Prop)(X:World->Prop)(k:Nat)(W:World):Exit->Act->World->Prop:=λe _ W'=>KeepsOthers W W'/\(e=.normal/\I k W'\/e=.ret/\X W')
def cM (P:Program)(gf:Nat)(lb:Array Value)(enc:Nat->Array Value)(N:Nat)(I:Nat->World->Prop):Prop:=
 ∀ (l : Nat) (J : Nat → World → Prop) (Jx : World → Prop) (W : World),(∀ k W,J k W → I k W) →
  (∀k W,k<N->J (k+1) W->YieldAt Fence.wide 1 P l (enc k) W λe W'=>e=.returned (.bool true)/\J k W'\/e=.returned (.bool false)/\Jx W')->
  J N W->CallsIn Fence.wide 2 P gf (#[.func (.yield l) #[] #[]]++lb) W λe W'=>(∃v,e=.returned v)/\(J 0 W'\/Jx W')
theorem cQ {W:World}{X:World->Prop}{b:Nat}{o:Obj}(hX:OwnFrom w.heap.size (fun(_:Unit) W=>X W))(h:X W)(hb:w.heap.size<=b)(ho:W.heap[b]?=some o)(hc:o.isCells=false)(o':Obj):X (W.putObj b o'):=
 hX.putObj (s:=()) o' h hb ho hc
theorem VE {P:Program}{g:Operand}{ps:Array Tmp}{assign body:Code}{Q:Exit->Act->World->Prop}{a:Act}{gf:Nat}{lb:Array Value}(hg:a.eval g=.func (.func gf) #[] lb)
  (eg:∀args w,(callFunc gf args).run P w=.ok (.enter gf args) w) (N:Nat) (i:Nat->Array Value) (E:∀k,(i k).size=ps.size) (I:Nat->World->Prop) (X:World->Prop) (hI:∀k,OwnFrom w.heap.size (fun(_:Unit) W=>I k W)) (hX:OwnFrom w.heap.size (fun(_:Unit) W=>X W)) (h0:I N w)
  (u:cM P gf lb i N I) (a1:Nat->Act)
  (d:∀(l k:Nat) (W:World) (K:Act->World->Prop),K (a1 k) W->assign.wpIn (Fence.wide.inRound l) 1 P (Exit.then K (λ_ _ _=>False)) {tmps:=(ps.zip (i k)).foldl (λt (p,v)=>t.setIfInBounds p v) a.tmps,defers:=[]} W)
  (j:∀(l k:Nat) (W:World),k<N->I (k+1) W->body.wpIn (Fence.wide.inRound l) 1 P (uT I X k W) (a1 k) W)
  (m:∀(D:Nat) (W:World),w.heap.size<=D->I 0 W->W.heap[D]?=some (.deferred (some []))->Q .normal {a with defers:={target:=.collected D,args:=#[]}::a.defers} W)
  (z:∀(D:Nat) (W:World),w.heap.size<=D->X W->W.heap[D]?=some (.deferred (some []))->Code.ret.wpIn Fence.wide 3 P Q {a with defers:={target:=.collected D,args:=#[]}::a.defers} W):
  (Code.rangeFunc g ps assign body).wpIn Fence.wide 3 P Q a w:=by
 refine wpIn_rangeFunc λfn C=>?_;obtain⟨r,hr⟩:∃r:Loop,r={state:=.ready,pending:=none,fn,tmps:=a.tmps,params:=ps,assign,body,defers:=w.heap.size}:=⟨_,rfl⟩;obtain⟨V,hV⟩:∃V,(w.alloc (.deferred (some []))).alloc (.loop r)=V:=⟨_,rfl⟩;have gV:w.grownBy V none:=by rw [<-hV];exact(yI w _ none).trans (yI _ _ none)
 have rV:V.heap[w.heap.size+1]?=some (.loop r):=by
  have h:=World.alloc_heap_new (w.alloc (.deferred (some []))) (.loop r);rw [yK,hV] at h;exact h
 have dV:V.heap[w.heap.size]?=some (.deferred (some [])):=by
  have h:=World.alloc_heap_new w (.deferred (some []));rw [<-hV,Below.heap_alloc _ _ _ zD];exact h
 have iV:I N V:=hI N () w V none h0 gV (λ_ e=>by cases e);refine⟨w.heap.size+1,[{target:=.collected w.heap.size,args:=#[]}],V,{target:=.fn (.func gf) lb,args:=#[.func (.yield (w.heap.size+1)) #[] #[]]},V,gf,#[.func (.yield (w.heap.size+1)) #[] #[]]++lb,V,?_,?_,λ_ _=>trivial,?_,λ_=>by omega,?_⟩
 ·rw [<-hV,hr];exact run_enterLoop_outer _ _ _ _ _
 ·simp only [resolve,hg];simp [go_sem]
 ·simp [invoke,go_sem,eg]
 obtain⟨rx,y⟩:∃rx:Loop,rx={r with state:=.done,pending:=some .ret}:=⟨_,rfl⟩;refine (u (w.heap.size + 1) (fun k W => I k W ∧ W.heap[w.heap.size + 1]? = some (.loop r) ∧ W.heap[w.heap.size]? = some (.deferred (some [])))
  (λW=>X W/\W.heap[w.heap.size+1]?=some (.loop rx)/\W.heap[w.heap.size]?=some (.deferred (some []))) V (λ_ _ h=>h.1) ?_ ⟨iV,rV,dV⟩).mono ?_
 ·rintro k W hk ⟨iW,rW,dW⟩;have hy:=run_yield (P:=P) (args:=i k) rW (by rw [hr];exact E k);have lt:=(Array.getElem?_eq_some_iff.1 rW).1;obtain⟨rb,x⟩:∃rb:Loop,rb={r with state:=.busy}:=⟨_,rfl⟩;have rY:(W.putObj (w.heap.size+1) (.loop rb)).heap[w.heap.size+1]?=some (.loop rb):=World.putObj_heap_same lt;have dX:(W.putObj (w.heap.size+1) (.loop rb)).heap[w.heap.size]?=some (.deferred (some [])):=(World.putObj_heap_other za).trans dW;have iX:I (k+1) (W.putObj (w.heap.size+1) (.loop rb)):=mJ hI iW za rW rfl _;rw [hr] at hy;refine⟨fn,_,assign,body,hy,roundIn_of_wpIn C (d _ k W _ ⟨_,by have h:=run_beginRound (P:=P) rW (by rw [hr]);rw [<-x] at h;exact h,?_⟩)⟩;refine wpIn_mono (j _ k _ hk iX) ?_;rintro e a3 W3 ⟨A,h3⟩;have r3:=A.same _ _ rY rfl;have d3:=A.same _ _ dX rfl;have B:=(Array.getElem?_eq_some_iff.1 r3).1;rcases h3 with⟨rfl,i3⟩|⟨rfl,x3⟩
  ·have he:=run_endRound (P:=P) none r3;refine⟨_,_,he,.inl ⟨rfl,mJ hI i3 za r3 rfl _,?_,(World.putObj_heap_other za).trans d3⟩⟩;rw [World.putObj_heap_same B,x,hr];rfl
  ·have he:=run_endRound (P:=P) (some .ret) r3;refine⟨_,_,he,.inr ⟨rfl,cQ hX x3 za r3 rfl _,?_,(World.putObj_heap_other za).trans d3⟩⟩;rw [World.putObj_heap_same B,y,x,hr];rfl
 ·rintro e W2 ⟨⟨v,rfl⟩,⟨i2,r2,d2⟩|⟨x2,r2,d2⟩⟩
  ·have he:=run_endLoop (P:=P) r2 (by rw [hr];simp);rw [show r.pending=none from by rw [hr]] at he;exact⟨none,_,he,m _ _ (qX _) (mJ hI i2 za r2 rfl _) ((World.putObj_heap_other za).trans d2)⟩
  ·have he:=run_endLoop (P:=P) r2 (by rw [y];simp);rw [show rx.pending=some .ret from by rw [y]] at he;exact⟨some .ret,_,he,z _ _ (qX _) (cQ hX x2 za r2 rfl _) ((World.putObj_heap_other za).trans d2)⟩
theorem Yl (Bs len j:Nat)(A:zf)(v:Nat->Nat)(I:Nat->World->Prop)(hlen:len<=1099511627776)
  (d:∀k W,I k W->W.cell? ⟨Bs,0,none⟩=some (.slice A len j)) (g:∀k W,k<len->I (k+1) W->∃ad,A=some ad/\W.cell? (ad.add k)=some (.int .u64 (v k:Int))):
  cM prog 155 #[.pointer (some ⟨Bs,0,none⟩)] (λk=>#[.int .i64 (k:Int),.int .u64 (v k:Int)]) len I:=by
 intro l J Jx W hJ hY h0;have m:=d _ _ (hJ _ _ h0);have HB:=zd (λk W (h:J k W)=>d k W (hJ k W h));have HC:=zd (λk W (hk:k<len) (h:J (k+1) W)=>g k W hk (hJ _ _ h));have HY:=zd hY;have H0:=zd h0;have t:IntKind.i64.wrap ((len:Int) - 1)=(len:Int) - 1:=by rw [IntKind.wrap_i64];omega
 clear hJ hY h0 d g;refine callsIn_of_wp func155 rfl trivial ?_ rfl;simp only [ntmps155,xH,xY,YZ,Nat.reduceAdd,Nat.reduceSub,yM,yN,List.push_toArray,yW,XR,yZ]
 gi_wp2
 clear m t
 gi_loopw [3] (λi wr=>∃k:Nat,k<=len/\i=.int .i64 ((k:Int) - 1)/\J k wr) (λi _=>(intOf i+1).toNat)
 case atStart=>exact⟨len,qX _,rfl,H0.o⟩
 case round=>
  obtain⟨k,hk,rfl,a⟩:=hrel;have hb:=HB.out _ _ a;rcases k with _|k
  ·rw [show((0:Nat):Int) - 1= -1 from by decide];clear hb
   gi_wp2
   go_end0
   exact⟨⟨_,rfl⟩,.inl a⟩
  ·obtain⟨ad,rfl,hc⟩:=HC.o k wr hk a;obtain⟨fn,tmps,assign,body,hy,hR⟩:=HY.o k wr hk a;rw [show((k+1:Nat):Int) - 1=(k:Int) from by omega];have i1:(0:Int)<=(k:Int):=za;have i2:(k:Int)<(len:Int):=za;have i3:IntKind.i64.wrap ((k:Int) - 1)=(k:Int) - 1:=by rw [IntKind.wrap_i64];omega
   obtain⟨z,hz⟩:∃z,v k=z:=⟨_,rfl⟩
   try dsimp only at hy
   rw [hz] at hc hy;clear hz a
   gi_wp2
   refine hR.mono ?_;rintro e W3 (⟨rfl,hJ3⟩|⟨rfl,hJ3⟩)
   ·gi_wp2
    go_roundw
    case rel=>exact⟨k,za,rfl,hJ3⟩
    case measure=>simp [intOf]
   ·gi_wp2
    refine bodyPost_ret (results_none rfl _ _ _) rfl ?_;exact⟨⟨_,rfl⟩,.inr hJ3⟩
attribute [local go_sem] Oper.semAt_some
def va (L1 L2:List Nat)(n k:Nat):Prop:=∀i,k<=i->i<n->L1.getD i 0=L2.getD i 0
theorem va.start (L1 L2:List Nat)(n:Nat):va L1 L2 n n:=λi h h'=>absurd h' za
theorem va.step {n k:Nat}(h:va L1 L2 n (k+1))(e:L1.getD k 0=L2.getD k 0):va L1 L2 n k:=λi hi hn=>by
 rcases xC k i with h1|h1
 ·exact h i za hn
 ·have:i=k:=za;rw [this];exact e
theorem va.high {n k:Nat}(h:va L1 L2 n k)(h1:L1.length=n)(h2:L2.length=n):L1.drop k=L2.drop k:=by
 refine YH (by simp;omega) (λi a b=>?_);simp at a b;have:=h (k+i) za za;rw [qQ,qQ,qZ za,qZ za] at this;simpa using this
theorem va.all {n:Nat}(h:va L1 L2 n 0)(h1:L1.length=n)(h2:L2.length=n):L1=L2:=by
 have:=h.high h1 h2;simpa using this
theorem va.less {n k:Nat}(h:va L1 L2 n (k+1))(h1:L1.length=n)(h2:L2.length=n)(d1:zC 18446744073709551616 L1)(d2:zC 18446744073709551616 L2)(a:L1.getD k 0<L2.getD k 0):dv 18446744073709551616 L1<dv 18446744073709551616 L2:=by
 have e:=h.high h1 h2;have e1:=congrArg (dv 18446744073709551616) e;rw [mP zh d1,mP zh d2] at e1;rw [nU zh d1,nU zh d2] at a;exact fc e1 a
theorem va.symm {n k:Nat}(h:va L1 L2 n k):va L2 L1 n k:=λi a b=>(h i a b).symm
structure uP (ty ty2:TypeId)(g1 g2 c1 c2 n q0 q1 q2:Nat)(L1 L2:List Nat)(w:World)(k:Nat)(W:World):Prop where
 same:va L1 L2 n k
 ybox:zi W q0 54 #[.slice (some ⟨g2,0,none⟩) n c2]
 res:zi W q1 4 #[.bool false]
 seq:zi W q2 54 #[.slice (some ⟨g1,0,none⟩) n c1]
 r1:zy W ty g1 c1 n L1
 r2:zy W ty2 g2 c2 n L2
 below:Below w.heap.size w W
theorem uP.own {ty a:TypeId}{g1 g2 c1 c2 n q0 q2:Nat}(hB:w.heap.size<=B)(k:Nat):OwnFrom B (fun(_:Unit) W=>uP ty a g1 g2 c1 c2 n q0 q1 q2 L1 L2 w k W):=by
 intro _ W W' row h hg hr;exact⟨h.same,wY h.ybox hg hr,wY h.res hg hr,wY h.seq hg hr,mF h.r1 hg hr,mF h.r2 hg hr,kM h.below (qX _) hB hg hr⟩
structure rQ (q1:Nat)(b:Bool)(w:World)(W:World):Prop where
 res:zi W q1 4 #[.bool b]
 below:Below w.heap.size w W
theorem rQ.own {b:Bool}(hB:w.heap.size<=B):OwnFrom B (fun(_:Unit) W=>rQ q1 b w W):=by
 intro _ W W' row h hg hr;exact⟨wY h.res hg hr,kM h.below (qX _) hB hg hr⟩
theorem V8 (ty y:TypeId)(g1 g2 c1 c2 n:Nat)(L1 L2:List Nat)(w:World)(h1:zy w ty g1 c1 n L1)(h2:zy w y g2 c2 n L2)(E:zC 18446744073709551616 L1)(F:zC 18446744073709551616 L2)(hn:n<=1099511627776):
  Calls prog 144 #[.slice (some ⟨g1,0,none⟩) n c1,.slice (some ⟨g2,0,none⟩) n c2] w λe w'=>e=.returned (.bool (decide (dv 18446744073709551616 L1<dv 18446744073709551616 L2)))/\Below w.heap.size w w':=by
 have m:=zd h1.len;have t:=zd h2.len;have A:=zd E;have B:=zd F;have J:=zd h1;have L:=zd h2;obtain⟨v,hv⟩:∃v,decide (dv 18446744073709551616 L1<dv 18446744073709551616 L2)=v:=⟨_,rfl⟩;rw [hv];have HV:=zd hv;clear h1 h2 E F hv;refine(callsIn_wide (n:=3)).1 ?_;refine callsIn_of_wp_marks func144 rfl trivial ?_ rfl;simp only [ntmps144,xH,xY,YZ,Nat.reduceAdd,Nat.reduceSub,yM,yN,List.push_toArray,yW,XR,yZ];refine wpIn_wide.2 ?_;go_wp2_with fail;obtain⟨d1,d2,d3,d4,d5⟩:=yc w 54 4 54 #[.slice (some ⟨g2,0,none⟩) n c2] #[.bool false] #[.slice (some ⟨g1,0,none⟩) n c1];refine(ii (some ⟨g1,0,none⟩) n c1 _).mono ?_;rintro e w2 ⟨rfl,H⟩;rw [H] at d1 d2 d3 d4 d5;obtain⟨z,hz⟩:∃z,w.heap.size=z:=⟨_,rfl⟩;have H0:=zd (show uP ty y g1 g2 c1 c2 n z (z+1) (z+1+1) L1 L2 w n w2 from⟨va.start _ _ _,by rw [<-hz];exact d2,by rw [<-hz];exact d3,by rw [<-hz];exact d4,J.o.keep d1,L.o.keep d1,d1⟩);have C:=d1.size;clear d1 d2 d3 d4 d5 H;go_wp2_with fail;refine(wpIn_wide (n:=3)).1 ?_;refine VE (gf:=155) (lb:=#[.pointer (some ⟨z + 1 + 1,0,none⟩)]) rfl (enters_of func155 zm rfl) n (fun k => #[.int .i64 (k : Int),.int .u64 (L1.getD k 0 : Int)]) (fun _ => rfl)
  (λk W=>uP ty y g1 g2 c1 c2 n z (z+1) (z+1+1) L1 L2 w k W) (λW=>rQ (z+1) v w W) (λk=>uP.own C k) (rQ.own C) H0.o
  (Yl (z+1+1) n c1 (some ⟨g1,0,none⟩) (λk=>L1.getD k 0) _ hn (λk W h=>h.seq.cell 0) ?cells)
  (λk=>{tmps:=#[.slice (some ⟨g1,0,none⟩) n c1,.slice (some ⟨g2,0,none⟩) n c2,undef,.pointer (some ⟨z,0,none⟩),.pointer (some ⟨z+1,0,none⟩),.int .i64 (k:Int),.int .u64 (L1.getD k 0:Int),.slice (some ⟨g1,0,none⟩) n c1,.func (.func 155) #[] #[.pointer (some ⟨z+1+1,0,none⟩)],.int .i64 (k:Int),.int .u64 (L1.getD k 0:Int),undef,undef,undef,undef,undef,undef,undef,undef,undef,undef,undef,undef],defers:=[]}) ?assign ?body ?done ?stop
 case cells=>
  intro k W hk h;exact⟨_,rfl,by rw [gY,h.r1.cell k hk]⟩
 case assign=>
  intro l k W K hK
  gi_wp2
  exact hK
 case body=>
  intro l k W hk h;have i:=h.same;have hy:=h.ybox;have d:=h.res;have N:=h.seq;have M:=h.r1;have G:=h.r2;have g:=h.below;clear h;have cy:=hy.cell 0;have cr:=d.cell 0;have fr:=d.frozen 0;have cg:=G.cell k hk;have i1:(0:Int)<=(k:Int):=za;have i2:(k:Int)<(n:Int):=za;by_cases hxy:L1.getD k 0=L2.getD k 0
  ·have HS:=zd (i.step hxy);rw [hxy];obtain⟨a,ha⟩:∃a,L2.getD k 0=a:=⟨_,rfl⟩;rw [ha] at cg⊢;clear i hxy ha
   gi_wp2
   exact⟨KeepsOthers.refl _,.inl ⟨rfl,HS.o,hy,d,N,M,G,g⟩⟩
  ·have HB:zg (decide (L1.getD k 0<L2.getD k 0)=v):=by
    show _=_;rw [<-HV.o,decide_eq_decide];rcases xC (L1.getD k 0) (L2.getD k 0) with hlt|hge
    ·exact⟨λ_=>i.less m.o t.o A.o B.o hlt,λ_=>hlt⟩
    ·have h:=i.symm.less t.o m.o B.o A.o za;exact⟨λh'=>absurd h' za,λh'=>absurd h' za⟩
   obtain⟨a,ha⟩:∃a,L1.getD k 0=a:=⟨_,rfl⟩;obtain⟨b,hb⟩:∃a,L2.getD k 0=a:=⟨_,rfl⟩;rw [ha] at HB hxy⊢;rw [hb] at HB hxy cg;have I:=HB;have hq1:((a:Int)==(b:Int))=false:=by rw [beq_eq_false_iff_ne];omega
   have hq2:((a:Int) !=(b:Int))=true:=by rw [bne_iff_ne];omega
   clear i ha hb HB hxy
   gi_wp2
   exact⟨KeepsOthers.setCell _ _ _,.inr ⟨rfl,(by first|exact lV d _|(rw [<-I.o];exact lV d _)),g.setCell (p:=⟨z+1,0,none⟩) (by show w.heap.size<=z+1;omega) _⟩⟩
 case done=>
  intro D W hD h hK;have g:=h.below;have d:=h.res;have O:zg (v=false):=by
   show _=_;rw [<-HV.o,h.same.all m.o t.o];simp
  have cr:=d.cell 0;have fr:=d.frozen 0;have j:=d.set_ 0 (.bool false);have u:=(KeepsOthers.setCell W ⟨z+1,0,none⟩ (.bool false)).same D _ hK rfl;have x:=cell_kept (j.cell 0) (grownBy_putObj' _ D (.deferred none)) (λr e=>by cases e;exact⟨_,u,rfl⟩);have HG : zg (Below w.heap.size w ((W.setCell ⟨z + 1,0,none⟩ (.bool false)).putObj D (.deferred none))) :=
   (g.setCell (p:=⟨z+1,0,none⟩) (by show w.heap.size<=z+1;omega) _).trans (belowK_b (w:=w) (qX _) _ D _ _ za u rfl rfl)
  clear h d g j hK;go_wp2;refine⟨zD,.inl ⟨_,_,rfl,run_takeDeferred u,?_⟩⟩;exact⟨.bool false,by simp [results,f144,go_sem,x],by rw [O.o],HG.o⟩
 case stop=>
  intro D W hD h hK;have g:=h.below;have cr:=h.res.cell 0;have x:=cell_kept cr (grownBy_putObj' _ D (.deferred none)) (λr e=>by cases e;exact⟨_,hK,rfl⟩);have HG : zg (Below w.heap.size w (W.putObj D (.deferred none))) :=
   g.trans (belowK_b (w:=w) (qX _) _ D _ _ za hK rfl rfl)
  clear h g
  gi_wp2
  refine⟨zD,.inl ⟨_,_,rfl,run_takeDeferred hK,?_⟩⟩;exact⟨.bool v,by simp [results,f144,go_sem,x],rfl,HG.o⟩
