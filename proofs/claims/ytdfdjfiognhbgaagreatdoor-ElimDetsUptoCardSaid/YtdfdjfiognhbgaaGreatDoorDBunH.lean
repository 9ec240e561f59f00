/- What this claim leans on. -/
import Derived.Test.YtdfdjfiognhbgaaGreatDoorDVRow
set_option linter.unusedVariables false
set_option linter.unusedSimpArgs false
namespace Go.Proofs.YtdfdjfiognhbgaaGreatDoor
open Go Go.RowKit Go.Proofs.Tryz
set_option maxHeartbeats 16000000
set_option maxRecDepth 100000
variable {L1 L2:List Nat}{B c k n p q1 x:Nat}{w:World}{A:ze}
attribute [local go_sem] Oper.semAt_some
def sG (I:Nat->World->Prop)(X:World->Prop)(k:Nat)(W:World):Exit->Act->World->Prop:=λe _ W'=>KeepsOthers W W'/\(e=.normal/\I k W'\/e=.ret/\X W')
def X2 (P:Program)(gf:Nat)(lb:Array Value)(enc:Nat->Array Value)(N:Nat)(I:Nat->World->Prop):Prop:=
 ∀ (l : Nat) (J : Nat → World → Prop) (Jx : World → Prop) (W : World),(∀ k W,J k W → I k W) →
  (∀k W,k<N->J (k+1) W->YieldAt Fence.wide 1 P l (enc k) W λe W'=>e=.returned (.bool true)/\J k W'\/e=.returned (.bool false)/\Jx W')->
  J N W->CallsIn Fence.wide 2 P gf (#[.func (.yield l) #[] #[]]++lb) W λe W'=>(∃v,e=.returned v)/\(J 0 W'\/Jx W')
theorem WK {W:World}{X:World->Prop}{b:Nat}{o:Obj}(hX:OwnFrom w.heap.size (fun(_:Unit) W=>X W))(h:X W)(hb:w.heap.size<=b)(ho:W.heap[b]?=some o)(hc:o.isCells=false)(o':Obj):X (W.putObj b o'):=
 hX.putObj (s:=()) o' h hb ho hc
theorem P8 {P:Program}{g:Operand}{ps:Array Tmp}{assign body:Code}{Q:Exit->Act->World->Prop}{a:Act}{gf:Nat}{lb:Array Value}(hg:a.eval g=.func (.func gf) #[] lb)
  (eg:∀args w,(callFunc gf args).run P w=.ok (.enter gf args) w) (N:Nat) (d:Nat->Array Value) (A:∀k,(d k).size=ps.size) (I:Nat->World->Prop) (X:World->Prop) (hI:∀k,OwnFrom w.heap.size (fun(_:Unit) W=>I k W)) (hX:OwnFrom w.heap.size (fun(_:Unit) W=>X W)) (h0:I N w)
  (m:X2 P gf lb d N I) (a1:Nat->Act)
  (c:∀(l k:Nat) (W:World) (K:Act->World->Prop),K (a1 k) W->assign.wpIn (Fence.wide.inRound l) 1 P (Exit.then K (λ_ _ _=>False)) {tmps:=(ps.zip (d k)).foldl (λt (p,v)=>t.setIfInBounds p v) a.tmps,defers:=[]} W)
  (i:∀(l k:Nat) (W:World),k<N->I (k+1) W->body.wpIn (Fence.wide.inRound l) 1 P (sG I X k W) (a1 k) W)
  (j:∀(D:Nat) (W:World),w.heap.size<=D->I 0 W->W.heap[D]?=some (.deferred (some []))->Q .normal {a with defers:={target:=.collected D,args:=#[]}::a.defers} W)
  (s:∀(D:Nat) (W:World),w.heap.size<=D->X W->W.heap[D]?=some (.deferred (some []))->Code.ret.wpIn Fence.wide 3 P Q {a with defers:={target:=.collected D,args:=#[]}::a.defers} W):
  (Code.rangeFunc g ps assign body).wpIn Fence.wide 3 P Q a w:=by
 refine wpIn_rangeFunc λfn z=>?_;obtain⟨r,hr⟩:∃r:Loop,r={state:=.ready,pending:=none,fn,tmps:=a.tmps,params:=ps,assign,body,defers:=w.heap.size}:=⟨_,rfl⟩;obtain⟨V,hV⟩:∃V,(w.alloc (.deferred (some []))).alloc (.loop r)=V:=⟨_,rfl⟩;have gV:w.grownBy V none:=by rw [<-hV];exact(YI w _ none).trans (YI _ _ none)
 have rV:V.heap[w.heap.size+1]?=some (.loop r):=by
  have h:=World.alloc_heap_new (w.alloc (.deferred (some []))) (.loop r);rw [YH,hV] at h;exact h
 have dV:V.heap[w.heap.size]?=some (.deferred (some [])):=by
  have h:=World.alloc_heap_new w (.deferred (some []));rw [<-hV,Below.heap_alloc _ _ _ zE];exact h
 have iV:I N V:=hI N () w V none h0 gV (λ_ e=>by cases e);refine⟨w.heap.size+1,[{target:=.collected w.heap.size,args:=#[]}],V,{target:=.fn (.func gf) lb,args:=#[.func (.yield (w.heap.size+1)) #[] #[]]},V,gf,#[.func (.yield (w.heap.size+1)) #[] #[]]++lb,V,?_,?_,λ_ _=>trivial,?_,λ_=>by omega,?_⟩
 ·rw [<-hV,hr];exact run_enterLoop_outer _ _ _ _ _
 ·simp only [resolve,hg];simp [go_sem]
 ·simp [invoke,go_sem,eg]
 obtain⟨rx,o⟩:∃rx:Loop,rx={r with state:=.done,pending:=some .ret}:=⟨_,rfl⟩;refine (m (w.heap.size + 1) (fun k W => I k W ∧ W.heap[w.heap.size + 1]? = some (.loop r) ∧ W.heap[w.heap.size]? = some (.deferred (some [])))
  (λW=>X W/\W.heap[w.heap.size+1]?=some (.loop rx)/\W.heap[w.heap.size]?=some (.deferred (some []))) V (λ_ _ h=>h.1) ?_ ⟨iV,rV,dV⟩).mono ?_
 ·rintro k W hk ⟨iW,rW,dW⟩;have hy:=run_yield (P:=P) (args:=d k) rW (by rw [hr];exact A k);have lt:=(Array.getElem?_eq_some_iff.1 rW).1;obtain⟨rb,n⟩:∃rb:Loop,rb={r with state:=.busy}:=⟨_,rfl⟩;have rY:(W.putObj (w.heap.size+1) (.loop rb)).heap[w.heap.size+1]?=some (.loop rb):=World.putObj_heap_same lt;have dX:(W.putObj (w.heap.size+1) (.loop rb)).heap[w.heap.size]?=some (.deferred (some [])):=(World.putObj_heap_other zb).trans dW;have iX:I (k+1) (W.putObj (w.heap.size+1) (.loop rb)):=iB hI iW zb rW rfl _;rw [hr] at hy;refine⟨fn,_,assign,body,hy,roundIn_of_wpIn z (c _ k W _ ⟨_,by have h:=run_beginRound (P:=P) rW (by rw [hr]);rw [<-n] at h;exact h,?_⟩)⟩;refine wpIn_mono (i _ k _ hk iX) ?_;rintro e a3 W3 ⟨u,h3⟩;have r3:=u.same _ _ rY rfl;have d3:=u.same _ _ dX rfl;have y:=(Array.getElem?_eq_some_iff.1 r3).1;rcases h3 with⟨rfl,i3⟩|⟨rfl,x3⟩
  ·have he:=run_endRound (P:=P) none r3;refine⟨_,_,he,.inl ⟨rfl,iB hI i3 zb r3 rfl _,?_,(World.putObj_heap_other zb).trans d3⟩⟩;rw [World.putObj_heap_same y,n,hr];rfl
  ·have he:=run_endRound (P:=P) (some .ret) r3;refine⟨_,_,he,.inr ⟨rfl,WK hX x3 zb r3 rfl _,?_,(World.putObj_heap_other zb).trans d3⟩⟩;rw [World.putObj_heap_same y,o,n,hr];rfl
 ·rintro e W2 ⟨⟨v,rfl⟩,⟨i2,r2,d2⟩|⟨x2,r2,d2⟩⟩
  ·have he:=run_endLoop (P:=P) r2 (by rw [hr];simp);rw [show r.pending=none from by rw [hr]] at he;exact⟨none,_,he,j _ _ (qY _) (iB hI i2 zb r2 rfl _) ((World.putObj_heap_other zb).trans d2)⟩
  ·have he:=run_endLoop (P:=P) r2 (by rw [o];simp);rw [show rx.pending=some .ret from by rw [o]] at he;exact⟨some .ret,_,he,s _ _ (qY _) (WK hX x2 zb r2 rfl _) ((World.putObj_heap_other zb).trans d2)⟩
theorem T7 (Bs len cap:Nat)(A:ze)(v:Nat->Nat)(I:Nat->World->Prop)(hlen:len<=1099511627776)
  (c:∀k W,I k W->W.cell? ⟨Bs,0,none⟩=some (.slice A len cap)) (d:∀k W,k<len->I (k+1) W->∃ad,A=some ad/\W.cell? (ad.add k)=some (.int .u64 (v k:Int))):
  X2 prog 208 #[.pointer (some ⟨Bs,0,none⟩)] (λk=>#[.int .i64 (k:Int),.int .u64 (v k:Int)]) len I:=by
 intro l J Jx W hJ hY h0;have g:=c _ _ (hJ _ _ h0);have HB:=za (λk W (h:J k W)=>c k W (hJ k W h));have HC:=za (λk W (hk:k<len) (h:J (k+1) W)=>d k W hk (hJ _ _ h));have HY:=za hY;have H0:=za h0;have j:IntKind.i64.wrap ((len:Int) - 1)=(len:Int) - 1:=by rw [IntKind.wrap_i64];omega
 clear hJ hY h0 c d;refine callsIn_of_wp func208 rfl trivial ?_ rfl;simp only [ntmps208,XG,xP,YB,Nat.reduceAdd,Nat.reduceSub,YC,YE,List.push_toArray,YT,yK,YD]
 gi_wp2
 clear g j
 gi_loopw [3] (λi wr=>∃k:Nat,k<=len/\i=.int .i64 ((k:Int) - 1)/\J k wr) (λi _=>(intOf i+1).toNat)
 case atStart=>exact⟨len,qY _,rfl,H0.o⟩
 case round=>
  obtain⟨k,hk,rfl,a⟩:=hrel;have hb:=HB.out _ _ a;rcases k with _|k
  ·rw [show((0:Nat):Int) - 1= -1 from by decide];clear hb
   gi_wp2
   go_end0
   exact⟨⟨_,rfl⟩,.inl a⟩
  ·obtain⟨ad,rfl,hc⟩:=HC.o k wr hk a;obtain⟨fn,tmps,assign,body,hy,hR⟩:=HY.o k wr hk a;rw [show((k+1:Nat):Int) - 1=(k:Int) from by omega];have i1:(0:Int)<=(k:Int):=zb;have i2:(k:Int)<(len:Int):=zb;have i3:IntKind.i64.wrap ((k:Int) - 1)=(k:Int) - 1:=by rw [IntKind.wrap_i64];omega
   obtain⟨z,hz⟩:∃z,v k=z:=⟨_,rfl⟩
   try dsimp only at hy
   rw [hz] at hc hy;clear hz a
   gi_wp2
   refine hR.mono ?_;rintro e W3 (⟨rfl,hJ3⟩|⟨rfl,hJ3⟩)
   ·gi_wp2
    go_roundw
    case rel=>exact⟨k,zb,rfl,hJ3⟩
    case measure=>simp [intOf]
   ·gi_wp2
    refine bodyPost_ret (results_none rfl _ _ _) rfl ?_;exact⟨⟨_,rfl⟩,.inr hJ3⟩
attribute [local go_sem] Oper.semAt_some
def ut (L1 L2:List Nat)(n k:Nat):Prop:=∀i,k<=i->i<n->L1.getD i 0=L2.getD i 0
theorem ut.start (L1 L2:List Nat)(n:Nat):ut L1 L2 n n:=λi h h'=>absurd h' zb
theorem ut.step (h:ut L1 L2 n (k+1))(e:L1.getD k 0=L2.getD k 0):ut L1 L2 n k:=λi hi hn=>by
 rcases xY k i with h1|h1
 ·exact h i zb hn
 ·have:i=k:=zb;rw [this];exact e
theorem ut.high (h:ut L1 L2 n k)(h1:L1.length=n)(h2:L2.length=n):L1.drop k=L2.drop k:=by
 refine jQ (by simp;omega) (λi a b=>?_);simp at a b;have:=h (k+i) zb zb;rw [qQ,qQ,qX zb,qX zb] at this;simpa using this
theorem ut.all (h:ut L1 L2 n 0)(h1:L1.length=n)(h2:L2.length=n):L1=L2:=by
 have:=h.high h1 h2;simpa using this
theorem ut.less (h:ut L1 L2 n (k+1))(h1:L1.length=n)(h2:L2.length=n)(d1:zD 18446744073709551616 L1)(d2:zD 18446744073709551616 L2)(a:L1.getD k 0<L2.getD k 0):dv 18446744073709551616 L1<dv 18446744073709551616 L2:=by
 have e:=h.high h1 h2;have e1:=congrArg (dv 18446744073709551616) e;rw [iM zg d1,iM zg d2] at e1;rw [kh zg d1,kh zg d2] at a;exact fJ e1 a
theorem ut.symm (h:ut L1 L2 n k):ut L2 L1 n k:=λi a b=>(h i a b).symm
structure sC (ty ty2:TypeId)(g1 g2 c1 c2 n q0 q1 q2:Nat)(L1 L2:List Nat)(w:World)(k:Nat)(W:World):Prop where
 same:ut L1 L2 n k
 ybox:zh W q0 35 #[.slice (some ⟨g2,0,none⟩) n c2]
 res:zh W q1 4 #[.bool false]
 seq:zh W q2 35 #[.slice (some ⟨g1,0,none⟩) n c1]
 r1:zF W ty g1 c1 n L1
 r2:zF W ty2 g2 c2 n L2
 below:Below w.heap.size w W
theorem sC.own {ty a:TypeId}{g1 g2 c1 c2 q0 q2:Nat}(hB:w.heap.size<=B)(k:Nat):OwnFrom B (fun(_:Unit) W=>sC ty a g1 g2 c1 c2 n q0 q1 q2 L1 L2 w k W):=by
 intro _ W W' row h hg hr;exact⟨h.same,uo h.ybox hg hr,uo h.res hg hr,uo h.seq hg hr,ir h.r1 hg hr,ir h.r2 hg hr,fZ h.below (qY _) hB hg hr⟩
structure oP (q1:Nat)(b:Bool)(w:World)(W:World):Prop where
 res:zh W q1 4 #[.bool b]
 below:Below w.heap.size w W
theorem oP.own {b:Bool}(hB:w.heap.size<=B):OwnFrom B (fun(_:Unit) W=>oP q1 b w W):=by
 intro _ W W' row h hg hr;exact⟨uo h.res hg hr,fZ h.below (qY _) hB hg hr⟩
theorem Pf (ty t:TypeId)(g1 g2 c1 c2 n:Nat)(L1 L2:List Nat)(w:World)(h1:zF w ty g1 c1 n L1)(h2:zF w t g2 c2 n L2)(B:zD 18446744073709551616 L1)(C:zD 18446744073709551616 L2)(hn:n<=1099511627776):
  Calls prog 196 #[.slice (some ⟨g1,0,none⟩) n c1,.slice (some ⟨g2,0,none⟩) n c2] w λe w'=>e=.returned (.bool (decide (dv 18446744073709551616 L1<dv 18446744073709551616 L2)))/\Below w.heap.size w w':=by
 have j:=za h1.len;have m:=za h2.len;have u:=za B;have y:=za C;have H:=za h1;have I:=za h2;obtain⟨v,hv⟩:∃v,decide (dv 18446744073709551616 L1<dv 18446744073709551616 L2)=v:=⟨_,rfl⟩;rw [hv];have HV:=za hv;clear h1 h2 B C hv;refine(callsIn_wide (n:=3)).1 ?_;refine callsIn_of_wp_marks func196 rfl trivial ?_ rfl;simp only [ntmps196,XG,xP,YB,Nat.reduceAdd,Nat.reduceSub,YC,YE,List.push_toArray,YT,yK,YD];refine wpIn_wide.2 ?_;go_wp2_with fail;obtain⟨d1,d2,d3,d4,d5⟩:=yn w 35 4 35 #[.slice (some ⟨g2,0,none⟩) n c2] #[.bool false] #[.slice (some ⟨g1,0,none⟩) n c1];refine(cM (some ⟨g1,0,none⟩) n c1 _).mono ?_;rintro e w2 ⟨rfl,F⟩;rw [F] at d1 d2 d3 d4 d5;obtain⟨z,hz⟩:∃z,w.heap.size=z:=⟨_,rfl⟩;have H0:=za (show sC ty t g1 g2 c1 c2 n z (z+1) (z+1+1) L1 L2 w n w2 from⟨ut.start _ _ _,by rw [<-hz];exact d2,by rw [<-hz];exact d3,by rw [<-hz];exact d4,H.o.keep d1,I.o.keep d1,d1⟩);have A:=d1.size;clear d1 d2 d3 d4 d5 F;go_wp2_with fail;refine(wpIn_wide (n:=3)).1 ?_;refine P8 (gf:=208) (lb:=#[.pointer (some ⟨z + 1 + 1,0,none⟩)]) rfl (enters_of func208 zP rfl) n (fun k => #[.int .i64 (k : Int),.int .u64 (L1.getD k 0 : Int)]) (fun _ => rfl)
  (λk W=>sC ty t g1 g2 c1 c2 n z (z+1) (z+1+1) L1 L2 w k W) (λW=>oP (z+1) v w W) (λk=>sC.own A k) (oP.own A) H0.o
  (T7 (z+1+1) n c1 (some ⟨g1,0,none⟩) (λk=>L1.getD k 0) _ hn (λk W h=>h.seq.cell 0) ?cells)
  (λk=>{tmps:=#[.slice (some ⟨g1,0,none⟩) n c1,.slice (some ⟨g2,0,none⟩) n c2,undef,.pointer (some ⟨z,0,none⟩),.pointer (some ⟨z+1,0,none⟩),.int .i64 (k:Int),.int .u64 (L1.getD k 0:Int),.slice (some ⟨g1,0,none⟩) n c1,.func (.func 208) #[] #[.pointer (some ⟨z+1+1,0,none⟩)],.int .i64 (k:Int),.int .u64 (L1.getD k 0:Int),undef,undef,undef,undef,undef,undef,undef,undef,undef,undef,undef,undef],defers:=[]}) ?assign ?body ?done ?stop
 case cells=>
  intro k W hk h;exact⟨_,rfl,by rw [ZQ,h.r1.cell k hk]⟩
 case assign=>
  intro l k W K hK
  gi_wp2
  exact hK
 case body=>
  intro l k W hk h;have g:=h.same;have hy:=h.ybox;have c:=h.res;have L:=h.seq;have J:=h.r1;have E:=h.r2;have d:=h.below;clear h;have cy:=hy.cell 0;have cr:=c.cell 0;have fr:=c.frozen 0;have cg:=E.cell k hk;have i1:(0:Int)<=(k:Int):=zb;have i2:(k:Int)<(n:Int):=zb;by_cases hxy:L1.getD k 0=L2.getD k 0
  ·have HS:=za (g.step hxy);rw [hxy];obtain⟨a,ha⟩:∃a,L2.getD k 0=a:=⟨_,rfl⟩;rw [ha] at cg⊢;clear g hxy ha
   gi_wp2
   exact⟨KeepsOthers.refl _,.inl ⟨rfl,HS.o,hy,c,L,J,E,d⟩⟩
  ·have HB:zd (decide (L1.getD k 0<L2.getD k 0)=v):=by
    show _=_;rw [<-HV.o,decide_eq_decide];rcases xY (L1.getD k 0) (L2.getD k 0) with hlt|hge
    ·exact⟨λ_=>g.less j.o m.o u.o y.o hlt,λ_=>hlt⟩
    ·have h:=g.symm.less m.o j.o y.o u.o zb;exact⟨λh'=>absurd h' zb,λh'=>absurd h' zb⟩
   obtain⟨a,ha⟩:∃a,L1.getD k 0=a:=⟨_,rfl⟩;obtain⟨b,hb⟩:∃a,L2.getD k 0=a:=⟨_,rfl⟩;rw [ha] at HB hxy⊢;rw [hb] at HB hxy cg;have G:=HB;have hq1:((a:Int)==(b:Int))=false:=by rw [beq_eq_false_iff_ne];omega
   have hq2:((a:Int) !=(b:Int))=true:=by rw [bne_iff_ne];omega
   clear g ha hb HB hxy
   gi_wp2
   exact⟨KeepsOthers.setCell _ _ _,.inr ⟨rfl,(by first|exact fu c _|(rw [<-G.o];exact fu c _)),d.setCell (p:=⟨z+1,0,none⟩) (by show w.heap.size<=z+1;omega) _⟩⟩
 case done=>
  intro D W hD h hK;have d:=h.below;have c:=h.res;have M:zd (v=false):=by
   show _=_;rw [<-HV.o,h.same.all j.o m.o];simp
  have cr:=c.cell 0;have fr:=c.frozen 0;have i:=c.set_ 0 (.bool false);have o:=(KeepsOthers.setCell W ⟨z+1,0,none⟩ (.bool false)).same D _ hK rfl;have s:=cell_kept (i.cell 0) (grownBy_putObj' _ D (.deferred none)) (λr e=>by cases e;exact⟨_,o,rfl⟩);have HG : zd (Below w.heap.size w ((W.setCell ⟨z + 1,0,none⟩ (.bool false)).putObj D (.deferred none))) :=
   (d.setCell (p:=⟨z+1,0,none⟩) (by show w.heap.size<=z+1;omega) _).trans (belowK_b (w:=w) (qY _) _ D _ _ zb o rfl rfl)
  clear h c d i hK;go_wp2;refine⟨zE,.inl ⟨_,_,rfl,run_takeDeferred o,?_⟩⟩;exact⟨.bool false,by simp [results,f196,go_sem,s],by rw [M.o],HG.o⟩
 case stop=>
  intro D W hD h hK;have d:=h.below;have cr:=h.res.cell 0;have s:=cell_kept cr (grownBy_putObj' _ D (.deferred none)) (λr e=>by cases e;exact⟨_,hK,rfl⟩);have HG : zd (Below w.heap.size w (W.putObj D (.deferred none))) :=
   d.trans (belowK_b (w:=w) (qY _) _ D _ _ zb hK rfl rfl)
  clear h d
  gi_wp2
  refine⟨zE,.inl ⟨_,_,rfl,run_takeDeferred hK,?_⟩⟩;exact⟨.bool v,by simp [results,f196,go_sem,s],rfl,HG.o⟩
theorem Xe (x:Nat):((dg 65536 x).getD 0 0:Nat)%2=x%2:=by
 rw [oj,XB,Nat.div_one];omega
theorem il (x:Nat)(A:ze)(n c:Nat)(w:World)(hA:zB w x A n c)(hn:n<=1099511627776)(h:x%2=0):
  Calls prog 166 #[.slice A n c] w λe w'=>e=.returned (.bool true)/\w=w':=by
 have hd:=jz A n c 0 _ _ w hA.1 hn;have he:=Xe x;rw [h] at he;obtain⟨k,hk⟩:∃k,(dg 65536 x).getD 0 0=k:=⟨_,rfl⟩;rw [hk] at hd he;have hd:Calls prog 148 #[.slice A n c,.int .i64 0] w λe w'=>e=.returned (.int .i64 (k:Int))/\w=w':=hd;have HD:=za hd;have h1:(k:Int)%2=0:=zb;have h2:(k:Int).tmod 2=0:=by rw [xL zb];exact h1
 clear hd hk hA he;go_enter func166,ntmps166;go_wp2_with (go_at_call 148;(with_reducible refine HD.o.mono ?_);rintro e w' ⟨rfl,rfl⟩);go_ret;exact⟨rfl,rfl⟩
theorem io (x:Nat)(A:ze)(n c:Nat)(w:World)(hA:zB w x A n c)(hn:n<=1099511627776)(h:x%2≠0):
  Calls prog 166 #[.slice A n c] w λe w'=>e=.returned (.bool false)/\w=w':=by
 have hd:=jz A n c 0 _ _ w hA.1 hn;have he:=Xe x;obtain⟨k,hk⟩:∃k,(dg 65536 x).getD 0 0=k:=⟨_,rfl⟩;rw [hk] at hd he;have hd:Calls prog 148 #[.slice A n c,.int .i64 0] w λe w'=>e=.returned (.int .i64 (k:Int))/\w=w':=hd;have HD:=za hd;have h1:(k:Int)%2=1:=zb;have h2:(k:Int).tmod 2=1:=by rw [xL zb];exact h1
 clear hd hk hA he h;go_enter func166,ntmps166;go_wp2_with (go_at_call 148;(with_reducible refine HD.o.mono ?_);rintro e w' ⟨rfl,rfl⟩);go_ret;exact⟨rfl,rfl⟩
theorem iu (x:Nat)(A:ze)(n c:Nat)(w:World)(hA:zB w x A n c)(hn:n<=274877906944):
  Calls prog 167 #[.slice A n c] w (vc w (x / 2)):=by
 have hh:Calls prog 184 #[.slice A n c,.int .i64 2] w (Wa w x 2):=Pr x 2 A n c w hA hn zg zg;have HH:=za hh;clear hh hA;go_enter func167,ntmps167;go_wp2_with fail;refine HH.o.mono ?_;rintro e w1 ⟨v,rfl,hg⟩;have G:=za hg;obtain⟨A1,n1,c1,he,_,_⟩:=hg.elim;injection he with he;subst he;go_wp2;go_ret;exact G.o
theorem dQ {q:Nat}(h:q%2≠0):Nat.gcd 2 q=1:=by
 have h1:Nat.gcd 2 q ∣ 2:=yL 2 q;have h2:=Nat.le_of_dvd zg h1;have h3:Nat.gcd 2 q≠0:=λe=>by rw [e] at h1;exact absurd (Nat.eq_zero_of_zero_dvd h1) zg
 have h4:Nat.gcd 2 q≠2:=λe=>h (Nat.mod_eq_zero_of_dvd (by rw [<-e];exact XW 2 q));omega
theorem ip {p q:Nat}(hp:p%2=0)(hq:q%2≠0):Nat.gcd (p / 2) q=Nat.gcd p q:=by
 have e:p=2*(p / 2):=zb;have h:Nat.Coprime 2 q:=dQ hq;rw [show Nat.gcd p q=Nat.gcd (2*(p / 2)) q from by rw [<-e]];exact(h.gcd_mul_left_cancel (p / 2)).symm
theorem Xh {q:Nat}(hq:q%2=0)(hp:p%2≠0):Nat.gcd p (q / 2)=Nat.gcd p q:=by rw [XC,ip hq hp,XC]
theorem fz {q:Nat}(h:q<=p):Nat.gcd (p - q) q=Nat.gcd p q:=by
 obtain⟨s,rfl⟩:∃s,p=q+s:=⟨p - q,zb⟩;rw [yH,Nat.gcd_self_add_left]
theorem oz {M N:Nat}(h:zB w x A n c)(hx:x<=M)(hM:(dg 65536 M).length<=N):n<=N:=by
 rw [h.len];exact qL (tm zg hx) hM
theorem fd (h:zB w x A n c)(hx:x≠0):0<n:=by
 have h1:=ym (b:=65536) zg x;rw [<-h.len] at h1;rcases QT n with h0|h0
 ·rw [h0] at h1;exact absurd (by simpa using h1) hx
 ·exact h0
theorem mG {y m K:Nat}(hx:(dg 65536 x).length=n)(hy:(dg 65536 y).length=m)(hn:n<=K)(hm:m<=K):(dg 65536 (x+y)).length<=K+1:=by
 have h1:=ym (b:=65536) zg x;have h2:=ym (b:=65536) zg y;rw [hx] at h1;rw [hy] at h2;have h3:65536^n<=65536^K:=qV zg hn;have h4:65536^m<=65536^K:=qV zg hm;refine wy zg _ _ ?_;rw [qP];omega
theorem pc (x y:Nat)(A D:ze)(n m c d:Nat)(w:World)(hA:zB w x A n c)(hD:zB w y D m d)(hn:n<=1073741824)(hm:m<=1073741824)(hx:x≠0)(hy:y≠0):
  Calls prog 138 #[.slice A n c,.slice D m d] w (vc w (Nat.gcd x y)):=by
 have hn0:=fd hA hx;have hm0:=fd hD hy;obtain⟨N,hN⟩:∃N,(dg 65536 (x+y)).length=N:=⟨_,rfl⟩;have hN1:N<=1073741824+1:=by rw [<-hN];exact mG hA.len.symm hD.len.symm hn hm
 have HN:=za (Nat.le_of_eq hN);have ad:∀t p,x=2^t*p->p≠0->t<=17179869184:=λt p e hp=>by
  have h1:=ym (b:=65536) zg x;rw [<-hA.len,show(65536:Nat)=2^16 from rfl,<-yG] at h1;have h2:2^t<=x:=by rw [e];exact Nat.le_mul_of_pos_right _ (xR hp)
  have h3:=(Nat.pow_lt_pow_iff_right (a:=2) zg).1 (QU h2 h1);omega
 have HT:=za ad;have z1:((n:Int)==0)=false:=by simp;omega
 have z2:((m:Int)==0)=false:=by simp;omega
 have HA:=za hA;have HD:=za hD;have HX:=za hx;have HY:=za hy;have hB:=qZ w.heap.size w;clear hN ad hA hD hx hy;go_enter func138,ntmps138;go_wp2_with fail
 go_loopg [0,1,5] (x+1) (λg s0 s1 s5 wr=>∃(p q t:Nat) (A1:ze) (n1 c1:Nat) (A2:ze) (n2 c2:Nat),s0=.slice A1 n1 c1/\s1=.slice A2 n2 c2/\s5=.int .i64 (t:Int)/\p<g/\p≠0/\q≠0/\zd (x=2^t*p)/\zd (y=2^t*q)/\zd (zB wr p A1 n1 c1)/\zd (zB wr q A2 n2 c2)/\Below w.heap.size w wr)
 case atStart=>exact⟨x,y,0,A,n,c,D,m,d,rfl,rfl,rfl,zb,HX.o,HY.o,by show _=_;simp,by show _=_;simp,HA,HD,hB⟩
 case round=>
  clear hB HA HD;obtain⟨p,q,t,A1,n1,c1,A2,n2,c2,rfl,rfl,rfl,hg,am,ae,J,L,hp,hq,hB⟩:=hrel;have hpx:p<=x:=by rw [J.o];exact Nat.le_mul_of_pos_left _ (QW t)
  have hqy:q<=y:=by rw [L.o];exact Nat.le_mul_of_pos_left _ (QW t)
  have htb:=HT.o t p J.o am;have n1l:=oz hp.o (show p<=x+y by omega) HN.o;have n2l:=oz hq.o (show q<=x+y by omega) HN.o;by_cases hpe:p%2=0
  ·have E1:=za (il p A1 n1 c1 wr hp.o zb hpe);by_cases hqe:q%2=0
   ·have E2:=za (il q A2 n2 c2 wr hq.o zb hqe);have HH:=za (iu p A1 n1 c1 wr hp.o zb);have ah:=za (show x=2^(t+1)*(p / 2) by rw [qP,qG,show 2*(p / 2)=p by omega];exact J.o);have ai:=za (show y=2^(t+1)*(q / 2) by rw [qP,qG,show 2*(q / 2)=q by omega];exact L.o);have m1:p / 2≠0/\q / 2≠0/\p / 2<p:=zb;obtain⟨m1,m2,m3⟩:=m1;clear hpe hqe J L;go_wp2_with (first|(go_at_call 166;(with_reducible refine E1.o.mono ?_);rintro e w' ⟨rfl,rfl⟩)|(go_at_call 166;(with_reducible refine E2.o.mono ?_);rintro e w' ⟨rfl,rfl⟩));refine HH.o.mono ?_;intro e w1 i;obtain⟨A9,n9,c9,rfl,j,hb⟩:=i.elim;clear i;have hq:=za (hq.o.below hb);have hB:=zc hB hb;have j:=za j;have ac:=za (iu q A2 n2 c2 w1 hq.o zb);clear hb hp E1 E2 HH;go_wp2_with fail;refine ac.o.mono ?_;intro e w2 i;obtain⟨A8,n8,c8,rfl,T,hb⟩:=i.elim;have j:=za (j.o.below hb);have hB:=zc hB hb;have T:=za T;clear hb hq ac i;go_wp2;go_roundg p
    case measure=>omega
    case rel=>exact⟨p / 2,q / 2,t+1,A9,n9,c9,A8,n8,c8,rfl,rfl,by go_num,m3,m1,m2,ah,ai,j,T,hB⟩
   ·have E2:=za (io q A2 n2 c2 wr hq.o zb hqe);have u:p%2≠0\/q%2≠0:=.inr hqe;clear hpe;go_wp2_with (first|(go_at_call 166;(with_reducible refine E1.o.mono ?_);rintro e w' ⟨rfl,rfl⟩)|(go_at_call 166;(with_reducible refine E2.o.mono ?_);rintro e w' ⟨rfl,rfl⟩));clear E1 E2 hqe
    go_loopg [1] (q+1) (λg s1 wr=>∃(r:Nat) (A3:ze) (n3 c3:Nat),s1=.slice A3 n3 c3/\r<g/\r≠0/\r<=q/\(p%2≠0\/r%2≠0)/\zd (Nat.gcd p r=Nat.gcd p q)/\zd (zB wr p A1 n1 c1)/\zd (zB wr r A3 n3 c3)/\Below w.heap.size w wr)
    case atStart=>exact⟨q,A2,n2,c2,rfl,zb,ae,qY _,u,rfl,hp,hq,hB⟩
    case round=>
     clear hp hq hB u;obtain⟨r,A3,n3,c3,rfl,ao,an,ap,u,F,hp,hr,hB⟩:=hrel;have aq:=oz hr.o (show r<=x+y by omega) HN.o;by_cases hre:r%2=0
     ·have I:p%2≠0:=zb;have E1:=za (il r A3 n3 c3 wr hr.o zb hre);have HH:=za (iu r A3 n3 c3 wr hr.o zb);have v:=za ((Xh hre I).trans F.o);have U:r / 2≠0:=zb;have V:r / 2<=q:=zb;have X:r / 2<r:=zb;have H:p%2≠0\/r / 2%2≠0:=.inl I;clear hre F u I;go_wp2_with (first|(go_at_call 166;(with_reducible refine E1.o.mono ?_);rintro e w' ⟨rfl,rfl⟩));refine HH.o.mono ?_;intro e w1 i;obtain⟨A9,n9,c9,rfl,j,hb⟩:=i.elim;clear i;have hp:=za (hp.o.below hb);have hB:=zc hB hb;have j:=za j;clear hb hr E1 HH;go_wp2;go_roundg r
      case measure=>omega
      case rel=>exact⟨r / 2,A9,n9,c9,rfl,X,U,V,H,v,hp,j,hB⟩
     ·have E1:=za (io r A3 n3 c3 wr hr.o zb hre);clear u;go_wp2_with (first|(go_at_call 166;(with_reducible refine E1.o.mono ?_);rintro e w' ⟨rfl,rfl⟩));clear E1
      go_loopg [0,1] (p+r+1) (λg s0 s1 wr=>∃(a b:Nat) (A5:ze) (n5 c5:Nat) (A6:ze) (n6 c6:Nat),s0=.slice A5 n5 c5/\s1=.slice A6 n6 c6/\a+b<g/\b%2≠0/\a<=x+y/\b<=x+y/\zd (Nat.gcd a b=Nat.gcd p q)/\zd (zB wr a A5 n5 c5)/\zd (zB wr b A6 n6 c6)/\Below w.heap.size w wr)
      case atStart=>exact⟨p,r,A1,n1,c1,A3,n3,c3,rfl,rfl,zb,hre,zb,zb,F,hp,hr,hB⟩
      case round=>
       clear hp hr hB F;obtain⟨a,b,A5,n5,c5,A6,n6,c6,rfl,rfl,ag,K,af,P,s,ha,o,hB⟩:=hrel;by_cases ha0:a=0
       ·have Z:n5=0:=by rw [ha.o.len,ha0];rfl
        have ab:=oz o.o (show b<=x+y by omega) HN.o;have HS:=Ze b t A6 n6 c6 wr o.o zb zb;have e:b*2^t=Nat.gcd x y:=by
         have h1:=s.o;rw [ha0,XE] at h1;rw [J.o,L.o,Nat.gcd_mul_left,<-h1,qS]
        rw [e] at HS;have O:=za HS;subst Z;clear HS e s ha o ha0;go_wp2_with fail;refine O.o.mono ?_;intro e w1 i;have G:=za (i.from_ hB);obtain⟨A9,n9,c9,rfl,_,_⟩:=i.elim;clear i;go_wp2;go_ret;exact G.o
       ·have aa:=fd ha.o ha0;have z5:decide ((0:Int)<(n5:Int))=true:=by simpa using aa
        go_wp2_with fail;obtain⟨wo,Y⟩:∃wo,wo=wr:=⟨_,rfl⟩;subst Y
        go_loopg [0] (a+1) (λg s0 wr=>∃(k:Nat) (A7:ze) (n7 c7:Nat),s0=.slice A7 n7 c7/\k<g/\k≠0/\k<=a/\zd (Nat.gcd k b=Nat.gcd p q)/\zd (zB wr k A7 n7 c7)/\zd (zB wr b A6 n6 c6)/\Below w.heap.size w wr)
        case atStart=>exact⟨a,A5,n5,c5,rfl,zb,ha0,qY _,s,ha,o,hB⟩
        case round=>
         clear ha o hB s;obtain⟨k,A7,n7,c7,rfl,al,aj,ak,s,hk,o,hB⟩:=hrel;have ar:=oz hk.o (show k<=x+y by omega) HN.o;have ab:=oz o.o (show b<=x+y by omega) HN.o;by_cases hke:k%2=0
         ·have E1:=za (il k A7 n7 c7 wr hk.o zb hke);have HH:=za (iu k A7 n7 c7 wr hk.o zb);have v:=za ((ip hke K).trans s.o);have Q:k / 2≠0:=zb;have R:k / 2<=a:=zb;have S:k / 2<k:=zb;clear hke s;go_wp2_with (first|(go_at_call 166;(with_reducible refine E1.o.mono ?_);rintro e w' ⟨rfl,rfl⟩));refine HH.o.mono ?_;intro e w1 i;obtain⟨A9,n9,c9,rfl,j,hb⟩:=i.elim;clear i;have o:=za (o.o.below hb);have hB:=zc hB hb;have j:=za j;clear hb hk E1 HH;go_wp2;go_roundg k
          case measure=>omega
          case rel=>exact⟨k / 2,A9,n9,c9,rfl,S,Q,R,v,j,o,hB⟩
         ·have E1:=za (io k A7 n7 c7 wr hk.o zb hke);have HC:=za (fo k b A7 A6 n7 n6 c7 c6 wr hk.o o.o zb zb);go_wp2_with (first|(go_at_call 166;(with_reducible refine E1.o.mono ?_);rintro e w' ⟨rfl,rfl⟩));refine HC.o.mono ?_;rintro e w' ⟨rfl,qd,rfl⟩;have C:zd (zB (wr.drewN qd) k A7 n7 c7):=hk;have B:zd (zB (wr.drewN qd) b A6 n6 c6):=o;have z:=un hB qd;clear hk o hB E1 HC;by_cases hlt:k<b
          ·have HS:=za (mW b k (QD hlt) A6 A7 n6 n7 c6 c7 _ B.o C.o zb zb);have v:=za ((fz (QD hlt)).trans ((XC b k).trans s.o));rw [tn hlt];have m1:b - k+k<a+b:=zb;have m2:b - k<=x+y:=zb;have m3:k<=x+y:=zb;clear s;go_wp2_with fail;refine HS.o.mono ?_;intro e w1 i;obtain⟨A9,n9,c9,rfl,j,hb⟩:=i.elim;have C:=za (C.o.below hb);have z:=zc z hb;have j:=za j;clear hb i HS B;go_wp2;go_roundg (a+b)
           case measure=>omega
           case rel=>exact⟨b - k,k,A9,n9,c9,A7,n7,c7,rfl,rfl,m1,hke,m2,m3,v,j,C,z⟩
          ·have M:b<=k:=zb;have HS:=za (mW k b M A7 A6 n7 n6 c7 c6 _ C.o B.o zb zb);have v:=za ((fz M).trans s.o);have E:z7 k b=0\/z7 k b=1:=by
            rcases xY b k with h|h
            ·exact .inr (sf h)
            ·exact .inl (lh zb)
           have m1:k - b+b<a+b:=zb;have m2:k - b<=x+y:=zb;clear s;rcases E with E|E
           all_goals
            rw [E]
            clear E
            go_wp2_with fail
            refine HS.o.mono ?_
            intro e w1 i
            obtain⟨A9,n9,c9,rfl,j,hb⟩:=i.elim
            have B:=za (B.o.below hb)
            have z:=zc z hb
            have j:=za j
            clear hb i HS C
            go_wp2
            go_roundg (a+b)
            case measure=>omega
            case rel=>exact⟨k - b,b,A9,n9,c9,A6,n6,c6,rfl,rfl,m1,K,m2,P,v,j,B,z⟩
  ·have E1:=za (io p A1 n1 c1 wr hp.o zb hpe);have u:p%2≠0\/q%2≠0:=.inl hpe;clear hpe;go_wp2_with (first|(go_at_call 166;(with_reducible refine E1.o.mono ?_);rintro e w' ⟨rfl,rfl⟩));clear E1
   go_loopg [1] (q+1) (λg s1 wr=>∃(r:Nat) (A3:ze) (n3 c3:Nat),s1=.slice A3 n3 c3/\r<g/\r≠0/\r<=q/\(p%2≠0\/r%2≠0)/\zd (Nat.gcd p r=Nat.gcd p q)/\zd (zB wr p A1 n1 c1)/\zd (zB wr r A3 n3 c3)/\Below w.heap.size w wr)
   case atStart=>exact⟨q,A2,n2,c2,rfl,zb,ae,qY _,u,rfl,hp,hq,hB⟩
   case round=>
    clear hp hq hB u;obtain⟨r,A3,n3,c3,rfl,ao,an,ap,u,F,hp,hr,hB⟩:=hrel;have aq:=oz hr.o (show r<=x+y by omega) HN.o;by_cases hre:r%2=0
    ·have I:p%2≠0:=zb;have E1:=za (il r A3 n3 c3 wr hr.o zb hre);have HH:=za (iu r A3 n3 c3 wr hr.o zb);have v:=za ((Xh hre I).trans F.o);have U:r / 2≠0:=zb;have V:r / 2<=q:=zb;have X:r / 2<r:=zb;have H:p%2≠0\/r / 2%2≠0:=.inl I;clear hre F u I;go_wp2_with (first|(go_at_call 166;(with_reducible refine E1.o.mono ?_);rintro e w' ⟨rfl,rfl⟩));refine HH.o.mono ?_;intro e w1 i;obtain⟨A9,n9,c9,rfl,j,hb⟩:=i.elim;clear i;have hp:=za (hp.o.below hb);have hB:=zc hB hb;have j:=za j;clear hb hr E1 HH;go_wp2;go_roundg r
     case measure=>omega
     case rel=>exact⟨r / 2,A9,n9,c9,rfl,X,U,V,H,v,hp,j,hB⟩
    ·have E1:=za (io r A3 n3 c3 wr hr.o zb hre);clear u;go_wp2_with (first|(go_at_call 166;(with_reducible refine E1.o.mono ?_);rintro e w' ⟨rfl,rfl⟩));clear E1
     go_loopg [0,1] (p+r+1) (λg s0 s1 wr=>∃(a b:Nat) (A5:ze) (n5 c5:Nat) (A6:ze) (n6 c6:Nat),s0=.slice A5 n5 c5/\s1=.slice A6 n6 c6/\a+b<g/\b%2≠0/\a<=x+y/\b<=x+y/\zd (Nat.gcd a b=Nat.gcd p q)/\zd (zB wr a A5 n5 c5)/\zd (zB wr b A6 n6 c6)/\Below w.heap.size w wr)
     case atStart=>exact⟨p,r,A1,n1,c1,A3,n3,c3,rfl,rfl,zb,hre,zb,zb,F,hp,hr,hB⟩
     case round=>
      clear hp hr hB F;obtain⟨a,b,A5,n5,c5,A6,n6,c6,rfl,rfl,ag,K,af,P,s,ha,o,hB⟩:=hrel;by_cases ha0:a=0
      ·have Z:n5=0:=by rw [ha.o.len,ha0];rfl
       have ab:=oz o.o (show b<=x+y by omega) HN.o;have HS:=Ze b t A6 n6 c6 wr o.o zb zb;have e:b*2^t=Nat.gcd x y:=by
        have h1:=s.o;rw [ha0,XE] at h1;rw [J.o,L.o,Nat.gcd_mul_left,<-h1,qS]
       rw [e] at HS;have O:=za HS;subst Z;clear HS e s ha o ha0;go_wp2_with fail;refine O.o.mono ?_;intro e w1 i;have G:=za (i.from_ hB);obtain⟨A9,n9,c9,rfl,_,_⟩:=i.elim;clear i;go_wp2;go_ret;exact G.o
      ·have aa:=fd ha.o ha0;have z5:decide ((0:Int)<(n5:Int))=true:=by simpa using aa
       go_wp2_with fail;obtain⟨wo,Y⟩:∃wo,wo=wr:=⟨_,rfl⟩;subst Y
       go_loopg [0] (a+1) (λg s0 wr=>∃(k:Nat) (A7:ze) (n7 c7:Nat),s0=.slice A7 n7 c7/\k<g/\k≠0/\k<=a/\zd (Nat.gcd k b=Nat.gcd p q)/\zd (zB wr k A7 n7 c7)/\zd (zB wr b A6 n6 c6)/\Below w.heap.size w wr)
       case atStart=>exact⟨a,A5,n5,c5,rfl,zb,ha0,qY _,s,ha,o,hB⟩
       case round=>
        clear ha o hB s;obtain⟨k,A7,n7,c7,rfl,al,aj,ak,s,hk,o,hB⟩:=hrel;have ar:=oz hk.o (show k<=x+y by omega) HN.o;have ab:=oz o.o (show b<=x+y by omega) HN.o;by_cases hke:k%2=0
        ·have E1:=za (il k A7 n7 c7 wr hk.o zb hke);have HH:=za (iu k A7 n7 c7 wr hk.o zb);have v:=za ((ip hke K).trans s.o);have Q:k / 2≠0:=zb;have R:k / 2<=a:=zb;have S:k / 2<k:=zb;clear hke s;go_wp2_with (first|(go_at_call 166;(with_reducible refine E1.o.mono ?_);rintro e w' ⟨rfl,rfl⟩));refine HH.o.mono ?_;intro e w1 i;obtain⟨A9,n9,c9,rfl,j,hb⟩:=i.elim;clear i;have o:=za (o.o.below hb);have hB:=zc hB hb;have j:=za j;clear hb hk E1 HH;go_wp2;go_roundg k
         case measure=>omega
         case rel=>exact⟨k / 2,A9,n9,c9,rfl,S,Q,R,v,j,o,hB⟩
        ·have E1:=za (io k A7 n7 c7 wr hk.o zb hke);have HC:=za (fo k b A7 A6 n7 n6 c7 c6 wr hk.o o.o zb zb);go_wp2_with (first|(go_at_call 166;(with_reducible refine E1.o.mono ?_);rintro e w' ⟨rfl,rfl⟩));refine HC.o.mono ?_;rintro e w' ⟨rfl,qd,rfl⟩;have C:zd (zB (wr.drewN qd) k A7 n7 c7):=hk;have B:zd (zB (wr.drewN qd) b A6 n6 c6):=o;have z:=un hB qd;clear hk o hB E1 HC;by_cases hlt:k<b
         ·have HS:=za (mW b k (QD hlt) A6 A7 n6 n7 c6 c7 _ B.o C.o zb zb);have v:=za ((fz (QD hlt)).trans ((XC b k).trans s.o));rw [tn hlt];have m1:b - k+k<a+b:=zb;have m2:b - k<=x+y:=zb;have m3:k<=x+y:=zb;clear s;go_wp2_with fail;refine HS.o.mono ?_;intro e w1 i;obtain⟨A9,n9,c9,rfl,j,hb⟩:=i.elim;have C:=za (C.o.below hb);have z:=zc z hb;have j:=za j;clear hb i HS B;go_wp2;go_roundg (a+b)
          case measure=>omega
          case rel=>exact⟨b - k,k,A9,n9,c9,A7,n7,c7,rfl,rfl,m1,hke,m2,m3,v,j,C,z⟩
         ·have M:b<=k:=zb;have HS:=za (mW k b M A7 A6 n7 n6 c7 c6 _ C.o B.o zb zb);have v:=za ((fz M).trans s.o);have E:z7 k b=0\/z7 k b=1:=by
           rcases xY b k with h|h
           ·exact .inr (sf h)
           ·exact .inl (lh zb)
          have m1:k - b+b<a+b:=zb;have m2:k - b<=x+y:=zb;clear s;rcases E with E|E
          all_goals
           rw [E]
           clear E
           go_wp2_with fail
           refine HS.o.mono ?_
           intro e w1 i
           obtain⟨A9,n9,c9,rfl,j,hb⟩:=i.elim
           have B:=za (B.o.below hb)
           have z:=zc z hb
           have j:=za j
           clear hb i HS C
           go_wp2
           go_roundg (a+b)
           case measure=>omega
           case rel=>exact⟨k - b,b,A9,n9,c9,A6,n6,c6,rfl,rfl,m1,K,m2,P,v,j,B,z⟩
