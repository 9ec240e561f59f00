/- What this claim leans on. -/
import Derived.Test.YtcojjcjgbepicaaGreatDoorHBunR
import Derived.Test.YtcojjcjgbepicaaGreatDoorHBunY
import Derived.Laws.Concat
namespace Go.Proofs.YtcojjcjgbepicaaGreatDoor
open Go Go.RowKit Go.Proofs.Tryz
set_option maxHeartbeats 16000000
set_option linter.unusedVariables false
theorem Sz.len16' {K x:Nat}(h:Sz K x):(dg 65536 x).length<=4*K:=zbB de9 _ _ (by rw [zfG];exact h)
theorem Sz.holds' {K x:Nat}(h:Sz K x){w:World}{A:oA9}{n c:Nat}(hw:zal w x A n c):n<=4*K:=by rw [hw.len];exact h.len16'
theorem zpL (cs:Array Value)(l:List Nat)(w:World)(g n x:Nat)(hk:Blk w g 161 cs)(hn:cs.size=n)(hv:cs.toList=zaw .u64 l)(hd:Dgs 18446744073709551616 l)(hx:dv 18446744073709551616 l=x)(hs:n<=1000):
  Calls prog 141 #[.slice (some ⟨g,0,none⟩) n n] w (zbA w x):=by
 have hl:l.length=n:=by
  have h:=congrArg List.length hv;rw [zaG] at h;rw [<-h];simpa using hn
 have:=ref2_of (some ⟨g,0,none⟩) n n l w (zdt hk hn (by rw [hv,List.take_of_length_le (by rw [zaG];omega)]) hl) hd om9;rw [hx] at this;exact this
set_option maxRecDepth 100000
def SaysYes (w:World)(e:Ending)(w':World):Prop:=e=.returned (.bool true)/\Below w.heap.size w w'
theorem zea (x:Nat)(A D:oA9)(n c m d:Nat)(w:World)(hA:zaf w x A n c)(hD:zal w x D m d)(hn:n<=1099511627776)(hm:m<=1099511627776):
  Calls prog 88 #[.agg #[.slice A n c],.slice D m d] w (SaysYes w):=by
 have HW:=(λw' (hb:Below w.heap.size w w')=>zdf x A n c w' (hA.below hb) hn);have HR:=up9 w (λw' hb=>zjw x D m d w' (hD.below hb) hm);have HI:=up9 w (λw' hb A1 c1 (h:zav w' w'.heap.size 1 A1 n (zaw .u64 (dg 18446744073709551616 x)))=>ref2_is x D A1 m d n c1 w' (hD.below hb) hm h hn);have a:=hA.len;unfold zfu at HW HR;rw [a] at HW HR;have g:=lh9 HW;have f:=lh9 HR;clear HW HR a hA hD;go_enter func88,ntmps88;go_wp2_with fail;obtain⟨b1,b2,b5⟩:=zaD w 49 #[.slice A n c];refine(g.out _ b1).mono ?_;rintro e w1 ⟨A1,c1,rfl,b,h1,⟨h2,_⟩,hb⟩;have hB:=zac b1 hb;have g1:w1.cell? ⟨w.heap.size,0,none⟩=some (.slice A n c):=zae hb (b2.cell 0);clear hb b1 b2 b5;go_wp2_with fail;refine(HI.out _ hB A1 c1 b).mono ?_;rintro e w2 ⟨rfl,hb⟩;have hB:=zac hB hb;have g1:=zae hb g1;clear hb b;go_wp2_with fail;refine(zbK x _ _ _ _).mono ?_;rintro e w3 ⟨rfl,hb⟩;have hB:=zac hB hb;clear hb g1;go_wp2_with fail;refine(f.out _ hB).mono ?_;rintro e w4 ⟨A2,c2,rfl,_,_,_,hb⟩;have hB:=zac hB hb;clear hb;go_wp2;go_ret;exact⟨rfl,hB⟩
set_option linter.unusedSimpArgs false
theorem zca {T:World->Prop}:IntC T where
 new s x A n c w _ hA hn:=zmG s x A n c w hA om9
 of z w _ h1 h2:=zon z w h1 h2
 belowI z b A n c w _ hA hn:=zjN z b A n c w hA
 abs z b A n c w _ hA hn:=(zmC z b A n c w hA om9).mono λ_ _ ⟨A',n',c',he,hw,hb,_⟩=>⟨A',n',c',he,hw,hb⟩
 sign z b A n c w _ hA hn:=zll z b A n c w hA
 cmp x y b b' A D n m c d w _ hA hD hn hm:=zmE x y b b' A D n m c d w hA hD om9 om9
 add x y b b' A D n m c d w _ hA hD hn hm:=zmD x y b b' A D n m c d w hA hD om9 om9
 mul x y b b' A D n m c d w _ hA hD hn hm:=zmF x y b b' A D n m c d w hA hD om9 om9
attribute [local go_sem] Oper.semAt_some
def RoundMay (I:Nat->World->Prop)(X:World->Prop)(k:Nat)(W:World):Exit->Act->World->Prop:=λe _ W'=>KeepsOthers W W'/\(e=.normal/\I k W'\/e=.ret/\X W')
def zjV (P:Program)(gf:Nat)(lb:Array Value)(enc:Nat->Array Value)(N:Nat)(I:Nat->World->Prop):Prop:=
 ∀ (l : Nat) (J : Nat → World → Prop) (Jx : World → Prop) (W : World),(∀ k W,J k W → I k W) →
  (∀k W,k<N->J (k+1) W->YieldAt Fence.wide 1 P l (enc k) W λe W'=>e=.returned (.bool true)/\J k W'\/e=.returned (.bool false)/\Jx W')->
  J N W->CallsIn Fence.wide 2 P gf (#[.func (.yield l) #[] #[]]++lb) W λe W'=>(∃v,e=.returned v)/\(J 0 W'\/Jx W')
theorem zkO {w W:World}{X:World->Prop}{b:Nat}{o:Obj}(hX:OwnFrom w.heap.size (fun(_:Unit) W=>X W))(h:X W)(hb:w.heap.size<=b)(ho:W.heap[b]?=some o)(hc:o.isCells=false)(o':Obj):X (W.putObj b o'):=
 hX.putObj (s:=()) o' h hb ho hc
theorem zqJ {P:Program}{g:Operand}{ps:Array Tmp}{assign body:Code}{Q:Exit->Act->World->Prop}{a:Act}{w:World}{gf:Nat}{lb:Array Value}(hg:a.eval g=.func (.func gf) #[] lb)
  (eg:∀args w,(callFunc gf args).run P w=.ok (.enter gf args) w) (N:Nat) (c:Nat->Array Value) (x:∀k,(c k).size=ps.size) (I:Nat->World->Prop) (X:World->Prop) (hI:∀k,OwnFrom w.heap.size (fun(_:Unit) W=>I k W)) (hX:OwnFrom w.heap.size (fun(_:Unit) W=>X W)) (h0:I N w)
  (i:zjV P gf lb c N I) (a1:Nat->Act)
  (b:∀(l k:Nat) (W:World) (K:Act->World->Prop),K (a1 k) W->assign.wpIn (Fence.wide.inRound l) 1 P (Exit.then K (λ_ _ _=>False)) {tmps:=(ps.zip (c k)).foldl (λt (p,v)=>t.setIfInBounds p v) a.tmps,defers:=[]} W)
  (d:∀(l k:Nat) (W:World),k<N->I (k+1) W->body.wpIn (Fence.wide.inRound l) 1 P (RoundMay I X k W) (a1 k) W)
  (f:∀(D:Nat) (W:World),w.heap.size<=D->I 0 W->W.heap[D]?=some (.deferred (some []))->Q .normal {a with defers:={target:=.collected D,args:=#[]}::a.defers} W)
  (n:∀(D:Nat) (W:World),w.heap.size<=D->X W->W.heap[D]?=some (.deferred (some []))->Code.ret.wpIn Fence.wide 3 P Q {a with defers:={target:=.collected D,args:=#[]}::a.defers} W):
  (Code.rangeFunc g ps assign body).wpIn Fence.wide 3 P Q a w:=by
 refine wpIn_rangeFunc λfn u=>?_;obtain⟨r,hr⟩:∃r:Loop,r={state:=.ready,pending:=none,fn,tmps:=a.tmps,params:=ps,assign,body,defers:=w.heap.size}:=⟨_,rfl⟩;obtain⟨V,hV⟩:∃V,(w.alloc (.deferred (some []))).alloc (.loop r)=V:=⟨_,rfl⟩;have gV:w.grownBy V none:=by rw [<-hV];exact(World.grownBy_alloc w _ none).trans (World.grownBy_alloc _ _ none)
 have rV:V.heap[w.heap.size+1]?=some (.loop r):=by
  have h:=World.alloc_heap_new (w.alloc (.deferred (some []))) (.loop r);rw [World.size_alloc,hV] at h;exact h
 have dV:V.heap[w.heap.size]?=some (.deferred (some [])):=by
  have h:=World.alloc_heap_new w (.deferred (some []));rw [<-hV,Below.heap_alloc _ _ _ si9];exact h
 have iV:I N V:=hI N () w V none h0 gV (λ_ e=>by cases e);refine⟨w.heap.size+1,[{target:=.collected w.heap.size,args:=#[]}],V,{target:=.fn (.func gf) lb,args:=#[.func (.yield (w.heap.size+1)) #[] #[]]},V,gf,#[.func (.yield (w.heap.size+1)) #[] #[]]++lb,V,?_,?_,λ_ _=>trivial,?_,λ_=>by omega,?_⟩
 ·rw [<-hV,hr];exact run_enterLoop_outer _ _ _ _ _
 ·simp only [resolve,hg];simp [go_sem]
 ·simp [invoke,go_sem,eg]
 obtain⟨rx,m⟩:∃rx:Loop,rx={r with state:=.done,pending:=some .ret}:=⟨_,rfl⟩;refine (i (w.heap.size + 1) (fun k W => I k W ∧ W.heap[w.heap.size + 1]? = some (.loop r) ∧ W.heap[w.heap.size]? = some (.deferred (some [])))
  (λW=>X W/\W.heap[w.heap.size+1]?=some (.loop rx)/\W.heap[w.heap.size]?=some (.deferred (some []))) V (λ_ _ h=>h.1) ?_ ⟨iV,rV,dV⟩).mono ?_
 ·rintro k W hk ⟨iW,rW,dW⟩;have hy:=run_yield (P:=P) (args:=c k) rW (by rw [hr];exact x k);have lt:=(Array.getElem?_eq_some_iff.1 rW).1;obtain⟨rb,j⟩:∃rb:Loop,rb={r with state:=.busy}:=⟨_,rfl⟩;have rY:(W.putObj (w.heap.size+1) (.loop rb)).heap[w.heap.size+1]?=some (.loop rb):=World.putObj_heap_same lt;have dX:(W.putObj (w.heap.size+1) (.loop rb)).heap[w.heap.size]?=some (.deferred (some [])):=(World.putObj_heap_other om9).trans dW;have iX:I (k+1) (W.putObj (w.heap.size+1) (.loop rb)):=zeR hI iW om9 rW rfl _;rw [hr] at hy;refine⟨fn,_,assign,body,hy,roundIn_of_wpIn u (b _ k W _ ⟨_,by have h:=run_beginRound (P:=P) rW (by rw [hr]);rw [<-j] at h;exact h,?_⟩)⟩;refine wpIn_mono (d _ k _ hk iX) ?_;rintro e a3 W3 ⟨o,h3⟩;have r3:=o.same _ _ rY rfl;have d3:=o.same _ _ dX rfl;have s:=(Array.getElem?_eq_some_iff.1 r3).1;rcases h3 with⟨rfl,i3⟩|⟨rfl,x3⟩
  ·have he:=run_endRound (P:=P) none r3;refine⟨_,_,he,.inl ⟨rfl,zeR hI i3 om9 r3 rfl _,?_,(World.putObj_heap_other om9).trans d3⟩⟩;rw [World.putObj_heap_same s,j,hr];rfl
  ·have he:=run_endRound (P:=P) (some .ret) r3;refine⟨_,_,he,.inr ⟨rfl,zkO hX x3 om9 r3 rfl _,?_,(World.putObj_heap_other om9).trans d3⟩⟩;rw [World.putObj_heap_same s,m,j,hr];rfl
 ·rintro e W2 ⟨⟨v,rfl⟩,⟨i2,r2,d2⟩|⟨x2,r2,d2⟩⟩
  ·have he:=run_endLoop (P:=P) r2 (by rw [hr];simp);rw [show r.pending=none from by rw [hr]] at he;exact⟨none,_,he,f _ _ (Nat.le_refl _) (zeR hI i2 om9 r2 rfl _) ((World.putObj_heap_other om9).trans d2)⟩
  ·have he:=run_endLoop (P:=P) r2 (by rw [m];simp);rw [show rx.pending=some .ret from by rw [m]] at he;exact⟨some .ret,_,he,n _ _ (Nat.le_refl _) (zkO hX x2 om9 r2 rfl _) ((World.putObj_heap_other om9).trans d2)⟩
theorem zlb (Bs len d:Nat)(A:oA9)(v:Nat->Nat)(I:Nat->World->Prop)(hlen:len<=1099511627776)
  (b:∀k W,I k W->W.cell? ⟨Bs,0,none⟩=some (.slice A len d)) (c:∀k W,k<len->I (k+1) W->∃ad,A=some ad/\W.cell? (ad.add k)=some (.int .u64 (v k:Int))):
  zjV prog 230 #[.pointer (some ⟨Bs,0,none⟩)] (λk=>#[.int .i64 (k:Int),.int .u64 (v k:Int)]) len I:=by
 intro l J Jx W hJ hY h0;have f:=b _ _ (hJ _ _ h0);have HB:=lh9 (λk W (h:J k W)=>b k W (hJ k W h));have HC:=lh9 (λk W (hk:k<len) (h:J (k+1) W)=>c k W hk (hJ _ _ h));have HY:=lh9 hY;have H0:=lh9 h0;have g:IntKind.i64.wrap ((len:Int) - 1)=(len:Int) - 1:=by rw [IntKind.wrap_i64];omega
 clear hJ hY h0 b c;refine callsIn_of_wp func230 rfl trivial ?_ rfl;simp only [ntmps230,List.size_toArray,List.length_cons,List.length_nil,Nat.reduceAdd,Nat.reduceSub,Array.replicate_succ,Array.replicate_zero,List.push_toArray,List.append_toArray,List.nil_append,List.cons_append]
 gi_wp2
 clear f g
 gi_loopw [3] (λi wr=>∃k:Nat,k<=len/\i=.int .i64 ((k:Int) - 1)/\J k wr) (λi _=>(intOf i+1).toNat)
 case atStart=>exact⟨len,Nat.le_refl _,rfl,H0.out⟩
 case round=>
  obtain⟨k,hk,rfl,a⟩:=hrel;have hb:=HB.out _ _ a;rcases k with _|k
  ·rw [show((0:Nat):Int) - 1= -1 from by decide];clear hb
   gi_wp2
   go_end0
   exact⟨⟨_,rfl⟩,.inl a⟩
  ·obtain⟨ad,rfl,hc⟩:=HC.out k wr hk a;obtain⟨fn,tmps,assign,body,hy,hR⟩:=HY.out k wr hk a;rw [show((k+1:Nat):Int) - 1=(k:Int) from by omega];have i1:(0:Int)<=(k:Int):=om9;have i2:(k:Int)<(len:Int):=om9;have i3:IntKind.i64.wrap ((k:Int) - 1)=(k:Int) - 1:=by rw [IntKind.wrap_i64];omega
   obtain⟨z,hz⟩:∃z,v k=z:=⟨_,rfl⟩
   try dsimp only at hy
   rw [hz] at hc hy;clear hz a
   gi_wp2
   refine hR.mono ?_;rintro e W3 (⟨rfl,hJ3⟩|⟨rfl,hJ3⟩)
   ·gi_wp2
    go_roundw
    case rel=>exact⟨k,om9,rfl,hJ3⟩
    case measure=>simp [intOf]
   ·gi_wp2
    refine bodyPost_ret (results_none rfl _ _ _) rfl ?_;exact⟨⟨_,rfl⟩,.inr hJ3⟩
attribute [local go_sem] Oper.semAt_some
def zcc (L1 L2:List Nat)(n k:Nat):Prop:=∀i,k<=i->i<n->L1.getD i 0=L2.getD i 0
theorem zcc.start (L1 L2:List Nat)(n:Nat):zcc L1 L2 n n:=λi h h'=>absurd h' om9
theorem zcc.step {L1 L2:List Nat}{n k:Nat}(h:zcc L1 L2 n (k+1))(e:L1.getD k 0=L2.getD k 0):zcc L1 L2 n k:=λi hi hn=>by
 rcases Nat.lt_or_ge k i with h1|h1
 ·exact h i om9 hn
 ·have:i=k:=om9;rw [this];exact e
theorem zcc.high {L1 L2:List Nat}{n k:Nat}(h:zcc L1 L2 n k)(h1:L1.length=n)(h2:L2.length=n):L1.drop k=L2.drop k:=by
 refine List.ext_getElem (by simp;omega) (λi a b=>?_);simp at a b;have:=h (k+i) om9 om9;rw [List.getD_eq_getElem?_getD,List.getD_eq_getElem?_getD,List.getElem?_eq_getElem om9,List.getElem?_eq_getElem om9] at this;simpa using this
theorem zcc.all {L1 L2:List Nat}{n:Nat}(h:zcc L1 L2 n 0)(h1:L1.length=n)(h2:L2.length=n):L1=L2:=by
 have:=h.high h1 h2;simpa using this
theorem zcc.less {L1 L2:List Nat}{n k:Nat}(h:zcc L1 L2 n (k+1))(h1:L1.length=n)(h2:L2.length=n)(d1:Dgs 18446744073709551616 L1)(d2:Dgs 18446744073709551616 L2)(a:L1.getD k 0<L2.getD k 0):dv 18446744073709551616 L1<dv 18446744073709551616 L2:=by
 have e:=h.high h1 h2;have e1:=congrArg (dv 18446744073709551616) e;rw [zfZ de9 d1,zfZ de9 d2] at e1;rw [zeo de9 d1,zeo de9 d2] at a;exact ziG e1 a
theorem zcc.symm {L1 L2:List Nat}{n k:Nat}(h:zcc L1 L2 n k):zcc L2 L1 n k:=λi a b=>(h i a b).symm
structure BelI (ty ty2:TypeId)(g1 g2 c1 c2 n q0 q1 q2:Nat)(L1 L2:List Nat)(w:World)(k:Nat)(W:World):Prop where
 same:zcc L1 L2 n k
 ybox:Blk W q0 47 #[.slice (some ⟨g2,0,none⟩) n c2]
 res:Blk W q1 4 #[.bool false]
 seq:Blk W q2 47 #[.slice (some ⟨g1,0,none⟩) n c1]
 r1:zau W ty g1 c1 n L1
 r2:zau W ty2 g2 c2 n L2
 below:Below w.heap.size w W
theorem BelI.own {ty a:TypeId}{g1 g2 c1 c2 n q0 q1 q2 B:Nat}{L1 L2:List Nat}{w:World}(hB:w.heap.size<=B)(k:Nat):OwnFrom B (fun(_:Unit) W=>BelI ty a g1 g2 c1 c2 n q0 q1 q2 L1 L2 w k W):=by
 intro _ W W' row h hg hr;exact⟨h.same,zbH h.ybox hg hr,zbH h.res hg hr,zbH h.seq hg hr,zdy h.r1 hg hr,zdy h.r2 hg hr,zeZ h.below (Nat.le_refl _) hB hg hr⟩
structure BelX (q1:Nat)(b:Bool)(w:World)(W:World):Prop where
 res:Blk W q1 4 #[.bool b]
 below:Below w.heap.size w W
theorem BelX.own {q1 B:Nat}{b:Bool}{w:World}(hB:w.heap.size<=B):OwnFrom B (fun(_:Unit) W=>BelX q1 b w W):=by
 intro _ W W' row h hg hr;exact⟨zbH h.res hg hr,zeZ h.below (Nat.le_refl _) hB hg hr⟩
theorem zqo (ty s:TypeId)(g1 g2 c1 c2 n:Nat)(L1 L2:List Nat)(w:World)(h1:zau w ty g1 c1 n L1)(h2:zau w s g2 c2 n L2)(y:Dgs 18446744073709551616 L1)(A:Dgs 18446744073709551616 L2)(hn:n<=1099511627776):
  Calls prog 220 #[.slice (some ⟨g1,0,none⟩) n c1,.slice (some ⟨g2,0,none⟩) n c2] w λe w'=>e=.returned (.bool (decide (dv 18446744073709551616 L1<dv 18446744073709551616 L2)))/\Below w.heap.size w w':=by
 have i:=lh9 h1.len;have j:=lh9 h2.len;have t:=lh9 y;have u:=lh9 A;have F:=lh9 h1;have G:=lh9 h2;obtain⟨v,hv⟩:∃v,decide (dv 18446744073709551616 L1<dv 18446744073709551616 L2)=v:=⟨_,rfl⟩;rw [hv];have HV:=lh9 hv;clear h1 h2 y A hv;refine(callsIn_wide (n:=3)).1 ?_;refine callsIn_of_wp_marks func220 rfl trivial ?_ rfl;simp only [ntmps220,List.size_toArray,List.length_cons,List.length_nil,Nat.reduceAdd,Nat.reduceSub,Array.replicate_succ,Array.replicate_zero,List.push_toArray,List.append_toArray,List.nil_append,List.cons_append];refine wpIn_wide.2 ?_;go_wp2_with fail;obtain⟨d1,d2,d3,d4,d5⟩:=zbs w 47 4 47 #[.slice (some ⟨g2,0,none⟩) n c2] #[.bool false] #[.slice (some ⟨g1,0,none⟩) n c1];refine(zev (some ⟨g1,0,none⟩) n c1 _).mono ?_;rintro e w2 ⟨rfl,C⟩;rw [C] at d1 d2 d3 d4 d5;obtain⟨z,hz⟩:∃z,w.heap.size=z:=⟨_,rfl⟩;have H0:=lh9 (show BelI ty s g1 g2 c1 c2 n z (z+1) (z+1+1) L1 L2 w n w2 from⟨zcc.start _ _ _,by rw [<-hz];exact d2,by rw [<-hz];exact d3,by rw [<-hz];exact d4,F.out.keep d1,G.out.keep d1,d1⟩);have x:=d1.size;clear d1 d2 d3 d4 d5 C;go_wp2_with fail;refine(wpIn_wide (n:=3)).1 ?_;refine zqJ (gf:=230) (lb:=#[.pointer (some ⟨z + 1 + 1,0,none⟩)]) rfl (enters_of func230 kr9 rfl) n (fun k => #[.int .i64 (k : Int),.int .u64 (L1.getD k 0 : Int)]) (fun _ => rfl)
  (λk W=>BelI ty s g1 g2 c1 c2 n z (z+1) (z+1+1) L1 L2 w k W) (λW=>BelX (z+1) v w W) (λk=>BelI.own x k) (BelX.own x) H0.out
  (zlb (z+1+1) n c1 (some ⟨g1,0,none⟩) (λk=>L1.getD k 0) _ hn (λk W h=>h.seq.cell 0) ?cells)
  (λk=>{tmps:=#[.slice (some ⟨g1,0,none⟩) n c1,.slice (some ⟨g2,0,none⟩) n c2,undef,.pointer (some ⟨z,0,none⟩),.pointer (some ⟨z+1,0,none⟩),.int .i64 (k:Int),.int .u64 (L1.getD k 0:Int),.slice (some ⟨g1,0,none⟩) n c1,.func (.func 230) #[] #[.pointer (some ⟨z+1+1,0,none⟩)],.int .i64 (k:Int),.int .u64 (L1.getD k 0:Int),undef,undef,undef,undef,undef,undef,undef,undef,undef,undef,undef,undef],defers:=[]}) ?assign ?body ?done ?stop
 case cells=>
  intro k W hk h;exact⟨_,rfl,by rw [znQ,h.r1.cell k hk]⟩
 case assign=>
  intro l k W K hK
  gi_wp2
  exact hK
 case body=>
  intro l k W hk h;have f:=h.same;have hy:=h.ybox;have c:=h.res;have I:=h.seq;have H:=h.r1;have B:=h.r2;have d:=h.below;clear h;have cy:=hy.cell 0;have cr:=c.cell 0;have fr:=c.frozen 0;have cg:=B.cell k hk;have i1:(0:Int)<=(k:Int):=om9;have i2:(k:Int)<(n:Int):=om9;by_cases hxy:L1.getD k 0=L2.getD k 0
  ·have HS:=lh9 (f.step hxy);rw [hxy];obtain⟨a,ha⟩:∃a,L2.getD k 0=a:=⟨_,rfl⟩;rw [ha] at cg⊢;clear f hxy ha
   gi_wp2
   exact⟨KeepsOthers.refl _,.inl ⟨rfl,HS.out,hy,c,I,H,B,d⟩⟩
  ·have HB:Hid (decide (L1.getD k 0<L2.getD k 0)=v):=by
    show _=_;rw [<-HV.out,decide_eq_decide];rcases Nat.lt_or_ge (L1.getD k 0) (L2.getD k 0) with hlt|hge
    ·exact⟨λ_=>f.less i.out j.out t.out u.out hlt,λ_=>hlt⟩
    ·have h:=f.symm.less j.out i.out u.out t.out om9;exact⟨λh'=>absurd h' om9,λh'=>absurd h' om9⟩
   obtain⟨a,ha⟩:∃a,L1.getD k 0=a:=⟨_,rfl⟩;obtain⟨b,hb⟩:∃a,L2.getD k 0=a:=⟨_,rfl⟩;rw [ha] at HB hxy⊢;rw [hb] at HB hxy cg;have E:=HB;have hq1:((a:Int)==(b:Int))=false:=by rw [beq_eq_false_iff_ne];omega
   have hq2:((a:Int) !=(b:Int))=true:=by rw [bne_iff_ne];omega
   clear f ha hb HB hxy
   gi_wp2
   exact⟨KeepsOthers.setCell _ _ _,.inr ⟨rfl,(by first|exact zfx c _|(rw [<-E.out];exact zfx c _)),d.setCell (p:=⟨z+1,0,none⟩) (by show w.heap.size<=z+1;omega) _⟩⟩
 case done=>
  intro D W hD h hK;have d:=h.below;have c:=h.res;have J:Hid (v=false):=by
   show _=_;rw [<-HV.out,h.same.all i.out j.out];simp
  have cr:=c.cell 0;have fr:=c.frozen 0;have g:=c.set_ 0 (.bool false);have m:=(KeepsOthers.setCell W ⟨z+1,0,none⟩ (.bool false)).same D _ hK rfl;have o:=cell_kept (g.cell 0) (grownBy_putObj' _ D (.deferred none)) (λr e=>by cases e;exact⟨_,m,rfl⟩);have HG : Hid (Below w.heap.size w ((W.setCell ⟨z + 1,0,none⟩ (.bool false)).putObj D (.deferred none))) :=
   (d.setCell (p:=⟨z+1,0,none⟩) (by show w.heap.size<=z+1;omega) _).trans (belowK_b (w:=w) (Nat.le_refl _) _ D _ _ om9 m rfl rfl)
  clear h c d g hK;go_wp2;refine⟨si9,.inl ⟨_,_,rfl,run_takeDeferred m,?_⟩⟩;exact⟨.bool false,by simp [results,f220,go_sem,o],by rw [J.out],HG.out⟩
 case stop=>
  intro D W hD h hK;have d:=h.below;have cr:=h.res.cell 0;have o:=cell_kept cr (grownBy_putObj' _ D (.deferred none)) (λr e=>by cases e;exact⟨_,hK,rfl⟩);have HG : Hid (Below w.heap.size w (W.putObj D (.deferred none))) :=
   d.trans (belowK_b (w:=w) (Nat.le_refl _) _ D _ _ om9 hK rfl rfl)
  clear h d
  gi_wp2
  refine⟨si9,.inl ⟨_,_,rfl,run_takeDeferred hK,?_⟩⟩;exact⟨.bool v,by simp [results,f220,go_sem,o],rfl,HG.out⟩
theorem zqX (x mm:Nat)(A:oA9)(n c:Nat)(w:World)(hA:zal w x A n c)(hn:n<=274877906944)(J:0<mm)(hm1:mm<=32768):
  Calls prog 216 #[.slice A n c,.int .i64 mm] w (zjX w x mm):=by
 obtain⟨i0,I,L,M,N⟩:=info_parts ziZ;have D:=lh9 hA.len;have hR:=hA.1;clear hA;obtain⟨Z,hZ⟩:∃Z,madeCells (Value.cells (.int .i64 0)) (n*i0.size)=Z:=⟨_,rfl⟩;have HZ:Hid (Z.size=n):=by show _=_;rw [<-hZ,size_madeCells,M,Nat.mul_one]
 have K:∀W:World,(Instr.makeSlice 28 (.int .i64 (n:Int)) (.int .i64 (n:Int))).run prog W=.ok (.slice (some ⟨W.heap.size,0,none⟩) n n) (W.alloc (.cells Z 3)):=λW=>by
  rw [<-hZ];exact zaW _ _ i0 _ underlying28 I L _ _ n n (Nat.le_refl _) (by rw [N];omega) om9 W
 clear hZ;go_enter func216,ntmps216;go_wp2;clear K
 go_loopg [7,8,9] (n + 1) (fun g s i _ wr => ∃ (k d : Nat) (cs : Array Value) (out : List Nat),k ≤ n ∧ k < g ∧ i = .int .i64 ((k : Int) - 1) ∧ s = .int .i64 d ∧ zeX x mm n k out d ∧
   Blk wr w.heap.size 3 cs/\cs.size=n/\cs.toList.drop k=zaw .i64 out/\Below w.heap.size w wr)
 case atStart=>exact⟨n,0,Z,[],Nat.le_refl _,om9,rfl,rfl,zeX.start J (by have:=D.out;omega),Blk.new w _ _,HZ.out,by rw [List.drop_of_length_le (by have:=HZ.out;simp;omega)];rfl,(Below.refl _ _).alloc (Nat.le_refl _) _⟩
 case round=>
  obtain⟨k,d,cs,out,hk,hg,rfl,rfl,f,hB,hsz,h,l⟩:=hrel;by_cases hk0:k=0
  ·subst hk0;obtain⟨f1,f2⟩:=f.done;have z:out.length=n:=by have:=f.len;omega
   have B:zav wr wr.heap.size 1 (some ⟨w.heap.size,0,none⟩) n (zaw .i64 out):=by
    refine⟨by rw [zaG];omega,λ_=>⟨_,rfl,hB.lt,λj u hu=>?_⟩⟩;have e:(⟨w.heap.size,0,none⟩:Addr).add j=⟨w.heap.size,j,none⟩:=by unfold Addr.add;split<;>simp_all
    rw [e,hB.cell j,<-Array.getElem?_toList];rw [List.drop_zero] at h;rw [h];exact hu
   have T:=zhL (some ⟨w.heap.size,0,none⟩) n n out wr B f.dgs (Nat.le_refl _) om9 om9;rw [f1] at T;have HT:=lh9 T;have F2:=lh9 f2;clear T B f1 f2 f h hsz z;go_wp2_with fail;refine HT.out.mono ?_;intro e w2 o;have y:=o.from_ l;obtain⟨A2,n2,c2,rfl,H,G⟩:=o.elim;have C:=lh9 y;clear o H G y;go_wp2_with fail
   go_ret2
   exact⟨_,by rw [<-F2.out];rfl,C.out⟩
  ·obtain⟨j,rfl⟩:∃j,k=j+1:=⟨k - 1,om9⟩;obtain⟨ad,rfl,r,t⟩:=zbF hR (k:=j) om9;have v:wr.cell? (ad.add j)=some (.int .i64 ((dg 65536 x).getD j 0:Nat)):=(l.cell (by rw [zan];exact r)).trans t;rw [zgk] at v;have F:x / 65536^j%65536<65536:=Nat.mod_lt _ de9;have p:=f.step hk rfl;have hleft:=f.rest;obtain⟨a,ha⟩:∃b,x / 65536^j%65536=b:=⟨_,rfl⟩;rw [ha] at v F p;have hfr:=hB.frozen j;have m:∃u,wr.cell? ⟨w.heap.size,j,none⟩=some u:=by
    rw [hB.cell j];exact⟨cs[j]' om9,Array.getElem?_eq_getElem om9⟩
   obtain⟨u,hu⟩:=m;have E:=lh9 p;have HS:=lh9 hsz;have HD:=lh9 h;clear p ha f t hsz h;go_wp2;go_roundg (j+1)
   case measure=>omega
   case rel=>exact⟨j,(d*65536+a)%mm,cs.setIfInBounds j (.int .i64 (((d:Int)*65536+(a:Int)) / (mm:Int))),_,om9,om9,by go_num,by go_num,E.out,hB.set_ _ _,by simpa using HS.out,by rw [drop_set _ _ _ (by have:=HS.out;omega),HD.out];simp [zaw],l.setCell (Nat.le_refl _) _⟩
def BackD (b x y:Nat)(D:List Nat):Prop:=D++dg b y=dg b x
theorem BackD.step {b x y:Nat}{D:List Nat}(h:BackD b x y D)(hb:2<=b)(hy:y≠0):BackD b x (y / b) (D++[y%b]):=by
 unfold BackD at h⊢;rw [<-h,zen hb hy,List.append_assoc];rfl
section
variable {P:Program}{ops:Array Oper}{Q:Exit->Act->World->Prop}{S:World->Prop}{fuel:Nat}{l:Array Bool}{a:Act}{w:World}
theorem rcb (i j:Nat){o p:Oper}(hk:∀K':Act->World->Prop,Shut (∀(a:Act) (w:World),S w->(S w->wpAnyH P .any ops (NoPanic Q) S fuel (l.setIfInBounds i true) a w)->K' a w)->Oper.wp P o a w K' (NoPanic Q))(hj:∀K':Act->World->Prop,Shut (∀(a:Act) (w:World),S w->(S w->wpAnyH P .any ops (NoPanic Q) S fuel (l.setIfInBounds j true) a w)->K' a w)->Oper.wp P p a w K' (NoPanic Q))(h1:ops[i]?=some o:=by simp only [List.getElem?_toArray,List.getElem?_cons_succ,List.getElem?_cons_zero];rfl)(b:ops[j]?=some p:=by simp only [List.getElem?_toArray,List.getElem?_cons_succ,List.getElem?_cons_zero];rfl)(h2:Region.ready .any ops l=[i,j]:=by kernel_rfl)(h3:Region.wanted o (yielded ops a.tmps)=true:=by rfl)(c:Region.wanted p (yielded ops a.tmps)=true:=by rfl):wpAnyH P .any ops (NoPanic Q) S (fuel+1) l a w:=
 wpAnyH_ready h2 si9 (AllReadyH.cons h1 (λK' hK=>by rw [if_pos h3];exact hk K' hK) (AllReadyH.cons b (λK' hK=>by rw [if_pos c];exact hj K' hK) AllReadyH.nil))
end
