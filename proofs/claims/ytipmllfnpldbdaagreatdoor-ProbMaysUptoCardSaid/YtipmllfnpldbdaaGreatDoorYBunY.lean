/- What this claim leans on. -/
import Derived.Test.YtipmllfnpldbdaaGreatDoorYP4C
import Derived.Test.YtipmllfnpldbdaaGreatDoorYNTold
set_option linter.unusedVariables false
set_option linter.unusedSimpArgs false
namespace Go.Proofs.YtipmllfnpldbdaaGreatDoor
open Go Go.RowKit Go.Proofs.Tryz
set_option maxHeartbeats 16000000
set_option maxRecDepth 100000
variable {L:List Nat}{B B0 X a b g m x:Nat}{t:TypeId}{w w':World}
attribute [local go_sem] Oper.semAt_some
theorem fI (x:Nat)(A:zf)(n c:Nat)(w:World)(hA:zp w x A n c):
  Calls prog 140 #[.agg #[.slice A n c],.int .u64 0] w (kh w 0 0 false):=by
 go_enter func140,ntmps140;go_wp2;refine bodyPost_ret (v:=.tuple #[.agg #[.slice none 0 0],.int .u64 0,.bool false]) (by simp [results,results140,go_sem]) rfl ?_;exact⟨none,0,0,rfl,iy _,(yc w _ _ _ _ _ _).1⟩
def aU (w:World)(q x:Nat)(b:Bool)(e:Ending)(w':World):Prop:=∃(A:zf) (n c:Nat),e=.returned (.tuple #[.agg #[.slice A n c],.int .u64 (x:Int),.bool b])/\zp w' q A n c/\Below w.heap.size w w'/\uk w A
theorem mF {n:Nat}{W W':World}{row:Option Nat}(h:zy W t g a n L)(hg:W.grownBy W' row)(hr:∀r,row=some r->B<=r/\∃o:Obj,W.heap[r]?=some o/\o.isCells=false):zy W' t g a n L:=by
 obtain⟨d,h0,h1⟩:=h;exact⟨d,wY h0 hg hr,h1⟩
structure mX (x a n c1 gs q0 q1 q2 q3 q4:Nat)(A1:zf)(w:World)(k:Nat)(W:World):Prop where
 row:∃L r,rp x a k n L r/\zi W q3 141 #[.int .u64 (r:Int)]/\(0<n->∃g,A1=some ⟨g,0,none⟩/\gs<=g/\g<q2/\zy W 141 g c1 n L)
 abox:zi W q0 141 #[.int .u64 (a:Int)]
 res:zi W q1 56 #[.slice none 0 0]
 qbox:zi W q2 54 #[.slice A1 n c1]
 seq:zi W q4 54 #[.slice A1 n c1]
 below:Below w.heap.size w W
theorem mX.own {n c1 gs q0 q1 q2 q3 q4:Nat}{A1:zf}(hB:w.heap.size<=B)(k:Nat):OwnFrom B (fun(_:Unit) W=>mX x a n c1 gs q0 q1 q2 q3 q4 A1 w k W):=by
 intro _ W W' row h hg hr;obtain⟨L,r,h1,h2,h3⟩:=h.row;refine⟨⟨L,r,h1,wY h2 hg hr,λhn=>?_⟩,wY h.abox hg hr,wY h.res hg hr,wY h.qbox hg hr,wY h.seq hg hr,kM h.below (qX _) hB hg hr⟩;obtain⟨g,e,h4,h5,h6⟩:=h3 hn;exact⟨g,e,h4,h5,mF h6 hg hr⟩
theorem iE {n c D:Nat}{A:zf}{o:Obj}(h:zp w x A n c)(hD:w.heap[D]?=some o)(ho:o.isCells=false)(o':Obj):zp (w.putObj D o') x A n c:=by
 obtain⟨⟨h1,h2⟩,h3⟩:=h;refine⟨⟨h1,λhn=>?_⟩,h3⟩;obtain⟨ad,e,hb,hc⟩:=h2 hn;exact⟨ad,e,by simpa using hb,λj u hu=>cell_kept (hc j u hu) (grownBy_putObj' w D o') (λr e=>by cases e;exact⟨_,hD,ho⟩)⟩
theorem gY (g k:Nat):(⟨g,0,none⟩:Addr).add k=⟨g,k,none⟩:=by unfold Addr.add;split<;>simp_all
theorem ZE (x a:Nat)(A:zf)(n c:Nat)(w:World)(hA:zp w x A n c)(hn:n<=274877906944)(ha:a<18446744073709551616)(ai:a≠0):
  Calls prog 140 #[.agg #[.slice A n c],.int .u64 (a:Int)] w (aU w (x / a) (x%a) true):=by
 have Q:=zn w (λw' hb=>kK x A n c w' (hA.below hb) za);have HI:=zd (rp.start (a:=a) hA.len ai);have hz:((a:Int)==0)=false:=by simp;omega
 clear hA;refine(callsIn_wide (n:=3)).1 ?_;refine callsIn_of_wp_marks func140 rfl trivial ?_ rfl;simp only [ntmps140,xH,xY,YZ,Nat.reduceAdd,Nat.reduceSub,yM,yN,List.push_toArray,yW,XR,yZ];refine wpIn_wide.2 ?_;go_wp2_with fail;obtain⟨b1,b2,b3,b4,b5⟩:=yc w 56 141 56 #[.slice A n c] #[.int .u64 (a:Int)] #[.slice none 0 0];generalize hW:((w.alloc (.cells #[.slice A n c] 56)).alloc (.cells #[.int .u64 (a:Int)] 141)).alloc (.cells #[.slice none 0 0] 56)=W0 at*;clear hW b2;refine(Q.o _ b1).mono ?_;rintro e w1 ⟨v,rfl,j,hb⟩;obtain⟨A1,c1,rfl,aj,ak,_⟩:=zE.of_grown_own j;have hB:=ze b1 hb;have ka:=zj hb b3;have kr:=zj hb b4;have aq:w.heap.size+3<=W0.heap.size:=b5;clear hb b1 b3 b4 b5;go_wp2_with fail;have ap:w.heap.size+2<w1.heap.size:=kr.lt;obtain⟨d1,d2,d3,d4,d5⟩:=yc w1 54 141 54 #[.slice A1 n c1] #[.int .u64 0] #[.slice A1 n c1];refine(ii A1 n c1 _).mono ?_;rintro e w2 ⟨rfl,M⟩;rw [M] at d1 d2 d3 d4 d5;have hB:=ze hB d1;obtain⟨ka,kr⟩:=zV d1 ka kr;have G:0<n->∃g,A1=some ⟨g,0,none⟩/\W0.heap.size<=g/\g<w1.heap.size/\zy w2 141 g c1 n (dg 18446744073709551616 x):=λh=>by
  obtain⟨g,cap,e,hg,hR⟩:=zy.of_own j h;injection e with e1 _ e3;subst e1 e3;exact⟨g,rfl,hg,hR.lt,by rw [<-M];exact((hR.alloc _).alloc _).alloc _⟩
 clear M d1 j d5;have H0:=zd (show mX x a n c1 W0.heap.size (w.heap.size+1) (w.heap.size+1+1) w1.heap.size (w1.heap.size+1) (w1.heap.size+1+1) A1 w n w2 from⟨⟨_,0,HI.o,d3,G⟩,ka,kr,d2,d4,hB⟩);have ag:=hB.size;clear G ka kr d2 d3 d4 hB;go_wp2_with fail;obtain⟨gs,X⟩:∃g,W0.heap.size=g:=⟨_,rfl⟩;obtain⟨z,Z⟩:∃z,w1.heap.size=z:=⟨_,rfl⟩;rw [X] at H0 aq;rw [Z] at H0 ap⊢;clear X Z;refine(wpIn_wide (n:=3)).1 ?_;refine eJ (gf:=155) (lb:=#[.pointer (some ⟨z + 1 + 1,0,none⟩)]) rfl (enters_of func155 zm rfl) n (fun k => #[.int .i64 (k : Int),.int .u64 (wd x k : Int)]) (fun _ => rfl)
  (λk W=>mX x a n c1 gs (w.heap.size+1) (w.heap.size+1+1) z (z+1) (z+1+1) A1 w k W) (λk=>mX.own ag k) H0.o
  (fD (z+1+1) n c1 A1 (wd x) _ za (λk W h=>h.seq.cell 0) ?cells)
  (λk=>{tmps:=#[.agg #[.slice A n c],.int .u64 (a:Int),.pointer (some ⟨w.heap.size,0,none⟩),.pointer (some ⟨w.heap.size+1,0,none⟩),.pointer (some ⟨w.heap.size+1+1,0,none⟩),.int .u64 0,.bool false,.pointer (some ⟨z,0,none⟩),.pointer (some ⟨z+1,0,none⟩),.int .i64 (k:Int),.int .u64 (wd x k:Int),.int .u64 (a:Int),.bool false,undef,.agg #[.slice A n c],.slice A1 n c1,.slice A1 n c1,.func (.func 155) #[] #[.pointer (some ⟨z+1+1,0,none⟩)],.int .i64 (k:Int),.int .u64 (wd x k:Int),undef,undef,undef,undef,undef,undef,undef,undef,undef,undef,undef,undef,undef,undef],defers:=[]}) ?assign ?body ?done
 case cells=>
  intro k W hk h;obtain⟨L,r,h1,h2,h3⟩:=h.row;obtain⟨g,e,_,_,hR⟩:=h3 za;refine⟨_,e,?_⟩;rw [gY,hR.cell k hk,h1.get za]
 case assign=>
  intro l k W K hK
  gi_wp2
  exact hK
 case body=>
  intro l k W hk h;have ar:=h.seq;have F:=h.abox;have E:=h.res;have Y:=h.qbox;have i:=h.below;obtain⟨L,r,h1,h2,h3⟩:=h.row;obtain⟨g,rfl,am,an,hR⟩:=h3 za;clear h h3;have hr:=h1.rest;have hw:=xl x k;have B:=h1.step (s:=r*18446744073709551616+wd x k) hk rfl ha;obtain⟨v,hv⟩:∃v,wd x k=v:=⟨_,rfl⟩;rw [hv] at hw B⊢;have H:=λw=>aW r v a hr ha hw w;obtain⟨t1,I⟩:∃t,(r*18446744073709551616+v) / a=t:=⟨_,rfl⟩;obtain⟨t2,J⟩:∃t,(r*18446744073709551616+v)%a=t:=⟨_,rfl⟩;rw [I,J] at B;rw [I,J] at H;have HS:=zd B;have aa:=zd H;clear B H I J hv h1;have cq:=Y.cell 0;have ca:=F.cell 0;have cr:=h2.cell 0;have fr:=h2.frozen 0;have cg:=hR.cell k hk;have fg:=hR.frozen k;have i1:(0:Int)<=(k:Int):=za;have i2:(k:Int)<(n:Int):=za;have af:W.drew.cell? ⟨z+1,0,none⟩=some (.int .u64 (r:Int)):=cr;refine wpIn_block ?_;refine fO (S:=(λw'=>w'.cell? ⟨z,0,none⟩=some (.slice (some ⟨g,0,none⟩) n c1)/\w'.cell? ⟨w.heap.size+1,0,none⟩=some (.int .u64 (a:Int)))) zm zm (λ_ _ h=>by cases h.1) ?_ (λhHeld=>?_)
  ·exact⟨cq,ca⟩
  refine zT 0 (v:=?_) ?_ ?_
  rotate_left
  focus ((intro w d;(try dsimp only at d);go_simp);(try with_reducible rfl))
  try simp only [Act.put,qK,qG,qH]
  refine zT 1 (v:=?_) ?_ ?_
  rotate_left
  focus ((intro w d;(try dsimp only at d);go_simp);(try with_reducible rfl))
  try simp only [Act.put,qK,qG,qH]
  refine zT 3 (v:=?_) ?_ ?_
  rotate_left
  focus ((intro w d;(try dsimp only at d);go_simp);(try with_reducible rfl))
  try simp only [Act.put,qK,qG,qH]
  refine zT 4 (v:=?_) ?_ ?_
  rotate_left
  focus ((intro w d;(try dsimp only at d);go_simp);(try with_reducible rfl))
  try simp only [Act.put,qK,qG,qH]
  refine wpAnyH_ready (rs:=[2]) zm zD ?_;refine vk (λK hK=>?_);go_simp;refine hK.out _ _ ?_ (λhHeld=>?_)
  ·((try dsimp only);exact hHeld)
  clear hK K
  try simp only [Act.put,qK,qG,qH]
  refine wpAnyH_ready (rs:=[5]) zm zD ?_;refine vk (λK hK=>?_);go_simp;refine(aa.o _).mono ?_;rintro e w' ⟨rfl,nn,rfl⟩;have fg1:(W.drew.drewN nn).frozen? ⟨g,k,none⟩=false:=fg;have R:∃u,(W.drew.drewN nn).cell? ⟨g,k,none⟩=some u:=⟨_,cg⟩;obtain⟨u1,R⟩:=R;have fr1:((W.drew.drewN nn).setCell ⟨g,k,none⟩ (.int .u64 (t1:Int))).frozen? ⟨z+1,0,none⟩=false:=by rw [World.frozen?_setCell];exact fr
  have cr1:((W.drew.drewN nn).setCell ⟨g,k,none⟩ (.int .u64 (t1:Int))).cell? ⟨z+1,0,none⟩=some (.int .u64 (r:Int)):=zS _ (by show z+1≠g;omega) af;refine hK.out _ _ ?_ (λhHeld=>?_)
  ·((try dsimp only);exact hHeld)
  clear hK K
  try simp only [Act.put,qK,qG,qH]
  refine zT 6 (v:=?_) ?_ ?_
  rotate_left
  focus ((intro w d;(try dsimp only at d);go_simp);(try with_reducible rfl))
  try simp only [Act.put,qK,qG,qH]
  refine zT 7 (v:=?_) ?_ ?_
  rotate_left
  focus ((intro w d;(try dsimp only at d);go_simp);(try with_reducible rfl))
  try simp only [Act.put,qK,qG,qH]
  refine zT 8 (v:=?_) ?_ ?_
  rotate_left
  focus ((intro w d;(try dsimp only at d);go_simp);(try with_reducible rfl))
  try simp only [Act.put,qK,qG,qH]
  refine zT 9 (v:=?_) ?_ ?_
  rotate_left
  focus ((intro w d;(try dsimp only at d);go_simp);(try with_reducible rfl))
  try simp only [Act.put,qK,qG,qH]
  refine zT 10 (v:=?_) ?_ ?_
  rotate_left
  focus ((intro w d;(try dsimp only at d);go_simp);(try with_reducible rfl))
  try simp only [Act.put,qK,qG,qH]
  refine wpAnyH_ready (rs:=[11]) zm zD ?_;refine vk (λK hK=>?_);go_simp;refine hK.out _ _ ?_ (λhHeld=>?_)
  ·((try dsimp only);exact⟨zS _ (by show z≠g;omega) hHeld.1,zS _ (by show w.heap.size+1≠g;omega) hHeld.2⟩)
  clear hK K
  try simp only [Act.put,qK,qG,qH]
  refine wpAnyH_ready (rs:=[12]) zm zD ?_;refine vk (λK hK=>?_);go_simp;refine hK.out _ _ ?_ (λhHeld=>?_)
  ·((try dsimp only);exact⟨zS _ (by show z≠z+1;omega) hHeld.1,zS _ (by show w.heap.size+1≠z+1;omega) hHeld.2⟩)
  clear hK K
  try simp only [Act.put,qK,qG,qH]
  refine wpAnyH_done zm ?_ _;refine⟨rfl,(KeepsOthers.trans (show KeepsOthers W (W.drewN (1+nn)) from⟨qX _,λ_ _ h _=>h⟩) (KeepsOthers.setCell _ _ _)).trans (KeepsOthers.setCell _ _ _),?_⟩;have U:Below w.heap.size w (W.drewN (1+nn)):=⟨i.os,i.tape,i.output,i.size,i.block⟩;have h3:zi (((W.drewN (1+nn)).setCell ⟨g,k,none⟩ (.int .u64 (t1:Int))).setCell ⟨z+1,0,none⟩ (.int .u64 (t2:Int))) (z+1) 141 #[.int .u64 (t2:Int)]:=((h2.drewN (1+nn)).far (p:=⟨g,k,none⟩) (by show z+1≠g;omega) _).set_ 0 _;have ah:zy (W.drewN (1+nn)) 141 g c1 n L:=hR;exact ⟨⟨_,t2,HS.o,h3,fun _ => ⟨g,rfl,am,an,(ah.set_ k t1 hk).far (p:=⟨z + 1,0,none⟩) (by show g ≠ z + 1; omega) _⟩⟩,
   ((F.drewN (1+nn)).far (p:=⟨g,k,none⟩) (by show w.heap.size+1≠g;omega) _).far (p:=⟨z+1,0,none⟩) (by show w.heap.size+1≠z+1;omega) _,
   ((E.drewN (1+nn)).far (p:=⟨g,k,none⟩) (by show w.heap.size+1+1≠g;omega) _).far (p:=⟨z+1,0,none⟩) (by show w.heap.size+1+1≠z+1;omega) _,
   ((Y.drewN (1+nn)).far (p:=⟨g,k,none⟩) (by show z≠g;omega) _).far (p:=⟨z+1,0,none⟩) (by show z≠z+1;omega) _,
   ((ar.drewN (1+nn)).far (p:=⟨g,k,none⟩) (by show z+1+1≠g;omega) _).far (p:=⟨z+1,0,none⟩) (by show z+1+1≠z+1;omega) _,
   (U.setCell (p:=⟨g,k,none⟩) (by show w.heap.size<=g;omega) _).setCell (p:=⟨z+1,0,none⟩) (by show w.heap.size<=z+1;omega) _⟩
 case done=>
  intro D W hD h hK;have i:=h.below;have E:=h.res;have cq:W.cell? ⟨z,0,none⟩=some (.slice A1 n c1):=h.qbox.cell 0;obtain⟨L,r,h1,h2,h3⟩:=h.row;obtain⟨hq,hr⟩:=h1.done;have cr:W.cell? ⟨z+1,0,none⟩=some (.int .u64 (r:Int)):=h2.cell 0;have y:zE W.drew W.drew.heap.size 1 A1 n (zw .u64 L):=by
   rcases QS n with e|e
   ·subst e;have hl:=h1.len;rw [qM hl];exact⟨rfl,λh=>absurd h za⟩
   ·obtain⟨g,rfl,_,_,hR⟩:=h3 e;exact hR.drew.reads
  have HO:=vr A1 n c1 L W.drew y h1.dgs aj (by unfold maxLen at ak;omega) za;rw [hq] at HO;rw [hr] at h2 cr;obtain⟨xq,N⟩:∃q,x / a=q:=⟨_,rfl⟩;obtain⟨xr,O⟩:∃q,x%a=q:=⟨_,rfl⟩;rw [N] at HO;rw [O] at cr;have ac:=zd N;have ae:=zd O;have ab:=zd HO;have P:=zd hK;clear h h1 h2 h3 hq hr HO y N O Q HI H0 hK;go_wp2_with fail
  go_region_held3 (fun w' => w'.cell? ⟨z,0,none⟩ = some (.slice A1 n c1) ∧ w'.cell? ⟨z + 1,0,none⟩ = some (.int .u64 (xr : Int)))
   (first|(exact⟨cq,cr⟩)|(go_split_ands;(repeat' apply And.intro);all_goals (first|exact zo|exact zq hb zo|exact zS _ (by simp;omega) zo)))
   (first|(go_at_call 89;(with_reducible refine ab.o.mono ?_);rintro e w' ⟨A3,n3,c3,rfl,hw,hb,hf⟩;have m:=zj hb E.drew;have f1:=m.frozen 0;have f2:=m.cell 0))
  have ao:D<W.heap.size:=(Array.getElem?_eq_some_iff.1 P.o).1;have k1:w'.heap[D]?=some (.deferred (some [])):=(hb.block D ao).trans P.o;have hq1:=E.lt;have V:=World.cell?_setCell_same' w' ⟨w.heap.size+1+1,0,none⟩ (.slice A3 n3 c3) (by rw [f2];rfl);have C:=(KeepsOthers.setCell w' ⟨w.heap.size+1+1,0,none⟩ (.slice A3 n3 c3)).same D _ k1 rfl;have al:=cell_kept V (grownBy_putObj' _ D (.deferred none)) (λr e=>by cases e;exact⟨_,C,rfl⟩);have T:Below w.heap.size w w':=i.trans ((show Below W.heap.size W w' from⟨hb.os,hb.tape,hb.output,hb.size,hb.block⟩).mono i.size);have HG : zg (aU w (x / a) (x % a) true (.returned (.tuple #[.agg #[.slice A3 n3 c3],.int .u64 (xr : Int),.bool true])) ((w'.setCell ⟨w.heap.size + 1 + 1,0,none⟩ (.slice A3 n3 c3)).putObj D (.deferred none))) :=
   ⟨A3,n3,c3,by rw [ae.o],by rw [ac.o]; exact iE (oF hw (fun ad e => by have h1 : W.heap.size ≤ ad.block:=hf ad e; show ad.block ≠ w.heap.size + 1 + 1; omega) _) C rfl _,
    (T.setCell (p:=⟨w.heap.size+1+1,0,none⟩) (by show w.heap.size<=w.heap.size+1+1;omega) _).trans (belowK_b (w:=w) (qX _) _ D _ _ za C rfl rfl),λad e=>by have h1:W.heap.size<=ad.block:=hf ad e;have h2:=i.size;omega⟩
  clear hb hw hf m f1 f2 T k1 V cq cr;go_wp2;refine⟨zD,.inl ⟨_,_,rfl,run_takeDeferred C,?_⟩⟩;exact⟨.tuple #[.agg #[.slice A3 n3 c3],.int .u64 (xr:Int),.bool true],by simp [results,f140,go_sem,al],HG.o⟩
theorem fY (x a:Nat)(A:zf)(n c:Nat)(w:World)(hA:zp w x A n c)(hn:n<=274877906944)(ha:a<18446744073709551616)(d:a≠0):
  Calls prog 140 #[.agg #[.slice A n c],.int .u64 (a:Int)] w (kh w (x / a) (x%a) true):=
 (ZE x a A n c w hA hn ha d).mono λ_ _ ⟨A3,n3,c3,h1,h2,h3,_⟩=>⟨A3,n3,c3,h1,h2,h3⟩
attribute [local go_sem] Oper.semAt_some
theorem jA (w:World)(t:TypeId)(a b c d:Array Value):Below w.heap.size w ((((w.alloc (.cells a t)).alloc (.cells b t)).alloc (.cells c t)).alloc (.cells d t))/\zi ((((w.alloc (.cells a t)).alloc (.cells b t)).alloc (.cells c t)).alloc (.cells d t)) w.heap.size t a/\zi ((((w.alloc (.cells a t)).alloc (.cells b t)).alloc (.cells c t)).alloc (.cells d t)) (w.heap.size+1) t b/\zi ((((w.alloc (.cells a t)).alloc (.cells b t)).alloc (.cells c t)).alloc (.cells d t)) (w.heap.size+1+1) t c/\zi ((((w.alloc (.cells a t)).alloc (.cells b t)).alloc (.cells c t)).alloc (.cells d t)) (w.heap.size+1+1+1) t d/\w.heap.size+4<=((((w.alloc (.cells a t)).alloc (.cells b t)).alloc (.cells c t)).alloc (.cells d t)).heap.size:=by
 obtain⟨b1,b2,b3,b4,b5⟩:=yc w t t t a b c;have h:=zi.new (((w.alloc (.cells a t)).alloc (.cells b t)).alloc (.cells c t)) t d;rw [yK,yK,yK] at h;exact⟨ym _ b1,b2.alloc _,b3.alloc _,b4.alloc _,h,zD⟩
theorem zi.new1 (w:World)(ob:Obj)(t:TypeId)(cs:Array Value):zi ((w.alloc ob).alloc (.cells cs t)) (w.heap.size+1) t cs:=by
 have h:=zi.new (w.alloc ob) t cs;rw [yK] at h;exact h
theorem ri {t':TypeId}{n:Nat}{cs:Array Value}(h:zy w t g a n L)(hb:zi w b t' cs)(d:t≠t'):g≠b:=by
 obtain⟨cur,h0,_⟩:=h;exact h0.ne_ hb d
def Vh (B0:Nat)(w:World)(ty:TypeId)(N X:Nat)(e:Ending)(w':World):Prop:=
 ∃(g:Nat) (L:List Nat),e=.returned (.slice (some ⟨g,0,none⟩) N N)/\B0<=g/\zy w' ty g N N L/\zC 18446744073709551616 L/\dv 18446744073709551616 L=X/\Below w.heap.size w w'
theorem mK.from_ {N:Nat}{ty:TypeId}{e:Ending}(h:mK w ty N X e w')(hB:B0<=w.heap.size):Vh B0 w ty N X e w':=by
 obtain⟨g,L,h1,h2,h3⟩:=h;exact⟨g,L,h1,qC hB h2,h3⟩
def aT (w:World)(q r:Nat)(e:Ending)(w':World):Prop:=∃(A:zf) (n c:Nat) (B:zf) (m d:Nat),e=.returned (.tuple #[.agg #[.slice A n c],.agg #[.slice B m d]])/\zp w' q A n c/\zp w' r B m d/\Below w.heap.size w w'
theorem zW.row {n:Nat}(h:zW g w w')(hR:zy w t b a n L)(i:b≠g):zy w' t b a n L:=by
 obtain⟨d,h0,h1⟩:=hR;exact⟨d,h.blk h0 i,h1⟩
theorem zy.readsB {n:Nat}(h:zy w t g a n L)(hb:g<B0):zE w B0 1 (some ⟨g,0,none⟩) n (zw .u64 L):=
 ⟨h.reads.1,λhn=>by
  obtain⟨ad,e,_,hc⟩:=h.reads.2 hn;cases e;exact⟨_,rfl,hb,hc⟩⟩
structure ku (X Y m n K gd gx gq b7 b8 b9 bs:Nat)(Ld:List Nat)(w:World)(k:Nat)(W:World):Prop where
 row:∃L Q,rn X Y m k K L Q/\(∀j,j<k->Q.getD j 0=0)/\zy W 141 gx (n+1) (n+1) L/\zy W 141 gq K K Q
 div:zy W 141 gd m m Ld
 x7:zi W b7 54 #[.slice (some ⟨gd,0,none⟩) m m]
 x8:zi W b8 54 #[.slice (some ⟨gx,0,none⟩) (n+1) (n+1)]
 x9:zi W b9 54 #[.slice (some ⟨gq,0,none⟩) K K]
 xs:zi W bs 54 #[.slice (some ⟨gq,0,none⟩) K K]
 r4:zi W (w.heap.size+1+1) 56 #[.slice none 0 0]
 r5:zi W (w.heap.size+1+1+1) 56 #[.slice none 0 0]
 below:Below w.heap.size w W
theorem ku.own {Y n K gd gx gq b7 b8 b9 bs:Nat}{Ld:List Nat}(hB:w.heap.size<=B)(k:Nat):OwnFrom B (fun(_:Unit) W=>ku X Y m n K gd gx gq b7 b8 b9 bs Ld w k W):=by
 intro _ W W' row h hg hr;obtain⟨L,Q,h1,h2,h3,h4⟩:=h.row;exact⟨⟨L,Q,h1,h2,mF h3 hg hr,mF h4 hg hr⟩,mF h.div hg hr,wY h.x7 hg hr,wY h.x8 hg hr,wY h.x9 hg hr,wY h.xs hg hr,wY h.r4 hg hr,wY h.r5 hg hr,kM h.below (qX _) hB hg hr⟩
theorem Z6 (x d:Nat)(A D:zf)(n m c ce:Nat)(w:World)(hA:zp w x A n c)(hD:zp w d D m ce)(hm:2<=m)(hmn:m<=n)(hn:n<=274877906944):
  Calls prog 141 #[.agg #[.slice A n c],.agg #[.slice D m ce]] w (aT w (x / d) (x%d)):=by
 have cx:=hD.len;have a6:=hA.len;obtain⟨up,a4,I,E,F⟩:=pg (d:=d) (m:=m - 1) za;rw [show m - 1+1=m from by omega] at E;have hK:∃K,K=n - m+1:=⟨_,rfl⟩;obtain⟨K,hK⟩:=hK;have u:=Vd (x:=x) (d:=d) (n:=n) (m:=m - 1) (k:=K) (up:=up) a6 za za;have aq:(dg 18446744073709551616 (2^up*d)).length<=m:=pR zh _ _ E;have ar:=sh (up:=up) a6 I;have HA:=zn w (λw' hb=>hA.below hb);have HD:=zn w (λw' hb=>hD.below hb);obtain⟨t,ht⟩:∃t,wd d (m - 1)=t:=⟨_,rfl⟩;have dk:=xl d (m - 1);rw [ht] at dk a4;have ax:=λw' (hb:Below w.heap.size w w')=>oH d D m ce (m - 1) w' (HD.o w' hb);rw [ht,show((m - 1:Nat):Int)=(m:Int) - 1 from by omega] at ax;have au:=λw'=>Uy (t:Int) ⟨za,za⟩ w';rw [a4] at au;have cs:=zd ax;clear ax;have cl:=zd au;clear au;have ai:=Vv x d up;obtain⟨X,hX⟩:∃X,2^up*x=X:=⟨_,rfl⟩;obtain⟨Y,hY⟩:∃Y,2^up*d=Y:=⟨_,rfl⟩;have av:=λw' (hb:Below w.heap.size w w')=>fZ d up m D m ce w' (HD.o w' hb) za I aq za;have aj:=λw' (hb:Below w.heap.size w w')=>fZ x up (n+1) A n c w' (HA.o w' hb) hn I ar za;rw [show((n+1:Nat):Int)=(n:Int)+1 from by omega] at aj;rw [hY] at av E F u ai;rw [hX] at aj u ai;have cm:=zd av;clear av;have cn:=zd aj;clear aj;have HN:=zd ai;have HF:=zd u;have ci:=zd E;have cj:=zd F;have HK:=zd hK;clear ai cx a6 a4 E F u aq ar ht hX hY hK hA hD I;refine(callsIn_wide (n:=3)).1 ?_;refine callsIn_of_wp_marks func141 rfl trivial ?_ rfl;simp only [ntmps141,xH,xY,YZ,Nat.reduceAdd,Nat.reduceSub,yM,yN,List.push_toArray,yW,XR,yZ];refine wpIn_wide.2 ?_;go_wp2_with fail;obtain⟨hB,b2,b3,k4,k5,b6⟩:=jA w 56 #[.slice A n c] #[.slice D m ce] #[.slice none 0 0] #[.slice none 0 0];generalize hW:(((w.alloc (.cells #[.slice A n c] 56)).alloc (.cells #[.slice D m ce] 56)).alloc (.cells #[.slice none 0 0] 56)).alloc (.cells #[.slice none 0 0] 56)=W0 at*;have g2:W0.cell? ⟨w.heap.size,0,none⟩=some (.slice A n c):=b2.cell 0;have g3:W0.cell? ⟨w.heap.size+1,0,none⟩=some (.slice D m ce):=b3.cell 0;clear hW b2 b3;have C1:=zn W0 (λw' hb=>cs.o w' (ze hB hb));have i1:IntKind.i64.wrap ((m:Int) - 1)=(m:Int) - 1:=QD _ za;have z:Below W0.heap.size W0 W0.drew:=(qY _ W0).drew;have j3:W0.drew.cell? ⟨w.heap.size+1,0,none⟩=some (.slice D m ce):=g3;obtain⟨R,hI,hE⟩:∃R:Exit->Act->World->Prop,(∀  (wc:World),Below W0.heap.size W0 wc->R .normal {tmps:=#[.agg #[.slice A n c],.agg #[.slice D m ce],.pointer (some ⟨w.heap.size,0,none⟩),.pointer (some ⟨w.heap.size+1,0,none⟩),.pointer (some ⟨w.heap.size+1+1,0,none⟩),.pointer (some ⟨w.heap.size+1+1+1,0,none⟩),.int .i64 (up:Int),undef,undef,undef,undef,.agg #[.slice D m ce],.agg #[.slice D m ce],.int .i64 (m:Int),.int .i64 ((m:Int) - 1),.int .u64 (t:Int),.int .i64 (up:Int),undef,undef,undef,undef,undef,undef,undef,undef,undef,undef,undef,undef,undef,undef,undef,undef,undef,undef,undef,undef,undef,undef,undef,undef,undef,undef,undef,undef,undef,undef,undef,undef,undef,undef,undef,undef,undef,undef,undef,undef,undef],defers:=[]} wc)/\(∀e a' wc,R e a' wc->e=.normal/\a'={tmps:=#[.agg #[.slice A n c],.agg #[.slice D m ce],.pointer (some ⟨w.heap.size,0,none⟩),.pointer (some ⟨w.heap.size+1,0,none⟩),.pointer (some ⟨w.heap.size+1+1,0,none⟩),.pointer (some ⟨w.heap.size+1+1+1,0,none⟩),.int .i64 (up:Int),undef,undef,undef,undef,.agg #[.slice D m ce],.agg #[.slice D m ce],.int .i64 (m:Int),.int .i64 ((m:Int) - 1),.int .u64 (t:Int),.int .i64 (up:Int),undef,undef,undef,undef,undef,undef,undef,undef,undef,undef,undef,undef,undef,undef,undef,undef,undef,undef,undef,undef,undef,undef,undef,undef,undef,undef,undef,undef,undef,undef,undef,undef,undef,undef,undef,undef,undef,undef,undef,undef,undef],defers:=[]}/\Below W0.heap.size W0 wc):=⟨λe a' wc=>e=.normal/\a'={tmps:=#[.agg #[.slice A n c],.agg #[.slice D m ce],.pointer (some ⟨w.heap.size,0,none⟩),.pointer (some ⟨w.heap.size+1,0,none⟩),.pointer (some ⟨w.heap.size+1+1,0,none⟩),.pointer (some ⟨w.heap.size+1+1+1,0,none⟩),.int .i64 (up:Int),undef,undef,undef,undef,.agg #[.slice D m ce],.agg #[.slice D m ce],.int .i64 (m:Int),.int .i64 ((m:Int) - 1),.int .u64 (t:Int),.int .i64 (up:Int),undef,undef,undef,undef,undef,undef,undef,undef,undef,undef,undef,undef,undef,undef,undef,undef,undef,undef,undef,undef,undef,undef,undef,undef,undef,undef,undef,undef,undef,undef,undef,undef,undef,undef,undef,undef,undef,undef,undef,undef,undef],defers:=[]}/\Below W0.heap.size W0 wc,fun  wc c0=>⟨rfl,rfl,c0⟩,λ_ _ _ h=>h⟩;have HI:=zd hI;have HE:=zd hE;clear hI hE;refine wp_mono (Q:=R) ?_ ?_
 ·go_region_held3 (fun w' => Below W0.heap.size W0 w' ∧ w'.cell? ⟨w.heap.size + 1,0,none⟩ = some (.slice D m ce))
   (first|(with_reducible exact⟨z,j3⟩)|(go_split_ands;(repeat' apply And.intro);all_goals (first|exact zo|with_reducible exact ze zo hb|with_reducible exact zq hb zo|with_reducible exact ym _ zo|with_reducible exact ym _ (ym _ zo)|with_reducible exact yo _ (yo _ zo)|with_reducible exact Below.drew (ym _ zo)|with_reducible exact(cell_drew_own _ _).trans (yo _ zo)|with_reducible exact yo _ zo|with_reducible exact zH _ (by first|(simp;done)|(simp;omega)) zo|with_reducible exact zS _ (by first|(simp;done)|(simp;omega)) zo)))
   (first
     |(go_at_call 86;(with_reducible refine(wN 0 _ _ _ _).mono ?_);rintro e w' ⟨rfl,hb⟩)
     |(go_at_call 118;(with_reducible refine(C1.o _ (by first|exact zo|exact yC zo)).mono ?_);rintro e w' ⟨rfl,hb⟩)
     |(go_at_call 151;(with_reducible refine(cl.o _).mono ?_);rintro e w' ⟨rfl,rfl⟩))
  all_goals (
   go_split_ands
   refine HI.o _ ?_
   ·exact zo)
 ·intro e a' W hr;obtain⟨rfl,rfl,r0⟩:=HE.o e a' W hr;clear hr HI HE R;have hB:=ze hB r0;obtain⟨g2,g3⟩:=zX r0 g2 g3;obtain⟨k4,k5⟩:=zV r0 k4 k5;have b6:=qC b6 r0.size;clear r0 C1 i1 z j3;go_wp2_with fail;have C:=zn W (λw' hb=>(cm.o w' (ze hB hb)).mono (λe dp h=>mK.from_ h hb.size));have z:Below W.heap.size W W.drew:=(qY _ W).drew;have j3:W.drew.cell? ⟨w.heap.size+1,0,none⟩=some (.slice D m ce):=g3;have af:w.heap.size+1<W.heap.size:=qT W ⟨w.heap.size+1,0,none⟩ g3;generalize aa:W=W1 at*;clear aa;have bd:Below W1.heap.size W1 W1:=qY _ _;obtain⟨R,hI,hE⟩:∃R:Exit->Act->World->Prop,(∀(b7:Nat) (gd:Nat) (Ld:List Nat) (wc:World),Below W1.heap.size W1 wc->zi wc b7 54 #[.slice (some ⟨gd,0,none⟩) (m) (m)]->zy wc 141 gd (m) (m) Ld->W1.heap.size<=gd->zC 18446744073709551616 Ld->dv 18446744073709551616 Ld=Y->R .normal {tmps:=#[.agg #[.slice A n c],.agg #[.slice D m ce],.pointer (some ⟨w.heap.size,0,none⟩),.pointer (some ⟨w.heap.size+1,0,none⟩),.pointer (some ⟨w.heap.size+1+1,0,none⟩),.pointer (some ⟨w.heap.size+1+1+1,0,none⟩),.int .i64 (up:Int),.pointer (some ⟨b7,0,none⟩),undef,undef,undef,.agg #[.slice D m ce],.agg #[.slice D m ce],.int .i64 (m:Int),.int .i64 ((m:Int) - 1),.int .u64 (t:Int),.int .i64 (up:Int),.agg #[.slice D m ce],.int .i64 (up:Int),.agg #[.slice D m ce],.int .i64 (m:Int),.slice (some ⟨gd,0,none⟩) m m,undef,undef,undef,undef,undef,undef,undef,undef,undef,undef,undef,undef,undef,undef,undef,undef,undef,undef,undef,undef,undef,undef,undef,undef,undef,undef,undef,undef,undef,undef,undef,undef,undef,undef,undef,undef],defers:=[]} wc)/\(∀e a' wc,R e a' wc->e=.normal/\∃(b7:Nat),∃(gd:Nat),∃(Ld:List Nat),a'={tmps:=#[.agg #[.slice A n c],.agg #[.slice D m ce],.pointer (some ⟨w.heap.size,0,none⟩),.pointer (some ⟨w.heap.size+1,0,none⟩),.pointer (some ⟨w.heap.size+1+1,0,none⟩),.pointer (some ⟨w.heap.size+1+1+1,0,none⟩),.int .i64 (up:Int),.pointer (some ⟨b7,0,none⟩),undef,undef,undef,.agg #[.slice D m ce],.agg #[.slice D m ce],.int .i64 (m:Int),.int .i64 ((m:Int) - 1),.int .u64 (t:Int),.int .i64 (up:Int),.agg #[.slice D m ce],.int .i64 (up:Int),.agg #[.slice D m ce],.int .i64 (m:Int),.slice (some ⟨gd,0,none⟩) m m,undef,undef,undef,undef,undef,undef,undef,undef,undef,undef,undef,undef,undef,undef,undef,undef,undef,undef,undef,undef,undef,undef,undef,undef,undef,undef,undef,undef,undef,undef,undef,undef,undef,undef,undef,undef],defers:=[]}/\Below W1.heap.size W1 wc/\zi wc b7 54 #[.slice (some ⟨gd,0,none⟩) (m) (m)]/\zy wc 141 gd (m) (m) Ld/\W1.heap.size<=gd/\zC 18446744073709551616 Ld/\dv 18446744073709551616 Ld=Y):=⟨λe a' wc=>e=.normal/\∃(b7:Nat),∃(gd:Nat),∃(Ld:List Nat),a'={tmps:=#[.agg #[.slice A n c],.agg #[.slice D m ce],.pointer (some ⟨w.heap.size,0,none⟩),.pointer (some ⟨w.heap.size+1,0,none⟩),.pointer (some ⟨w.heap.size+1+1,0,none⟩),.pointer (some ⟨w.heap.size+1+1+1,0,none⟩),.int .i64 (up:Int),.pointer (some ⟨b7,0,none⟩),undef,undef,undef,.agg #[.slice D m ce],.agg #[.slice D m ce],.int .i64 (m:Int),.int .i64 ((m:Int) - 1),.int .u64 (t:Int),.int .i64 (up:Int),.agg #[.slice D m ce],.int .i64 (up:Int),.agg #[.slice D m ce],.int .i64 (m:Int),.slice (some ⟨gd,0,none⟩) m m,undef,undef,undef,undef,undef,undef,undef,undef,undef,undef,undef,undef,undef,undef,undef,undef,undef,undef,undef,undef,undef,undef,undef,undef,undef,undef,undef,undef,undef,undef,undef,undef,undef,undef,undef,undef],defers:=[]}/\Below W1.heap.size W1 wc/\zi wc b7 54 #[.slice (some ⟨gd,0,none⟩) (m) (m)]/\zy wc 141 gd (m) (m) Ld/\W1.heap.size<=gd/\zC 18446744073709551616 Ld/\dv 18446744073709551616 Ld=Y,λb7 gd Ld wc c0 c1 c2 c3 c4 c5=>⟨rfl,b7,gd,Ld,rfl,c0,c1,c2,c3,c4,c5⟩,λ_ _ _ h=>h⟩;have HI:=zd hI;have HE:=zd hE;clear hI hE;refine wp_mono (Q:=R) ?_ ?_
  ·go_region_held3 (fun w' => Below W1.heap.size W1 w' ∧ w'.cell? ⟨w.heap.size + 1,0,none⟩ = some (.slice D m ce))
    (first|(with_reducible exact⟨z,j3⟩)|(go_split_ands;(repeat' apply And.intro);all_goals (first|exact zo|with_reducible exact ze zo hb|with_reducible exact zq hb zo|with_reducible exact ym _ zo|with_reducible exact ym _ (ym _ zo)|with_reducible exact yo _ (yo _ zo)|with_reducible exact Below.drew (ym _ zo)|with_reducible exact(cell_drew_own _ _).trans (yo _ zo)|with_reducible exact yo _ zo|with_reducible exact zH _ (by first|(simp;done)|(simp;omega)) zo|with_reducible exact zS _ (by first|(simp;done)|(simp;omega)) zo)))
    (first
      |(go_at_call 86;(with_reducible refine(wN 0 _ _ _ _).mono ?_);rintro e w' ⟨rfl,hb⟩;go_split_ands;(have V:Below W1.heap.size W1 w':=ze zo hb);(have bk:=V.size);(first|(with_reducible have hz:=zj hb hz)|(with_reducible have hz:=zj hb (zi.new _ _ _))|(with_reducible have hz:=zj hb (zi.new _ _ _).drew)|skip))
      |(go_at_call 152;(with_reducible refine(C.o _ (by first|exact zo|exact yC zo)).mono ?_);rintro e w' ⟨gr,Lr,rfl,cz,y,cy,dl,hb⟩;go_split_ands;(have cu:Below W1.heap.size W1 w':=ze zo hb);(have cw:w'.cell? ⟨w.heap.size+1,0,none⟩=some (.slice D m ce):=zq hb zo);(first|(with_reducible have hz:=zj hb hz)|(with_reducible have hz:=zj hb (zi.new _ _ _))|(with_reducible have hz:=zj hb (zi.new _ _ _).drew)|skip);(try (have q1:=hz.cell 0));(try (have q2:=hz.frozen 0))))
   all_goals (
    go_split_ands
    refine HI.out _ _ Lr _ ?_ ?_ ?_ ?_ ?_ ?_
    ·exact zo
    ·(first|with_reducible exact zi.new _ _ _|exact hz.set_ 0 _)
    ·(first|with_reducible exact y.far (ri y hz zh) _|with_reducible exact y.alloc _|with_reducible exact(y.alloc _).far (by have:=y.lt;simp;omega) _)
    ·exact zo
    ·exact zo
    ·exact zo)
  ·intro e a' W hr;obtain⟨rfl,b7,gd,Ld,rfl,r0,r1,r2,r3,r4,r5⟩:=HE.o e a' W hr;clear hr HI HE R;have hgd4:w.heap.size+4<=gd:=qC b6 r3;have hB:=ze hB r0;obtain⟨g2,g3⟩:=zX r0 g2 g3;obtain⟨k4,k5⟩:=zV r0 k4 k5;have b6:=qC b6 r0.size;obtain⟨N,G,hgd,bf,bt⟩:=And.intro r1 (And.intro r2 (And.intro r3 (And.intro r4 r5)));clear r0 r1 r2 r3 r4 r5 C z j3 af;go_wp2_with fail;have bh:=G.lt;have i2:IntKind.i64.wrap ((n:Int)+1)=(n:Int)+1:=QD _ za;have C:=zn W (λw' hb=>(cn.o w' (ze hB hb)).mono (λe dp h=>mK.from_ h hb.size));have z:Below W.heap.size W W.drew:=(qY _ W).drew;have j3:W.drew.cell? ⟨w.heap.size,0,none⟩=some (.slice A n c):=g2;have af:w.heap.size<W.heap.size:=qT W ⟨w.heap.size,0,none⟩ g2;generalize aa:W=W1 at*;clear aa;have bd:Below W1.heap.size W1 W1:=qY _ _;obtain⟨R,hI,hE⟩:∃R:Exit->Act->World->Prop,(∀(b8:Nat) (gx:Nat) (Lx:List Nat) (wc:World),Below W1.heap.size W1 wc->zi wc b8 54 #[.slice (some ⟨gx,0,none⟩) (n+1) (n+1)]->zy wc 141 gx (n+1) (n+1) Lx->W1.heap.size<=gx->zC 18446744073709551616 Lx->dv 18446744073709551616 Lx=X->R .normal {tmps:=#[.agg #[.slice A n c],.agg #[.slice D m ce],.pointer (some ⟨w.heap.size,0,none⟩),.pointer (some ⟨w.heap.size+1,0,none⟩),.pointer (some ⟨w.heap.size+1+1,0,none⟩),.pointer (some ⟨w.heap.size+1+1+1,0,none⟩),.int .i64 (up:Int),.pointer (some ⟨b7,0,none⟩),.pointer (some ⟨b8,0,none⟩),undef,undef,.agg #[.slice D m ce],.agg #[.slice D m ce],.int .i64 (m:Int),.int .i64 ((m:Int) - 1),.int .u64 (t:Int),.int .i64 (up:Int),.agg #[.slice D m ce],.int .i64 (up:Int),.agg #[.slice D m ce],.int .i64 (m:Int),.slice (some ⟨gd,0,none⟩) m m,.agg #[.slice A n c],.int .i64 (up:Int),.agg #[.slice A n c],.int .i64 (n:Int),.int .i64 ((n:Int)+1),.slice (some ⟨gx,0,none⟩) (n+1) (n+1),undef,undef,undef,undef,undef,undef,undef,undef,undef,undef,undef,undef,undef,undef,undef,undef,undef,undef,undef,undef,undef,undef,undef,undef,undef,undef,undef,undef,undef,undef],defers:=[]} wc)/\(∀e a' wc,R e a' wc->e=.normal/\∃(b8:Nat),∃(gx:Nat),∃(Lx:List Nat),a'={tmps:=#[.agg #[.slice A n c],.agg #[.slice D m ce],.pointer (some ⟨w.heap.size,0,none⟩),.pointer (some ⟨w.heap.size+1,0,none⟩),.pointer (some ⟨w.heap.size+1+1,0,none⟩),.pointer (some ⟨w.heap.size+1+1+1,0,none⟩),.int .i64 (up:Int),.pointer (some ⟨b7,0,none⟩),.pointer (some ⟨b8,0,none⟩),undef,undef,.agg #[.slice D m ce],.agg #[.slice D m ce],.int .i64 (m:Int),.int .i64 ((m:Int) - 1),.int .u64 (t:Int),.int .i64 (up:Int),.agg #[.slice D m ce],.int .i64 (up:Int),.agg #[.slice D m ce],.int .i64 (m:Int),.slice (some ⟨gd,0,none⟩) m m,.agg #[.slice A n c],.int .i64 (up:Int),.agg #[.slice A n c],.int .i64 (n:Int),.int .i64 ((n:Int)+1),.slice (some ⟨gx,0,none⟩) (n+1) (n+1),undef,undef,undef,undef,undef,undef,undef,undef,undef,undef,undef,undef,undef,undef,undef,undef,undef,undef,undef,undef,undef,undef,undef,undef,undef,undef,undef,undef,undef,undef],defers:=[]}/\Below W1.heap.size W1 wc/\zi wc b8 54 #[.slice (some ⟨gx,0,none⟩) (n+1) (n+1)]/\zy wc 141 gx (n+1) (n+1) Lx/\W1.heap.size<=gx/\zC 18446744073709551616 Lx/\dv 18446744073709551616 Lx=X):=⟨λe a' wc=>e=.normal/\∃(b8:Nat),∃(gx:Nat),∃(Lx:List Nat),a'={tmps:=#[.agg #[.slice A n c],.agg #[.slice D m ce],.pointer (some ⟨w.heap.size,0,none⟩),.pointer (some ⟨w.heap.size+1,0,none⟩),.pointer (some ⟨w.heap.size+1+1,0,none⟩),.pointer (some ⟨w.heap.size+1+1+1,0,none⟩),.int .i64 (up:Int),.pointer (some ⟨b7,0,none⟩),.pointer (some ⟨b8,0,none⟩),undef,undef,.agg #[.slice D m ce],.agg #[.slice D m ce],.int .i64 (m:Int),.int .i64 ((m:Int) - 1),.int .u64 (t:Int),.int .i64 (up:Int),.agg #[.slice D m ce],.int .i64 (up:Int),.agg #[.slice D m ce],.int .i64 (m:Int),.slice (some ⟨gd,0,none⟩) m m,.agg #[.slice A n c],.int .i64 (up:Int),.agg #[.slice A n c],.int .i64 (n:Int),.int .i64 ((n:Int)+1),.slice (some ⟨gx,0,none⟩) (n+1) (n+1),undef,undef,undef,undef,undef,undef,undef,undef,undef,undef,undef,undef,undef,undef,undef,undef,undef,undef,undef,undef,undef,undef,undef,undef,undef,undef,undef,undef,undef,undef],defers:=[]}/\Below W1.heap.size W1 wc/\zi wc b8 54 #[.slice (some ⟨gx,0,none⟩) (n+1) (n+1)]/\zy wc 141 gx (n+1) (n+1) Lx/\W1.heap.size<=gx/\zC 18446744073709551616 Lx/\dv 18446744073709551616 Lx=X,λb8 gx Lx wc c0 c1 c2 c3 c4 c5=>⟨rfl,b8,gx,Lx,rfl,c0,c1,c2,c3,c4,c5⟩,λ_ _ _ h=>h⟩;have HI:=zd hI;have HE:=zd hE;clear hI hE;refine wp_mono (Q:=R) ?_ ?_
   ·go_region_held3 (fun w' => Below W1.heap.size W1 w' ∧ w'.cell? ⟨w.heap.size,0,none⟩ = some (.slice A n c))
     (first|(with_reducible exact⟨z,j3⟩)|(go_split_ands;(repeat' apply And.intro);all_goals (first|exact zo|with_reducible exact ze zo hb|with_reducible exact zq hb zo|with_reducible exact ym _ zo|with_reducible exact ym _ (ym _ zo)|with_reducible exact yo _ (yo _ zo)|with_reducible exact Below.drew (ym _ zo)|with_reducible exact(cell_drew_own _ _).trans (yo _ zo)|with_reducible exact yo _ zo|with_reducible exact zH _ (by first|(simp;done)|(simp;omega)) zo|with_reducible exact zS _ (by first|(simp;done)|(simp;omega)) zo)))
     (first
       |(go_at_call 86;(with_reducible refine(wN 0 _ _ _ _).mono ?_);rintro e w' ⟨rfl,hb⟩;go_split_ands;(have V:Below W1.heap.size W1 w':=ze zo hb);(have bk:=V.size);(first|(with_reducible have hz:=zj hb hz)|(with_reducible have hz:=zj hb (zi.new _ _ _))|(with_reducible have hz:=zj hb (zi.new _ _ _).drew)|skip))
       |(go_at_call 152;(with_reducible refine(C.o _ (by first|exact zo|exact yC zo)).mono ?_);rintro e w' ⟨gr,Lr,rfl,cz,y,cy,dl,hb⟩;go_split_ands;(have cu:Below W1.heap.size W1 w':=ze zo hb);(have cw:w'.cell? ⟨w.heap.size,0,none⟩=some (.slice A n c):=zq hb zo);(first|(with_reducible have hz:=zj hb hz)|(with_reducible have hz:=zj hb (zi.new _ _ _))|(with_reducible have hz:=zj hb (zi.new _ _ _).drew)|skip);(try (have q1:=hz.cell 0));(try (have q2:=hz.frozen 0))))
    all_goals (
     go_split_ands
     refine HI.out _ _ Lr _ ?_ ?_ ?_ ?_ ?_ ?_
     ·exact zo
     ·(first|with_reducible exact zi.new _ _ _|exact hz.set_ 0 _)
     ·(first|with_reducible exact y.far (ri y hz zh) _|with_reducible exact y.alloc _|with_reducible exact(y.alloc _).far (by have:=y.lt;simp;omega) _)
     ·exact zo
     ·exact zo
     ·exact zo)
   ·intro e a' W hr;obtain⟨rfl,b8,gx,Lx,rfl,r0,r1,r2,r3,r4,r5⟩:=HE.o e a' W hr;clear hr HI HE R;have bz:gd<gx:=qJ bh r3;have hB:=ze hB r0;obtain⟨g2,g3⟩:=zX r0 g2 g3;obtain⟨k4,k5⟩:=zV r0 k4 k5;have b6:=qC b6 r0.size;have N:=zj r0 N;have G:=G.keep r0;obtain⟨ak,M,hgx,bg,bu⟩:=And.intro r1 (And.intro r2 (And.intro r3 (And.intro r4 r5)));clear r0 r1 r2 r3 r4 r5 C z j3 af;go_wp2_with fail;have bi:=M.lt;obtain⟨i0,bj,b1,b4,b5⟩:=info_parts rN;obtain⟨Z,hZ⟩:∃Z,madeCells (Value.cells (.int .u64 0)) K=Z:=⟨_,rfl⟩;have bb:(n:Int) - (m:Int)+1=(K:Int):=by have:=HK.o;omega
    have de:∀W:World,(Instr.makeSlice 54 (.int .i64 ((n:Int) - (m:Int)+1)) (.int .i64 ((n:Int) - (m:Int)+1))).run prog W=.ok (.slice (some ⟨W.heap.size,0,none⟩) K K) (W.alloc (.cells Z 141)):=λW=>by
     have h:=uv _ _ i0 _ underlying54 bj b1 .i64 .i64 K K (qX _) (by rw [b5];have:=HK.o;omega) (by have:=HK.o;omega) W;rw [b4,xO,hZ] at h;rw [bb];exact h
    have U:=zd (λW:World=>by have h:=zy.made W 141 K (by have:=HK.o;unfold maxLen;omega);rw [hZ] at h;exact h);have ap:=zd (fun(W:World) (ob:Obj)=>by have h:=U.o (W.alloc ob);rw [yK] at h;exact h);clear hZ bb bj b1 b4 b5;have i3:IntKind.i64.wrap ((n:Int) - (m:Int))=(n:Int) - (m:Int):=QD _ za;have i4:IntKind.i64.wrap ((n:Int) - (m:Int)+1)=(n:Int) - (m:Int)+1:=QD _ za;have z:Below W.heap.size W W.drew:=(qY _ W).drew;have j2:W.drew.cell? ⟨w.heap.size,0,none⟩=some (.slice A n c):=g2;have j3:W.drew.cell? ⟨w.heap.size+1,0,none⟩=some (.slice D m ce):=g3;have af:w.heap.size+1<W.heap.size:=qT W ⟨w.heap.size+1,0,none⟩ g3;generalize aa:W=W1 at*;clear aa;have bd:Below W1.heap.size W1 W1:=qY _ _;obtain⟨R,hI,hE⟩:∃R:Exit->Act->World->Prop,(∀(b9:Nat) (gq:Nat) (wc:World),Below W1.heap.size W1 wc->zi wc b9 54 #[.slice (some ⟨gq,0,none⟩) K K]->zy wc 141 gq K K (List.replicate K 0)->W1.heap.size<=gq->R .normal {tmps:=#[.agg #[.slice A n c],.agg #[.slice D m ce],.pointer (some ⟨w.heap.size,0,none⟩),.pointer (some ⟨w.heap.size+1,0,none⟩),.pointer (some ⟨w.heap.size+1+1,0,none⟩),.pointer (some ⟨w.heap.size+1+1+1,0,none⟩),.int .i64 (up:Int),.pointer (some ⟨b7,0,none⟩),.pointer (some ⟨b8,0,none⟩),.pointer (some ⟨b9,0,none⟩),undef,.agg #[.slice D m ce],.agg #[.slice D m ce],.int .i64 (m:Int),.int .i64 ((m:Int) - 1),.int .u64 (t:Int),.int .i64 (up:Int),.agg #[.slice D m ce],.int .i64 (up:Int),.agg #[.slice D m ce],.int .i64 (m:Int),.slice (some ⟨gd,0,none⟩) m m,.agg #[.slice A n c],.int .i64 (up:Int),.agg #[.slice A n c],.int .i64 (n:Int),.int .i64 ((n:Int)+1),.slice (some ⟨gx,0,none⟩) (n+1) (n+1),.agg #[.slice A n c],.int .i64 (n:Int),.agg #[.slice D m ce],.int .i64 (m:Int),.int .i64 ((n:Int) - (m:Int)),.int .i64 ((n:Int) - (m:Int)+1),.slice (some ⟨gq,0,none⟩) K K,undef,undef,undef,undef,undef,undef,undef,undef,undef,undef,undef,undef,undef,undef,undef,undef,undef,undef,undef,undef,undef,undef,undef],defers:=[]} wc)/\(∀e a' wc,R e a' wc->e=.normal/\∃(b9:Nat),∃(gq:Nat),a'={tmps:=#[.agg #[.slice A n c],.agg #[.slice D m ce],.pointer (some ⟨w.heap.size,0,none⟩),.pointer (some ⟨w.heap.size+1,0,none⟩),.pointer (some ⟨w.heap.size+1+1,0,none⟩),.pointer (some ⟨w.heap.size+1+1+1,0,none⟩),.int .i64 (up:Int),.pointer (some ⟨b7,0,none⟩),.pointer (some ⟨b8,0,none⟩),.pointer (some ⟨b9,0,none⟩),undef,.agg #[.slice D m ce],.agg #[.slice D m ce],.int .i64 (m:Int),.int .i64 ((m:Int) - 1),.int .u64 (t:Int),.int .i64 (up:Int),.agg #[.slice D m ce],.int .i64 (up:Int),.agg #[.slice D m ce],.int .i64 (m:Int),.slice (some ⟨gd,0,none⟩) m m,.agg #[.slice A n c],.int .i64 (up:Int),.agg #[.slice A n c],.int .i64 (n:Int),.int .i64 ((n:Int)+1),.slice (some ⟨gx,0,none⟩) (n+1) (n+1),.agg #[.slice A n c],.int .i64 (n:Int),.agg #[.slice D m ce],.int .i64 (m:Int),.int .i64 ((n:Int) - (m:Int)),.int .i64 ((n:Int) - (m:Int)+1),.slice (some ⟨gq,0,none⟩) K K,undef,undef,undef,undef,undef,undef,undef,undef,undef,undef,undef,undef,undef,undef,undef,undef,undef,undef,undef,undef,undef,undef,undef],defers:=[]}/\Below W1.heap.size W1 wc/\zi wc b9 54 #[.slice (some ⟨gq,0,none⟩) K K]/\zy wc 141 gq K K (List.replicate K 0)/\W1.heap.size<=gq):=⟨λe a' wc=>e=.normal/\∃(b9:Nat),∃(gq:Nat),a'={tmps:=#[.agg #[.slice A n c],.agg #[.slice D m ce],.pointer (some ⟨w.heap.size,0,none⟩),.pointer (some ⟨w.heap.size+1,0,none⟩),.pointer (some ⟨w.heap.size+1+1,0,none⟩),.pointer (some ⟨w.heap.size+1+1+1,0,none⟩),.int .i64 (up:Int),.pointer (some ⟨b7,0,none⟩),.pointer (some ⟨b8,0,none⟩),.pointer (some ⟨b9,0,none⟩),undef,.agg #[.slice D m ce],.agg #[.slice D m ce],.int .i64 (m:Int),.int .i64 ((m:Int) - 1),.int .u64 (t:Int),.int .i64 (up:Int),.agg #[.slice D m ce],.int .i64 (up:Int),.agg #[.slice D m ce],.int .i64 (m:Int),.slice (some ⟨gd,0,none⟩) m m,.agg #[.slice A n c],.int .i64 (up:Int),.agg #[.slice A n c],.int .i64 (n:Int),.int .i64 ((n:Int)+1),.slice (some ⟨gx,0,none⟩) (n+1) (n+1),.agg #[.slice A n c],.int .i64 (n:Int),.agg #[.slice D m ce],.int .i64 (m:Int),.int .i64 ((n:Int) - (m:Int)),.int .i64 ((n:Int) - (m:Int)+1),.slice (some ⟨gq,0,none⟩) K K,undef,undef,undef,undef,undef,undef,undef,undef,undef,undef,undef,undef,undef,undef,undef,undef,undef,undef,undef,undef,undef,undef,undef],defers:=[]}/\Below W1.heap.size W1 wc/\zi wc b9 54 #[.slice (some ⟨gq,0,none⟩) K K]/\zy wc 141 gq K K (List.replicate K 0)/\W1.heap.size<=gq,λb9 gq wc c0 c1 c2 c3=>⟨rfl,b9,gq,rfl,c0,c1,c2,c3⟩,λ_ _ _ h=>h⟩;have HI:=zd hI;have HE:=zd hE;clear hI hE;refine wp_mono (Q:=R) ?_ ?_
    ·go_region_held3 (fun w' => Below W1.heap.size W1 w' ∧ w'.cell? ⟨w.heap.size,0,none⟩ = some (.slice A n c) ∧ w'.cell? ⟨w.heap.size + 1,0,none⟩ = some (.slice D m ce))
      (first|(with_reducible exact⟨z,j2,j3⟩)|(go_split_ands;(repeat' apply And.intro);all_goals (first|exact zo|with_reducible exact ze zo hb|with_reducible exact zq hb zo|with_reducible exact ym _ zo|with_reducible exact ym _ (ym _ zo)|with_reducible exact yo _ (yo _ zo)|with_reducible exact Below.drew (ym _ zo)|with_reducible exact(cell_drew_own _ _).trans (yo _ zo)|with_reducible exact yo _ zo|with_reducible exact zH _ (by first|(simp;done)|(simp;omega)) zo|with_reducible exact zS _ (by first|(simp;done)|(simp;omega)) zo)))
      (first
        |(go_at_call 86;(with_reducible refine(wN 0 _ _ _ _).mono ?_);rintro e w' ⟨rfl,hb⟩;go_split_ands;(have V:Below W1.heap.size W1 w':=ze zo hb);(have bk:=V.size);(have hc0:w'.cell? ⟨w.heap.size,0,none⟩=some (.slice A n c):=zq hb zo);(have hc1:w'.cell? ⟨w.heap.size+1,0,none⟩=some (.slice D m ce):=zq hb zo);  (first|(with_reducible have hz:=zj hb hz)|(with_reducible have hz:=zj hb (zi.new _ _ _))|(with_reducible have hz:=zj hb (zi.new _ _ _).drew)|skip);(try (have q1:=λob=>yo ob (hz.cell 0)));(try (have q2:=λob=>(hz.alloc ob).frozen 0))))
     all_goals (
      go_split_ands
      refine HI.out _ _ _ ?_ ?_ ?_ ?_
      ·exact zo
      ·(first|(with_reducible exact zi.new1 _ _ _ _)|(with_reducible exact(zi.new _ _ _).alloc _)|exact(hz.alloc _).set_ 0 _)
      ·(first|(with_reducible exact(U.o _).alloc _)|(with_reducible exact ap.o _ _)|exact(U.o _).far (ri (U.o _) (hz.alloc _) zh) _)
      ·(first|omega|(simp;omega)))
    ·intro e a' W hr;obtain⟨rfl,b9,gq,rfl,r0,r1,r2,r3⟩:=HE.o e a' W hr;clear hr HI HE R;have hqx:gx<gq:=qJ bi r3;have hB:=ze hB r0;obtain⟨g2,g3⟩:=zX r0 g2 g3;obtain⟨k4,k5⟩:=zV r0 k4 k5;have b6:=qC b6 r0.size;obtain⟨N,ak⟩:=zV r0 N ak;have G:=G.keep r0;have M:=M.keep r0;obtain⟨a0,aw,hgq⟩:=And.intro r1 (And.intro r2 r3);clear r0 r1 r2 r3 z j2 j3 af de U ap i3 i4 i2;have q9:W.cell? ⟨b9,0,none⟩=some (.slice (some ⟨gq,0,none⟩) K K):=a0.cell 0;go_wp2_with fail;have ca:=zi.new W 54 #[.slice (some ⟨gq,0,none⟩) K K];refine(ii (some ⟨gq,0,none⟩) K K _).mono ?_;rintro e w2 ⟨rfl,a5⟩;have H0:=zd (show ku X Y m n K gd gx gq b7 b8 b9 W.heap.size Ld w K w2 by
      rw [<-a5];have ah:=HK.o;exact⟨⟨Lx,List.replicate K 0,rn.start (by rw [M.len];omega) bg bu HF.o,λj _=>by simp [qQ,List.getElem?_replicate];split<;>rfl,M.alloc _,aw.alloc _⟩,G.alloc _,N.alloc _,ak.alloc _,a0.alloc _,ca,k4.alloc _,k5.alloc _,ym _ hB⟩)
     have ct:w.heap.size<=w2.heap.size:=by rw [<-a5];have:=hB.size;simp;omega
     go_wp2_with fail;obtain⟨bs,ay⟩:∃g,W.heap.size=g:=⟨_,rfl⟩;rw [ay] at H0⊢;have hgq2:gq<bs:=by rw [<-ay];exact aw.lt
     have hq3:w.heap.size+1+1+1<gd:=za;have a9:=zd bf;have ag:=zd bt;clear a5 ca ay M G aw N ak a0 k4 k5 hB q9 g2 g3 bf bg bt bu;refine(wpIn_wide (n:=3)).1 ?_;refine eJ (gf:=155) (lb:=#[.pointer (some ⟨bs,0,none⟩)]) rfl (enters_of func155 zm rfl) K (fun k => #[.int .i64 (k : Int),.int .u64 ((0 : Nat) : Int)]) (fun _ => rfl)
      (λk W=>ku X Y m n K gd gx gq b7 b8 b9 bs Ld w k W) (λk=>ku.own ct k) H0.o
      (fD bs K K (some ⟨gq,0,none⟩) (λ_=>0) _ (by have:=HK.o;omega) (λk W h=>h.xs.cell 0) ?cells)
      (λk=>{tmps:=#[.agg #[.slice A n c],.agg #[.slice D m ce],.pointer (some ⟨w.heap.size,0,none⟩),.pointer (some ⟨w.heap.size+1,0,none⟩),.pointer (some ⟨w.heap.size+1+1,0,none⟩),.pointer (some ⟨w.heap.size+1+1+1,0,none⟩),.int .i64 (up:Int),.pointer (some ⟨b7,0,none⟩),.pointer (some ⟨b8,0,none⟩),.pointer (some ⟨b9,0,none⟩),.int .i64 (k:Int),.agg #[.slice D m ce],.agg #[.slice D m ce],.int .i64 (m:Int),.int .i64 ((m:Int) - 1),.int .u64 (t:Int),.int .i64 (up:Int),.agg #[.slice D m ce],.int .i64 (up:Int),.agg #[.slice D m ce],.int .i64 (m:Int),.slice (some ⟨gd,0,none⟩) m m,.agg #[.slice A n c],.int .i64 (up:Int),.agg #[.slice A n c],.int .i64 (n:Int),.int .i64 ((n:Int)+1),.slice (some ⟨gx,0,none⟩) (n+1) (n+1),.agg #[.slice A n c],.int .i64 (n:Int),.agg #[.slice D m ce],.int .i64 (m:Int),.int .i64 ((n:Int) - (m:Int)),.int .i64 ((n:Int) - (m:Int)+1),.slice (some ⟨gq,0,none⟩) K K,.slice (some ⟨gq,0,none⟩) K K,.func (.func 155) #[] #[.pointer (some ⟨bs,0,none⟩)],.int .i64 (k:Int),.int .u64 0,undef,undef,undef,undef,undef,undef,undef,undef,undef,undef,undef,undef,undef,undef,undef,undef,undef,undef,undef],defers:=[]}) ?assign ?body ?done
     case cells=>
      intro k W hk h;obtain⟨L,Q,_,h2,_,h4⟩:=h.row;refine⟨_,rfl,?_⟩;rw [gY,h4.cell k hk,h2 k za]
     case assign=>
      intro l k W K hK
      gi_wp2
      exact hK
     case body=>
      intro l k W hk h;have kd:=h.div;have k7:=h.x7;have k8:=h.x8;have k9:=h.x9;have ks:=h.xs;have k4:=h.r4;have k5:=h.r5;have ab:=h.below;obtain⟨L,Q,h1,h2,h3,h4⟩:=h.row;clear h;obtain⟨pA,p,pC,rfl,bl,bn,dh,di,a1,df⟩:=h1.cut hk ci.o;have bc:0<Y:=by
       have e:=ag.o;rcases QS Y with e0|e0
       ·rw [e0,XC] at a1;omega
       ·exact e0
      have c7:W.cell? ⟨b7,0,none⟩=some (.slice (some ⟨gd,0,none⟩) m m):=k7.cell 0;have c8:W.cell? ⟨b8,0,none⟩=some (.slice (some ⟨gx,0,none⟩) (n+1) (n+1)):=k8.cell 0;have c9:W.cell? ⟨b9,0,none⟩=some (.slice (some ⟨gq,0,none⟩) K K):=k9.cell 0;have n7:gx≠b7/\gq≠b7:=⟨ri h3 k7 zh,ri h4 k7 zh⟩;have n8:gx≠b8/\gq≠b8:=⟨ri h3 k8 zh,ri h4 k8 zh⟩;have n9:gx≠b9/\gq≠b9:=⟨ri h3 k9 zh,ri h4 k9 zh⟩;have ns:gx≠bs/\gq≠bs:=⟨ri h3 ks zh,ri h4 ks zh⟩;obtain⟨cc,cb⟩:=n7;obtain⟨cf,cd⟩:=n8;obtain⟨ch,cg⟩:=n9;obtain⟨dn,dm⟩:=ns;have ah:=HK.o;have ae:=Z7 141 gx (n+1) (n+1) k m (n+1 - k) m ⟨gd,0,none⟩ pA p pC Ld W.drew h3 bl bn dh (kd.readsB bz) a9.o hm za za za (qX _) za (si (m:=m - 1) (by rw [kd.len];omega) a9.o ag.o cj.o) (by rw [ag.o];exact a1);unfold r6 at ae;rw [ag.o] at ae;obtain⟨tq,a3⟩:∃t,dv 18446744073709551616 p / Y=t:=⟨_,rfl⟩;rw [a3] at ae;have cr:=zd a3;have cq:=zd ae;clear ae di a3;have i1:(0:Int)<=(k:Int):=za;have i2:(k:Int)<(K:Int):=za;have i3:IntKind.i64.wrap ((k:Int)+(m:Int))=(k:Int)+(m:Int):=QD _ za;have i4:IntKind.i64.wrap ((k:Int)+(m:Int)+1)=(k:Int)+(m:Int)+1:=QD _ za;have i5:(k:Int)<=(k:Int)+(m:Int)+1:=za;have i6:(k:Int)+(m:Int)+1<=(n:Int)+1:=za;have i7:(0:Int)<=(k:Int)+(m:Int)+1:=za;have i8:¬(n+1=k):=za;have i9:((k:Int)+(m:Int)+1).toNat - k=m+1:=za;clear ah;refine wpIn_block ?_;refine fO (S:=(λw'=>w'.cell? ⟨b7,0,none⟩=some (.slice (some ⟨gd,0,none⟩) m m)/\w'.cell? ⟨b8,0,none⟩=some (.slice (some ⟨gx,0,none⟩) (n+1) (n+1))/\w'.cell? ⟨b9,0,none⟩=some (.slice (some ⟨gq,0,none⟩) K K))) zm zm (λ_ _ h=>by cases h.1) ?_ (λhHeld=>?_)
      ·exact⟨c7,c8,c9⟩
      refine zT 0 (v:=?_) ?_ ?_
      rotate_left
      focus ((intro w a;(try dsimp only at a);go_simp);(try with_reducible rfl))
      try simp only [Act.put,qK,qG,qH]
      refine zT 1 (v:=?_) ?_ ?_
      rotate_left
      focus ((intro w a;(try dsimp only at a);go_simp);(try with_reducible rfl))
      try simp only [Act.put,qK,qG,qH]
      refine zT 2 (v:=?_) ?_ ?_
      rotate_left
      focus ((intro w a;(try dsimp only at a);go_simp);(try with_reducible rfl))
      try simp only [Act.put,qK,qG,qH]
      refine zT 3 (v:=?_) ?_ ?_
      rotate_left
      focus ((intro w a;(try dsimp only at a);go_simp);(try with_reducible rfl))
      try simp only [Act.put,qK,qG,qH]
      refine zT 4 (v:=?_) ?_ ?_
      rotate_left
      focus ((intro w a;(try dsimp only at a);go_simp);(try with_reducible rfl))
      try simp only [Act.put,qK,qG,qH]
      refine zT 5 (v:=?_) ?_ ?_
      rotate_left
      focus ((intro w a;(try dsimp only at a);go_simp);(try with_reducible rfl))
      try simp only [Act.put,qK,qG,qH]
      refine zT 6 (v:=?_) ?_ ?_
      rotate_left
      focus ((intro w a;(try dsimp only at a);go_simp);(try with_reducible rfl))
      try simp only [Act.put,qK,qG,qH]
      refine zT 7 (v:=?_) ?_ ?_
      rotate_left
      focus ((intro w a;(try dsimp only at a);go_simp);(try with_reducible rfl))
      try simp only [Act.put,qK,qG,qH]
      refine zT 8 (v:=?_) ?_ ?_
      rotate_left
      focus ((intro w a;(try dsimp only at a);go_simp);(try with_reducible rfl))
      try simp only [Act.put,qK,qG,qH]
      refine zT 9 (v:=?_) ?_ ?_
      rotate_left
      focus ((intro w a;(try dsimp only at a);go_simp);(try with_reducible rfl))
      try simp only [Act.put,qK,qG,qH]
      refine zT 10 (v:=?_) ?_ ?_
      rotate_left
      focus ((intro w a;(try dsimp only at a);go_simp);(try with_reducible rfl))
      try simp only [Act.put,qK,qG,qH]
      refine wpAnyH_ready (rs:=[11]) zm zD ?_;refine vk (λK hK=>?_);go_simp;refine cq.o.mono ?_;rintro e w2 ⟨p',rfl,bo,bm,bp,cv,hO⟩;have a2:=h4.drew;have cq2:=hO.cell (a2.cell k hk) (by show gq≠gx;omega);have fq2:w2.frozen? ⟨gq,k,none⟩=false:=(World.frozen?_of_block (hO.block gq a2.lt (by intro h;injection h;omega))).trans (a2.frozen k);refine hK.out _ _ ?_ (λhHeld=>?_)
      ·((try dsimp only);exact⟨hO.cell hHeld.1 (λh=>cc h.symm),hO.cell hHeld.2.1 (λh=>cf h.symm),hO.cell hHeld.2.2 (λh=>ch h.symm)⟩)
      clear hK K
      try simp only [Act.put,qK,qG,qH]
      refine zT 12 (v:=?_) ?_ ?_
      rotate_left
      focus ((intro w a;(try dsimp only at a);go_simp);(try with_reducible rfl))
      try simp only [Act.put,qK,qG,qH]
      refine wpAnyH_ready (rs:=[13]) zm zD ?_;refine vk (λK hK=>?_);go_simp;refine hK.out _ _ ?_ (λhHeld=>?_)
      ·((try dsimp only);exact⟨zS _ (λh=>cb h.symm) hHeld.1,zS _ (λh=>cd h.symm) hHeld.2.1,zS _ (λh=>cg h.symm) hHeld.2.2⟩)
      clear hK K
      try simp only [Act.put,qK,qG,qH]
      refine wpAnyH_done zm ?_ _;have dc:KeepsOthers W.drew w2:=KeepsOthers.of_grownBy hO (λj ob e ho=>by
       injection e with e;subst e;obtain⟨cur,hb,_⟩:=h3;rw [show W.drew.heap[gx]?=_ from hb] at ho;cases ho;rfl)
      have dj:dv 18446744073709551616 p / Y<18446744073709551616:=(QU bc).2 a1;have br:=h1.step bl bn df hk bo bm bp dj bc;rw [cr.o] at br;have hle:=qJ bz (qX gx);refine⟨rfl,((KeepsOthers.drew W).trans dc).trans (KeepsOthers.setCell _ _ _),?_⟩;exact ⟨⟨_,_,br,fun j hj => by rw [qQ,YA za,← qQ]; exact h2 j za,cv.far (p:=⟨gq,k,none⟩) (by show gx ≠ gq; omega) _,(hO.row h4.drew za).set_ k tq hk⟩,
       (hO.row kd.drew za).far (p:=⟨gq,k,none⟩) (by show gd≠gq;omega) _,
       (hO.blk k7.drew (λh=>cc h.symm)).far (p:=⟨gq,k,none⟩) (λh=>cb h.symm) _,(hO.blk k8.drew (λh=>cf h.symm)).far (p:=⟨gq,k,none⟩) (λh=>cd h.symm) _,
       (hO.blk k9.drew (λh=>ch h.symm)).far (p:=⟨gq,k,none⟩) (λh=>cg h.symm) _,(hO.blk ks.drew (λh=>dn h.symm)).far (p:=⟨gq,k,none⟩) (λh=>dm h.symm) _,
       (hO.blk k4.drew za).far (p:=⟨gq,k,none⟩) (by show w.heap.size+1+1≠gq;omega) _,(hO.blk k5.drew za).far (p:=⟨gq,k,none⟩) (by show w.heap.size+1+1+1≠gq;omega) _,
       (hO.below ab.drew ab.size za).setCell (p:=⟨gq,k,none⟩) (by show w.heap.size<=gq;omega) _⟩
     case done=>
      intro D0 W hD h hK;have k4:=h.r4;have k5:=h.r5;have ab:=h.below;have c8:W.cell? ⟨b8,0,none⟩=some (.slice (some ⟨gx,0,none⟩) (n+1) (n+1)):=h.x8.cell 0;have c9:W.cell? ⟨b9,0,none⟩=some (.slice (some ⟨gq,0,none⟩) K K):=h.x9.cell 0;obtain⟨m8,m8'⟩:b8≠w.heap.size+1+1/\b8≠w.heap.size+1+1+1:=⟨h.x8.ne_ k4 zh,h.x8.ne_ k5 zh⟩;obtain⟨m9,m9'⟩:b9≠w.heap.size+1+1/\b9≠w.heap.size+1+1+1:=⟨h.x9.ne_ k4 zh,h.x9.ne_ k5 zh⟩;obtain⟨L,Q,h1,_,h3,h4⟩:=h.row;obtain⟨hq,hr⟩:=h1.done;have ah:=HK.o;have P:=vr (some ⟨gq,0,none⟩) K K Q W.drew h4.drew.reads h1.qdgs (qX _) za za;have T:=λw' (hb:Below W.drew.heap.size W.drew w')=>vr (some ⟨gx,0,none⟩) (n+1) (n+1) L w' ((h3.drew.reads.below hb).more hb.size) h1.dgs (qX _) za za;have al:=wh h1.dgs;rw [hq] at P;rw [hr] at T al;obtain⟨xq,a7⟩:∃q,X / Y=q:=⟨_,rfl⟩;obtain⟨xr,a8⟩:∃q,X%Y=q:=⟨_,rfl⟩;rw [a7] at P;rw [a8] at T al;have bq:(dg 18446744073709551616 xr).length<=n+1:=by
       refine pR zh _ _ (qJ al (qL zh ?_));rw [h1.len];omega
      have HS:=λw' (B k c) (hw:zp w' xr B k c)=>fV xr up B k c w' hw (by have:=hw.len;omega);have H:=HN.o;rw [a7,a8] at H;obtain⟨yr,b0⟩:∃q,xr / 2^up=q:=⟨_,rfl⟩;rw [b0] at HS H;have P:=zd P;have T:=zd T;have cp:=zd HS;have ao:=zd H;have ck:=zd hK;have dd:D0<W.heap.size:=(Array.getElem?_eq_some_iff.1 hK).1;clear h h1 h3 h4 hq hr ah HS H hK al bq a7 a8 b0 H0
      rename_i hO1u hO2u
      clear hO2u hO1u;go_wp2_with fail;have j8:W.drew.cell? ⟨b8,0,none⟩=some (.slice (some ⟨gx,0,none⟩) (n+1) (n+1)):=c8;have j9:W.drew.cell? ⟨b9,0,none⟩=some (.slice (some ⟨gq,0,none⟩) K K):=c9
      go_region_held3 (fun w' => w'.cell? ⟨b8,0,none⟩ = some (.slice (some ⟨gx,0,none⟩) (n + 1) (n + 1)) ∧ w'.cell? ⟨b9,0,none⟩ = some (.slice (some ⟨gq,0,none⟩) K K))
       (first|(with_reducible exact⟨j8,j9⟩)|(go_split_ands;(repeat' apply And.intro);all_goals (first|exact zo|with_reducible exact ze zo hb|with_reducible exact zq hb zo|with_reducible exact ym _ zo|with_reducible exact ym _ (ym _ zo)|with_reducible exact yo _ (yo _ zo)|with_reducible exact Below.drew (ym _ zo)|with_reducible exact(cell_drew_own _ _).trans (yo _ zo)|with_reducible exact yo _ zo|with_reducible exact zH _ (by first|(simp;done)|(simp;omega)) zo|with_reducible exact zS _ (by first|(simp;done)|(simp;omega)) zo)))
       (first
         |(go_at_call 89;(with_reducible refine P.o.mono ?_);rintro e w' ⟨A3,n3,c3,rfl,O,hb,az⟩;have i:=hb)
         |(go_at_call 89;(with_reducible refine(T.o _ i).mono ?_);rintro e w' ⟨A4,n4,c4,rfl,bw,hb,_⟩;have O:=O.below hb;have i:=ze i hb)
         |(go_at_call 138;(with_reducible refine(cp.out _ _ _ _ bw).mono ?_);rintro e w' ⟨A5,n5,c5,rfl,bx,hb,ac⟩;have ac:=ac.from_ i;have O:=O.below hb;have i:=ze i hb;have am:=zj i k4.drew;have an:=zj i k5.drew;have f4:=am.frozen 0;have f5:=an.frozen 0;have g4:=am.cell 0;have g5:=an.cell 0))
      have hk4:=k4.lt;have hk5:=k5.lt;have k1:w'.heap[D0]?=some (.deferred (some [])):=(i.block D0 dd).trans ck.o;have ba:=(KeepsOthers.setCell w' ⟨w.heap.size+1+1,0,none⟩ (.slice A3 n3 c3)).same D0 _ k1 rfl;have J:=(KeepsOthers.setCell (w'.setCell ⟨w.heap.size+1+1,0,none⟩ (.slice A3 n3 c3)) ⟨w.heap.size+1+1+1,0,none⟩ (.slice A5 n5 c5)).same D0 _ ba rfl;have l4:=(am.set_ 0 (.slice A3 n3 c3)).far (p:=⟨w.heap.size+1+1+1,0,none⟩) (by show w.heap.size+1+1≠w.heap.size+1+1+1;omega) (.slice A5 n5 c5);have l5:=(an.far (p:=⟨w.heap.size+1+1,0,none⟩) (by show w.heap.size+1+1+1≠w.heap.size+1+1;omega) (.slice A3 n3 c3)).set_ 0 (.slice A5 n5 c5);have e4:=cell_kept (l4.cell 0) (grownBy_putObj' _ D0 (.deferred none)) (λr e=>by cases e;exact⟨_,J,rfl⟩);have e5:=cell_kept (l5.cell 0) (grownBy_putObj' _ D0 (.deferred none)) (λr e=>by cases e;exact⟨_,J,rfl⟩);have be:Below w.heap.size w w':=ab.trans ((show Below W.heap.size W w' from⟨i.os,i.tape,i.output,i.size,i.block⟩).mono ab.size);have HG : zg (aT w (x / d) (x % d) (.returned (.tuple #[.agg #[.slice A3 n3 c3],.agg #[.slice A5 n5 c5]])) (((w'.setCell ⟨w.heap.size + 1 + 1,0,none⟩ (.slice A3 n3 c3)).setCell ⟨w.heap.size + 1 + 1 + 1,0,none⟩ (.slice A5 n5 c5)).putObj D0 (.deferred none))) :=
       ⟨A3,n3,c3,A5,n5,c5,rfl,
        by rw [<-ao.o.1];exact iE (oF (oF O (λad e=>by have h1:W.heap.size<=ad.block:=az ad e;show ad.block≠w.heap.size+1+1;omega) _) (λad e=>by have h1:W.heap.size<=ad.block:=az ad e;show ad.block≠w.heap.size+1+1+1;omega) _) J rfl _,
        by rw [<-ao.o.2];exact iE (oF (oF bx (λad e=>by have h1:W.heap.size<=ad.block:=ac ad e;show ad.block≠w.heap.size+1+1;omega) _) (λad e=>by have h1:W.heap.size<=ad.block:=ac ad e;show ad.block≠w.heap.size+1+1+1;omega) _) J rfl _,
        ((be.setCell (p:=⟨w.heap.size+1+1,0,none⟩) (by show w.heap.size<=w.heap.size+1+1;omega) _).setCell (p:=⟨w.heap.size+1+1+1,0,none⟩) (by show w.heap.size<=w.heap.size+1+1+1;omega) _).trans (belowK_b (w:=w) (qX _) _ D0 _ _ za J rfl rfl)⟩
      clear hb O bw bx az ac am an f4 f5 g4 g5 i be k1 ba l4 l5 c8 c9 j8 j9;go_wp2;refine⟨zD,.inl ⟨_,_,rfl,run_takeDeferred J,?_⟩⟩;exact⟨.tuple #[.agg #[.slice A3 n3 c3],.agg #[.slice A5 n5 c5]],by simp [results,f141,go_sem,e4,e5],HG.o⟩
theorem nw (r:Nat)(hr:r<18446744073709551616)(g:Nat)(w:World)(h:zi w g 141 #[.int .u64 (r:Int)]):Calls prog 89 #[.slice (some ⟨g,0,none⟩) 1 1] w (yq w r):=by
 have hd:zC 18446744073709551616 [r]:=by intro d hd;simp at hd;omega
 have:=vr (some ⟨g,0,none⟩) 1 1 [r] w (my h rfl (by simp [zw]) rfl) hd (qX _) zh zh;rwa [show dv 18446744073709551616 [r]=r from by simp [dv]] at this
theorem fz (h:x<18446744073709551616):wd x 0=x:=by unfold wd;rw [yX,Nat.div_one,qP h]
theorem iI (hx:(dg 18446744073709551616 x).length=m)(hm:m<=1):x<18446744073709551616:=by
 have h:=yx (b:=18446744073709551616) zh x;rw [hx] at h;exact qJ h (qC (qL zh hm) zh)
theorem fE (x d q r:Nat)(b:Bool)(A D:zf)(n m c ce:Nat)(w:World)(hA:zp w x A n c)(hD:zp w d D m ce)(hm:m<=1)(hr:r<18446744073709551616)
  (HB:∀w',Below w.heap.size w w'->Calls prog 140 #[.agg #[.slice A n c],.int .u64 (d:Int)] w' (kh w' q r b)):
  Calls prog 130 #[.agg #[.slice A n c],.agg #[.slice D m ce]] w (uw w q r b):=by
 have hU:=λw' (hb:Below w.heap.size w w')=>lO d D m ce w' (hD.below hb) hm;rw [fz (iI hD.len hm)] at hU;have HU:=zd hU;have E:=zd HB;have F:=zd (λg w=>nw r hr g w);clear hU HB hA hD;go_enter func130,ntmps130;go_wp2_with fail;obtain⟨hB,b2,b3,k4,k5,b6⟩:=jA w 56 #[.slice A n c] #[.slice D m ce] #[.slice none 0 0] #[.slice none 0 0];generalize hW:(((w.alloc (.cells #[.slice A n c] 56)).alloc (.cells #[.slice D m ce] 56)).alloc (.cells #[.slice none 0 0] 56)).alloc (.cells #[.slice none 0 0] 56)=W0 at*;have g2:W0.cell? ⟨w.heap.size,0,none⟩=some (.slice A n c):=b2.cell 0;clear hW b2 b3;refine(HU.o _ hB).mono ?_;rintro e w1 ⟨rfl,hb⟩;have hB:=ze hB hb;have g2:=zq hb g2;obtain⟨k4,k5⟩:=zV hb k4 k5;clear hb b6;go_wp2_with fail;refine(E.o _ hB).mono ?_;rintro e w2 ⟨A2,n2,c2,rfl,h,hb⟩;have hB:=ze hB hb;obtain⟨k4,k5⟩:=zV hb k4 k5;have l4:=k5.lt;obtain⟨m9,m9'⟩:w.heap.size+1+1≠w2.heap.size/\w.heap.size+1+1+1≠w2.heap.size:=za;obtain⟨d1,d2,d5⟩:=zG w2 56 #[.slice A2 n2 c2];have hB:=ze hB d1;obtain⟨k4,k5⟩:=zV d1 k4 k5;have h:=h.below d1;have g9:(w2.alloc (.cells #[.slice A2 n2 c2] 56)).cell? ⟨w2.heap.size,0,none⟩=some (.slice A2 n2 c2):=d2.cell 0;clear d1 d2 d5 hb g2;go_wp2_with fail;generalize w2.alloc (.cells #[.slice A2 n2 c2] 56)=W2 at*;generalize w2.heap.size=z at*;have y:Below W2.heap.size W2 W2:=qY _ _;have j9:W2.drew.cell? ⟨z,0,none⟩=some (.slice A2 n2 c2):=g9
 go_region_held3 (fun w' => w'.cell? ⟨z,0,none⟩ = some (.slice A2 n2 c2))
  (first|(with_reducible exact j9)|exact zo|with_reducible exact yo _ zo|with_reducible exact(cell_drew_own _ _).trans (yo _ zo)|with_reducible exact zq hb zo|with_reducible exact zS _ (by first|(simp;done)|(simp;omega)) zo)
  (first
    |(go_at_call 89;(with_reducible refine(F.out _ _ (by first|with_reducible exact zi.new _ _ _|with_reducible exact(zi.new _ _ _).drew)).mono ?_);rintro e w' ⟨A3,n3,c3,rfl,C,hb,G⟩;(have a:Below W2.heap.size W2 w':=ze (by first|with_reducible exact(ym _ y).drew|with_reducible exact ym _ y.drew) hb);have i:=zj a k4;have j:=zj a k5;have u:=h.below a;have f4:=i.frozen 0;have f5:=j.frozen 0;have e4:=i.cell 0;have e5:=j.cell 0))
 have p4:yg w' (w.heap.size+1+1) (.slice none 0 0):=⟨_,i⟩;have p5:yg w' (w.heap.size+1+1+1) (.slice none 0 0):=⟨_,j⟩;have t:=p5.far (p:=⟨w.heap.size+1+1,0,none⟩) (by show w.heap.size+1+1+1≠w.heap.size+1+1;omega) (.slice A2 n2 c2);have r4:=((p4.set_ (.slice A2 n2 c2)).far (p:=⟨w.heap.size+1+1+1,0,none⟩) (by show w.heap.size+1+1≠w.heap.size+1+1+1;omega) (.slice A3 n3 c3)).cell;have r5:=(t.set_ (.slice A3 n3 c3)).cell;have B:=ze hB a;have HG : zg (uw w q r b (.returned (.tuple #[.agg #[.slice A2 n2 c2],.agg #[.slice A3 n3 c3],.bool b])) ((w'.setCell ⟨w.heap.size + 1 + 1,0,none⟩ (.slice A2 n2 c2)).setCell ⟨w.heap.size + 1 + 1 + 1,0,none⟩ (.slice A3 n3 c3))) :=
  ⟨A2,n2,c2,A3,n3,c3,rfl,yz (yz u p4 _) t _,yz (yz C p4 _) t _,
   (B.setCell (p:=⟨w.heap.size+1+1,0,none⟩) (by show w.heap.size<=w.heap.size+1+1;omega) _).setCell (p:=⟨w.heap.size+1+1+1,0,none⟩) (by show w.heap.size<=w.heap.size+1+1+1;omega) _⟩
 clear hb a h u C G k4 k5 i j f4 f5 e4 e5 p4 p5 t B hB g9 j9 y;go_wp2;refine bodyPost_ret (v:=.tuple #[.agg #[.slice A2 n2 c2],.agg #[.slice A3 n3 c3],.bool b]) (by simp [results,results130,go_sem,r4,r5]) rfl ?_;exact HG.o
theorem pM {d n:Nat}(hx:(dg 18446744073709551616 x).length=n)(hd:(dg 18446744073709551616 d).length=m)(h:n<m):x / d=0/\x%d=x:=by
 have hl:x<d:=kj (b:=18446744073709551616) zh (by rw [hx,hd];exact h);exact⟨xJ hl,qP hl⟩
theorem Zy (x d:Nat)(A D:zf)(n m c ce:Nat)(w:World)(hA:zp w x A n c)(hD:zp w d D m ce)(hm:2<=m)(j:n<m)(hm2:m<=274877906944):
  Calls prog 130 #[.agg #[.slice A n c],.agg #[.slice D m ce]] w (uw w (x / d) (x%d) true):=by
 obtain⟨hq,hr⟩:=pM hA.len hD.len j;rw [hq,hr];have HU:=zd (λw'=>lM D m ce w' za);have y:=zn w (λw' hb=>nM x A n c w' (hA.below hb) za);have h:=zd hA.len;have t1:decide ((n:Int)<(m:Int))=true:=by simpa using j
 clear hA hD hq hr;go_enter func130,ntmps130;go_wp2_with fail;obtain⟨hB,b2,b3,k4,k5,b6⟩:=jA w 56 #[.slice A n c] #[.slice D m ce] #[.slice none 0 0] #[.slice none 0 0];generalize hW:(((w.alloc (.cells #[.slice A n c] 56)).alloc (.cells #[.slice D m ce] 56)).alloc (.cells #[.slice none 0 0] 56)).alloc (.cells #[.slice none 0 0] 56)=W0 at*;have g2:W0.cell? ⟨w.heap.size,0,none⟩=some (.slice A n c):=b2.cell 0;have g3:W0.cell? ⟨w.heap.size+1,0,none⟩=some (.slice D m ce):=b3.cell 0;clear hW b2 b3;refine(HU.o _).mono ?_;rintro e w1 ⟨rfl,hb⟩;have hB:=ze hB hb;obtain⟨g2,g3⟩:=zX hb g2 g3;obtain⟨k4,k5⟩:=zV hb k4 k5;clear hb b6;go_wp2_with fail;have j2:w1.drew.cell? ⟨w.heap.size,0,none⟩=some (.slice A n c):=g2;have j3:w1.drew.cell? ⟨w.heap.size+1,0,none⟩=some (.slice D m ce):=g3;have i:Below w1.heap.size w1 w1.drew:=(qY _ w1).drew
 go_region_held3 (fun w' => Below w1.heap.size w1 w' ∧ w'.cell? ⟨w.heap.size,0,none⟩ = some (.slice A n c) ∧ w'.cell? ⟨w.heap.size + 1,0,none⟩ = some (.slice D m ce))
  (first|(with_reducible exact⟨i,j2,j3⟩)|(go_split_ands;(repeat' apply And.intro);all_goals (first|exact zo|with_reducible exact ze zo hb|with_reducible exact zq hb zo)))
  (first|(go_at_call 86;(with_reducible refine(wN 0 _ _ _ _).mono ?_);rintro e w' ⟨rfl,hb⟩))
 rename_i hH
 obtain⟨a,z,B⟩:=hH;have hB:=ze hB a;obtain⟨k4,k5⟩:=zV a k4 k5;clear a hb j2 j3 i B g2 g3;go_wp2_with fail;refine(y.o _ hB).mono ?_;rintro e w3 ⟨A1,c1,rfl,t,C,⟨E,_⟩,hb⟩;have hB:=ze hB hb;obtain⟨k4,k5⟩:=zV hb k4 k5;have O:=vr A1 _ c1 _ w3 t (vp zh x) C E (by have:=h.o;omega);rw [wV zh] at O;have HO:=zd O;rw [h.o] at HO⊢;clear O t hb z;go_wp2_with fail;refine HO.o.mono ?_;rintro e w' ⟨A3,n3,c3,rfl,u,hb,F⟩;have hB:=ze hB hb;obtain⟨k4,k5⟩:=zV hb k4 k5;have f4:=k4.frozen 0;have f5:=k5.frozen 0;have e4:=k4.cell 0;have e5:=k5.cell 0;have p4:yg w' (w.heap.size+1+1) (.slice none 0 0):=⟨_,k4⟩;have p5:yg w' (w.heap.size+1+1+1) (.slice none 0 0):=⟨_,k5⟩;have g:=p5.far (p:=⟨w.heap.size+1+1,0,none⟩) (by show w.heap.size+1+1+1≠w.heap.size+1+1;omega) (.slice none 0 0);have r4:=((p4.set_ (.slice none 0 0)).far (p:=⟨w.heap.size+1+1+1,0,none⟩) (by show w.heap.size+1+1≠w.heap.size+1+1+1;omega) (.slice A3 n3 c3)).cell;have r5:=(g.set_ (.slice A3 n3 c3)).cell;have HG : zg (uw w 0 x true (.returned (.tuple #[.agg #[.slice none 0 0],.agg #[.slice A3 n3 c3],.bool true])) ((w'.setCell ⟨w.heap.size + 1 + 1,0,none⟩ (.slice none 0 0)).setCell ⟨w.heap.size + 1 + 1 + 1,0,none⟩ (.slice A3 n3 c3))) :=
  ⟨none,0,0,A3,n3,c3,rfl,iy _,yz (yz u p4 _) g _,
   (hB.setCell (p:=⟨w.heap.size+1+1,0,none⟩) (by show w.heap.size<=w.heap.size+1+1;omega) _).setCell (p:=⟨w.heap.size+1+1+1,0,none⟩) (by show w.heap.size<=w.heap.size+1+1+1;omega) _⟩
 clear hb u F k4 k5 p4 p5 g hB;go_wp2;refine bodyPost_ret (v:=.tuple #[.agg #[.slice none 0 0],.agg #[.slice A3 n3 c3],.bool true]) (by simp [results,results130,go_sem,r4,r5]) rfl ?_;exact HG.o
theorem ZK (x d:Nat)(A D:zf)(n m c ce:Nat)(w:World)(hA:zp w x A n c)(hD:zp w d D m ce)(hm:2<=m)(B:m<=n)(hn:n<=274877906944):
  Calls prog 130 #[.agg #[.slice A n c],.agg #[.slice D m ce]] w (uw w (x / d) (x%d) true):=by
 have HU:=zd (λw'=>lM D m ce w' za);have j:=zn w (λw' hb=>Z6 x d A D n m c ce w' (hA.below hb) (hD.below hb) hm B hn);have t1:decide ((n:Int)<(m:Int))=false:=by simpa using B
 have t2:¬ n<m:=za;obtain⟨xq,C⟩:∃q,x / d=q:=⟨_,rfl⟩;obtain⟨xr,E⟩:∃q,x%d=q:=⟨_,rfl⟩;rw [C,E] at j⊢;clear hA hD C E;go_enter func130,ntmps130;go_wp2_with fail;obtain⟨hB,b2,b3,k4,k5,b6⟩:=jA w 56 #[.slice A n c] #[.slice D m ce] #[.slice none 0 0] #[.slice none 0 0];generalize hW:(((w.alloc (.cells #[.slice A n c] 56)).alloc (.cells #[.slice D m ce] 56)).alloc (.cells #[.slice none 0 0] 56)).alloc (.cells #[.slice none 0 0] 56)=W0 at*;have g2:W0.cell? ⟨w.heap.size,0,none⟩=some (.slice A n c):=b2.cell 0;have g3:W0.cell? ⟨w.heap.size+1,0,none⟩=some (.slice D m ce):=b3.cell 0;clear hW b2 b3;refine(HU.o _).mono ?_;rintro e w1 ⟨rfl,hb⟩;have hB:=ze hB hb;obtain⟨g2,g3⟩:=zX hb g2 g3;obtain⟨k4,k5⟩:=zV hb k4 k5;clear hb b6;go_wp2_with fail;have j2:w1.drew.cell? ⟨w.heap.size,0,none⟩=some (.slice A n c):=g2;have j3:w1.drew.cell? ⟨w.heap.size+1,0,none⟩=some (.slice D m ce):=g3;have y:Below w1.heap.size w1 w1.drew:=(qY _ w1).drew
 go_region_held3 (fun w' => Below w1.heap.size w1 w' ∧ w'.cell? ⟨w.heap.size,0,none⟩ = some (.slice A n c) ∧ w'.cell? ⟨w.heap.size + 1,0,none⟩ = some (.slice D m ce))
  (first|(with_reducible exact⟨y,j2,j3⟩)|(go_split_ands;(repeat' apply And.intro);all_goals (first|exact zo|with_reducible exact ze zo hb|with_reducible exact zq hb zo)))
  (first|(go_at_call 86;(with_reducible refine(wN 0 _ _ _ _).mono ?_);rintro e w' ⟨rfl,hb⟩))
 rename_i hH
 obtain⟨i,J,K⟩:=hH;have hB:=ze hB i;obtain⟨k4,k5⟩:=zV i k4 k5;clear i hb j2 j3 y g2 g3;go_wp2_with fail;refine(j.o _ hB).mono ?_;rintro e w3 ⟨A2,n2,c2,A3,n3,c3,rfl,a,g,hb⟩;have hB:=ze hB hb;obtain⟨k4,k5⟩:=zV hb k4 k5;obtain⟨d1,d2,d3,d5⟩:=yb w3 56 56 #[.slice A2 n2 c2] #[.slice A3 n3 c3];have l5:=k5.lt;obtain⟨m1,m2,m3,m4⟩:w3.heap.size≠w.heap.size+1+1/\w3.heap.size≠w.heap.size+1+1+1/\w3.heap.size+1≠w.heap.size+1+1/\w3.heap.size+1≠w.heap.size+1+1+1:=za;have hB:=ze hB d1;obtain⟨k4,k5⟩:=zV d1 k4 k5;have a:=a.below d1;have g:=g.below d1;have t:((w3.alloc (.cells #[.slice A2 n2 c2] 56)).alloc (.cells #[.slice A3 n3 c3] 56)).cell? ⟨w3.heap.size,0,none⟩=some (.slice A2 n2 c2):=d2.cell 0;have u:((w3.alloc (.cells #[.slice A2 n2 c2] 56)).alloc (.cells #[.slice A3 n3 c3] 56)).cell? ⟨w3.heap.size+1,0,none⟩=some (.slice A3 n3 c3):=d3.cell 0;clear d1 d2 d3 d5 hb J K l5;go_wp2_with fail;generalize (w3.alloc (.cells #[.slice A2 n2 c2] 56)).alloc (.cells #[.slice A3 n3 c3] 56)=W' at*;generalize w3.heap.size=z at*;have j2:W'.drew.cell? ⟨z,0,none⟩=some (.slice A2 n2 c2):=t;have j3:W'.drew.cell? ⟨z+1,0,none⟩=some (.slice A3 n3 c3):=u;have f4:=k4.drew.frozen 0;have f5:=k5.drew.frozen 0;have e4:=k4.drew.cell 0;have e5:=k5.drew.cell 0;have H:=k4.frozen 0;have I:=k5.frozen 0;have F:=k4.cell 0;have G:=k5.cell 0
 go_region_held3 (fun w' => w'.cell? ⟨z,0,none⟩ = some (.slice A2 n2 c2) ∧ w'.cell? ⟨z + 1,0,none⟩ = some (.slice A3 n3 c3))
  (first|(with_reducible exact⟨j2,j3⟩)|(go_split_ands;(repeat' apply And.intro);all_goals (first|exact zo|with_reducible exact(cell_drew_own _ _).trans (zS _ (by first|(simp;done)|(simp;omega)) zo)|with_reducible exact(cell_drew_own _ _).trans (zS _ (by first|(simp;done)|(simp;omega)) (zS _ (by first|(simp;done)|(simp;omega)) zo))|with_reducible exact zS _ (by first|(simp;done)|(simp;omega)) zo|with_reducible exact zS _ (by first|(simp;done)|(simp;omega)) (zS _ (by first|(simp;done)|(simp;omega)) zo))))
  (fail)
 have p4:yg W' (w.heap.size+1+1) (.slice none 0 0):=⟨_,k4⟩;have p5:yg W' (w.heap.size+1+1+1) (.slice none 0 0):=⟨_,k5⟩;have h:=p5.far (p:=⟨w.heap.size+1+1,0,none⟩) (by show w.heap.size+1+1+1≠w.heap.size+1+1;omega) (.slice A2 n2 c2);have r4:=((p4.set_ (.slice A2 n2 c2)).far (p:=⟨w.heap.size+1+1+1,0,none⟩) (by show w.heap.size+1+1≠w.heap.size+1+1+1;omega) (.slice A3 n3 c3)).cell;have r5:=(h.set_ (.slice A3 n3 c3)).cell;have HG : zg (uw w xq xr true (.returned (.tuple #[.agg #[.slice A2 n2 c2],.agg #[.slice A3 n3 c3],.bool true])) ((W'.setCell ⟨w.heap.size + 1 + 1,0,none⟩ (.slice A2 n2 c2)).setCell ⟨w.heap.size + 1 + 1 + 1,0,none⟩ (.slice A3 n3 c3)).drew) :=
  ⟨A2,n2,c2,A3,n3,c3,rfl,yz (yz a p4 _) h _,yz (yz g p4 _) h _,
   ((hB.setCell (p:=⟨w.heap.size+1+1,0,none⟩) (by show w.heap.size<=w.heap.size+1+1;omega) _).setCell (p:=⟨w.heap.size+1+1+1,0,none⟩) (by show w.heap.size<=w.heap.size+1+1+1;omega) _).drew⟩
 clear a g k4 k5 p4 p5 h hB t u j2 j3 f4 f5 e4 e5 H I F G;go_wp2;refine bodyPost_ret (v:=.tuple #[.agg #[.slice A2 n2 c2],.agg #[.slice A3 n3 c3],.bool true]) (by simp [results,results130,go_sem,r4,r5]) rfl ?_;exact HG.o
theorem kP (x d:Nat)(A D:zf)(n m c ce:Nat)(w:World)(hA:zp w x A n c)(hD:zp w d D m ce)(hn:n<=274877906944)(hm:m<=274877906944)(hd:d≠0):
  Calls prog 130 #[.agg #[.slice A n c],.agg #[.slice D m ce]] w (uw w (x / d) (x%d) true):=by
 by_cases h1:m<=1
 ·have a:=iI hD.len h1;exact fE x d (x / d) (x%d) true A D n m c ce w hA hD h1 (Nat.lt_trans (QI _ (xL hd)) a) (λw' hb=>fY x d A n c w' (hA.below hb) hn a hd)
 ·by_cases h2:n<m
  ·exact Zy x d A D n m c ce w hA hD za h2 hm
  ·exact ZK x d A D n m c ce w hA hD za za hn
theorem fC (x d:Nat)(A D:zf)(n m c ce:Nat)(w:World)(hA:zp w x A n c)(hD:zp w d D m ce)(hd:d=0):
  Calls prog 130 #[.agg #[.slice A n c],.agg #[.slice D m ce]] w (uw w 0 0 false):=by
 subst hd;obtain rfl:m=0:=by have:=hD.len;rw [oK] at this;exact this.symm
 exact fE x 0 0 0 false A D n 0 c ce w hA hD zh zh (λw' hb=>fI x A n c w' (hA.below hb))
theorem ik (q r:Nat)(b:Bool)(A D:zf)(n m c ce:Nat)(w:World)(d:∀w',Below w.heap.size w w'->Calls prog 130 #[.agg #[.slice A n c],.agg #[.slice D m ce]] w' (uw w' q r b)):
  Calls prog 115 #[.agg #[.slice A n c],.agg #[.slice D m ce]] w (nP w q b):=by
 have HD:=zd d;clear d;go_enter func115,ntmps115;go_wp2_with fail;obtain⟨hB,b2,b3,k4,b5⟩:=yc w 56 56 56 #[.slice A n c] #[.slice D m ce] #[.slice none 0 0];generalize hW:((w.alloc (.cells #[.slice A n c] 56)).alloc (.cells #[.slice D m ce] 56)).alloc (.cells #[.slice none 0 0] 56)=W0 at*;clear hW b2 b3;refine(HD.o _ hB).mono ?_;rintro e w3 ⟨A2,n2,c2,A3,n3,c3,rfl,a,g,hb⟩;have hB:=ze hB hb;have k4:=zj hb k4;have l4:=k4.lt;obtain⟨d1,d2,d3,d5⟩:=yb w3 56 56 #[.slice A2 n2 c2] #[.slice A3 n3 c3];have hB:=ze hB d1;have k4:=zj d1 k4;have a:=a.below d1;clear d1 d3 d5 hb g b5;have g6:((w3.alloc (.cells #[.slice A2 n2 c2] 56)).alloc (.cells #[.slice A3 n3 c3] 56)).cell? ⟨w3.heap.size,0,none⟩=some (.slice A2 n2 c2):=d2.cell 0;have f4:=k4.frozen 0;have e4:=k4.cell 0;have p4:yg _ (w.heap.size+1+1) (.slice none 0 0):=⟨_,k4⟩;have r4:=(p4.set_ (.slice A2 n2 c2)).cell;have HG : zg (nP w q b (.returned (.tuple #[.agg #[.slice A2 n2 c2],.bool b])) (((w3.alloc (.cells #[.slice A2 n2 c2] 56)).alloc (.cells #[.slice A3 n3 c3] 56)).setCell ⟨w.heap.size + 1 + 1,0,none⟩ (.slice A2 n2 c2))) :=
  ⟨A2,n2,c2,rfl,yz a p4 _,hB.setCell (p:=⟨w.heap.size+1+1,0,none⟩) (by show w.heap.size<=w.heap.size+1+1;omega) _⟩
 clear a k4 p4 hB d2;go_wp2;refine bodyPost_ret (v:=.tuple #[.agg #[.slice A2 n2 c2],.bool b]) (by simp [results,results115,go_sem,r4]) rfl ?_;exact HG.o
theorem Wa (q r:Nat)(b:Bool)(A D:zf)(n m c ce:Nat)(w:World)(d:∀w',Below w.heap.size w w'->Calls prog 130 #[.agg #[.slice A n c],.agg #[.slice D m ce]] w' (uw w' q r b)):
  Calls prog 136 #[.agg #[.slice A n c],.agg #[.slice D m ce]] w (nP w r b):=by
 have HD:=zd d;clear d;go_enter func136,ntmps136;go_wp2_with fail;obtain⟨hB,b2,b3,k4,b5⟩:=yc w 56 56 56 #[.slice A n c] #[.slice D m ce] #[.slice none 0 0];generalize hW:((w.alloc (.cells #[.slice A n c] 56)).alloc (.cells #[.slice D m ce] 56)).alloc (.cells #[.slice none 0 0] 56)=W0 at*;clear hW b2 b3;refine(HD.o _ hB).mono ?_;rintro e w3 ⟨A2,n2,c2,A3,n3,c3,rfl,g,a,hb⟩;have hB:=ze hB hb;have k4:=zj hb k4;have l4:=k4.lt;obtain⟨d1,d2,d3,d5⟩:=yb w3 56 56 #[.slice A2 n2 c2] #[.slice A3 n3 c3];have hB:=ze hB d1;have k4:=zj d1 k4;have a:=a.below d1;clear d1 d2 d5 hb g b5;have g6:((w3.alloc (.cells #[.slice A2 n2 c2] 56)).alloc (.cells #[.slice A3 n3 c3] 56)).cell? ⟨w3.heap.size+1,0,none⟩=some (.slice A3 n3 c3):=d3.cell 0;have f4:=k4.frozen 0;have e4:=k4.cell 0;have p4:yg _ (w.heap.size+1+1) (.slice none 0 0):=⟨_,k4⟩;have r4:=(p4.set_ (.slice A3 n3 c3)).cell;have HG : zg (nP w r b (.returned (.tuple #[.agg #[.slice A3 n3 c3],.bool b])) (((w3.alloc (.cells #[.slice A2 n2 c2] 56)).alloc (.cells #[.slice A3 n3 c3] 56)).setCell ⟨w.heap.size + 1 + 1,0,none⟩ (.slice A3 n3 c3))) :=
  ⟨A3,n3,c3,rfl,yz a p4 _,hB.setCell (p:=⟨w.heap.size+1+1,0,none⟩) (by show w.heap.size<=w.heap.size+1+1;omega) _⟩
 clear a k4 p4 hB d3;go_wp2;refine bodyPost_ret (v:=.tuple #[.agg #[.slice A3 n3 c3],.bool b]) (by simp [results,results136,go_sem,r4]) rfl ?_;exact HG.o
theorem ov:lc where
 divMod x y A D n m c d w hA hD hn hm hy:=kP x y A D n m c d w hA hD za za hy
 divModNo x y A D n m c d w hA hD hn hm hy:=fC x y A D n m c d w hA hD hy
 div x y A D n m c d w hA hD hn hm hy:=ik (x / y) (x%y) true A D n m c d w (λw' hb=>kP x y A D n m c d w' (hA.below hb) (hD.below hb) za za hy)
 mod x y A D n m c d w hA hD hn hm hy:=Wa (x / y) (x%y) true A D n m c d w (λw' hb=>kP x y A D n m c d w' (hA.below hb) (hD.below hb) za za hy)
 byWord x a A n c w hA hn ha ha0:=fY x a A n c w hA za ha ha0
 byWordNo x A n c w hA hn:=fI x A n c w hA
