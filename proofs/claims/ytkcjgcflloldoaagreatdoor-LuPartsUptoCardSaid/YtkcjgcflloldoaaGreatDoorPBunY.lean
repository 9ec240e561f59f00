/- What this claim leans on. -/
import Derived.Test.YtkcjgcflloldoaaGreatDoorPUArgs2
set_option linter.unusedVariables false
set_option linter.unusedSimpArgs false
namespace Go.Proofs.YtkcjgcflloldoaaGreatDoor
open Go Go.RowKit Go.Proofs.Tryz
set_option maxHeartbeats 16000000
set_option maxRecDepth 100000
variable {L:List Nat}{B B0 X a b g m n x:Nat}{t:TypeId}{w w':World}
attribute [local go_sem] Oper.semAt_some
theorem WV (x:Nat)(A:ze)(n c:Nat)(w:World)(hA:zo w x A n c):
  Calls prog 172 #[.agg #[.slice A n c],.int .u64 0] w (cW w 0 0 false):=by
 go_enter func172,ntmps172;go_wp2;refine bodyPost_ret (v:=.tuple #[.agg #[.slice none 0 0],.int .u64 0,.bool false]) (by simp [results,results172,go_sem]) rfl ?_;exact⟨none,0,0,rfl,Ym _,(yF w _ _ _ _ _ _).1⟩
def Se (w:World)(q x:Nat)(b:Bool)(e:Ending)(w':World):Prop:=∃(A:ze) (n c:Nat),e=.returned (.tuple #[.agg #[.slice A n c],.int .u64 (x:Int),.bool b])/\zo w' q A n c/\Below w.heap.size w w'/\sH w A
theorem gP {W W':World}{row:Option Nat}(h:zJ W t g a n L)(hg:W.grownBy W' row)(hr:∀r,row=some r->B<=r/\∃o:Obj,W.heap[r]?=some o/\o.isCells=false):zJ W' t g a n L:=by
 obtain⟨c,h0,h1⟩:=h;exact⟨c,uZ h0 hg hr,h1⟩
structure fL (x a n c1 gs q0 q1 q2 q3 q4:Nat)(A1:ze)(w:World)(k:Nat)(W:World):Prop where
 row:∃L r,nh x a k n L r/\zh W q3 125 #[.int .u64 (r:Int)]/\(0<n->∃g,A1=some ⟨g,0,none⟩/\gs<=g/\g<q2/\zJ W 125 g c1 n L)
 abox:zh W q0 125 #[.int .u64 (a:Int)]
 res:zh W q1 50 #[.slice none 0 0]
 qbox:zh W q2 48 #[.slice A1 n c1]
 seq:zh W q4 48 #[.slice A1 n c1]
 below:Below w.heap.size w W
theorem fL.own {c1 gs q0 q1 q2 q3 q4:Nat}{A1:ze}(hB:w.heap.size<=B)(k:Nat):OwnFrom B (fun(_:Unit) W=>fL x a n c1 gs q0 q1 q2 q3 q4 A1 w k W):=by
 intro _ W W' row h hg hr;obtain⟨L,r,h1,h2,h3⟩:=h.row;refine⟨⟨L,r,h1,uZ h2 hg hr,λhn=>?_⟩,uZ h.abox hg hr,uZ h.res hg hr,uZ h.qbox hg hr,uZ h.seq hg hr,bV h.below (qX _) hB hg hr⟩;obtain⟨g,e,h4,h5,h6⟩:=h3 hn;exact⟨g,e,h4,h5,gP h6 hg hr⟩
theorem Y6 {c D:Nat}{A:ze}{o:Obj}(h:zo w x A n c)(hD:w.heap[D]?=some o)(ho:o.isCells=false)(o':Obj):zo (w.putObj D o') x A n c:=by
 obtain⟨⟨h1,h2⟩,h3⟩:=h;refine⟨⟨h1,λhn=>?_⟩,h3⟩;obtain⟨ad,e,hb,hc⟩:=h2 hn;exact⟨ad,e,by simpa using hb,λj u hu=>cell_kept (hc j u hu) (grownBy_putObj' w D o') (λr e=>by cases e;exact⟨_,hD,ho⟩)⟩
theorem Wx (g k:Nat):(⟨g,0,none⟩:Addr).add k=⟨g,k,none⟩:=by unfold Addr.add;split<;>simp_all
theorem Rg (x a:Nat)(A:ze)(n c:Nat)(w:World)(hA:zo w x A n c)(hn:n<=274877906944)(ha:a<18446744073709551616)(ah:a≠0):
  Calls prog 172 #[.agg #[.slice A n c],.int .u64 (a:Int)] w (Se w (x / a) (x%a) true):=by
 have P:=zj w (λw' hb=>bR x A n c w' (hA.below hb) za);have HI:=zb (nh.start (a:=a) hA.len ah);have hz:((a:Int)==0)=false:=by simp;omega
 clear hA;refine(callsIn_wide (n:=3)).1 ?_;refine callsIn_of_wp_marks func172 rfl trivial ?_ rfl;simp only [ntmps172,XR,xO,YN,Nat.reduceAdd,Nat.reduceSub,YI,YT,List.push_toArray,jY,yQ,YS];refine wpIn_wide.2 ?_;go_wp2_with fail;obtain⟨b1,b2,b3,b4,b5⟩:=yF w 50 125 50 #[.slice A n c] #[.int .u64 (a:Int)] #[.slice none 0 0];generalize hW:((w.alloc (.cells #[.slice A n c] 50)).alloc (.cells #[.int .u64 (a:Int)] 125)).alloc (.cells #[.slice none 0 0] 50)=W0 at*;clear hW b2;refine(P.o _ b1).mono ?_;rintro e w1 ⟨v,rfl,j,hb⟩;obtain⟨A1,c1,rfl,ai,aj,_⟩:=zL.of_grown_own j;have hB:=zc b1 hb;have ka:=zg hb b3;have kr:=zg hb b4;have ap:w.heap.size+3<=W0.heap.size:=b5;clear hb b1 b3 b4 b5;go_wp2_with fail;have ao:w.heap.size+2<w1.heap.size:=kr.lt;obtain⟨d1,d2,d3,d4,d5⟩:=yF w1 48 125 48 #[.slice A1 n c1] #[.int .u64 0] #[.slice A1 n c1];refine(Z3 A1 n c1 _).mono ?_;rintro e w2 ⟨rfl,J⟩;rw [J] at d1 d2 d3 d4 d5;have hB:=zc hB d1;obtain⟨ka,kr⟩:=y5 d1 ka kr;have F:0<n->∃g,A1=some ⟨g,0,none⟩/\W0.heap.size<=g/\g<w1.heap.size/\zJ w2 125 g c1 n (dg 18446744073709551616 x):=λh=>by
  obtain⟨g,cap,e,hg,hR⟩:=zJ.of_own j h;injection e with e1 _ e3;subst e1 e3;exact⟨g,rfl,hg,hR.lt,by rw [<-J];exact((hR.alloc _).alloc _).alloc _⟩
 clear J d1 j d5;have H0:=zb (show fL x a n c1 W0.heap.size (w.heap.size+1) (w.heap.size+1+1) w1.heap.size (w1.heap.size+1) (w1.heap.size+1+1) A1 w n w2 from⟨⟨_,0,HI.o,d3,F⟩,ka,kr,d2,d4,hB⟩);have af:=hB.size;clear F ka kr d2 d3 d4 hB;go_wp2_with fail;obtain⟨gs,V⟩:∃g,W0.heap.size=g:=⟨_,rfl⟩;obtain⟨z,Y⟩:∃z,w1.heap.size=z:=⟨_,rfl⟩;rw [V] at H0 ap;rw [Y] at H0 ao⊢;clear V Y;refine(wpIn_wide (n:=3)).1 ?_;refine Ug (gf:=187) (lb:=#[.pointer (some ⟨z + 1 + 1,0,none⟩)]) rfl (enters_of func187 zU rfl) n (fun k => #[.int .i64 (k : Int),.int .u64 (wd x k : Int)]) (fun _ => rfl)
  (λk W=>fL x a n c1 gs (w.heap.size+1) (w.heap.size+1+1) z (z+1) (z+1+1) A1 w k W) (λk=>fL.own af k) H0.o
  (Vb (z+1+1) n c1 A1 (wd x) _ za (λk W h=>h.seq.cell 0) ?cells)
  (λk=>{tmps:=#[.agg #[.slice A n c],.int .u64 (a:Int),.pointer (some ⟨w.heap.size,0,none⟩),.pointer (some ⟨w.heap.size+1,0,none⟩),.pointer (some ⟨w.heap.size+1+1,0,none⟩),.int .u64 0,.bool false,.pointer (some ⟨z,0,none⟩),.pointer (some ⟨z+1,0,none⟩),.int .i64 (k:Int),.int .u64 (wd x k:Int),.int .u64 (a:Int),.bool false,undef,.agg #[.slice A n c],.slice A1 n c1,.slice A1 n c1,.func (.func 187) #[] #[.pointer (some ⟨z+1+1,0,none⟩)],.int .i64 (k:Int),.int .u64 (wd x k:Int),undef,undef,undef,undef,undef,undef,undef,undef,undef,undef,undef,undef,undef,undef],defers:=[]}) ?assign ?body ?done
 case cells=>
  intro k W hk h;obtain⟨L,r,h1,h2,h3⟩:=h.row;obtain⟨g,e,_,_,hR⟩:=h3 za;refine⟨_,e,?_⟩;rw [Wx,hR.cell k hk,h1.get za]
 case assign=>
  intro l k W K hK
  gi_wp2
  exact hK
 case body=>
  intro l k W hk h;have aq:=h.seq;have E:=h.abox;have C:=h.res;have X:=h.qbox;have i:=h.below;obtain⟨L,r,h1,h2,h3⟩:=h.row;obtain⟨g,rfl,al,am,hR⟩:=h3 za;clear h h3;have hr:=h1.rest;have hw:=wX x k;have y:=h1.step (s:=r*18446744073709551616+wd x k) hk rfl ha;obtain⟨v,hv⟩:∃v,wd x k=v:=⟨_,rfl⟩;rw [hv] at hw y⊢;have G:=λw=>Sk r v a hr ha hw w;obtain⟨t1,H⟩:∃t,(r*18446744073709551616+v) / a=t:=⟨_,rfl⟩;obtain⟨t2,I⟩:∃t,(r*18446744073709551616+v)%a=t:=⟨_,rfl⟩;rw [H,I] at y;rw [H,I] at G;have HS:=zb y;have Z:=zb G;clear y G H I hv h1;have cq:=X.cell 0;have ca:=E.cell 0;have cr:=h2.cell 0;have fr:=h2.frozen 0;have cg:=hR.cell k hk;have fg:=hR.frozen k;have i1:(0:Int)<=(k:Int):=za;have i2:(k:Int)<(n:Int):=za;have ae:W.drew.cell? ⟨z+1,0,none⟩=some (.int .u64 (r:Int)):=cr;refine wpIn_block ?_;refine Vl (S:=(λw'=>w'.cell? ⟨z,0,none⟩=some (.slice (some ⟨g,0,none⟩) n c1)/\w'.cell? ⟨w.heap.size+1,0,none⟩=some (.int .u64 (a:Int)))) zU zU (λ_ _ h=>by cases h.1) ?_ (λhHeld=>?_)
  ·exact⟨cq,ca⟩
  refine yq 0 (v:=?_) ?_ ?_
  rotate_left
  focus ((intro w d;(try dsimp only at d);go_simp);(try with_reducible rfl))
  try simp only [Act.put,qU,qP,qR]
  refine yq 1 (v:=?_) ?_ ?_
  rotate_left
  focus ((intro w d;(try dsimp only at d);go_simp);(try with_reducible rfl))
  try simp only [Act.put,qU,qP,qR]
  refine yq 3 (v:=?_) ?_ ?_
  rotate_left
  focus ((intro w d;(try dsimp only at d);go_simp);(try with_reducible rfl))
  try simp only [Act.put,qU,qP,qR]
  refine yq 4 (v:=?_) ?_ ?_
  rotate_left
  focus ((intro w d;(try dsimp only at d);go_simp);(try with_reducible rfl))
  try simp only [Act.put,qU,qP,qR]
  refine wpAnyH_ready (rs:=[2]) zU zG ?_;refine tv (λK hK=>?_);go_simp;refine hK.out _ _ ?_ (λhHeld=>?_)
  ·((try dsimp only);exact hHeld)
  clear hK K
  try simp only [Act.put,qU,qP,qR]
  refine wpAnyH_ready (rs:=[5]) zU zG ?_;refine tv (λK hK=>?_);go_simp;refine(Z.o _).mono ?_;rintro e w' ⟨rfl,nn,rfl⟩;have fg1:(W.drew.drewN nn).frozen? ⟨g,k,none⟩=false:=fg;have Q:∃u,(W.drew.drewN nn).cell? ⟨g,k,none⟩=some u:=⟨_,cg⟩;obtain⟨u1,Q⟩:=Q;have fr1:((W.drew.drewN nn).setCell ⟨g,k,none⟩ (.int .u64 (t1:Int))).frozen? ⟨z+1,0,none⟩=false:=by rw [World.frozen?_setCell];exact fr
  have cr1:((W.drew.drewN nn).setCell ⟨g,k,none⟩ (.int .u64 (t1:Int))).cell? ⟨z+1,0,none⟩=some (.int .u64 (r:Int)):=zW _ (by show z+1≠g;omega) ae;refine hK.out _ _ ?_ (λhHeld=>?_)
  ·((try dsimp only);exact hHeld)
  clear hK K
  try simp only [Act.put,qU,qP,qR]
  refine yq 6 (v:=?_) ?_ ?_
  rotate_left
  focus ((intro w d;(try dsimp only at d);go_simp);(try with_reducible rfl))
  try simp only [Act.put,qU,qP,qR]
  refine yq 7 (v:=?_) ?_ ?_
  rotate_left
  focus ((intro w d;(try dsimp only at d);go_simp);(try with_reducible rfl))
  try simp only [Act.put,qU,qP,qR]
  refine yq 8 (v:=?_) ?_ ?_
  rotate_left
  focus ((intro w d;(try dsimp only at d);go_simp);(try with_reducible rfl))
  try simp only [Act.put,qU,qP,qR]
  refine yq 9 (v:=?_) ?_ ?_
  rotate_left
  focus ((intro w d;(try dsimp only at d);go_simp);(try with_reducible rfl))
  try simp only [Act.put,qU,qP,qR]
  refine yq 10 (v:=?_) ?_ ?_
  rotate_left
  focus ((intro w d;(try dsimp only at d);go_simp);(try with_reducible rfl))
  try simp only [Act.put,qU,qP,qR]
  refine wpAnyH_ready (rs:=[11]) zU zG ?_;refine tv (λK hK=>?_);go_simp;refine hK.out _ _ ?_ (λhHeld=>?_)
  ·((try dsimp only);exact⟨zW _ (by show z≠g;omega) hHeld.1,zW _ (by show w.heap.size+1≠g;omega) hHeld.2⟩)
  clear hK K
  try simp only [Act.put,qU,qP,qR]
  refine wpAnyH_ready (rs:=[12]) zU zG ?_;refine tv (λK hK=>?_);go_simp;refine hK.out _ _ ?_ (λhHeld=>?_)
  ·((try dsimp only);exact⟨zW _ (by show z≠z+1;omega) hHeld.1,zW _ (by show w.heap.size+1≠z+1;omega) hHeld.2⟩)
  clear hK K
  try simp only [Act.put,qU,qP,qR]
  refine wpAnyH_done zU ?_ _;refine⟨rfl,(KeepsOthers.trans (show KeepsOthers W (W.drewN (1+nn)) from⟨qX _,λ_ _ h _=>h⟩) (KeepsOthers.setCell _ _ _)).trans (KeepsOthers.setCell _ _ _),?_⟩;have T:Below w.heap.size w (W.drewN (1+nn)):=⟨i.os,i.tape,i.output,i.size,i.block⟩;have h3:zh (((W.drewN (1+nn)).setCell ⟨g,k,none⟩ (.int .u64 (t1:Int))).setCell ⟨z+1,0,none⟩ (.int .u64 (t2:Int))) (z+1) 125 #[.int .u64 (t2:Int)]:=((h2.drewN (1+nn)).far (p:=⟨g,k,none⟩) (by show z+1≠g;omega) _).set_ 0 _;have ag:zJ (W.drewN (1+nn)) 125 g c1 n L:=hR;exact ⟨⟨_,t2,HS.o,h3,fun _ => ⟨g,rfl,al,am,(ag.set_ k t1 hk).far (p:=⟨z + 1,0,none⟩) (by show g ≠ z + 1; omega) _⟩⟩,
   ((E.drewN (1+nn)).far (p:=⟨g,k,none⟩) (by show w.heap.size+1≠g;omega) _).far (p:=⟨z+1,0,none⟩) (by show w.heap.size+1≠z+1;omega) _,
   ((C.drewN (1+nn)).far (p:=⟨g,k,none⟩) (by show w.heap.size+1+1≠g;omega) _).far (p:=⟨z+1,0,none⟩) (by show w.heap.size+1+1≠z+1;omega) _,
   ((X.drewN (1+nn)).far (p:=⟨g,k,none⟩) (by show z≠g;omega) _).far (p:=⟨z+1,0,none⟩) (by show z≠z+1;omega) _,
   ((aq.drewN (1+nn)).far (p:=⟨g,k,none⟩) (by show z+1+1≠g;omega) _).far (p:=⟨z+1,0,none⟩) (by show z+1+1≠z+1;omega) _,
   (T.setCell (p:=⟨g,k,none⟩) (by show w.heap.size<=g;omega) _).setCell (p:=⟨z+1,0,none⟩) (by show w.heap.size<=z+1;omega) _⟩
 case done=>
  intro D W hD h hK;have i:=h.below;have C:=h.res;have cq:W.cell? ⟨z,0,none⟩=some (.slice A1 n c1):=h.qbox.cell 0;obtain⟨L,r,h1,h2,h3⟩:=h.row;obtain⟨hq,hr⟩:=h1.done;have cr:W.cell? ⟨z+1,0,none⟩=some (.int .u64 (r:Int)):=h2.cell 0;have o:zL W.drew W.drew.heap.size 1 A1 n (zt .u64 L):=by
   rcases xQ n with e|e
   ·subst e;have hl:=h1.len;rw [QX hl];exact⟨rfl,λh=>absurd h za⟩
   ·obtain⟨g,rfl,_,_,hR⟩:=h3 e;exact hR.drew.reads
  have HO:=tK A1 n c1 L W.drew o h1.dgs ai (by unfold maxLen at aj;omega) za;rw [hq] at HO;rw [hr] at h2 cr;obtain⟨xq,M⟩:∃q,x / a=q:=⟨_,rfl⟩;obtain⟨xr,N⟩:∃q,x%a=q:=⟨_,rfl⟩;rw [M] at HO;rw [N] at cr;have ab:=zb M;have ac:=zb N;have aa:=zb HO;have O:=zb hK;clear h h1 h2 h3 hq hr HO o M N P HI H0 hK;go_wp2_with fail
  go_region_held3 (fun w' => w'.cell? ⟨z,0,none⟩ = some (.slice A1 n c1) ∧ w'.cell? ⟨z + 1,0,none⟩ = some (.int .u64 (xr : Int)))
   (first|(exact⟨cq,cr⟩)|(go_split_ands;(repeat' apply And.intro);all_goals (first|exact zl|exact zq hb zl|exact zW _ (by simp;omega) zl)))
   (first|(go_at_call 106;(with_reducible refine aa.o.mono ?_);rintro e w' ⟨A3,n3,c3,rfl,hw,hb,hf⟩;have m:=zg hb C.drew;have f1:=m.frozen 0;have f2:=m.cell 0))
  have an:D<W.heap.size:=(Array.getElem?_eq_some_iff.1 O.o).1;have k1:w'.heap[D]?=some (.deferred (some [])):=(hb.block D an).trans O.o;have hq1:=C.lt;have U:=World.cell?_setCell_same' w' ⟨w.heap.size+1+1,0,none⟩ (.slice A3 n3 c3) (by rw [f2];rfl);have B:=(KeepsOthers.setCell w' ⟨w.heap.size+1+1,0,none⟩ (.slice A3 n3 c3)).same D _ k1 rfl;have ak:=cell_kept U (grownBy_putObj' _ D (.deferred none)) (λr e=>by cases e;exact⟨_,B,rfl⟩);have R:Below w.heap.size w w':=i.trans ((show Below W.heap.size W w' from⟨hb.os,hb.tape,hb.output,hb.size,hb.block⟩).mono i.size);have HG : zd (Se w (x / a) (x % a) true (.returned (.tuple #[.agg #[.slice A3 n3 c3],.int .u64 (xr : Int),.bool true])) ((w'.setCell ⟨w.heap.size + 1 + 1,0,none⟩ (.slice A3 n3 c3)).putObj D (.deferred none))) :=
   ⟨A3,n3,c3,by rw [ac.o],by rw [ab.o]; exact Y6 (jg hw (fun ad e => by have h1 : W.heap.size ≤ ad.block:=hf ad e; show ad.block ≠ w.heap.size + 1 + 1; omega) _) B rfl _,
    (R.setCell (p:=⟨w.heap.size+1+1,0,none⟩) (by show w.heap.size<=w.heap.size+1+1;omega) _).trans (belowK_b (w:=w) (qX _) _ D _ _ za B rfl rfl),λad e=>by have h1:W.heap.size<=ad.block:=hf ad e;have h2:=i.size;omega⟩
  clear hb hw hf m f1 f2 R k1 U cq cr;go_wp2;refine⟨zG,.inl ⟨_,_,rfl,run_takeDeferred B,?_⟩⟩;exact⟨.tuple #[.agg #[.slice A3 n3 c3],.int .u64 (xr:Int),.bool true],by simp [results,f172,go_sem,ak],HG.o⟩
theorem Vt (x a:Nat)(A:ze)(n c:Nat)(w:World)(hA:zo w x A n c)(hn:n<=274877906944)(ha:a<18446744073709551616)(d:a≠0):
  Calls prog 172 #[.agg #[.slice A n c],.int .u64 (a:Int)] w (cW w (x / a) (x%a) true):=
 (Rg x a A n c w hA hn ha d).mono λ_ _ ⟨A3,n3,c3,h1,h2,h3,_⟩=>⟨A3,n3,c3,h1,h2,h3⟩
attribute [local go_sem] Oper.semAt_some
theorem ZE (w:World)(t:TypeId)(a b c d:Array Value):Below w.heap.size w ((((w.alloc (.cells a t)).alloc (.cells b t)).alloc (.cells c t)).alloc (.cells d t))/\zh ((((w.alloc (.cells a t)).alloc (.cells b t)).alloc (.cells c t)).alloc (.cells d t)) w.heap.size t a/\zh ((((w.alloc (.cells a t)).alloc (.cells b t)).alloc (.cells c t)).alloc (.cells d t)) (w.heap.size+1) t b/\zh ((((w.alloc (.cells a t)).alloc (.cells b t)).alloc (.cells c t)).alloc (.cells d t)) (w.heap.size+1+1) t c/\zh ((((w.alloc (.cells a t)).alloc (.cells b t)).alloc (.cells c t)).alloc (.cells d t)) (w.heap.size+1+1+1) t d/\w.heap.size+4<=((((w.alloc (.cells a t)).alloc (.cells b t)).alloc (.cells c t)).alloc (.cells d t)).heap.size:=by
 obtain⟨b1,b2,b3,b4,b5⟩:=yF w t t t a b c;have h:=zh.new (((w.alloc (.cells a t)).alloc (.cells b t)).alloc (.cells c t)) t d;rw [YA,YA,YA] at h;exact⟨xx _ b1,b2.alloc _,b3.alloc _,b4.alloc _,h,zG⟩
theorem zh.new1 (w:World)(ob:Obj)(t:TypeId)(cs:Array Value):zh ((w.alloc ob).alloc (.cells cs t)) (w.heap.size+1) t cs:=by
 have h:=zh.new (w.alloc ob) t cs;rw [YA] at h;exact h
theorem oZ {t':TypeId}{cs:Array Value}(h:zJ w t g a n L)(hb:zh w b t' cs)(c:t≠t'):g≠b:=by
 obtain⟨cur,h0,_⟩:=h;exact h0.ne_ hb c
def OB (B0:Nat)(w:World)(ty:TypeId)(N X:Nat)(e:Ending)(w':World):Prop:=
 ∃(g:Nat) (L:List Nat),e=.returned (.slice (some ⟨g,0,none⟩) N N)/\B0<=g/\zJ w' ty g N N L/\zH 18446744073709551616 L/\dv 18446744073709551616 L=X/\Below w.heap.size w w'
theorem fk.from_ {N:Nat}{ty:TypeId}{e:Ending}(h:fk w ty N X e w')(hB:B0<=w.heap.size):OB B0 w ty N X e w':=by
 obtain⟨g,L,h1,h2,h3⟩:=h;exact⟨g,L,h1,qD hB h2,h3⟩
def Sd (w:World)(q r:Nat)(e:Ending)(w':World):Prop:=∃(A:ze) (n c:Nat) (B:ze) (m d:Nat),e=.returned (.tuple #[.agg #[.slice A n c],.agg #[.slice B m d]])/\zo w' q A n c/\zo w' r B m d/\Below w.heap.size w w'
theorem y6.row (h:y6 g w w')(hR:zJ w t b a n L)(d:b≠g):zJ w' t b a n L:=by
 obtain⟨c,h0,h1⟩:=hR;exact⟨c,h.blk h0 d,h1⟩
theorem zJ.readsB (h:zJ w t g a n L)(hb:g<B0):zL w B0 1 (some ⟨g,0,none⟩) n (zt .u64 L):=
 ⟨h.reads.1,λhn=>by
  obtain⟨ad,e,_,hc⟩:=h.reads.2 hn;cases e;exact⟨_,rfl,hb,hc⟩⟩
structure bH (X Y m n K gd gx gq b7 b8 b9 bs:Nat)(Ld:List Nat)(w:World)(k:Nat)(W:World):Prop where
 row:∃L Q,nc X Y m k K L Q/\(∀j,j<k->Q.getD j 0=0)/\zJ W 125 gx (n+1) (n+1) L/\zJ W 125 gq K K Q
 div:zJ W 125 gd m m Ld
 x7:zh W b7 48 #[.slice (some ⟨gd,0,none⟩) m m]
 x8:zh W b8 48 #[.slice (some ⟨gx,0,none⟩) (n+1) (n+1)]
 x9:zh W b9 48 #[.slice (some ⟨gq,0,none⟩) K K]
 xs:zh W bs 48 #[.slice (some ⟨gq,0,none⟩) K K]
 r4:zh W (w.heap.size+1+1) 50 #[.slice none 0 0]
 r5:zh W (w.heap.size+1+1+1) 50 #[.slice none 0 0]
 below:Below w.heap.size w W
theorem bH.own {Y K gd gx gq b7 b8 b9 bs:Nat}{Ld:List Nat}(hB:w.heap.size<=B)(k:Nat):OwnFrom B (fun(_:Unit) W=>bH X Y m n K gd gx gq b7 b8 b9 bs Ld w k W):=by
 intro _ W W' row h hg hr;obtain⟨L,Q,h1,h2,h3,h4⟩:=h.row;exact⟨⟨L,Q,h1,h2,gP h3 hg hr,gP h4 hg hr⟩,gP h.div hg hr,uZ h.x7 hg hr,uZ h.x8 hg hr,uZ h.x9 hg hr,uZ h.xs hg hr,uZ h.r4 hg hr,uZ h.r5 hg hr,bV h.below (qX _) hB hg hr⟩
theorem RH (x d:Nat)(A D:ze)(n m c ce:Nat)(w:World)(hA:zo w x A n c)(hD:zo w d D m ce)(hm:2<=m)(hmn:m<=n)(hn:n<=274877906944):
  Calls prog 173 #[.agg #[.slice A n c],.agg #[.slice D m ce]] w (Sd w (x / d) (x%d)):=by
 have cw:=hD.len;have a4:=hA.len;obtain⟨up,a2,G,y,z⟩:=mX (d:=d) (m:=m - 1) za;rw [show m - 1+1=m from by omega] at y;have hK:∃K,K=n - m+1:=⟨_,rfl⟩;obtain⟨K,hK⟩:=hK;have o:=Od (x:=x) (d:=d) (n:=n) (m:=m - 1) (k:=K) (up:=up) a4 za za;have ao:(dg 18446744073709551616 (2^up*d)).length<=m:=wP zf _ _ y;have ap:=pI (up:=up) a4 G;have HA:=zj w (λw' hb=>hA.below hb);have HD:=zj w (λw' hb=>hD.below hb);obtain⟨t,ht⟩:∃t,wd d (m - 1)=t:=⟨_,rfl⟩;have di:=wX d (m - 1);rw [ht] at di a2;have av:=λw' (hb:Below w.heap.size w w')=>jp d D m ce (m - 1) w' (HD.o w' hb);rw [ht,show((m - 1:Nat):Int)=(m:Int) - 1 from by omega] at av;have aq:=λw'=>Mc (t:Int) ⟨za,za⟩ w';rw [a2] at aq;have cr:=zb av;clear av;have cj:=zb aq;clear aq;have ag:=OX x d up;obtain⟨X,hX⟩:∃X,2^up*x=X:=⟨_,rfl⟩;obtain⟨Y,hY⟩:∃Y,2^up*d=Y:=⟨_,rfl⟩;have ar:=λw' (hb:Below w.heap.size w w')=>Vu d up m D m ce w' (HD.o w' hb) za G ao za;have ah:=λw' (hb:Below w.heap.size w w')=>Vu x up (n+1) A n c w' (HA.o w' hb) hn G ap za;rw [show((n+1:Nat):Int)=(n:Int)+1 from by omega] at ah;rw [hY] at ar y z o ag;rw [hX] at ah o ag;have ck:=zb ar;clear ar;have cl:=zb ah;clear ah;have HN:=zb ag;have HF:=zb o;have cg:=zb y;have ch:=zb z;have HK:=zb hK;clear ag cw a4 a2 y z o ao ap ht hX hY hK hA hD G;refine(callsIn_wide (n:=3)).1 ?_;refine callsIn_of_wp_marks func173 rfl trivial ?_ rfl;simp only [ntmps173,XR,xO,YN,Nat.reduceAdd,Nat.reduceSub,YI,YT,List.push_toArray,jY,yQ,YS];refine wpIn_wide.2 ?_;go_wp2_with fail;obtain⟨hB,b2,b3,k4,k5,b6⟩:=ZE w 50 #[.slice A n c] #[.slice D m ce] #[.slice none 0 0] #[.slice none 0 0];generalize hW:(((w.alloc (.cells #[.slice A n c] 50)).alloc (.cells #[.slice D m ce] 50)).alloc (.cells #[.slice none 0 0] 50)).alloc (.cells #[.slice none 0 0] 50)=W0 at*;have g2:W0.cell? ⟨w.heap.size,0,none⟩=some (.slice A n c):=b2.cell 0;have g3:W0.cell? ⟨w.heap.size+1,0,none⟩=some (.slice D m ce):=b3.cell 0;clear hW b2 b3;have C1:=zj W0 (λw' hb=>cr.o w' (zc hB hb));have i1:IntKind.i64.wrap ((m:Int) - 1)=(m:Int) - 1:=QS _ za;have u:Below W0.heap.size W0 W0.drew:=(qZ _ W0).drew;have j3:W0.drew.cell? ⟨w.heap.size+1,0,none⟩=some (.slice D m ce):=g3;obtain⟨R,hI,hE⟩:∃R:Exit->Act->World->Prop,(∀  (wc:World),Below W0.heap.size W0 wc->R .normal {tmps:=#[.agg #[.slice A n c],.agg #[.slice D m ce],.pointer (some ⟨w.heap.size,0,none⟩),.pointer (some ⟨w.heap.size+1,0,none⟩),.pointer (some ⟨w.heap.size+1+1,0,none⟩),.pointer (some ⟨w.heap.size+1+1+1,0,none⟩),.int .i64 (up:Int),undef,undef,undef,undef,.agg #[.slice D m ce],.agg #[.slice D m ce],.int .i64 (m:Int),.int .i64 ((m:Int) - 1),.int .u64 (t:Int),.int .i64 (up:Int),undef,undef,undef,undef,undef,undef,undef,undef,undef,undef,undef,undef,undef,undef,undef,undef,undef,undef,undef,undef,undef,undef,undef,undef,undef,undef,undef,undef,undef,undef,undef,undef,undef,undef,undef,undef,undef,undef,undef,undef,undef],defers:=[]} wc)/\(∀e a' wc,R e a' wc->e=.normal/\a'={tmps:=#[.agg #[.slice A n c],.agg #[.slice D m ce],.pointer (some ⟨w.heap.size,0,none⟩),.pointer (some ⟨w.heap.size+1,0,none⟩),.pointer (some ⟨w.heap.size+1+1,0,none⟩),.pointer (some ⟨w.heap.size+1+1+1,0,none⟩),.int .i64 (up:Int),undef,undef,undef,undef,.agg #[.slice D m ce],.agg #[.slice D m ce],.int .i64 (m:Int),.int .i64 ((m:Int) - 1),.int .u64 (t:Int),.int .i64 (up:Int),undef,undef,undef,undef,undef,undef,undef,undef,undef,undef,undef,undef,undef,undef,undef,undef,undef,undef,undef,undef,undef,undef,undef,undef,undef,undef,undef,undef,undef,undef,undef,undef,undef,undef,undef,undef,undef,undef,undef,undef,undef],defers:=[]}/\Below W0.heap.size W0 wc):=⟨λe a' wc=>e=.normal/\a'={tmps:=#[.agg #[.slice A n c],.agg #[.slice D m ce],.pointer (some ⟨w.heap.size,0,none⟩),.pointer (some ⟨w.heap.size+1,0,none⟩),.pointer (some ⟨w.heap.size+1+1,0,none⟩),.pointer (some ⟨w.heap.size+1+1+1,0,none⟩),.int .i64 (up:Int),undef,undef,undef,undef,.agg #[.slice D m ce],.agg #[.slice D m ce],.int .i64 (m:Int),.int .i64 ((m:Int) - 1),.int .u64 (t:Int),.int .i64 (up:Int),undef,undef,undef,undef,undef,undef,undef,undef,undef,undef,undef,undef,undef,undef,undef,undef,undef,undef,undef,undef,undef,undef,undef,undef,undef,undef,undef,undef,undef,undef,undef,undef,undef,undef,undef,undef,undef,undef,undef,undef,undef],defers:=[]}/\Below W0.heap.size W0 wc,fun  wc c0=>⟨rfl,rfl,c0⟩,λ_ _ _ h=>h⟩;have HI:=zb hI;have HE:=zb hE;clear hI hE;refine wp_mono (Q:=R) ?_ ?_
 ·go_region_held3 (fun w' => Below W0.heap.size W0 w' ∧ w'.cell? ⟨w.heap.size + 1,0,none⟩ = some (.slice D m ce))
   (first|(with_reducible exact⟨u,j3⟩)|(go_split_ands;(repeat' apply And.intro);all_goals (first|exact zl|with_reducible exact zc zl hb|with_reducible exact zq hb zl|with_reducible exact xx _ zl|with_reducible exact xx _ (xx _ zl)|with_reducible exact wi _ (wi _ zl)|with_reducible exact Below.drew (xx _ zl)|with_reducible exact(cell_drew_own _ _).trans (wi _ zl)|with_reducible exact wi _ zl|with_reducible exact zB _ (by first|(simp;done)|(simp;omega)) zl|with_reducible exact zW _ (by first|(simp;done)|(simp;omega)) zl)))
   (first
     |(go_at_call 104;(with_reducible refine(ui 0 _ _ _ _).mono ?_);rintro e w' ⟨rfl,hb⟩)
     |(go_at_call 145;(with_reducible refine(C1.o _ (by first|exact zl|exact XO zl)).mono ?_);rintro e w' ⟨rfl,hb⟩)
     |(go_at_call 183;(with_reducible refine(cj.o _).mono ?_);rintro e w' ⟨rfl,rfl⟩))
  all_goals (
   go_split_ands
   refine HI.o _ ?_
   ·exact zl)
 ·intro e a' W hr;obtain⟨rfl,rfl,r0⟩:=HE.o e a' W hr;clear hr HI HE R;have hB:=zc hB r0;obtain⟨g2,g3⟩:=xl r0 g2 g3;obtain⟨k4,k5⟩:=y5 r0 k4 k5;have b6:=qD b6 r0.size;clear r0 C1 i1 u j3;go_wp2_with fail;have C:=zj W (λw' hb=>(ck.o w' (zc hB hb)).mono (λe dm h=>fk.from_ h hb.size));have u:Below W.heap.size W W.drew:=(qZ _ W).drew;have j3:W.drew.cell? ⟨w.heap.size+1,0,none⟩=some (.slice D m ce):=g3;have ac:w.heap.size+1<W.heap.size:=xY W ⟨w.heap.size+1,0,none⟩ g3;generalize U:W=W1 at*;clear U;have bb:Below W1.heap.size W1 W1:=qZ _ _;obtain⟨R,hI,hE⟩:∃R:Exit->Act->World->Prop,(∀(b7:Nat) (gd:Nat) (Ld:List Nat) (wc:World),Below W1.heap.size W1 wc->zh wc b7 48 #[.slice (some ⟨gd,0,none⟩) (m) (m)]->zJ wc 125 gd (m) (m) Ld->W1.heap.size<=gd->zH 18446744073709551616 Ld->dv 18446744073709551616 Ld=Y->R .normal {tmps:=#[.agg #[.slice A n c],.agg #[.slice D m ce],.pointer (some ⟨w.heap.size,0,none⟩),.pointer (some ⟨w.heap.size+1,0,none⟩),.pointer (some ⟨w.heap.size+1+1,0,none⟩),.pointer (some ⟨w.heap.size+1+1+1,0,none⟩),.int .i64 (up:Int),.pointer (some ⟨b7,0,none⟩),undef,undef,undef,.agg #[.slice D m ce],.agg #[.slice D m ce],.int .i64 (m:Int),.int .i64 ((m:Int) - 1),.int .u64 (t:Int),.int .i64 (up:Int),.agg #[.slice D m ce],.int .i64 (up:Int),.agg #[.slice D m ce],.int .i64 (m:Int),.slice (some ⟨gd,0,none⟩) m m,undef,undef,undef,undef,undef,undef,undef,undef,undef,undef,undef,undef,undef,undef,undef,undef,undef,undef,undef,undef,undef,undef,undef,undef,undef,undef,undef,undef,undef,undef,undef,undef,undef,undef,undef,undef],defers:=[]} wc)/\(∀e a' wc,R e a' wc->e=.normal/\∃(b7:Nat),∃(gd:Nat),∃(Ld:List Nat),a'={tmps:=#[.agg #[.slice A n c],.agg #[.slice D m ce],.pointer (some ⟨w.heap.size,0,none⟩),.pointer (some ⟨w.heap.size+1,0,none⟩),.pointer (some ⟨w.heap.size+1+1,0,none⟩),.pointer (some ⟨w.heap.size+1+1+1,0,none⟩),.int .i64 (up:Int),.pointer (some ⟨b7,0,none⟩),undef,undef,undef,.agg #[.slice D m ce],.agg #[.slice D m ce],.int .i64 (m:Int),.int .i64 ((m:Int) - 1),.int .u64 (t:Int),.int .i64 (up:Int),.agg #[.slice D m ce],.int .i64 (up:Int),.agg #[.slice D m ce],.int .i64 (m:Int),.slice (some ⟨gd,0,none⟩) m m,undef,undef,undef,undef,undef,undef,undef,undef,undef,undef,undef,undef,undef,undef,undef,undef,undef,undef,undef,undef,undef,undef,undef,undef,undef,undef,undef,undef,undef,undef,undef,undef,undef,undef,undef,undef],defers:=[]}/\Below W1.heap.size W1 wc/\zh wc b7 48 #[.slice (some ⟨gd,0,none⟩) (m) (m)]/\zJ wc 125 gd (m) (m) Ld/\W1.heap.size<=gd/\zH 18446744073709551616 Ld/\dv 18446744073709551616 Ld=Y):=⟨λe a' wc=>e=.normal/\∃(b7:Nat),∃(gd:Nat),∃(Ld:List Nat),a'={tmps:=#[.agg #[.slice A n c],.agg #[.slice D m ce],.pointer (some ⟨w.heap.size,0,none⟩),.pointer (some ⟨w.heap.size+1,0,none⟩),.pointer (some ⟨w.heap.size+1+1,0,none⟩),.pointer (some ⟨w.heap.size+1+1+1,0,none⟩),.int .i64 (up:Int),.pointer (some ⟨b7,0,none⟩),undef,undef,undef,.agg #[.slice D m ce],.agg #[.slice D m ce],.int .i64 (m:Int),.int .i64 ((m:Int) - 1),.int .u64 (t:Int),.int .i64 (up:Int),.agg #[.slice D m ce],.int .i64 (up:Int),.agg #[.slice D m ce],.int .i64 (m:Int),.slice (some ⟨gd,0,none⟩) m m,undef,undef,undef,undef,undef,undef,undef,undef,undef,undef,undef,undef,undef,undef,undef,undef,undef,undef,undef,undef,undef,undef,undef,undef,undef,undef,undef,undef,undef,undef,undef,undef,undef,undef,undef,undef],defers:=[]}/\Below W1.heap.size W1 wc/\zh wc b7 48 #[.slice (some ⟨gd,0,none⟩) (m) (m)]/\zJ wc 125 gd (m) (m) Ld/\W1.heap.size<=gd/\zH 18446744073709551616 Ld/\dv 18446744073709551616 Ld=Y,λb7 gd Ld wc c0 c1 c2 c3 c4 c5=>⟨rfl,b7,gd,Ld,rfl,c0,c1,c2,c3,c4,c5⟩,λ_ _ _ h=>h⟩;have HI:=zb hI;have HE:=zb hE;clear hI hE;refine wp_mono (Q:=R) ?_ ?_
  ·go_region_held3 (fun w' => Below W1.heap.size W1 w' ∧ w'.cell? ⟨w.heap.size + 1,0,none⟩ = some (.slice D m ce))
    (first|(with_reducible exact⟨u,j3⟩)|(go_split_ands;(repeat' apply And.intro);all_goals (first|exact zl|with_reducible exact zc zl hb|with_reducible exact zq hb zl|with_reducible exact xx _ zl|with_reducible exact xx _ (xx _ zl)|with_reducible exact wi _ (wi _ zl)|with_reducible exact Below.drew (xx _ zl)|with_reducible exact(cell_drew_own _ _).trans (wi _ zl)|with_reducible exact wi _ zl|with_reducible exact zB _ (by first|(simp;done)|(simp;omega)) zl|with_reducible exact zW _ (by first|(simp;done)|(simp;omega)) zl)))
    (first
      |(go_at_call 104;(with_reducible refine(ui 0 _ _ _ _).mono ?_);rintro e w' ⟨rfl,hb⟩;go_split_ands;(have T:Below W1.heap.size W1 w':=zc zl hb);(have bi:=T.size);(first|(with_reducible have hz:=zg hb hz)|(with_reducible have hz:=zg hb (zh.new _ _ _))|(with_reducible have hz:=zg hb (zh.new _ _ _).drew)|skip))
      |(go_at_call 184;(with_reducible refine(C.o _ (by first|exact zl|exact XO zl)).mono ?_);rintro e w' ⟨gr,Lr,rfl,cy,s,cx,dj,hb⟩;go_split_ands;(have ct:Below W1.heap.size W1 w':=zc zl hb);(have cv:w'.cell? ⟨w.heap.size+1,0,none⟩=some (.slice D m ce):=zq hb zl);(first|(with_reducible have hz:=zg hb hz)|(with_reducible have hz:=zg hb (zh.new _ _ _))|(with_reducible have hz:=zg hb (zh.new _ _ _).drew)|skip);(try (have q1:=hz.cell 0));(try (have q2:=hz.frozen 0))))
   all_goals (
    go_split_ands
    refine HI.out _ _ Lr _ ?_ ?_ ?_ ?_ ?_ ?_
    ·exact zl
    ·(first|with_reducible exact zh.new _ _ _|exact hz.set_ 0 _)
    ·(first|with_reducible exact s.far (oZ s hz zf) _|with_reducible exact s.alloc _|with_reducible exact(s.alloc _).far (by have:=s.lt;simp;omega) _)
    ·exact zl
    ·exact zl
    ·exact zl)
  ·intro e a' W hr;obtain⟨rfl,b7,gd,Ld,rfl,r0,r1,r2,r3,r4,r5⟩:=HE.o e a' W hr;clear hr HI HE R;have hgd4:w.heap.size+4<=gd:=qD b6 r3;have hB:=zc hB r0;obtain⟨g2,g3⟩:=xl r0 g2 g3;obtain⟨k4,k5⟩:=y5 r0 k4 k5;have b6:=qD b6 r0.size;obtain⟨J,E,hgd,bd,bq⟩:=And.intro r1 (And.intro r2 (And.intro r3 (And.intro r4 r5)));clear r0 r1 r2 r3 r4 r5 C u j3 ac;go_wp2_with fail;have bf:=E.lt;have i2:IntKind.i64.wrap ((n:Int)+1)=(n:Int)+1:=QS _ za;have C:=zj W (λw' hb=>(cl.o w' (zc hB hb)).mono (λe dm h=>fk.from_ h hb.size));have u:Below W.heap.size W W.drew:=(qZ _ W).drew;have j3:W.drew.cell? ⟨w.heap.size,0,none⟩=some (.slice A n c):=g2;have ac:w.heap.size<W.heap.size:=xY W ⟨w.heap.size,0,none⟩ g2;generalize U:W=W1 at*;clear U;have bb:Below W1.heap.size W1 W1:=qZ _ _;obtain⟨R,hI,hE⟩:∃R:Exit->Act->World->Prop,(∀(b8:Nat) (gx:Nat) (Lx:List Nat) (wc:World),Below W1.heap.size W1 wc->zh wc b8 48 #[.slice (some ⟨gx,0,none⟩) (n+1) (n+1)]->zJ wc 125 gx (n+1) (n+1) Lx->W1.heap.size<=gx->zH 18446744073709551616 Lx->dv 18446744073709551616 Lx=X->R .normal {tmps:=#[.agg #[.slice A n c],.agg #[.slice D m ce],.pointer (some ⟨w.heap.size,0,none⟩),.pointer (some ⟨w.heap.size+1,0,none⟩),.pointer (some ⟨w.heap.size+1+1,0,none⟩),.pointer (some ⟨w.heap.size+1+1+1,0,none⟩),.int .i64 (up:Int),.pointer (some ⟨b7,0,none⟩),.pointer (some ⟨b8,0,none⟩),undef,undef,.agg #[.slice D m ce],.agg #[.slice D m ce],.int .i64 (m:Int),.int .i64 ((m:Int) - 1),.int .u64 (t:Int),.int .i64 (up:Int),.agg #[.slice D m ce],.int .i64 (up:Int),.agg #[.slice D m ce],.int .i64 (m:Int),.slice (some ⟨gd,0,none⟩) m m,.agg #[.slice A n c],.int .i64 (up:Int),.agg #[.slice A n c],.int .i64 (n:Int),.int .i64 ((n:Int)+1),.slice (some ⟨gx,0,none⟩) (n+1) (n+1),undef,undef,undef,undef,undef,undef,undef,undef,undef,undef,undef,undef,undef,undef,undef,undef,undef,undef,undef,undef,undef,undef,undef,undef,undef,undef,undef,undef,undef,undef],defers:=[]} wc)/\(∀e a' wc,R e a' wc->e=.normal/\∃(b8:Nat),∃(gx:Nat),∃(Lx:List Nat),a'={tmps:=#[.agg #[.slice A n c],.agg #[.slice D m ce],.pointer (some ⟨w.heap.size,0,none⟩),.pointer (some ⟨w.heap.size+1,0,none⟩),.pointer (some ⟨w.heap.size+1+1,0,none⟩),.pointer (some ⟨w.heap.size+1+1+1,0,none⟩),.int .i64 (up:Int),.pointer (some ⟨b7,0,none⟩),.pointer (some ⟨b8,0,none⟩),undef,undef,.agg #[.slice D m ce],.agg #[.slice D m ce],.int .i64 (m:Int),.int .i64 ((m:Int) - 1),.int .u64 (t:Int),.int .i64 (up:Int),.agg #[.slice D m ce],.int .i64 (up:Int),.agg #[.slice D m ce],.int .i64 (m:Int),.slice (some ⟨gd,0,none⟩) m m,.agg #[.slice A n c],.int .i64 (up:Int),.agg #[.slice A n c],.int .i64 (n:Int),.int .i64 ((n:Int)+1),.slice (some ⟨gx,0,none⟩) (n+1) (n+1),undef,undef,undef,undef,undef,undef,undef,undef,undef,undef,undef,undef,undef,undef,undef,undef,undef,undef,undef,undef,undef,undef,undef,undef,undef,undef,undef,undef,undef,undef],defers:=[]}/\Below W1.heap.size W1 wc/\zh wc b8 48 #[.slice (some ⟨gx,0,none⟩) (n+1) (n+1)]/\zJ wc 125 gx (n+1) (n+1) Lx/\W1.heap.size<=gx/\zH 18446744073709551616 Lx/\dv 18446744073709551616 Lx=X):=⟨λe a' wc=>e=.normal/\∃(b8:Nat),∃(gx:Nat),∃(Lx:List Nat),a'={tmps:=#[.agg #[.slice A n c],.agg #[.slice D m ce],.pointer (some ⟨w.heap.size,0,none⟩),.pointer (some ⟨w.heap.size+1,0,none⟩),.pointer (some ⟨w.heap.size+1+1,0,none⟩),.pointer (some ⟨w.heap.size+1+1+1,0,none⟩),.int .i64 (up:Int),.pointer (some ⟨b7,0,none⟩),.pointer (some ⟨b8,0,none⟩),undef,undef,.agg #[.slice D m ce],.agg #[.slice D m ce],.int .i64 (m:Int),.int .i64 ((m:Int) - 1),.int .u64 (t:Int),.int .i64 (up:Int),.agg #[.slice D m ce],.int .i64 (up:Int),.agg #[.slice D m ce],.int .i64 (m:Int),.slice (some ⟨gd,0,none⟩) m m,.agg #[.slice A n c],.int .i64 (up:Int),.agg #[.slice A n c],.int .i64 (n:Int),.int .i64 ((n:Int)+1),.slice (some ⟨gx,0,none⟩) (n+1) (n+1),undef,undef,undef,undef,undef,undef,undef,undef,undef,undef,undef,undef,undef,undef,undef,undef,undef,undef,undef,undef,undef,undef,undef,undef,undef,undef,undef,undef,undef,undef],defers:=[]}/\Below W1.heap.size W1 wc/\zh wc b8 48 #[.slice (some ⟨gx,0,none⟩) (n+1) (n+1)]/\zJ wc 125 gx (n+1) (n+1) Lx/\W1.heap.size<=gx/\zH 18446744073709551616 Lx/\dv 18446744073709551616 Lx=X,λb8 gx Lx wc c0 c1 c2 c3 c4 c5=>⟨rfl,b8,gx,Lx,rfl,c0,c1,c2,c3,c4,c5⟩,λ_ _ _ h=>h⟩;have HI:=zb hI;have HE:=zb hE;clear hI hE;refine wp_mono (Q:=R) ?_ ?_
   ·go_region_held3 (fun w' => Below W1.heap.size W1 w' ∧ w'.cell? ⟨w.heap.size,0,none⟩ = some (.slice A n c))
     (first|(with_reducible exact⟨u,j3⟩)|(go_split_ands;(repeat' apply And.intro);all_goals (first|exact zl|with_reducible exact zc zl hb|with_reducible exact zq hb zl|with_reducible exact xx _ zl|with_reducible exact xx _ (xx _ zl)|with_reducible exact wi _ (wi _ zl)|with_reducible exact Below.drew (xx _ zl)|with_reducible exact(cell_drew_own _ _).trans (wi _ zl)|with_reducible exact wi _ zl|with_reducible exact zB _ (by first|(simp;done)|(simp;omega)) zl|with_reducible exact zW _ (by first|(simp;done)|(simp;omega)) zl)))
     (first
       |(go_at_call 104;(with_reducible refine(ui 0 _ _ _ _).mono ?_);rintro e w' ⟨rfl,hb⟩;go_split_ands;(have T:Below W1.heap.size W1 w':=zc zl hb);(have bi:=T.size);(first|(with_reducible have hz:=zg hb hz)|(with_reducible have hz:=zg hb (zh.new _ _ _))|(with_reducible have hz:=zg hb (zh.new _ _ _).drew)|skip))
       |(go_at_call 184;(with_reducible refine(C.o _ (by first|exact zl|exact XO zl)).mono ?_);rintro e w' ⟨gr,Lr,rfl,cy,s,cx,dj,hb⟩;go_split_ands;(have ct:Below W1.heap.size W1 w':=zc zl hb);(have cv:w'.cell? ⟨w.heap.size,0,none⟩=some (.slice A n c):=zq hb zl);(first|(with_reducible have hz:=zg hb hz)|(with_reducible have hz:=zg hb (zh.new _ _ _))|(with_reducible have hz:=zg hb (zh.new _ _ _).drew)|skip);(try (have q1:=hz.cell 0));(try (have q2:=hz.frozen 0))))
    all_goals (
     go_split_ands
     refine HI.out _ _ Lr _ ?_ ?_ ?_ ?_ ?_ ?_
     ·exact zl
     ·(first|with_reducible exact zh.new _ _ _|exact hz.set_ 0 _)
     ·(first|with_reducible exact s.far (oZ s hz zf) _|with_reducible exact s.alloc _|with_reducible exact(s.alloc _).far (by have:=s.lt;simp;omega) _)
     ·exact zl
     ·exact zl
     ·exact zl)
   ·intro e a' W hr;obtain⟨rfl,b8,gx,Lx,rfl,r0,r1,r2,r3,r4,r5⟩:=HE.o e a' W hr;clear hr HI HE R;have bw:gd<gx:=qJ bf r3;have hB:=zc hB r0;obtain⟨g2,g3⟩:=xl r0 g2 g3;obtain⟨k4,k5⟩:=y5 r0 k4 k5;have b6:=qD b6 r0.size;have J:=zg r0 J;have E:=E.keep r0;obtain⟨ai,I,hgx,be,br⟩:=And.intro r1 (And.intro r2 (And.intro r3 (And.intro r4 r5)));clear r0 r1 r2 r3 r4 r5 C u j3 ac;go_wp2_with fail;have bg:=I.lt;obtain⟨i0,bh,bz,b0,b1⟩:=info_parts o6;obtain⟨Z,hZ⟩:∃Z,madeCells (Value.cells (.int .u64 0)) K=Z:=⟨_,rfl⟩;have a9:(n:Int) - (m:Int)+1=(K:Int):=by have:=HK.o;omega
    have dc:∀W:World,(Instr.makeSlice 48 (.int .i64 ((n:Int) - (m:Int)+1)) (.int .i64 ((n:Int) - (m:Int)+1))).run prog W=.ok (.slice (some ⟨W.heap.size,0,none⟩) K K) (W.alloc (.cells Z 125)):=λW=>by
     have h:=sV _ _ i0 _ underlying48 bh bz .i64 .i64 K K (qX _) (by rw [b1];have:=HK.o;omega) (by have:=HK.o;omega) W;rw [b0,xS,hZ] at h;rw [a9];exact h
    have P:=zb (λW:World=>by have h:=zJ.made W 125 K (by have:=HK.o;unfold maxLen;omega);rw [hZ] at h;exact h);have an:=zb (fun(W:World) (ob:Obj)=>by have h:=P.o (W.alloc ob);rw [YA] at h;exact h);clear hZ a9 bh bz b0 b1;have i3:IntKind.i64.wrap ((n:Int) - (m:Int))=(n:Int) - (m:Int):=QS _ za;have i4:IntKind.i64.wrap ((n:Int) - (m:Int)+1)=(n:Int) - (m:Int)+1:=QS _ za;have u:Below W.heap.size W W.drew:=(qZ _ W).drew;have j2:W.drew.cell? ⟨w.heap.size,0,none⟩=some (.slice A n c):=g2;have j3:W.drew.cell? ⟨w.heap.size+1,0,none⟩=some (.slice D m ce):=g3;have ac:w.heap.size+1<W.heap.size:=xY W ⟨w.heap.size+1,0,none⟩ g3;generalize U:W=W1 at*;clear U;have bb:Below W1.heap.size W1 W1:=qZ _ _;obtain⟨R,hI,hE⟩:∃R:Exit->Act->World->Prop,(∀(b9:Nat) (gq:Nat) (wc:World),Below W1.heap.size W1 wc->zh wc b9 48 #[.slice (some ⟨gq,0,none⟩) K K]->zJ wc 125 gq K K (List.replicate K 0)->W1.heap.size<=gq->R .normal {tmps:=#[.agg #[.slice A n c],.agg #[.slice D m ce],.pointer (some ⟨w.heap.size,0,none⟩),.pointer (some ⟨w.heap.size+1,0,none⟩),.pointer (some ⟨w.heap.size+1+1,0,none⟩),.pointer (some ⟨w.heap.size+1+1+1,0,none⟩),.int .i64 (up:Int),.pointer (some ⟨b7,0,none⟩),.pointer (some ⟨b8,0,none⟩),.pointer (some ⟨b9,0,none⟩),undef,.agg #[.slice D m ce],.agg #[.slice D m ce],.int .i64 (m:Int),.int .i64 ((m:Int) - 1),.int .u64 (t:Int),.int .i64 (up:Int),.agg #[.slice D m ce],.int .i64 (up:Int),.agg #[.slice D m ce],.int .i64 (m:Int),.slice (some ⟨gd,0,none⟩) m m,.agg #[.slice A n c],.int .i64 (up:Int),.agg #[.slice A n c],.int .i64 (n:Int),.int .i64 ((n:Int)+1),.slice (some ⟨gx,0,none⟩) (n+1) (n+1),.agg #[.slice A n c],.int .i64 (n:Int),.agg #[.slice D m ce],.int .i64 (m:Int),.int .i64 ((n:Int) - (m:Int)),.int .i64 ((n:Int) - (m:Int)+1),.slice (some ⟨gq,0,none⟩) K K,undef,undef,undef,undef,undef,undef,undef,undef,undef,undef,undef,undef,undef,undef,undef,undef,undef,undef,undef,undef,undef,undef,undef],defers:=[]} wc)/\(∀e a' wc,R e a' wc->e=.normal/\∃(b9:Nat),∃(gq:Nat),a'={tmps:=#[.agg #[.slice A n c],.agg #[.slice D m ce],.pointer (some ⟨w.heap.size,0,none⟩),.pointer (some ⟨w.heap.size+1,0,none⟩),.pointer (some ⟨w.heap.size+1+1,0,none⟩),.pointer (some ⟨w.heap.size+1+1+1,0,none⟩),.int .i64 (up:Int),.pointer (some ⟨b7,0,none⟩),.pointer (some ⟨b8,0,none⟩),.pointer (some ⟨b9,0,none⟩),undef,.agg #[.slice D m ce],.agg #[.slice D m ce],.int .i64 (m:Int),.int .i64 ((m:Int) - 1),.int .u64 (t:Int),.int .i64 (up:Int),.agg #[.slice D m ce],.int .i64 (up:Int),.agg #[.slice D m ce],.int .i64 (m:Int),.slice (some ⟨gd,0,none⟩) m m,.agg #[.slice A n c],.int .i64 (up:Int),.agg #[.slice A n c],.int .i64 (n:Int),.int .i64 ((n:Int)+1),.slice (some ⟨gx,0,none⟩) (n+1) (n+1),.agg #[.slice A n c],.int .i64 (n:Int),.agg #[.slice D m ce],.int .i64 (m:Int),.int .i64 ((n:Int) - (m:Int)),.int .i64 ((n:Int) - (m:Int)+1),.slice (some ⟨gq,0,none⟩) K K,undef,undef,undef,undef,undef,undef,undef,undef,undef,undef,undef,undef,undef,undef,undef,undef,undef,undef,undef,undef,undef,undef,undef],defers:=[]}/\Below W1.heap.size W1 wc/\zh wc b9 48 #[.slice (some ⟨gq,0,none⟩) K K]/\zJ wc 125 gq K K (List.replicate K 0)/\W1.heap.size<=gq):=⟨λe a' wc=>e=.normal/\∃(b9:Nat),∃(gq:Nat),a'={tmps:=#[.agg #[.slice A n c],.agg #[.slice D m ce],.pointer (some ⟨w.heap.size,0,none⟩),.pointer (some ⟨w.heap.size+1,0,none⟩),.pointer (some ⟨w.heap.size+1+1,0,none⟩),.pointer (some ⟨w.heap.size+1+1+1,0,none⟩),.int .i64 (up:Int),.pointer (some ⟨b7,0,none⟩),.pointer (some ⟨b8,0,none⟩),.pointer (some ⟨b9,0,none⟩),undef,.agg #[.slice D m ce],.agg #[.slice D m ce],.int .i64 (m:Int),.int .i64 ((m:Int) - 1),.int .u64 (t:Int),.int .i64 (up:Int),.agg #[.slice D m ce],.int .i64 (up:Int),.agg #[.slice D m ce],.int .i64 (m:Int),.slice (some ⟨gd,0,none⟩) m m,.agg #[.slice A n c],.int .i64 (up:Int),.agg #[.slice A n c],.int .i64 (n:Int),.int .i64 ((n:Int)+1),.slice (some ⟨gx,0,none⟩) (n+1) (n+1),.agg #[.slice A n c],.int .i64 (n:Int),.agg #[.slice D m ce],.int .i64 (m:Int),.int .i64 ((n:Int) - (m:Int)),.int .i64 ((n:Int) - (m:Int)+1),.slice (some ⟨gq,0,none⟩) K K,undef,undef,undef,undef,undef,undef,undef,undef,undef,undef,undef,undef,undef,undef,undef,undef,undef,undef,undef,undef,undef,undef,undef],defers:=[]}/\Below W1.heap.size W1 wc/\zh wc b9 48 #[.slice (some ⟨gq,0,none⟩) K K]/\zJ wc 125 gq K K (List.replicate K 0)/\W1.heap.size<=gq,λb9 gq wc c0 c1 c2 c3=>⟨rfl,b9,gq,rfl,c0,c1,c2,c3⟩,λ_ _ _ h=>h⟩;have HI:=zb hI;have HE:=zb hE;clear hI hE;refine wp_mono (Q:=R) ?_ ?_
    ·go_region_held3 (fun w' => Below W1.heap.size W1 w' ∧ w'.cell? ⟨w.heap.size,0,none⟩ = some (.slice A n c) ∧ w'.cell? ⟨w.heap.size + 1,0,none⟩ = some (.slice D m ce))
      (first|(with_reducible exact⟨u,j2,j3⟩)|(go_split_ands;(repeat' apply And.intro);all_goals (first|exact zl|with_reducible exact zc zl hb|with_reducible exact zq hb zl|with_reducible exact xx _ zl|with_reducible exact xx _ (xx _ zl)|with_reducible exact wi _ (wi _ zl)|with_reducible exact Below.drew (xx _ zl)|with_reducible exact(cell_drew_own _ _).trans (wi _ zl)|with_reducible exact wi _ zl|with_reducible exact zB _ (by first|(simp;done)|(simp;omega)) zl|with_reducible exact zW _ (by first|(simp;done)|(simp;omega)) zl)))
      (first
        |(go_at_call 104;(with_reducible refine(ui 0 _ _ _ _).mono ?_);rintro e w' ⟨rfl,hb⟩;go_split_ands;(have T:Below W1.heap.size W1 w':=zc zl hb);(have bi:=T.size);(have hc0:w'.cell? ⟨w.heap.size,0,none⟩=some (.slice A n c):=zq hb zl);(have hc1:w'.cell? ⟨w.heap.size+1,0,none⟩=some (.slice D m ce):=zq hb zl);  (first|(with_reducible have hz:=zg hb hz)|(with_reducible have hz:=zg hb (zh.new _ _ _))|(with_reducible have hz:=zg hb (zh.new _ _ _).drew)|skip);(try (have q1:=λob=>wi ob (hz.cell 0)));(try (have q2:=λob=>(hz.alloc ob).frozen 0))))
     all_goals (
      go_split_ands
      refine HI.out _ _ _ ?_ ?_ ?_ ?_
      ·exact zl
      ·(first|(with_reducible exact zh.new1 _ _ _ _)|(with_reducible exact(zh.new _ _ _).alloc _)|exact(hz.alloc _).set_ 0 _)
      ·(first|(with_reducible exact(P.o _).alloc _)|(with_reducible exact an.o _ _)|exact(P.o _).far (oZ (P.o _) (hz.alloc _) zf) _)
      ·(first|omega|(simp;omega)))
    ·intro e a' W hr;obtain⟨rfl,b9,gq,rfl,r0,r1,r2,r3⟩:=HE.o e a' W hr;clear hr HI HE R;have hqx:gx<gq:=qJ bg r3;have hB:=zc hB r0;obtain⟨g2,g3⟩:=xl r0 g2 g3;obtain⟨k4,k5⟩:=y5 r0 k4 k5;have b6:=qD b6 r0.size;obtain⟨J,ai⟩:=y5 r0 J ai;have E:=E.keep r0;have I:=I.keep r0;obtain⟨ay,au,hgq⟩:=And.intro r1 (And.intro r2 r3);clear r0 r1 r2 r3 u j2 j3 ac dc P an i3 i4 i2;have q9:W.cell? ⟨b9,0,none⟩=some (.slice (some ⟨gq,0,none⟩) K K):=ay.cell 0;go_wp2_with fail;have b4:=zh.new W 48 #[.slice (some ⟨gq,0,none⟩) K K];refine(Z3 (some ⟨gq,0,none⟩) K K _).mono ?_;rintro e w2 ⟨rfl,a3⟩;have H0:=zb (show bH X Y m n K gd gx gq b7 b8 b9 W.heap.size Ld w K w2 by
      rw [<-a3];have af:=HK.o;exact⟨⟨Lx,List.replicate K 0,nc.start (by rw [I.len];omega) be br HF.o,λj _=>by simp [qQ,List.getElem?_replicate];split<;>rfl,I.alloc _,au.alloc _⟩,E.alloc _,J.alloc _,ai.alloc _,ay.alloc _,b4,k4.alloc _,k5.alloc _,xx _ hB⟩)
     have cs:w.heap.size<=w2.heap.size:=by rw [<-a3];have:=hB.size;simp;omega
     go_wp2_with fail;obtain⟨bs,aw⟩:∃g,W.heap.size=g:=⟨_,rfl⟩;rw [aw] at H0⊢;have hgq2:gq<bs:=by rw [<-aw];exact au.lt
     have hq3:w.heap.size+1+1+1<gd:=za;have a7:=zb bd;have ae:=zb bq;clear a3 b4 aw I E au J ai ay k4 k5 hB q9 g2 g3 bd be bq br;refine(wpIn_wide (n:=3)).1 ?_;refine Ug (gf:=187) (lb:=#[.pointer (some ⟨bs,0,none⟩)]) rfl (enters_of func187 zU rfl) K (fun k => #[.int .i64 (k : Int),.int .u64 ((0 : Nat) : Int)]) (fun _ => rfl)
      (λk W=>bH X Y m n K gd gx gq b7 b8 b9 bs Ld w k W) (λk=>bH.own cs k) H0.o
      (Vb bs K K (some ⟨gq,0,none⟩) (λ_=>0) _ (by have:=HK.o;omega) (λk W h=>h.xs.cell 0) ?cells)
      (λk=>{tmps:=#[.agg #[.slice A n c],.agg #[.slice D m ce],.pointer (some ⟨w.heap.size,0,none⟩),.pointer (some ⟨w.heap.size+1,0,none⟩),.pointer (some ⟨w.heap.size+1+1,0,none⟩),.pointer (some ⟨w.heap.size+1+1+1,0,none⟩),.int .i64 (up:Int),.pointer (some ⟨b7,0,none⟩),.pointer (some ⟨b8,0,none⟩),.pointer (some ⟨b9,0,none⟩),.int .i64 (k:Int),.agg #[.slice D m ce],.agg #[.slice D m ce],.int .i64 (m:Int),.int .i64 ((m:Int) - 1),.int .u64 (t:Int),.int .i64 (up:Int),.agg #[.slice D m ce],.int .i64 (up:Int),.agg #[.slice D m ce],.int .i64 (m:Int),.slice (some ⟨gd,0,none⟩) m m,.agg #[.slice A n c],.int .i64 (up:Int),.agg #[.slice A n c],.int .i64 (n:Int),.int .i64 ((n:Int)+1),.slice (some ⟨gx,0,none⟩) (n+1) (n+1),.agg #[.slice A n c],.int .i64 (n:Int),.agg #[.slice D m ce],.int .i64 (m:Int),.int .i64 ((n:Int) - (m:Int)),.int .i64 ((n:Int) - (m:Int)+1),.slice (some ⟨gq,0,none⟩) K K,.slice (some ⟨gq,0,none⟩) K K,.func (.func 187) #[] #[.pointer (some ⟨bs,0,none⟩)],.int .i64 (k:Int),.int .u64 0,undef,undef,undef,undef,undef,undef,undef,undef,undef,undef,undef,undef,undef,undef,undef,undef,undef,undef,undef],defers:=[]}) ?assign ?body ?done
     case cells=>
      intro k W hk h;obtain⟨L,Q,_,h2,_,h4⟩:=h.row;refine⟨_,rfl,?_⟩;rw [Wx,h4.cell k hk,h2 k za]
     case assign=>
      intro l k W K hK
      gi_wp2
      exact hK
     case body=>
      intro l k W hk h;have kd:=h.div;have k7:=h.x7;have k8:=h.x8;have k9:=h.x9;have ks:=h.xs;have k4:=h.r4;have k5:=h.r5;have V:=h.below;obtain⟨L,Q,h1,h2,h3,h4⟩:=h.row;clear h;obtain⟨pA,p,pC,rfl,bj,bl,de,df,az,dd⟩:=h1.cut hk cg.o;have ba:0<Y:=by
       have e:=ae.o;rcases xQ Y with e0|e0
       ·rw [e0,yD] at az;omega
       ·exact e0
      have c7:W.cell? ⟨b7,0,none⟩=some (.slice (some ⟨gd,0,none⟩) m m):=k7.cell 0;have c8:W.cell? ⟨b8,0,none⟩=some (.slice (some ⟨gx,0,none⟩) (n+1) (n+1)):=k8.cell 0;have c9:W.cell? ⟨b9,0,none⟩=some (.slice (some ⟨gq,0,none⟩) K K):=k9.cell 0;have n7:gx≠b7/\gq≠b7:=⟨oZ h3 k7 zf,oZ h4 k7 zf⟩;have n8:gx≠b8/\gq≠b8:=⟨oZ h3 k8 zf,oZ h4 k8 zf⟩;have n9:gx≠b9/\gq≠b9:=⟨oZ h3 k9 zf,oZ h4 k9 zf⟩;have ns:gx≠bs/\gq≠bs:=⟨oZ h3 ks zf,oZ h4 ks zf⟩;obtain⟨ca,b5⟩:=n7;obtain⟨cc,cb⟩:=n8;obtain⟨cf,cd⟩:=n9;obtain⟨dl,dk⟩:=ns;have af:=HK.o;have ab:=RI 125 gx (n+1) (n+1) k m (n+1 - k) m ⟨gd,0,none⟩ pA p pC Ld W.drew h3 bj bl de (kd.readsB bw) a7.o hm za za za (qX _) za (pJ (m:=m - 1) (by rw [kd.len];omega) a7.o ae.o ch.o) (by rw [ae.o];exact az);unfold nM at ab;rw [ae.o] at ab;obtain⟨tq,a1⟩:∃t,dv 18446744073709551616 p / Y=t:=⟨_,rfl⟩;rw [a1] at ab;have cq:=zb a1;have cp:=zb ab;clear ab df a1;have i1:(0:Int)<=(k:Int):=za;have i2:(k:Int)<(K:Int):=za;have i3:IntKind.i64.wrap ((k:Int)+(m:Int))=(k:Int)+(m:Int):=QS _ za;have i4:IntKind.i64.wrap ((k:Int)+(m:Int)+1)=(k:Int)+(m:Int)+1:=QS _ za;have i5:(k:Int)<=(k:Int)+(m:Int)+1:=za;have i6:(k:Int)+(m:Int)+1<=(n:Int)+1:=za;have i7:(0:Int)<=(k:Int)+(m:Int)+1:=za;have i8:¬(n+1=k):=za;have i9:((k:Int)+(m:Int)+1).toNat - k=m+1:=za;clear af;refine wpIn_block ?_;refine Vl (S:=(λw'=>w'.cell? ⟨b7,0,none⟩=some (.slice (some ⟨gd,0,none⟩) m m)/\w'.cell? ⟨b8,0,none⟩=some (.slice (some ⟨gx,0,none⟩) (n+1) (n+1))/\w'.cell? ⟨b9,0,none⟩=some (.slice (some ⟨gq,0,none⟩) K K))) zU zU (λ_ _ h=>by cases h.1) ?_ (λhHeld=>?_)
      ·exact⟨c7,c8,c9⟩
      refine yq 0 (v:=?_) ?_ ?_
      rotate_left
      focus ((intro w a;(try dsimp only at a);go_simp);(try with_reducible rfl))
      try simp only [Act.put,qU,qP,qR]
      refine yq 1 (v:=?_) ?_ ?_
      rotate_left
      focus ((intro w a;(try dsimp only at a);go_simp);(try with_reducible rfl))
      try simp only [Act.put,qU,qP,qR]
      refine yq 2 (v:=?_) ?_ ?_
      rotate_left
      focus ((intro w a;(try dsimp only at a);go_simp);(try with_reducible rfl))
      try simp only [Act.put,qU,qP,qR]
      refine yq 3 (v:=?_) ?_ ?_
      rotate_left
      focus ((intro w a;(try dsimp only at a);go_simp);(try with_reducible rfl))
      try simp only [Act.put,qU,qP,qR]
      refine yq 4 (v:=?_) ?_ ?_
      rotate_left
      focus ((intro w a;(try dsimp only at a);go_simp);(try with_reducible rfl))
      try simp only [Act.put,qU,qP,qR]
      refine yq 5 (v:=?_) ?_ ?_
      rotate_left
      focus ((intro w a;(try dsimp only at a);go_simp);(try with_reducible rfl))
      try simp only [Act.put,qU,qP,qR]
      refine yq 6 (v:=?_) ?_ ?_
      rotate_left
      focus ((intro w a;(try dsimp only at a);go_simp);(try with_reducible rfl))
      try simp only [Act.put,qU,qP,qR]
      refine yq 7 (v:=?_) ?_ ?_
      rotate_left
      focus ((intro w a;(try dsimp only at a);go_simp);(try with_reducible rfl))
      try simp only [Act.put,qU,qP,qR]
      refine yq 8 (v:=?_) ?_ ?_
      rotate_left
      focus ((intro w a;(try dsimp only at a);go_simp);(try with_reducible rfl))
      try simp only [Act.put,qU,qP,qR]
      refine yq 9 (v:=?_) ?_ ?_
      rotate_left
      focus ((intro w a;(try dsimp only at a);go_simp);(try with_reducible rfl))
      try simp only [Act.put,qU,qP,qR]
      refine yq 10 (v:=?_) ?_ ?_
      rotate_left
      focus ((intro w a;(try dsimp only at a);go_simp);(try with_reducible rfl))
      try simp only [Act.put,qU,qP,qR]
      refine wpAnyH_ready (rs:=[11]) zU zG ?_;refine tv (λK hK=>?_);go_simp;refine cp.o.mono ?_;rintro e w2 ⟨p',rfl,bm,bk,bn,cu,hO⟩;have a0:=h4.drew;have cq2:=hO.cell (a0.cell k hk) (by show gq≠gx;omega);have fq2:w2.frozen? ⟨gq,k,none⟩=false:=(World.frozen?_of_block (hO.block gq a0.lt (by intro h;injection h;omega))).trans (a0.frozen k);refine hK.out _ _ ?_ (λhHeld=>?_)
      ·((try dsimp only);exact⟨hO.cell hHeld.1 (λh=>ca h.symm),hO.cell hHeld.2.1 (λh=>cc h.symm),hO.cell hHeld.2.2 (λh=>cf h.symm)⟩)
      clear hK K
      try simp only [Act.put,qU,qP,qR]
      refine yq 12 (v:=?_) ?_ ?_
      rotate_left
      focus ((intro w a;(try dsimp only at a);go_simp);(try with_reducible rfl))
      try simp only [Act.put,qU,qP,qR]
      refine wpAnyH_ready (rs:=[13]) zU zG ?_;refine tv (λK hK=>?_);go_simp;refine hK.out _ _ ?_ (λhHeld=>?_)
      ·((try dsimp only);exact⟨zW _ (λh=>b5 h.symm) hHeld.1,zW _ (λh=>cb h.symm) hHeld.2.1,zW _ (λh=>cd h.symm) hHeld.2.2⟩)
      clear hK K
      try simp only [Act.put,qU,qP,qR]
      refine wpAnyH_done zU ?_ _;have cz:KeepsOthers W.drew w2:=KeepsOthers.of_grownBy hO (λj ob e ho=>by
       injection e with e;subst e;obtain⟨cur,hb,_⟩:=h3;rw [show W.drew.heap[gx]?=_ from hb] at ho;cases ho;rfl)
      have dh:dv 18446744073709551616 p / Y<18446744073709551616:=(QM ba).2 az;have bp:=h1.step bj bl dd hk bm bk bn dh ba;rw [cq.o] at bp;have hle:=qJ bw (qX gx);refine⟨rfl,((KeepsOthers.drew W).trans cz).trans (KeepsOthers.setCell _ _ _),?_⟩;exact ⟨⟨_,_,bp,fun j hj => by rw [qQ,XJ za,← qQ]; exact h2 j za,cu.far (p:=⟨gq,k,none⟩) (by show gx ≠ gq; omega) _,(hO.row h4.drew za).set_ k tq hk⟩,
       (hO.row kd.drew za).far (p:=⟨gq,k,none⟩) (by show gd≠gq;omega) _,
       (hO.blk k7.drew (λh=>ca h.symm)).far (p:=⟨gq,k,none⟩) (λh=>b5 h.symm) _,(hO.blk k8.drew (λh=>cc h.symm)).far (p:=⟨gq,k,none⟩) (λh=>cb h.symm) _,
       (hO.blk k9.drew (λh=>cf h.symm)).far (p:=⟨gq,k,none⟩) (λh=>cd h.symm) _,(hO.blk ks.drew (λh=>dl h.symm)).far (p:=⟨gq,k,none⟩) (λh=>dk h.symm) _,
       (hO.blk k4.drew za).far (p:=⟨gq,k,none⟩) (by show w.heap.size+1+1≠gq;omega) _,(hO.blk k5.drew za).far (p:=⟨gq,k,none⟩) (by show w.heap.size+1+1+1≠gq;omega) _,
       (hO.below V.drew V.size za).setCell (p:=⟨gq,k,none⟩) (by show w.heap.size<=gq;omega) _⟩
     case done=>
      intro D0 W hD h hK;have k4:=h.r4;have k5:=h.r5;have V:=h.below;have c8:W.cell? ⟨b8,0,none⟩=some (.slice (some ⟨gx,0,none⟩) (n+1) (n+1)):=h.x8.cell 0;have c9:W.cell? ⟨b9,0,none⟩=some (.slice (some ⟨gq,0,none⟩) K K):=h.x9.cell 0;obtain⟨m8,m8'⟩:b8≠w.heap.size+1+1/\b8≠w.heap.size+1+1+1:=⟨h.x8.ne_ k4 zf,h.x8.ne_ k5 zf⟩;obtain⟨m9,m9'⟩:b9≠w.heap.size+1+1/\b9≠w.heap.size+1+1+1:=⟨h.x9.ne_ k4 zf,h.x9.ne_ k5 zf⟩;obtain⟨L,Q,h1,_,h3,h4⟩:=h.row;obtain⟨hq,hr⟩:=h1.done;have af:=HK.o;have N:=tK (some ⟨gq,0,none⟩) K K Q W.drew h4.drew.reads h1.qdgs (qX _) za za;have O:=λw' (hb:Below W.drew.heap.size W.drew w')=>tK (some ⟨gx,0,none⟩) (n+1) (n+1) L w' ((h3.drew.reads.below hb).more hb.size) h1.dgs (qX _) za za;have aj:=vy h1.dgs;rw [hq] at N;rw [hr] at O aj;obtain⟨xq,a5⟩:∃q,X / Y=q:=⟨_,rfl⟩;obtain⟨xr,a6⟩:∃q,X%Y=q:=⟨_,rfl⟩;rw [a5] at N;rw [a6] at O aj;have bo:(dg 18446744073709551616 xr).length<=n+1:=by
       refine wP zf _ _ (qJ aj (qG zf ?_));rw [h1.len];omega
      have HS:=λw' (B k c) (hw:zo w' xr B k c)=>VG xr up B k c w' hw (by have:=hw.len;omega);have F:=HN.o;rw [a5,a6] at F;obtain⟨yr,bx⟩:∃q,xr / 2^up=q:=⟨_,rfl⟩;rw [bx] at HS F;have N:=zb N;have O:=zb O;have co:=zb HS;have am:=zb F;have ci:=zb hK;have c6:D0<W.heap.size:=(Array.getElem?_eq_some_iff.1 hK).1;clear h h1 h3 h4 hq hr af HS F hK aj bo a5 a6 bx H0
      rename_i hO1u hO2u
      clear hO2u hO1u;go_wp2_with fail;have j8:W.drew.cell? ⟨b8,0,none⟩=some (.slice (some ⟨gx,0,none⟩) (n+1) (n+1)):=c8;have j9:W.drew.cell? ⟨b9,0,none⟩=some (.slice (some ⟨gq,0,none⟩) K K):=c9
      go_region_held3 (fun w' => w'.cell? ⟨b8,0,none⟩ = some (.slice (some ⟨gx,0,none⟩) (n + 1) (n + 1)) ∧ w'.cell? ⟨b9,0,none⟩ = some (.slice (some ⟨gq,0,none⟩) K K))
       (first|(with_reducible exact⟨j8,j9⟩)|(go_split_ands;(repeat' apply And.intro);all_goals (first|exact zl|with_reducible exact zc zl hb|with_reducible exact zq hb zl|with_reducible exact xx _ zl|with_reducible exact xx _ (xx _ zl)|with_reducible exact wi _ (wi _ zl)|with_reducible exact Below.drew (xx _ zl)|with_reducible exact(cell_drew_own _ _).trans (wi _ zl)|with_reducible exact wi _ zl|with_reducible exact zB _ (by first|(simp;done)|(simp;omega)) zl|with_reducible exact zW _ (by first|(simp;done)|(simp;omega)) zl)))
       (first
         |(go_at_call 106;(with_reducible refine N.o.mono ?_);rintro e w' ⟨A3,n3,c3,rfl,M,hb,ax⟩;have i:=hb)
         |(go_at_call 106;(with_reducible refine(O.o _ i).mono ?_);rintro e w' ⟨A4,n4,c4,rfl,bt,hb,_⟩;have M:=M.below hb;have i:=zc i hb)
         |(go_at_call 170;(with_reducible refine(co.out _ _ _ _ bt).mono ?_);rintro e w' ⟨A5,n5,c5,rfl,bu,hb,aa⟩;have aa:=aa.from_ i;have M:=M.below hb;have i:=zc i hb;have ak:=zg i k4.drew;have al:=zg i k5.drew;have f4:=ak.frozen 0;have f5:=al.frozen 0;have g4:=ak.cell 0;have g5:=al.cell 0))
      have hk4:=k4.lt;have hk5:=k5.lt;have k1:w'.heap[D0]?=some (.deferred (some [])):=(i.block D0 c6).trans ci.o;have a8:=(KeepsOthers.setCell w' ⟨w.heap.size+1+1,0,none⟩ (.slice A3 n3 c3)).same D0 _ k1 rfl;have H:=(KeepsOthers.setCell (w'.setCell ⟨w.heap.size+1+1,0,none⟩ (.slice A3 n3 c3)) ⟨w.heap.size+1+1+1,0,none⟩ (.slice A5 n5 c5)).same D0 _ a8 rfl;have l4:=(ak.set_ 0 (.slice A3 n3 c3)).far (p:=⟨w.heap.size+1+1+1,0,none⟩) (by show w.heap.size+1+1≠w.heap.size+1+1+1;omega) (.slice A5 n5 c5);have l5:=(al.far (p:=⟨w.heap.size+1+1,0,none⟩) (by show w.heap.size+1+1+1≠w.heap.size+1+1;omega) (.slice A3 n3 c3)).set_ 0 (.slice A5 n5 c5);have e4:=cell_kept (l4.cell 0) (grownBy_putObj' _ D0 (.deferred none)) (λr e=>by cases e;exact⟨_,H,rfl⟩);have e5:=cell_kept (l5.cell 0) (grownBy_putObj' _ D0 (.deferred none)) (λr e=>by cases e;exact⟨_,H,rfl⟩);have bc:Below w.heap.size w w':=V.trans ((show Below W.heap.size W w' from⟨i.os,i.tape,i.output,i.size,i.block⟩).mono V.size);have HG : zd (Sd w (x / d) (x % d) (.returned (.tuple #[.agg #[.slice A3 n3 c3],.agg #[.slice A5 n5 c5]])) (((w'.setCell ⟨w.heap.size + 1 + 1,0,none⟩ (.slice A3 n3 c3)).setCell ⟨w.heap.size + 1 + 1 + 1,0,none⟩ (.slice A5 n5 c5)).putObj D0 (.deferred none))) :=
       ⟨A3,n3,c3,A5,n5,c5,rfl,
        by rw [<-am.o.1];exact Y6 (jg (jg M (λad e=>by have h1:W.heap.size<=ad.block:=ax ad e;show ad.block≠w.heap.size+1+1;omega) _) (λad e=>by have h1:W.heap.size<=ad.block:=ax ad e;show ad.block≠w.heap.size+1+1+1;omega) _) H rfl _,
        by rw [<-am.o.2];exact Y6 (jg (jg bu (λad e=>by have h1:W.heap.size<=ad.block:=aa ad e;show ad.block≠w.heap.size+1+1;omega) _) (λad e=>by have h1:W.heap.size<=ad.block:=aa ad e;show ad.block≠w.heap.size+1+1+1;omega) _) H rfl _,
        ((bc.setCell (p:=⟨w.heap.size+1+1,0,none⟩) (by show w.heap.size<=w.heap.size+1+1;omega) _).setCell (p:=⟨w.heap.size+1+1+1,0,none⟩) (by show w.heap.size<=w.heap.size+1+1+1;omega) _).trans (belowK_b (w:=w) (qX _) _ D0 _ _ za H rfl rfl)⟩
      clear hb M bt bu ax aa ak al f4 f5 g4 g5 i bc k1 a8 l4 l5 c8 c9 j8 j9;go_wp2;refine⟨zG,.inl ⟨_,_,rfl,run_takeDeferred H,?_⟩⟩;exact⟨.tuple #[.agg #[.slice A3 n3 c3],.agg #[.slice A5 n5 c5]],by simp [results,f173,go_sem,e4,e5],HG.o⟩
theorem ik (r:Nat)(hr:r<18446744073709551616)(g:Nat)(w:World)(h:zh w g 125 #[.int .u64 (r:Int)]):Calls prog 106 #[.slice (some ⟨g,0,none⟩) 1 1] w (wh w r):=by
 have hd:zH 18446744073709551616 [r]:=by intro d hd;simp at hd;omega
 have:=tK (some ⟨g,0,none⟩) 1 1 [r] w (iF h rfl (by simp [zt]) rfl) hd (qX _) zf zf;rwa [show dv 18446744073709551616 [r]=r from by simp [dv]] at this
theorem WO (h:x<18446744073709551616):wd x 0=x:=by unfold wd;rw [XM,Nat.div_one,qS h]
theorem Xh (hx:(dg 18446744073709551616 x).length=m)(hm:m<=1):x<18446744073709551616:=by
 have h:=yv (b:=18446744073709551616) zf x;rw [hx] at h;exact qJ h (qD (qG zf hm) zf)
theorem Vc (x d q r:Nat)(b:Bool)(A D:ze)(n m c ce:Nat)(w:World)(hA:zo w x A n c)(hD:zo w d D m ce)(hm:m<=1)(hr:r<18446744073709551616)
  (HB:∀w',Below w.heap.size w w'->Calls prog 172 #[.agg #[.slice A n c],.int .u64 (d:Int)] w' (cW w' q r b)):
  Calls prog 161 #[.agg #[.slice A n c],.agg #[.slice D m ce]] w (sY w q r b):=by
 have hU:=λw' (hb:Below w.heap.size w w')=>dH d D m ce w' (hD.below hb) hm;rw [WO (Xh hD.len hm)] at hU;have HU:=zb hU;have B:=zb HB;have C:=zb (λg w=>ik r hr g w);clear hU HB hA hD;go_enter func161,ntmps161;go_wp2_with fail;obtain⟨hB,b2,b3,k4,k5,b6⟩:=ZE w 50 #[.slice A n c] #[.slice D m ce] #[.slice none 0 0] #[.slice none 0 0];generalize hW:(((w.alloc (.cells #[.slice A n c] 50)).alloc (.cells #[.slice D m ce] 50)).alloc (.cells #[.slice none 0 0] 50)).alloc (.cells #[.slice none 0 0] 50)=W0 at*;have g2:W0.cell? ⟨w.heap.size,0,none⟩=some (.slice A n c):=b2.cell 0;clear hW b2 b3;refine(HU.o _ hB).mono ?_;rintro e w1 ⟨rfl,hb⟩;have hB:=zc hB hb;have g2:=zq hb g2;obtain⟨k4,k5⟩:=y5 hb k4 k5;clear hb b6;go_wp2_with fail;refine(B.o _ hB).mono ?_;rintro e w2 ⟨A2,n2,c2,rfl,i,hb⟩;have hB:=zc hB hb;obtain⟨k4,k5⟩:=y5 hb k4 k5;have l4:=k5.lt;obtain⟨m9,m9'⟩:w.heap.size+1+1≠w2.heap.size/\w.heap.size+1+1+1≠w2.heap.size:=za;obtain⟨d1,d2,d5⟩:=zw w2 50 #[.slice A2 n2 c2];have hB:=zc hB d1;obtain⟨k4,k5⟩:=y5 d1 k4 k5;have i:=i.below d1;have g9:(w2.alloc (.cells #[.slice A2 n2 c2] 50)).cell? ⟨w2.heap.size,0,none⟩=some (.slice A2 n2 c2):=d2.cell 0;clear d1 d2 d5 hb g2;go_wp2_with fail;generalize w2.alloc (.cells #[.slice A2 n2 c2] 50)=W2 at*;generalize w2.heap.size=z at*;have t:Below W2.heap.size W2 W2:=qZ _ _;have j9:W2.drew.cell? ⟨z,0,none⟩=some (.slice A2 n2 c2):=g9
 go_region_held3 (fun w' => w'.cell? ⟨z,0,none⟩ = some (.slice A2 n2 c2))
  (first|(with_reducible exact j9)|exact zl|with_reducible exact wi _ zl|with_reducible exact(cell_drew_own _ _).trans (wi _ zl)|with_reducible exact zq hb zl|with_reducible exact zW _ (by first|(simp;done)|(simp;omega)) zl)
  (first
    |(go_at_call 106;(with_reducible refine(C.out _ _ (by first|with_reducible exact zh.new _ _ _|with_reducible exact(zh.new _ _ _).drew)).mono ?_);rintro e w' ⟨A3,n3,c3,rfl,y,hb,E⟩;(have a:Below W2.heap.size W2 w':=zc (by first|with_reducible exact(xx _ t).drew|with_reducible exact xx _ t.drew) hb);have j:=zg a k4;have k:=zg a k5;have s:=i.below a;have f4:=j.frozen 0;have f5:=k.frozen 0;have e4:=j.cell 0;have e5:=k.cell 0))
 have p4:xp w' (w.heap.size+1+1) (.slice none 0 0):=⟨_,j⟩;have p5:xp w' (w.heap.size+1+1+1) (.slice none 0 0):=⟨_,k⟩;have o:=p5.far (p:=⟨w.heap.size+1+1,0,none⟩) (by show w.heap.size+1+1+1≠w.heap.size+1+1;omega) (.slice A2 n2 c2);have r4:=((p4.set_ (.slice A2 n2 c2)).far (p:=⟨w.heap.size+1+1+1,0,none⟩) (by show w.heap.size+1+1≠w.heap.size+1+1+1;omega) (.slice A3 n3 c3)).cell;have r5:=(o.set_ (.slice A3 n3 c3)).cell;have u:=zc hB a;have HG : zd (sY w q r b (.returned (.tuple #[.agg #[.slice A2 n2 c2],.agg #[.slice A3 n3 c3],.bool b])) ((w'.setCell ⟨w.heap.size + 1 + 1,0,none⟩ (.slice A2 n2 c2)).setCell ⟨w.heap.size + 1 + 1 + 1,0,none⟩ (.slice A3 n3 c3))) :=
  ⟨A2,n2,c2,A3,n3,c3,rfl,wB (wB s p4 _) o _,wB (wB y p4 _) o _,
   (u.setCell (p:=⟨w.heap.size+1+1,0,none⟩) (by show w.heap.size<=w.heap.size+1+1;omega) _).setCell (p:=⟨w.heap.size+1+1+1,0,none⟩) (by show w.heap.size<=w.heap.size+1+1+1;omega) _⟩
 clear hb a i s y E k4 k5 j k f4 f5 e4 e5 p4 p5 o u hB g9 j9 t;go_wp2;refine bodyPost_ret (v:=.tuple #[.agg #[.slice A2 n2 c2],.agg #[.slice A3 n3 c3],.bool b]) (by simp [results,results161,go_sem,r4,r5]) rfl ?_;exact HG.o
theorem lL {d:Nat}(hx:(dg 18446744073709551616 x).length=n)(hd:(dg 18446744073709551616 d).length=m)(h:n<m):x / d=0/\x%d=x:=by
 have hl:x<d:=gn (b:=18446744073709551616) zf (by rw [hx,hd];exact h);exact⟨QB hl,qS hl⟩
theorem Rb (x d:Nat)(A D:ze)(n m c ce:Nat)(w:World)(hA:zo w x A n c)(hD:zo w d D m ce)(hm:2<=m)(k:n<m)(hm2:m<=274877906944):
  Calls prog 161 #[.agg #[.slice A n c],.agg #[.slice D m ce]] w (sY w (x / d) (x%d) true):=by
 obtain⟨hq,hr⟩:=lL hA.len hD.len k;rw [hq,hr];have HU:=zb (λw'=>dJ D m ce w' za);have t:=zj w (λw' hb=>ji x A n c w' (hA.below hb) za);have i:=zb hA.len;have t1:decide ((n:Int)<(m:Int))=true:=by simpa using k
 clear hA hD hq hr;go_enter func161,ntmps161;go_wp2_with fail;obtain⟨hB,b2,b3,k4,k5,b6⟩:=ZE w 50 #[.slice A n c] #[.slice D m ce] #[.slice none 0 0] #[.slice none 0 0];generalize hW:(((w.alloc (.cells #[.slice A n c] 50)).alloc (.cells #[.slice D m ce] 50)).alloc (.cells #[.slice none 0 0] 50)).alloc (.cells #[.slice none 0 0] 50)=W0 at*;have g2:W0.cell? ⟨w.heap.size,0,none⟩=some (.slice A n c):=b2.cell 0;have g3:W0.cell? ⟨w.heap.size+1,0,none⟩=some (.slice D m ce):=b3.cell 0;clear hW b2 b3;refine(HU.o _).mono ?_;rintro e w1 ⟨rfl,hb⟩;have hB:=zc hB hb;obtain⟨g2,g3⟩:=xl hb g2 g3;obtain⟨k4,k5⟩:=y5 hb k4 k5;clear hb b6;go_wp2_with fail;have j2:w1.drew.cell? ⟨w.heap.size,0,none⟩=some (.slice A n c):=g2;have j3:w1.drew.cell? ⟨w.heap.size+1,0,none⟩=some (.slice D m ce):=g3;have j:Below w1.heap.size w1 w1.drew:=(qZ _ w1).drew
 go_region_held3 (fun w' => Below w1.heap.size w1 w' ∧ w'.cell? ⟨w.heap.size,0,none⟩ = some (.slice A n c) ∧ w'.cell? ⟨w.heap.size + 1,0,none⟩ = some (.slice D m ce))
  (first|(with_reducible exact⟨j,j2,j3⟩)|(go_split_ands;(repeat' apply And.intro);all_goals (first|exact zl|with_reducible exact zc zl hb|with_reducible exact zq hb zl)))
  (first|(go_at_call 104;(with_reducible refine(ui 0 _ _ _ _).mono ?_);rintro e w' ⟨rfl,hb⟩))
 rename_i hH
 obtain⟨a,u,y⟩:=hH;have hB:=zc hB a;obtain⟨k4,k5⟩:=y5 a k4 k5;clear a hb j2 j3 j y g2 g3;go_wp2_with fail;refine(t.o _ hB).mono ?_;rintro e w3 ⟨A1,c1,rfl,o,z,⟨B,_⟩,hb⟩;have hB:=zc hB hb;obtain⟨k4,k5⟩:=y5 hb k4 k5;have O:=tK A1 _ c1 _ w3 o (uA zf x) z B (by have:=i.o;omega);rw [vw zf] at O;have HO:=zb O;rw [i.o] at HO⊢;clear O o hb u;go_wp2_with fail;refine HO.o.mono ?_;rintro e w' ⟨A3,n3,c3,rfl,s,hb,C⟩;have hB:=zc hB hb;obtain⟨k4,k5⟩:=y5 hb k4 k5;have f4:=k4.frozen 0;have f5:=k5.frozen 0;have e4:=k4.cell 0;have e5:=k5.cell 0;have p4:xp w' (w.heap.size+1+1) (.slice none 0 0):=⟨_,k4⟩;have p5:xp w' (w.heap.size+1+1+1) (.slice none 0 0):=⟨_,k5⟩;have g:=p5.far (p:=⟨w.heap.size+1+1,0,none⟩) (by show w.heap.size+1+1+1≠w.heap.size+1+1;omega) (.slice none 0 0);have r4:=((p4.set_ (.slice none 0 0)).far (p:=⟨w.heap.size+1+1+1,0,none⟩) (by show w.heap.size+1+1≠w.heap.size+1+1+1;omega) (.slice A3 n3 c3)).cell;have r5:=(g.set_ (.slice A3 n3 c3)).cell;have HG : zd (sY w 0 x true (.returned (.tuple #[.agg #[.slice none 0 0],.agg #[.slice A3 n3 c3],.bool true])) ((w'.setCell ⟨w.heap.size + 1 + 1,0,none⟩ (.slice none 0 0)).setCell ⟨w.heap.size + 1 + 1 + 1,0,none⟩ (.slice A3 n3 c3))) :=
  ⟨none,0,0,A3,n3,c3,rfl,Ym _,wB (wB s p4 _) g _,
   (hB.setCell (p:=⟨w.heap.size+1+1,0,none⟩) (by show w.heap.size<=w.heap.size+1+1;omega) _).setCell (p:=⟨w.heap.size+1+1+1,0,none⟩) (by show w.heap.size<=w.heap.size+1+1+1;omega) _⟩
 clear hb s C k4 k5 p4 p5 g hB;go_wp2;refine bodyPost_ret (v:=.tuple #[.agg #[.slice none 0 0],.agg #[.slice A3 n3 c3],.bool true]) (by simp [results,results161,go_sem,r4,r5]) rfl ?_;exact HG.o
theorem Rh (x d:Nat)(A D:ze)(n m c ce:Nat)(w:World)(hA:zo w x A n c)(hD:zo w d D m ce)(hm:2<=m)(u:m<=n)(hn:n<=274877906944):
  Calls prog 161 #[.agg #[.slice A n c],.agg #[.slice D m ce]] w (sY w (x / d) (x%d) true):=by
 have HU:=zb (λw'=>dJ D m ce w' za);have k:=zj w (λw' hb=>RH x d A D n m c ce w' (hA.below hb) (hD.below hb) hm u hn);have t1:decide ((n:Int)<(m:Int))=false:=by simpa using u
 have t2:¬ n<m:=za;obtain⟨xq,y⟩:∃q,x / d=q:=⟨_,rfl⟩;obtain⟨xr,B⟩:∃q,x%d=q:=⟨_,rfl⟩;rw [y,B] at k⊢;clear hA hD y B;go_enter func161,ntmps161;go_wp2_with fail;obtain⟨hB,b2,b3,k4,k5,b6⟩:=ZE w 50 #[.slice A n c] #[.slice D m ce] #[.slice none 0 0] #[.slice none 0 0];generalize hW:(((w.alloc (.cells #[.slice A n c] 50)).alloc (.cells #[.slice D m ce] 50)).alloc (.cells #[.slice none 0 0] 50)).alloc (.cells #[.slice none 0 0] 50)=W0 at*;have g2:W0.cell? ⟨w.heap.size,0,none⟩=some (.slice A n c):=b2.cell 0;have g3:W0.cell? ⟨w.heap.size+1,0,none⟩=some (.slice D m ce):=b3.cell 0;clear hW b2 b3;refine(HU.o _).mono ?_;rintro e w1 ⟨rfl,hb⟩;have hB:=zc hB hb;obtain⟨g2,g3⟩:=xl hb g2 g3;obtain⟨k4,k5⟩:=y5 hb k4 k5;clear hb b6;go_wp2_with fail;have j2:w1.drew.cell? ⟨w.heap.size,0,none⟩=some (.slice A n c):=g2;have j3:w1.drew.cell? ⟨w.heap.size+1,0,none⟩=some (.slice D m ce):=g3;have t:Below w1.heap.size w1 w1.drew:=(qZ _ w1).drew
 go_region_held3 (fun w' => Below w1.heap.size w1 w' ∧ w'.cell? ⟨w.heap.size,0,none⟩ = some (.slice A n c) ∧ w'.cell? ⟨w.heap.size + 1,0,none⟩ = some (.slice D m ce))
  (first|(with_reducible exact⟨t,j2,j3⟩)|(go_split_ands;(repeat' apply And.intro);all_goals (first|exact zl|with_reducible exact zc zl hb|with_reducible exact zq hb zl)))
  (first|(go_at_call 104;(with_reducible refine(ui 0 _ _ _ _).mono ?_);rintro e w' ⟨rfl,hb⟩))
 rename_i hH
 obtain⟨j,H,I⟩:=hH;have hB:=zc hB j;obtain⟨k4,k5⟩:=y5 j k4 k5;clear j hb j2 j3 t g2 g3;go_wp2_with fail;refine(k.o _ hB).mono ?_;rintro e w3 ⟨A2,n2,c2,A3,n3,c3,rfl,a,g,hb⟩;have hB:=zc hB hb;obtain⟨k4,k5⟩:=y5 hb k4 k5;obtain⟨d1,d2,d3,d5⟩:=z8 w3 50 50 #[.slice A2 n2 c2] #[.slice A3 n3 c3];have l5:=k5.lt;obtain⟨m1,m2,m3,m4⟩:w3.heap.size≠w.heap.size+1+1/\w3.heap.size≠w.heap.size+1+1+1/\w3.heap.size+1≠w.heap.size+1+1/\w3.heap.size+1≠w.heap.size+1+1+1:=za;have hB:=zc hB d1;obtain⟨k4,k5⟩:=y5 d1 k4 k5;have a:=a.below d1;have g:=g.below d1;have o:((w3.alloc (.cells #[.slice A2 n2 c2] 50)).alloc (.cells #[.slice A3 n3 c3] 50)).cell? ⟨w3.heap.size,0,none⟩=some (.slice A2 n2 c2):=d2.cell 0;have s:((w3.alloc (.cells #[.slice A2 n2 c2] 50)).alloc (.cells #[.slice A3 n3 c3] 50)).cell? ⟨w3.heap.size+1,0,none⟩=some (.slice A3 n3 c3):=d3.cell 0;clear d1 d2 d3 d5 hb H I l5;go_wp2_with fail;generalize (w3.alloc (.cells #[.slice A2 n2 c2] 50)).alloc (.cells #[.slice A3 n3 c3] 50)=W' at*;generalize w3.heap.size=z at*;have j2:W'.drew.cell? ⟨z,0,none⟩=some (.slice A2 n2 c2):=o;have j3:W'.drew.cell? ⟨z+1,0,none⟩=some (.slice A3 n3 c3):=s;have f4:=k4.drew.frozen 0;have f5:=k5.drew.frozen 0;have e4:=k4.drew.cell 0;have e5:=k5.drew.cell 0;have F:=k4.frozen 0;have G:=k5.frozen 0;have C:=k4.cell 0;have E:=k5.cell 0
 go_region_held3 (fun w' => w'.cell? ⟨z,0,none⟩ = some (.slice A2 n2 c2) ∧ w'.cell? ⟨z + 1,0,none⟩ = some (.slice A3 n3 c3))
  (first|(with_reducible exact⟨j2,j3⟩)|(go_split_ands;(repeat' apply And.intro);all_goals (first|exact zl|with_reducible exact(cell_drew_own _ _).trans (zW _ (by first|(simp;done)|(simp;omega)) zl)|with_reducible exact(cell_drew_own _ _).trans (zW _ (by first|(simp;done)|(simp;omega)) (zW _ (by first|(simp;done)|(simp;omega)) zl))|with_reducible exact zW _ (by first|(simp;done)|(simp;omega)) zl|with_reducible exact zW _ (by first|(simp;done)|(simp;omega)) (zW _ (by first|(simp;done)|(simp;omega)) zl))))
  (fail)
 have p4:xp W' (w.heap.size+1+1) (.slice none 0 0):=⟨_,k4⟩;have p5:xp W' (w.heap.size+1+1+1) (.slice none 0 0):=⟨_,k5⟩;have i:=p5.far (p:=⟨w.heap.size+1+1,0,none⟩) (by show w.heap.size+1+1+1≠w.heap.size+1+1;omega) (.slice A2 n2 c2);have r4:=((p4.set_ (.slice A2 n2 c2)).far (p:=⟨w.heap.size+1+1+1,0,none⟩) (by show w.heap.size+1+1≠w.heap.size+1+1+1;omega) (.slice A3 n3 c3)).cell;have r5:=(i.set_ (.slice A3 n3 c3)).cell;have HG : zd (sY w xq xr true (.returned (.tuple #[.agg #[.slice A2 n2 c2],.agg #[.slice A3 n3 c3],.bool true])) ((W'.setCell ⟨w.heap.size + 1 + 1,0,none⟩ (.slice A2 n2 c2)).setCell ⟨w.heap.size + 1 + 1 + 1,0,none⟩ (.slice A3 n3 c3)).drew) :=
  ⟨A2,n2,c2,A3,n3,c3,rfl,wB (wB a p4 _) i _,wB (wB g p4 _) i _,
   ((hB.setCell (p:=⟨w.heap.size+1+1,0,none⟩) (by show w.heap.size<=w.heap.size+1+1;omega) _).setCell (p:=⟨w.heap.size+1+1+1,0,none⟩) (by show w.heap.size<=w.heap.size+1+1+1;omega) _).drew⟩
 clear a g k4 k5 p4 p5 i hB o s j2 j3 f4 f5 e4 e5 F G C E;go_wp2;refine bodyPost_ret (v:=.tuple #[.agg #[.slice A2 n2 c2],.agg #[.slice A3 n3 c3],.bool true]) (by simp [results,results161,go_sem,r4,r5]) rfl ?_;exact HG.o
theorem aH (x d:Nat)(A D:ze)(n m c ce:Nat)(w:World)(hA:zo w x A n c)(hD:zo w d D m ce)(hn:n<=274877906944)(hm:m<=274877906944)(hd:d≠0):
  Calls prog 161 #[.agg #[.slice A n c],.agg #[.slice D m ce]] w (sY w (x / d) (x%d) true):=by
 by_cases h1:m<=1
 ·have a:=Xh hD.len h1;exact Vc x d (x / d) (x%d) true A D n m c ce w hA hD h1 (Nat.lt_trans (QA _ (xT hd)) a) (λw' hb=>Vt x d A n c w' (hA.below hb) hn a hd)
 ·by_cases h2:n<m
  ·exact Rb x d A D n m c ce w hA hD za h2 hm
  ·exact Rh x d A D n m c ce w hA hD za za hn
theorem WW (x d:Nat)(A D:ze)(n m c ce:Nat)(w:World)(hA:zo w x A n c)(hD:zo w d D m ce)(hd:d=0):
  Calls prog 161 #[.agg #[.slice A n c],.agg #[.slice D m ce]] w (sY w 0 0 false):=by
 subst hd;obtain rfl:m=0:=by have:=hD.len;rw [oW] at this;exact this.symm
 exact Vc x 0 0 0 false A D n 0 c ce w hA hD zf zf (λw' hb=>WV x A n c w' (hA.below hb))
theorem Z8 (q r:Nat)(b:Bool)(A D:ze)(n m c ce:Nat)(w:World)(d:∀w',Below w.heap.size w w'->Calls prog 161 #[.agg #[.slice A n c],.agg #[.slice D m ce]] w' (sY w' q r b)):
  Calls prog 144 #[.agg #[.slice A n c],.agg #[.slice D m ce]] w (iR w q b):=by
 have HD:=zb d;clear d;go_enter func144,ntmps144;go_wp2_with fail;obtain⟨hB,b2,b3,k4,b5⟩:=yF w 50 50 50 #[.slice A n c] #[.slice D m ce] #[.slice none 0 0];generalize hW:((w.alloc (.cells #[.slice A n c] 50)).alloc (.cells #[.slice D m ce] 50)).alloc (.cells #[.slice none 0 0] 50)=W0 at*;clear hW b2 b3;refine(HD.o _ hB).mono ?_;rintro e w3 ⟨A2,n2,c2,A3,n3,c3,rfl,a,g,hb⟩;have hB:=zc hB hb;have k4:=zg hb k4;have l4:=k4.lt;obtain⟨d1,d2,d3,d5⟩:=z8 w3 50 50 #[.slice A2 n2 c2] #[.slice A3 n3 c3];have hB:=zc hB d1;have k4:=zg d1 k4;have a:=a.below d1;clear d1 d3 d5 hb g b5;have g6:((w3.alloc (.cells #[.slice A2 n2 c2] 50)).alloc (.cells #[.slice A3 n3 c3] 50)).cell? ⟨w3.heap.size,0,none⟩=some (.slice A2 n2 c2):=d2.cell 0;have f4:=k4.frozen 0;have e4:=k4.cell 0;have p4:xp _ (w.heap.size+1+1) (.slice none 0 0):=⟨_,k4⟩;have r4:=(p4.set_ (.slice A2 n2 c2)).cell;have HG : zd (iR w q b (.returned (.tuple #[.agg #[.slice A2 n2 c2],.bool b])) (((w3.alloc (.cells #[.slice A2 n2 c2] 50)).alloc (.cells #[.slice A3 n3 c3] 50)).setCell ⟨w.heap.size + 1 + 1,0,none⟩ (.slice A2 n2 c2))) :=
  ⟨A2,n2,c2,rfl,wB a p4 _,hB.setCell (p:=⟨w.heap.size+1+1,0,none⟩) (by show w.heap.size<=w.heap.size+1+1;omega) _⟩
 clear a k4 p4 hB d2;go_wp2;refine bodyPost_ret (v:=.tuple #[.agg #[.slice A2 n2 c2],.bool b]) (by simp [results,results144,go_sem,r4]) rfl ?_;exact HG.o
theorem Pe (q r:Nat)(b:Bool)(A D:ze)(n m c ce:Nat)(w:World)(d:∀w',Below w.heap.size w w'->Calls prog 161 #[.agg #[.slice A n c],.agg #[.slice D m ce]] w' (sY w' q r b)):
  Calls prog 168 #[.agg #[.slice A n c],.agg #[.slice D m ce]] w (iR w r b):=by
 have HD:=zb d;clear d;go_enter func168,ntmps168;go_wp2_with fail;obtain⟨hB,b2,b3,k4,b5⟩:=yF w 50 50 50 #[.slice A n c] #[.slice D m ce] #[.slice none 0 0];generalize hW:((w.alloc (.cells #[.slice A n c] 50)).alloc (.cells #[.slice D m ce] 50)).alloc (.cells #[.slice none 0 0] 50)=W0 at*;clear hW b2 b3;refine(HD.o _ hB).mono ?_;rintro e w3 ⟨A2,n2,c2,A3,n3,c3,rfl,g,a,hb⟩;have hB:=zc hB hb;have k4:=zg hb k4;have l4:=k4.lt;obtain⟨d1,d2,d3,d5⟩:=z8 w3 50 50 #[.slice A2 n2 c2] #[.slice A3 n3 c3];have hB:=zc hB d1;have k4:=zg d1 k4;have a:=a.below d1;clear d1 d2 d5 hb g b5;have g6:((w3.alloc (.cells #[.slice A2 n2 c2] 50)).alloc (.cells #[.slice A3 n3 c3] 50)).cell? ⟨w3.heap.size+1,0,none⟩=some (.slice A3 n3 c3):=d3.cell 0;have f4:=k4.frozen 0;have e4:=k4.cell 0;have p4:xp _ (w.heap.size+1+1) (.slice none 0 0):=⟨_,k4⟩;have r4:=(p4.set_ (.slice A3 n3 c3)).cell;have HG : zd (iR w r b (.returned (.tuple #[.agg #[.slice A3 n3 c3],.bool b])) (((w3.alloc (.cells #[.slice A2 n2 c2] 50)).alloc (.cells #[.slice A3 n3 c3] 50)).setCell ⟨w.heap.size + 1 + 1,0,none⟩ (.slice A3 n3 c3))) :=
  ⟨A3,n3,c3,rfl,wB a p4 _,hB.setCell (p:=⟨w.heap.size+1+1,0,none⟩) (by show w.heap.size<=w.heap.size+1+1;omega) _⟩
 clear a k4 p4 hB d3;go_wp2;refine bodyPost_ret (v:=.tuple #[.agg #[.slice A3 n3 c3],.bool b]) (by simp [results,results168,go_sem,r4]) rfl ?_;exact HG.o
theorem kX:fN where
 divMod x y A D n m c d w hA hD hn hm hy:=aH x y A D n m c d w hA hD za za hy
 divModNo x y A D n m c d w hA hD hn hm hy:=WW x y A D n m c d w hA hD hy
 div x y A D n m c d w hA hD hn hm hy:=Z8 (x / y) (x%y) true A D n m c d w (λw' hb=>aH x y A D n m c d w' (hA.below hb) (hD.below hb) za za hy)
 mod x y A D n m c d w hA hD hn hm hy:=Pe (x / y) (x%y) true A D n m c d w (λw' hb=>aH x y A D n m c d w' (hA.below hb) (hD.below hb) za za hy)
 byWord x a A n c w hA hn ha ha0:=Vt x a A n c w hA za ha ha0
 byWordNo x A n c w hA hn:=WV x A n c w hA
