/- What this claim leans on. -/
import Derived.Test.YtdfdjfiognhbgaaGreatDoorDVArgs
set_option linter.unusedVariables false
set_option linter.unusedSimpArgs false
namespace Go.Proofs.YtdfdjfiognhbgaaGreatDoor
open Go Go.RowKit Go.Proofs.Tryz
set_option maxHeartbeats 16000000
set_option maxRecDepth 100000
variable {L:List Nat}{B B0 X b g m n x:Nat}{t:TypeId}{w w':World}
attribute [local go_sem] Oper.semAt_some
theorem Z7 (x:Nat)(A:ze)(n c:Nat)(w:World)(hA:zn w x A n c):
  Calls prog 191 #[.agg #[.slice A n c],.int .u64 0] w (fD w 0 0 false):=by
 go_enter func191,ntmps191;go_wp2;refine bodyPost_ret (v:=.tuple #[.agg #[.slice none 0 0],.int .u64 0,.bool false]) (by simp [results,results191,go_sem]) rfl ?_;exact⟨none,0,0,rfl,bI _,(yn w _ _ _ _ _ _).1⟩
def Ux (w:World)(q x:Nat)(b:Bool)(e:Ending)(w':World):Prop:=∃(A:ze) (n c:Nat),e=.returned (.tuple #[.agg #[.slice A n c],.int .u64 (x:Int),.bool b])/\zn w' q A n c/\Below w.heap.size w w'/\tN w A
theorem ir {cap:Nat}{W W':World}{row:Option Nat}(h:zF W t g cap n L)(hg:W.grownBy W' row)(hr:∀r,row=some r->B<=r/\∃o:Obj,W.heap[r]?=some o/\o.isCells=false):zF W' t g cap n L:=by
 obtain⟨a,h0,h1⟩:=h;exact⟨a,uo h0 hg hr,h1⟩
structure iS (x a n c1 gs q0 q1 q2 q3 q4:Nat)(A1:ze)(w:World)(k:Nat)(W:World):Prop where
 row:∃L r,oo x a k n L r/\zh W q3 132 #[.int .u64 (r:Int)]/\(0<n->∃g,A1=some ⟨g,0,none⟩/\gs<=g/\g<q2/\zF W 132 g c1 n L)
 abox:zh W q0 132 #[.int .u64 (a:Int)]
 res:zh W q1 37 #[.slice none 0 0]
 qbox:zh W q2 35 #[.slice A1 n c1]
 seq:zh W q4 35 #[.slice A1 n c1]
 below:Below w.heap.size w W
theorem iS.own {a c1 gs q0 q1 q2 q3 q4:Nat}{A1:ze}(hB:w.heap.size<=B)(k:Nat):OwnFrom B (fun(_:Unit) W=>iS x a n c1 gs q0 q1 q2 q3 q4 A1 w k W):=by
 intro _ W W' row h hg hr;obtain⟨L,r,h1,h2,h3⟩:=h.row;refine⟨⟨L,r,h1,uo h2 hg hr,λhn=>?_⟩,uo h.abox hg hr,uo h.res hg hr,uo h.qbox hg hr,uo h.seq hg hr,fZ h.below (qY _) hB hg hr⟩;obtain⟨g,e,h4,h5,h6⟩:=h3 hn;exact⟨g,e,h4,h5,ir h6 hg hr⟩
theorem aI {c D:Nat}{A:ze}{o:Obj}(h:zn w x A n c)(hD:w.heap[D]?=some o)(ho:o.isCells=false)(o':Obj):zn (w.putObj D o') x A n c:=by
 obtain⟨⟨h1,h2⟩,h3⟩:=h;refine⟨⟨h1,λhn=>?_⟩,h3⟩;obtain⟨ad,e,hb,hc⟩:=h2 hn;exact⟨ad,e,by simpa using hb,λj u hu=>cell_kept (hc j u hu) (grownBy_putObj' w D o') (λr e=>by cases e;exact⟨_,hD,ho⟩)⟩
theorem ZQ (g k:Nat):(⟨g,0,none⟩:Addr).add k=⟨g,k,none⟩:=by unfold Addr.add;split<;>simp_all
theorem Tu (x a:Nat)(A:ze)(n c:Nat)(w:World)(hA:zn w x A n c)(hn:n<=274877906944)(ha:a<18446744073709551616)(ah:a≠0):
  Calls prog 191 #[.agg #[.slice A n c],.int .u64 (a:Int)] w (Ux w (x / a) (x%a) true):=by
 have P:=zj w (λw' hb=>fS x A n c w' (hA.below hb) zb);have HI:=za (oo.start (a:=a) hA.len ah);have hz:((a:Int)==0)=false:=by simp;omega
 clear hA;refine(callsIn_wide (n:=3)).1 ?_;refine callsIn_of_wp_marks func191 rfl trivial ?_ rfl;simp only [ntmps191,XG,xP,YB,Nat.reduceAdd,Nat.reduceSub,YC,YE,List.push_toArray,YT,yK,YD];refine wpIn_wide.2 ?_;go_wp2_with fail;obtain⟨b1,b2,b3,b4,b5⟩:=yn w 37 132 37 #[.slice A n c] #[.int .u64 (a:Int)] #[.slice none 0 0];generalize hW:((w.alloc (.cells #[.slice A n c] 37)).alloc (.cells #[.int .u64 (a:Int)] 132)).alloc (.cells #[.slice none 0 0] 37)=W0 at*;clear hW b2;refine(P.o _ b1).mono ?_;rintro e w1 ⟨v,rfl,j,hb⟩;obtain⟨A1,c1,rfl,ai,aj,_⟩:=zH.of_grown_own j;have hB:=zc b1 hb;have ka:=zf hb b3;have kr:=zf hb b4;have ap:w.heap.size+3<=W0.heap.size:=b5;clear hb b1 b3 b4 b5;go_wp2_with fail;have ao:w.heap.size+2<w1.heap.size:=kr.lt;obtain⟨d1,d2,d3,d4,d5⟩:=yn w1 35 132 35 #[.slice A1 n c1] #[.int .u64 0] #[.slice A1 n c1];refine(cM A1 n c1 _).mono ?_;rintro e w2 ⟨rfl,J⟩;rw [J] at d1 d2 d3 d4 d5;have hB:=zc hB d1;obtain⟨ka,kr⟩:=yq d1 ka kr;have F:0<n->∃g,A1=some ⟨g,0,none⟩/\W0.heap.size<=g/\g<w1.heap.size/\zF w2 132 g c1 n (dg 18446744073709551616 x):=λh=>by
  obtain⟨g,cap,e,hg,hR⟩:=zF.of_own j h;injection e with e1 _ e3;subst e1 e3;exact⟨g,rfl,hg,hR.lt,by rw [<-J];exact((hR.alloc _).alloc _).alloc _⟩
 clear J d1 j d5;have H0:=za (show iS x a n c1 W0.heap.size (w.heap.size+1) (w.heap.size+1+1) w1.heap.size (w1.heap.size+1) (w1.heap.size+1+1) A1 w n w2 from⟨⟨_,0,HI.o,d3,F⟩,ka,kr,d2,d4,hB⟩);have af:=hB.size;clear F ka kr d2 d3 d4 hB;go_wp2_with fail;obtain⟨gs,V⟩:∃g,W0.heap.size=g:=⟨_,rfl⟩;obtain⟨z,Y⟩:∃z,w1.heap.size=z:=⟨_,rfl⟩;rw [V] at H0 ap;rw [Y] at H0 ao⊢;clear V Y;refine(wpIn_wide (n:=3)).1 ?_;refine Wi (gf:=208) (lb:=#[.pointer (some ⟨z + 1 + 1,0,none⟩)]) rfl (enters_of func208 zP rfl) n (fun k => #[.int .i64 (k : Int),.int .u64 (wd x k : Int)]) (fun _ => rfl)
  (λk W=>iS x a n c1 gs (w.heap.size+1) (w.heap.size+1+1) z (z+1) (z+1+1) A1 w k W) (λk=>iS.own af k) H0.o
  (Yc (z+1+1) n c1 A1 (wd x) _ zb (λk W h=>h.seq.cell 0) ?cells)
  (λk=>{tmps:=#[.agg #[.slice A n c],.int .u64 (a:Int),.pointer (some ⟨w.heap.size,0,none⟩),.pointer (some ⟨w.heap.size+1,0,none⟩),.pointer (some ⟨w.heap.size+1+1,0,none⟩),.int .u64 0,.bool false,.pointer (some ⟨z,0,none⟩),.pointer (some ⟨z+1,0,none⟩),.int .i64 (k:Int),.int .u64 (wd x k:Int),.int .u64 (a:Int),.bool false,undef,.agg #[.slice A n c],.slice A1 n c1,.slice A1 n c1,.func (.func 208) #[] #[.pointer (some ⟨z+1+1,0,none⟩)],.int .i64 (k:Int),.int .u64 (wd x k:Int),undef,undef,undef,undef,undef,undef,undef,undef,undef,undef,undef,undef,undef,undef],defers:=[]}) ?assign ?body ?done
 case cells=>
  intro k W hk h;obtain⟨L,r,h1,h2,h3⟩:=h.row;obtain⟨g,e,_,_,hR⟩:=h3 zb;refine⟨_,e,?_⟩;rw [ZQ,hR.cell k hk,h1.get zb]
 case assign=>
  intro l k W K hK
  gi_wp2
  exact hK
 case body=>
  intro l k W hk h;have aq:=h.seq;have E:=h.abox;have C:=h.res;have X:=h.qbox;have i:=h.below;obtain⟨L,r,h1,h2,h3⟩:=h.row;obtain⟨g,rfl,al,am,hR⟩:=h3 zb;clear h h3;have hr:=h1.rest;have hw:=wF x k;have y:=h1.step (s:=r*18446744073709551616+wd x k) hk rfl ha;obtain⟨v,hv⟩:∃v,wd x k=v:=⟨_,rfl⟩;rw [hv] at hw y⊢;have G:=λw=>UE r v a hr ha hw w;obtain⟨t1,H⟩:∃t,(r*18446744073709551616+v) / a=t:=⟨_,rfl⟩;obtain⟨t2,I⟩:∃t,(r*18446744073709551616+v)%a=t:=⟨_,rfl⟩;rw [H,I] at y;rw [H,I] at G;have HS:=za y;have Z:=za G;clear y G H I hv h1;have cq:=X.cell 0;have ca:=E.cell 0;have cr:=h2.cell 0;have fr:=h2.frozen 0;have cg:=hR.cell k hk;have fg:=hR.frozen k;have i1:(0:Int)<=(k:Int):=zb;have i2:(k:Int)<(n:Int):=zb;have ae:W.drew.cell? ⟨z+1,0,none⟩=some (.int .u64 (r:Int)):=cr;refine wpIn_block ?_;refine Yu (S:=(λw'=>w'.cell? ⟨z,0,none⟩=some (.slice (some ⟨g,0,none⟩) n c1)/\w'.cell? ⟨w.heap.size+1,0,none⟩=some (.int .u64 (a:Int)))) zP zP (λ_ _ h=>by cases h.1) ?_ (λhHeld=>?_)
  ·exact⟨cq,ca⟩
  refine yj 0 (v:=?_) ?_ ?_
  rotate_left
  focus ((intro w d;(try dsimp only at d);go_simp);(try with_reducible rfl))
  try simp only [Act.put,qK,qD,qH]
  refine yj 1 (v:=?_) ?_ ?_
  rotate_left
  focus ((intro w d;(try dsimp only at d);go_simp);(try with_reducible rfl))
  try simp only [Act.put,qK,qD,qH]
  refine yj 3 (v:=?_) ?_ ?_
  rotate_left
  focus ((intro w d;(try dsimp only at d);go_simp);(try with_reducible rfl))
  try simp only [Act.put,qK,qD,qH]
  refine yj 4 (v:=?_) ?_ ?_
  rotate_left
  focus ((intro w d;(try dsimp only at d);go_simp);(try with_reducible rfl))
  try simp only [Act.put,qK,qD,qH]
  refine wpAnyH_ready (rs:=[2]) zP zE ?_;refine uH (λK hK=>?_);go_simp;refine hK.out _ _ ?_ (λhHeld=>?_)
  ·((try dsimp only);exact hHeld)
  clear hK K
  try simp only [Act.put,qK,qD,qH]
  refine wpAnyH_ready (rs:=[5]) zP zE ?_;refine uH (λK hK=>?_);go_simp;refine(Z.o _).mono ?_;rintro e w' ⟨rfl,nn,rfl⟩;have fg1:(W.drew.drewN nn).frozen? ⟨g,k,none⟩=false:=fg;have Q:∃u,(W.drew.drewN nn).cell? ⟨g,k,none⟩=some u:=⟨_,cg⟩;obtain⟨u1,Q⟩:=Q;have fr1:((W.drew.drewN nn).setCell ⟨g,k,none⟩ (.int .u64 (t1:Int))).frozen? ⟨z+1,0,none⟩=false:=by rw [World.frozen?_setCell];exact fr
  have cr1:((W.drew.drewN nn).setCell ⟨g,k,none⟩ (.int .u64 (t1:Int))).cell? ⟨z+1,0,none⟩=some (.int .u64 (r:Int)):=zR _ (by show z+1≠g;omega) ae;refine hK.out _ _ ?_ (λhHeld=>?_)
  ·((try dsimp only);exact hHeld)
  clear hK K
  try simp only [Act.put,qK,qD,qH]
  refine yj 6 (v:=?_) ?_ ?_
  rotate_left
  focus ((intro w d;(try dsimp only at d);go_simp);(try with_reducible rfl))
  try simp only [Act.put,qK,qD,qH]
  refine yj 7 (v:=?_) ?_ ?_
  rotate_left
  focus ((intro w d;(try dsimp only at d);go_simp);(try with_reducible rfl))
  try simp only [Act.put,qK,qD,qH]
  refine yj 8 (v:=?_) ?_ ?_
  rotate_left
  focus ((intro w d;(try dsimp only at d);go_simp);(try with_reducible rfl))
  try simp only [Act.put,qK,qD,qH]
  refine yj 9 (v:=?_) ?_ ?_
  rotate_left
  focus ((intro w d;(try dsimp only at d);go_simp);(try with_reducible rfl))
  try simp only [Act.put,qK,qD,qH]
  refine yj 10 (v:=?_) ?_ ?_
  rotate_left
  focus ((intro w d;(try dsimp only at d);go_simp);(try with_reducible rfl))
  try simp only [Act.put,qK,qD,qH]
  refine wpAnyH_ready (rs:=[11]) zP zE ?_;refine uH (λK hK=>?_);go_simp;refine hK.out _ _ ?_ (λhHeld=>?_)
  ·((try dsimp only);exact⟨zR _ (by show z≠g;omega) hHeld.1,zR _ (by show w.heap.size+1≠g;omega) hHeld.2⟩)
  clear hK K
  try simp only [Act.put,qK,qD,qH]
  refine wpAnyH_ready (rs:=[12]) zP zE ?_;refine uH (λK hK=>?_);go_simp;refine hK.out _ _ ?_ (λhHeld=>?_)
  ·((try dsimp only);exact⟨zR _ (by show z≠z+1;omega) hHeld.1,zR _ (by show w.heap.size+1≠z+1;omega) hHeld.2⟩)
  clear hK K
  try simp only [Act.put,qK,qD,qH]
  refine wpAnyH_done zP ?_ _;refine⟨rfl,(KeepsOthers.trans (show KeepsOthers W (W.drewN (1+nn)) from⟨qY _,λ_ _ h _=>h⟩) (KeepsOthers.setCell _ _ _)).trans (KeepsOthers.setCell _ _ _),?_⟩;have T:Below w.heap.size w (W.drewN (1+nn)):=⟨i.os,i.tape,i.output,i.size,i.block⟩;have h3:zh (((W.drewN (1+nn)).setCell ⟨g,k,none⟩ (.int .u64 (t1:Int))).setCell ⟨z+1,0,none⟩ (.int .u64 (t2:Int))) (z+1) 132 #[.int .u64 (t2:Int)]:=((h2.drewN (1+nn)).far (p:=⟨g,k,none⟩) (by show z+1≠g;omega) _).set_ 0 _;have ag:zF (W.drewN (1+nn)) 132 g c1 n L:=hR;exact ⟨⟨_,t2,HS.o,h3,fun _ => ⟨g,rfl,al,am,(ag.set_ k t1 hk).far (p:=⟨z + 1,0,none⟩) (by show g ≠ z + 1; omega) _⟩⟩,
   ((E.drewN (1+nn)).far (p:=⟨g,k,none⟩) (by show w.heap.size+1≠g;omega) _).far (p:=⟨z+1,0,none⟩) (by show w.heap.size+1≠z+1;omega) _,
   ((C.drewN (1+nn)).far (p:=⟨g,k,none⟩) (by show w.heap.size+1+1≠g;omega) _).far (p:=⟨z+1,0,none⟩) (by show w.heap.size+1+1≠z+1;omega) _,
   ((X.drewN (1+nn)).far (p:=⟨g,k,none⟩) (by show z≠g;omega) _).far (p:=⟨z+1,0,none⟩) (by show z≠z+1;omega) _,
   ((aq.drewN (1+nn)).far (p:=⟨g,k,none⟩) (by show z+1+1≠g;omega) _).far (p:=⟨z+1,0,none⟩) (by show z+1+1≠z+1;omega) _,
   (T.setCell (p:=⟨g,k,none⟩) (by show w.heap.size<=g;omega) _).setCell (p:=⟨z+1,0,none⟩) (by show w.heap.size<=z+1;omega) _⟩
 case done=>
  intro D W hD h hK;have i:=h.below;have C:=h.res;have cq:W.cell? ⟨z,0,none⟩=some (.slice A1 n c1):=h.qbox.cell 0;obtain⟨L,r,h1,h2,h3⟩:=h.row;obtain⟨hq,hr⟩:=h1.done;have cr:W.cell? ⟨z+1,0,none⟩=some (.int .u64 (r:Int)):=h2.cell 0;have o:zH W.drew W.drew.heap.size 1 A1 n (zq .u64 L):=by
   rcases QT n with e|e
   ·subst e;have hl:=h1.len;rw [QY hl];exact⟨rfl,λh=>absurd h zb⟩
   ·obtain⟨g,rfl,_,_,hR⟩:=h3 e;exact hR.drew.reads
  have HO:=uS A1 n c1 L W.drew o h1.dgs ai (by unfold maxLen at aj;omega) zb;rw [hq] at HO;rw [hr] at h2 cr;obtain⟨xq,M⟩:∃q,x / a=q:=⟨_,rfl⟩;obtain⟨xr,N⟩:∃q,x%a=q:=⟨_,rfl⟩;rw [M] at HO;rw [N] at cr;have ab:=za M;have ac:=za N;have aa:=za HO;have O:=za hK;clear h h1 h2 h3 hq hr HO o M N P HI H0 hK;go_wp2_with fail
  go_region_held3 (fun w' => w'.cell? ⟨z,0,none⟩ = some (.slice A1 n c1) ∧ w'.cell? ⟨z + 1,0,none⟩ = some (.int .u64 (xr : Int)))
   (first|(exact⟨cq,cr⟩)|(go_split_ands;(repeat' apply And.intro);all_goals (first|exact zk|exact zt hb zk|exact zR _ (by simp;omega) zk)))
   (first|(go_at_call 104;(with_reducible refine aa.o.mono ?_);rintro e w' ⟨A3,n3,c3,rfl,hw,hb,hf⟩;have m:=zf hb C.drew;have f1:=m.frozen 0;have f2:=m.cell 0))
  have an:D<W.heap.size:=(Array.getElem?_eq_some_iff.1 O.o).1;have k1:w'.heap[D]?=some (.deferred (some [])):=(hb.block D an).trans O.o;have hq1:=C.lt;have U:=World.cell?_setCell_same' w' ⟨w.heap.size+1+1,0,none⟩ (.slice A3 n3 c3) (by rw [f2];rfl);have B:=(KeepsOthers.setCell w' ⟨w.heap.size+1+1,0,none⟩ (.slice A3 n3 c3)).same D _ k1 rfl;have ak:=cell_kept U (grownBy_putObj' _ D (.deferred none)) (λr e=>by cases e;exact⟨_,B,rfl⟩);have R:Below w.heap.size w w':=i.trans ((show Below W.heap.size W w' from⟨hb.os,hb.tape,hb.output,hb.size,hb.block⟩).mono i.size);have HG : zd (Ux w (x / a) (x % a) true (.returned (.tuple #[.agg #[.slice A3 n3 c3],.int .u64 (xr : Int),.bool true])) ((w'.setCell ⟨w.heap.size + 1 + 1,0,none⟩ (.slice A3 n3 c3)).putObj D (.deferred none))) :=
   ⟨A3,n3,c3,by rw [ac.o],by rw [ab.o]; exact aI (ke hw (fun ad e => by have h1 : W.heap.size ≤ ad.block:=hf ad e; show ad.block ≠ w.heap.size + 1 + 1; omega) _) B rfl _,
    (R.setCell (p:=⟨w.heap.size+1+1,0,none⟩) (by show w.heap.size<=w.heap.size+1+1;omega) _).trans (belowK_b (w:=w) (qY _) _ D _ _ zb B rfl rfl),λad e=>by have h1:W.heap.size<=ad.block:=hf ad e;have h2:=i.size;omega⟩
  clear hb hw hf m f1 f2 R k1 U cq cr;go_wp2;refine⟨zE,.inl ⟨_,_,rfl,run_takeDeferred B,?_⟩⟩;exact⟨.tuple #[.agg #[.slice A3 n3 c3],.int .u64 (xr:Int),.bool true],by simp [results,f191,go_sem,ak],HG.o⟩
theorem Y8 (x a:Nat)(A:ze)(n c:Nat)(w:World)(hA:zn w x A n c)(hn:n<=274877906944)(ha:a<18446744073709551616)(d:a≠0):
  Calls prog 191 #[.agg #[.slice A n c],.int .u64 (a:Int)] w (fD w (x / a) (x%a) true):=
 (Tu x a A n c w hA hn ha d).mono λ_ _ ⟨A3,n3,c3,h1,h2,h3,_⟩=>⟨A3,n3,c3,h1,h2,h3⟩
attribute [local go_sem] Oper.semAt_some
theorem dL (w:World)(t:TypeId)(a b c d:Array Value):Below w.heap.size w ((((w.alloc (.cells a t)).alloc (.cells b t)).alloc (.cells c t)).alloc (.cells d t))/\zh ((((w.alloc (.cells a t)).alloc (.cells b t)).alloc (.cells c t)).alloc (.cells d t)) w.heap.size t a/\zh ((((w.alloc (.cells a t)).alloc (.cells b t)).alloc (.cells c t)).alloc (.cells d t)) (w.heap.size+1) t b/\zh ((((w.alloc (.cells a t)).alloc (.cells b t)).alloc (.cells c t)).alloc (.cells d t)) (w.heap.size+1+1) t c/\zh ((((w.alloc (.cells a t)).alloc (.cells b t)).alloc (.cells c t)).alloc (.cells d t)) (w.heap.size+1+1+1) t d/\w.heap.size+4<=((((w.alloc (.cells a t)).alloc (.cells b t)).alloc (.cells c t)).alloc (.cells d t)).heap.size:=by
 obtain⟨b1,b2,b3,b4,b5⟩:=yn w t t t a b c;have h:=zh.new (((w.alloc (.cells a t)).alloc (.cells b t)).alloc (.cells c t)) t d;rw [YH,YH,YH] at h;exact⟨xk _ b1,b2.alloc _,b3.alloc _,b4.alloc _,h,zE⟩
theorem zh.new1 (w:World)(ob:Obj)(t:TypeId)(cs:Array Value):zh ((w.alloc ob).alloc (.cells cs t)) (w.heap.size+1) t cs:=by
 have h:=zh.new (w.alloc ob) t cs;rw [YH] at h;exact h
theorem pZ {t':TypeId}{cap:Nat}{cs:Array Value}(h:zF w t g cap n L)(hb:zh w b t' cs)(a:t≠t'):g≠b:=by
 obtain⟨cur,h0,_⟩:=h;exact h0.ne_ hb a
def Qp (B0:Nat)(w:World)(ty:TypeId)(N X:Nat)(e:Ending)(w':World):Prop:=
 ∃(g:Nat) (L:List Nat),e=.returned (.slice (some ⟨g,0,none⟩) N N)/\B0<=g/\zF w' ty g N N L/\zD 18446744073709551616 L/\dv 18446744073709551616 L=X/\Below w.heap.size w w'
theorem iC.from_ {N:Nat}{ty:TypeId}{e:Ending}(h:iC w ty N X e w')(hB:B0<=w.heap.size):Qp B0 w ty N X e w':=by
 obtain⟨g,L,h1,h2,h3⟩:=h;exact⟨g,L,h1,qL hB h2,h3⟩
def Uw (w:World)(q r:Nat)(e:Ending)(w':World):Prop:=∃(A:ze) (n c:Nat) (B:ze) (m d:Nat),e=.returned (.tuple #[.agg #[.slice A n c],.agg #[.slice B m d]])/\zn w' q A n c/\zn w' r B m d/\Below w.heap.size w w'
theorem yu.row {cap:Nat}(h:yu g w w')(hR:zF w t b cap n L)(c:b≠g):zF w' t b cap n L:=by
 obtain⟨a,h0,h1⟩:=hR;exact⟨a,h.blk h0 c,h1⟩
theorem zF.readsB {cap:Nat}(h:zF w t g cap n L)(hb:g<B0):zH w B0 1 (some ⟨g,0,none⟩) n (zq .u64 L):=
 ⟨h.reads.1,λhn=>by
  obtain⟨ad,e,_,hc⟩:=h.reads.2 hn;cases e;exact⟨_,rfl,hb,hc⟩⟩
structure fL (X Y m n K gd gx gq b7 b8 b9 bs:Nat)(Ld:List Nat)(w:World)(k:Nat)(W:World):Prop where
 row:∃L Q,og X Y m k K L Q/\(∀j,j<k->Q.getD j 0=0)/\zF W 132 gx (n+1) (n+1) L/\zF W 132 gq K K Q
 div:zF W 132 gd m m Ld
 x7:zh W b7 35 #[.slice (some ⟨gd,0,none⟩) m m]
 x8:zh W b8 35 #[.slice (some ⟨gx,0,none⟩) (n+1) (n+1)]
 x9:zh W b9 35 #[.slice (some ⟨gq,0,none⟩) K K]
 xs:zh W bs 35 #[.slice (some ⟨gq,0,none⟩) K K]
 r4:zh W (w.heap.size+1+1) 37 #[.slice none 0 0]
 r5:zh W (w.heap.size+1+1+1) 37 #[.slice none 0 0]
 below:Below w.heap.size w W
theorem fL.own {Y K gd gx gq b7 b8 b9 bs:Nat}{Ld:List Nat}(hB:w.heap.size<=B)(k:Nat):OwnFrom B (fun(_:Unit) W=>fL X Y m n K gd gx gq b7 b8 b9 bs Ld w k W):=by
 intro _ W W' row h hg hr;obtain⟨L,Q,h1,h2,h3,h4⟩:=h.row;exact⟨⟨L,Q,h1,h2,ir h3 hg hr,ir h4 hg hr⟩,ir h.div hg hr,uo h.x7 hg hr,uo h.x8 hg hr,uo h.x9 hg hr,uo h.xs hg hr,uo h.r4 hg hr,uo h.r5 hg hr,fZ h.below (qY _) hB hg hr⟩
theorem TR (x d:Nat)(A D:ze)(n m c ce:Nat)(w:World)(hA:zn w x A n c)(hD:zn w d D m ce)(hm:2<=m)(hmn:m<=n)(hn:n<=274877906944):
  Calls prog 192 #[.agg #[.slice A n c],.agg #[.slice D m ce]] w (Uw w (x / d) (x%d)):=by
 have cv:=hD.len;have a4:=hA.len;obtain⟨up,a2,G,y,z⟩:=nY (d:=d) (m:=m - 1) zb;rw [show m - 1+1=m from by omega] at y;have hK:∃K,K=n - m+1:=⟨_,rfl⟩;obtain⟨K,hK⟩:=hK;have o:=Rp (x:=x) (d:=d) (n:=n) (m:=m - 1) (k:=K) (up:=up) a4 zb zb;have ao:(dg 18446744073709551616 (2^up*d)).length<=m:=wy zg _ _ y;have ap:=qe (up:=up) a4 G;have HA:=zj w (λw' hb=>hA.below hb);have HD:=zj w (λw' hb=>hD.below hb);obtain⟨t,ht⟩:∃t,wd d (m - 1)=t:=⟨_,rfl⟩;have dh:=wF d (m - 1);rw [ht] at dh a2;have av:=λw' (hb:Below w.heap.size w w')=>ki d D m ce (m - 1) w' (HD.o w' hb);rw [ht,show((m - 1:Nat):Int)=(m:Int) - 1 from by omega] at av;have aq:=λw'=>Ok (t:Int) ⟨zb,zb⟩ w';rw [a2] at aq;have cq:=za av;clear av;have cj:=za aq;clear aq;have ag:=PY x d up;obtain⟨X,hX⟩:∃X,2^up*x=X:=⟨_,rfl⟩;obtain⟨Y,hY⟩:∃Y,2^up*d=Y:=⟨_,rfl⟩;have ar:=λw' (hb:Below w.heap.size w w')=>Y9 d up m D m ce w' (HD.o w' hb) zb G ao zb;have ah:=λw' (hb:Below w.heap.size w w')=>Y9 x up (n+1) A n c w' (HA.o w' hb) hn G ap zb;rw [show((n+1:Nat):Int)=(n:Int)+1 from by omega] at ah;rw [hY] at ar y z o ag;rw [hX] at ah o ag;have ck:=za ar;clear ar;have cl:=za ah;clear ah;have HN:=za ag;have HF:=za o;have cg:=za y;have ch:=za z;have HK:=za hK;clear ag cv a4 a2 y z o ao ap ht hX hY hK hA hD G;refine(callsIn_wide (n:=3)).1 ?_;refine callsIn_of_wp_marks func192 rfl trivial ?_ rfl;simp only [ntmps192,XG,xP,YB,Nat.reduceAdd,Nat.reduceSub,YC,YE,List.push_toArray,YT,yK,YD];refine wpIn_wide.2 ?_;go_wp2_with fail;obtain⟨hB,b2,b3,k4,k5,b6⟩:=dL w 37 #[.slice A n c] #[.slice D m ce] #[.slice none 0 0] #[.slice none 0 0];generalize hW:(((w.alloc (.cells #[.slice A n c] 37)).alloc (.cells #[.slice D m ce] 37)).alloc (.cells #[.slice none 0 0] 37)).alloc (.cells #[.slice none 0 0] 37)=W0 at*;have g2:W0.cell? ⟨w.heap.size,0,none⟩=some (.slice A n c):=b2.cell 0;have g3:W0.cell? ⟨w.heap.size+1,0,none⟩=some (.slice D m ce):=b3.cell 0;clear hW b2 b3;have C1:=zj W0 (λw' hb=>cq.o w' (zc hB hb));have i1:IntKind.i64.wrap ((m:Int) - 1)=(m:Int) - 1:=QO _ zb;have u:Below W0.heap.size W0 W0.drew:=(qZ _ W0).drew;have j3:W0.drew.cell? ⟨w.heap.size+1,0,none⟩=some (.slice D m ce):=g3;obtain⟨R,hI,hE⟩:∃R:Exit->Act->World->Prop,(∀  (wc:World),Below W0.heap.size W0 wc->R .normal {tmps:=#[.agg #[.slice A n c],.agg #[.slice D m ce],.pointer (some ⟨w.heap.size,0,none⟩),.pointer (some ⟨w.heap.size+1,0,none⟩),.pointer (some ⟨w.heap.size+1+1,0,none⟩),.pointer (some ⟨w.heap.size+1+1+1,0,none⟩),.int .i64 (up:Int),undef,undef,undef,undef,.agg #[.slice D m ce],.agg #[.slice D m ce],.int .i64 (m:Int),.int .i64 ((m:Int) - 1),.int .u64 (t:Int),.int .i64 (up:Int),undef,undef,undef,undef,undef,undef,undef,undef,undef,undef,undef,undef,undef,undef,undef,undef,undef,undef,undef,undef,undef,undef,undef,undef,undef,undef,undef,undef,undef,undef,undef,undef,undef,undef,undef,undef,undef,undef,undef,undef,undef],defers:=[]} wc)/\(∀e a' wc,R e a' wc->e=.normal/\a'={tmps:=#[.agg #[.slice A n c],.agg #[.slice D m ce],.pointer (some ⟨w.heap.size,0,none⟩),.pointer (some ⟨w.heap.size+1,0,none⟩),.pointer (some ⟨w.heap.size+1+1,0,none⟩),.pointer (some ⟨w.heap.size+1+1+1,0,none⟩),.int .i64 (up:Int),undef,undef,undef,undef,.agg #[.slice D m ce],.agg #[.slice D m ce],.int .i64 (m:Int),.int .i64 ((m:Int) - 1),.int .u64 (t:Int),.int .i64 (up:Int),undef,undef,undef,undef,undef,undef,undef,undef,undef,undef,undef,undef,undef,undef,undef,undef,undef,undef,undef,undef,undef,undef,undef,undef,undef,undef,undef,undef,undef,undef,undef,undef,undef,undef,undef,undef,undef,undef,undef,undef,undef],defers:=[]}/\Below W0.heap.size W0 wc):=⟨λe a' wc=>e=.normal/\a'={tmps:=#[.agg #[.slice A n c],.agg #[.slice D m ce],.pointer (some ⟨w.heap.size,0,none⟩),.pointer (some ⟨w.heap.size+1,0,none⟩),.pointer (some ⟨w.heap.size+1+1,0,none⟩),.pointer (some ⟨w.heap.size+1+1+1,0,none⟩),.int .i64 (up:Int),undef,undef,undef,undef,.agg #[.slice D m ce],.agg #[.slice D m ce],.int .i64 (m:Int),.int .i64 ((m:Int) - 1),.int .u64 (t:Int),.int .i64 (up:Int),undef,undef,undef,undef,undef,undef,undef,undef,undef,undef,undef,undef,undef,undef,undef,undef,undef,undef,undef,undef,undef,undef,undef,undef,undef,undef,undef,undef,undef,undef,undef,undef,undef,undef,undef,undef,undef,undef,undef,undef,undef],defers:=[]}/\Below W0.heap.size W0 wc,fun  wc c0=>⟨rfl,rfl,c0⟩,λ_ _ _ h=>h⟩;have HI:=za hI;have HE:=za hE;clear hI hE;refine wp_mono (Q:=R) ?_ ?_
 ·go_region_held3 (fun w' => Below W0.heap.size W0 w' ∧ w'.cell? ⟨w.heap.size + 1,0,none⟩ = some (.slice D m ce))
   (first|(with_reducible exact⟨u,j3⟩)|(go_split_ands;(repeat' apply And.intro);all_goals (first|exact zk|with_reducible exact zc zk hb|with_reducible exact zt hb zk|with_reducible exact xk _ zk|with_reducible exact xk _ (xk _ zk)|with_reducible exact xt _ (xt _ zk)|with_reducible exact Below.drew (xk _ zk)|with_reducible exact(cell_drew_own _ _).trans (xt _ zk)|with_reducible exact xt _ zk|with_reducible exact zz _ (by first|(simp;done)|(simp;omega)) zk|with_reducible exact zR _ (by first|(simp;done)|(simp;omega)) zk)))
   (first
     |(go_at_call 102;(with_reducible refine(vN 0 _ _ _ _).mono ?_);rintro e w' ⟨rfl,hb⟩)
     |(go_at_call 164;(with_reducible refine(C1.o _ (by first|exact zk|exact XV zk)).mono ?_);rintro e w' ⟨rfl,hb⟩)
     |(go_at_call 202;(with_reducible refine(cj.o _).mono ?_);rintro e w' ⟨rfl,rfl⟩))
  all_goals (
   go_split_ands
   refine HI.o _ ?_
   ·exact zk)
 ·intro e a' W hr;obtain⟨rfl,rfl,r0⟩:=HE.o e a' W hr;clear hr HI HE R;have hB:=zc hB r0;obtain⟨g2,g3⟩:=xc r0 g2 g3;obtain⟨k4,k5⟩:=yq r0 k4 k5;have b6:=qL b6 r0.size;clear r0 C1 i1 u j3;go_wp2_with fail;have C:=zj W (λw' hb=>(ck.o w' (zc hB hb)).mono (λe dm h=>iC.from_ h hb.size));have u:Below W.heap.size W W.drew:=(qZ _ W).drew;have j3:W.drew.cell? ⟨w.heap.size+1,0,none⟩=some (.slice D m ce):=g3;have ac:w.heap.size+1<W.heap.size:=xQ W ⟨w.heap.size+1,0,none⟩ g3;generalize U:W=W1 at*;clear U;have bb:Below W1.heap.size W1 W1:=qZ _ _;obtain⟨R,hI,hE⟩:∃R:Exit->Act->World->Prop,(∀(b7:Nat) (gd:Nat) (Ld:List Nat) (wc:World),Below W1.heap.size W1 wc->zh wc b7 35 #[.slice (some ⟨gd,0,none⟩) (m) (m)]->zF wc 132 gd (m) (m) Ld->W1.heap.size<=gd->zD 18446744073709551616 Ld->dv 18446744073709551616 Ld=Y->R .normal {tmps:=#[.agg #[.slice A n c],.agg #[.slice D m ce],.pointer (some ⟨w.heap.size,0,none⟩),.pointer (some ⟨w.heap.size+1,0,none⟩),.pointer (some ⟨w.heap.size+1+1,0,none⟩),.pointer (some ⟨w.heap.size+1+1+1,0,none⟩),.int .i64 (up:Int),.pointer (some ⟨b7,0,none⟩),undef,undef,undef,.agg #[.slice D m ce],.agg #[.slice D m ce],.int .i64 (m:Int),.int .i64 ((m:Int) - 1),.int .u64 (t:Int),.int .i64 (up:Int),.agg #[.slice D m ce],.int .i64 (up:Int),.agg #[.slice D m ce],.int .i64 (m:Int),.slice (some ⟨gd,0,none⟩) m m,undef,undef,undef,undef,undef,undef,undef,undef,undef,undef,undef,undef,undef,undef,undef,undef,undef,undef,undef,undef,undef,undef,undef,undef,undef,undef,undef,undef,undef,undef,undef,undef,undef,undef,undef,undef],defers:=[]} wc)/\(∀e a' wc,R e a' wc->e=.normal/\∃(b7:Nat),∃(gd:Nat),∃(Ld:List Nat),a'={tmps:=#[.agg #[.slice A n c],.agg #[.slice D m ce],.pointer (some ⟨w.heap.size,0,none⟩),.pointer (some ⟨w.heap.size+1,0,none⟩),.pointer (some ⟨w.heap.size+1+1,0,none⟩),.pointer (some ⟨w.heap.size+1+1+1,0,none⟩),.int .i64 (up:Int),.pointer (some ⟨b7,0,none⟩),undef,undef,undef,.agg #[.slice D m ce],.agg #[.slice D m ce],.int .i64 (m:Int),.int .i64 ((m:Int) - 1),.int .u64 (t:Int),.int .i64 (up:Int),.agg #[.slice D m ce],.int .i64 (up:Int),.agg #[.slice D m ce],.int .i64 (m:Int),.slice (some ⟨gd,0,none⟩) m m,undef,undef,undef,undef,undef,undef,undef,undef,undef,undef,undef,undef,undef,undef,undef,undef,undef,undef,undef,undef,undef,undef,undef,undef,undef,undef,undef,undef,undef,undef,undef,undef,undef,undef,undef,undef],defers:=[]}/\Below W1.heap.size W1 wc/\zh wc b7 35 #[.slice (some ⟨gd,0,none⟩) (m) (m)]/\zF wc 132 gd (m) (m) Ld/\W1.heap.size<=gd/\zD 18446744073709551616 Ld/\dv 18446744073709551616 Ld=Y):=⟨λe a' wc=>e=.normal/\∃(b7:Nat),∃(gd:Nat),∃(Ld:List Nat),a'={tmps:=#[.agg #[.slice A n c],.agg #[.slice D m ce],.pointer (some ⟨w.heap.size,0,none⟩),.pointer (some ⟨w.heap.size+1,0,none⟩),.pointer (some ⟨w.heap.size+1+1,0,none⟩),.pointer (some ⟨w.heap.size+1+1+1,0,none⟩),.int .i64 (up:Int),.pointer (some ⟨b7,0,none⟩),undef,undef,undef,.agg #[.slice D m ce],.agg #[.slice D m ce],.int .i64 (m:Int),.int .i64 ((m:Int) - 1),.int .u64 (t:Int),.int .i64 (up:Int),.agg #[.slice D m ce],.int .i64 (up:Int),.agg #[.slice D m ce],.int .i64 (m:Int),.slice (some ⟨gd,0,none⟩) m m,undef,undef,undef,undef,undef,undef,undef,undef,undef,undef,undef,undef,undef,undef,undef,undef,undef,undef,undef,undef,undef,undef,undef,undef,undef,undef,undef,undef,undef,undef,undef,undef,undef,undef,undef,undef],defers:=[]}/\Below W1.heap.size W1 wc/\zh wc b7 35 #[.slice (some ⟨gd,0,none⟩) (m) (m)]/\zF wc 132 gd (m) (m) Ld/\W1.heap.size<=gd/\zD 18446744073709551616 Ld/\dv 18446744073709551616 Ld=Y,λb7 gd Ld wc c0 c1 c2 c3 c4 c5=>⟨rfl,b7,gd,Ld,rfl,c0,c1,c2,c3,c4,c5⟩,λ_ _ _ h=>h⟩;have HI:=za hI;have HE:=za hE;clear hI hE;refine wp_mono (Q:=R) ?_ ?_
  ·go_region_held3 (fun w' => Below W1.heap.size W1 w' ∧ w'.cell? ⟨w.heap.size + 1,0,none⟩ = some (.slice D m ce))
    (first|(with_reducible exact⟨u,j3⟩)|(go_split_ands;(repeat' apply And.intro);all_goals (first|exact zk|with_reducible exact zc zk hb|with_reducible exact zt hb zk|with_reducible exact xk _ zk|with_reducible exact xk _ (xk _ zk)|with_reducible exact xt _ (xt _ zk)|with_reducible exact Below.drew (xk _ zk)|with_reducible exact(cell_drew_own _ _).trans (xt _ zk)|with_reducible exact xt _ zk|with_reducible exact zz _ (by first|(simp;done)|(simp;omega)) zk|with_reducible exact zR _ (by first|(simp;done)|(simp;omega)) zk)))
    (first
      |(go_at_call 102;(with_reducible refine(vN 0 _ _ _ _).mono ?_);rintro e w' ⟨rfl,hb⟩;go_split_ands;(have T:Below W1.heap.size W1 w':=zc zk hb);(have bi:=T.size);(first|(with_reducible have hz:=zf hb hz)|(with_reducible have hz:=zf hb (zh.new _ _ _))|(with_reducible have hz:=zf hb (zh.new _ _ _).drew)|skip))
      |(go_at_call 203;(with_reducible refine(C.o _ (by first|exact zk|exact XV zk)).mono ?_);rintro e w' ⟨gr,Lr,rfl,cx,s,cw,di,hb⟩;go_split_ands;(have cs:Below W1.heap.size W1 w':=zc zk hb);(have cu:w'.cell? ⟨w.heap.size+1,0,none⟩=some (.slice D m ce):=zt hb zk);(first|(with_reducible have hz:=zf hb hz)|(with_reducible have hz:=zf hb (zh.new _ _ _))|(with_reducible have hz:=zf hb (zh.new _ _ _).drew)|skip);(try (have q1:=hz.cell 0));(try (have q2:=hz.frozen 0))))
   all_goals (
    go_split_ands
    refine HI.out _ _ Lr _ ?_ ?_ ?_ ?_ ?_ ?_
    ·exact zk
    ·(first|with_reducible exact zh.new _ _ _|exact hz.set_ 0 _)
    ·(first|with_reducible exact s.far (pZ s hz zg) _|with_reducible exact s.alloc _|with_reducible exact(s.alloc _).far (by have:=s.lt;simp;omega) _)
    ·exact zk
    ·exact zk
    ·exact zk)
  ·intro e a' W hr;obtain⟨rfl,b7,gd,Ld,rfl,r0,r1,r2,r3,r4,r5⟩:=HE.o e a' W hr;clear hr HI HE R;have hgd4:w.heap.size+4<=gd:=qL b6 r3;have hB:=zc hB r0;obtain⟨g2,g3⟩:=xc r0 g2 g3;obtain⟨k4,k5⟩:=yq r0 k4 k5;have b6:=qL b6 r0.size;obtain⟨J,E,hgd,bd,bq⟩:=And.intro r1 (And.intro r2 (And.intro r3 (And.intro r4 r5)));clear r0 r1 r2 r3 r4 r5 C u j3 ac;go_wp2_with fail;have bf:=E.lt;have i2:IntKind.i64.wrap ((n:Int)+1)=(n:Int)+1:=QO _ zb;have C:=zj W (λw' hb=>(cl.o w' (zc hB hb)).mono (λe dm h=>iC.from_ h hb.size));have u:Below W.heap.size W W.drew:=(qZ _ W).drew;have j3:W.drew.cell? ⟨w.heap.size,0,none⟩=some (.slice A n c):=g2;have ac:w.heap.size<W.heap.size:=xQ W ⟨w.heap.size,0,none⟩ g2;generalize U:W=W1 at*;clear U;have bb:Below W1.heap.size W1 W1:=qZ _ _;obtain⟨R,hI,hE⟩:∃R:Exit->Act->World->Prop,(∀(b8:Nat) (gx:Nat) (Lx:List Nat) (wc:World),Below W1.heap.size W1 wc->zh wc b8 35 #[.slice (some ⟨gx,0,none⟩) (n+1) (n+1)]->zF wc 132 gx (n+1) (n+1) Lx->W1.heap.size<=gx->zD 18446744073709551616 Lx->dv 18446744073709551616 Lx=X->R .normal {tmps:=#[.agg #[.slice A n c],.agg #[.slice D m ce],.pointer (some ⟨w.heap.size,0,none⟩),.pointer (some ⟨w.heap.size+1,0,none⟩),.pointer (some ⟨w.heap.size+1+1,0,none⟩),.pointer (some ⟨w.heap.size+1+1+1,0,none⟩),.int .i64 (up:Int),.pointer (some ⟨b7,0,none⟩),.pointer (some ⟨b8,0,none⟩),undef,undef,.agg #[.slice D m ce],.agg #[.slice D m ce],.int .i64 (m:Int),.int .i64 ((m:Int) - 1),.int .u64 (t:Int),.int .i64 (up:Int),.agg #[.slice D m ce],.int .i64 (up:Int),.agg #[.slice D m ce],.int .i64 (m:Int),.slice (some ⟨gd,0,none⟩) m m,.agg #[.slice A n c],.int .i64 (up:Int),.agg #[.slice A n c],.int .i64 (n:Int),.int .i64 ((n:Int)+1),.slice (some ⟨gx,0,none⟩) (n+1) (n+1),undef,undef,undef,undef,undef,undef,undef,undef,undef,undef,undef,undef,undef,undef,undef,undef,undef,undef,undef,undef,undef,undef,undef,undef,undef,undef,undef,undef,undef,undef],defers:=[]} wc)/\(∀e a' wc,R e a' wc->e=.normal/\∃(b8:Nat),∃(gx:Nat),∃(Lx:List Nat),a'={tmps:=#[.agg #[.slice A n c],.agg #[.slice D m ce],.pointer (some ⟨w.heap.size,0,none⟩),.pointer (some ⟨w.heap.size+1,0,none⟩),.pointer (some ⟨w.heap.size+1+1,0,none⟩),.pointer (some ⟨w.heap.size+1+1+1,0,none⟩),.int .i64 (up:Int),.pointer (some ⟨b7,0,none⟩),.pointer (some ⟨b8,0,none⟩),undef,undef,.agg #[.slice D m ce],.agg #[.slice D m ce],.int .i64 (m:Int),.int .i64 ((m:Int) - 1),.int .u64 (t:Int),.int .i64 (up:Int),.agg #[.slice D m ce],.int .i64 (up:Int),.agg #[.slice D m ce],.int .i64 (m:Int),.slice (some ⟨gd,0,none⟩) m m,.agg #[.slice A n c],.int .i64 (up:Int),.agg #[.slice A n c],.int .i64 (n:Int),.int .i64 ((n:Int)+1),.slice (some ⟨gx,0,none⟩) (n+1) (n+1),undef,undef,undef,undef,undef,undef,undef,undef,undef,undef,undef,undef,undef,undef,undef,undef,undef,undef,undef,undef,undef,undef,undef,undef,undef,undef,undef,undef,undef,undef],defers:=[]}/\Below W1.heap.size W1 wc/\zh wc b8 35 #[.slice (some ⟨gx,0,none⟩) (n+1) (n+1)]/\zF wc 132 gx (n+1) (n+1) Lx/\W1.heap.size<=gx/\zD 18446744073709551616 Lx/\dv 18446744073709551616 Lx=X):=⟨λe a' wc=>e=.normal/\∃(b8:Nat),∃(gx:Nat),∃(Lx:List Nat),a'={tmps:=#[.agg #[.slice A n c],.agg #[.slice D m ce],.pointer (some ⟨w.heap.size,0,none⟩),.pointer (some ⟨w.heap.size+1,0,none⟩),.pointer (some ⟨w.heap.size+1+1,0,none⟩),.pointer (some ⟨w.heap.size+1+1+1,0,none⟩),.int .i64 (up:Int),.pointer (some ⟨b7,0,none⟩),.pointer (some ⟨b8,0,none⟩),undef,undef,.agg #[.slice D m ce],.agg #[.slice D m ce],.int .i64 (m:Int),.int .i64 ((m:Int) - 1),.int .u64 (t:Int),.int .i64 (up:Int),.agg #[.slice D m ce],.int .i64 (up:Int),.agg #[.slice D m ce],.int .i64 (m:Int),.slice (some ⟨gd,0,none⟩) m m,.agg #[.slice A n c],.int .i64 (up:Int),.agg #[.slice A n c],.int .i64 (n:Int),.int .i64 ((n:Int)+1),.slice (some ⟨gx,0,none⟩) (n+1) (n+1),undef,undef,undef,undef,undef,undef,undef,undef,undef,undef,undef,undef,undef,undef,undef,undef,undef,undef,undef,undef,undef,undef,undef,undef,undef,undef,undef,undef,undef,undef],defers:=[]}/\Below W1.heap.size W1 wc/\zh wc b8 35 #[.slice (some ⟨gx,0,none⟩) (n+1) (n+1)]/\zF wc 132 gx (n+1) (n+1) Lx/\W1.heap.size<=gx/\zD 18446744073709551616 Lx/\dv 18446744073709551616 Lx=X,λb8 gx Lx wc c0 c1 c2 c3 c4 c5=>⟨rfl,b8,gx,Lx,rfl,c0,c1,c2,c3,c4,c5⟩,λ_ _ _ h=>h⟩;have HI:=za hI;have HE:=za hE;clear hI hE;refine wp_mono (Q:=R) ?_ ?_
   ·go_region_held3 (fun w' => Below W1.heap.size W1 w' ∧ w'.cell? ⟨w.heap.size,0,none⟩ = some (.slice A n c))
     (first|(with_reducible exact⟨u,j3⟩)|(go_split_ands;(repeat' apply And.intro);all_goals (first|exact zk|with_reducible exact zc zk hb|with_reducible exact zt hb zk|with_reducible exact xk _ zk|with_reducible exact xk _ (xk _ zk)|with_reducible exact xt _ (xt _ zk)|with_reducible exact Below.drew (xk _ zk)|with_reducible exact(cell_drew_own _ _).trans (xt _ zk)|with_reducible exact xt _ zk|with_reducible exact zz _ (by first|(simp;done)|(simp;omega)) zk|with_reducible exact zR _ (by first|(simp;done)|(simp;omega)) zk)))
     (first
       |(go_at_call 102;(with_reducible refine(vN 0 _ _ _ _).mono ?_);rintro e w' ⟨rfl,hb⟩;go_split_ands;(have T:Below W1.heap.size W1 w':=zc zk hb);(have bi:=T.size);(first|(with_reducible have hz:=zf hb hz)|(with_reducible have hz:=zf hb (zh.new _ _ _))|(with_reducible have hz:=zf hb (zh.new _ _ _).drew)|skip))
       |(go_at_call 203;(with_reducible refine(C.o _ (by first|exact zk|exact XV zk)).mono ?_);rintro e w' ⟨gr,Lr,rfl,cx,s,cw,di,hb⟩;go_split_ands;(have cs:Below W1.heap.size W1 w':=zc zk hb);(have cu:w'.cell? ⟨w.heap.size,0,none⟩=some (.slice A n c):=zt hb zk);(first|(with_reducible have hz:=zf hb hz)|(with_reducible have hz:=zf hb (zh.new _ _ _))|(with_reducible have hz:=zf hb (zh.new _ _ _).drew)|skip);(try (have q1:=hz.cell 0));(try (have q2:=hz.frozen 0))))
    all_goals (
     go_split_ands
     refine HI.out _ _ Lr _ ?_ ?_ ?_ ?_ ?_ ?_
     ·exact zk
     ·(first|with_reducible exact zh.new _ _ _|exact hz.set_ 0 _)
     ·(first|with_reducible exact s.far (pZ s hz zg) _|with_reducible exact s.alloc _|with_reducible exact(s.alloc _).far (by have:=s.lt;simp;omega) _)
     ·exact zk
     ·exact zk
     ·exact zk)
   ·intro e a' W hr;obtain⟨rfl,b8,gx,Lx,rfl,r0,r1,r2,r3,r4,r5⟩:=HE.o e a' W hr;clear hr HI HE R;have bw:gd<gx:=qJ bf r3;have hB:=zc hB r0;obtain⟨g2,g3⟩:=xc r0 g2 g3;obtain⟨k4,k5⟩:=yq r0 k4 k5;have b6:=qL b6 r0.size;have J:=zf r0 J;have E:=E.keep r0;obtain⟨ai,I,hgx,be,br⟩:=And.intro r1 (And.intro r2 (And.intro r3 (And.intro r4 r5)));clear r0 r1 r2 r3 r4 r5 C u j3 ac;go_wp2_with fail;have bg:=I.lt;obtain⟨i0,bh,bz,b0,b1⟩:=info_parts ol;obtain⟨Z,hZ⟩:∃Z,madeCells (Value.cells (.int .u64 0)) K=Z:=⟨_,rfl⟩;have a9:(n:Int) - (m:Int)+1=(K:Int):=by have:=HK.o;omega
    have c6:∀W:World,(Instr.makeSlice 35 (.int .i64 ((n:Int) - (m:Int)+1)) (.int .i64 ((n:Int) - (m:Int)+1))).run prog W=.ok (.slice (some ⟨W.heap.size,0,none⟩) K K) (W.alloc (.cells Z 132)):=λW=>by
     have h:=tH _ _ i0 _ underlying35 bh bz .i64 .i64 K K (qY _) (by rw [b1];have:=HK.o;omega) (by have:=HK.o;omega) W;rw [b0,xC,hZ] at h;rw [a9];exact h
    have P:=za (λW:World=>by have h:=zF.made W 132 K (by have:=HK.o;unfold maxLen;omega);rw [hZ] at h;exact h);have an:=za (fun(W:World) (ob:Obj)=>by have h:=P.o (W.alloc ob);rw [YH] at h;exact h);clear hZ a9 bh bz b0 b1;have i3:IntKind.i64.wrap ((n:Int) - (m:Int))=(n:Int) - (m:Int):=QO _ zb;have i4:IntKind.i64.wrap ((n:Int) - (m:Int)+1)=(n:Int) - (m:Int)+1:=QO _ zb;have u:Below W.heap.size W W.drew:=(qZ _ W).drew;have j2:W.drew.cell? ⟨w.heap.size,0,none⟩=some (.slice A n c):=g2;have j3:W.drew.cell? ⟨w.heap.size+1,0,none⟩=some (.slice D m ce):=g3;have ac:w.heap.size+1<W.heap.size:=xQ W ⟨w.heap.size+1,0,none⟩ g3;generalize U:W=W1 at*;clear U;have bb:Below W1.heap.size W1 W1:=qZ _ _;obtain⟨R,hI,hE⟩:∃R:Exit->Act->World->Prop,(∀(b9:Nat) (gq:Nat) (wc:World),Below W1.heap.size W1 wc->zh wc b9 35 #[.slice (some ⟨gq,0,none⟩) K K]->zF wc 132 gq K K (List.replicate K 0)->W1.heap.size<=gq->R .normal {tmps:=#[.agg #[.slice A n c],.agg #[.slice D m ce],.pointer (some ⟨w.heap.size,0,none⟩),.pointer (some ⟨w.heap.size+1,0,none⟩),.pointer (some ⟨w.heap.size+1+1,0,none⟩),.pointer (some ⟨w.heap.size+1+1+1,0,none⟩),.int .i64 (up:Int),.pointer (some ⟨b7,0,none⟩),.pointer (some ⟨b8,0,none⟩),.pointer (some ⟨b9,0,none⟩),undef,.agg #[.slice D m ce],.agg #[.slice D m ce],.int .i64 (m:Int),.int .i64 ((m:Int) - 1),.int .u64 (t:Int),.int .i64 (up:Int),.agg #[.slice D m ce],.int .i64 (up:Int),.agg #[.slice D m ce],.int .i64 (m:Int),.slice (some ⟨gd,0,none⟩) m m,.agg #[.slice A n c],.int .i64 (up:Int),.agg #[.slice A n c],.int .i64 (n:Int),.int .i64 ((n:Int)+1),.slice (some ⟨gx,0,none⟩) (n+1) (n+1),.agg #[.slice A n c],.int .i64 (n:Int),.agg #[.slice D m ce],.int .i64 (m:Int),.int .i64 ((n:Int) - (m:Int)),.int .i64 ((n:Int) - (m:Int)+1),.slice (some ⟨gq,0,none⟩) K K,undef,undef,undef,undef,undef,undef,undef,undef,undef,undef,undef,undef,undef,undef,undef,undef,undef,undef,undef,undef,undef,undef,undef],defers:=[]} wc)/\(∀e a' wc,R e a' wc->e=.normal/\∃(b9:Nat),∃(gq:Nat),a'={tmps:=#[.agg #[.slice A n c],.agg #[.slice D m ce],.pointer (some ⟨w.heap.size,0,none⟩),.pointer (some ⟨w.heap.size+1,0,none⟩),.pointer (some ⟨w.heap.size+1+1,0,none⟩),.pointer (some ⟨w.heap.size+1+1+1,0,none⟩),.int .i64 (up:Int),.pointer (some ⟨b7,0,none⟩),.pointer (some ⟨b8,0,none⟩),.pointer (some ⟨b9,0,none⟩),undef,.agg #[.slice D m ce],.agg #[.slice D m ce],.int .i64 (m:Int),.int .i64 ((m:Int) - 1),.int .u64 (t:Int),.int .i64 (up:Int),.agg #[.slice D m ce],.int .i64 (up:Int),.agg #[.slice D m ce],.int .i64 (m:Int),.slice (some ⟨gd,0,none⟩) m m,.agg #[.slice A n c],.int .i64 (up:Int),.agg #[.slice A n c],.int .i64 (n:Int),.int .i64 ((n:Int)+1),.slice (some ⟨gx,0,none⟩) (n+1) (n+1),.agg #[.slice A n c],.int .i64 (n:Int),.agg #[.slice D m ce],.int .i64 (m:Int),.int .i64 ((n:Int) - (m:Int)),.int .i64 ((n:Int) - (m:Int)+1),.slice (some ⟨gq,0,none⟩) K K,undef,undef,undef,undef,undef,undef,undef,undef,undef,undef,undef,undef,undef,undef,undef,undef,undef,undef,undef,undef,undef,undef,undef],defers:=[]}/\Below W1.heap.size W1 wc/\zh wc b9 35 #[.slice (some ⟨gq,0,none⟩) K K]/\zF wc 132 gq K K (List.replicate K 0)/\W1.heap.size<=gq):=⟨λe a' wc=>e=.normal/\∃(b9:Nat),∃(gq:Nat),a'={tmps:=#[.agg #[.slice A n c],.agg #[.slice D m ce],.pointer (some ⟨w.heap.size,0,none⟩),.pointer (some ⟨w.heap.size+1,0,none⟩),.pointer (some ⟨w.heap.size+1+1,0,none⟩),.pointer (some ⟨w.heap.size+1+1+1,0,none⟩),.int .i64 (up:Int),.pointer (some ⟨b7,0,none⟩),.pointer (some ⟨b8,0,none⟩),.pointer (some ⟨b9,0,none⟩),undef,.agg #[.slice D m ce],.agg #[.slice D m ce],.int .i64 (m:Int),.int .i64 ((m:Int) - 1),.int .u64 (t:Int),.int .i64 (up:Int),.agg #[.slice D m ce],.int .i64 (up:Int),.agg #[.slice D m ce],.int .i64 (m:Int),.slice (some ⟨gd,0,none⟩) m m,.agg #[.slice A n c],.int .i64 (up:Int),.agg #[.slice A n c],.int .i64 (n:Int),.int .i64 ((n:Int)+1),.slice (some ⟨gx,0,none⟩) (n+1) (n+1),.agg #[.slice A n c],.int .i64 (n:Int),.agg #[.slice D m ce],.int .i64 (m:Int),.int .i64 ((n:Int) - (m:Int)),.int .i64 ((n:Int) - (m:Int)+1),.slice (some ⟨gq,0,none⟩) K K,undef,undef,undef,undef,undef,undef,undef,undef,undef,undef,undef,undef,undef,undef,undef,undef,undef,undef,undef,undef,undef,undef,undef],defers:=[]}/\Below W1.heap.size W1 wc/\zh wc b9 35 #[.slice (some ⟨gq,0,none⟩) K K]/\zF wc 132 gq K K (List.replicate K 0)/\W1.heap.size<=gq,λb9 gq wc c0 c1 c2 c3=>⟨rfl,b9,gq,rfl,c0,c1,c2,c3⟩,λ_ _ _ h=>h⟩;have HI:=za hI;have HE:=za hE;clear hI hE;refine wp_mono (Q:=R) ?_ ?_
    ·go_region_held3 (fun w' => Below W1.heap.size W1 w' ∧ w'.cell? ⟨w.heap.size,0,none⟩ = some (.slice A n c) ∧ w'.cell? ⟨w.heap.size + 1,0,none⟩ = some (.slice D m ce))
      (first|(with_reducible exact⟨u,j2,j3⟩)|(go_split_ands;(repeat' apply And.intro);all_goals (first|exact zk|with_reducible exact zc zk hb|with_reducible exact zt hb zk|with_reducible exact xk _ zk|with_reducible exact xk _ (xk _ zk)|with_reducible exact xt _ (xt _ zk)|with_reducible exact Below.drew (xk _ zk)|with_reducible exact(cell_drew_own _ _).trans (xt _ zk)|with_reducible exact xt _ zk|with_reducible exact zz _ (by first|(simp;done)|(simp;omega)) zk|with_reducible exact zR _ (by first|(simp;done)|(simp;omega)) zk)))
      (first
        |(go_at_call 102;(with_reducible refine(vN 0 _ _ _ _).mono ?_);rintro e w' ⟨rfl,hb⟩;go_split_ands;(have T:Below W1.heap.size W1 w':=zc zk hb);(have bi:=T.size);(have hc0:w'.cell? ⟨w.heap.size,0,none⟩=some (.slice A n c):=zt hb zk);(have hc1:w'.cell? ⟨w.heap.size+1,0,none⟩=some (.slice D m ce):=zt hb zk);  (first|(with_reducible have hz:=zf hb hz)|(with_reducible have hz:=zf hb (zh.new _ _ _))|(with_reducible have hz:=zf hb (zh.new _ _ _).drew)|skip);(try (have q1:=λob=>xt ob (hz.cell 0)));(try (have q2:=λob=>(hz.alloc ob).frozen 0))))
     all_goals (
      go_split_ands
      refine HI.out _ _ _ ?_ ?_ ?_ ?_
      ·exact zk
      ·(first|(with_reducible exact zh.new1 _ _ _ _)|(with_reducible exact(zh.new _ _ _).alloc _)|exact(hz.alloc _).set_ 0 _)
      ·(first|(with_reducible exact(P.o _).alloc _)|(with_reducible exact an.o _ _)|exact(P.o _).far (pZ (P.o _) (hz.alloc _) zg) _)
      ·(first|omega|(simp;omega)))
    ·intro e a' W hr;obtain⟨rfl,b9,gq,rfl,r0,r1,r2,r3⟩:=HE.o e a' W hr;clear hr HI HE R;have hqx:gx<gq:=qJ bg r3;have hB:=zc hB r0;obtain⟨g2,g3⟩:=xc r0 g2 g3;obtain⟨k4,k5⟩:=yq r0 k4 k5;have b6:=qL b6 r0.size;obtain⟨J,ai⟩:=yq r0 J ai;have E:=E.keep r0;have I:=I.keep r0;obtain⟨ay,au,hgq⟩:=And.intro r1 (And.intro r2 r3);clear r0 r1 r2 r3 u j2 j3 ac c6 P an i3 i4 i2;have q9:W.cell? ⟨b9,0,none⟩=some (.slice (some ⟨gq,0,none⟩) K K):=ay.cell 0;go_wp2_with fail;have b4:=zh.new W 35 #[.slice (some ⟨gq,0,none⟩) K K];refine(cM (some ⟨gq,0,none⟩) K K _).mono ?_;rintro e w2 ⟨rfl,a3⟩;have H0:=za (show fL X Y m n K gd gx gq b7 b8 b9 W.heap.size Ld w K w2 by
      rw [<-a3];have af:=HK.o;exact⟨⟨Lx,List.replicate K 0,og.start (by rw [I.len];omega) be br HF.o,λj _=>by simp [qQ,List.getElem?_replicate];split<;>rfl,I.alloc _,au.alloc _⟩,E.alloc _,J.alloc _,ai.alloc _,ay.alloc _,b4,k4.alloc _,k5.alloc _,xk _ hB⟩)
     have cr:w.heap.size<=w2.heap.size:=by rw [<-a3];have:=hB.size;simp;omega
     go_wp2_with fail;obtain⟨bs,aw⟩:∃g,W.heap.size=g:=⟨_,rfl⟩;rw [aw] at H0⊢;have hgq2:gq<bs:=by rw [<-aw];exact au.lt
     have hq3:w.heap.size+1+1+1<gd:=zb;have a7:=za bd;have ae:=za bq;clear a3 b4 aw I E au J ai ay k4 k5 hB q9 g2 g3 bd be bq br;refine(wpIn_wide (n:=3)).1 ?_;refine Wi (gf:=208) (lb:=#[.pointer (some ⟨bs,0,none⟩)]) rfl (enters_of func208 zP rfl) K (fun k => #[.int .i64 (k : Int),.int .u64 ((0 : Nat) : Int)]) (fun _ => rfl)
      (λk W=>fL X Y m n K gd gx gq b7 b8 b9 bs Ld w k W) (λk=>fL.own cr k) H0.o
      (Yc bs K K (some ⟨gq,0,none⟩) (λ_=>0) _ (by have:=HK.o;omega) (λk W h=>h.xs.cell 0) ?cells)
      (λk=>{tmps:=#[.agg #[.slice A n c],.agg #[.slice D m ce],.pointer (some ⟨w.heap.size,0,none⟩),.pointer (some ⟨w.heap.size+1,0,none⟩),.pointer (some ⟨w.heap.size+1+1,0,none⟩),.pointer (some ⟨w.heap.size+1+1+1,0,none⟩),.int .i64 (up:Int),.pointer (some ⟨b7,0,none⟩),.pointer (some ⟨b8,0,none⟩),.pointer (some ⟨b9,0,none⟩),.int .i64 (k:Int),.agg #[.slice D m ce],.agg #[.slice D m ce],.int .i64 (m:Int),.int .i64 ((m:Int) - 1),.int .u64 (t:Int),.int .i64 (up:Int),.agg #[.slice D m ce],.int .i64 (up:Int),.agg #[.slice D m ce],.int .i64 (m:Int),.slice (some ⟨gd,0,none⟩) m m,.agg #[.slice A n c],.int .i64 (up:Int),.agg #[.slice A n c],.int .i64 (n:Int),.int .i64 ((n:Int)+1),.slice (some ⟨gx,0,none⟩) (n+1) (n+1),.agg #[.slice A n c],.int .i64 (n:Int),.agg #[.slice D m ce],.int .i64 (m:Int),.int .i64 ((n:Int) - (m:Int)),.int .i64 ((n:Int) - (m:Int)+1),.slice (some ⟨gq,0,none⟩) K K,.slice (some ⟨gq,0,none⟩) K K,.func (.func 208) #[] #[.pointer (some ⟨bs,0,none⟩)],.int .i64 (k:Int),.int .u64 0,undef,undef,undef,undef,undef,undef,undef,undef,undef,undef,undef,undef,undef,undef,undef,undef,undef,undef,undef],defers:=[]}) ?assign ?body ?done
     case cells=>
      intro k W hk h;obtain⟨L,Q,_,h2,_,h4⟩:=h.row;refine⟨_,rfl,?_⟩;rw [ZQ,h4.cell k hk,h2 k zb]
     case assign=>
      intro l k W K hK
      gi_wp2
      exact hK
     case body=>
      intro l k W hk h;have kd:=h.div;have k7:=h.x7;have k8:=h.x8;have k9:=h.x9;have ks:=h.xs;have k4:=h.r4;have k5:=h.r5;have V:=h.below;obtain⟨L,Q,h1,h2,h3,h4⟩:=h.row;clear h;obtain⟨pA,p,pC,rfl,bj,bl,dd,de,az,dc⟩:=h1.cut hk cg.o;have ba:0<Y:=by
       have e:=ae.o;rcases QT Y with e0|e0
       ·rw [e0,yZ] at az;omega
       ·exact e0
      have c7:W.cell? ⟨b7,0,none⟩=some (.slice (some ⟨gd,0,none⟩) m m):=k7.cell 0;have c8:W.cell? ⟨b8,0,none⟩=some (.slice (some ⟨gx,0,none⟩) (n+1) (n+1)):=k8.cell 0;have c9:W.cell? ⟨b9,0,none⟩=some (.slice (some ⟨gq,0,none⟩) K K):=k9.cell 0;have n7:gx≠b7/\gq≠b7:=⟨pZ h3 k7 zg,pZ h4 k7 zg⟩;have n8:gx≠b8/\gq≠b8:=⟨pZ h3 k8 zg,pZ h4 k8 zg⟩;have n9:gx≠b9/\gq≠b9:=⟨pZ h3 k9 zg,pZ h4 k9 zg⟩;have ns:gx≠bs/\gq≠bs:=⟨pZ h3 ks zg,pZ h4 ks zg⟩;obtain⟨ca,b5⟩:=n7;obtain⟨cc,cb⟩:=n8;obtain⟨cf,cd⟩:=n9;obtain⟨dk,dj⟩:=ns;have af:=HK.o;have ab:=TS 132 gx (n+1) (n+1) k m (n+1 - k) m ⟨gd,0,none⟩ pA p pC Ld W.drew h3 bj bl dd (kd.readsB bw) a7.o hm zb zb zb (qY _) zb (qf (m:=m - 1) (by rw [kd.len];omega) a7.o ae.o ch.o) (by rw [ae.o];exact az);unfold oV at ab;rw [ae.o] at ab;obtain⟨tq,a1⟩:∃t,dv 18446744073709551616 p / Y=t:=⟨_,rfl⟩;rw [a1] at ab;have cp:=za a1;have co:=za ab;clear ab de a1;have i1:(0:Int)<=(k:Int):=zb;have i2:(k:Int)<(K:Int):=zb;have i3:IntKind.i64.wrap ((k:Int)+(m:Int))=(k:Int)+(m:Int):=QO _ zb;have i4:IntKind.i64.wrap ((k:Int)+(m:Int)+1)=(k:Int)+(m:Int)+1:=QO _ zb;have i5:(k:Int)<=(k:Int)+(m:Int)+1:=zb;have i6:(k:Int)+(m:Int)+1<=(n:Int)+1:=zb;have i7:(0:Int)<=(k:Int)+(m:Int)+1:=zb;have i8:¬(n+1=k):=zb;have i9:((k:Int)+(m:Int)+1).toNat - k=m+1:=zb;clear af;refine wpIn_block ?_;refine Yu (S:=(λw'=>w'.cell? ⟨b7,0,none⟩=some (.slice (some ⟨gd,0,none⟩) m m)/\w'.cell? ⟨b8,0,none⟩=some (.slice (some ⟨gx,0,none⟩) (n+1) (n+1))/\w'.cell? ⟨b9,0,none⟩=some (.slice (some ⟨gq,0,none⟩) K K))) zP zP (λ_ _ h=>by cases h.1) ?_ (λhHeld=>?_)
      ·exact⟨c7,c8,c9⟩
      refine yj 0 (v:=?_) ?_ ?_
      rotate_left
      focus ((intro w a;(try dsimp only at a);go_simp);(try with_reducible rfl))
      try simp only [Act.put,qK,qD,qH]
      refine yj 1 (v:=?_) ?_ ?_
      rotate_left
      focus ((intro w a;(try dsimp only at a);go_simp);(try with_reducible rfl))
      try simp only [Act.put,qK,qD,qH]
      refine yj 2 (v:=?_) ?_ ?_
      rotate_left
      focus ((intro w a;(try dsimp only at a);go_simp);(try with_reducible rfl))
      try simp only [Act.put,qK,qD,qH]
      refine yj 3 (v:=?_) ?_ ?_
      rotate_left
      focus ((intro w a;(try dsimp only at a);go_simp);(try with_reducible rfl))
      try simp only [Act.put,qK,qD,qH]
      refine yj 4 (v:=?_) ?_ ?_
      rotate_left
      focus ((intro w a;(try dsimp only at a);go_simp);(try with_reducible rfl))
      try simp only [Act.put,qK,qD,qH]
      refine yj 5 (v:=?_) ?_ ?_
      rotate_left
      focus ((intro w a;(try dsimp only at a);go_simp);(try with_reducible rfl))
      try simp only [Act.put,qK,qD,qH]
      refine yj 6 (v:=?_) ?_ ?_
      rotate_left
      focus ((intro w a;(try dsimp only at a);go_simp);(try with_reducible rfl))
      try simp only [Act.put,qK,qD,qH]
      refine yj 7 (v:=?_) ?_ ?_
      rotate_left
      focus ((intro w a;(try dsimp only at a);go_simp);(try with_reducible rfl))
      try simp only [Act.put,qK,qD,qH]
      refine yj 8 (v:=?_) ?_ ?_
      rotate_left
      focus ((intro w a;(try dsimp only at a);go_simp);(try with_reducible rfl))
      try simp only [Act.put,qK,qD,qH]
      refine yj 9 (v:=?_) ?_ ?_
      rotate_left
      focus ((intro w a;(try dsimp only at a);go_simp);(try with_reducible rfl))
      try simp only [Act.put,qK,qD,qH]
      refine yj 10 (v:=?_) ?_ ?_
      rotate_left
      focus ((intro w a;(try dsimp only at a);go_simp);(try with_reducible rfl))
      try simp only [Act.put,qK,qD,qH]
      refine wpAnyH_ready (rs:=[11]) zP zE ?_;refine uH (λK hK=>?_);go_simp;refine co.o.mono ?_;rintro e w2 ⟨p',rfl,bm,bk,bn,ct,hO⟩;have a0:=h4.drew;have cq2:=hO.cell (a0.cell k hk) (by show gq≠gx;omega);have fq2:w2.frozen? ⟨gq,k,none⟩=false:=(World.frozen?_of_block (hO.block gq a0.lt (by intro h;injection h;omega))).trans (a0.frozen k);refine hK.out _ _ ?_ (λhHeld=>?_)
      ·((try dsimp only);exact⟨hO.cell hHeld.1 (λh=>ca h.symm),hO.cell hHeld.2.1 (λh=>cc h.symm),hO.cell hHeld.2.2 (λh=>cf h.symm)⟩)
      clear hK K
      try simp only [Act.put,qK,qD,qH]
      refine yj 12 (v:=?_) ?_ ?_
      rotate_left
      focus ((intro w a;(try dsimp only at a);go_simp);(try with_reducible rfl))
      try simp only [Act.put,qK,qD,qH]
      refine wpAnyH_ready (rs:=[13]) zP zE ?_;refine uH (λK hK=>?_);go_simp;refine hK.out _ _ ?_ (λhHeld=>?_)
      ·((try dsimp only);exact⟨zR _ (λh=>b5 h.symm) hHeld.1,zR _ (λh=>cb h.symm) hHeld.2.1,zR _ (λh=>cd h.symm) hHeld.2.2⟩)
      clear hK K
      try simp only [Act.put,qK,qD,qH]
      refine wpAnyH_done zP ?_ _;have cy:KeepsOthers W.drew w2:=KeepsOthers.of_grownBy hO (λj ob e ho=>by
       injection e with e;subst e;obtain⟨cur,hb,_⟩:=h3;rw [show W.drew.heap[gx]?=_ from hb] at ho;cases ho;rfl)
      have df:dv 18446744073709551616 p / Y<18446744073709551616:=(QP ba).2 az;have bp:=h1.step bj bl dc hk bm bk bn df ba;rw [cp.o] at bp;have hle:=qJ bw (qY gx);refine⟨rfl,((KeepsOthers.drew W).trans cy).trans (KeepsOthers.setCell _ _ _),?_⟩;exact ⟨⟨_,_,bp,fun j hj => by rw [qQ,XL zb,← qQ]; exact h2 j zb,ct.far (p:=⟨gq,k,none⟩) (by show gx ≠ gq; omega) _,(hO.row h4.drew zb).set_ k tq hk⟩,
       (hO.row kd.drew zb).far (p:=⟨gq,k,none⟩) (by show gd≠gq;omega) _,
       (hO.blk k7.drew (λh=>ca h.symm)).far (p:=⟨gq,k,none⟩) (λh=>b5 h.symm) _,(hO.blk k8.drew (λh=>cc h.symm)).far (p:=⟨gq,k,none⟩) (λh=>cb h.symm) _,
       (hO.blk k9.drew (λh=>cf h.symm)).far (p:=⟨gq,k,none⟩) (λh=>cd h.symm) _,(hO.blk ks.drew (λh=>dk h.symm)).far (p:=⟨gq,k,none⟩) (λh=>dj h.symm) _,
       (hO.blk k4.drew zb).far (p:=⟨gq,k,none⟩) (by show w.heap.size+1+1≠gq;omega) _,(hO.blk k5.drew zb).far (p:=⟨gq,k,none⟩) (by show w.heap.size+1+1+1≠gq;omega) _,
       (hO.below V.drew V.size zb).setCell (p:=⟨gq,k,none⟩) (by show w.heap.size<=gq;omega) _⟩
     case done=>
      intro D0 W hD h hK;have k4:=h.r4;have k5:=h.r5;have V:=h.below;have c8:W.cell? ⟨b8,0,none⟩=some (.slice (some ⟨gx,0,none⟩) (n+1) (n+1)):=h.x8.cell 0;have c9:W.cell? ⟨b9,0,none⟩=some (.slice (some ⟨gq,0,none⟩) K K):=h.x9.cell 0;obtain⟨m8,m8'⟩:b8≠w.heap.size+1+1/\b8≠w.heap.size+1+1+1:=⟨h.x8.ne_ k4 zg,h.x8.ne_ k5 zg⟩;obtain⟨m9,m9'⟩:b9≠w.heap.size+1+1/\b9≠w.heap.size+1+1+1:=⟨h.x9.ne_ k4 zg,h.x9.ne_ k5 zg⟩;obtain⟨L,Q,h1,_,h3,h4⟩:=h.row;obtain⟨hq,hr⟩:=h1.done;have af:=HK.o;have N:=uS (some ⟨gq,0,none⟩) K K Q W.drew h4.drew.reads h1.qdgs (qY _) zb zb;have O:=λw' (hb:Below W.drew.heap.size W.drew w')=>uS (some ⟨gx,0,none⟩) (n+1) (n+1) L w' ((h3.drew.reads.below hb).more hb.size) h1.dgs (qY _) zb zb;have aj:=vg h1.dgs;rw [hq] at N;rw [hr] at O aj;obtain⟨xq,a5⟩:∃q,X / Y=q:=⟨_,rfl⟩;obtain⟨xr,a6⟩:∃q,X%Y=q:=⟨_,rfl⟩;rw [a5] at N;rw [a6] at O aj;have bo:(dg 18446744073709551616 xr).length<=n+1:=by
       refine wy zg _ _ (qJ aj (qV zg ?_));rw [h1.len];omega
      have HS:=λw' (B k c) (hw:zn w' xr B k c)=>Y5 xr up B k c w' hw (by have:=hw.len;omega);have F:=HN.o;rw [a5,a6] at F;obtain⟨yr,bx⟩:∃q,xr / 2^up=q:=⟨_,rfl⟩;rw [bx] at HS F;have N:=za N;have O:=za O;have cn:=za HS;have am:=za F;have ci:=za hK;have cz:D0<W.heap.size:=(Array.getElem?_eq_some_iff.1 hK).1;clear h h1 h3 h4 hq hr af HS F hK aj bo a5 a6 bx H0
      rename_i hO1u hO2u
      clear hO2u hO1u;go_wp2_with fail;have j8:W.drew.cell? ⟨b8,0,none⟩=some (.slice (some ⟨gx,0,none⟩) (n+1) (n+1)):=c8;have j9:W.drew.cell? ⟨b9,0,none⟩=some (.slice (some ⟨gq,0,none⟩) K K):=c9
      go_region_held3 (fun w' => w'.cell? ⟨b8,0,none⟩ = some (.slice (some ⟨gx,0,none⟩) (n + 1) (n + 1)) ∧ w'.cell? ⟨b9,0,none⟩ = some (.slice (some ⟨gq,0,none⟩) K K))
       (first|(with_reducible exact⟨j8,j9⟩)|(go_split_ands;(repeat' apply And.intro);all_goals (first|exact zk|with_reducible exact zc zk hb|with_reducible exact zt hb zk|with_reducible exact xk _ zk|with_reducible exact xk _ (xk _ zk)|with_reducible exact xt _ (xt _ zk)|with_reducible exact Below.drew (xk _ zk)|with_reducible exact(cell_drew_own _ _).trans (xt _ zk)|with_reducible exact xt _ zk|with_reducible exact zz _ (by first|(simp;done)|(simp;omega)) zk|with_reducible exact zR _ (by first|(simp;done)|(simp;omega)) zk)))
       (first
         |(go_at_call 104;(with_reducible refine N.o.mono ?_);rintro e w' ⟨A3,n3,c3,rfl,M,hb,ax⟩;have i:=hb)
         |(go_at_call 104;(with_reducible refine(O.o _ i).mono ?_);rintro e w' ⟨A4,n4,c4,rfl,bt,hb,_⟩;have M:=M.below hb;have i:=zc i hb)
         |(go_at_call 189;(with_reducible refine(cn.out _ _ _ _ bt).mono ?_);rintro e w' ⟨A5,n5,c5,rfl,bu,hb,aa⟩;have aa:=aa.from_ i;have M:=M.below hb;have i:=zc i hb;have ak:=zf i k4.drew;have al:=zf i k5.drew;have f4:=ak.frozen 0;have f5:=al.frozen 0;have g4:=ak.cell 0;have g5:=al.cell 0))
      have hk4:=k4.lt;have hk5:=k5.lt;have k1:w'.heap[D0]?=some (.deferred (some [])):=(i.block D0 cz).trans ci.o;have a8:=(KeepsOthers.setCell w' ⟨w.heap.size+1+1,0,none⟩ (.slice A3 n3 c3)).same D0 _ k1 rfl;have H:=(KeepsOthers.setCell (w'.setCell ⟨w.heap.size+1+1,0,none⟩ (.slice A3 n3 c3)) ⟨w.heap.size+1+1+1,0,none⟩ (.slice A5 n5 c5)).same D0 _ a8 rfl;have l4:=(ak.set_ 0 (.slice A3 n3 c3)).far (p:=⟨w.heap.size+1+1+1,0,none⟩) (by show w.heap.size+1+1≠w.heap.size+1+1+1;omega) (.slice A5 n5 c5);have l5:=(al.far (p:=⟨w.heap.size+1+1,0,none⟩) (by show w.heap.size+1+1+1≠w.heap.size+1+1;omega) (.slice A3 n3 c3)).set_ 0 (.slice A5 n5 c5);have e4:=cell_kept (l4.cell 0) (grownBy_putObj' _ D0 (.deferred none)) (λr e=>by cases e;exact⟨_,H,rfl⟩);have e5:=cell_kept (l5.cell 0) (grownBy_putObj' _ D0 (.deferred none)) (λr e=>by cases e;exact⟨_,H,rfl⟩);have bc:Below w.heap.size w w':=V.trans ((show Below W.heap.size W w' from⟨i.os,i.tape,i.output,i.size,i.block⟩).mono V.size);have HG : zd (Uw w (x / d) (x % d) (.returned (.tuple #[.agg #[.slice A3 n3 c3],.agg #[.slice A5 n5 c5]])) (((w'.setCell ⟨w.heap.size + 1 + 1,0,none⟩ (.slice A3 n3 c3)).setCell ⟨w.heap.size + 1 + 1 + 1,0,none⟩ (.slice A5 n5 c5)).putObj D0 (.deferred none))) :=
       ⟨A3,n3,c3,A5,n5,c5,rfl,
        by rw [<-am.o.1];exact aI (ke (ke M (λad e=>by have h1:W.heap.size<=ad.block:=ax ad e;show ad.block≠w.heap.size+1+1;omega) _) (λad e=>by have h1:W.heap.size<=ad.block:=ax ad e;show ad.block≠w.heap.size+1+1+1;omega) _) H rfl _,
        by rw [<-am.o.2];exact aI (ke (ke bu (λad e=>by have h1:W.heap.size<=ad.block:=aa ad e;show ad.block≠w.heap.size+1+1;omega) _) (λad e=>by have h1:W.heap.size<=ad.block:=aa ad e;show ad.block≠w.heap.size+1+1+1;omega) _) H rfl _,
        ((bc.setCell (p:=⟨w.heap.size+1+1,0,none⟩) (by show w.heap.size<=w.heap.size+1+1;omega) _).setCell (p:=⟨w.heap.size+1+1+1,0,none⟩) (by show w.heap.size<=w.heap.size+1+1+1;omega) _).trans (belowK_b (w:=w) (qY _) _ D0 _ _ zb H rfl rfl)⟩
      clear hb M bt bu ax aa ak al f4 f5 g4 g5 i bc k1 a8 l4 l5 c8 c9 j8 j9;go_wp2;refine⟨zE,.inl ⟨_,_,rfl,run_takeDeferred H,?_⟩⟩;exact⟨.tuple #[.agg #[.slice A3 n3 c3],.agg #[.slice A5 n5 c5]],by simp [results,f192,go_sem,e4,e5],HG.o⟩
theorem jd (r:Nat)(hr:r<18446744073709551616)(g:Nat)(w:World)(h:zh w g 132 #[.int .u64 (r:Int)]):Calls prog 104 #[.slice (some ⟨g,0,none⟩) 1 1] w (xp w r):=by
 have hd:zD 18446744073709551616 [r]:=by intro d hd;simp at hd;omega
 have:=uS (some ⟨g,0,none⟩) 1 1 [r] w (ju h rfl (by simp [zq]) rfl) hd (qY _) zg zg;rwa [show dv 18446744073709551616 [r]=r from by simp [dv]] at this
theorem Z3 (h:x<18446744073709551616):wd x 0=x:=by unfold wd;rw [XB,Nat.div_one,qO h]
theorem aR (hx:(dg 18446744073709551616 x).length=m)(hm:m<=1):x<18446744073709551616:=by
 have h:=ym (b:=18446744073709551616) zg x;rw [hx] at h;exact qJ h (qL (qV zg hm) zg)
theorem Yd (x d q r:Nat)(b:Bool)(A D:ze)(n m c ce:Nat)(w:World)(hA:zn w x A n c)(hD:zn w d D m ce)(hm:m<=1)(hr:r<18446744073709551616)
  (HB:∀w',Below w.heap.size w w'->Calls prog 191 #[.agg #[.slice A n c],.int .u64 (d:Int)] w' (fD w' q r b)):
  Calls prog 181 #[.agg #[.slice A n c],.agg #[.slice D m ce]] w (sd w q r b):=by
 have hU:=λw' (hb:Below w.heap.size w w')=>gR d D m ce w' (hD.below hb) hm;rw [Z3 (aR hD.len hm)] at hU;have HU:=za hU;have B:=za HB;have C:=za (λg w=>jd r hr g w);clear hU HB hA hD;go_enter func181,ntmps181;go_wp2_with fail;obtain⟨hB,b2,b3,k4,k5,b6⟩:=dL w 37 #[.slice A n c] #[.slice D m ce] #[.slice none 0 0] #[.slice none 0 0];generalize hW:(((w.alloc (.cells #[.slice A n c] 37)).alloc (.cells #[.slice D m ce] 37)).alloc (.cells #[.slice none 0 0] 37)).alloc (.cells #[.slice none 0 0] 37)=W0 at*;have g2:W0.cell? ⟨w.heap.size,0,none⟩=some (.slice A n c):=b2.cell 0;clear hW b2 b3;refine(HU.o _ hB).mono ?_;rintro e w1 ⟨rfl,hb⟩;have hB:=zc hB hb;have g2:=zt hb g2;obtain⟨k4,k5⟩:=yq hb k4 k5;clear hb b6;go_wp2_with fail;refine(B.o _ hB).mono ?_;rintro e w2 ⟨A2,n2,c2,rfl,i,hb⟩;have hB:=zc hB hb;obtain⟨k4,k5⟩:=yq hb k4 k5;have l4:=k5.lt;obtain⟨m9,m9'⟩:w.heap.size+1+1≠w2.heap.size/\w.heap.size+1+1+1≠w2.heap.size:=zb;obtain⟨d1,d2,d5⟩:=zw w2 37 #[.slice A2 n2 c2];have hB:=zc hB d1;obtain⟨k4,k5⟩:=yq d1 k4 k5;have i:=i.below d1;have g9:(w2.alloc (.cells #[.slice A2 n2 c2] 37)).cell? ⟨w2.heap.size,0,none⟩=some (.slice A2 n2 c2):=d2.cell 0;clear d1 d2 d5 hb g2;go_wp2_with fail;generalize w2.alloc (.cells #[.slice A2 n2 c2] 37)=W2 at*;generalize w2.heap.size=z at*;have t:Below W2.heap.size W2 W2:=qZ _ _;have j9:W2.drew.cell? ⟨z,0,none⟩=some (.slice A2 n2 c2):=g9
 go_region_held3 (fun w' => w'.cell? ⟨z,0,none⟩ = some (.slice A2 n2 c2))
  (first|(with_reducible exact j9)|exact zk|with_reducible exact xt _ zk|with_reducible exact(cell_drew_own _ _).trans (xt _ zk)|with_reducible exact zt hb zk|with_reducible exact zR _ (by first|(simp;done)|(simp;omega)) zk)
  (first
    |(go_at_call 104;(with_reducible refine(C.out _ _ (by first|with_reducible exact zh.new _ _ _|with_reducible exact(zh.new _ _ _).drew)).mono ?_);rintro e w' ⟨A3,n3,c3,rfl,y,hb,E⟩;(have a:Below W2.heap.size W2 w':=zc (by first|with_reducible exact(xk _ t).drew|with_reducible exact xk _ t.drew) hb);have j:=zf a k4;have k:=zf a k5;have s:=i.below a;have f4:=j.frozen 0;have f5:=k.frozen 0;have e4:=j.cell 0;have e5:=k.cell 0))
 have p4:xg w' (w.heap.size+1+1) (.slice none 0 0):=⟨_,j⟩;have p5:xg w' (w.heap.size+1+1+1) (.slice none 0 0):=⟨_,k⟩;have o:=p5.far (p:=⟨w.heap.size+1+1,0,none⟩) (by show w.heap.size+1+1+1≠w.heap.size+1+1;omega) (.slice A2 n2 c2);have r4:=((p4.set_ (.slice A2 n2 c2)).far (p:=⟨w.heap.size+1+1+1,0,none⟩) (by show w.heap.size+1+1≠w.heap.size+1+1+1;omega) (.slice A3 n3 c3)).cell;have r5:=(o.set_ (.slice A3 n3 c3)).cell;have u:=zc hB a;have HG : zd (sd w q r b (.returned (.tuple #[.agg #[.slice A2 n2 c2],.agg #[.slice A3 n3 c3],.bool b])) ((w'.setCell ⟨w.heap.size + 1 + 1,0,none⟩ (.slice A2 n2 c2)).setCell ⟨w.heap.size + 1 + 1 + 1,0,none⟩ (.slice A3 n3 c3))) :=
  ⟨A2,n2,c2,A3,n3,c3,rfl,wf (wf s p4 _) o _,wf (wf y p4 _) o _,
   (u.setCell (p:=⟨w.heap.size+1+1,0,none⟩) (by show w.heap.size<=w.heap.size+1+1;omega) _).setCell (p:=⟨w.heap.size+1+1+1,0,none⟩) (by show w.heap.size<=w.heap.size+1+1+1;omega) _⟩
 clear hb a i s y E k4 k5 j k f4 f5 e4 e5 p4 p5 o u hB g9 j9 t;go_wp2;refine bodyPost_ret (v:=.tuple #[.agg #[.slice A2 n2 c2],.agg #[.slice A3 n3 c3],.bool b]) (by simp [results,results181,go_sem,r4,r5]) rfl ?_;exact HG.o
theorem mF {d:Nat}(hx:(dg 18446744073709551616 x).length=n)(hd:(dg 18446744073709551616 d).length=m)(h:n<m):x / d=0/\x%d=x:=by
 have hl:x<d:=jU (b:=18446744073709551616) zg (by rw [hx,hd];exact h);exact⟨QL hl,qO hl⟩
theorem Tr (x d:Nat)(A D:ze)(n m c ce:Nat)(w:World)(hA:zn w x A n c)(hD:zn w d D m ce)(hm:2<=m)(k:n<m)(hm2:m<=274877906944):
  Calls prog 181 #[.agg #[.slice A n c],.agg #[.slice D m ce]] w (sd w (x / d) (x%d) true):=by
 obtain⟨hq,hr⟩:=mF hA.len hD.len k;rw [hq,hr];have HU:=za (λw'=>gT D m ce w' zb);have t:=zj w (λw' hb=>lY x A n c w' (hA.below hb) zb);have i:=za hA.len;have t1:decide ((n:Int)<(m:Int))=true:=by simpa using k
 clear hA hD hq hr;go_enter func181,ntmps181;go_wp2_with fail;obtain⟨hB,b2,b3,k4,k5,b6⟩:=dL w 37 #[.slice A n c] #[.slice D m ce] #[.slice none 0 0] #[.slice none 0 0];generalize hW:(((w.alloc (.cells #[.slice A n c] 37)).alloc (.cells #[.slice D m ce] 37)).alloc (.cells #[.slice none 0 0] 37)).alloc (.cells #[.slice none 0 0] 37)=W0 at*;have g2:W0.cell? ⟨w.heap.size,0,none⟩=some (.slice A n c):=b2.cell 0;have g3:W0.cell? ⟨w.heap.size+1,0,none⟩=some (.slice D m ce):=b3.cell 0;clear hW b2 b3;refine(HU.o _).mono ?_;rintro e w1 ⟨rfl,hb⟩;have hB:=zc hB hb;obtain⟨g2,g3⟩:=xc hb g2 g3;obtain⟨k4,k5⟩:=yq hb k4 k5;clear hb b6;go_wp2_with fail;have j2:w1.drew.cell? ⟨w.heap.size,0,none⟩=some (.slice A n c):=g2;have j3:w1.drew.cell? ⟨w.heap.size+1,0,none⟩=some (.slice D m ce):=g3;have j:Below w1.heap.size w1 w1.drew:=(qZ _ w1).drew
 go_region_held3 (fun w' => Below w1.heap.size w1 w' ∧ w'.cell? ⟨w.heap.size,0,none⟩ = some (.slice A n c) ∧ w'.cell? ⟨w.heap.size + 1,0,none⟩ = some (.slice D m ce))
  (first|(with_reducible exact⟨j,j2,j3⟩)|(go_split_ands;(repeat' apply And.intro);all_goals (first|exact zk|with_reducible exact zc zk hb|with_reducible exact zt hb zk)))
  (first|(go_at_call 102;(with_reducible refine(vN 0 _ _ _ _).mono ?_);rintro e w' ⟨rfl,hb⟩))
 rename_i hH
 obtain⟨a,u,y⟩:=hH;have hB:=zc hB a;obtain⟨k4,k5⟩:=yq a k4 k5;clear a hb j2 j3 j y g2 g3;go_wp2_with fail;refine(t.o _ hB).mono ?_;rintro e w3 ⟨A1,c1,rfl,o,z,⟨B,_⟩,hb⟩;have hB:=zc hB hb;obtain⟨k4,k5⟩:=yq hb k4 k5;have O:=uS A1 _ c1 _ w3 o (vV zg x) z B (by have:=i.o;omega);rw [vf zg] at O;have HO:=za O;rw [i.o] at HO⊢;clear O o hb u;go_wp2_with fail;refine HO.o.mono ?_;rintro e w' ⟨A3,n3,c3,rfl,s,hb,C⟩;have hB:=zc hB hb;obtain⟨k4,k5⟩:=yq hb k4 k5;have f4:=k4.frozen 0;have f5:=k5.frozen 0;have e4:=k4.cell 0;have e5:=k5.cell 0;have p4:xg w' (w.heap.size+1+1) (.slice none 0 0):=⟨_,k4⟩;have p5:xg w' (w.heap.size+1+1+1) (.slice none 0 0):=⟨_,k5⟩;have g:=p5.far (p:=⟨w.heap.size+1+1,0,none⟩) (by show w.heap.size+1+1+1≠w.heap.size+1+1;omega) (.slice none 0 0);have r4:=((p4.set_ (.slice none 0 0)).far (p:=⟨w.heap.size+1+1+1,0,none⟩) (by show w.heap.size+1+1≠w.heap.size+1+1+1;omega) (.slice A3 n3 c3)).cell;have r5:=(g.set_ (.slice A3 n3 c3)).cell;have HG : zd (sd w 0 x true (.returned (.tuple #[.agg #[.slice none 0 0],.agg #[.slice A3 n3 c3],.bool true])) ((w'.setCell ⟨w.heap.size + 1 + 1,0,none⟩ (.slice none 0 0)).setCell ⟨w.heap.size + 1 + 1 + 1,0,none⟩ (.slice A3 n3 c3))) :=
  ⟨none,0,0,A3,n3,c3,rfl,bI _,wf (wf s p4 _) g _,
   (hB.setCell (p:=⟨w.heap.size+1+1,0,none⟩) (by show w.heap.size<=w.heap.size+1+1;omega) _).setCell (p:=⟨w.heap.size+1+1+1,0,none⟩) (by show w.heap.size<=w.heap.size+1+1+1;omega) _⟩
 clear hb s C k4 k5 p4 p5 g hB;go_wp2;refine bodyPost_ret (v:=.tuple #[.agg #[.slice none 0 0],.agg #[.slice A3 n3 c3],.bool true]) (by simp [results,results181,go_sem,r4,r5]) rfl ?_;exact HG.o
theorem Tq (x d:Nat)(A D:ze)(n m c ce:Nat)(w:World)(hA:zn w x A n c)(hD:zn w d D m ce)(hm:2<=m)(u:m<=n)(hn:n<=274877906944):
  Calls prog 181 #[.agg #[.slice A n c],.agg #[.slice D m ce]] w (sd w (x / d) (x%d) true):=by
 have HU:=za (λw'=>gT D m ce w' zb);have k:=zj w (λw' hb=>TR x d A D n m c ce w' (hA.below hb) (hD.below hb) hm u hn);have t1:decide ((n:Int)<(m:Int))=false:=by simpa using u
 have t2:¬ n<m:=zb;obtain⟨xq,y⟩:∃q,x / d=q:=⟨_,rfl⟩;obtain⟨xr,B⟩:∃q,x%d=q:=⟨_,rfl⟩;rw [y,B] at k⊢;clear hA hD y B;go_enter func181,ntmps181;go_wp2_with fail;obtain⟨hB,b2,b3,k4,k5,b6⟩:=dL w 37 #[.slice A n c] #[.slice D m ce] #[.slice none 0 0] #[.slice none 0 0];generalize hW:(((w.alloc (.cells #[.slice A n c] 37)).alloc (.cells #[.slice D m ce] 37)).alloc (.cells #[.slice none 0 0] 37)).alloc (.cells #[.slice none 0 0] 37)=W0 at*;have g2:W0.cell? ⟨w.heap.size,0,none⟩=some (.slice A n c):=b2.cell 0;have g3:W0.cell? ⟨w.heap.size+1,0,none⟩=some (.slice D m ce):=b3.cell 0;clear hW b2 b3;refine(HU.o _).mono ?_;rintro e w1 ⟨rfl,hb⟩;have hB:=zc hB hb;obtain⟨g2,g3⟩:=xc hb g2 g3;obtain⟨k4,k5⟩:=yq hb k4 k5;clear hb b6;go_wp2_with fail;have j2:w1.drew.cell? ⟨w.heap.size,0,none⟩=some (.slice A n c):=g2;have j3:w1.drew.cell? ⟨w.heap.size+1,0,none⟩=some (.slice D m ce):=g3;have t:Below w1.heap.size w1 w1.drew:=(qZ _ w1).drew
 go_region_held3 (fun w' => Below w1.heap.size w1 w' ∧ w'.cell? ⟨w.heap.size,0,none⟩ = some (.slice A n c) ∧ w'.cell? ⟨w.heap.size + 1,0,none⟩ = some (.slice D m ce))
  (first|(with_reducible exact⟨t,j2,j3⟩)|(go_split_ands;(repeat' apply And.intro);all_goals (first|exact zk|with_reducible exact zc zk hb|with_reducible exact zt hb zk)))
  (first|(go_at_call 102;(with_reducible refine(vN 0 _ _ _ _).mono ?_);rintro e w' ⟨rfl,hb⟩))
 rename_i hH
 obtain⟨j,H,I⟩:=hH;have hB:=zc hB j;obtain⟨k4,k5⟩:=yq j k4 k5;clear j hb j2 j3 t g2 g3;go_wp2_with fail;refine(k.o _ hB).mono ?_;rintro e w3 ⟨A2,n2,c2,A3,n3,c3,rfl,a,g,hb⟩;have hB:=zc hB hb;obtain⟨k4,k5⟩:=yq hb k4 k5;obtain⟨d1,d2,d3,d5⟩:=zX w3 37 37 #[.slice A2 n2 c2] #[.slice A3 n3 c3];have l5:=k5.lt;obtain⟨m1,m2,m3,m4⟩:w3.heap.size≠w.heap.size+1+1/\w3.heap.size≠w.heap.size+1+1+1/\w3.heap.size+1≠w.heap.size+1+1/\w3.heap.size+1≠w.heap.size+1+1+1:=zb;have hB:=zc hB d1;obtain⟨k4,k5⟩:=yq d1 k4 k5;have a:=a.below d1;have g:=g.below d1;have o:((w3.alloc (.cells #[.slice A2 n2 c2] 37)).alloc (.cells #[.slice A3 n3 c3] 37)).cell? ⟨w3.heap.size,0,none⟩=some (.slice A2 n2 c2):=d2.cell 0;have s:((w3.alloc (.cells #[.slice A2 n2 c2] 37)).alloc (.cells #[.slice A3 n3 c3] 37)).cell? ⟨w3.heap.size+1,0,none⟩=some (.slice A3 n3 c3):=d3.cell 0;clear d1 d2 d3 d5 hb H I l5;go_wp2_with fail;generalize (w3.alloc (.cells #[.slice A2 n2 c2] 37)).alloc (.cells #[.slice A3 n3 c3] 37)=W' at*;generalize w3.heap.size=z at*;have j2:W'.drew.cell? ⟨z,0,none⟩=some (.slice A2 n2 c2):=o;have j3:W'.drew.cell? ⟨z+1,0,none⟩=some (.slice A3 n3 c3):=s;have f4:=k4.drew.frozen 0;have f5:=k5.drew.frozen 0;have e4:=k4.drew.cell 0;have e5:=k5.drew.cell 0;have F:=k4.frozen 0;have G:=k5.frozen 0;have C:=k4.cell 0;have E:=k5.cell 0
 go_region_held3 (fun w' => w'.cell? ⟨z,0,none⟩ = some (.slice A2 n2 c2) ∧ w'.cell? ⟨z + 1,0,none⟩ = some (.slice A3 n3 c3))
  (first|(with_reducible exact⟨j2,j3⟩)|(go_split_ands;(repeat' apply And.intro);all_goals (first|exact zk|with_reducible exact(cell_drew_own _ _).trans (zR _ (by first|(simp;done)|(simp;omega)) zk)|with_reducible exact(cell_drew_own _ _).trans (zR _ (by first|(simp;done)|(simp;omega)) (zR _ (by first|(simp;done)|(simp;omega)) zk))|with_reducible exact zR _ (by first|(simp;done)|(simp;omega)) zk|with_reducible exact zR _ (by first|(simp;done)|(simp;omega)) (zR _ (by first|(simp;done)|(simp;omega)) zk))))
  (fail)
 have p4:xg W' (w.heap.size+1+1) (.slice none 0 0):=⟨_,k4⟩;have p5:xg W' (w.heap.size+1+1+1) (.slice none 0 0):=⟨_,k5⟩;have i:=p5.far (p:=⟨w.heap.size+1+1,0,none⟩) (by show w.heap.size+1+1+1≠w.heap.size+1+1;omega) (.slice A2 n2 c2);have r4:=((p4.set_ (.slice A2 n2 c2)).far (p:=⟨w.heap.size+1+1+1,0,none⟩) (by show w.heap.size+1+1≠w.heap.size+1+1+1;omega) (.slice A3 n3 c3)).cell;have r5:=(i.set_ (.slice A3 n3 c3)).cell;have HG : zd (sd w xq xr true (.returned (.tuple #[.agg #[.slice A2 n2 c2],.agg #[.slice A3 n3 c3],.bool true])) ((W'.setCell ⟨w.heap.size + 1 + 1,0,none⟩ (.slice A2 n2 c2)).setCell ⟨w.heap.size + 1 + 1 + 1,0,none⟩ (.slice A3 n3 c3)).drew) :=
  ⟨A2,n2,c2,A3,n3,c3,rfl,wf (wf a p4 _) i _,wf (wf g p4 _) i _,
   ((hB.setCell (p:=⟨w.heap.size+1+1,0,none⟩) (by show w.heap.size<=w.heap.size+1+1;omega) _).setCell (p:=⟨w.heap.size+1+1+1,0,none⟩) (by show w.heap.size<=w.heap.size+1+1+1;omega) _).drew⟩
 clear a g k4 k5 p4 p5 i hB o s j2 j3 f4 f5 e4 e5 F G C E;go_wp2;refine bodyPost_ret (v:=.tuple #[.agg #[.slice A2 n2 c2],.agg #[.slice A3 n3 c3],.bool true]) (by simp [results,results181,go_sem,r4,r5]) rfl ?_;exact HG.o
theorem fV (x d:Nat)(A D:ze)(n m c ce:Nat)(w:World)(hA:zn w x A n c)(hD:zn w d D m ce)(hn:n<=274877906944)(hm:m<=274877906944)(hd:d≠0):
  Calls prog 181 #[.agg #[.slice A n c],.agg #[.slice D m ce]] w (sd w (x / d) (x%d) true):=by
 by_cases h1:m<=1
 ·have a:=aR hD.len h1;exact Yd x d (x / d) (x%d) true A D n m c ce w hA hD h1 (Nat.lt_trans (QH _ (xR hd)) a) (λw' hb=>Y8 x d A n c w' (hA.below hb) hn a hd)
 ·by_cases h2:n<m
  ·exact Tr x d A D n m c ce w hA hD zb h2 hm
  ·exact Tq x d A D n m c ce w hA hD zb zb hn
theorem Z8 (x d:Nat)(A D:ze)(n m c ce:Nat)(w:World)(hA:zn w x A n c)(hD:zn w d D m ce)(hd:d=0):
  Calls prog 181 #[.agg #[.slice A n c],.agg #[.slice D m ce]] w (sd w 0 0 false):=by
 subst hd;obtain rfl:m=0:=by have:=hD.len;rw [pV] at this;exact this.symm
 exact Yd x 0 0 0 false A D n 0 c ce w hA hD zg zg (λw' hb=>Z7 x A n c w' (hA.below hb))
theorem cP (q r:Nat)(b:Bool)(A D:ze)(n m c ce:Nat)(w:World)(d:∀w',Below w.heap.size w w'->Calls prog 181 #[.agg #[.slice A n c],.agg #[.slice D m ce]] w' (sd w' q r b)):
  Calls prog 163 #[.agg #[.slice A n c],.agg #[.slice D m ce]] w (jI w q b):=by
 have HD:=za d;clear d;go_enter func163,ntmps163;go_wp2_with fail;obtain⟨hB,b2,b3,k4,b5⟩:=yn w 37 37 37 #[.slice A n c] #[.slice D m ce] #[.slice none 0 0];generalize hW:((w.alloc (.cells #[.slice A n c] 37)).alloc (.cells #[.slice D m ce] 37)).alloc (.cells #[.slice none 0 0] 37)=W0 at*;clear hW b2 b3;refine(HD.o _ hB).mono ?_;rintro e w3 ⟨A2,n2,c2,A3,n3,c3,rfl,a,g,hb⟩;have hB:=zc hB hb;have k4:=zf hb k4;have l4:=k4.lt;obtain⟨d1,d2,d3,d5⟩:=zX w3 37 37 #[.slice A2 n2 c2] #[.slice A3 n3 c3];have hB:=zc hB d1;have k4:=zf d1 k4;have a:=a.below d1;clear d1 d3 d5 hb g b5;have g6:((w3.alloc (.cells #[.slice A2 n2 c2] 37)).alloc (.cells #[.slice A3 n3 c3] 37)).cell? ⟨w3.heap.size,0,none⟩=some (.slice A2 n2 c2):=d2.cell 0;have f4:=k4.frozen 0;have e4:=k4.cell 0;have p4:xg _ (w.heap.size+1+1) (.slice none 0 0):=⟨_,k4⟩;have r4:=(p4.set_ (.slice A2 n2 c2)).cell;have HG : zd (jI w q b (.returned (.tuple #[.agg #[.slice A2 n2 c2],.bool b])) (((w3.alloc (.cells #[.slice A2 n2 c2] 37)).alloc (.cells #[.slice A3 n3 c3] 37)).setCell ⟨w.heap.size + 1 + 1,0,none⟩ (.slice A2 n2 c2))) :=
  ⟨A2,n2,c2,rfl,wf a p4 _,hB.setCell (p:=⟨w.heap.size+1+1,0,none⟩) (by show w.heap.size<=w.heap.size+1+1;omega) _⟩
 clear a k4 p4 hB d2;go_wp2;refine bodyPost_ret (v:=.tuple #[.agg #[.slice A2 n2 c2],.bool b]) (by simp [results,results163,go_sem,r4]) rfl ?_;exact HG.o
theorem SV (q r:Nat)(b:Bool)(A D:ze)(n m c ce:Nat)(w:World)(d:∀w',Below w.heap.size w w'->Calls prog 181 #[.agg #[.slice A n c],.agg #[.slice D m ce]] w' (sd w' q r b)):
  Calls prog 187 #[.agg #[.slice A n c],.agg #[.slice D m ce]] w (jI w r b):=by
 have HD:=za d;clear d;go_enter func187,ntmps187;go_wp2_with fail;obtain⟨hB,b2,b3,k4,b5⟩:=yn w 37 37 37 #[.slice A n c] #[.slice D m ce] #[.slice none 0 0];generalize hW:((w.alloc (.cells #[.slice A n c] 37)).alloc (.cells #[.slice D m ce] 37)).alloc (.cells #[.slice none 0 0] 37)=W0 at*;clear hW b2 b3;refine(HD.o _ hB).mono ?_;rintro e w3 ⟨A2,n2,c2,A3,n3,c3,rfl,g,a,hb⟩;have hB:=zc hB hb;have k4:=zf hb k4;have l4:=k4.lt;obtain⟨d1,d2,d3,d5⟩:=zX w3 37 37 #[.slice A2 n2 c2] #[.slice A3 n3 c3];have hB:=zc hB d1;have k4:=zf d1 k4;have a:=a.below d1;clear d1 d2 d5 hb g b5;have g6:((w3.alloc (.cells #[.slice A2 n2 c2] 37)).alloc (.cells #[.slice A3 n3 c3] 37)).cell? ⟨w3.heap.size+1,0,none⟩=some (.slice A3 n3 c3):=d3.cell 0;have f4:=k4.frozen 0;have e4:=k4.cell 0;have p4:xg _ (w.heap.size+1+1) (.slice none 0 0):=⟨_,k4⟩;have r4:=(p4.set_ (.slice A3 n3 c3)).cell;have HG : zd (jI w r b (.returned (.tuple #[.agg #[.slice A3 n3 c3],.bool b])) (((w3.alloc (.cells #[.slice A2 n2 c2] 37)).alloc (.cells #[.slice A3 n3 c3] 37)).setCell ⟨w.heap.size + 1 + 1,0,none⟩ (.slice A3 n3 c3))) :=
  ⟨A3,n3,c3,rfl,wf a p4 _,hB.setCell (p:=⟨w.heap.size+1+1,0,none⟩) (by show w.heap.size<=w.heap.size+1+1;omega) _⟩
 clear a k4 p4 hB d3;go_wp2;refine bodyPost_ret (v:=.tuple #[.agg #[.slice A3 n3 c3],.bool b]) (by simp [results,results187,go_sem,r4]) rfl ?_;exact HG.o
theorem lL:iT where
 divMod x y A D n m c d w hA hD hn hm hy:=fV x y A D n m c d w hA hD zb zb hy
 divModNo x y A D n m c d w hA hD hn hm hy:=Z8 x y A D n m c d w hA hD hy
 div x y A D n m c d w hA hD hn hm hy:=cP (x / y) (x%y) true A D n m c d w (λw' hb=>fV x y A D n m c d w' (hA.below hb) (hD.below hb) zb zb hy)
 mod x y A D n m c d w hA hD hn hm hy:=SV (x / y) (x%y) true A D n m c d w (λw' hb=>fV x y A D n m c d w' (hA.below hb) (hD.below hb) zb zb hy)
 byWord x a A n c w hA hn ha ha0:=Y8 x a A n c w hA zb ha ha0
 byWordNo x A n c w hA hn:=Z7 x A n c w hA
