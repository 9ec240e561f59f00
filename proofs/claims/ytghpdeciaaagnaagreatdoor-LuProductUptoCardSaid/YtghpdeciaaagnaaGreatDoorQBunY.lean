/- What this claim leans on. -/
import Derived.Test.YtghpdeciaaagnaaGreatDoorQEDet
namespace Go.Proofs.YtghpdeciaaagnaaGreatDoor
open Go Go.RowKit Go.Proofs.Tryz
set_option maxHeartbeats 16000000
set_option maxRecDepth 100000
set_option linter.unusedVariables false
set_option linter.unusedSimpArgs false
attribute [local go_sem] Oper.semAt_some
theorem zfX (x:Nat)(A:oA9)(n c:Nat)(w:World)(hA:zad w x A n c):
  Calls prog 215 #[.agg #[.slice A n c],.int .u64 0] w (zhb w 0 0 false):=by
 go_enter func215,ntmps215;go_wp2;refine bodyPost_ret (v:=.tuple #[.agg #[.slice none 0 0],.int .u64 0,.bool false]) (by simp [results,results215,go_sem]) rfl ?_;exact⟨none,0,0,rfl,zgY _,(zbT w _ _ _ _ _ _).1⟩
def zpm (w:World)(q x:Nat)(b:Bool)(e:Ending)(w':World):Prop:=∃(A:oA9) (n c:Nat),e=.returned (.tuple #[.agg #[.slice A n c],.int .u64 (x:Int),.bool b])/\zad w' q A n c/\Below w.heap.size w w'/\zeM w A
theorem zdv {B g cap n:Nat}{t:TypeId}{L:List Nat}{W W':World}{row:Option Nat}(h:zaq W t g cap n L)(hg:W.grownBy W' row)(hr:∀r,row=some r->B<=r/\∃o:Obj,W.heap[r]?=some o/\o.isCells=false):zaq W' t g cap n L:=by
 obtain⟨a,h0,h1⟩:=h;exact⟨a,zbE h0 hg hr,h1⟩
structure ByI (x a n c1 gs q0 q1 q2 q3 q4:Nat)(A1:oA9)(w:World)(k:Nat)(W:World):Prop where
 row:∃L r,ziR x a k n L r/\Blk W q3 160 #[.int .u64 (r:Int)]/\(0<n->∃g,A1=some ⟨g,0,none⟩/\gs<=g/\g<q2/\zaq W 160 g c1 n L)
 abox:Blk W q0 160 #[.int .u64 (a:Int)]
 res:Blk W q1 37 #[.slice none 0 0]
 qbox:Blk W q2 35 #[.slice A1 n c1]
 seq:Blk W q4 35 #[.slice A1 n c1]
 below:Below w.heap.size w W
theorem ByI.own {x a n c1 gs q0 q1 q2 q3 q4 B:Nat}{A1:oA9}{w:World}(hB:w.heap.size<=B)(k:Nat):OwnFrom B (fun(_:Unit) W=>ByI x a n c1 gs q0 q1 q2 q3 q4 A1 w k W):=by
 intro _ W W' row h hg hr;obtain⟨L,r,h1,h2,h3⟩:=h.row;refine⟨⟨L,r,h1,zbE h2 hg hr,λhn=>?_⟩,zbE h.abox hg hr,zbE h.res hg hr,zbE h.qbox hg hr,zbE h.seq hg hr,zfi h.below (Nat.le_refl _) hB hg hr⟩;obtain⟨g,e,h4,h5,h6⟩:=h3 hn;exact⟨g,e,h4,h5,zdv h6 hg hr⟩
theorem zif {w:World}{x n c D:Nat}{A:oA9}{o:Obj}(h:zad w x A n c)(hD:w.heap[D]?=some o)(ho:o.isCells=false)(o':Obj):zad (w.putObj D o') x A n c:=by
 obtain⟨⟨h1,h2⟩,h3⟩:=h;refine⟨⟨h1,λhn=>?_⟩,h3⟩;obtain⟨ad,e,hb,hc⟩:=h2 hn;exact⟨ad,e,by simpa using hb,λj u hu=>cell_kept (hc j u hu) (grownBy_putObj' w D o') (λr e=>by cases e;exact⟨_,hD,ho⟩)⟩
theorem znP (g k:Nat):(⟨g,0,none⟩:Addr).add k=⟨g,k,none⟩:=by unfold Addr.add;split<;>simp_all
theorem ziC (x a:Nat)(A:oA9)(n c:Nat)(w:World)(hA:zad w x A n c)(hn:n<=274877906944)(ha:a<18446744073709551616)(af:a≠0):
  Calls prog 215 #[.agg #[.slice A n c],.int .u64 (a:Int)] w (zpm w (x / a) (x%a) true):=by
 have N:=up9 w (λw' hb=>zdD x A n c w' (hA.below hb) om9);have HI:=lh9 (ziR.start (a:=a) hA.len af);have hz:((a:Int)==0)=false:=by simp;omega
 clear hA;refine(callsIn_wide (n:=3)).1 ?_;refine callsIn_of_wp_marks func215 rfl trivial ?_ rfl;simp only [ntmps215,List.size_toArray,List.length_cons,List.length_nil,Nat.reduceAdd,Nat.reduceSub,Array.replicate_succ,Array.replicate_zero,List.push_toArray,List.append_toArray,List.nil_append,List.cons_append];refine wpIn_wide.2 ?_;go_wp2_with fail;obtain⟨b1,b2,b3,b4,b5⟩:=zbT w 37 160 37 #[.slice A n c] #[.int .u64 (a:Int)] #[.slice none 0 0];generalize hW:((w.alloc (.cells #[.slice A n c] 37)).alloc (.cells #[.int .u64 (a:Int)] 160)).alloc (.cells #[.slice none 0 0] 37)=W0 at*;clear hW b2;refine(N.out _ b1).mono ?_;rintro e w1 ⟨v,rfl,f,hb⟩;obtain⟨A1,c1,rfl,ag,ah,_⟩:=zaw.of_grown_own f;have hB:=zaa b1 hb;have ka:=zab hb b3;have kr:=zab hb b4;have an:w.heap.size+3<=W0.heap.size:=b5;clear hb b1 b3 b4 b5;go_wp2_with fail;have am:w.heap.size+2<w1.heap.size:=kr.lt;obtain⟨d1,d2,d3,d4,d5⟩:=zbT w1 35 160 35 #[.slice A1 n c1] #[.int .u64 0] #[.slice A1 n c1];refine(zeH A1 n c1 _).mono ?_;rintro e w2 ⟨rfl,H⟩;rw [H] at d1 d2 d3 d4 d5;have hB:=zaa hB d1;obtain⟨ka,kr⟩:=zab2 d1 ka kr;have C:0<n->∃g,A1=some ⟨g,0,none⟩/\W0.heap.size<=g/\g<w1.heap.size/\zaq w2 160 g c1 n (dg 18446744073709551616 x):=λh=>by
  obtain⟨g,cap,e,hg,hR⟩:=zaq.of_own f h;injection e with e1 _ e3;subst e1 e3;exact⟨g,rfl,hg,hR.lt,by rw [<-H];exact((hR.alloc _).alloc _).alloc _⟩
 clear H d1 f d5;have H0:=lh9 (show ByI x a n c1 W0.heap.size (w.heap.size+1) (w.heap.size+1+1) w1.heap.size (w1.heap.size+1) (w1.heap.size+1+1) A1 w n w2 from⟨⟨_,0,HI.out,d3,C⟩,ka,kr,d2,d4,hB⟩);have ac:=hB.size;clear C ka kr d2 d3 d4 hB;go_wp2_with fail;obtain⟨gs,T⟩:∃g,W0.heap.size=g:=⟨_,rfl⟩;obtain⟨z,V⟩:∃z,w1.heap.size=z:=⟨_,rfl⟩;rw [T] at H0 an;rw [V] at H0 am⊢;clear T V;refine(wpIn_wide (n:=3)).1 ?_;refine zjI (gf:=233) (lb:=#[.pointer (some ⟨z + 1 + 1,0,none⟩)]) rfl (enters_of func233 kr9 rfl) n (fun k => #[.int .i64 (k : Int),.int .u64 (wd x k : Int)]) (fun _ => rfl)
  (λk W=>ByI x a n c1 gs (w.heap.size+1) (w.heap.size+1+1) z (z+1) (z+1+1) A1 w k W) (λk=>ByI.own ac k) H0.out
  (zfB (z+1+1) n c1 A1 (wd x) _ om9 (λk W h=>h.seq.cell 0) ?cells)
  (λk=>{tmps:=#[.agg #[.slice A n c],.int .u64 (a:Int),.pointer (some ⟨w.heap.size,0,none⟩),.pointer (some ⟨w.heap.size+1,0,none⟩),.pointer (some ⟨w.heap.size+1+1,0,none⟩),.int .u64 0,.bool false,.pointer (some ⟨z,0,none⟩),.pointer (some ⟨z+1,0,none⟩),.int .i64 (k:Int),.int .u64 (wd x k:Int),.int .u64 (a:Int),.bool false,undef,.agg #[.slice A n c],.slice A1 n c1,.slice A1 n c1,.func (.func 233) #[] #[.pointer (some ⟨z+1+1,0,none⟩)],.int .i64 (k:Int),.int .u64 (wd x k:Int),undef,undef,undef,undef,undef,undef,undef,undef,undef,undef,undef,undef,undef,undef],defers:=[]}) ?assign ?body ?done
 case cells=>
  intro k W hk h;obtain⟨L,r,h1,h2,h3⟩:=h.row;obtain⟨g,e,_,_,hR⟩:=h3 om9;refine⟨_,e,?_⟩;rw [znP,hR.cell k hk,h1.get om9]
 case assign=>
  intro l k W K hK
  gi_wp2
  exact hK
 case body=>
  intro l k W hk h;have ao:=h.seq;have B:=h.abox;have y:=h.res;have U:=h.qbox;have d:=h.below;obtain⟨L,r,h1,h2,h3⟩:=h.row;obtain⟨g,rfl,aj,ak,hR⟩:=h3 om9;clear h h3;have hr:=h1.rest;have hw:=zcs x k;have m:=h1.step (s:=r*18446744073709551616+wd x k) hk rfl ha;obtain⟨v,hv⟩:∃v,wd x k=v:=⟨_,rfl⟩;rw [hv] at hw m⊢;have E:=λw=>zpq r v a hr ha hw w;obtain⟨t1,F⟩:∃t,(r*18446744073709551616+v) / a=t:=⟨_,rfl⟩;obtain⟨t2,G⟩:∃t,(r*18446744073709551616+v)%a=t:=⟨_,rfl⟩;rw [F,G] at m;rw [F,G] at E;have HS:=lh9 m;have X:=lh9 E;clear m E F G hv h1;have cq:=U.cell 0;have ca:=B.cell 0;have cr:=h2.cell 0;have fr:=h2.frozen 0;have cg:=hR.cell k hk;have fg:=hR.frozen k;have i1:(0:Int)<=(k:Int):=om9;have i2:(k:Int)<(n:Int):=om9;have ab:W.drew.cell? ⟨z+1,0,none⟩=some (.int .u64 (r:Int)):=cr;refine wpIn_block ?_;refine zhy (S:=(λw'=>w'.cell? ⟨z,0,none⟩=some (.slice (some ⟨g,0,none⟩) n c1)/\w'.cell? ⟨w.heap.size+1,0,none⟩=some (.int .u64 (a:Int)))) kr9 kr9 (λ_ _ h=>by cases h.1) ?_ (λhHeld=>?_)
  ·exact⟨cq,ca⟩
  refine wtk9 0 (v:=?_) ?_ ?_
  rotate_left
  focus ((intro w b;(try dsimp only at b);go_simp);(try with_reducible rfl))
  try simp only [Act.put,List.setIfInBounds_toArray,List.set_cons_zero,List.set_cons_succ]
  refine wtk9 1 (v:=?_) ?_ ?_
  rotate_left
  focus ((intro w b;(try dsimp only at b);go_simp);(try with_reducible rfl))
  try simp only [Act.put,List.setIfInBounds_toArray,List.set_cons_zero,List.set_cons_succ]
  refine wtk9 3 (v:=?_) ?_ ?_
  rotate_left
  focus ((intro w b;(try dsimp only at b);go_simp);(try with_reducible rfl))
  try simp only [Act.put,List.setIfInBounds_toArray,List.set_cons_zero,List.set_cons_succ]
  refine wtk9 4 (v:=?_) ?_ ?_
  rotate_left
  focus ((intro w b;(try dsimp only at b);go_simp);(try with_reducible rfl))
  try simp only [Act.put,List.setIfInBounds_toArray,List.set_cons_zero,List.set_cons_succ]
  refine wpAnyH_ready (rs:=[2]) kr9 si9 ?_;refine arc9 (λK hK=>?_);go_simp;refine hK.out _ _ ?_ (λhHeld=>?_)
  ·((try dsimp only);exact hHeld)
  clear hK K
  try simp only [Act.put,List.setIfInBounds_toArray,List.set_cons_zero,List.set_cons_succ]
  refine wpAnyH_ready (rs:=[5]) kr9 si9 ?_;refine arc9 (λK hK=>?_);go_simp;refine(X.out _).mono ?_;rintro e w' ⟨rfl,nn,rfl⟩;have fg1:(W.drew.drewN nn).frozen? ⟨g,k,none⟩=false:=fg;have O:∃u,(W.drew.drewN nn).cell? ⟨g,k,none⟩=some u:=⟨_,cg⟩;obtain⟨u1,O⟩:=O;have fr1:((W.drew.drewN nn).setCell ⟨g,k,none⟩ (.int .u64 (t1:Int))).frozen? ⟨z+1,0,none⟩=false:=by rw [World.frozen?_setCell];exact fr
  have cr1:((W.drew.drewN nn).setCell ⟨g,k,none⟩ (.int .u64 (t1:Int))).cell? ⟨z+1,0,none⟩=some (.int .u64 (r:Int)):=zag _ (by show z+1≠g;omega) ab;refine hK.out _ _ ?_ (λhHeld=>?_)
  ·((try dsimp only);exact hHeld)
  clear hK K
  try simp only [Act.put,List.setIfInBounds_toArray,List.set_cons_zero,List.set_cons_succ]
  refine wtk9 6 (v:=?_) ?_ ?_
  rotate_left
  focus ((intro w b;(try dsimp only at b);go_simp);(try with_reducible rfl))
  try simp only [Act.put,List.setIfInBounds_toArray,List.set_cons_zero,List.set_cons_succ]
  refine wtk9 7 (v:=?_) ?_ ?_
  rotate_left
  focus ((intro w b;(try dsimp only at b);go_simp);(try with_reducible rfl))
  try simp only [Act.put,List.setIfInBounds_toArray,List.set_cons_zero,List.set_cons_succ]
  refine wtk9 8 (v:=?_) ?_ ?_
  rotate_left
  focus ((intro w b;(try dsimp only at b);go_simp);(try with_reducible rfl))
  try simp only [Act.put,List.setIfInBounds_toArray,List.set_cons_zero,List.set_cons_succ]
  refine wtk9 9 (v:=?_) ?_ ?_
  rotate_left
  focus ((intro w b;(try dsimp only at b);go_simp);(try with_reducible rfl))
  try simp only [Act.put,List.setIfInBounds_toArray,List.set_cons_zero,List.set_cons_succ]
  refine wtk9 10 (v:=?_) ?_ ?_
  rotate_left
  focus ((intro w b;(try dsimp only at b);go_simp);(try with_reducible rfl))
  try simp only [Act.put,List.setIfInBounds_toArray,List.set_cons_zero,List.set_cons_succ]
  refine wpAnyH_ready (rs:=[11]) kr9 si9 ?_;refine arc9 (λK hK=>?_);go_simp;refine hK.out _ _ ?_ (λhHeld=>?_)
  ·((try dsimp only);exact⟨zag _ (by show z≠g;omega) hHeld.1,zag _ (by show w.heap.size+1≠g;omega) hHeld.2⟩)
  clear hK K
  try simp only [Act.put,List.setIfInBounds_toArray,List.set_cons_zero,List.set_cons_succ]
  refine wpAnyH_ready (rs:=[12]) kr9 si9 ?_;refine arc9 (λK hK=>?_);go_simp;refine hK.out _ _ ?_ (λhHeld=>?_)
  ·((try dsimp only);exact⟨zag _ (by show z≠z+1;omega) hHeld.1,zag _ (by show w.heap.size+1≠z+1;omega) hHeld.2⟩)
  clear hK K
  try simp only [Act.put,List.setIfInBounds_toArray,List.set_cons_zero,List.set_cons_succ]
  refine wpAnyH_done kr9 ?_ _;refine⟨rfl,(KeepsOthers.trans (show KeepsOthers W (W.drewN (1+nn)) from⟨Nat.le_refl _,λ_ _ h _=>h⟩) (KeepsOthers.setCell _ _ _)).trans (KeepsOthers.setCell _ _ _),?_⟩;have Q:Below w.heap.size w (W.drewN (1+nn)):=⟨d.os,d.tape,d.output,d.size,d.block⟩;have h3:Blk (((W.drewN (1+nn)).setCell ⟨g,k,none⟩ (.int .u64 (t1:Int))).setCell ⟨z+1,0,none⟩ (.int .u64 (t2:Int))) (z+1) 160 #[.int .u64 (t2:Int)]:=((h2.drewN (1+nn)).far (p:=⟨g,k,none⟩) (by show z+1≠g;omega) _).set_ 0 _;have ae:zaq (W.drewN (1+nn)) 160 g c1 n L:=hR;exact ⟨⟨_,t2,HS.out,h3,fun _ => ⟨g,rfl,aj,ak,(ae.set_ k t1 hk).far (p:=⟨z + 1,0,none⟩) (by show g ≠ z + 1; omega) _⟩⟩,
   ((B.drewN (1+nn)).far (p:=⟨g,k,none⟩) (by show w.heap.size+1≠g;omega) _).far (p:=⟨z+1,0,none⟩) (by show w.heap.size+1≠z+1;omega) _,
   ((y.drewN (1+nn)).far (p:=⟨g,k,none⟩) (by show w.heap.size+1+1≠g;omega) _).far (p:=⟨z+1,0,none⟩) (by show w.heap.size+1+1≠z+1;omega) _,
   ((U.drewN (1+nn)).far (p:=⟨g,k,none⟩) (by show z≠g;omega) _).far (p:=⟨z+1,0,none⟩) (by show z≠z+1;omega) _,
   ((ao.drewN (1+nn)).far (p:=⟨g,k,none⟩) (by show z+1+1≠g;omega) _).far (p:=⟨z+1,0,none⟩) (by show z+1+1≠z+1;omega) _,
   (Q.setCell (p:=⟨g,k,none⟩) (by show w.heap.size<=g;omega) _).setCell (p:=⟨z+1,0,none⟩) (by show w.heap.size<=z+1;omega) _⟩
 case done=>
  intro D W hD h hK;have d:=h.below;have y:=h.res;have cq:W.cell? ⟨z,0,none⟩=some (.slice A1 n c1):=h.qbox.cell 0;obtain⟨L,r,h1,h2,h3⟩:=h.row;obtain⟨hq,hr⟩:=h1.done;have cr:W.cell? ⟨z+1,0,none⟩=some (.int .u64 (r:Int)):=h2.cell 0;have j:zaw W.drew W.drew.heap.size 1 A1 n (zaF .u64 L):=by
   rcases Nat.eq_zero_or_pos n with e|e
   ·subst e;have hl:=h1.len;rw [List.eq_nil_of_length_eq_zero hl];exact⟨rfl,λh=>absurd h om9⟩
   ·obtain⟨g,rfl,_,_,hR⟩:=h3 e;exact hR.drew.reads
  have HO:=zcZ A1 n c1 L W.drew j h1.dgs ag (by unfold maxLen at ah;omega) om9;rw [hq] at HO;rw [hr] at h2 cr;obtain⟨xq,I⟩:∃q,x / a=q:=⟨_,rfl⟩;obtain⟨xr,J⟩:∃q,x%a=q:=⟨_,rfl⟩;rw [I] at HO;rw [J] at cr;have Z:=lh9 I;have aa:=lh9 J;have Y:=lh9 HO;have M:=lh9 hK;clear h h1 h2 h3 hq hr HO j I J N HI H0 hK;go_wp2_with fail
  go_region_held3 (fun w' => w'.cell? ⟨z,0,none⟩ = some (.slice A1 n c1) ∧ w'.cell? ⟨z + 1,0,none⟩ = some (.int .u64 (xr : Int)))
   (first|(exact⟨cq,cr⟩)|(go_split_ands;(repeat' apply And.intro);all_goals (first|exact as9|exact zac hb as9|exact zag _ (by simp;omega) as9)))
   (first|(go_at_call 149;(with_reducible refine Y.out.mono ?_);rintro e w' ⟨A3,n3,c3,rfl,hw,hb,hf⟩;have i:=zab hb y.drew;have f1:=i.frozen 0;have f2:=i.cell 0))
  have al:D<W.heap.size:=(Array.getElem?_eq_some_iff.1 M.out).1;have k1:w'.heap[D]?=some (.deferred (some [])):=(hb.block D al).trans M.out;have hq1:=y.lt;have R:=World.cell?_setCell_same' w' ⟨w.heap.size+1+1,0,none⟩ (.slice A3 n3 c3) (by rw [f2];rfl);have o:=(KeepsOthers.setCell w' ⟨w.heap.size+1+1,0,none⟩ (.slice A3 n3 c3)).same D _ k1 rfl;have ai:=cell_kept R (grownBy_putObj' _ D (.deferred none)) (λr e=>by cases e;exact⟨_,o,rfl⟩);have P:Below w.heap.size w w':=d.trans ((show Below W.heap.size W w' from⟨hb.os,hb.tape,hb.output,hb.size,hb.block⟩).mono d.size);have HG : Hid (zpm w (x / a) (x % a) true (.returned (.tuple #[.agg #[.slice A3 n3 c3],.int .u64 (xr : Int),.bool true])) ((w'.setCell ⟨w.heap.size + 1 + 1,0,none⟩ (.slice A3 n3 c3)).putObj D (.deferred none))) :=
   ⟨A3,n3,c3,by rw [aa.out],by rw [Z.out]; exact zif (zdd hw (fun ad e => by have h1 : W.heap.size ≤ ad.block:=hf ad e; show ad.block ≠ w.heap.size + 1 + 1; omega) _) o rfl _,
    (P.setCell (p:=⟨w.heap.size+1+1,0,none⟩) (by show w.heap.size<=w.heap.size+1+1;omega) _).trans (belowK_b (w:=w) (Nat.le_refl _) _ D _ _ om9 o rfl rfl),λad e=>by have h1:W.heap.size<=ad.block:=hf ad e;have h2:=d.size;omega⟩
  clear hb hw hf i f1 f2 P k1 R cq cr;go_wp2;refine⟨si9,.inl ⟨_,_,rfl,run_takeDeferred o,?_⟩⟩;exact⟨.tuple #[.agg #[.slice A3 n3 c3],.int .u64 (xr:Int),.bool true],by simp [results,f215,go_sem,ai],HG.out⟩
theorem zis (x a:Nat)(A:oA9)(n c:Nat)(w:World)(hA:zad w x A n c)(hn:n<=274877906944)(ha:a<18446744073709551616)(b:a≠0):
  Calls prog 215 #[.agg #[.slice A n c],.int .u64 (a:Int)] w (zhb w (x / a) (x%a) true):=
 (ziC x a A n c w hA hn ha b).mono λ_ _ ⟨A3,n3,c3,h1,h2,h3,_⟩=>⟨A3,n3,c3,h1,h2,h3⟩
attribute [local go_sem] Oper.semAt_some
theorem zlp (w:World)(t:TypeId)(a b c d:Array Value):Below w.heap.size w ((((w.alloc (.cells a t)).alloc (.cells b t)).alloc (.cells c t)).alloc (.cells d t))/\Blk ((((w.alloc (.cells a t)).alloc (.cells b t)).alloc (.cells c t)).alloc (.cells d t)) w.heap.size t a/\Blk ((((w.alloc (.cells a t)).alloc (.cells b t)).alloc (.cells c t)).alloc (.cells d t)) (w.heap.size+1) t b/\Blk ((((w.alloc (.cells a t)).alloc (.cells b t)).alloc (.cells c t)).alloc (.cells d t)) (w.heap.size+1+1) t c/\Blk ((((w.alloc (.cells a t)).alloc (.cells b t)).alloc (.cells c t)).alloc (.cells d t)) (w.heap.size+1+1+1) t d/\w.heap.size+4<=((((w.alloc (.cells a t)).alloc (.cells b t)).alloc (.cells c t)).alloc (.cells d t)).heap.size:=by
 obtain⟨b1,b2,b3,b4,b5⟩:=zbT w t t t a b c;have h:=Blk.new (((w.alloc (.cells a t)).alloc (.cells b t)).alloc (.cells c t)) t d;rw [World.size_alloc,World.size_alloc,World.size_alloc] at h;exact⟨zaj _ b1,b2.alloc _,b3.alloc _,b4.alloc _,h,si9⟩
theorem Blk.new1 (w:World)(ob:Obj)(t:TypeId)(cs:Array Value):Blk ((w.alloc ob).alloc (.cells cs t)) (w.heap.size+1) t cs:=by
 have h:=Blk.new (w.alloc ob) t cs;rw [World.size_alloc] at h;exact h
theorem zen {w:World}{t t':TypeId}{g cap n b:Nat}{L:List Nat}{cs:Array Value}(h:zaq w t g cap n L)(hb:Blk w b t' cs)(a:t≠t'):g≠b:=by
 obtain⟨cur,h0,_⟩:=h;exact h0.ne_ hb a
def zqa (B0:Nat)(w:World)(ty:TypeId)(N X:Nat)(e:Ending)(w':World):Prop:=
 ∃(g:Nat) (L:List Nat),e=.returned (.slice (some ⟨g,0,none⟩) N N)/\B0<=g/\zaq w' ty g N N L/\Dgs 18446744073709551616 L/\dv 18446744073709551616 L=X/\Below w.heap.size w w'
theorem zeN.from_ {B0 N X:Nat}{w:World}{ty:TypeId}{e:Ending}{w':World}(h:zeN w ty N X e w')(hB:B0<=w.heap.size):zqa B0 w ty N X e w':=by
 obtain⟨g,L,h1,h2,h3⟩:=h;exact⟨g,L,h1,Nat.le_trans hB h2,h3⟩
def zpl (w:World)(q r:Nat)(e:Ending)(w':World):Prop:=∃(A:oA9) (n c:Nat) (B:oA9) (m d:Nat),e=.returned (.tuple #[.agg #[.slice A n c],.agg #[.slice B m d]])/\zad w' q A n c/\zad w' r B m d/\Below w.heap.size w w'
theorem Off.row {g b cap n:Nat}{w w':World}{t:TypeId}{L:List Nat}(h:Off g w w')(hR:zaq w t b cap n L)(c:b≠g):zaq w' t b cap n L:=by
 obtain⟨a,h0,h1⟩:=hR;exact⟨a,h.blk h0 c,h1⟩
theorem zaq.readsB {w:World}{t:TypeId}{g cap n B0:Nat}{L:List Nat}(h:zaq w t g cap n L)(hb:g<B0):zaw w B0 1 (some ⟨g,0,none⟩) n (zaF .u64 L):=
 ⟨h.reads.1,λhn=>by
  obtain⟨ad,e,_,hc⟩:=h.reads.2 hn;cases e;exact⟨_,rfl,hb,hc⟩⟩
structure zmf (X Y m n K gd gx gq b7 b8 b9 bs:Nat)(Ld:List Nat)(w:World)(k:Nat)(W:World):Prop where
 row:∃L Q,zfI X Y m k K L Q/\(∀j,j<k->Q.getD j 0=0)/\zaq W 160 gx (n+1) (n+1) L/\zaq W 160 gq K K Q
 div:zaq W 160 gd m m Ld
 x7:Blk W b7 35 #[.slice (some ⟨gd,0,none⟩) m m]
 x8:Blk W b8 35 #[.slice (some ⟨gx,0,none⟩) (n+1) (n+1)]
 x9:Blk W b9 35 #[.slice (some ⟨gq,0,none⟩) K K]
 xs:Blk W bs 35 #[.slice (some ⟨gq,0,none⟩) K K]
 r4:Blk W (w.heap.size+1+1) 37 #[.slice none 0 0]
 r5:Blk W (w.heap.size+1+1+1) 37 #[.slice none 0 0]
 below:Below w.heap.size w W
theorem zmf.own {X Y m n K gd gx gq b7 b8 b9 bs B:Nat}{Ld:List Nat}{w:World}(hB:w.heap.size<=B)(k:Nat):OwnFrom B (fun(_:Unit) W=>zmf X Y m n K gd gx gq b7 b8 b9 bs Ld w k W):=by
 intro _ W W' row h hg hr;obtain⟨L,Q,h1,h2,h3,h4⟩:=h.row;exact⟨⟨L,Q,h1,h2,zdv h3 hg hr,zdv h4 hg hr⟩,zdv h.div hg hr,zbE h.x7 hg hr,zbE h.x8 hg hr,zbE h.x9 hg hr,zbE h.xs hg hr,zbE h.r4 hg hr,zbE h.r5 hg hr,zfi h.below (Nat.le_refl _) hB hg hr⟩
theorem zlI (x d:Nat)(A D:oA9)(n m c ce:Nat)(w:World)(hA:zad w x A n c)(hD:zad w d D m ce)(hm:2<=m)(hmn:m<=n)(hn:n<=274877906944):
  Calls prog 216 #[.agg #[.slice A n c],.agg #[.slice D m ce]] w (zpl w (x / d) (x%d)):=by
 have cu:=hD.len;have a2:=hA.len;obtain⟨up,a0,E,s,u⟩:=norm_up (d:=d) (m:=m - 1) om9;rw [show m - 1+1=m from by omega] at s;have hK:∃K,K=n - m+1:=⟨_,rfl⟩;obtain⟨K,hK⟩:=hK;have f:=zoH (x:=x) (d:=d) (n:=n) (m:=m - 1) (k:=K) (up:=up) a2 om9 om9;have am:(dg 18446744073709551616 (2^up*d)).length<=m:=zcH de9 _ _ s;have an:=norm_len (up:=up) a2 E;have HA:=up9 w (λw' hb=>hA.below hb);have HD:=up9 w (λw' hb=>hD.below hb);obtain⟨t,ht⟩:∃t,wd d (m - 1)=t:=⟨_,rfl⟩;have df:=zcs d (m - 1);rw [ht] at df a0;have ar:=λw' (hb:Below w.heap.size w w')=>zdL d D m ce (m - 1) w' (HD.out w' hb);rw [ht,show((m - 1:Nat):Int)=(m:Int) - 1 from by omega] at ar;have ao:=λw'=>zrC (t:Int) ⟨om9,om9⟩ w';rw [a0] at ao;have cp:=lh9 ar;clear ar;have ch:=lh9 ao;clear ao;have ae:=zqM x d up;obtain⟨X,hX⟩:∃X,2^up*x=X:=⟨_,rfl⟩;obtain⟨Y,hY⟩:∃Y,2^up*d=Y:=⟨_,rfl⟩;have ap:=λw' (hb:Below w.heap.size w w')=>zit d up m D m ce w' (HD.out w' hb) om9 E am om9;have af:=λw' (hb:Below w.heap.size w w')=>zit x up (n+1) A n c w' (HA.out w' hb) hn E an om9;rw [show((n+1:Nat):Int)=(n:Int)+1 from by omega] at af;rw [hY] at ap s u f ae;rw [hX] at af f ae;have ci:=lh9 ap;clear ap;have cj:=lh9 af;clear af;have HN:=lh9 ae;have HF:=lh9 f;have cd:=lh9 s;have cf:=lh9 u;have HK:=lh9 hK;clear ae cu a2 a0 s u f am an ht hX hY hK hA hD E;refine(callsIn_wide (n:=3)).1 ?_;refine callsIn_of_wp_marks func216 rfl trivial ?_ rfl;simp only [ntmps216,List.size_toArray,List.length_cons,List.length_nil,Nat.reduceAdd,Nat.reduceSub,Array.replicate_succ,Array.replicate_zero,List.push_toArray,List.append_toArray,List.nil_append,List.cons_append];refine wpIn_wide.2 ?_;go_wp2_with fail;obtain⟨hB,b2,b3,k4,k5,b6⟩:=zlp w 37 #[.slice A n c] #[.slice D m ce] #[.slice none 0 0] #[.slice none 0 0];generalize hW:(((w.alloc (.cells #[.slice A n c] 37)).alloc (.cells #[.slice D m ce] 37)).alloc (.cells #[.slice none 0 0] 37)).alloc (.cells #[.slice none 0 0] 37)=W0 at*;have g2:W0.cell? ⟨w.heap.size,0,none⟩=some (.slice A n c):=b2.cell 0;have g3:W0.cell? ⟨w.heap.size+1,0,none⟩=some (.slice D m ce):=b3.cell 0;clear hW b2 b3;have C1:=up9 W0 (λw' hb=>cp.out w' (zaa hB hb));have i1:IntKind.i64.wrap ((m:Int) - 1)=(m:Int) - 1:=IntWalk.i64_in _ om9;have o:Below W0.heap.size W0 W0.drew:=(Below.refl _ W0).drew;have j3:W0.drew.cell? ⟨w.heap.size+1,0,none⟩=some (.slice D m ce):=g3;obtain⟨R,hI,hE⟩:∃R:Exit->Act->World->Prop,(∀  (wc:World),Below W0.heap.size W0 wc->R .normal {tmps:=#[.agg #[.slice A n c],.agg #[.slice D m ce],.pointer (some ⟨w.heap.size,0,none⟩),.pointer (some ⟨w.heap.size+1,0,none⟩),.pointer (some ⟨w.heap.size+1+1,0,none⟩),.pointer (some ⟨w.heap.size+1+1+1,0,none⟩),.int .i64 (up:Int),undef,undef,undef,undef,.agg #[.slice D m ce],.agg #[.slice D m ce],.int .i64 (m:Int),.int .i64 ((m:Int) - 1),.int .u64 (t:Int),.int .i64 (up:Int),undef,undef,undef,undef,undef,undef,undef,undef,undef,undef,undef,undef,undef,undef,undef,undef,undef,undef,undef,undef,undef,undef,undef,undef,undef,undef,undef,undef,undef,undef,undef,undef,undef,undef,undef,undef,undef,undef,undef,undef,undef],defers:=[]} wc)/\(∀e a' wc,R e a' wc->e=.normal/\a'={tmps:=#[.agg #[.slice A n c],.agg #[.slice D m ce],.pointer (some ⟨w.heap.size,0,none⟩),.pointer (some ⟨w.heap.size+1,0,none⟩),.pointer (some ⟨w.heap.size+1+1,0,none⟩),.pointer (some ⟨w.heap.size+1+1+1,0,none⟩),.int .i64 (up:Int),undef,undef,undef,undef,.agg #[.slice D m ce],.agg #[.slice D m ce],.int .i64 (m:Int),.int .i64 ((m:Int) - 1),.int .u64 (t:Int),.int .i64 (up:Int),undef,undef,undef,undef,undef,undef,undef,undef,undef,undef,undef,undef,undef,undef,undef,undef,undef,undef,undef,undef,undef,undef,undef,undef,undef,undef,undef,undef,undef,undef,undef,undef,undef,undef,undef,undef,undef,undef,undef,undef,undef],defers:=[]}/\Below W0.heap.size W0 wc):=⟨λe a' wc=>e=.normal/\a'={tmps:=#[.agg #[.slice A n c],.agg #[.slice D m ce],.pointer (some ⟨w.heap.size,0,none⟩),.pointer (some ⟨w.heap.size+1,0,none⟩),.pointer (some ⟨w.heap.size+1+1,0,none⟩),.pointer (some ⟨w.heap.size+1+1+1,0,none⟩),.int .i64 (up:Int),undef,undef,undef,undef,.agg #[.slice D m ce],.agg #[.slice D m ce],.int .i64 (m:Int),.int .i64 ((m:Int) - 1),.int .u64 (t:Int),.int .i64 (up:Int),undef,undef,undef,undef,undef,undef,undef,undef,undef,undef,undef,undef,undef,undef,undef,undef,undef,undef,undef,undef,undef,undef,undef,undef,undef,undef,undef,undef,undef,undef,undef,undef,undef,undef,undef,undef,undef,undef,undef,undef,undef],defers:=[]}/\Below W0.heap.size W0 wc,fun  wc c0=>⟨rfl,rfl,c0⟩,λ_ _ _ h=>h⟩;have HI:=lh9 hI;have HE:=lh9 hE;clear hI hE;refine wp_mono (Q:=R) ?_ ?_
 ·go_region_held3 (fun w' => Below W0.heap.size W0 w' ∧ w'.cell? ⟨w.heap.size + 1,0,none⟩ = some (.slice D m ce))
   (first|(with_reducible exact⟨o,j3⟩)|(go_split_ands;(repeat' apply And.intro);all_goals (first|exact as9|with_reducible exact zaa as9 hb|with_reducible exact zac hb as9|with_reducible exact zaj _ as9|with_reducible exact zaj _ (zaj _ as9)|with_reducible exact zam _ (zam _ as9)|with_reducible exact Below.drew (zaj _ as9)|with_reducible exact(cell_drew_own _ _).trans (zam _ as9)|with_reducible exact zam _ as9|with_reducible exact zae _ (by first|(simp;done)|(simp;omega)) as9|with_reducible exact zag _ (by first|(simp;done)|(simp;omega)) as9)))
   (first
     |(go_at_call 147;(with_reducible refine(zbS 0 _ _ _ _).mono ?_);rintro e w' ⟨rfl,hb⟩)
     |(go_at_call 164;(with_reducible refine(C1.out _ (by first|exact as9|exact And.left as9)).mono ?_);rintro e w' ⟨rfl,hb⟩)
     |(go_at_call 227;(with_reducible refine(ch.out _).mono ?_);rintro e w' ⟨rfl,rfl⟩))
  all_goals (
   go_split_ands
   refine HI.out _ ?_
   ·exact as9)
 ·intro e a' W hr;obtain⟨rfl,rfl,r0⟩:=HE.out e a' W hr;clear hr HI HE R;have hB:=zaa hB r0;obtain⟨g2,g3⟩:=zac2 r0 g2 g3;obtain⟨k4,k5⟩:=zab2 r0 k4 k5;have b6:=Nat.le_trans b6 r0.size;clear r0 C1 i1 o j3;go_wp2_with fail;have C:=up9 W (λw' hb=>(ci.out w' (zaa hB hb)).mono (λe dk h=>zeN.from_ h hb.size));have o:Below W.heap.size W W.drew:=(Below.refl _ W).drew;have j3:W.drew.cell? ⟨w.heap.size+1,0,none⟩=some (.slice D m ce):=g3;have aa:w.heap.size+1<W.heap.size:=World.block_lt_of_cell? W ⟨w.heap.size+1,0,none⟩ g3;generalize P:W=W1 at*;clear P;have a9:Below W1.heap.size W1 W1:=Below.refl _ _;obtain⟨R,hI,hE⟩:∃R:Exit->Act->World->Prop,(∀(b7:Nat) (gd:Nat) (Ld:List Nat) (wc:World),Below W1.heap.size W1 wc->Blk wc b7 35 #[.slice (some ⟨gd,0,none⟩) (m) (m)]->zaq wc 160 gd (m) (m) Ld->W1.heap.size<=gd->Dgs 18446744073709551616 Ld->dv 18446744073709551616 Ld=Y->R .normal {tmps:=#[.agg #[.slice A n c],.agg #[.slice D m ce],.pointer (some ⟨w.heap.size,0,none⟩),.pointer (some ⟨w.heap.size+1,0,none⟩),.pointer (some ⟨w.heap.size+1+1,0,none⟩),.pointer (some ⟨w.heap.size+1+1+1,0,none⟩),.int .i64 (up:Int),.pointer (some ⟨b7,0,none⟩),undef,undef,undef,.agg #[.slice D m ce],.agg #[.slice D m ce],.int .i64 (m:Int),.int .i64 ((m:Int) - 1),.int .u64 (t:Int),.int .i64 (up:Int),.agg #[.slice D m ce],.int .i64 (up:Int),.agg #[.slice D m ce],.int .i64 (m:Int),.slice (some ⟨gd,0,none⟩) m m,undef,undef,undef,undef,undef,undef,undef,undef,undef,undef,undef,undef,undef,undef,undef,undef,undef,undef,undef,undef,undef,undef,undef,undef,undef,undef,undef,undef,undef,undef,undef,undef,undef,undef,undef,undef],defers:=[]} wc)/\(∀e a' wc,R e a' wc->e=.normal/\∃(b7:Nat),∃(gd:Nat),∃(Ld:List Nat),a'={tmps:=#[.agg #[.slice A n c],.agg #[.slice D m ce],.pointer (some ⟨w.heap.size,0,none⟩),.pointer (some ⟨w.heap.size+1,0,none⟩),.pointer (some ⟨w.heap.size+1+1,0,none⟩),.pointer (some ⟨w.heap.size+1+1+1,0,none⟩),.int .i64 (up:Int),.pointer (some ⟨b7,0,none⟩),undef,undef,undef,.agg #[.slice D m ce],.agg #[.slice D m ce],.int .i64 (m:Int),.int .i64 ((m:Int) - 1),.int .u64 (t:Int),.int .i64 (up:Int),.agg #[.slice D m ce],.int .i64 (up:Int),.agg #[.slice D m ce],.int .i64 (m:Int),.slice (some ⟨gd,0,none⟩) m m,undef,undef,undef,undef,undef,undef,undef,undef,undef,undef,undef,undef,undef,undef,undef,undef,undef,undef,undef,undef,undef,undef,undef,undef,undef,undef,undef,undef,undef,undef,undef,undef,undef,undef,undef,undef],defers:=[]}/\Below W1.heap.size W1 wc/\Blk wc b7 35 #[.slice (some ⟨gd,0,none⟩) (m) (m)]/\zaq wc 160 gd (m) (m) Ld/\W1.heap.size<=gd/\Dgs 18446744073709551616 Ld/\dv 18446744073709551616 Ld=Y):=⟨λe a' wc=>e=.normal/\∃(b7:Nat),∃(gd:Nat),∃(Ld:List Nat),a'={tmps:=#[.agg #[.slice A n c],.agg #[.slice D m ce],.pointer (some ⟨w.heap.size,0,none⟩),.pointer (some ⟨w.heap.size+1,0,none⟩),.pointer (some ⟨w.heap.size+1+1,0,none⟩),.pointer (some ⟨w.heap.size+1+1+1,0,none⟩),.int .i64 (up:Int),.pointer (some ⟨b7,0,none⟩),undef,undef,undef,.agg #[.slice D m ce],.agg #[.slice D m ce],.int .i64 (m:Int),.int .i64 ((m:Int) - 1),.int .u64 (t:Int),.int .i64 (up:Int),.agg #[.slice D m ce],.int .i64 (up:Int),.agg #[.slice D m ce],.int .i64 (m:Int),.slice (some ⟨gd,0,none⟩) m m,undef,undef,undef,undef,undef,undef,undef,undef,undef,undef,undef,undef,undef,undef,undef,undef,undef,undef,undef,undef,undef,undef,undef,undef,undef,undef,undef,undef,undef,undef,undef,undef,undef,undef,undef,undef],defers:=[]}/\Below W1.heap.size W1 wc/\Blk wc b7 35 #[.slice (some ⟨gd,0,none⟩) (m) (m)]/\zaq wc 160 gd (m) (m) Ld/\W1.heap.size<=gd/\Dgs 18446744073709551616 Ld/\dv 18446744073709551616 Ld=Y,λb7 gd Ld wc c0 c1 c2 c3 c4 c5=>⟨rfl,b7,gd,Ld,rfl,c0,c1,c2,c3,c4,c5⟩,λ_ _ _ h=>h⟩;have HI:=lh9 hI;have HE:=lh9 hE;clear hI hE;refine wp_mono (Q:=R) ?_ ?_
  ·go_region_held3 (fun w' => Below W1.heap.size W1 w' ∧ w'.cell? ⟨w.heap.size + 1,0,none⟩ = some (.slice D m ce))
    (first|(with_reducible exact⟨o,j3⟩)|(go_split_ands;(repeat' apply And.intro);all_goals (first|exact as9|with_reducible exact zaa as9 hb|with_reducible exact zac hb as9|with_reducible exact zaj _ as9|with_reducible exact zaj _ (zaj _ as9)|with_reducible exact zam _ (zam _ as9)|with_reducible exact Below.drew (zaj _ as9)|with_reducible exact(cell_drew_own _ _).trans (zam _ as9)|with_reducible exact zam _ as9|with_reducible exact zae _ (by first|(simp;done)|(simp;omega)) as9|with_reducible exact zag _ (by first|(simp;done)|(simp;omega)) as9)))
    (first
      |(go_at_call 147;(with_reducible refine(zbS 0 _ _ _ _).mono ?_);rintro e w' ⟨rfl,hb⟩;go_split_ands;(have O:Below W1.heap.size W1 w':=zaa as9 hb);(have bg:=O.size);(first|(with_reducible have hz:=zab hb hz)|(with_reducible have hz:=zab hb (Blk.new _ _ _))|(with_reducible have hz:=zab hb (Blk.new _ _ _).drew)|skip))
      |(go_at_call 228;(with_reducible refine(C.out _ (by first|exact as9|exact And.left as9)).mono ?_);rintro e w' ⟨gr,Lr,rfl,cw,i,cv,dh,hb⟩;go_split_ands;(have cr:Below W1.heap.size W1 w':=zaa as9 hb);(have ct:w'.cell? ⟨w.heap.size+1,0,none⟩=some (.slice D m ce):=zac hb as9);(first|(with_reducible have hz:=zab hb hz)|(with_reducible have hz:=zab hb (Blk.new _ _ _))|(with_reducible have hz:=zab hb (Blk.new _ _ _).drew)|skip);(try (have q1:=hz.cell 0));(try (have q2:=hz.frozen 0))))
   all_goals (
    go_split_ands
    refine HI.out _ _ Lr _ ?_ ?_ ?_ ?_ ?_ ?_
    ·exact as9
    ·(first|with_reducible exact Blk.new _ _ _|exact hz.set_ 0 _)
    ·(first|with_reducible exact i.far (zen i hz de9) _|with_reducible exact i.alloc _|with_reducible exact(i.alloc _).far (by have:=i.lt;simp;omega) _)
    ·exact as9
    ·exact as9
    ·exact as9)
  ·intro e a' W hr;obtain⟨rfl,b7,gd,Ld,rfl,r0,r1,r2,r3,r4,r5⟩:=HE.out e a' W hr;clear hr HI HE R;have hgd4:w.heap.size+4<=gd:=Nat.le_trans b6 r3;have hB:=zaa hB r0;obtain⟨g2,g3⟩:=zac2 r0 g2 g3;obtain⟨k4,k5⟩:=zab2 r0 k4 k5;have b6:=Nat.le_trans b6 r0.size;obtain⟨H,y,hgd,bb,bo⟩:=And.intro r1 (And.intro r2 (And.intro r3 (And.intro r4 r5)));clear r0 r1 r2 r3 r4 r5 C o j3 aa;go_wp2_with fail;have bd:=y.lt;have i2:IntKind.i64.wrap ((n:Int)+1)=(n:Int)+1:=IntWalk.i64_in _ om9;have C:=up9 W (λw' hb=>(cj.out w' (zaa hB hb)).mono (λe dk h=>zeN.from_ h hb.size));have o:Below W.heap.size W W.drew:=(Below.refl _ W).drew;have j3:W.drew.cell? ⟨w.heap.size,0,none⟩=some (.slice A n c):=g2;have aa:w.heap.size<W.heap.size:=World.block_lt_of_cell? W ⟨w.heap.size,0,none⟩ g2;generalize P:W=W1 at*;clear P;have a9:Below W1.heap.size W1 W1:=Below.refl _ _;obtain⟨R,hI,hE⟩:∃R:Exit->Act->World->Prop,(∀(b8:Nat) (gx:Nat) (Lx:List Nat) (wc:World),Below W1.heap.size W1 wc->Blk wc b8 35 #[.slice (some ⟨gx,0,none⟩) (n+1) (n+1)]->zaq wc 160 gx (n+1) (n+1) Lx->W1.heap.size<=gx->Dgs 18446744073709551616 Lx->dv 18446744073709551616 Lx=X->R .normal {tmps:=#[.agg #[.slice A n c],.agg #[.slice D m ce],.pointer (some ⟨w.heap.size,0,none⟩),.pointer (some ⟨w.heap.size+1,0,none⟩),.pointer (some ⟨w.heap.size+1+1,0,none⟩),.pointer (some ⟨w.heap.size+1+1+1,0,none⟩),.int .i64 (up:Int),.pointer (some ⟨b7,0,none⟩),.pointer (some ⟨b8,0,none⟩),undef,undef,.agg #[.slice D m ce],.agg #[.slice D m ce],.int .i64 (m:Int),.int .i64 ((m:Int) - 1),.int .u64 (t:Int),.int .i64 (up:Int),.agg #[.slice D m ce],.int .i64 (up:Int),.agg #[.slice D m ce],.int .i64 (m:Int),.slice (some ⟨gd,0,none⟩) m m,.agg #[.slice A n c],.int .i64 (up:Int),.agg #[.slice A n c],.int .i64 (n:Int),.int .i64 ((n:Int)+1),.slice (some ⟨gx,0,none⟩) (n+1) (n+1),undef,undef,undef,undef,undef,undef,undef,undef,undef,undef,undef,undef,undef,undef,undef,undef,undef,undef,undef,undef,undef,undef,undef,undef,undef,undef,undef,undef,undef,undef],defers:=[]} wc)/\(∀e a' wc,R e a' wc->e=.normal/\∃(b8:Nat),∃(gx:Nat),∃(Lx:List Nat),a'={tmps:=#[.agg #[.slice A n c],.agg #[.slice D m ce],.pointer (some ⟨w.heap.size,0,none⟩),.pointer (some ⟨w.heap.size+1,0,none⟩),.pointer (some ⟨w.heap.size+1+1,0,none⟩),.pointer (some ⟨w.heap.size+1+1+1,0,none⟩),.int .i64 (up:Int),.pointer (some ⟨b7,0,none⟩),.pointer (some ⟨b8,0,none⟩),undef,undef,.agg #[.slice D m ce],.agg #[.slice D m ce],.int .i64 (m:Int),.int .i64 ((m:Int) - 1),.int .u64 (t:Int),.int .i64 (up:Int),.agg #[.slice D m ce],.int .i64 (up:Int),.agg #[.slice D m ce],.int .i64 (m:Int),.slice (some ⟨gd,0,none⟩) m m,.agg #[.slice A n c],.int .i64 (up:Int),.agg #[.slice A n c],.int .i64 (n:Int),.int .i64 ((n:Int)+1),.slice (some ⟨gx,0,none⟩) (n+1) (n+1),undef,undef,undef,undef,undef,undef,undef,undef,undef,undef,undef,undef,undef,undef,undef,undef,undef,undef,undef,undef,undef,undef,undef,undef,undef,undef,undef,undef,undef,undef],defers:=[]}/\Below W1.heap.size W1 wc/\Blk wc b8 35 #[.slice (some ⟨gx,0,none⟩) (n+1) (n+1)]/\zaq wc 160 gx (n+1) (n+1) Lx/\W1.heap.size<=gx/\Dgs 18446744073709551616 Lx/\dv 18446744073709551616 Lx=X):=⟨λe a' wc=>e=.normal/\∃(b8:Nat),∃(gx:Nat),∃(Lx:List Nat),a'={tmps:=#[.agg #[.slice A n c],.agg #[.slice D m ce],.pointer (some ⟨w.heap.size,0,none⟩),.pointer (some ⟨w.heap.size+1,0,none⟩),.pointer (some ⟨w.heap.size+1+1,0,none⟩),.pointer (some ⟨w.heap.size+1+1+1,0,none⟩),.int .i64 (up:Int),.pointer (some ⟨b7,0,none⟩),.pointer (some ⟨b8,0,none⟩),undef,undef,.agg #[.slice D m ce],.agg #[.slice D m ce],.int .i64 (m:Int),.int .i64 ((m:Int) - 1),.int .u64 (t:Int),.int .i64 (up:Int),.agg #[.slice D m ce],.int .i64 (up:Int),.agg #[.slice D m ce],.int .i64 (m:Int),.slice (some ⟨gd,0,none⟩) m m,.agg #[.slice A n c],.int .i64 (up:Int),.agg #[.slice A n c],.int .i64 (n:Int),.int .i64 ((n:Int)+1),.slice (some ⟨gx,0,none⟩) (n+1) (n+1),undef,undef,undef,undef,undef,undef,undef,undef,undef,undef,undef,undef,undef,undef,undef,undef,undef,undef,undef,undef,undef,undef,undef,undef,undef,undef,undef,undef,undef,undef],defers:=[]}/\Below W1.heap.size W1 wc/\Blk wc b8 35 #[.slice (some ⟨gx,0,none⟩) (n+1) (n+1)]/\zaq wc 160 gx (n+1) (n+1) Lx/\W1.heap.size<=gx/\Dgs 18446744073709551616 Lx/\dv 18446744073709551616 Lx=X,λb8 gx Lx wc c0 c1 c2 c3 c4 c5=>⟨rfl,b8,gx,Lx,rfl,c0,c1,c2,c3,c4,c5⟩,λ_ _ _ h=>h⟩;have HI:=lh9 hI;have HE:=lh9 hE;clear hI hE;refine wp_mono (Q:=R) ?_ ?_
   ·go_region_held3 (fun w' => Below W1.heap.size W1 w' ∧ w'.cell? ⟨w.heap.size,0,none⟩ = some (.slice A n c))
     (first|(with_reducible exact⟨o,j3⟩)|(go_split_ands;(repeat' apply And.intro);all_goals (first|exact as9|with_reducible exact zaa as9 hb|with_reducible exact zac hb as9|with_reducible exact zaj _ as9|with_reducible exact zaj _ (zaj _ as9)|with_reducible exact zam _ (zam _ as9)|with_reducible exact Below.drew (zaj _ as9)|with_reducible exact(cell_drew_own _ _).trans (zam _ as9)|with_reducible exact zam _ as9|with_reducible exact zae _ (by first|(simp;done)|(simp;omega)) as9|with_reducible exact zag _ (by first|(simp;done)|(simp;omega)) as9)))
     (first
       |(go_at_call 147;(with_reducible refine(zbS 0 _ _ _ _).mono ?_);rintro e w' ⟨rfl,hb⟩;go_split_ands;(have O:Below W1.heap.size W1 w':=zaa as9 hb);(have bg:=O.size);(first|(with_reducible have hz:=zab hb hz)|(with_reducible have hz:=zab hb (Blk.new _ _ _))|(with_reducible have hz:=zab hb (Blk.new _ _ _).drew)|skip))
       |(go_at_call 228;(with_reducible refine(C.out _ (by first|exact as9|exact And.left as9)).mono ?_);rintro e w' ⟨gr,Lr,rfl,cw,i,cv,dh,hb⟩;go_split_ands;(have cr:Below W1.heap.size W1 w':=zaa as9 hb);(have ct:w'.cell? ⟨w.heap.size,0,none⟩=some (.slice A n c):=zac hb as9);(first|(with_reducible have hz:=zab hb hz)|(with_reducible have hz:=zab hb (Blk.new _ _ _))|(with_reducible have hz:=zab hb (Blk.new _ _ _).drew)|skip);(try (have q1:=hz.cell 0));(try (have q2:=hz.frozen 0))))
    all_goals (
     go_split_ands
     refine HI.out _ _ Lr _ ?_ ?_ ?_ ?_ ?_ ?_
     ·exact as9
     ·(first|with_reducible exact Blk.new _ _ _|exact hz.set_ 0 _)
     ·(first|with_reducible exact i.far (zen i hz de9) _|with_reducible exact i.alloc _|with_reducible exact(i.alloc _).far (by have:=i.lt;simp;omega) _)
     ·exact as9
     ·exact as9
     ·exact as9)
   ·intro e a' W hr;obtain⟨rfl,b8,gx,Lx,rfl,r0,r1,r2,r3,r4,r5⟩:=HE.out e a' W hr;clear hr HI HE R;have bt:gd<gx:=Nat.lt_of_lt_of_le bd r3;have hB:=zaa hB r0;obtain⟨g2,g3⟩:=zac2 r0 g2 g3;obtain⟨k4,k5⟩:=zab2 r0 k4 k5;have b6:=Nat.le_trans b6 r0.size;have H:=zab r0 H;have y:=y.keep r0;obtain⟨ag,G,hgx,bc,bp⟩:=And.intro r1 (And.intro r2 (And.intro r3 (And.intro r4 r5)));clear r0 r1 r2 r3 r4 r5 C o j3 aa;go_wp2_with fail;have be:=G.lt;obtain⟨i0,bf,bw,bx,bz⟩:=info_parts zgD;obtain⟨Z,hZ⟩:∃Z,madeCells (Value.cells (.int .u64 0)) K=Z:=⟨_,rfl⟩;have a7:(n:Int) - (m:Int)+1=(K:Int):=by have:=HK.out;omega
    have cz:∀W:World,(Instr.makeSlice 35 (.int .i64 ((n:Int) - (m:Int)+1)) (.int .i64 ((n:Int) - (m:Int)+1))).run prog W=.ok (.slice (some ⟨W.heap.size,0,none⟩) K K) (W.alloc (.cells Z 160)):=λW=>by
     have h:=zbf _ _ i0 _ underlying35 bf bw .i64 .i64 K K (Nat.le_refl _) (by rw [bz];have:=HK.out;omega) (by have:=HK.out;omega) W;rw [bx,Nat.mul_one,hZ] at h;rw [a7];exact h
    have N:=lh9 (λW:World=>by have h:=zaq.made W 160 K (by have:=HK.out;unfold maxLen;omega);rw [hZ] at h;exact h);have al:=lh9 (fun(W:World) (ob:Obj)=>by have h:=N.out (W.alloc ob);rw [World.size_alloc] at h;exact h);clear hZ a7 bf bw bx bz;have i3:IntKind.i64.wrap ((n:Int) - (m:Int))=(n:Int) - (m:Int):=IntWalk.i64_in _ om9;have i4:IntKind.i64.wrap ((n:Int) - (m:Int)+1)=(n:Int) - (m:Int)+1:=IntWalk.i64_in _ om9;have o:Below W.heap.size W W.drew:=(Below.refl _ W).drew;have j2:W.drew.cell? ⟨w.heap.size,0,none⟩=some (.slice A n c):=g2;have j3:W.drew.cell? ⟨w.heap.size+1,0,none⟩=some (.slice D m ce):=g3;have aa:w.heap.size+1<W.heap.size:=World.block_lt_of_cell? W ⟨w.heap.size+1,0,none⟩ g3;generalize P:W=W1 at*;clear P;have a9:Below W1.heap.size W1 W1:=Below.refl _ _;obtain⟨R,hI,hE⟩:∃R:Exit->Act->World->Prop,(∀(b9:Nat) (gq:Nat) (wc:World),Below W1.heap.size W1 wc->Blk wc b9 35 #[.slice (some ⟨gq,0,none⟩) K K]->zaq wc 160 gq K K (List.replicate K 0)->W1.heap.size<=gq->R .normal {tmps:=#[.agg #[.slice A n c],.agg #[.slice D m ce],.pointer (some ⟨w.heap.size,0,none⟩),.pointer (some ⟨w.heap.size+1,0,none⟩),.pointer (some ⟨w.heap.size+1+1,0,none⟩),.pointer (some ⟨w.heap.size+1+1+1,0,none⟩),.int .i64 (up:Int),.pointer (some ⟨b7,0,none⟩),.pointer (some ⟨b8,0,none⟩),.pointer (some ⟨b9,0,none⟩),undef,.agg #[.slice D m ce],.agg #[.slice D m ce],.int .i64 (m:Int),.int .i64 ((m:Int) - 1),.int .u64 (t:Int),.int .i64 (up:Int),.agg #[.slice D m ce],.int .i64 (up:Int),.agg #[.slice D m ce],.int .i64 (m:Int),.slice (some ⟨gd,0,none⟩) m m,.agg #[.slice A n c],.int .i64 (up:Int),.agg #[.slice A n c],.int .i64 (n:Int),.int .i64 ((n:Int)+1),.slice (some ⟨gx,0,none⟩) (n+1) (n+1),.agg #[.slice A n c],.int .i64 (n:Int),.agg #[.slice D m ce],.int .i64 (m:Int),.int .i64 ((n:Int) - (m:Int)),.int .i64 ((n:Int) - (m:Int)+1),.slice (some ⟨gq,0,none⟩) K K,undef,undef,undef,undef,undef,undef,undef,undef,undef,undef,undef,undef,undef,undef,undef,undef,undef,undef,undef,undef,undef,undef,undef],defers:=[]} wc)/\(∀e a' wc,R e a' wc->e=.normal/\∃(b9:Nat),∃(gq:Nat),a'={tmps:=#[.agg #[.slice A n c],.agg #[.slice D m ce],.pointer (some ⟨w.heap.size,0,none⟩),.pointer (some ⟨w.heap.size+1,0,none⟩),.pointer (some ⟨w.heap.size+1+1,0,none⟩),.pointer (some ⟨w.heap.size+1+1+1,0,none⟩),.int .i64 (up:Int),.pointer (some ⟨b7,0,none⟩),.pointer (some ⟨b8,0,none⟩),.pointer (some ⟨b9,0,none⟩),undef,.agg #[.slice D m ce],.agg #[.slice D m ce],.int .i64 (m:Int),.int .i64 ((m:Int) - 1),.int .u64 (t:Int),.int .i64 (up:Int),.agg #[.slice D m ce],.int .i64 (up:Int),.agg #[.slice D m ce],.int .i64 (m:Int),.slice (some ⟨gd,0,none⟩) m m,.agg #[.slice A n c],.int .i64 (up:Int),.agg #[.slice A n c],.int .i64 (n:Int),.int .i64 ((n:Int)+1),.slice (some ⟨gx,0,none⟩) (n+1) (n+1),.agg #[.slice A n c],.int .i64 (n:Int),.agg #[.slice D m ce],.int .i64 (m:Int),.int .i64 ((n:Int) - (m:Int)),.int .i64 ((n:Int) - (m:Int)+1),.slice (some ⟨gq,0,none⟩) K K,undef,undef,undef,undef,undef,undef,undef,undef,undef,undef,undef,undef,undef,undef,undef,undef,undef,undef,undef,undef,undef,undef,undef],defers:=[]}/\Below W1.heap.size W1 wc/\Blk wc b9 35 #[.slice (some ⟨gq,0,none⟩) K K]/\zaq wc 160 gq K K (List.replicate K 0)/\W1.heap.size<=gq):=⟨λe a' wc=>e=.normal/\∃(b9:Nat),∃(gq:Nat),a'={tmps:=#[.agg #[.slice A n c],.agg #[.slice D m ce],.pointer (some ⟨w.heap.size,0,none⟩),.pointer (some ⟨w.heap.size+1,0,none⟩),.pointer (some ⟨w.heap.size+1+1,0,none⟩),.pointer (some ⟨w.heap.size+1+1+1,0,none⟩),.int .i64 (up:Int),.pointer (some ⟨b7,0,none⟩),.pointer (some ⟨b8,0,none⟩),.pointer (some ⟨b9,0,none⟩),undef,.agg #[.slice D m ce],.agg #[.slice D m ce],.int .i64 (m:Int),.int .i64 ((m:Int) - 1),.int .u64 (t:Int),.int .i64 (up:Int),.agg #[.slice D m ce],.int .i64 (up:Int),.agg #[.slice D m ce],.int .i64 (m:Int),.slice (some ⟨gd,0,none⟩) m m,.agg #[.slice A n c],.int .i64 (up:Int),.agg #[.slice A n c],.int .i64 (n:Int),.int .i64 ((n:Int)+1),.slice (some ⟨gx,0,none⟩) (n+1) (n+1),.agg #[.slice A n c],.int .i64 (n:Int),.agg #[.slice D m ce],.int .i64 (m:Int),.int .i64 ((n:Int) - (m:Int)),.int .i64 ((n:Int) - (m:Int)+1),.slice (some ⟨gq,0,none⟩) K K,undef,undef,undef,undef,undef,undef,undef,undef,undef,undef,undef,undef,undef,undef,undef,undef,undef,undef,undef,undef,undef,undef,undef],defers:=[]}/\Below W1.heap.size W1 wc/\Blk wc b9 35 #[.slice (some ⟨gq,0,none⟩) K K]/\zaq wc 160 gq K K (List.replicate K 0)/\W1.heap.size<=gq,λb9 gq wc c0 c1 c2 c3=>⟨rfl,b9,gq,rfl,c0,c1,c2,c3⟩,λ_ _ _ h=>h⟩;have HI:=lh9 hI;have HE:=lh9 hE;clear hI hE;refine wp_mono (Q:=R) ?_ ?_
    ·go_region_held3 (fun w' => Below W1.heap.size W1 w' ∧ w'.cell? ⟨w.heap.size,0,none⟩ = some (.slice A n c) ∧ w'.cell? ⟨w.heap.size + 1,0,none⟩ = some (.slice D m ce))
      (first|(with_reducible exact⟨o,j2,j3⟩)|(go_split_ands;(repeat' apply And.intro);all_goals (first|exact as9|with_reducible exact zaa as9 hb|with_reducible exact zac hb as9|with_reducible exact zaj _ as9|with_reducible exact zaj _ (zaj _ as9)|with_reducible exact zam _ (zam _ as9)|with_reducible exact Below.drew (zaj _ as9)|with_reducible exact(cell_drew_own _ _).trans (zam _ as9)|with_reducible exact zam _ as9|with_reducible exact zae _ (by first|(simp;done)|(simp;omega)) as9|with_reducible exact zag _ (by first|(simp;done)|(simp;omega)) as9)))
      (first
        |(go_at_call 147;(with_reducible refine(zbS 0 _ _ _ _).mono ?_);rintro e w' ⟨rfl,hb⟩;go_split_ands;(have O:Below W1.heap.size W1 w':=zaa as9 hb);(have bg:=O.size);(have hc0:w'.cell? ⟨w.heap.size,0,none⟩=some (.slice A n c):=zac hb as9);(have hc1:w'.cell? ⟨w.heap.size+1,0,none⟩=some (.slice D m ce):=zac hb as9);  (first|(with_reducible have hz:=zab hb hz)|(with_reducible have hz:=zab hb (Blk.new _ _ _))|(with_reducible have hz:=zab hb (Blk.new _ _ _).drew)|skip);(try (have q1:=λob=>zam ob (hz.cell 0)));(try (have q2:=λob=>(hz.alloc ob).frozen 0))))
     all_goals (
      go_split_ands
      refine HI.out _ _ _ ?_ ?_ ?_ ?_
      ·exact as9
      ·(first|(with_reducible exact Blk.new1 _ _ _ _)|(with_reducible exact(Blk.new _ _ _).alloc _)|exact(hz.alloc _).set_ 0 _)
      ·(first|(with_reducible exact(N.out _).alloc _)|(with_reducible exact al.out _ _)|exact(N.out _).far (zen (N.out _) (hz.alloc _) de9) _)
      ·(first|omega|(simp;omega)))
    ·intro e a' W hr;obtain⟨rfl,b9,gq,rfl,r0,r1,r2,r3⟩:=HE.out e a' W hr;clear hr HI HE R;have hqx:gx<gq:=Nat.lt_of_lt_of_le be r3;have hB:=zaa hB r0;obtain⟨g2,g3⟩:=zac2 r0 g2 g3;obtain⟨k4,k5⟩:=zab2 r0 k4 k5;have b6:=Nat.le_trans b6 r0.size;obtain⟨H,ag⟩:=zab2 r0 H ag;have y:=y.keep r0;have G:=G.keep r0;obtain⟨aw,aq,hgq⟩:=And.intro r1 (And.intro r2 r3);clear r0 r1 r2 r3 o j2 j3 aa cz N al i3 i4 i2;have q9:W.cell? ⟨b9,0,none⟩=some (.slice (some ⟨gq,0,none⟩) K K):=aw.cell 0;go_wp2_with fail;have b0:=Blk.new W 35 #[.slice (some ⟨gq,0,none⟩) K K];refine(zeH (some ⟨gq,0,none⟩) K K _).mono ?_;rintro e w2 ⟨rfl,a1⟩;have H0:=lh9 (show zmf X Y m n K gd gx gq b7 b8 b9 W.heap.size Ld w K w2 by
      rw [<-a1];have ac:=HK.out;exact⟨⟨Lx,List.replicate K 0,zfI.start (by rw [G.len];omega) bc bp HF.out,λj _=>by simp [List.getD_eq_getElem?_getD,List.getElem?_replicate];split<;>rfl,G.alloc _,aq.alloc _⟩,y.alloc _,H.alloc _,ag.alloc _,aw.alloc _,b0,k4.alloc _,k5.alloc _,zaj _ hB⟩)
     have cq:w.heap.size<=w2.heap.size:=by rw [<-a1];have:=hB.size;simp;omega
     go_wp2_with fail;obtain⟨bs,au⟩:∃g,W.heap.size=g:=⟨_,rfl⟩;rw [au] at H0⊢;have hgq2:gq<bs:=by rw [<-au];exact aq.lt
     have hq3:w.heap.size+1+1+1<gd:=om9;have a5:=lh9 bb;have ab:=lh9 bo;clear a1 b0 au G y aq H ag aw k4 k5 hB q9 g2 g3 bb bc bo bp;refine(wpIn_wide (n:=3)).1 ?_;refine zjI (gf:=233) (lb:=#[.pointer (some ⟨bs,0,none⟩)]) rfl (enters_of func233 kr9 rfl) K (fun k => #[.int .i64 (k : Int),.int .u64 ((0 : Nat) : Int)]) (fun _ => rfl)
      (λk W=>zmf X Y m n K gd gx gq b7 b8 b9 bs Ld w k W) (λk=>zmf.own cq k) H0.out
      (zfB bs K K (some ⟨gq,0,none⟩) (λ_=>0) _ (by have:=HK.out;omega) (λk W h=>h.xs.cell 0) ?cells)
      (λk=>{tmps:=#[.agg #[.slice A n c],.agg #[.slice D m ce],.pointer (some ⟨w.heap.size,0,none⟩),.pointer (some ⟨w.heap.size+1,0,none⟩),.pointer (some ⟨w.heap.size+1+1,0,none⟩),.pointer (some ⟨w.heap.size+1+1+1,0,none⟩),.int .i64 (up:Int),.pointer (some ⟨b7,0,none⟩),.pointer (some ⟨b8,0,none⟩),.pointer (some ⟨b9,0,none⟩),.int .i64 (k:Int),.agg #[.slice D m ce],.agg #[.slice D m ce],.int .i64 (m:Int),.int .i64 ((m:Int) - 1),.int .u64 (t:Int),.int .i64 (up:Int),.agg #[.slice D m ce],.int .i64 (up:Int),.agg #[.slice D m ce],.int .i64 (m:Int),.slice (some ⟨gd,0,none⟩) m m,.agg #[.slice A n c],.int .i64 (up:Int),.agg #[.slice A n c],.int .i64 (n:Int),.int .i64 ((n:Int)+1),.slice (some ⟨gx,0,none⟩) (n+1) (n+1),.agg #[.slice A n c],.int .i64 (n:Int),.agg #[.slice D m ce],.int .i64 (m:Int),.int .i64 ((n:Int) - (m:Int)),.int .i64 ((n:Int) - (m:Int)+1),.slice (some ⟨gq,0,none⟩) K K,.slice (some ⟨gq,0,none⟩) K K,.func (.func 233) #[] #[.pointer (some ⟨bs,0,none⟩)],.int .i64 (k:Int),.int .u64 0,undef,undef,undef,undef,undef,undef,undef,undef,undef,undef,undef,undef,undef,undef,undef,undef,undef,undef,undef],defers:=[]}) ?assign ?body ?done
     case cells=>
      intro k W hk h;obtain⟨L,Q,_,h2,_,h4⟩:=h.row;refine⟨_,rfl,?_⟩;rw [znP,h4.cell k hk,h2 k om9]
     case assign=>
      intro l k W K hK
      gi_wp2
      exact hK
     case body=>
      intro l k W hk h;have kd:=h.div;have k7:=h.x7;have k8:=h.x8;have k9:=h.x9;have ks:=h.xs;have k4:=h.r4;have k5:=h.r5;have T:=h.below;obtain⟨L,Q,h1,h2,h3,h4⟩:=h.row;clear h;obtain⟨pA,p,pC,rfl,bh,bj,dc,dd,ax,c6⟩:=h1.cut hk cd.out;have a8:0<Y:=by
       have e:=ab.out;rcases Nat.eq_zero_or_pos Y with e0|e0
       ·rw [e0,Nat.mul_zero] at ax;omega
       ·exact e0
      have c7:W.cell? ⟨b7,0,none⟩=some (.slice (some ⟨gd,0,none⟩) m m):=k7.cell 0;have c8:W.cell? ⟨b8,0,none⟩=some (.slice (some ⟨gx,0,none⟩) (n+1) (n+1)):=k8.cell 0;have c9:W.cell? ⟨b9,0,none⟩=some (.slice (some ⟨gq,0,none⟩) K K):=k9.cell 0;have n7:gx≠b7/\gq≠b7:=⟨zen h3 k7 de9,zen h4 k7 de9⟩;have n8:gx≠b8/\gq≠b8:=⟨zen h3 k8 de9,zen h4 k8 de9⟩;have n9:gx≠b9/\gq≠b9:=⟨zen h3 k9 de9,zen h4 k9 de9⟩;have ns:gx≠bs/\gq≠bs:=⟨zen h3 ks de9,zen h4 ks de9⟩;obtain⟨b4,b1⟩:=n7;obtain⟨ca,b5⟩:=n8;obtain⟨cc,cb⟩:=n9;obtain⟨dj,di⟩:=ns;have ac:=HK.out;have V:=zlJ 160 gx (n+1) (n+1) k m (n+1 - k) m ⟨gd,0,none⟩ pA p pC Ld W.drew h3 bh bj dc (kd.readsB bt) a5.out hm om9 om9 om9 (Nat.le_refl _) om9 (norm_top (m:=m - 1) (by rw [kd.len];omega) a5.out ab.out cf.out) (by rw [ab.out];exact ax);unfold OutR at V;rw [ab.out] at V;obtain⟨tq,az⟩:∃t,dv 18446744073709551616 p / Y=t:=⟨_,rfl⟩;rw [az] at V;have co:=lh9 az;have cl:=lh9 V;clear V dd az;have i1:(0:Int)<=(k:Int):=om9;have i2:(k:Int)<(K:Int):=om9;have i3:IntKind.i64.wrap ((k:Int)+(m:Int))=(k:Int)+(m:Int):=IntWalk.i64_in _ om9;have i4:IntKind.i64.wrap ((k:Int)+(m:Int)+1)=(k:Int)+(m:Int)+1:=IntWalk.i64_in _ om9;have i5:(k:Int)<=(k:Int)+(m:Int)+1:=om9;have i6:(k:Int)+(m:Int)+1<=(n:Int)+1:=om9;have i7:(0:Int)<=(k:Int)+(m:Int)+1:=om9;have i8:¬(n+1=k):=om9;have i9:((k:Int)+(m:Int)+1).toNat - k=m+1:=om9;clear ac;refine wpIn_block ?_;refine zhy (S:=(λw'=>w'.cell? ⟨b7,0,none⟩=some (.slice (some ⟨gd,0,none⟩) m m)/\w'.cell? ⟨b8,0,none⟩=some (.slice (some ⟨gx,0,none⟩) (n+1) (n+1))/\w'.cell? ⟨b9,0,none⟩=some (.slice (some ⟨gq,0,none⟩) K K))) kr9 kr9 (λ_ _ h=>by cases h.1) ?_ (λhHeld=>?_)
      ·exact⟨c7,c8,c9⟩
      refine wtk9 0 (v:=?_) ?_ ?_
      rotate_left
      focus ((intro w a;(try dsimp only at a);go_simp);(try with_reducible rfl))
      try simp only [Act.put,List.setIfInBounds_toArray,List.set_cons_zero,List.set_cons_succ]
      refine wtk9 1 (v:=?_) ?_ ?_
      rotate_left
      focus ((intro w a;(try dsimp only at a);go_simp);(try with_reducible rfl))
      try simp only [Act.put,List.setIfInBounds_toArray,List.set_cons_zero,List.set_cons_succ]
      refine wtk9 2 (v:=?_) ?_ ?_
      rotate_left
      focus ((intro w a;(try dsimp only at a);go_simp);(try with_reducible rfl))
      try simp only [Act.put,List.setIfInBounds_toArray,List.set_cons_zero,List.set_cons_succ]
      refine wtk9 3 (v:=?_) ?_ ?_
      rotate_left
      focus ((intro w a;(try dsimp only at a);go_simp);(try with_reducible rfl))
      try simp only [Act.put,List.setIfInBounds_toArray,List.set_cons_zero,List.set_cons_succ]
      refine wtk9 4 (v:=?_) ?_ ?_
      rotate_left
      focus ((intro w a;(try dsimp only at a);go_simp);(try with_reducible rfl))
      try simp only [Act.put,List.setIfInBounds_toArray,List.set_cons_zero,List.set_cons_succ]
      refine wtk9 5 (v:=?_) ?_ ?_
      rotate_left
      focus ((intro w a;(try dsimp only at a);go_simp);(try with_reducible rfl))
      try simp only [Act.put,List.setIfInBounds_toArray,List.set_cons_zero,List.set_cons_succ]
      refine wtk9 6 (v:=?_) ?_ ?_
      rotate_left
      focus ((intro w a;(try dsimp only at a);go_simp);(try with_reducible rfl))
      try simp only [Act.put,List.setIfInBounds_toArray,List.set_cons_zero,List.set_cons_succ]
      refine wtk9 7 (v:=?_) ?_ ?_
      rotate_left
      focus ((intro w a;(try dsimp only at a);go_simp);(try with_reducible rfl))
      try simp only [Act.put,List.setIfInBounds_toArray,List.set_cons_zero,List.set_cons_succ]
      refine wtk9 8 (v:=?_) ?_ ?_
      rotate_left
      focus ((intro w a;(try dsimp only at a);go_simp);(try with_reducible rfl))
      try simp only [Act.put,List.setIfInBounds_toArray,List.set_cons_zero,List.set_cons_succ]
      refine wtk9 9 (v:=?_) ?_ ?_
      rotate_left
      focus ((intro w a;(try dsimp only at a);go_simp);(try with_reducible rfl))
      try simp only [Act.put,List.setIfInBounds_toArray,List.set_cons_zero,List.set_cons_succ]
      refine wtk9 10 (v:=?_) ?_ ?_
      rotate_left
      focus ((intro w a;(try dsimp only at a);go_simp);(try with_reducible rfl))
      try simp only [Act.put,List.setIfInBounds_toArray,List.set_cons_zero,List.set_cons_succ]
      refine wpAnyH_ready (rs:=[11]) kr9 si9 ?_;refine arc9 (λK hK=>?_);go_simp;refine cl.out.mono ?_;rintro e w2 ⟨p',rfl,bk,bi,bl,cs,hO⟩;have ay:=h4.drew;have cq2:=hO.cell (ay.cell k hk) (by show gq≠gx;omega);have fq2:w2.frozen? ⟨gq,k,none⟩=false:=(World.frozen?_of_block (hO.block gq ay.lt (by intro h;injection h;omega))).trans (ay.frozen k);refine hK.out _ _ ?_ (λhHeld=>?_)
      ·((try dsimp only);exact⟨hO.cell hHeld.1 (λh=>b4 h.symm),hO.cell hHeld.2.1 (λh=>ca h.symm),hO.cell hHeld.2.2 (λh=>cc h.symm)⟩)
      clear hK K
      try simp only [Act.put,List.setIfInBounds_toArray,List.set_cons_zero,List.set_cons_succ]
      refine wtk9 12 (v:=?_) ?_ ?_
      rotate_left
      focus ((intro w a;(try dsimp only at a);go_simp);(try with_reducible rfl))
      try simp only [Act.put,List.setIfInBounds_toArray,List.set_cons_zero,List.set_cons_succ]
      refine wpAnyH_ready (rs:=[13]) kr9 si9 ?_;refine arc9 (λK hK=>?_);go_simp;refine hK.out _ _ ?_ (λhHeld=>?_)
      ·((try dsimp only);exact⟨zag _ (λh=>b1 h.symm) hHeld.1,zag _ (λh=>b5 h.symm) hHeld.2.1,zag _ (λh=>cb h.symm) hHeld.2.2⟩)
      clear hK K
      try simp only [Act.put,List.setIfInBounds_toArray,List.set_cons_zero,List.set_cons_succ]
      refine wpAnyH_done kr9 ?_ _;have cx:KeepsOthers W.drew w2:=KeepsOthers.of_grownBy hO (λj ob e ho=>by
       injection e with e;subst e;obtain⟨cur,hb,_⟩:=h3;rw [show W.drew.heap[gx]?=_ from hb] at ho;cases ho;rfl)
      have de:dv 18446744073709551616 p / Y<18446744073709551616:=(Nat.div_lt_iff_lt_mul a8).2 ax;have bn:=h1.step bh bj c6 hk bk bi bl de a8;rw [co.out] at bn;have hle:=Nat.lt_of_lt_of_le bt (Nat.le_refl gx);refine⟨rfl,((KeepsOthers.drew W).trans cx).trans (KeepsOthers.setCell _ _ _),?_⟩;exact ⟨⟨_,_,bn,fun j hj => by rw [List.getD_eq_getElem?_getD,List.getElem?_set_ne om9,← List.getD_eq_getElem?_getD]; exact h2 j om9,cs.far (p:=⟨gq,k,none⟩) (by show gx ≠ gq; omega) _,(hO.row h4.drew om9).set_ k tq hk⟩,
       (hO.row kd.drew om9).far (p:=⟨gq,k,none⟩) (by show gd≠gq;omega) _,
       (hO.blk k7.drew (λh=>b4 h.symm)).far (p:=⟨gq,k,none⟩) (λh=>b1 h.symm) _,(hO.blk k8.drew (λh=>ca h.symm)).far (p:=⟨gq,k,none⟩) (λh=>b5 h.symm) _,
       (hO.blk k9.drew (λh=>cc h.symm)).far (p:=⟨gq,k,none⟩) (λh=>cb h.symm) _,(hO.blk ks.drew (λh=>dj h.symm)).far (p:=⟨gq,k,none⟩) (λh=>di h.symm) _,
       (hO.blk k4.drew om9).far (p:=⟨gq,k,none⟩) (by show w.heap.size+1+1≠gq;omega) _,(hO.blk k5.drew om9).far (p:=⟨gq,k,none⟩) (by show w.heap.size+1+1+1≠gq;omega) _,
       (hO.below T.drew T.size om9).setCell (p:=⟨gq,k,none⟩) (by show w.heap.size<=gq;omega) _⟩
     case done=>
      intro D0 W hD h hK;have k4:=h.r4;have k5:=h.r5;have T:=h.below;have c8:W.cell? ⟨b8,0,none⟩=some (.slice (some ⟨gx,0,none⟩) (n+1) (n+1)):=h.x8.cell 0;have c9:W.cell? ⟨b9,0,none⟩=some (.slice (some ⟨gq,0,none⟩) K K):=h.x9.cell 0;obtain⟨m8,m8'⟩:b8≠w.heap.size+1+1/\b8≠w.heap.size+1+1+1:=⟨h.x8.ne_ k4 de9,h.x8.ne_ k5 de9⟩;obtain⟨m9,m9'⟩:b9≠w.heap.size+1+1/\b9≠w.heap.size+1+1+1:=⟨h.x9.ne_ k4 de9,h.x9.ne_ k5 de9⟩;obtain⟨L,Q,h1,_,h3,h4⟩:=h.row;obtain⟨hq,hr⟩:=h1.done;have ac:=HK.out;have J:=zcZ (some ⟨gq,0,none⟩) K K Q W.drew h4.drew.reads h1.qdgs (Nat.le_refl _) om9 om9;have M:=λw' (hb:Below W.drew.heap.size W.drew w')=>zcZ (some ⟨gx,0,none⟩) (n+1) (n+1) L w' ((h3.drew.reads.below hb).more hb.size) h1.dgs (Nat.le_refl _) om9 om9;have ah:=zcP h1.dgs;rw [hq] at J;rw [hr] at M ah;obtain⟨xq,a3⟩:∃q,X / Y=q:=⟨_,rfl⟩;obtain⟨xr,a4⟩:∃q,X%Y=q:=⟨_,rfl⟩;rw [a3] at J;rw [a4] at M ah;have bm:(dg 18446744073709551616 xr).length<=n+1:=by
       refine zcH de9 _ _ (Nat.lt_of_lt_of_le ah (Nat.pow_le_pow_right de9 ?_));rw [h1.len];omega
      have HS:=λw' (B k c) (hw:zad w' xr B k c)=>zio xr up B k c w' hw (by have:=hw.len;omega);have z:=HN.out;rw [a3,a4] at z;obtain⟨yr,bu⟩:∃q,xr / 2^up=q:=⟨_,rfl⟩;rw [bu] at HS z;have J:=lh9 J;have M:=lh9 M;have ck:=lh9 HS;have ak:=lh9 z;have cg:=lh9 hK;have cy:D0<W.heap.size:=(Array.getElem?_eq_some_iff.1 hK).1;clear h h1 h3 h4 hq hr ac HS z hK ah bm a3 a4 bu H0
      rename_i hO1u hO2u
      clear hO2u hO1u;go_wp2_with fail;have j8:W.drew.cell? ⟨b8,0,none⟩=some (.slice (some ⟨gx,0,none⟩) (n+1) (n+1)):=c8;have j9:W.drew.cell? ⟨b9,0,none⟩=some (.slice (some ⟨gq,0,none⟩) K K):=c9
      go_region_held3 (fun w' => w'.cell? ⟨b8,0,none⟩ = some (.slice (some ⟨gx,0,none⟩) (n + 1) (n + 1)) ∧ w'.cell? ⟨b9,0,none⟩ = some (.slice (some ⟨gq,0,none⟩) K K))
       (first|(with_reducible exact⟨j8,j9⟩)|(go_split_ands;(repeat' apply And.intro);all_goals (first|exact as9|with_reducible exact zaa as9 hb|with_reducible exact zac hb as9|with_reducible exact zaj _ as9|with_reducible exact zaj _ (zaj _ as9)|with_reducible exact zam _ (zam _ as9)|with_reducible exact Below.drew (zaj _ as9)|with_reducible exact(cell_drew_own _ _).trans (zam _ as9)|with_reducible exact zam _ as9|with_reducible exact zae _ (by first|(simp;done)|(simp;omega)) as9|with_reducible exact zag _ (by first|(simp;done)|(simp;omega)) as9)))
       (first
         |(go_at_call 149;(with_reducible refine J.out.mono ?_);rintro e w' ⟨A3,n3,c3,rfl,I,hb,av⟩;have b:=hb)
         |(go_at_call 149;(with_reducible refine(M.out _ b).mono ?_);rintro e w' ⟨A4,n4,c4,rfl,bq,hb,_⟩;have I:=I.below hb;have b:=zaa b hb)
         |(go_at_call 213;(with_reducible refine(ck.out _ _ _ _ bq).mono ?_);rintro e w' ⟨A5,n5,c5,rfl,br,hb,U⟩;have U:=U.from_ b;have I:=I.below hb;have b:=zaa b hb;have ai:=zab b k4.drew;have aj:=zab b k5.drew;have f4:=ai.frozen 0;have f5:=aj.frozen 0;have g4:=ai.cell 0;have g5:=aj.cell 0))
      have hk4:=k4.lt;have hk5:=k5.lt;have k1:w'.heap[D0]?=some (.deferred (some [])):=(b.block D0 cy).trans cg.out;have a6:=(KeepsOthers.setCell w' ⟨w.heap.size+1+1,0,none⟩ (.slice A3 n3 c3)).same D0 _ k1 rfl;have F:=(KeepsOthers.setCell (w'.setCell ⟨w.heap.size+1+1,0,none⟩ (.slice A3 n3 c3)) ⟨w.heap.size+1+1+1,0,none⟩ (.slice A5 n5 c5)).same D0 _ a6 rfl;have l4:=(ai.set_ 0 (.slice A3 n3 c3)).far (p:=⟨w.heap.size+1+1+1,0,none⟩) (by show w.heap.size+1+1≠w.heap.size+1+1+1;omega) (.slice A5 n5 c5);have l5:=(aj.far (p:=⟨w.heap.size+1+1,0,none⟩) (by show w.heap.size+1+1+1≠w.heap.size+1+1;omega) (.slice A3 n3 c3)).set_ 0 (.slice A5 n5 c5);have e4:=cell_kept (l4.cell 0) (grownBy_putObj' _ D0 (.deferred none)) (λr e=>by cases e;exact⟨_,F,rfl⟩);have e5:=cell_kept (l5.cell 0) (grownBy_putObj' _ D0 (.deferred none)) (λr e=>by cases e;exact⟨_,F,rfl⟩);have ba:Below w.heap.size w w':=T.trans ((show Below W.heap.size W w' from⟨b.os,b.tape,b.output,b.size,b.block⟩).mono T.size);have HG : Hid (zpl w (x / d) (x % d) (.returned (.tuple #[.agg #[.slice A3 n3 c3],.agg #[.slice A5 n5 c5]])) (((w'.setCell ⟨w.heap.size + 1 + 1,0,none⟩ (.slice A3 n3 c3)).setCell ⟨w.heap.size + 1 + 1 + 1,0,none⟩ (.slice A5 n5 c5)).putObj D0 (.deferred none))) :=
       ⟨A3,n3,c3,A5,n5,c5,rfl,
        by rw [<-ak.out.1];exact zif (zdd (zdd I (λad e=>by have h1:W.heap.size<=ad.block:=av ad e;show ad.block≠w.heap.size+1+1;omega) _) (λad e=>by have h1:W.heap.size<=ad.block:=av ad e;show ad.block≠w.heap.size+1+1+1;omega) _) F rfl _,
        by rw [<-ak.out.2];exact zif (zdd (zdd br (λad e=>by have h1:W.heap.size<=ad.block:=U ad e;show ad.block≠w.heap.size+1+1;omega) _) (λad e=>by have h1:W.heap.size<=ad.block:=U ad e;show ad.block≠w.heap.size+1+1+1;omega) _) F rfl _,
        ((ba.setCell (p:=⟨w.heap.size+1+1,0,none⟩) (by show w.heap.size<=w.heap.size+1+1;omega) _).setCell (p:=⟨w.heap.size+1+1+1,0,none⟩) (by show w.heap.size<=w.heap.size+1+1+1;omega) _).trans (belowK_b (w:=w) (Nat.le_refl _) _ D0 _ _ om9 F rfl rfl)⟩
      clear hb I bq br av U ai aj f4 f5 g4 g5 b ba k1 a6 l4 l5 c8 c9 j8 j9;go_wp2;refine⟨si9,.inl ⟨_,_,rfl,run_takeDeferred F,?_⟩⟩;exact⟨.tuple #[.agg #[.slice A3 n3 c3],.agg #[.slice A5 n5 c5]],by simp [results,f216,go_sem,e4,e5],HG.out⟩
theorem of_one (r:Nat)(hr:r<18446744073709551616)(g:Nat)(w:World)(h:Blk w g 160 #[.int .u64 (r:Int)]):Calls prog 149 #[.slice (some ⟨g,0,none⟩) 1 1] w (zaS w r):=by
 have hd:Dgs 18446744073709551616 [r]:=by intro d hd;simp at hd;omega
 have:=zcZ (some ⟨g,0,none⟩) 1 1 [r] w (zea h rfl (by simp [zaF]) rfl) hd (Nat.le_refl _) de9 de9;rwa [show dv 18446744073709551616 [r]=r from by simp [dv]] at this
theorem wd0 {x:Nat}(h:x<18446744073709551616):wd x 0=x:=by unfold wd;rw [Nat.pow_zero,Nat.div_one,Nat.mod_eq_of_lt h]
theorem zjC {x m:Nat}(hx:(dg 18446744073709551616 x).length=m)(hm:m<=1):x<18446744073709551616:=by
 have h:=zbP (b:=18446744073709551616) de9 x;rw [hx] at h;exact Nat.lt_of_lt_of_le h (Nat.le_trans (Nat.pow_le_pow_right de9 hm) de9)
theorem zfD (x d q r:Nat)(b:Bool)(A D:oA9)(n m c ce:Nat)(w:World)(hA:zad w x A n c)(hD:zad w d D m ce)(hm:m<=1)(hr:r<18446744073709551616)
  (HB:∀w',Below w.heap.size w w'->Calls prog 215 #[.agg #[.slice A n c],.int .u64 (d:Int)] w' (zhb w' q r b)):
  Calls prog 200 #[.agg #[.slice A n c],.agg #[.slice D m ce]] w (zcU w q r b):=by
 have hU:=λw' (hb:Below w.heap.size w w')=>zdj d D m ce w' (hD.below hb) hm;rw [wd0 (zjC hD.len hm)] at hU;have HU:=lh9 hU;have t:=lh9 HB;have u:=lh9 (λg w=>of_one r hr g w);clear hU HB hA hD;go_enter func200,ntmps200;go_wp2_with fail;obtain⟨hB,b2,b3,k4,k5,b6⟩:=zlp w 37 #[.slice A n c] #[.slice D m ce] #[.slice none 0 0] #[.slice none 0 0];generalize hW:(((w.alloc (.cells #[.slice A n c] 37)).alloc (.cells #[.slice D m ce] 37)).alloc (.cells #[.slice none 0 0] 37)).alloc (.cells #[.slice none 0 0] 37)=W0 at*;have g2:W0.cell? ⟨w.heap.size,0,none⟩=some (.slice A n c):=b2.cell 0;clear hW b2 b3;refine(HU.out _ hB).mono ?_;rintro e w1 ⟨rfl,hb⟩;have hB:=zaa hB hb;have g2:=zac hb g2;obtain⟨k4,k5⟩:=zab2 hb k4 k5;clear hb b6;go_wp2_with fail;refine(t.out _ hB).mono ?_;rintro e w2 ⟨A2,n2,c2,rfl,f,hb⟩;have hB:=zaa hB hb;obtain⟨k4,k5⟩:=zab2 hb k4 k5;have l4:=k5.lt;obtain⟨m9,m9'⟩:w.heap.size+1+1≠w2.heap.size/\w.heap.size+1+1+1≠w2.heap.size:=om9;obtain⟨d1,d2,d5⟩:=zax w2 37 #[.slice A2 n2 c2];have hB:=zaa hB d1;obtain⟨k4,k5⟩:=zab2 d1 k4 k5;have f:=f.below d1;have g9:(w2.alloc (.cells #[.slice A2 n2 c2] 37)).cell? ⟨w2.heap.size,0,none⟩=some (.slice A2 n2 c2):=d2.cell 0;clear d1 d2 d5 hb g2;go_wp2_with fail;generalize w2.alloc (.cells #[.slice A2 n2 c2] 37)=W2 at*;generalize w2.heap.size=z at*;have l:Below W2.heap.size W2 W2:=Below.refl _ _;have j9:W2.drew.cell? ⟨z,0,none⟩=some (.slice A2 n2 c2):=g9
 go_region_held3 (fun w' => w'.cell? ⟨z,0,none⟩ = some (.slice A2 n2 c2))
  (first|(with_reducible exact j9)|exact as9|with_reducible exact zam _ as9|with_reducible exact(cell_drew_own _ _).trans (zam _ as9)|with_reducible exact zac hb as9|with_reducible exact zag _ (by first|(simp;done)|(simp;omega)) as9)
  (first
    |(go_at_call 149;(with_reducible refine(u.out _ _ (by first|with_reducible exact Blk.new _ _ _|with_reducible exact(Blk.new _ _ _).drew)).mono ?_);rintro e w' ⟨A3,n3,c3,rfl,s,hb,y⟩;(have a:Below W2.heap.size W2 w':=zaa (by first|with_reducible exact(zaj _ l).drew|with_reducible exact zaj _ l.drew) hb);have h:=zab a k4;have i:=zab a k5;have k:=f.below a;have f4:=h.frozen 0;have f5:=i.frozen 0;have e4:=h.cell 0;have e5:=i.cell 0))
 have p4:zcl w' (w.heap.size+1+1) (.slice none 0 0):=⟨_,h⟩;have p5:zcl w' (w.heap.size+1+1+1) (.slice none 0 0):=⟨_,i⟩;have j:=p5.far (p:=⟨w.heap.size+1+1,0,none⟩) (by show w.heap.size+1+1+1≠w.heap.size+1+1;omega) (.slice A2 n2 c2);have r4:=((p4.set_ (.slice A2 n2 c2)).far (p:=⟨w.heap.size+1+1+1,0,none⟩) (by show w.heap.size+1+1≠w.heap.size+1+1+1;omega) (.slice A3 n3 c3)).cell;have r5:=(j.set_ (.slice A3 n3 c3)).cell;have o:=zaa hB a;have HG : Hid (zcU w q r b (.returned (.tuple #[.agg #[.slice A2 n2 c2],.agg #[.slice A3 n3 c3],.bool b])) ((w'.setCell ⟨w.heap.size + 1 + 1,0,none⟩ (.slice A2 n2 c2)).setCell ⟨w.heap.size + 1 + 1 + 1,0,none⟩ (.slice A3 n3 c3))) :=
  ⟨A2,n2,c2,A3,n3,c3,rfl,zap (zap k p4 _) j _,zap (zap s p4 _) j _,
   (o.setCell (p:=⟨w.heap.size+1+1,0,none⟩) (by show w.heap.size<=w.heap.size+1+1;omega) _).setCell (p:=⟨w.heap.size+1+1+1,0,none⟩) (by show w.heap.size<=w.heap.size+1+1+1;omega) _⟩
 clear hb a f k s y k4 k5 h i f4 f5 e4 e5 p4 p5 j o hB g9 j9 l;go_wp2;refine bodyPost_ret (v:=.tuple #[.agg #[.slice A2 n2 c2],.agg #[.slice A3 n3 c3],.bool b]) (by simp [results,results200,go_sem,r4,r5]) rfl ?_;exact HG.out
theorem small_q {x d n m:Nat}(hx:(dg 18446744073709551616 x).length=n)(hd:(dg 18446744073709551616 d).length=m)(h:n<m):x / d=0/\x%d=x:=by
 have hl:x<d:=zjt (b:=18446744073709551616) de9 (by rw [hx,hd];exact h);exact⟨Nat.div_eq_of_lt hl,Nat.mod_eq_of_lt hl⟩
theorem zhx (x d:Nat)(A D:oA9)(n m c ce:Nat)(w:World)(hA:zad w x A n c)(hD:zad w d D m ce)(hm:2<=m)(h:n<m)(hm2:m<=274877906944):
  Calls prog 200 #[.agg #[.slice A n c],.agg #[.slice D m ce]] w (zcU w (x / d) (x%d) true):=by
 obtain⟨hq,hr⟩:=small_q hA.len hD.len h;rw [hq,hr];have HU:=lh9 (λw'=>zcT D m ce w' om9);have k:=up9 w (λw' hb=>zds x A n c w' (hA.below hb) om9);have f:=lh9 hA.len;have t1:decide ((n:Int)<(m:Int))=true:=by simpa using h
 clear hA hD hq hr;go_enter func200,ntmps200;go_wp2_with fail;obtain⟨hB,b2,b3,k4,k5,b6⟩:=zlp w 37 #[.slice A n c] #[.slice D m ce] #[.slice none 0 0] #[.slice none 0 0];generalize hW:(((w.alloc (.cells #[.slice A n c] 37)).alloc (.cells #[.slice D m ce] 37)).alloc (.cells #[.slice none 0 0] 37)).alloc (.cells #[.slice none 0 0] 37)=W0 at*;have g2:W0.cell? ⟨w.heap.size,0,none⟩=some (.slice A n c):=b2.cell 0;have g3:W0.cell? ⟨w.heap.size+1,0,none⟩=some (.slice D m ce):=b3.cell 0;clear hW b2 b3;refine(HU.out _).mono ?_;rintro e w1 ⟨rfl,hb⟩;have hB:=zaa hB hb;obtain⟨g2,g3⟩:=zac2 hb g2 g3;obtain⟨k4,k5⟩:=zab2 hb k4 k5;clear hb b6;go_wp2_with fail;have j2:w1.drew.cell? ⟨w.heap.size,0,none⟩=some (.slice A n c):=g2;have j3:w1.drew.cell? ⟨w.heap.size+1,0,none⟩=some (.slice D m ce):=g3;have g:Below w1.heap.size w1 w1.drew:=(Below.refl _ w1).drew
 go_region_held3 (fun w' => Below w1.heap.size w1 w' ∧ w'.cell? ⟨w.heap.size,0,none⟩ = some (.slice A n c) ∧ w'.cell? ⟨w.heap.size + 1,0,none⟩ = some (.slice D m ce))
  (first|(with_reducible exact⟨g,j2,j3⟩)|(go_split_ands;(repeat' apply And.intro);all_goals (first|exact as9|with_reducible exact zaa as9 hb|with_reducible exact zac hb as9)))
  (first|(go_at_call 147;(with_reducible refine(zbS 0 _ _ _ _).mono ?_);rintro e w' ⟨rfl,hb⟩))
 rename_i hH
 obtain⟨a,l,o⟩:=hH;have hB:=zaa hB a;obtain⟨k4,k5⟩:=zab2 a k4 k5;clear a hb j2 j3 g o g2 g3;go_wp2_with fail;refine(k.out _ hB).mono ?_;rintro e w3 ⟨A1,c1,rfl,i,r,⟨s,_⟩,hb⟩;have hB:=zaa hB hb;obtain⟨k4,k5⟩:=zab2 hb k4 k5;have O:=zcZ A1 _ c1 _ w3 i (zcY de9 x) r s (by have:=f.out;omega);rw [zdF de9] at O;have HO:=lh9 O;rw [f.out] at HO⊢;clear O i hb l;go_wp2_with fail;refine HO.out.mono ?_;rintro e w' ⟨A3,n3,c3,rfl,j,hb,t⟩;have hB:=zaa hB hb;obtain⟨k4,k5⟩:=zab2 hb k4 k5;have f4:=k4.frozen 0;have f5:=k5.frozen 0;have e4:=k4.cell 0;have e5:=k5.cell 0;have p4:zcl w' (w.heap.size+1+1) (.slice none 0 0):=⟨_,k4⟩;have p5:zcl w' (w.heap.size+1+1+1) (.slice none 0 0):=⟨_,k5⟩;have b:=p5.far (p:=⟨w.heap.size+1+1,0,none⟩) (by show w.heap.size+1+1+1≠w.heap.size+1+1;omega) (.slice none 0 0);have r4:=((p4.set_ (.slice none 0 0)).far (p:=⟨w.heap.size+1+1+1,0,none⟩) (by show w.heap.size+1+1≠w.heap.size+1+1+1;omega) (.slice A3 n3 c3)).cell;have r5:=(b.set_ (.slice A3 n3 c3)).cell;have HG : Hid (zcU w 0 x true (.returned (.tuple #[.agg #[.slice none 0 0],.agg #[.slice A3 n3 c3],.bool true])) ((w'.setCell ⟨w.heap.size + 1 + 1,0,none⟩ (.slice none 0 0)).setCell ⟨w.heap.size + 1 + 1 + 1,0,none⟩ (.slice A3 n3 c3))) :=
  ⟨none,0,0,A3,n3,c3,rfl,zgY _,zap (zap j p4 _) b _,
   (hB.setCell (p:=⟨w.heap.size+1+1,0,none⟩) (by show w.heap.size<=w.heap.size+1+1;omega) _).setCell (p:=⟨w.heap.size+1+1+1,0,none⟩) (by show w.heap.size<=w.heap.size+1+1+1;omega) _⟩
 clear hb j t k4 k5 p4 p5 b hB;go_wp2;refine bodyPost_ret (v:=.tuple #[.agg #[.slice none 0 0],.agg #[.slice A3 n3 c3],.bool true]) (by simp [results,results200,go_sem,r4,r5]) rfl ?_;exact HG.out
theorem zhY (x d:Nat)(A D:oA9)(n m c ce:Nat)(w:World)(hA:zad w x A n c)(hD:zad w d D m ce)(hm:2<=m)(l:m<=n)(hn:n<=274877906944):
  Calls prog 200 #[.agg #[.slice A n c],.agg #[.slice D m ce]] w (zcU w (x / d) (x%d) true):=by
 have HU:=lh9 (λw'=>zcT D m ce w' om9);have h:=up9 w (λw' hb=>zlI x d A D n m c ce w' (hA.below hb) (hD.below hb) hm l hn);have t1:decide ((n:Int)<(m:Int))=false:=by simpa using l
 have t2:¬ n<m:=om9;obtain⟨xq,o⟩:∃q,x / d=q:=⟨_,rfl⟩;obtain⟨xr,r⟩:∃q,x%d=q:=⟨_,rfl⟩;rw [o,r] at h⊢;clear hA hD o r;go_enter func200,ntmps200;go_wp2_with fail;obtain⟨hB,b2,b3,k4,k5,b6⟩:=zlp w 37 #[.slice A n c] #[.slice D m ce] #[.slice none 0 0] #[.slice none 0 0];generalize hW:(((w.alloc (.cells #[.slice A n c] 37)).alloc (.cells #[.slice D m ce] 37)).alloc (.cells #[.slice none 0 0] 37)).alloc (.cells #[.slice none 0 0] 37)=W0 at*;have g2:W0.cell? ⟨w.heap.size,0,none⟩=some (.slice A n c):=b2.cell 0;have g3:W0.cell? ⟨w.heap.size+1,0,none⟩=some (.slice D m ce):=b3.cell 0;clear hW b2 b3;refine(HU.out _).mono ?_;rintro e w1 ⟨rfl,hb⟩;have hB:=zaa hB hb;obtain⟨g2,g3⟩:=zac2 hb g2 g3;obtain⟨k4,k5⟩:=zab2 hb k4 k5;clear hb b6;go_wp2_with fail;have j2:w1.drew.cell? ⟨w.heap.size,0,none⟩=some (.slice A n c):=g2;have j3:w1.drew.cell? ⟨w.heap.size+1,0,none⟩=some (.slice D m ce):=g3;have k:Below w1.heap.size w1 w1.drew:=(Below.refl _ w1).drew
 go_region_held3 (fun w' => Below w1.heap.size w1 w' ∧ w'.cell? ⟨w.heap.size,0,none⟩ = some (.slice A n c) ∧ w'.cell? ⟨w.heap.size + 1,0,none⟩ = some (.slice D m ce))
  (first|(with_reducible exact⟨k,j2,j3⟩)|(go_split_ands;(repeat' apply And.intro);all_goals (first|exact as9|with_reducible exact zaa as9 hb|with_reducible exact zac hb as9)))
  (first|(go_at_call 147;(with_reducible refine(zbS 0 _ _ _ _).mono ?_);rintro e w' ⟨rfl,hb⟩))
 rename_i hH
 obtain⟨g,B,C⟩:=hH;have hB:=zaa hB g;obtain⟨k4,k5⟩:=zab2 g k4 k5;clear g hb j2 j3 k g2 g3;go_wp2_with fail;refine(h.out _ hB).mono ?_;rintro e w3 ⟨A2,n2,c2,A3,n3,c3,rfl,a,b,hb⟩;have hB:=zaa hB hb;obtain⟨k4,k5⟩:=zab2 hb k4 k5;obtain⟨d1,d2,d3,d5⟩:=zbO w3 37 37 #[.slice A2 n2 c2] #[.slice A3 n3 c3];have l5:=k5.lt;obtain⟨m1,m2,m3,m4⟩:w3.heap.size≠w.heap.size+1+1/\w3.heap.size≠w.heap.size+1+1+1/\w3.heap.size+1≠w.heap.size+1+1/\w3.heap.size+1≠w.heap.size+1+1+1:=om9;have hB:=zaa hB d1;obtain⟨k4,k5⟩:=zab2 d1 k4 k5;have a:=a.below d1;have b:=b.below d1;have i:((w3.alloc (.cells #[.slice A2 n2 c2] 37)).alloc (.cells #[.slice A3 n3 c3] 37)).cell? ⟨w3.heap.size,0,none⟩=some (.slice A2 n2 c2):=d2.cell 0;have j:((w3.alloc (.cells #[.slice A2 n2 c2] 37)).alloc (.cells #[.slice A3 n3 c3] 37)).cell? ⟨w3.heap.size+1,0,none⟩=some (.slice A3 n3 c3):=d3.cell 0;clear d1 d2 d3 d5 hb B C l5;go_wp2_with fail;generalize (w3.alloc (.cells #[.slice A2 n2 c2] 37)).alloc (.cells #[.slice A3 n3 c3] 37)=W' at*;generalize w3.heap.size=z at*;have j2:W'.drew.cell? ⟨z,0,none⟩=some (.slice A2 n2 c2):=i;have j3:W'.drew.cell? ⟨z+1,0,none⟩=some (.slice A3 n3 c3):=j;have f4:=k4.drew.frozen 0;have f5:=k5.drew.frozen 0;have e4:=k4.drew.cell 0;have e5:=k5.drew.cell 0;have u:=k4.frozen 0;have y:=k5.frozen 0;have s:=k4.cell 0;have t:=k5.cell 0
 go_region_held3 (fun w' => w'.cell? ⟨z,0,none⟩ = some (.slice A2 n2 c2) ∧ w'.cell? ⟨z + 1,0,none⟩ = some (.slice A3 n3 c3))
  (first|(with_reducible exact⟨j2,j3⟩)|(go_split_ands;(repeat' apply And.intro);all_goals (first|exact as9|with_reducible exact(cell_drew_own _ _).trans (zag _ (by first|(simp;done)|(simp;omega)) as9)|with_reducible exact(cell_drew_own _ _).trans (zag _ (by first|(simp;done)|(simp;omega)) (zag _ (by first|(simp;done)|(simp;omega)) as9))|with_reducible exact zag _ (by first|(simp;done)|(simp;omega)) as9|with_reducible exact zag _ (by first|(simp;done)|(simp;omega)) (zag _ (by first|(simp;done)|(simp;omega)) as9))))
  (fail)
 have p4:zcl W' (w.heap.size+1+1) (.slice none 0 0):=⟨_,k4⟩;have p5:zcl W' (w.heap.size+1+1+1) (.slice none 0 0):=⟨_,k5⟩;have f:=p5.far (p:=⟨w.heap.size+1+1,0,none⟩) (by show w.heap.size+1+1+1≠w.heap.size+1+1;omega) (.slice A2 n2 c2);have r4:=((p4.set_ (.slice A2 n2 c2)).far (p:=⟨w.heap.size+1+1+1,0,none⟩) (by show w.heap.size+1+1≠w.heap.size+1+1+1;omega) (.slice A3 n3 c3)).cell;have r5:=(f.set_ (.slice A3 n3 c3)).cell;have HG : Hid (zcU w xq xr true (.returned (.tuple #[.agg #[.slice A2 n2 c2],.agg #[.slice A3 n3 c3],.bool true])) ((W'.setCell ⟨w.heap.size + 1 + 1,0,none⟩ (.slice A2 n2 c2)).setCell ⟨w.heap.size + 1 + 1 + 1,0,none⟩ (.slice A3 n3 c3)).drew) :=
  ⟨A2,n2,c2,A3,n3,c3,rfl,zap (zap a p4 _) f _,zap (zap b p4 _) f _,
   ((hB.setCell (p:=⟨w.heap.size+1+1,0,none⟩) (by show w.heap.size<=w.heap.size+1+1;omega) _).setCell (p:=⟨w.heap.size+1+1+1,0,none⟩) (by show w.heap.size<=w.heap.size+1+1+1;omega) _).drew⟩
 clear a b k4 k5 p4 p5 f hB i j j2 j3 f4 f5 e4 e5 u y s t;go_wp2;refine bodyPost_ret (v:=.tuple #[.agg #[.slice A2 n2 c2],.agg #[.slice A3 n3 c3],.bool true]) (by simp [results,results200,go_sem,r4,r5]) rfl ?_;exact HG.out
theorem zeA (x d:Nat)(A D:oA9)(n m c ce:Nat)(w:World)(hA:zad w x A n c)(hD:zad w d D m ce)(hn:n<=274877906944)(hm:m<=274877906944)(hd:d≠0):
  Calls prog 200 #[.agg #[.slice A n c],.agg #[.slice D m ce]] w (zcU w (x / d) (x%d) true):=by
 by_cases h1:m<=1
 ·have a:=zjC hD.len h1;exact zfD x d (x / d) (x%d) true A D n m c ce w hA hD h1 (Nat.lt_trans (Nat.mod_lt _ (Nat.pos_of_ne_zero hd)) a) (λw' hb=>zis x d A n c w' (hA.below hb) hn a hd)
 ·by_cases h2:n<m
  ·exact zhx x d A D n m c ce w hA hD om9 h2 hm
  ·exact zhY x d A D n m c ce w hA hD om9 om9 hn
theorem zfZ (x d:Nat)(A D:oA9)(n m c ce:Nat)(w:World)(hA:zad w x A n c)(hD:zad w d D m ce)(hd:d=0):
  Calls prog 200 #[.agg #[.slice A n c],.agg #[.slice D m ce]] w (zcU w 0 0 false):=by
 subst hd;obtain rfl:m=0:=by have:=hD.len;rw [zew] at this;exact this.symm
 exact zfD x 0 0 0 false A D n 0 c ce w hA hD de9 de9 (λw' hb=>zfX x A n c w' (hA.below hb))
theorem zfY (q r:Nat)(b:Bool)(A D:oA9)(n m c ce:Nat)(w:World)(d:∀w',Below w.heap.size w w'->Calls prog 200 #[.agg #[.slice A n c],.agg #[.slice D m ce]] w' (zcU w' q r b)):
  Calls prog 160 #[.agg #[.slice A n c],.agg #[.slice D m ce]] w (zfd w q b):=by
 have HD:=lh9 d;clear d;go_enter func160,ntmps160;go_wp2_with fail;obtain⟨hB,b2,b3,k4,b5⟩:=zbT w 37 37 37 #[.slice A n c] #[.slice D m ce] #[.slice none 0 0];generalize hW:((w.alloc (.cells #[.slice A n c] 37)).alloc (.cells #[.slice D m ce] 37)).alloc (.cells #[.slice none 0 0] 37)=W0 at*;clear hW b2 b3;refine(HD.out _ hB).mono ?_;rintro e w3 ⟨A2,n2,c2,A3,n3,c3,rfl,a,f,hb⟩;have hB:=zaa hB hb;have k4:=zab hb k4;have l4:=k4.lt;obtain⟨d1,d2,d3,d5⟩:=zbO w3 37 37 #[.slice A2 n2 c2] #[.slice A3 n3 c3];have hB:=zaa hB d1;have k4:=zab d1 k4;have a:=a.below d1;clear d1 d3 d5 hb f b5;have g6:((w3.alloc (.cells #[.slice A2 n2 c2] 37)).alloc (.cells #[.slice A3 n3 c3] 37)).cell? ⟨w3.heap.size,0,none⟩=some (.slice A2 n2 c2):=d2.cell 0;have f4:=k4.frozen 0;have e4:=k4.cell 0;have p4:zcl _ (w.heap.size+1+1) (.slice none 0 0):=⟨_,k4⟩;have r4:=(p4.set_ (.slice A2 n2 c2)).cell;have HG : Hid (zfd w q b (.returned (.tuple #[.agg #[.slice A2 n2 c2],.bool b])) (((w3.alloc (.cells #[.slice A2 n2 c2] 37)).alloc (.cells #[.slice A3 n3 c3] 37)).setCell ⟨w.heap.size + 1 + 1,0,none⟩ (.slice A2 n2 c2))) :=
  ⟨A2,n2,c2,rfl,zap a p4 _,hB.setCell (p:=⟨w.heap.size+1+1,0,none⟩) (by show w.heap.size<=w.heap.size+1+1;omega) _⟩
 clear a k4 p4 hB d2;go_wp2;refine bodyPost_ret (v:=.tuple #[.agg #[.slice A2 n2 c2],.bool b]) (by simp [results,results160,go_sem,r4]) rfl ?_;exact HG.out
theorem znk (q r:Nat)(b:Bool)(A D:oA9)(n m c ce:Nat)(w:World)(d:∀w',Below w.heap.size w w'->Calls prog 200 #[.agg #[.slice A n c],.agg #[.slice D m ce]] w' (zcU w' q r b)):
  Calls prog 211 #[.agg #[.slice A n c],.agg #[.slice D m ce]] w (zfd w r b):=by
 have HD:=lh9 d;clear d;go_enter func211,ntmps211;go_wp2_with fail;obtain⟨hB,b2,b3,k4,b5⟩:=zbT w 37 37 37 #[.slice A n c] #[.slice D m ce] #[.slice none 0 0];generalize hW:((w.alloc (.cells #[.slice A n c] 37)).alloc (.cells #[.slice D m ce] 37)).alloc (.cells #[.slice none 0 0] 37)=W0 at*;clear hW b2 b3;refine(HD.out _ hB).mono ?_;rintro e w3 ⟨A2,n2,c2,A3,n3,c3,rfl,f,a,hb⟩;have hB:=zaa hB hb;have k4:=zab hb k4;have l4:=k4.lt;obtain⟨d1,d2,d3,d5⟩:=zbO w3 37 37 #[.slice A2 n2 c2] #[.slice A3 n3 c3];have hB:=zaa hB d1;have k4:=zab d1 k4;have a:=a.below d1;clear d1 d2 d5 hb f b5;have g6:((w3.alloc (.cells #[.slice A2 n2 c2] 37)).alloc (.cells #[.slice A3 n3 c3] 37)).cell? ⟨w3.heap.size+1,0,none⟩=some (.slice A3 n3 c3):=d3.cell 0;have f4:=k4.frozen 0;have e4:=k4.cell 0;have p4:zcl _ (w.heap.size+1+1) (.slice none 0 0):=⟨_,k4⟩;have r4:=(p4.set_ (.slice A3 n3 c3)).cell;have HG : Hid (zfd w r b (.returned (.tuple #[.agg #[.slice A3 n3 c3],.bool b])) (((w3.alloc (.cells #[.slice A2 n2 c2] 37)).alloc (.cells #[.slice A3 n3 c3] 37)).setCell ⟨w.heap.size + 1 + 1,0,none⟩ (.slice A3 n3 c3))) :=
  ⟨A3,n3,c3,rfl,zap a p4 _,hB.setCell (p:=⟨w.heap.size+1+1,0,none⟩) (by show w.heap.size<=w.heap.size+1+1;omega) _⟩
 clear a k4 p4 hB d3;go_wp2;refine bodyPost_ret (v:=.tuple #[.agg #[.slice A3 n3 c3],.bool b]) (by simp [results,results211,go_sem,r4]) rfl ?_;exact HG.out
theorem quotC:QuotC where
 divMod x y A D n m c d w hA hD hn hm hy:=zeA x y A D n m c d w hA hD om9 om9 hy
 divModNo x y A D n m c d w hA hD hn hm hy:=zfZ x y A D n m c d w hA hD hy
 div x y A D n m c d w hA hD hn hm hy:=zfY (x / y) (x%y) true A D n m c d w (λw' hb=>zeA x y A D n m c d w' (hA.below hb) (hD.below hb) om9 om9 hy)
 mod x y A D n m c d w hA hD hn hm hy:=znk (x / y) (x%y) true A D n m c d w (λw' hb=>zeA x y A D n m c d w' (hA.below hb) (hD.below hb) om9 om9 hy)
 byWord x a A n c w hA hn ha ha0:=zis x a A n c w hA om9 ha ha0
 byWordNo x A n c w hA hn:=zfX x A n c w hA
