/- What this claim leans on. -/
import Derived.Test.YtghpdeciaaagnaaGreatDoorIBunZ
namespace Go.Proofs.YtghpdeciaaagnaaGreatDoor
open Go Go.RowKit
set_option maxHeartbeats 16000000
set_option maxRecDepth 100000
set_option linter.unusedVariables false
set_option linter.unusedSimpArgs false
attribute [local go_sem] Oper.semAt_some
theorem zfN (x:Nat)(A:oA9)(n c:Nat)(w:World)(hA:zad w x A n c):
  Calls Tryz.prog 215 #[.agg #[.slice A n c],.int .u64 0] w (zgX w 0 0 false):=by
 go_enter Tryz.func215,Tryz.ntmps215
 go_wp2
 refine bodyPost_ret (v:=.tuple #[.agg #[.slice none 0 0],.int .u64 0,.bool false]) (by simp [results,Tryz.results215,go_sem]) rfl ?_
 exact⟨none,0,0,rfl,zgU _,(zbL w _ _ _ _ _ _).1⟩
def zpp (w:World)(q x:Nat)(b:Bool)(e:Ending)(w':World):Prop:=∃(A:oA9) (n c:Nat),e=.returned (.tuple #[.agg #[.slice A n c],.int .u64 (x:Int),.bool b])/\zad w' q A n c/\Below w.heap.size w w'/\zew w A
theorem zdr {B g cap n:Nat}{t:TypeId}{L:List Nat}{W W':World}{row:Option Nat}(h:zaq W t g cap n L)(hg:W.grownBy W' row)(hr:∀r,row=some r->B<=r/\∃o:Obj,W.heap[r]?=some o/\o.isCells=false):zaq W' t g cap n L:=by
 obtain⟨cur,h0,h1⟩:=h
 exact⟨cur,zbC h0 hg hr,h1⟩
structure ByI (x a n c1 gs q0 q1 q2 q3 q4:Nat)(A1:oA9)(w:World)(k:Nat)(W:World):Prop where
 row:∃L r,ziT x a k n L r/\Blk W q3 160 #[.int .u64 (r:Int)]/\(0<n->∃g,A1=some ⟨g,0,none⟩/\gs<=g/\g<q2/\zaq W 160 g c1 n L)
 abox:Blk W q0 160 #[.int .u64 (a:Int)]
 res:Blk W q1 37 #[.slice none 0 0]
 qbox:Blk W q2 35 #[.slice A1 n c1]
 seq:Blk W q4 35 #[.slice A1 n c1]
 below:Below w.heap.size w W
theorem ByI.own {x a n c1 gs q0 q1 q2 q3 q4 B:Nat}{A1:oA9}{w:World}(hB:w.heap.size<=B)(k:Nat):OwnFrom B (fun(_:Unit) W=>ByI x a n c1 gs q0 q1 q2 q3 q4 A1 w k W):=by
 intro _ W W' row h hg hr
 obtain⟨L,r,h1,h2,h3⟩:=h.row
 refine⟨⟨L,r,h1,zbC h2 hg hr,λhn=>?_⟩,zbC h.abox hg hr,zbC h.res hg hr,zbC h.qbox hg hr,zbC h.seq hg hr,zeW h.below (Nat.le_refl _) hB hg hr⟩
 obtain⟨g,e,h4,h5,h6⟩:=h3 hn
 exact⟨g,e,h4,h5,zdr h6 hg hr⟩
theorem zhZ {w:World}{x n c D:Nat}{A:oA9}{o:Obj}(h:zad w x A n c)(hD:w.heap[D]?=some o)(ho:o.isCells=false)(o':Obj):zad (w.putObj D o') x A n c:=by
 obtain⟨⟨h1,h2⟩,h3⟩:=h
 refine⟨⟨h1,λhn=>?_⟩,h3⟩
 obtain⟨ad,e,hb,hc⟩:=h2 hn
 exact⟨ad,e,by simpa using hb,λj u hu=>cell_kept (hc j u hu) (grownBy_putObj' w D o') (λr e=>by cases e;exact⟨_,hD,ho⟩)⟩
theorem znQ (g k:Nat):(⟨g,0,none⟩:Addr).add k=⟨g,k,none⟩:=by unfold Addr.add;split<;>simp_all
theorem ziA (x a:Nat)(A:oA9)(n c:Nat)(w:World)(hA:zad w x A n c)(hn:n<=274877906944)(ha:a<18446744073709551616)(ha0:a≠0):
  Calls Tryz.prog 215 #[.agg #[.slice A n c],.int .u64 (a:Int)] w (zpp w (x / a) (x%a) true):=by
 have HWS:=lh9 (λw' (hb:Below w.heap.size w w')=>zdy x A n c w' (hA.below hb) (by omega))
 have HI:=lh9 (ziT.start (a:=a) hA.len ha0)
 have hz:((a:Int)==0)=false:=by simp;omega
 clear hA
 refine(callsIn_wide (n:=3)).1 ?_
 refine callsIn_of_wp_marks Tryz.func215 rfl trivial ?_ rfl
 simp only [Tryz.ntmps215,List.size_toArray,List.length_cons,List.length_nil,Nat.reduceAdd,Nat.reduceSub,Array.replicate_succ,Array.replicate_zero,List.push_toArray,List.append_toArray,List.nil_append,List.cons_append]
 refine wpIn_wide.2 ?_
 go_wp2_with fail
 obtain⟨b1,b2,b3,b4,b5⟩:=zbL w 37 160 37 #[.slice A n c] #[.int .u64 (a:Int)] #[.slice none 0 0]
 generalize hW:((w.alloc (.cells #[.slice A n c] 37)).alloc (.cells #[.int .u64 (a:Int)] 160)).alloc (.cells #[.slice none 0 0] 37)=W0 at*
 clear hW b2
 refine(HWS.out _ b1).mono ?_
 rintro e w1 ⟨v,rfl,hown,hb⟩
 obtain⟨A1,c1,rfl,hc1,hc2,_⟩:=zas.of_grown_own hown
 have hB:=zab b1 hb
 have ka:=zaa hb b3
 have kr:=zaa hb b4
 have hs3:w.heap.size+3<=W0.heap.size:=b5
 clear hb b1 b3 b4 b5
 go_wp2_with fail
 have hs2:w.heap.size+2<w1.heap.size:=kr.lt
 obtain⟨d1,d2,d3,d4,d5⟩:=zbL w1 35 160 35 #[.slice A1 n c1] #[.int .u64 0] #[.slice A1 n c1]
 refine(zes A1 n c1 _).mono ?_
 rintro e w2 ⟨rfl,hw2⟩
 rw [hw2] at d1 d2 d3 d4 d5
 have hB:=zab hB d1
 have ka:=zaa d1 ka
 have kr:=zaa d1 kr
 have hrow:0<n->∃g,A1=some ⟨g,0,none⟩/\W0.heap.size<=g/\g<w1.heap.size/\zaq w2 160 g c1 n (dg 18446744073709551616 x):=λh=>by
  obtain⟨g,cap,e,hg,hR⟩:=zaq.of_own hown h
  injection e with e1 _ e3
  subst e1 e3
  exact⟨g,rfl,hg,hR.lt,by rw [<-hw2];exact((hR.alloc _).alloc _).alloc _⟩
 clear hw2 d1 hown d5
 have H0:=lh9 (show ByI x a n c1 W0.heap.size (w.heap.size+1) (w.heap.size+1+1) w1.heap.size (w1.heap.size+1) (w1.heap.size+1+1) A1 w n w2 from⟨⟨_,0,HI.out,d3,hrow⟩,ka,kr,d2,d4,hB⟩)
 have hB2:=hB.size
 clear hrow ka kr d2 d3 d4 hB
 go_wp2_with fail
 obtain⟨gs,hgs⟩:∃g,W0.heap.size=g:=⟨_,rfl⟩
 obtain⟨z,hz1⟩:∃z,w1.heap.size=z:=⟨_,rfl⟩
 rw [hgs] at H0 hs3
 rw [hz1] at H0 hs2⊢
 clear hgs hz1
 refine(wpIn_wide (n:=3)).1 ?_
 refine zjO (gf:=233) (lb:=#[.pointer (some ⟨z + 1 + 1,0,none⟩)]) rfl (enters_of Tryz.func233 (by kernel_rfl) rfl) n (fun k => #[.int .i64 (k : Int),.int .u64 (wd x k : Int)]) (fun _ => rfl)
  (λk W=>ByI x a n c1 gs (w.heap.size+1) (w.heap.size+1+1) z (z+1) (z+1+1) A1 w k W) (λk=>ByI.own hB2 k) H0.out
  (zfo (z+1+1) n c1 A1 (wd x) _ (by omega) (λk W h=>h.seq.cell 0) ?cells)
  (λk=>{tmps:=#[.agg #[.slice A n c],.int .u64 (a:Int),.pointer (some ⟨w.heap.size,0,none⟩),.pointer (some ⟨w.heap.size+1,0,none⟩),.pointer (some ⟨w.heap.size+1+1,0,none⟩),.int .u64 0,.bool false,.pointer (some ⟨z,0,none⟩),.pointer (some ⟨z+1,0,none⟩),.int .i64 (k:Int),.int .u64 (wd x k:Int),.int .u64 (a:Int),.bool false,undef,.agg #[.slice A n c],.slice A1 n c1,.slice A1 n c1,.func (.func 233) #[] #[.pointer (some ⟨z+1+1,0,none⟩)],.int .i64 (k:Int),.int .u64 (wd x k:Int),undef,undef,undef,undef,undef,undef,undef,undef,undef,undef,undef,undef,undef,undef],defers:=[]}) ?assign ?body ?done
 case cells=>
  intro k W hk h
  obtain⟨L,r,h1,h2,h3⟩:=h.row
  obtain⟨g,e,_,_,hR⟩:=h3 (by omega)
  refine⟨_,e,?_⟩
  rw [znQ,hR.cell k hk,h1.get (by omega)]
 case assign=>
  intro l k W K hK
  gi_wp2
  exact hK
 case body=>
  intro l k W hk h
  have hsq:=h.seq
  have habx:=h.abox
  have hre:=h.res
  have hqb:=h.qbox
  have hbl:=h.below
  obtain⟨L,r,h1,h2,h3⟩:=h.row
  obtain⟨g,rfl,hgg,hgz,hR⟩:=h3 (by omega)
  clear h h3
  have hr:=h1.rest
  have hw:=zcp x k
  have HST:=h1.step (s:=r*18446744073709551616+wd x k) hk rfl ha
  obtain⟨v,hv⟩:∃v,wd x k=v:=⟨_,rfl⟩
  rw [hv] at hw HST⊢
  have hDV:=λw=>zps r v a hr ha hw w
  obtain⟨t1,ht1⟩:∃t,(r*18446744073709551616+v) / a=t:=⟨_,rfl⟩
  obtain⟨t2,ht2⟩:∃t,(r*18446744073709551616+v)%a=t:=⟨_,rfl⟩
  rw [ht1,ht2] at HST
  rw [ht1,ht2] at hDV
  have HS:=lh9 HST
  have HDV:=lh9 hDV
  clear HST hDV ht1 ht2 hv h1
  have cq:=hqb.cell 0
  have ca:=habx.cell 0
  have cr:=h2.cell 0
  have fr:=h2.frozen 0
  have cg:=hR.cell k hk
  have fg:=hR.frozen k
  have i1:(0:Int)<=(k:Int):=by omega
  have i2:(k:Int)<(n:Int):=by omega
  have crd:W.drew.cell? ⟨z+1,0,none⟩=some (.int .u64 (r:Int)):=cr
  refine wpIn_block ?_
  refine zhx (S:=(λw'=>w'.cell? ⟨z,0,none⟩=some (.slice (some ⟨g,0,none⟩) n c1)/\w'.cell? ⟨w.heap.size+1,0,none⟩=some (.int .u64 (a:Int)))) (by kernel_rfl) (by kernel_rfl) (λ_ _ h=>by cases h.1) ?_ (λhHeld=>?_)
  ·exact⟨cq,ca⟩
  refine wtk9 0 (v:=?_) ?_ ?_
  rotate_left
  focus ((intro w hSw;(try dsimp only at hSw);go_simp);(try with_reducible rfl))
  try simp only [Act.put,List.setIfInBounds_toArray,List.set_cons_zero,List.set_cons_succ]
  refine wtk9 1 (v:=?_) ?_ ?_
  rotate_left
  focus ((intro w hSw;(try dsimp only at hSw);go_simp);(try with_reducible rfl))
  try simp only [Act.put,List.setIfInBounds_toArray,List.set_cons_zero,List.set_cons_succ]
  refine wtk9 3 (v:=?_) ?_ ?_
  rotate_left
  focus ((intro w hSw;(try dsimp only at hSw);go_simp);(try with_reducible rfl))
  try simp only [Act.put,List.setIfInBounds_toArray,List.set_cons_zero,List.set_cons_succ]
  refine wtk9 4 (v:=?_) ?_ ?_
  rotate_left
  focus ((intro w hSw;(try dsimp only at hSw);go_simp);(try with_reducible rfl))
  try simp only [Act.put,List.setIfInBounds_toArray,List.set_cons_zero,List.set_cons_succ]
  refine wpAnyH_ready (rs:=[2]) (by kernel_rfl) (by simp) ?_
  refine arc9 (λK hK=>?_)
  go_simp
  refine hK.out _ _ ?_ (λhHeld=>?_)
  ·((try dsimp only);exact hHeld)
  clear hK K
  try simp only [Act.put,List.setIfInBounds_toArray,List.set_cons_zero,List.set_cons_succ]
  refine wpAnyH_ready (rs:=[5]) (by kernel_rfl) (by simp) ?_
  refine arc9 (λK hK=>?_)
  go_simp
  refine(HDV.out _).mono ?_
  rintro e w' ⟨rfl,nn,rfl⟩
  have fg1:(W.drew.drewN nn).frozen? ⟨g,k,none⟩=false:=fg
  have cg1:∃u,(W.drew.drewN nn).cell? ⟨g,k,none⟩=some u:=⟨_,cg⟩
  obtain⟨u1,cg1⟩:=cg1
  have fr1:((W.drew.drewN nn).setCell ⟨g,k,none⟩ (.int .u64 (t1:Int))).frozen? ⟨z+1,0,none⟩=false:=by rw [World.frozen?_setCell];exact fr
  have cr1:((W.drew.drewN nn).setCell ⟨g,k,none⟩ (.int .u64 (t1:Int))).cell? ⟨z+1,0,none⟩=some (.int .u64 (r:Int)):=zag _ (by show z+1≠g;omega) crd
  refine hK.out _ _ ?_ (λhHeld=>?_)
  ·((try dsimp only);exact hHeld)
  clear hK K
  try simp only [Act.put,List.setIfInBounds_toArray,List.set_cons_zero,List.set_cons_succ]
  refine wtk9 6 (v:=?_) ?_ ?_
  rotate_left
  focus ((intro w hSw;(try dsimp only at hSw);go_simp);(try with_reducible rfl))
  try simp only [Act.put,List.setIfInBounds_toArray,List.set_cons_zero,List.set_cons_succ]
  refine wtk9 7 (v:=?_) ?_ ?_
  rotate_left
  focus ((intro w hSw;(try dsimp only at hSw);go_simp);(try with_reducible rfl))
  try simp only [Act.put,List.setIfInBounds_toArray,List.set_cons_zero,List.set_cons_succ]
  refine wtk9 8 (v:=?_) ?_ ?_
  rotate_left
  focus ((intro w hSw;(try dsimp only at hSw);go_simp);(try with_reducible rfl))
  try simp only [Act.put,List.setIfInBounds_toArray,List.set_cons_zero,List.set_cons_succ]
  refine wtk9 9 (v:=?_) ?_ ?_
  rotate_left
  focus ((intro w hSw;(try dsimp only at hSw);go_simp);(try with_reducible rfl))
  try simp only [Act.put,List.setIfInBounds_toArray,List.set_cons_zero,List.set_cons_succ]
  refine wtk9 10 (v:=?_) ?_ ?_
  rotate_left
  focus ((intro w hSw;(try dsimp only at hSw);go_simp);(try with_reducible rfl))
  try simp only [Act.put,List.setIfInBounds_toArray,List.set_cons_zero,List.set_cons_succ]
  refine wpAnyH_ready (rs:=[11]) (by kernel_rfl) (by simp) ?_
  refine arc9 (λK hK=>?_)
  go_simp
  refine hK.out _ _ ?_ (λhHeld=>?_)
  ·((try dsimp only);exact⟨zag _ (by show z≠g;omega) hHeld.1,zag _ (by show w.heap.size+1≠g;omega) hHeld.2⟩)
  clear hK K
  try simp only [Act.put,List.setIfInBounds_toArray,List.set_cons_zero,List.set_cons_succ]
  refine wpAnyH_ready (rs:=[12]) (by kernel_rfl) (by simp) ?_
  refine arc9 (λK hK=>?_)
  go_simp
  refine hK.out _ _ ?_ (λhHeld=>?_)
  ·((try dsimp only);exact⟨zag _ (by show z≠z+1;omega) hHeld.1,zag _ (by show w.heap.size+1≠z+1;omega) hHeld.2⟩)
  clear hK K
  try simp only [Act.put,List.setIfInBounds_toArray,List.set_cons_zero,List.set_cons_succ]
  refine wpAnyH_done (by kernel_rfl) ?_ _
  refine⟨rfl,(KeepsOthers.trans (show KeepsOthers W (W.drewN (1+nn)) from⟨Nat.le_refl _,λ_ _ h _=>h⟩) (KeepsOthers.setCell _ _ _)).trans (KeepsOthers.setCell _ _ _),?_⟩
  have hbl2:Below w.heap.size w (W.drewN (1+nn)):=⟨hbl.os,hbl.tape,hbl.output,hbl.size,hbl.block⟩
  have h3:Blk (((W.drewN (1+nn)).setCell ⟨g,k,none⟩ (.int .u64 (t1:Int))).setCell ⟨z+1,0,none⟩ (.int .u64 (t2:Int))) (z+1) 160 #[.int .u64 (t2:Int)]:=((h2.drewN (1+nn)).far (p:=⟨g,k,none⟩) (by show z+1≠g;omega) _).set_ 0 _
  have hR2:zaq (W.drewN (1+nn)) 160 g c1 n L:=hR
  exact ⟨⟨_,t2,HS.out,h3,fun _ => ⟨g,rfl,hgg,hgz,(hR2.set_ k t1 hk).far (p:=⟨z + 1,0,none⟩) (by show g ≠ z + 1; omega) _⟩⟩,
   ((habx.drewN (1+nn)).far (p:=⟨g,k,none⟩) (by show w.heap.size+1≠g;omega) _).far (p:=⟨z+1,0,none⟩) (by show w.heap.size+1≠z+1;omega) _,
   ((hre.drewN (1+nn)).far (p:=⟨g,k,none⟩) (by show w.heap.size+1+1≠g;omega) _).far (p:=⟨z+1,0,none⟩) (by show w.heap.size+1+1≠z+1;omega) _,
   ((hqb.drewN (1+nn)).far (p:=⟨g,k,none⟩) (by show z≠g;omega) _).far (p:=⟨z+1,0,none⟩) (by show z≠z+1;omega) _,
   ((hsq.drewN (1+nn)).far (p:=⟨g,k,none⟩) (by show z+1+1≠g;omega) _).far (p:=⟨z+1,0,none⟩) (by show z+1+1≠z+1;omega) _,
   (hbl2.setCell (p:=⟨g,k,none⟩) (by show w.heap.size<=g;omega) _).setCell (p:=⟨z+1,0,none⟩) (by show w.heap.size<=z+1;omega) _⟩
 case done=>
  intro D W hD h hK
  have hbl:=h.below
  have hre:=h.res
  have cq:W.cell? ⟨z,0,none⟩=some (.slice A1 n c1):=h.qbox.cell 0
  obtain⟨L,r,h1,h2,h3⟩:=h.row
  obtain⟨hq,hr⟩:=h1.done
  have cr:W.cell? ⟨z+1,0,none⟩=some (.int .u64 (r:Int)):=h2.cell 0
  have hread:zas W.drew W.drew.heap.size 1 A1 n (zaA .u64 L):=by
   rcases Nat.eq_zero_or_pos n with e|e
   ·subst e
    have hl:=h1.len
    rw [List.eq_nil_of_length_eq_zero hl]
    exact⟨rfl,λh=>absurd h (by omega)⟩
   ·obtain⟨g,rfl,_,_,hR⟩:=h3 e
    exact hR.drew.reads
  have HO:=zcT A1 n c1 L W.drew hread h1.dgs hc1 (by unfold maxLen at hc2;omega) (by omega)
  rw [hq] at HO
  rw [hr] at h2 cr
  obtain⟨xq,hxq⟩:∃q,x / a=q:=⟨_,rfl⟩
  obtain⟨xr,hxr⟩:∃q,x%a=q:=⟨_,rfl⟩
  rw [hxq] at HO
  rw [hxr] at cr
  have HXQ:=lh9 hxq
  have HXR:=lh9 hxr
  have HOH:=lh9 HO
  have HKH:=lh9 hK
  clear h h1 h2 h3 hq hr HO hread hxq hxr HWS HI H0 hK
  go_wp2_with fail
  go_region_held3 (fun w' => w'.cell? ⟨z,0,none⟩ = some (.slice A1 n c1) ∧ w'.cell? ⟨z + 1,0,none⟩ = some (.int .u64 (xr : Int)))
   (first|(exact⟨cq,cr⟩)|(go_split_ands;(repeat' apply And.intro);all_goals (first|with_reducible assumption|exact zac hb (by with_reducible assumption)|exact zag _ (by simp;omega) (by with_reducible assumption))))
   (first|(go_at_call 149;(with_reducible refine HOH.out.mono ?_);rintro e w' ⟨A3,n3,c3,rfl,hw,hb,hf⟩;have hre2:=zaa hb hre.drew;have f1:=hre2.frozen 0;have f2:=hre2.cell 0))
  have hlt:D<W.heap.size:=(Array.getElem?_eq_some_iff.1 HKH.out).1
  have k1:w'.heap[D]?=some (.deferred (some [])):=(hb.block D hlt).trans HKH.out
  have hq1:=hre.lt
  have hc4:=World.cell?_setCell_same' w' ⟨w.heap.size+1+1,0,none⟩ (.slice A3 n3 c3) (by rw [f2];rfl)
  have hK':=(KeepsOthers.setCell w' ⟨w.heap.size+1+1,0,none⟩ (.slice A3 n3 c3)).same D _ k1 rfl
  have hc5:=cell_kept hc4 (grownBy_putObj' _ D (.deferred none)) (λr e=>by cases e;exact⟨_,hK',rfl⟩)
  have hb2:Below w.heap.size w w':=hbl.trans ((show Below W.heap.size W w' from⟨hb.os,hb.tape,hb.output,hb.size,hb.block⟩).mono hbl.size)
  have HG : Hid (zpp w (x / a) (x % a) true (.returned (.tuple #[.agg #[.slice A3 n3 c3],.int .u64 (xr : Int),.bool true])) ((w'.setCell ⟨w.heap.size + 1 + 1,0,none⟩ (.slice A3 n3 c3)).putObj D (.deferred none))) :=
   ⟨A3,n3,c3,by rw [HXR.out],by rw [HXQ.out]; exact zhZ (zcY hw (fun ad e => by have h1 : W.heap.size ≤ ad.block:=hf ad e; show ad.block ≠ w.heap.size + 1 + 1; omega) _) hK' rfl _,
    (hb2.setCell (p:=⟨w.heap.size+1+1,0,none⟩) (by show w.heap.size<=w.heap.size+1+1;omega) _).trans (belowK_b (w:=w) (Nat.le_refl _) _ D _ _ (by omega) hK' rfl rfl),λad e=>by have h1:W.heap.size<=ad.block:=hf ad e;have h2:=hbl.size;omega⟩
  clear hb hw hf hre2 f1 f2 hb2 k1 hc4 cq cr
  go_wp2
  refine⟨by simp,.inl ⟨_,_,rfl,run_takeDeferred hK',?_⟩⟩
  exact⟨.tuple #[.agg #[.slice A3 n3 c3],.int .u64 (xr:Int),.bool true],by simp [results,Tryz.f215,go_sem,hc5],HG.out⟩
theorem zio (x a:Nat)(A:oA9)(n c:Nat)(w:World)(hA:zad w x A n c)(hn:n<=274877906944)(ha:a<18446744073709551616)(ha0:a≠0):
  Calls Tryz.prog 215 #[.agg #[.slice A n c],.int .u64 (a:Int)] w (zgX w (x / a) (x%a) true):=
 (ziA x a A n c w hA hn ha ha0).mono λ_ _ ⟨A3,n3,c3,h1,h2,h3,_⟩=>⟨A3,n3,c3,h1,h2,h3⟩
attribute [local go_sem] Oper.semAt_some
theorem zlB (w:World)(t:TypeId)(a b c d:Array Value):Below w.heap.size w ((((w.alloc (.cells a t)).alloc (.cells b t)).alloc (.cells c t)).alloc (.cells d t))/\Blk ((((w.alloc (.cells a t)).alloc (.cells b t)).alloc (.cells c t)).alloc (.cells d t)) w.heap.size t a/\Blk ((((w.alloc (.cells a t)).alloc (.cells b t)).alloc (.cells c t)).alloc (.cells d t)) (w.heap.size+1) t b/\Blk ((((w.alloc (.cells a t)).alloc (.cells b t)).alloc (.cells c t)).alloc (.cells d t)) (w.heap.size+1+1) t c/\Blk ((((w.alloc (.cells a t)).alloc (.cells b t)).alloc (.cells c t)).alloc (.cells d t)) (w.heap.size+1+1+1) t d/\w.heap.size+4<=((((w.alloc (.cells a t)).alloc (.cells b t)).alloc (.cells c t)).alloc (.cells d t)).heap.size:=by
 obtain⟨b1,b2,b3,b4,b5⟩:=zbL w t t t a b c
 have h:=Blk.new (((w.alloc (.cells a t)).alloc (.cells b t)).alloc (.cells c t)) t d
 rw [World.size_alloc,World.size_alloc,World.size_alloc] at h
 exact⟨zaj _ b1,b2.alloc _,b3.alloc _,b4.alloc _,h,by simp⟩
theorem Blk.new1 (w:World)(ob:Obj)(t:TypeId)(cs:Array Value):Blk ((w.alloc ob).alloc (.cells cs t)) (w.heap.size+1) t cs:=by
 have h:=Blk.new (w.alloc ob) t cs
 rw [World.size_alloc] at h
 exact h
theorem zea {w:World}{t t':TypeId}{g cap n b:Nat}{L:List Nat}{cs:Array Value}(h:zaq w t g cap n L)(hb:Blk w b t' cs)(hne:t≠t'):g≠b:=by
 obtain⟨cur,h0,_⟩:=h
 exact h0.ne_ hb hne
def zpU (B0:Nat)(w:World)(ty:TypeId)(N X:Nat)(e:Ending)(w':World):Prop:=
 ∃(g:Nat) (L:List Nat),e=.returned (.slice (some ⟨g,0,none⟩) N N)/\B0<=g/\zaq w' ty g N N L/\Dgs 18446744073709551616 L/\dv 18446744073709551616 L=X/\Below w.heap.size w w'
theorem zex.from_ {B0 N X:Nat}{w:World}{ty:TypeId}{e:Ending}{w':World}(h:zex w ty N X e w')(hB:B0<=w.heap.size):zpU B0 w ty N X e w':=by
 obtain⟨g,L,h1,h2,h3⟩:=h
 exact⟨g,L,h1,Nat.le_trans hB h2,h3⟩
def zpo (w:World)(q r:Nat)(e:Ending)(w':World):Prop:=∃(A:oA9) (n c:Nat) (B:oA9) (m d:Nat),e=.returned (.tuple #[.agg #[.slice A n c],.agg #[.slice B m d]])/\zad w' q A n c/\zad w' r B m d/\Below w.heap.size w w'
theorem Off.row {g b cap n:Nat}{w w':World}{t:TypeId}{L:List Nat}(h:Off g w w')(hR:zaq w t b cap n L)(hne:b≠g):zaq w' t b cap n L:=by
 obtain⟨cur,h0,h1⟩:=hR
 exact⟨cur,h.blk h0 hne,h1⟩
theorem zaq.readsB {w:World}{t:TypeId}{g cap n B0:Nat}{L:List Nat}(h:zaq w t g cap n L)(hb:g<B0):zas w B0 1 (some ⟨g,0,none⟩) n (zaA .u64 L):=
 ⟨h.reads.1,λhn=>by
  obtain⟨ad,e,_,hc⟩:=h.reads.2 hn
  cases e
  exact⟨_,rfl,hb,hc⟩⟩
structure zmt (X Y m n K gd gx gq b7 b8 b9 bs:Nat)(Ld:List Nat)(w:World)(k:Nat)(W:World):Prop where
 row:∃L Q,zfv X Y m k K L Q/\(∀j,j<k->Q.getD j 0=0)/\zaq W 160 gx (n+1) (n+1) L/\zaq W 160 gq K K Q
 div:zaq W 160 gd m m Ld
 x7:Blk W b7 35 #[.slice (some ⟨gd,0,none⟩) m m]
 x8:Blk W b8 35 #[.slice (some ⟨gx,0,none⟩) (n+1) (n+1)]
 x9:Blk W b9 35 #[.slice (some ⟨gq,0,none⟩) K K]
 xs:Blk W bs 35 #[.slice (some ⟨gq,0,none⟩) K K]
 r4:Blk W (w.heap.size+1+1) 37 #[.slice none 0 0]
 r5:Blk W (w.heap.size+1+1+1) 37 #[.slice none 0 0]
 below:Below w.heap.size w W
theorem zmt.own {X Y m n K gd gx gq b7 b8 b9 bs B:Nat}{Ld:List Nat}{w:World}(hB:w.heap.size<=B)(k:Nat):OwnFrom B (fun(_:Unit) W=>zmt X Y m n K gd gx gq b7 b8 b9 bs Ld w k W):=by
 intro _ W W' row h hg hr
 obtain⟨L,Q,h1,h2,h3,h4⟩:=h.row
 exact⟨⟨L,Q,h1,h2,zdr h3 hg hr,zdr h4 hg hr⟩,zdr h.div hg hr,zbC h.x7 hg hr,zbC h.x8 hg hr,zbC h.x9 hg hr,zbC h.xs hg hr,zbC h.r4 hg hr,zbC h.r5 hg hr,zeW h.below (Nat.le_refl _) hB hg hr⟩
theorem zlU (x d:Nat)(A D:oA9)(n m c ce:Nat)(w:World)(hA:zad w x A n c)(hD:zad w d D m ce)(hm:2<=m)(hmn:m<=n)(hn:n<=274877906944):
  Calls Tryz.prog 216 #[.agg #[.slice A n c],.agg #[.slice D m ce]] w (zpo w (x / d) (x%d)):=by
 have hdl:=hD.len
 have hxl:=hA.len
 obtain⟨up,hup,hu63,hDlt,hDtop⟩:=norm_up (d:=d) (m:=m - 1) (by omega)
 rw [show m - 1+1=m from by omega] at hDlt
 have hK:∃K,K=n - m+1:=⟨_,rfl⟩
 obtain⟨K,hK⟩:=hK
 have hfirst:=zoF (x:=x) (d:=d) (n:=n) (m:=m - 1) (k:=K) (up:=up) hxl (by omega) (by omega)
 have hRdl:(dg 18446744073709551616 (2^up*d)).length<=m:=zcD (by decide) _ _ hDlt
 have hRxl:=norm_len (up:=up) hxl hu63
 have HA:=lh9 (λw' (hb:Below w.heap.size w w')=>hA.below hb)
 have HD:=lh9 (λw' (hb:Below w.heap.size w w')=>hD.below hb)
 obtain⟨t,ht⟩:∃t,wd d (m - 1)=t:=⟨_,rfl⟩
 have htb:=zcp d (m - 1)
 rw [ht] at htb hup
 have hWD:=λw' (hb:Below w.heap.size w w')=>zdE d D m ce (m - 1) w' (HD.out w' hb)
 rw [ht,show((m - 1:Nat):Int)=(m:Int) - 1 from by omega] at hWD
 have hLD:=λw'=>zrr (t:Int) ⟨by omega,by omega⟩ w'
 rw [hup] at hLD
 have HWD:=lh9 hWD
 clear hWD
 have HLD:=lh9 hLD
 clear hLD
 have hNQ:=zqC x d up
 obtain⟨X,hX⟩:∃X,2^up*x=X:=⟨_,rfl⟩
 obtain⟨Y,hY⟩:∃Y,2^up*d=Y:=⟨_,rfl⟩
 have hRD:=λw' (hb:Below w.heap.size w w')=>ziq d up m D m ce w' (HD.out w' hb) (by omega) hu63 hRdl (by omega)
 have hRX:=λw' (hb:Below w.heap.size w w')=>ziq x up (n+1) A n c w' (HA.out w' hb) hn hu63 hRxl (by omega)
 rw [show((n+1:Nat):Int)=(n:Int)+1 from by omega] at hRX
 rw [hY] at hRD hDlt hDtop hfirst hNQ
 rw [hX] at hRX hfirst hNQ
 have HRD:=lh9 hRD
 clear hRD
 have HRX:=lh9 hRX
 clear hRX
 have HN:=lh9 hNQ
 have HF:=lh9 hfirst
 have HDL:=lh9 hDlt
 have HDT:=lh9 hDtop
 have HK:=lh9 hK
 clear hNQ hdl hxl hup hDlt hDtop hfirst hRdl hRxl ht hX hY hK hA hD hu63
 refine(callsIn_wide (n:=3)).1 ?_
 refine callsIn_of_wp_marks Tryz.func216 rfl trivial ?_ rfl
 simp only [Tryz.ntmps216,List.size_toArray,List.length_cons,List.length_nil,Nat.reduceAdd,Nat.reduceSub,Array.replicate_succ,Array.replicate_zero,List.push_toArray,List.append_toArray,List.nil_append,List.cons_append]
 refine wpIn_wide.2 ?_
 go_wp2_with fail
 obtain⟨hB,b2,b3,k4,k5,b6⟩:=zlB w 37 #[.slice A n c] #[.slice D m ce] #[.slice none 0 0] #[.slice none 0 0]
 generalize hW:(((w.alloc (.cells #[.slice A n c] 37)).alloc (.cells #[.slice D m ce] 37)).alloc (.cells #[.slice none 0 0] 37)).alloc (.cells #[.slice none 0 0] 37)=W0 at*
 have g2:W0.cell? ⟨w.heap.size,0,none⟩=some (.slice A n c):=b2.cell 0
 have g3:W0.cell? ⟨w.heap.size+1,0,none⟩=some (.slice D m ce):=b3.cell 0
 clear hW b2 b3
 have C1:=lh9 (λw' (hb:Below W0.heap.size W0 w')=>HWD.out w' (zab hB hb))
 have i1:IntKind.i64.wrap ((m:Int) - 1)=(m:Int) - 1:=IntWalk.i64_in _ (by omega)
 have hb0:Below W0.heap.size W0 W0.drew:=(Below.refl _ W0).drew
 have j3:W0.drew.cell? ⟨w.heap.size+1,0,none⟩=some (.slice D m ce):=g3
 obtain⟨R,hI,hE⟩:∃R:Exit->Act->World->Prop,(∀  (wc:World),Below W0.heap.size W0 wc->R .normal {tmps:=#[.agg #[.slice A n c],.agg #[.slice D m ce],.pointer (some ⟨w.heap.size,0,none⟩),.pointer (some ⟨w.heap.size+1,0,none⟩),.pointer (some ⟨w.heap.size+1+1,0,none⟩),.pointer (some ⟨w.heap.size+1+1+1,0,none⟩),.int .i64 (up:Int),undef,undef,undef,undef,.agg #[.slice D m ce],.agg #[.slice D m ce],.int .i64 (m:Int),.int .i64 ((m:Int) - 1),.int .u64 (t:Int),.int .i64 (up:Int),undef,undef,undef,undef,undef,undef,undef,undef,undef,undef,undef,undef,undef,undef,undef,undef,undef,undef,undef,undef,undef,undef,undef,undef,undef,undef,undef,undef,undef,undef,undef,undef,undef,undef,undef,undef,undef,undef,undef,undef,undef],defers:=[]} wc)/\(∀e a' wc,R e a' wc->e=.normal/\a'={tmps:=#[.agg #[.slice A n c],.agg #[.slice D m ce],.pointer (some ⟨w.heap.size,0,none⟩),.pointer (some ⟨w.heap.size+1,0,none⟩),.pointer (some ⟨w.heap.size+1+1,0,none⟩),.pointer (some ⟨w.heap.size+1+1+1,0,none⟩),.int .i64 (up:Int),undef,undef,undef,undef,.agg #[.slice D m ce],.agg #[.slice D m ce],.int .i64 (m:Int),.int .i64 ((m:Int) - 1),.int .u64 (t:Int),.int .i64 (up:Int),undef,undef,undef,undef,undef,undef,undef,undef,undef,undef,undef,undef,undef,undef,undef,undef,undef,undef,undef,undef,undef,undef,undef,undef,undef,undef,undef,undef,undef,undef,undef,undef,undef,undef,undef,undef,undef,undef,undef,undef,undef],defers:=[]}/\Below W0.heap.size W0 wc):=⟨λe a' wc=>e=.normal/\a'={tmps:=#[.agg #[.slice A n c],.agg #[.slice D m ce],.pointer (some ⟨w.heap.size,0,none⟩),.pointer (some ⟨w.heap.size+1,0,none⟩),.pointer (some ⟨w.heap.size+1+1,0,none⟩),.pointer (some ⟨w.heap.size+1+1+1,0,none⟩),.int .i64 (up:Int),undef,undef,undef,undef,.agg #[.slice D m ce],.agg #[.slice D m ce],.int .i64 (m:Int),.int .i64 ((m:Int) - 1),.int .u64 (t:Int),.int .i64 (up:Int),undef,undef,undef,undef,undef,undef,undef,undef,undef,undef,undef,undef,undef,undef,undef,undef,undef,undef,undef,undef,undef,undef,undef,undef,undef,undef,undef,undef,undef,undef,undef,undef,undef,undef,undef,undef,undef,undef,undef,undef,undef],defers:=[]}/\Below W0.heap.size W0 wc,fun  wc c0=>⟨rfl,rfl,c0⟩,λ_ _ _ h=>h⟩
 have HI:=lh9 hI
 have HE:=lh9 hE
 clear hI hE
 refine wp_mono (Q:=R) ?_ ?_
 ·go_region_held3 (fun w' => Below W0.heap.size W0 w' ∧ w'.cell? ⟨w.heap.size + 1,0,none⟩ = some (.slice D m ce))
   (first|(with_reducible exact⟨hb0,j3⟩)|(go_split_ands;(repeat' apply And.intro);all_goals (first|with_reducible assumption|with_reducible exact zab (by with_reducible assumption) hb|with_reducible exact zac hb (by with_reducible assumption)|with_reducible exact zaj _ (by with_reducible assumption)|with_reducible exact zaj _ (zaj _ (by with_reducible assumption))|with_reducible exact zal _ (zal _ (by with_reducible assumption))|with_reducible exact Below.drew (zaj _ (by with_reducible assumption))|with_reducible exact(cell_drew_own _ _).trans (zal _ (by with_reducible assumption))|with_reducible exact zal _ (by with_reducible assumption)|with_reducible exact zae _ (by first|(simp;done)|(simp;omega)) (by with_reducible assumption)|with_reducible exact zag _ (by first|(simp;done)|(simp;omega)) (by with_reducible assumption))))
   (first
     |(go_at_call 147;(with_reducible refine(zbQ 0 _ _ _ _).mono ?_);rintro e w' ⟨rfl,hb⟩)
     |(go_at_call 164;(with_reducible refine(C1.out _ (by first|with_reducible assumption|exact And.left (by with_reducible assumption))).mono ?_);rintro e w' ⟨rfl,hb⟩)
     |(go_at_call 227;(with_reducible refine(HLD.out _).mono ?_);rintro e w' ⟨rfl,rfl⟩))
  all_goals (
   go_split_ands
   refine HI.out _ ?_
   ·with_reducible assumption)
 ·intro e a' W hr
  obtain⟨rfl,rfl,r0⟩:=HE.out e a' W hr
  clear hr HI HE R
  have hB:=zab hB r0
  have g2:=zac r0 g2
  have g3:=zac r0 g3
  have k4:=zaa r0 k4
  have k5:=zaa r0 k5
  have b6:=Nat.le_trans b6 r0.size
  clear r0 C1 i1 hb0 j3
  go_wp2_with fail
  have C:=lh9 (λw' (hb:Below W.heap.size W w')=>(HRD.out w' (zab hB hb)).mono (λe w'' h=>zex.from_ h hb.size))
  have hb0:Below W.heap.size W W.drew:=(Below.refl _ W).drew
  have j3:W.drew.cell? ⟨w.heap.size+1,0,none⟩=some (.slice D m ce):=g3
  have ltq:w.heap.size+1<W.heap.size:=World.block_lt_of_cell? W ⟨w.heap.size+1,0,none⟩ g3
  generalize hWc:W=W1 at*
  clear hWc
  have hbr:Below W1.heap.size W1 W1:=Below.refl _ _
  obtain⟨R,hI,hE⟩:∃R:Exit->Act->World->Prop,(∀(b7:Nat) (gd:Nat) (Ld:List Nat) (wc:World),Below W1.heap.size W1 wc->Blk wc b7 35 #[.slice (some ⟨gd,0,none⟩) (m) (m)]->zaq wc 160 gd (m) (m) Ld->W1.heap.size<=gd->Dgs 18446744073709551616 Ld->dv 18446744073709551616 Ld=Y->R .normal {tmps:=#[.agg #[.slice A n c],.agg #[.slice D m ce],.pointer (some ⟨w.heap.size,0,none⟩),.pointer (some ⟨w.heap.size+1,0,none⟩),.pointer (some ⟨w.heap.size+1+1,0,none⟩),.pointer (some ⟨w.heap.size+1+1+1,0,none⟩),.int .i64 (up:Int),.pointer (some ⟨b7,0,none⟩),undef,undef,undef,.agg #[.slice D m ce],.agg #[.slice D m ce],.int .i64 (m:Int),.int .i64 ((m:Int) - 1),.int .u64 (t:Int),.int .i64 (up:Int),.agg #[.slice D m ce],.int .i64 (up:Int),.agg #[.slice D m ce],.int .i64 (m:Int),.slice (some ⟨gd,0,none⟩) m m,undef,undef,undef,undef,undef,undef,undef,undef,undef,undef,undef,undef,undef,undef,undef,undef,undef,undef,undef,undef,undef,undef,undef,undef,undef,undef,undef,undef,undef,undef,undef,undef,undef,undef,undef,undef],defers:=[]} wc)/\(∀e a' wc,R e a' wc->e=.normal/\∃(b7:Nat),∃(gd:Nat),∃(Ld:List Nat),a'={tmps:=#[.agg #[.slice A n c],.agg #[.slice D m ce],.pointer (some ⟨w.heap.size,0,none⟩),.pointer (some ⟨w.heap.size+1,0,none⟩),.pointer (some ⟨w.heap.size+1+1,0,none⟩),.pointer (some ⟨w.heap.size+1+1+1,0,none⟩),.int .i64 (up:Int),.pointer (some ⟨b7,0,none⟩),undef,undef,undef,.agg #[.slice D m ce],.agg #[.slice D m ce],.int .i64 (m:Int),.int .i64 ((m:Int) - 1),.int .u64 (t:Int),.int .i64 (up:Int),.agg #[.slice D m ce],.int .i64 (up:Int),.agg #[.slice D m ce],.int .i64 (m:Int),.slice (some ⟨gd,0,none⟩) m m,undef,undef,undef,undef,undef,undef,undef,undef,undef,undef,undef,undef,undef,undef,undef,undef,undef,undef,undef,undef,undef,undef,undef,undef,undef,undef,undef,undef,undef,undef,undef,undef,undef,undef,undef,undef],defers:=[]}/\Below W1.heap.size W1 wc/\Blk wc b7 35 #[.slice (some ⟨gd,0,none⟩) (m) (m)]/\zaq wc 160 gd (m) (m) Ld/\W1.heap.size<=gd/\Dgs 18446744073709551616 Ld/\dv 18446744073709551616 Ld=Y):=⟨λe a' wc=>e=.normal/\∃(b7:Nat),∃(gd:Nat),∃(Ld:List Nat),a'={tmps:=#[.agg #[.slice A n c],.agg #[.slice D m ce],.pointer (some ⟨w.heap.size,0,none⟩),.pointer (some ⟨w.heap.size+1,0,none⟩),.pointer (some ⟨w.heap.size+1+1,0,none⟩),.pointer (some ⟨w.heap.size+1+1+1,0,none⟩),.int .i64 (up:Int),.pointer (some ⟨b7,0,none⟩),undef,undef,undef,.agg #[.slice D m ce],.agg #[.slice D m ce],.int .i64 (m:Int),.int .i64 ((m:Int) - 1),.int .u64 (t:Int),.int .i64 (up:Int),.agg #[.slice D m ce],.int .i64 (up:Int),.agg #[.slice D m ce],.int .i64 (m:Int),.slice (some ⟨gd,0,none⟩) m m,undef,undef,undef,undef,undef,undef,undef,undef,undef,undef,undef,undef,undef,undef,undef,undef,undef,undef,undef,undef,undef,undef,undef,undef,undef,undef,undef,undef,undef,undef,undef,undef,undef,undef,undef,undef],defers:=[]}/\Below W1.heap.size W1 wc/\Blk wc b7 35 #[.slice (some ⟨gd,0,none⟩) (m) (m)]/\zaq wc 160 gd (m) (m) Ld/\W1.heap.size<=gd/\Dgs 18446744073709551616 Ld/\dv 18446744073709551616 Ld=Y,λb7 gd Ld wc c0 c1 c2 c3 c4 c5=>⟨rfl,b7,gd,Ld,rfl,c0,c1,c2,c3,c4,c5⟩,λ_ _ _ h=>h⟩
  have HI:=lh9 hI
  have HE:=lh9 hE
  clear hI hE
  refine wp_mono (Q:=R) ?_ ?_
  ·go_region_held3 (fun w' => Below W1.heap.size W1 w' ∧ w'.cell? ⟨w.heap.size + 1,0,none⟩ = some (.slice D m ce))
    (first|(with_reducible exact⟨hb0,j3⟩)|(go_split_ands;(repeat' apply And.intro);all_goals (first|with_reducible assumption|with_reducible exact zab (by with_reducible assumption) hb|with_reducible exact zac hb (by with_reducible assumption)|with_reducible exact zaj _ (by with_reducible assumption)|with_reducible exact zaj _ (zaj _ (by with_reducible assumption))|with_reducible exact zal _ (zal _ (by with_reducible assumption))|with_reducible exact Below.drew (zaj _ (by with_reducible assumption))|with_reducible exact(cell_drew_own _ _).trans (zal _ (by with_reducible assumption))|with_reducible exact zal _ (by with_reducible assumption)|with_reducible exact zae _ (by first|(simp;done)|(simp;omega)) (by with_reducible assumption)|with_reducible exact zag _ (by first|(simp;done)|(simp;omega)) (by with_reducible assumption))))
    (first
      |(go_at_call 147;(with_reducible refine(zbQ 0 _ _ _ _).mono ?_);rintro e w' ⟨rfl,hb⟩;go_split_ands;(have hBl:Below W1.heap.size W1 w':=zab (by with_reducible assumption) hb);(have hls:=hBl.size);(first|(with_reducible have hz:=zaa hb hz)|(with_reducible have hz:=zaa hb (Blk.new _ _ _))|(with_reducible have hz:=zaa hb (Blk.new _ _ _).drew)|skip))
      |(go_at_call 228;(with_reducible refine(C.out _ (by first|with_reducible assumption|exact And.left (by with_reducible assumption))).mono ?_);rintro e w' ⟨gr,Lr,rfl,hgr,hRr,hdr,hvr,hb⟩;go_split_ands;(have hBw:Below W1.heap.size W1 w':=zab (by with_reducible assumption) hb);(have hcw:w'.cell? ⟨w.heap.size+1,0,none⟩=some (.slice D m ce):=zac hb (by with_reducible assumption));(first|(with_reducible have hz:=zaa hb hz)|(with_reducible have hz:=zaa hb (Blk.new _ _ _))|(with_reducible have hz:=zaa hb (Blk.new _ _ _).drew)|skip);(try (have q1:=hz.cell 0));(try (have q2:=hz.frozen 0))))
   all_goals (
    go_split_ands
    refine HI.out _ _ Lr _ ?_ ?_ ?_ ?_ ?_ ?_
    ·with_reducible assumption
    ·(first|with_reducible exact Blk.new _ _ _|exact hz.set_ 0 _)
    ·(first|with_reducible exact hRr.far (zea hRr hz (by decide)) _|with_reducible exact hRr.alloc _|with_reducible exact(hRr.alloc _).far (by have:=hRr.lt;simp;omega) _)
    ·with_reducible assumption
    ·with_reducible assumption
    ·with_reducible assumption)
  ·intro e a' W hr
   obtain⟨rfl,b7,gd,Ld,rfl,r0,r1,r2,r3,r4,r5⟩:=HE.out e a' W hr
   clear hr HI HE R
   have hgd4:w.heap.size+4<=gd:=Nat.le_trans b6 r3
   have hB:=zab hB r0
   have g2:=zac r0 g2
   have g3:=zac r0 g3
   have k4:=zaa r0 k4
   have k5:=zaa r0 k5
   have b6:=Nat.le_trans b6 r0.size
   obtain⟨hk7,hRd,hgd,hdd,hvd⟩:=And.intro r1 (And.intro r2 (And.intro r3 (And.intro r4 r5)))
   clear r0 r1 r2 r3 r4 r5 C hb0 j3 ltq
   go_wp2_with fail
   have hdx1:=hRd.lt
   have i2:IntKind.i64.wrap ((n:Int)+1)=(n:Int)+1:=IntWalk.i64_in _ (by omega)
   have C:=lh9 (λw' (hb:Below W.heap.size W w')=>(HRX.out w' (zab hB hb)).mono (λe w'' h=>zex.from_ h hb.size))
   have hb0:Below W.heap.size W W.drew:=(Below.refl _ W).drew
   have j3:W.drew.cell? ⟨w.heap.size,0,none⟩=some (.slice A n c):=g2
   have ltq:w.heap.size<W.heap.size:=World.block_lt_of_cell? W ⟨w.heap.size,0,none⟩ g2
   generalize hWc:W=W1 at*
   clear hWc
   have hbr:Below W1.heap.size W1 W1:=Below.refl _ _
   obtain⟨R,hI,hE⟩:∃R:Exit->Act->World->Prop,(∀(b8:Nat) (gx:Nat) (Lx:List Nat) (wc:World),Below W1.heap.size W1 wc->Blk wc b8 35 #[.slice (some ⟨gx,0,none⟩) (n+1) (n+1)]->zaq wc 160 gx (n+1) (n+1) Lx->W1.heap.size<=gx->Dgs 18446744073709551616 Lx->dv 18446744073709551616 Lx=X->R .normal {tmps:=#[.agg #[.slice A n c],.agg #[.slice D m ce],.pointer (some ⟨w.heap.size,0,none⟩),.pointer (some ⟨w.heap.size+1,0,none⟩),.pointer (some ⟨w.heap.size+1+1,0,none⟩),.pointer (some ⟨w.heap.size+1+1+1,0,none⟩),.int .i64 (up:Int),.pointer (some ⟨b7,0,none⟩),.pointer (some ⟨b8,0,none⟩),undef,undef,.agg #[.slice D m ce],.agg #[.slice D m ce],.int .i64 (m:Int),.int .i64 ((m:Int) - 1),.int .u64 (t:Int),.int .i64 (up:Int),.agg #[.slice D m ce],.int .i64 (up:Int),.agg #[.slice D m ce],.int .i64 (m:Int),.slice (some ⟨gd,0,none⟩) m m,.agg #[.slice A n c],.int .i64 (up:Int),.agg #[.slice A n c],.int .i64 (n:Int),.int .i64 ((n:Int)+1),.slice (some ⟨gx,0,none⟩) (n+1) (n+1),undef,undef,undef,undef,undef,undef,undef,undef,undef,undef,undef,undef,undef,undef,undef,undef,undef,undef,undef,undef,undef,undef,undef,undef,undef,undef,undef,undef,undef,undef],defers:=[]} wc)/\(∀e a' wc,R e a' wc->e=.normal/\∃(b8:Nat),∃(gx:Nat),∃(Lx:List Nat),a'={tmps:=#[.agg #[.slice A n c],.agg #[.slice D m ce],.pointer (some ⟨w.heap.size,0,none⟩),.pointer (some ⟨w.heap.size+1,0,none⟩),.pointer (some ⟨w.heap.size+1+1,0,none⟩),.pointer (some ⟨w.heap.size+1+1+1,0,none⟩),.int .i64 (up:Int),.pointer (some ⟨b7,0,none⟩),.pointer (some ⟨b8,0,none⟩),undef,undef,.agg #[.slice D m ce],.agg #[.slice D m ce],.int .i64 (m:Int),.int .i64 ((m:Int) - 1),.int .u64 (t:Int),.int .i64 (up:Int),.agg #[.slice D m ce],.int .i64 (up:Int),.agg #[.slice D m ce],.int .i64 (m:Int),.slice (some ⟨gd,0,none⟩) m m,.agg #[.slice A n c],.int .i64 (up:Int),.agg #[.slice A n c],.int .i64 (n:Int),.int .i64 ((n:Int)+1),.slice (some ⟨gx,0,none⟩) (n+1) (n+1),undef,undef,undef,undef,undef,undef,undef,undef,undef,undef,undef,undef,undef,undef,undef,undef,undef,undef,undef,undef,undef,undef,undef,undef,undef,undef,undef,undef,undef,undef],defers:=[]}/\Below W1.heap.size W1 wc/\Blk wc b8 35 #[.slice (some ⟨gx,0,none⟩) (n+1) (n+1)]/\zaq wc 160 gx (n+1) (n+1) Lx/\W1.heap.size<=gx/\Dgs 18446744073709551616 Lx/\dv 18446744073709551616 Lx=X):=⟨λe a' wc=>e=.normal/\∃(b8:Nat),∃(gx:Nat),∃(Lx:List Nat),a'={tmps:=#[.agg #[.slice A n c],.agg #[.slice D m ce],.pointer (some ⟨w.heap.size,0,none⟩),.pointer (some ⟨w.heap.size+1,0,none⟩),.pointer (some ⟨w.heap.size+1+1,0,none⟩),.pointer (some ⟨w.heap.size+1+1+1,0,none⟩),.int .i64 (up:Int),.pointer (some ⟨b7,0,none⟩),.pointer (some ⟨b8,0,none⟩),undef,undef,.agg #[.slice D m ce],.agg #[.slice D m ce],.int .i64 (m:Int),.int .i64 ((m:Int) - 1),.int .u64 (t:Int),.int .i64 (up:Int),.agg #[.slice D m ce],.int .i64 (up:Int),.agg #[.slice D m ce],.int .i64 (m:Int),.slice (some ⟨gd,0,none⟩) m m,.agg #[.slice A n c],.int .i64 (up:Int),.agg #[.slice A n c],.int .i64 (n:Int),.int .i64 ((n:Int)+1),.slice (some ⟨gx,0,none⟩) (n+1) (n+1),undef,undef,undef,undef,undef,undef,undef,undef,undef,undef,undef,undef,undef,undef,undef,undef,undef,undef,undef,undef,undef,undef,undef,undef,undef,undef,undef,undef,undef,undef],defers:=[]}/\Below W1.heap.size W1 wc/\Blk wc b8 35 #[.slice (some ⟨gx,0,none⟩) (n+1) (n+1)]/\zaq wc 160 gx (n+1) (n+1) Lx/\W1.heap.size<=gx/\Dgs 18446744073709551616 Lx/\dv 18446744073709551616 Lx=X,λb8 gx Lx wc c0 c1 c2 c3 c4 c5=>⟨rfl,b8,gx,Lx,rfl,c0,c1,c2,c3,c4,c5⟩,λ_ _ _ h=>h⟩
   have HI:=lh9 hI
   have HE:=lh9 hE
   clear hI hE
   refine wp_mono (Q:=R) ?_ ?_
   ·go_region_held3 (fun w' => Below W1.heap.size W1 w' ∧ w'.cell? ⟨w.heap.size,0,none⟩ = some (.slice A n c))
     (first|(with_reducible exact⟨hb0,j3⟩)|(go_split_ands;(repeat' apply And.intro);all_goals (first|with_reducible assumption|with_reducible exact zab (by with_reducible assumption) hb|with_reducible exact zac hb (by with_reducible assumption)|with_reducible exact zaj _ (by with_reducible assumption)|with_reducible exact zaj _ (zaj _ (by with_reducible assumption))|with_reducible exact zal _ (zal _ (by with_reducible assumption))|with_reducible exact Below.drew (zaj _ (by with_reducible assumption))|with_reducible exact(cell_drew_own _ _).trans (zal _ (by with_reducible assumption))|with_reducible exact zal _ (by with_reducible assumption)|with_reducible exact zae _ (by first|(simp;done)|(simp;omega)) (by with_reducible assumption)|with_reducible exact zag _ (by first|(simp;done)|(simp;omega)) (by with_reducible assumption))))
     (first
       |(go_at_call 147;(with_reducible refine(zbQ 0 _ _ _ _).mono ?_);rintro e w' ⟨rfl,hb⟩;go_split_ands;(have hBl:Below W1.heap.size W1 w':=zab (by with_reducible assumption) hb);(have hls:=hBl.size);(first|(with_reducible have hz:=zaa hb hz)|(with_reducible have hz:=zaa hb (Blk.new _ _ _))|(with_reducible have hz:=zaa hb (Blk.new _ _ _).drew)|skip))
       |(go_at_call 228;(with_reducible refine(C.out _ (by first|with_reducible assumption|exact And.left (by with_reducible assumption))).mono ?_);rintro e w' ⟨gr,Lr,rfl,hgr,hRr,hdr,hvr,hb⟩;go_split_ands;(have hBw:Below W1.heap.size W1 w':=zab (by with_reducible assumption) hb);(have hcw:w'.cell? ⟨w.heap.size,0,none⟩=some (.slice A n c):=zac hb (by with_reducible assumption));(first|(with_reducible have hz:=zaa hb hz)|(with_reducible have hz:=zaa hb (Blk.new _ _ _))|(with_reducible have hz:=zaa hb (Blk.new _ _ _).drew)|skip);(try (have q1:=hz.cell 0));(try (have q2:=hz.frozen 0))))
    all_goals (
     go_split_ands
     refine HI.out _ _ Lr _ ?_ ?_ ?_ ?_ ?_ ?_
     ·with_reducible assumption
     ·(first|with_reducible exact Blk.new _ _ _|exact hz.set_ 0 _)
     ·(first|with_reducible exact hRr.far (zea hRr hz (by decide)) _|with_reducible exact hRr.alloc _|with_reducible exact(hRr.alloc _).far (by have:=hRr.lt;simp;omega) _)
     ·with_reducible assumption
     ·with_reducible assumption
     ·with_reducible assumption)
   ·intro e a' W hr
    obtain⟨rfl,b8,gx,Lx,rfl,r0,r1,r2,r3,r4,r5⟩:=HE.out e a' W hr
    clear hr HI HE R
    have hxd:gd<gx:=Nat.lt_of_lt_of_le hdx1 r3
    have hB:=zab hB r0
    have g2:=zac r0 g2
    have g3:=zac r0 g3
    have k4:=zaa r0 k4
    have k5:=zaa r0 k5
    have b6:=Nat.le_trans b6 r0.size
    have hk7:=zaa r0 hk7
    have hRd:=hRd.keep r0
    obtain⟨hk8,hRx,hgx,hdx,hvx⟩:=And.intro r1 (And.intro r2 (And.intro r3 (And.intro r4 r5)))
    clear r0 r1 r2 r3 r4 r5 C hb0 j3 ltq
    go_wp2_with fail
    have hdx2:=hRx.lt
    obtain⟨i0,hi0,hz0,hz1,hz2⟩:=info_parts zgx
    obtain⟨Z,hZ⟩:∃Z,madeCells (Value.cells (.int .u64 0)) K=Z:=⟨_,rfl⟩
    have hKn:(n:Int) - (m:Int)+1=(K:Int):=by have:=HK.out;omega
    have hmk:∀W:World,(Instr.makeSlice 35 (.int .i64 ((n:Int) - (m:Int)+1)) (.int .i64 ((n:Int) - (m:Int)+1))).run Tryz.prog W=.ok (.slice (some ⟨W.heap.size,0,none⟩) K K) (W.alloc (.cells Z 160)):=λW=>by
     have h:=zaW _ _ i0 _ Tryz.underlying35 hi0 hz0 .i64 .i64 K K (Nat.le_refl _) (by rw [hz2];have:=HK.out;omega) (by have:=HK.out;omega) W
     rw [hz1,Nat.mul_one,hZ] at h
     rw [hKn]
     exact h
    have HRZ:=lh9 (λW:World=>by have h:=zaq.made W 160 K (by have:=HK.out;unfold maxLen;omega);rw [hZ] at h;exact h)
    have HRZ1:=lh9 (fun(W:World) (ob:Obj)=>by have h:=HRZ.out (W.alloc ob);rw [World.size_alloc] at h;exact h)
    clear hZ hKn hi0 hz0 hz1 hz2
    have i3:IntKind.i64.wrap ((n:Int) - (m:Int))=(n:Int) - (m:Int):=IntWalk.i64_in _ (by omega)
    have i4:IntKind.i64.wrap ((n:Int) - (m:Int)+1)=(n:Int) - (m:Int)+1:=IntWalk.i64_in _ (by omega)
    have hb0:Below W.heap.size W W.drew:=(Below.refl _ W).drew
    have j2:W.drew.cell? ⟨w.heap.size,0,none⟩=some (.slice A n c):=g2
    have j3:W.drew.cell? ⟨w.heap.size+1,0,none⟩=some (.slice D m ce):=g3
    have ltq:w.heap.size+1<W.heap.size:=World.block_lt_of_cell? W ⟨w.heap.size+1,0,none⟩ g3
    generalize hWc:W=W1 at*
    clear hWc
    have hbr:Below W1.heap.size W1 W1:=Below.refl _ _
    obtain⟨R,hI,hE⟩:∃R:Exit->Act->World->Prop,(∀(b9:Nat) (gq:Nat) (wc:World),Below W1.heap.size W1 wc->Blk wc b9 35 #[.slice (some ⟨gq,0,none⟩) K K]->zaq wc 160 gq K K (List.replicate K 0)->W1.heap.size<=gq->R .normal {tmps:=#[.agg #[.slice A n c],.agg #[.slice D m ce],.pointer (some ⟨w.heap.size,0,none⟩),.pointer (some ⟨w.heap.size+1,0,none⟩),.pointer (some ⟨w.heap.size+1+1,0,none⟩),.pointer (some ⟨w.heap.size+1+1+1,0,none⟩),.int .i64 (up:Int),.pointer (some ⟨b7,0,none⟩),.pointer (some ⟨b8,0,none⟩),.pointer (some ⟨b9,0,none⟩),undef,.agg #[.slice D m ce],.agg #[.slice D m ce],.int .i64 (m:Int),.int .i64 ((m:Int) - 1),.int .u64 (t:Int),.int .i64 (up:Int),.agg #[.slice D m ce],.int .i64 (up:Int),.agg #[.slice D m ce],.int .i64 (m:Int),.slice (some ⟨gd,0,none⟩) m m,.agg #[.slice A n c],.int .i64 (up:Int),.agg #[.slice A n c],.int .i64 (n:Int),.int .i64 ((n:Int)+1),.slice (some ⟨gx,0,none⟩) (n+1) (n+1),.agg #[.slice A n c],.int .i64 (n:Int),.agg #[.slice D m ce],.int .i64 (m:Int),.int .i64 ((n:Int) - (m:Int)),.int .i64 ((n:Int) - (m:Int)+1),.slice (some ⟨gq,0,none⟩) K K,undef,undef,undef,undef,undef,undef,undef,undef,undef,undef,undef,undef,undef,undef,undef,undef,undef,undef,undef,undef,undef,undef,undef],defers:=[]} wc)/\(∀e a' wc,R e a' wc->e=.normal/\∃(b9:Nat),∃(gq:Nat),a'={tmps:=#[.agg #[.slice A n c],.agg #[.slice D m ce],.pointer (some ⟨w.heap.size,0,none⟩),.pointer (some ⟨w.heap.size+1,0,none⟩),.pointer (some ⟨w.heap.size+1+1,0,none⟩),.pointer (some ⟨w.heap.size+1+1+1,0,none⟩),.int .i64 (up:Int),.pointer (some ⟨b7,0,none⟩),.pointer (some ⟨b8,0,none⟩),.pointer (some ⟨b9,0,none⟩),undef,.agg #[.slice D m ce],.agg #[.slice D m ce],.int .i64 (m:Int),.int .i64 ((m:Int) - 1),.int .u64 (t:Int),.int .i64 (up:Int),.agg #[.slice D m ce],.int .i64 (up:Int),.agg #[.slice D m ce],.int .i64 (m:Int),.slice (some ⟨gd,0,none⟩) m m,.agg #[.slice A n c],.int .i64 (up:Int),.agg #[.slice A n c],.int .i64 (n:Int),.int .i64 ((n:Int)+1),.slice (some ⟨gx,0,none⟩) (n+1) (n+1),.agg #[.slice A n c],.int .i64 (n:Int),.agg #[.slice D m ce],.int .i64 (m:Int),.int .i64 ((n:Int) - (m:Int)),.int .i64 ((n:Int) - (m:Int)+1),.slice (some ⟨gq,0,none⟩) K K,undef,undef,undef,undef,undef,undef,undef,undef,undef,undef,undef,undef,undef,undef,undef,undef,undef,undef,undef,undef,undef,undef,undef],defers:=[]}/\Below W1.heap.size W1 wc/\Blk wc b9 35 #[.slice (some ⟨gq,0,none⟩) K K]/\zaq wc 160 gq K K (List.replicate K 0)/\W1.heap.size<=gq):=⟨λe a' wc=>e=.normal/\∃(b9:Nat),∃(gq:Nat),a'={tmps:=#[.agg #[.slice A n c],.agg #[.slice D m ce],.pointer (some ⟨w.heap.size,0,none⟩),.pointer (some ⟨w.heap.size+1,0,none⟩),.pointer (some ⟨w.heap.size+1+1,0,none⟩),.pointer (some ⟨w.heap.size+1+1+1,0,none⟩),.int .i64 (up:Int),.pointer (some ⟨b7,0,none⟩),.pointer (some ⟨b8,0,none⟩),.pointer (some ⟨b9,0,none⟩),undef,.agg #[.slice D m ce],.agg #[.slice D m ce],.int .i64 (m:Int),.int .i64 ((m:Int) - 1),.int .u64 (t:Int),.int .i64 (up:Int),.agg #[.slice D m ce],.int .i64 (up:Int),.agg #[.slice D m ce],.int .i64 (m:Int),.slice (some ⟨gd,0,none⟩) m m,.agg #[.slice A n c],.int .i64 (up:Int),.agg #[.slice A n c],.int .i64 (n:Int),.int .i64 ((n:Int)+1),.slice (some ⟨gx,0,none⟩) (n+1) (n+1),.agg #[.slice A n c],.int .i64 (n:Int),.agg #[.slice D m ce],.int .i64 (m:Int),.int .i64 ((n:Int) - (m:Int)),.int .i64 ((n:Int) - (m:Int)+1),.slice (some ⟨gq,0,none⟩) K K,undef,undef,undef,undef,undef,undef,undef,undef,undef,undef,undef,undef,undef,undef,undef,undef,undef,undef,undef,undef,undef,undef,undef],defers:=[]}/\Below W1.heap.size W1 wc/\Blk wc b9 35 #[.slice (some ⟨gq,0,none⟩) K K]/\zaq wc 160 gq K K (List.replicate K 0)/\W1.heap.size<=gq,λb9 gq wc c0 c1 c2 c3=>⟨rfl,b9,gq,rfl,c0,c1,c2,c3⟩,λ_ _ _ h=>h⟩
    have HI:=lh9 hI
    have HE:=lh9 hE
    clear hI hE
    refine wp_mono (Q:=R) ?_ ?_
    ·go_region_held3 (fun w' => Below W1.heap.size W1 w' ∧ w'.cell? ⟨w.heap.size,0,none⟩ = some (.slice A n c) ∧ w'.cell? ⟨w.heap.size + 1,0,none⟩ = some (.slice D m ce))
      (first|(with_reducible exact⟨hb0,j2,j3⟩)|(go_split_ands;(repeat' apply And.intro);all_goals (first|with_reducible assumption|with_reducible exact zab (by with_reducible assumption) hb|with_reducible exact zac hb (by with_reducible assumption)|with_reducible exact zaj _ (by with_reducible assumption)|with_reducible exact zaj _ (zaj _ (by with_reducible assumption))|with_reducible exact zal _ (zal _ (by with_reducible assumption))|with_reducible exact Below.drew (zaj _ (by with_reducible assumption))|with_reducible exact(cell_drew_own _ _).trans (zal _ (by with_reducible assumption))|with_reducible exact zal _ (by with_reducible assumption)|with_reducible exact zae _ (by first|(simp;done)|(simp;omega)) (by with_reducible assumption)|with_reducible exact zag _ (by first|(simp;done)|(simp;omega)) (by with_reducible assumption))))
      (first
        |(go_at_call 147;(with_reducible refine(zbQ 0 _ _ _ _).mono ?_);rintro e w' ⟨rfl,hb⟩;go_split_ands;(have hBl:Below W1.heap.size W1 w':=zab (by with_reducible assumption) hb);(have hls:=hBl.size);(have hc0:w'.cell? ⟨w.heap.size,0,none⟩=some (.slice A n c):=zac hb (by with_reducible assumption));(have hc1:w'.cell? ⟨w.heap.size+1,0,none⟩=some (.slice D m ce):=zac hb (by with_reducible assumption));  (first|(with_reducible have hz:=zaa hb hz)|(with_reducible have hz:=zaa hb (Blk.new _ _ _))|(with_reducible have hz:=zaa hb (Blk.new _ _ _).drew)|skip);(try (have q1:=λob=>zal ob (hz.cell 0)));(try (have q2:=λob=>(hz.alloc ob).frozen 0))))
     all_goals (
      go_split_ands
      refine HI.out _ _ _ ?_ ?_ ?_ ?_
      ·with_reducible assumption
      ·(first|(with_reducible exact Blk.new1 _ _ _ _)|(with_reducible exact(Blk.new _ _ _).alloc _)|exact(hz.alloc _).set_ 0 _)
      ·(first|(with_reducible exact(HRZ.out _).alloc _)|(with_reducible exact HRZ1.out _ _)|exact(HRZ.out _).far (zea (HRZ.out _) (hz.alloc _) (by decide)) _)
      ·(first|omega|(simp;omega)))
    ·intro e a' W hr
     obtain⟨rfl,b9,gq,rfl,r0,r1,r2,r3⟩:=HE.out e a' W hr
     clear hr HI HE R
     have hqx:gx<gq:=Nat.lt_of_lt_of_le hdx2 r3
     have hB:=zab hB r0
     have g2:=zac r0 g2
     have g3:=zac r0 g3
     have k4:=zaa r0 k4
     have k5:=zaa r0 k5
     have b6:=Nat.le_trans b6 r0.size
     have hk7:=zaa r0 hk7
     have hk8:=zaa r0 hk8
     have hRd:=hRd.keep r0
     have hRx:=hRx.keep r0
     obtain⟨hk9,hRq,hgq⟩:=And.intro r1 (And.intro r2 r3)
     clear r0 r1 r2 r3 hb0 j2 j3 ltq hmk HRZ HRZ1 i3 i4 i2
     have q9:W.cell? ⟨b9,0,none⟩=some (.slice (some ⟨gq,0,none⟩) K K):=hk9.cell 0
     go_wp2_with fail
     have kbs:=Blk.new W 35 #[.slice (some ⟨gq,0,none⟩) K K]
     refine(zes (some ⟨gq,0,none⟩) K K _).mono ?_
     rintro e w2 ⟨rfl,hw2⟩
     have H0:=lh9 (show zmt X Y m n K gd gx gq b7 b8 b9 W.heap.size Ld w K w2 by
      rw [<-hw2]
      have hKK:=HK.out
      exact⟨⟨Lx,List.replicate K 0,zfv.start (by rw [hRx.len];omega) hdx hvx HF.out,λj _=>by simp [List.getD_eq_getElem?_getD,List.getElem?_replicate];split<;>rfl,hRx.alloc _,hRq.alloc _⟩,hRd.alloc _,hk7.alloc _,hk8.alloc _,hk9.alloc _,kbs,k4.alloc _,k5.alloc _,zaj _ hB⟩)
     have hB2:w.heap.size<=w2.heap.size:=by rw [<-hw2];have:=hB.size;simp;omega
     go_wp2_with fail
     obtain⟨bs,hbs⟩:∃g,W.heap.size=g:=⟨_,rfl⟩
     rw [hbs] at H0⊢
     have hgq2:gq<bs:=by rw [<-hbs];exact hRq.lt
     have hq3:w.heap.size+1+1+1<gd:=by omega
     have HDD:=lh9 hdd
     have HVD:=lh9 hvd
     clear hw2 kbs hbs hRx hRd hRq hk7 hk8 hk9 k4 k5 hB q9 g2 g3 hdd hdx hvd hvx
     refine(wpIn_wide (n:=3)).1 ?_
     refine zjO (gf:=233) (lb:=#[.pointer (some ⟨bs,0,none⟩)]) rfl (enters_of Tryz.func233 (by kernel_rfl) rfl) K (fun k => #[.int .i64 (k : Int),.int .u64 ((0 : Nat) : Int)]) (fun _ => rfl)
      (λk W=>zmt X Y m n K gd gx gq b7 b8 b9 bs Ld w k W) (λk=>zmt.own hB2 k) H0.out
      (zfo bs K K (some ⟨gq,0,none⟩) (λ_=>0) _ (by have:=HK.out;omega) (λk W h=>h.xs.cell 0) ?cells)
      (λk=>{tmps:=#[.agg #[.slice A n c],.agg #[.slice D m ce],.pointer (some ⟨w.heap.size,0,none⟩),.pointer (some ⟨w.heap.size+1,0,none⟩),.pointer (some ⟨w.heap.size+1+1,0,none⟩),.pointer (some ⟨w.heap.size+1+1+1,0,none⟩),.int .i64 (up:Int),.pointer (some ⟨b7,0,none⟩),.pointer (some ⟨b8,0,none⟩),.pointer (some ⟨b9,0,none⟩),.int .i64 (k:Int),.agg #[.slice D m ce],.agg #[.slice D m ce],.int .i64 (m:Int),.int .i64 ((m:Int) - 1),.int .u64 (t:Int),.int .i64 (up:Int),.agg #[.slice D m ce],.int .i64 (up:Int),.agg #[.slice D m ce],.int .i64 (m:Int),.slice (some ⟨gd,0,none⟩) m m,.agg #[.slice A n c],.int .i64 (up:Int),.agg #[.slice A n c],.int .i64 (n:Int),.int .i64 ((n:Int)+1),.slice (some ⟨gx,0,none⟩) (n+1) (n+1),.agg #[.slice A n c],.int .i64 (n:Int),.agg #[.slice D m ce],.int .i64 (m:Int),.int .i64 ((n:Int) - (m:Int)),.int .i64 ((n:Int) - (m:Int)+1),.slice (some ⟨gq,0,none⟩) K K,.slice (some ⟨gq,0,none⟩) K K,.func (.func 233) #[] #[.pointer (some ⟨bs,0,none⟩)],.int .i64 (k:Int),.int .u64 0,undef,undef,undef,undef,undef,undef,undef,undef,undef,undef,undef,undef,undef,undef,undef,undef,undef,undef,undef],defers:=[]}) ?assign ?body ?done
     case cells=>
      intro k W hk h
      obtain⟨L,Q,_,h2,_,h4⟩:=h.row
      refine⟨_,rfl,?_⟩
      rw [znQ,h4.cell k hk,h2 k (by omega)]
     case assign=>
      intro l k W K hK
      gi_wp2
      exact hK
     case body=>
      intro l k W hk h
      have kd:=h.div
      have k7:=h.x7
      have k8:=h.x8
      have k9:=h.x9
      have ks:=h.xs
      have k4:=h.r4
      have k5:=h.r5
      have hbl:=h.below
      obtain⟨L,Q,h1,h2,h3,h4⟩:=h.row
      clear h
      obtain⟨pA,p,pC,rfl,hpA,hpl,hpd,hpe,hpY,hpC⟩:=h1.cut hk HDL.out
      have hYp:0<Y:=by
       have e:=HVD.out
       rcases Nat.eq_zero_or_pos Y with e0|e0
       ·rw [e0,Nat.mul_zero] at hpY;omega
       ·exact e0
      have c7:W.cell? ⟨b7,0,none⟩=some (.slice (some ⟨gd,0,none⟩) m m):=k7.cell 0
      have c8:W.cell? ⟨b8,0,none⟩=some (.slice (some ⟨gx,0,none⟩) (n+1) (n+1)):=k8.cell 0
      have c9:W.cell? ⟨b9,0,none⟩=some (.slice (some ⟨gq,0,none⟩) K K):=k9.cell 0
      have n7:gx≠b7/\gq≠b7:=⟨zea h3 k7 (by decide),zea h4 k7 (by decide)⟩
      have n8:gx≠b8/\gq≠b8:=⟨zea h3 k8 (by decide),zea h4 k8 (by decide)⟩
      have n9:gx≠b9/\gq≠b9:=⟨zea h3 k9 (by decide),zea h4 k9 (by decide)⟩
      have ns:gx≠bs/\gq≠bs:=⟨zea h3 ks (by decide),zea h4 ks (by decide)⟩
      obtain⟨n7x,n7q⟩:=n7
      obtain⟨n8x,n8q⟩:=n8
      obtain⟨n9x,n9q⟩:=n9
      obtain⟨nsx,nsq⟩:=ns
      have hKK:=HK.out
      have htk:=zlV 160 gx (n+1) (n+1) k m (n+1 - k) m ⟨gd,0,none⟩ pA p pC Ld W.drew h3 hpA hpl hpd (kd.readsB hxd) HDD.out hm (by omega) (by omega) (by omega) (Nat.le_refl _) (by omega) (norm_top (m:=m - 1) (by rw [kd.len];omega) HDD.out HVD.out HDT.out) (by rw [HVD.out];exact hpY)
      unfold OutR at htk
      rw [HVD.out] at htk
      obtain⟨tq,htq⟩:∃t,dv 18446744073709551616 p / Y=t:=⟨_,rfl⟩
      rw [htq] at htk
      have HTQ:=lh9 htq
      have HTK:=lh9 htk
      clear htk hpe htq
      have i1:(0:Int)<=(k:Int):=by omega
      have i2:(k:Int)<(K:Int):=by omega
      have i3:IntKind.i64.wrap ((k:Int)+(m:Int))=(k:Int)+(m:Int):=IntWalk.i64_in _ (by omega)
      have i4:IntKind.i64.wrap ((k:Int)+(m:Int)+1)=(k:Int)+(m:Int)+1:=IntWalk.i64_in _ (by omega)
      have i5:(k:Int)<=(k:Int)+(m:Int)+1:=by omega
      have i6:(k:Int)+(m:Int)+1<=(n:Int)+1:=by omega
      have i7:(0:Int)<=(k:Int)+(m:Int)+1:=by omega
      have i8:¬(n+1=k):=by omega
      have i9:((k:Int)+(m:Int)+1).toNat - k=m+1:=by omega
      clear hKK
      refine wpIn_block ?_
      refine zhx (S:=(λw'=>w'.cell? ⟨b7,0,none⟩=some (.slice (some ⟨gd,0,none⟩) m m)/\w'.cell? ⟨b8,0,none⟩=some (.slice (some ⟨gx,0,none⟩) (n+1) (n+1))/\w'.cell? ⟨b9,0,none⟩=some (.slice (some ⟨gq,0,none⟩) K K))) (by kernel_rfl) (by kernel_rfl) (λ_ _ h=>by cases h.1) ?_ (λhHeld=>?_)
      ·exact⟨c7,c8,c9⟩
      refine wtk9 0 (v:=?_) ?_ ?_
      rotate_left
      focus ((intro w hSw;(try dsimp only at hSw);go_simp);(try with_reducible rfl))
      try simp only [Act.put,List.setIfInBounds_toArray,List.set_cons_zero,List.set_cons_succ]
      refine wtk9 1 (v:=?_) ?_ ?_
      rotate_left
      focus ((intro w hSw;(try dsimp only at hSw);go_simp);(try with_reducible rfl))
      try simp only [Act.put,List.setIfInBounds_toArray,List.set_cons_zero,List.set_cons_succ]
      refine wtk9 2 (v:=?_) ?_ ?_
      rotate_left
      focus ((intro w hSw;(try dsimp only at hSw);go_simp);(try with_reducible rfl))
      try simp only [Act.put,List.setIfInBounds_toArray,List.set_cons_zero,List.set_cons_succ]
      refine wtk9 3 (v:=?_) ?_ ?_
      rotate_left
      focus ((intro w hSw;(try dsimp only at hSw);go_simp);(try with_reducible rfl))
      try simp only [Act.put,List.setIfInBounds_toArray,List.set_cons_zero,List.set_cons_succ]
      refine wtk9 4 (v:=?_) ?_ ?_
      rotate_left
      focus ((intro w hSw;(try dsimp only at hSw);go_simp);(try with_reducible rfl))
      try simp only [Act.put,List.setIfInBounds_toArray,List.set_cons_zero,List.set_cons_succ]
      refine wtk9 5 (v:=?_) ?_ ?_
      rotate_left
      focus ((intro w hSw;(try dsimp only at hSw);go_simp);(try with_reducible rfl))
      try simp only [Act.put,List.setIfInBounds_toArray,List.set_cons_zero,List.set_cons_succ]
      refine wtk9 6 (v:=?_) ?_ ?_
      rotate_left
      focus ((intro w hSw;(try dsimp only at hSw);go_simp);(try with_reducible rfl))
      try simp only [Act.put,List.setIfInBounds_toArray,List.set_cons_zero,List.set_cons_succ]
      refine wtk9 7 (v:=?_) ?_ ?_
      rotate_left
      focus ((intro w hSw;(try dsimp only at hSw);go_simp);(try with_reducible rfl))
      try simp only [Act.put,List.setIfInBounds_toArray,List.set_cons_zero,List.set_cons_succ]
      refine wtk9 8 (v:=?_) ?_ ?_
      rotate_left
      focus ((intro w hSw;(try dsimp only at hSw);go_simp);(try with_reducible rfl))
      try simp only [Act.put,List.setIfInBounds_toArray,List.set_cons_zero,List.set_cons_succ]
      refine wtk9 9 (v:=?_) ?_ ?_
      rotate_left
      focus ((intro w hSw;(try dsimp only at hSw);go_simp);(try with_reducible rfl))
      try simp only [Act.put,List.setIfInBounds_toArray,List.set_cons_zero,List.set_cons_succ]
      refine wtk9 10 (v:=?_) ?_ ?_
      rotate_left
      focus ((intro w hSw;(try dsimp only at hSw);go_simp);(try with_reducible rfl))
      try simp only [Act.put,List.setIfInBounds_toArray,List.set_cons_zero,List.set_cons_succ]
      refine wpAnyH_ready (rs:=[11]) (by kernel_rfl) (by simp) ?_
      refine arc9 (λK hK=>?_)
      go_simp
      refine HTK.out.mono ?_
      rintro e w2 ⟨p',rfl,hpl',hpd',hpv',hR2,hO⟩
      have hq2:=h4.drew
      have cq2:=hO.cell (hq2.cell k hk) (by show gq≠gx;omega)
      have fq2:w2.frozen? ⟨gq,k,none⟩=false:=(World.frozen?_of_block (hO.block gq hq2.lt (by intro h;injection h;omega))).trans (hq2.frozen k)
      refine hK.out _ _ ?_ (λhHeld=>?_)
      ·((try dsimp only);exact⟨hO.cell hHeld.1 (λh=>n7x h.symm),hO.cell hHeld.2.1 (λh=>n8x h.symm),hO.cell hHeld.2.2 (λh=>n9x h.symm)⟩)
      clear hK K
      try simp only [Act.put,List.setIfInBounds_toArray,List.set_cons_zero,List.set_cons_succ]
      refine wtk9 12 (v:=?_) ?_ ?_
      rotate_left
      focus ((intro w hSw;(try dsimp only at hSw);go_simp);(try with_reducible rfl))
      try simp only [Act.put,List.setIfInBounds_toArray,List.set_cons_zero,List.set_cons_succ]
      refine wpAnyH_ready (rs:=[13]) (by kernel_rfl) (by simp) ?_
      refine arc9 (λK hK=>?_)
      go_simp
      refine hK.out _ _ ?_ (λhHeld=>?_)
      ·((try dsimp only);exact⟨zag _ (λh=>n7q h.symm) hHeld.1,zag _ (λh=>n8q h.symm) hHeld.2.1,zag _ (λh=>n9q h.symm) hHeld.2.2⟩)
      clear hK K
      try simp only [Act.put,List.setIfInBounds_toArray,List.set_cons_zero,List.set_cons_succ]
      refine wpAnyH_done (by kernel_rfl) ?_ _
      have hko:KeepsOthers W.drew w2:=KeepsOthers.of_grownBy hO (λj ob e ho=>by
       injection e with e
       subst e
       obtain⟨cur,hb,_⟩:=h3
       rw [show W.drew.heap[gx]?=_ from hb] at ho
       cases ho
       rfl)
      have hqb:dv 18446744073709551616 p / Y<18446744073709551616:=(Nat.div_lt_iff_lt_mul hYp).2 hpY
      have hst:=h1.step hpA hpl hpC hk hpl' hpd' hpv' hqb hYp
      rw [HTQ.out] at hst
      have hle:=Nat.lt_of_lt_of_le hxd (Nat.le_refl gx)
      refine⟨rfl,((KeepsOthers.drew W).trans hko).trans (KeepsOthers.setCell _ _ _),?_⟩
      exact ⟨⟨_,_,hst,fun j hj => by rw [List.getD_eq_getElem?_getD,List.getElem?_set_ne (by omega),← List.getD_eq_getElem?_getD]; exact h2 j (by omega),hR2.far (p:=⟨gq,k,none⟩) (by show gx ≠ gq; omega) _,(hO.row h4.drew (by omega)).set_ k tq hk⟩,
       (hO.row kd.drew (by omega)).far (p:=⟨gq,k,none⟩) (by show gd≠gq;omega) _,
       (hO.blk k7.drew (λh=>n7x h.symm)).far (p:=⟨gq,k,none⟩) (λh=>n7q h.symm) _,(hO.blk k8.drew (λh=>n8x h.symm)).far (p:=⟨gq,k,none⟩) (λh=>n8q h.symm) _,
       (hO.blk k9.drew (λh=>n9x h.symm)).far (p:=⟨gq,k,none⟩) (λh=>n9q h.symm) _,(hO.blk ks.drew (λh=>nsx h.symm)).far (p:=⟨gq,k,none⟩) (λh=>nsq h.symm) _,
       (hO.blk k4.drew (by omega)).far (p:=⟨gq,k,none⟩) (by show w.heap.size+1+1≠gq;omega) _,(hO.blk k5.drew (by omega)).far (p:=⟨gq,k,none⟩) (by show w.heap.size+1+1+1≠gq;omega) _,
       (hO.below hbl.drew hbl.size (by omega)).setCell (p:=⟨gq,k,none⟩) (by show w.heap.size<=gq;omega) _⟩
     case done=>
      intro D0 W hD h hK
      have k4:=h.r4
      have k5:=h.r5
      have hbl:=h.below
      have c8:W.cell? ⟨b8,0,none⟩=some (.slice (some ⟨gx,0,none⟩) (n+1) (n+1)):=h.x8.cell 0
      have c9:W.cell? ⟨b9,0,none⟩=some (.slice (some ⟨gq,0,none⟩) K K):=h.x9.cell 0
      obtain⟨m8,m8'⟩:b8≠w.heap.size+1+1/\b8≠w.heap.size+1+1+1:=⟨h.x8.ne_ k4 (by decide),h.x8.ne_ k5 (by decide)⟩
      obtain⟨m9,m9'⟩:b9≠w.heap.size+1+1/\b9≠w.heap.size+1+1+1:=⟨h.x9.ne_ k4 (by decide),h.x9.ne_ k5 (by decide)⟩
      obtain⟨L,Q,h1,_,h3,h4⟩:=h.row
      obtain⟨hq,hr⟩:=h1.done
      have hKK:=HK.out
      have HO1:=zcT (some ⟨gq,0,none⟩) K K Q W.drew h4.drew.reads h1.qdgs (Nat.le_refl _) (by omega) (by omega)
      have HO2:=λw' (hb:Below W.drew.heap.size W.drew w')=>zcT (some ⟨gx,0,none⟩) (n+1) (n+1) L w' ((h3.drew.reads.below hb).more hb.size) h1.dgs (Nat.le_refl _) (by omega) (by omega)
      have hrl:=zcL h1.dgs
      rw [hq] at HO1
      rw [hr] at HO2 hrl
      obtain⟨xq,hxq⟩:∃q,X / Y=q:=⟨_,rfl⟩
      obtain⟨xr,hxr⟩:∃q,X%Y=q:=⟨_,rfl⟩
      rw [hxq] at HO1
      rw [hxr] at HO2 hrl
      have hrl2:(dg 18446744073709551616 xr).length<=n+1:=by
       refine zcD (by decide) _ _ (Nat.lt_of_lt_of_le hrl (Nat.pow_le_pow_right (by decide) ?_))
       rw [h1.len];omega
      have HS:=λw' (B k c) (hw:zad w' xr B k c)=>zil xr up B k c w' hw (by have:=hw.len;omega)
      have hres:=HN.out
      rw [hxq,hxr] at hres
      obtain⟨yr,hyr⟩:∃q,xr / 2^up=q:=⟨_,rfl⟩
      rw [hyr] at HS hres
      have HO1:=lh9 HO1
      have HO2:=lh9 HO2
      have HSH:=lh9 HS
      have HRES:=lh9 hres
      have HKH:=lh9 hK
      have hlt:D0<W.heap.size:=(Array.getElem?_eq_some_iff.1 hK).1
      clear h h1 h3 h4 hq hr hKK HS hres hK hrl hrl2 hxq hxr hyr H0
      rename_i hO1u hO2u
      clear hO2u hO1u
      go_wp2_with fail
      have j8:W.drew.cell? ⟨b8,0,none⟩=some (.slice (some ⟨gx,0,none⟩) (n+1) (n+1)):=c8
      have j9:W.drew.cell? ⟨b9,0,none⟩=some (.slice (some ⟨gq,0,none⟩) K K):=c9
      go_region_held3 (fun w' => w'.cell? ⟨b8,0,none⟩ = some (.slice (some ⟨gx,0,none⟩) (n + 1) (n + 1)) ∧ w'.cell? ⟨b9,0,none⟩ = some (.slice (some ⟨gq,0,none⟩) K K))
       (first|(with_reducible exact⟨j8,j9⟩)|(go_split_ands;(repeat' apply And.intro);all_goals (first|with_reducible assumption|with_reducible exact zab (by with_reducible assumption) hb|with_reducible exact zac hb (by with_reducible assumption)|with_reducible exact zaj _ (by with_reducible assumption)|with_reducible exact zaj _ (zaj _ (by with_reducible assumption))|with_reducible exact zal _ (zal _ (by with_reducible assumption))|with_reducible exact Below.drew (zaj _ (by with_reducible assumption))|with_reducible exact(cell_drew_own _ _).trans (zal _ (by with_reducible assumption))|with_reducible exact zal _ (by with_reducible assumption)|with_reducible exact zae _ (by first|(simp;done)|(simp;omega)) (by with_reducible assumption)|with_reducible exact zag _ (by first|(simp;done)|(simp;omega)) (by with_reducible assumption))))
       (first
         |(go_at_call 149;(with_reducible refine HO1.out.mono ?_);rintro e w' ⟨A3,n3,c3,rfl,hw3,hb,hf3⟩;have hB3:=hb)
         |(go_at_call 149;(with_reducible refine(HO2.out _ hB3).mono ?_);rintro e w' ⟨A4,n4,c4,rfl,hw4,hb,_⟩;have hw3:=hw3.below hb;have hB3:=zab hB3 hb)
         |(go_at_call 213;(with_reducible refine(HSH.out _ _ _ _ hw4).mono ?_);rintro e w' ⟨A5,n5,c5,rfl,hw5,hb,hf5⟩;have hf5:=hf5.from_ hB3;have hw3:=hw3.below hb;have hB3:=zab hB3 hb;have k4':=zaa hB3 k4.drew;have k5':=zaa hB3 k5.drew;have f4:=k4'.frozen 0;have f5:=k5'.frozen 0;have g4:=k4'.cell 0;have g5:=k5'.cell 0))
      have hk4:=k4.lt
      have hk5:=k5.lt
      have k1:w'.heap[D0]?=some (.deferred (some [])):=(hB3.block D0 hlt).trans HKH.out
      have hK1:=(KeepsOthers.setCell w' ⟨w.heap.size+1+1,0,none⟩ (.slice A3 n3 c3)).same D0 _ k1 rfl
      have hK':=(KeepsOthers.setCell (w'.setCell ⟨w.heap.size+1+1,0,none⟩ (.slice A3 n3 c3)) ⟨w.heap.size+1+1+1,0,none⟩ (.slice A5 n5 c5)).same D0 _ hK1 rfl
      have l4:=(k4'.set_ 0 (.slice A3 n3 c3)).far (p:=⟨w.heap.size+1+1+1,0,none⟩) (by show w.heap.size+1+1≠w.heap.size+1+1+1;omega) (.slice A5 n5 c5)
      have l5:=(k5'.far (p:=⟨w.heap.size+1+1,0,none⟩) (by show w.heap.size+1+1+1≠w.heap.size+1+1;omega) (.slice A3 n3 c3)).set_ 0 (.slice A5 n5 c5)
      have e4:=cell_kept (l4.cell 0) (grownBy_putObj' _ D0 (.deferred none)) (λr e=>by cases e;exact⟨_,hK',rfl⟩)
      have e5:=cell_kept (l5.cell 0) (grownBy_putObj' _ D0 (.deferred none)) (λr e=>by cases e;exact⟨_,hK',rfl⟩)
      have hbw:Below w.heap.size w w':=hbl.trans ((show Below W.heap.size W w' from⟨hB3.os,hB3.tape,hB3.output,hB3.size,hB3.block⟩).mono hbl.size)
      have HG : Hid (zpo w (x / d) (x % d) (.returned (.tuple #[.agg #[.slice A3 n3 c3],.agg #[.slice A5 n5 c5]])) (((w'.setCell ⟨w.heap.size + 1 + 1,0,none⟩ (.slice A3 n3 c3)).setCell ⟨w.heap.size + 1 + 1 + 1,0,none⟩ (.slice A5 n5 c5)).putObj D0 (.deferred none))) :=
       ⟨A3,n3,c3,A5,n5,c5,rfl,
        by rw [<-HRES.out.1];exact zhZ (zcY (zcY hw3 (λad e=>by have h1:W.heap.size<=ad.block:=hf3 ad e;show ad.block≠w.heap.size+1+1;omega) _) (λad e=>by have h1:W.heap.size<=ad.block:=hf3 ad e;show ad.block≠w.heap.size+1+1+1;omega) _) hK' rfl _,
        by rw [<-HRES.out.2];exact zhZ (zcY (zcY hw5 (λad e=>by have h1:W.heap.size<=ad.block:=hf5 ad e;show ad.block≠w.heap.size+1+1;omega) _) (λad e=>by have h1:W.heap.size<=ad.block:=hf5 ad e;show ad.block≠w.heap.size+1+1+1;omega) _) hK' rfl _,
        ((hbw.setCell (p:=⟨w.heap.size+1+1,0,none⟩) (by show w.heap.size<=w.heap.size+1+1;omega) _).setCell (p:=⟨w.heap.size+1+1+1,0,none⟩) (by show w.heap.size<=w.heap.size+1+1+1;omega) _).trans (belowK_b (w:=w) (Nat.le_refl _) _ D0 _ _ (by omega) hK' rfl rfl)⟩
      clear hb hw3 hw4 hw5 hf3 hf5 k4' k5' f4 f5 g4 g5 hB3 hbw k1 hK1 l4 l5 c8 c9 j8 j9
      go_wp2
      refine⟨by simp,.inl ⟨_,_,rfl,run_takeDeferred hK',?_⟩⟩
      exact⟨.tuple #[.agg #[.slice A3 n3 c3],.agg #[.slice A5 n5 c5]],by simp [results,Tryz.f216,go_sem,e4,e5],HG.out⟩
theorem of_one (r:Nat)(hr:r<18446744073709551616)(g:Nat)(w:World)(h:Blk w g 160 #[.int .u64 (r:Int)]):Calls Tryz.prog 149 #[.slice (some ⟨g,0,none⟩) 1 1] w (zaO w r):=by
 have hd:Dgs 18446744073709551616 [r]:=by intro d hd;simp at hd;omega
 have:=zcT (some ⟨g,0,none⟩) 1 1 [r] w (zdR h rfl (by simp [zaA]) rfl) hd (Nat.le_refl _) (by decide) (by decide)
 rwa [show dv 18446744073709551616 [r]=r from by simp [dv]] at this
theorem wd0 {x:Nat}(h:x<18446744073709551616):wd x 0=x:=by unfold wd;rw [Nat.pow_zero,Nat.div_one,Nat.mod_eq_of_lt h]
theorem zjJ {x m:Nat}(hx:(dg 18446744073709551616 x).length=m)(hm:m<=1):x<18446744073709551616:=by
 have h:=zbM (b:=18446744073709551616) (by decide) x
 rw [hx] at h
 exact Nat.lt_of_lt_of_le h (Nat.le_trans (Nat.pow_le_pow_right (by decide) hm) (by decide))
theorem zfp (x d q r:Nat)(b:Bool)(A D:oA9)(n m c ce:Nat)(w:World)(hA:zad w x A n c)(hD:zad w d D m ce)(hm:m<=1)(hr:r<18446744073709551616)
  (HB:∀w',Below w.heap.size w w'->Calls Tryz.prog 215 #[.agg #[.slice A n c],.int .u64 (d:Int)] w' (zgX w' q r b)):
  Calls Tryz.prog 200 #[.agg #[.slice A n c],.agg #[.slice D m ce]] w (zcP w q r b):=by
 have hU:=λw' (hb:Below w.heap.size w w')=>zdf d D m ce w' (hD.below hb) hm
 rw [wd0 (zjJ hD.len hm)] at hU
 have HU:=lh9 hU
 have HBH:=lh9 HB
 have HOF:=lh9 (λg w=>of_one r hr g w)
 clear hU HB hA hD
 go_enter Tryz.func200,Tryz.ntmps200
 go_wp2_with fail
 obtain⟨hB,b2,b3,k4,k5,b6⟩:=zlB w 37 #[.slice A n c] #[.slice D m ce] #[.slice none 0 0] #[.slice none 0 0]
 generalize hW:(((w.alloc (.cells #[.slice A n c] 37)).alloc (.cells #[.slice D m ce] 37)).alloc (.cells #[.slice none 0 0] 37)).alloc (.cells #[.slice none 0 0] 37)=W0 at*
 have g2:W0.cell? ⟨w.heap.size,0,none⟩=some (.slice A n c):=b2.cell 0
 clear hW b2 b3
 refine(HU.out _ hB).mono ?_
 rintro e w1 ⟨rfl,hb⟩
 have hB:=zab hB hb
 have g2:=zac hb g2
 have k4:=zaa hb k4
 have k5:=zaa hb k5
 clear hb b6
 go_wp2_with fail
 refine(HBH.out _ hB).mono ?_
 rintro e w2 ⟨A2,n2,c2,rfl,hw2,hb⟩
 have hB:=zab hB hb
 have k4:=zaa hb k4
 have k5:=zaa hb k5
 have l4:=k5.lt
 obtain⟨m9,m9'⟩:w.heap.size+1+1≠w2.heap.size/\w.heap.size+1+1+1≠w2.heap.size:=by omega
 obtain⟨d1,d2,d5⟩:=zav w2 37 #[.slice A2 n2 c2]
 have hB:=zab hB d1
 have k4:=zaa d1 k4
 have k5:=zaa d1 k5
 have hw2:=hw2.below d1
 have g9:(w2.alloc (.cells #[.slice A2 n2 c2] 37)).cell? ⟨w2.heap.size,0,none⟩=some (.slice A2 n2 c2):=d2.cell 0
 clear d1 d2 d5 hb g2
 go_wp2_with fail
 generalize w2.alloc (.cells #[.slice A2 n2 c2] 37)=W2 at*
 generalize w2.heap.size=z at*
 have hbr:Below W2.heap.size W2 W2:=Below.refl _ _
 have j9:W2.drew.cell? ⟨z,0,none⟩=some (.slice A2 n2 c2):=g9
 go_region_held3 (fun w' => w'.cell? ⟨z,0,none⟩ = some (.slice A2 n2 c2))
  (first|(with_reducible exact j9)|with_reducible assumption|with_reducible exact zal _ (by with_reducible assumption)|with_reducible exact(cell_drew_own _ _).trans (zal _ (by with_reducible assumption))|with_reducible exact zac hb (by with_reducible assumption)|with_reducible exact zag _ (by first|(simp;done)|(simp;omega)) (by with_reducible assumption))
  (first
    |(go_at_call 149;(with_reducible refine(HOF.out _ _ (by first|with_reducible exact Blk.new _ _ _|with_reducible exact(Blk.new _ _ _).drew)).mono ?_);rintro e w' ⟨A3,n3,c3,rfl,hw3,hb,hf3⟩;(have hb2:Below W2.heap.size W2 w':=zab (by first|with_reducible exact(zaj _ hbr).drew|with_reducible exact zaj _ hbr.drew) hb);have k4':=zaa hb2 k4;have k5':=zaa hb2 k5;have hw2':=hw2.below hb2;have f4:=k4'.frozen 0;have f5:=k5'.frozen 0;have e4:=k4'.cell 0;have e5:=k5'.cell 0))
 have p4:zcf w' (w.heap.size+1+1) (.slice none 0 0):=⟨_,k4'⟩
 have p5:zcf w' (w.heap.size+1+1+1) (.slice none 0 0):=⟨_,k5'⟩
 have p5':=p5.far (p:=⟨w.heap.size+1+1,0,none⟩) (by show w.heap.size+1+1+1≠w.heap.size+1+1;omega) (.slice A2 n2 c2)
 have r4:=((p4.set_ (.slice A2 n2 c2)).far (p:=⟨w.heap.size+1+1+1,0,none⟩) (by show w.heap.size+1+1≠w.heap.size+1+1+1;omega) (.slice A3 n3 c3)).cell
 have r5:=(p5'.set_ (.slice A3 n3 c3)).cell
 have hbw:=zab hB hb2
 have HG : Hid (zcP w q r b (.returned (.tuple #[.agg #[.slice A2 n2 c2],.agg #[.slice A3 n3 c3],.bool b])) ((w'.setCell ⟨w.heap.size + 1 + 1,0,none⟩ (.slice A2 n2 c2)).setCell ⟨w.heap.size + 1 + 1 + 1,0,none⟩ (.slice A3 n3 c3))) :=
  ⟨A2,n2,c2,A3,n3,c3,rfl,zao (zao hw2' p4 _) p5' _,zao (zao hw3 p4 _) p5' _,
   (hbw.setCell (p:=⟨w.heap.size+1+1,0,none⟩) (by show w.heap.size<=w.heap.size+1+1;omega) _).setCell (p:=⟨w.heap.size+1+1+1,0,none⟩) (by show w.heap.size<=w.heap.size+1+1+1;omega) _⟩
 clear hb hb2 hw2 hw2' hw3 hf3 k4 k5 k4' k5' f4 f5 e4 e5 p4 p5 p5' hbw hB g9 j9 hbr
 go_wp2
 refine bodyPost_ret (v:=.tuple #[.agg #[.slice A2 n2 c2],.agg #[.slice A3 n3 c3],.bool b]) (by simp [results,Tryz.results200,go_sem,r4,r5]) rfl ?_
 exact HG.out
theorem small_q {x d n m:Nat}(hx:(dg 18446744073709551616 x).length=n)(hd:(dg 18446744073709551616 d).length=m)(h:n<m):x / d=0/\x%d=x:=by
 have hl:x<d:=zjw (b:=18446744073709551616) (by decide) (by rw [hx,hd];exact h)
 exact⟨Nat.div_eq_of_lt hl,Nat.mod_eq_of_lt hl⟩
theorem zhu (x d:Nat)(A D:oA9)(n m c ce:Nat)(w:World)(hA:zad w x A n c)(hD:zad w d D m ce)(hm:2<=m)(hnm:n<m)(hm2:m<=274877906944):
  Calls Tryz.prog 200 #[.agg #[.slice A n c],.agg #[.slice D m ce]] w (zcP w (x / d) (x%d) true):=by
 obtain⟨hq,hr⟩:=small_q hA.len hD.len hnm
 rw [hq,hr]
 have HU:=lh9 (λw'=>zcN D m ce w' (by omega))
 have HWS:=lh9 (λw' (hb:Below w.heap.size w w')=>zdo x A n c w' (hA.below hb) (by omega))
 have HLN:=lh9 hA.len
 have t1:decide ((n:Int)<(m:Int))=true:=by simpa using hnm
 clear hA hD hq hr
 go_enter Tryz.func200,Tryz.ntmps200
 go_wp2_with fail
 obtain⟨hB,b2,b3,k4,k5,b6⟩:=zlB w 37 #[.slice A n c] #[.slice D m ce] #[.slice none 0 0] #[.slice none 0 0]
 generalize hW:(((w.alloc (.cells #[.slice A n c] 37)).alloc (.cells #[.slice D m ce] 37)).alloc (.cells #[.slice none 0 0] 37)).alloc (.cells #[.slice none 0 0] 37)=W0 at*
 have g2:W0.cell? ⟨w.heap.size,0,none⟩=some (.slice A n c):=b2.cell 0
 have g3:W0.cell? ⟨w.heap.size+1,0,none⟩=some (.slice D m ce):=b3.cell 0
 clear hW b2 b3
 refine(HU.out _).mono ?_
 rintro e w1 ⟨rfl,hb⟩
 have hB:=zab hB hb
 have g2:=zac hb g2
 have g3:=zac hb g3
 have k4:=zaa hb k4
 have k5:=zaa hb k5
 clear hb b6
 go_wp2_with fail
 have j2:w1.drew.cell? ⟨w.heap.size,0,none⟩=some (.slice A n c):=g2
 have j3:w1.drew.cell? ⟨w.heap.size+1,0,none⟩=some (.slice D m ce):=g3
 have hbr:Below w1.heap.size w1 w1.drew:=(Below.refl _ w1).drew
 go_region_held3 (fun w' => Below w1.heap.size w1 w' ∧ w'.cell? ⟨w.heap.size,0,none⟩ = some (.slice A n c) ∧ w'.cell? ⟨w.heap.size + 1,0,none⟩ = some (.slice D m ce))
  (first|(with_reducible exact⟨hbr,j2,j3⟩)|(go_split_ands;(repeat' apply And.intro);all_goals (first|with_reducible assumption|with_reducible exact zab (by with_reducible assumption) hb|with_reducible exact zac hb (by with_reducible assumption))))
  (first|(go_at_call 147;(with_reducible refine(zbQ 0 _ _ _ _).mono ?_);rintro e w' ⟨rfl,hb⟩))
 rename_i hH
 obtain⟨hb3,g2',g3'⟩:=hH
 have hB:=zab hB hb3
 have k4:=zaa hb3 k4
 have k5:=zaa hb3 k5
 clear hb3 hb j2 j3 hbr g3' g2 g3
 go_wp2_with fail
 refine(HWS.out _ hB).mono ?_
 rintro e w3 ⟨A1,c1,rfl,hr1,hc1,⟨hc2,_⟩,hb⟩
 have hB:=zab hB hb
 have k4:=zaa hb k4
 have k5:=zaa hb k5
 have O:=zcT A1 _ c1 _ w3 hr1 (zcS (by decide) x) hc1 hc2 (by have:=HLN.out;omega)
 rw [zdz (by decide)] at O
 have HO:=lh9 O
 rw [HLN.out] at HO⊢
 clear O hr1 hb g2'
 go_wp2_with fail
 refine HO.out.mono ?_
 rintro e w' ⟨A3,n3,c3,rfl,hw3,hb,hf3⟩
 have hB:=zab hB hb
 have k4:=zaa hb k4
 have k5:=zaa hb k5
 have f4:=k4.frozen 0
 have f5:=k5.frozen 0
 have e4:=k4.cell 0
 have e5:=k5.cell 0
 have p4:zcf w' (w.heap.size+1+1) (.slice none 0 0):=⟨_,k4⟩
 have p5:zcf w' (w.heap.size+1+1+1) (.slice none 0 0):=⟨_,k5⟩
 have p5':=p5.far (p:=⟨w.heap.size+1+1,0,none⟩) (by show w.heap.size+1+1+1≠w.heap.size+1+1;omega) (.slice none 0 0)
 have r4:=((p4.set_ (.slice none 0 0)).far (p:=⟨w.heap.size+1+1+1,0,none⟩) (by show w.heap.size+1+1≠w.heap.size+1+1+1;omega) (.slice A3 n3 c3)).cell
 have r5:=(p5'.set_ (.slice A3 n3 c3)).cell
 have HG : Hid (zcP w 0 x true (.returned (.tuple #[.agg #[.slice none 0 0],.agg #[.slice A3 n3 c3],.bool true])) ((w'.setCell ⟨w.heap.size + 1 + 1,0,none⟩ (.slice none 0 0)).setCell ⟨w.heap.size + 1 + 1 + 1,0,none⟩ (.slice A3 n3 c3))) :=
  ⟨none,0,0,A3,n3,c3,rfl,zgU _,zao (zao hw3 p4 _) p5' _,
   (hB.setCell (p:=⟨w.heap.size+1+1,0,none⟩) (by show w.heap.size<=w.heap.size+1+1;omega) _).setCell (p:=⟨w.heap.size+1+1+1,0,none⟩) (by show w.heap.size<=w.heap.size+1+1+1;omega) _⟩
 clear hb hw3 hf3 k4 k5 p4 p5 p5' hB
 go_wp2
 refine bodyPost_ret (v:=.tuple #[.agg #[.slice none 0 0],.agg #[.slice A3 n3 c3],.bool true]) (by simp [results,Tryz.results200,go_sem,r4,r5]) rfl ?_
 exact HG.out
theorem zhT (x d:Nat)(A D:oA9)(n m c ce:Nat)(w:World)(hA:zad w x A n c)(hD:zad w d D m ce)(hm:2<=m)(hmn:m<=n)(hn:n<=274877906944):
  Calls Tryz.prog 200 #[.agg #[.slice A n c],.agg #[.slice D m ce]] w (zcP w (x / d) (x%d) true):=by
 have HU:=lh9 (λw'=>zcN D m ce w' (by omega))
 have HWS:=lh9 (λw' (hb:Below w.heap.size w w')=>zlU x d A D n m c ce w' (hA.below hb) (hD.below hb) hm hmn hn)
 have t1:decide ((n:Int)<(m:Int))=false:=by simpa using hmn
 have t2:¬ n<m:=by omega
 obtain⟨xq,hxq⟩:∃q,x / d=q:=⟨_,rfl⟩
 obtain⟨xr,hxr⟩:∃q,x%d=q:=⟨_,rfl⟩
 rw [hxq,hxr] at HWS⊢
 clear hA hD hxq hxr
 go_enter Tryz.func200,Tryz.ntmps200
 go_wp2_with fail
 obtain⟨hB,b2,b3,k4,k5,b6⟩:=zlB w 37 #[.slice A n c] #[.slice D m ce] #[.slice none 0 0] #[.slice none 0 0]
 generalize hW:(((w.alloc (.cells #[.slice A n c] 37)).alloc (.cells #[.slice D m ce] 37)).alloc (.cells #[.slice none 0 0] 37)).alloc (.cells #[.slice none 0 0] 37)=W0 at*
 have g2:W0.cell? ⟨w.heap.size,0,none⟩=some (.slice A n c):=b2.cell 0
 have g3:W0.cell? ⟨w.heap.size+1,0,none⟩=some (.slice D m ce):=b3.cell 0
 clear hW b2 b3
 refine(HU.out _).mono ?_
 rintro e w1 ⟨rfl,hb⟩
 have hB:=zab hB hb
 have g2:=zac hb g2
 have g3:=zac hb g3
 have k4:=zaa hb k4
 have k5:=zaa hb k5
 clear hb b6
 go_wp2_with fail
 have j2:w1.drew.cell? ⟨w.heap.size,0,none⟩=some (.slice A n c):=g2
 have j3:w1.drew.cell? ⟨w.heap.size+1,0,none⟩=some (.slice D m ce):=g3
 have hbr:Below w1.heap.size w1 w1.drew:=(Below.refl _ w1).drew
 go_region_held3 (fun w' => Below w1.heap.size w1 w' ∧ w'.cell? ⟨w.heap.size,0,none⟩ = some (.slice A n c) ∧ w'.cell? ⟨w.heap.size + 1,0,none⟩ = some (.slice D m ce))
  (first|(with_reducible exact⟨hbr,j2,j3⟩)|(go_split_ands;(repeat' apply And.intro);all_goals (first|with_reducible assumption|with_reducible exact zab (by with_reducible assumption) hb|with_reducible exact zac hb (by with_reducible assumption))))
  (first|(go_at_call 147;(with_reducible refine(zbQ 0 _ _ _ _).mono ?_);rintro e w' ⟨rfl,hb⟩))
 rename_i hH
 obtain⟨hb3,g2',g3'⟩:=hH
 have hB:=zab hB hb3
 have k4:=zaa hb3 k4
 have k5:=zaa hb3 k5
 clear hb3 hb j2 j3 hbr g2 g3
 go_wp2_with fail
 refine(HWS.out _ hB).mono ?_
 rintro e w3 ⟨A2,n2,c2,A3,n3,c3,rfl,hw2,hw3,hb⟩
 have hB:=zab hB hb
 have k4:=zaa hb k4
 have k5:=zaa hb k5
 obtain⟨d1,d2,d3,d5⟩:=zbI w3 37 37 #[.slice A2 n2 c2] #[.slice A3 n3 c3]
 have l5:=k5.lt
 obtain⟨m1,m2,m3,m4⟩:w3.heap.size≠w.heap.size+1+1/\w3.heap.size≠w.heap.size+1+1+1/\w3.heap.size+1≠w.heap.size+1+1/\w3.heap.size+1≠w.heap.size+1+1+1:=by omega
 have hB:=zab hB d1
 have k4:=zaa d1 k4
 have k5:=zaa d1 k5
 have hw2:=hw2.below d1
 have hw3:=hw3.below d1
 have c2':((w3.alloc (.cells #[.slice A2 n2 c2] 37)).alloc (.cells #[.slice A3 n3 c3] 37)).cell? ⟨w3.heap.size,0,none⟩=some (.slice A2 n2 c2):=d2.cell 0
 have c3':((w3.alloc (.cells #[.slice A2 n2 c2] 37)).alloc (.cells #[.slice A3 n3 c3] 37)).cell? ⟨w3.heap.size+1,0,none⟩=some (.slice A3 n3 c3):=d3.cell 0
 clear d1 d2 d3 d5 hb g2' g3' l5
 go_wp2_with fail
 generalize (w3.alloc (.cells #[.slice A2 n2 c2] 37)).alloc (.cells #[.slice A3 n3 c3] 37)=W' at*
 generalize w3.heap.size=z at*
 have j2:W'.drew.cell? ⟨z,0,none⟩=some (.slice A2 n2 c2):=c2'
 have j3:W'.drew.cell? ⟨z+1,0,none⟩=some (.slice A3 n3 c3):=c3'
 have f4:=k4.drew.frozen 0
 have f5:=k5.drew.frozen 0
 have e4:=k4.drew.cell 0
 have e5:=k5.drew.cell 0
 have f4':=k4.frozen 0
 have f5':=k5.frozen 0
 have e4':=k4.cell 0
 have e5':=k5.cell 0
 go_region_held3 (fun w' => w'.cell? ⟨z,0,none⟩ = some (.slice A2 n2 c2) ∧ w'.cell? ⟨z + 1,0,none⟩ = some (.slice A3 n3 c3))
  (first|(with_reducible exact⟨j2,j3⟩)|(go_split_ands;(repeat' apply And.intro);all_goals (first|with_reducible assumption|with_reducible exact(cell_drew_own _ _).trans (zag _ (by first|(simp;done)|(simp;omega)) (by with_reducible assumption))|with_reducible exact(cell_drew_own _ _).trans (zag _ (by first|(simp;done)|(simp;omega)) (zag _ (by first|(simp;done)|(simp;omega)) (by with_reducible assumption)))|with_reducible exact zag _ (by first|(simp;done)|(simp;omega)) (by with_reducible assumption)|with_reducible exact zag _ (by first|(simp;done)|(simp;omega)) (zag _ (by first|(simp;done)|(simp;omega)) (by with_reducible assumption)))))
  (fail)
 have p4:zcf W' (w.heap.size+1+1) (.slice none 0 0):=⟨_,k4⟩
 have p5:zcf W' (w.heap.size+1+1+1) (.slice none 0 0):=⟨_,k5⟩
 have p5':=p5.far (p:=⟨w.heap.size+1+1,0,none⟩) (by show w.heap.size+1+1+1≠w.heap.size+1+1;omega) (.slice A2 n2 c2)
 have r4:=((p4.set_ (.slice A2 n2 c2)).far (p:=⟨w.heap.size+1+1+1,0,none⟩) (by show w.heap.size+1+1≠w.heap.size+1+1+1;omega) (.slice A3 n3 c3)).cell
 have r5:=(p5'.set_ (.slice A3 n3 c3)).cell
 have HG : Hid (zcP w xq xr true (.returned (.tuple #[.agg #[.slice A2 n2 c2],.agg #[.slice A3 n3 c3],.bool true])) ((W'.setCell ⟨w.heap.size + 1 + 1,0,none⟩ (.slice A2 n2 c2)).setCell ⟨w.heap.size + 1 + 1 + 1,0,none⟩ (.slice A3 n3 c3)).drew) :=
  ⟨A2,n2,c2,A3,n3,c3,rfl,zao (zao hw2 p4 _) p5' _,zao (zao hw3 p4 _) p5' _,
   ((hB.setCell (p:=⟨w.heap.size+1+1,0,none⟩) (by show w.heap.size<=w.heap.size+1+1;omega) _).setCell (p:=⟨w.heap.size+1+1+1,0,none⟩) (by show w.heap.size<=w.heap.size+1+1+1;omega) _).drew⟩
 clear hw2 hw3 k4 k5 p4 p5 p5' hB c2' c3' j2 j3 f4 f5 e4 e5 f4' f5' e4' e5'
 go_wp2
 refine bodyPost_ret (v:=.tuple #[.agg #[.slice A2 n2 c2],.agg #[.slice A3 n3 c3],.bool true]) (by simp [results,Tryz.results200,go_sem,r4,r5]) rfl ?_
 exact HG.out
theorem zem (x d:Nat)(A D:oA9)(n m c ce:Nat)(w:World)(hA:zad w x A n c)(hD:zad w d D m ce)(hn:n<=274877906944)(hm:m<=274877906944)(hd:d≠0):
  Calls Tryz.prog 200 #[.agg #[.slice A n c],.agg #[.slice D m ce]] w (zcP w (x / d) (x%d) true):=by
 by_cases h1:m<=1
 ·have hd1:=zjJ hD.len h1
  exact zfp x d (x / d) (x%d) true A D n m c ce w hA hD h1 (Nat.lt_trans (Nat.mod_lt _ (Nat.pos_of_ne_zero hd)) hd1) (λw' hb=>zio x d A n c w' (hA.below hb) hn hd1 hd)
 ·by_cases h2:n<m
  ·exact zhu x d A D n m c ce w hA hD (by omega) h2 hm
  ·exact zhT x d A D n m c ce w hA hD (by omega) (by omega) hn
theorem zfP (x d:Nat)(A D:oA9)(n m c ce:Nat)(w:World)(hA:zad w x A n c)(hD:zad w d D m ce)(hd:d=0):
  Calls Tryz.prog 200 #[.agg #[.slice A n c],.agg #[.slice D m ce]] w (zcP w 0 0 false):=by
 subst hd
 obtain rfl:m=0:=by have:=hD.len;rw [zej] at this;exact this.symm
 exact zfp x 0 0 0 false A D n 0 c ce w hA hD (by decide) (by decide) (λw' hb=>zfN x A n c w' (hA.below hb))
theorem zfO (q r:Nat)(b:Bool)(A D:oA9)(n m c ce:Nat)(w:World)(HDM:∀w',Below w.heap.size w w'->Calls Tryz.prog 200 #[.agg #[.slice A n c],.agg #[.slice D m ce]] w' (zcP w' q r b)):
  Calls Tryz.prog 160 #[.agg #[.slice A n c],.agg #[.slice D m ce]] w (zeR w q b):=by
 have HD:=lh9 HDM
 clear HDM
 go_enter Tryz.func160,Tryz.ntmps160
 go_wp2_with fail
 obtain⟨hB,b2,b3,k4,b5⟩:=zbL w 37 37 37 #[.slice A n c] #[.slice D m ce] #[.slice none 0 0]
 generalize hW:((w.alloc (.cells #[.slice A n c] 37)).alloc (.cells #[.slice D m ce] 37)).alloc (.cells #[.slice none 0 0] 37)=W0 at*
 clear hW b2 b3
 refine(HD.out _ hB).mono ?_
 rintro e w3 ⟨A2,n2,c2,A3,n3,c3,rfl,hw2,hw3,hb⟩
 have hB:=zab hB hb
 have k4:=zaa hb k4
 have l4:=k4.lt
 obtain⟨d1,d2,d3,d5⟩:=zbI w3 37 37 #[.slice A2 n2 c2] #[.slice A3 n3 c3]
 have hB:=zab hB d1
 have k4:=zaa d1 k4
 have hw2:=hw2.below d1
 clear d1 d3 d5 hb hw3 b5
 have g6:((w3.alloc (.cells #[.slice A2 n2 c2] 37)).alloc (.cells #[.slice A3 n3 c3] 37)).cell? ⟨w3.heap.size,0,none⟩=some (.slice A2 n2 c2):=d2.cell 0
 have f4:=k4.frozen 0
 have e4:=k4.cell 0
 have p4:zcf _ (w.heap.size+1+1) (.slice none 0 0):=⟨_,k4⟩
 have r4:=(p4.set_ (.slice A2 n2 c2)).cell
 have HG : Hid (zeR w q b (.returned (.tuple #[.agg #[.slice A2 n2 c2],.bool b])) (((w3.alloc (.cells #[.slice A2 n2 c2] 37)).alloc (.cells #[.slice A3 n3 c3] 37)).setCell ⟨w.heap.size + 1 + 1,0,none⟩ (.slice A2 n2 c2))) :=
  ⟨A2,n2,c2,rfl,zao hw2 p4 _,hB.setCell (p:=⟨w.heap.size+1+1,0,none⟩) (by show w.heap.size<=w.heap.size+1+1;omega) _⟩
 clear hw2 k4 p4 hB d2
 go_wp2
 refine bodyPost_ret (v:=.tuple #[.agg #[.slice A2 n2 c2],.bool b]) (by simp [results,Tryz.results160,go_sem,r4]) rfl ?_
 exact HG.out
theorem znk (q r:Nat)(b:Bool)(A D:oA9)(n m c ce:Nat)(w:World)(HDM:∀w',Below w.heap.size w w'->Calls Tryz.prog 200 #[.agg #[.slice A n c],.agg #[.slice D m ce]] w' (zcP w' q r b)):
  Calls Tryz.prog 211 #[.agg #[.slice A n c],.agg #[.slice D m ce]] w (zeR w r b):=by
 have HD:=lh9 HDM
 clear HDM
 go_enter Tryz.func211,Tryz.ntmps211
 go_wp2_with fail
 obtain⟨hB,b2,b3,k4,b5⟩:=zbL w 37 37 37 #[.slice A n c] #[.slice D m ce] #[.slice none 0 0]
 generalize hW:((w.alloc (.cells #[.slice A n c] 37)).alloc (.cells #[.slice D m ce] 37)).alloc (.cells #[.slice none 0 0] 37)=W0 at*
 clear hW b2 b3
 refine(HD.out _ hB).mono ?_
 rintro e w3 ⟨A2,n2,c2,A3,n3,c3,rfl,hw2,hw3,hb⟩
 have hB:=zab hB hb
 have k4:=zaa hb k4
 have l4:=k4.lt
 obtain⟨d1,d2,d3,d5⟩:=zbI w3 37 37 #[.slice A2 n2 c2] #[.slice A3 n3 c3]
 have hB:=zab hB d1
 have k4:=zaa d1 k4
 have hw3:=hw3.below d1
 clear d1 d2 d5 hb hw2 b5
 have g6:((w3.alloc (.cells #[.slice A2 n2 c2] 37)).alloc (.cells #[.slice A3 n3 c3] 37)).cell? ⟨w3.heap.size+1,0,none⟩=some (.slice A3 n3 c3):=d3.cell 0
 have f4:=k4.frozen 0
 have e4:=k4.cell 0
 have p4:zcf _ (w.heap.size+1+1) (.slice none 0 0):=⟨_,k4⟩
 have r4:=(p4.set_ (.slice A3 n3 c3)).cell
 have HG : Hid (zeR w r b (.returned (.tuple #[.agg #[.slice A3 n3 c3],.bool b])) (((w3.alloc (.cells #[.slice A2 n2 c2] 37)).alloc (.cells #[.slice A3 n3 c3] 37)).setCell ⟨w.heap.size + 1 + 1,0,none⟩ (.slice A3 n3 c3))) :=
  ⟨A3,n3,c3,rfl,zao hw3 p4 _,hB.setCell (p:=⟨w.heap.size+1+1,0,none⟩) (by show w.heap.size<=w.heap.size+1+1;omega) _⟩
 clear hw3 k4 p4 hB d3
 go_wp2
 refine bodyPost_ret (v:=.tuple #[.agg #[.slice A3 n3 c3],.bool b]) (by simp [results,Tryz.results211,go_sem,r4]) rfl ?_
 exact HG.out
theorem quotC:QuotC where
 divMod x y A D n m c d w hA hD hn hm hy:=zem x y A D n m c d w hA hD (by omega) (by omega) hy
 divModNo x y A D n m c d w hA hD hn hm hy:=zfP x y A D n m c d w hA hD hy
 div x y A D n m c d w hA hD hn hm hy:=zfO (x / y) (x%y) true A D n m c d w (λw' hb=>zem x y A D n m c d w' (hA.below hb) (hD.below hb) (by omega) (by omega) hy)
 mod x y A D n m c d w hA hD hn hm hy:=znk (x / y) (x%y) true A D n m c d w (λw' hb=>zem x y A D n m c d w' (hA.below hb) (hD.below hb) (by omega) (by omega) hy)
 byWord x a A n c w hA hn ha ha0:=zio x a A n c w hA (by omega) ha ha0
 byWordNo x A n c w hA hn:=zfN x A n c w hA
