/- What this claim leans on. -/
import Derived.Test.YtghpdeciaaagnaaGreatDoorIBunY
namespace Go.Proofs.YtghpdeciaaagnaaGreatDoor
open Go Go.RowKit
set_option maxHeartbeats 16000000
set_option maxRecDepth 100000
set_option linter.unusedVariables false
attribute [local go_sem] Oper.semAt_some
def RoundMay (I:Nat->World->Prop)(X:World->Prop)(k:Nat)(W:World):Exit->Act->World->Prop:=λe _ W'=>KeepsOthers W W'/\(e=.normal/\I k W'\/e=.ret/\X W')
def zky (P:Program)(gf:Nat)(lb:Array Value)(enc:Nat->Array Value)(N:Nat)(I:Nat->World->Prop):Prop:=
 ∀ (l : Nat) (J : Nat → World → Prop) (Jx : World → Prop) (W : World),(∀ k W,J k W → I k W) →
  (∀k W,k<N->J (k+1) W->YieldAt Fence.wide 1 P l (enc k) W λe W'=>e=.returned (.bool true)/\J k W'\/e=.returned (.bool false)/\Jx W')->
  J N W->CallsIn Fence.wide 2 P gf (#[.func (.yield l) #[] #[]]++lb) W λe W'=>(∃v,e=.returned v)/\(J 0 W'\/Jx W')
theorem zln {w W:World}{X:World->Prop}{b:Nat}{o:Obj}(hX:OwnFrom w.heap.size (fun(_:Unit) W=>X W))(h:X W)(hb:w.heap.size<=b)(ho:W.heap[b]?=some o)(hc:o.isCells=false)(o':Obj):X (W.putObj b o'):=
 hX.putObj (s:=()) o' h hb ho hc
theorem zqI {P:Program}{g:Operand}{ps:Array Tmp}{assign body:Code}{Q:Exit->Act->World->Prop}{a:Act}{w:World}{gf:Nat}{lb:Array Value}(hg:a.eval g=.func (.func gf) #[] lb)
  (eg:∀args w,(callFunc gf args).run P w=.ok (.enter gf args) w) (N:Nat) (enc:Nat->Array Value) (hps:∀k,(enc k).size=ps.size) (I:Nat->World->Prop) (X:World->Prop) (hI:∀k,OwnFrom w.heap.size (fun(_:Unit) W=>I k W)) (hX:OwnFrom w.heap.size (fun(_:Unit) W=>X W)) (h0:I N w)
  (hiter:zky P gf lb enc N I) (a1:Nat->Act)
  (hassign:∀(l k:Nat) (W:World) (K:Act->World->Prop),K (a1 k) W->assign.wpIn (Fence.wide.inRound l) 1 P (Exit.then K (λ_ _ _=>False)) {tmps:=(ps.zip (enc k)).foldl (λt (p,v)=>t.setIfInBounds p v) a.tmps,defers:=[]} W)
  (hbody:∀(l k:Nat) (W:World),k<N->I (k+1) W->body.wpIn (Fence.wide.inRound l) 1 P (RoundMay I X k W) (a1 k) W)
  (hdone:∀(D:Nat) (W:World),w.heap.size<=D->I 0 W->W.heap[D]?=some (.deferred (some []))->Q .normal {a with defers:={target:=.collected D,args:=#[]}::a.defers} W)
  (hstop:∀(D:Nat) (W:World),w.heap.size<=D->X W->W.heap[D]?=some (.deferred (some []))->Code.ret.wpIn Fence.wide 3 P Q {a with defers:={target:=.collected D,args:=#[]}::a.defers} W):
  (Code.rangeFunc g ps assign body).wpIn Fence.wide 3 P Q a w:=by
 refine wpIn_rangeFunc λfn hfn=>?_
 obtain⟨r,hr⟩:∃r:Loop,r={state:=.ready,pending:=none,fn,tmps:=a.tmps,params:=ps,assign,body,defers:=w.heap.size}:=⟨_,rfl⟩
 obtain⟨V,hV⟩:∃V,(w.alloc (.deferred (some []))).alloc (.loop r)=V:=⟨_,rfl⟩
 have gV:w.grownBy V none:=by rw [<-hV];exact(World.grownBy_alloc w _ none).trans (World.grownBy_alloc _ _ none)
 have rV:V.heap[w.heap.size+1]?=some (.loop r):=by
  have h:=World.alloc_heap_new (w.alloc (.deferred (some []))) (.loop r)
  rw [World.size_alloc,hV] at h
  exact h
 have dV:V.heap[w.heap.size]?=some (.deferred (some [])):=by
  have h:=World.alloc_heap_new w (.deferred (some []))
  rw [<-hV,Below.heap_alloc _ _ _ (by simp)]
  exact h
 have iV:I N V:=hI N () w V none h0 gV (λ_ e=>by cases e)
 refine⟨w.heap.size+1,[{target:=.collected w.heap.size,args:=#[]}],V,{target:=.fn (.func gf) lb,args:=#[.func (.yield (w.heap.size+1)) #[] #[]]},V,gf,#[.func (.yield (w.heap.size+1)) #[] #[]]++lb,V,?_,?_,λ_ _=>trivial,?_,λ_=>by omega,?_⟩
 ·rw [<-hV,hr];exact run_enterLoop_outer _ _ _ _ _
 ·simp only [resolve,hg]
  simp [go_sem]
 ·simp [invoke,go_sem,eg]
 obtain⟨rx,hrx⟩:∃rx:Loop,rx={r with state:=.done,pending:=some .ret}:=⟨_,rfl⟩
 refine (hiter (w.heap.size + 1) (fun k W => I k W ∧ W.heap[w.heap.size + 1]? = some (.loop r) ∧ W.heap[w.heap.size]? = some (.deferred (some [])))
  (λW=>X W/\W.heap[w.heap.size+1]?=some (.loop rx)/\W.heap[w.heap.size]?=some (.deferred (some []))) V (λ_ _ h=>h.1) ?_ ⟨iV,rV,dV⟩).mono ?_
 ·rintro k W hk ⟨iW,rW,dW⟩
  have hy:=run_yield (P:=P) (args:=enc k) rW (by rw [hr];exact hps k)
  have lt:=(Array.getElem?_eq_some_iff.1 rW).1
  obtain⟨rb,hrb⟩:∃rb:Loop,rb={r with state:=.busy}:=⟨_,rfl⟩
  have rY:(W.putObj (w.heap.size+1) (.loop rb)).heap[w.heap.size+1]?=some (.loop rb):=World.putObj_heap_same lt
  have dX:(W.putObj (w.heap.size+1) (.loop rb)).heap[w.heap.size]?=some (.deferred (some [])):=(World.putObj_heap_other (by omega)).trans dW
  have iX:I (k+1) (W.putObj (w.heap.size+1) (.loop rb)):=zeL hI iW (by omega) rW rfl _
  rw [hr] at hy
  refine⟨fn,_,assign,body,hy,roundIn_of_wpIn hfn (hassign _ k W _ ⟨_,by have h:=run_beginRound (P:=P) rW (by rw [hr]);rw [<-hrb] at h;exact h,?_⟩)⟩
  refine wpIn_mono (hbody _ k _ hk iX) ?_
  rintro e a3 W3 ⟨hk3,h3⟩
  have r3:=hk3.same _ _ rY rfl
  have d3:=hk3.same _ _ dX rfl
  have lt3:=(Array.getElem?_eq_some_iff.1 r3).1
  rcases h3 with⟨rfl,i3⟩|⟨rfl,x3⟩
  ·have he:=run_endRound (P:=P) none r3
   refine⟨_,_,he,.inl ⟨rfl,zeL hI i3 (by omega) r3 rfl _,?_,(World.putObj_heap_other (by omega)).trans d3⟩⟩
   rw [World.putObj_heap_same lt3,hrb,hr]
   rfl
  ·have he:=run_endRound (P:=P) (some .ret) r3
   refine⟨_,_,he,.inr ⟨rfl,zln hX x3 (by omega) r3 rfl _,?_,(World.putObj_heap_other (by omega)).trans d3⟩⟩
   rw [World.putObj_heap_same lt3,hrx,hrb,hr]
   rfl
 ·rintro e W2 ⟨⟨v,rfl⟩,⟨i2,r2,d2⟩|⟨x2,r2,d2⟩⟩
  ·have he:=run_endLoop (P:=P) r2 (by rw [hr];simp)
   rw [show r.pending=none from by rw [hr]] at he
   exact⟨none,_,he,hdone _ _ (Nat.le_refl _) (zeL hI i2 (by omega) r2 rfl _) ((World.putObj_heap_other (by omega)).trans d2)⟩
  ·have he:=run_endLoop (P:=P) r2 (by rw [hrx];simp)
   rw [show rx.pending=some .ret from by rw [hrx]] at he
   exact⟨some .ret,_,he,hstop _ _ (Nat.le_refl _) (zln hX x2 (by omega) r2 rfl _) ((World.putObj_heap_other (by omega)).trans d2)⟩
theorem zlz (Bs len cap:Nat)(A:oA9)(v:Nat->Nat)(I:Nat->World->Prop)(hlen:len<=1099511627776)
  (hIb:∀k W,I k W->W.cell? ⟨Bs,0,none⟩=some (.slice A len cap)) (hIc:∀k W,k<len->I (k+1) W->∃ad,A=some ad/\W.cell? (ad.add k)=some (.int .u64 (v k:Int))):
  zky Tryz.prog 233 #[.pointer (some ⟨Bs,0,none⟩)] (λk=>#[.int .i64 (k:Int),.int .u64 (v k:Int)]) len I:=by
 intro l J Jx W hJ hY h0
 have hb0:=hIb _ _ (hJ _ _ h0)
 have HB:=lh9 (λk W (h:J k W)=>hIb k W (hJ k W h))
 have HC:=lh9 (λk W (hk:k<len) (h:J (k+1) W)=>hIc k W hk (hJ _ _ h))
 have HY:=lh9 hY
 have H0:=lh9 h0
 have hw1:IntKind.i64.wrap ((len:Int) - 1)=(len:Int) - 1:=by rw [IntKind.wrap_i64];omega
 clear hJ hY h0 hIb hIc
 refine callsIn_of_wp Tryz.func233 rfl trivial ?_ rfl
 simp only [Tryz.ntmps233,List.size_toArray,List.length_cons,List.length_nil,Nat.reduceAdd,Nat.reduceSub,Array.replicate_succ,Array.replicate_zero,List.push_toArray,List.append_toArray,List.nil_append,List.cons_append]
 gi_wp2
 clear hb0 hw1
 gi_loopw [3] (λi wr=>∃k:Nat,k<=len/\i=.int .i64 ((k:Int) - 1)/\J k wr) (λi _=>(intOf i+1).toNat)
 case atStart=>exact⟨len,Nat.le_refl _,rfl,H0.out⟩
 case round=>
  obtain⟨k,hk,rfl,hJs⟩:=hrel
  have hb:=HB.out _ _ hJs
  rcases k with _|k
  ·rw [show((0:Nat):Int) - 1= -1 from by decide]
   clear hb
   gi_wp2
   go_end0
   exact⟨⟨_,rfl⟩,.inl hJs⟩
  ·obtain⟨ad,rfl,hc⟩:=HC.out k wr hk hJs
   obtain⟨fn,tmps,assign,body,hy,hR⟩:=HY.out k wr hk hJs
   rw [show((k+1:Nat):Int) - 1=(k:Int) from by omega]
   have i1:(0:Int)<=(k:Int):=by omega
   have i2:(k:Int)<(len:Int):=by omega
   have i3:IntKind.i64.wrap ((k:Int) - 1)=(k:Int) - 1:=by rw [IntKind.wrap_i64];omega
   obtain⟨z,hz⟩:∃z,v k=z:=⟨_,rfl⟩
   try dsimp only at hy
   rw [hz] at hc hy
   clear hz hJs
   gi_wp2
   refine hR.mono ?_
   rintro e W3 (⟨rfl,hJ3⟩|⟨rfl,hJ3⟩)
   ·gi_wp2
    go_roundw
    case rel=>exact⟨k,by omega,rfl,hJ3⟩
    case measure=>simp [intOf]
   ·gi_wp2
    refine bodyPost_ret (results_none rfl _ _ _) rfl ?_
    exact⟨⟨_,rfl⟩,.inr hJ3⟩
set_option linter.unusedSimpArgs false
attribute [local go_sem] Oper.semAt_some
def zbX (L1 L2:List Nat)(n k:Nat):Prop:=∀i,k<=i->i<n->L1.getD i 0=L2.getD i 0
theorem zbX.start (L1 L2:List Nat)(n:Nat):zbX L1 L2 n n:=λi h h'=>absurd h' (by omega)
theorem zbX.step {L1 L2:List Nat}{n k:Nat}(h:zbX L1 L2 n (k+1))(e:L1.getD k 0=L2.getD k 0):zbX L1 L2 n k:=λi hi hn=>by
 rcases Nat.lt_or_ge k i with h1|h1
 ·exact h i (by omega) hn
 ·have:i=k:=by omega
  rw [this];exact e
theorem zbX.high {L1 L2:List Nat}{n k:Nat}(h:zbX L1 L2 n k)(h1:L1.length=n)(h2:L2.length=n):L1.drop k=L2.drop k:=by
 refine List.ext_getElem (by simp;omega) (λi a b=>?_)
 simp at a b
 have:=h (k+i) (by omega) (by omega)
 rw [List.getD_eq_getElem?_getD,List.getD_eq_getElem?_getD,List.getElem?_eq_getElem (by omega),List.getElem?_eq_getElem (by omega)] at this
 simpa using this
theorem zbX.all {L1 L2:List Nat}{n:Nat}(h:zbX L1 L2 n 0)(h1:L1.length=n)(h2:L2.length=n):L1=L2:=by
 have:=h.high h1 h2
 simpa using this
theorem zbX.less {L1 L2:List Nat}{n k:Nat}(h:zbX L1 L2 n (k+1))(h1:L1.length=n)(h2:L2.length=n)(d1:Dgs 18446744073709551616 L1)(d2:Dgs 18446744073709551616 L2)(hlt:L1.getD k 0<L2.getD k 0):dv 18446744073709551616 L1<dv 18446744073709551616 L2:=by
 have e:=h.high h1 h2
 have e1:=congrArg (dv 18446744073709551616) e
 rw [zge (by decide) d1,zge (by decide) d2] at e1
 rw [zfc (by decide) d1,zfc (by decide) d2] at hlt
 exact zob e1 hlt
theorem zbX.symm {L1 L2:List Nat}{n k:Nat}(h:zbX L1 L2 n k):zbX L2 L1 n k:=λi a b=>(h i a b).symm
structure BelI (ty ty2:TypeId)(g1 g2 c1 c2 n q0 q1 q2:Nat)(L1 L2:List Nat)(w:World)(k:Nat)(W:World):Prop where
 same:zbX L1 L2 n k
 ybox:Blk W q0 35 #[.slice (some ⟨g2,0,none⟩) n c2]
 res:Blk W q1 4 #[.bool false]
 seq:Blk W q2 35 #[.slice (some ⟨g1,0,none⟩) n c1]
 r1:zaq W ty g1 c1 n L1
 r2:zaq W ty2 g2 c2 n L2
 below:Below w.heap.size w W
theorem BelI.own {ty ty2:TypeId}{g1 g2 c1 c2 n q0 q1 q2 B:Nat}{L1 L2:List Nat}{w:World}(hB:w.heap.size<=B)(k:Nat):OwnFrom B (fun(_:Unit) W=>BelI ty ty2 g1 g2 c1 c2 n q0 q1 q2 L1 L2 w k W):=by
 intro _ W W' row h hg hr
 exact⟨h.same,zbC h.ybox hg hr,zbC h.res hg hr,zbC h.seq hg hr,zdr h.r1 hg hr,zdr h.r2 hg hr,zeW h.below (Nat.le_refl _) hB hg hr⟩
structure BelX (q1:Nat)(b:Bool)(w:World)(W:World):Prop where
 res:Blk W q1 4 #[.bool b]
 below:Below w.heap.size w W
theorem BelX.own {q1 B:Nat}{b:Bool}{w:World}(hB:w.heap.size<=B):OwnFrom B (fun(_:Unit) W=>BelX q1 b w W):=by
 intro _ W W' row h hg hr
 exact⟨zbC h.res hg hr,zeW h.below (Nat.le_refl _) hB hg hr⟩
theorem zqs (ty ty2:TypeId)(g1 g2 c1 c2 n:Nat)(L1 L2:List Nat)(w:World)(h1:zaq w ty g1 c1 n L1)(h2:zaq w ty2 g2 c2 n L2)(hd1:Dgs 18446744073709551616 L1)(hd2:Dgs 18446744073709551616 L2)(hn:n<=1099511627776):
  Calls Tryz.prog 221 #[.slice (some ⟨g1,0,none⟩) n c1,.slice (some ⟨g2,0,none⟩) n c2] w λe w'=>e=.returned (.bool (decide (dv 18446744073709551616 L1<dv 18446744073709551616 L2)))/\Below w.heap.size w w':=by
 have HL1:=lh9 h1.len
 have HL2:=lh9 h2.len
 have HD1:=lh9 hd1
 have HD2:=lh9 hd2
 have HR1:=lh9 h1
 have HR2:=lh9 h2
 obtain⟨v,hv⟩:∃v,decide (dv 18446744073709551616 L1<dv 18446744073709551616 L2)=v:=⟨_,rfl⟩
 rw [hv]
 have HV:=lh9 hv
 clear h1 h2 hd1 hd2 hv
 refine(callsIn_wide (n:=3)).1 ?_
 refine callsIn_of_wp_marks Tryz.func221 rfl trivial ?_ rfl
 simp only [Tryz.ntmps221,List.size_toArray,List.length_cons,List.length_nil,Nat.reduceAdd,Nat.reduceSub,Array.replicate_succ,Array.replicate_zero,List.push_toArray,List.append_toArray,List.nil_append,List.cons_append]
 refine wpIn_wide.2 ?_
 go_wp2_with fail
 obtain⟨d1,d2,d3,d4,d5⟩:=zbL w 35 4 35 #[.slice (some ⟨g2,0,none⟩) n c2] #[.bool false] #[.slice (some ⟨g1,0,none⟩) n c1]
 refine(zes (some ⟨g1,0,none⟩) n c1 _).mono ?_
 rintro e w2 ⟨rfl,hw2⟩
 rw [hw2] at d1 d2 d3 d4 d5
 obtain⟨z,hz⟩:∃z,w.heap.size=z:=⟨_,rfl⟩
 have H0:=lh9 (show BelI ty ty2 g1 g2 c1 c2 n z (z+1) (z+1+1) L1 L2 w n w2 from⟨zbX.start _ _ _,by rw [<-hz];exact d2,by rw [<-hz];exact d3,by rw [<-hz];exact d4,HR1.out.keep d1,HR2.out.keep d1,d1⟩)
 have hB2:=d1.size
 clear d1 d2 d3 d4 d5 hw2
 go_wp2_with fail
 refine(wpIn_wide (n:=3)).1 ?_
 refine zqI (gf:=233) (lb:=#[.pointer (some ⟨z + 1 + 1,0,none⟩)]) rfl (enters_of Tryz.func233 (by kernel_rfl) rfl) n (fun k => #[.int .i64 (k : Int),.int .u64 (L1.getD k 0 : Int)]) (fun _ => rfl)
  (λk W=>BelI ty ty2 g1 g2 c1 c2 n z (z+1) (z+1+1) L1 L2 w k W) (λW=>BelX (z+1) v w W) (λk=>BelI.own hB2 k) (BelX.own hB2) H0.out
  (zlz (z+1+1) n c1 (some ⟨g1,0,none⟩) (λk=>L1.getD k 0) _ hn (λk W h=>h.seq.cell 0) ?cells)
  (λk=>{tmps:=#[.slice (some ⟨g1,0,none⟩) n c1,.slice (some ⟨g2,0,none⟩) n c2,undef,.pointer (some ⟨z,0,none⟩),.pointer (some ⟨z+1,0,none⟩),.int .i64 (k:Int),.int .u64 (L1.getD k 0:Int),.slice (some ⟨g1,0,none⟩) n c1,.func (.func 233) #[] #[.pointer (some ⟨z+1+1,0,none⟩)],.int .i64 (k:Int),.int .u64 (L1.getD k 0:Int),undef,undef,undef,undef,undef,undef,undef,undef,undef,undef,undef,undef],defers:=[]}) ?assign ?body ?done ?stop
 case cells=>
  intro k W hk h
  exact⟨_,rfl,by rw [znQ,h.r1.cell k hk]⟩
 case assign=>
  intro l k W K hK
  gi_wp2
  exact hK
 case body=>
  intro l k W hk h
  have hsa:=h.same
  have hy:=h.ybox
  have hre:=h.res
  have hsq:=h.seq
  have hr1:=h.r1
  have hr2:=h.r2
  have hbl:=h.below
  clear h
  have cy:=hy.cell 0
  have cr:=hre.cell 0
  have fr:=hre.frozen 0
  have cg:=hr2.cell k hk
  have i1:(0:Int)<=(k:Int):=by omega
  have i2:(k:Int)<(n:Int):=by omega
  by_cases hxy:L1.getD k 0=L2.getD k 0
  ·have HS:=lh9 (hsa.step hxy)
   rw [hxy]
   obtain⟨a,ha⟩:∃a,L2.getD k 0=a:=⟨_,rfl⟩
   rw [ha] at cg⊢
   clear hsa hxy ha
   gi_wp2
   exact⟨KeepsOthers.refl _,.inl ⟨rfl,HS.out,hy,hre,hsq,hr1,hr2,hbl⟩⟩
  ·have HB:Hid (decide (L1.getD k 0<L2.getD k 0)=v):=by
    show _=_
    rw [<-HV.out,decide_eq_decide]
    rcases Nat.lt_or_ge (L1.getD k 0) (L2.getD k 0) with hlt|hge
    ·exact⟨λ_=>hsa.less HL1.out HL2.out HD1.out HD2.out hlt,λ_=>hlt⟩
    ·have h:=hsa.symm.less HL2.out HL1.out HD2.out HD1.out (by omega)
     exact⟨λh'=>absurd h' (by omega),λh'=>absurd h' (by omega)⟩
   obtain⟨a,ha⟩:∃a,L1.getD k 0=a:=⟨_,rfl⟩
   obtain⟨b,hb⟩:∃a,L2.getD k 0=a:=⟨_,rfl⟩
   rw [ha] at HB hxy⊢
   rw [hb] at HB hxy cg
   have HDD:=HB
   have hq1:((a:Int)==(b:Int))=false:=by rw [beq_eq_false_iff_ne];omega
   have hq2:((a:Int) !=(b:Int))=true:=by rw [bne_iff_ne];omega
   clear hsa ha hb HB hxy
   gi_wp2
   exact⟨KeepsOthers.setCell _ _ _,.inr ⟨rfl,(by first|exact zfy hre _|(rw [<-HDD.out];exact zfy hre _)),hbl.setCell (p:=⟨z+1,0,none⟩) (by show w.heap.size<=z+1;omega) _⟩⟩
 case done=>
  intro D W hD h hK
  have hbl:=h.below
  have hre:=h.res
  have hvf:Hid (v=false):=by
   show _=_
   rw [<-HV.out,h.same.all HL1.out HL2.out]
   simp
  have cr:=hre.cell 0
  have fr:=hre.frozen 0
  have hre2:=hre.set_ 0 (.bool false)
  have hK':=(KeepsOthers.setCell W ⟨z+1,0,none⟩ (.bool false)).same D _ hK rfl
  have hc5:=cell_kept (hre2.cell 0) (grownBy_putObj' _ D (.deferred none)) (λr e=>by cases e;exact⟨_,hK',rfl⟩)
  have HG : Hid (Below w.heap.size w ((W.setCell ⟨z + 1,0,none⟩ (.bool false)).putObj D (.deferred none))) :=
   (hbl.setCell (p:=⟨z+1,0,none⟩) (by show w.heap.size<=z+1;omega) _).trans (belowK_b (w:=w) (Nat.le_refl _) _ D _ _ (by omega) hK' rfl rfl)
  clear h hre hbl hre2 hK
  go_wp2
  refine⟨by simp,.inl ⟨_,_,rfl,run_takeDeferred hK',?_⟩⟩
  exact⟨.bool false,by simp [results,Tryz.f221,go_sem,hc5],by rw [hvf.out],HG.out⟩
 case stop=>
  intro D W hD h hK
  have hbl:=h.below
  have cr:=h.res.cell 0
  have hc5:=cell_kept cr (grownBy_putObj' _ D (.deferred none)) (λr e=>by cases e;exact⟨_,hK,rfl⟩)
  have HG : Hid (Below w.heap.size w (W.putObj D (.deferred none))) :=
   hbl.trans (belowK_b (w:=w) (Nat.le_refl _) _ D _ _ (by omega) hK rfl rfl)
  clear h hbl
  gi_wp2
  refine⟨by simp,.inl ⟨_,_,rfl,run_takeDeferred hK,?_⟩⟩
  exact⟨.bool v,by simp [results,Tryz.f221,go_sem,hc5],rfl,HG.out⟩
