/- What this claim leans on. -/
import Derived.Test.YtghpdeciaaagnaaGreatDoorIBunO
import Derived.Test.YtghpdeciaaagnaaGreatDoorIBunM
import Derived.IntWalk
import Derived.LoopIn
import Derived.LoopNIn
import Derived.OrdersHeld
import Derived.OrdersIn
import Derived.OwnWalkIn
import Derived.RangeFuncBound
import Derived.RangeFuncCalls
import Derived.RangeFuncLeaves
import Derived.RangeFuncNested
import Derived.Shelf.Abstract
import Derived.Shelf.RegionOpen
import Derived.TacticsInMore
namespace Go.Proofs.YtghpdeciaaagnaaGreatDoor
open Go Go.RowKit
set_option maxHeartbeats 16000000
set_option maxRecDepth 100000
set_option linter.unusedVariables false
theorem zjG (p q r s:Nat)(hp:p<18446744073709551616)(hq:q<18446744073709551616)(hr:r<18446744073709551616)(hs:s<18446744073709551616)(w:World):
  Calls Tryz.prog 165 #[.int .u64 p,.int .u64 q,.int .u64 r,.int .u64 s] w λe w'=>e=.returned (.tuple #[.int .u64 (((p*q+r+s) / 18446744073709551616:Nat):Int),.int .u64 (((p*q+r+s)%18446744073709551616:Nat):Int)])/\w=w':=by
 have h:=znJ p q r s ⟨by omega,by omega⟩ ⟨by omega,by omega⟩ ⟨by omega,by omega⟩ ⟨by omega,by omega⟩ w
 rw [(ma_nat p q r s).1,(ma_nat p q r s).2] at h
 exact h
theorem zhq (x y:Nat)(A D:oA9)(n m c d:Nat)(w:World)(hA:zad w x A n c)(hD:zad w y D m d)(hn:n<=274877906944)(hm:m<=274877906944):
  Calls Tryz.prog 108 #[.agg #[.slice A n c],.agg #[.slice D m d]] w (zaO w (x*y)):=by
 obtain⟨i0,hi0,hz0,hz1,hz2⟩:=info_parts zgx
 have hln:=lh9 hA.len
 have hlm:=lh9 hD.len
 have HA:=lh9 (λw' (hb:Below w.heap.size w w')=>hA.below hb)
 have HW:=(λw' (hb:Below w.heap.size w w')=>zdo y D m d w' (hD.below hb) (by omega))
 unfold znP at HW
 rw [hlm.out] at HW
 have HWS:=lh9 HW
 obtain⟨N,hN⟩:∃N,n+m=N:=⟨_,rfl⟩
 have HN:=lh9 hN
 have hN1:N<=549755813888:=by omega
 obtain⟨Z,hZ⟩:∃Z,madeCells (Value.cells (.int .u64 0)) N=Z:=⟨_,rfl⟩
 have hmk:∀W:World,(Instr.makeSlice 35 (.int .i64 ((n:Int)+(m:Int))) (.int .i64 ((n:Int)+(m:Int)))).run Tryz.prog W=.ok (.slice (some ⟨W.heap.size,0,none⟩) N N) (W.alloc (.cells Z 160)):=λW=>by
  have h:=zaW _ _ i0 _ Tryz.underlying35 hi0 hz0 .i64 .i64 N N (Nat.le_refl _) (by rw [hz2];omega) (by omega) W
  rw [hz1,Nat.mul_one,hZ] at h
  rw [show(n:Int)+(m:Int)=(N:Int) from by omega]
  exact h
 have HZ:=lh9 hZ
 clear hZ hA hD hN HW
 go_enter Tryz.func108,Tryz.ntmps108
 go_wp2_with fail
 generalize hW:((w.alloc (.cells #[.slice A n c] 37)).alloc (.cells #[.slice D m d] 37)).alloc (.cells #[.slice none 0 0] 37)=W0
 obtain⟨b1,b2,b3,b4,b5⟩:=zbL w 37 37 37 #[.slice A n c] #[.slice D m d] #[.slice none 0 0]
 rw [hW] at b1 b2 b3 b4 b5
 have g1:W0.cell? ⟨w.heap.size,0,none⟩=some (.slice A n c):=b2.cell 0
 clear hW b2 b3
 refine(HWS.out _ b1).mono ?_
 rintro e w1 ⟨A1,c1,rfl,hr1,_,⟨_,hfr⟩,hb⟩
 have hB:=zab b1 hb
 have g1:=zac hb g1
 have hk:=zaa hb b4
 have hs3:w.heap.size+3<=w1.heap.size:=Nat.le_trans b5 hb.size
 clear hb b1 b4 b5 hfr
 go_wp2_with fail
 refine(zbQ x _ _ _ _).mono ?_
 rintro e w2 ⟨rfl,hb⟩
 have hB:=zab hB hb
 have g1:=zac hb g1
 have hk:=zaa hb hk
 have hr1:=(hr1.below hb).more hb.size
 have hs3:w.heap.size+3<=w2.heap.size:=Nat.le_trans hs3 hb.size
 have g1a:=λo=>zal o g1
 clear hb
 go_wp2_with fail
 have hR:zaq (w2.alloc (.cells Z 160)) 160 w2.heap.size N N (List.replicate N 0):=by
  have h:=zaq.made w2 160 N (by unfold maxLen;omega)
  rw [HZ.out] at h
  exact h
 obtain⟨gs,hgs⟩:∃g,w2.heap.size=g:=⟨_,rfl⟩
 have hB:=zaj (.cells Z 160) hB
 have g1:=zal (.cells Z 160) g1
 have hk:=hk.alloc (.cells Z 160)
 have hr1:=(hr1.alloc (Nat.le_refl _) (.cells Z 160)).more (B':=gs) (by omega)
 rw [hgs] at hR hs3
 generalize w2.alloc (.cells Z 160)=W3 at*
 rw [hgs]
 clear hgs hmk g1a
 refine(zbQ x _ _ _ _).mono ?_
 rintro e w4 ⟨rfl,hb⟩
 have hB:=zab hB hb
 have g1:=zac hb g1
 have hk:=zaa hb hk
 have hr1:=hr1.below (hb.mono (Nat.le_of_lt hR.lt))
 have hR:=hR.keep hb
 have hI:=lh9 (ziX.start x y m N)
 clear hb
 go_wp2_with fail
 go_loopg [22] (n+1) (λg ix wr=>∃(k:Nat) (L:List Nat),k<=n/\n<g+k/\ix=.int .i64 k/\ziX x y k m N L/\zaq wr 160 gs N N L/\Below w.heap.size w wr/\wr.cell? ⟨w.heap.size,0,none⟩=some (.slice A n c)/\Blk wr (w.heap.size+1+1) 37 #[.slice none 0 0]/\zas wr gs 1 A1 m (zaA .u64 (dg 18446744073709551616 y)))
 case atStart=>exact⟨0,_,Nat.zero_le _,by omega,rfl,hI.out,hR,hB,g1,hk,hr1⟩
 case round=>
  clear hB g1 hk hr1 hR hI
  obtain⟨k,L0,hkn,hg,rfl,hM,hR,hB,g1,hk,hr1⟩:=hrel
  obtain⟨wo,hwo⟩:∃wo,wo=wr:=⟨_,rfl⟩
  subst hwo
  by_cases hlt:k<n
  ·have WX:=lh9 (λw' (h:Below w.heap.size w w')=>zdE x A n c k w' (HA.out w' h))
   have ha:=zcp x k
   have hRB:=lh9 (RowB.start y (wd x k) k hM.len hM.dgs)
   have hMS:=lh9 (λL c (h:RowB L0 y (wd x k) k m N L c)=>ziX.step hM h (by have:=hlm.out;omega) (by have:=HN.out;omega))
   obtain⟨a,haa⟩:∃a,wd x k=a:=⟨_,rfl⟩
   rw [haa] at WX ha hRB hMS
   clear haa hM
   go_wp2_with fail
   refine(WX.out _ hB).mono ?_
   rintro e w5 ⟨rfl,hb⟩
   have hB:=zab hB hb
   have g1:=zac hb g1
   have hk:=zaa hb hk
   have hr1:=hr1.below (hb.mono (Nat.le_of_lt hR.lt))
   have hR:=hR.keep hb
   clear hb
   go_wp2_with fail
   go_loopg [9,30] (m+1) (λg cy jx wr=>∃(j cc:Nat) (L:List Nat),j<=m/\m<g+j/\jx=.int .i64 j/\cy=.int .u64 cc/\RowB L0 y a k j N L cc/\zaq wr 160 gs N N L/\Below w.heap.size w wr/\wr.cell? ⟨w.heap.size,0,none⟩=some (.slice A n c)/\Blk wr (w.heap.size+1+1) 37 #[.slice none 0 0]/\zas wr gs 1 A1 m (zaA .u64 (dg 18446744073709551616 y)))
   case atStart=>exact⟨0,0,L0,Nat.zero_le _,by omega,rfl,rfl,hRB.out,hR,hB,g1,hk,hr1⟩
   case round=>
    clear hB g1 hk hr1 hR hRB
    obtain⟨j,cc,L,hjm,hg2,rfl,rfl,hI,hR,hB,g1,hk,hr1⟩:=hrel
    by_cases hjl:j<m
    ·have hNN:=HN.out
     obtain⟨ad,rfl,hadb,h1⟩:=zdv hr1 (k:=j) hjl
     rw [zeu] at h1
     have hp:=hI.dgs.getD (by decide) (k+j)
     have h2:=hR.cell (k+j) (by omega)
     have h3:=hR.frozen (k+j)
     have hb2:=zcp y j
     have hc2:=hI.carry
     have hST:=hI.step (s:=wd y j*a+L.getD (k+j) 0+cc) ha (by omega) rfl
     obtain⟨b,hbb⟩:∃b,wd y j=b:=⟨_,rfl⟩
     obtain⟨p,hpp⟩:∃b,L.getD (k+j) 0=b:=⟨_,rfl⟩
     rw [hbb] at h1 hb2 hST
     rw [hpp] at h2 hp hST
     have HMA:=lh9 (λw'=>zjG b a p cc hb2 ha hp hc2 w')
     obtain⟨s1,e1⟩:∃s1,(b*a+p+cc)%18446744073709551616=s1:=⟨_,rfl⟩
     obtain⟨s2,e2⟩:∃s2,(b*a+p+cc) / 18446744073709551616=s2:=⟨_,rfl⟩
     rw [e1,e2] at HMA hST
     have HST:=lh9 hST
     have HRS:=lh9 (hR.set_ (k+j) s1 (by omega))
     obtain⟨q,hq⟩:∃q,k+j=q:=⟨_,rfl⟩
     rw [hq] at h2 h3 HST HRS
     have i1:(0:Int)<=(k:Int)+(j:Int):=by omega
     have i2:(k:Int)+(j:Int)<(N:Int):=by omega
     have i3:((k:Int)+(j:Int)).toNat=q:=by omega
     have hBS:=λu=>zae (p:=⟨gs,q,none⟩) u (by show w.heap.size<=gs;omega) hB
     have gS:=λu=>zag (p:=⟨w.heap.size,0,none⟩) (q:=⟨gs,q,none⟩) u (by show w.heap.size≠gs;omega) g1
     have kS:=λu=>hk.far (p:=⟨gs,q,none⟩) (by show w.heap.size+1+1≠gs;omega) u
     clear hST hbb hpp e1 e2 hI hq hNN
     go_wp2_with fail
     refine(HMA.out _).mono ?_
     rintro e w' ⟨rfl,rfl⟩
     go_wp2
     go_roundg (m - j)
     case measure=>omega
     case rel=>exact⟨j+1,s2,_,by omega,by omega,by go_num,rfl,HST.out,HRS.out,hBS _,gS _,kS _,hr1.setCell (Nat.le_refl _) _⟩
    ·have hjm2:j=m:=by omega
     subst hjm2
     have hNN:=HN.out
     have h3:=hR.frozen (k+j)
     have HMN:=lh9 (hMS.out L cc hI)
     have HRS:=lh9 (hR.set_ (k+j) cc (by omega))
     obtain⟨u,hu⟩:∃u,wr.cell? ⟨gs,k+j,none⟩=some u:=⟨_,hR.cell (k+j) (by omega)⟩
     obtain⟨q,hq⟩:∃q,k+j=q:=⟨_,rfl⟩
     rw [hq] at h3 HMN HRS hu
     have i1:(0:Int)<=(k:Int)+(j:Int):=by omega
     have i2:(k:Int)+(j:Int)<(N:Int):=by omega
     have i3:((k:Int)+(j:Int)).toNat=q:=by omega
     have hBS:=λu=>zae (p:=⟨gs,q,none⟩) u (by show w.heap.size<=gs;omega) hB
     have gS:=λu=>zag (p:=⟨w.heap.size,0,none⟩) (q:=⟨gs,q,none⟩) u (by show w.heap.size≠gs;omega) g1
     have kS:=λu=>hk.far (p:=⟨gs,q,none⟩) (by show w.heap.size+1+1≠gs;omega) u
     clear hI hq hNN hMS
     go_wp2
     go_roundg (n - k)
     case measure=>omega
     case rel=>exact⟨k+1,_,by omega,by omega,by go_num,HMN.out,HRS.out,hBS _,gS _,kS _,hr1.setCell (Nat.le_refl _) _⟩
  ·have hkn2:k=n:=by omega
   subst hkn2
   have hNN:=HN.out
   have e:=ziX.done (L:=L0) (by rw [hNN];exact hM) (by have:=hln.out;omega)
   have O:=zcT (some ⟨gs,0,none⟩) N N L0 wo hR.reads hM.dgs (Nat.le_refl _) (by omega) (by omega)
   rw [e] at O
   have HO:=lh9 O
   clear O e hNN hM
   go_wp2_with fail
   refine HO.out.mono ?_
   rintro e w' ⟨A2,n2,c2,rfl,hw,hb,hf⟩
   have hk2:=zaa hb hk
   have hc1:w'.cell? ⟨w.heap.size+1+1,0,none⟩=some (.slice none 0 0):=hk2.cell 0
   have hf1:=hk2.frozen 0
   have hsz:=hR.lt
   have HG : Hid (zaO w (x * y) (.returned (.agg #[.slice A2 n2 c2])) (w'.setCell ⟨w.heap.size + 1 + 1,0,none⟩ (.slice A2 n2 c2))) :=
    zhh hw (zab hB hb) (by show _<=_;simp;omega) (λad e=>by have:=hf ad e;show ad.block≠_;simp;omega) (λad e=>by have:=hf ad e;omega) _
   clear hb hw hf hk2 hsz hk hB g1 hr1 hR
   go_wp2
   refine bodyPost_ret (v:=.agg #[.slice A2 n2 c2]) (by simp [results,Tryz.results108,go_sem,hc1]) rfl ?_
   exact HG.out
def zpV (I:Nat->World->Prop)(k:Nat)(W:World):Exit->Act->World->Prop:=λe _ W'=>e=.normal/\KeepsOthers W W'/\I k W'
def ziS (P:Program)(gf:Nat)(lb:Array Value)(enc:Nat->Array Value)(N:Nat)(I:Nat->World->Prop):Prop:=
 ∀ (l : Nat) (J : Nat → World → Prop) (W : World),(∀ k W,J k W → I k W) →
  (∀k W,k<N->J (k+1) W->YieldAt Fence.wide 1 P l (enc k) W λe W'=>e=.returned (.bool true)/\J k W')->
  J N W->CallsIn Fence.wide 2 P gf (#[.func (.yield l) #[] #[]]++lb) W λe W'=>(∃v,e=.returned v)/\J 0 W'
theorem zeL {w W:World}{I:Nat->World->Prop}{k b:Nat}{o:Obj}(hI:∀k,OwnFrom w.heap.size (fun(_:Unit) W=>I k W))(h:I k W)(hb:w.heap.size<=b)(ho:W.heap[b]?=some o)(hc:o.isCells=false)(o':Obj):I k (W.putObj b o'):=
 (hI k).putObj (s:=()) o' h hb ho hc
theorem zjO {P:Program}{g:Operand}{ps:Array Tmp}{assign body:Code}{Q:Exit->Act->World->Prop}{a:Act}{w:World}{gf:Nat}{lb:Array Value}(hg:a.eval g=.func (.func gf) #[] lb)
  (eg:∀args w,(callFunc gf args).run P w=.ok (.enter gf args) w) (N:Nat) (enc:Nat->Array Value) (hps:∀k,(enc k).size=ps.size) (I:Nat->World->Prop) (hI:∀k,OwnFrom w.heap.size (fun(_:Unit) W=>I k W)) (h0:I N w)
  (hiter:ziS P gf lb enc N I) (a1:Nat->Act)
  (hassign:∀(l k:Nat) (W:World) (K:Act->World->Prop),K (a1 k) W->assign.wpIn (Fence.wide.inRound l) 1 P (Exit.then K (λ_ _ _=>False)) {tmps:=(ps.zip (enc k)).foldl (λt (p,v)=>t.setIfInBounds p v) a.tmps,defers:=[]} W)
  (hbody:∀(l k:Nat) (W:World),k<N->I (k+1) W->body.wpIn (Fence.wide.inRound l) 1 P (zpV I k W) (a1 k) W)
  (hdone:∀(D:Nat) (W:World),w.heap.size<=D->I 0 W->W.heap[D]?=some (.deferred (some []))->Q .normal {a with defers:={target:=.collected D,args:=#[]}::a.defers} W):
  (Code.rangeFunc g ps assign body).wpIn Fence.wide 3 P Q a w:=by
 refine wpIn_rangeFunc λfn hfn=>?_
 obtain⟨r,hr⟩:∃r:Loop,r={state:=.ready,pending:=none,fn,tmps:=a.tmps,params:=ps,assign,body,defers:=w.heap.size}:=⟨_,rfl⟩
 obtain⟨V,hV⟩:∃V,(w.alloc (.deferred (some []))).alloc (.loop r)=V:=⟨_,rfl⟩
 have gV:w.grownBy V none:=by rw [<-hV];exact(World.grownBy_alloc w _ none).trans (World.grownBy_alloc _ _ none)
 have rV:V.heap[w.heap.size+1]?=some (.loop r):=by
  have h:=World.alloc_heap_new (w.alloc (.deferred (some []))) (.loop r)
  rw [World.size_alloc,hV] at h
  exact h
 have dV:V.heap[w.heap.size]?=some (.deferred (some [])):=by
  have h:=World.alloc_heap_new w (.deferred (some []))
  rw [<-hV,Below.heap_alloc _ _ _ (by simp)]
  exact h
 have iV:I N V:=hI N () w V none h0 gV (λ_ e=>by cases e)
 refine⟨w.heap.size+1,[{target:=.collected w.heap.size,args:=#[]}],V,{target:=.fn (.func gf) lb,args:=#[.func (.yield (w.heap.size+1)) #[] #[]]},V,gf,#[.func (.yield (w.heap.size+1)) #[] #[]]++lb,V,?_,?_,λ_ _=>trivial,?_,λ_=>by omega,?_⟩
 ·rw [<-hV,hr];exact run_enterLoop_outer _ _ _ _ _
 ·simp only [resolve,hg]
  simp [go_sem]
 ·simp [invoke,go_sem,eg]
 refine(hiter (w.heap.size+1) (λk W=>I k W/\W.heap[w.heap.size+1]?=some (.loop r)/\W.heap[w.heap.size]?=some (.deferred (some []))) V (λ_ _ h=>h.1) ?_ ⟨iV,rV,dV⟩).mono ?_
 ·rintro k W hk ⟨iW,rW,dW⟩
  have hy:=run_yield (P:=P) (args:=enc k) rW (by rw [hr];exact hps k)
  have lt:=(Array.getElem?_eq_some_iff.1 rW).1
  obtain⟨rb,hrb⟩:∃rb:Loop,rb={r with state:=.busy}:=⟨_,rfl⟩
  have rX:(W.putObj (w.heap.size+1) (.loop rb)).heap[w.heap.size+1]?=some (.loop rb):=World.putObj_heap_same lt
  have dX:(W.putObj (w.heap.size+1) (.loop rb)).heap[w.heap.size]?=some (.deferred (some [])):=(World.putObj_heap_other (by omega)).trans dW
  have iX:I (k+1) (W.putObj (w.heap.size+1) (.loop rb)):=zeL hI iW (by omega) rW rfl _
  rw [hr] at hy
  refine⟨fn,_,assign,body,hy,roundIn_of_wpIn hfn (hassign _ k W _ ⟨_,by have h:=run_beginRound (P:=P) rW (by rw [hr]);rw [<-hrb] at h;exact h,?_⟩)⟩
  refine wpIn_mono (hbody _ k _ hk iX) ?_
  rintro e a3 W3 ⟨rfl,hk3,i3⟩
  have r3:=hk3.same _ _ rX rfl
  have d3:=hk3.same _ _ dX rfl
  have lt3:=(Array.getElem?_eq_some_iff.1 r3).1
  have he:=run_endRound (P:=P) none r3
  refine⟨_,_,he,rfl,zeL hI i3 (by omega) r3 rfl _,?_,(World.putObj_heap_other (by omega)).trans d3⟩
  rw [World.putObj_heap_same lt3,hrb,hr]
  rfl
 ·rintro e W2 ⟨⟨v,rfl⟩,i2,r2,d2⟩
  have he:=run_endLoop (P:=P) r2 (by rw [hr];simp)
  rw [show r.pending=none from by rw [hr]] at he
  exact⟨none,_,he,hdone _ _ (Nat.le_refl _) (zeL hI i2 (by omega) r2 rfl _) ((World.putObj_heap_other (by omega)).trans d2)⟩
attribute [local go_sem] Oper.semAt_some
theorem zfo (Bs len cap:Nat)(A:oA9)(v:Nat->Nat)(I:Nat->World->Prop)(hlen:len<=1099511627776)
  (hIb:∀k W,I k W->W.cell? ⟨Bs,0,none⟩=some (.slice A len cap)) (hIc:∀k W,k<len->I (k+1) W->∃ad,A=some ad/\W.cell? (ad.add k)=some (.int .u64 (v k:Int))):
  ziS Tryz.prog 233 #[.pointer (some ⟨Bs,0,none⟩)] (λk=>#[.int .i64 (k:Int),.int .u64 (v k:Int)]) len I:=by
 intro l J W hJ hY h0
 have hb0:=hIb _ _ (hJ _ _ h0)
 have HB:=lh9 (λk W (h:J k W)=>hIb k W (hJ k W h))
 have HC:=lh9 (λk W (hk:k<len) (h:J (k+1) W)=>hIc k W hk (hJ _ _ h))
 have HY:=lh9 hY
 have H0:=lh9 h0
 have hw1:IntKind.i64.wrap ((len:Int) - 1)=(len:Int) - 1:=by rw [IntKind.wrap_i64];omega
 clear hJ hY h0 hIb hIc
 refine callsIn_of_wp Tryz.func233 rfl trivial ?_ rfl
 simp only [Tryz.ntmps233,List.size_toArray,List.length_cons,List.length_nil,Nat.reduceAdd,Nat.reduceSub,Array.replicate_succ,Array.replicate_zero,List.push_toArray,List.append_toArray,List.nil_append,List.cons_append]
 gi_wp2
 clear hb0 hw1
 gi_loopw [3] (λi wr=>∃k:Nat,k<=len/\i=.int .i64 ((k:Int) - 1)/\J k wr) (λi _=>(intOf i+1).toNat)
 case atStart=>exact⟨len,Nat.le_refl _,rfl,H0.out⟩
 case round=>
  obtain⟨k,hk,rfl,hJs⟩:=hrel
  have hb:=HB.out _ _ hJs
  rcases k with _|k
  ·rw [show((0:Nat):Int) - 1= -1 from by decide]
   clear hb
   gi_wp2
   go_end0
   exact⟨⟨_,rfl⟩,hJs⟩
  ·obtain⟨ad,rfl,hc⟩:=HC.out k wr hk hJs
   obtain⟨fn,tmps,assign,body,hy,hR⟩:=HY.out k wr hk hJs
   rw [show((k+1:Nat):Int) - 1=(k:Int) from by omega]
   have i1:(0:Int)<=(k:Int):=by omega
   have i2:(k:Int)<(len:Int):=by omega
   have i3:IntKind.i64.wrap ((k:Int) - 1)=(k:Int) - 1:=by rw [IntKind.wrap_i64];omega
   obtain⟨z,hz⟩:∃z,v k=z:=⟨_,rfl⟩
   try dsimp only at hy
   rw [hz] at hc hy
   clear hz hJs
   gi_wp2
   refine hR.mono ?_
   rintro e W3 ⟨rfl,hJ3⟩
   gi_wp2
   go_roundw
   case rel=>exact⟨k,by omega,rfl,hJ3⟩
   case measure=>simp [intOf]
theorem zes (A:oA9)(len cap:Nat)(w:World):
  Calls Tryz.prog 225 #[.slice A len cap] w λe w'=>e=.returned (.func (.func 233) #[] #[.pointer (some ⟨w.heap.size,0,none⟩)])/\w.alloc (.cells #[.slice A len cap] 35)=w':=by
 go_enter Tryz.func225,Tryz.ntmps225
 go_wp2
 go_ret
 exact⟨rfl,rfl⟩
section
variable {P:Program}{md:Region.Mode}{ops:Array Oper}{Q:Exit->Act->World->Prop}{l n:Nat}
theorem znp {f:FuncId}{args:Array Value}{w:World}{R R':Ending->World->Prop}(h:Calls P f args w R)(hr:∀e w,R e w->R' e w):CallsIn (Fence.wide.inRound l) n P f args w R':=
 CallsIn.inRound l (callsIn_wide.2 (h.mono hr))
theorem zoY {row:String}{args:Array Value}{w:World}{R R':Value->World->Prop}(h:Rows P row args w R)(hr:∀e w,R e w->R' e w):RowsIn (Fence.wide.inRound l) n P row args w R':=
 λc cs _=>let ⟨v,w',r,s⟩:=h c cs;⟨v,w',hr _ _ r,stepsIn_wide.2 s⟩
theorem round_op {o:Oper}{a:Act}{w:World}{K K':Act->World->Prop}(hd:∀c,o.op≠.defer c)(hK:∀a w,K a w->K' a w)(h:o.wp P a w K Q):o.wpIn (Fence.wide.inRound l) n P a w K' Q:=by
 refine⟨λ_ _=>trivial,?_⟩
 rw [Oper.semAt_eq _ _ _ hd]
 unfold Oper.wp at h
 generalize (execOp a.eval o).run P w=r at h⊢
 cases r with
 |ok x w'=>
   cases x <;> simp only [Oper.upon,Oper.uponIn] at h ⊢ <;>
    first
     |exact hK _ _ h
     |exact⟨λe=>by simp [Fence.wide] at e,znp h (λe w'' he=>by cases e<;>first|exact hK _ _ he|exact he)⟩
     |exact⟨λe=>by simp [Fence.wide] at e,zoY h (λ_ _ he=>hK _ _ he)⟩
     |exact h.elim
 |halt x w'=>cases x<;>simp only [Oper.upon,Oper.uponIn] at h⊢<;>exact h
theorem zgi (hd:∀(i:Nat) (o:Oper),ops[i]?=some o->∀c,o.op≠.defer c)(hQ:¬ LetsOut Q):∀(fuel:Nat) (listed:Array Bool) (a:Act) (w:World),wpAny P md ops Q fuel listed a w->wpAnyIn (Fence.wide.inRound l) n P md ops Q fuel listed a w
 |0,_,_,_,h=>h
 |fuel+1,listed,a,w,h=>by
   refine⟨h.1,λi hi=>?_⟩
   have h2:=h.2 i hi
   unfold wpOp at h2
   unfold wpOpIn
   cases ho:ops[i]? with
   |none=>rw [ho] at h2;exact zgi hd hQ fuel _ _ _ h2
   |some o=>
     rw [ho] at h2
     simp only at h2⊢
     split
     ·rename_i hw
      rw [if_pos hw] at h2
      rcases h2 with h2|h2
      ·exact round_op (hd i o ho) (zgi hd hQ fuel _) h2
      ·exact absurd h2.2 hQ
     ·rename_i hw
      rw [if_neg hw] at h2
      exact⟨λ_ _=>trivial,zgi hd hQ fuel _ _ _ h2⟩
def zpD (ops:Array Oper):Bool:=ops.all λo=>match o.op with|.defer _=>false|_=>true
theorem zlP (h:zpD ops=true)(i:Nat)(o:Oper)(ho:ops[i]?=some o)(c:Call):o.op≠.defer c:=by
 intro e
 have h1:=Array.all_eq_true.1 h i (Array.getElem?_eq_some_iff.1 ho).1
 rw [(Array.getElem?_eq_some_iff.1 ho).2,e] at h1
 cases h1
theorem zhx {id:Nat}{a:Act}{w:World}{S:World->Prop}(hm:P.follows .mixedOrders=true)(hd:zpD ops=true)(hQ:∀a w,¬ Q .outgrown a w)(hS:S w.drew)
  (h:S w.drew->wpAnyH P .any ops Q S ops.size (Array.replicate ops.size false) a w.drew):(Code.region id ops true).wpIn (Fence.wide.inRound l) n P Q a w:=
 wpIn_region_any hm (zgi (zlP hd) (fun⟨a,w,h⟩=>hQ a w h) _ _ _ _ (wpAny_of_held _ _ _ _ (h hS)))
end
theorem zbC {B b:Nat}{t:TypeId}{cs:Array Value}{W W':World}{row:Option Nat}(h:Blk W b t cs)(hg:W.grownBy W' row)(hr:∀r,row=some r->B<=r/\∃o:Obj,W.heap[r]?=some o/\o.isCells=false):Blk W' b t cs:=
 h.grown hg (λe=>by
  obtain⟨_,o,ho,hc⟩:=hr b e.symm
  rw [show W.heap[b]?=_ from h] at ho
  cases ho
  cases hc)
theorem zeW {B B0:Nat}{w W W':World}{row:Option Nat}(h:Below B0 w W)(h0:B0<=w.heap.size)(hB:B0<=B)(hg:W.grownBy W' row)(hr:∀r,row=some r->B<=r/\∃o:Obj,W.heap[r]?=some o/\o.isCells=false):Below B0 w W':=
 h.grown hg (Nat.le_trans h0 h.size) (λr e=>Nat.le_trans hB (hr r e).1)
