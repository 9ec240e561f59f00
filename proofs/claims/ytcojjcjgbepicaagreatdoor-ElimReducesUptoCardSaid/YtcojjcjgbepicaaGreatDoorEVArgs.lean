/- What this claim leans on. -/
import Derived.Test.YtcojjcjgbepicaaGreatDoorES8Sum
namespace Go.Proofs.YtcojjcjgbepicaaGreatDoor
open Go Go.RowKit
open Go.ChangeShapes Go.WideShapes Go.ChangeAt Go.Deep
set_option maxHeartbeats 16000000
set_option linter.unusedVariables false
def zcy (z:Int):Prop:=-9223372036854775808<=z/\z<=9223372036854775807
theorem zmR {H:Type}{enc:TypeId×Value->H}{P:Program}{W:World}{fuel:Nat}{t:TypeId}{f0 f1:Field}{c0 c1:Value}{x:DataW H×List MemPlace}
  (hs:P.underlying t=some (.struct #[f0,f1])) (hf:(f0.offset,P.cellsOf f0.type,f1.offset,P.cellsOf f1.type)=(0,1,1,1)) (h0:P.underlying f0.type=some (.int .i64)) (h1:P.underlying f1.type=some (.int .i64))
  (h:DataW.trod enc P W 0 (λ_=>true) true fuel t [c0,c1]=some x):∃p q:Int,c0=.int .i64 p/\c1=.int .i64 q/\zcy p/\zcy q:=by
 simp only [Prod.mk.injEq] at hf
 obtain⟨y0,y1,n,rfl,_,k0,k1⟩:=trod_struct2 hs h
 rw [hf.1,hf.2.1] at k0
 rw [hf.2.2.1,hf.2.2.2] at k1
 simp only [List.drop_zero,List.take_succ_cons,List.take_zero,List.drop_succ_cons] at k0 k1
 obtain⟨p,hp,_,wp⟩:=DataW.trod_int h0 k0
 obtain⟨q,hq,_,wq⟩:=DataW.trod_int h1 k1
 simp only [List.cons.injEq,and_true] at hp hq
 have bp:=bounds_i64 wp
 have bq:=bounds_i64 wq
 exact⟨p,q,hp,hq,⟨by omega,by omega⟩,⟨by omega,by omega⟩⟩
structure zbd (W:World)(A:oA9)(n c:Nat)(L:List (Int×Int)):Prop where
 len:L.length=n
 fits:n<=c
 small:c<=1048576
 ints:∀q ∈ L,zcy q.1/\zcy q.2
 row:∀r q,L[r]?=some q->∃ad,A=some ad/\ad.block<W.heap.size/\W.cell? (ad.add (r*2))=some (.int .i64 q.1)/\W.cell? (ad.add (r*2+1))=some (.int .i64 q.2)
theorem zbd.below {W W':World}{A:oA9}{n c:Nat}{L:List (Int×Int)}(h:zbd W A n c L)(hb:Below W.heap.size W W'):zbd W' A n c L:=
 ⟨h.len,h.fits,h.small,h.ints,λr q hr=>by
  obtain⟨ad,e,h1,h2,h3⟩:=h.row r q hr
  exact⟨ad,e,Nat.lt_of_lt_of_le h1 hb.size,(hb.cell (by rw [zao];exact h1)).trans h2,(hb.cell (by rw [zao];exact h1)).trans h3⟩⟩
theorem zoy {H:Type}{enc:TypeId×Value->H}{P:Program}{W:World}{fuel:Nat}{t0 t:TypeId}{f0 f1:Field}{A:oA9}{n c:Nat}{x:DataW H×List MemPlace}
  (ht:P.underlying t0=some (.slice t)) (hs:P.underlying t=some (.struct #[f0,f1])) (hf:(f0.offset,P.cellsOf f0.type,f1.offset,P.cellsOf f1.type)=(0,1,1,1)) (hC:P.cellsOf t=2) (h0:P.underlying f0.type=some (.int .i64)) (h1:P.underlying f1.type=some (.int .i64))
  (h:DataW.trod enc P W 0 (λ_=>true) true fuel t0 (Value.slice A n c).cells.toList=some x) (hb:Rows.uptoBulk x.1<=1048576):∃L,zbd W A n c L:=by
 rcases open_slice ht h with⟨hcs,_⟩|⟨a,len,cap,m,k,D,Pl,hcs,_,hl,hm,hmm,hx,hi⟩
 ·simp [Value.cells] at hcs
  obtain⟨rfl,rfl,rfl⟩:=hcs
  exact⟨[],rfl,Nat.le_refl _,by omega,λq hq=>(by cases hq),λr q hr=>by simp at hr⟩
 ·simp [Value.cells] at hcs
  obtain⟨rfl,rfl,rfl⟩:=hcs
  rw [if_pos rfl] at hmm
  rw [hmm] at hx hi
  subst hx
  have hss:=UA.slice_le (H:=H) ((List.range n).map D) ((List.range (c - n)).map λj=>D (n+j))
  have hb':Rows.uptoBulk (DataW.slice (H:=H) ((List.range n).map D) ((List.range (c - n)).map λj=>D (n+j)))<=1048576:=hb
  have hcc:c<=1048576:=by
   simp only [List.length_map,List.length_range] at hss
   omega
  have each:∀r,r<n->∃q:Int×Int,W.cell? (a.add (r*2))=some (.int .i64 q.1)/\W.cell? (a.add (r*2+1))=some (.int .i64 q.2)/\zcy q.1/\zcy q.2:=λr hr=>by
   obtain⟨cs,hcl,htr⟩:=hi r (by omega)
   rw [hC] at hcl
   obtain⟨_,hlen,hat⟩:=World.cells?_some hcl
   obtain⟨c0,c1,rfl⟩:∃c0 c1,cs=[c0,c1]:=by
    match cs,hlen with
    |[c0,c1],_=>exact⟨c0,c1,rfl⟩
   obtain⟨p,q,rfl,rfl,hp,hq⟩:=zmR (x:=(D r,Pl r)) hs hf h0 h1 htr
   have h0:=hat 0 (by decide)
   have h1:=hat 1 (by decide)
   rw [Go.Deep.add_add] at h0 h1
   exact⟨(p,q),h0,h1,hp,hq⟩
  obtain ⟨f,hf2⟩ : ∃ f : Nat → Int × Int,∀ r,r < n → W.cell? (a.add (r * 2)) = some (.int .i64 (f r).1) ∧ W.cell? (a.add (r * 2 + 1)) = some (.int .i64 (f r).2) ∧ zcy (f r).1 ∧ zcy (f r).2 :=
   ⟨λr=>if hr:r<n then(each r hr).choose else(0,0),λr hr=>by simp only [dif_pos hr];exact(each r hr).choose_spec⟩
  refine⟨(List.range n).map f,by simp,hl,hcc,λq hq=>?_,λr q hr=>?_⟩
  ·obtain⟨r,hr,rfl⟩:=List.mem_map.1 hq
   exact(hf2 r (List.mem_range.1 hr)).2.2
  ·have hlt:r<n:=by
    have:=(List.getElem?_eq_some_iff.1 hr).1
    simpa using this
   obtain rfl:f r=q:=by
    rw [List.getElem?_map,List.getElem?_range hlt] at hr
    simpa using hr
   obtain⟨c0,c1,_⟩:=hf2 r hlt
   refine⟨a,rfl,?_,c0,c1⟩
   have:=World.block_lt_of_cell? W _ c0
   rw [zao] at this
   exact this
theorem zif {H:Type}{enc:TypeId×Value->H}{P:Program}{W:World}{fuel:Nat}{t0 t:TypeId}{f0 f1:Field}{v:Value}{x:DataW H×List MemPlace}
  (ht:P.underlying t0=some (.slice t)) (hs:P.underlying t=some (.struct #[f0,f1])) (hf:(f0.offset,P.cellsOf f0.type,f1.offset,P.cellsOf f1.type)=(0,1,1,1)) (hC:P.cellsOf t=2) (h0:P.underlying f0.type=some (.int .i64)) (h1:P.underlying f1.type=some (.int .i64))
  (h:DataW.trod enc P W 0 (λ_=>true) true fuel t0 [v]=some x) (hb:Rows.uptoBulk x.1<=1048576):∃A n c L,v=.slice A n c/\zbd W A n c L:=by
 have go:∀A n c,[v]=[Value.slice A n c]->∃A n c L,v=.slice A n c/\zbd W A n c L:=λA n c e=>by
  simp only [List.cons.injEq,and_true] at e
  subst e
  obtain⟨L,hL⟩:=zoy ht hs hf hC h0 h1 (A:=A) (n:=n) (c:=c) (by simpa [Value.cells] using h) hb
  exact⟨A,n,c,L,rfl,hL⟩
 rcases open_slice ht h with⟨hcs,_⟩|⟨a,len,cap,m,k,D,Pl,hcs,_⟩
 ·exact go _ _ _ hcs
 ·exact go _ _ _ hcs
structure zbb (W:World)(A:oA9)(n c:Nat)(R:Nat->oA9×Nat×Nat×List (Int×Int)):Prop where
 fits:n<=c
 small:c<=1048576
 row:∀r,r<n->∃ad,A=some ad/\ad.block<W.heap.size/\W.cell? (ad.add r)=some (.slice (R r).1 (R r).2.1 (R r).2.2.1)/\zbd W (R r).1 (R r).2.1 (R r).2.2.1 (R r).2.2.2
theorem zji {H:Type}{enc:TypeId×Value->H}{P:Program}{W:World}{fuel:Nat}{t9 t0 t:TypeId}{f0 f1:Field}{A:oA9}{n c:Nat}{x:DataW H×List MemPlace}
  (ht9:P.underlying t9=some (.slice t0)) (hC9:P.cellsOf t0=1) (ht:P.underlying t0=some (.slice t)) (hs:P.underlying t=some (.struct #[f0,f1])) (hf:(f0.offset,P.cellsOf f0.type,f1.offset,P.cellsOf f1.type)=(0,1,1,1)) (hC:P.cellsOf t=2) (h0:P.underlying f0.type=some (.int .i64)) (h1:P.underlying f1.type=some (.int .i64))
  (h:DataW.trod enc P W 0 (λ_=>true) true fuel t9 (Value.slice A n c).cells.toList=some x) (hb:Rows.uptoBulk x.1<=1048576):∃R,zbb W A n c R:=by
 rcases open_slice ht9 h with⟨hcs,_⟩|⟨a,len,cap,m,k,D,Pl,hcs,_,hl,hm,hmm,hx,hi⟩
 ·simp [Value.cells] at hcs
  obtain⟨rfl,rfl,rfl⟩:=hcs
  exact⟨λ_=>(none,0,0,[]),Nat.le_refl _,by omega,λr hr=>by omega⟩
 ·simp [Value.cells] at hcs
  obtain⟨rfl,rfl,rfl⟩:=hcs
  rw [if_pos rfl] at hmm
  rw [hmm] at hx hi
  subst hx
  have hss:=UA.slice_le (H:=H) ((List.range n).map D) ((List.range (c - n)).map λj=>D (n+j))
  have hb':Rows.uptoBulk (DataW.slice (H:=H) ((List.range n).map D) ((List.range (c - n)).map λj=>D (n+j)))<=1048576:=hb
  have hcc:c<=1048576:=by
   simp only [List.length_map,List.length_range] at hss
   omega
  have each:∀r,r<n->∃q:oA9×Nat×Nat×List (Int×Int),W.cell? (a.add r)=some (.slice q.1 q.2.1 q.2.2.1)/\zbd W q.1 q.2.1 q.2.2.1 q.2.2.2:=λr hr=>by
   obtain⟨cs,hcl,htr⟩:=hi r (by omega)
   rw [hC9] at hcl
   obtain⟨_,hlen,hat⟩:=World.cells?_some hcl
   obtain⟨c0,rfl⟩:∃c0,cs=[c0]:=by
    match cs,hlen with
    |[c0],_=>exact⟨c0,rfl⟩
   have hD:Rows.uptoBulk (D r)<=1048576:=by
    have hm1:D r ∈(List.range n).map D:=List.mem_map.2 ⟨r,List.mem_range.2 hr,rfl⟩
    have hm2:=UA.mem_le hm1
    simp only [Rows.uptoBulk] at hb'
    omega
   obtain⟨A',n',c',L,rfl,hL⟩:=zif (x:=(D r,Pl r)) ht hs hf hC h0 h1 htr hD
   have h0:=hat 0 (by decide)
   rw [Go.Deep.add_add,Nat.mul_one,Nat.add_zero] at h0
   exact⟨(A',n',c',L),h0,hL⟩
  refine⟨λr=>if hr:r<n then(each r hr).choose else(none,0,0,[]),hl,hcc,λr hr=>⟨a,rfl,?_,?_⟩⟩
  ·have:=World.block_lt_of_cell? W _ (each r hr).choose_spec.1
   rw [zao] at this
   exact this
  ·simp only [dif_pos hr]
   exact(each r hr).choose_spec
theorem zbd.take {W:World}{A:oA9}{n c N:Nat}{L:List (Int×Int)}(h:zbd W A n c L)(hN:N<=n):zbd W A N c (L.take N):=by
 have hl:=h.len
 have hf:=h.fits
 refine⟨by rw [List.length_take];omega,by omega,h.small,λq hq=>h.ints q (List.mem_of_mem_take hq),λr q hr=>?_⟩
 rw [List.getElem?_take] at hr
 split at hr
 ·exact h.row r q hr
 ·cases hr
open Go Go.RowKit
set_option maxHeartbeats 16000000
set_option maxRecDepth 100000
set_option linter.unusedVariables false
set_option linter.unusedSimpArgs false
theorem zjF (z:Int)(w:World):Calls Tryz.prog 192 #[.int .i64 z] w (λe w'=>e=.returned (.bool false)/\w=w'):=by
 have h1:(z !=z)=false:=by simp
 go_enter Tryz.func192,Tryz.ntmps192
 go_wp2
 go_ret
 exact⟨rfl,rfl⟩
theorem zln (n m:Nat)(w:World):Calls Tryz.prog 165 #[.int .i64 (n:Int),.int .i64 (m:Int)] w (λe w'=>e=.returned (.int .i64 (cmpN n m))/\w=w'):=by
 have H1:=lh9 (zjF (n:Int) w)
 have H2:=lh9 (zjF (m:Int) w)
 unfold cmpN
 by_cases h1:n<m
 ·have hd:decide ((n:Int)<(m:Int))=true:=decide_eq_true (by omega)
  have hd':decide (n<m)=true:=decide_eq_true (by omega)
  rw [if_pos h1]
  go_enter Tryz.func165,Tryz.ntmps165
  go_wp2_with fail
  refine H1.out.mono ?_
  rintro e w1 ⟨rfl,rfl⟩
  go_wp2_with fail
  refine H2.out.mono ?_
  rintro e w1 ⟨rfl,rfl⟩
  go_wp2
  go_ret
  exact⟨rfl,rfl⟩
 ·have hd:decide ((n:Int)<(m:Int))=false:=decide_eq_false (by omega)
  have hd':decide (n<m)=false:=decide_eq_false (by omega)
  rw [if_neg h1]
  by_cases h2:n=m
  ·rw [if_pos h2]
   have hd2:decide ((m:Int)<(n:Int))=false:=decide_eq_false (by omega)
   have hd3:decide ((n:Int)>(m:Int))=false:=decide_eq_false (by omega)
   have hd4:decide (m<n)=false:=decide_eq_false (by omega)
   clear h1 h2
   go_enter Tryz.func165,Tryz.ntmps165
   go_wp2_with fail
   refine H1.out.mono ?_
   rintro e w1 ⟨rfl,rfl⟩
   go_wp2_with fail
   refine H2.out.mono ?_
   rintro e w1 ⟨rfl,rfl⟩
   go_wp2
   go_ret
   exact⟨rfl,rfl⟩
  ·rw [if_neg h2]
   have hd2:decide ((m:Int)<(n:Int))=true:=decide_eq_true (by omega)
   have hd3:decide ((n:Int)>(m:Int))=true:=decide_eq_true (by omega)
   have hd4:decide (m<n)=true:=decide_eq_true (by omega)
   clear h1 h2
   go_enter Tryz.func165,Tryz.ntmps165
   go_wp2_with fail
   refine H1.out.mono ?_
   rintro e w1 ⟨rfl,rfl⟩
   go_wp2_with fail
   refine H2.out.mono ?_
   rintro e w1 ⟨rfl,rfl⟩
   go_wp2
   go_ret
   exact⟨rfl,rfl⟩
section
variable {K K':Nat}{xs ys:List Rat}{A B:oA9}{n n' c d:Nat}{w:World}
theorem zpN {z:Int}(hz:zeC xs ys=z)(hT:zaj w)(ha:zaC w A n c xs)(hb:zaC w B n' d ys)(hx:zat K xs)(hy:zat K' ys)(hn:n<=1073741824:=by omega)(hn':n'<=1073741824:=by omega)(hK:K<=67108864:=by omega)(hK':K'<=67108864:=by omega):
  Calls Tryz.prog 115 #[.slice A n c,.slice B n' d] w (zcb w z):=by
 have hla:=ha.len
 have hlb:=hb.len
 have HLA:=lh9 hla
 have HLB:=lh9 hlb
 have HZ:=lh9 hz
 have HSX:Hid (∀i,i<n->SzQ K (xs.getD i 0)):=λi hi=>hx.at_ (by omega)
 have HSY:Hid (∀i,i<n'->SzQ K' (ys.getD i 0)):=λi hi=>hy.at_ (by omega)
 unfold zcb
 have HA:=lh9 ha
 have HB9:=lh9 hb
 have HT:=lh9 (λw' (hb:Below w.heap.size w w')=>hT.on hb)
 clear hT ha hb hx hy hla hlb hz
 have hB:=Below.refl w.heap.size w
 have i0:(0:Int)<=(n:Int):=by omega
 obtain⟨N,hN⟩:∃N,min n n'=N:=⟨_,rfl⟩
 have hNn:N<=n:=by omega
 have hNm:N<=n':=by omega
 have HN:=lh9 hN
 have hmn1:min (n:Int) (n':Int)=(N:Int):=by omega
 have hmn2:(if (n':Int)<(n:Int) then(n':Int) else(n:Int))=(N:Int):=by split<;>omega
 have hmn3:(if n'<n then(n':Int) else(n:Int))=(N:Int):=by split<;>omega
 clear hN
 go_enter Tryz.func115,Tryz.ntmps115
 go_wp2_with fail
 clear hmn1 hmn2 hmn3
 go_loopg [11] (N+1) (λg ix wr=>∃(k:Nat),k<=N/\N<g+k/\ix=.int .i64 k/\Hid (zeC (xs.drop k) (ys.drop k)=z)/\Below w.heap.size w wr)
 case atStart=>exact⟨0,Nat.zero_le _,by omega,rfl,HZ,hB⟩
 case round=>
  clear hB
  obtain⟨k,hkn,hg,rfl,hz0,hB⟩:=hrel
  by_cases hlt:k<N
  ·have hltn:k<n:=by omega
   have hltm:k<n':=by omega
   obtain⟨ad,b1,B1,m1,d1,E1,u1,v1,rfl,-,hc0,hc1,hc2,hx⟩:=HA.out.get hB hltn
   obtain⟨ae,b2,B2,m2,d2,E2,u2,v2,rfl,-,he0,he1,he2,hy⟩:=HB9.out.get hB hltm
   have hd1:decide ((k:Int)<(N:Int))=true:=decide_eq_true (by omega)
   have i1:(0:Int)<=(k:Int):=by omega
   have i2:(k:Int)<(n:Int):=by omega
   have i3:(k:Int)<(n':Int):=by omega
   have HX:=lh9 hx
   have HY:=lh9 hy
   have HB1:=lh9 hB
   have hlx:k<xs.length:=by have:=HLA.out;omega
   have hly:k<ys.length:=by have:=HLB.out;omega
   clear hx hy hB
   by_cases h0:xs.getD k 0=ys.getD k 0
   ·have HQ:=lh9 (decide_eq_true h0)
    have HZ1:Hid (zeC (xs.drop (k+1)) (ys.drop (k+1))=z):=by
     show _=_
     rw [<-zii hlx hly h0];exact hz0.out
    clear h0 hlx hly
    go_wp2_with fail
    have hBw:=(Below.refl wr.heap.size wr).drew
    refine rg (csc hc0 (csc hc1 (csc hc2 (csc he0 (csc he1 (csc he2 csn)))))) (λhHeld=>?_)
    refine tk 0 ?_
    refine tk 1 ?_
    refine tk 2 ?_
    refine tk 3 ?_
    refine tk 4 ?_
    refine tk 5 ?_
    refine tk 6 ?_
    refine tk 7 ?_
    refine rc 8 (λKK hK9=>?_)
    go_simp
    (with_reducible refine(q_same HQ.out (HT.out _ (zaa HB1.out hBw)) (HX.out.below hBw) (HY.out.below hBw) (HSX.out k hltn) (HSY.out k hltm) hK hK').mono ?_);rintro e wa ⟨rfl,hb⟩;have hBw:=zaa hBw hb;refine hK9.out _ _ (Cs.below hHeld hb) (λhHeld=>?_);clear hK9 KK hb
    refine tk 9 ?_
    refine rdn ?_
    have HB2:=lh9 (zaa HB1.out hBw)
    clear hHeld hBw hc0 hc1 hc2 he0 he1 he2 HX HY HB1
    go_wp2
    go_roundg (N - k)
    case measure=>omega
    case rel=>exact⟨k+1,by omega,by omega,by go_num,HZ1,HB2.out⟩
   ·have HQ:=lh9 (decide_eq_false h0)
    have HF:Hid (zgc (xs.getD k 0) (ys.getD k 0)=z):=by
     show _=_
     rw [<-zhC hlx hly h0];exact hz0.out
    clear h0 hlx hly
    go_wp2_with fail
    have hBw:=(Below.refl wr.heap.size wr).drew
    refine rg (csc hc0 (csc hc1 (csc hc2 (csc he0 (csc he1 (csc he2 csn)))))) (λhHeld=>?_)
    refine tk 0 ?_
    refine tk 1 ?_
    refine tk 2 ?_
    refine tk 3 ?_
    refine tk 4 ?_
    refine tk 5 ?_
    refine tk 6 ?_
    refine tk 7 ?_
    refine rc 8 (λKK hK9=>?_)
    go_simp
    (with_reducible refine(q_same HQ.out (HT.out _ (zaa HB1.out hBw)) (HX.out.below hBw) (HY.out.below hBw) (HSX.out k hltn) (HSY.out k hltm) hK hK').mono ?_);rintro e wa ⟨rfl,hb⟩;have hBw:=zaa hBw hb;refine hK9.out _ _ (Cs.below hHeld hb) (λhHeld=>?_);clear hK9 KK hb
    refine tk 9 ?_
    refine rdn ?_
    have HB2:=lh9 (zaa HB1.out hBw)
    have HX2:=lh9 (HX.out.below hBw)
    have HY2:=lh9 (HY.out.below hBw)
    obtain⟨c0,c1,c2,e0,e1,e2,-⟩:=hHeld
    clear hBw hc0 hc1 hc2 he0 he1 he2 HX HY HB1
    go_wp2_with fail
    have hBw:=(Below.refl wa.heap.size wa).drew
    refine rg (csc c0 (csc c1 (csc c2 (csc e0 (csc e1 (csc e2 csn)))))) (λhHeld=>?_)
    refine tk 0 ?_
    refine tk 1 ?_
    refine tk 2 ?_
    refine tk 3 ?_
    refine tk 4 ?_
    refine tk 5 ?_
    refine tk 6 ?_
    refine tk 7 ?_
    refine rc 8 (λKK hK9=>?_)
    go_simp
    (with_reducible refine(zcc HF.out (q_cmp (HT.out _ (zaa HB2.out hBw)) (HX2.out.below hBw) (HY2.out.below hBw) (HSX.out k hltn) (HSY.out k hltm) hK hK')).mono ?_);rintro e wb ⟨rfl,hb⟩;have hBw:=zaa hBw hb;refine hK9.out _ _ (Cs.below hHeld hb) (λhHeld=>?_);clear hK9 KK hb
    refine tk 9 ?_
    refine rdn ?_
    have HB3:=lh9 (zaa HB2.out hBw)
    clear hHeld hBw c0 c1 c2 e0 e1 e2
    go_wp2
    go_ret
    exact⟨rfl,HB3.out⟩
  ·have hk:k=N:=by omega
   subst hk
   have hd1:decide ((k:Int)<(k:Int))=false:=by simp
   have HF:Hid (cmpN n n'=z):=by
    have h1:=HLA.out
    have h2:=HLB.out
    have h3:=HN.out
    have h4:=hz0.out
    rw [cmpV_end (by rw [h1,h2];exact h3.symm),h1,h2] at h4
    exact h4
   have HB2:=lh9 hB
   have H1:=lh9 (zln n n' wr)
   rw [HF.out] at H1
   clear hB
   go_wp2_with fail
   refine H1.out.mono ?_
   rintro e w1 ⟨rfl,rfl⟩
   go_wp2
   go_ret
   exact⟨rfl,HB2.out⟩
theorem zeI {t:Bool}(e:decide (xs=ys)=t)(hT:zaj w)(ha:zaC w A n c xs)(hb:zaC w B n' d ys)(hx:zat K xs)(hy:zat K' ys)(hn:n<=1073741824:=by omega)(hn':n'<=1073741824:=by omega)(hK:K<=67108864:=by omega)(hK':K'<=67108864:=by omega):
  Calls Tryz.prog 50 #[.slice A n c,.slice B n' d] w (λe w'=>e=.returned (.bool t)/\Below w.heap.size w w'):=by
 obtain⟨z,hz⟩:∃z,zeC xs ys=z:=⟨_,rfl⟩
 have H:=lh9 (zpN hz hT ha hb hx hy hn hn' hK hK')
 have ht:(z==0)=t:=by
  rw [<-e,<-hz]
  by_cases h:xs=ys
  ·rw [decide_eq_true h,(zki xs ys).2 h];rfl
  ·rw [decide_eq_false h,beq_eq_false_iff_ne]
   exact λh9=>h ((zki xs ys).1 h9)
 clear hz hT ha hb hx hy e
 have HE:=lh9 ht
 clear ht
 go_enter Tryz.func50,Tryz.ntmps50
 go_wp2_with fail
 refine H.out.mono ?_
 rintro e w1 ⟨rfl,hb⟩
 go_wp2
 go_ret
 exact⟨by rw [<-HE.out];rfl,hb⟩
end
