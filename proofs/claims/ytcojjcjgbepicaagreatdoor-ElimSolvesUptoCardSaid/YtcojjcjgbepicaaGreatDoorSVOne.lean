/- What this claim leans on. -/
import Derived.Test.YtcojjcjgbepicaaGreatDoorSMArgs
namespace Go.Proofs.YtcojjcjgbepicaaGreatDoor
open Go Go.RowKit
set_option maxHeartbeats 16000000
set_option maxRecDepth 100000
set_option linter.unusedVariables false
set_option linter.unusedSimpArgs false
theorem zlM {p:Int}{w:World}(hT:zaj w)(hp:zcc p):
  Calls Tryz.prog 64 #[.agg #[.int .i64 p,.int .i64 0]] w (zaI w (qOf p 0)):=by
 rw [qOf_zero]
 obtain⟨hp1,hp2⟩:=hp
 have HT:=lh9 (λw' (hb:Below w.heap.size w w')=>hT.on hb)
 obtain⟨bx1,bx2,bx3,bz⟩:=zbC w 26 53 #[.int .i64 p,.int .i64 0] #[.bool false,.slice none 0 0,.slice none 0 0]
 obtain⟨g0,g1⟩:=bx2.c2
 have HB:=lh9 bx1
 have HK:=lh9 bx3
 clear hT bx1 bx2 bx3 bz
 go_enter Tryz.func64,Tryz.ntmps64
 go_wp2_with fail
 clear g0 g1
 (with_reducible refine(zcI p _ (HT.out _ HB.out) hp1 hp2).mono ?_)
 rintro e w2 ⟨b2,A2,n2,c2,E2,k2,f2,rfl,hw2,hb⟩
 have hk2:=zab hb HK.out
 obtain⟨sc0,sf0,sc1,sf1,sc2,sf2⟩:=st3 hk2 (.bool b2) (.slice A2 n2 c2)
 obtain⟨r0,r1,r2⟩:=(sn3 hk2 (.bool b2) (.slice A2 n2 c2) (.slice E2 k2 f2)).c3
 have HG:=lh9 (gq3 hw2 hk2 (zaa HB.out hb) (by omega))
 clear hb hk2 hw2 HB HK
 go_wp2
 refine bodyPost_ret (v:=.agg #[.bool b2,.slice A2 n2 c2,.slice E2 k2 f2]) (by simp [results,Tryz.results64,go_sem,r0,r1,r2]) rfl ?_
 exact HG.out
theorem zlN {p q:Int}{w:World}(hT:zaj w)(hp:zcc p)(hq:zcc q)(h0:q≠0):
  Calls Tryz.prog 64 #[.agg #[.int .i64 p,.int .i64 q]] w (zaI w (qOf p q)):=by
 rw [qOf_ne h0]
 obtain⟨hp1,hp2⟩:=hp
 obtain⟨hq1,hq2⟩:=hq
 have H0:=lh9 h0
 have hd0:(q==0)=false:=by rw [beq_eq_false_iff_ne];exact h0
 have HT:=lh9 (λw' (hb:Below w.heap.size w w')=>hT.on hb)
 obtain⟨bx1,bx2,bx3,bz⟩:=zbC w 26 53 #[.int .i64 p,.int .i64 q] #[.bool false,.slice none 0 0,.slice none 0 0]
 obtain⟨g0,g1⟩:=bx2.c2
 have HB:=lh9 bx1
 have HK:=lh9 bx3
 clear hT bx1 bx2 bx3 bz h0
 go_enter Tryz.func64,Tryz.ntmps64
 go_wp2_with fail
 clear g0 g1
 (with_reducible refine(rat_of p q _ (HT.out _ HB.out) hp1 hp2 hq1 hq2 H0.out).mono ?_)
 rintro e w2 ⟨b2,A2,n2,c2,E2,k2,f2,rfl,hw2,hb⟩
 obtain⟨s1,s2,s3⟩:=zaw w2 53 #[.bool b2,.slice A2 n2 c2,.slice E2 k2 f2]
 obtain⟨p0,p1,p2⟩:=s2.c3
 have hk2:=zab s1 (zab hb HK.out)
 have hw3:=hw2.below s1
 obtain⟨sc0,sf0,sc1,sf1,sc2,sf2⟩:=st3 hk2 (.bool b2) (.slice A2 n2 c2)
 obtain⟨r0,r1,r2⟩:=(sn3 hk2 (.bool b2) (.slice A2 n2 c2) (.slice E2 k2 f2)).c3
 have HG:=lh9 (gq3 hw3 hk2 (zaa (zaa HB.out hb) s1) (by omega))
 clear hb hk2 hw2 hw3 HB HK s1 s2 s3
 go_wp2
 refine bodyPost_ret (v:=.agg #[.bool b2,.slice A2 n2 c2,.slice E2 k2 f2]) (by simp [results,Tryz.results64,go_sem,r0,r1,r2]) rfl ?_
 exact HG.out
theorem zjP {p q:Int}{w:World}(hT:zaj w)(hp:zcc p)(hq:zcc q):
  Calls Tryz.prog 64 #[.agg #[.int .i64 p,.int .i64 q]] w (zaI w (qOf p q)):=by
 by_cases h0:q=0
 ·subst h0;exact zlM hT hp
 ·exact zlN hT hp hq h0
def zdx (L:List (Int×Int)):List Rat:=L.map λq=>qOf q.1 q.2
theorem zoj {W:World}{A:oA9}{n c:Nat}{L:List (Int×Int)}(h:zaT W A n c L):zaq 1 (zdx L):=λx hx=>by
 obtain⟨q,hq,rfl⟩:=List.mem_map.1 hx
 obtain⟨⟨h1,h2⟩,h3,h4⟩:=h.ints q hq
 exact qOf_sz h1 h2 h3 h4
theorem zes (L:List (Int×Int)):(zdx L).length=L.length:=List.length_map _
def GivesM (w:World)(n:Nat)(xs:List Rat)(e:Ending)(w':World):Prop:=∃(A:oA9) (c:Nat),e=.returned (.slice A n c)/\zaC w' A n c xs/\(∀ad,A=some ad->w.heap.size<=ad.block)/\Below w.heap.size w w'
theorem ziC {A:oA9}{n c:Nat}{L:List (Int×Int)}{w:World}(hT:zaj w)(h:zaT w A n c L):
  Calls Tryz.prog 36 #[.slice A n c] w (GivesM w n (zdx L)):=by
 obtain⟨i1',hi1,hz10,hz11,hz12⟩:=info_parts zkF
 have hn0:n<=1048576:=Nat.le_trans h.fits h.small
 have HL:=lh9 h.len
 have HG:Hid (∀k,k<n->zcc (L.getD k (0,0)).1/\zcc (L.getD k (0,0)).2/\∃ad,A=some ad/\ad.block<w.heap.size/\w.cell? (ad.add (k*2))=some (.int .i64 (L.getD k (0,0)).1)/\w.cell? (ad.add (k*2+1))=some (.int .i64 (L.getD k (0,0)).2)):=λk hk=>by
  have hl:=h.len
  have e:L[k]?=some (L.getD k (0,0)):=by rw [List.getD_eq_getElem?_getD,List.getElem?_eq_getElem (by omega)];rfl
  obtain⟨h1,h2⟩:=h.ints _ (List.mem_of_getElem? e)
  exact⟨h1,h2,h.row k _ e⟩
 have HS:Hid (∀k,k<n->zdx (L.take (k+1))=zdx (L.take k)++[qOf (L.getD k (0,0)).1 (L.getD k (0,0)).2]):=λk hk=>by
  have hl:=h.len
  unfold zdx
  rw [List.take_succ_eq_append_getElem (by omega),List.map_append,List.getD_eq_getElem?_getD,List.getElem?_eq_getElem (by omega)]
  rfl
 have HT:=lh9 (λw' (hb:Below w.heap.size w w')=>hT.on hb)
 unfold GivesM
 clear h hT
 have hB:=Below.refl w.heap.size w
 go_enter Tryz.func36,Tryz.ntmps36
 go_wp2_with fail
 go_loopg [3,4] (n+1) (λg sl ix wr=>∃(k:Nat) (v:Value) (vs:List Value),k<=n/\n<g+k/\ix=.int .i64 k/\v=sl/\zdC zah wr w.heap.size 53 v (zdx (L.take k)) vs/\Below w.heap.size w wr)
 case atStart=>exact⟨0,_,_,Nat.zero_le _,by omega,rfl,rfl,zdC.nil _ _ _,hB⟩
 case round=>
  clear hB
  obtain⟨k,v,vs,hkn,hg,rfl,rfl,hon,hB⟩:=hrel
  by_cases hlt:k<n
  ·obtain⟨hi1',hi2',ad,rfl,hadb,hc0,hc1⟩:=HG.out k hlt
   have HSK:=lh9 (HS.out k hlt)
   obtain⟨q,hq⟩:∃q,L.getD k (0,0)=q:=⟨_,rfl⟩
   rw [hq] at hi1' hi2' hc0 hc1 HSK
   obtain⟨q1,q2⟩:=q
   dsimp only at hi1' hi2' hc0 hc1 HSK
   have hc0:=zac hB hc0
   have hc1:=zgz (zac hB hc1)
   have hd1:decide ((k:Int)<(n:Int))=true:=decide_eq_true (by omega)
   have i1:(0:Int)<=(k:Int):=by omega
   have i2:(k:Int)<(n:Int):=by omega
   have HON0:=lh9 hon
   have HB0:=lh9 hB
   have HI1:=lh9 hi1'
   have HI2:=lh9 hi2'
   have hlq:(zdx (L.take k)).length=k:=by rw [zes,List.length_take,HL.out];omega
   have HLQ:=lh9 hlq
   clear hon hB hi1' hi2' hq hlq
   go_wp2_with fail
   (with_reducible refine(zjP (HT.out _ HB0.out) HI1.out HI2.out).mono ?_)
   rintro e w5 ⟨b5,B5,m5,d5,E5,u5,f5,rfl,hx5,hb⟩
   obtain⟨t1,t2,_⟩:=zaw w5 53 #[.bool b5,.slice B5 m5 d5,.slice E5 u5 f5]
   obtain⟨t20,t21,t22⟩:=t2.c3
   have hup:=zaa hb t1
   have hon:=zdC.below zaf HON0.out hup
   have HX:=lh9 (hx5.below t1)
   have HB:=lh9 (zaa HB0.out hup)
   have hcell:∀j u,[Value.bool b5,.slice B5 m5 d5,.slice E5 u5 f5][j]?=some u->(w5.alloc (.cells #[.bool b5,.slice B5 m5 d5,.slice E5 u5 f5] 53)).cell? ((⟨w5.heap.size,0,none⟩:Addr).add j)=some u:=λj u hu=>by
    rw [zaK]
    match j,hu with
    |0,hu=>simp at hu;subst hu;exact t2.cell 0
    |1,hu=>simp at hu;subst hu;exact t2.cell 1
    |2,hu=>simp at hu;subst hu;exact t2.cell 2
   have HCELL:=lh9 hcell
   have HONE:Hid (∀u ∈ [Value.bool b5,.slice B5 m5 d5,.slice E5 u5 f5],u.oneCell'=true):=by intro u hu;simp at hu;rcases hu with rfl|rfl|rfl<;>rfl
   have HNN:Hid (∀u ∈ [Value.bool b5,.slice B5 m5 d5,.slice E5 u5 f5],zgZ u):=by intro u hu y z;simp at hu;rcases hu with rfl|rfl|rfl<;>(intro h9;cases h9)
   have HZN:Hid (∀u ∈(Value.agg #[.bool false,.slice none 0 0,.slice none 0 0]).cells.toList,zgZ u):=by intro u hu y z;simp [Value.cells] at hu;rcases hu with rfl|rfl<;>(intro h9;cases h9)
   have HBS:Hid (w.heap.size<=(w5.alloc (.cells #[.bool b5,.slice B5 m5 d5,.slice E5 u5 f5] 53)).heap.size):=HB.out.size
   have hown:=hon.own
   rw [HLQ.out] at hown
   have HOWN:=lh9 hown
   have HNOU:=lh9 hon.nou
   have HON:=lh9 hon
   have HOB:=lh9 (λr (h:v.ownBlock=some r)=>hon.own.lt r h)
   clear hb hup hx5 hcell hon t1 t2 hc0 hc1 t20 t21 t22 hown
   go_wp2_with (at_builtin;go_loud (refine zcZ _ rfl (.tmp 11) (.tmp 17) 71 rfl w.heap.size 53 i1' (.agg #[.bool false,.slice none 0 0,.slice none 0 0]) 3 56 Tryz.underlying71 hi1 hz10 hz11 hz12 rfl (by decide) v k vs rfl HOWN.out ⟨w5.heap.size,0,none⟩ 1 1 [.bool b5,.slice B5 m5 d5,.slice E5 u5 f5] rfl rfl HCELL.out HONE.out (by unfold maxLen;omega) (by omega) HBS.out HNOU.out HZN.out HNN.out ?_;intro v' w8 hown' hgrow hat hnou';have HON8:=lh9 (zdC.grow (n:=k+1) zaf HON.out HX.out hown' (by rw [HLQ.out]) hgrow hnou');have HB8:=lh9 (HB.out.grown hgrow HBS.out (λr hr=>(HOB.out r hr).1));clear hown' hgrow hat hnou'))
   rw [<-HSK.out] at HON8
   go_roundg (n - k)
   case measure=>omega
   case rel=>exact⟨k+1,_,_,by omega,by omega,by go_num,rfl,HON8.out,HB8.out⟩
  ·have hd1:decide ((k:Int)<(n:Int))=false:=decide_eq_false (by omega)
   have hk:k=n:=by omega
   subst hk
   rw [List.take_of_length_le (by rw [HL.out];exact Nat.le_refl _)] at hon
   have hlq:(zdx L).length=k:=by rw [zes];exact HL.out
   obtain⟨A1,c1,rfl,hv,hf⟩:=hon.shape
   rw [hlq] at hv⊢
   have HV:=lh9 hv
   have HF:=lh9 hf
   have HB1:=lh9 hB
   clear hon hv hB hlq hf
   go_wp2
   go_ret
   exact⟨A1,c1,rfl,HV.out,HF.out,HB1.out⟩
theorem zjS (z:Int)(w:World):Calls Tryz.prog 192 #[.int .i64 z] w (λe w'=>e=.returned (.bool false)/\w=w'):=by
 have h1:(z !=z)=false:=by simp
 go_enter Tryz.func192,Tryz.ntmps192
 go_wp2
 go_ret
 exact⟨rfl,rfl⟩
theorem zlw (n m:Nat)(w:World):Calls Tryz.prog 165 #[.int .i64 (n:Int),.int .i64 (m:Int)] w (λe w'=>e=.returned (.int .i64 (cmpN n m))/\w=w'):=by
 have H1:=lh9 (zjS (n:Int) w)
 have H2:=lh9 (zjS (m:Int) w)
 unfold cmpN
 by_cases h1:n<m
 ·have hd:decide ((n:Int)<(m:Int))=true:=decide_eq_true (by omega)
  have hd':decide (n<m)=true:=decide_eq_true (by omega)
  rw [if_pos h1]
  go_enter Tryz.func165,Tryz.ntmps165
  go_wp2_with fail
  refine H1.out.mono ?_
  rintro e w1 ⟨rfl,rfl⟩
  go_wp2_with fail
  refine H2.out.mono ?_
  rintro e w1 ⟨rfl,rfl⟩
  go_wp2
  go_ret
  exact⟨rfl,rfl⟩
 ·have hd:decide ((n:Int)<(m:Int))=false:=decide_eq_false (by omega)
  have hd':decide (n<m)=false:=decide_eq_false (by omega)
  rw [if_neg h1]
  by_cases h2:n=m
  ·rw [if_pos h2]
   have hd2:decide ((m:Int)<(n:Int))=false:=decide_eq_false (by omega)
   have hd3:decide ((n:Int)>(m:Int))=false:=decide_eq_false (by omega)
   have hd4:decide (m<n)=false:=decide_eq_false (by omega)
   clear h1 h2
   go_enter Tryz.func165,Tryz.ntmps165
   go_wp2_with fail
   refine H1.out.mono ?_
   rintro e w1 ⟨rfl,rfl⟩
   go_wp2_with fail
   refine H2.out.mono ?_
   rintro e w1 ⟨rfl,rfl⟩
   go_wp2
   go_ret
   exact⟨rfl,rfl⟩
  ·rw [if_neg h2]
   have hd2:decide ((m:Int)<(n:Int))=true:=decide_eq_true (by omega)
   have hd3:decide ((n:Int)>(m:Int))=true:=decide_eq_true (by omega)
   have hd4:decide (m<n)=true:=decide_eq_true (by omega)
   clear h1 h2
   go_enter Tryz.func165,Tryz.ntmps165
   go_wp2_with fail
   refine H1.out.mono ?_
   rintro e w1 ⟨rfl,rfl⟩
   go_wp2_with fail
   refine H2.out.mono ?_
   rintro e w1 ⟨rfl,rfl⟩
   go_wp2
   go_ret
   exact⟨rfl,rfl⟩
section
variable {K K':Nat}{xs ys:List Rat}{A B:oA9}{n n' c d:Nat}{w:World}
theorem zpK {z:Int}(hz:zeK xs ys=z)(hT:zaj w)(ha:zaC w A n c xs)(hb:zaC w B n' d ys)(hx:zaq K xs)(hy:zaq K' ys)(hn:n<=1073741824:=by omega)(hn':n'<=1073741824:=by omega)(hK:K<=67108864:=by omega)(hK':K'<=67108864:=by omega):
  Calls Tryz.prog 115 #[.slice A n c,.slice B n' d] w (zcy w z):=by
 have hla:=ha.len
 have hlb:=hb.len
 have HLA:=lh9 hla
 have HLB:=lh9 hlb
 have HZ:=lh9 hz
 have HSX:Hid (∀i,i<n->SzQ K (xs.getD i 0)):=λi hi=>hx.at_ (by omega)
 have HSY:Hid (∀i,i<n'->SzQ K' (ys.getD i 0)):=λi hi=>hy.at_ (by omega)
 unfold zcy
 have HA:=lh9 ha
 have HB9:=lh9 hb
 have HT:=lh9 (λw' (hb:Below w.heap.size w w')=>hT.on hb)
 clear hT ha hb hx hy hla hlb hz
 have hB:=Below.refl w.heap.size w
 have i0:(0:Int)<=(n:Int):=by omega
 obtain⟨N,hN⟩:∃N,min n n'=N:=⟨_,rfl⟩
 have hNn:N<=n:=by omega
 have hNm:N<=n':=by omega
 have HN:=lh9 hN
 have hmn1:min (n:Int) (n':Int)=(N:Int):=by omega
 have hmn2:(if (n':Int)<(n:Int) then(n':Int) else(n:Int))=(N:Int):=by split<;>omega
 have hmn3:(if n'<n then(n':Int) else(n:Int))=(N:Int):=by split<;>omega
 clear hN
 go_enter Tryz.func115,Tryz.ntmps115
 go_wp2_with fail
 clear hmn1 hmn2 hmn3
 go_loopg [11] (N+1) (λg ix wr=>∃(k:Nat),k<=N/\N<g+k/\ix=.int .i64 k/\Hid (zeK (xs.drop k) (ys.drop k)=z)/\Below w.heap.size w wr)
 case atStart=>exact⟨0,Nat.zero_le _,by omega,rfl,HZ,hB⟩
 case round=>
  clear hB
  obtain⟨k,hkn,hg,rfl,hz0,hB⟩:=hrel
  by_cases hlt:k<N
  ·have hltn:k<n:=by omega
   have hltm:k<n':=by omega
   obtain⟨ad,b1,B1,m1,d1,E1,u1,v1,rfl,-,hc0,hc1,hc2,hx⟩:=HA.out.get hB hltn
   obtain⟨ae,b2,B2,m2,d2,E2,u2,v2,rfl,-,he0,he1,he2,hy⟩:=HB9.out.get hB hltm
   have hd1:decide ((k:Int)<(N:Int))=true:=decide_eq_true (by omega)
   have i1:(0:Int)<=(k:Int):=by omega
   have i2:(k:Int)<(n:Int):=by omega
   have i3:(k:Int)<(n':Int):=by omega
   have HX:=lh9 hx
   have HY:=lh9 hy
   have HB1:=lh9 hB
   have hlx:k<xs.length:=by have:=HLA.out;omega
   have hly:k<ys.length:=by have:=HLB.out;omega
   clear hx hy hB
   by_cases h0:xs.getD k 0=ys.getD k 0
   ·have HQ:=lh9 (decide_eq_true h0)
    have HZ1:Hid (zeK (xs.drop (k+1)) (ys.drop (k+1))=z):=by
     show _=_
     rw [<-zin hlx hly h0];exact hz0.out
    clear h0 hlx hly
    go_wp2_with fail
    have hBw:=(Below.refl wr.heap.size wr).drew
    refine rg (csc hc0 (csc hc1 (csc hc2 (csc he0 (csc he1 (csc he2 csn)))))) (λhHeld=>?_)
    refine tk 0 ?_
    refine tk 1 ?_
    refine tk 2 ?_
    refine tk 3 ?_
    refine tk 4 ?_
    refine tk 5 ?_
    refine tk 6 ?_
    refine tk 7 ?_
    refine rc 8 (λKK hK9=>?_)
    go_simp
    (with_reducible refine(q_same HQ.out (HT.out _ (zaa HB1.out hBw)) (HX.out.below hBw) (HY.out.below hBw) (HSX.out k hltn) (HSY.out k hltm) hK hK').mono ?_);rintro e wa ⟨rfl,hb⟩;have hBw:=zaa hBw hb;refine hK9.out _ _ (Cs.below hHeld hb) (λhHeld=>?_);clear hK9 KK hb
    refine tk 9 ?_
    refine rdn ?_
    have HB2:=lh9 (zaa HB1.out hBw)
    clear hHeld hBw hc0 hc1 hc2 he0 he1 he2 HX HY HB1
    go_wp2
    go_roundg (N - k)
    case measure=>omega
    case rel=>exact⟨k+1,by omega,by omega,by go_num,HZ1,HB2.out⟩
   ·have HQ:=lh9 (decide_eq_false h0)
    have HF:Hid (zge (xs.getD k 0) (ys.getD k 0)=z):=by
     show _=_
     rw [<-zhL hlx hly h0];exact hz0.out
    clear h0 hlx hly
    go_wp2_with fail
    have hBw:=(Below.refl wr.heap.size wr).drew
    refine rg (csc hc0 (csc hc1 (csc hc2 (csc he0 (csc he1 (csc he2 csn)))))) (λhHeld=>?_)
    refine tk 0 ?_
    refine tk 1 ?_
    refine tk 2 ?_
    refine tk 3 ?_
    refine tk 4 ?_
    refine tk 5 ?_
    refine tk 6 ?_
    refine tk 7 ?_
    refine rc 8 (λKK hK9=>?_)
    go_simp
    (with_reducible refine(q_same HQ.out (HT.out _ (zaa HB1.out hBw)) (HX.out.below hBw) (HY.out.below hBw) (HSX.out k hltn) (HSY.out k hltm) hK hK').mono ?_);rintro e wa ⟨rfl,hb⟩;have hBw:=zaa hBw hb;refine hK9.out _ _ (Cs.below hHeld hb) (λhHeld=>?_);clear hK9 KK hb
    refine tk 9 ?_
    refine rdn ?_
    have HB2:=lh9 (zaa HB1.out hBw)
    have HX2:=lh9 (HX.out.below hBw)
    have HY2:=lh9 (HY.out.below hBw)
    obtain⟨c0,c1,c2,e0,e1,e2,-⟩:=hHeld
    clear hBw hc0 hc1 hc2 he0 he1 he2 HX HY HB1
    go_wp2_with fail
    have hBw:=(Below.refl wa.heap.size wa).drew
    refine rg (csc c0 (csc c1 (csc c2 (csc e0 (csc e1 (csc e2 csn)))))) (λhHeld=>?_)
    refine tk 0 ?_
    refine tk 1 ?_
    refine tk 2 ?_
    refine tk 3 ?_
    refine tk 4 ?_
    refine tk 5 ?_
    refine tk 6 ?_
    refine tk 7 ?_
    refine rc 8 (λKK hK9=>?_)
    go_simp
    (with_reducible refine(zce HF.out (q_cmp (HT.out _ (zaa HB2.out hBw)) (HX2.out.below hBw) (HY2.out.below hBw) (HSX.out k hltn) (HSY.out k hltm) hK hK')).mono ?_);rintro e wb ⟨rfl,hb⟩;have hBw:=zaa hBw hb;refine hK9.out _ _ (Cs.below hHeld hb) (λhHeld=>?_);clear hK9 KK hb
    refine tk 9 ?_
    refine rdn ?_
    have HB3:=lh9 (zaa HB2.out hBw)
    clear hHeld hBw c0 c1 c2 e0 e1 e2
    go_wp2
    go_ret
    exact⟨rfl,HB3.out⟩
  ·have hk:k=N:=by omega
   subst hk
   have hd1:decide ((k:Int)<(k:Int))=false:=by simp
   have HF:Hid (cmpN n n'=z):=by
    have h1:=HLA.out
    have h2:=HLB.out
    have h3:=HN.out
    have h4:=hz0.out
    rw [cmpV_end (by rw [h1,h2];exact h3.symm),h1,h2] at h4
    exact h4
   have HB2:=lh9 hB
   have H1:=lh9 (zlw n n' wr)
   rw [HF.out] at H1
   clear hB
   go_wp2_with fail
   refine H1.out.mono ?_
   rintro e w1 ⟨rfl,rfl⟩
   go_wp2
   go_ret
   exact⟨rfl,HB2.out⟩
theorem zdj {t:Bool}(e:decide (xs=ys)=t)(hT:zaj w)(ha:zaC w A n c xs)(hb:zaC w B n' d ys)(hx:zaq K xs)(hy:zaq K' ys)(hn:n<=1073741824:=by omega)(hn':n'<=1073741824:=by omega)(hK:K<=67108864:=by omega)(hK':K'<=67108864:=by omega):
  Calls Tryz.prog 50 #[.slice A n c,.slice B n' d] w (λe w'=>e=.returned (.bool t)/\Below w.heap.size w w'):=by
 obtain⟨z,hz⟩:∃z,zeK xs ys=z:=⟨_,rfl⟩
 have H:=lh9 (zpK hz hT ha hb hx hy hn hn' hK hK')
 have ht:(z==0)=t:=by
  rw [<-e,<-hz]
  by_cases h:xs=ys
  ·rw [decide_eq_true h,(zkv xs ys).2 h];rfl
  ·rw [decide_eq_false h,beq_eq_false_iff_ne]
   exact λh9=>h ((zkv xs ys).1 h9)
 clear hz hT ha hb hx hy e
 have HE:=lh9 ht
 clear ht
 go_enter Tryz.func50,Tryz.ntmps50
 go_wp2_with fail
 refine H.out.mono ?_
 rintro e w1 ⟨rfl,hb⟩
 go_wp2
 go_ret
 exact⟨by rw [<-HE.out];rfl,hb⟩
end
