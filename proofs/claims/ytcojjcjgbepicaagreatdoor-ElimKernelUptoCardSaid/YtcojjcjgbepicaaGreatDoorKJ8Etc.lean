/- What this claim leans on. -/
import Derived.Test.YtcojjcjgbepicaaGreatDoorKVArgs
namespace Go.Proofs.YtcojjcjgbepicaaGreatDoor
open Go Go.RowKit
set_option maxHeartbeats 16000000
set_option maxRecDepth 100000
set_option linter.unusedVariables false
set_option linter.unusedSimpArgs false
theorem zcX (p:Int)(w:World)(hT:zai w)(hp1: -9223372036854775808<=p)(hp2:p<=9223372036854775807):
  Calls Tryz.prog 47 #[.int .i64 p] w (zaJ w (p:Rat)):=by
 have HIC:=lh9 (zbH (T:=zai))
 have HT:=lh9 (λw' (hb:Below w.heap.size w w')=>hT.on hb)
 have HTB:=HT
 obtain⟨K,hKe⟩:∃K,67108864=K:=⟨_,rfl⟩
 have hKK:K<=67108864:=by omega
 have hK0:0<K:=by omega
 clear hT hKe
 go_enter Tryz.func47,Tryz.ntmps47
 have hB:=Below.refl w.heap.size w
 obtain⟨bx1,bx2,bz⟩:=zax w 53 #[.bool false,.slice none 0 0,.slice none 0 0]
 have hB:=zaa hB bx1
 have k1:=bx2
 clear bx1 bx2 bz
 go_wp2_with fail
 generalize w.alloc (.cells #[.bool false,.slice none 0 0,.slice none 0 0] 53)=W1 at*
 have HZ2:Hid (Sz (1) (p).natAbs):=(by show Int.natAbs p<18446744073709551616^1;have e1: -9223372036854775808<=p:=hp1;have e2:p<=9223372036854775807:=hp2;omega)
 (with_reducible refine(HIC.out.of p _ (HT.out _ hB) hp1 hp2).mono ?_)
 rintro e wc2 ⟨b2,B2,m2,d2,rfl,hw2,hb⟩
 have hB:=zaa hB hb
 have k1:=zab hb k1
 have HN2:=lh9 hw2
 clear hb hw2
 obtain⟨sc0,sf0,sc1,sf1,sc2,sf2⟩:=st3 k1 (.bool b2) (.slice B2 m2 d2)
 obtain⟨r0,r1,r2⟩:=(sn3 k1 (.bool b2) (.slice B2 m2 d2) (.slice none 0 0)).c3
 have HG:=lh9 (gq3 (zev HN2.out) k1 hB (by omega))
 go_wp2
 refine bodyPost_ret (v:=.agg #[.bool b2,.slice B2 m2 d2,.slice none 0 0]) (by simp [results,Tryz.results47,go_sem,r0,r1,r2]) rfl ?_
 exact HG.out
theorem zhh (z:Int)(baa:Bool)(Baa:oA9)(maa daa:Nat)(w:World)(hT:zai w)(haa:zaA w z baa Baa maa daa)(qaa:maa<=67108864):
  Calls Tryz.prog 176 #[.agg #[.bool baa,.slice Baa maa daa]] w (zaJ w (z:Rat)):=by
 have HT:=lh9 (λw' (hb:Below w.heap.size w w')=>hT.on hb)
 have HTB:=HT
 obtain⟨K,hKe⟩:∃K,67108864=K:=⟨_,rfl⟩
 have hKK:K<=67108864:=by omega
 have hK0:0<K:=by omega
 have HNaa:=lh9 (λw' (b:Below w.heap.size w w')=>haa.below b)
 have HZaa:Hid (Sz K z.natAbs):=Sz.of_words haa.words (by omega)
 clear haa qaa
 clear hT hKe
 go_enter Tryz.func176,Tryz.ntmps176
 have hB:=Below.refl w.heap.size w
 obtain⟨bx1,bx2,bx3,bz⟩:=zbC w 51 53 #[.bool baa,.slice Baa maa daa] #[.bool false,.slice none 0 0,.slice none 0 0]
 have hB:=zaa hB bx1
 obtain⟨g1,e1⟩:=bx2.c2
 have k2:=bx3
 clear bx1 bx2 bx3 bz
 go_wp2_with fail
 generalize (w.alloc (.cells #[.bool baa,.slice Baa maa daa] 51)).alloc (.cells #[.bool false,.slice none 0 0,.slice none 0 0] 53)=W1 at*
 have HZ3:Hid (Sz (K) (z).natAbs):=HZaa.out
 (with_reducible refine(zgi (z) baa Baa maa daa _ (HT.out _ hB) (HNaa.out _ hB) (szi HZaa (HNaa.out _ hB))).mono ?_)
 rintro e wc2 ⟨b3,B3,m3,d3,rfl,hw3,hb⟩
 have hB:=zaa hB hb
 have g1:=zac hb g1
 have e1:=zac hb e1
 have k2:=zab hb k2
 have HN3:=lh9 hw3
 clear hb hw3
 obtain⟨sc0,sf0,sc1,sf1,sc2,sf2⟩:=st3 k2 (.bool b3) (.slice B3 m3 d3)
 obtain⟨r0,r1,r2⟩:=(sn3 k2 (.bool b3) (.slice B3 m3 d3) (.slice none 0 0)).c3
 have HG:=lh9 (gq3 (zev HN3.out) k2 hB (by omega))
 go_wp2
 refine bodyPost_ret (v:=.agg #[.bool b3,.slice B3 m3 d3,.slice none 0 0]) (by simp [results,Tryz.results176,go_sem,r0,r1,r2]) rfl ?_
 exact HG.out
theorem zly {p:Int}{w:World}(hT:zai w)(hp:zcA p):
  Calls Tryz.prog 64 #[.agg #[.int .i64 p,.int .i64 0]] w (zaJ w (qOf p 0)):=by
 rw [qOf_zero]
 obtain⟨hp1,hp2⟩:=hp
 have HT:=lh9 (λw' (hb:Below w.heap.size w w')=>hT.on hb)
 obtain⟨bx1,bx2,bx3,bz⟩:=zbC w 26 53 #[.int .i64 p,.int .i64 0] #[.bool false,.slice none 0 0,.slice none 0 0]
 obtain⟨g0,g1⟩:=bx2.c2
 have HB:=lh9 bx1
 have HK:=lh9 bx3
 clear hT bx1 bx2 bx3 bz
 go_enter Tryz.func64,Tryz.ntmps64
 go_wp2_with fail
 clear g0 g1
 (with_reducible refine(zcX p _ (HT.out _ HB.out) hp1 hp2).mono ?_)
 rintro e w2 ⟨b2,A2,n2,c2,E2,k2,f2,rfl,hw2,hb⟩
 have hk2:=zab hb HK.out
 obtain⟨sc0,sf0,sc1,sf1,sc2,sf2⟩:=st3 hk2 (.bool b2) (.slice A2 n2 c2)
 obtain⟨r0,r1,r2⟩:=(sn3 hk2 (.bool b2) (.slice A2 n2 c2) (.slice E2 k2 f2)).c3
 have HG:=lh9 (gq3 hw2 hk2 (zaa HB.out hb) (by omega))
 clear hb hk2 hw2 HB HK
 go_wp2
 refine bodyPost_ret (v:=.agg #[.bool b2,.slice A2 n2 c2,.slice E2 k2 f2]) (by simp [results,Tryz.results64,go_sem,r0,r1,r2]) rfl ?_
 exact HG.out
theorem zlz {p q:Int}{w:World}(hT:zai w)(hp:zcA p)(hq:zcA q)(h0:q≠0):
  Calls Tryz.prog 64 #[.agg #[.int .i64 p,.int .i64 q]] w (zaJ w (qOf p q)):=by
 rw [qOf_ne h0]
 obtain⟨hp1,hp2⟩:=hp
 obtain⟨hq1,hq2⟩:=hq
 have H0:=lh9 h0
 have hd0:(q==0)=false:=by rw [beq_eq_false_iff_ne];exact h0
 have HT:=lh9 (λw' (hb:Below w.heap.size w w')=>hT.on hb)
 obtain⟨bx1,bx2,bx3,bz⟩:=zbC w 26 53 #[.int .i64 p,.int .i64 q] #[.bool false,.slice none 0 0,.slice none 0 0]
 obtain⟨g0,g1⟩:=bx2.c2
 have HB:=lh9 bx1
 have HK:=lh9 bx3
 clear hT bx1 bx2 bx3 bz h0
 go_enter Tryz.func64,Tryz.ntmps64
 go_wp2_with fail
 clear g0 g1
 (with_reducible refine(rat_of p q _ (HT.out _ HB.out) hp1 hp2 hq1 hq2 H0.out).mono ?_)
 rintro e w2 ⟨b2,A2,n2,c2,E2,k2,f2,rfl,hw2,hb⟩
 obtain⟨s1,s2,s3⟩:=zax w2 53 #[.bool b2,.slice A2 n2 c2,.slice E2 k2 f2]
 obtain⟨p0,p1,p2⟩:=s2.c3
 have hk2:=zab s1 (zab hb HK.out)
 have hw3:=hw2.below s1
 obtain⟨sc0,sf0,sc1,sf1,sc2,sf2⟩:=st3 hk2 (.bool b2) (.slice A2 n2 c2)
 obtain⟨r0,r1,r2⟩:=(sn3 hk2 (.bool b2) (.slice A2 n2 c2) (.slice E2 k2 f2)).c3
 have HG:=lh9 (gq3 hw3 hk2 (zaa (zaa HB.out hb) s1) (by omega))
 clear hb hk2 hw2 hw3 HB HK s1 s2 s3
 go_wp2
 refine bodyPost_ret (v:=.agg #[.bool b2,.slice A2 n2 c2,.slice E2 k2 f2]) (by simp [results,Tryz.results64,go_sem,r0,r1,r2]) rfl ?_
 exact HG.out
theorem zoT {p q:Int}{w:World}(hT:zai w)(hp:zcA p)(hq:zcA q):
  Calls Tryz.prog 64 #[.agg #[.int .i64 p,.int .i64 q]] w (zaJ w (qOf p q)):=by
 by_cases h0:q=0
 ·subst h0;exact zly hT hp
 ·exact zlz hT hp hq h0
def zfP (L:List (Int×Int)):List Rat:=L.map λq=>qOf q.1 q.2
theorem zgH (L:List (Int×Int)):(zfP L).length=L.length:=List.length_map _
def GivesM (w:World)(n:Nat)(xs:List Rat)(e:Ending)(w':World):Prop:=∃(A:oA9) (c:Nat),e=.returned (.slice A n c)/\zaC w' A n c xs/\(∀ad,A=some ad->w.heap.size<=ad.block)/\Below w.heap.size w w'
theorem zmU {A:oA9}{n c:Nat}{L:List (Int×Int)}{w:World}(hT:zai w)(h:zbc w A n c L):
  Calls Tryz.prog 36 #[.slice A n c] w (GivesM w n (zfP L)):=by
 obtain⟨i1',hi1,hz10,hz11,hz12⟩:=info_parts info10
 have hn0:n<=1048576:=Nat.le_trans h.fits h.small
 have HL:=lh9 h.len
 have HG:Hid (∀k,k<n->zcA (L.getD k (0,0)).1/\zcA (L.getD k (0,0)).2/\∃ad,A=some ad/\ad.block<w.heap.size/\w.cell? (ad.add (k*2))=some (.int .i64 (L.getD k (0,0)).1)/\w.cell? (ad.add (k*2+1))=some (.int .i64 (L.getD k (0,0)).2)):=λk hk=>by
  have hl:=h.len
  have e:L[k]?=some (L.getD k (0,0)):=by rw [List.getD_eq_getElem?_getD,List.getElem?_eq_getElem (by omega)];rfl
  obtain⟨h1,h2⟩:=h.ints _ (List.mem_of_getElem? e)
  exact⟨h1,h2,h.row k _ e⟩
 have HS:Hid (∀k,k<n->zfP (L.take (k+1))=zfP (L.take k)++[qOf (L.getD k (0,0)).1 (L.getD k (0,0)).2]):=λk hk=>by
  have hl:=h.len
  unfold zfP
  rw [List.take_succ_eq_append_getElem (by omega),List.map_append,List.getD_eq_getElem?_getD,List.getElem?_eq_getElem (by omega)]
  rfl
 have HT:=lh9 (λw' (hb:Below w.heap.size w w')=>hT.on hb)
 unfold GivesM
 clear h hT
 have hB:=Below.refl w.heap.size w
 go_enter Tryz.func36,Tryz.ntmps36
 go_wp2_with fail
 go_loopg [3,4] (n+1) (λg sl ix wr=>∃(k:Nat) (v:Value) (vs:List Value),k<=n/\n<g+k/\ix=.int .i64 k/\v=sl/\zfM zah wr w.heap.size 53 v (zfP (L.take k)) vs/\Below w.heap.size w wr)
 case atStart=>exact⟨0,_,_,Nat.zero_le _,by omega,rfl,rfl,zfM.nil _ _ _,hB⟩
 case round=>
  clear hB
  obtain⟨k,v,vs,hkn,hg,rfl,rfl,hon,hB⟩:=hrel
  by_cases hlt:k<n
  ·obtain⟨hi1',hi2',ad,rfl,hadb,hc0,hc1⟩:=HG.out k hlt
   have HSK:=lh9 (HS.out k hlt)
   obtain⟨q,hq⟩:∃q,L.getD k (0,0)=q:=⟨_,rfl⟩
   rw [hq] at hi1' hi2' hc0 hc1 HSK
   obtain⟨q1,q2⟩:=q
   dsimp only at hi1' hi2' hc0 hc1 HSK
   have hc0:=zac hB hc0
   have hc1:=zhN (zac hB hc1)
   have hd1:decide ((k:Int)<(n:Int))=true:=decide_eq_true (by omega)
   have i1:(0:Int)<=(k:Int):=by omega
   have i2:(k:Int)<(n:Int):=by omega
   have HON0:=lh9 hon
   have HB0:=lh9 hB
   have HI1:=lh9 hi1'
   have HI2:=lh9 hi2'
   have hlq:(zfP (L.take k)).length=k:=by rw [zgH,List.length_take,HL.out];omega
   have HLQ:=lh9 hlq
   clear hon hB hi1' hi2' hq hlq
   go_wp2_with fail
   (with_reducible refine(zoT (HT.out _ HB0.out) HI1.out HI2.out).mono ?_)
   rintro e w5 ⟨b5,B5,m5,d5,E5,u5,f5,rfl,hx5,hb⟩
   obtain⟨t1,t2,_⟩:=zax w5 53 #[.bool b5,.slice B5 m5 d5,.slice E5 u5 f5]
   obtain⟨t20,t21,t22⟩:=t2.c3
   have hup:=zaa hb t1
   have hon:=zfM.below zaf HON0.out hup
   have HX:=lh9 (hx5.below t1)
   have HB:=lh9 (zaa HB0.out hup)
   have hcell:∀j u,[Value.bool b5,.slice B5 m5 d5,.slice E5 u5 f5][j]?=some u->(w5.alloc (.cells #[.bool b5,.slice B5 m5 d5,.slice E5 u5 f5] 53)).cell? ((⟨w5.heap.size,0,none⟩:Addr).add j)=some u:=λj u hu=>by
    rw [zaO]
    match j,hu with
    |0,hu=>simp at hu;subst hu;exact t2.cell 0
    |1,hu=>simp at hu;subst hu;exact t2.cell 1
    |2,hu=>simp at hu;subst hu;exact t2.cell 2
   have HCELL:=lh9 hcell
   have HONE:Hid (∀u ∈ [Value.bool b5,.slice B5 m5 d5,.slice E5 u5 f5],u.oneCell'=true):=by intro u hu;simp at hu;rcases hu with rfl|rfl|rfl<;>rfl
   have HNN:Hid (∀u ∈ [Value.bool b5,.slice B5 m5 d5,.slice E5 u5 f5],NoIV u):=by intro u hu y z;simp at hu;rcases hu with rfl|rfl|rfl<;>(intro h9;cases h9)
   have HZN:Hid (∀u ∈(Value.agg #[.bool false,.slice none 0 0,.slice none 0 0]).cells.toList,NoIV u):=by intro u hu y z;simp [Value.cells] at hu;rcases hu with rfl|rfl<;>(intro h9;cases h9)
   have HBS:Hid (w.heap.size<=(w5.alloc (.cells #[.bool b5,.slice B5 m5 d5,.slice E5 u5 f5] 53)).heap.size):=HB.out.size
   have hown:=hon.own
   rw [HLQ.out] at hown
   have HOWN:=lh9 hown
   have HNOU:=lh9 hon.nou
   have HON:=lh9 hon
   have HOB:=lh9 (λr (h:v.ownBlock=some r)=>hon.own.lt r h)
   clear hb hup hx5 hcell hon t1 t2 hc0 hc1 t20 t21 t22 hown
   go_wp2_with (at_builtin;go_loud (refine zgT _ rfl (.tmp 11) (.tmp 17) 71 rfl w.heap.size 53 i1' (.agg #[.bool false,.slice none 0 0,.slice none 0 0]) 3 56 Tryz.underlying71 hi1 hz10 hz11 hz12 rfl (by decide) v k vs rfl HOWN.out ⟨w5.heap.size,0,none⟩ 1 1 [.bool b5,.slice B5 m5 d5,.slice E5 u5 f5] rfl rfl HCELL.out HONE.out (by unfold maxLen;omega) (by omega) HBS.out HNOU.out HZN.out HNN.out ?_;intro v' w8 hown' hgrow hat hnou';have HON8:=lh9 (zfM.grow (n:=k+1) zaf HON.out HX.out hown' (by rw [HLQ.out]) hgrow hnou');have HB8:=lh9 (HB.out.grown hgrow HBS.out (λr hr=>(HOB.out r hr).1));clear hown' hgrow hat hnou'))
   rw [<-HSK.out] at HON8
   go_roundg (n - k)
   case measure=>omega
   case rel=>exact⟨k+1,_,_,by omega,by omega,by go_num,rfl,HON8.out,HB8.out⟩
  ·have hd1:decide ((k:Int)<(n:Int))=false:=decide_eq_false (by omega)
   have hk:k=n:=by omega
   subst hk
   rw [List.take_of_length_le (by rw [HL.out];exact Nat.le_refl _)] at hon
   have hlq:(zfP L).length=k:=by rw [zgH];exact HL.out
   obtain⟨A1,c1,rfl,hv,hf⟩:=hon.shape
   rw [hlq] at hv⊢
   have HV:=lh9 hv
   have HF:=lh9 hf
   have HB1:=lh9 hB
   clear hon hv hB hlq hf
   go_wp2
   go_ret
   exact⟨A1,c1,rfl,HV.out,HF.out,HB1.out⟩
section
variable {K:Nat}{xs:List Rat}{A:oA9}{n c:Nat}{w:World}
theorem zmf {z:Int}(hz:zec xs=z)(hT:zai w)(ha:zaC w A n c xs)(hx:zar K xs)(hn:n<=1073741824:=by omega)(hK:K<=67108864:=by omega):
  Calls Tryz.prog 101 #[.slice A n c] w (zcf w z):=by
 have hla:=ha.len
 have HLA:=lh9 hla
 have HZ:=lh9 hz
 have HSX:Hid (∀i,i<n->SzQ K (xs.getD i 0)):=λi hi=>hx.at_ (by omega)
 unfold zcf
 have HA:=lh9 ha
 have HT:=lh9 (λw' (hb:Below w.heap.size w w')=>hT.on hb)
 clear hT ha hx hla hz
 have hB:=Below.refl w.heap.size w
 have i0:(0:Int)<=(n:Int):=by omega
 go_enter Tryz.func101,Tryz.ntmps101
 go_wp2_with fail
 go_loopg [7] (n+1) (λg ix wr=>∃(k:Nat),k<=n/\n<g+k/\ix=.int .i64 k/\Hid (∀j,j<k->xs.getD j 0=0)/\Below w.heap.size w wr)
 case atStart=>exact⟨0,Nat.zero_le _,by omega,rfl,λj hj=>by omega,hB⟩
 case round=>
  clear hB
  obtain⟨k,hkn,hg,rfl,hz0,hB⟩:=hrel
  by_cases hlt:k<n
  ·obtain⟨ad,b1,B1,m1,d1,E1,u1,v1,rfl,-,hc0,hc1,hc2,hx⟩:=HA.out.get hB hlt
   have hd1:decide ((k:Int)<(n:Int))=true:=decide_eq_true (by omega)
   have i1:(0:Int)<=(k:Int):=by omega
   have i2:(k:Int)<(n:Int):=by omega
   obtain⟨st,d3,d4⟩:=zax wr 53 #[.bool b1,.slice B1 m1 d1,.slice E1 u1 v1]
   obtain⟨p0,p1,p2⟩:=d3.c3
   have HX:=lh9 (hx.below st)
   have HB1:=lh9 (zaa hB st)
   clear hx hB st d3 d4
   by_cases h0:xs.getD k 0=0
   ·have HQ:=lh9 (decide_eq_true h0)
    have HZ1:Hid (∀j,j<k+1->xs.getD j 0=0):=λj hj=>by
     by_cases e:j=k
     ·rw [e];exact h0
     ·exact hz0 j (by omega)
    clear h0
    go_wp2_with fail
    (with_reducible refine(ziK HQ.out (HT.out _ HB1.out) HX.out (HSX.out k hlt) hK).mono ?_)
    rintro e w3 ⟨rfl,hb⟩
    have HB2:=lh9 (zaa HB1.out hb)
    clear hb hc0 hc1 hc2 p0 p1 p2 HX HB1
    go_wp2
    go_roundg (n - k)
    case measure=>omega
    case rel=>exact⟨k+1,by omega,by omega,by go_num,HZ1,HB2.out⟩
   ·have HQ:=lh9 (decide_eq_false h0)
    have HF:Hid ((k:Int)=z):=by
     have:=HLA.out
     show _=_
     rw [<-HZ.out,zoM (by omega) hz0.out h0]
    clear h0
    go_wp2_with fail
    (with_reducible refine(ziK HQ.out (HT.out _ HB1.out) HX.out (HSX.out k hlt) hK).mono ?_)
    rintro e w3 ⟨rfl,hb⟩
    have HB2:=lh9 (zaa HB1.out hb)
    clear hb hc0 hc1 hc2 p0 p1 p2 HX HB1
    go_wp2
    go_ret
    exact⟨by rw [<-HF.out];rfl,HB2.out⟩
  ·have hd1:decide ((k:Int)<(n:Int))=false:=decide_eq_false (by omega)
   have HF:Hid (-1=z):=by
    have:=HLA.out
    show _=_
    rw [<-HZ.out,zlm (λj hj=>hz0.out j (by omega))]
   have HB2:=lh9 hB
   clear hB
   go_wp2
   go_ret
   exact⟨by rw [<-HF.out];rfl,HB2.out⟩
theorem vec_zero {t:Bool}(e:decide (zec xs<0)=t)(hT:zai w)(ha:zaC w A n c xs)(hx:zar K xs)(hn:n<=1073741824:=by omega)(hK:K<=67108864:=by omega):
  Calls Tryz.prog 45 #[.slice A n c] w (λe w'=>e=.returned (.bool t)/\Below w.heap.size w w'):=by
 obtain⟨z,hz⟩:∃z,zec xs=z:=⟨_,rfl⟩
 have H:=lh9 (zmf hz hT ha hx hn hK)
 rw [hz] at e
 subst e
 clear hz hT ha hx
 go_enter Tryz.func45,Tryz.ntmps45
 go_wp2_with fail
 refine H.out.mono ?_
 rintro e w1 ⟨rfl,hb⟩
 go_wp2
 go_ret
 exact⟨rfl,hb⟩
end
