/- What this claim leans on. -/
import Derived.Test.YtghpdeciaaagnaaGreatDoorIVTimes
namespace Go.Proofs.YtghpdeciaaagnaaGreatDoor
open Go Go.RowKit
set_option maxHeartbeats 16000000
set_option maxRecDepth 100000
set_option linter.unusedVariables false
set_option linter.unusedSimpArgs false
theorem zhC (n m:Nat)(f:Nat->Nat->Rat):(zdh n m f).length=n:=by simp [zdh]
theorem zke {n m:Nat}(f:Nat->Nat->Rat){r:Nat}(h:r<n):(zdh n m f)[r]?=some ((List.range m).map (f r)):=by
 unfold zdh
 rw [List.getElem?_map,List.getElem?_range h]
 rfl
theorem zoN (m:Nat)(f:Nat->Rat):((List.range m).map f).length=m:=by simp
theorem zoM {m:Nat}(f:Nat->Rat){c:Nat}(h:c<m):((List.range m).map f)[c]?=some (f c):=by
 rw [List.getElem?_map,List.getElem?_range h]
 rfl
theorem zhp {w:World}{g n m:Nat}{M:List (List Rat)}(h:zaC (zaI zah) w 61 g n M)(hd:zaN M n m)(hn:n<=64)(hm:m<=64):zaR w (some ⟨g,0,none⟩) n n m M:=⟨hd,Nat.le_refl _,by omega,hn,hm,h.rows,λad e=>by obtain⟨cs,hk,_⟩:=h.blk;injection e with e;subst e;exact⟨cs,hk⟩⟩
def GivesAt (f:Nat->Nat->Rat)(F:FuncId)(cap:Array Value)(n m:Nat)(w:World):Prop:=
 (∀ (args : Array Value) (w' : World),Sem.run Tryz.prog (callFunc F args) w' = .ok (.enter F args) w') ∧
   ∀r c,r<n->c<m->∀w',Below w.heap.size w w'->Calls Tryz.prog F (#[.int .i64 (r:Int),.int .i64 (c:Int)]++cap) w' (zaH w' (f r c))
theorem zhm {K:Nat}(f:Nat->Nat->Rat)(F:FuncId)(cap:Array Value)(n m:Nat)(w:World)(hT:zai w)(hG:GivesAt f F cap n m w)(hS:∀r c,r<n->c<m->SzQ K (f r c))(hn:n<=64:=by omega)(hm:m<=64:=by omega)(hK:K+2<=67108864:=by omega):
  Calls Tryz.prog 94 #[.int .i64 (n:Int),.int .i64 (m:Int),.func (.func F) #[] cap] w (zcm w n m (zdh n m f)):=by
 obtain⟨hEn,hF⟩:=hG
 have HF:=lh9 hF
 have HT:=lh9 (λw' (hb:Below w.heap.size w w')=>hT.on hb)
 have HLM:=lh9 (zhC n m f)
 have HGM:Hid (∀r,r<n->(zdh n m f)[r]?=some ((List.range m).map (f r))):=λr hr=>zke f hr
 have HGR:Hid (∀r c,c<m->((List.range m).map (f r))[c]?=some (f r c)):=λr c hc=>zoM (f r) hc
 have HLR:Hid (∀r,((List.range m).map (f r)).length=m):=λr=>zoN m (f r)
 have HSR:Hid (∀r,r<n->zau K ((List.range m).map (f r))):=λr hr x hx=>by
  obtain⟨c,hc,rfl⟩:=List.mem_map.1 hx
  exact hS r c hr (List.mem_range.1 hc)
 have HDM:=lh9 (zcq n m f)
 obtain⟨ROW,hROW⟩:∃ROW:Nat->List Rat,(λr=>(List.range m).map (f r))=ROW:=⟨_,rfl⟩
 have hROW2:∀r,(List.range m).map (f r)=ROW r:=λr=>by rw [<-hROW]
 simp only [hROW2] at HGM HGR HLR HSR
 obtain⟨M,hM⟩:∃M,zdh n m f=M:=⟨_,rfl⟩
 rw [hM] at HLM HGM HDM⊢
 obtain⟨Z,hZ⟩:=zdC m (by omega)
 have HMK:∀W,(Instr.makeSlice 61 (.int .i64 (m:Int)) (.int .i64 (m:Int))).run Tryz.prog W=.ok (.slice (some ⟨W.heap.size,0,none⟩) m m) (W.alloc (.cells Z 41)):=λW=>(hZ W).1
 have HOWN:=lh9 (λW=>(hZ W).2)
 obtain⟨Y,hY⟩:=zgf n (by omega)
 have HMKV:∀W,(Instr.makeSlice 26 (.int .i64 (n:Int)) (.int .i64 (n:Int))).run Tryz.prog W=.ok (.slice (some ⟨W.heap.size,0,none⟩) n n) (W.alloc (.cells Y 61)):=λW=>(hY W).1
 have HOWNV:=lh9 (λW=>(hY W).2)
 obtain⟨b1,b2,b3,b4,b5⟩:=zbL w 28 61 28 #[.slice none 0 0,.int .i64 0] Y #[.slice (some ⟨w.heap.size+1,0,none⟩) n n,.int .i64 (m:Int)]
 clear hT hF hS hROW hROW2 hM hZ hY
 unfold zcm
 have i0:(0:Int)<=(n:Int):=by omega
 have i1:(0:Int)<=(m:Int):=by omega
 go_enter Tryz.func94,Tryz.ntmps94
 go_wp2_with fail
 have hrow:zaC (zaI zah) (((w.alloc (.cells #[.slice none 0 0,.int .i64 0] 28)).alloc (.cells Y 61)).alloc (.cells #[.slice (some ⟨w.heap.size+1,0,none⟩) n n,.int .i64 (m:Int)] 28)) 61 (w.heap.size+1) n (zbR [] M n 0):=by
  have h1:=HOWNV.out (w.alloc (.cells #[.slice none 0 0,.int .i64 0] 28))
  have e1:(w.alloc (.cells #[.slice none 0 0,.int .i64 0] 28)).heap.size=w.heap.size+1:=by simp
  rw [e1] at h1
  rw [zbh]
  exact h1.below (zam zaf) (zav _ _ _).1
 clear b3 HOWNV HMKV
 obtain⟨g0,hg0⟩:∃g,w.heap.size=g:=⟨_,rfl⟩
 have hwg:w.heap.size<=g0:=by omega
 rw [hg0] at hrow b1 b2 b4 b5⊢
 generalize ((w.alloc (.cells #[.slice none 0 0,.int .i64 0] 28)).alloc (.cells Y 61)).alloc (.cells #[.slice (some ⟨g0+1,0,none⟩) n n,.int .i64 (m:Int)] 28)=W1 at*
 rw [<-hg0] at b1
 clear hg0
 go_loopg [18] (n+1) (λg ix wr=>∃(k:Nat),k<=n/\n<g+k/\ix=.int .i64 k/\zaC (zaI zah) wr 61 (g0+1) n (zbR [] M n k)/\Below w.heap.size w wr/\Blk wr g0 28 #[.slice none 0 0,.int .i64 0]/\Blk wr (g0+1+1) 28 #[.slice (some ⟨g0+1,0,none⟩) n n,.int .i64 (m:Int)])
 case atStart=>exact⟨0,Nat.zero_le _,by omega,rfl,hrow,b1,b2,b4⟩
 case round=>
  clear hrow b1 b2 b4 b5
  obtain⟨k,hkn,hg,rfl,hrow,hB,hk0,hk2⟩:=hrel
  obtain⟨wo,hwo⟩:∃wo,wo=wr:=⟨_,rfl⟩
  subst hwo
  by_cases hlt:k<n
  ·have hd1:decide ((k:Int)<(n:Int))=true:=decide_eq_true (by omega)
   have i2:(0:Int)<=(k:Int):=by omega
   have i3:(k:Int)<(n:Int):=by omega
   have hg1:=hrow.lt
   have HROW:=lh9 hrow
   have HB:=lh9 hB
   have HK0:=lh9 hk0
   have HK2:=lh9 hk2
   have HGRK:=lh9 (HGR.out k)
   have HLRK:=lh9 (HLR.out k)
   have HSRK:=lh9 (HSR.out k hlt)
   have HGMK:=lh9 (HGM.out k hlt)
   obtain⟨R,hR⟩:∃R,ROW k=R:=⟨_,rfl⟩
   rw [hR] at HGRK HLRK HSRK HGMK
   clear hrow hB hk0 hk2 hR
   go_wp2_with fail
   have hin:=HOWN.out wo
   have hb1:Below wo.heap.size wo (wo.alloc (.cells Z 41)):=(Below.refl _ wo).alloc (Nat.le_refl _) _
   rw [<-zbh 0 R m] at hin
   obtain⟨gr,hgr⟩:∃g,wo.heap.size=g:=⟨_,rfl⟩
   have hwr:wo.heap.size<=gr:=by omega
   rw [hgr] at hin⊢
   generalize wo.alloc (.cells Z 41)=W2 at*
   clear hgr
   go_loopg [25] (m+1) (λg jx wr=>∃(j:Nat),j<=m/\m<g+j/\jx=.int .i64 j/\zbU wr gr m (zbR 0 R m j)/\Below wo.heap.size wo wr)
   case atStart=>exact⟨0,Nat.zero_le _,by omega,rfl,hin,hb1⟩
   case round=>
    clear hin hb1
    obtain⟨j,hjm,hg2,rfl,hin,hb1⟩:=hrel
    by_cases hjl:j<m
    ·have hd2:decide ((j:Int)<(m:Int))=true:=decide_eq_true (by omega)
     have i4:(0:Int)<=(j:Int):=by omega
     have i5:(j:Int)<(m:Int):=by omega
     have HIN:=lh9 hin
     have HB1:=lh9 hb1
     have HGJ:=lh9 (HGRK.out j hjl)
     clear hin hb1
     go_wp2_with fail
     refine(HF.out k j hlt hjl _ (zab HB.out HB1.out)).mono ?_
     rintro e w3 ⟨b3,A3,n3,c3,E3,k3,f3,rfl,hw3,hb⟩
     have hr3:=HIN.out.keep hb
     have hr4:=zbm.set_ zaf hr3 hjl hw3
     rw [zbt 0 R m j HLRK.out hjl _ HGJ.out] at hr4
     obtain⟨q0,q1,q2,sc0,sf0,sc1,sf1,sc2,sf2⟩:=hr3.ready hjl (.bool b3) (.slice A3 n3 c3)
     have HR4:=lh9 hr4
     have HB4:=lh9 (zbH (j*3) (j*3+1) (j*3+2) (.bool b3) (.slice A3 n3 c3) (.slice E3 k3 f3) hwr (zab HB1.out hb))
     clear hr3 hr4 hb hw3 HIN HB1
     go_wp2
     go_roundg (m - j)
     case measure=>omega
     case rel=>exact⟨j+1,by omega,by omega,by go_num,HR4.out,HB4.out⟩
    ·have hj:j=m:=by omega
     subst hj
     have hd2:decide ((j:Int)<(j:Int))=false:=by simp
     have HV:=lh9 (zaJ (zbs 0 R j HLRK.out▸hin))
     have hz2:=zaa hb1 HK2.out
     have HROW1:=lh9 (HROW.out.below (zam zaf) hb1)
     have HB2:=lh9 (zab HB.out hb1)
     have HK01:=lh9 (zaa hb1 HK0.out)
     have HK21:=lh9 hz2
     obtain⟨p0,p1⟩:=hz2.c2
     have hbd:=(Below.refl wr.heap.size wr).drew
     clear hin hb1
     go_wp2_with fail
     refine rg (csc p0 csn) (λhHeld=>?_)
     clear p0 p1
     have HV:=lh9 (HV.out.keep hbd)
     have HROW1:=lh9 (HROW1.out.below (zam zaf) hbd)
     have HB2:=lh9 (zab HB2.out hbd)
     have HK01:=lh9 (zaa hbd HK01.out)
     have HK21:=lh9 (zaa hbd HK21.out)
     clear hbd
     generalize wr.drew=D at*
     refine tk 0 ?_
     refine tk 1 ?_
     refine tk 2 ?_
     refine tk 3 ?_
     refine rc 4 (λKK hK9=>?_)
     go_simp
     (with_reducible refine(znC (HT.out _ HB2.out) HV.out HSRK.out).mono ?_)
     rintro e w5 ⟨g5,rfl,hg5,ho5,hb⟩
     refine hK9.out _ _ (Cs.below hHeld hb) (λhHeld=>?_)
     clear hK9 KK
     have hr5:=HROW1.out.below (zam zaf) hb
     have hr6:=zaC.set_ (zam zaf) hr5 hlt (zaJ ho5) HLRK.out
     rw [zbt [] M n k HLM.out hlt _ HGMK.out] at hr6
     obtain⟨q0,sc0,sf0⟩:=hr5.ready hlt
     have hne:g0+1+1≠g0+1:=by omega
     have HR6:=lh9 hr6
     have HB6:=lh9 (zae (p:=⟨g0+1,k,none⟩) (.slice (some ⟨g5,0,none⟩) j j) (show w.heap.size<=g0+1 by omega) (zab HB2.out hb))
     have HK06:=lh9 (Blk.far (p:=⟨g0+1,k,none⟩) (zaa hb HK01.out) (by show g0≠g0+1;omega) (.slice (some ⟨g5,0,none⟩) j j))
     have HK26:=lh9 (Blk.far (p:=⟨g0+1,k,none⟩) (zaa hb HK21.out) (by show g0+1+1≠g0+1;omega) (.slice (some ⟨g5,0,none⟩) j j))
     clear hb hr5 hr6 ho5 HROW1 HB2 HK01 HK21 HV
     refine tk 5 ?_
     refine rc 6 (λKK hK9=>?_)
     go_simp
     refine hK9.out _ _ ?_ (λhHeld=>?_)
     ·refine Cs.far hHeld ((zbj.refl (g0+1) _).set_ k _) ⟨?_,trivial⟩
      show g0+1+1≠g0+1
      omega
     clear hK9 KK
     refine rdn ?_
     clear hHeld sc0 sf0
     go_wp2
     go_roundg (n - k)
     case measure=>omega
     case rel=>exact⟨k+1,by omega,by omega,by go_num,HR6.out,HB6.out,HK06.out,HK26.out⟩
  ·have hk:k=n:=by omega
   subst hk
   have hd1:decide ((k:Int)<(k:Int))=false:=by simp
   have HM:=lh9 (zhp (zbs [] M k HLM.out▸hrow) HDM.out hn hm)
   obtain⟨p0,p1⟩:=hk2.c2
   obtain⟨sc0,sf0,sc1,sf1⟩:=st2 hk0 (.slice (some ⟨g0+1,0,none⟩) k k)
   obtain⟨r0,r1⟩:=(sn2 hk0 (.slice (some ⟨g0+1,0,none⟩) k k) (.int .i64 (m:Int))).c2
   have HG:=lh9 (gm2 HM.out (λad e=>by injection e with e;subst e;show g0<g0+1;omega) hk0 hB hwg)
   unfold zcm at HG
   clear hrow hB hk0 hk2
   go_wp2
   refine bodyPost_ret (v:=.agg #[.slice (some ⟨g0+1,0,none⟩) k k,.int .i64 (m:Int)]) (by simp [results,Tryz.results94,go_sem,r0,r1]) rfl ?_
   exact HG.out
theorem zkU (z:Int)(w:World):Calls Tryz.prog 193 #[.int .i64 z] w (λe w'=>e=.returned (.bool false)/\w=w'):=by
 have h1:(z !=z)=false:=by simp
 go_enter Tryz.func193,Tryz.ntmps193
 go_wp2
 go_ret
 exact⟨rfl,rfl⟩
theorem zmC (n m:Nat)(w:World):Calls Tryz.prog 156 #[.int .i64 (n:Int),.int .i64 (m:Int)] w (λe w'=>e=.returned (.int .i64 (cmpN n m))/\w=w'):=by
 have H1:=lh9 (zkU (n:Int) w)
 have H2:=lh9 (zkU (m:Int) w)
 unfold cmpN
 by_cases h1:n<m
 ·have hd:decide ((n:Int)<(m:Int))=true:=decide_eq_true (by omega)
  have hd':decide (n<m)=true:=decide_eq_true (by omega)
  rw [if_pos h1]
  go_enter Tryz.func156,Tryz.ntmps156
  go_wp2_with fail
  refine H1.out.mono ?_
  rintro e w1 ⟨rfl,rfl⟩
  go_wp2_with fail
  refine H2.out.mono ?_
  rintro e w1 ⟨rfl,rfl⟩
  go_wp2
  go_ret
  exact⟨rfl,rfl⟩
 ·have hd:decide ((n:Int)<(m:Int))=false:=decide_eq_false (by omega)
  have hd':decide (n<m)=false:=decide_eq_false (by omega)
  rw [if_neg h1]
  by_cases h2:n=m
  ·rw [if_pos h2]
   have hd2:decide ((m:Int)<(n:Int))=false:=decide_eq_false (by omega)
   have hd3:decide ((n:Int)>(m:Int))=false:=decide_eq_false (by omega)
   have hd4:decide (m<n)=false:=decide_eq_false (by omega)
   clear h1 h2
   go_enter Tryz.func156,Tryz.ntmps156
   go_wp2_with fail
   refine H1.out.mono ?_
   rintro e w1 ⟨rfl,rfl⟩
   go_wp2_with fail
   refine H2.out.mono ?_
   rintro e w1 ⟨rfl,rfl⟩
   go_wp2
   go_ret
   exact⟨rfl,rfl⟩
  ·rw [if_neg h2]
   have hd2:decide ((m:Int)<(n:Int))=true:=decide_eq_true (by omega)
   have hd3:decide ((n:Int)>(m:Int))=true:=decide_eq_true (by omega)
   have hd4:decide (m<n)=true:=decide_eq_true (by omega)
   clear h1 h2
   go_enter Tryz.func156,Tryz.ntmps156
   go_wp2_with fail
   refine H1.out.mono ?_
   rintro e w1 ⟨rfl,rfl⟩
   go_wp2_with fail
   refine H2.out.mono ?_
   rintro e w1 ⟨rfl,rfl⟩
   go_wp2
   go_ret
   exact⟨rfl,rfl⟩
section
variable {K K':Nat}{xs ys:List Rat}{A B:oA9}{n n' c d:Nat}{w:World}
theorem zrm {z:Int}(hz:zeY xs ys=z)(hT:zai w)(ha:zaz w A n c xs)(hb:zaz w B n' d ys)(hx:zau K xs)(hy:zau K' ys)(hn:n<=1073741824:=by omega)(hn':n'<=1073741824:=by omega)(hK:K<=67108864:=by omega)(hK':K'<=67108864:=by omega):
  Calls Tryz.prog 119 #[.slice A n c,.slice B n' d] w (zcH w z):=by
 have hla:=ha.len
 have hlb:=hb.len
 have HLA:=lh9 hla
 have HLB:=lh9 hlb
 have HZ:=lh9 hz
 have HSX:Hid (∀i,i<n->SzQ K (xs.getD i 0)):=λi hi=>hx.at_ (by omega)
 have HSY:Hid (∀i,i<n'->SzQ K' (ys.getD i 0)):=λi hi=>hy.at_ (by omega)
 unfold zcH
 have HA:=lh9 ha
 have HB9:=lh9 hb
 have HT:=lh9 (λw' (hb:Below w.heap.size w w')=>hT.on hb)
 clear hT ha hb hx hy hla hlb hz
 have hB:=Below.refl w.heap.size w
 have i0:(0:Int)<=(n:Int):=by omega
 obtain⟨N,hN⟩:∃N,min n n'=N:=⟨_,rfl⟩
 have hNn:N<=n:=by omega
 have hNm:N<=n':=by omega
 have HN:=lh9 hN
 have hmn1:min (n:Int) (n':Int)=(N:Int):=by omega
 have hmn2:(if (n':Int)<(n:Int) then(n':Int) else(n:Int))=(N:Int):=by split<;>omega
 have hmn3:(if n'<n then(n':Int) else(n:Int))=(N:Int):=by split<;>omega
 clear hN
 go_enter Tryz.func119,Tryz.ntmps119
 go_wp2_with fail
 clear hmn1 hmn2 hmn3
 go_loopg [11] (N+1) (λg ix wr=>∃(k:Nat),k<=N/\N<g+k/\ix=.int .i64 k/\Hid (zeY (xs.drop k) (ys.drop k)=z)/\Below w.heap.size w wr)
 case atStart=>exact⟨0,Nat.zero_le _,by omega,rfl,HZ,hB⟩
 case round=>
  clear hB
  obtain⟨k,hkn,hg,rfl,hz0,hB⟩:=hrel
  by_cases hlt:k<N
  ·have hltn:k<n:=by omega
   have hltm:k<n':=by omega
   obtain⟨ad,b1,B1,m1,d1,E1,u1,v1,rfl,-,hc0,hc1,hc2,hx⟩:=HA.out.get hB hltn
   obtain⟨ae,b2,B2,m2,d2,E2,u2,v2,rfl,-,he0,he1,he2,hy⟩:=HB9.out.get hB hltm
   have hd1:decide ((k:Int)<(N:Int))=true:=decide_eq_true (by omega)
   have i1:(0:Int)<=(k:Int):=by omega
   have i2:(k:Int)<(n:Int):=by omega
   have i3:(k:Int)<(n':Int):=by omega
   have HX:=lh9 hx
   have HY:=lh9 hy
   have HB1:=lh9 hB
   have hlx:k<xs.length:=by have:=HLA.out;omega
   have hly:k<ys.length:=by have:=HLB.out;omega
   clear hx hy hB
   by_cases h0:xs.getD k 0=ys.getD k 0
   ·have HQ:=lh9 (decide_eq_true h0)
    have HZ1:Hid (zeY (xs.drop (k+1)) (ys.drop (k+1))=z):=by
     show _=_
     rw [<-zjf hlx hly h0];exact hz0.out
    clear h0 hlx hly
    go_wp2_with fail
    have hBw:=(Below.refl wr.heap.size wr).drew
    refine rg (csc hc0 (csc hc1 (csc hc2 (csc he0 (csc he1 (csc he2 csn)))))) (λhHeld=>?_)
    refine tk 0 ?_
    refine tk 1 ?_
    refine tk 2 ?_
    refine tk 3 ?_
    refine tk 4 ?_
    refine tk 5 ?_
    refine tk 6 ?_
    refine tk 7 ?_
    refine rc 8 (λKK hK9=>?_)
    go_simp
    (with_reducible refine(zfM HQ.out (HT.out _ (zab HB1.out hBw)) (HX.out.below hBw) (HY.out.below hBw) (HSX.out k hltn) (HSY.out k hltm) hK hK').mono ?_);rintro e wa ⟨rfl,hb⟩;have hBw:=zab hBw hb;refine hK9.out _ _ (Cs.below hHeld hb) (λhHeld=>?_);clear hK9 KK hb
    refine tk 9 ?_
    refine rdn ?_
    have HB2:=lh9 (zab HB1.out hBw)
    clear hHeld hBw hc0 hc1 hc2 he0 he1 he2 HX HY HB1
    go_wp2
    go_roundg (N - k)
    case measure=>omega
    case rel=>exact⟨k+1,by omega,by omega,by go_num,HZ1,HB2.out⟩
   ·have HQ:=lh9 (decide_eq_false h0)
    have HF:Hid (zgG (xs.getD k 0) (ys.getD k 0)=z):=by
     show _=_
     rw [<-ziw hlx hly h0];exact hz0.out
    clear h0 hlx hly
    go_wp2_with fail
    have hBw:=(Below.refl wr.heap.size wr).drew
    refine rg (csc hc0 (csc hc1 (csc hc2 (csc he0 (csc he1 (csc he2 csn)))))) (λhHeld=>?_)
    refine tk 0 ?_
    refine tk 1 ?_
    refine tk 2 ?_
    refine tk 3 ?_
    refine tk 4 ?_
    refine tk 5 ?_
    refine tk 6 ?_
    refine tk 7 ?_
    refine rc 8 (λKK hK9=>?_)
    go_simp
    (with_reducible refine(zfM HQ.out (HT.out _ (zab HB1.out hBw)) (HX.out.below hBw) (HY.out.below hBw) (HSX.out k hltn) (HSY.out k hltm) hK hK').mono ?_);rintro e wa ⟨rfl,hb⟩;have hBw:=zab hBw hb;refine hK9.out _ _ (Cs.below hHeld hb) (λhHeld=>?_);clear hK9 KK hb
    refine tk 9 ?_
    refine rdn ?_
    have HB2:=lh9 (zab HB1.out hBw)
    have HX2:=lh9 (HX.out.below hBw)
    have HY2:=lh9 (HY.out.below hBw)
    obtain⟨c0,c1,c2,e0,e1,e2,-⟩:=hHeld
    clear hBw hc0 hc1 hc2 he0 he1 he2 HX HY HB1
    go_wp2_with fail
    have hBw:=(Below.refl wa.heap.size wa).drew
    refine rg (csc c0 (csc c1 (csc c2 (csc e0 (csc e1 (csc e2 csn)))))) (λhHeld=>?_)
    refine tk 0 ?_
    refine tk 1 ?_
    refine tk 2 ?_
    refine tk 3 ?_
    refine tk 4 ?_
    refine tk 5 ?_
    refine tk 6 ?_
    refine tk 7 ?_
    refine rc 8 (λKK hK9=>?_)
    go_simp
    (with_reducible refine(zct HF.out (q_cmp (HT.out _ (zab HB2.out hBw)) (HX2.out.below hBw) (HY2.out.below hBw) (HSX.out k hltn) (HSY.out k hltm) hK hK')).mono ?_);rintro e wb ⟨rfl,hb⟩;have hBw:=zab hBw hb;refine hK9.out _ _ (Cs.below hHeld hb) (λhHeld=>?_);clear hK9 KK hb
    refine tk 9 ?_
    refine rdn ?_
    have HB3:=lh9 (zab HB2.out hBw)
    clear hHeld hBw c0 c1 c2 e0 e1 e2
    go_wp2
    go_ret
    exact⟨rfl,HB3.out⟩
  ·have hk:k=N:=by omega
   subst hk
   have hd1:decide ((k:Int)<(k:Int))=false:=by simp
   have HF:Hid (cmpN n n'=z):=by
    have h1:=HLA.out
    have h2:=HLB.out
    have h3:=HN.out
    have h4:=hz0.out
    rw [cmpV_end (by rw [h1,h2];exact h3.symm),h1,h2] at h4
    exact h4
   have HB2:=lh9 hB
   have H1:=lh9 (zmC n n' wr)
   rw [HF.out] at H1
   clear hB
   go_wp2_with fail
   refine H1.out.mono ?_
   rintro e w1 ⟨rfl,rfl⟩
   go_wp2
   go_ret
   exact⟨rfl,HB2.out⟩
theorem zfj {t:Bool}(e:decide (xs=ys)=t)(hT:zai w)(ha:zaz w A n c xs)(hb:zaz w B n' d ys)(hx:zau K xs)(hy:zau K' ys)(hn:n<=1073741824:=by omega)(hn':n'<=1073741824:=by omega)(hK:K<=67108864:=by omega)(hK':K'<=67108864:=by omega):
  Calls Tryz.prog 50 #[.slice A n c,.slice B n' d] w (λe w'=>e=.returned (.bool t)/\Below w.heap.size w w'):=by
 obtain⟨z,hz⟩:∃z,zeY xs ys=z:=⟨_,rfl⟩
 have H:=lh9 (zrm hz hT ha hb hx hy hn hn' hK hK')
 have ht:(z==0)=t:=by
  rw [<-e,<-hz]
  by_cases h:xs=ys
  ·rw [decide_eq_true h,(zlC xs ys).2 h];rfl
  ·rw [decide_eq_false h,beq_eq_false_iff_ne]
   exact λh9=>h ((zlC xs ys).1 h9)
 clear hz hT ha hb hx hy e
 have HE:=lh9 ht
 clear ht
 go_enter Tryz.func50,Tryz.ntmps50
 go_wp2_with fail
 refine H.out.mono ?_
 rintro e w1 ⟨rfl,hb⟩
 go_wp2
 go_ret
 exact⟨by rw [<-HE.out];rfl,hb⟩
end
