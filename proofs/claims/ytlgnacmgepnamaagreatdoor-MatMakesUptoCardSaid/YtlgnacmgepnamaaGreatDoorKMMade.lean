/- What this claim leans on. -/
import Derived.Test.YtlgnacmgepnamaaGreatDoorKMRow
namespace Go.Proofs.YtlgnacmgepnamaaGreatDoor
open Go Go.RowKit
set_option maxHeartbeats 16000000
set_option maxRecDepth 100000
set_option linter.unusedVariables false
set_option linter.unusedSimpArgs false
theorem zgE (n m:Nat)(f:Nat->Nat->Rat):(zcn n m f).length=n:=by simp [zcn]
theorem ziG {n m:Nat}(f:Nat->Nat->Rat){r:Nat}(h:r<n):(zcn n m f)[r]?=some ((List.range m).map (f r)):=by
 unfold zcn
 rw [List.getElem?_map,List.getElem?_range h]
 rfl
theorem znr (m:Nat)(f:Nat->Rat):((List.range m).map f).length=m:=by simp
theorem znq {m:Nat}(f:Nat->Rat){c:Nat}(h:c<m):((List.range m).map f)[c]?=some (f c):=by
 rw [List.getElem?_map,List.getElem?_range h]
 rfl
theorem zgu {w:World}{g n m:Nat}{M:List (List Rat)}(h:zaR (zaB zan) w 51 g n M)(hd:zcH M n m)(hn:n<=64)(hm:m<=64):zaI w (some ⟨g,0,none⟩) n n m M:=⟨hd,Nat.le_refl _,by omega,hn,hm,h.rows,λad e=>by obtain⟨cs,hk,_⟩:=h.blk;injection e with e;subst e;exact⟨cs,hk⟩⟩
def GivesAt (f:Nat->Nat->Rat)(F:FuncId)(cap:Array Value)(n m:Nat)(w:World):Prop:=
 (∀ (args : Array Value) (w' : World),Sem.run Tryz.prog (callFunc F args) w' = .ok (.enter F args) w') ∧
   ∀r c,r<n->c<m->∀w',Below w.heap.size w w'->Calls Tryz.prog F (#[.int .i64 (r:Int),.int .i64 (c:Int)]++cap) w' (zaJ w' (f r c))
theorem zeV {K:Nat}(f:Nat->Nat->Rat)(F:FuncId)(cap:Array Value)(n m:Nat)(w:World)(hT:zal w)(hG:GivesAt f F cap n m w)(hS:∀r c,r<n->c<m->SzQ K (f r c))(hn:n<=64:=by omega)(hm:m<=64:=by omega)(hK:K+2<=67108864:=by omega):
  Calls Tryz.prog 52 #[.int .i64 (n:Int),.int .i64 (m:Int),.func (.func F) #[] cap] w (zbP w n m (zcn n m f)):=by
 obtain⟨hEn,hF⟩:=hG
 have HF:=lh9 hF
 have HT:=lh9 (λw' (hb:Below w.heap.size w w')=>hT.on hb)
 have HLM:=lh9 (zgE n m f)
 have HGM:Hid (∀r,r<n->(zcn n m f)[r]?=some ((List.range m).map (f r))):=λr hr=>ziG f hr
 have HGR:Hid (∀r c,c<m->((List.range m).map (f r))[c]?=some (f r c)):=λr c hc=>znq (f r) hc
 have HLR:Hid (∀r,((List.range m).map (f r)).length=m):=λr=>znr m (f r)
 have HSR:Hid (∀r,r<n->zaE K ((List.range m).map (f r))):=λr hr x hx=>by
  obtain⟨c,hc,rfl⟩:=List.mem_map.1 hx
  exact hS r c hr (List.mem_range.1 hc)
 have HDM:=lh9 (zde n m f)
 obtain⟨ROW,hROW⟩:∃ROW:Nat->List Rat,(λr=>(List.range m).map (f r))=ROW:=⟨_,rfl⟩
 have hROW2:∀r,(List.range m).map (f r)=ROW r:=λr=>by rw [<-hROW]
 simp only [hROW2] at HGM HGR HLR HSR
 obtain⟨M,hM⟩:∃M,zcn n m f=M:=⟨_,rfl⟩
 rw [hM] at HLM HGM HDM⊢
 obtain⟨Z,hZ⟩:=zef m (by omega)
 have HMK:∀W,(Instr.makeSlice 51 (.int .i64 (m:Int)) (.int .i64 (m:Int))).run Tryz.prog W=.ok (.slice (some ⟨W.heap.size,0,none⟩) m m) (W.alloc (.cells Z 48)):=λW=>(hZ W).1
 have HOWN:=lh9 (λW=>(hZ W).2)
 obtain⟨Y,hY⟩:=zjv n (by omega)
 have HMKV:∀W,(Instr.makeSlice 26 (.int .i64 (n:Int)) (.int .i64 (n:Int))).run Tryz.prog W=.ok (.slice (some ⟨W.heap.size,0,none⟩) n n) (W.alloc (.cells Y 51)):=λW=>(hY W).1
 have HOWNV:=lh9 (λW=>(hY W).2)
 obtain⟨b1,b2,b3,b4,b5⟩:=zbq w 28 51 28 #[.slice none 0 0,.int .i64 0] Y #[.slice (some ⟨w.heap.size+1,0,none⟩) n n,.int .i64 (m:Int)]
 clear hT hF hS hROW hROW2 hM hZ hY
 unfold zbP
 have i0:(0:Int)<=(n:Int):=by omega
 have i1:(0:Int)<=(m:Int):=by omega
 go_enter Tryz.func52,Tryz.ntmps52
 go_wp2_with fail
 have hrow:zaR (zaB zan) (((w.alloc (.cells #[.slice none 0 0,.int .i64 0] 28)).alloc (.cells Y 51)).alloc (.cells #[.slice (some ⟨w.heap.size+1,0,none⟩) n n,.int .i64 (m:Int)] 28)) 51 (w.heap.size+1) n (zbV [] M n 0):=by
  have h1:=HOWNV.out (w.alloc (.cells #[.slice none 0 0,.int .i64 0] 28))
  have e1:(w.alloc (.cells #[.slice none 0 0,.int .i64 0] 28)).heap.size=w.heap.size+1:=by simp
  rw [e1] at h1
  rw [zby]
  exact h1.below (zay zaq) (zaA _ _ _).1
 clear b3 HOWNV HMKV
 obtain⟨g0,hg0⟩:∃g,w.heap.size=g:=⟨_,rfl⟩
 have hwg:w.heap.size<=g0:=by omega
 rw [hg0] at hrow b1 b2 b4 b5⊢
 generalize ((w.alloc (.cells #[.slice none 0 0,.int .i64 0] 28)).alloc (.cells Y 51)).alloc (.cells #[.slice (some ⟨g0+1,0,none⟩) n n,.int .i64 (m:Int)] 28)=W1 at*
 rw [<-hg0] at b1
 clear hg0
 go_loopg [18] (n+1) (λg ix wr=>∃(k:Nat),k<=n/\n<g+k/\ix=.int .i64 k/\zaR (zaB zan) wr 51 (g0+1) n (zbV [] M n k)/\Below w.heap.size w wr/\Blk wr g0 28 #[.slice none 0 0,.int .i64 0]/\Blk wr (g0+1+1) 28 #[.slice (some ⟨g0+1,0,none⟩) n n,.int .i64 (m:Int)])
 case atStart=>exact⟨0,Nat.zero_le _,by omega,rfl,hrow,b1,b2,b4⟩
 case round=>
  clear hrow b1 b2 b4 b5
  obtain⟨k,hkn,hg,rfl,hrow,hB,hk0,hk2⟩:=hrel
  obtain⟨wo,hwo⟩:∃wo,wo=wr:=⟨_,rfl⟩
  subst hwo
  by_cases hlt:k<n
  ·have hd1:decide ((k:Int)<(n:Int))=true:=decide_eq_true (by omega)
   have i2:(0:Int)<=(k:Int):=by omega
   have i3:(k:Int)<(n:Int):=by omega
   have hg1:=hrow.lt
   have HROW:=lh9 hrow
   have HB:=lh9 hB
   have HK0:=lh9 hk0
   have HK2:=lh9 hk2
   have HGRK:=lh9 (HGR.out k)
   have HLRK:=lh9 (HLR.out k)
   have HSRK:=lh9 (HSR.out k hlt)
   have HGMK:=lh9 (HGM.out k hlt)
   obtain⟨R,hR⟩:∃R,ROW k=R:=⟨_,rfl⟩
   rw [hR] at HGRK HLRK HSRK HGMK
   clear hrow hB hk0 hk2 hR
   go_wp2_with fail
   have hin:=HOWN.out wo
   have hb1:Below wo.heap.size wo (wo.alloc (.cells Z 48)):=(Below.refl _ wo).alloc (Nat.le_refl _) _
   rw [<-zby 0 R m] at hin
   obtain⟨gr,hgr⟩:∃g,wo.heap.size=g:=⟨_,rfl⟩
   have hwr:wo.heap.size<=gr:=by omega
   rw [hgr] at hin⊢
   generalize wo.alloc (.cells Z 48)=W2 at*
   clear hgr
   go_loopg [25] (m+1) (λg jx wr=>∃(j:Nat),j<=m/\m<g+j/\jx=.int .i64 j/\zbZ wr gr m (zbV 0 R m j)/\Below wo.heap.size wo wr)
   case atStart=>exact⟨0,Nat.zero_le _,by omega,rfl,hin,hb1⟩
   case round=>
    clear hin hb1
    obtain⟨j,hjm,hg2,rfl,hin,hb1⟩:=hrel
    by_cases hjl:j<m
    ·have hd2:decide ((j:Int)<(m:Int))=true:=decide_eq_true (by omega)
     have i4:(0:Int)<=(j:Int):=by omega
     have i5:(j:Int)<(m:Int):=by omega
     have HIN:=lh9 hin
     have HB1:=lh9 hb1
     have HGJ:=lh9 (HGRK.out j hjl)
     clear hin hb1
     go_wp2_with fail
     refine(HF.out k j hlt hjl _ (zac HB.out HB1.out)).mono ?_
     rintro e w3 ⟨b3,A3,n3,c3,E3,k3,f3,rfl,hw3,hb⟩
     have hr3:=HIN.out.keep hb
     have hr4:=zbm.set_ zaq hr3 hjl hw3
     rw [zbN 0 R m j HLRK.out hjl _ HGJ.out] at hr4
     obtain⟨q0,q1,q2,sc0,sf0,sc1,sf1,sc2,sf2⟩:=hr3.ready hjl (.bool b3) (.slice A3 n3 c3)
     have HR4:=lh9 hr4
     have HB4:=lh9 (zcb (j*3) (j*3+1) (j*3+2) (.bool b3) (.slice A3 n3 c3) (.slice E3 k3 f3) hwr (zac HB1.out hb))
     clear hr3 hr4 hb hw3 HIN HB1
     go_wp2
     go_roundg (m - j)
     case measure=>omega
     case rel=>exact⟨j+1,by omega,by omega,by go_num,HR4.out,HB4.out⟩
    ·have hj:j=m:=by omega
     subst hj
     have hd2:decide ((j:Int)<(j:Int))=false:=by simp
     have HV:=lh9 (zbl (zbM 0 R j HLRK.out▸hin))
     have hz2:=zae hb1 HK2.out
     have HROW1:=lh9 (HROW.out.below (zay zaq) hb1)
     have HB2:=lh9 (zac HB.out hb1)
     have HK01:=lh9 (zae hb1 HK0.out)
     have HK21:=lh9 hz2
     obtain⟨p0,p1⟩:=hz2.c2
     have hbd:=(Below.refl wr.heap.size wr).drew
     clear hin hb1
     go_wp2_with fail
     refine rg (csc p0 csn) (λhHeld=>?_)
     clear p0 p1
     have HV:=lh9 (HV.out.keep hbd)
     have HROW1:=lh9 (HROW1.out.below (zay zaq) hbd)
     have HB2:=lh9 (zac HB2.out hbd)
     have HK01:=lh9 (zae hbd HK01.out)
     have HK21:=lh9 (zae hbd HK21.out)
     clear hbd
     generalize wr.drew=D at*
     refine tk 0 ?_
     refine tk 1 ?_
     refine tk 2 ?_
     refine tk 3 ?_
     refine rc 4 (λKK hK9=>?_)
     go_simp
     (with_reducible refine(ziL (HT.out _ HB2.out) HV.out HSRK.out).mono ?_)
     rintro e w5 ⟨g5,rfl,hg5,ho5,hb⟩
     refine hK9.out _ _ (Cs.below hHeld hb) (λhHeld=>?_)
     clear hK9 KK
     have hr5:=HROW1.out.below (zay zaq) hb
     have hr6:=zaR.set_ (zay zaq) hr5 hlt (zbl ho5) HLRK.out
     rw [zbN [] M n k HLM.out hlt _ HGMK.out] at hr6
     obtain⟨q0,sc0,sf0⟩:=hr5.ready hlt
     have hne:g0+1+1≠g0+1:=by omega
     have HR6:=lh9 hr6
     have HB6:=lh9 (zag (p:=⟨g0+1,k,none⟩) (.slice (some ⟨g5,0,none⟩) j j) (show w.heap.size<=g0+1 by omega) (zac HB2.out hb))
     have HK06:=lh9 (Blk.far (p:=⟨g0+1,k,none⟩) (zae hb HK01.out) (by show g0≠g0+1;omega) (.slice (some ⟨g5,0,none⟩) j j))
     have HK26:=lh9 (Blk.far (p:=⟨g0+1,k,none⟩) (zae hb HK21.out) (by show g0+1+1≠g0+1;omega) (.slice (some ⟨g5,0,none⟩) j j))
     clear hb hr5 hr6 ho5 HROW1 HB2 HK01 HK21 HV
     refine tk 5 ?_
     refine rc 6 (λKK hK9=>?_)
     go_simp
     refine hK9.out _ _ ?_ (λhHeld=>?_)
     ·refine Cs.far hHeld ((zcV.refl (g0+1) _).set_ k _) ⟨?_,trivial⟩
      show g0+1+1≠g0+1
      omega
     clear hK9 KK
     refine rdn ?_
     clear hHeld sc0 sf0
     go_wp2
     go_roundg (n - k)
     case measure=>omega
     case rel=>exact⟨k+1,by omega,by omega,by go_num,HR6.out,HB6.out,HK06.out,HK26.out⟩
  ·have hk:k=n:=by omega
   subst hk
   have hd1:decide ((k:Int)<(k:Int))=false:=by simp
   have HM:=lh9 (zgu (zbM [] M k HLM.out▸hrow) HDM.out hn hm)
   obtain⟨p0,p1⟩:=hk2.c2
   obtain⟨sc0,sf0,sc1,sf1⟩:=st2 hk0 (.slice (some ⟨g0+1,0,none⟩) k k)
   obtain⟨r0,r1⟩:=(sn2 hk0 (.slice (some ⟨g0+1,0,none⟩) k k) (.int .i64 (m:Int))).c2
   have HG:=lh9 (gm2 HM.out (λad e=>by injection e with e;subst e;show g0<g0+1;omega) hk0 hB hwg)
   unfold zbP at HG
   clear hrow hB hk0 hk2
   go_wp2
   refine bodyPost_ret (v:=.agg #[.slice (some ⟨g0+1,0,none⟩) k k,.int .i64 (m:Int)]) (by simp [results,Tryz.results52,go_sem,r0,r1]) rfl ?_
   exact HG.out
theorem ziI (M:List (List Rat))(v:List Rat):(zbG M v).length=M.length:=by simp [zbG]
theorem znL {M:List (List Rat)}{v:List Rat}{i:Nat}(h:i<M.length):(zbG M v)[i]?=some (zgn (M.getD i []) v):=by
 unfold zbG
 rw [List.getElem?_map,List.getD_eq_getElem?_getD,List.getElem?_eq_getElem h]
 rfl
theorem zml {K K' k:Nat}{M:List (List Rat)}{v:List Rat}(z:zaD K M)(zv:zaE K' v)(hd:∀L ∈ M,L.length=k)(hv:v.length=k):zaE (1+k*(K+K'+1)) (zbG M v):=λx hx=>by
 obtain⟨L,hL,rfl⟩:=List.mem_map.1 hx
 exact dot_sz (hd L hL) hv (z L hL) zv
section
variable {K K':Nat}{w:World}
theorem zij {n k q c:Nat}{Q A:oA9}{Ls:List (List Rat)}{xs:List Rat}(hT:zal w)(h:zaF (zaB zan) w Q n Ls)(hd:∀L ∈ Ls,L.length=k)(hv:zaK w A k c xs)(z:zaD K Ls)(zx:zaE K' xs)(hn:n<=64:=by omega)(hk:k<=64:=by omega)(hK:K<=67108864:=by omega)(hK':K'<=67108864:=by omega)(hS:1+k*(K+K'+1)<=67108864:=by omega):
  Calls Tryz.prog 79 #[.slice Q n q,.slice A k c] w (zeL w n (zbG Ls xs)):=by
 have hl:=h.len
 have HR:=lh9 h
 have HV:=lh9 hv
 have HT:=lh9 (λw' (hb:Below w.heap.size w w')=>hT.on hb)
 have HZ:Hid (∀i,i<n->zaE K (Ls.getD i [])):=λi hi=>z.row (by omega)
 have HD:Hid (∀i,i<n->(Ls.getD i []).length=k):=λi hi=>hd _ (List.mem_of_getElem? (zdh (by omega)))
 have HX:=lh9 zx
 have HLZ:Hid ((zbG Ls xs).length=n):=by show _=_;rw [ziI];exact hl
 have HG:Hid (∀i,i<n->(zbG Ls xs)[i]?=some (zgn (Ls.getD i []) xs)):=λi hi=>znL (by omega)
 have HSS:=lh9 hS
 obtain⟨ys,hys⟩:∃ys,zbG Ls xs=ys:=⟨_,rfl⟩
 rw [hys] at HLZ HG⊢
 obtain⟨Z,hZ⟩:=zef n (by omega)
 have hmk:=λW=>(hZ W).1
 have HOWN:=lh9 (λW=>(hZ W).2)
 clear hT h hd hv z zx hl hys hZ hS
 unfold zeL
 have i0:(0:Int)<=(n:Int):=by omega
 go_enter Tryz.func79,Tryz.ntmps79
 go_wp2_with fail
 clear hmk
 have hrow:=HOWN.out w
 have hB:Below w.heap.size w (w.alloc (.cells Z 48)):=(Below.refl _ w).alloc (Nat.le_refl _) _
 obtain⟨gp,hgp⟩:∃g,w.heap.size=g:=⟨_,rfl⟩
 have hwg:w.heap.size<=gp:=by omega
 rw [hgp] at hrow⊢
 rw [<-zby 0 ys n] at hrow
 generalize w.alloc (.cells Z 48)=W1 at*
 clear hgp HOWN
 go_loopg [13] (n+1) (λg ix wr=>∃(k:Nat),k<=n/\n<g+k/\ix=.int .i64 k/\zbZ wr gp n (zbV 0 ys n k)/\Below w.heap.size w wr)
 case atStart=>exact⟨0,Nat.zero_le _,by omega,rfl,hrow,hB⟩
 case round=>
  clear hrow hB
  obtain⟨i,hkn,hg,rfl,hrow,hB⟩:=hrel
  by_cases hlt:i<n
  ·obtain⟨ad,B,d,rfl,-,hc,hvi⟩:=HR.out.get (zay zaq) hB hlt (HD.out i hlt)
   have hd1:decide ((i:Int)<(n:Int))=true:=decide_eq_true (by omega)
   have i1:(0:Int)<=(i:Int):=by omega
   have i2:(i:Int)<(n:Int):=by omega
   have HROW:=lh9 hrow
   have HVI:=lh9 hvi
   have HB1:=lh9 hB
   clear hvi hrow hB
   go_wp2_with fail
   (with_reducible refine(vec_dot (HT.out _ HB1.out) HVI.out (HV.out.keep HB1.out) (HZ.out i hlt) HX.out (by omega) hK hK' HSS.out).mono ?_)
   rintro e w3 ⟨b3,A3,n3,c3,E3,k3,f3,rfl,hw3,hb⟩
   clear hc
   have hr3:=HROW.out.keep hb
   have hr4:=zbm.set_ zaq hr3 hlt hw3
   rw [zbN 0 ys n i HLZ.out hlt _ (HG.out i hlt)] at hr4
   obtain⟨q0,q1,q2,sc0,sf0,sc1,sf1,sc2,sf2⟩:=hr3.ready hlt (.bool b3) (.slice A3 n3 c3)
   have HR4:=lh9 hr4
   have HB4:=lh9 (zcb (i*3) (i*3+1) (i*3+2) (.bool b3) (.slice A3 n3 c3) (.slice E3 k3 f3) hwg (zac HB1.out hb))
   clear hr3 hr4 hb hw3 HROW HB1 HVI
   go_wp2
   go_roundg (n - i)
   case measure=>omega
   case rel=>exact⟨i+1,by omega,by omega,by go_num,HR4.out,HB4.out⟩
  ·have hk9:i=n:=by omega
   subst hk9
   have hd1:decide ((i:Int)<(i:Int))=false:=by simp
   have HR5:=lh9 (zbM 0 ys i HLZ.out▸hrow)
   have HB1:=lh9 hB
   clear hrow hB
   go_wp2
   go_ret
   exact⟨gp,rfl,hwg,HR5.out,HB1.out⟩
variable {A:oA9}{n c m:Nat}{MM:List (List Rat)}
theorem zii {j:Nat}(h:zaI w A n c m MM)(hj:j<m):
  Calls Tryz.prog 66 #[.agg #[.slice A n c,.int .i64 (m:Int)],.int .i64 (j:Int)] w (zeL w n (zdD n MM j)):=by
 obtain⟨hn,hm⟩:=And.intro h.hn h.hm
 have HR:=λW=>lh9 (zcM A n c (m:Int) W)
 have HM:=lh9 h
 have HLZ:Hid ((zdD n MM j).length=n):=zeQ n MM j
 have HG:Hid (∀i,i<n->(zdD n MM j)[i]?=some (atM MM i j)):=λi hi=>by
  unfold zdD
  rw [List.getElem?_map,List.getElem?_range hi]
  rfl
 obtain⟨ys,hys⟩:∃ys,zdD n MM j=ys:=⟨_,rfl⟩
 rw [hys] at HLZ HG⊢
 obtain⟨Z,hZ⟩:=zef n (by omega)
 have hmk:=λW=>(hZ W).1
 have HOWN:=lh9 (λW=>(hZ W).2)
 obtain⟨bx1,bx2,bz⟩:=zaA w 28 #[.slice A n c,.int .i64 (m:Int)]
 obtain⟨g0,g1⟩:=bx2.c2
 have HB:=lh9 bx1
 have HK:=lh9 bx2
 clear h hys hZ bx1 bx2 bz
 unfold zeL
 have i0:(0:Int)<=(n:Int):=by omega
 go_enter Tryz.func66,Tryz.ntmps66
 go_wp2_with fail
 refine(HR _).out.mono ?_
 rintro e w2 ⟨rfl,hb⟩
 have HB2:=lh9 (zac HB.out hb)
 have hk2:=zae hb HK.out
 have hb3:Below w2.heap.size w2 (w2.alloc (.cells Z 48)):=(Below.refl _ w2).alloc (Nat.le_refl _) _
 have hk3:=zae hb3 hk2
 obtain⟨g0,g1⟩:=hk3.c2
 have hsz:=hk2.lt
 clear hb hk2 hk3 HK HB HR
 go_wp2_with fail
 clear hmk g0 g1
 have hrow:=HOWN.out w2
 have hB:=zac HB2.out hb3
 obtain⟨gp,hgp⟩:∃g,w2.heap.size=g:=⟨_,rfl⟩
 have hwg:w.heap.size<=gp:=by omega
 rw [hgp] at hrow⊢
 rw [<-zby 0 ys n] at hrow
 generalize w2.alloc (.cells Z 48)=W1 at*
 clear hgp HOWN HB2 hb3 hsz
 go_loopg [14] (n+1) (λg ix wr=>∃(k:Nat),k<=n/\n<g+k/\ix=.int .i64 k/\zbZ wr gp n (zbV 0 ys n k)/\Below w.heap.size w wr)
 case atStart=>exact⟨0,Nat.zero_le _,by omega,rfl,hrow,hB⟩
 case round=>
  clear hrow hB
  obtain⟨i,hkn,hg,rfl,hrow,hB⟩:=hrel
  by_cases hlt:i<n
  ·obtain⟨ad,B,d,rfl,-,hc,ae,b3,A3,n3,c3,E3,k3,f3,rfl,-,h0,h1,h2,hw3⟩:=HM.out.place hB hlt hj
   have hd1:decide ((i:Int)<(n:Int))=true:=decide_eq_true (by omega)
   have i1:(0:Int)<=(i:Int):=by omega
   have i2:(i:Int)<(n:Int):=by omega
   have i3:(0:Int)<=(j:Int):=by omega
   have i4:(j:Int)<(m:Int):=by omega
   have hr4:=zbm.set_ zaq hrow hlt hw3
   rw [zbN 0 ys n i HLZ.out hlt _ (HG.out i hlt)] at hr4
   obtain⟨q0,q1,q2,sc0,sf0,sc1,sf1,sc2,sf2⟩:=hrow.ready hlt (.bool b3) (.slice A3 n3 c3)
   have HR4:=lh9 hr4
   have HB4:=lh9 (zcb (i*3) (i*3+1) (i*3+2) (.bool b3) (.slice A3 n3 c3) (.slice E3 k3 f3) hwg hB)
   clear hr4 hw3 hrow hB
   go_wp2
   go_roundg (n - i)
   case measure=>omega
   case rel=>exact⟨i+1,by omega,by omega,by go_num,HR4.out,HB4.out⟩
  ·have hk9:i=n:=by omega
   subst hk9
   have hd1:decide ((i:Int)<(i:Int))=false:=by simp
   have HR5:=lh9 (zbM 0 ys i HLZ.out▸hrow)
   have HB1:=lh9 hB
   clear hrow hB
   go_wp2
   go_ret
   exact⟨gp,rfl,hwg,HR5.out,HB1.out⟩
def zjd (w:World)(n:Nat)(Ls:List (List Rat))(e:Ending)(w':World):Prop:=∃g,e=.returned (.slice (some ⟨g,0,none⟩) n n)/\w.heap.size<=g/\zaR (zaB zan) w' 51 g n Ls/\Below w.heap.size w w'
theorem zhb (h:zaI w A n c m MM):
  Calls Tryz.prog 78 #[.agg #[.slice A n c,.int .i64 (m:Int)]] w (zjd w m (zbW n m MM)):=by
 obtain⟨hn,hm⟩:=And.intro h.hn h.hm
 have HM:=lh9 h
 have HLZ:Hid ((zbW n m MM).length=m):=zgE _ _ _
 have HLC:Hid (∀j,(zdD n MM j).length=n):=λj=>zeQ n MM j
 have HG:Hid (∀j,j<m->(zbW n m MM)[j]?=some (zdD n MM j)):=λj hj=>ziG _ hj
 obtain⟨ys,hys⟩:∃ys,zbW n m MM=ys:=⟨_,rfl⟩
 rw [hys] at HLZ HG⊢
 obtain⟨Y,hY⟩:=zjv m (by omega)
 have hmk:=λW=>(hY W).1
 have HOWN:=lh9 (λW=>(hY W).2)
 obtain⟨bx1,bx2,bz⟩:=zaA w 28 #[.slice A n c,.int .i64 (m:Int)]
 obtain⟨g0,g1⟩:=bx2.c2
 have hBa:=(zaA (w.alloc (.cells #[.slice A n c,.int .i64 (m:Int)] 28)) 51 Y).1
 have hK:=zae hBa bx2
 have hB:=zac bx1 hBa
 clear h hys hY bx1 bx2 hBa
 unfold zjd
 have i0:(0:Int)<=(m:Int):=by omega
 go_enter Tryz.func78,Tryz.ntmps78
 go_wp2_with fail
 clear hmk g0 g1
 have hrow:=HOWN.out (w.alloc (.cells #[.slice A n c,.int .i64 (m:Int)] 28))
 have e1:(w.alloc (.cells #[.slice A n c,.int .i64 (m:Int)] 28)).heap.size=w.heap.size+1:=by simp
 rw [e1] at hrow
 rw [<-zby [] ys m] at hrow
 generalize (w.alloc (.cells #[.slice A n c,.int .i64 (m:Int)] 28)).alloc (.cells Y 51)=W1 at*
 obtain⟨gb,hgb⟩:∃g,w.heap.size=g:=⟨_,rfl⟩
 have hwg:w.heap.size<=gb:=by omega
 rw [hgb] at hrow hK⊢
 clear e1 HOWN hgb bz
 go_loopg [10] (m+1) (λg ix wr=>∃(k:Nat),k<=m/\m<g+k/\ix=.int .i64 k/\zaR (zaB zan) wr 51 (gb+1) m (zbV [] ys m k)/\Below w.heap.size w wr/\Blk wr gb 28 #[.slice A n c,.int .i64 (m:Int)])
 case atStart=>exact⟨0,Nat.zero_le _,by omega,rfl,hrow,hB,hK⟩
 case round=>
  clear hrow hB hK
  obtain⟨i,hkn,hg,rfl,hrow,hB,hK⟩:=hrel
  by_cases hlt:i<m
  ·have hd1:decide ((i:Int)<(m:Int))=true:=decide_eq_true (by omega)
   have i1:(0:Int)<=(i:Int):=by omega
   have i2:(i:Int)<(m:Int):=by omega
   obtain⟨g0,g1⟩:=hK.c2
   have HROW:=lh9 hrow
   have HB1:=lh9 hB
   have HK1:=lh9 hK
   have HGI:=lh9 (HG.out i hlt)
   clear hrow hB hK
   go_wp2_with fail
   (with_reducible refine(zii (HM.out.keep HB1.out) hlt).mono ?_)
   rintro e w5 ⟨g5,rfl,hg5,ho5,hb⟩
   clear g0 g1
   have hr5:=HROW.out.below (zay zaq) hb
   have hr6:=zaR.set_ (zay zaq) hr5 hlt (zbl ho5) (HLC.out i)
   rw [zbN [] ys m i HLZ.out hlt _ HGI.out] at hr6
   obtain⟨q0,sc0,sf0⟩:=hr5.ready hlt
   have HR6:=lh9 hr6
   have HB6:=lh9 (zag (p:=⟨gb+1,i,none⟩) (.slice (some ⟨g5,0,none⟩) n n) (show w.heap.size<=gb+1 by omega) (zac HB1.out hb))
   have HK6:=lh9 (Blk.far (p:=⟨gb+1,i,none⟩) (zae hb HK1.out) (by show gb≠gb+1;omega) (.slice (some ⟨g5,0,none⟩) n n))
   clear hr5 hr6 ho5 hb HROW HB1 HK1 HGI
   go_wp2
   go_roundg (m - i)
   case measure=>omega
   case rel=>exact⟨i+1,by omega,by omega,by go_num,HR6.out,HB6.out,HK6.out⟩
  ·have hk9:i=m:=by omega
   subst hk9
   have hd1:decide ((i:Int)<(i:Int))=false:=by simp
   have HR5:=lh9 (zbM [] ys i HLZ.out▸hrow)
   have HB1:=lh9 hB
   clear hrow hB hK
   go_wp2
   go_ret
   exact⟨gb+1,rfl,by omega,HR5.out,HB1.out⟩
variable {V:oA9}{k cv:Nat}{xs:List Rat}
theorem zpf (hT:zal w)(h:zaI w A n c m MM)(hv:zaK w V m cv xs)(z:zaD K MM)(zx:zaE K' xs)(hK:K<=67108864:=by omega)(hK':K'<=67108864:=by omega)(hS:1+m*(K+K'+1)<=67108864:=by omega):
  Calls Tryz.prog 35 #[.agg #[.slice A n c,.int .i64 (m:Int)],.slice V m cv] w (zci w n (zbG MM xs)):=by
 have e0:((m:Int) !=(m:Int))=false:=by simp
 obtain⟨bx1,bx2,bz⟩:=zaA w 28 #[.slice A n c,.int .i64 (m:Int)]
 obtain⟨g0,g1⟩:=bx2.c2
 have HD:=lh9 (zij (q:=c) (hT.on bx1) (h.keep bx1).rows h.dims.cols (hv.keep bx1) z zx h.hn h.hm hK hK' hS)
 have HB:=lh9 bx1
 clear h bx1 bx2 bz hT hv z zx
 unfold zci
 go_enter Tryz.func35,Tryz.ntmps35
 go_wp2_with fail
 refine HD.out.mono ?_
 rintro e w5 ⟨g5,rfl,hg5,ho5,hb⟩
 have HG:=lh9 (And.intro (Nat.le_trans HB.out.size hg5) (And.intro ho5 (zac HB.out hb)))
 clear g0 g1 hg5 ho5 hb
 go_wp2
 go_ret2
 exact⟨g5,rfl,HG.out⟩
theorem mat_by (hT:zal w)(h:zaI w A n c m MM)(hv:zaK w V n cv xs)(z:zaD K MM)(zx:zaE K' xs)(hK:K<=67108864:=by omega)(hK':K'<=67108864:=by omega)(hS:1+n*(K+K'+1)<=67108864:=by omega):
  Calls Tryz.prog 37 #[.agg #[.slice A n c,.int .i64 (m:Int)],.slice V n cv] w (zci w m (zbG (zbW n m MM) xs)):=by
 have e0:((n:Int) !=(n:Int))=false:=by simp
 have HR:=λW=>lh9 (zcM A n c (m:Int) W)
 obtain⟨bx1,bx2,bz⟩:=zaA w 28 #[.slice A n c,.int .i64 (m:Int)]
 obtain⟨g0,g1⟩:=bx2.c2
 have HC:=lh9 (λW (hb:Below w.heap.size w W)=>zhb (h.keep hb))
 have HD:=lh9 (λW (Q:oA9) (q:Nat) (hb:Below w.heap.size w W) (hr:zaF (zaB zan) W Q m (zbW n m MM))=>zij (q:=q) (hT.on hb) hr (zfz n m MM).cols (hv.keep hb) (z.turn h.dims) zx h.hm h.hn hK hK' hS)
 have HB:=lh9 bx1
 have HK:=lh9 bx2
 clear h bx1 bx2 bz hT hv z zx
 unfold zci
 go_enter Tryz.func37,Tryz.ntmps37
 go_wp2_with fail
 refine(HR _).out.mono ?_
 rintro e w2 ⟨rfl,hb⟩
 have HB2:=lh9 (zac HB.out hb)
 obtain⟨g0,g1⟩:=(zae hb HK.out).c2
 clear hb HB
 go_wp2_with fail
 refine(HC.out _ HB2.out).mono ?_
 rintro e w3 ⟨g3,rfl,hg3,ho3,hb⟩
 have HB3:=lh9 (zac HB2.out hb)
 have HO:=lh9 ho3.rows
 clear hb HB2 ho3 g0 g1
 go_wp2_with fail
 refine(HD.out _ _ _ HB3.out HO.out).mono ?_
 rintro e w5 ⟨g5,rfl,hg5,ho5,hb⟩
 have HG:=lh9 (And.intro (Nat.le_trans HB3.out.size hg5) (And.intro ho5 (zac HB3.out hb)))
 clear hg5 ho5 hb
 go_wp2
 go_ret2
 exact⟨g5,rfl,HG.out⟩
end
