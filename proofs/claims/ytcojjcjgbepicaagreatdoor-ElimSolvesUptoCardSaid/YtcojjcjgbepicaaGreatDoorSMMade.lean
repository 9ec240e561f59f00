/- What this claim leans on. -/
import Derived.Test.YtcojjcjgbepicaaGreatDoorSMMul
namespace Go.Proofs.YtcojjcjgbepicaaGreatDoor
open Go Go.RowKit
set_option maxHeartbeats 16000000
set_option maxRecDepth 100000
set_option linter.unusedVariables false
set_option linter.unusedSimpArgs false
theorem tabN_len (n m:Nat)(f:Nat->Nat->Rat):(zew n m f).length=n:=by simp [zew]
theorem tabN_get {n m:Nat}(f:Nat->Nat->Rat){r:Nat}(h:r<n):(zew n m f)[r]?=some ((List.range m).map (f r)):=by
 unfold zew
 rw [List.getElem?_map,List.getElem?_range h]
 rfl
theorem znv (m:Nat)(f:Nat->Rat):((List.range m).map f).length=m:=by simp
theorem znu {m:Nat}(f:Nat->Rat){c:Nat}(h:c<m):((List.range m).map f)[c]?=some (f c):=by
 rw [List.getElem?_map,List.getElem?_range h]
 rfl
theorem zkM {w:World}{g n m:Nat}{M:List (List Rat)}(h:zaZ (zaM zah) w 71 g n M)(hd:zbh M n m)(hn:n<=64)(hm:m<=64):zaW w (some ⟨g,0,none⟩) n n m M:=⟨hd,Nat.le_refl _,by omega,hn,hm,h.rows,λad e=>by obtain⟨cs,hk,_⟩:=h.blk;injection e with e;subst e;exact⟨cs,hk⟩⟩
def GivesAt (f:Nat->Nat->Rat)(F:FuncId)(cap:Array Value)(n m:Nat)(w:World):Prop:=
 (∀ (args : Array Value) (w' : World),Sem.run Tryz.prog (callFunc F args) w' = .ok (.enter F args) w') ∧
   ∀r c,r<n->c<m->∀w',Below w.heap.size w w'->Calls Tryz.prog F (#[.int .i64 (r:Int),.int .i64 (c:Int)]++cap) w' (zaI w' (f r c))
theorem zlR {K:Nat}(f:Nat->Nat->Rat)(F:FuncId)(cap:Array Value)(n m:Nat)(w:World)(hT:zaj w)(hG:GivesAt f F cap n m w)(hS:∀r c,r<n->c<m->SzQ K (f r c))(hn:n<=64:=by omega)(hm:m<=64:=by omega)(hK:K+2<=67108864:=by omega):
  Calls Tryz.prog 71 #[.int .i64 (n:Int),.int .i64 (m:Int),.func (.func F) #[] cap] w (zcS w n m (zew n m f)):=by
 obtain⟨hEn,hF⟩:=hG
 have HF:=lh9 hF
 have HT:=lh9 (λw' (hb:Below w.heap.size w w')=>hT.on hb)
 have HLM:=lh9 (tabN_len n m f)
 have HGM:Hid (∀r,r<n->(zew n m f)[r]?=some ((List.range m).map (f r))):=λr hr=>tabN_get f hr
 have HGR:Hid (∀r c,c<m->((List.range m).map (f r))[c]?=some (f r c)):=λr c hc=>znu (f r) hc
 have HLR:Hid (∀r,((List.range m).map (f r)).length=m):=λr=>znv m (f r)
 have HSR:Hid (∀r,r<n->zaq K ((List.range m).map (f r))):=λr hr x hx=>by
  obtain⟨c,hc,rfl⟩:=List.mem_map.1 hx
  exact hS r c hr (List.mem_range.1 hc)
 have HDM:=lh9 (zhq n m f)
 obtain⟨ROW,hROW⟩:∃ROW:Nat->List Rat,(λr=>(List.range m).map (f r))=ROW:=⟨_,rfl⟩
 have hROW2:∀r,(List.range m).map (f r)=ROW r:=λr=>by rw [<-hROW]
 simp only [hROW2] at HGM HGR HLR HSR
 obtain⟨M,hM⟩:∃M,zew n m f=M:=⟨_,rfl⟩
 rw [hM] at HLM HGM HDM⊢
 obtain⟨Z,hZ⟩:=zdN m (by omega)
 have HMK:∀W,(Instr.makeSlice 71 (.int .i64 (m:Int)) (.int .i64 (m:Int))).run Tryz.prog W=.ok (.slice (some ⟨W.heap.size,0,none⟩) m m) (W.alloc (.cells Z 53)):=λW=>(hZ W).1
 have HOWN:=lh9 (λW=>(hZ W).2)
 obtain⟨Y,hY⟩:=zhh n (by omega)
 have HMKV:∀W,(Instr.makeSlice 30 (.int .i64 (n:Int)) (.int .i64 (n:Int))).run Tryz.prog W=.ok (.slice (some ⟨W.heap.size,0,none⟩) n n) (W.alloc (.cells Y 71)):=λW=>(hY W).1
 have HOWNV:=lh9 (λW=>(hY W).2)
 obtain⟨b1,b2,b3,b4,b5⟩:=zbA w 32 71 32 #[.slice none 0 0,.int .i64 0] Y #[.slice (some ⟨w.heap.size+1,0,none⟩) n n,.int .i64 (m:Int)]
 clear hT hF hS hROW hROW2 hM hZ hY
 unfold zcS
 have i0:(0:Int)<=(n:Int):=by omega
 have i1:(0:Int)<=(m:Int):=by omega
 go_enter Tryz.func71,Tryz.ntmps71
 go_wp2_with fail
 have hrow:zaZ (zaM zah) (((w.alloc (.cells #[.slice none 0 0,.int .i64 0] 32)).alloc (.cells Y 71)).alloc (.cells #[.slice (some ⟨w.heap.size+1,0,none⟩) n n,.int .i64 (m:Int)] 32)) 71 (w.heap.size+1) n (zcl [] M n 0):=by
  have h1:=HOWNV.out (w.alloc (.cells #[.slice none 0 0,.int .i64 0] 32))
  have e1:(w.alloc (.cells #[.slice none 0 0,.int .i64 0] 32)).heap.size=w.heap.size+1:=by simp
  rw [e1] at h1
  rw [zbE]
  exact h1.below (zam zaf) (zaw _ _ _).1
 clear b3 HOWNV HMKV
 obtain⟨g0,hg0⟩:∃g,w.heap.size=g:=⟨_,rfl⟩
 have hwg:w.heap.size<=g0:=by omega
 rw [hg0] at hrow b1 b2 b4 b5⊢
 generalize ((w.alloc (.cells #[.slice none 0 0,.int .i64 0] 32)).alloc (.cells Y 71)).alloc (.cells #[.slice (some ⟨g0+1,0,none⟩) n n,.int .i64 (m:Int)] 32)=W1 at*
 rw [<-hg0] at b1
 clear hg0
 go_loopg [18] (n+1) (λg ix wr=>∃(k:Nat),k<=n/\n<g+k/\ix=.int .i64 k/\zaZ (zaM zah) wr 71 (g0+1) n (zcl [] M n k)/\Below w.heap.size w wr/\Blk wr g0 32 #[.slice none 0 0,.int .i64 0]/\Blk wr (g0+1+1) 32 #[.slice (some ⟨g0+1,0,none⟩) n n,.int .i64 (m:Int)])
 case atStart=>exact⟨0,Nat.zero_le _,by omega,rfl,hrow,b1,b2,b4⟩
 case round=>
  clear hrow b1 b2 b4 b5
  obtain⟨k,hkn,hg,rfl,hrow,hB,hk0,hk2⟩:=hrel
  obtain⟨wo,hwo⟩:∃wo,wo=wr:=⟨_,rfl⟩
  subst hwo
  by_cases hlt:k<n
  ·have hd1:decide ((k:Int)<(n:Int))=true:=decide_eq_true (by omega)
   have i2:(0:Int)<=(k:Int):=by omega
   have i3:(k:Int)<(n:Int):=by omega
   have hg1:=hrow.lt
   have HROW:=lh9 hrow
   have HB:=lh9 hB
   have HK0:=lh9 hk0
   have HK2:=lh9 hk2
   have HGRK:=lh9 (HGR.out k)
   have HLRK:=lh9 (HLR.out k)
   have HSRK:=lh9 (HSR.out k hlt)
   have HGMK:=lh9 (HGM.out k hlt)
   obtain⟨R,hR⟩:∃R,ROW k=R:=⟨_,rfl⟩
   rw [hR] at HGRK HLRK HSRK HGMK
   clear hrow hB hk0 hk2 hR
   go_wp2_with fail
   have hin:=HOWN.out wo
   have hb1:Below wo.heap.size wo (wo.alloc (.cells Z 53)):=(Below.refl _ wo).alloc (Nat.le_refl _) _
   rw [<-zbE 0 R m] at hin
   obtain⟨gr,hgr⟩:∃g,wo.heap.size=g:=⟨_,rfl⟩
   have hwr:wo.heap.size<=gr:=by omega
   rw [hgr] at hin⊢
   generalize wo.alloc (.cells Z 53)=W2 at*
   clear hgr
   go_loopg [25] (m+1) (λg jx wr=>∃(j:Nat),j<=m/\m<g+j/\jx=.int .i64 j/\zbK wr gr m (zcl 0 R m j)/\Below wo.heap.size wo wr)
   case atStart=>exact⟨0,Nat.zero_le _,by omega,rfl,hin,hb1⟩
   case round=>
    clear hin hb1
    obtain⟨j,hjm,hg2,rfl,hin,hb1⟩:=hrel
    by_cases hjl:j<m
    ·have hd2:decide ((j:Int)<(m:Int))=true:=decide_eq_true (by omega)
     have i4:(0:Int)<=(j:Int):=by omega
     have i5:(j:Int)<(m:Int):=by omega
     have HIN:=lh9 hin
     have HB1:=lh9 hb1
     have HGJ:=lh9 (HGRK.out j hjl)
     clear hin hb1
     go_wp2_with fail
     refine(HF.out k j hlt hjl _ (zaa HB.out HB1.out)).mono ?_
     rintro e w3 ⟨b3,A3,n3,c3,E3,k3,f3,rfl,hw3,hb⟩
     have hr3:=HIN.out.keep hb
     have hr4:=zbf.set_ zaf hr3 hjl hw3
     rw [zbW 0 R m j HLRK.out hjl _ HGJ.out] at hr4
     obtain⟨q0,q1,q2,sc0,sf0,sc1,sf1,sc2,sf2⟩:=hr3.ready hjl (.bool b3) (.slice A3 n3 c3)
     have HR4:=lh9 hr4
     have HB4:=lh9 (zbB (j*3) (j*3+1) (j*3+2) (.bool b3) (.slice A3 n3 c3) (.slice E3 k3 f3) hwr (zaa HB1.out hb))
     clear hr3 hr4 hb hw3 HIN HB1
     go_wp2
     go_roundg (m - j)
     case measure=>omega
     case rel=>exact⟨j+1,by omega,by omega,by go_num,HR4.out,HB4.out⟩
    ·have hj:j=m:=by omega
     subst hj
     have hd2:decide ((j:Int)<(j:Int))=false:=by simp
     have HV:=lh9 (zaE (zbV 0 R j HLRK.out▸hin))
     have hz2:=zab hb1 HK2.out
     have HROW1:=lh9 (HROW.out.below (zam zaf) hb1)
     have HB2:=lh9 (zaa HB.out hb1)
     have HK01:=lh9 (zab hb1 HK0.out)
     have HK21:=lh9 hz2
     obtain⟨p0,p1⟩:=hz2.c2
     have hbd:=(Below.refl wr.heap.size wr).drew
     clear hin hb1
     go_wp2_with fail
     refine rg (csc p0 csn) (λhHeld=>?_)
     clear p0 p1
     have HV:=lh9 (HV.out.keep hbd)
     have HROW1:=lh9 (HROW1.out.below (zam zaf) hbd)
     have HB2:=lh9 (zaa HB2.out hbd)
     have HK01:=lh9 (zab hbd HK01.out)
     have HK21:=lh9 (zab hbd HK21.out)
     clear hbd
     generalize wr.drew=D at*
     refine tk 0 ?_
     refine tk 1 ?_
     refine tk 2 ?_
     refine tk 3 ?_
     refine rc 4 (λKK hK9=>?_)
     go_simp
     (with_reducible refine(zmr (HT.out _ HB2.out) HV.out HSRK.out).mono ?_)
     rintro e w5 ⟨g5,rfl,hg5,ho5,hb⟩
     refine hK9.out _ _ (Cs.below hHeld hb) (λhHeld=>?_)
     clear hK9 KK
     have hr5:=HROW1.out.below (zam zaf) hb
     have hr6:=zaZ.set_ (zam zaf) hr5 hlt (zaE ho5) HLRK.out
     rw [zbW [] M n k HLM.out hlt _ HGMK.out] at hr6
     obtain⟨q0,sc0,sf0⟩:=hr5.ready hlt
     have hne:g0+1+1≠g0+1:=by omega
     have HR6:=lh9 hr6
     have HB6:=lh9 (zae (p:=⟨g0+1,k,none⟩) (.slice (some ⟨g5,0,none⟩) j j) (show w.heap.size<=g0+1 by omega) (zaa HB2.out hb))
     have HK06:=lh9 (Blk.far (p:=⟨g0+1,k,none⟩) (zab hb HK01.out) (by show g0≠g0+1;omega) (.slice (some ⟨g5,0,none⟩) j j))
     have HK26:=lh9 (Blk.far (p:=⟨g0+1,k,none⟩) (zab hb HK21.out) (by show g0+1+1≠g0+1;omega) (.slice (some ⟨g5,0,none⟩) j j))
     clear hb hr5 hr6 ho5 HROW1 HB2 HK01 HK21 HV
     refine tk 5 ?_
     refine rc 6 (λKK hK9=>?_)
     go_simp
     refine hK9.out _ _ ?_ (λhHeld=>?_)
     ·refine Cs.far hHeld ((zba.refl (g0+1) _).set_ k _) ⟨?_,trivial⟩
      show g0+1+1≠g0+1
      omega
     clear hK9 KK
     refine rdn ?_
     clear hHeld sc0 sf0
     go_wp2
     go_roundg (n - k)
     case measure=>omega
     case rel=>exact⟨k+1,by omega,by omega,by go_num,HR6.out,HB6.out,HK06.out,HK26.out⟩
  ·have hk:k=n:=by omega
   subst hk
   have hd1:decide ((k:Int)<(k:Int))=false:=by simp
   have HM:=lh9 (zkM (zbV [] M k HLM.out▸hrow) HDM.out hn hm)
   obtain⟨p0,p1⟩:=hk2.c2
   obtain⟨sc0,sf0,sc1,sf1⟩:=st2 hk0 (.slice (some ⟨g0+1,0,none⟩) k k)
   obtain⟨r0,r1⟩:=(sn2 hk0 (.slice (some ⟨g0+1,0,none⟩) k k) (.int .i64 (m:Int))).c2
   have HG:=lh9 (gm2 HM.out (λad e=>by injection e with e;subst e;show g0<g0+1;omega) hk0 hB hwg)
   unfold zcS at HG
   clear hrow hB hk0 hk2
   go_wp2
   refine bodyPost_ret (v:=.agg #[.slice (some ⟨g0+1,0,none⟩) k k,.int .i64 (m:Int)]) (by simp [results,Tryz.results71,go_sem,r0,r1]) rfl ?_
   exact HG.out
section
variable {w:World}{A:oA9}{n c m K:Nat}{MM:List (List Rat)}
theorem zfg (hT:zaj w)(h:zaW w A n c m MM)(z:zaD K MM)(hK:K+2<=67108864:=by omega):
  Calls Tryz.prog 75 #[.agg #[.slice A n c,.int .i64 (m:Int)]] w (zfE w n MM):=by
 obtain⟨hn,hm⟩:=And.intro h.hn h.hm
 have HM:=lh9 (λw' (hb:Below w.heap.size w w')=>h.keep hb)
 have HT:=lh9 (λw' (hb:Below w.heap.size w w')=>hT.on hb)
 have HZ:=lh9 z
 have HR:=λW=>lh9 (zcC A n c (m:Int) W)
 have HLZ:Hid (MM.length=n):=h.dims.rows
 have HLC:Hid (∀i,i<n->(MM.getD i []).length=m):=λi hi=>h.dims.row hi
 have HG:Hid (∀i,i<n->MM[i]?=some (MM.getD i [])):=λi hi=>zbF (by have:=h.dims.rows;omega)
 obtain⟨Y,hY⟩:=zhh n (by omega)
 have hmk:=λW=>(hY W).1
 have HOWN:=lh9 (λW=>(hY W).2)
 obtain⟨bx1,bx2,bz⟩:=zaw w 32 #[.slice A n c,.int .i64 (m:Int)]
 obtain⟨g0,g1⟩:=bx2.c2
 have HB:=lh9 bx1
 have HK:=lh9 bx2
 clear h hY bx1 bx2 bz hT z
 unfold zfE
 have i0:(0:Int)<=(n:Int):=by omega
 go_enter Tryz.func75,Tryz.ntmps75
 go_wp2_with fail
 generalize w.alloc (.cells #[.slice A n c,.int .i64 (m:Int)] 32)=W1 at*
 refine(HR _).out.mono ?_
 rintro eo w1 ⟨rfl,hb⟩
 have hK1:=zab hb HK.out
 have hB1:=zaa HB.out hb
 clear hb g0 g1 HR HB HK
 go_wp2_with fail
 clear hmk
 have hrow:=HOWN.out w1
 have hBa:=(zaw w1 71 Y).1
 have hK:=zab hBa hK1
 have hB:=zaa hB1 hBa
 have hlt1:=hK1.lt
 rw [<-zbE [] MM n] at hrow
 generalize w1.alloc (.cells Y 71)=W2 at*
 clear HOWN hBa hK1 hB1
 generalize w1.heap.size=gp at*
 go_loopg [10] (n+1) (λg ix wr=>∃(k:Nat),k<=n/\n<g+k/\ix=.int .i64 k/\zaZ (zaM zah) wr 71 gp n (zcl [] MM n k)/\Below w.heap.size w wr/\Blk wr w.heap.size 32 #[.slice A n c,.int .i64 (m:Int)])
 case atStart=>exact⟨0,Nat.zero_le _,by omega,rfl,hrow,hB,hK⟩
 case round=>
  clear hrow hB hK
  obtain⟨i,hkn,hg,rfl,hrow,hB,hK⟩:=hrel
  by_cases hlt:i<n
  ·have hd1:decide ((i:Int)<(n:Int))=true:=decide_eq_true (by omega)
   have i1:(0:Int)<=(i:Int):=by omega
   have i2:(i:Int)<(n:Int):=by omega
   obtain⟨g0,g1⟩:=hK.c2
   have HROW:=lh9 hrow
   have HB1:=lh9 hB
   have HK1:=lh9 hK
   have HGI:=lh9 (HG.out i hlt)
   clear hrow hB hK
   go_wp2_with fail
   (with_reducible refine(mat_row (HT.out _ HB1.out) (HM.out _ HB1.out) HZ.out hlt).mono ?_)
   rintro eo w5 ⟨g5,rfl,hg5,ho5,hb⟩
   clear g0 g1
   have hr5:=HROW.out.below (zam zaf) hb
   have hr6:=zaZ.set_ (zam zaf) hr5 hlt (zaE ho5) (HLC.out i hlt)
   rw [zbW [] MM n i HLZ.out hlt _ HGI.out] at hr6
   obtain⟨q0,sc0,sf0⟩:=hr5.ready hlt
   have HR6:=lh9 hr6
   have HB6:=lh9 (zae (p:=⟨gp,i,none⟩) (.slice (some ⟨g5,0,none⟩) m m) (show w.heap.size<=gp by omega) (zaa HB1.out hb))
   have HK6:=lh9 (Blk.far (p:=⟨gp,i,none⟩) (zab hb HK1.out) (by show w.heap.size≠gp;omega) (.slice (some ⟨g5,0,none⟩) m m))
   clear hr5 hr6 ho5 hb HROW HB1 HK1 HGI
   go_wp2
   go_roundg (n - i)
   case measure=>omega
   case rel=>exact⟨i+1,by omega,by omega,by go_num,HR6.out,HB6.out,HK6.out⟩
  ·have hk9:i=n:=by omega
   subst hk9
   have hd1:decide ((i:Int)<(i:Int))=false:=by simp
   have HR5:=lh9 (zbV [] MM i HLZ.out▸hrow)
   have HB1:=lh9 hB
   clear hrow hB hK
   go_wp2
   go_ret
   exact⟨gp,rfl,by omega,HR5.out,HB1.out⟩
end
section
variable {w:World}{g:Nat}{st:ESt}{rd:Rat}{A:oA9}{n cA:Nat}{B:oA9}{k cB:Nat}{x0 x1 x2 y0 y1 y2:Value}
def zcO (r:Rat)(M:List (List Rat)):List (List Rat):=M.map (zaH r)
theorem zkA {K m:Nat}(hT:zaj w)(hE:ElS w g st rd A n cA B k cB x0 x1 x2 y0 y1 y2)(hd:zbh st.S n m)(z:zaD K st.S)(zp:SzQ K st.p)(hp:st.p≠0)(hn:n<=64)(hm:m<=1073741824)(hK:K<=33554432:=by omega):
  Calls Tryz.prog 84 #[.pointer (some ⟨g,0,none⟩)] w (zfE w n (zcO st.p⁻¹ st.S)):=by
 obtain⟨b0,A0,n0,c0,E0,k0,f0,rfl,rfl,rfl,hpr⟩:=hE.lead
 obtain⟨vs,hrows⟩:=hE.rows
 obtain⟨A',c',hA',-,-,hL,-⟩:=hrows.shape hE.hn
 have HL:Hid (zaz (VZ g) w A n st.S):=by injection hA' with q1 q2 q3;subst q1;exact hL
 have HP:=lh9 (λw' (hb:Below w.heap.size w w')=>hpr.below hb)
 have HC:=lh9 (λw' (hb:Below w.heap.size w w')=>(hE.below hb).cells)
 have HT:=lh9 (λw' (hb:Below w.heap.size w w')=>hT.on hb)
 have HZP:=lh9 zp
 have HNP:=lh9 hp
 have HLZ:Hid ((zcO st.p⁻¹ st.S).length=n):=by unfold zcO;rw [List.length_map];exact hd.rows
 have HLR:Hid (∀i,i<n->(st.S.getD i []).length=m):=λi hi=>hd.row hi
 have HSR:Hid (∀i,i<n->zaq K (st.S.getD i [])):=λi hi=>z.row (by have:=hd.rows;omega)
 have HG:Hid (∀i,i<n->(zcO st.p⁻¹ st.S)[i]?=some (zaH st.p⁻¹ (st.S.getD i []))):=λi hi=>by
  unfold zcO;rw [List.getElem?_map,zbF (d:=[]) (by have:=hd.rows;omega)];rfl
 obtain⟨ys,hys⟩:∃ys,zcO st.p⁻¹ st.S=ys:=⟨_,rfl⟩
 rw [hys] at HLZ HG⊢
 obtain⟨Y,hY⟩:=zhh n (by omega)
 have hmk:=λW=>(hY W).1
 have HOWN:=lh9 (λW=>(hY W).2)
 obtain⟨p0,-,p2,p3,p4,-⟩:=HC.out _ (Below.refl _ _)
 have i0:(0:Int)<=(n:Int):=by omega
 unfold zfE
 clear hT hE hd z zp hp hpr hrows hA' hL hY hys
 go_enter Tryz.func84,Tryz.ntmps84
 go_wp2_with fail
 clear p0 p2 p3 p4
 (with_reducible refine(zhZ st.p b0 A0 n0 c0 E0 k0 f0 _ (HT.out _ (Below.refl _ _)) (HP.out _ (Below.refl _ _)) (HZP.out.fit (HP.out _ (Below.refl _ _)) (by omega)) HNP.out).mono ?_)
 rintro eo w5 ⟨b5,A5,n5,c5,E5,k5,f5,rfl,hw5,hb⟩
 obtain⟨bx1,bx2,-⟩:=zaw w5 53 #[.bool b5,.slice A5 n5 c5,.slice E5 k5 f5]
 have hI:=hw5.below bx1
 have hB5:=zaa hb bx1
 have hs5:=hb.size
 obtain⟨p0,-⟩:=HC.out _ hB5
 obtain⟨q0,-⟩:=HC.out _ (zaa hB5 (zaw (w5.alloc (.cells #[.bool b5,.slice A5 n5 c5,.slice E5 k5 f5] 53)) 71 Y).1)
 clear hb hw5 bx1
 go_wp2_with fail
 clear hmk p0 q0
 have e1:(w5.alloc (.cells #[.bool b5,.slice A5 n5 c5,.slice E5 k5 f5] 53)).heap.size=w5.heap.size+1:=by simp
 generalize w5.alloc (.cells #[.bool b5,.slice A5 n5 c5,.slice E5 k5 f5] 53)=W6 at*
 have hrow:=HOWN.out W6
 have hBa:=(zaw W6 71 Y).1
 have hK:=zab hBa bx2
 have hB:=zaa hB5 hBa
 have hI:=hI.below hBa
 rw [e1] at hrow
 obtain⟨gp,hgp⟩:∃q,w5.heap.size+1=q:=⟨_,rfl⟩
 have hltp:w5.heap.size<gp:=by omega
 rw [hgp] at hrow⊢
 rw [<-zbE [] ys n] at hrow
 generalize W6.alloc (.cells Y 71)=W7 at*
 clear HOWN hBa bx2 hB5 e1 hgp
 generalize w5.heap.size=g5 at*
 go_loopg [27] (n+1) (λgg ix wr=>∃(i:Nat),i<=n/\n<gg+i/\ix=.int .i64 i/\zaZ (zaM zah) wr 71 gp n (zcl [] ys n i)/\Below w.heap.size w wr/\Blk wr g5 53 #[.bool b5,.slice A5 n5 c5,.slice E5 k5 f5]/\zah wr st.p⁻¹ b5 A5 n5 c5 E5 k5 f5)
 case atStart=>exact⟨0,Nat.zero_le _,by omega,rfl,hrow,hB,hK,hI⟩
 case round=>
  clear hrow hB hK hI
  obtain⟨i,hkn,hg,rfl,hrow,hB,hK,hI⟩:=hrel
  by_cases hlt:i<n
  ·have hd1:decide ((i:Int)<(n:Int))=true:=decide_eq_true (by omega)
   have i1:(0:Int)<=(i:Int):=by omega
   have i2:(i:Int)<(n:Int):=by omega
   obtain⟨ad,Bi,di,rfl,-,hc0,hvi⟩:=HL.out.get (zcq g) hB hlt (HLR.out i hlt)
   obtain⟨p0,p1,p2⟩:=hK.c3
   have HV:=lh9 hvi.1
   have HROW:=lh9 hrow
   have HB1:=lh9 hB
   have HK1:=lh9 hK
   have HI1:=lh9 hI
   have HGI:=lh9 (HG.out i hlt)
   have HSI:=lh9 (HSR.out i hlt)
   have HLI:=lh9 (HLR.out i hlt)
   generalize st.S.getD i []=row at*
   clear hrow hB hK hI hvi
   go_wp2_with fail
   (with_reducible refine(zbu (HT.out _ HB1.out) HI1.out HV.out HZP.out.inv HSI.out).mono ?_)
   rintro eo w8 ⟨g8,rfl,hg8,ho8,hb⟩
   clear p0 p1 p2 hc0
   have hr5:=HROW.out.below (zam zaf) hb
   have hr6:=zaZ.set_ (zam zaf) hr5 hlt (zaE ho8) (by rw [zbn HLI.out])
   rw [zbW [] ys n i HLZ.out hlt _ HGI.out] at hr6
   obtain⟨q0,sc0,sf0⟩:=hr5.ready hlt
   obtain⟨cs9,hk9,hs9,-⟩:=hr5.blk
   have HR6:=lh9 hr6
   have HB6:=lh9 (zae (p:=⟨gp,i,none⟩) (.slice (some ⟨g8,0,none⟩) m m) (show w.heap.size<=gp by omega) (zaa HB1.out hb))
   have HK6:=lh9 (Blk.far (p:=⟨gp,i,none⟩) (zab hb HK1.out) (by show g5≠gp;omega) (.slice (some ⟨g8,0,none⟩) m m))
   have HI6:=lh9 (zcF hk9 (zfv hs9) (zbe.of_far ((zba.refl gp _).set_ i (.slice (some ⟨g8,0,none⟩) m m))) (HI1.out.below hb))
   clear hr5 hr6 ho8 hb HROW HB1 HK1 HI1 HGI hk9 hs9
   go_wp2
   go_roundg (n - i)
   case measure=>omega
   case rel=>exact⟨i+1,by omega,by omega,by go_num,HR6.out,HB6.out,HK6.out,HI6.out⟩
  ·have hk9:i=n:=by omega
   subst hk9
   have hd1:decide ((i:Int)<(i:Int))=false:=by simp
   have HR5:=lh9 (zbV [] ys i HLZ.out▸hrow)
   have HB1:=lh9 hB
   clear hrow hB hK hI
   go_wp2
   go_ret
   exact⟨gp,rfl,by omega,HR5.out,HB1.out⟩
end
