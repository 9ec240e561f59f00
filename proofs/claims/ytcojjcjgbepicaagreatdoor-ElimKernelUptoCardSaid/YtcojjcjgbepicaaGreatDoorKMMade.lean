/- What this claim leans on. -/
import Derived.Test.YtcojjcjgbepicaaGreatDoorKMClos
namespace Go.Proofs.YtcojjcjgbepicaaGreatDoor
open Go Go.RowKit
set_option maxHeartbeats 16000000
set_option maxRecDepth 100000
set_option linter.unusedVariables false
set_option linter.unusedSimpArgs false
theorem tabN_len (n m:Nat)(f:Nat->Nat->Rat):(zer n m f).length=n:=by simp [zer]
theorem tabN_get {n m:Nat}(f:Nat->Nat->Rat){r:Nat}(h:r<n):(zer n m f)[r]?=some ((List.range m).map (f r)):=by
 unfold zer
 rw [List.getElem?_map,List.getElem?_range h]
 rfl
theorem znm (m:Nat)(f:Nat->Rat):((List.range m).map f).length=m:=by simp
theorem znl {m:Nat}(f:Nat->Rat){c:Nat}(h:c<m):((List.range m).map f)[c]?=some (f c):=by
 rw [List.getElem?_map,List.getElem?_range h]
 rfl
theorem zkw {w:World}{g n m:Nat}{M:List (List Rat)}(h:zaX (zaN zah) w 71 g n M)(hd:zbe M n m)(hn:n<=64)(hm:m<=64):zaU w (some ⟨g,0,none⟩) n n m M:=⟨hd,Nat.le_refl _,by omega,hn,hm,h.rows,λad e=>by obtain⟨cs,hk,_⟩:=h.blk;injection e with e;subst e;exact⟨cs,hk⟩⟩
def GivesAt (f:Nat->Nat->Rat)(F:FuncId)(cap:Array Value)(n m:Nat)(w:World):Prop:=
 (∀ (args : Array Value) (w' : World),Sem.run Tryz.prog (callFunc F args) w' = .ok (.enter F args) w') ∧
   ∀r c,r<n->c<m->∀w',Below w.heap.size w w'->Calls Tryz.prog F (#[.int .i64 (r:Int),.int .i64 (c:Int)]++cap) w' (zaJ w' (f r c))
theorem zlD {K:Nat}(f:Nat->Nat->Rat)(F:FuncId)(cap:Array Value)(n m:Nat)(w:World)(hT:zai w)(hG:GivesAt f F cap n m w)(hS:∀r c,r<n->c<m->SzQ K (f r c))(hn:n<=64:=by omega)(hm:m<=64:=by omega)(hK:K+2<=67108864:=by omega):
  Calls Tryz.prog 71 #[.int .i64 (n:Int),.int .i64 (m:Int),.func (.func F) #[] cap] w (zcR w n m (zer n m f)):=by
 obtain⟨hEn,hF⟩:=hG
 have HF:=lh9 hF
 have HT:=lh9 (λw' (hb:Below w.heap.size w w')=>hT.on hb)
 have HLM:=lh9 (tabN_len n m f)
 have HGM:Hid (∀r,r<n->(zer n m f)[r]?=some ((List.range m).map (f r))):=λr hr=>tabN_get f hr
 have HGR:Hid (∀r c,c<m->((List.range m).map (f r))[c]?=some (f r c)):=λr c hc=>znl (f r) hc
 have HLR:Hid (∀r,((List.range m).map (f r)).length=m):=λr=>znm m (f r)
 have HSR:Hid (∀r,r<n->zar K ((List.range m).map (f r))):=λr hr x hx=>by
  obtain⟨c,hc,rfl⟩:=List.mem_map.1 hx
  exact hS r c hr (List.mem_range.1 hc)
 have HDM:=lh9 (zhk n m f)
 obtain⟨ROW,hROW⟩:∃ROW:Nat->List Rat,(λr=>(List.range m).map (f r))=ROW:=⟨_,rfl⟩
 have hROW2:∀r,(List.range m).map (f r)=ROW r:=λr=>by rw [<-hROW]
 simp only [hROW2] at HGM HGR HLR HSR
 obtain⟨M,hM⟩:∃M,zer n m f=M:=⟨_,rfl⟩
 rw [hM] at HLM HGM HDM⊢
 obtain⟨Z,hZ⟩:=zdI m (by omega)
 have HMK:∀W,(Instr.makeSlice 71 (.int .i64 (m:Int)) (.int .i64 (m:Int))).run Tryz.prog W=.ok (.slice (some ⟨W.heap.size,0,none⟩) m m) (W.alloc (.cells Z 53)):=λW=>(hZ W).1
 have HOWN:=lh9 (λW=>(hZ W).2)
 obtain⟨Y,hY⟩:=zhd n (by omega)
 have HMKV:∀W,(Instr.makeSlice 30 (.int .i64 (n:Int)) (.int .i64 (n:Int))).run Tryz.prog W=.ok (.slice (some ⟨W.heap.size,0,none⟩) n n) (W.alloc (.cells Y 71)):=λW=>(hY W).1
 have HOWNV:=lh9 (λW=>(hY W).2)
 obtain⟨b1,b2,b3,b4,b5⟩:=zbA w 32 71 32 #[.slice none 0 0,.int .i64 0] Y #[.slice (some ⟨w.heap.size+1,0,none⟩) n n,.int .i64 (m:Int)]
 clear hT hF hS hROW hROW2 hM hZ hY
 unfold zcR
 have i0:(0:Int)<=(n:Int):=by omega
 have i1:(0:Int)<=(m:Int):=by omega
 go_enter Tryz.func71,Tryz.ntmps71
 go_wp2_with fail
 have hrow:zaX (zaN zah) (((w.alloc (.cells #[.slice none 0 0,.int .i64 0] 32)).alloc (.cells Y 71)).alloc (.cells #[.slice (some ⟨w.heap.size+1,0,none⟩) n n,.int .i64 (m:Int)] 32)) 71 (w.heap.size+1) n (zco [] M n 0):=by
  have h1:=HOWNV.out (w.alloc (.cells #[.slice none 0 0,.int .i64 0] 32))
  have e1:(w.alloc (.cells #[.slice none 0 0,.int .i64 0] 32)).heap.size=w.heap.size+1:=by simp
  rw [e1] at h1
  rw [zbE]
  exact h1.below (zam zaf) (zax _ _ _).1
 clear b3 HOWNV HMKV
 obtain⟨g0,hg0⟩:∃g,w.heap.size=g:=⟨_,rfl⟩
 have hwg:w.heap.size<=g0:=by omega
 rw [hg0] at hrow b1 b2 b4 b5⊢
 generalize ((w.alloc (.cells #[.slice none 0 0,.int .i64 0] 32)).alloc (.cells Y 71)).alloc (.cells #[.slice (some ⟨g0+1,0,none⟩) n n,.int .i64 (m:Int)] 32)=W1 at*
 rw [<-hg0] at b1
 clear hg0
 go_loopg [18] (n+1) (λg ix wr=>∃(k:Nat),k<=n/\n<g+k/\ix=.int .i64 k/\zaX (zaN zah) wr 71 (g0+1) n (zco [] M n k)/\Below w.heap.size w wr/\Blk wr g0 32 #[.slice none 0 0,.int .i64 0]/\Blk wr (g0+1+1) 32 #[.slice (some ⟨g0+1,0,none⟩) n n,.int .i64 (m:Int)])
 case atStart=>exact⟨0,Nat.zero_le _,by omega,rfl,hrow,b1,b2,b4⟩
 case round=>
  clear hrow b1 b2 b4 b5
  obtain⟨k,hkn,hg,rfl,hrow,hB,hk0,hk2⟩:=hrel
  obtain⟨wo,hwo⟩:∃wo,wo=wr:=⟨_,rfl⟩
  subst hwo
  by_cases hlt:k<n
  ·have hd1:decide ((k:Int)<(n:Int))=true:=decide_eq_true (by omega)
   have i2:(0:Int)<=(k:Int):=by omega
   have i3:(k:Int)<(n:Int):=by omega
   have hg1:=hrow.lt
   have HROW:=lh9 hrow
   have HB:=lh9 hB
   have HK0:=lh9 hk0
   have HK2:=lh9 hk2
   have HGRK:=lh9 (HGR.out k)
   have HLRK:=lh9 (HLR.out k)
   have HSRK:=lh9 (HSR.out k hlt)
   have HGMK:=lh9 (HGM.out k hlt)
   obtain⟨R,hR⟩:∃R,ROW k=R:=⟨_,rfl⟩
   rw [hR] at HGRK HLRK HSRK HGMK
   clear hrow hB hk0 hk2 hR
   go_wp2_with fail
   have hin:=HOWN.out wo
   have hb1:Below wo.heap.size wo (wo.alloc (.cells Z 53)):=(Below.refl _ wo).alloc (Nat.le_refl _) _
   rw [<-zbE 0 R m] at hin
   obtain⟨gr,hgr⟩:∃g,wo.heap.size=g:=⟨_,rfl⟩
   have hwr:wo.heap.size<=gr:=by omega
   rw [hgr] at hin⊢
   generalize wo.alloc (.cells Z 53)=W2 at*
   clear hgr
   go_loopg [25] (m+1) (λg jx wr=>∃(j:Nat),j<=m/\m<g+j/\jx=.int .i64 j/\zbL wr gr m (zco 0 R m j)/\Below wo.heap.size wo wr)
   case atStart=>exact⟨0,Nat.zero_le _,by omega,rfl,hin,hb1⟩
   case round=>
    clear hin hb1
    obtain⟨j,hjm,hg2,rfl,hin,hb1⟩:=hrel
    by_cases hjl:j<m
    ·have hd2:decide ((j:Int)<(m:Int))=true:=decide_eq_true (by omega)
     have i4:(0:Int)<=(j:Int):=by omega
     have i5:(j:Int)<(m:Int):=by omega
     have HIN:=lh9 hin
     have HB1:=lh9 hb1
     have HGJ:=lh9 (HGRK.out j hjl)
     clear hin hb1
     go_wp2_with fail
     refine(HF.out k j hlt hjl _ (zaa HB.out HB1.out)).mono ?_
     rintro e w3 ⟨b3,A3,n3,c3,E3,k3,f3,rfl,hw3,hb⟩
     have hr3:=HIN.out.keep hb
     have hr4:=zbf.set_ zaf hr3 hjl hw3
     rw [zbV 0 R m j HLRK.out hjl _ HGJ.out] at hr4
     obtain⟨q0,q1,q2,sc0,sf0,sc1,sf1,sc2,sf2⟩:=hr3.ready hjl (.bool b3) (.slice A3 n3 c3)
     have HR4:=lh9 hr4
     have HB4:=lh9 (zbB (j*3) (j*3+1) (j*3+2) (.bool b3) (.slice A3 n3 c3) (.slice E3 k3 f3) hwr (zaa HB1.out hb))
     clear hr3 hr4 hb hw3 HIN HB1
     go_wp2
     go_roundg (m - j)
     case measure=>omega
     case rel=>exact⟨j+1,by omega,by omega,by go_num,HR4.out,HB4.out⟩
    ·have hj:j=m:=by omega
     subst hj
     have hd2:decide ((j:Int)<(j:Int))=false:=by simp
     have HV:=lh9 (zaI (zbU 0 R j HLRK.out▸hin))
     have hz2:=zab hb1 HK2.out
     have HROW1:=lh9 (HROW.out.below (zam zaf) hb1)
     have HB2:=lh9 (zaa HB.out hb1)
     have HK01:=lh9 (zab hb1 HK0.out)
     have HK21:=lh9 hz2
     obtain⟨p0,p1⟩:=hz2.c2
     have hbd:=(Below.refl wr.heap.size wr).drew
     clear hin hb1
     go_wp2_with fail
     refine rg (csc p0 csn) (λhHeld=>?_)
     clear p0 p1
     have HV:=lh9 (HV.out.keep hbd)
     have HROW1:=lh9 (HROW1.out.below (zam zaf) hbd)
     have HB2:=lh9 (zaa HB2.out hbd)
     have HK01:=lh9 (zab hbd HK01.out)
     have HK21:=lh9 (zab hbd HK21.out)
     clear hbd
     generalize wr.drew=D at*
     refine tk 0 ?_
     refine tk 1 ?_
     refine tk 2 ?_
     refine tk 3 ?_
     refine rc 4 (λKK hK9=>?_)
     go_simp
     (with_reducible refine(zme (HT.out _ HB2.out) HV.out HSRK.out).mono ?_)
     rintro e w5 ⟨g5,rfl,hg5,ho5,hb⟩
     refine hK9.out _ _ (Cs.below hHeld hb) (λhHeld=>?_)
     clear hK9 KK
     have hr5:=HROW1.out.below (zam zaf) hb
     have hr6:=zaX.set_ (zam zaf) hr5 hlt (zaI ho5) HLRK.out
     rw [zbV [] M n k HLM.out hlt _ HGMK.out] at hr6
     obtain⟨q0,sc0,sf0⟩:=hr5.ready hlt
     have hne:g0+1+1≠g0+1:=by omega
     have HR6:=lh9 hr6
     have HB6:=lh9 (zae (p:=⟨g0+1,k,none⟩) (.slice (some ⟨g5,0,none⟩) j j) (show w.heap.size<=g0+1 by omega) (zaa HB2.out hb))
     have HK06:=lh9 (Blk.far (p:=⟨g0+1,k,none⟩) (zab hb HK01.out) (by show g0≠g0+1;omega) (.slice (some ⟨g5,0,none⟩) j j))
     have HK26:=lh9 (Blk.far (p:=⟨g0+1,k,none⟩) (zab hb HK21.out) (by show g0+1+1≠g0+1;omega) (.slice (some ⟨g5,0,none⟩) j j))
     clear hb hr5 hr6 ho5 HROW1 HB2 HK01 HK21 HV
     refine tk 5 ?_
     refine rc 6 (λKK hK9=>?_)
     go_simp
     refine hK9.out _ _ ?_ (λhHeld=>?_)
     ·refine Cs.far hHeld ((zaY.refl (g0+1) _).set_ k _) ⟨?_,trivial⟩
      show g0+1+1≠g0+1
      omega
     clear hK9 KK
     refine rdn ?_
     clear hHeld sc0 sf0
     go_wp2
     go_roundg (n - k)
     case measure=>omega
     case rel=>exact⟨k+1,by omega,by omega,by go_num,HR6.out,HB6.out,HK06.out,HK26.out⟩
  ·have hk:k=n:=by omega
   subst hk
   have hd1:decide ((k:Int)<(k:Int))=false:=by simp
   have HM:=lh9 (zkw (zbU [] M k HLM.out▸hrow) HDM.out hn hm)
   obtain⟨p0,p1⟩:=hk2.c2
   obtain⟨sc0,sf0,sc1,sf1⟩:=st2 hk0 (.slice (some ⟨g0+1,0,none⟩) k k)
   obtain⟨r0,r1⟩:=(sn2 hk0 (.slice (some ⟨g0+1,0,none⟩) k k) (.int .i64 (m:Int))).c2
   have HG:=lh9 (gm2 HM.out (λad e=>by injection e with e;subst e;show g0<g0+1;omega) hk0 hB hwg)
   unfold zcR at HG
   clear hrow hB hk0 hk2
   go_wp2
   refine bodyPost_ret (v:=.agg #[.slice (some ⟨g0+1,0,none⟩) k k,.int .i64 (m:Int)]) (by simp [results,Tryz.results71,go_sem,r0,r1]) rfl ?_
   exact HG.out
theorem zjz {r:Int}{n:Nat}{b:Bool}(e:inB r n=b)(A:oA9)(c:Nat)(z:Int)(w:World):Calls Tryz.prog 95 #[.agg #[.slice A n c,.int .i64 z],.int .i64 r] w (λe w'=>e=.returned (.bool b)/\Below w.heap.size w w'):=e▸znb A n c z r w
theorem zoR {r:Int}{m:Nat}{b:Bool}(e:inB r m=b)(A:oA9)(n c:Nat)(w:World):Calls Tryz.prog 105 #[.agg #[.slice A n c,.int .i64 (m:Int)],.int .i64 r] w (λe w'=>e=.returned (.bool b)/\Below w.heap.size w w'):=e▸zna A n c m r w
section
variable {A:oA9}{n c m K:Nat}{MM:List (List Rat)}{w:World}
theorem mat_at {i j:Nat}(hT:zai w)(h:zaU w A n c m MM)(z:zaB K MM)(hi:i<n)(hj:j<m)(hK:K+2<=67108864:=by omega):
  Calls Tryz.prog 43 #[.agg #[.slice A n c,.int .i64 (m:Int)],.int .i64 (i:Int),.int .i64 (j:Int)] w (zaJ w (atM MM i j)):=by
 have HR:=λW=>lh9 (zjz (zkp hi) A c (m:Int) W)
 have HC:=λW=>lh9 (zoR (zkp hj) A n c W)
 obtain⟨bx1,bx2,bx3,bz⟩:=zbC w 32 53 #[.slice A n c,.int .i64 (m:Int)] #[.bool false,.slice none 0 0,.slice none 0 0]
 obtain⟨g0,g1⟩:=bx2.c2
 have HM:=lh9 h
 have HS:=lh9 (z.at_ h.dims hi hj)
 have HT:=lh9 (λw' (hb:Below w.heap.size w w')=>hT.on hb)
 have HB:=lh9 bx1
 have HK1:=lh9 bx2
 have HK2:=lh9 bx3
 clear hT h z bx1 bx2 bx3 bz
 go_enter Tryz.func43,Tryz.ntmps43
 go_wp2_with fail
 refine(HR _).out.mono ?_
 rintro e w1 ⟨rfl,hb⟩
 have HB1:=lh9 (zaa HB.out hb)
 have HK3:=lh9 (zab hb HK1.out)
 have HK4:=lh9 (zab hb HK2.out)
 obtain⟨g0,g1⟩:=HK3.out.c2
 clear hb HB HK1 HK2
 go_wp2_with fail
 refine(HC _).out.mono ?_
 rintro e w2 ⟨rfl,hb⟩
 have HB2:=lh9 (zaa HB1.out hb)
 have HK5:=lh9 (zab hb HK3.out)
 have HK6:=lh9 (zab hb HK4.out)
 obtain⟨g0,g1⟩:=HK5.out.c2
 clear hb HB1 HK3 HK4
 obtain⟨ad,B,d,rfl,-,hc,ae,b3,A3,n3,c3,E3,k3,f3,rfl,-,h0,h1,h2,hw3⟩:=HM.out.place HB2.out hi hj
 have i1:(0:Int)<=(i:Int):=by omega
 have i2:(i:Int)<(n:Int):=by omega
 have i3:(0:Int)<=(j:Int):=by omega
 have i4:(j:Int)<(m:Int):=by omega
 obtain⟨t1,t2,-⟩:=zax w2 53 #[.bool b3,.slice A3 n3 c3,.slice E3 k3 f3]
 have HL:=lh9 (zmg t2 (hw3.below t1))
 have HB3:=lh9 (zaa HB2.out t1)
 have HK7:=lh9 (zab t1 HK6.out)
 have HSA:Hid (zar K [atM MM i j]):=λy hy=>by rw [List.mem_singleton.1 hy];exact HS.out
 clear hw3 t1 t2 HK5 HK6 HB2
 go_wp2_with fail
 (with_reducible refine(q_sum (HT.out _ HB3.out) HL.out HSA.out (by decide) (by omega)).mono ?_)
 rintro e w5 ⟨b5,A5,n5,c5,E5,k5,f5,rfl,hw5,hb⟩
 have hw5:zah w5 (atM MM i j) b5 A5 n5 c5 E5 k5 f5:=by
  have e:zdz [atM MM i j]=atM MM i j:=by rw [zgk,zjP,Rat.add_zero]
  rw [e] at hw5
  exact hw5
 have hk5:=zab hb HK7.out
 obtain⟨sc0,sf0,sc1,sf1,sc2,sf2⟩:=st3 hk5 (.bool b5) (.slice A5 n5 c5)
 obtain⟨r0,r1,r2⟩:=(sn3 hk5 (.bool b5) (.slice A5 n5 c5) (.slice E5 k5 f5)).c3
 have HG:=lh9 (gq3 hw5 hk5 (zaa HB3.out hb) (by omega))
 clear hb hk5 hw5 HK7 HB3 HL g0 g1 hc h0 h1 h2
 go_wp2
 refine bodyPost_ret (v:=.agg #[.bool b5,.slice A5 n5 c5,.slice E5 k5 f5]) (by simp [results,Tryz.results43,go_sem,r0,r1,r2]) rfl ?_
 exact HG.out
theorem mat_row {i:Nat}(hT:zai w)(h:zaU w A n c m MM)(z:zaB K MM)(hi:i<n)(hK:K+2<=67108864:=by omega):
  Calls Tryz.prog 32 #[.agg #[.slice A n c,.int .i64 (m:Int)],.int .i64 (i:Int)] w (zcT w m (MM.getD i [])):=by
 have hm:=h.hm
 obtain⟨bx1,bx2,bz⟩:=zax w 32 #[.slice A n c,.int .i64 (m:Int)]
 obtain⟨g0,g1⟩:=bx2.c2
 have HR:=λW=>lh9 (zjz (zkp hi) A c (m:Int) W)
 have HM:=lh9 h
 have HT:=lh9 (λw' (hb:Below w.heap.size w w')=>hT.on hb)
 have HS:=lh9 (z.row (i:=i) (by rw [h.dims.rows];exact hi))
 have HB:=lh9 bx1
 have HK:=lh9 bx2
 clear hT h z bx1 bx2 bz
 unfold zcT
 go_enter Tryz.func32,Tryz.ntmps32
 go_wp2_with fail
 refine(HR _).out.mono ?_
 rintro e w1 ⟨rfl,hb⟩
 have HB1:=lh9 (zaa HB.out hb)
 obtain⟨g0,g1⟩:=(zab hb HK.out).c2
 obtain⟨ad,B,d,rfl,-,hc,hv⟩:=HM.out.row HB1.out hi
 have i1:(0:Int)<=(i:Int):=by omega
 have i2:(i:Int)<(n:Int):=by omega
 have HV:=lh9 hv
 clear hb HB HK hv
 go_wp2_with fail
 (with_reducible refine(zme (HT.out _ HB1.out) HV.out HS.out).mono ?_)
 rintro e w5 ⟨g5,rfl,hg5,ho5,hb⟩
 have HG:=lh9 (And.intro (Nat.le_trans HB1.out.size hg5) (And.intro ho5 (zaa HB1.out hb)))
 clear g0 g1 hg5 ho5 hb hc
 go_wp2
 go_ret2
 exact⟨g5,rfl,HG.out⟩
end
section
variable {A A':oA9}{n n' c c' m m' K K' q q':Nat}{MM NN:List (List Rat)}{w:World}
theorem en_vsame:∀(args:Array Value) (w':World),Sem.run Tryz.prog (callFunc 50 args) w'=.ok (.enter 50 args) w':=Go.Proofs.enters_of Tryz.func50 (by kernel_rfl) rfl
theorem same_len {α:Type}{xs ys:List α}{n n':Nat}(hx:xs.length=n)(hy:ys.length=n')(h:n≠n'):xs≠ys:=λe=>h (by rw [<-hx,<-hy,e])
theorem same_at {xs ys:List (List Rat)}{n k:Nat}(hx:xs.length=n)(hy:ys.length=n)(hk:k<n)(h:xs.getD k []≠ys.getD k []):xs≠ys:=λe=>h (by rw [e])
theorem same_all {xs ys:List (List Rat)}{n:Nat}(hx:xs.length=n)(hy:ys.length=n)(h:∀k,k<n->xs.getD k []=ys.getD k []):xs=ys:=by
 apply List.ext_getElem
 ·omega
 ·intro i h1 h2
  have:=h i (by omega)
  rw [List.getD_eq_getElem?_getD,List.getD_eq_getElem?_getD,List.getElem?_eq_getElem h1,List.getElem?_eq_getElem h2] at this
  exact this
theorem zmI {t:Bool}(e:decide (MM=NN)=t)(hT:zai w)(h:zay (zaN zah) w A n MM)(h':zay (zaN zah) w A' n' NN)(z:zaB K MM)(z':zaB K' NN)(hr:∀L ∈ MM,L.length<=64)(hr':∀L ∈ NN,L.length<=64)(hn:n<=64)(hK:K<=67108864)(hK':K'<=67108864):
  Calls Tryz.prog 110 #[.slice A n q,.slice A' n' q',.func (.func 50) #[] #[]] w (λe w'=>e=.returned (.bool t)/\Below w.heap.size w w'):=by
 have hl:=h.len
 have hl':=h'.len
 have hEn:=en_vsame
 by_cases hq:n=n'
 ·subst hq
  have HA:=lh9 h
  have HA':=lh9 h'
  have HT:=lh9 (λw' (hb:Below w.heap.size w w')=>hT.on hb)
  have HS:Hid (∀i,i<n->zar K (MM.getD i [])):=λi hi=>z.row (by omega)
  have HS':Hid (∀i,i<n->zar K' (NN.getD i [])):=λi hi=>z'.row (by omega)
  have HR:Hid (∀i,i<n->(MM.getD i []).length<=64):=λi hi=>hr _ (List.mem_of_getElem? (zbK (by omega)))
  have HR':Hid (∀i,i<n->(NN.getD i []).length<=64):=λi hi=>hr' _ (List.mem_of_getElem? (zbK (by omega)))
  have HNE:Hid (∀k,k<n->MM.getD k []≠NN.getD k []->false=t):=λk hk hne=>by
   rw [<-e];exact(decide_eq_false (same_at hl hl' hk hne)).symm
  have HEQ:Hid ((∀k,k<n->MM.getD k []=NN.getD k [])->true=t):=λha=>by
   rw [<-e];exact(decide_eq_true (same_all hl hl' ha)).symm
  have hB:=Below.refl w.heap.size w
  have e0:((n:Int) !=(n:Int))=false:=by simp
  have i0:(0:Int)<=(n:Int):=by omega
  clear h h' hT z z' hr hr' e hl hl'
  go_enter Tryz.func110,Tryz.ntmps110
  go_wp2_with fail
  go_loopg [17] (n+1) (λg ix wr=>∃(k:Nat),k<=n/\n<g+k/\ix=.int .i64 k/\Hid (∀i,i<k->MM.getD i []=NN.getD i [])/\Below w.heap.size w wr)
  case atStart=>exact⟨0,Nat.zero_le _,by omega,rfl,λi hi=>by omega,hB⟩
  case round=>
   clear hB
   obtain⟨k,hkn,hg,rfl,hz0,hB⟩:=hrel
   by_cases hlt:k<n
   ·obtain⟨ad,B,d,rfl,-,hc,hv⟩:=HA.out.get (zam zaf) hB hlt rfl
    obtain⟨ad',B',d',rfl,-,hc',hv'⟩:=HA'.out.get (zam zaf) hB hlt rfl
    have hd1:decide ((k:Int)<(n:Int))=true:=decide_eq_true (by omega)
    have i1:(0:Int)<=(k:Int):=by omega
    have i2:(k:Int)<(n:Int):=by omega
    have h5:=HR.out k hlt
    have h6:=HR'.out k hlt
    have HNK:=lh9 (HNE.out k hlt)
    have HSK:=lh9 (HS.out k hlt)
    have HSK':=lh9 (HS'.out k hlt)
    have HZ1:Hid (MM.getD k []=NN.getD k []->∀i,i<k+1->MM.getD i []=NN.getD i []):=λhh i hi=>by
     by_cases e:i=k
     ·rw [e];exact hh
     ·exact hz0.out i (by omega)
    obtain⟨X,hX⟩:∃X,MM.getD k []=X:=⟨_,rfl⟩
    obtain⟨Y,hY⟩:∃Y,NN.getD k []=Y:=⟨_,rfl⟩
    rw [hX] at hc hv h5 HNK HSK HZ1
    rw [hY] at hc' hv' h6 HNK HSK' HZ1
    obtain⟨lx,hlx⟩:∃l,X.length=l:=⟨_,rfl⟩
    obtain⟨ly,hly⟩:∃l,Y.length=l:=⟨_,rfl⟩
    rw [hlx] at hc hv h5
    rw [hly] at hc' hv' h6
    have HV:=lh9 hv
    have HV':=lh9 hv'
    have HB1:=lh9 hB
    clear hX hY hv hv' hlx hly hB
    by_cases h0:X=Y
    ·have HQ:=lh9 (decide_eq_true h0)
     have HZ2:=lh9 (HZ1.out h0)
     clear h0
     go_wp2_with fail
     (with_reducible refine(zeN HQ.out (HT.out _ HB1.out) HV.out HV'.out HSK.out HSK'.out (by omega) (by omega) hK hK').mono ?_)
     rintro e w3 ⟨rfl,hb⟩
     have HB2:=lh9 (zaa HB1.out hb)
     clear hb hc hc' HV HV' HB1
     go_wp2
     go_roundg (n - k)
     case measure=>omega
     case rel=>exact⟨k+1,by omega,by omega,by go_num,HZ2,HB2.out⟩
    ·have HQ:=lh9 (decide_eq_false h0)
     have HF:=lh9 (HNK.out h0)
     clear h0
     go_wp2_with fail
     (with_reducible refine(zeN HQ.out (HT.out _ HB1.out) HV.out HV'.out HSK.out HSK'.out (by omega) (by omega) hK hK').mono ?_)
     rintro e w3 ⟨rfl,hb⟩
     have HB2:=lh9 (zaa HB1.out hb)
     clear hb hc hc' HV HV' HB1
     go_wp2
     go_ret
     exact⟨by rw [<-HF.out];rfl,HB2.out⟩
   ·have hk:k=n:=by omega
    subst hk
    have hd1:decide ((k:Int)<(k:Int))=false:=by simp
    have HF:=lh9 (HEQ.out hz0.out)
    have HB2:=lh9 hB
    clear hB
    go_wp2
    go_ret
    exact⟨by rw [<-HF.out];rfl,HB2.out⟩
 ·have e0:((n:Int) !=(n':Int))=true:=by rw [bne_iff_ne];omega
  have HF:Hid (false=t):=by rw [<-e];exact(decide_eq_false (same_len hl hl' hq)).symm
  clear h h' hT z z' hr hr' e hl hl' hq
  go_enter Tryz.func110,Tryz.ntmps110
  go_wp2
  go_ret
  exact⟨by rw [<-HF.out];rfl,Below.refl _ _⟩
theorem mat_same {t:Bool}(e:decide (m=m'/\MM=NN)=t)(hT:zai w)(h:zaU w A n c m MM)(h':zaU w A' n' c' m' NN)(z:zaB K MM)(z':zaB K' NN)(hK:K<=67108864:=by omega)(hK':K'<=67108864:=by omega):
  Calls Tryz.prog 46 #[.agg #[.slice A n c,.int .i64 (m:Int)],.agg #[.slice A' n' c',.int .i64 (m':Int)]] w (λe w'=>e=.returned (.bool t)/\Below w.heap.size w w'):=by
 obtain⟨bx1,bx2,bx3,bz⟩:=zbC w 32 32 #[.slice A n c,.int .i64 (m:Int)] #[.slice A' n' c',.int .i64 (m':Int)]
 obtain⟨g0,g1⟩:=bx2.c2
 obtain⟨p0,p1⟩:=bx3.c2
 by_cases hq:m=m'
 ·have e0:((m:Int)==(m':Int))=true:=by rw [beq_iff_eq];omega
  have e1:decide (MM=NN)=t:=by
   rw [<-e]
   by_cases hx:MM=NN
   ·rw [decide_eq_true hx,decide_eq_true ⟨hq,hx⟩]
   ·rw [decide_eq_false hx,decide_eq_false (λy=>hx y.2)]
  have hx:=h.hm
  have hy:=h'.hm
  have H:=lh9 (zmI (q:=c) (q':=c') e1 (hT.on bx1) (h.keep bx1).rows (h'.keep bx1).rows z z' (λL hL=>by rw [h.dims.cols L hL];exact hx) (λL hL=>by rw [h'.dims.cols L hL];exact hy) h.hn hK hK')
  have HB:=lh9 bx1
  clear h h' hT z z' bx1 bx2 bx3 bz e e1 hq
  go_enter Tryz.func46,Tryz.ntmps46
  go_wp2_with fail
  refine H.out.mono ?_
  rintro e w1 ⟨rfl,hb⟩
  have HB2:=lh9 (zaa HB.out hb)
  clear hb g0 g1 p0 p1
  go_wp2
  go_ret
  exact⟨rfl,HB2.out⟩
 ·have e0:((m:Int)==(m':Int))=false:=by rw [beq_eq_false_iff_ne];omega
  have HF:Hid (false=t):=by rw [<-e];exact(decide_eq_false (λy=>hq y.1)).symm
  have HB:=lh9 bx1
  clear h h' hT z z' bx1 bx2 bx3 bz e hq
  go_enter Tryz.func46,Tryz.ntmps46
  go_wp2
  go_ret
  exact⟨by rw [<-HF.out];rfl,HB.out⟩
end
