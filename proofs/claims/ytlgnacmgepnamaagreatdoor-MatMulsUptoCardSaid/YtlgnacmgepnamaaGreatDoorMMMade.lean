/- What this claim leans on. -/
import Derived.Test.YtlgnacmgepnamaaGreatDoorMMClos
import Derived.ArgAppend
namespace Go.Proofs.YtlgnacmgepnamaaGreatDoor
open Go Go.RowKit
set_option maxHeartbeats 16000000
set_option maxRecDepth 100000
set_option linter.unusedVariables false
set_option linter.unusedSimpArgs false
theorem zgM (n m:Nat)(f:Nat->Nat->Rat):(zdH n m f).length=n:=by simp [zdH]
theorem ziU {n m:Nat}(f:Nat->Nat->Rat){r:Nat}(h:r<n):(zdH n m f)[r]?=some ((List.range m).map (f r)):=by
 unfold zdH
 rw [List.getElem?_map,List.getElem?_range h]
 rfl
theorem znv (m:Nat)(f:Nat->Rat):((List.range m).map f).length=m:=by simp
theorem znu {m:Nat}(f:Nat->Rat){c:Nat}(h:c<m):((List.range m).map f)[c]?=some (f c):=by
 rw [List.getElem?_map,List.getElem?_range h]
 rfl
theorem zgC {w:World}{g n m:Nat}{M:List (List Rat)}(h:zaZ (zas zan) w 51 g n M)(hd:zcT M n m)(hn:n<=64)(hm:m<=64):zaE w (some ⟨g,0,none⟩) n n m M:=⟨hd,Nat.le_refl _,by omega,hn,hm,h.rows,λad e=>by obtain⟨cs,hk,_⟩:=h.blk;injection e with e;subst e;exact⟨cs,hk⟩⟩
def GivesAt (f:Nat->Nat->Rat)(F:FuncId)(cap:Array Value)(n m:Nat)(w:World):Prop:=
 (∀ (args : Array Value) (w' : World),Sem.run Tryz.prog (callFunc F args) w' = .ok (.enter F args) w') ∧
   ∀r c,r<n->c<m->∀w',Below w.heap.size w w'->Calls Tryz.prog F (#[.int .i64 (r:Int),.int .i64 (c:Int)]++cap) w' (zaP w' (f r c))
theorem zgz {K:Nat}(f:Nat->Nat->Rat)(F:FuncId)(cap:Array Value)(n m:Nat)(w:World)(hT:zao w)(hG:GivesAt f F cap n m w)(hS:∀r c,r<n->c<m->SzQ K (f r c))(hn:n<=64:=by omega)(hm:m<=64:=by omega)(hK:K+2<=67108864:=by omega):
  Calls Tryz.prog 52 #[.int .i64 (n:Int),.int .i64 (m:Int),.func (.func F) #[] cap] w (zca w n m (zdH n m f)):=by
 obtain⟨hEn,hF⟩:=hG
 have HF:=lh9 hF
 have HT:=lh9 (λw' (hb:Below w.heap.size w w')=>hT.on hb)
 have HLM:=lh9 (zgM n m f)
 have HGM:Hid (∀r,r<n->(zdH n m f)[r]?=some ((List.range m).map (f r))):=λr hr=>ziU f hr
 have HGR:Hid (∀r c,c<m->((List.range m).map (f r))[c]?=some (f r c)):=λr c hc=>znu (f r) hc
 have HLR:Hid (∀r,((List.range m).map (f r)).length=m):=λr=>znv m (f r)
 have HSR:Hid (∀r,r<n->zay K ((List.range m).map (f r))):=λr hr x hx=>by
  obtain⟨c,hc,rfl⟩:=List.mem_map.1 hx
  exact hS r c hr (List.mem_range.1 hc)
 have HDM:=lh9 (zev n m f)
 obtain⟨ROW,hROW⟩:∃ROW:Nat->List Rat,(λr=>(List.range m).map (f r))=ROW:=⟨_,rfl⟩
 have hROW2:∀r,(List.range m).map (f r)=ROW r:=λr=>by rw [<-hROW]
 simp only [hROW2] at HGM HGR HLR HSR
 obtain⟨M,hM⟩:∃M,zdH n m f=M:=⟨_,rfl⟩
 rw [hM] at HLM HGM HDM⊢
 obtain⟨Z,hZ⟩:=zep m (by omega)
 have HMK:∀W,(Instr.makeSlice 51 (.int .i64 (m:Int)) (.int .i64 (m:Int))).run Tryz.prog W=.ok (.slice (some ⟨W.heap.size,0,none⟩) m m) (W.alloc (.cells Z 48)):=λW=>(hZ W).1
 have HOWN:=lh9 (λW=>(hZ W).2)
 obtain⟨Y,hY⟩:=zjI n (by omega)
 have HMKV:∀W,(Instr.makeSlice 26 (.int .i64 (n:Int)) (.int .i64 (n:Int))).run Tryz.prog W=.ok (.slice (some ⟨W.heap.size,0,none⟩) n n) (W.alloc (.cells Y 51)):=λW=>(hY W).1
 have HOWNV:=lh9 (λW=>(hY W).2)
 obtain⟨b1,b2,b3,b4,b5⟩:=zbm w 28 51 28 #[.slice none 0 0,.int .i64 0] Y #[.slice (some ⟨w.heap.size+1,0,none⟩) n n,.int .i64 (m:Int)]
 clear hT hF hS hROW hROW2 hM hZ hY
 unfold zca
 have i0:(0:Int)<=(n:Int):=by omega
 have i1:(0:Int)<=(m:Int):=by omega
 go_enter Tryz.func52,Tryz.ntmps52
 go_wp2_with fail
 have hrow:zaZ (zas zan) (((w.alloc (.cells #[.slice none 0 0,.int .i64 0] 28)).alloc (.cells Y 51)).alloc (.cells #[.slice (some ⟨w.heap.size+1,0,none⟩) n n,.int .i64 (m:Int)] 28)) 51 (w.heap.size+1) n (zch [] M n 0):=by
  have h1:=HOWNV.out (w.alloc (.cells #[.slice none 0 0,.int .i64 0] 28))
  have e1:(w.alloc (.cells #[.slice none 0 0,.int .i64 0] 28)).heap.size=w.heap.size+1:=by simp
  rw [e1] at h1
  rw [zbH]
  exact h1.below (zav zar) (zaD _ _ _).1
 clear b3 HOWNV HMKV
 obtain⟨g0,hg0⟩:∃g,w.heap.size=g:=⟨_,rfl⟩
 have hwg:w.heap.size<=g0:=by omega
 rw [hg0] at hrow b1 b2 b4 b5⊢
 generalize ((w.alloc (.cells #[.slice none 0 0,.int .i64 0] 28)).alloc (.cells Y 51)).alloc (.cells #[.slice (some ⟨g0+1,0,none⟩) n n,.int .i64 (m:Int)] 28)=W1 at*
 rw [<-hg0] at b1
 clear hg0
 go_loopg [18] (n+1) (λg ix wr=>∃(k:Nat),k<=n/\n<g+k/\ix=.int .i64 k/\zaZ (zas zan) wr 51 (g0+1) n (zch [] M n k)/\Below w.heap.size w wr/\Blk wr g0 28 #[.slice none 0 0,.int .i64 0]/\Blk wr (g0+1+1) 28 #[.slice (some ⟨g0+1,0,none⟩) n n,.int .i64 (m:Int)])
 case atStart=>exact⟨0,Nat.zero_le _,by omega,rfl,hrow,b1,b2,b4⟩
 case round=>
  clear hrow b1 b2 b4 b5
  obtain⟨k,hkn,hg,rfl,hrow,hB,hk0,hk2⟩:=hrel
  obtain⟨wo,hwo⟩:∃wo,wo=wr:=⟨_,rfl⟩
  subst hwo
  by_cases hlt:k<n
  ·have hd1:decide ((k:Int)<(n:Int))=true:=decide_eq_true (by omega)
   have i2:(0:Int)<=(k:Int):=by omega
   have i3:(k:Int)<(n:Int):=by omega
   have hg1:=hrow.lt
   have HROW:=lh9 hrow
   have HB:=lh9 hB
   have HK0:=lh9 hk0
   have HK2:=lh9 hk2
   have HGRK:=lh9 (HGR.out k)
   have HLRK:=lh9 (HLR.out k)
   have HSRK:=lh9 (HSR.out k hlt)
   have HGMK:=lh9 (HGM.out k hlt)
   obtain⟨R,hR⟩:∃R,ROW k=R:=⟨_,rfl⟩
   rw [hR] at HGRK HLRK HSRK HGMK
   clear hrow hB hk0 hk2 hR
   go_wp2_with fail
   have hin:=HOWN.out wo
   have hb1:Below wo.heap.size wo (wo.alloc (.cells Z 48)):=(Below.refl _ wo).alloc (Nat.le_refl _) _
   rw [<-zbH 0 R m] at hin
   obtain⟨gr,hgr⟩:∃g,wo.heap.size=g:=⟨_,rfl⟩
   have hwr:wo.heap.size<=gr:=by omega
   rw [hgr] at hin⊢
   generalize wo.alloc (.cells Z 48)=W2 at*
   clear hgr
   go_loopg [25] (m+1) (λg jx wr=>∃(j:Nat),j<=m/\m<g+j/\jx=.int .i64 j/\zcW wr gr m (zch 0 R m j)/\Below wo.heap.size wo wr)
   case atStart=>exact⟨0,Nat.zero_le _,by omega,rfl,hin,hb1⟩
   case round=>
    clear hin hb1
    obtain⟨j,hjm,hg2,rfl,hin,hb1⟩:=hrel
    by_cases hjl:j<m
    ·have hd2:decide ((j:Int)<(m:Int))=true:=decide_eq_true (by omega)
     have i4:(0:Int)<=(j:Int):=by omega
     have i5:(j:Int)<(m:Int):=by omega
     have HIN:=lh9 hin
     have HB1:=lh9 hb1
     have HGJ:=lh9 (HGRK.out j hjl)
     clear hin hb1
     go_wp2_with fail
     refine(HF.out k j hlt hjl _ (zac HB.out HB1.out)).mono ?_
     rintro e w3 ⟨b3,A3,n3,c3,E3,k3,f3,rfl,hw3,hb⟩
     have hr3:=HIN.out.keep hb
     have hr4:=zbv.set_ zar hr3 hjl hw3
     rw [zbW 0 R m j HLRK.out hjl _ HGJ.out] at hr4
     obtain⟨q0,q1,q2,sc0,sf0,sc1,sf1,sc2,sf2⟩:=hr3.ready hjl (.bool b3) (.slice A3 n3 c3)
     have HR4:=lh9 hr4
     have HB4:=lh9 (zcN (j*3) (j*3+1) (j*3+2) (.bool b3) (.slice A3 n3 c3) (.slice E3 k3 f3) hwr (zac HB1.out hb))
     clear hr3 hr4 hb hw3 HIN HB1
     go_wp2
     go_roundg (m - j)
     case measure=>omega
     case rel=>exact⟨j+1,by omega,by omega,by go_num,HR4.out,HB4.out⟩
    ·have hj:j=m:=by omega
     subst hj
     have hd2:decide ((j:Int)<(j:Int))=false:=by simp
     have HV:=lh9 (zbI (zbV 0 R j HLRK.out▸hin))
     have hz2:=zad hb1 HK2.out
     have HROW1:=lh9 (HROW.out.below (zav zar) hb1)
     have HB2:=lh9 (zac HB.out hb1)
     have HK01:=lh9 (zad hb1 HK0.out)
     have HK21:=lh9 hz2
     obtain⟨p0,p1⟩:=hz2.c2
     have hbd:=(Below.refl wr.heap.size wr).drew
     clear hin hb1
     go_wp2_with fail
     refine rg (csc p0 csn) (λhHeld=>?_)
     clear p0 p1
     have HV:=lh9 (HV.out.keep hbd)
     have HROW1:=lh9 (HROW1.out.below (zav zar) hbd)
     have HB2:=lh9 (zac HB2.out hbd)
     have HK01:=lh9 (zad hbd HK01.out)
     have HK21:=lh9 (zad hbd HK21.out)
     clear hbd
     generalize wr.drew=D at*
     refine tk 0 ?_
     refine tk 1 ?_
     refine tk 2 ?_
     refine tk 3 ?_
     refine rc 4 (λKK hK9=>?_)
     go_simp
     (with_reducible refine(zmu (HT.out _ HB2.out) HV.out HSRK.out).mono ?_)
     rintro e w5 ⟨g5,rfl,hg5,ho5,hb⟩
     refine hK9.out _ _ (Cs.below hHeld hb) (λhHeld=>?_)
     clear hK9 KK
     have hr5:=HROW1.out.below (zav zar) hb
     have hr6:=zaZ.set_ (zav zar) hr5 hlt (zbI ho5) HLRK.out
     rw [zbW [] M n k HLM.out hlt _ HGMK.out] at hr6
     obtain⟨q0,sc0,sf0⟩:=hr5.ready hlt
     have hne:g0+1+1≠g0+1:=by omega
     have HR6:=lh9 hr6
     have HB6:=lh9 (zaf (p:=⟨g0+1,k,none⟩) (.slice (some ⟨g5,0,none⟩) j j) (show w.heap.size<=g0+1 by omega) (zac HB2.out hb))
     have HK06:=lh9 (Blk.far (p:=⟨g0+1,k,none⟩) (zad hb HK01.out) (by show g0≠g0+1;omega) (.slice (some ⟨g5,0,none⟩) j j))
     have HK26:=lh9 (Blk.far (p:=⟨g0+1,k,none⟩) (zad hb HK21.out) (by show g0+1+1≠g0+1;omega) (.slice (some ⟨g5,0,none⟩) j j))
     clear hb hr5 hr6 ho5 HROW1 HB2 HK01 HK21 HV
     refine tk 5 ?_
     refine rc 6 (λKK hK9=>?_)
     go_simp
     refine hK9.out _ _ ?_ (λhHeld=>?_)
     ·refine Cs.far hHeld ((zde.refl (g0+1) _).set_ k _) ⟨?_,trivial⟩
      show g0+1+1≠g0+1
      omega
     clear hK9 KK
     refine rdn ?_
     clear hHeld sc0 sf0
     go_wp2
     go_roundg (n - k)
     case measure=>omega
     case rel=>exact⟨k+1,by omega,by omega,by go_num,HR6.out,HB6.out,HK06.out,HK26.out⟩
  ·have hk:k=n:=by omega
   subst hk
   have hd1:decide ((k:Int)<(k:Int))=false:=by simp
   have HM:=lh9 (zgC (zbV [] M k HLM.out▸hrow) HDM.out hn hm)
   obtain⟨p0,p1⟩:=hk2.c2
   obtain⟨sc0,sf0,sc1,sf1⟩:=st2 hk0 (.slice (some ⟨g0+1,0,none⟩) k k)
   obtain⟨r0,r1⟩:=(sn2 hk0 (.slice (some ⟨g0+1,0,none⟩) k k) (.int .i64 (m:Int))).c2
   have HG:=lh9 (gm2 HM.out (λad e=>by injection e with e;subst e;show g0<g0+1;omega) hk0 hB hwg)
   unfold zca at HG
   clear hrow hB hk0 hk2
   go_wp2
   refine bodyPost_ret (v:=.agg #[.slice (some ⟨g0+1,0,none⟩) k k,.int .i64 (m:Int)]) (by simp [results,Tryz.results52,go_sem,r0,r1]) rfl ?_
   exact HG.out
theorem zit {r c:Int}{b:Bool}(h:zfK r c=b)(w:World):Calls Tryz.prog 51 #[.int .i64 r,.int .i64 c] w (λe w'=>e=.returned (.bool b)/\w=w'):=h▸mat_may r c w
theorem znh (fn:Fn)(first cap:Array Value)(w:World):(Instr.makeFunc fn first cap).run Tryz.prog w=.ok (.func fn first cap) w:=rfl
theorem sz_one:SzQ 1 (1:Rat):=⟨by decide,by decide⟩
theorem one_sz (r c:Nat):SzQ 1 (if r=c then(1:Rat) else 0):=by split<;>first|exact sz_one|exact SzQ.zero
theorem mat_one {n:Nat}{w:World}(hT:zao w)(hn:n<=64):Calls Tryz.prog 14 #[.int .i64 (n:Int)] w (zel w n n (oneM n)):=by
 have H:=λW=>lh9 (zit (zis hn hn) W)
 obtain⟨bx1,bx2,bz⟩:=zaD w 28 #[.slice none 0 0,.int .i64 0]
 have HM:Hid (Calls _ _ _ _ (zca _ n n (oneM n))):=zgz (K:=1) (λr c=>if r=c then 1 else 0) 55 #[] n n _ (hT.on bx1) ⟨en_one1,λr c _ _ w' hb=>cl_one ((hT.on bx1).on hb) r c⟩ (λr c _ _=>one_sz r c) hn hn
 have HK:=lh9 bx2
 have HB:=lh9 bx1
 clear bx1 bx2 bz hT
 go_enter Tryz.func14,Tryz.ntmps14
 go_wp2_with fail
 refine(H _).out.mono ?_
 rintro e w1 ⟨rfl,rfl⟩
 go_wp2_with fail
 refine HM.out.mono ?_
 rintro e w3 ⟨A3,c3,rfl,hm3,hf3,hb⟩
 have hk3:=zad hb HK.out
 obtain⟨sc0,sf0,sc1,sf1⟩:=st2 hk3 (.slice A3 n c3)
 obtain⟨r0,r1⟩:=(sn2 hk3 (.slice A3 n c3) (.int .i64 (n:Int))).c2
 have HG:=lh9 (gmb2 hm3 (λad e=>Nat.lt_of_lt_of_le HK.out.lt (hf3 ad e)) hk3 (zac HB.out hb) (by omega))
 clear hb hk3 hm3 hf3 HK HB
 go_wp2
 refine bodyPost_ret (v:=.tuple #[.agg #[.slice A3 n c3,.int .i64 (n:Int)],.bool true]) (by simp [results,Tryz.results14,go_sem,r0,r1]) rfl ?_
 exact HG.out
section
variable {A:oA9}{n c m K:Nat}{MM:List (List Rat)}{w:World}
theorem znj (hT:zao w)(h:zaE w A n c m MM)(z:zaB K MM)(hK:K+2<=67108864:=by omega):Calls Tryz.prog 31 #[.agg #[.slice A n c,.int .i64 (m:Int)]] w (zca w m n (zbq n m MM)):=by
 obtain⟨hn,hm⟩:=And.intro h.hn h.hm
 have HR:=λW=>lh9 (zcy A n c (m:Int) W)
 obtain⟨bx1,bx2,bx3,bz⟩:=zbl w 28 28 #[.slice A n c,.int .i64 (m:Int)] #[.slice none 0 0,.int .i64 0]
 have HM:∀W,Below w.heap.size w W->Blk W w.heap.size 28 #[.slice A n c,.int .i64 (m:Int)]->Hid (Calls Tryz.prog 52 #[.int .i64 (m:Int),.int .i64 (n:Int),.func (.func 76) #[] #[.pointer (some ⟨w.heap.size,0,none⟩)]] W (zca W m n (zbq n m MM))):=λW hW hk=>by
  have hh:=h.keep hW
  exact zgz (K:=K) (λr c=>atM MM c r) 76 #[.pointer (some ⟨w.heap.size,0,none⟩)] m n W (hT.on hW) ⟨zmS,λr c hr hc w' hb=>zoO (hh.keep hb) (zad hb hk) hc hr⟩ (λr c hr hc=>z.at_ h.dims hc hr) hm hn hK
 have HKM:=lh9 bx2
 have HK:=lh9 bx3
 have HB:=lh9 bx1
 obtain⟨p0,p1⟩:=bx2.c2
 clear bx1 bx2 bx3 bz hT h z
 go_enter Tryz.func31,Tryz.ntmps31
 go_wp2_with fail
 generalize (w.alloc (.cells #[.slice A n c,.int .i64 (m:Int)] 28)).alloc (.cells #[.slice none 0 0,.int .i64 0] 28)=W1 at*
 have hbd:=(Below.refl W1.heap.size W1).drew
 refine rg (csc p0 (csc p1 csn)) (λhHeld=>?_)
 clear p0 p1
 have HB:=lh9 (zac HB.out hbd)
 have HK:=lh9 (zad hbd HK.out)
 have HKM:=lh9 (zad hbd HKM.out)
 clear hbd
 generalize W1.drew=D at*
 refine tk 0 ?_
 refine tk 1 ?_
 refine tk 2 ?_
 refine tk 4 ?_
 refine rc 3 (λKK hK9=>?_)
 go_simp
 refine(HR _).out.mono ?_
 rintro e w2 ⟨rfl,hb⟩
 refine hK9.out _ _ (Cs.below hHeld hb) (λhHeld=>?_)
 clear hK9 KK
 have HB:=lh9 (zac HB.out hb)
 have HK:=lh9 (zad hb HK.out)
 have HKM:=lh9 (zad hb HKM.out)
 clear hb
 refine rc 5 (λKK hK9=>?_)
 go_simp
 refine(HM _ HB.out HKM.out).out.mono ?_
 rintro e w3 ⟨A3,c3,rfl,hm3,hf3,hb⟩
 refine hK9.out _ _ (Cs.below hHeld hb) (λhHeld=>?_)
 clear hK9 KK
 have hk3:=zad hb HK.out
 obtain⟨sc0,sf0,sc1,sf1⟩:=st2 hk3 (.slice A3 m c3)
 obtain⟨r0,r1⟩:=(sn2 hk3 (.slice A3 m c3) (.int .i64 (n:Int))).c2
 have HG:=lh9 (gm2 hm3 (λad e=>Nat.lt_of_lt_of_le HK.out.lt (hf3 ad e)) hk3 (zac HB.out hb) (by omega))
 clear hb hk3 hm3 hf3 HK HB HKM HM
 refine rc 6 (λKK hK9=>?_)
 go_simp
 refine hK9.out _ _ ?_ (λhHeld=>?_)
 ·refine Cs.far hHeld (zdA _ _ _ _) ⟨?_,?_,trivial⟩<;>(show w.heap.size≠w.heap.size+1;omega)
 clear hK9 KK
 refine rdn ?_
 clear hHeld sc0 sf0 sc1 sf1
 go_wp2
 refine bodyPost_ret (v:=.agg #[.slice A3 m c3,.int .i64 (n:Int)]) (by simp [results,Tryz.results31,go_sem,r0,r1]) rfl ?_
 exact HG.out
end
theorem zaH.vals {R:RP Rat}{w:World}{ad:Addr}{n:Nat}{Ls:List (List Rat)}(h:zaH R w (some ad) n Ls):∃vs:List Value,vs.length=n/\(∀u ∈ vs,zbC u)/\(∀j u,vs[j]?=some u->w.cell? (ad.add j)=some u)/\∀(i:Nat) (L:List Rat),Ls[i]?=some L->∃(B:oA9) (d:Nat),vs[i]?=some (Value.slice B L.length d)/\R w B L.length d L:=by
 have hl:=h.len
 have each:∀i,i<n->∃u,w.cell? (ad.add i)=some u/\zbC u:=λi hi=>by
  obtain⟨ad',B,d,e,_,h2,_⟩:=h.num i _ (zdo (d:=[]) (by omega))
  injection e with e
  subst e
  exact⟨_,h2,_,_,_,rfl⟩
 refine⟨(List.range n).map λi=>(w.cell? (ad.add i)).getD undef,by simp,λu hu=>?_,λj u hu=>?_,λi L hi=>?_⟩
 ·obtain⟨i,hi,rfl⟩:=List.mem_map.1 hu
  obtain⟨u,h1,h2⟩:=each i (List.mem_range.1 hi)
  rw [h1];exact h2
 ·have hj:j<n:=by
   have:=(List.getElem?_eq_some_iff.1 hu).1
   simpa using this
  obtain⟨u',h1,h2⟩:=each j hj
  rw [List.getElem?_map,List.getElem?_range hj] at hu
  injection hu with hu
  dsimp only at hu
  rw [h1] at hu⊢
  rw [<-hu];rfl
 ·have hlt:=(List.getElem?_eq_some_iff.1 hi).1
  obtain⟨ad',B,d,e,_,h2,h3⟩:=h.num i L hi
  injection e with e
  subst e
  refine⟨B,d,?_,h3⟩
  rw [List.getElem?_map,List.getElem?_range (by omega)]
  show some ((w.cell? (ad.add i)).getD undef)=_
  rw [h2];rfl
structure zfc (w:World)(base g n cap:Nat)(Ls:List (List Rat)):Prop where
 ge:base<=g
 len:Ls.length=n
 fits:n<=cap
 most:cap<=9223372036854775807
 blk:∃cs:Array Value,Blk w g 51 cs/\(∀u ∈ cs.toList,zbC u)/\cs.size=cap
 num:∀i L,Ls[i]?=some L->∃(B:oA9) (d:Nat),w.cell? ⟨g,i,none⟩=some (.slice B L.length d)/\zaM w B L.length d L
theorem zfc.below {w w':World}{base g n cap:Nat}{Ls:List (List Rat)}(h:zfc w base g n cap Ls)(hb:Below w.heap.size w w'):zfc w' base g n cap Ls:=by
 refine⟨h.ge,h.len,h.fits,h.most,?_,λi L hi=>?_⟩
 ·obtain⟨cs,hk,h1,h2⟩:=h.blk
  exact⟨cs,zad hb hk,h1,h2⟩
 ·obtain⟨B,d,h1,h2⟩:=h.num i L hi
  exact⟨B,d,zae hb h1,zaM.keep h2 hb⟩
theorem zfc.rows {w:World}{base g n cap:Nat}{Ls:List (List Rat)}(h:zfc w base g n cap Ls):zaH (zas zan) w (some ⟨g,0,none⟩) n Ls:=
 ⟨h.len,λi L hi=>by
  obtain⟨cs,hk,_⟩:=h.blk
  obtain⟨B,d,h1,h2⟩:=h.num i L hi
  exact⟨_,B,d,rfl,hk.lt,by rw [zaO];exact h1,h2⟩⟩
def zhL (w:World)(Ls:List (List Rat))(e:Ending)(w':World):Prop:=∃(v:Value) (vs:List Value),e=.returned v/\zbe (zas zan) w' w.heap.size 51 v Ls vs/\Below w.heap.size w w'
theorem znJ {A:oA9}{n c:Nat}{Ls:List (List Rat)}{w:World}(h:zaH (zas zan) w A n Ls)(hn:n<=1048576):
  Calls Tryz.prog 90 #[.slice A n c] w (zhL w Ls):=by
 obtain⟨i0,hi0,hz0,hz1,hz2⟩:=info_parts zgv
 have q:∀(w:World) (a:oA9) (n c n' c':Nat),(binOp .eql 26 (.slice a n c) (.slice none n' c')).run Tryz.prog w=.ok (.bool a.isNone) w:=λw a n c n' c'=>Lib.run_eql_slice_nil w _ _ a n c n' c' Tryz.underlying26
 rcases A with _|ad
 ·have hl:=h.len
  have hn0:Ls=[]:=by
   rcases Nat.eq_zero_or_pos n with h0|h0
   ·exact List.eq_nil_of_length_eq_zero (by omega)
   ·obtain⟨ad,B,d,e,_⟩:=h.num 0 _ (zdo (d:=[]) (by omega))
    cases e
  subst hn0
  clear h hl
  go_enter Tryz.func90,Tryz.ntmps90
  go_wp2
  go_ret
  exact⟨_,[],rfl,zbe.nil _ _ _,Below.refl _ _⟩
 ·obtain⟨vs,h1,h2,h3,h4⟩:=h.vals
  have hl:=h.len
  obtain⟨t1,t2,-⟩:=zaD w 51 #[]
  have H3:Hid (∀j u,vs[j]?=some u->(w.alloc (.cells #[] 51)).cell? (ad.add j)=some u):=λj u hu=>zae t1 (h3 j u hu)
  have H4:Hid (∀(i:Nat) (L:List Rat),Ls[i]?=some L->∃(B:oA9) (d:Nat),vs[i]?=some (Value.slice B L.length d)/\zaM (w.alloc (.cells #[] 51)) B L.length d L):=λi L hi=>by
   obtain⟨B,d,h5,h6⟩:=h4 i L hi
   exact⟨B,d,h5,zaM.keep h6 t1⟩
  have HL:=lh9 hl
  have HV:=lh9 h1
  have HSL:=lh9 h2
  have HONE:Hid (∀u ∈ vs,u.oneCell'=true):=λu hu=>by obtain⟨A,n,c,e⟩:=h2 u hu;rw [e];rfl
  have HZS:Hid (∀u ∈(Value.slice none 0 0).cells.toList,zbC u):=by intro u hu;simp [Value.cells] at hu;exact⟨_,_,_,hu⟩
  have HRS:Hid (zbN (w.alloc (.cells #[] 51)) (.slice (some ⟨w.heap.size,0,none⟩) 0 0)):=λg hg=>by
   simp [Value.ownBlock] at hg
   subst hg
   exact⟨#[],_,t2,λu hu=>by simp at hu⟩
  have HB:=lh9 t1
  clear h h1 h2 h3 h4 hl t1 t2
  go_enter Tryz.func90,Tryz.ntmps90
  go_wp2_with (at_builtin;go_loud (refine zbR _ rfl (.tmp 5) (.tmp 6) 26 rfl w.heap.size 51 i0 (.slice none 0 0) 1 24 Tryz.underlying26 hi0 hz0 hz1 hz2 rfl (by decide) (.slice (some ⟨w.heap.size,0,none⟩) 0 0) 0 [] rfl (World.ownsRow_made w #[] 0 (Nat.le_refl _) (Nat.zero_le _) rfl) ad n c vs rfl (by have:=HV.out;omega) H3.out HONE.out (by unfold maxLen;omega) (by omega) HB.out.size HRS.out HZS.out HSL.out ?_;intro v' w1 hown' hgrow hat hsl'))
  have G:Hid (zhL w Ls (.returned v') w1):=by
   refine⟨v',vs,rfl,⟨by rw [HL.out];simpa using hown',hsl',λi L hi=>?_⟩,HB.out.grown hgrow HB.out.size (λg hg=>by simp [Value.ownBlock] at hg;omega)⟩
   obtain⟨B,d,h5,h6⟩:=H4.out i L hi
   exact⟨B,d,h5,(zav zar).grown h6 hgrow HRS.out⟩
  clear hown' hgrow hat hsl'
  go_wp2
  go_ret
  exact G.out
