/- What this claim leans on. -/
import Derived.Test.YtcojjcjgbepicaaGreatDoorKMMade
namespace Go.Proofs.YtcojjcjgbepicaaGreatDoor
open Go Go.RowKit
set_option maxHeartbeats 16000000
set_option maxRecDepth 100000
set_option linter.unusedVariables false
set_option linter.unusedSimpArgs false
theorem znH (M:List (List Rat))(v:List Rat):(zdh M v).length=M.length:=by simp [zdh]
theorem znG {M:List (List Rat)}{v:List Rat}{i:Nat}(h:i<M.length):(zdh M v)[i]?=some (dotQ (M.getD i []) v):=by
 unfold zdh
 rw [List.getElem?_map,List.getD_eq_getElem?_getD,List.getElem?_eq_getElem h]
 rfl
theorem times_sz {K K' k:Nat}{M:List (List Rat)}{v:List Rat}(z:zaB K M)(zv:zar K' v)(hd:∀L ∈ M,L.length=k)(hv:v.length=k):zar (1+k*(K+K'+1)) (zdh M v):=λx hx=>by
 obtain⟨L,hL,rfl⟩:=List.mem_map.1 hx
 exact dot_sz (hd L hL) hv (z L hL) zv
section
variable {K K':Nat}{w:World}
theorem mat_dots {n k q c:Nat}{Q A:oA9}{Ls:List (List Rat)}{xs:List Rat}(hT:zai w)(h:zay (zaN zah) w Q n Ls)(hd:∀L ∈ Ls,L.length=k)(hv:zaC w A k c xs)(z:zaB K Ls)(zx:zar K' xs)(hn:n<=64:=by omega)(hk:k<=64:=by omega)(hK:K<=67108864:=by omega)(hK':K'<=67108864:=by omega)(hS:1+k*(K+K'+1)<=67108864:=by omega):
  Calls Tryz.prog 112 #[.slice Q n q,.slice A k c] w (zea w n (zdh Ls xs)):=by
 have hl:=h.len
 have HR:=lh9 h
 have HV:=lh9 hv
 have HT:=lh9 (λw' (hb:Below w.heap.size w w')=>hT.on hb)
 have HZ:Hid (∀i,i<n->zar K (Ls.getD i [])):=λi hi=>z.row (by omega)
 have HD:Hid (∀i,i<n->(Ls.getD i []).length=k):=λi hi=>hd _ (List.mem_of_getElem? (zbK (by omega)))
 have HX:=lh9 zx
 have HLZ:Hid ((zdh Ls xs).length=n):=by show _=_;rw [znH];exact hl
 have HG:Hid (∀i,i<n->(zdh Ls xs)[i]?=some (dotQ (Ls.getD i []) xs)):=λi hi=>znG (by omega)
 have HSS:=lh9 hS
 obtain⟨ys,hys⟩:∃ys,zdh Ls xs=ys:=⟨_,rfl⟩
 rw [hys] at HLZ HG⊢
 obtain⟨Z,hZ⟩:=zdI n (by omega)
 have hmk:=λW=>(hZ W).1
 have HOWN:=lh9 (λW=>(hZ W).2)
 clear hT h hd hv z zx hl hys hZ hS
 unfold zea
 have i0:(0:Int)<=(n:Int):=by omega
 go_enter Tryz.func112,Tryz.ntmps112
 go_wp2_with fail
 clear hmk
 have hrow:=HOWN.out w
 have hB:Below w.heap.size w (w.alloc (.cells Z 53)):=(Below.refl _ w).alloc (Nat.le_refl _) _
 obtain⟨gp,hgp⟩:∃g,w.heap.size=g:=⟨_,rfl⟩
 have hwg:w.heap.size<=gp:=by omega
 rw [hgp] at hrow⊢
 rw [<-zbE 0 ys n] at hrow
 generalize w.alloc (.cells Z 53)=W1 at*
 clear hgp HOWN
 go_loopg [13] (n+1) (λg ix wr=>∃(k:Nat),k<=n/\n<g+k/\ix=.int .i64 k/\zbL wr gp n (zco 0 ys n k)/\Below w.heap.size w wr)
 case atStart=>exact⟨0,Nat.zero_le _,by omega,rfl,hrow,hB⟩
 case round=>
  clear hrow hB
  obtain⟨i,hkn,hg,rfl,hrow,hB⟩:=hrel
  by_cases hlt:i<n
  ·obtain⟨ad,B,d,rfl,-,hc,hvi⟩:=HR.out.get (zam zaf) hB hlt (HD.out i hlt)
   have hd1:decide ((i:Int)<(n:Int))=true:=decide_eq_true (by omega)
   have i1:(0:Int)<=(i:Int):=by omega
   have i2:(i:Int)<(n:Int):=by omega
   have HROW:=lh9 hrow
   have HVI:=lh9 hvi
   have HB1:=lh9 hB
   clear hvi hrow hB
   go_wp2_with fail
   (with_reducible refine(vec_dot (HT.out _ HB1.out) HVI.out (HV.out.keep HB1.out) (HZ.out i hlt) HX.out (by omega) hK hK' HSS.out).mono ?_)
   rintro e w3 ⟨b3,A3,n3,c3,E3,k3,f3,rfl,hw3,hb⟩
   clear hc
   have hr3:=HROW.out.keep hb
   have hr4:=zbf.set_ zaf hr3 hlt hw3
   rw [zbV 0 ys n i HLZ.out hlt _ (HG.out i hlt)] at hr4
   obtain⟨q0,q1,q2,sc0,sf0,sc1,sf1,sc2,sf2⟩:=hr3.ready hlt (.bool b3) (.slice A3 n3 c3)
   have HR4:=lh9 hr4
   have HB4:=lh9 (zbB (i*3) (i*3+1) (i*3+2) (.bool b3) (.slice A3 n3 c3) (.slice E3 k3 f3) hwg (zaa HB1.out hb))
   clear hr3 hr4 hb hw3 HROW HB1 HVI
   go_wp2
   go_roundg (n - i)
   case measure=>omega
   case rel=>exact⟨i+1,by omega,by omega,by go_num,HR4.out,HB4.out⟩
  ·have hk9:i=n:=by omega
   subst hk9
   have hd1:decide ((i:Int)<(i:Int))=false:=by simp
   have HR5:=lh9 (zbU 0 ys i HLZ.out▸hrow)
   have HB1:=lh9 hB
   clear hrow hB
   go_wp2
   go_ret
   exact⟨gp,rfl,hwg,HR5.out,HB1.out⟩
variable {A:oA9}{n c m:Nat}{MM:List (List Rat)}
def zfA (w:World)(n:Nat)(Ls:List (List Rat))(e:Ending)(w':World):Prop:=∃g,e=.returned (.slice (some ⟨g,0,none⟩) n n)/\w.heap.size<=g/\zaX (zaN zah) w' 71 g n Ls/\Below w.heap.size w w'
variable {V:oA9}{k cv:Nat}{xs:List Rat}
theorem zoW (hT:zai w)(h:zaU w A n c m MM)(hv:zaC w V m cv xs)(z:zaB K MM)(zx:zar K' xs)(hK:K<=67108864:=by omega)(hK':K'<=67108864:=by omega)(hS:1+m*(K+K'+1)<=67108864:=by omega):
  Calls Tryz.prog 48 #[.agg #[.slice A n c,.int .i64 (m:Int)],.slice V m cv] w (zcT w n (zdh MM xs)):=by
 have e0:((m:Int) !=(m:Int))=false:=by simp
 obtain⟨bx1,bx2,bz⟩:=zax w 32 #[.slice A n c,.int .i64 (m:Int)]
 obtain⟨g0,g1⟩:=bx2.c2
 have HD:=lh9 (mat_dots (q:=c) (hT.on bx1) (h.keep bx1).rows h.dims.cols (hv.keep bx1) z zx h.hn h.hm hK hK' hS)
 have HB:=lh9 bx1
 clear h bx1 bx2 bz hT hv z zx
 unfold zcT
 go_enter Tryz.func48,Tryz.ntmps48
 go_wp2_with fail
 refine HD.out.mono ?_
 rintro e w5 ⟨g5,rfl,hg5,ho5,hb⟩
 have HG:=lh9 (And.intro (Nat.le_trans HB.out.size hg5) (And.intro ho5 (zaa HB.out hb)))
 clear g0 g1 hg5 ho5 hb
 go_wp2
 go_ret2
 exact⟨g5,rfl,HG.out⟩
end
section
variable {w:World}{A:oA9}{n c m K:Nat}{MM:List (List Rat)}
theorem zfc (hT:zai w)(h:zaU w A n c m MM)(z:zaB K MM)(hK:K+2<=67108864:=by omega):
  Calls Tryz.prog 75 #[.agg #[.slice A n c,.int .i64 (m:Int)]] w (zfA w n MM):=by
 obtain⟨hn,hm⟩:=And.intro h.hn h.hm
 have HM:=lh9 (λw' (hb:Below w.heap.size w w')=>h.keep hb)
 have HT:=lh9 (λw' (hb:Below w.heap.size w w')=>hT.on hb)
 have HZ:=lh9 z
 have HR:=λW=>lh9 (zfg A n c (m:Int) W)
 have HLZ:Hid (MM.length=n):=h.dims.rows
 have HLC:Hid (∀i,i<n->(MM.getD i []).length=m):=λi hi=>h.dims.row hi
 have HG:Hid (∀i,i<n->MM[i]?=some (MM.getD i [])):=λi hi=>zbK (by have:=h.dims.rows;omega)
 obtain⟨Y,hY⟩:=zhd n (by omega)
 have hmk:=λW=>(hY W).1
 have HOWN:=lh9 (λW=>(hY W).2)
 obtain⟨bx1,bx2,bz⟩:=zax w 32 #[.slice A n c,.int .i64 (m:Int)]
 obtain⟨g0,g1⟩:=bx2.c2
 have HB:=lh9 bx1
 have HK:=lh9 bx2
 clear h hY bx1 bx2 bz hT z
 unfold zfA
 have i0:(0:Int)<=(n:Int):=by omega
 go_enter Tryz.func75,Tryz.ntmps75
 go_wp2_with fail
 generalize w.alloc (.cells #[.slice A n c,.int .i64 (m:Int)] 32)=W1 at*
 refine(HR _).out.mono ?_
 rintro eo w1 ⟨rfl,hb⟩
 have hK1:=zab hb HK.out
 have hB1:=zaa HB.out hb
 clear hb g0 g1 HR HB HK
 go_wp2_with fail
 clear hmk
 have hrow:=HOWN.out w1
 have hBa:=(zax w1 71 Y).1
 have hK:=zab hBa hK1
 have hB:=zaa hB1 hBa
 have hlt1:=hK1.lt
 rw [<-zbE [] MM n] at hrow
 generalize w1.alloc (.cells Y 71)=W2 at*
 clear HOWN hBa hK1 hB1
 generalize w1.heap.size=gp at*
 go_loopg [10] (n+1) (λg ix wr=>∃(k:Nat),k<=n/\n<g+k/\ix=.int .i64 k/\zaX (zaN zah) wr 71 gp n (zco [] MM n k)/\Below w.heap.size w wr/\Blk wr w.heap.size 32 #[.slice A n c,.int .i64 (m:Int)])
 case atStart=>exact⟨0,Nat.zero_le _,by omega,rfl,hrow,hB,hK⟩
 case round=>
  clear hrow hB hK
  obtain⟨i,hkn,hg,rfl,hrow,hB,hK⟩:=hrel
  by_cases hlt:i<n
  ·have hd1:decide ((i:Int)<(n:Int))=true:=decide_eq_true (by omega)
   have i1:(0:Int)<=(i:Int):=by omega
   have i2:(i:Int)<(n:Int):=by omega
   obtain⟨g0,g1⟩:=hK.c2
   have HROW:=lh9 hrow
   have HB1:=lh9 hB
   have HK1:=lh9 hK
   have HGI:=lh9 (HG.out i hlt)
   clear hrow hB hK
   go_wp2_with fail
   (with_reducible refine(mat_row (HT.out _ HB1.out) (HM.out _ HB1.out) HZ.out hlt).mono ?_)
   rintro eo w5 ⟨g5,rfl,hg5,ho5,hb⟩
   clear g0 g1
   have hr5:=HROW.out.below (zam zaf) hb
   have hr6:=zaX.set_ (zam zaf) hr5 hlt (zaI ho5) (HLC.out i hlt)
   rw [zbV [] MM n i HLZ.out hlt _ HGI.out] at hr6
   obtain⟨q0,sc0,sf0⟩:=hr5.ready hlt
   have HR6:=lh9 hr6
   have HB6:=lh9 (zae (p:=⟨gp,i,none⟩) (.slice (some ⟨g5,0,none⟩) m m) (show w.heap.size<=gp by omega) (zaa HB1.out hb))
   have HK6:=lh9 (Blk.far (p:=⟨gp,i,none⟩) (zab hb HK1.out) (by show w.heap.size≠gp;omega) (.slice (some ⟨g5,0,none⟩) m m))
   clear hr5 hr6 ho5 hb HROW HB1 HK1 HGI
   go_wp2
   go_roundg (n - i)
   case measure=>omega
   case rel=>exact⟨i+1,by omega,by omega,by go_num,HR6.out,HB6.out,HK6.out⟩
  ·have hk9:i=n:=by omega
   subst hk9
   have hd1:decide ((i:Int)<(i:Int))=false:=by simp
   have HR5:=lh9 (zbU [] MM i HLZ.out▸hrow)
   have HB1:=lh9 hB
   clear hrow hB hK
   go_wp2
   go_ret
   exact⟨gp,rfl,by omega,HR5.out,HB1.out⟩
end
section
variable {w:World}{g:Nat}{st:ESt}{rd:Rat}{A:oA9}{n cA:Nat}{B:oA9}{k cB:Nat}{x0 x1 x2 y0 y1 y2:Value}
def zcO (r:Rat)(M:List (List Rat)):List (List Rat):=M.map (zaH r)
theorem zkm {K m:Nat}(hT:zai w)(hE:ElS w g st rd A n cA B k cB x0 x1 x2 y0 y1 y2)(hd:zbe st.S n m)(z:zaB K st.S)(zp:SzQ K st.p)(hp:st.p≠0)(hn:n<=64)(hm:m<=1073741824)(hK:K<=33554432:=by omega):
  Calls Tryz.prog 84 #[.pointer (some ⟨g,0,none⟩)] w (zfA w n (zcO st.p⁻¹ st.S)):=by
 obtain⟨b0,A0,n0,c0,E0,k0,f0,rfl,rfl,rfl,hpr⟩:=hE.lead
 obtain⟨vs,hrows⟩:=hE.rows
 obtain⟨A',c',hA',-,-,hL,-⟩:=hrows.shape hE.hn
 have HL:Hid (zay (VZ g) w A n st.S):=by injection hA' with q1 q2 q3;subst q1;exact hL
 have HP:=lh9 (λw' (hb:Below w.heap.size w w')=>hpr.below hb)
 have HC:=lh9 (λw' (hb:Below w.heap.size w w')=>(hE.below hb).cells)
 have HT:=lh9 (λw' (hb:Below w.heap.size w w')=>hT.on hb)
 have HZP:=lh9 zp
 have HNP:=lh9 hp
 have HLZ:Hid ((zcO st.p⁻¹ st.S).length=n):=by unfold zcO;rw [List.length_map];exact hd.rows
 have HLR:Hid (∀i,i<n->(st.S.getD i []).length=m):=λi hi=>hd.row hi
 have HSR:Hid (∀i,i<n->zar K (st.S.getD i [])):=λi hi=>z.row (by have:=hd.rows;omega)
 have HG:Hid (∀i,i<n->(zcO st.p⁻¹ st.S)[i]?=some (zaH st.p⁻¹ (st.S.getD i []))):=λi hi=>by
  unfold zcO;rw [List.getElem?_map,zbK (d:=[]) (by have:=hd.rows;omega)];rfl
 obtain⟨ys,hys⟩:∃ys,zcO st.p⁻¹ st.S=ys:=⟨_,rfl⟩
 rw [hys] at HLZ HG⊢
 obtain⟨Y,hY⟩:=zhd n (by omega)
 have hmk:=λW=>(hY W).1
 have HOWN:=lh9 (λW=>(hY W).2)
 obtain⟨p0,-,p2,p3,p4,-⟩:=HC.out _ (Below.refl _ _)
 have i0:(0:Int)<=(n:Int):=by omega
 unfold zfA
 clear hT hE hd z zp hp hpr hrows hA' hL hY hys
 go_enter Tryz.func84,Tryz.ntmps84
 go_wp2_with fail
 clear p0 p2 p3 p4
 (with_reducible refine(zhU st.p b0 A0 n0 c0 E0 k0 f0 _ (HT.out _ (Below.refl _ _)) (HP.out _ (Below.refl _ _)) (HZP.out.fit (HP.out _ (Below.refl _ _)) (by omega)) HNP.out).mono ?_)
 rintro eo w5 ⟨b5,A5,n5,c5,E5,k5,f5,rfl,hw5,hb⟩
 obtain⟨bx1,bx2,-⟩:=zax w5 53 #[.bool b5,.slice A5 n5 c5,.slice E5 k5 f5]
 have hI:=hw5.below bx1
 have hB5:=zaa hb bx1
 have hs5:=hb.size
 obtain⟨p0,-⟩:=HC.out _ hB5
 obtain⟨q0,-⟩:=HC.out _ (zaa hB5 (zax (w5.alloc (.cells #[.bool b5,.slice A5 n5 c5,.slice E5 k5 f5] 53)) 71 Y).1)
 clear hb hw5 bx1
 go_wp2_with fail
 clear hmk p0 q0
 have e1:(w5.alloc (.cells #[.bool b5,.slice A5 n5 c5,.slice E5 k5 f5] 53)).heap.size=w5.heap.size+1:=by simp
 generalize w5.alloc (.cells #[.bool b5,.slice A5 n5 c5,.slice E5 k5 f5] 53)=W6 at*
 have hrow:=HOWN.out W6
 have hBa:=(zax W6 71 Y).1
 have hK:=zab hBa bx2
 have hB:=zaa hB5 hBa
 have hI:=hI.below hBa
 rw [e1] at hrow
 obtain⟨gp,hgp⟩:∃q,w5.heap.size+1=q:=⟨_,rfl⟩
 have hltp:w5.heap.size<gp:=by omega
 rw [hgp] at hrow⊢
 rw [<-zbE [] ys n] at hrow
 generalize W6.alloc (.cells Y 71)=W7 at*
 clear HOWN hBa bx2 hB5 e1 hgp
 generalize w5.heap.size=g5 at*
 go_loopg [27] (n+1) (λgg ix wr=>∃(i:Nat),i<=n/\n<gg+i/\ix=.int .i64 i/\zaX (zaN zah) wr 71 gp n (zco [] ys n i)/\Below w.heap.size w wr/\Blk wr g5 53 #[.bool b5,.slice A5 n5 c5,.slice E5 k5 f5]/\zah wr st.p⁻¹ b5 A5 n5 c5 E5 k5 f5)
 case atStart=>exact⟨0,Nat.zero_le _,by omega,rfl,hrow,hB,hK,hI⟩
 case round=>
  clear hrow hB hK hI
  obtain⟨i,hkn,hg,rfl,hrow,hB,hK,hI⟩:=hrel
  by_cases hlt:i<n
  ·have hd1:decide ((i:Int)<(n:Int))=true:=decide_eq_true (by omega)
   have i1:(0:Int)<=(i:Int):=by omega
   have i2:(i:Int)<(n:Int):=by omega
   obtain⟨ad,Bi,di,rfl,-,hc0,hvi⟩:=HL.out.get (zct g) hB hlt (HLR.out i hlt)
   obtain⟨p0,p1,p2⟩:=hK.c3
   have HV:=lh9 hvi.1
   have HROW:=lh9 hrow
   have HB1:=lh9 hB
   have HK1:=lh9 hK
   have HI1:=lh9 hI
   have HGI:=lh9 (HG.out i hlt)
   have HSI:=lh9 (HSR.out i hlt)
   have HLI:=lh9 (HLR.out i hlt)
   generalize st.S.getD i []=row at*
   clear hrow hB hK hI hvi
   go_wp2_with fail
   (with_reducible refine(zbs (HT.out _ HB1.out) HI1.out HV.out HZP.out.inv HSI.out).mono ?_)
   rintro eo w8 ⟨g8,rfl,hg8,ho8,hb⟩
   clear p0 p1 p2 hc0
   have hr5:=HROW.out.below (zam zaf) hb
   have hr6:=zaX.set_ (zam zaf) hr5 hlt (zaI ho8) (by rw [zbm HLI.out])
   rw [zbV [] ys n i HLZ.out hlt _ HGI.out] at hr6
   obtain⟨q0,sc0,sf0⟩:=hr5.ready hlt
   obtain⟨cs9,hk9,hs9,-⟩:=hr5.blk
   have HR6:=lh9 hr6
   have HB6:=lh9 (zae (p:=⟨gp,i,none⟩) (.slice (some ⟨g8,0,none⟩) m m) (show w.heap.size<=gp by omega) (zaa HB1.out hb))
   have HK6:=lh9 (Blk.far (p:=⟨gp,i,none⟩) (zab hb HK1.out) (by show g5≠gp;omega) (.slice (some ⟨g8,0,none⟩) m m))
   have HI6:=lh9 (zcH hk9 (zfr hs9) (zbd.of_far ((zaY.refl gp _).set_ i (.slice (some ⟨g8,0,none⟩) m m))) (HI1.out.below hb))
   clear hr5 hr6 ho8 hb HROW HB1 HK1 HI1 HGI hk9 hs9
   go_wp2
   go_roundg (n - i)
   case measure=>omega
   case rel=>exact⟨i+1,by omega,by omega,by go_num,HR6.out,HB6.out,HK6.out,HI6.out⟩
  ·have hk9:i=n:=by omega
   subst hk9
   have hd1:decide ((i:Int)<(i:Int))=false:=by simp
   have HR5:=lh9 (zbU [] ys i HLZ.out▸hrow)
   have HB1:=lh9 hB
   clear hrow hB hK hI
   go_wp2
   go_ret
   exact⟨gp,rfl,by omega,HR5.out,HB1.out⟩
end
section
variable {A:oA9}{n c m K:Nat}{MM:List (List Rat)}{w:World}
theorem zlE {V:oA9}{cv p:Nat}{xs:List Rat}(hp:m+1=p)(hT:zai w)(h:zaU w A n c m MM)(z:zaB K MM)(hv:zaC w V n cv xs)(zx:zar K xs)(hm9:m<64)(hK:K+2<=67108864:=by omega):
  Calls Tryz.prog 49 #[.agg #[.slice A n c,.int .i64 (m:Int)],.slice V n cv] w (zfy w n p (zer n p λa b=>if b=m then xs.getD a 0 else atM MM a b)):=by
 obtain⟨hn,hm⟩:=And.intro h.hn h.hm
 obtain⟨bx,by0,by1,by2,bz⟩:=zbA w 32 71 32 #[.slice A n c,.int .i64 (m:Int)] #[.slice V n cv] #[.slice none 0 0,.int .i64 0]
 have HK0:=lh9 by0
 have HK1:=lh9 by1
 have HK2:=lh9 by2
 have HB:=lh9 bx
 have HR:=λW=>lh9 (zfg A n c (m:Int) W)
 have HMY:∀(W:World) (z9:Int),z9=(p:Int)->Hid (Calls Tryz.prog 113 #[.int .i64 (n:Int),.int .i64 z9] W (λe w'=>e=.returned (.bool true)/\W=w')):=λW z9 hz9=>by subst hz9;exact may_of (zlF hn (show p<=64 by omega)) W
 have e0:((n:Int) !=(n:Int))=false:=by simp
 have hlv:=hv.len
 have HM:∀W,Below w.heap.size w W->Blk W (w.heap.size) 32 #[.slice A n c,.int .i64 (m:Int)]->Blk W (w.heap.size+1) 71 #[.slice V n cv]->∀z9:Int,z9=((p:Nat):Int)->Hid (Calls Tryz.prog 71 #[.int .i64 ((n:Nat):Int),.int .i64 z9,.func (.func 114) #[] #[.pointer (some ⟨w.heap.size,0,none⟩),.pointer (some ⟨w.heap.size+1,0,none⟩)]] W (zcR W (n) (p) (zer n p λa b=>if b=m then xs.getD a 0 else atM MM a b))):=λW hW k0 k1 z9 hz9=>by
  subst hz9
  have hh:=h.keep hW
  exact zlD (K:=K) (λa b=>if b=m then xs.getD a 0 else atM MM a b) 114 #[.pointer (some ⟨w.heap.size,0,none⟩),.pointer (some ⟨w.heap.size+1,0,none⟩)] n p W (hT.on hW) ⟨zlk,λa b ha hb9 w' hb=>zmv (hh.keep hb) (zab hb k0) (zab hb k1) ((hv.keep hW).keep hb) ha (by omega)⟩ (λa b ha hb9=>by split;exact zx.at_ (by omega);exact z.at_ h.dims ha (by omega)) hn (by omega) hK
 have HP:=lh9 hp
 clear bx bz by0 by1 by2 hT h z hv zx hlv hp
 obtain⟨p0_0,p0_1⟩:=HK0.out.c2
 have p1_0:=HK1.out.c1
 go_enter Tryz.func49,Tryz.ntmps49
 go_wp2_with fail
 generalize ((w.alloc (.cells #[.slice A n c,.int .i64 (m:Int)] 32)).alloc (.cells #[.slice V n cv] 71)).alloc (.cells #[.slice none 0 0,.int .i64 0] 32)=W1 at*
 refine rg (csc p0_0 (csc p0_1 (csc p1_0 csn))) (λhHeld=>?_)
 clear p0_0 p0_1 p1_0
 have hbd:=(Below.refl W1.heap.size W1).drew
 have HB:=lh9 (zaa HB.out hbd)
 have HK0:=lh9 (zab hbd HK0.out)
 have HK1:=lh9 (zab hbd HK1.out)
 have HK2:=lh9 (zab hbd HK2.out)
 clear hbd
 generalize W1.drew=D at*
 refine tk 0 ?_
 refine tk 1 ?_
 refine tk 2 ?_
 refine rc 3 (λKK hK9=>?_)
 go_simp
 refine((HR _).out).mono ?_
 rintro e w2 ⟨rfl,hb⟩
 refine hK9.out _ _ (Cs.below hHeld hb) (λhHeld=>?_)
 clear hK9 KK
 have HB:=lh9 (zaa HB.out hb)
 have HK0:=lh9 (zab hb HK0.out)
 have HK1:=lh9 (zab hb HK1.out)
 have HK2:=lh9 (zab hb HK2.out)
 clear hb
 refine tk 4 ?_
 refine tk 5 ?_
 refine tk 6 ?_
 refine tk 8 ?_
 refine tk 9 ?_
 refine tk 10 ?_
 refine rc 7 (λKK hK9=>?_)
 go_simp
 refine((HR _).out).mono ?_
 rintro e w2 ⟨rfl,hb⟩
 refine hK9.out _ _ (Cs.below hHeld hb) (λhHeld=>?_)
 clear hK9 KK
 have HB:=lh9 (zaa HB.out hb)
 have HK0:=lh9 (zab hb HK0.out)
 have HK1:=lh9 (zab hb HK1.out)
 have HK2:=lh9 (zab hb HK2.out)
 clear hb
 refine rc 11 (λKK hK9=>?_)
 go_simp
 refine((HMY _ _ (by have h0:=HP.out;first|omega|(have e:IntKind.i64.wrap ((m:Int)+1)=(m:Int)+1:=IntWalk.i64_in _ (by omega);omega))).out).mono ?_
 rintro e w2 ⟨rfl,rfl⟩
 refine hK9.out _ _ hHeld (λhHeld=>?_)
 clear hK9 KK
 refine tk 12 ?_
 refine tk 13 ?_
 refine rdn ?_
 clear hHeld
 obtain⟨p0_0,p0_1⟩:=HK0.out.c2
 have p1_0:=HK1.out.c1
 go_wp2_with fail
 refine rg (csc p0_0 (csc p0_1 csn)) (λhHeld=>?_)
 clear p0_0 p0_1 p1_0
 have hbd:=(Below.refl w2.heap.size w2).drew
 have HB:=lh9 (zaa HB.out hbd)
 have HK0:=lh9 (zab hbd HK0.out)
 have HK1:=lh9 (zab hbd HK1.out)
 have HK2:=lh9 (zab hbd HK2.out)
 clear hbd
 generalize w2.drew=D at*
 refine tk 0 ?_
 refine tk 2 ?_
 refine tk 3 ?_
 refine tk 4 ?_
 refine tk 5 ?_
 refine rc 1 (λKK hK9=>?_)
 go_simp
 refine((HR _).out).mono ?_
 rintro e w2 ⟨rfl,hb⟩
 refine hK9.out _ _ (Cs.below hHeld hb) (λhHeld=>?_)
 clear hK9 KK
 have HB:=lh9 (zaa HB.out hb)
 have HK0:=lh9 (zab hb HK0.out)
 have HK1:=lh9 (zab hb HK1.out)
 have HK2:=lh9 (zab hb HK2.out)
 clear hb
 refine rc 6 (λKK hK9=>?_)
 go_simp
 refine(HM _ HB.out HK0.out HK1.out _ (by have h0:=HP.out;first|omega|(have e:IntKind.i64.wrap ((m:Int)+1)=(m:Int)+1:=IntWalk.i64_in _ (by omega);omega))).out.mono ?_
 rintro e w3 ⟨A3,c3,rfl,hm3,hf3,hb⟩
 refine hK9.out _ _ (Cs.below hHeld hb) (λhHeld=>?_)
 clear hK9 KK
 have hk3:=zab hb HK2.out
 obtain⟨sc0,sf0,sc1,sf1⟩:=st2 hk3 (.slice A3 (n) c3)
 obtain⟨r0,r1⟩:=(sn2 hk3 (.slice A3 (n) c3) (.int .i64 ((p:Nat):Int))).c2
 have HG:=lh9 (gmb2 hm3 (λad e=>Nat.lt_of_lt_of_le HK2.out.lt (hf3 ad e)) hk3 (zaa HB.out hb) (by omega))
 clear hb hk3 hm3 hf3 HB HM HK0 HK1 HK2
 refine rc 7 (λKK hK9=>?_)
 go_simp
 refine hK9.out _ _ ?_ (λhHeld=>?_)
 ·refine Cs.far hHeld (ziG _ _ _ _) ⟨?_,?_,trivial⟩<;>(show w.heap.size≠w.heap.size+1+1;omega)
 clear hK9 KK
 refine tk 8 ?_
 refine rdn ?_
 clear hHeld sc0 sf0 sc1 sf1
 go_wp2
 refine bodyPost_ret (v:=.tuple #[.agg #[.slice A3 (n) c3,.int .i64 ((p:Nat):Int)],.bool true]) (by simp [results,Tryz.results49,go_sem,r0,r1]) rfl ?_
 exact HG.out
end
