/- What this claim leans on. -/
import Derived.Test.YtghpdeciaaagnaaGreatDoorIMLook
namespace Go.Proofs.YtghpdeciaaagnaaGreatDoor
open Go Go.RowKit
set_option maxHeartbeats 16000000
set_option maxRecDepth 100000
set_option linter.unusedVariables false
set_option linter.unusedSimpArgs false
theorem zkg (M:List (List Rat))(v:List Rat):(zdu M v).length=M.length:=by simp [zdu]
theorem zph {M:List (List Rat)}{v:List Rat}{i:Nat}(h:i<M.length):(zdu M v)[i]?=some (zhi (M.getD i []) v):=by
 unfold zdu
 rw [List.getElem?_map,List.getD_eq_getElem?_getD,List.getElem?_eq_getElem h]
 rfl
section
variable {K K':Nat}{w:World}
theorem mat_dots {n k q c:Nat}{Q A:oA9}{Ls:List (List Rat)}{xs:List Rat}(hT:zai w)(h:zaB (zaI zah) w Q n Ls)(hd:∀L ∈ Ls,L.length=k)(hv:zaz w A k c xs)(z:zax K Ls)(zx:zau K' xs)(hn:n<=64:=by omega)(hk:k<=64:=by omega)(hK:K<=67108864:=by omega)(hK':K'<=67108864:=by omega)(hS:1+k*(K+K'+1)<=67108864:=by omega):
  Calls Tryz.prog 97 #[.slice Q n q,.slice A k c] w (zdI w n (zdu Ls xs)):=by
 have hl:=h.len
 have HR:=lh9 h
 have HV:=lh9 hv
 have HT:=lh9 (λw' (hb:Below w.heap.size w w')=>hT.on hb)
 have HZ:Hid (∀i,i<n->zau K (Ls.getD i [])):=λi hi=>z.row (by omega)
 have HD:Hid (∀i,i<n->(Ls.getD i []).length=k):=λi hi=>hd _ (List.mem_of_getElem? (zbE (by omega)))
 have HX:=lh9 zx
 have HLZ:Hid ((zdu Ls xs).length=n):=by show _=_;rw [zkg];exact hl
 have HG:Hid (∀i,i<n->(zdu Ls xs)[i]?=some (zhi (Ls.getD i []) xs)):=λi hi=>zph (by omega)
 have HSS:=lh9 hS
 obtain⟨ys,hys⟩:∃ys,zdu Ls xs=ys:=⟨_,rfl⟩
 rw [hys] at HLZ HG⊢
 obtain⟨Z,hZ⟩:=zdC n (by omega)
 have hmk:=λW=>(hZ W).1
 have HOWN:=lh9 (λW=>(hZ W).2)
 clear hT h hd hv z zx hl hys hZ hS
 unfold zdI
 have i0:(0:Int)<=(n:Int):=by omega
 go_enter Tryz.func97,Tryz.ntmps97
 go_wp2_with fail
 clear hmk
 have hrow:=HOWN.out w
 have hB:Below w.heap.size w (w.alloc (.cells Z 41)):=(Below.refl _ w).alloc (Nat.le_refl _) _
 obtain⟨gp,hgp⟩:∃g,w.heap.size=g:=⟨_,rfl⟩
 have hwg:w.heap.size<=gp:=by omega
 rw [hgp] at hrow⊢
 rw [<-zbh 0 ys n] at hrow
 generalize w.alloc (.cells Z 41)=W1 at*
 clear hgp HOWN
 go_loopg [13] (n+1) (λg ix wr=>∃(k:Nat),k<=n/\n<g+k/\ix=.int .i64 k/\zbU wr gp n (zbR 0 ys n k)/\Below w.heap.size w wr)
 case atStart=>exact⟨0,Nat.zero_le _,by omega,rfl,hrow,hB⟩
 case round=>
  clear hrow hB
  obtain⟨i,hkn,hg,rfl,hrow,hB⟩:=hrel
  by_cases hlt:i<n
  ·obtain⟨ad,B,d,rfl,-,hc,hvi⟩:=HR.out.get (zam zaf) hB hlt (HD.out i hlt)
   have hd1:decide ((i:Int)<(n:Int))=true:=decide_eq_true (by omega)
   have i1:(0:Int)<=(i:Int):=by omega
   have i2:(i:Int)<(n:Int):=by omega
   have HROW:=lh9 hrow
   have HVI:=lh9 hvi
   have HB1:=lh9 hB
   clear hvi hrow hB
   go_wp2_with fail
   (with_reducible refine(vec_dot (HT.out _ HB1.out) HVI.out (HV.out.keep HB1.out) (HZ.out i hlt) HX.out (by omega) hK hK' HSS.out).mono ?_)
   rintro e w3 ⟨b3,A3,n3,c3,E3,k3,f3,rfl,hw3,hb⟩
   clear hc
   have hr3:=HROW.out.keep hb
   have hr4:=zbm.set_ zaf hr3 hlt hw3
   rw [zbt 0 ys n i HLZ.out hlt _ (HG.out i hlt)] at hr4
   obtain⟨q0,q1,q2,sc0,sf0,sc1,sf1,sc2,sf2⟩:=hr3.ready hlt (.bool b3) (.slice A3 n3 c3)
   have HR4:=lh9 hr4
   have HB4:=lh9 (zbH (i*3) (i*3+1) (i*3+2) (.bool b3) (.slice A3 n3 c3) (.slice E3 k3 f3) hwg (zab HB1.out hb))
   clear hr3 hr4 hb hw3 HROW HB1 HVI
   go_wp2
   go_roundg (n - i)
   case measure=>omega
   case rel=>exact⟨i+1,by omega,by omega,by go_num,HR4.out,HB4.out⟩
  ·have hk9:i=n:=by omega
   subst hk9
   have hd1:decide ((i:Int)<(i:Int))=false:=by simp
   have HR5:=lh9 (zbs 0 ys i HLZ.out▸hrow)
   have HB1:=lh9 hB
   clear hrow hB
   go_wp2
   go_ret
   exact⟨gp,rfl,hwg,HR5.out,HB1.out⟩
variable {A:oA9}{n c m:Nat}{MM:List (List Rat)}
theorem zoz {j:Nat}(h:zaR w A n c m MM)(hj:j<m):
  Calls Tryz.prog 154 #[.agg #[.slice A n c,.int .i64 (m:Int)],.int .i64 (j:Int)] w (zdI w n (zhd n MM j)):=by
 obtain⟨hn,hm⟩:=And.intro h.hn h.hm
 have HR:=λW=>lh9 (zbd A n c (m:Int) W)
 have HM:=lh9 h
 have HLZ:Hid ((zhd n MM j).length=n):=zhe n MM j
 have HG:Hid (∀i,i<n->(zhd n MM j)[i]?=some (atM MM i j)):=λi hi=>by
  unfold zhd
  rw [List.getElem?_map,List.getElem?_range hi]
  rfl
 obtain⟨ys,hys⟩:∃ys,zhd n MM j=ys:=⟨_,rfl⟩
 rw [hys] at HLZ HG⊢
 obtain⟨Z,hZ⟩:=zdC n (by omega)
 have hmk:=λW=>(hZ W).1
 have HOWN:=lh9 (λW=>(hZ W).2)
 obtain⟨bx1,bx2,bz⟩:=zav w 28 #[.slice A n c,.int .i64 (m:Int)]
 obtain⟨g0,g1⟩:=bx2.c2
 have HB:=lh9 bx1
 have HK:=lh9 bx2
 clear h hys hZ bx1 bx2 bz
 unfold zdI
 have i0:(0:Int)<=(n:Int):=by omega
 go_enter Tryz.func154,Tryz.ntmps154
 go_wp2_with fail
 refine(HR _).out.mono ?_
 rintro e w2 ⟨rfl,hb⟩
 have HB2:=lh9 (zab HB.out hb)
 have hk2:=zaa hb HK.out
 have hb3:Below w2.heap.size w2 (w2.alloc (.cells Z 41)):=(Below.refl _ w2).alloc (Nat.le_refl _) _
 have hk3:=zaa hb3 hk2
 obtain⟨g0,g1⟩:=hk3.c2
 have hsz:=hk2.lt
 clear hb hk2 hk3 HK HB HR
 go_wp2_with fail
 clear hmk g0 g1
 have hrow:=HOWN.out w2
 have hB:=zab HB2.out hb3
 obtain⟨gp,hgp⟩:∃g,w2.heap.size=g:=⟨_,rfl⟩
 have hwg:w.heap.size<=gp:=by omega
 rw [hgp] at hrow⊢
 rw [<-zbh 0 ys n] at hrow
 generalize w2.alloc (.cells Z 41)=W1 at*
 clear hgp HOWN HB2 hb3 hsz
 go_loopg [14] (n+1) (λg ix wr=>∃(k:Nat),k<=n/\n<g+k/\ix=.int .i64 k/\zbU wr gp n (zbR 0 ys n k)/\Below w.heap.size w wr)
 case atStart=>exact⟨0,Nat.zero_le _,by omega,rfl,hrow,hB⟩
 case round=>
  clear hrow hB
  obtain⟨i,hkn,hg,rfl,hrow,hB⟩:=hrel
  by_cases hlt:i<n
  ·obtain⟨ad,B,d,rfl,-,hc,ae,b3,A3,n3,c3,E3,k3,f3,rfl,-,h0,h1,h2,hw3⟩:=HM.out.place hB hlt hj
   have hd1:decide ((i:Int)<(n:Int))=true:=decide_eq_true (by omega)
   have i1:(0:Int)<=(i:Int):=by omega
   have i2:(i:Int)<(n:Int):=by omega
   have i3:(0:Int)<=(j:Int):=by omega
   have i4:(j:Int)<(m:Int):=by omega
   have hr4:=zbm.set_ zaf hrow hlt hw3
   rw [zbt 0 ys n i HLZ.out hlt _ (HG.out i hlt)] at hr4
   obtain⟨q0,q1,q2,sc0,sf0,sc1,sf1,sc2,sf2⟩:=hrow.ready hlt (.bool b3) (.slice A3 n3 c3)
   have HR4:=lh9 hr4
   have HB4:=lh9 (zbH (i*3) (i*3+1) (i*3+2) (.bool b3) (.slice A3 n3 c3) (.slice E3 k3 f3) hwg hB)
   clear hr4 hw3 hrow hB
   go_wp2
   go_roundg (n - i)
   case measure=>omega
   case rel=>exact⟨i+1,by omega,by omega,by go_num,HR4.out,HB4.out⟩
  ·have hk9:i=n:=by omega
   subst hk9
   have hd1:decide ((i:Int)<(i:Int))=false:=by simp
   have HR5:=lh9 (zbs 0 ys i HLZ.out▸hrow)
   have HB1:=lh9 hB
   clear hrow hB
   go_wp2
   go_ret
   exact⟨gp,rfl,hwg,HR5.out,HB1.out⟩
def zdQ (w:World)(n:Nat)(Ls:List (List Rat))(e:Ending)(w':World):Prop:=∃g,e=.returned (.slice (some ⟨g,0,none⟩) n n)/\w.heap.size<=g/\zaC (zaI zah) w' 61 g n Ls/\Below w.heap.size w w'
theorem znc (h:zaR w A n c m MM):
  Calls Tryz.prog 96 #[.agg #[.slice A n c,.int .i64 (m:Int)]] w (zdQ w m (zcW n m MM)):=by
 obtain⟨hn,hm⟩:=And.intro h.hn h.hm
 have HM:=lh9 h
 have HLZ:Hid ((zcW n m MM).length=m):=zhC _ _ _
 have HLC:Hid (∀j,(zhd n MM j).length=n):=λj=>zhe n MM j
 have HG:Hid (∀j,j<m->(zcW n m MM)[j]?=some (zhd n MM j)):=λj hj=>zke _ hj
 obtain⟨ys,hys⟩:∃ys,zcW n m MM=ys:=⟨_,rfl⟩
 rw [hys] at HLZ HG⊢
 obtain⟨Y,hY⟩:=zgf m (by omega)
 have hmk:=λW=>(hY W).1
 have HOWN:=lh9 (λW=>(hY W).2)
 obtain⟨bx1,bx2,bz⟩:=zav w 28 #[.slice A n c,.int .i64 (m:Int)]
 obtain⟨g0,g1⟩:=bx2.c2
 have hBa:=(zav (w.alloc (.cells #[.slice A n c,.int .i64 (m:Int)] 28)) 61 Y).1
 have hK:=zaa hBa bx2
 have hB:=zab bx1 hBa
 clear h hys hY bx1 bx2 hBa
 unfold zdQ
 have i0:(0:Int)<=(m:Int):=by omega
 go_enter Tryz.func96,Tryz.ntmps96
 go_wp2_with fail
 clear hmk g0 g1
 have hrow:=HOWN.out (w.alloc (.cells #[.slice A n c,.int .i64 (m:Int)] 28))
 have e1:(w.alloc (.cells #[.slice A n c,.int .i64 (m:Int)] 28)).heap.size=w.heap.size+1:=by simp
 rw [e1] at hrow
 rw [<-zbh [] ys m] at hrow
 generalize (w.alloc (.cells #[.slice A n c,.int .i64 (m:Int)] 28)).alloc (.cells Y 61)=W1 at*
 obtain⟨gb,hgb⟩:∃g,w.heap.size=g:=⟨_,rfl⟩
 have hwg:w.heap.size<=gb:=by omega
 rw [hgb] at hrow hK⊢
 clear e1 HOWN hgb bz
 go_loopg [10] (m+1) (λg ix wr=>∃(k:Nat),k<=m/\m<g+k/\ix=.int .i64 k/\zaC (zaI zah) wr 61 (gb+1) m (zbR [] ys m k)/\Below w.heap.size w wr/\Blk wr gb 28 #[.slice A n c,.int .i64 (m:Int)])
 case atStart=>exact⟨0,Nat.zero_le _,by omega,rfl,hrow,hB,hK⟩
 case round=>
  clear hrow hB hK
  obtain⟨i,hkn,hg,rfl,hrow,hB,hK⟩:=hrel
  by_cases hlt:i<m
  ·have hd1:decide ((i:Int)<(m:Int))=true:=decide_eq_true (by omega)
   have i1:(0:Int)<=(i:Int):=by omega
   have i2:(i:Int)<(m:Int):=by omega
   obtain⟨g0,g1⟩:=hK.c2
   have HROW:=lh9 hrow
   have HB1:=lh9 hB
   have HK1:=lh9 hK
   have HGI:=lh9 (HG.out i hlt)
   clear hrow hB hK
   go_wp2_with fail
   (with_reducible refine(zoz (HM.out.keep HB1.out) hlt).mono ?_)
   rintro e w5 ⟨g5,rfl,hg5,ho5,hb⟩
   clear g0 g1
   have hr5:=HROW.out.below (zam zaf) hb
   have hr6:=zaC.set_ (zam zaf) hr5 hlt (zaJ ho5) (HLC.out i)
   rw [zbt [] ys m i HLZ.out hlt _ HGI.out] at hr6
   obtain⟨q0,sc0,sf0⟩:=hr5.ready hlt
   have HR6:=lh9 hr6
   have HB6:=lh9 (zae (p:=⟨gb+1,i,none⟩) (.slice (some ⟨g5,0,none⟩) n n) (show w.heap.size<=gb+1 by omega) (zab HB1.out hb))
   have HK6:=lh9 (Blk.far (p:=⟨gb+1,i,none⟩) (zaa hb HK1.out) (by show gb≠gb+1;omega) (.slice (some ⟨g5,0,none⟩) n n))
   clear hr5 hr6 ho5 hb HROW HB1 HK1 HGI
   go_wp2
   go_roundg (m - i)
   case measure=>omega
   case rel=>exact⟨i+1,by omega,by omega,by go_num,HR6.out,HB6.out,HK6.out⟩
  ·have hk9:i=m:=by omega
   subst hk9
   have hd1:decide ((i:Int)<(i:Int))=false:=by simp
   have HR5:=lh9 (zbs [] ys i HLZ.out▸hrow)
   have HB1:=lh9 hB
   clear hrow hB hK
   go_wp2
   go_ret
   exact⟨gb+1,rfl,by omega,HR5.out,HB1.out⟩
variable {V:oA9}{k cv:Nat}{xs:List Rat}
end
section
variable {w:World}{A:oA9}{n c m K:Nat}{MM:List (List Rat)}
theorem zig (hT:zai w)(h:zaR w A n c m MM)(z:zax K MM)(hK:K+2<=67108864:=by omega):
  Calls Tryz.prog 65 #[.agg #[.slice A n c,.int .i64 (m:Int)]] w (zdQ w n MM):=by
 obtain⟨hn,hm⟩:=And.intro h.hn h.hm
 have HM:=lh9 (λw' (hb:Below w.heap.size w w')=>h.keep hb)
 have HT:=lh9 (λw' (hb:Below w.heap.size w w')=>hT.on hb)
 have HZ:=lh9 z
 have HR:=λW=>lh9 (zbd A n c (m:Int) W)
 have HLZ:Hid (MM.length=n):=h.dims.rows
 have HLC:Hid (∀i,i<n->(MM.getD i []).length=m):=λi hi=>h.dims.row hi
 have HG:Hid (∀i,i<n->MM[i]?=some (MM.getD i [])):=λi hi=>zbE (by have:=h.dims.rows;omega)
 obtain⟨Y,hY⟩:=zgf n (by omega)
 have hmk:=λW=>(hY W).1
 have HOWN:=lh9 (λW=>(hY W).2)
 obtain⟨bx1,bx2,bz⟩:=zav w 28 #[.slice A n c,.int .i64 (m:Int)]
 obtain⟨g0,g1⟩:=bx2.c2
 have HB:=lh9 bx1
 have HK:=lh9 bx2
 clear h hY bx1 bx2 bz hT z
 unfold zdQ
 have i0:(0:Int)<=(n:Int):=by omega
 go_enter Tryz.func65,Tryz.ntmps65
 go_wp2_with fail
 generalize w.alloc (.cells #[.slice A n c,.int .i64 (m:Int)] 28)=W1 at*
 refine(HR _).out.mono ?_
 rintro eo w1 ⟨rfl,hb⟩
 have hK1:=zaa hb HK.out
 have hB1:=zab HB.out hb
 clear hb g0 g1 HR HB HK
 go_wp2_with fail
 clear hmk
 have hrow:=HOWN.out w1
 have hBa:=(zav w1 61 Y).1
 have hK:=zaa hBa hK1
 have hB:=zab hB1 hBa
 have hlt1:=hK1.lt
 rw [<-zbh [] MM n] at hrow
 generalize w1.alloc (.cells Y 61)=W2 at*
 clear HOWN hBa hK1 hB1
 generalize w1.heap.size=gp at*
 go_loopg [10] (n+1) (λg ix wr=>∃(k:Nat),k<=n/\n<g+k/\ix=.int .i64 k/\zaC (zaI zah) wr 61 gp n (zbR [] MM n k)/\Below w.heap.size w wr/\Blk wr w.heap.size 28 #[.slice A n c,.int .i64 (m:Int)])
 case atStart=>exact⟨0,Nat.zero_le _,by omega,rfl,hrow,hB,hK⟩
 case round=>
  clear hrow hB hK
  obtain⟨i,hkn,hg,rfl,hrow,hB,hK⟩:=hrel
  by_cases hlt:i<n
  ·have hd1:decide ((i:Int)<(n:Int))=true:=decide_eq_true (by omega)
   have i1:(0:Int)<=(i:Int):=by omega
   have i2:(i:Int)<(n:Int):=by omega
   obtain⟨g0,g1⟩:=hK.c2
   have HROW:=lh9 hrow
   have HB1:=lh9 hB
   have HK1:=lh9 hK
   have HGI:=lh9 (HG.out i hlt)
   clear hrow hB hK
   go_wp2_with fail
   (with_reducible refine(zpx (HT.out _ HB1.out) (HM.out _ HB1.out) HZ.out hlt).mono ?_)
   rintro eo w5 ⟨g5,rfl,hg5,ho5,hb⟩
   clear g0 g1
   have hr5:=HROW.out.below (zam zaf) hb
   have hr6:=zaC.set_ (zam zaf) hr5 hlt (zaJ ho5) (HLC.out i hlt)
   rw [zbt [] MM n i HLZ.out hlt _ HGI.out] at hr6
   obtain⟨q0,sc0,sf0⟩:=hr5.ready hlt
   have HR6:=lh9 hr6
   have HB6:=lh9 (zae (p:=⟨gp,i,none⟩) (.slice (some ⟨g5,0,none⟩) m m) (show w.heap.size<=gp by omega) (zab HB1.out hb))
   have HK6:=lh9 (Blk.far (p:=⟨gp,i,none⟩) (zaa hb HK1.out) (by show w.heap.size≠gp;omega) (.slice (some ⟨g5,0,none⟩) m m))
   clear hr5 hr6 ho5 hb HROW HB1 HK1 HGI
   go_wp2
   go_roundg (n - i)
   case measure=>omega
   case rel=>exact⟨i+1,by omega,by omega,by go_num,HR6.out,HB6.out,HK6.out⟩
  ·have hk9:i=n:=by omega
   subst hk9
   have hd1:decide ((i:Int)<(i:Int))=false:=by simp
   have HR5:=lh9 (zbs [] MM i HLZ.out▸hrow)
   have HB1:=lh9 hB
   clear hrow hB hK
   go_wp2
   go_ret
   exact⟨gp,rfl,by omega,HR5.out,HB1.out⟩
end
section
variable {w:World}{g:Nat}{st:ESt}{rd:Rat}{A:oA9}{n cA:Nat}{B:oA9}{k cB:Nat}{x0 x1 x2 y0 y1 y2:Value}
def zcs (r:Rat)(M:List (List Rat)):List (List Rat):=M.map (zaS r)
theorem zhj {K m:Nat}(hT:zai w)(hE:ElS w g st rd A n cA B k cB x0 x1 x2 y0 y1 y2)(hd:zaN st.S n m)(z:zax K st.S)(zp:SzQ K st.p)(hp:st.p≠0)(hn:n<=64)(hm:m<=1073741824)(hK:K<=33554432:=by omega):
  Calls Tryz.prog 73 #[.pointer (some ⟨g,0,none⟩)] w (zdQ w n (zcs st.p⁻¹ st.S)):=by
 obtain⟨b0,A0,n0,c0,E0,k0,f0,rfl,rfl,rfl,hpr⟩:=hE.lead
 obtain⟨vs,hrows⟩:=hE.rows
 obtain⟨A',c',hA',-,-,hL,-⟩:=hrows.shape hE.hn
 have HL:Hid (zaB (VZ g) w A n st.S):=by injection hA' with q1 q2 q3;subst q1;exact hL
 have HP:=lh9 (λw' (hb:Below w.heap.size w w')=>hpr.below hb)
 have HC:=lh9 (λw' (hb:Below w.heap.size w w')=>(hE.below hb).cells)
 have HT:=lh9 (λw' (hb:Below w.heap.size w w')=>hT.on hb)
 have HZP:=lh9 zp
 have HNP:=lh9 hp
 have HLZ:Hid ((zcs st.p⁻¹ st.S).length=n):=by unfold zcs;rw [List.length_map];exact hd.rows
 have HLR:Hid (∀i,i<n->(st.S.getD i []).length=m):=λi hi=>hd.row hi
 have HSR:Hid (∀i,i<n->zau K (st.S.getD i [])):=λi hi=>z.row (by have:=hd.rows;omega)
 have HG:Hid (∀i,i<n->(zcs st.p⁻¹ st.S)[i]?=some (zaS st.p⁻¹ (st.S.getD i []))):=λi hi=>by
  unfold zcs;rw [List.getElem?_map,zbE (d:=[]) (by have:=hd.rows;omega)];rfl
 obtain⟨ys,hys⟩:∃ys,zcs st.p⁻¹ st.S=ys:=⟨_,rfl⟩
 rw [hys] at HLZ HG⊢
 obtain⟨Y,hY⟩:=zgf n (by omega)
 have hmk:=λW=>(hY W).1
 have HOWN:=lh9 (λW=>(hY W).2)
 obtain⟨p0,-,p2,p3,p4,-⟩:=HC.out _ (Below.refl _ _)
 have i0:(0:Int)<=(n:Int):=by omega
 unfold zdQ
 clear hT hE hd z zp hp hpr hrows hA' hL hY hys
 go_enter Tryz.func73,Tryz.ntmps73
 go_wp2_with fail
 clear p0 p2 p3 p4
 (with_reducible refine(ziO st.p b0 A0 n0 c0 E0 k0 f0 _ (HT.out _ (Below.refl _ _)) (HP.out _ (Below.refl _ _)) (HZP.out.fit (HP.out _ (Below.refl _ _)) (by omega)) HNP.out).mono ?_)
 rintro eo w5 ⟨b5,A5,n5,c5,E5,k5,f5,rfl,hw5,hb⟩
 obtain⟨bx1,bx2,-⟩:=zav w5 41 #[.bool b5,.slice A5 n5 c5,.slice E5 k5 f5]
 have hI:=hw5.below bx1
 have hB5:=zab hb bx1
 have hs5:=hb.size
 obtain⟨p0,-⟩:=HC.out _ hB5
 obtain⟨q0,-⟩:=HC.out _ (zab hB5 (zav (w5.alloc (.cells #[.bool b5,.slice A5 n5 c5,.slice E5 k5 f5] 41)) 61 Y).1)
 clear hb hw5 bx1
 go_wp2_with fail
 clear hmk p0 q0
 have e1:(w5.alloc (.cells #[.bool b5,.slice A5 n5 c5,.slice E5 k5 f5] 41)).heap.size=w5.heap.size+1:=by simp
 generalize w5.alloc (.cells #[.bool b5,.slice A5 n5 c5,.slice E5 k5 f5] 41)=W6 at*
 have hrow:=HOWN.out W6
 have hBa:=(zav W6 61 Y).1
 have hK:=zaa hBa bx2
 have hB:=zab hB5 hBa
 have hI:=hI.below hBa
 rw [e1] at hrow
 obtain⟨gp,hgp⟩:∃q,w5.heap.size+1=q:=⟨_,rfl⟩
 have hltp:w5.heap.size<gp:=by omega
 rw [hgp] at hrow⊢
 rw [<-zbh [] ys n] at hrow
 generalize W6.alloc (.cells Y 61)=W7 at*
 clear HOWN hBa bx2 hB5 e1 hgp
 generalize w5.heap.size=g5 at*
 go_loopg [27] (n+1) (λgg ix wr=>∃(i:Nat),i<=n/\n<gg+i/\ix=.int .i64 i/\zaC (zaI zah) wr 61 gp n (zbR [] ys n i)/\Below w.heap.size w wr/\Blk wr g5 41 #[.bool b5,.slice A5 n5 c5,.slice E5 k5 f5]/\zah wr st.p⁻¹ b5 A5 n5 c5 E5 k5 f5)
 case atStart=>exact⟨0,Nat.zero_le _,by omega,rfl,hrow,hB,hK,hI⟩
 case round=>
  clear hrow hB hK hI
  obtain⟨i,hkn,hg,rfl,hrow,hB,hK,hI⟩:=hrel
  by_cases hlt:i<n
  ·have hd1:decide ((i:Int)<(n:Int))=true:=decide_eq_true (by omega)
   have i1:(0:Int)<=(i:Int):=by omega
   have i2:(i:Int)<(n:Int):=by omega
   obtain⟨ad,Bi,di,rfl,-,hc0,hvi⟩:=HL.out.get (zcB g) hB hlt (HLR.out i hlt)
   obtain⟨p0,p1,p2⟩:=hK.c3
   have HV:=lh9 hvi.1
   have HROW:=lh9 hrow
   have HB1:=lh9 hB
   have HK1:=lh9 hK
   have HI1:=lh9 hI
   have HGI:=lh9 (HG.out i hlt)
   have HSI:=lh9 (HSR.out i hlt)
   have HLI:=lh9 (HLR.out i hlt)
   generalize st.S.getD i []=row at*
   clear hrow hB hK hI hvi
   go_wp2_with fail
   (with_reducible refine(zbK (HT.out _ HB1.out) HI1.out HV.out HZP.out.inv HSI.out).mono ?_)
   rintro eo w8 ⟨g8,rfl,hg8,ho8,hb⟩
   clear p0 p1 p2 hc0
   have hr5:=HROW.out.below (zam zaf) hb
   have hr6:=zaC.set_ (zam zaf) hr5 hlt (zaJ ho8) (by rw [zbz HLI.out])
   rw [zbt [] ys n i HLZ.out hlt _ HGI.out] at hr6
   obtain⟨q0,sc0,sf0⟩:=hr5.ready hlt
   obtain⟨cs9,hk9,hs9,-⟩:=hr5.blk
   have HR6:=lh9 hr6
   have HB6:=lh9 (zae (p:=⟨gp,i,none⟩) (.slice (some ⟨g8,0,none⟩) m m) (show w.heap.size<=gp by omega) (zab HB1.out hb))
   have HK6:=lh9 (Blk.far (p:=⟨gp,i,none⟩) (zaa hb HK1.out) (by show g5≠gp;omega) (.slice (some ⟨g8,0,none⟩) m m))
   have HI6:=lh9 (zcO hk9 (zfT hs9) (zbl.of_far ((zbj.refl gp _).set_ i (.slice (some ⟨g8,0,none⟩) m m))) (HI1.out.below hb))
   clear hr5 hr6 ho8 hb HROW HB1 HK1 HI1 HGI hk9 hs9
   go_wp2
   go_roundg (n - i)
   case measure=>omega
   case rel=>exact⟨i+1,by omega,by omega,by go_num,HR6.out,HB6.out,HK6.out,HI6.out⟩
  ·have hk9:i=n:=by omega
   subst hk9
   have hd1:decide ((i:Int)<(i:Int))=false:=by simp
   have HR5:=lh9 (zbs [] ys i HLZ.out▸hrow)
   have HB1:=lh9 hB
   clear hrow hB hK hI
   go_wp2
   go_ret
   exact⟨gp,rfl,by omega,HR5.out,HB1.out⟩
end
