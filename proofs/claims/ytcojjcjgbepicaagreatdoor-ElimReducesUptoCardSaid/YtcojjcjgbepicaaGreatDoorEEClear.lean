/- What this claim leans on. -/
import Derived.Test.YtcojjcjgbepicaaGreatDoorEEDen
import Derived.Test.YtcojjcjgbepicaaGreatDoorEERow
namespace Go.Proofs.YtcojjcjgbepicaaGreatDoor
open Go Go.RowKit
set_option maxHeartbeats 16000000
set_option maxRecDepth 100000
set_option linter.unusedVariables false
set_option linter.unusedSimpArgs false
section
variable {w:World}{g:Nat}{st:ESt}{rd:Rat}{A:oA9}{n cA:Nat}{B:oA9}{k cB:Nat}{x0 x1 x2 y0 y1 y2:Value}
theorem ElS.cells (h:ElS w g st rd A n cA B k cB x0 x1 x2 y0 y1 y2):w.cell? ⟨g,0,none⟩=some (.slice A n cA)/\w.cell? ⟨g,1,none⟩=some (.slice B k cB)/\w.cell? ⟨g,2,none⟩=some x0/\w.cell? ⟨g,3,none⟩=some x1/\w.cell? ⟨g,4,none⟩=some x2/\w.cell? ⟨g,5,none⟩=some y0/\w.cell? ⟨g,6,none⟩=some y1/\w.cell? ⟨g,7,none⟩=some y2:=
 ⟨h.blk.cell 0,h.blk.cell 1,h.blk.cell 2,h.blk.cell 3,h.blk.cell 4,h.blk.cell 5,h.blk.cell 6,h.blk.cell 7⟩
theorem zkl {K m dr dy c:Nat}{R Y:oA9}{row by_:List Rat}(hT:zaj w)(hE:ElS w g st rd A n cA B k cB x0 x1 x2 y0 y1 y2)(hr:zaC w R m dr row)(hy:zaC w Y m dy by_)(hc:c<m)(zr:zat K row)(zy:zat K by_)(zp:SzQ K st.p)(hp:st.p≠0)(hm:m<=1073741824:=by omega)(hK:4*K+1<=33554432:=by omega):
  Calls Tryz.prog 178 #[.pointer (some ⟨g,0,none⟩),.slice R m dr,.slice Y m dy,.int .i64 (c:Int)] w (zeU w m (zcZ st.p row by_ c)):=by
 obtain⟨b0,A0,n0,c0,E0,k0,f0,rfl,rfl,rfl,hpr⟩:=hE.lead
 have HP:=lh9 (λw' (hb:Below w.heap.size w w')=>hpr.below hb)
 have HC:=lh9 (λw' (hb:Below w.heap.size w w')=>(hE.below hb).cells)
 have HT:=lh9 (λw' (hb:Below w.heap.size w w')=>hT.on hb)
 have HR:=lh9 (λw' (hb:Below w.heap.size w w')=>hr.keep hb)
 have HY:=lh9 (λw' (hb:Below w.heap.size w w')=>hy.keep hb)
 have HS1:=lh9 (zy.at_ (k:=c) (by rw [hy.len];exact hc))
 have HS2:=lh9 (zr.at_ (k:=c) (by rw [hr.len];exact hc))
 have HZR:=lh9 zr
 have HZY:=lh9 zy
 have HZP:=lh9 zp
 have HNP:=lh9 hp
 obtain⟨ady,b1,B1,m1,d1,E1,u1,v1,rfl,-,h0,h1,h2,hyx⟩:=hy.get (Below.refl _ _) hc
 obtain⟨adr,b2,B2,m2,d2,E2,u2,v2,rfl,-,h3,h4,h5,hrx⟩:=hr.get (Below.refl _ _) hc
 have HX1:=lh9 (λw' (hb:Below w.heap.size w w')=>hyx.below hb)
 have HX2:=lh9 (λw' (hb:Below w.heap.size w w')=>hrx.below hb)
 have i1:(0:Int)<=(c:Int):=by omega
 have i2:(c:Int)<(m:Int):=by omega
 have i3:c<m:=hc
 have HQ:Hid (zcZ st.p row by_ c=zaI st.p⁻¹ (zeZ (zaI (by_.getD c 0) row) (-row.getD c 0) by_)):=rfl
 rw [HQ.out]
 generalize by_.getD c 0=yc at*
 generalize row.getD c 0=rc9 at*
 unfold zeU
 clear hT hE hr hy zr zy zp hp hpr hyx hrx hc HQ
 go_enter Tryz.func178,Tryz.ntmps178
 go_wp2_with fail
 have HB:=lh9 ((Below.refl w.heap.size w).drew)
 refine rg (csc h0 (csc h1 (csc h2 (csc h3 (csc h4 (csc h5 csn)))))) (λhHeld=>?_)
 clear h0 h1 h2 h3 h4 h5
 generalize w.drew=D at*
 refine tk 0 ?_
 refine tk 1 ?_
 refine tk 2 ?_
 refine tk 3 ?_
 refine tk 4 ?_
 refine tk 6 ?_
 refine tk 7 ?_
 refine tk 8 ?_
 refine tk 9 ?_
 refine tk 11 ?_
 refine rc 5 (λKK hK9=>?_)
 go_simp
 (with_reducible refine(zbr (HT.out _ HB.out) (HX1.out _ HB.out) (HR.out _ HB.out) HS1.out HZR.out).mono ?_)
 rintro eo w1 ⟨g1,rfl,hg1,ho1,hb⟩
 refine hK9.out _ _ (Cs.below hHeld hb) (λhHeld=>?_)
 clear hK9 KK
 have HB:=lh9 (zaa HB.out hb)
 have HO1:=lh9 (zaD ho1)
 clear hb ho1 hg1
 refine rc 10 (λKK hK9=>?_)
 go_simp
 (with_reducible refine(zhU rc9 b2 B2 m2 d2 E2 u2 v2 _ (HT.out _ HB.out) (HX2.out _ HB.out) (HS2.out.fit (HX2.out _ HB.out) (by omega))).mono ?_)
 rintro eo w2 ⟨b3,A3,n3,c3,E3,k3,f3,rfl,hw3,hb⟩
 refine hK9.out _ _ (Cs.below hHeld hb) (λhHeld=>?_)
 clear hK9 KK
 have HB:=lh9 (zaa HB.out hb)
 have HO1:=lh9 (HO1.out.keep hb)
 have HN:=lh9 hw3
 clear hb hw3
 refine rc 12 (λKK hK9=>?_)
 go_simp
 (with_reducible refine(zml (HT.out _ HB.out) HO1.out HN.out (HY.out _ HB.out) (zat.scale HS1.out HZR.out) HS2.out.neg HZY.out).mono ?_)
 rintro eo w3 ⟨g4,rfl,hg4,ho4,hb⟩
 refine hK9.out _ _ (Cs.below hHeld hb) (λhHeld=>?_)
 clear hK9 KK
 have HB:=lh9 (zaa HB.out hb)
 have HO4:=lh9 (zaD ho4)
 have HZ4:Hid (zat ((K+K)+(K+K)+1) (zeZ (zaI yc row) (-rc9) by_)):=zat.addT (zat.scale HS1.out HZR.out) HS2.out.neg HZY.out
 clear hb ho4 hg4 HO1 HN
 refine tk 13 ?_
 refine tk 14 ?_
 refine tk 15 ?_
 refine tk 16 ?_
 refine tk 17 ?_
 refine rdn ?_
 clear hHeld
 obtain⟨-,-,p2,p3,p4,-⟩:=HC.out _ HB.out
 go_wp2_with fail
 clear p2 p3 p4
 (with_reducible refine(zhT st.p b0 A0 n0 c0 E0 k0 f0 _ (HT.out _ HB.out) (HP.out _ HB.out) (HZP.out.fit (HP.out _ HB.out) (by omega)) HNP.out).mono ?_)
 rintro eo w5 ⟨b5,A5,n5,c5,E5,k5,f5,rfl,hw5,hb⟩
 have HB:=lh9 (zaa HB.out hb)
 have HO4:=lh9 (HO4.out.keep hb)
 obtain⟨bx1,bx2,-⟩:=zaw w5 53 #[.bool b5,.slice A5 n5 c5,.slice E5 k5 f5]
 obtain⟨p0,p1,p2⟩:=bx2.c3
 have HI:=lh9 (hw5.below bx1)
 have HB:=lh9 (zaa HB.out bx1)
 have HO4:=lh9 (HO4.out.keep bx1)
 clear hb hw5 bx1 bx2
 go_wp2_with fail
 clear p0 p1 p2
 generalize w5.alloc (.cells #[.bool b5,.slice A5 n5 c5,.slice E5 k5 f5] 53)=W6 at*
 (with_reducible refine(zbr (HT.out _ HB.out) HI.out HO4.out HZP.out.inv HZ4.out).mono ?_)
 rintro eo w7 ⟨g7,rfl,hg7,ho7,hb⟩
 have HB2:=lh9 (zaa HB.out hb)
 have HG7:w.heap.size<=g7:=Nat.le_trans HB.out.size hg7
 have HO7:=lh9 ho7
 clear hb ho7 hg7 HB HO4 HI
 go_wp2
 go_ret
 exact⟨g7,rfl,HG7,HO7.out,HB2.out⟩
end
section
variable {w:World}
theorem en_next1:∀(args:Array Value) (w':World),Sem.run Tryz.prog (callFunc 177 args) w'=.ok (.enter 177 args) w':=Go.Proofs.enters_of Tryz.func177 (by kernel_rfl) rfl
theorem cl_next {gc m d c K:Nat}{V:oA9}{L:List Rat}(hT:zaj w)(hk:Blk w gc 3 #[.int .i64 (c:Int)])(hv:zaC w V m d L)(hc:c<m)(hz:zat K L)(hK:K<=67108864:=by omega):
  Calls Tryz.prog 177 #[.slice V m d,.pointer (some ⟨gc,0,none⟩)] w (λe w'=>e=.returned (.bool (!decide (L.getD c 0=0)))/\Below w.heap.size w w'):=by
 have g0:=hk.c1
 have HS:=lh9 (hz.at_ (k:=c) (by rw [hv.len];exact hc))
 obtain⟨ad,b1,B1,m1,d1,E1,u1,v1,rfl,-,h0,h1,h2,hx⟩:=hv.get (Below.refl _ _) hc
 have i1:(0:Int)<=(c:Int):=by omega
 have i2:(c:Int)<(m:Int):=by omega
 have i3:c<m:=hc
 generalize L.getD c 0=x at*
 obtain⟨t,ht⟩:∃t,decide (x=0)=t:=⟨_,rfl⟩
 rw [ht]
 have HZQ:=lh9 (zkE ht hT hx HS.out hK)
 clear hk hv hz hx hc hT ht
 go_enter Tryz.func177,Tryz.ntmps177
 go_wp2_with fail
 clear h0 h1 h2 g0
 refine HZQ.out.mono ?_
 rintro eo w1 ⟨rfl,hb⟩
 have HB:=lh9 hb
 clear hb HZQ
 go_wp2
 go_ret
 exact⟨rfl,HB.out⟩
def zhE (c:Nat)(Ls:List (List Rat)):Int:=if Ls.findIdx (λrow=> !decide (row.getD c 0=0))<Ls.length then((Ls.findIdx (λrow=> !decide (row.getD c 0=0)):Nat):Int) else -1
theorem idxZ_at {c k:Nat}{Ls:List (List Rat)}(hk:k<Ls.length)(h0:∀j,j<k->(Ls.getD j []).getD c 0=0)(h1:(Ls.getD k []).getD c 0≠0):zhE c Ls=(k:Int):=by
 have e:Ls.findIdx (λrow=> !decide (row.getD c 0=0))=k:=by
  rw [List.findIdx_eq hk]
  have hg:∀j (hj:j<Ls.length),Ls.getD j []=Ls[j]:=λj hj=>by rw [List.getD_eq_getElem?_getD,List.getElem?_eq_getElem hj];rfl
  refine⟨by rw [hg k hk] at h1;simpa using h1,λj hj=>?_⟩
  have:=h0 j hj
  rw [hg j (by omega)] at this
  simpa using this
 unfold zhE
 rw [e,if_pos hk]
theorem zpd {x:Rat}(h:(!decide (x=0))=true):x≠0:=by simpa using h
theorem zoW {c:Nat}{Ls:List (List Rat)}(h0:∀j,j<Ls.length->(Ls.getD j []).getD c 0=0):zhE c Ls= -1:=by
 unfold zhE
 rw [if_neg]
 intro h
 have h1:=List.findIdx_getElem (p:=λrow:List Rat=> !decide (row.getD c 0=0)) (xs:=Ls) (w:=h)
 have h2:=h0 _ h
 rw [List.getD_eq_getElem?_getD (l:=Ls),List.getElem?_eq_getElem h] at h2
 exact zpd h1 h2
theorem ziv {z gc q n m c K:Nat}{Q:oA9}{M:List (List Rat)}(hT:zaj w)(h:zaz (VZ z) w Q n M)(hk:Blk w gc 3 #[.int .i64 (c:Int)])(hc:c<m)(hd:∀L ∈ M,L.length=m)(hz:zaA K M)(hn:n<=1048576)(hK:K<=67108864:=by omega):
  Calls Tryz.prog 174 #[.slice Q n q,.func (.func 177) #[] #[.pointer (some ⟨gc,0,none⟩)]] w (λe w'=>e=.returned (.int .i64 (zhE c M))/\Below w.heap.size w w'):=by
 have hl:=h.len
 have HR:=lh9 h
 have HT:=lh9 (λw' (hb:Below w.heap.size w w')=>hT.on hb)
 have HK:=lh9 (λw' (hb:Below w.heap.size w w')=>zab hb hk)
 have HD:Hid (∀k,k<n->(M.getD k []).length=m):=λk hk=>hd _ (List.mem_of_getElem? (zbV (by omega)))
 have HZ:Hid (∀k,k<n->zat K (M.getD k [])):=λk hk=>hz.row (by omega)
 have HI:Hid (∀k,k<n->(∀j,j<k->(M.getD j []).getD c 0=0)->(M.getD k []).getD c 0≠0->zhE c M=(k:Int)):=λk hk=>idxZ_at (by omega)
 have HN:Hid ((∀j,j<n->(M.getD j []).getD c 0=0)->zhE c M= -1):=λh0=>zoW (by rw [hl];exact h0)
 have hEn:=en_next1
 have hB:=Below.refl w.heap.size w
 have i0:(0:Int)<=(n:Int):=by omega
 have HC:=lh9 hc
 obtain⟨zi,hzi⟩:∃zi,zhE c M=zi:=⟨_,rfl⟩
 rw [hzi] at HI HN⊢
 clear h hk hl hd hz hT hc hzi
 go_enter Tryz.func174,Tryz.ntmps174
 go_wp2_with fail
 go_loopg [8] (n+1) (λg ix wr=>∃(k:Nat),k<=n/\n<g+k/\ix=.int .i64 k/\Hid (∀j,j<k->(M.getD j []).getD c 0=0)/\Below w.heap.size w wr)
 case atStart=>exact⟨0,Nat.zero_le _,by omega,rfl,λj hj=>(by cases hj),hB⟩
 case round=>
  clear hB
  obtain⟨k,hkn,hg,rfl,hz0,hB⟩:=hrel
  by_cases hlt:k<n
  ·have hd1:decide ((k:Int)<(n:Int))=true:=decide_eq_true (by omega)
   have i1:(0:Int)<=(k:Int):=by omega
   have i2:(k:Int)<(n:Int):=by omega
   obtain⟨ad,B,d,rfl,-,hc0,hv⟩:=HR.out.get (zcq z) hB hlt (HD.out k hlt)
   have HZK:=lh9 (HZ.out k hlt)
   have HIK:=lh9 (HI.out k hlt hz0.out)
   have HB:=lh9 hB
   have HSU:Hid ((M.getD k []).getD c 0=0->∀j,j<k+1->(M.getD j []).getD c 0=0):=λe j hj=>by
    rcases Nat.lt_or_ge j k with a|a
    ·exact hz0.out j a
    ·rw [show j=k by omega];exact e
   have HCL:=lh9 (cl_next (HT.out _ hB) (HK.out _ hB) hv.1 HC.out HZK.out hK)
   clear hB hv
   by_cases h0:(M.getD k []).getD c 0=0
   ·have HS2:=lh9 (HSU.out h0)
    have HCL:=HCL.out
    rw [h0,show(!decide ((0:Rat)=0))=false from rfl] at HCL
    have HCL:=lh9 HCL
    clear h0 HSU HIK
    go_wp2_with fail
    refine HCL.out.mono ?_
    rintro eo w3 ⟨rfl,hb⟩
    have HB2:=lh9 (zaa HB.out hb)
    clear hb hc0
    go_wp2
    go_roundg (n - k)
    case measure=>omega
    case rel=>exact⟨k+1,by omega,by omega,by go_num,HS2.out,HB2.out⟩
   ·have HE:=lh9 (HIK.out h0)
    have HCL:=HCL.out
    rw [decide_eq_false h0,show(!false)=true from rfl] at HCL
    have HCL:=lh9 HCL
    clear h0 HSU HIK
    go_wp2_with fail
    refine HCL.out.mono ?_
    rintro eo w3 ⟨rfl,hb⟩
    have HB2:=lh9 (zaa HB.out hb)
    clear hb hc0
    go_wp2
    go_ret
    exact⟨by rw [HE.out];rfl,HB2.out⟩
  ·have hk9:k=n:=by omega
   subst hk9
   have hd1:decide ((k:Int)<(k:Int))=false:=by simp
   have HE:=lh9 (HN.out hz0.out)
   have HB2:=lh9 hB
   clear hB
   go_wp2
   go_ret
   exact⟨by rw [HE.out];rfl,HB2.out⟩
end
theorem zaz.drop_ {α:Type}{R:RP α}{w:World}{A:oA9}{n r:Nat}{Ls:List (List α)}(h:zaz R w A n Ls)(hr:r<=n):zaz R w (Option.map (λx=>x.add r) A) (n - r) (Ls.drop r):=by
 refine⟨by rw [List.length_drop,h.len],λi L hi=>?_⟩
 rw [List.getElem?_drop] at hi
 obtain⟨ad,B,d,rfl,h1,h2,h3⟩:=h.num _ L hi
 exact⟨_,B,d,rfl,by rw [zao];exact h1,by rw [zey];exact h2,h3⟩
def zcz (r c:Nat)(p:Rat)(S:List (List Rat))(i:Nat):List (List Rat):=S.mapIdx λj row=>if j=r\/i<=j then row else zcZ p row (S.getD r []) c
theorem zdb (r c:Nat)(p:Rat)(S:List (List Rat))(i:Nat):(zcz r c p S i).length=S.length:=by unfold zcz;rw [List.length_mapIdx]
theorem zda {r c i j:Nat}{p:Rat}{S:List (List Rat)}(hj:j<S.length):(zcz r c p S i)[j]?=some (if j=r\/i<=j then S.getD j [] else zcZ p (S.getD j []) (S.getD r []) c):=by
 unfold zcz
 rw [List.getElem?_mapIdx,List.getElem?_eq_getElem hj]
 show some (if j=r\/i<=j then _ else _)=_
 rw [show S.getD j []=S[j] by rw [List.getD_eq_getElem?_getD,List.getElem?_eq_getElem hj];rfl]
theorem zjt {r c i j:Nat}{p:Rat}{S:List (List Rat)}(hj:j<S.length):(zcz r c p S i).getD j []=if j=r\/i<=j then S.getD j [] else zcZ p (S.getD j []) (S.getD r []) c:=by
 rw [List.getD_eq_getElem?_getD,zda hj];rfl
theorem zmG (r c:Nat)(p:Rat)(S:List (List Rat)):zcz r c p S 0=S:=by
 apply List.ext_getElem?
 intro j
 rcases Nat.lt_or_ge j S.length with h|h
 ·rw [zda h,if_pos (Or.inr (Nat.zero_le _)),zbV h]
 ·rw [List.getElem?_eq_none (by rw [zdb];exact h),List.getElem?_eq_none h]
theorem zmE {r c:Nat}{p:Rat}{S:List (List Rat)}:zcz r c p S (r+1)=zcz r c p S r:=by
 apply List.ext_getElem?
 intro j
 rcases Nat.lt_or_ge j S.length with h|h
 ·rw [zda h,zda h]
  by_cases e:j=r
  ·rw [if_pos (Or.inl e),if_pos (Or.inl e)]
  ·by_cases e2:r<=j
   ·rw [if_pos (Or.inr (by omega)),if_pos (Or.inr e2)]
   ·rw [if_neg (by omega),if_neg (by omega)]
 ·rw [List.getElem?_eq_none (by rw [zdb];exact h),List.getElem?_eq_none (by rw [zdb];exact h)]
theorem zmF {r c i:Nat}{p:Rat}{S:List (List Rat)}(hi:i<S.length)(hne:i≠r):(zcz r c p S i).set i (zcZ p (S.getD i []) (S.getD r []) c)=zcz r c p S (i+1):=by
 apply List.ext_getElem?
 intro j
 rcases Nat.lt_or_ge j S.length with h|h
 ·rw [zda h]
  by_cases e:i=j
  ·subst e
   rw [List.getElem?_set_self (by rw [zdb];exact h),if_neg (by omega)]
  ·rw [List.getElem?_set_ne e,zda h]
   by_cases e1:j=r
   ·rw [if_pos (Or.inl e1),if_pos (Or.inl e1)]
   ·by_cases e2:i<=j
    ·rw [if_pos (Or.inr e2),if_pos (Or.inr (by omega))]
    ·rw [if_neg (by omega),if_neg (by omega)]
 ·rw [List.getElem?_eq_none (by rw [List.length_set,zdb];exact h),List.getElem?_eq_none (by rw [zdb];exact h)]
theorem zoE {r c n:Nat}{p:Rat}{S:List (List Rat)}(hn:S.length=n):zcz r c p S n=zgV r c p S:=by
 subst hn
 apply List.ext_getElem?
 intro j
 rcases Nat.lt_or_ge j S.length with h|h
 ·rw [zda h]
  unfold zgV
  rw [List.getElem?_mapIdx,List.getElem?_eq_getElem h]
  show _=some (if j=r then _ else _)
  rw [show S.getD j []=S[j] by rw [List.getD_eq_getElem?_getD,List.getElem?_eq_getElem h];rfl]
  by_cases e:j=r
  ·rw [if_pos (Or.inl e),if_pos e]
  ·rw [if_neg (by omega),if_neg e]
 ·rw [List.getElem?_eq_none (by rw [zdb];exact h),List.getElem?_eq_none (by unfold zgV;rw [List.length_mapIdx];exact h)]
theorem zjB {c:Nat}{st:ESt}:zhE c (st.S.drop st.ld.length)=if zbc c st<st.S.length - st.ld.length then((zbc c st:Nat):Int) else -1:=by
 unfold zhE zbc
 rw [List.length_drop]
theorem next_no {c:Nat}{st:ESt}(h:¬zbc c st<st.S.length - st.ld.length):zfj c st=st:=by unfold zfj;rw [if_neg h]
theorem next_yes {c:Nat}{st:ESt}(h:zbc c st<st.S.length - st.ld.length):zfj c st=⟨zgV st.ld.length c st.p (zfl c st),st.ld++[c],atM (zfl c st) st.ld.length c⟩:=by unfold zfj;rw [if_pos h]
theorem EOk.msz {n m c K:Nat}{a0:Nat->Nat->Rat}{S:List (List Rat)}{ld:List Nat}{p:Rat}(hd:zaW S n m)(hi:∃a,zid n a0 a/\zcJ n m c a (atM S) ld p)(hn:n<=64)(h0:∀i,i<n->∀j,j<m->LI K (a0 i j)):zaA (67+65*K) S:=λL hL x hx=>by
 obtain⟨a,hs,hi⟩:=hi
 obtain⟨i,hi',rfl⟩:=List.mem_iff_getElem.1 hL
 obtain⟨j,hj',rfl⟩:=List.mem_iff_getElem.1 hx
 have h1:=hd.rows
 have h2:=hd.cols _ hL
 have:=(hi.sz hn (hs.li h0) (i:=i) (j:=j) (by omega) (by omega)).szq (by omega)
 have e:atM S i j=S[i][j]:=by
  unfold atM
  rw [List.getD_eq_getElem?_getD (l:=S),List.getElem?_eq_getElem hi']
  show S[i].getD j 0=_
  rw [List.getD_eq_getElem?_getD,List.getElem?_eq_getElem hj'];rfl
 rw [e] at this
 exact this
theorem EOk.psz {n m c K:Nat}{a0:Nat->Nat->Rat}{S:List (List Rat)}{ld:List Nat}{p:Rat}(hi:∃a,zid n a0 a/\zcJ n m c a (atM S) ld p)(hn:n<=64)(h0:∀i,i<n->∀j,j<m->LI K (a0 i j)):SzQ (67+65*K) p/\p≠0:=by
 obtain⟨a,hs,hi⟩:=hi
 exact⟨(hi.lead_sz' hn (hs.li h0)).szq (by omega),hi.ne⟩
section
variable {P:Program}{ops:Array Oper}{Q:Exit->Act->World->Prop}{S:World->Prop}{fuel:Nat}{l:Array Bool}{a:Act}{w:World}
theorem rc3 (i j k:Nat){o p q:Oper}(hk:∀K':Act->World->Prop,Shut (∀(a:Act) (w:World),S w->(S w->wpAnyH P .any ops (NoPanic Q) S fuel (l.setIfInBounds i true) a w)->K' a w)->Oper.wp P o a w K' (NoPanic Q))(hj:∀K':Act->World->Prop,Shut (∀(a:Act) (w:World),S w->(S w->wpAnyH P .any ops (NoPanic Q) S fuel (l.setIfInBounds j true) a w)->K' a w)->Oper.wp P p a w K' (NoPanic Q))(hq:∀K':Act->World->Prop,Shut (∀(a:Act) (w:World),S w->(S w->wpAnyH P .any ops (NoPanic Q) S fuel (l.setIfInBounds k true) a w)->K' a w)->Oper.wp P q a w K' (NoPanic Q))(h1:ops[i]?=some o:=by simp only [List.getElem?_toArray,List.getElem?_cons_succ,List.getElem?_cons_zero];rfl)(h1':ops[j]?=some p:=by simp only [List.getElem?_toArray,List.getElem?_cons_succ,List.getElem?_cons_zero];rfl)(h1'':ops[k]?=some q:=by simp only [List.getElem?_toArray,List.getElem?_cons_succ,List.getElem?_cons_zero];rfl)(h2:Region.ready .any ops l=[i,j,k]:=by kernel_rfl)(h3:Region.wanted o (yielded ops a.tmps)=true:=by rfl)(h3':Region.wanted p (yielded ops a.tmps)=true:=by rfl)(h3'':Region.wanted q (yielded ops a.tmps)=true:=by rfl):wpAnyH P .any ops (NoPanic Q) S (fuel+1) l a w:=
 wpAnyH_ready h2 (by simp) (AllReadyH.cons h1 (λK' hK=>by rw [if_pos h3];exact hk K' hK) (AllReadyH.cons h1' (λK' hK=>by rw [if_pos h3'];exact hj K' hK) (AllReadyH.cons h1'' (λK' hK=>by rw [if_pos h3''];exact hq K' hK) AllReadyH.nil)))
end
section
variable {A:oA9}{n c m K:Nat}{MM:List (List Rat)}{w:World}
theorem zlM {V:oA9}{cv p:Nat}{xs:List Rat}(hp:m+1=p)(hT:zaj w)(h:zaS w A n c m MM)(z:zaA K MM)(hv:zaC w V n cv xs)(zx:zat K xs)(hm9:m<64)(hK:K+2<=67108864:=by omega):
  Calls Tryz.prog 49 #[.agg #[.slice A n c,.int .i64 (m:Int)],.slice V n cv] w (zfw w n p (zdy n p λa b=>if b=m then xs.getD a 0 else atM MM a b)):=by
 obtain⟨hn,hm⟩:=And.intro h.hn h.hm
 obtain⟨bx,by0,by1,by2,bz⟩:=zbA w 32 71 32 #[.slice A n c,.int .i64 (m:Int)] #[.slice V n cv] #[.slice none 0 0,.int .i64 0]
 have HK0:=lh9 by0
 have HK1:=lh9 by1
 have HK2:=lh9 by2
 have HB:=lh9 bx
 have HR:=λW=>lh9 (zbu A n c (m:Int) W)
 have HMY:∀(W:World) (z9:Int),z9=(p:Int)->Hid (Calls Tryz.prog 113 #[.int .i64 (n:Int),.int .i64 z9] W (λe w'=>e=.returned (.bool true)/\W=w')):=λW z9 hz9=>by subst hz9;exact may_of (zlN hn (show p<=64 by omega)) W
 have e0:((n:Int) !=(n:Int))=false:=by simp
 have hlv:=hv.len
 have HM:∀W,Below w.heap.size w W->Blk W (w.heap.size) 32 #[.slice A n c,.int .i64 (m:Int)]->Blk W (w.heap.size+1) 71 #[.slice V n cv]->∀z9:Int,z9=((p:Nat):Int)->Hid (Calls Tryz.prog 71 #[.int .i64 ((n:Nat):Int),.int .i64 z9,.func (.func 114) #[] #[.pointer (some ⟨w.heap.size,0,none⟩),.pointer (some ⟨w.heap.size+1,0,none⟩)]] W (zci W (n) (p) (zdy n p λa b=>if b=m then xs.getD a 0 else atM MM a b))):=λW hW k0 k1 z9 hz9=>by
  subst hz9
  have hh:=h.keep hW
  exact ziA (K:=K) (λa b=>if b=m then xs.getD a 0 else atM MM a b) 114 #[.pointer (some ⟨w.heap.size,0,none⟩),.pointer (some ⟨w.heap.size+1,0,none⟩)] n p W (hT.on hW) ⟨zls,λa b ha hb9 w' hb=>zmC (hh.keep hb) (zab hb k0) (zab hb k1) ((hv.keep hW).keep hb) ha (by omega)⟩ (λa b ha hb9=>by split;exact zx.at_ (by omega);exact z.at_ h.dims ha (by omega)) hn (by omega) hK
 have HP:=lh9 hp
 clear bx bz by0 by1 by2 hT h z hv zx hlv hp
 obtain⟨p0_0,p0_1⟩:=HK0.out.c2
 have p1_0:=HK1.out.c1
 go_enter Tryz.func49,Tryz.ntmps49
 go_wp2_with fail
 generalize ((w.alloc (.cells #[.slice A n c,.int .i64 (m:Int)] 32)).alloc (.cells #[.slice V n cv] 71)).alloc (.cells #[.slice none 0 0,.int .i64 0] 32)=W1 at*
 refine rg (csc p0_0 (csc p0_1 (csc p1_0 csn))) (λhHeld=>?_)
 clear p0_0 p0_1 p1_0
 have hbd:=(Below.refl W1.heap.size W1).drew
 have HB:=lh9 (zaa HB.out hbd)
 have HK0:=lh9 (zab hbd HK0.out)
 have HK1:=lh9 (zab hbd HK1.out)
 have HK2:=lh9 (zab hbd HK2.out)
 clear hbd
 generalize W1.drew=D at*
 refine tk 0 ?_
 refine tk 1 ?_
 refine tk 2 ?_
 refine rc 3 (λKK hK9=>?_)
 go_simp
 refine((HR _).out).mono ?_
 rintro e w2 ⟨rfl,hb⟩
 refine hK9.out _ _ (Cs.below hHeld hb) (λhHeld=>?_)
 clear hK9 KK
 have HB:=lh9 (zaa HB.out hb)
 have HK0:=lh9 (zab hb HK0.out)
 have HK1:=lh9 (zab hb HK1.out)
 have HK2:=lh9 (zab hb HK2.out)
 clear hb
 refine tk 4 ?_
 refine tk 5 ?_
 refine tk 6 ?_
 refine tk 8 ?_
 refine tk 9 ?_
 refine tk 10 ?_
 refine rc 7 (λKK hK9=>?_)
 go_simp
 refine((HR _).out).mono ?_
 rintro e w2 ⟨rfl,hb⟩
 refine hK9.out _ _ (Cs.below hHeld hb) (λhHeld=>?_)
 clear hK9 KK
 have HB:=lh9 (zaa HB.out hb)
 have HK0:=lh9 (zab hb HK0.out)
 have HK1:=lh9 (zab hb HK1.out)
 have HK2:=lh9 (zab hb HK2.out)
 clear hb
 refine rc 11 (λKK hK9=>?_)
 go_simp
 refine((HMY _ _ (by have h0:=HP.out;first|omega|(have e:IntKind.i64.wrap ((m:Int)+1)=(m:Int)+1:=IntWalk.i64_in _ (by omega);omega))).out).mono ?_
 rintro e w2 ⟨rfl,rfl⟩
 refine hK9.out _ _ hHeld (λhHeld=>?_)
 clear hK9 KK
 refine tk 12 ?_
 refine tk 13 ?_
 refine rdn ?_
 clear hHeld
 obtain⟨p0_0,p0_1⟩:=HK0.out.c2
 have p1_0:=HK1.out.c1
 go_wp2_with fail
 refine rg (csc p0_0 (csc p0_1 csn)) (λhHeld=>?_)
 clear p0_0 p0_1 p1_0
 have hbd:=(Below.refl w2.heap.size w2).drew
 have HB:=lh9 (zaa HB.out hbd)
 have HK0:=lh9 (zab hbd HK0.out)
 have HK1:=lh9 (zab hbd HK1.out)
 have HK2:=lh9 (zab hbd HK2.out)
 clear hbd
 generalize w2.drew=D at*
 refine tk 0 ?_
 refine tk 2 ?_
 refine tk 3 ?_
 refine tk 4 ?_
 refine tk 5 ?_
 refine rc 1 (λKK hK9=>?_)
 go_simp
 refine((HR _).out).mono ?_
 rintro e w2 ⟨rfl,hb⟩
 refine hK9.out _ _ (Cs.below hHeld hb) (λhHeld=>?_)
 clear hK9 KK
 have HB:=lh9 (zaa HB.out hb)
 have HK0:=lh9 (zab hb HK0.out)
 have HK1:=lh9 (zab hb HK1.out)
 have HK2:=lh9 (zab hb HK2.out)
 clear hb
 refine rc 6 (λKK hK9=>?_)
 go_simp
 refine(HM _ HB.out HK0.out HK1.out _ (by have h0:=HP.out;first|omega|(have e:IntKind.i64.wrap ((m:Int)+1)=(m:Int)+1:=IntWalk.i64_in _ (by omega);omega))).out.mono ?_
 rintro e w3 ⟨A3,c3,rfl,hm3,hf3,hb⟩
 refine hK9.out _ _ (Cs.below hHeld hb) (λhHeld=>?_)
 clear hK9 KK
 have hk3:=zab hb HK2.out
 obtain⟨sc0,sf0,sc1,sf1⟩:=st2 hk3 (.slice A3 (n) c3)
 obtain⟨r0,r1⟩:=(sn2 hk3 (.slice A3 (n) c3) (.int .i64 ((p:Nat):Int))).c2
 have HG:=lh9 (gmb2 hm3 (λad e=>Nat.lt_of_lt_of_le HK2.out.lt (hf3 ad e)) hk3 (zaa HB.out hb) (by omega))
 clear hb hk3 hm3 hf3 HB HM HK0 HK1 HK2
 refine rc 7 (λKK hK9=>?_)
 go_simp
 refine hK9.out _ _ ?_ (λhHeld=>?_)
 ·refine Cs.far hHeld (zhG _ _ _ _) ⟨?_,?_,trivial⟩<;>(show w.heap.size≠w.heap.size+1+1;omega)
 clear hK9 KK
 refine tk 8 ?_
 refine rdn ?_
 clear hHeld sc0 sf0 sc1 sf1
 go_wp2
 refine bodyPost_ret (v:=.tuple #[.agg #[.slice A3 (n) c3,.int .i64 ((p:Nat):Int)],.bool true]) (by simp [results,Tryz.results49,go_sem,r0,r1]) rfl ?_
 exact HG.out
end
