/- What this claim leans on. -/
import Derived.Test.YtcojjcjgbepicaaGreatDoorKEDen
import Derived.Test.YtcojjcjgbepicaaGreatDoorKERow
namespace Go.Proofs.YtcojjcjgbepicaaGreatDoor
open Go Go.RowKit
set_option maxHeartbeats 16000000
set_option maxRecDepth 100000
set_option linter.unusedVariables false
set_option linter.unusedSimpArgs false
section
variable {w:World}
theorem en_next1:∀(args:Array Value) (w':World),Sem.run Tryz.prog (callFunc 177 args) w'=.ok (.enter 177 args) w':=Go.Proofs.enters_of Tryz.func177 (by kernel_rfl) rfl
theorem cl_next {gc m d c K:Nat}{V:oA9}{L:List Rat}(hT:zai w)(hk:Blk w gc 3 #[.int .i64 (c:Int)])(hv:zaC w V m d L)(hc:c<m)(hz:zar K L)(hK:K<=67108864:=by omega):
  Calls Tryz.prog 177 #[.slice V m d,.pointer (some ⟨gc,0,none⟩)] w (λe w'=>e=.returned (.bool (!decide (L.getD c 0=0)))/\Below w.heap.size w w'):=by
 have g0:=hk.c1
 have HS:=lh9 (hz.at_ (k:=c) (by rw [hv.len];exact hc))
 obtain⟨ad,b1,B1,m1,d1,E1,u1,v1,rfl,-,h0,h1,h2,hx⟩:=hv.get (Below.refl _ _) hc
 have i1:(0:Int)<=(c:Int):=by omega
 have i2:(c:Int)<(m:Int):=by omega
 have i3:c<m:=hc
 generalize L.getD c 0=x at*
 obtain⟨t,ht⟩:∃t,decide (x=0)=t:=⟨_,rfl⟩
 rw [ht]
 have HZQ:=lh9 (ziK ht hT hx HS.out hK)
 clear hk hv hz hx hc hT ht
 go_enter Tryz.func177,Tryz.ntmps177
 go_wp2_with fail
 clear h0 h1 h2 g0
 refine HZQ.out.mono ?_
 rintro eo w1 ⟨rfl,hb⟩
 have HB:=lh9 hb
 clear hb HZQ
 go_wp2
 go_ret
 exact⟨rfl,HB.out⟩
def zhH (c:Nat)(Ls:List (List Rat)):Int:=if Ls.findIdx (λrow=> !decide (row.getD c 0=0))<Ls.length then((Ls.findIdx (λrow=> !decide (row.getD c 0=0)):Nat):Int) else -1
theorem idxZ_at {c k:Nat}{Ls:List (List Rat)}(hk:k<Ls.length)(h0:∀j,j<k->(Ls.getD j []).getD c 0=0)(h1:(Ls.getD k []).getD c 0≠0):zhH c Ls=(k:Int):=by
 have e:Ls.findIdx (λrow=> !decide (row.getD c 0=0))=k:=by
  rw [List.findIdx_eq hk]
  have hg:∀j (hj:j<Ls.length),Ls.getD j []=Ls[j]:=λj hj=>by rw [List.getD_eq_getElem?_getD,List.getElem?_eq_getElem hj];rfl
  refine⟨by rw [hg k hk] at h1;simpa using h1,λj hj=>?_⟩
  have:=h0 j hj
  rw [hg j (by omega)] at this
  simpa using this
 unfold zhH
 rw [e,if_pos hk]
theorem zoY {x:Rat}(h:(!decide (x=0))=true):x≠0:=by simpa using h
theorem zoS {c:Nat}{Ls:List (List Rat)}(h0:∀j,j<Ls.length->(Ls.getD j []).getD c 0=0):zhH c Ls= -1:=by
 unfold zhH
 rw [if_neg]
 intro h
 have h1:=List.findIdx_getElem (p:=λrow:List Rat=> !decide (row.getD c 0=0)) (xs:=Ls) (w:=h)
 have h2:=h0 _ h
 rw [List.getD_eq_getElem?_getD (l:=Ls),List.getElem?_eq_getElem h] at h2
 exact zoY h1 h2
theorem ziw {z gc q n m c K:Nat}{Q:oA9}{M:List (List Rat)}(hT:zai w)(h:zay (VZ z) w Q n M)(hk:Blk w gc 3 #[.int .i64 (c:Int)])(hc:c<m)(hd:∀L ∈ M,L.length=m)(hz:zaB K M)(hn:n<=1048576)(hK:K<=67108864:=by omega):
  Calls Tryz.prog 174 #[.slice Q n q,.func (.func 177) #[] #[.pointer (some ⟨gc,0,none⟩)]] w (λe w'=>e=.returned (.int .i64 (zhH c M))/\Below w.heap.size w w'):=by
 have hl:=h.len
 have HR:=lh9 h
 have HT:=lh9 (λw' (hb:Below w.heap.size w w')=>hT.on hb)
 have HK:=lh9 (λw' (hb:Below w.heap.size w w')=>zab hb hk)
 have HD:Hid (∀k,k<n->(M.getD k []).length=m):=λk hk=>hd _ (List.mem_of_getElem? (zbK (by omega)))
 have HZ:Hid (∀k,k<n->zar K (M.getD k [])):=λk hk=>hz.row (by omega)
 have HI:Hid (∀k,k<n->(∀j,j<k->(M.getD j []).getD c 0=0)->(M.getD k []).getD c 0≠0->zhH c M=(k:Int)):=λk hk=>idxZ_at (by omega)
 have HN:Hid ((∀j,j<n->(M.getD j []).getD c 0=0)->zhH c M= -1):=λh0=>zoS (by rw [hl];exact h0)
 have hEn:=en_next1
 have hB:=Below.refl w.heap.size w
 have i0:(0:Int)<=(n:Int):=by omega
 have HC:=lh9 hc
 obtain⟨zi,hzi⟩:∃zi,zhH c M=zi:=⟨_,rfl⟩
 rw [hzi] at HI HN⊢
 clear h hk hl hd hz hT hc hzi
 go_enter Tryz.func174,Tryz.ntmps174
 go_wp2_with fail
 go_loopg [8] (n+1) (λg ix wr=>∃(k:Nat),k<=n/\n<g+k/\ix=.int .i64 k/\Hid (∀j,j<k->(M.getD j []).getD c 0=0)/\Below w.heap.size w wr)
 case atStart=>exact⟨0,Nat.zero_le _,by omega,rfl,λj hj=>(by cases hj),hB⟩
 case round=>
  clear hB
  obtain⟨k,hkn,hg,rfl,hz0,hB⟩:=hrel
  by_cases hlt:k<n
  ·have hd1:decide ((k:Int)<(n:Int))=true:=decide_eq_true (by omega)
   have i1:(0:Int)<=(k:Int):=by omega
   have i2:(k:Int)<(n:Int):=by omega
   obtain⟨ad,B,d,rfl,-,hc0,hv⟩:=HR.out.get (zct z) hB hlt (HD.out k hlt)
   have HZK:=lh9 (HZ.out k hlt)
   have HIK:=lh9 (HI.out k hlt hz0.out)
   have HB:=lh9 hB
   have HSU:Hid ((M.getD k []).getD c 0=0->∀j,j<k+1->(M.getD j []).getD c 0=0):=λe j hj=>by
    rcases Nat.lt_or_ge j k with a|a
    ·exact hz0.out j a
    ·rw [show j=k by omega];exact e
   have HCL:=lh9 (cl_next (HT.out _ hB) (HK.out _ hB) hv.1 HC.out HZK.out hK)
   clear hB hv
   by_cases h0:(M.getD k []).getD c 0=0
   ·have HS2:=lh9 (HSU.out h0)
    have HCL:=HCL.out
    rw [h0,show(!decide ((0:Rat)=0))=false from rfl] at HCL
    have HCL:=lh9 HCL
    clear h0 HSU HIK
    go_wp2_with fail
    refine HCL.out.mono ?_
    rintro eo w3 ⟨rfl,hb⟩
    have HB2:=lh9 (zaa HB.out hb)
    clear hb hc0
    go_wp2
    go_roundg (n - k)
    case measure=>omega
    case rel=>exact⟨k+1,by omega,by omega,by go_num,HS2.out,HB2.out⟩
   ·have HE:=lh9 (HIK.out h0)
    have HCL:=HCL.out
    rw [decide_eq_false h0,show(!false)=true from rfl] at HCL
    have HCL:=lh9 HCL
    clear h0 HSU HIK
    go_wp2_with fail
    refine HCL.out.mono ?_
    rintro eo w3 ⟨rfl,hb⟩
    have HB2:=lh9 (zaa HB.out hb)
    clear hb hc0
    go_wp2
    go_ret
    exact⟨by rw [HE.out];rfl,HB2.out⟩
  ·have hk9:k=n:=by omega
   subst hk9
   have hd1:decide ((k:Int)<(k:Int))=false:=by simp
   have HE:=lh9 (HN.out hz0.out)
   have HB2:=lh9 hB
   clear hB
   go_wp2
   go_ret
   exact⟨by rw [HE.out];rfl,HB2.out⟩
end
theorem zay.drop_ {α:Type}{R:RP α}{w:World}{A:oA9}{n r:Nat}{Ls:List (List α)}(h:zay R w A n Ls)(hr:r<=n):zay R w (Option.map (λx=>x.add r) A) (n - r) (Ls.drop r):=by
 refine⟨by rw [List.length_drop,h.len],λi L hi=>?_⟩
 rw [List.getElem?_drop] at hi
 obtain⟨ad,B,d,rfl,h1,h2,h3⟩:=h.num _ L hi
 exact⟨_,B,d,rfl,by rw [zao];exact h1,by rw [zeB];exact h2,h3⟩
def zcB (r c:Nat)(p:Rat)(S:List (List Rat))(i:Nat):List (List Rat):=S.mapIdx λj row=>if j=r\/i<=j then row else zdb p row (S.getD r []) c
theorem zdd (r c:Nat)(p:Rat)(S:List (List Rat))(i:Nat):(zcB r c p S i).length=S.length:=by unfold zcB;rw [List.length_mapIdx]
theorem zdc {r c i j:Nat}{p:Rat}{S:List (List Rat)}(hj:j<S.length):(zcB r c p S i)[j]?=some (if j=r\/i<=j then S.getD j [] else zdb p (S.getD j []) (S.getD r []) c):=by
 unfold zcB
 rw [List.getElem?_mapIdx,List.getElem?_eq_getElem hj]
 show some (if j=r\/i<=j then _ else _)=_
 rw [show S.getD j []=S[j] by rw [List.getD_eq_getElem?_getD,List.getElem?_eq_getElem hj];rfl]
theorem zjt {r c i j:Nat}{p:Rat}{S:List (List Rat)}(hj:j<S.length):(zcB r c p S i).getD j []=if j=r\/i<=j then S.getD j [] else zdb p (S.getD j []) (S.getD r []) c:=by
 rw [List.getD_eq_getElem?_getD,zdc hj];rfl
theorem zmz (r c:Nat)(p:Rat)(S:List (List Rat)):zcB r c p S 0=S:=by
 apply List.ext_getElem?
 intro j
 rcases Nat.lt_or_ge j S.length with h|h
 ·rw [zdc h,if_pos (Or.inr (Nat.zero_le _)),zbK h]
 ·rw [List.getElem?_eq_none (by rw [zdd];exact h),List.getElem?_eq_none h]
theorem zmx {r c:Nat}{p:Rat}{S:List (List Rat)}:zcB r c p S (r+1)=zcB r c p S r:=by
 apply List.ext_getElem?
 intro j
 rcases Nat.lt_or_ge j S.length with h|h
 ·rw [zdc h,zdc h]
  by_cases e:j=r
  ·rw [if_pos (Or.inl e),if_pos (Or.inl e)]
  ·by_cases e2:r<=j
   ·rw [if_pos (Or.inr (by omega)),if_pos (Or.inr e2)]
   ·rw [if_neg (by omega),if_neg (by omega)]
 ·rw [List.getElem?_eq_none (by rw [zdd];exact h),List.getElem?_eq_none (by rw [zdd];exact h)]
theorem zmy {r c i:Nat}{p:Rat}{S:List (List Rat)}(hi:i<S.length)(hne:i≠r):(zcB r c p S i).set i (zdb p (S.getD i []) (S.getD r []) c)=zcB r c p S (i+1):=by
 apply List.ext_getElem?
 intro j
 rcases Nat.lt_or_ge j S.length with h|h
 ·rw [zdc h]
  by_cases e:i=j
  ·subst e
   rw [List.getElem?_set_self (by rw [zdd];exact h),if_neg (by omega)]
  ·rw [List.getElem?_set_ne e,zdc h]
   by_cases e1:j=r
   ·rw [if_pos (Or.inl e1),if_pos (Or.inl e1)]
   ·by_cases e2:i<=j
    ·rw [if_pos (Or.inr e2),if_pos (Or.inr (by omega))]
    ·rw [if_neg (by omega),if_neg (by omega)]
 ·rw [List.getElem?_eq_none (by rw [List.length_set,zdd];exact h),List.getElem?_eq_none (by rw [zdd];exact h)]
theorem zoy {r c n:Nat}{p:Rat}{S:List (List Rat)}(hn:S.length=n):zcB r c p S n=zgX r c p S:=by
 subst hn
 apply List.ext_getElem?
 intro j
 rcases Nat.lt_or_ge j S.length with h|h
 ·rw [zdc h]
  unfold zgX
  rw [List.getElem?_mapIdx,List.getElem?_eq_getElem h]
  show _=some (if j=r then _ else _)
  rw [show S.getD j []=S[j] by rw [List.getD_eq_getElem?_getD,List.getElem?_eq_getElem h];rfl]
  by_cases e:j=r
  ·rw [if_pos (Or.inl e),if_pos e]
  ·rw [if_neg (by omega),if_neg e]
 ·rw [List.getElem?_eq_none (by rw [zdd];exact h),List.getElem?_eq_none (by unfold zgX;rw [List.length_mapIdx];exact h)]
theorem zjA {c:Nat}{st:ESt}:zhH c (st.S.drop st.ld.length)=if zbb c st<st.S.length - st.ld.length then((zbb c st:Nat):Int) else -1:=by
 unfold zhH zbb
 rw [List.length_drop]
theorem next_no {c:Nat}{st:ESt}(h:¬zbb c st<st.S.length - st.ld.length):zfj c st=st:=by unfold zfj;rw [if_neg h]
theorem next_yes {c:Nat}{st:ESt}(h:zbb c st<st.S.length - st.ld.length):zfj c st=⟨zgX st.ld.length c st.p (zfl c st),st.ld++[c],atM (zfl c st) st.ld.length c⟩:=by unfold zfj;rw [if_pos h]
theorem EOk.msz {n m c K:Nat}{a0:Nat->Nat->Rat}{S:List (List Rat)}{ld:List Nat}{p:Rat}(hd:zbe S n m)(hi:∃a,zie n a0 a/\zcK n m c a (atM S) ld p)(hn:n<=64)(h0:∀i,i<n->∀j,j<m->LI K (a0 i j)):zaB (67+65*K) S:=λL hL x hx=>by
 obtain⟨a,hs,hi⟩:=hi
 obtain⟨i,hi',rfl⟩:=List.mem_iff_getElem.1 hL
 obtain⟨j,hj',rfl⟩:=List.mem_iff_getElem.1 hx
 have h1:=hd.rows
 have h2:=hd.cols _ hL
 have:=(hi.sz hn (hs.li h0) (i:=i) (j:=j) (by omega) (by omega)).szq (by omega)
 have e:atM S i j=S[i][j]:=by
  unfold atM
  rw [List.getD_eq_getElem?_getD (l:=S),List.getElem?_eq_getElem hi']
  show S[i].getD j 0=_
  rw [List.getD_eq_getElem?_getD,List.getElem?_eq_getElem hj'];rfl
 rw [e] at this
 exact this
theorem EOk.psz {n m c K:Nat}{a0:Nat->Nat->Rat}{S:List (List Rat)}{ld:List Nat}{p:Rat}(hi:∃a,zie n a0 a/\zcK n m c a (atM S) ld p)(hn:n<=64)(h0:∀i,i<n->∀j,j<m->LI K (a0 i j)):SzQ (67+65*K) p/\p≠0:=by
 obtain⟨a,hs,hi⟩:=hi
 exact⟨(hi.lead_sz' hn (hs.li h0)).szq (by omega),hi.ne⟩
section
variable {P:Program}{ops:Array Oper}{Q:Exit->Act->World->Prop}{S:World->Prop}{fuel:Nat}{l:Array Bool}{a:Act}{w:World}
theorem rc3 (i j k:Nat){o p q:Oper}(hk:∀K':Act->World->Prop,Shut (∀(a:Act) (w:World),S w->(S w->wpAnyH P .any ops (NoPanic Q) S fuel (l.setIfInBounds i true) a w)->K' a w)->Oper.wp P o a w K' (NoPanic Q))(hj:∀K':Act->World->Prop,Shut (∀(a:Act) (w:World),S w->(S w->wpAnyH P .any ops (NoPanic Q) S fuel (l.setIfInBounds j true) a w)->K' a w)->Oper.wp P p a w K' (NoPanic Q))(hq:∀K':Act->World->Prop,Shut (∀(a:Act) (w:World),S w->(S w->wpAnyH P .any ops (NoPanic Q) S fuel (l.setIfInBounds k true) a w)->K' a w)->Oper.wp P q a w K' (NoPanic Q))(h1:ops[i]?=some o:=by simp only [List.getElem?_toArray,List.getElem?_cons_succ,List.getElem?_cons_zero];rfl)(h1':ops[j]?=some p:=by simp only [List.getElem?_toArray,List.getElem?_cons_succ,List.getElem?_cons_zero];rfl)(h1'':ops[k]?=some q:=by simp only [List.getElem?_toArray,List.getElem?_cons_succ,List.getElem?_cons_zero];rfl)(h2:Region.ready .any ops l=[i,j,k]:=by kernel_rfl)(h3:Region.wanted o (yielded ops a.tmps)=true:=by rfl)(h3':Region.wanted p (yielded ops a.tmps)=true:=by rfl)(h3'':Region.wanted q (yielded ops a.tmps)=true:=by rfl):wpAnyH P .any ops (NoPanic Q) S (fuel+1) l a w:=
 wpAnyH_ready h2 (by simp) (AllReadyH.cons h1 (λK' hK=>by rw [if_pos h3];exact hk K' hK) (AllReadyH.cons h1' (λK' hK=>by rw [if_pos h3'];exact hj K' hK) (AllReadyH.cons h1'' (λK' hK=>by rw [if_pos h3''];exact hq K' hK) AllReadyH.nil)))
end
