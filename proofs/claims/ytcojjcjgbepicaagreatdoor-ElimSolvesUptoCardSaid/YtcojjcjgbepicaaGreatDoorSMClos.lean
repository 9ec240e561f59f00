/- What this claim leans on. -/
import Derived.Test.YtcojjcjgbepicaaGreatDoorSMMade
import Derived.Test.YtcojjcjgbepicaaGreatDoorSEDen
namespace Go.Proofs.YtcojjcjgbepicaaGreatDoor
open Go Go.RowKit
set_option maxHeartbeats 16000000
set_option maxRecDepth 100000
set_option linter.unusedVariables false
set_option linter.unusedSimpArgs false
theorem gq0 {w w':World}{r:Rat}{b:Bool}{A E:oA9}{n c k f:Nat}(h:zah w' r b A n c E k f)(hb:Below w.heap.size w w'):zaI w r (.returned (.agg #[.bool b,.slice A n c,.slice E k f])) w':=⟨_,_,_,_,_,_,_,rfl,h,hb⟩
section
variable {A:oA9}{n c m:Nat}{M:List (List Rat)}{w:World}
theorem zlB:∀(args:Array Value) (w':World),Sem.run Tryz.prog (callFunc 114 args) w'=.ok (.enter 114 args) w':=Go.Proofs.enters_of Tryz.func114 (by kernel_rfl) rfl
theorem zmH {g gv i j:Nat}{V:oA9}{cv:Nat}{xs:List Rat}(h:zaW w A n c m M)(hk:Blk w g 32 #[.slice A n c,.int .i64 (m:Int)])(hkv:Blk w gv 71 #[.slice V n cv])(hv:zaC w V n cv xs)(hi:i<n)(hj:j<m+1):
  Calls Tryz.prog 114 #[.int .i64 (i:Int),.int .i64 (j:Int),.pointer (some ⟨g,0,none⟩),.pointer (some ⟨gv,0,none⟩)] w (zaI w (if j=m then xs.getD i 0 else atM M i j)):=by
 obtain⟨bx1,bx2,bz⟩:=zaw w 53 #[.bool false,.slice none 0 0,.slice none 0 0]
 by_cases h1:j=m
 ·have e1:((j:Int)==(m:Int))=true:=by rw [beq_iff_eq];omega
  rw [if_pos h1]
  obtain⟨g0,g1⟩:=(zab bx1 hk).c2
  have y0:=(zab bx1 hkv).c1
  clear h1
  obtain⟨ae,b1,B1,m1,d1,E1,u1,v1,rfl,-,h0,h2,h3,hq⟩:=hv.get (Below.refl _ w) hi
  have h0:=zac bx1 h0
  have h1:=zac bx1 h2
  have h2:=zac bx1 h3
  have i1:(0:Int)<=(i:Int):=by omega
  have i2:(i:Int)<(n:Int):=by omega
  clear hkv
  obtain⟨by1,by2,-⟩:=zaw w 53 #[.bool b1,.slice B1 m1 d1,.slice E1 u1 v1]
  obtain⟨r0,r1,r2⟩:=by2.c3
  have HG:=lh9 (gq0 (hq.below by1) by1)
  clear hq bx1 bx2 bz by1 by2 h hk hv
  go_enter Tryz.func114,Tryz.ntmps114
  go_wp2
  refine bodyPost_ret (v:=.agg #[.bool b1,.slice B1 m1 d1,.slice E1 u1 v1]) (by simp [results,Tryz.results114,go_sem,r0,r1,r2]) rfl ?_
  exact HG.out
 ·have e1:((j:Int)==(m:Int))=false:=by rw [beq_eq_false_iff_ne];omega
  rw [if_neg h1]
  have hj:j<m:=by omega
  clear h1 hkv
  obtain⟨ad,B,d,rfl,-,hc,ae,b1,B1,m1,d1,E1,u1,v1,rfl,-,h0,h1,h2,hq⟩:=h.place (Below.refl _ w) hi hj
  obtain⟨g0,g1⟩:=(zab bx1 hk).c2
  have hc:=zac bx1 hc
  have h0:=zac bx1 h0
  have h1:=zac bx1 h1
  have h2:=zac bx1 h2
  have i1:(0:Int)<=(i:Int):=by omega
  have i2:(i:Int)<(n:Int):=by omega
  have i3:(0:Int)<=(j:Int):=by omega
  have i4:(j:Int)<(m:Int):=by omega
  obtain⟨by1,by2,-⟩:=zaw w 53 #[.bool b1,.slice B1 m1 d1,.slice E1 u1 v1]
  obtain⟨r0,r1,r2⟩:=by2.c3
  have HG:=lh9 (gq0 (hq.below by1) by1)
  clear hq bx1 bx2 bz by1 by2 h hk hv
  go_enter Tryz.func114,Tryz.ntmps114
  go_wp2
  refine bodyPost_ret (v:=.agg #[.bool b1,.slice B1 m1 d1,.slice E1 u1 v1]) (by simp [results,Tryz.results114,go_sem,r0,r1,r2]) rfl ?_
  exact HG.out
theorem en_of2:∀(args:Array Value) (w':World),Sem.run Tryz.prog (callFunc 127 args) w'=.ok (.enter 127 args) w':=Go.Proofs.enters_of Tryz.func127 (by kernel_rfl) rfl
theorem cl_of {gs i j:Nat}{Q:oA9}{q:Nat}(h:zaz (zaM zah) w Q n M)(hd:zbh M n m)(hk:Blk w gs 30 #[.slice Q n q])(hi:i<n)(hj:j<m):Calls Tryz.prog 127 #[.int .i64 (i:Int),.int .i64 (j:Int),.pointer (some ⟨gs,0,none⟩)] w (zaI w (atM M i j)):=by
 obtain⟨bx1,bx2,bz⟩:=zaw w 53 #[.bool false,.slice none 0 0,.slice none 0 0]
 obtain⟨ad,B,d,rfl,-,hc,hv⟩:=h.get (zam zaf) (Below.refl _ w) hi (hd.row hi)
 obtain⟨ae,b1,B1,m1,d1,E1,u1,v1,rfl,-,h0,h1,h2,hq⟩:=zaC.get hv (Below.refl _ w) hj
 have hc:=zac bx1 hc
 have h0:=zac bx1 h0
 have h1:=zac bx1 h1
 have h2:=zac bx1 h2
 have g0:=(zab bx1 hk).c1
 have i1:(0:Int)<=(i:Int):=by omega
 have i2:(i:Int)<(n:Int):=by omega
 have i3:(0:Int)<=(j:Int):=by omega
 have i4:(j:Int)<(m:Int):=by omega
 obtain⟨by1,by2,-⟩:=zaw w 53 #[.bool b1,.slice B1 m1 d1,.slice E1 u1 v1]
 obtain⟨r0,r1,r2⟩:=by2.c3
 have HG:=lh9 (gq0 (hq.below by1) by1)
 clear hq bx1 bx2 bz by1 by2 h hk hv hd
 go_enter Tryz.func127,Tryz.ntmps127
 go_wp2
 refine bodyPost_ret (v:=.agg #[.bool b1,.slice B1 m1 d1,.slice E1 u1 v1]) (by simp [results,Tryz.results127,go_sem,r0,r1,r2]) rfl ?_
 exact HG.out
theorem en_of1:∀(args:Array Value) (w':World),Sem.run Tryz.prog (callFunc 125 args) w'=.ok (.enter 125 args) w':=Go.Proofs.enters_of Tryz.func125 (by kernel_rfl) rfl
theorem zoB {gc k:Nat}{V:oA9}{cv:Nat}{z:Int}(hk:Blk w gc 3 #[.int .i64 z]):Calls Tryz.prog 125 #[.slice V k cv,.pointer (some ⟨gc,0,none⟩)] w (λe w'=>e=.returned (.bool (!decide ((k:Int)=z)))/\Below w.heap.size w w'):=by
 have g0:=hk.c1
 obtain⟨b,hb⟩:∃b,(!decide ((k:Int)=z))=b:=⟨_,rfl⟩
 have hb2:((k:Int) !=z)=b:=by rw [<-hb];by_cases q:(k:Int)=z<;>simp [q]
 rw [hb]
 clear hk hb
 go_enter Tryz.func125,Tryz.ntmps125
 go_wp2
 go_ret
 exact⟨rfl,Below.refl _ _⟩
end
section
variable {w:World}
theorem en_next1:∀(args:Array Value) (w':World),Sem.run Tryz.prog (callFunc 177 args) w'=.ok (.enter 177 args) w':=Go.Proofs.enters_of Tryz.func177 (by kernel_rfl) rfl
theorem cl_next {gc m d c K:Nat}{V:oA9}{L:List Rat}(hT:zaj w)(hk:Blk w gc 3 #[.int .i64 (c:Int)])(hv:zaC w V m d L)(hc:c<m)(hz:zaq K L)(hK:K<=67108864:=by omega):
  Calls Tryz.prog 177 #[.slice V m d,.pointer (some ⟨gc,0,none⟩)] w (λe w'=>e=.returned (.bool (!decide (L.getD c 0=0)))/\Below w.heap.size w w'):=by
 have g0:=hk.c1
 have HS:=lh9 (hz.at_ (k:=c) (by rw [hv.len];exact hc))
 obtain⟨ad,b1,B1,m1,d1,E1,u1,v1,rfl,-,h0,h1,h2,hx⟩:=hv.get (Below.refl _ _) hc
 have i1:(0:Int)<=(c:Int):=by omega
 have i2:(c:Int)<(m:Int):=by omega
 have i3:c<m:=hc
 generalize L.getD c 0=x at*
 obtain⟨t,ht⟩:∃t,decide (x=0)=t:=⟨_,rfl⟩
 rw [ht]
 have HZQ:=lh9 (zns ht hT hx HS.out hK)
 clear hk hv hz hx hc hT ht
 go_enter Tryz.func177,Tryz.ntmps177
 go_wp2_with fail
 clear h0 h1 h2 g0
 refine HZQ.out.mono ?_
 rintro eo w1 ⟨rfl,hb⟩
 have HB:=lh9 hb
 clear hb HZQ
 go_wp2
 go_ret
 exact⟨rfl,HB.out⟩
def zhN (c:Nat)(Ls:List (List Rat)):Int:=if Ls.findIdx (λrow=> !decide (row.getD c 0=0))<Ls.length then((Ls.findIdx (λrow=> !decide (row.getD c 0=0)):Nat):Int) else -1
theorem idxZ_at {c k:Nat}{Ls:List (List Rat)}(hk:k<Ls.length)(h0:∀j,j<k->(Ls.getD j []).getD c 0=0)(h1:(Ls.getD k []).getD c 0≠0):zhN c Ls=(k:Int):=by
 have e:Ls.findIdx (λrow=> !decide (row.getD c 0=0))=k:=by
  rw [List.findIdx_eq hk]
  have hg:∀j (hj:j<Ls.length),Ls.getD j []=Ls[j]:=λj hj=>by rw [List.getD_eq_getElem?_getD,List.getElem?_eq_getElem hj];rfl
  refine⟨by rw [hg k hk] at h1;simpa using h1,λj hj=>?_⟩
  have:=h0 j hj
  rw [hg j (by omega)] at this
  simpa using this
 unfold zhN
 rw [e,if_pos hk]
theorem zoY {x:Rat}(h:(!decide (x=0))=true):x≠0:=by simpa using h
theorem zoU {c:Nat}{Ls:List (List Rat)}(h0:∀j,j<Ls.length->(Ls.getD j []).getD c 0=0):zhN c Ls= -1:=by
 unfold zhN
 rw [if_neg]
 intro h
 have h1:=List.findIdx_getElem (p:=λrow:List Rat=> !decide (row.getD c 0=0)) (xs:=Ls) (w:=h)
 have h2:=h0 _ h
 rw [List.getD_eq_getElem?_getD (l:=Ls),List.getElem?_eq_getElem h] at h2
 exact zoY h1 h2
theorem ziz {z gc q n m c K:Nat}{Q:oA9}{M:List (List Rat)}(hT:zaj w)(h:zaz (VZ z) w Q n M)(hk:Blk w gc 3 #[.int .i64 (c:Int)])(hc:c<m)(hd:∀L ∈ M,L.length=m)(hz:zaD K M)(hn:n<=1048576)(hK:K<=67108864:=by omega):
  Calls Tryz.prog 174 #[.slice Q n q,.func (.func 177) #[] #[.pointer (some ⟨gc,0,none⟩)]] w (λe w'=>e=.returned (.int .i64 (zhN c M))/\Below w.heap.size w w'):=by
 have hl:=h.len
 have HR:=lh9 h
 have HT:=lh9 (λw' (hb:Below w.heap.size w w')=>hT.on hb)
 have HK:=lh9 (λw' (hb:Below w.heap.size w w')=>zab hb hk)
 have HD:Hid (∀k,k<n->(M.getD k []).length=m):=λk hk=>hd _ (List.mem_of_getElem? (zbF (by omega)))
 have HZ:Hid (∀k,k<n->zaq K (M.getD k [])):=λk hk=>hz.row (by omega)
 have HI:Hid (∀k,k<n->(∀j,j<k->(M.getD j []).getD c 0=0)->(M.getD k []).getD c 0≠0->zhN c M=(k:Int)):=λk hk=>idxZ_at (by omega)
 have HN:Hid ((∀j,j<n->(M.getD j []).getD c 0=0)->zhN c M= -1):=λh0=>zoU (by rw [hl];exact h0)
 have hEn:=en_next1
 have hB:=Below.refl w.heap.size w
 have i0:(0:Int)<=(n:Int):=by omega
 have HC:=lh9 hc
 obtain⟨zi,hzi⟩:∃zi,zhN c M=zi:=⟨_,rfl⟩
 rw [hzi] at HI HN⊢
 clear h hk hl hd hz hT hc hzi
 go_enter Tryz.func174,Tryz.ntmps174
 go_wp2_with fail
 go_loopg [8] (n+1) (λg ix wr=>∃(k:Nat),k<=n/\n<g+k/\ix=.int .i64 k/\Hid (∀j,j<k->(M.getD j []).getD c 0=0)/\Below w.heap.size w wr)
 case atStart=>exact⟨0,Nat.zero_le _,by omega,rfl,λj hj=>(by cases hj),hB⟩
 case round=>
  clear hB
  obtain⟨k,hkn,hg,rfl,hz0,hB⟩:=hrel
  by_cases hlt:k<n
  ·have hd1:decide ((k:Int)<(n:Int))=true:=decide_eq_true (by omega)
   have i1:(0:Int)<=(k:Int):=by omega
   have i2:(k:Int)<(n:Int):=by omega
   obtain⟨ad,B,d,rfl,-,hc0,hv⟩:=HR.out.get (zcq z) hB hlt (HD.out k hlt)
   have HZK:=lh9 (HZ.out k hlt)
   have HIK:=lh9 (HI.out k hlt hz0.out)
   have HB:=lh9 hB
   have HSU:Hid ((M.getD k []).getD c 0=0->∀j,j<k+1->(M.getD j []).getD c 0=0):=λe j hj=>by
    rcases Nat.lt_or_ge j k with a|a
    ·exact hz0.out j a
    ·rw [show j=k by omega];exact e
   have HCL:=lh9 (cl_next (HT.out _ hB) (HK.out _ hB) hv.1 HC.out HZK.out hK)
   clear hB hv
   by_cases h0:(M.getD k []).getD c 0=0
   ·have HS2:=lh9 (HSU.out h0)
    have HCL:=HCL.out
    rw [h0,show(!decide ((0:Rat)=0))=false from rfl] at HCL
    have HCL:=lh9 HCL
    clear h0 HSU HIK
    go_wp2_with fail
    refine HCL.out.mono ?_
    rintro eo w3 ⟨rfl,hb⟩
    have HB2:=lh9 (zaa HB.out hb)
    clear hb hc0
    go_wp2
    go_roundg (n - k)
    case measure=>omega
    case rel=>exact⟨k+1,by omega,by omega,by go_num,HS2.out,HB2.out⟩
   ·have HE:=lh9 (HIK.out h0)
    have HCL:=HCL.out
    rw [decide_eq_false h0,show(!false)=true from rfl] at HCL
    have HCL:=lh9 HCL
    clear h0 HSU HIK
    go_wp2_with fail
    refine HCL.out.mono ?_
    rintro eo w3 ⟨rfl,hb⟩
    have HB2:=lh9 (zaa HB.out hb)
    clear hb hc0
    go_wp2
    go_ret
    exact⟨by rw [HE.out];rfl,HB2.out⟩
  ·have hk9:k=n:=by omega
   subst hk9
   have hd1:decide ((k:Int)<(k:Int))=false:=by simp
   have HE:=lh9 (HN.out hz0.out)
   have HB2:=lh9 hB
   clear hB
   go_wp2
   go_ret
   exact⟨by rw [HE.out];rfl,HB2.out⟩
end
theorem zaz.drop_ {α:Type}{R:RP α}{w:World}{A:oA9}{n r:Nat}{Ls:List (List α)}(h:zaz R w A n Ls)(hr:r<=n):zaz R w (Option.map (λx=>x.add r) A) (n - r) (Ls.drop r):=by
 refine⟨by rw [List.length_drop,h.len],λi L hi=>?_⟩
 rw [List.getElem?_drop] at hi
 obtain⟨ad,B,d,rfl,h1,h2,h3⟩:=h.num _ L hi
 exact⟨_,B,d,rfl,by rw [zao];exact h1,by rw [zeG];exact h2,h3⟩
def zcz (r c:Nat)(p:Rat)(S:List (List Rat))(i:Nat):List (List Rat):=S.mapIdx λj row=>if j=r\/i<=j then row else zdc p row (S.getD r []) c
theorem zde (r c:Nat)(p:Rat)(S:List (List Rat))(i:Nat):(zcz r c p S i).length=S.length:=by unfold zcz;rw [List.length_mapIdx]
theorem zdd {r c i j:Nat}{p:Rat}{S:List (List Rat)}(hj:j<S.length):(zcz r c p S i)[j]?=some (if j=r\/i<=j then S.getD j [] else zdc p (S.getD j []) (S.getD r []) c):=by
 unfold zcz
 rw [List.getElem?_mapIdx,List.getElem?_eq_getElem hj]
 show some (if j=r\/i<=j then _ else _)=_
 rw [show S.getD j []=S[j] by rw [List.getD_eq_getElem?_getD,List.getElem?_eq_getElem hj];rfl]
theorem zjD {r c i j:Nat}{p:Rat}{S:List (List Rat)}(hj:j<S.length):(zcz r c p S i).getD j []=if j=r\/i<=j then S.getD j [] else zdc p (S.getD j []) (S.getD r []) c:=by
 rw [List.getD_eq_getElem?_getD,zdd hj];rfl
theorem zmL (r c:Nat)(p:Rat)(S:List (List Rat)):zcz r c p S 0=S:=by
 apply List.ext_getElem?
 intro j
 rcases Nat.lt_or_ge j S.length with h|h
 ·rw [zdd h,if_pos (Or.inr (Nat.zero_le _)),zbF h]
 ·rw [List.getElem?_eq_none (by rw [zde];exact h),List.getElem?_eq_none h]
theorem zmJ {r c:Nat}{p:Rat}{S:List (List Rat)}:zcz r c p S (r+1)=zcz r c p S r:=by
 apply List.ext_getElem?
 intro j
 rcases Nat.lt_or_ge j S.length with h|h
 ·rw [zdd h,zdd h]
  by_cases e:j=r
  ·rw [if_pos (Or.inl e),if_pos (Or.inl e)]
  ·by_cases e2:r<=j
   ·rw [if_pos (Or.inr (by omega)),if_pos (Or.inr e2)]
   ·rw [if_neg (by omega),if_neg (by omega)]
 ·rw [List.getElem?_eq_none (by rw [zde];exact h),List.getElem?_eq_none (by rw [zde];exact h)]
theorem zmK {r c i:Nat}{p:Rat}{S:List (List Rat)}(hi:i<S.length)(hne:i≠r):(zcz r c p S i).set i (zdc p (S.getD i []) (S.getD r []) c)=zcz r c p S (i+1):=by
 apply List.ext_getElem?
 intro j
 rcases Nat.lt_or_ge j S.length with h|h
 ·rw [zdd h]
  by_cases e:i=j
  ·subst e
   rw [List.getElem?_set_self (by rw [zde];exact h),if_neg (by omega)]
  ·rw [List.getElem?_set_ne e,zdd h]
   by_cases e1:j=r
   ·rw [if_pos (Or.inl e1),if_pos (Or.inl e1)]
   ·by_cases e2:i<=j
    ·rw [if_pos (Or.inr e2),if_pos (Or.inr (by omega))]
    ·rw [if_neg (by omega),if_neg (by omega)]
 ·rw [List.getElem?_eq_none (by rw [List.length_set,zde];exact h),List.getElem?_eq_none (by rw [zde];exact h)]
theorem zoD {r c n:Nat}{p:Rat}{S:List (List Rat)}(hn:S.length=n):zcz r c p S n=zhb r c p S:=by
 subst hn
 apply List.ext_getElem?
 intro j
 rcases Nat.lt_or_ge j S.length with h|h
 ·rw [zdd h]
  unfold zhb
  rw [List.getElem?_mapIdx,List.getElem?_eq_getElem h]
  show _=some (if j=r then _ else _)
  rw [show S.getD j []=S[j] by rw [List.getD_eq_getElem?_getD,List.getElem?_eq_getElem h];rfl]
  by_cases e:j=r
  ·rw [if_pos (Or.inl e),if_pos e]
  ·rw [if_neg (by omega),if_neg e]
 ·rw [List.getElem?_eq_none (by rw [zde];exact h),List.getElem?_eq_none (by unfold zhb;rw [List.length_mapIdx];exact h)]
theorem zjM {c:Nat}{st:ESt}:zhN c (st.S.drop st.ld.length)=if zbd c st<st.S.length - st.ld.length then((zbd c st:Nat):Int) else -1:=by
 unfold zhN zbd
 rw [List.length_drop]
theorem next_no {c:Nat}{st:ESt}(h:¬zbd c st<st.S.length - st.ld.length):zfn c st=st:=by unfold zfn;rw [if_neg h]
theorem next_yes {c:Nat}{st:ESt}(h:zbd c st<st.S.length - st.ld.length):zfn c st=⟨zhb st.ld.length c st.p (zfp c st),st.ld++[c],atM (zfp c st) st.ld.length c⟩:=by unfold zfn;rw [if_pos h]
theorem EOk.msz {n m c K:Nat}{a0:Nat->Nat->Rat}{S:List (List Rat)}{ld:List Nat}{p:Rat}(hd:zbh S n m)(hi:∃a,zii n a0 a/\zcJ n m c a (atM S) ld p)(hn:n<=64)(h0:∀i,i<n->∀j,j<m->LI K (a0 i j)):zaD (67+65*K) S:=λL hL x hx=>by
 obtain⟨a,hs,hi⟩:=hi
 obtain⟨i,hi',rfl⟩:=List.mem_iff_getElem.1 hL
 obtain⟨j,hj',rfl⟩:=List.mem_iff_getElem.1 hx
 have h1:=hd.rows
 have h2:=hd.cols _ hL
 have:=(hi.sz hn (hs.li h0) (i:=i) (j:=j) (by omega) (by omega)).szq (by omega)
 have e:atM S i j=S[i][j]:=by
  unfold atM
  rw [List.getD_eq_getElem?_getD (l:=S),List.getElem?_eq_getElem hi']
  show S[i].getD j 0=_
  rw [List.getD_eq_getElem?_getD,List.getElem?_eq_getElem hj'];rfl
 rw [e] at this
 exact this
theorem EOk.psz {n m c K:Nat}{a0:Nat->Nat->Rat}{S:List (List Rat)}{ld:List Nat}{p:Rat}(hi:∃a,zii n a0 a/\zcJ n m c a (atM S) ld p)(hn:n<=64)(h0:∀i,i<n->∀j,j<m->LI K (a0 i j)):SzQ (67+65*K) p/\p≠0:=by
 obtain⟨a,hs,hi⟩:=hi
 exact⟨(hi.lead_sz' hn (hs.li h0)).szq (by omega),hi.ne⟩
section
variable {P:Program}{ops:Array Oper}{Q:Exit->Act->World->Prop}{S:World->Prop}{fuel:Nat}{l:Array Bool}{a:Act}{w:World}
theorem rc3 (i j k:Nat){o p q:Oper}(hk:∀K':Act->World->Prop,Shut (∀(a:Act) (w:World),S w->(S w->wpAnyH P .any ops (NoPanic Q) S fuel (l.setIfInBounds i true) a w)->K' a w)->Oper.wp P o a w K' (NoPanic Q))(hj:∀K':Act->World->Prop,Shut (∀(a:Act) (w:World),S w->(S w->wpAnyH P .any ops (NoPanic Q) S fuel (l.setIfInBounds j true) a w)->K' a w)->Oper.wp P p a w K' (NoPanic Q))(hq:∀K':Act->World->Prop,Shut (∀(a:Act) (w:World),S w->(S w->wpAnyH P .any ops (NoPanic Q) S fuel (l.setIfInBounds k true) a w)->K' a w)->Oper.wp P q a w K' (NoPanic Q))(h1:ops[i]?=some o:=by simp only [List.getElem?_toArray,List.getElem?_cons_succ,List.getElem?_cons_zero];rfl)(h1':ops[j]?=some p:=by simp only [List.getElem?_toArray,List.getElem?_cons_succ,List.getElem?_cons_zero];rfl)(h1'':ops[k]?=some q:=by simp only [List.getElem?_toArray,List.getElem?_cons_succ,List.getElem?_cons_zero];rfl)(h2:Region.ready .any ops l=[i,j,k]:=by kernel_rfl)(h3:Region.wanted o (yielded ops a.tmps)=true:=by rfl)(h3':Region.wanted p (yielded ops a.tmps)=true:=by rfl)(h3'':Region.wanted q (yielded ops a.tmps)=true:=by rfl):wpAnyH P .any ops (NoPanic Q) S (fuel+1) l a w:=
 wpAnyH_ready h2 (by simp) (AllReadyH.cons h1 (λK' hK=>by rw [if_pos h3];exact hk K' hK) (AllReadyH.cons h1' (λK' hK=>by rw [if_pos h3'];exact hj K' hK) (AllReadyH.cons h1'' (λK' hK=>by rw [if_pos h3''];exact hq K' hK) AllReadyH.nil)))
end
section
variable {w:World}
theorem znc {A:oA9}{n c:Nat}{zs:List Int}{z:Int}(h:zdb w A n zs)(hn:n<=1048576):
  Calls Tryz.prog 156 #[.slice A n c,.int .i64 z] w (λeo w'=>∃k:Int,eo=.returned (.int .i64 k)/\decide (k>=0)=decide (z ∈ zs)/\Below w.heap.size w w'):=by
 have HI:=lh9 h
 have i0:(0:Int)<=(n:Int):=by omega
 have hB:=Below.refl w.heap.size w
 have HY:Hid (∀k,k<n->zs.getD k 0=z->decide (z ∈ zs)=true):=λk hk e=>decide_eq_true (by
  rw [<-e,List.getD_eq_getElem?_getD,List.getElem?_eq_getElem (by have:=h.len;omega)]
  exact List.getElem_mem _)
 have HN:Hid ((∀j,j<n->zs.getD j 0≠z)->decide (z ∈ zs)=false):=λh0=>decide_eq_false (λhm=>by
  obtain⟨j,hj,e⟩:=List.mem_iff_getElem.1 hm
  refine h0 j (by rw [<-h.len];exact hj) ?_
  rw [List.getD_eq_getElem?_getD,List.getElem?_eq_getElem hj];exact e)
 obtain⟨b,hb⟩:∃b,decide (z ∈ zs)=b:=⟨_,rfl⟩
 rw [hb] at HY HN⊢
 clear h hb
 go_enter Tryz.func156,Tryz.ntmps156
 go_wp2_with fail
 go_loopg [8] (n+1) (λg ix wr=>∃(k:Nat),k<=n/\n<g+k/\ix=.int .i64 k/\Hid (∀j,j<k->zs.getD j 0≠z)/\Below w.heap.size w wr)
 case atStart=>exact⟨0,Nat.zero_le _,by omega,rfl,λj hj=>(by cases hj),hB⟩
 case round=>
  clear hB
  obtain⟨k,hkn,hg,rfl,hz0,hB⟩:=hrel
  by_cases hlt:k<n
  ·have hd1:decide ((k:Int)<(n:Int))=true:=decide_eq_true (by omega)
   have i1:(0:Int)<=(k:Int):=by omega
   have i2:(k:Int)<(n:Int):=by omega
   obtain⟨ad,rfl,hc⟩:=HI.out.num k hlt
   have hc0:=zac hB hc
   have HSU:Hid (zs.getD k 0≠z->∀j,j<k+1->zs.getD j 0≠z):=λe j hj=>by
    rcases Nat.lt_or_ge j k with a|a
    ·exact hz0.out j a
    ·rw [show j=k by omega];exact e
   have HYK:=lh9 (HY.out k hlt)
   have HB:=lh9 hB
   obtain⟨x,hx⟩:∃x,zs.getD k 0=x:=⟨_,rfl⟩
   rw [hx] at hc0 HSU HYK
   clear hB hc hx
   by_cases hxz:x=z
   ·have d2:(z==x)=true:=by rw [hxz];simp
    have HE:=lh9 (HYK.out hxz)
    clear HSU HYK hxz
    go_wp2
    go_ret
    exact⟨(k:Int),rfl,by rw [HE.out];exact decide_eq_true (by omega),HB.out⟩
   ·have d2:(z==x)=false:=by rw [beq_eq_false_iff_ne];exact λe=>hxz e.symm
    have HS2:=lh9 (HSU.out hxz)
    clear HSU HYK hxz
    go_wp2
    go_roundg (n - k)
    case measure=>omega
    case rel=>exact⟨k+1,by omega,by omega,by go_num,HS2.out,HB.out⟩
  ·have hk9:k=n:=by omega
   subst hk9
   have hd1:decide ((k:Int)<(k:Int))=false:=by simp
   have HE:=lh9 (HN.out hz0.out)
   have HB:=lh9 hB
   clear hB
   go_wp2
   go_ret
   exact⟨-1,rfl,by rw [HE.out];rfl,HB.out⟩
theorem zdl {A:oA9}{n c:Nat}{zs:List Int}{z:Int}{b:Bool}(e:decide (z ∈ zs)=b)(h:zdb w A n zs)(hn:n<=1048576):
  Calls Tryz.prog 97 #[.slice A n c,.int .i64 z] w (λeo w'=>eo=.returned (.bool b)/\Below w.heap.size w w'):=by
 have H:=lh9 (znc (c:=c) (z:=z) h hn)
 rw [e] at H
 clear h e
 go_enter Tryz.func97,Tryz.ntmps97
 go_wp2_with fail
 refine H.out.mono ?_
 rintro eo w1 ⟨k,rfl,hk,hb⟩
 have hk2:decide (0<=k)=b:=hk
 have HB:=lh9 hb
 clear hb
 go_wp2
 go_ret
 exact⟨rfl,HB.out⟩
end
section
variable {A:oA9}{n c m K:Nat}{MM:List (List Rat)}{w:World}
theorem ziH {V:oA9}{k cv:Nat}(h:k≠n):Calls Tryz.prog 49 #[.agg #[.slice A n c,.int .i64 (m:Int)],.slice V k cv] w (zjz w):=by
 obtain⟨bx,by0,by1,by2,bz⟩:=zbA w 32 71 32 #[.slice A n c,.int .i64 (m:Int)] #[.slice V k cv] #[.slice none 0 0,.int .i64 0]
 have HK0:=lh9 by0
 have HK1:=lh9 by1
 have HK2:=lh9 by2
 have HB:=lh9 bx
 have HR:=λW=>lh9 (zcC A n c (m:Int) W)
 have e0:((k:Int) !=(n:Int))=true:=by rw [bne_iff_ne];omega
 clear bx bz by0 by1 by2 h
 obtain⟨p0_0,p0_1⟩:=HK0.out.c2
 have p1_0:=HK1.out.c1
 go_enter Tryz.func49,Tryz.ntmps49
 go_wp2_with fail
 generalize ((w.alloc (.cells #[.slice A n c,.int .i64 (m:Int)] 32)).alloc (.cells #[.slice V k cv] 71)).alloc (.cells #[.slice none 0 0,.int .i64 0] 32)=W1 at*
 refine rg (csc p0_0 (csc p0_1 (csc p1_0 csn))) (λhHeld=>?_)
 clear p0_0 p0_1 p1_0
 have hbd:=(Below.refl W1.heap.size W1).drew
 have HB:=lh9 (zaa HB.out hbd)
 have HK0:=lh9 (zab hbd HK0.out)
 have HK1:=lh9 (zab hbd HK1.out)
 have HK2:=lh9 (zab hbd HK2.out)
 clear hbd
 generalize W1.drew=D at*
 refine tk 0 ?_
 refine tk 1 ?_
 refine tk 2 ?_
 refine rc 3 (λKK hK9=>?_)
 go_simp
 refine((HR _).out).mono ?_
 rintro e w2 ⟨rfl,hb⟩
 refine hK9.out _ _ (Cs.below hHeld hb) (λhHeld=>?_)
 clear hK9 KK
 have HB:=lh9 (zaa HB.out hb)
 have HK0:=lh9 (zab hb HK0.out)
 have HK1:=lh9 (zab hb HK1.out)
 have HK2:=lh9 (zab hb HK2.out)
 clear hb
 refine tk 4 ?_
 refine tk 5 ?_
 refine tu 6 ?_
 refine tu 7 ?_
 refine tu 8 ?_
 refine tu 9 ?_
 refine tu 10 ?_
 refine tu 11 ?_
 refine tu 12 ?_
 refine tk 13 ?_
 refine rdn ?_
 clear hHeld
 obtain⟨sc0,sf0,sc1,sf1⟩:=st2 HK2.out (.slice none 0 0)
 obtain⟨r0,r1⟩:=(sn2 HK2.out (.slice none 0 0) (.int .i64 0)).c2
 have HG:=lh9 (gmn2 (g:=w.heap.size+1+1) HB.out (by omega))
 clear HB HK0 HK1 HK2
 go_wp2
 refine bodyPost_ret (v:=.tuple #[.agg #[.slice none 0 0,.int .i64 0],.bool false]) (by simp [results,Tryz.results49,go_sem,r0,r1]) rfl ?_
 exact HG.out
theorem zhz {V:oA9}{cv p:Nat}{xs:List Rat}(hp:m+1=p)(hT:zaj w)(h:zaW w A n c m MM)(z:zaD K MM)(hv:zaC w V n cv xs)(zx:zaq K xs)(hm9:m<64)(hK:K+2<=67108864:=by omega):
  Calls Tryz.prog 49 #[.agg #[.slice A n c,.int .i64 (m:Int)],.slice V n cv] w (zem w n p (zew n p λa b=>if b=m then xs.getD a 0 else atM MM a b)):=by
 obtain⟨hn,hm⟩:=And.intro h.hn h.hm
 obtain⟨bx,by0,by1,by2,bz⟩:=zbA w 32 71 32 #[.slice A n c,.int .i64 (m:Int)] #[.slice V n cv] #[.slice none 0 0,.int .i64 0]
 have HK0:=lh9 by0
 have HK1:=lh9 by1
 have HK2:=lh9 by2
 have HB:=lh9 bx
 have HR:=λW=>lh9 (zcC A n c (m:Int) W)
 have HMY:∀(W:World) (z9:Int),z9=(p:Int)->Hid (Calls Tryz.prog 113 #[.int .i64 (n:Int),.int .i64 z9] W (λe w'=>e=.returned (.bool true)/\W=w')):=λW z9 hz9=>by subst hz9;exact may_of (zlS hn (show p<=64 by omega)) W
 have e0:((n:Int) !=(n:Int))=false:=by simp
 have hlv:=hv.len
 have HM:∀W,Below w.heap.size w W->Blk W (w.heap.size) 32 #[.slice A n c,.int .i64 (m:Int)]->Blk W (w.heap.size+1) 71 #[.slice V n cv]->∀z9:Int,z9=((p:Nat):Int)->Hid (Calls Tryz.prog 71 #[.int .i64 ((n:Nat):Int),.int .i64 z9,.func (.func 114) #[] #[.pointer (some ⟨w.heap.size,0,none⟩),.pointer (some ⟨w.heap.size+1,0,none⟩)]] W (zcS W (n) (p) (zew n p λa b=>if b=m then xs.getD a 0 else atM MM a b))):=λW hW k0 k1 z9 hz9=>by
  subst hz9
  have hh:=h.keep hW
  exact zlR (K:=K) (λa b=>if b=m then xs.getD a 0 else atM MM a b) 114 #[.pointer (some ⟨w.heap.size,0,none⟩),.pointer (some ⟨w.heap.size+1,0,none⟩)] n p W (hT.on hW) ⟨zlB,λa b ha hb9 w' hb=>zmH (hh.keep hb) (zab hb k0) (zab hb k1) ((hv.keep hW).keep hb) ha (by omega)⟩ (λa b ha hb9=>by split;exact zx.at_ (by omega);exact z.at_ h.dims ha (by omega)) hn (by omega) hK
 have HP:=lh9 hp
 clear bx bz by0 by1 by2 hT h z hv zx hlv hp
 obtain⟨p0_0,p0_1⟩:=HK0.out.c2
 have p1_0:=HK1.out.c1
 go_enter Tryz.func49,Tryz.ntmps49
 go_wp2_with fail
 generalize ((w.alloc (.cells #[.slice A n c,.int .i64 (m:Int)] 32)).alloc (.cells #[.slice V n cv] 71)).alloc (.cells #[.slice none 0 0,.int .i64 0] 32)=W1 at*
 refine rg (csc p0_0 (csc p0_1 (csc p1_0 csn))) (λhHeld=>?_)
 clear p0_0 p0_1 p1_0
 have hbd:=(Below.refl W1.heap.size W1).drew
 have HB:=lh9 (zaa HB.out hbd)
 have HK0:=lh9 (zab hbd HK0.out)
 have HK1:=lh9 (zab hbd HK1.out)
 have HK2:=lh9 (zab hbd HK2.out)
 clear hbd
 generalize W1.drew=D at*
 refine tk 0 ?_
 refine tk 1 ?_
 refine tk 2 ?_
 refine rc 3 (λKK hK9=>?_)
 go_simp
 refine((HR _).out).mono ?_
 rintro e w2 ⟨rfl,hb⟩
 refine hK9.out _ _ (Cs.below hHeld hb) (λhHeld=>?_)
 clear hK9 KK
 have HB:=lh9 (zaa HB.out hb)
 have HK0:=lh9 (zab hb HK0.out)
 have HK1:=lh9 (zab hb HK1.out)
 have HK2:=lh9 (zab hb HK2.out)
 clear hb
 refine tk 4 ?_
 refine tk 5 ?_
 refine tk 6 ?_
 refine tk 8 ?_
 refine tk 9 ?_
 refine tk 10 ?_
 refine rc 7 (λKK hK9=>?_)
 go_simp
 refine((HR _).out).mono ?_
 rintro e w2 ⟨rfl,hb⟩
 refine hK9.out _ _ (Cs.below hHeld hb) (λhHeld=>?_)
 clear hK9 KK
 have HB:=lh9 (zaa HB.out hb)
 have HK0:=lh9 (zab hb HK0.out)
 have HK1:=lh9 (zab hb HK1.out)
 have HK2:=lh9 (zab hb HK2.out)
 clear hb
 refine rc 11 (λKK hK9=>?_)
 go_simp
 refine((HMY _ _ (by have h0:=HP.out;first|omega|(have e:IntKind.i64.wrap ((m:Int)+1)=(m:Int)+1:=IntWalk.i64_in _ (by omega);omega))).out).mono ?_
 rintro e w2 ⟨rfl,rfl⟩
 refine hK9.out _ _ hHeld (λhHeld=>?_)
 clear hK9 KK
 refine tk 12 ?_
 refine tk 13 ?_
 refine rdn ?_
 clear hHeld
 obtain⟨p0_0,p0_1⟩:=HK0.out.c2
 have p1_0:=HK1.out.c1
 go_wp2_with fail
 refine rg (csc p0_0 (csc p0_1 csn)) (λhHeld=>?_)
 clear p0_0 p0_1 p1_0
 have hbd:=(Below.refl w2.heap.size w2).drew
 have HB:=lh9 (zaa HB.out hbd)
 have HK0:=lh9 (zab hbd HK0.out)
 have HK1:=lh9 (zab hbd HK1.out)
 have HK2:=lh9 (zab hbd HK2.out)
 clear hbd
 generalize w2.drew=D at*
 refine tk 0 ?_
 refine tk 2 ?_
 refine tk 3 ?_
 refine tk 4 ?_
 refine tk 5 ?_
 refine rc 1 (λKK hK9=>?_)
 go_simp
 refine((HR _).out).mono ?_
 rintro e w2 ⟨rfl,hb⟩
 refine hK9.out _ _ (Cs.below hHeld hb) (λhHeld=>?_)
 clear hK9 KK
 have HB:=lh9 (zaa HB.out hb)
 have HK0:=lh9 (zab hb HK0.out)
 have HK1:=lh9 (zab hb HK1.out)
 have HK2:=lh9 (zab hb HK2.out)
 clear hb
 refine rc 6 (λKK hK9=>?_)
 go_simp
 refine(HM _ HB.out HK0.out HK1.out _ (by have h0:=HP.out;first|omega|(have e:IntKind.i64.wrap ((m:Int)+1)=(m:Int)+1:=IntWalk.i64_in _ (by omega);omega))).out.mono ?_
 rintro e w3 ⟨A3,c3,rfl,hm3,hf3,hb⟩
 refine hK9.out _ _ (Cs.below hHeld hb) (λhHeld=>?_)
 clear hK9 KK
 have hk3:=zab hb HK2.out
 obtain⟨sc0,sf0,sc1,sf1⟩:=st2 hk3 (.slice A3 (n) c3)
 obtain⟨r0,r1⟩:=(sn2 hk3 (.slice A3 (n) c3) (.int .i64 ((p:Nat):Int))).c2
 have HG:=lh9 (gmb2 hm3 (λad e=>Nat.lt_of_lt_of_le HK2.out.lt (hf3 ad e)) hk3 (zaa HB.out hb) (by omega))
 clear hb hk3 hm3 hf3 HB HM HK0 HK1 HK2
 refine rc 7 (λKK hK9=>?_)
 go_simp
 refine hK9.out _ _ ?_ (λhHeld=>?_)
 ·refine Cs.far hHeld (ziM _ _ _ _) ⟨?_,?_,trivial⟩<;>(show w.heap.size≠w.heap.size+1+1;omega)
 clear hK9 KK
 refine tk 8 ?_
 refine rdn ?_
 clear hHeld sc0 sf0 sc1 sf1
 go_wp2
 refine bodyPost_ret (v:=.tuple #[.agg #[.slice A3 (n) c3,.int .i64 ((p:Nat):Int)],.bool true]) (by simp [results,Tryz.results49,go_sem,r0,r1]) rfl ?_
 exact HG.out
end
