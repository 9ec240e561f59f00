/- What this claim leans on. -/
import Derived.Test.YtlgnacmgepnamaaGreatDoorKMArgs
import Derived.Test.YtlgnacmgepnamaaGreatDoorKW8Like
namespace Go.Proofs.YtlgnacmgepnamaaGreatDoor
open Go Go.RowKit
set_option maxHeartbeats 16000000
set_option maxRecDepth 100000
set_option linter.unusedVariables false
set_option linter.unusedSimpArgs false
theorem zer.below {w w':World}{A:oA9}{n:Nat}{zs:List Int}(h:zer w A n zs)(hb:Below w.heap.size w w'):zer w' A n zs:=⟨h.len,h.ints,λi hi=>by
 obtain⟨ad,e,hc⟩:=h.num i hi
 exact⟨ad,e,zad hb hc⟩⟩
def zit (n:Nat)(zs:List Int)(M:List (List Rat)):List (List Rat):=zcn n zs.length λa b=>atM M a (zs.getD b 0).toNat
theorem zoj {zs:List Int}{m b:Nat}(h:zim zs m=false)(hb:b<zs.length):∃k:Nat,zs.getD b 0=(k:Int)/\k<m:=by
 unfold zim at h
 have:=List.any_eq_false.1 h (zs.getD b 0) (List.mem_of_getElem? (zdh hb))
 simp at this
 exact zod this
section
variable {A:oA9}{n c m K:Nat}{MM:List (List Rat)}{w:World}{Q:oA9}{q qc:Nat}{zs:List Int}
theorem mat_pick (hT:zal w)(h:zaI w A n c m MM)(z:zaD K MM)(hz:zer w Q q zs)(hq:q<=64)(hs:zim zs m=false)(hK:K+2<=67108864:=by omega):
  Calls Tryz.prog 47 #[.agg #[.slice A n c,.int .i64 (m:Int)],.slice Q q qc] w (zcW w n q (zit n zs MM)):=by
 obtain⟨hn,hm⟩:=And.intro h.hn h.hm
 have hl:=hz.len
 obtain⟨bx,by0,by1,by2,bz⟩:=zbq w 28 63 28 #[.slice A n c,.int .i64 (m:Int)] #[.slice Q q qc] #[.slice none 0 0,.int .i64 0]
 have HK0:=lh9 by0
 have HK1:=lh9 by1
 have HK2:=lh9 by2
 have HB:=lh9 bx
 have hmf:=znb
 have HR:=λW=>lh9 (zcM A n c (m:Int) W)
 have HMY:=λW=>lh9 (zeW (zgr hn hq) W)
 have HCF:Hid (∀W,Below w.heap.size w W->Blk W w.heap.size 28 #[.slice A n c,.int .i64 (m:Int)]->Calls Tryz.prog 88 #[.slice Q q qc,.func (.func 87) #[] #[.pointer (some ⟨w.heap.size,0,none⟩)]] W (λe w'=>e=.returned (.bool false)/\Below W.heap.size W w')):=λW hb hk=>by
  have:=zgJ (q:=qc) (hz.below hb) hk (by omega)
  rw [hs] at this
  exact this
 have HM:∀W,Below w.heap.size w W->Blk W w.heap.size 28 #[.slice A n c,.int .i64 (m:Int)]->Blk W (w.heap.size+1) 63 #[.slice Q q qc]->∀z9:Int,z9=(q:Int)->Hid (Calls Tryz.prog 52 #[.int .i64 (n:Int),.int .i64 z9,.func (.func 89) #[] #[.pointer (some ⟨w.heap.size,0,none⟩),.pointer (some ⟨w.heap.size+1,0,none⟩)]] W (zbP W n q (zit n zs MM))):=λW hW k0 k1 z9 hz9=>by
  subst hz9
  have hh:=h.keep hW
  have hz2:=hz.below hW
  have q9:=zeV (K:=K) (λa b=>atM MM a (zs.getD b 0).toNat) 89 #[.pointer (some ⟨w.heap.size,0,none⟩),.pointer (some ⟨w.heap.size+1,0,none⟩)] n q W (hT.on hW) ⟨en_pick2,λa b ha hb9 w' hb=>by
   obtain⟨k,hk1,hk2⟩:=zoj hs (show b<zs.length by omega)
   obtain⟨ap,e,hc⟩:=(hz2.below hb).num b hb9
   subst e
   rw [hk1] at hc
   dsimp only
   rw [hk1,Int.toNat_natCast]
   exact cl_pick (hh.keep hb) (zae hb k0) (zae hb k1) hc ha hb9 hk2⟩ (λa b ha hb9=>by
   obtain⟨k,hk1,hk2⟩:=zoj hs (show b<zs.length by omega)
   rw [hk1,Int.toNat_natCast]
   exact z.at_ h.dims ha hk2) hn hq hK
  unfold zit
  rw [hl]
  exact q9
 clear bx bz by0 by1 by2 hT h z hz hs hl
 obtain⟨p0_0,p0_1⟩:=HK0.out.c2
 have p1_0:=HK1.out.c1
 go_enter Tryz.func47,Tryz.ntmps47
 go_wp2_with fail
 generalize ((w.alloc (.cells #[.slice A n c,.int .i64 (m:Int)] 28)).alloc (.cells #[.slice Q q qc] 63)).alloc (.cells #[.slice none 0 0,.int .i64 0] 28)=W1 at*
 refine rg (csc p0_0 (csc p0_1 (csc p1_0 csn))) (λhHeld=>?_)
 clear p0_0 p0_1 p1_0
 have hbd:=(Below.refl W1.heap.size W1).drew
 have HB:=lh9 (zac HB.out hbd)
 have HK0:=lh9 (zae hbd HK0.out)
 have HK1:=lh9 (zae hbd HK1.out)
 have HK2:=lh9 (zae hbd HK2.out)
 clear hbd
 generalize W1.drew=D at*
 refine tk 0 ?_
 refine tk 2 ?_
 refine tk 3 ?_
 refine rc 1 (λKK hK9=>?_)
 go_simp
 refine((HR _).out).mono ?_
 rintro e w2 ⟨rfl,hb⟩
 refine hK9.out _ _ (Cs.below hHeld hb) (λhHeld=>?_)
 clear hK9 KK
 have HB:=lh9 (zac HB.out hb)
 have HK0:=lh9 (zae hb HK0.out)
 have HK1:=lh9 (zae hb HK1.out)
 have HK2:=lh9 (zae hb HK2.out)
 clear hb
 refine rc 4 (λKK hK9=>?_)
 go_simp
 refine((HMY _).out).mono ?_
 rintro e w2 ⟨rfl,rfl⟩
 refine hK9.out _ _ hHeld (λhHeld=>?_)
 clear hK9 KK
 refine tk 5 ?_
 refine tk 6 ?_
 refine tk 7 ?_
 refine tk 8 ?_
 refine rc 9 (λKK hK9=>?_)
 go_simp
 refine(HCF.out _ HB.out HK0.out).mono ?_
 rintro e w2 ⟨rfl,hb⟩
 refine hK9.out _ _ (Cs.below hHeld hb) (λhHeld=>?_)
 clear hK9 KK
 have HB:=lh9 (zac HB.out hb)
 have HK0:=lh9 (zae hb HK0.out)
 have HK1:=lh9 (zae hb HK1.out)
 have HK2:=lh9 (zae hb HK2.out)
 clear hb
 refine tk 10 ?_
 refine rdn ?_
 clear hHeld
 obtain⟨p0_0,p0_1⟩:=HK0.out.c2
 have p1_0:=HK1.out.c1
 go_wp2_with fail
 refine rg (csc p0_0 (csc p0_1 (csc p1_0 csn))) (λhHeld=>?_)
 clear p0_0 p0_1 p1_0
 have hbd:=(Below.refl w2.heap.size w2).drew
 have HB:=lh9 (zac HB.out hbd)
 have HK0:=lh9 (zae hbd HK0.out)
 have HK1:=lh9 (zae hbd HK1.out)
 have HK2:=lh9 (zae hbd HK2.out)
 clear hbd
 generalize w2.drew=D at*
 refine tk 0 ?_
 refine tk 2 ?_
 refine tk 3 ?_
 refine tk 4 ?_
 refine rc 1 (λKK hK9=>?_)
 go_simp
 refine((HR _).out).mono ?_
 rintro e w2 ⟨rfl,hb⟩
 refine hK9.out _ _ (Cs.below hHeld hb) (λhHeld=>?_)
 clear hK9 KK
 have HB:=lh9 (zac HB.out hb)
 have HK0:=lh9 (zae hb HK0.out)
 have HK1:=lh9 (zae hb HK1.out)
 have HK2:=lh9 (zae hb HK2.out)
 clear hb
 refine rc 5 (λKK hK9=>?_)
 go_simp
 refine(HM _ HB.out HK0.out HK1.out _ (by rfl)).out.mono ?_
 rintro e w3 ⟨A3,c3,rfl,hm3,hf3,hb⟩
 refine hK9.out _ _ (Cs.below hHeld hb) (λhHeld=>?_)
 clear hK9 KK
 have hk3:=zae hb HK2.out
 obtain⟨sc0,sf0,sc1,sf1⟩:=st2 hk3 (.slice A3 (n) c3)
 obtain⟨r0,r1⟩:=(sn2 hk3 (.slice A3 (n) c3) (.int .i64 ((q:Nat):Int))).c2
 have HG:=lh9 (gmb2 hm3 (λad e=>Nat.lt_of_lt_of_le HK2.out.lt (hf3 ad e)) hk3 (zac HB.out hb) (by omega))
 clear hb hk3 hm3 hf3 HB HM HK0 HK1 HK2
 refine rc 6 (λKK hK9=>?_)
 go_simp
 refine hK9.out _ _ ?_ (λhHeld=>?_)
 ·refine Cs.far hHeld (zez _ _ _ _) ⟨by show w.heap.size≠w.heap.size+1+1;omega,by show w.heap.size≠w.heap.size+1+1;omega,by show w.heap.size+1≠w.heap.size+1+1;omega,trivial⟩
 clear hK9 KK
 refine tk 7 ?_
 refine rdn ?_
 clear hHeld sc0 sf0 sc1 sf1
 go_wp2
 refine bodyPost_ret (v:=.tuple #[.agg #[.slice A3 (n) c3,.int .i64 ((q:Nat):Int)],.bool true]) (by simp [results,Tryz.results47,go_sem,r0,r1]) rfl ?_
 exact HG.out
end
section
variable {K K' L:Nat}{xs ys:List Rat}{A B:oA9}{n n' c d:Nat}{w:World}
theorem zdH (hT:zal w)(ha:zaK w A n c xs)(hb:zcK w B n d xs)(hx:zaE K xs)(hn:n<=1073741824:=by omega)(hK:K<=16777216:=by omega):
  Calls Tryz.prog 22 #[.slice A n c,.slice B n d] w (λe w'=>e=.returned (.bool true)/\Below w.heap.size w w'):=by
 have hla:=ha.len
 have HSX:Hid (∀i,i<n->SzQ K (xs.getD i 0)):=λi hi=>hx.at_ (by omega)
 have HA:=lh9 ha
 have HB9:=lh9 hb
 have HT:=lh9 (λw' (hb:Below w.heap.size w w')=>hT.on hb)
 clear hT ha hb hx hla
 have hB:=Below.refl w.heap.size w
 have hd0:((n:Int) !=(n:Int))=false:=by simp
 have i0:(0:Int)<=(n:Int):=by omega
 go_enter Tryz.func22,Tryz.ntmps22
 go_wp2_with fail
 go_loopg [5] (n+1) (λg ix wr=>∃(k:Nat),k<=n/\n<g+k/\ix=.int .i64 k/\Below w.heap.size w wr)
 case atStart=>exact⟨0,Nat.zero_le _,by omega,rfl,hB⟩
 case round=>
  clear hB
  obtain⟨k,hkn,hg,rfl,hB⟩:=hrel
  by_cases hlt:k<n
  ·obtain⟨ad,b1,B1,m1,d1,E1,u1,v1,rfl,-,hc0,hc1,hc2,hx⟩:=HA.out.get hB hlt
   obtain⟨ae,b2,B2,m2,d2,E2,u2,v2,rfl,-,he0,he1,he2,hy⟩:=HB9.out.get hB hlt
   have hd1:decide ((k:Int)<(n:Int))=true:=decide_eq_true (by omega)
   have i1:(0:Int)<=(k:Int):=by omega
   have i2:(k:Int)<(n:Int):=by omega
   have HX:=lh9 hx
   have HY:=lh9 hy
   have HB1:=lh9 hB
   clear hx hy hB
   go_wp2_with fail
   have hBw:=(Below.refl wr.heap.size wr).drew
   refine rg (csc hc0 (csc hc1 (csc hc2 (csc he0 (csc he1 (csc he2 csn)))))) (λhHeld=>?_)
   refine tk 0 ?_
   refine tk 1 ?_
   refine tk 2 ?_
   refine tk 3 ?_
   refine tk 4 ?_
   refine tk 5 ?_
   refine tk 6 ?_
   refine tk 7 ?_
   refine rc 8 (λKK hK9=>?_)
   go_simp
   (with_reducible refine(zjr (λ_ _ h hb=>h.on hb) zbJ qc10 _ K b1 B1 m1 d1 E1 u1 v1 b2 B2 m2 d2 E2 u2 v2 _ hK (HSX.out k hlt) (HX.out.below hBw) (HY.out.below hBw) (HT.out _ (zac HB1.out hBw))).mono ?_);rintro e wa ⟨rfl,hb⟩;have hBw:=zac hBw hb;refine hK9.out _ _ (Cs.below hHeld hb) (λhHeld=>?_);clear hK9 KK hb
   refine tk 9 ?_
   refine rdn ?_
   have HB2:=lh9 (zac HB1.out hBw)
   clear hHeld hBw hc0 hc1 hc2 he0 he1 he2 HX HY HB1
   go_wp2
   go_roundg (n - k)
   case measure=>omega
   case rel=>exact⟨k+1,by omega,by omega,by go_num,HB2.out⟩
  ·have hd1:decide ((k:Int)<(n:Int))=false:=decide_eq_false (by omega)
   have HB2:=lh9 hB
   clear hB
   go_wp2
   go_ret
   exact⟨rfl,HB2.out⟩
end
def zeK (w:World)(n m:Nat)(M:List (List Rat))(e:Ending)(w':World):Prop:=∃(A:oA9) (c:Nat),e=.returned (.tuple #[.agg #[.slice A n c,.int .i64 (m:Int)],.bool true])/\zcJ w' A n c m M/\Below w.heap.size w w'
def zhE (w:World)(e:Ending)(w':World):Prop:=e=.returned (.tuple #[.agg #[.slice none 0 0,.int .i64 0],.bool false])/\Below w.heap.size w w'
theorem grmb2 {w W:World}{A:oA9}{n c m g:Nat}{M:List (List Rat)}(h:zcJ W A n c m M)(k:Blk W g 32 #[.slice none 0 0,.int .i64 0])(hB:Below w.heap.size w W)(hg:w.heap.size<=g):
  zeK w n m M (.returned (.tuple #[.agg #[.slice A n c,.int .i64 (m:Int)],.bool true])) ((W.setCell ⟨g,0,none⟩ (.slice A n c)).setCell ⟨g,1,none⟩ (.int .i64 (m:Int))):=
 ⟨A,c,rfl,h.offz k _ _,bl2 _ _ hg hB⟩
theorem refm_new {n m:Nat}{w:World}(hn0:n<=64)(hm0:m<=64):
  Calls Tryz.prog 13 #[.int .i64 (n:Int),.int .i64 (m:Int)] w (zeK w n m (zcn n m λ_ _=>0)):=by
 obtain⟨i9,hi9,hz9,hz10,hz11⟩:=info_parts zlm
 obtain⟨i1',hi1,hz20,hz21,hz22⟩:=info_parts zkh
 have HD:=lh9 (zde n m λ_ _=>(0:Rat))
 obtain⟨Lk,hLk⟩:∃L:List Rat,(List.range m).map (λ_=>(0:Rat))=L:=⟨_,rfl⟩
 have HS:Hid (∀k,k<n->(zcn n m λ_ _=>(0:Rat)).take (k+1)=(zcn n m λ_ _=>(0:Rat)).take k++[Lk]):=λk hk=>zfx (by
  rw [<-hLk]
  unfold zcn
  rw [List.getElem?_map,List.getElem?_range hk];rfl)
 have HXS:Hid (∀j,j<m->Lk.take (j+1)=Lk.take j++[((0:Int):Rat)]):=λj hj=>zfx (by
  rw [<-hLk,List.getElem?_map,List.getElem?_range hj];rfl)
 have HXL:Hid (Lk.length=m):=by show _=_;rw [<-hLk];simp
 clear hLk
 obtain⟨T,hT⟩:∃T,(zcn n m λ_ _=>(0:Rat))=T:=⟨_,rfl⟩
 rw [hT] at HD HS⊢
 have HL:Hid (T.length=n):=HD.out.rows
 have a1:decide ((n:Int)<0)=false:=decide_eq_false (by omega)
 have a2:decide ((64:Int)<(n:Int))=false:=decide_eq_false (by omega)
 have a3:decide ((m:Int)<0)=false:=decide_eq_false (by omega)
 have a4:decide ((64:Int)<(m:Int))=false:=decide_eq_false (by omega)
 have a2':decide (64<n)=false:=decide_eq_false (by omega)
 have a4':decide (64<m)=false:=decide_eq_false (by omega)
 obtain⟨bx1,bx2,bz⟩:=zaA w 32 #[.slice none 0 0,.int .i64 0]
 have HB0:=lh9 bx1
 have HKR:=lh9 bx2
 unfold zeK
 clear hT bx1 bx2
 go_enter Tryz.func13,Tryz.ntmps13
 go_upto_region 1 with fail
 generalize w.alloc (.cells #[.slice none 0 0,.int .i64 0] 32)=W2 at*
 go_wp2_with fail
 obtain⟨cx1,cx2,-⟩:=zaA W2 32 #[.slice none 0 0,.int .i64 (m:Int)]
 generalize W2.alloc (.cells #[.slice none 0 0,.int .i64 (m:Int)] 32)=W3 at*
 have hB:=cx1
 have hP:=cx2
 obtain⟨gp,hgpe⟩:∃g,W2.heap.size=g:=⟨_,rfl⟩
 have hgp:W2.heap.size<=gp:=by omega
 obtain⟨mm,hmm⟩:∃z:Int,(m:Int)=z:=⟨_,rfl⟩
 rw [hgpe] at hP
 first
  |rw [hgpe]
  |skip
 rw [hmm] at hP
 have HMM:=lh9 hmm
 have hlt0:w.heap.size<gp:=by omega
 clear cx1 cx2 hgpe hmm a1 a2 a3 a4 a2' a4'
 go_loopg [7] (n+1) (λg ix wr=>∃(k:Nat) (v:Value) (vs:List Value),k<=n/\n<g+k/\ix=.int .i64 k/\zbc (zaB zca) wr (gp+1) 55 v (T.take k) vs/\Blk wr gp 32 #[v,.int .i64 mm]/\Below W2.heap.size W2 wr)
 case atStart=>exact⟨0,_,_,Nat.zero_le _,by omega,rfl,zbc.nil _ _ _,hP,hB⟩
 case round=>
  clear hB hP
  obtain⟨k,v,vs,hkn,hg,rfl,hon,hP,hB⟩:=hrel
  have hlq:(T.take k).length=k:=by rw [List.length_take,HL.out];omega
  by_cases hlt:k<n
  ·obtain⟨Av,cv,rfl,-⟩:=hon.shape hlq
   have hd1:decide ((k:Int)<(n:Int))=true:=decide_eq_true (by omega)
   have hd1':decide (k<n)=true:=decide_eq_true hlt
   have HSK:=lh9 (HS.out k hlt)
   have HRL:=lh9 hlq
   have HON:=lh9 hon
   have HP:=lh9 hP
   have HBO:=lh9 hB
   clear hon hP hB hlq
   go_upto_region 9 with fail
   have hB:=Below.refl wr.heap.size wr
   obtain⟨wo,hwo⟩:∃wo,wo=wr:=⟨_,rfl⟩
   subst hwo
   go_loopg [8,9] (m+1) (λg sl jx wr=>∃(j:Nat) (x:Value) (xs:List Value),j<=m/\m<g+j/\jx=.int .i64 j/\x=sl/\zcT zca wr wo.heap.size 94 x (Lk.take j) xs/\Below wo.heap.size wo wr)
   case atStart=>exact⟨0,_,_,Nat.zero_le _,by omega,rfl,rfl,zcT.nil _ _ _,hB⟩
   case round=>
    clear hB
    obtain⟨j,x,xs,hjm,hg2,rfl,rfl,hox,hB⟩:=hrel
    have hB2:=zac HBO.out hB
    have hlj:(Lk.take j).length=j:=by rw [List.length_take,HXL.out];omega
    by_cases hjl:j<m
    ·have he1:decide ((j:Int)<(m:Int))=true:=decide_eq_true (by omega)
     have he1':decide (j<m)=true:=decide_eq_true hjl
     have HSJ:=lh9 (HXS.out j hjl)
     have HLJ:=lh9 hlj
     have HOX:=lh9 hox
     have HB:=lh9 hB
     clear hox hB hB2 hlj
     go_wp2_with fail
     (with_reducible refine(zfu isInt_0).mono ?_)
     rintro e w5 ⟨b1,B1,m1,d1,E1,u1,v1,rfl,hq,hb⟩
     obtain⟨t1,t2,-⟩:=zaA w5 94 #[.bool b1,.slice B1 m1 d1,.slice E1 u1 v1]
     have hup:=zac hb t1
     have hox1:=HOX.out.below zau hup
     have HX:=lh9 (zca.below hq t1)
     have HB:=lh9 (zac HB.out hup)
     have HCELL:=lh9 (zfR t2)
     have HONE:=lh9 (zig b1 B1 E1 m1 d1 u1 v1)
     have HNN:=lh9 (zif b1 B1 E1 m1 d1 u1 v1)
     have HZN:=lh9 zgW
     have HBS:=lh9 HB.out.size
     have hown:=hox1.own
     rw [HLJ.out] at hown
     have HOWN:=lh9 hown
     have HNOU:=lh9 hox1.nou
     have HOB:=lh9 (λr (h:x.ownBlock=some r)=>hox1.own.lt r h)
     have HOX:=lh9 hox1
     clear hb hup hq hox1 t1 t2 hown
     go_wp2_with (at_builtin;go_loud (refine zcR _ rfl (.tmp 37) (.tmp 39) 55 rfl wo.heap.size 94 i1' (.agg #[.bool false,.slice none 0 0,.slice none 0 0]) 3 56 Tryz.underlying55 hi1 hz20 hz21 hz22 rfl (by decide) x j xs rfl HOWN.out ⟨w5.heap.size,0,none⟩ 1 1 [.bool b1,.slice B1 m1 d1,.slice E1 u1 v1] rfl rfl HCELL.out HONE.out (by unfold maxLen;omega) (by omega) HBS.out HNOU.out HZN.out HNN.out ?_;intro v' w8 hown' hgrow hat hnou';have HOX8:=lh9 (zcT.grow (n:=j+1) zau HOX.out HX.out hown' (by rw [HLJ.out]) hgrow hnou');have HB8:=lh9 (HB.out.grown hgrow HBS.out (λr hr=>(HOB.out r hr).1));clear hown' hgrow hat hnou'))
     rw [<-HSJ.out] at HOX8
     go_roundg (m - j)
     case measure=>omega
     case rel=>exact⟨j+1,_,_,by omega,by omega,by go_num,rfl,HOX8.out,HB8.out⟩
    ·have hj:j=m:=by omega
     subst hj
     have he1:decide ((j:Int)<(j:Int))=false:=by simp
     have he1':decide (j<j)=false:=by simp
     rw [List.take_of_length_le (by rw [HXL.out];exact Nat.le_refl _)] at hox
     obtain⟨Ax,cx,rfl,hrx,-⟩:=hox.shape
     rw [HXL.out] at hrx⊢
     obtain⟨t1,t2,-⟩:=zaA wr 55 #[.slice Ax j cx]
     have HP0:=HP.out
     have HON:=lh9 (HON.out.below (zay zau) (zac hB t1))
     have HP:=lh9 (zae (zac hB t1) HP.out)
     have HB:=lh9 (zac hB2 t1)
     have HR:=lh9 (zaB.below zau hrx t1)
     have HBZ:=lh9 HB.out.size
     obtain⟨q0,q1⟩:=(zae hB (HP0:Blk wo gp 32 #[.slice Av k cv,.int .i64 mm])).c2
     clear t1 t2 hox hrx hB hB2 hlj HP0
     have hown:=HON.out.own
     rw [HRL.out] at hown
     have HOWN:=lh9 hown
     have HSL:=lh9 HON.out.sl
     have HCELL:=lh9 (zbb wr (.slice Ax j cx) 55)
     have HBS:=lh9 HP.out.lt
     have HOB:=lh9 (λr (h:(Value.slice Av k cv).ownBlock=some r)=>HON.out.own.lt r h)
     have HZS:Hid (∀u ∈(Value.slice none 0 0).cells.toList,zbC u):=by intro u hu;simp [Value.cells] at hu;exact⟨_,_,_,hu⟩
     have HNN:Hid (∀u ∈ [Value.slice Ax j cx],zbC u):=by intro u hu;simp at hu;exact⟨_,_,_,hu⟩
     have HONE:Hid (∀u ∈ [Value.slice Ax j cx],u.oneCell'=true):=by intro u hu;simp at hu;subst hu;rfl
     clear hown
     go_wp2_with (at_builtin;go_loud (refine zbH _ rfl (.tmp 42) (.tmp 44) 30 rfl (gp+1) 55 i9 (.slice none 0 0) 1 24 Tryz.underlying30 hi9 hz9 hz10 hz11 rfl (by decide) (.slice Av k cv) k vs rfl HOWN.out ⟨wr.heap.size,0,none⟩ 1 1 [.slice Ax j cx] rfl rfl HCELL.out HONE.out (by unfold maxLen;omega) (by omega) HBS.out HSL.out HZS.out HNN.out ?_;intro v' w8 hown' hgrow hat hsl';have hon8:=zbc.grow (n:=k+1) (L:=Lk) (zay zau) HON.out HR.out HXL.out hown' (by rw [HRL.out]) hgrow hsl';rw [<-HSK.out] at hon8;obtain⟨A8,c8,rfl,-⟩:=hon8.shape (n:=k+1) (by rw [List.length_take,HL.out];omega);have HP8:Hid (Blk w8 gp 32 #[.slice Av k cv,.int .i64 mm]):=zbt HP.out hgrow (λe=>by have:=(HOB.out _ e).1;omega);have HB8:=lh9 (HB.out.grown hgrow HBZ.out (λr hr=>by have:=(HOB.out r hr).1;omega));have HON9:=lh9 (hon8.slot (g:=gp) (i:=0) (u:=(.slice A8 (k+1) c8)) (Nat.lt_succ_self gp) (λh3=>zfe h3 HP8.out (zcf _ _ _ _) (HP8.out.cell 0) (.slice A8 (k+1) c8)));have HP9:Hid (Blk (w8.setCell ⟨gp,0,none⟩ (.slice A8 (k+1) c8)) gp 32 #[.slice A8 (k+1) c8,.int .i64 mm]):=HP8.out.set_ 0 (.slice A8 (k+1) c8);have HB9:=lh9 (bl1 (.slice A8 (k+1) c8) hgp HB8.out);clear hon8 hown' hgrow hat hsl' HON HR HOWN HSL HCELL HOB HZS HNN HONE;obtain⟨sc0,sc1⟩:=HP8.out.c2;have sf0:=HP8.out.frozen 0;clear q0 q1 HP8 HB8 HP HB HBS HBZ))
     go_roundg (n - k)
     case measure=>omega
     case rel=>exact⟨k+1,_,_,by omega,by omega,by go_num,HON9.out,HP9.out,HB9.out⟩
  ·have hk:k=n:=by omega
   subst hk
   have hd1:decide ((k:Int)<(k:Int))=false:=by simp
   have hd1':decide (k<k)=false:=by simp
   rw [List.take_of_length_le (by rw [HL.out];exact Nat.le_refl _)] at hon
   obtain⟨A7,c7,rfl,hm7⟩:=hon.refm HD.out hn0 hm0
   obtain⟨q0,q1⟩:=hP.c2
   have hk9:=zae hB HKR.out
   obtain⟨sc0,sf0,sc1,sf1⟩:=st2 hk9 (.slice A7 k c7)
   obtain⟨r0,r1⟩:=(sn2 hk9 (.slice A7 k c7) (.int .i64 (m:Int))).c2
   have HG:=lh9 (grmb2 hm7 hk9 (zac HB0.out hB) (by omega))
   unfold zeK at HG
   obtain rfl:=HMM.out
   clear hon hm7 hk9 hB hP hlq
   go_wp2
   refine bodyPost_ret (v:=.tuple #[.agg #[.slice A7 k c7,.int .i64 (m:Int)],.bool true]) (by simp [results,Tryz.results13,go_sem,r0,r1]) rfl ?_
   exact HG.out
theorem refm_has (A:oA9)(n c m:Nat)(r s:Int)(w:World):Calls Tryz.prog 24 #[.agg #[.slice A n c,.int .i64 (m:Int)],.int .i64 r,.int .i64 s] w (λe w'=>e=.returned (.bool (inB r n&&inB s m))/\Below w.heap.size w w'):=by
 obtain⟨bx1,bx2,bz⟩:=zaA w 32 #[.slice A n c,.int .i64 (m:Int)]
 obtain⟨g0,g1⟩:=bx2.c2
 have HB:=lh9 bx1
 clear bx1 bx2 bz
 by_cases h1:0<=r
 ·have d1:decide (0<=r)=true:=decide_eq_true h1
  by_cases h2:r<(n:Int)
  ·have d2:decide (r<(n:Int))=true:=decide_eq_true h2
   by_cases h3:0<=s
   ·have d3:decide (0<=s)=true:=decide_eq_true h3
    obtain⟨b,d4⟩:∃b,decide (s<(m:Int))=b:=⟨_,rfl⟩
    have e:(inB r n&&inB s m)=b:=by unfold inB;rw [d1,d2,d3,d4];rfl
    rw [e]
    clear h1 h2 h3 e
    go_enter Tryz.func24,Tryz.ntmps24
    go_wp2
    go_ret
    exact⟨rfl,HB.out⟩
   ·have d3:decide (0<=s)=false:=decide_eq_false h3
    have e:(inB r n&&inB s m)=false:=by unfold inB;rw [d1,d2,d3];simp
    rw [e]
    clear h1 h2 h3 e
    go_enter Tryz.func24,Tryz.ntmps24
    go_wp2
    go_ret
    exact⟨rfl,HB.out⟩
  ·have d2:decide (r<(n:Int))=false:=decide_eq_false h2
   have e:(inB r n&&inB s m)=false:=by unfold inB;rw [d1,d2];simp
   rw [e]
   clear h1 h2 e
   go_enter Tryz.func24,Tryz.ntmps24
   go_wp2
   go_ret
   exact⟨rfl,HB.out⟩
 ·have d1:decide (0<=r)=false:=decide_eq_false h1
  have e:(inB r n&&inB s m)=false:=by unfold inB;rw [d1];simp
  rw [e]
  clear h1 e
  go_enter Tryz.func24,Tryz.ntmps24
  go_wp2
  go_ret
  exact⟨rfl,HB.out⟩
theorem zmc {r s:Int}(h:zcy r s=false)(w:World):Calls Tryz.prog 13 #[.int .i64 r,.int .i64 s] w (zhE w):=by
 obtain⟨bx1,bx2,bz⟩:=zaA w 32 #[.slice none 0 0,.int .i64 0]
 obtain⟨g0,g1⟩:=bx2.c2
 have HB:=lh9 bx1
 clear bx1 bx2 bz
 unfold zhE
 by_cases h1:r<0
 ·have d1:decide (r<0)=true:=decide_eq_true h1
  clear h h1
  go_enter Tryz.func13,Tryz.ntmps13
  go_wp2
  refine bodyPost_ret (v:=.tuple #[.agg #[.slice none 0 0,.int .i64 0],.bool false]) (by simp [results,Tryz.results13,go_sem,g0,g1]) rfl ?_
  exact⟨rfl,HB.out⟩
 ·have d1:decide (r<0)=false:=decide_eq_false h1
  by_cases h2:64<r
  ·have d2:decide (64<r)=true:=decide_eq_true h2
   clear h h1 h2
   go_enter Tryz.func13,Tryz.ntmps13
   go_wp2
   refine bodyPost_ret (v:=.tuple #[.agg #[.slice none 0 0,.int .i64 0],.bool false]) (by simp [results,Tryz.results13,go_sem,g0,g1]) rfl ?_
   exact⟨rfl,HB.out⟩
  ·have d2:decide (64<r)=false:=decide_eq_false h2
   by_cases h3:s<0
   ·have d3:decide (s<0)=true:=decide_eq_true h3
    clear h h1 h2 h3
    go_enter Tryz.func13,Tryz.ntmps13
    go_wp2
    refine bodyPost_ret (v:=.tuple #[.agg #[.slice none 0 0,.int .i64 0],.bool false]) (by simp [results,Tryz.results13,go_sem,g0,g1]) rfl ?_
    exact⟨rfl,HB.out⟩
   ·have d3:decide (s<0)=false:=decide_eq_false h3
    by_cases h4:64<s
    ·have d4:decide (64<s)=true:=decide_eq_true h4
     clear h h1 h2 h3 h4
     go_enter Tryz.func13,Tryz.ntmps13
     go_wp2
     refine bodyPost_ret (v:=.tuple #[.agg #[.slice none 0 0,.int .i64 0],.bool false]) (by simp [results,Tryz.results13,go_sem,g0,g1]) rfl ?_
     exact⟨rfl,HB.out⟩
    ·have d4:decide (64<s)=false:=decide_eq_false h4
     exfalso
     unfold zcy at h
     rw [decide_eq_true (show 0<=r by omega),decide_eq_true (show r<=64 by omega),decide_eq_true (show 0<=s by omega),decide_eq_true (show s<=64 by omega)] at h
     cases h
