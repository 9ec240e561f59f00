/- What this claim leans on. -/
import Derived.Test.YtlgnacmgepnamaaGreatDoorKVOne
namespace Go.Proofs.YtlgnacmgepnamaaGreatDoor
open Go Go.RowKit
set_option maxHeartbeats 16000000
set_option maxRecDepth 100000
set_option linter.unusedVariables false
set_option linter.unusedSimpArgs false
structure zer (w:World)(A:oA9)(n:Nat)(zs:List Int):Prop where
 len:zs.length=n
 ints:∀i,i<n-> -9223372036854775808<=zs.getD i 0/\zs.getD i 0<=9223372036854775807
 num:∀i,i<n->∃ad:Addr,A=some ad/\w.cell? (ad.add i)=some (.int .i64 (zs.getD i 0))
def ofL (zs:List Int):List Rat:=zs.map λz:Int=>(z:Rat)
theorem zfY {zs:List Int}{A:oA9}{n c:Nat}{w:World}(hT:zal w)(ha:zer w A n zs)(hn:n<=1073741824:=by omega):
  Calls Tryz.prog 46 #[.slice A n c] w (zeL w n (ofL zs)):=by
 have hla:=ha.len
 have hlz:(ofL zs).length=n:=by unfold ofL;rw [List.length_map];exact hla
 have HGI:∀i,i<n->(ofL zs)[i]?=some ((zs.getD i 0:Int):Rat):=λi hi=>by
  unfold ofL
  rw [List.getElem?_map,List.getD_eq_getElem?_getD,List.getElem?_eq_getElem (by omega)];rfl
 have HI:=lh9 ha.ints
 unfold zeL
 obtain⟨ys,hys⟩:∃ys,ofL zs=ys:=⟨_,rfl⟩
 rw [hys] at HGI hlz⊢
 have HG:=lh9 HGI
 have HLZ:=lh9 hlz
 have HA:=lh9 ha.num
 have HT:=lh9 (λw' (hb:Below w.heap.size w w')=>hT.on hb)
 obtain⟨Z,hZ⟩:=zef n (by omega)
 have hmk:=λW=>(hZ W).1
 have HOWN:=lh9 (λW=>(hZ W).2)
 clear hT ha hla hlz hys HGI hZ
 have i0:(0:Int)<=(n:Int):=by omega
 go_enter Tryz.func46,Tryz.ntmps46
 go_wp2_with fail
 clear hmk
 have hrow:=HOWN.out w
 have hB:Below w.heap.size w (w.alloc (.cells Z 48)):=(Below.refl _ w).alloc (Nat.le_refl _) _
 obtain⟨gp,hgp⟩:∃g,w.heap.size=g:=⟨_,rfl⟩
 have hwg:w.heap.size<=gp:=by omega
 rw [hgp] at hrow⊢
 rw [<-zby 0 ys n] at hrow
 generalize w.alloc (.cells Z 48)=W1 at*
 clear hgp HOWN
 go_loopg [11] (n+1) (λg ix wr=>∃(k:Nat),k<=n/\n<g+k/\ix=.int .i64 k/\zbZ wr gp n (zbV 0 ys n k)/\Below w.heap.size w wr)
 case atStart=>exact⟨0,Nat.zero_le _,by omega,rfl,hrow,hB⟩
 case round=>
  clear hrow hB
  obtain⟨k,hkn,hg,rfl,hrow,hB⟩:=hrel
  by_cases hlt:k<n
  ·obtain⟨ad,rfl,hc⟩:=HA.out k hlt
   have hc0:=zad hB hc
   obtain⟨z1,z2⟩:=HI.out k hlt
   have HGK:=lh9 (HG.out k hlt)
   obtain⟨z,hz⟩:∃z,zs.getD k 0=z:=⟨_,rfl⟩
   rw [hz] at hc0 z1 z2 HGK
   have hd1:decide ((k:Int)<(n:Int))=true:=decide_eq_true (by omega)
   have i1:(0:Int)<=(k:Int):=by omega
   have i2:(k:Int)<(n:Int):=by omega
   have HROW:=lh9 hrow
   have HB1:=lh9 hB
   clear hrow hB hc hz
   go_wp2_with fail
   (with_reducible refine(zhy z _ (HT.out _ HB1.out) z1 z2).mono ?_)
   rintro e w3 ⟨b3,A3,n3,c3,E3,k3,f3,rfl,hw3,hb⟩
   clear hc0
   have hr3:=HROW.out.keep hb
   have hr4:=zbm.set_ zaq hr3 hlt hw3
   rw [zbN 0 ys n k HLZ.out hlt _ HGK.out] at hr4
   obtain⟨q0,q1,q2,sc0,sf0,sc1,sf1,sc2,sf2⟩:=hr3.ready hlt (.bool b3) (.slice A3 n3 c3)
   have HR4:=lh9 hr4
   have HB4:=lh9 (zcb (k*3) (k*3+1) (k*3+2) (.bool b3) (.slice A3 n3 c3) (.slice E3 k3 f3) hwg (zac HB1.out hb))
   clear hr3 hr4 hb hw3 HROW HB1
   go_wp2
   go_roundg (n - k)
   case measure=>omega
   case rel=>exact⟨k+1,by omega,by omega,by go_num,HR4.out,HB4.out⟩
  ·have hk:k=n:=by omega
   subst hk
   have hd1:decide ((k:Int)<(k:Int))=false:=by simp
   have HR5:=lh9 (zbM 0 ys k HLZ.out▸hrow)
   have HB1:=lh9 hB
   clear hrow hB
   go_wp2
   go_ret
   exact⟨gp,rfl,hwg,HR5.out,HB1.out⟩
theorem ziL {K:Nat}{xs:List Rat}{A:oA9}{n c:Nat}{w:World}(hT:zal w)(ha:zaK w A n c xs)(hx:zaE K xs)(hn:n<=1073741824:=by omega)(hK:K+2<=67108864:=by omega):
  Calls Tryz.prog 65 #[.slice A n c] w (zeL w n xs):=by
 have hla:=ha.len
 have HG:Hid (∀i,i<n->xs[i]?=some (xs.getD i 0)):=λi hi=>by
  rw [List.getD_eq_getElem?_getD,List.getElem?_eq_getElem (by omega)];rfl
 have HSX:Hid (∀i,i<n->zaE K [xs.getD i 0]):=λi hi y hy=>by
  rw [List.mem_singleton.1 hy];exact hx.at_ (by omega)
 unfold zeL
 have HLZ:=lh9 hla
 have HA:=lh9 ha
 have HT:=lh9 (λw' (hb:Below w.heap.size w w')=>hT.on hb)
 obtain⟨Z,hZ⟩:=zef n (by omega)
 have hmk:=λW=>(hZ W).1
 have HOWN:=lh9 (λW=>(hZ W).2)
 clear hT ha hx hla hZ
 have i0:(0:Int)<=(n:Int):=by omega
 go_enter Tryz.func65,Tryz.ntmps65
 go_wp2_with fail
 clear hmk
 have hrow:=HOWN.out w
 have hB:Below w.heap.size w (w.alloc (.cells Z 48)):=(Below.refl _ w).alloc (Nat.le_refl _) _
 obtain⟨gp,hgp⟩:∃g,w.heap.size=g:=⟨_,rfl⟩
 have hwg:w.heap.size<=gp:=by omega
 rw [hgp] at hrow⊢
 rw [<-zby 0 xs n] at hrow
 generalize w.alloc (.cells Z 48)=W1 at*
 clear hgp HOWN
 go_loopg [11] (n+1) (λg ix wr=>∃(k:Nat),k<=n/\n<g+k/\ix=.int .i64 k/\zbZ wr gp n (zbV 0 xs n k)/\Below w.heap.size w wr)
 case atStart=>exact⟨0,Nat.zero_le _,by omega,rfl,hrow,hB⟩
 case round=>
  clear hrow hB
  obtain⟨k,hkn,hg,rfl,hrow,hB⟩:=hrel
  by_cases hlt:k<n
  ·obtain⟨ad,b1,B1,m1,d1,E1,u1,v1,rfl,-,hc0,hc1,hc2,hx⟩:=HA.out.get hB hlt
   have hd1:decide ((k:Int)<(n:Int))=true:=decide_eq_true (by omega)
   have i1:(0:Int)<=(k:Int):=by omega
   have i2:(k:Int)<(n:Int):=by omega
   obtain⟨s1,t1,t2,t3⟩:=zbe wr 48 48 #[.bool b1,.slice B1 m1 d1,.slice E1 u1 v1] #[.bool b1,.slice B1 m1 d1,.slice E1 u1 v1]
   have t1':=(zaA wr 48 #[.bool b1,.slice B1 m1 d1,.slice E1 u1 v1]).2.1
   obtain⟨p0,p1,p2⟩:=t1'.c3
   have HL1:=lh9 (zmo t2 (hx.below s1))
   have HROW:=lh9 (hrow.keep s1)
   have HB1:=lh9 (zac hB s1)
   clear hx hrow hB s1 t1 t2 t3 t1'
   go_wp2_with fail
   (with_reducible refine(q_sum (HT.out _ HB1.out) HL1.out (HSX.out k hlt) (by decide) (by omega)).mono ?_)
   rintro e w3 ⟨b3,A3,n3,c3,E3,k3,f3,rfl,hw3,hb⟩
   clear hc0 hc1 hc2 p0 p1 p2
   have hw3:zan w3 (xs.getD k 0) b3 A3 n3 c3 E3 k3 f3:=by
    have e:zdp [xs.getD k 0]=xs.getD k 0:=by rw [zeA,zjJ,Rat.add_zero]
    rw [e] at hw3
    exact hw3
   have hr3:=HROW.out.keep hb
   have hr4:=zbm.set_ zaq hr3 hlt hw3
   rw [zbN 0 xs n k HLZ.out hlt _ (HG.out k hlt)] at hr4
   obtain⟨q0,q1,q2,sc0,sf0,sc1,sf1,sc2,sf2⟩:=hr3.ready hlt (.bool b3) (.slice A3 n3 c3)
   have HR4:=lh9 hr4
   have HB4:=lh9 (zcb (k*3) (k*3+1) (k*3+2) (.bool b3) (.slice A3 n3 c3) (.slice E3 k3 f3) hwg (zac HB1.out hb))
   clear hr3 hr4 hb hw3 HROW HB1 HL1
   go_wp2
   go_roundg (n - k)
   case measure=>omega
   case rel=>exact⟨k+1,by omega,by omega,by go_num,HR4.out,HB4.out⟩
  ·have hk:k=n:=by omega
   subst hk
   have hd1:decide ((k:Int)<(k:Int))=false:=by simp
   have HR5:=lh9 (zbM 0 xs k HLZ.out▸hrow)
   have HB1:=lh9 hB
   clear hrow hB
   go_wp2
   go_ret
   exact⟨gp,rfl,hwg,HR5.out,HB1.out⟩
theorem zau:zdB zca where
 below h hb:=h.below hb
 offg h hk hcs ho:=⟨⟨h.1.1,zhZ h.1.2 hk hcs ho⟩,zhZ h.2 hk hcs ho⟩
abbrev zcK (w:World)(A:oA9)(n c:Nat)(xs:List Rat):Prop:=zaB zca w A n c xs
theorem zcK.keep {w w':World}{A:oA9}{n c:Nat}{xs:List Rat}(h:zcK w A n c xs)(hb:Below w.heap.size w w'):zcK w' A n c xs:=zaB.below zau h hb
theorem zcK.get {w wr:World}{A:oA9}{n c:Nat}{xs:List Rat}(h:zcK w A n c xs)(hb:Below w.heap.size w wr){i:Nat}(hi:i<n):∃(ad:Addr) (b:Bool) (B:oA9) (m d:Nat) (F:oA9) (u v:Nat),A=some ad/\ad.block<w.heap.size/\wr.cell? (ad.add (i*3))=some (.bool b)/\wr.cell? ⟨(ad.add (i*3)).block,(ad.add (i*3)).off+1,none⟩=some (.slice B m d)/\wr.cell? ⟨(ad.add (i*3)).block,(ad.add (i*3)).off+2,none⟩=some (.slice F u v)/\zca wr (xs.getD i 0) b B m d F u v:=by
 obtain⟨ad,b,B,m,d,F,u,v,e,h0,h1,h2,h3,h4⟩:=h.at_ hi 0
 exact⟨ad,b,B,m,d,F,u,v,e,h0,zad hb h1,zad hb (zgl h2),zad hb (znS h3),h4.below hb⟩
def zjU (w:World)(n:Nat)(xs:List Rat)(e:Ending)(w':World):Prop:=∃(A:oA9) (c:Nat),e=.returned (.slice A n c)/\zcK w' A n c xs/\Below w.heap.size w w'
theorem zkh:(Tryz.prog.info? 94).map (λi=>(i.zero,i.size,i.bytes))=some (some (.agg #[.bool false,.slice none 0 0,.slice none 0 0]),3,56):=by kernel_rfl
def zkS (w:World)(n:Nat)(xs:List Rat)(e:Ending)(w':World):Prop:=∃(A:oA9) (c:Nat),e=.returned (.slice A n c)/\zcK w' A n c xs/\(∀ad,A=some ad->w.heap.size<=ad.block/\ad.block<w'.heap.size)/\Below w.heap.size w w'
theorem ziT {A:oA9}{n c:Nat}{L:List (Int×Int)}{w:World}(h:zaY w A n c L):
  Calls Tryz.prog 38 #[.slice A n c] w (zkS w n (zcj L)):=by
 obtain⟨i1',hi1,hz10,hz11,hz12⟩:=info_parts zkh
 have hn0:n<=1048576:=Nat.le_trans h.fits h.small
 have HL:=lh9 h.len
 have HG:Hid (∀k,k<n->zbg (L.getD k (0,0)).1/\zbg (L.getD k (0,0)).2/\∃ad,A=some ad/\ad.block<w.heap.size/\w.cell? (ad.add (k*2))=some (.int .i64 (L.getD k (0,0)).1)/\w.cell? (ad.add (k*2+1))=some (.int .i64 (L.getD k (0,0)).2)):=λk hk=>by
  have hl:=h.len
  have e:L[k]?=some (L.getD k (0,0)):=by rw [List.getD_eq_getElem?_getD,List.getElem?_eq_getElem (by omega)];rfl
  obtain⟨h1,h2⟩:=h.ints _ (List.mem_of_getElem? e)
  exact⟨h1,h2,h.row k _ e⟩
 have HS:Hid (∀k,k<n->zcj (L.take (k+1))=zcj (L.take k)++[qOf (L.getD k (0,0)).1 (L.getD k (0,0)).2]):=λk hk=>by
  have hl:=h.len
  unfold zcj
  rw [List.take_succ_eq_append_getElem (by omega),List.map_append,List.getD_eq_getElem?_getD,List.getElem?_eq_getElem (by omega)]
  rfl
 unfold zkS
 clear h
 have hB:=Below.refl w.heap.size w
 go_enter Tryz.func38,Tryz.ntmps38
 go_wp2_with fail
 go_loopg [3,4] (n+1) (λg sl ix wr=>∃(k:Nat) (v:Value) (vs:List Value),k<=n/\n<g+k/\ix=.int .i64 k/\v=sl/\zcT zca wr w.heap.size 94 v (zcj (L.take k)) vs/\Below w.heap.size w wr)
 case atStart=>exact⟨0,_,_,Nat.zero_le _,by omega,rfl,rfl,zcT.nil _ _ _,hB⟩
 case round=>
  clear hB
  obtain⟨k,v,vs,hkn,hg,rfl,rfl,hon,hB⟩:=hrel
  by_cases hlt:k<n
  ·obtain⟨hi1',hi2',ad,rfl,hadb,hc0,hc1⟩:=HG.out k hlt
   have HSK:=lh9 (HS.out k hlt)
   obtain⟨q,hq⟩:∃q,L.getD k (0,0)=q:=⟨_,rfl⟩
   rw [hq] at hi1' hi2' hc0 hc1 HSK
   obtain⟨q1,q2⟩:=q
   dsimp only at hi1' hi2' hc0 hc1 HSK
   have HC0:Hid (∀w',Below w.heap.size w w'->w'.cell? (ad.add (k*2))=some (.int .i64 q1)/\w'.cell? ⟨(ad.add (k*2)).block,(ad.add (k*2)).off+1,none⟩=some (.int .i64 q2)):=λw' hb=>⟨zad hb hc0,zgl (zad hb hc1)⟩
   have hd1:decide ((k:Int)<(n:Int))=true:=decide_eq_true (by omega)
   have i1:(0:Int)<=(k:Int):=by omega
   have i2:(k:Int)<(n:Int):=by omega
   have hbd:=(Below.refl wr.heap.size wr).drew
   have HON:=lh9 (zcT.below zau hon hbd)
   have HB:=lh9 (zac hB hbd)
   have HI1:=lh9 hi1'
   have HI2:=lh9 hi2'
   have hlq:(zcj (L.take k)).length=k:=by rw [zcP,List.length_take,HL.out];omega
   have HLQ:=lh9 hlq
   obtain⟨c0,c1⟩:=HC0.out _ hB
   clear hon hi1' hi2' hq hlq hbd hc0 hc1 hB
   go_wp2_with fail
   refine rg (csc c0 (csc c1 csn)) (λhHeld=>?_)
   clear c0 c1
   generalize wr.drew=D at*
   refine tk 0 ?_
   refine tk 1 ?_
   refine tk 2 ?_
   refine tk 3 ?_
   refine tk 4 ?_
   refine tk 5 ?_
   refine tk 6 ?_
   refine tk 7 ?_
   refine tk 8 ?_
   refine tk 9 ?_
   refine tk 10 ?_
   refine rc 11 (λKK hK=>?_)
   go_simp
   (with_reducible refine(ref10_of HI1.out HI2.out).mono ?_)
   rintro e w5 ⟨b5,B5,m5,d5,E5,u5,f5,rfl,hx5,hb⟩
   refine hK.out _ _ (Cs.below hHeld hb) (λhHeld=>?_)
   clear hK KK
   obtain⟨t1,t2,-⟩:=zaA w5 94 #[.bool b5,.slice B5 m5 d5,.slice E5 u5 f5]
   have hup:=zac hb t1
   have hon:=zcT.below zau HON.out hup
   have HX:=lh9 (hx5.below t1)
   have HB:=lh9 (zac HB.out hup)
   have HCELL:=lh9 (zfR t2)
   have HBS:=lh9 HB.out.size
   have hown:=hon.own
   rw [HLQ.out] at hown
   have HOWN:=lh9 hown
   have HNOU:=lh9 hon.nou
   have HOB:=lh9 (λr (h:v.ownBlock=some r)=>hon.own.lt r h)
   have HON:=lh9 hon
   have hHeld2:=Cs.below hHeld t1
   clear hb hup hx5 hon t1 t2 hown
   refine rc 12 (λKK hK=>?_)
   go_simp
   refine hK.out _ _ hHeld2 (λhHeld=>?_)
   clear hK KK hHeld2
   refine rc 13 (λKK hK=>?_)
   refine ziY _ (.tmp 11) (.tmp 23) 55 rfl w.heap.size 94 i1' (.agg #[.bool false,.slice none 0 0,.slice none 0 0]) 3 56 Tryz.underlying55 hi1 hz10 hz11 hz12 rfl (by decide) v k vs rfl HOWN.out ⟨w5.heap.size,0,none⟩ 1 1 [.bool b5,.slice B5 m5 d5,.slice E5 u5 f5] rfl rfl HCELL.out (zig _ _ _ _ _ _ _) (by unfold maxLen;omega) (by omega) HBS.out HNOU.out zgW (zif _ _ _ _ _ _ _) ?_
   intro v' w8 hown' hgrow hat hnou'
   have HON8:=lh9 (zcT.grow (n:=k+1) zau HON.out HX.out hown' (by rw [HLQ.out]) hgrow hnou')
   have HB8:=lh9 (HB.out.grown hgrow HBS.out (λr hr=>(HOB.out r hr).1))
   obtain⟨c0,c1⟩:=HC0.out _ HB8.out
   refine hK.out _ _ (csc c0 (csc c1 csn)) (λhHeld=>?_)
   clear hK KK c0 c1 hown' hgrow hat hnou'
   refine tk 14 ?_
   refine rdn ?_
   clear hHeld HON HX HB HCELL HBS HOWN HNOU HOB
   rw [<-HSK.out] at HON8
   go_wp2
   go_roundg (n - k)
   case measure=>omega
   case rel=>exact⟨k+1,_,_,by omega,by omega,by go_num,rfl,HON8.out,HB8.out⟩
  ·have hd1:decide ((k:Int)<(n:Int))=false:=decide_eq_false (by omega)
   have hk:k=n:=by omega
   subst hk
   rw [List.take_of_length_le (by rw [HL.out];exact Nat.le_refl _)] at hon
   have hlq:(zcj L).length=k:=by rw [zcP];exact HL.out
   obtain⟨A1,c1,rfl,hv,hf⟩:=hon.shape
   have HF:=lh9 (λad (e9:A1=some ad)=>hon.own.lt ad.block (by subst e9;rfl))
   rw [hlq] at hv⊢
   have HV:=lh9 hv
   have HB1:=lh9 hB
   clear hon hv hB hlq hf
   go_wp2
   go_ret
   exact⟨A1,c1,rfl,HV.out,HF.out,HB1.out⟩
theorem zjq {A:oA9}{n c:Nat}{L:List (Int×Int)}{w:World}(h:zaY w A n c L):
  Calls Tryz.prog 38 #[.slice A n c] w (zjU w n (zcj L)):=
 (ziT h).mono λ_ _ ⟨A1,c1,e,h1,_,h3⟩=>⟨A1,c1,e,h1,h3⟩
