/- What this claim leans on. -/
import Derived.Test.YtcojjcjgbepicaaGreatDoorEJ8Etc
namespace Go.Proofs.YtcojjcjgbepicaaGreatDoor
open Go Go.RowKit
set_option maxHeartbeats 16000000
set_option maxRecDepth 100000
set_option linter.unusedVariables false
set_option linter.unusedSimpArgs false
theorem zbr {K L:Nat}{r:Rat}{xs:List Rat}{A:oA9}{n c:Nat}{w:World}{s:Bool}{D:oA9}{m e9:Nat}{U:oA9}{u v:Nat}(hT:zaj w)(hr:zai w r s D m e9 U u v)(ha:zaC w A n c xs)(zr:SzQ L r)(hx:zat K xs)(hn:n<=1073741824:=by omega)(hK:K<=67108864:=by omega)(hL:L<=67108864:=by omega):
  Calls Tryz.prog 136 #[.agg #[.bool s,.slice D m e9,.slice U u v],.slice A n c] w (zeU w n (zaI r xs)):=by
 have hla:=ha.len
 have hlz:(zaI r xs).length=n:=by unfold zaI;rw [List.length_map];exact hla
 have HGI:∀i,i<n->(zaI r xs)[i]?=some (r*xs.getD i 0):=λi hi=>by
  unfold zaI
  rw [List.getElem?_map,List.getD_eq_getElem?_getD,List.getElem?_eq_getElem (by omega)];rfl
 have HSX:Hid (∀i,i<n->SzQ K (xs.getD i 0)):=λi hi=>hx.at_ (by omega)
 unfold zeU
 obtain⟨zs,hzs⟩:∃zs,zaI r xs=zs:=⟨_,rfl⟩
 rw [hzs] at HGI hlz⊢
 have HG:=lh9 HGI
 have HLZ:=lh9 hlz
 have HZR:=lh9 zr
 obtain⟨bx1,bx2,bz⟩:=zaw w 53 #[.bool s,.slice D m e9,.slice U u v]
 have HA:=lh9 ha
 have HT:=lh9 (λw' (hb:Below w.heap.size w w')=>hT.on hb)
 have HR:=lh9 (λw' (hb:Below w.heap.size w w')=>hr.below hb)
 have HB0:=lh9 bx1
 have HK0:=lh9 bx2
 obtain⟨Z,hZ⟩:=zei n (by omega)
 have hmk:=λW=>(hZ W).1
 have HOWN:=lh9 (λW=>(hZ W).2)
 clear hT hr ha zr hx hla hlz hzs HGI hZ bx1 bx2 bz
 have i0:(0:Int)<=(n:Int):=by omega
 go_enter Tryz.func136,Tryz.ntmps136
 go_wp2_with fail
 clear hmk
 obtain⟨W0,hW0⟩:∃W,w.alloc (.cells #[.bool s,.slice D m e9,.slice U u v] 53)=W:=⟨_,rfl⟩
 rw [hW0] at HB0 HK0
 have hrow:=HOWN.out W0
 have hB0:=HB0.out
 have hsz:W0.heap.size=w.heap.size+1:=by rw [<-hW0];simp
 simp only [hW0] at*
 have hB1:Below W0.heap.size W0 (W0.alloc (.cells Z 53)):=(Below.refl _ W0).alloc (Nat.le_refl _) _
 have hkx:=zab hB1 HK0.out
 have hB:=zaa hB0 hB1
 rw [hsz] at hrow
 clear hW0 HB0 HK0 hB0 hB1 hsz HOWN
 generalize W0.alloc (.cells Z 53)=W1 at*
 obtain⟨gp,hgp⟩:∃g,w.heap.size+1=g:=⟨_,rfl⟩
 rw [hgp] at hrow⊢
 rw [<-zbR 0 zs n] at hrow
 have hwg:w.heap.size+1<=gp:=by omega
 clear hgp
 go_loopg [13] (n+1) (λg ix wr=>∃(k:Nat),k<=n/\n<g+k/\ix=.int .i64 k/\zbT wr gp n (zcB 0 zs n k)/\Below w.heap.size w wr/\Blk wr w.heap.size 53 #[.bool s,.slice D m e9,.slice U u v])
 case atStart=>exact⟨0,Nat.zero_le _,by omega,rfl,hrow,hB,hkx⟩
 case round=>
  clear hrow hB hkx
  obtain⟨k,hkn,hg,rfl,hrow,hB,hkx⟩:=hrel
  by_cases hlt:k<n
  ·obtain⟨ad,b1,B1,m1,d1,E1,u1,v1,rfl,-,hc0,hc1,hc2,hx⟩:=HA.out.get hB hlt
   have hd1:decide ((k:Int)<(n:Int))=true:=decide_eq_true (by omega)
   have i1:(0:Int)<=(k:Int):=by omega
   have i2:(k:Int)<(n:Int):=by omega
   obtain⟨st,d3,d4⟩:=zaw wr 53 #[.bool b1,.slice B1 m1 d1,.slice E1 u1 v1]
   obtain⟨p0,p1,p2⟩:=d3.c3
   obtain⟨g0,g1,g2⟩:=(zab st hkx).c3
   have HX:=lh9 (hx.below st)
   have HROW:=lh9 (hrow.keep st)
   have HB1:=lh9 (zaa hB st)
   have HKX:=lh9 (zab st hkx)
   clear hx hrow hB st d3 d4 hkx
   go_wp2_with fail
   (with_reducible refine(zfU (HT.out _ HB1.out) (HR.out _ HB1.out) HX.out HZR.out (HSX.out k hlt) hL hK).mono ?_)
   rintro e w3 ⟨b3,A3,n3,c3,E3,k3,f3,rfl,hw3,hb⟩
   clear hc0 hc1 hc2 p0 p1 p2 g0 g1 g2
   have hr3:=HROW.out.keep hb
   have hr4:=zbi.set_ zaf hr3 hlt hw3
   rw [zcl 0 zs n k HLZ.out hlt _ (HG.out k hlt)] at hr4
   obtain⟨q0,q1,q2,sc0,sf0,sc1,sf1,sc2,sf2⟩:=hr3.ready hlt (.bool b3) (.slice A3 n3 c3)
   have HR4:=lh9 hr4
   have HB4:=lh9 (zbQ (k*3) (k*3+1) (k*3+2) (.bool b3) (.slice A3 n3 c3) (.slice E3 k3 f3) (show w.heap.size<=gp by omega) (zaa HB1.out hb))
   have HK4:=lh9 (Blk.far (p:=⟨gp,k*3+2,none⟩) (Blk.far (p:=⟨gp,k*3+1,none⟩) (Blk.far (p:=⟨gp,k*3,none⟩) (zab hb HKX.out) (by show w.heap.size≠gp;omega) (.bool b3)) (by show w.heap.size≠gp;omega) (.slice A3 n3 c3)) (by show w.heap.size≠gp;omega) (.slice E3 k3 f3))
   clear hr3 hr4 hb hw3 HX HROW HB1 HKX
   go_wp2
   go_roundg (n - k)
   case measure=>omega
   case rel=>exact⟨k+1,by omega,by omega,by go_num,HR4.out,HB4.out,HK4.out⟩
  ·have hk:k=n:=by omega
   subst hk
   have hd1:decide ((k:Int)<(k:Int))=false:=by simp
   have HR5:=lh9 (zck 0 zs k HLZ.out▸hrow)
   have HB1:=lh9 hB
   have hge:w.heap.size<=gp:=by omega
   clear hrow hB hkx
   go_wp2
   go_ret
   exact⟨gp,rfl,hge,HR5.out,HB1.out⟩
structure zcS (w:World)(A:oA9)(n:Nat)(zs:List Int):Prop where
 len:zs.length=n
 ints:∀i,i<n-> -9223372036854775808<=zs.getD i 0/\zs.getD i 0<=9223372036854775807
 num:∀i,i<n->∃ad:Addr,A=some ad/\w.cell? (ad.add i)=some (.int .i64 (zs.getD i 0))
def ofL (zs:List Int):List Rat:=zs.map λz:Int=>(z:Rat)
theorem zdt {zs:List Int}{A:oA9}{n c:Nat}{w:World}(hT:zaj w)(ha:zcS w A n zs)(hn:n<=1073741824:=by omega):
  Calls Tryz.prog 58 #[.slice A n c] w (zeU w n (ofL zs)):=by
 have hla:=ha.len
 have hlz:(ofL zs).length=n:=by unfold ofL;rw [List.length_map];exact hla
 have HGI:∀i,i<n->(ofL zs)[i]?=some ((zs.getD i 0:Int):Rat):=λi hi=>by
  unfold ofL
  rw [List.getElem?_map,List.getD_eq_getElem?_getD,List.getElem?_eq_getElem (by omega)];rfl
 have HI:=lh9 ha.ints
 unfold zeU
 obtain⟨ys,hys⟩:∃ys,ofL zs=ys:=⟨_,rfl⟩
 rw [hys] at HGI hlz⊢
 have HG:=lh9 HGI
 have HLZ:=lh9 hlz
 have HA:=lh9 ha.num
 have HT:=lh9 (λw' (hb:Below w.heap.size w w')=>hT.on hb)
 obtain⟨Z,hZ⟩:=zei n (by omega)
 have hmk:=λW=>(hZ W).1
 have HOWN:=lh9 (λW=>(hZ W).2)
 clear hT ha hla hlz hys HGI hZ
 have i0:(0:Int)<=(n:Int):=by omega
 go_enter Tryz.func58,Tryz.ntmps58
 go_wp2_with fail
 clear hmk
 have hrow:=HOWN.out w
 have hB:Below w.heap.size w (w.alloc (.cells Z 53)):=(Below.refl _ w).alloc (Nat.le_refl _) _
 obtain⟨gp,hgp⟩:∃g,w.heap.size=g:=⟨_,rfl⟩
 have hwg:w.heap.size<=gp:=by omega
 rw [hgp] at hrow⊢
 rw [<-zbR 0 ys n] at hrow
 generalize w.alloc (.cells Z 53)=W1 at*
 clear hgp HOWN
 go_loopg [11] (n+1) (λg ix wr=>∃(k:Nat),k<=n/\n<g+k/\ix=.int .i64 k/\zbT wr gp n (zcB 0 ys n k)/\Below w.heap.size w wr)
 case atStart=>exact⟨0,Nat.zero_le _,by omega,rfl,hrow,hB⟩
 case round=>
  clear hrow hB
  obtain⟨k,hkn,hg,rfl,hrow,hB⟩:=hrel
  by_cases hlt:k<n
  ·obtain⟨ad,rfl,hc⟩:=HA.out k hlt
   have hc0:=zac hB hc
   obtain⟨z1,z2⟩:=HI.out k hlt
   have HGK:=lh9 (HG.out k hlt)
   obtain⟨z,hz⟩:∃z,zs.getD k 0=z:=⟨_,rfl⟩
   rw [hz] at hc0 z1 z2 HGK
   have hd1:decide ((k:Int)<(n:Int))=true:=decide_eq_true (by omega)
   have i1:(0:Int)<=(k:Int):=by omega
   have i2:(k:Int)<(n:Int):=by omega
   have HROW:=lh9 hrow
   have HB1:=lh9 hB
   clear hrow hB hc hz
   go_wp2_with fail
   (with_reducible refine(zcX z _ (HT.out _ HB1.out) z1 z2).mono ?_)
   rintro e w3 ⟨b3,A3,n3,c3,E3,k3,f3,rfl,hw3,hb⟩
   clear hc0
   have hr3:=HROW.out.keep hb
   have hr4:=zbi.set_ zaf hr3 hlt hw3
   rw [zcl 0 ys n k HLZ.out hlt _ HGK.out] at hr4
   obtain⟨q0,q1,q2,sc0,sf0,sc1,sf1,sc2,sf2⟩:=hr3.ready hlt (.bool b3) (.slice A3 n3 c3)
   have HR4:=lh9 hr4
   have HB4:=lh9 (zbQ (k*3) (k*3+1) (k*3+2) (.bool b3) (.slice A3 n3 c3) (.slice E3 k3 f3) hwg (zaa HB1.out hb))
   clear hr3 hr4 hb hw3 HROW HB1
   go_wp2
   go_roundg (n - k)
   case measure=>omega
   case rel=>exact⟨k+1,by omega,by omega,by go_num,HR4.out,HB4.out⟩
  ·have hk:k=n:=by omega
   subst hk
   have hd1:decide ((k:Int)<(k:Int))=false:=by simp
   have HR5:=lh9 (zck 0 ys k HLZ.out▸hrow)
   have HB1:=lh9 hB
   clear hrow hB
   go_wp2
   go_ret
   exact⟨gp,rfl,hwg,HR5.out,HB1.out⟩
theorem zmm {K:Nat}{xs:List Rat}{A:oA9}{n c:Nat}{w:World}(hT:zaj w)(ha:zaC w A n c xs)(hx:zat K xs)(hn:n<=1073741824:=by omega)(hK:K+2<=67108864:=by omega):
  Calls Tryz.prog 96 #[.slice A n c] w (zeU w n xs):=by
 have hla:=ha.len
 have HG:Hid (∀i,i<n->xs[i]?=some (xs.getD i 0)):=λi hi=>by
  rw [List.getD_eq_getElem?_getD,List.getElem?_eq_getElem (by omega)];rfl
 have HSX:Hid (∀i,i<n->zat K [xs.getD i 0]):=λi hi y hy=>by
  rw [List.mem_singleton.1 hy];exact hx.at_ (by omega)
 unfold zeU
 have HLZ:=lh9 hla
 have HA:=lh9 ha
 have HT:=lh9 (λw' (hb:Below w.heap.size w w')=>hT.on hb)
 obtain⟨Z,hZ⟩:=zei n (by omega)
 have hmk:=λW=>(hZ W).1
 have HOWN:=lh9 (λW=>(hZ W).2)
 clear hT ha hx hla hZ
 have i0:(0:Int)<=(n:Int):=by omega
 go_enter Tryz.func96,Tryz.ntmps96
 go_wp2_with fail
 clear hmk
 have hrow:=HOWN.out w
 have hB:Below w.heap.size w (w.alloc (.cells Z 53)):=(Below.refl _ w).alloc (Nat.le_refl _) _
 obtain⟨gp,hgp⟩:∃g,w.heap.size=g:=⟨_,rfl⟩
 have hwg:w.heap.size<=gp:=by omega
 rw [hgp] at hrow⊢
 rw [<-zbR 0 xs n] at hrow
 generalize w.alloc (.cells Z 53)=W1 at*
 clear hgp HOWN
 go_loopg [11] (n+1) (λg ix wr=>∃(k:Nat),k<=n/\n<g+k/\ix=.int .i64 k/\zbT wr gp n (zcB 0 xs n k)/\Below w.heap.size w wr)
 case atStart=>exact⟨0,Nat.zero_le _,by omega,rfl,hrow,hB⟩
 case round=>
  clear hrow hB
  obtain⟨k,hkn,hg,rfl,hrow,hB⟩:=hrel
  by_cases hlt:k<n
  ·obtain⟨ad,b1,B1,m1,d1,E1,u1,v1,rfl,-,hc0,hc1,hc2,hx⟩:=HA.out.get hB hlt
   have hd1:decide ((k:Int)<(n:Int))=true:=decide_eq_true (by omega)
   have i1:(0:Int)<=(k:Int):=by omega
   have i2:(k:Int)<(n:Int):=by omega
   obtain⟨s1,t1,t2,t3⟩:=zbz wr 53 53 #[.bool b1,.slice B1 m1 d1,.slice E1 u1 v1] #[.bool b1,.slice B1 m1 d1,.slice E1 u1 v1]
   have t1':=(zaw wr 53 #[.bool b1,.slice B1 m1 d1,.slice E1 u1 v1]).2.1
   obtain⟨p0,p1,p2⟩:=t1'.c3
   have HL1:=lh9 (zmn t2 (hx.below s1))
   have HROW:=lh9 (hrow.keep s1)
   have HB1:=lh9 (zaa hB s1)
   clear hx hrow hB s1 t1 t2 t3 t1'
   go_wp2_with fail
   (with_reducible refine(q_sum (HT.out _ HB1.out) HL1.out (HSX.out k hlt) (by decide) (by omega)).mono ?_)
   rintro e w3 ⟨b3,A3,n3,c3,E3,k3,f3,rfl,hw3,hb⟩
   clear hc0 hc1 hc2 p0 p1 p2
   have hw3:zai w3 (xs.getD k 0) b3 A3 n3 c3 E3 k3 f3:=by
    have e:zdw [xs.getD k 0]=xs.getD k 0:=by rw [zgk,zjQ,Rat.add_zero]
    rw [e] at hw3
    exact hw3
   have hr3:=HROW.out.keep hb
   have hr4:=zbi.set_ zaf hr3 hlt hw3
   rw [zcl 0 xs n k HLZ.out hlt _ (HG.out k hlt)] at hr4
   obtain⟨q0,q1,q2,sc0,sf0,sc1,sf1,sc2,sf2⟩:=hr3.ready hlt (.bool b3) (.slice A3 n3 c3)
   have HR4:=lh9 hr4
   have HB4:=lh9 (zbQ (k*3) (k*3+1) (k*3+2) (.bool b3) (.slice A3 n3 c3) (.slice E3 k3 f3) hwg (zaa HB1.out hb))
   clear hr3 hr4 hb hw3 HROW HB1 HL1
   go_wp2
   go_roundg (n - k)
   case measure=>omega
   case rel=>exact⟨k+1,by omega,by omega,by go_num,HR4.out,HB4.out⟩
  ·have hk:k=n:=by omega
   subst hk
   have hd1:decide ((k:Int)<(k:Int))=false:=by simp
   have HR5:=lh9 (zck 0 xs k HLZ.out▸hrow)
   have HB1:=lh9 hB
   clear hrow hB
   go_wp2
   go_ret
   exact⟨gp,rfl,hwg,HR5.out,HB1.out⟩
theorem zja (n:Nat)(w:World)(hn:n<=64):Calls Tryz.prog 98 #[.int .i64 (n:Int)] w (zdx w n (List.replicate n 0)):=by
 unfold zdx
 obtain⟨ys,hys⟩:∃ys,List.replicate n (0:Rat)=ys:=⟨_,rfl⟩
 obtain⟨Z,hZ⟩:=zei n (by omega)
 have hmk:=λW=>(hZ W).1
 have HOWN:=lh9 (hZ w).2
 rw [hys] at HOWN⊢
 have hd:decide ((n:Int)<0)=false:=decide_eq_false (by omega)
 have hd2:decide (64<(n:Int))=false:=decide_eq_false (by omega)
 have hd3:decide ((n:Int)>64)=false:=decide_eq_false (by omega)
 have hB:=lh9 ((Below.refl _ w).alloc (Nat.le_refl _) (.cells Z 53))
 clear hZ hys
 go_enter Tryz.func98,Tryz.ntmps98
 go_wp2
 go_ret2
 exact⟨_,rfl,Nat.le_refl _,HOWN.out,hB.out⟩
def ziZ (n k:Nat):List Rat:=(List.replicate n 0).set k 1
theorem vec_unit (n k:Nat)(w:World)(hT:zaj w)(hn:n<=64)(hk:k<n):Calls Tryz.prog 83 #[.int .i64 (n:Int),.int .i64 (k:Int)] w (zdx w n (ziZ n k)):=by
 have H:=lh9 (zja n w hn)
 have HT:=lh9 (λw' (hb:Below w.heap.size w w')=>hT.on hb)
 have HU:Hid (ziZ n k=(List.replicate n 0).set k 1):=rfl
 unfold zdx
 obtain⟨us,hus⟩:∃us,ziZ n k=us:=⟨_,rfl⟩
 rw [hus] at HU⊢
 have hd:decide ((k:Int)<0)=false:=decide_eq_false (by omega)
 have hd2:decide (n<=k)=false:=decide_eq_false (by omega)
 have hd3:decide ((n:Int)<=(k:Int))=false:=decide_eq_false (by omega)
 have hd4:decide ((k:Int)>=(n:Int))=false:=decide_eq_false (by omega)
 have i1:(0:Int)<=(k:Int):=by omega
 have i2:(k:Int)<(n:Int):=by omega
 clear hT hus
 go_enter Tryz.func83,Tryz.ntmps83
 go_wp2_with fail
 refine H.out.mono ?_
 rintro e w1 ⟨g,rfl,h1,h2,hb⟩
 have HR:=lh9 h2
 have HB:=lh9 hb
 clear h2 hb H
 go_wp2_with fail
 (with_reducible refine(zcX 1 _ (HT.out _ HB.out) (by decide) (by decide)).mono ?_)
 rintro e w3 ⟨b3,A3,n3,c3,E3,k3,f3,rfl,hw3,hb⟩
 have hr3:=HR.out.keep hb
 have hr4:=zbi.set_ zaf hr3 hk hw3
 have e1:((1:Int):Rat)=1:=rfl
 rw [e1,<-HU.out] at hr4
 obtain⟨q0,q1,q2,sc0,sf0,sc1,sf1,sc2,sf2⟩:=hr3.ready hk (.bool b3) (.slice A3 n3 c3)
 have HR4:=lh9 hr4
 have HB4:=lh9 (zbQ (k*3) (k*3+1) (k*3+2) (.bool b3) (.slice A3 n3 c3) (.slice E3 k3 f3) h1 (zaa HB.out hb))
 clear hr3 hr4 hb hw3 HR HB e1
 go_wp2
 go_ret2
 exact⟨g,rfl,h1,HR4.out,HB4.out⟩
def Sp (n m:Nat)(M:Nat->Nat->Rat)(v:Nat->Rat):Prop:=∃y:Nat->Rat,∀j,j<m->v j=zaE n λi=>y i*M i j
theorem Sp.zero {n m:Nat}{M:Nat->Nat->Rat}:Sp n m M λ_=>0:=⟨λ_=>0,λj _=>(zcv λi _=>Rat.zero_mul _).symm⟩
theorem Sp.comb {n m:Nat}{M:Nat->Nat->Rat}{u v:Nat->Rat}(a b:Rat)(h:Sp n m M u)(k:Sp n m M v):Sp n m M λj=>a*u j+b*v j:=by
 obtain⟨y,hy⟩:=h;obtain⟨z,hz⟩:=k
 refine⟨λi=>a*y i+b*z i,λj hj=>?_⟩
 show a*u j+b*v j=_
 rw [hy j hj,hz j hj,zaV,zaV,<-zft]
 exact zau λi _=>by grind
theorem Sp.scale {n m:Nat}{M:Nat->Nat->Rat}{u v:Nat->Rat}(a:Rat)(h:Sp n m M u)(e:∀j,j<m->v j=a*u j):Sp n m M v:=by
 obtain⟨y,hy⟩:=h
 refine⟨λi=>a*y i,λj hj=>?_⟩
 rw [e j hj,hy j hj,zaV]
 exact zau λi _=>by grind
theorem Sp.congr {n m:Nat}{M:Nat->Nat->Rat}{u v:Nat->Rat}(h:Sp n m M u)(e:∀j,j<m->v j=u j):Sp n m M v:=by
 obtain⟨y,hy⟩:=h;exact⟨y,λj hj=>(e j hj).trans (hy j hj)⟩
theorem zen {k c:Nat}(hc:c<k)(f:Nat->Rat):zaE k (λi=>(if i=c then 1 else 0)*f i)=f c:=by
 induction k with
 |zero=>cases hc
 |succ k ih=>
   rw [zaP]
   by_cases h:c=k
   ·subst h
    rw [if_pos rfl,Rat.one_mul,zcv λi hi=>by rw [if_neg (by omega),Rat.zero_mul],Rat.zero_add]
   ·rw [if_neg (by omega),Rat.zero_mul,Rat.add_zero,ih (by omega)]
theorem Sp.row {n m:Nat}{M:Nat->Nat->Rat}{i:Nat}(hi:i<n):Sp n m M (M i):=⟨λq=>if q=i then 1 else 0,λj _=>(zen hi λq=>M q j).symm⟩
theorem Sp.sum {n m:Nat}{M:Nat->Nat->Rat}{u:Nat->Nat->Rat}(f:Nat->Rat){q:Nat}(h:∀l,l<q->Sp n m M (u l)):Sp n m M λj=>zaE q λl=>f l*u l j:=by
 induction q with
 |zero=>exact Sp.zero
 |succ q ih=>
   refine((ih λl hl=>h l (by omega)).comb 1 (f q) (h q (by omega))).congr λj _=>?_
   rw [zaP,Rat.one_mul]
theorem Sp.trans {n m n':Nat}{M M':Nat->Nat->Rat}{v:Nat->Rat}(h:Sp n' m M' v)(k:∀i,i<n'->Sp n m M (M' i)):Sp n m M v:=by
 obtain⟨y,hy⟩:=h
 exact(Sp.sum y k).congr hy
structure RF (n m:Nat)(M:Nat->Nat->Rat)(ld:List Nat)(R:Nat->Nat->Rat):Prop where
 len:ld.length<=n
 up:∀l l',l<l'->l'<ld.length->ld.getD l 0<ld.getD l' 0
 lt:∀l,l<ld.length->ld.getD l 0<m
 piv:∀l,l<ld.length->∀i,i<n->R i (ld.getD l 0)=if i=l then 1 else 0
 zero:∀i,ld.length<=i->i<n->∀j,j<m->R i j=0
 fore:∀l,l<ld.length->∀j,j<ld.getD l 0->R l j=0
 sum:∀i,i<n->∀j,j<m->M i j=zaE ld.length λl=>M i (ld.getD l 0)*R l j
 span:∀l,l<ld.length->Sp n m M (R l)
theorem RF.of_elim {n m:Nat}{a0 M:Nat->Nat->Rat}{e:ESt}(h:EOk n m m a0 e)(ht:∀i,i<n->∃t:Rat,t≠0/\∀j,j<m->a0 i j=t*M i j):RF n m M e.ld λi j=>e.p⁻¹*atM e.S i j:=by
 obtain⟨hd,a,hs,hi⟩:=h
 have hp:=hi.ne
 -- rows of either are multiples of the other's
 have r1:∀i,i<n->∃i',i'<n/\∃t:Rat,∀j,j<m->a i j=t*M i' j:=λi hi'=>by
  obtain⟨i',k1,e,_,k3⟩:=hs.rows.1 i hi'
  obtain⟨t,_,k4⟩:=ht i' k1
  exact⟨i',k1,e*t,λj hj=>by rw [k3 j,k4 j hj];grind⟩
 have r2:∀i,i<n->∃i',i'<n/\∃t:Rat,∀j,j<m->M i j=t*a i' j:=λi hi'=>by
  obtain⟨i',k1,e,_,k3⟩:=hs.rows.2 i hi'
  obtain⟨t,k2,k4⟩:=ht i hi'
  exact⟨i',k1,t⁻¹*e,λj hj=>by have q1:=k3 j;have q2:=k4 j hj;grind⟩
 refine⟨hi.len,hi.up,hi.lt,λl hl i hi'=>?_,λi h1 h2 j hj=>by show e.p⁻¹*atM e.S i j=0;rw [hi.low i h1 h2 j hj,Rat.mul_zero],λl hl j hj=>by show e.p⁻¹*atM e.S l j=0;rw [hi.fore l hl j hj,Rat.mul_zero],λi hi' j hj=>?_,λl hl=>?_⟩
 ·show e.p⁻¹*atM e.S i (e.ld.getD l 0)=_
  rw [hi.piv l hl i hi']
  split<;>grind
 ·obtain⟨i',k1,t,k2⟩:=r2 i hi'
  have e1:=hi.back i' k1 j hj
  have e2:(if e.ld.length<=i' then atM e.S i' j else 0)=0:=by
   split
   ·next h=>exact hi.low i' h k1 j hj
   ·rfl
  rw [e2,Rat.add_zero] at e1
  have e3:zaE e.ld.length (λl=>M i (e.ld.getD l 0)*(e.p⁻¹*atM e.S l j))=t*e.p⁻¹*zaE e.ld.length (λl=>a i' (e.ld.getD l 0)*atM e.S l j):=by
   rw [zaV]
   exact zau λl hl=>by rw [k2 _ (by have:=hi.lt l hl;omega)];grind
  show M i j=zaE e.ld.length (λl=>M i (e.ld.getD l 0)*(e.p⁻¹*atM e.S l j))
  rw [e3,k2 j hj,<-e1]
  grind
 ·have hk:=hi.len
  have e1:∀j,j<m->atM e.S l j=zaE e.ld.length λq=>zbD e.ld.length (zbF (λi j=>a i (e.ld.getD j 0)) l λi=>if i=q then 1 else 0)*a q j:=λj hj=>by
   rw [hi.col hl hj]
   have:zbD e.ld.length (zbF (λi j=>a i (e.ld.getD j 0)) l λi=>a i j)=zbD e.ld.length (zbF (λi j=>a i (e.ld.getD j 0)) l λi=>zaE e.ld.length λq=>a q j*if i=q then 1 else 0):=zcK λi hi' j' _=>by
    by_cases e:j'=l
    ·rw [e,zcd,zcd,<-zen hi' (λq=>a q j)]
     exact zau λq _=>by
      rw [Rat.mul_comm];congr 1
      by_cases h:q=i
      ·rw [if_pos h,if_pos h.symm]
      ·rw [if_neg h,if_neg (Ne.symm h)]
    ·rw [zce _ e,zce _ e]
   rw [this,zgw _ hl (λq=>a q j) (λq i=>if i=q then 1 else 0)]
   exact zau λq _=>Rat.mul_comm _ _
  have e2:∀q,q<e.ld.length->Sp n m M (a q):=λq hq=>by
   obtain⟨i',k1,t,k2⟩:=r1 q (by omega)
   exact(Sp.row k1).scale t k2
  exact(Sp.sum _ e2).scale e.p⁻¹ λj hj=>by rw [<-e1 j hj]
theorem RF.of_span {n m:Nat}{M R:Nat->Nat->Rat}{ld:List Nat}(h:RF n m M ld R){v:Nat->Rat}(hv:Sp n m M v):∀j,j<m->v j=zaE ld.length λl=>v (ld.getD l 0)*R l j:=by
 obtain⟨y,hy⟩:=hv
 intro j hj
 rw [hy j hj]
 have e1:zaE n (λi=>y i*M i j)=zaE n (λi=>zaE ld.length λl=>y i*M i (ld.getD l 0)*R l j):=zau λi hi=>by
  rw [h.sum i hi j hj,zaV]
  exact zau λl _=>by grind
 rw [e1,zfJ]
 refine zau λl hl=>?_
 rw [hy _ (h.lt l hl),Rat.mul_comm,zaV]
 exact zau λi _=>Rat.mul_comm _ _
theorem RF.begins {n m:Nat}{M R:Nat->Nat->Rat}{ld:List Nat}(h:RF n m M ld R){v:Nat->Rat}(hv:Sp n m M v){c:Nat}(hc:c<m)(h0:∀j,j<c->v j=0)(h1:v c≠0):∃l,l<ld.length/\ld.getD l 0=c:=by
 refine Classical.byContradiction λhn=>h1 ?_
 rw [h.of_span hv c hc]
 refine zcv λl hl=>?_
 rcases Nat.lt_trichotomy (ld.getD l 0) c with a|a|a
 ·rw [h0 _ a,Rat.zero_mul]
 ·exact absurd ⟨l,hl,a⟩ hn
 ·rw [h.fore l hl c a,Rat.mul_zero]
theorem zjO:∀{xs ys:List Nat},xs.Pairwise (·<·)->ys.Pairwise (·<·)->(∀x,x ∈ xs↔x ∈ ys)->xs=ys
 |[],[],_,_,_=>rfl
 |[],y::ys,_,_,h=>by have:=(h y).2 List.mem_cons_self;cases this
 |x::xs,[],_,_,h=>by have:=(h x).1 List.mem_cons_self;cases this
 |x::xs,y::ys,h1,h2,h=>by
   rw [List.pairwise_cons] at h1 h2
   have e:x=y:=by
    rcases List.mem_cons.1 ((h x).1 List.mem_cons_self) with a|a
    ·exact a
    ·rcases List.mem_cons.1 ((h y).2 List.mem_cons_self) with b|b
     ·exact b.symm
     ·have:=h1.1 y b;have:=h2.1 x a;omega
   subst e
   congr 1
   refine zjO h1.2 h2.2 λz=>⟨λhz=>?_,λhz=>?_⟩
   ·rcases List.mem_cons.1 ((h z).1 (List.mem_cons_of_mem _ hz)) with a|a
    ·have:=h1.1 z hz;omega
    ·exact a
   ·rcases List.mem_cons.1 ((h z).2 (List.mem_cons_of_mem _ hz)) with a|a
    ·have:=h2.1 z hz;omega
    ·exact a
theorem zeh {xs:List Nat}{l:Nat}(h:l<xs.length):xs.getD l 0 ∈ xs:=by
 rw [List.getD_eq_getElem?_getD,List.getElem?_eq_getElem h];exact List.getElem_mem h
theorem ziC {xs:List Nat}{x:Nat}(h:x ∈ xs):∃l,l<xs.length/\xs.getD l 0=x:=by
 obtain⟨l,hl,e⟩:=List.mem_iff_getElem.1 h
 exact⟨l,hl,by rw [List.getD_eq_getElem?_getD,List.getElem?_eq_getElem hl];exact e⟩
theorem RF.rising {n m:Nat}{M R:Nat->Nat->Rat}{ld:List Nat}(h:RF n m M ld R):ld.Pairwise (·<·):=by
 rw [List.pairwise_iff_getElem]
 intro i j hi hj hij
 have:=h.up i j hij hj
 rw [List.getD_eq_getElem?_getD,List.getD_eq_getElem?_getD,List.getElem?_eq_getElem hi,List.getElem?_eq_getElem hj] at this
 exact this
theorem RF.one {n m n':Nat}{M R M' R':Nat->Nat->Rat}{ld ld':List Nat}(h:RF n m M ld R)(k:RF n' m M' ld' R')(h1:∀i,i<n'->Sp n m M (M' i))(h2:∀i,i<n->Sp n' m M' (M i)):ld=ld'/\∀l,l<ld.length->∀j,j<m->R l j=R' l j:=by
 have s1:∀l,l<ld'.length->Sp n m M (R' l):=λl hl=>(k.span l hl).trans h1
 have s2:∀l,l<ld.length->Sp n' m M' (R l):=λl hl=>(h.span l hl).trans h2
 have e:ld=ld':=by
  refine zjO h.rising k.rising λx=>⟨λhx=>?_,λhx=>?_⟩
  ·obtain⟨l,hl,rfl⟩:=ziC hx
   obtain⟨q,hq,e⟩:=k.begins (s2 l hl) (h.lt l hl) (h.fore l hl) (by rw [h.piv l hl l (by have:=h.len;omega),if_pos rfl];decide+kernel)
   rw [<-e];exact zeh hq
  ·obtain⟨l,hl,rfl⟩:=ziC hx
   obtain⟨q,hq,e⟩:=h.begins (s1 l hl) (k.lt l hl) (k.fore l hl) (by rw [k.piv l hl l (by have:=k.len;omega),if_pos rfl];decide+kernel)
   rw [<-e];exact zeh hq
 subst e
 refine⟨rfl,λl hl j hj=>?_⟩
 have hk:=h.len
 rw [k.of_span (s2 l hl) j hj]
 have:zaE ld.length (λq=>R l (ld.getD q 0)*R' q j)=zaE ld.length (λq=>(if q=l then 1 else 0)*R' q j):=zau λq hq=>by
  rw [h.piv q hq l (by omega)]
  by_cases e:q=l
  ·rw [if_pos e,if_pos e.symm]
  ·rw [if_neg e,if_neg (Ne.symm e)]
 rw [this,zen hl]
def kerF (ld:List Nat)(R:Nat->Nat->Rat)(c:Nat):Nat->Rat:=λj=>(if j=c then 1 else 0) - zaE ld.length λq=>(if j=ld.getD q 0 then 1 else 0)*R q c
theorem zoX {ld:List Nat}{R:Nat->Nat->Rat}{c j:Nat}(h:j ∉ ld):kerF ld R c j=if j=c then 1 else 0:=by
 unfold kerF
 rw [zcv λq hq=>by rw [if_neg (λe:j=ld.getD q 0=>h (by rw [e];exact zeh hq)),Rat.zero_mul]]
 grind
theorem RF.inj {n m:Nat}{M R:Nat->Nat->Rat}{ld:List Nat}(h:RF n m M ld R){l q:Nat}(hl:l<ld.length)(hq:q<ld.length)(e:ld.getD l 0=ld.getD q 0):l=q:=by
 rcases Nat.lt_trichotomy l q with a|a|a
 ·have:=h.up l q a hq;omega
 ·exact a
 ·have:=h.up q l a hl;omega
theorem sumN_sub (k:Nat)(f g:Nat->Rat):zaE k (λi=>f i - g i)=zaE k f - zaE k g:=by
 have:=zft k f (λi=> -g i)
 rw [zmg] at this
 rw [Rat.sub_eq_add_neg,<-this]
 exact zau λi _=>Rat.sub_eq_add_neg _ _
theorem RF.ker {n m:Nat}{M R:Nat->Nat->Rat}{ld:List Nat}(h:RF n m M ld R){c:Nat}(hcm:c<m){i:Nat}(hi:i<n):zaE m (λj=>M i j*kerF ld R c j)=0:=by
 have hk:=h.len
 have e1:zaE m (λj=>M i j*kerF ld R c j)=zaE m (λj=>(if j=c then 1 else 0)*M i j) - zaE m (λj=>zaE ld.length λq=>(if j=ld.getD q 0 then 1 else 0)*(M i j*R q c)):=by
  rw [<-sumN_sub]
  refine zau λj _=>?_
  unfold kerF
  have:zaE ld.length (λq=>(if j=ld.getD q 0 then 1 else 0)*(M i j*R q c))=M i j*zaE ld.length (λq=>(if j=ld.getD q 0 then 1 else 0)*R q c):=by
   rw [zaV];exact zau λq _=>by grind
  rw [this];grind
 rw [e1,zen hcm,zfJ]
 have e2:zaE ld.length (λq=>zaE m λj=>(if j=ld.getD q 0 then 1 else 0)*(M i j*R q c))=zaE ld.length (λq=>M i (ld.getD q 0)*R q c):=zau λq hq=>zen (h.lt q hq) λj=>M i j*R q c
 rw [e2,<-h.sum i hi c hcm]
 grind
theorem all_in:∀{m:Nat} {ld:List Nat},(∀c,c<m->c ∈ ld)->m<=ld.length
 |0,_,_=>Nat.zero_le _
 |m+1,ld,h=>by
   have h1:=h m (by omega)
   have h2:=all_in (m:=m) (ld:=ld.erase m) λc hc=>(List.mem_erase_of_ne (by omega)).2 (h c (by omega))
   rw [List.length_erase_of_mem h1] at h2
   have:=List.length_pos_of_mem h1
   omega
theorem zlt {ld:List Nat}{m:Nat}(h:ld.length<m):∃c,c<m/\c ∉ ld:=by
 refine Classical.byContradiction λhn=>?_
 have:=all_in (m:=m) (ld:=ld) λc hc=>Classical.byContradiction λh=>hn ⟨c,hc,h⟩
 omega
theorem RF.some (n m:Nat)(G:Nat->Nat->Rat):∃ld R,RF n m G ld R:=by
 have h:=zhN (zeo n m G) (Nat.le_refl m)
 refine⟨_,_,RF.of_elim h λi hi=>⟨1,by decide+kernel,λj hj=>by rw [zos hi hj,Rat.one_mul]⟩⟩
theorem ker_some {k k':Nat}(h:k<k')(G:Nat->Nat->Rat):∃v:Nat->Rat,(∃r,r<k'/\v r≠0)/\∀l,l<k->zaE k' (λr=>G l r*v r)=0:=by
 obtain⟨ld,R,hr⟩:=RF.some k k' G
 obtain⟨c,hc,hn⟩:=zlt (ld:=ld) (m:=k') (by have:=hr.len;omega)
 refine⟨kerF ld R c,⟨c,hc,?_⟩,λl hl=>hr.ker hc hl⟩
 rw [zoX hn,if_pos rfl];decide+kernel
theorem zok {n m:Nat}{M R R':Nat->Nat->Rat}{ld ld':List Nat}(h:RF n m M ld R)(k:RF m n (λi j=>M j i) ld' R'):ld'.length<=ld.length:=by
 refine Nat.le_of_not_lt λhlt=>?_
 obtain⟨v,⟨r,hr,hv⟩,h0⟩:=ker_some hlt λl q=>M (ld'.getD q 0) (ld.getD l 0)
 refine hv ?_
 obtain⟨y,hy⟩:=k.span r hr
 -- v r is the sum of all that leads,each so often
 have e1:v r=zaE ld'.length λq=>R' r (ld'.getD q 0)*v q:=by
  have:zaE ld'.length (λq=>R' r (ld'.getD q 0)*v q)=zaE ld'.length (λq=>(if q=r then 1 else 0)*v q):=zau λq hq=>by
   rw [k.piv q hq r (by have:=k.len;omega)]
   by_cases e:r=q
   ·rw [if_pos e,if_pos e.symm]
   ·rw [if_neg e,if_neg (Ne.symm e)]
  rw [this,zen hr]
 have e2:∀q,q<ld'.length->R' r (ld'.getD q 0)=zaE ld.length λl=>(zaE m λj=>y j*R l j)*M (ld'.getD q 0) (ld.getD l 0):=λq hq=>by
  have hq':=k.lt q hq
  rw [hy _ hq']
  have:zaE m (λj=>y j*M (ld'.getD q 0) j)=zaE m (λj=>zaE ld.length λl=>y j*R l j*M (ld'.getD q 0) (ld.getD l 0)):=zau λj hj=>by
   rw [h.sum _ hq' j hj,zaV]
   exact zau λl _=>by grind
  rw [this,zfJ]
  refine zau λl _=>?_
  rw [Rat.mul_comm,zaV]
  exact zau λj _=>Rat.mul_comm _ _
 rw [e1]
 have e3:zaE ld'.length (λq=>R' r (ld'.getD q 0)*v q)=zaE ld'.length (λq=>zaE ld.length λl=>(zaE m λj=>y j*R l j)*(M (ld'.getD q 0) (ld.getD l 0)*v q)):=zau λq hq=>by
  rw [e2 q hq,Rat.mul_comm,zaV]
  exact zau λl _=>by grind
 rw [e3,zfJ]
 exact zcv λl hl=>by rw [<-zaV,h0 l hl,Rat.mul_zero]
theorem zpl {n m:Nat}{M R R':Nat->Nat->Rat}{ld ld':List Nat}(h:RF n m M ld R)(k:RF m n (λi j=>M j i) ld' R'):ld'.length=ld.length:=
 Nat.le_antisymm (zok h k) (zok (M:=λi j=>M j i) k h)
