/- What this claim leans on. -/
import Derived.Test.YtcojjcjgbepicaaGreatDoorKJ8Etc
namespace Go.Proofs.YtcojjcjgbepicaaGreatDoor
open Go Go.RowKit
set_option maxHeartbeats 16000000
set_option maxRecDepth 100000
set_option linter.unusedVariables false
set_option linter.unusedSimpArgs false
theorem zbs {K L:Nat}{r:Rat}{xs:List Rat}{A:oA9}{n c:Nat}{w:World}{s:Bool}{D:oA9}{m e9:Nat}{U:oA9}{u v:Nat}(hT:zai w)(hr:zah w r s D m e9 U u v)(ha:zaC w A n c xs)(zr:SzQ L r)(hx:zar K xs)(hn:n<=1073741824:=by omega)(hK:K<=67108864:=by omega)(hL:L<=67108864:=by omega):
  Calls Tryz.prog 136 #[.agg #[.bool s,.slice D m e9,.slice U u v],.slice A n c] w (zea w n (zaH r xs)):=by
 have hla:=ha.len
 have hlz:(zaH r xs).length=n:=by unfold zaH;rw [List.length_map];exact hla
 have HGI:∀i,i<n->(zaH r xs)[i]?=some (r*xs.getD i 0):=λi hi=>by
  unfold zaH
  rw [List.getElem?_map,List.getD_eq_getElem?_getD,List.getElem?_eq_getElem (by omega)];rfl
 have HSX:Hid (∀i,i<n->SzQ K (xs.getD i 0)):=λi hi=>hx.at_ (by omega)
 unfold zea
 obtain⟨zs,hzs⟩:∃zs,zaH r xs=zs:=⟨_,rfl⟩
 rw [hzs] at HGI hlz⊢
 have HG:=lh9 HGI
 have HLZ:=lh9 hlz
 have HZR:=lh9 zr
 obtain⟨bx1,bx2,bz⟩:=zax w 53 #[.bool s,.slice D m e9,.slice U u v]
 have HA:=lh9 ha
 have HT:=lh9 (λw' (hb:Below w.heap.size w w')=>hT.on hb)
 have HR:=lh9 (λw' (hb:Below w.heap.size w w')=>hr.below hb)
 have HB0:=lh9 bx1
 have HK0:=lh9 bx2
 obtain⟨Z,hZ⟩:=zdI n (by omega)
 have hmk:=λW=>(hZ W).1
 have HOWN:=lh9 (λW=>(hZ W).2)
 clear hT hr ha zr hx hla hlz hzs HGI hZ bx1 bx2 bz
 have i0:(0:Int)<=(n:Int):=by omega
 go_enter Tryz.func136,Tryz.ntmps136
 go_wp2_with fail
 clear hmk
 obtain⟨W0,hW0⟩:∃W,w.alloc (.cells #[.bool s,.slice D m e9,.slice U u v] 53)=W:=⟨_,rfl⟩
 rw [hW0] at HB0 HK0
 have hrow:=HOWN.out W0
 have hB0:=HB0.out
 have hsz:W0.heap.size=w.heap.size+1:=by rw [<-hW0];simp
 simp only [hW0] at*
 have hB1:Below W0.heap.size W0 (W0.alloc (.cells Z 53)):=(Below.refl _ W0).alloc (Nat.le_refl _) _
 have hkx:=zab hB1 HK0.out
 have hB:=zaa hB0 hB1
 rw [hsz] at hrow
 clear hW0 HB0 HK0 hB0 hB1 hsz HOWN
 generalize W0.alloc (.cells Z 53)=W1 at*
 obtain⟨gp,hgp⟩:∃g,w.heap.size+1=g:=⟨_,rfl⟩
 rw [hgp] at hrow⊢
 rw [<-zbE 0 zs n] at hrow
 have hwg:w.heap.size+1<=gp:=by omega
 clear hgp
 go_loopg [13] (n+1) (λg ix wr=>∃(k:Nat),k<=n/\n<g+k/\ix=.int .i64 k/\zbL wr gp n (zco 0 zs n k)/\Below w.heap.size w wr/\Blk wr w.heap.size 53 #[.bool s,.slice D m e9,.slice U u v])
 case atStart=>exact⟨0,Nat.zero_le _,by omega,rfl,hrow,hB,hkx⟩
 case round=>
  clear hrow hB hkx
  obtain⟨k,hkn,hg,rfl,hrow,hB,hkx⟩:=hrel
  by_cases hlt:k<n
  ·obtain⟨ad,b1,B1,m1,d1,E1,u1,v1,rfl,-,hc0,hc1,hc2,hx⟩:=HA.out.get hB hlt
   have hd1:decide ((k:Int)<(n:Int))=true:=decide_eq_true (by omega)
   have i1:(0:Int)<=(k:Int):=by omega
   have i2:(k:Int)<(n:Int):=by omega
   obtain⟨st,d3,d4⟩:=zax wr 53 #[.bool b1,.slice B1 m1 d1,.slice E1 u1 v1]
   obtain⟨p0,p1,p2⟩:=d3.c3
   obtain⟨g0,g1,g2⟩:=(zab st hkx).c3
   have HX:=lh9 (hx.below st)
   have HROW:=lh9 (hrow.keep st)
   have HB1:=lh9 (zaa hB st)
   have HKX:=lh9 (zab st hkx)
   clear hx hrow hB st d3 d4 hkx
   go_wp2_with fail
   (with_reducible refine(zfm (HT.out _ HB1.out) (HR.out _ HB1.out) HX.out HZR.out (HSX.out k hlt) hL hK).mono ?_)
   rintro e w3 ⟨b3,A3,n3,c3,E3,k3,f3,rfl,hw3,hb⟩
   clear hc0 hc1 hc2 p0 p1 p2 g0 g1 g2
   have hr3:=HROW.out.keep hb
   have hr4:=zbf.set_ zaf hr3 hlt hw3
   rw [zbV 0 zs n k HLZ.out hlt _ (HG.out k hlt)] at hr4
   obtain⟨q0,q1,q2,sc0,sf0,sc1,sf1,sc2,sf2⟩:=hr3.ready hlt (.bool b3) (.slice A3 n3 c3)
   have HR4:=lh9 hr4
   have HB4:=lh9 (zbB (k*3) (k*3+1) (k*3+2) (.bool b3) (.slice A3 n3 c3) (.slice E3 k3 f3) (show w.heap.size<=gp by omega) (zaa HB1.out hb))
   have HK4:=lh9 (Blk.far (p:=⟨gp,k*3+2,none⟩) (Blk.far (p:=⟨gp,k*3+1,none⟩) (Blk.far (p:=⟨gp,k*3,none⟩) (zab hb HKX.out) (by show w.heap.size≠gp;omega) (.bool b3)) (by show w.heap.size≠gp;omega) (.slice A3 n3 c3)) (by show w.heap.size≠gp;omega) (.slice E3 k3 f3))
   clear hr3 hr4 hb hw3 HX HROW HB1 HKX
   go_wp2
   go_roundg (n - k)
   case measure=>omega
   case rel=>exact⟨k+1,by omega,by omega,by go_num,HR4.out,HB4.out,HK4.out⟩
  ·have hk:k=n:=by omega
   subst hk
   have hd1:decide ((k:Int)<(k:Int))=false:=by simp
   have HR5:=lh9 (zbU 0 zs k HLZ.out▸hrow)
   have HB1:=lh9 hB
   have hge:w.heap.size<=gp:=by omega
   clear hrow hB hkx
   go_wp2
   go_ret
   exact⟨gp,rfl,hge,HR5.out,HB1.out⟩
structure zda (w:World)(A:oA9)(n:Nat)(zs:List Int):Prop where
 len:zs.length=n
 ints:∀i,i<n-> -9223372036854775808<=zs.getD i 0/\zs.getD i 0<=9223372036854775807
 num:∀i,i<n->∃ad:Addr,A=some ad/\w.cell? (ad.add i)=some (.int .i64 (zs.getD i 0))
def ofL (zs:List Int):List Rat:=zs.map λz:Int=>(z:Rat)
theorem zdw {zs:List Int}{A:oA9}{n c:Nat}{w:World}(hT:zai w)(ha:zda w A n zs)(hn:n<=1073741824:=by omega):
  Calls Tryz.prog 58 #[.slice A n c] w (zea w n (ofL zs)):=by
 have hla:=ha.len
 have hlz:(ofL zs).length=n:=by unfold ofL;rw [List.length_map];exact hla
 have HGI:∀i,i<n->(ofL zs)[i]?=some ((zs.getD i 0:Int):Rat):=λi hi=>by
  unfold ofL
  rw [List.getElem?_map,List.getD_eq_getElem?_getD,List.getElem?_eq_getElem (by omega)];rfl
 have HI:=lh9 ha.ints
 unfold zea
 obtain⟨ys,hys⟩:∃ys,ofL zs=ys:=⟨_,rfl⟩
 rw [hys] at HGI hlz⊢
 have HG:=lh9 HGI
 have HLZ:=lh9 hlz
 have HA:=lh9 ha.num
 have HT:=lh9 (λw' (hb:Below w.heap.size w w')=>hT.on hb)
 obtain⟨Z,hZ⟩:=zdI n (by omega)
 have hmk:=λW=>(hZ W).1
 have HOWN:=lh9 (λW=>(hZ W).2)
 clear hT ha hla hlz hys HGI hZ
 have i0:(0:Int)<=(n:Int):=by omega
 go_enter Tryz.func58,Tryz.ntmps58
 go_wp2_with fail
 clear hmk
 have hrow:=HOWN.out w
 have hB:Below w.heap.size w (w.alloc (.cells Z 53)):=(Below.refl _ w).alloc (Nat.le_refl _) _
 obtain⟨gp,hgp⟩:∃g,w.heap.size=g:=⟨_,rfl⟩
 have hwg:w.heap.size<=gp:=by omega
 rw [hgp] at hrow⊢
 rw [<-zbE 0 ys n] at hrow
 generalize w.alloc (.cells Z 53)=W1 at*
 clear hgp HOWN
 go_loopg [11] (n+1) (λg ix wr=>∃(k:Nat),k<=n/\n<g+k/\ix=.int .i64 k/\zbL wr gp n (zco 0 ys n k)/\Below w.heap.size w wr)
 case atStart=>exact⟨0,Nat.zero_le _,by omega,rfl,hrow,hB⟩
 case round=>
  clear hrow hB
  obtain⟨k,hkn,hg,rfl,hrow,hB⟩:=hrel
  by_cases hlt:k<n
  ·obtain⟨ad,rfl,hc⟩:=HA.out k hlt
   have hc0:=zac hB hc
   obtain⟨z1,z2⟩:=HI.out k hlt
   have HGK:=lh9 (HG.out k hlt)
   obtain⟨z,hz⟩:∃z,zs.getD k 0=z:=⟨_,rfl⟩
   rw [hz] at hc0 z1 z2 HGK
   have hd1:decide ((k:Int)<(n:Int))=true:=decide_eq_true (by omega)
   have i1:(0:Int)<=(k:Int):=by omega
   have i2:(k:Int)<(n:Int):=by omega
   have HROW:=lh9 hrow
   have HB1:=lh9 hB
   clear hrow hB hc hz
   go_wp2_with fail
   (with_reducible refine(zcX z _ (HT.out _ HB1.out) z1 z2).mono ?_)
   rintro e w3 ⟨b3,A3,n3,c3,E3,k3,f3,rfl,hw3,hb⟩
   clear hc0
   have hr3:=HROW.out.keep hb
   have hr4:=zbf.set_ zaf hr3 hlt hw3
   rw [zbV 0 ys n k HLZ.out hlt _ HGK.out] at hr4
   obtain⟨q0,q1,q2,sc0,sf0,sc1,sf1,sc2,sf2⟩:=hr3.ready hlt (.bool b3) (.slice A3 n3 c3)
   have HR4:=lh9 hr4
   have HB4:=lh9 (zbB (k*3) (k*3+1) (k*3+2) (.bool b3) (.slice A3 n3 c3) (.slice E3 k3 f3) hwg (zaa HB1.out hb))
   clear hr3 hr4 hb hw3 HROW HB1
   go_wp2
   go_roundg (n - k)
   case measure=>omega
   case rel=>exact⟨k+1,by omega,by omega,by go_num,HR4.out,HB4.out⟩
  ·have hk:k=n:=by omega
   subst hk
   have hd1:decide ((k:Int)<(k:Int))=false:=by simp
   have HR5:=lh9 (zbU 0 ys k HLZ.out▸hrow)
   have HB1:=lh9 hB
   clear hrow hB
   go_wp2
   go_ret
   exact⟨gp,rfl,hwg,HR5.out,HB1.out⟩
theorem zme {K:Nat}{xs:List Rat}{A:oA9}{n c:Nat}{w:World}(hT:zai w)(ha:zaC w A n c xs)(hx:zar K xs)(hn:n<=1073741824:=by omega)(hK:K+2<=67108864:=by omega):
  Calls Tryz.prog 96 #[.slice A n c] w (zea w n xs):=by
 have hla:=ha.len
 have HG:Hid (∀i,i<n->xs[i]?=some (xs.getD i 0)):=λi hi=>by
  rw [List.getD_eq_getElem?_getD,List.getElem?_eq_getElem (by omega)];rfl
 have HSX:Hid (∀i,i<n->zar K [xs.getD i 0]):=λi hi y hy=>by
  rw [List.mem_singleton.1 hy];exact hx.at_ (by omega)
 unfold zea
 have HLZ:=lh9 hla
 have HA:=lh9 ha
 have HT:=lh9 (λw' (hb:Below w.heap.size w w')=>hT.on hb)
 obtain⟨Z,hZ⟩:=zdI n (by omega)
 have hmk:=λW=>(hZ W).1
 have HOWN:=lh9 (λW=>(hZ W).2)
 clear hT ha hx hla hZ
 have i0:(0:Int)<=(n:Int):=by omega
 go_enter Tryz.func96,Tryz.ntmps96
 go_wp2_with fail
 clear hmk
 have hrow:=HOWN.out w
 have hB:Below w.heap.size w (w.alloc (.cells Z 53)):=(Below.refl _ w).alloc (Nat.le_refl _) _
 obtain⟨gp,hgp⟩:∃g,w.heap.size=g:=⟨_,rfl⟩
 have hwg:w.heap.size<=gp:=by omega
 rw [hgp] at hrow⊢
 rw [<-zbE 0 xs n] at hrow
 generalize w.alloc (.cells Z 53)=W1 at*
 clear hgp HOWN
 go_loopg [11] (n+1) (λg ix wr=>∃(k:Nat),k<=n/\n<g+k/\ix=.int .i64 k/\zbL wr gp n (zco 0 xs n k)/\Below w.heap.size w wr)
 case atStart=>exact⟨0,Nat.zero_le _,by omega,rfl,hrow,hB⟩
 case round=>
  clear hrow hB
  obtain⟨k,hkn,hg,rfl,hrow,hB⟩:=hrel
  by_cases hlt:k<n
  ·obtain⟨ad,b1,B1,m1,d1,E1,u1,v1,rfl,-,hc0,hc1,hc2,hx⟩:=HA.out.get hB hlt
   have hd1:decide ((k:Int)<(n:Int))=true:=decide_eq_true (by omega)
   have i1:(0:Int)<=(k:Int):=by omega
   have i2:(k:Int)<(n:Int):=by omega
   obtain⟨s1,t1,t2,t3⟩:=zbC wr 53 53 #[.bool b1,.slice B1 m1 d1,.slice E1 u1 v1] #[.bool b1,.slice B1 m1 d1,.slice E1 u1 v1]
   have t1':=(zax wr 53 #[.bool b1,.slice B1 m1 d1,.slice E1 u1 v1]).2.1
   obtain⟨p0,p1,p2⟩:=t1'.c3
   have HL1:=lh9 (zmg t2 (hx.below s1))
   have HROW:=lh9 (hrow.keep s1)
   have HB1:=lh9 (zaa hB s1)
   clear hx hrow hB s1 t1 t2 t3 t1'
   go_wp2_with fail
   (with_reducible refine(q_sum (HT.out _ HB1.out) HL1.out (HSX.out k hlt) (by decide) (by omega)).mono ?_)
   rintro e w3 ⟨b3,A3,n3,c3,E3,k3,f3,rfl,hw3,hb⟩
   clear hc0 hc1 hc2 p0 p1 p2
   have hw3:zah w3 (xs.getD k 0) b3 A3 n3 c3 E3 k3 f3:=by
    have e:zdz [xs.getD k 0]=xs.getD k 0:=by rw [zgk,zjP,Rat.add_zero]
    rw [e] at hw3
    exact hw3
   have hr3:=HROW.out.keep hb
   have hr4:=zbf.set_ zaf hr3 hlt hw3
   rw [zbV 0 xs n k HLZ.out hlt _ (HG.out k hlt)] at hr4
   obtain⟨q0,q1,q2,sc0,sf0,sc1,sf1,sc2,sf2⟩:=hr3.ready hlt (.bool b3) (.slice A3 n3 c3)
   have HR4:=lh9 hr4
   have HB4:=lh9 (zbB (k*3) (k*3+1) (k*3+2) (.bool b3) (.slice A3 n3 c3) (.slice E3 k3 f3) hwg (zaa HB1.out hb))
   clear hr3 hr4 hb hw3 HROW HB1 HL1
   go_wp2
   go_roundg (n - k)
   case measure=>omega
   case rel=>exact⟨k+1,by omega,by omega,by go_num,HR4.out,HB4.out⟩
  ·have hk:k=n:=by omega
   subst hk
   have hd1:decide ((k:Int)<(k:Int))=false:=by simp
   have HR5:=lh9 (zbU 0 xs k HLZ.out▸hrow)
   have HB1:=lh9 hB
   clear hrow hB
   go_wp2
   go_ret
   exact⟨gp,rfl,hwg,HR5.out,HB1.out⟩
theorem ziZ (n:Nat)(w:World)(hn:n<=64):Calls Tryz.prog 98 #[.int .i64 (n:Int)] w (zcT w n (List.replicate n 0)):=by
 unfold zcT
 obtain⟨ys,hys⟩:∃ys,List.replicate n (0:Rat)=ys:=⟨_,rfl⟩
 obtain⟨Z,hZ⟩:=zdI n (by omega)
 have hmk:=λW=>(hZ W).1
 have HOWN:=lh9 (hZ w).2
 rw [hys] at HOWN⊢
 have hd:decide ((n:Int)<0)=false:=decide_eq_false (by omega)
 have hd2:decide (64<(n:Int))=false:=decide_eq_false (by omega)
 have hd3:decide ((n:Int)>64)=false:=decide_eq_false (by omega)
 have hB:=lh9 ((Below.refl _ w).alloc (Nat.le_refl _) (.cells Z 53))
 clear hZ hys
 go_enter Tryz.func98,Tryz.ntmps98
 go_wp2
 go_ret2
 exact⟨_,rfl,Nat.le_refl _,HOWN.out,hB.out⟩
def zfw (n k:Nat):List Rat:=(List.replicate n 0).set k 1
theorem vec_unit (n k:Nat)(w:World)(hT:zai w)(hn:n<=64)(hk:k<n):Calls Tryz.prog 83 #[.int .i64 (n:Int),.int .i64 (k:Int)] w (zcT w n (zfw n k)):=by
 have H:=lh9 (ziZ n w hn)
 have HT:=lh9 (λw' (hb:Below w.heap.size w w')=>hT.on hb)
 have HU:Hid (zfw n k=(List.replicate n 0).set k 1):=rfl
 unfold zcT
 obtain⟨us,hus⟩:∃us,zfw n k=us:=⟨_,rfl⟩
 rw [hus] at HU⊢
 have hd:decide ((k:Int)<0)=false:=decide_eq_false (by omega)
 have hd2:decide (n<=k)=false:=decide_eq_false (by omega)
 have hd3:decide ((n:Int)<=(k:Int))=false:=decide_eq_false (by omega)
 have hd4:decide ((k:Int)>=(n:Int))=false:=decide_eq_false (by omega)
 have i1:(0:Int)<=(k:Int):=by omega
 have i2:(k:Int)<(n:Int):=by omega
 clear hT hus
 go_enter Tryz.func83,Tryz.ntmps83
 go_wp2_with fail
 refine H.out.mono ?_
 rintro e w1 ⟨g,rfl,h1,h2,hb⟩
 have HR:=lh9 h2
 have HB:=lh9 hb
 clear h2 hb H
 go_wp2_with fail
 (with_reducible refine(zcX 1 _ (HT.out _ HB.out) (by decide) (by decide)).mono ?_)
 rintro e w3 ⟨b3,A3,n3,c3,E3,k3,f3,rfl,hw3,hb⟩
 have hr3:=HR.out.keep hb
 have hr4:=zbf.set_ zaf hr3 hk hw3
 have e1:((1:Int):Rat)=1:=rfl
 rw [e1,<-HU.out] at hr4
 obtain⟨q0,q1,q2,sc0,sf0,sc1,sf1,sc2,sf2⟩:=hr3.ready hk (.bool b3) (.slice A3 n3 c3)
 have HR4:=lh9 hr4
 have HB4:=lh9 (zbB (k*3) (k*3+1) (k*3+2) (.bool b3) (.slice A3 n3 c3) (.slice E3 k3 f3) h1 (zaa HB.out hb))
 clear hr3 hr4 hb hw3 HR HB e1
 go_wp2
 go_ret2
 exact⟨g,rfl,h1,HR4.out,HB4.out⟩
def zcj (u:Value):Prop:=∃A n c,u=.slice A n c
def zbN (w:World)(v:Value):Prop:=∀g,v.ownBlock=some g->∃(cur:Array Value) (e:TypeId),w.heap[g]?=some (.cells cur e (0,0))/\∀u ∈ cur.toList,zcj u
theorem zbN.nil (w:World)(c:Nat):zbN w (.slice none 0 c):=λg h=>by simp [Value.ownBlock] at h
theorem zbN.block {w w':World}{v:Value}(h:zbN w v)(hg:∀g,v.ownBlock=some g->w'.heap[g]?=w.heap[g]?):zbN w' v:=λg e=>by
 obtain⟨cur,t,h1,h2⟩:=h g e
 exact⟨cur,t,(hg g e).trans h1,h2⟩
theorem zbN.below {w w':World}{v:Value}(h:zbN w v)(hb:Below w.heap.size w w'):zbN w' v:=λg e=>by
 obtain⟨cur,t,h1,h2⟩:=h g e
 exact⟨cur,t,(hb.block g (Array.getElem?_eq_some_iff.1 h1).1).trans h1,h2⟩
theorem zfx {z:Array Value}{k:Nat}{u:Value}(hz:0<z.size)(hu:u ∈(Builtin.zeroCells z k).toList):u ∈ z.toList:=by
 unfold Builtin.zeroCells at hu
 rw [Array.mem_toList_iff,Array.mem_map] at hu
 obtain⟨i,_,rfl⟩:=hu
 have hlt:i%z.size<z.size:=Nat.mod_lt _ hz
 rw [getElem!_pos z (i%z.size) hlt,Array.mem_toList_iff]
 exact Array.getElem_mem hlt
section
variable {P:Program}(w:World)
theorem zfU (base:Nat)(t ty e:TypeId)(i:TypeInfo)(z:Value)(size bytes:Nat)(ht:P.underlying t=some (.slice e))(hi:P.info? e=some i)(hz:i.zero=some z)
  (hsize:i.size=size) (hby:i.bytes=bytes) (hzs:z.cells.size=size) (hsz:0<size)
  (v:Value) (n:Nat) (xs:List Value) (hown:w.ownsRow base e size v n xs)
  (a:Addr) (m c:Nat) (news:List Value) (hl:news.length=m*size) (hnews:∀j u,news[j]?=some u->w.cell? (a.add j)=some u) (h1:∀u ∈ news,u.oneCell'=true)
  (h63:n+m<=maxLen) (hbytes:(n+m)*bytes<=140737488355328) (hbase:base<=w.heap.size)
  (hv:zbN w v) (hzn:∀u ∈ z.cells.toList,zcj u) (hnn:∀u ∈ news,zcj u):
  ∃ v' w',(Builtin.append_ #[t,t] ty #[v,.slice (some a) m c]).run P w = .ok v' w' ∧ w'.ownsRow base e size v' (n + m) (xs ++ news) ∧ w.grownBy w' v.ownBlock ∧
   (v'.ownBlock=v.ownBlock\/v'.ownBlock=some w.heap.size)/\zbN w' v':=by
 subst hsize
 subst hby
 have hsmall:n+m<=9223372036854775807:=by simp only [maxLen] at h63;omega
 have hlen:(xs++news).length=(n+m)*i.size:=by rw [List.length_append,hown.1,hl,Nat.add_mul]
 have grown : ∀ (old : Nat),old < n + m → (∀ u ∈ xs,zcj u) → ∀ (row : Option Nat),
   (w.drew.alloc (.cells (xs.toArray ++ news.toArray ++ Builtin.zeroCells z.cells (grownCap w (n + m) old e - (n + m))) e)).ownsRow base e i.size
     (.slice (some ⟨w.heap.size,0,none⟩) (n+m) (grownCap w (n+m) old e)) (n+m) (xs++news)/\
   w.grownBy (w.drew.alloc (.cells (xs.toArray++news.toArray++Builtin.zeroCells z.cells (grownCap w (n+m) old e - (n+m))) e)) row/\
   zbN (w.drew.alloc (.cells (xs.toArray++news.toArray++Builtin.zeroCells z.cells (grownCap w (n+m) old e - (n+m))) e)) (.slice (some ⟨w.heap.size,0,none⟩) (n+m) (grownCap w (n+m) old e)):=by
  intro old ho hxs row
  have hge:=grownCap_ge w (n+m) old e
  have hcm:grownCap w (n+m) old e<=maxLen:=grownCap_le_maxLen w (n+m) old e h63
  refine⟨⟨hlen,.inr ⟨w.heap.size,_,_,rfl,hbase,heap_alloc_new w.drew _,hge,hcm,?_,?_⟩⟩,⟨rfl,rfl,rfl,by simp,λk hk _=>heap_alloc_old w.drew _ hk⟩,?_⟩
  ·simp only [Array.size_append,List.size_toArray,size_zeroCells,hzs,hown.1,hl,<-Nat.add_mul]
   congr 1
   omega
  ·simp only [Array.toList_append,List.append_assoc]
   rw [<-List.append_assoc,<-hlen]
   exact List.take_left
  ·intro g hg
   simp [Value.ownBlock] at hg
   subst hg
   refine⟨_,_,heap_alloc_new w.drew _,λu hu=>?_⟩
   simp only [Array.toList_append,List.mem_append] at hu
   rcases hu with(hu|hu)|hu
   ·exact hxs u hu
   ·exact hnn u hu
   ·exact hzn u (zfx (by omega) hu)
 rcases hown.2 with⟨rfl,rfl⟩|⟨g,cap,cur,rfl,hbg,hg,hnc,hcm,hcs,htake⟩
 ·have hx:xs=[]:=List.eq_nil_of_length_eq_zero (by simpa using hown.1)
  subst hx
  by_cases hm:m=0
  ·subst hm
   have hn:news=[]:=List.eq_nil_of_length_eq_zero (by simpa using hl)
   subst hn
   refine⟨.slice none 0 0,w,?_,World.ownsRow_nil w base e i.size,⟨rfl,rfl,rfl,Nat.le_refl _,λ_ _ _=>rfl⟩,Or.inl rfl,zbN.nil _ _⟩
   simp [Builtin.append_,run_underlying ht,sizeOf,typeInfo,hi,Builtin.lenOf,Builtin.firstCells,loadCells,loadCellsFrom]
  ·have hr:=run_append_nil (P:=P) w t ty e i z ht hi hz a m c news hl hnews (by omega) (by omega) (by have hb:=hbytes;simp only [Nat.zero_add] at hb;omega)
   have hgr:=grown 0 (by omega) (λu hu=>by cases hu) (Value.ownBlock (.slice none 0 0))
   simp only [Nat.zero_add,List.nil_append,Array.empty_append] at hgr⊢
   exact⟨_,_,hr,hgr.1,hgr.2.1,Or.inr rfl,hgr.2.2⟩
 ·obtain⟨cur2,e2,hg2,hcn⟩:=hv g rfl
  have hcur:cur2=cur:=by
   rw [hg] at hg2
   injection hg2 with hg2
   injection hg2 with hg2
   exact hg2.symm
  subst hcur
  by_cases hroom:n+m<=cap
  ·have hfit:n*i.size+news.length<=cur2.size:=by rw [hl,hcs,<-Nat.add_mul];exact Nat.mul_le_mul_right _ hroom
   have hr:=run_append_room (P:=P) w t ty e i ht hi g n cap cur2 hg a m c news hl hnews h1 hroom hfit
   refine⟨_,_,hr,⟨hlen,.inr ⟨g,cap,_,rfl,hbg,setRow_heap w g cur2 _ e _ hg,hroom,hcm,?_,?_⟩⟩,⟨rfl,rfl,rfl,by simp,λk _ hk=>setRow_other w g k _ (λe=>hk (by simp [Value.ownBlock,e]))⟩,Or.inl rfl,?_⟩
   ·simp only [List.size_toArray,List.length_append,List.length_take,List.length_drop,Array.length_toList]
    omega
   ·rw [htake,<-hlen]
    exact List.take_left
   ·intro g' hg'
    simp [Value.ownBlock] at hg'
    subst hg'
    refine⟨_,_,setRow_heap w g cur2 _ e _ hg,λu hu=>?_⟩
    rw [List.mem_append,List.mem_append] at hu
    rcases hu with(hu|hu)|hu
    ·exact hcn u (List.mem_of_mem_take hu)
    ·exact hnn u hu
    ·exact hcn u (List.mem_of_mem_drop hu)
  ·have holds:∀j u,xs[j]?=some u->w.cell? ((⟨g,0,none⟩:Addr).add j)=some u:=hown.cells (g:=g) rfl
   have hr:=run_append_grow (P:=P) w t ty e i z ht hi hz ⟨g,0,none⟩ n cap xs hown.1 holds a m c news hl hnews (by omega) (by omega) (growslice_fits (by omega) hbytes)
   have hxs:∀u ∈ xs,zcj u:=λu hu=>hcn u (List.mem_of_mem_take (by rw [htake];exact hu))
   have hgr:=grown cap (by omega) hxs (Value.ownBlock (.slice (some ⟨g,0,none⟩) n cap))
   exact⟨_,_,hr,hgr.1,hgr.2.1,Or.inr rfl,hgr.2.2⟩
theorem zcz {ops:Array Oper}{rest:List Oper}{o:Oper}{a:Act}{Q:Exit->Act->World->Prop}(hgd:o.guard=none)(s x:Operand)(t:TypeId)
  (ho:o.op=.call {callee:=.builtin .append,args:=#[s,x],argTypes:=#[t,t]})
  (base:Nat) (e:TypeId) (i:TypeInfo) (z:Value) (size bytes:Nat) (ht:P.underlying t=some (.slice e)) (hi:P.info? e=some i) (hz:i.zero=some z)
  (hsize:i.size=size) (hby:i.bytes=bytes) (hzs:z.cells.size=size) (hsz:0<size)
  (v:Value) (n:Nat) (xs:List Value) (hs:a.eval s=v) (hown:w.ownsRow base e size v n xs)
  (ad:Addr) (m c:Nat) (news:List Value) (hx:a.eval x=.slice (some ad) m c) (hl:news.length=m*size) (hnews:∀j u,news[j]?=some u->w.cell? (ad.add j)=some u) (h1:∀u ∈ news,u.oneCell'=true)
  (h63:n+m<=maxLen) (hbytes:(n+m)*bytes<=140737488355328) (hbase:base<=w.heap.size)
  (hv:zbN w v) (hzn:∀u ∈ z.cells.toList,zcj u) (hnn:∀u ∈ news,zcj u)
  (h:∀v' w',w'.ownsRow base e size v' (n+m) (xs++news)->w.grownBy w' v.ownBlock->(v'.ownBlock=v.ownBlock\/v'.ownBlock=some w.heap.size)->zbN w' v'->wpList P ops Q rest (a.put o.dst v') w'):
  wpList P ops Q (o::rest) a w:=by
 refine wpList_plain hgd λK hK=>?_
 obtain⟨v',w',hr,h2,h3,h4,h5⟩:=zfU (P:=P) w base t o.type e i z size bytes ht hi hz hsize hby hzs hsz v n xs hown ad m c news hl hnews h1 h63 hbytes hbase hv hzn hnn
 unfold Oper.wp execOp
 simp only [ho,resolve,invoke,builtin,Sem.run_bind,Sem.run_pure,Result.andThen_ok,List.map_toArray,List.map_cons,List.map_nil,hs,hx,hr]
 exact hK _ _ (h v' w' h2 h3 h4 h5)
end
theorem zbN.blk {w:World}{v:Value}{g:Nat}(h:zbN w v)(hg:v.ownBlock=some g):∃(t:TypeId) (cs:Array Value),Blk w g t cs/\∀u ∈ cs.toList,zcj u:=by
 obtain⟨cur,e,h1,h2⟩:=h g hg
 exact⟨e,cur,h1,h2⟩
theorem vec_offS {w w':World}{A:oA9}{n c g:Nat}{xs:List Rat}{t:TypeId}{cs:Array Value}(h:zaC w A n c xs)(hk:Blk w g t cs)(hs:∀u ∈ cs.toList,zcj u)(ho:zbd g w w'):zaC w' A n c xs:=by
 refine⟨h.len,h.fits,h.most,λi x hi=>?_⟩
 obtain⟨ad,b,B,m,d,F,u,v,e,h1,h2,h3,h4,h5⟩:=h.num i x hi
 have hne:ad.block≠g:=λhg=>by
  have hb:(ad.add (i*3)).block=g:=by rw [zao];exact hg
  generalize ad.add (i*3)=q at hb h2
  obtain⟨bk,off,pr⟩:=q
  simp only at hb
  subst hb
  unfold Blk at hk
  cases pr with
  |none=>
    rw [show w.cell? ⟨bk,off,none⟩=cs[off]? from cell_of_row w bk off _ t (0,0) hk,<-Array.getElem?_toList] at h2
    obtain⟨A9,n9,c9,e9⟩:=hs _ (List.mem_of_getElem? h2)
    cases e9
  |some q=>simp [World.cell?,hk] at h2
 have hnu:NoU cs:=λq hq k z e9=>by
  obtain⟨A9,n9,c9,e8⟩:=hs q hq
  rw [e8] at e9
  cases e9
 have hc:∀j,w'.cell? (ad.add j)=w.cell? (ad.add j):=λj=>ho.2 _ (by rw [zao];exact h1) (by rw [zao];exact hne)
 exact⟨ad,b,B,m,d,F,u,v,e,Nat.lt_of_lt_of_le h1 ho.1,(hc _).trans h2,(hc _).trans h3,(hc _).trans h4,zaf.offg h5 hk hnu ho⟩
theorem zjT {w w':World}{v:Value}{A:oA9}{n c:Nat}{xs:List Rat}(h:zaC w A n c xs)(hg:w.grownBy w' v.ownBlock)(hn:zbN w v):zaC w' A n c xs:=by
 cases hv:v.ownBlock with
 |none=>rw [hv] at hg;exact h.keep (zbj hg)
 |some g=>
   rw [hv] at hg
   obtain⟨t,cs,hk,hc⟩:=hn.blk hv
   exact vec_offS h hk hc (zbd.of_grown hg)
structure zcJ (w:World)(base:Nat)(v:Value)(Ls:List (List Rat))(vs:List Value):Prop where
 own:w.ownsRow base 71 1 v Ls.length vs
 sl:zbN w v
 num:∀(i:Nat) (L:List Rat),Ls[i]?=some L->∃(B:oA9) (d:Nat),vs[i]?=some (Value.slice B L.length d)/\zaC w B L.length d L
theorem zcJ.nil (w:World)(base:Nat):zcJ w base (.slice none 0 0) [] []:=⟨World.ownsRow_nil _ _ _ _,zbN.nil _ _,λi L hi=>by simp at hi⟩
theorem zcJ.len {w:World}{base:Nat}{v:Value}{Ls:List (List Rat)}{vs:List Value}(h:zcJ w base v Ls vs):vs.length=Ls.length:=by have:=h.own.1;omega
theorem zcJ.shape {w:World}{base n:Nat}{v:Value}{Ls:List (List Rat)}{vs:List Value}(h:zcJ w base v Ls vs)(hn:Ls.length=n):∃A c,v=.slice A n c/\zgW w A n Ls:=by
 subst hn
 obtain⟨A,c,e,h1,h2,h3⟩:=zas.of_grown_own h.own
 refine⟨A,c,e,rfl,λi L hi=>?_⟩
 obtain⟨B,d,hv,hw⟩:=h.num i L hi
 have hlt:=(List.getElem?_eq_some_iff.1 hi).1
 obtain⟨ad,ea,hb,hc⟩:=h3.2 (by omega)
 exact⟨ad,B,d,ea,hb,hc i _ hv,hw⟩
theorem zcJ.below {w w':World}{base:Nat}{v:Value}{Ls:List (List Rat)}{vs:List Value}(h:zcJ w base v Ls vs)(hb:Below w.heap.size w w'):zcJ w' base v Ls vs:=by
 refine⟨⟨h.own.1,?_⟩,h.sl.below hb,λi L hi=>?_⟩
 ·rcases h.own.2 with h1|⟨g,cap,cur,e1,e2,e3,e4⟩
  ·exact .inl h1
  ·exact .inr ⟨g,cap,cur,e1,e2,(hb.block g (Blk.lt (t:=71) (cs:=cur) e3)).trans e3,e4⟩
 ·obtain⟨B,d,hv,hw⟩:=h.num i L hi
  exact⟨B,d,hv,hw.keep hb⟩
theorem zcJ.grow {w w':World}{base n:Nat}{v v':Value}{Ls:List (List Rat)}{vs:List Value}{L:List Rat}{B:oA9}{d:Nat}(h:zcJ w base v Ls vs)(hx:zaC w B L.length d L)
  (ho:w'.ownsRow base 71 1 v' n (vs++[.slice B L.length d])) (hn:n=Ls.length+1) (hg:w.grownBy w' v.ownBlock) (hs:zbN w' v'):zcJ w' base v' (Ls++[L]) (vs++[.slice B L.length d]):=by
 have hl:=h.len
 refine⟨by rw [List.length_append,List.length_singleton,<-hn];exact ho,hs,λi M hi=>?_⟩
 by_cases hlt:i<Ls.length
 ·rw [List.getElem?_append_left hlt] at hi
  obtain⟨C,e,hv,hw⟩:=h.num i M hi
  exact⟨C,e,by rw [List.getElem?_append_left (by omega)];exact hv,zjT hw hg h.sl⟩
 ·rw [List.getElem?_append_right (by omega)] at hi
  have hi2:i=Ls.length:=by
   have:=(List.getElem?_eq_some_iff.1 hi).1
   simp at this
   omega
  subst hi2
  obtain rfl:L=M:=by
   rw [Nat.sub_self] at hi
   injection hi
  exact⟨B,d,by rw [List.getElem?_append_right (by omega),hl,Nat.sub_self];rfl,zjT hx hg h.sl⟩
theorem zfF:(Tryz.prog.info? 71).map (λi=>(i.zero,i.size,i.bytes))=some (some (.slice none 0 0),1,24):=by kernel_rfl
theorem zgW.get {w:World}{A:oA9}{n:Nat}{Ls:List (List Rat)}(h:zgW w A n Ls){i m:Nat}(hi:i<n)(hm:(Ls.getD i []).length=m):∃(ad:Addr) (B:oA9) (d:Nat),A=some ad/\w.cell? (ad.add i)=some (.slice B m d)/\zaC w B m d (Ls.getD i []):=by
 have hl:=h.len
 obtain⟨ad,B,d,e,_,h1,h2⟩:=h.num i _ (zbK (d:=[]) (by omega))
 rw [hm] at h1 h2
 exact⟨ad,B,d,e,h1,h2⟩
abbrev RowV:=Nat->oA9×Nat×Nat×List (Int×Int)
