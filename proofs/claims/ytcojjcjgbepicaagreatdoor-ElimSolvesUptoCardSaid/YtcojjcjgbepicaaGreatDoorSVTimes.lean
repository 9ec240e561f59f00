/- What this claim leans on. -/
import Derived.Test.YtcojjcjgbepicaaGreatDoorSMMat
import Derived.ArgAppend
namespace Go.Proofs.YtcojjcjgbepicaaGreatDoor
open Go Go.RowKit
set_option maxHeartbeats 16000000
set_option maxRecDepth 100000
set_option linter.unusedVariables false
set_option linter.unusedSimpArgs false
theorem zpJ {K K' L:Nat}{x y r:Rat}{b b' s:Bool}{A A' D:oA9}{n n' m c c' d:Nat}{E E' U:oA9}{k k' u f f' v:Nat}{w:World}(g:Nat)(hT:zaj w)(hr:zah w r s D m d U u v)(hk:Blk w g 53 #[.bool s,.slice D m d,.slice U u v])
  (h:zah w x b A n c E k f) (h':zah w y b' A' n' c' E' k' f') (zx:SzQ K x) (zy:SzQ K' y) (zr:SzQ L r) (hK:K<=67108864) (hK':L+K'<=67108864):
  Calls Tryz.prog 103 #[.agg #[.bool b,.slice A n c,.slice E k f],.agg #[.bool b',.slice A' n' c',.slice E' k' f'],.pointer (some ⟨g,0,none⟩)] w (zaI w (x+r*y)):=by
 have HT:=lh9 (λw' (hb:Below w.heap.size w w')=>hT.on hb)
 have HX:=lh9 (λw' (hb:Below w.heap.size w w')=>h.below hb)
 have HY:=lh9 (λw' (hb:Below w.heap.size w w')=>h'.below hb)
 have HR:=lh9 (λw' (hb:Below w.heap.size w w')=>hr.below hb)
 have HK:=lh9 (λw' (hb:Below w.heap.size w w')=>zab hb hk)
 have HZX:=lh9 zx
 have HZY:=lh9 zy
 have HZR:=lh9 zr
 clear hT hr hk h h' zx zy zr
 obtain⟨bx1,bx2,bx3,bx4,bz⟩:=zbA w 53 53 53 #[.bool b,.slice A n c,.slice E k f] #[.bool b',.slice A' n' c',.slice E' k' f'] #[.bool false,.slice none 0 0,.slice none 0 0]
 have HB0:=lh9 bx1
 have HB2:=lh9 bx2
 have HB3:=lh9 bx3
 have HB4:=lh9 bx4
 clear bx1 bx2 bx3 bx4 bz
 go_enter Tryz.func103,Tryz.ntmps103
 go_wp2_with fail
 generalize ((w.alloc (.cells #[.bool b,.slice A n c,.slice E k f] 53)).alloc (.cells #[.bool b',.slice A' n' c',.slice E' k' f'] 53)).alloc (.cells #[.bool false,.slice none 0 0,.slice none 0 0] 53)=W1 at*
 obtain⟨p0,p1,p2⟩:=HB2.out.c3
 obtain⟨q0,q1,q2⟩:=HB3.out.c3
 obtain⟨g0,g1,g2⟩:=(HK.out _ HB0.out).c3
 have hB:=HB0.out
 have kr:=HB4.out
 have hBw:=(Below.refl W1.heap.size W1).drew
 refine rg (csc p0 (csc p1 (csc p2 (csc g0 (csc g1 (csc g2 (csc q0 (csc q1 (csc q2 csn))))))))) (λhHeld=>?_)
 refine tk 0 ?_
 refine tk 1 ?_
 refine tk 2 ?_
 refine rc 3 (λKK hK=>?_)
 go_simp
 (with_reducible refine(zfq (HT.out _ (zaa hB hBw)) (HR.out _ (zaa hB hBw)) (HY.out _ (zaa hB hBw)) HZR.out HZY.out (by omega) (by omega)).mono ?_);rintro e wa ⟨b1,A1,n1,c1,E1,k1,f1,rfl,hw1,hb⟩;have hBw:=zaa hBw hb;refine hK.out _ _ (Cs.below hHeld hb) (λhHeld=>?_);clear hK KK hb
 refine rc 4 (λKK hK=>?_)
 go_simp
 (with_reducible refine(q_add (HT.out _ (zaa hB hBw)) (HX.out _ (zaa hB hBw)) hw1 HZX.out (HZR.out.mul HZY.out) (by omega) (by omega)).mono ?_);rintro e wb ⟨b2,A2,n2,c2,E2,k2,f2,rfl,hw2,hb⟩;have hBw:=zaa hBw hb;refine hK.out _ _ (Cs.below hHeld hb) (λhHeld=>?_);clear hK KK hb
 have kr:=zab hBw kr
 obtain⟨sc0,sf0,sc1,sf1,sc2,sf2⟩:=st3 kr (.bool b2) (.slice A2 n2 c2)
 obtain⟨r0,r1,r2⟩:=(sn3 kr (.bool b2) (.slice A2 n2 c2) (.slice E2 k2 f2)).c3
 have HG:=lh9 (gq3 hw2 kr (zaa hB hBw) (by omega))
 refine rc 5 (λKK hK=>?_)
 go_simp
 refine hK.out _ _ ?_ (λhHeld=>?_)
 ·have hg:g<w.heap.size:=by
   have h1:=(HK.out _ (Below.refl _ w)).lt
   exact h1
  refine Cs.far hHeld (zdV _ _ _ _ _) ?_
  refine⟨?_,?_,?_,?_,?_,?_,?_,?_,?_,trivial⟩<;>(simp;try omega)
 clear hK KK
 refine rdn ?_
 clear sc0 sf0 sc1 sf1 sc2 sf2 hHeld hw1 hw2 kr
 go_wp2
 refine bodyPost_ret (v:=.agg #[.bool b2,.slice A2 n2 c2,.slice E2 k2 f2]) (by simp [results,Tryz.results103,go_sem,r0,r1,r2]) rfl ?_
 exact HG.out
section
variable {K K' L:Nat}{r:Rat}{xs ys:List Rat}{A B:oA9}{n n' c d:Nat}{w:World}{s:Bool}{D:oA9}{m e9:Nat}{U:oA9}{u v:Nat}
theorem vec_addt (hT:zaj w)(ha:zaC w A n c xs)(hr:zah w r s D m e9 U u v)(hb:zaC w B n d ys)(hx:zaq K xs)(zr:SzQ L r)(hy:zaq K' ys)(hn:n<=1073741824:=by omega)(hK:K<=67108864:=by omega)(hK':L+K'<=67108864:=by omega):
  Calls Tryz.prog 42 #[.slice A n c,.agg #[.bool s,.slice D m e9,.slice U u v],.slice B n d] w (zcU w n (zht xs r ys)):=by
 have hla:=ha.len
 have hlb:=hb.len
 obtain⟨bx1,bx2,bz⟩:=zaw w 53 #[.bool s,.slice D m e9,.slice U u v]
 have hmf:∀(fn:Fn) (first cap:Array Value) (w:World),(Instr.makeFunc fn first cap).run Tryz.prog w=.ok (.func fn first cap) w:=λ_ _ _ _=>rfl
 have H:=lh9 (zjj (λx y=>x+r*y) 103 #[.pointer (some ⟨w.heap.size,0,none⟩)] xs ys A B n c d _ (ha.keep bx1) (hb.keep bx1) hn en_addt (λi hi w' hb' b b' A A' n n' c c' E E' k k' f f' h1 h2=>
  zpJ (w.heap.size) ((hT.on bx1).on hb') ((hr.below bx1).below hb') (zab hb' bx2) h1 h2 (hx.at_ (by omega)) (hy.at_ (by omega)) zr hK hK'))
 have hB:=bx1
 clear ha hb hx hy hT hr bx1 bx2 bz
 go_enter Tryz.func42,Tryz.ntmps42
 go_wp2_with fail
 refine H.out.mono ?_
 rintro e w1 ⟨g,rfl,h1,h2,h3⟩
 have HG:=lh9 (And.intro (Nat.le_trans hB.size h1) (And.intro h2 (zaa hB h3)))
 clear h1 h2 h3 hB
 go_wp2
 go_ret2
 exact⟨g,rfl,HG.out⟩
end
theorem zaE {w:World}{g n:Nat}{xs:List Rat}(h:zbK w g n xs)(hn:n<=1073741824:=by omega):zaC w (some ⟨g,0,none⟩) n n xs:=zbf.row h (by omega)
section
variable {K K':Nat}{xs ys:List Rat}{A B:oA9}{n n' c d:Nat}{w:World}
theorem vec_dot (hT:zaj w)(ha:zaC w A n c xs)(hb:zaC w B n d ys)(hx:zaq K xs)(hy:zaq K' ys)(hn:n<=1073741824:=by omega)(hK:K<=67108864:=by omega)(hK':K'<=67108864:=by omega)(hS:1+n*(K+K'+1)<=67108864:=by omega):
  Calls Tryz.prog 163 #[.slice A n c,.slice B n d] w (zbq w (dotQ xs ys) true):=by
 have hla:=ha.len
 have hlb:=hb.len
 obtain⟨bx1,bx2,bz⟩:=zaw w 53 #[.bool false,.slice none 0 0,.slice none 0 0]
 have H:=lh9 (zjj (λx y=>x*y) 56 #[] xs ys A B n c d _ (ha.keep bx1) (hb.keep bx1) hn en_mul (λi hi w' hb' b b' A A' n n' c c' E E' k k' f f' h1 h2=>by
  rw [Array.append_empty]
  exact zfq ((hT.on bx1).on hb') h1 h2 (hx.at_ (by omega)) (hy.at_ (by omega)) hK hK'))
 have HT:=lh9 (λw' (hb:Below w.heap.size w w')=>hT.on hb)
 have hB:=bx1
 have HK:=lh9 bx2
 have HS:=lh9 (zaq.mul hx hy)
 have hN:=hn
 have hS9:=lh9 hS
 clear ha hb hx hy hT bx1 bx2 bz hla hlb hS
 go_enter Tryz.func163,Tryz.ntmps163
 go_wp2_with fail
 refine H.out.mono ?_
 rintro e w1 ⟨g,rfl,-,h2,hb⟩
 have hB:=zaa hB hb
 have hk:=zab hb HK.out
 have HV:=lh9 (zaE h2 hN)
 clear hb HK h2 H
 go_wp2_with fail
 refine(q_sum (HT.out _ hB) HV.out HS.out hN hS9.out).mono ?_
 rintro e w2 ⟨b2,A2,n2,c2,E2,k2,f2,rfl,hw2,hb⟩
 have hB2:=zaa hB hb
 have hk2:=zab hb hk
 obtain⟨sc0,sf0,sc1,sf1,sc2,sf2⟩:=st3 hk2 (.bool b2) (.slice A2 n2 c2)
 obtain⟨r0,r1,r2⟩:=(sn3 hk2 (.bool b2) (.slice A2 n2 c2) (.slice E2 k2 f2)).c3
 have HG:=lh9 (gb3 (r:=dotQ xs ys) true hw2 hk2 hB2 (Nat.le_refl _))
 clear hb hB hk hB2 hk2 hw2 HV HS
 go_wp2
 refine bodyPost_ret (v:=.tuple #[.agg #[.bool b2,.slice A2 n2 c2,.slice E2 k2 f2],.bool true]) (by simp [results,Tryz.results163,go_sem,r0,r1,r2]) rfl ?_
 exact HG.out
end
theorem zbu {K L:Nat}{r:Rat}{xs:List Rat}{A:oA9}{n c:Nat}{w:World}{s:Bool}{D:oA9}{m e9:Nat}{U:oA9}{u v:Nat}(hT:zaj w)(hr:zah w r s D m e9 U u v)(ha:zaC w A n c xs)(zr:SzQ L r)(hx:zaq K xs)(hn:n<=1073741824:=by omega)(hK:K<=67108864:=by omega)(hL:L<=67108864:=by omega):
  Calls Tryz.prog 136 #[.agg #[.bool s,.slice D m e9,.slice U u v],.slice A n c] w (zeg w n (zaH r xs)):=by
 have hla:=ha.len
 have hlz:(zaH r xs).length=n:=by unfold zaH;rw [List.length_map];exact hla
 have HGI:∀i,i<n->(zaH r xs)[i]?=some (r*xs.getD i 0):=λi hi=>by
  unfold zaH
  rw [List.getElem?_map,List.getD_eq_getElem?_getD,List.getElem?_eq_getElem (by omega)];rfl
 have HSX:Hid (∀i,i<n->SzQ K (xs.getD i 0)):=λi hi=>hx.at_ (by omega)
 unfold zeg
 obtain⟨zs,hzs⟩:∃zs,zaH r xs=zs:=⟨_,rfl⟩
 rw [hzs] at HGI hlz⊢
 have HG:=lh9 HGI
 have HLZ:=lh9 hlz
 have HZR:=lh9 zr
 obtain⟨bx1,bx2,bz⟩:=zaw w 53 #[.bool s,.slice D m e9,.slice U u v]
 have HA:=lh9 ha
 have HT:=lh9 (λw' (hb:Below w.heap.size w w')=>hT.on hb)
 have HR:=lh9 (λw' (hb:Below w.heap.size w w')=>hr.below hb)
 have HB0:=lh9 bx1
 have HK0:=lh9 bx2
 obtain⟨Z,hZ⟩:=zdN n (by omega)
 have hmk:=λW=>(hZ W).1
 have HOWN:=lh9 (λW=>(hZ W).2)
 clear hT hr ha zr hx hla hlz hzs HGI hZ bx1 bx2 bz
 have i0:(0:Int)<=(n:Int):=by omega
 go_enter Tryz.func136,Tryz.ntmps136
 go_wp2_with fail
 clear hmk
 obtain⟨W0,hW0⟩:∃W,w.alloc (.cells #[.bool s,.slice D m e9,.slice U u v] 53)=W:=⟨_,rfl⟩
 rw [hW0] at HB0 HK0
 have hrow:=HOWN.out W0
 have hB0:=HB0.out
 have hsz:W0.heap.size=w.heap.size+1:=by rw [<-hW0];simp
 simp only [hW0] at*
 have hB1:Below W0.heap.size W0 (W0.alloc (.cells Z 53)):=(Below.refl _ W0).alloc (Nat.le_refl _) _
 have hkx:=zab hB1 HK0.out
 have hB:=zaa hB0 hB1
 rw [hsz] at hrow
 clear hW0 HB0 HK0 hB0 hB1 hsz HOWN
 generalize W0.alloc (.cells Z 53)=W1 at*
 obtain⟨gp,hgp⟩:∃g,w.heap.size+1=g:=⟨_,rfl⟩
 rw [hgp] at hrow⊢
 rw [<-zbE 0 zs n] at hrow
 have hwg:w.heap.size+1<=gp:=by omega
 clear hgp
 go_loopg [13] (n+1) (λg ix wr=>∃(k:Nat),k<=n/\n<g+k/\ix=.int .i64 k/\zbK wr gp n (zcl 0 zs n k)/\Below w.heap.size w wr/\Blk wr w.heap.size 53 #[.bool s,.slice D m e9,.slice U u v])
 case atStart=>exact⟨0,Nat.zero_le _,by omega,rfl,hrow,hB,hkx⟩
 case round=>
  clear hrow hB hkx
  obtain⟨k,hkn,hg,rfl,hrow,hB,hkx⟩:=hrel
  by_cases hlt:k<n
  ·obtain⟨ad,b1,B1,m1,d1,E1,u1,v1,rfl,-,hc0,hc1,hc2,hx⟩:=HA.out.get hB hlt
   have hd1:decide ((k:Int)<(n:Int))=true:=decide_eq_true (by omega)
   have i1:(0:Int)<=(k:Int):=by omega
   have i2:(k:Int)<(n:Int):=by omega
   obtain⟨st,d3,d4⟩:=zaw wr 53 #[.bool b1,.slice B1 m1 d1,.slice E1 u1 v1]
   obtain⟨p0,p1,p2⟩:=d3.c3
   obtain⟨g0,g1,g2⟩:=(zab st hkx).c3
   have HX:=lh9 (hx.below st)
   have HROW:=lh9 (hrow.keep st)
   have HB1:=lh9 (zaa hB st)
   have HKX:=lh9 (zab st hkx)
   clear hx hrow hB st d3 d4 hkx
   go_wp2_with fail
   (with_reducible refine(zfq (HT.out _ HB1.out) (HR.out _ HB1.out) HX.out HZR.out (HSX.out k hlt) hL hK).mono ?_)
   rintro e w3 ⟨b3,A3,n3,c3,E3,k3,f3,rfl,hw3,hb⟩
   clear hc0 hc1 hc2 p0 p1 p2 g0 g1 g2
   have hr3:=HROW.out.keep hb
   have hr4:=zbf.set_ zaf hr3 hlt hw3
   rw [zbW 0 zs n k HLZ.out hlt _ (HG.out k hlt)] at hr4
   obtain⟨q0,q1,q2,sc0,sf0,sc1,sf1,sc2,sf2⟩:=hr3.ready hlt (.bool b3) (.slice A3 n3 c3)
   have HR4:=lh9 hr4
   have HB4:=lh9 (zbB (k*3) (k*3+1) (k*3+2) (.bool b3) (.slice A3 n3 c3) (.slice E3 k3 f3) (show w.heap.size<=gp by omega) (zaa HB1.out hb))
   have HK4:=lh9 (Blk.far (p:=⟨gp,k*3+2,none⟩) (Blk.far (p:=⟨gp,k*3+1,none⟩) (Blk.far (p:=⟨gp,k*3,none⟩) (zab hb HKX.out) (by show w.heap.size≠gp;omega) (.bool b3)) (by show w.heap.size≠gp;omega) (.slice A3 n3 c3)) (by show w.heap.size≠gp;omega) (.slice E3 k3 f3))
   clear hr3 hr4 hb hw3 HX HROW HB1 HKX
   go_wp2
   go_roundg (n - k)
   case measure=>omega
   case rel=>exact⟨k+1,by omega,by omega,by go_num,HR4.out,HB4.out,HK4.out⟩
  ·have hk:k=n:=by omega
   subst hk
   have hd1:decide ((k:Int)<(k:Int))=false:=by simp
   have HR5:=lh9 (zbV 0 zs k HLZ.out▸hrow)
   have HB1:=lh9 hB
   have hge:w.heap.size<=gp:=by omega
   clear hrow hB hkx
   go_wp2
   go_ret
   exact⟨gp,rfl,hge,HR5.out,HB1.out⟩
structure zdb (w:World)(A:oA9)(n:Nat)(zs:List Int):Prop where
 len:zs.length=n
 ints:∀i,i<n-> -9223372036854775808<=zs.getD i 0/\zs.getD i 0<=9223372036854775807
 num:∀i,i<n->∃ad:Addr,A=some ad/\w.cell? (ad.add i)=some (.int .i64 (zs.getD i 0))
def ofL (zs:List Int):List Rat:=zs.map λz:Int=>(z:Rat)
theorem zdy {zs:List Int}{A:oA9}{n c:Nat}{w:World}(hT:zaj w)(ha:zdb w A n zs)(hn:n<=1073741824:=by omega):
  Calls Tryz.prog 58 #[.slice A n c] w (zeg w n (ofL zs)):=by
 have hla:=ha.len
 have hlz:(ofL zs).length=n:=by unfold ofL;rw [List.length_map];exact hla
 have HGI:∀i,i<n->(ofL zs)[i]?=some ((zs.getD i 0:Int):Rat):=λi hi=>by
  unfold ofL
  rw [List.getElem?_map,List.getD_eq_getElem?_getD,List.getElem?_eq_getElem (by omega)];rfl
 have HI:=lh9 ha.ints
 unfold zeg
 obtain⟨ys,hys⟩:∃ys,ofL zs=ys:=⟨_,rfl⟩
 rw [hys] at HGI hlz⊢
 have HG:=lh9 HGI
 have HLZ:=lh9 hlz
 have HA:=lh9 ha.num
 have HT:=lh9 (λw' (hb:Below w.heap.size w w')=>hT.on hb)
 obtain⟨Z,hZ⟩:=zdN n (by omega)
 have hmk:=λW=>(hZ W).1
 have HOWN:=lh9 (λW=>(hZ W).2)
 clear hT ha hla hlz hys HGI hZ
 have i0:(0:Int)<=(n:Int):=by omega
 go_enter Tryz.func58,Tryz.ntmps58
 go_wp2_with fail
 clear hmk
 have hrow:=HOWN.out w
 have hB:Below w.heap.size w (w.alloc (.cells Z 53)):=(Below.refl _ w).alloc (Nat.le_refl _) _
 obtain⟨gp,hgp⟩:∃g,w.heap.size=g:=⟨_,rfl⟩
 have hwg:w.heap.size<=gp:=by omega
 rw [hgp] at hrow⊢
 rw [<-zbE 0 ys n] at hrow
 generalize w.alloc (.cells Z 53)=W1 at*
 clear hgp HOWN
 go_loopg [11] (n+1) (λg ix wr=>∃(k:Nat),k<=n/\n<g+k/\ix=.int .i64 k/\zbK wr gp n (zcl 0 ys n k)/\Below w.heap.size w wr)
 case atStart=>exact⟨0,Nat.zero_le _,by omega,rfl,hrow,hB⟩
 case round=>
  clear hrow hB
  obtain⟨k,hkn,hg,rfl,hrow,hB⟩:=hrel
  by_cases hlt:k<n
  ·obtain⟨ad,rfl,hc⟩:=HA.out k hlt
   have hc0:=zac hB hc
   obtain⟨z1,z2⟩:=HI.out k hlt
   have HGK:=lh9 (HG.out k hlt)
   obtain⟨z,hz⟩:∃z,zs.getD k 0=z:=⟨_,rfl⟩
   rw [hz] at hc0 z1 z2 HGK
   have hd1:decide ((k:Int)<(n:Int))=true:=decide_eq_true (by omega)
   have i1:(0:Int)<=(k:Int):=by omega
   have i2:(k:Int)<(n:Int):=by omega
   have HROW:=lh9 hrow
   have HB1:=lh9 hB
   clear hrow hB hc hz
   go_wp2_with fail
   (with_reducible refine(zcI z _ (HT.out _ HB1.out) z1 z2).mono ?_)
   rintro e w3 ⟨b3,A3,n3,c3,E3,k3,f3,rfl,hw3,hb⟩
   clear hc0
   have hr3:=HROW.out.keep hb
   have hr4:=zbf.set_ zaf hr3 hlt hw3
   rw [zbW 0 ys n k HLZ.out hlt _ HGK.out] at hr4
   obtain⟨q0,q1,q2,sc0,sf0,sc1,sf1,sc2,sf2⟩:=hr3.ready hlt (.bool b3) (.slice A3 n3 c3)
   have HR4:=lh9 hr4
   have HB4:=lh9 (zbB (k*3) (k*3+1) (k*3+2) (.bool b3) (.slice A3 n3 c3) (.slice E3 k3 f3) hwg (zaa HB1.out hb))
   clear hr3 hr4 hb hw3 HROW HB1
   go_wp2
   go_roundg (n - k)
   case measure=>omega
   case rel=>exact⟨k+1,by omega,by omega,by go_num,HR4.out,HB4.out⟩
  ·have hk:k=n:=by omega
   subst hk
   have hd1:decide ((k:Int)<(k:Int))=false:=by simp
   have HR5:=lh9 (zbV 0 ys k HLZ.out▸hrow)
   have HB1:=lh9 hB
   clear hrow hB
   go_wp2
   go_ret
   exact⟨gp,rfl,hwg,HR5.out,HB1.out⟩
theorem zmr {K:Nat}{xs:List Rat}{A:oA9}{n c:Nat}{w:World}(hT:zaj w)(ha:zaC w A n c xs)(hx:zaq K xs)(hn:n<=1073741824:=by omega)(hK:K+2<=67108864:=by omega):
  Calls Tryz.prog 96 #[.slice A n c] w (zeg w n xs):=by
 have hla:=ha.len
 have HG:Hid (∀i,i<n->xs[i]?=some (xs.getD i 0)):=λi hi=>by
  rw [List.getD_eq_getElem?_getD,List.getElem?_eq_getElem (by omega)];rfl
 have HSX:Hid (∀i,i<n->zaq K [xs.getD i 0]):=λi hi y hy=>by
  rw [List.mem_singleton.1 hy];exact hx.at_ (by omega)
 unfold zeg
 have HLZ:=lh9 hla
 have HA:=lh9 ha
 have HT:=lh9 (λw' (hb:Below w.heap.size w w')=>hT.on hb)
 obtain⟨Z,hZ⟩:=zdN n (by omega)
 have hmk:=λW=>(hZ W).1
 have HOWN:=lh9 (λW=>(hZ W).2)
 clear hT ha hx hla hZ
 have i0:(0:Int)<=(n:Int):=by omega
 go_enter Tryz.func96,Tryz.ntmps96
 go_wp2_with fail
 clear hmk
 have hrow:=HOWN.out w
 have hB:Below w.heap.size w (w.alloc (.cells Z 53)):=(Below.refl _ w).alloc (Nat.le_refl _) _
 obtain⟨gp,hgp⟩:∃g,w.heap.size=g:=⟨_,rfl⟩
 have hwg:w.heap.size<=gp:=by omega
 rw [hgp] at hrow⊢
 rw [<-zbE 0 xs n] at hrow
 generalize w.alloc (.cells Z 53)=W1 at*
 clear hgp HOWN
 go_loopg [11] (n+1) (λg ix wr=>∃(k:Nat),k<=n/\n<g+k/\ix=.int .i64 k/\zbK wr gp n (zcl 0 xs n k)/\Below w.heap.size w wr)
 case atStart=>exact⟨0,Nat.zero_le _,by omega,rfl,hrow,hB⟩
 case round=>
  clear hrow hB
  obtain⟨k,hkn,hg,rfl,hrow,hB⟩:=hrel
  by_cases hlt:k<n
  ·obtain⟨ad,b1,B1,m1,d1,E1,u1,v1,rfl,-,hc0,hc1,hc2,hx⟩:=HA.out.get hB hlt
   have hd1:decide ((k:Int)<(n:Int))=true:=decide_eq_true (by omega)
   have i1:(0:Int)<=(k:Int):=by omega
   have i2:(k:Int)<(n:Int):=by omega
   obtain⟨s1,t1,t2,t3⟩:=zbC wr 53 53 #[.bool b1,.slice B1 m1 d1,.slice E1 u1 v1] #[.bool b1,.slice B1 m1 d1,.slice E1 u1 v1]
   have t1':=(zaw wr 53 #[.bool b1,.slice B1 m1 d1,.slice E1 u1 v1]).2.1
   obtain⟨p0,p1,p2⟩:=t1'.c3
   have HL1:=lh9 (zms t2 (hx.below s1))
   have HROW:=lh9 (hrow.keep s1)
   have HB1:=lh9 (zaa hB s1)
   clear hx hrow hB s1 t1 t2 t3 t1'
   go_wp2_with fail
   (with_reducible refine(q_sum (HT.out _ HB1.out) HL1.out (HSX.out k hlt) (by decide) (by omega)).mono ?_)
   rintro e w3 ⟨b3,A3,n3,c3,E3,k3,f3,rfl,hw3,hb⟩
   clear hc0 hc1 hc2 p0 p1 p2
   have hw3:zah w3 (xs.getD k 0) b3 A3 n3 c3 E3 k3 f3:=by
    have e:zdB [xs.getD k 0]=xs.getD k 0:=by rw [zgo,zkd,Rat.add_zero]
    rw [e] at hw3
    exact hw3
   have hr3:=HROW.out.keep hb
   have hr4:=zbf.set_ zaf hr3 hlt hw3
   rw [zbW 0 xs n k HLZ.out hlt _ (HG.out k hlt)] at hr4
   obtain⟨q0,q1,q2,sc0,sf0,sc1,sf1,sc2,sf2⟩:=hr3.ready hlt (.bool b3) (.slice A3 n3 c3)
   have HR4:=lh9 hr4
   have HB4:=lh9 (zbB (k*3) (k*3+1) (k*3+2) (.bool b3) (.slice A3 n3 c3) (.slice E3 k3 f3) hwg (zaa HB1.out hb))
   clear hr3 hr4 hb hw3 HROW HB1 HL1
   go_wp2
   go_roundg (n - k)
   case measure=>omega
   case rel=>exact⟨k+1,by omega,by omega,by go_num,HR4.out,HB4.out⟩
  ·have hk:k=n:=by omega
   subst hk
   have hd1:decide ((k:Int)<(k:Int))=false:=by simp
   have HR5:=lh9 (zbV 0 xs k HLZ.out▸hrow)
   have HB1:=lh9 hB
   clear hrow hB
   go_wp2
   go_ret
   exact⟨gp,rfl,hwg,HR5.out,HB1.out⟩
theorem zjh (n:Nat)(w:World)(hn:n<=64):Calls Tryz.prog 98 #[.int .i64 (n:Int)] w (zcU w n (List.replicate n 0)):=by
 unfold zcU
 obtain⟨ys,hys⟩:∃ys,List.replicate n (0:Rat)=ys:=⟨_,rfl⟩
 obtain⟨Z,hZ⟩:=zdN n (by omega)
 have hmk:=λW=>(hZ W).1
 have HOWN:=lh9 (hZ w).2
 rw [hys] at HOWN⊢
 have hd:decide ((n:Int)<0)=false:=decide_eq_false (by omega)
 have hd2:decide (64<(n:Int))=false:=decide_eq_false (by omega)
 have hd3:decide ((n:Int)>64)=false:=decide_eq_false (by omega)
 have hB:=lh9 ((Below.refl _ w).alloc (Nat.le_refl _) (.cells Z 53))
 clear hZ hys
 go_enter Tryz.func98,Tryz.ntmps98
 go_wp2
 go_ret2
 exact⟨_,rfl,Nat.le_refl _,HOWN.out,hB.out⟩
def zjg (n k:Nat):List Rat:=(List.replicate n 0).set k 1
theorem vec_unit (n k:Nat)(w:World)(hT:zaj w)(hn:n<=64)(hk:k<n):Calls Tryz.prog 83 #[.int .i64 (n:Int),.int .i64 (k:Int)] w (zcU w n (zjg n k)):=by
 have H:=lh9 (zjh n w hn)
 have HT:=lh9 (λw' (hb:Below w.heap.size w w')=>hT.on hb)
 have HU:Hid (zjg n k=(List.replicate n 0).set k 1):=rfl
 unfold zcU
 obtain⟨us,hus⟩:∃us,zjg n k=us:=⟨_,rfl⟩
 rw [hus] at HU⊢
 have hd:decide ((k:Int)<0)=false:=decide_eq_false (by omega)
 have hd2:decide (n<=k)=false:=decide_eq_false (by omega)
 have hd3:decide ((n:Int)<=(k:Int))=false:=decide_eq_false (by omega)
 have hd4:decide ((k:Int)>=(n:Int))=false:=decide_eq_false (by omega)
 have i1:(0:Int)<=(k:Int):=by omega
 have i2:(k:Int)<(n:Int):=by omega
 clear hT hus
 go_enter Tryz.func83,Tryz.ntmps83
 go_wp2_with fail
 refine H.out.mono ?_
 rintro e w1 ⟨g,rfl,h1,h2,hb⟩
 have HR:=lh9 h2
 have HB:=lh9 hb
 clear h2 hb H
 go_wp2_with fail
 (with_reducible refine(zcI 1 _ (HT.out _ HB.out) (by decide) (by decide)).mono ?_)
 rintro e w3 ⟨b3,A3,n3,c3,E3,k3,f3,rfl,hw3,hb⟩
 have hr3:=HR.out.keep hb
 have hr4:=zbf.set_ zaf hr3 hk hw3
 have e1:((1:Int):Rat)=1:=rfl
 rw [e1,<-HU.out] at hr4
 obtain⟨q0,q1,q2,sc0,sf0,sc1,sf1,sc2,sf2⟩:=hr3.ready hk (.bool b3) (.slice A3 n3 c3)
 have HR4:=lh9 hr4
 have HB4:=lh9 (zbB (k*3) (k*3+1) (k*3+2) (.bool b3) (.slice A3 n3 c3) (.slice E3 k3 f3) h1 (zaa HB.out hb))
 clear hr3 hr4 hb hw3 HR HB e1
 go_wp2
 go_ret2
 exact⟨g,rfl,h1,HR4.out,HB4.out⟩
theorem ratC {T:World->Prop}{M:Nat->Prop}(hTT:∀w,T w->zaj w)(h0:M 0->RatG0 T)(h1:M 1->RatG1 T)(h2:M 2->RatG2 T):RatC T M where
 g0:=h0
 g1:=h1
 g2:=h2
 new p q b b' A D n m c d w hT hA hD hn hm h0:=zom p q b A n c b' D m d w (hTT w hT) hA hD hn hm h0
 newNo p q b b' A D n m c d w hT hA hD hn hm h0:=ziR p q b A n c b' D m d w (hTT w hT) hA hD hn hm h0
 of p q w hT h1 h2 h3 h4 h0:=rat_of p q w (hTT w hT) h1 h2 h3 h4 h0
 ofNo p q w hT h1 h2 h0:=zpp p q w (hTT w hT) h1 h2 (by omega) (by omega) h0
 num r b A n c E k f w hT h hf:=zkZ r b A n c E k f w (hTT w hT) h hf
 den r b A n c E k f w hT h hf:=zkU r b A n c E k f w (hTT w hT) h hf
 sign r b A n c E k f w hT h hf:=ziS r b A n c E k f w (hTT w hT) h hf
 zero r b A n c E k f w hT h hf:=zaU r b A n c E k f w (hTT w hT) h hf
 isInt r b A n c E k f w hT h hf:=zbm r b A n c E k f w (hTT w hT) h hf
 bits r b A n c E k f w hT h hf:=rat_bits r b A n c E k f w (hTT w hT) h hf
 neg r b A n c E k f w hT h hf:=zkY r b A n c E k f w (hTT w hT) h hf
 inv r b A n c E k f w hT h hf h0:=zhZ r b A n c E k f w (hTT w hT) h hf h0
 invNo r b A n c E k f w hT h hf h0:=znz r b A n c E k f w (hTT w hT) h hf h0
 add r s b b' A A' n n' c c' E E' k k' f f' w hT h h' hf hf':=zkR r s b A n c E k f b' A' n' c' E' k' f' w (hTT w hT) h h' hf hf'
 cmp r s b b' A A' n n' c c' E E' k k' f f' w hT h h' hf hf':=zok r s b A n c E k f b' A' n' c' E' k' f' w (hTT w hT) h h' hf hf'
 same r s b b' A A' n n' c c' E E' k k' f f' w hT h h' hf hf':=zmd r s b A n c E k f b' A' n' c' E' k' f' w (hTT w hT) h h' hf hf'
section
variable {P:Program}{ops:Array Oper}{Q:Exit->Act->World->Prop}{S:World->Prop}{fuel:Nat}{l:Array Bool}{a:Act}{w:World}
theorem rcb (i j:Nat){o p:Oper}(hk:∀K':Act->World->Prop,Shut (∀(a:Act) (w:World),S w->(S w->wpAnyH P .any ops (NoPanic Q) S fuel (l.setIfInBounds i true) a w)->K' a w)->Oper.wp P o a w K' (NoPanic Q))(hj:∀K':Act->World->Prop,Shut (∀(a:Act) (w:World),S w->(S w->wpAnyH P .any ops (NoPanic Q) S fuel (l.setIfInBounds j true) a w)->K' a w)->Oper.wp P p a w K' (NoPanic Q))(h1:ops[i]?=some o:=by simp only [List.getElem?_toArray,List.getElem?_cons_succ,List.getElem?_cons_zero];rfl)(h1':ops[j]?=some p:=by simp only [List.getElem?_toArray,List.getElem?_cons_succ,List.getElem?_cons_zero];rfl)(h2:Region.ready .any ops l=[i,j]:=by kernel_rfl)(h3:Region.wanted o (yielded ops a.tmps)=true:=by rfl)(h3':Region.wanted p (yielded ops a.tmps)=true:=by rfl):wpAnyH P .any ops (NoPanic Q) S (fuel+1) l a w:=
 wpAnyH_ready h2 (by simp) (AllReadyH.cons h1 (λK' hK=>by rw [if_pos h3];exact hk K' hK) (AllReadyH.cons h1' (λK' hK=>by rw [if_pos h3'];exact hj K' hK) AllReadyH.nil))
end
theorem may_of {r c:Int}{b:Bool}(h:zhO r c=b)(w:World):Calls Tryz.prog 113 #[.int .i64 r,.int .i64 c] w (λe w'=>e=.returned (.bool b)/\w=w'):=h▸mat_may r c w
theorem mat_mf (fn:Fn)(first cap:Array Value)(w:World):(Instr.makeFunc fn first cap).run Tryz.prog w=.ok (.func fn first cap) w:=rfl
section
variable {A:oA9}{n c m K:Nat}{MM:List (List Rat)}{w:World}
end
structure zfd (w:World)(base g n cap:Nat)(Ls:List (List Rat)):Prop where
 ge:base<=g
 len:Ls.length=n
 fits:n<=cap
 most:cap<=9223372036854775807
 blk:∃cs:Array Value,Blk w g 71 cs/\(∀u ∈ cs.toList,zch u)/\cs.size=cap
 num:∀i L,Ls[i]?=some L->∃(B:oA9) (d:Nat),w.cell? ⟨g,i,none⟩=some (.slice B L.length d)/\zaC w B L.length d L
theorem zfd.below {w w':World}{base g n cap:Nat}{Ls:List (List Rat)}(h:zfd w base g n cap Ls)(hb:Below w.heap.size w w'):zfd w' base g n cap Ls:=by
 refine⟨h.ge,h.len,h.fits,h.most,?_,λi L hi=>?_⟩
 ·obtain⟨cs,hk,h1,h2⟩:=h.blk
  exact⟨cs,zab hb hk,h1,h2⟩
 ·obtain⟨B,d,h1,h2⟩:=h.num i L hi
  exact⟨B,d,zac hb h1,zaC.keep h2 hb⟩
theorem zfd.rows {w:World}{base g n cap:Nat}{Ls:List (List Rat)}(h:zfd w base g n cap Ls):zaz (zaM zah) w (some ⟨g,0,none⟩) n Ls:=
 ⟨h.len,λi L hi=>by
  obtain⟨cs,hk,_⟩:=h.blk
  obtain⟨B,d,h1,h2⟩:=h.num i L hi
  exact⟨_,B,d,rfl,hk.lt,by rw [zaK];exact h1,h2⟩⟩
theorem zbr {zs:List Int}(h:∀z ∈ zs,-9223372036854775808<=z/\z<=9223372036854775807):zaq 1 (ofL zs):=λx hx=>by
 obtain⟨z,hz,rfl⟩:=List.mem_map.1 hx
 exact SzQ.whole (zgS (h z hz).1 (h z hz).2) (by decide)
theorem zca (zs:List Int)(n:Nat)(hn:zs.length=n){w:World}{g:Nat}{t:TypeId}(h:Blk w g t (zs.map (Value.int .i64)).toArray)(hz:∀z ∈ zs,-9223372036854775808<=z/\z<=9223372036854775807):zdb w (some ⟨g,0,none⟩) n zs:=by
 subst hn
 exact⟨rfl,λi hi=>by
  rw [List.getD_eq_getElem?_getD,List.getElem?_eq_getElem hi]
  exact hz _ (List.getElem_mem hi),λi hi=>⟨_,rfl,by
  rw [zaK,h.cell,List.getD_eq_getElem?_getD,List.getElem?_eq_getElem hi]
  simp [hi]⟩⟩
theorem qc10:RatC zaj (λ_=>False):=ratC (λ_ h=>h) (λh=>h.elim) (λh=>h.elim) (λh=>h.elim)
