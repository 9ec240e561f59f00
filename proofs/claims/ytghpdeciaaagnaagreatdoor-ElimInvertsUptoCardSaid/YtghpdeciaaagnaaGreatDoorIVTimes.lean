/- What this claim leans on. -/
import Derived.Test.YtghpdeciaaagnaaGreatDoorIJ8Etc
namespace Go.Proofs.YtghpdeciaaagnaaGreatDoor
open Go Go.RowKit
set_option maxHeartbeats 16000000
set_option maxRecDepth 100000
set_option linter.unusedVariables false
set_option linter.unusedSimpArgs false
theorem zrl {K K' L:Nat}{x y r:Rat}{b b' s:Bool}{A A' D:oA9}{n n' m c c' d:Nat}{E E' U:oA9}{k k' u f f' v:Nat}{w:World}(g:Nat)(hT:zai w)(hr:zah w r s D m d U u v)(hk:Blk w g 41 #[.bool s,.slice D m d,.slice U u v])
  (h:zah w x b A n c E k f) (h':zah w y b' A' n' c' E' k' f') (zx:SzQ K x) (zy:SzQ K' y) (zr:SzQ L r) (hK:K<=67108864) (hK':L+K'<=67108864):
  Calls Tryz.prog 125 #[.agg #[.bool b,.slice A n c,.slice E k f],.agg #[.bool b',.slice A' n' c',.slice E' k' f'],.pointer (some ⟨g,0,none⟩)] w (zaH w (x+r*y)):=by
 have HT:=lh9 (λw' (hb:Below w.heap.size w w')=>hT.on hb)
 have HX:=lh9 (λw' (hb:Below w.heap.size w w')=>h.below hb)
 have HY:=lh9 (λw' (hb:Below w.heap.size w w')=>h'.below hb)
 have HR:=lh9 (λw' (hb:Below w.heap.size w w')=>hr.below hb)
 have HK:=lh9 (λw' (hb:Below w.heap.size w w')=>zaa hb hk)
 have HZX:=lh9 zx
 have HZY:=lh9 zy
 have HZR:=lh9 zr
 clear hT hr hk h h' zx zy zr
 obtain⟨bx1,bx2,bx3,bx4,bz⟩:=zbL w 41 41 41 #[.bool b,.slice A n c,.slice E k f] #[.bool b',.slice A' n' c',.slice E' k' f'] #[.bool false,.slice none 0 0,.slice none 0 0]
 have HB0:=lh9 bx1
 have HB2:=lh9 bx2
 have HB3:=lh9 bx3
 have HB4:=lh9 bx4
 clear bx1 bx2 bx3 bx4 bz
 go_enter Tryz.func125,Tryz.ntmps125
 go_wp2_with fail
 generalize ((w.alloc (.cells #[.bool b,.slice A n c,.slice E k f] 41)).alloc (.cells #[.bool b',.slice A' n' c',.slice E' k' f'] 41)).alloc (.cells #[.bool false,.slice none 0 0,.slice none 0 0] 41)=W1 at*
 obtain⟨p0,p1,p2⟩:=HB2.out.c3
 obtain⟨q0,q1,q2⟩:=HB3.out.c3
 obtain⟨g0,g1,g2⟩:=(HK.out _ HB0.out).c3
 have hB:=HB0.out
 have kr:=HB4.out
 have hBw:=(Below.refl W1.heap.size W1).drew
 refine rg (csc p0 (csc p1 (csc p2 (csc g0 (csc g1 (csc g2 (csc q0 (csc q1 (csc q2 csn))))))))) (λhHeld=>?_)
 refine tk 0 ?_
 refine tk 1 ?_
 refine tk 2 ?_
 refine rc 3 (λKK hK=>?_)
 go_simp
 (with_reducible refine(zeH (HT.out _ (zab hB hBw)) (HR.out _ (zab hB hBw)) (HY.out _ (zab hB hBw)) HZR.out HZY.out (by omega) (by omega)).mono ?_);rintro e wa ⟨b1,A1,n1,c1,E1,k1,f1,rfl,hw1,hb⟩;have hBw:=zab hBw hb;refine hK.out _ _ (Cs.below hHeld hb) (λhHeld=>?_);clear hK KK hb
 refine rc 4 (λKK hK=>?_)
 go_simp
 (with_reducible refine(q_add (HT.out _ (zab hB hBw)) (HX.out _ (zab hB hBw)) hw1 HZX.out (HZR.out.mul HZY.out) (by omega) (by omega)).mono ?_);rintro e wb ⟨b2,A2,n2,c2,E2,k2,f2,rfl,hw2,hb⟩;have hBw:=zab hBw hb;refine hK.out _ _ (Cs.below hHeld hb) (λhHeld=>?_);clear hK KK hb
 have kr:=zaa hBw kr
 obtain⟨sc0,sf0,sc1,sf1,sc2,sf2⟩:=st3 kr (.bool b2) (.slice A2 n2 c2)
 obtain⟨r0,r1,r2⟩:=(sn3 kr (.bool b2) (.slice A2 n2 c2) (.slice E2 k2 f2)).c3
 have HG:=lh9 (gq3 hw2 kr (zab hB hBw) (by omega))
 refine rc 5 (λKK hK=>?_)
 go_simp
 refine hK.out _ _ ?_ (λhHeld=>?_)
 ·have hg:g<w.heap.size:=by
   have h1:=(HK.out _ (Below.refl _ w)).lt
   exact h1
  refine Cs.far hHeld (zef _ _ _ _ _) ?_
  refine⟨?_,?_,?_,?_,?_,?_,?_,?_,?_,trivial⟩<;>(simp;try omega)
 clear hK KK
 refine rdn ?_
 clear sc0 sf0 sc1 sf1 sc2 sf2 hHeld hw1 hw2 kr
 go_wp2
 refine bodyPost_ret (v:=.agg #[.bool b2,.slice A2 n2 c2,.slice E2 k2 f2]) (by simp [results,Tryz.results125,go_sem,r0,r1,r2]) rfl ?_
 exact HG.out
section
variable {K K' L:Nat}{r:Rat}{xs ys:List Rat}{A B:oA9}{n n' c d:Nat}{w:World}{s:Bool}{D:oA9}{m e9:Nat}{U:oA9}{u v:Nat}
theorem vec_addt (hT:zai w)(ha:zaz w A n c xs)(hr:zah w r s D m e9 U u v)(hb:zaz w B n d ys)(hx:zau K xs)(zr:SzQ L r)(hy:zau K' ys)(hn:n<=1073741824:=by omega)(hK:K<=67108864:=by omega)(hK':L+K'<=67108864:=by omega):
  Calls Tryz.prog 54 #[.slice A n c,.agg #[.bool s,.slice D m e9,.slice U u v],.slice B n d] w (zdP w n (zib xs r ys)):=by
 have hla:=ha.len
 have hlb:=hb.len
 obtain⟨bx1,bx2,bz⟩:=zav w 41 #[.bool s,.slice D m e9,.slice U u v]
 have hmf:∀(fn:Fn) (first cap:Array Value) (w:World),(Instr.makeFunc fn first cap).run Tryz.prog w=.ok (.func fn first cap) w:=λ_ _ _ _=>rfl
 have H:=lh9 (zkl (λx y=>x+r*y) 125 #[.pointer (some ⟨w.heap.size,0,none⟩)] xs ys A B n c d _ (ha.keep bx1) (hb.keep bx1) hn en_addt (λi hi w' hb' b b' A A' n n' c c' E E' k k' f f' h1 h2=>
  zrl (w.heap.size) ((hT.on bx1).on hb') ((hr.below bx1).below hb') (zaa hb' bx2) h1 h2 (hx.at_ (by omega)) (hy.at_ (by omega)) zr hK hK'))
 have hB:=bx1
 clear ha hb hx hy hT hr bx1 bx2 bz
 go_enter Tryz.func54,Tryz.ntmps54
 go_wp2_with fail
 refine H.out.mono ?_
 rintro e w1 ⟨g,rfl,h1,h2,h3⟩
 have HG:=lh9 (And.intro (Nat.le_trans hB.size h1) (And.intro h2 (zab hB h3)))
 clear h1 h2 h3 hB
 go_wp2
 go_ret2
 exact⟨g,rfl,HG.out⟩
end
theorem zaJ {w:World}{g n:Nat}{xs:List Rat}(h:zbU w g n xs)(hn:n<=1073741824:=by omega):zaz w (some ⟨g,0,none⟩) n n xs:=zbm.row h (by omega)
section
variable {K K':Nat}{xs ys:List Rat}{A B:oA9}{n n' c d:Nat}{w:World}
theorem vec_dot (hT:zai w)(ha:zaz w A n c xs)(hb:zaz w B n d ys)(hx:zau K xs)(hy:zau K' ys)(hn:n<=1073741824:=by omega)(hK:K<=67108864:=by omega)(hK':K'<=67108864:=by omega)(hS:1+n*(K+K'+1)<=67108864:=by omega):
  Calls Tryz.prog 155 #[.slice A n c,.slice B n d] w (zbD w (zhi xs ys) true):=by
 have hla:=ha.len
 have hlb:=hb.len
 obtain⟨bx1,bx2,bz⟩:=zav w 41 #[.bool false,.slice none 0 0,.slice none 0 0]
 have H:=lh9 (zkl (λx y=>x*y) 38 #[] xs ys A B n c d _ (ha.keep bx1) (hb.keep bx1) hn en_mul (λi hi w' hb' b b' A A' n n' c c' E E' k k' f f' h1 h2=>by
  rw [Array.append_empty]
  exact zeH ((hT.on bx1).on hb') h1 h2 (hx.at_ (by omega)) (hy.at_ (by omega)) hK hK'))
 have HT:=lh9 (λw' (hb:Below w.heap.size w w')=>hT.on hb)
 have hB:=bx1
 have HK:=lh9 bx2
 have HS:=lh9 (zau.mul hx hy)
 have hN:=hn
 have hS9:=lh9 hS
 clear ha hb hx hy hT bx1 bx2 bz hla hlb hS
 go_enter Tryz.func155,Tryz.ntmps155
 go_wp2_with fail
 refine H.out.mono ?_
 rintro e w1 ⟨g,rfl,-,h2,hb⟩
 have hB:=zab hB hb
 have hk:=zaa hb HK.out
 have HV:=lh9 (zaJ h2 hN)
 clear hb HK h2 H
 go_wp2_with fail
 refine(q_sum (HT.out _ hB) HV.out HS.out hN hS9.out).mono ?_
 rintro e w2 ⟨b2,A2,n2,c2,E2,k2,f2,rfl,hw2,hb⟩
 have hB2:=zab hB hb
 have hk2:=zaa hb hk
 obtain⟨sc0,sf0,sc1,sf1,sc2,sf2⟩:=st3 hk2 (.bool b2) (.slice A2 n2 c2)
 obtain⟨r0,r1,r2⟩:=(sn3 hk2 (.bool b2) (.slice A2 n2 c2) (.slice E2 k2 f2)).c3
 have HG:=lh9 (gb3 (r:=zhi xs ys) true hw2 hk2 hB2 (Nat.le_refl _))
 clear hb hB hk hB2 hk2 hw2 HV HS
 go_wp2
 refine bodyPost_ret (v:=.tuple #[.agg #[.bool b2,.slice A2 n2 c2,.slice E2 k2 f2],.bool true]) (by simp [results,Tryz.results155,go_sem,r0,r1,r2]) rfl ?_
 exact HG.out
end
theorem zbK {K L:Nat}{r:Rat}{xs:List Rat}{A:oA9}{n c:Nat}{w:World}{s:Bool}{D:oA9}{m e9:Nat}{U:oA9}{u v:Nat}(hT:zai w)(hr:zah w r s D m e9 U u v)(ha:zaz w A n c xs)(zr:SzQ L r)(hx:zau K xs)(hn:n<=1073741824:=by omega)(hK:K<=67108864:=by omega)(hL:L<=67108864:=by omega):
  Calls Tryz.prog 132 #[.agg #[.bool s,.slice D m e9,.slice U u v],.slice A n c] w (zdI w n (zaS r xs)):=by
 have hla:=ha.len
 have hlz:(zaS r xs).length=n:=by unfold zaS;rw [List.length_map];exact hla
 have HGI:∀i,i<n->(zaS r xs)[i]?=some (r*xs.getD i 0):=λi hi=>by
  unfold zaS
  rw [List.getElem?_map,List.getD_eq_getElem?_getD,List.getElem?_eq_getElem (by omega)];rfl
 have HSX:Hid (∀i,i<n->SzQ K (xs.getD i 0)):=λi hi=>hx.at_ (by omega)
 unfold zdI
 obtain⟨zs,hzs⟩:∃zs,zaS r xs=zs:=⟨_,rfl⟩
 rw [hzs] at HGI hlz⊢
 have HG:=lh9 HGI
 have HLZ:=lh9 hlz
 have HZR:=lh9 zr
 obtain⟨bx1,bx2,bz⟩:=zav w 41 #[.bool s,.slice D m e9,.slice U u v]
 have HA:=lh9 ha
 have HT:=lh9 (λw' (hb:Below w.heap.size w w')=>hT.on hb)
 have HR:=lh9 (λw' (hb:Below w.heap.size w w')=>hr.below hb)
 have HB0:=lh9 bx1
 have HK0:=lh9 bx2
 obtain⟨Z,hZ⟩:=zdC n (by omega)
 have hmk:=λW=>(hZ W).1
 have HOWN:=lh9 (λW=>(hZ W).2)
 clear hT hr ha zr hx hla hlz hzs HGI hZ bx1 bx2 bz
 have i0:(0:Int)<=(n:Int):=by omega
 go_enter Tryz.func132,Tryz.ntmps132
 go_wp2_with fail
 clear hmk
 obtain⟨W0,hW0⟩:∃W,w.alloc (.cells #[.bool s,.slice D m e9,.slice U u v] 41)=W:=⟨_,rfl⟩
 rw [hW0] at HB0 HK0
 have hrow:=HOWN.out W0
 have hB0:=HB0.out
 have hsz:W0.heap.size=w.heap.size+1:=by rw [<-hW0];simp
 simp only [hW0] at*
 have hB1:Below W0.heap.size W0 (W0.alloc (.cells Z 41)):=(Below.refl _ W0).alloc (Nat.le_refl _) _
 have hkx:=zaa hB1 HK0.out
 have hB:=zab hB0 hB1
 rw [hsz] at hrow
 clear hW0 HB0 HK0 hB0 hB1 hsz HOWN
 generalize W0.alloc (.cells Z 41)=W1 at*
 obtain⟨gp,hgp⟩:∃g,w.heap.size+1=g:=⟨_,rfl⟩
 rw [hgp] at hrow⊢
 rw [<-zbh 0 zs n] at hrow
 have hwg:w.heap.size+1<=gp:=by omega
 clear hgp
 go_loopg [13] (n+1) (λg ix wr=>∃(k:Nat),k<=n/\n<g+k/\ix=.int .i64 k/\zbU wr gp n (zbR 0 zs n k)/\Below w.heap.size w wr/\Blk wr w.heap.size 41 #[.bool s,.slice D m e9,.slice U u v])
 case atStart=>exact⟨0,Nat.zero_le _,by omega,rfl,hrow,hB,hkx⟩
 case round=>
  clear hrow hB hkx
  obtain⟨k,hkn,hg,rfl,hrow,hB,hkx⟩:=hrel
  by_cases hlt:k<n
  ·obtain⟨ad,b1,B1,m1,d1,E1,u1,v1,rfl,-,hc0,hc1,hc2,hx⟩:=HA.out.get hB hlt
   have hd1:decide ((k:Int)<(n:Int))=true:=decide_eq_true (by omega)
   have i1:(0:Int)<=(k:Int):=by omega
   have i2:(k:Int)<(n:Int):=by omega
   obtain⟨st,d3,d4⟩:=zav wr 41 #[.bool b1,.slice B1 m1 d1,.slice E1 u1 v1]
   obtain⟨p0,p1,p2⟩:=d3.c3
   obtain⟨g0,g1,g2⟩:=(zaa st hkx).c3
   have HX:=lh9 (hx.below st)
   have HROW:=lh9 (hrow.keep st)
   have HB1:=lh9 (zab hB st)
   have HKX:=lh9 (zaa st hkx)
   clear hx hrow hB st d3 d4 hkx
   go_wp2_with fail
   (with_reducible refine(zeH (HT.out _ HB1.out) (HR.out _ HB1.out) HX.out HZR.out (HSX.out k hlt) hL hK).mono ?_)
   rintro e w3 ⟨b3,A3,n3,c3,E3,k3,f3,rfl,hw3,hb⟩
   clear hc0 hc1 hc2 p0 p1 p2 g0 g1 g2
   have hr3:=HROW.out.keep hb
   have hr4:=zbm.set_ zaf hr3 hlt hw3
   rw [zbt 0 zs n k HLZ.out hlt _ (HG.out k hlt)] at hr4
   obtain⟨q0,q1,q2,sc0,sf0,sc1,sf1,sc2,sf2⟩:=hr3.ready hlt (.bool b3) (.slice A3 n3 c3)
   have HR4:=lh9 hr4
   have HB4:=lh9 (zbH (k*3) (k*3+1) (k*3+2) (.bool b3) (.slice A3 n3 c3) (.slice E3 k3 f3) (show w.heap.size<=gp by omega) (zab HB1.out hb))
   have HK4:=lh9 (Blk.far (p:=⟨gp,k*3+2,none⟩) (Blk.far (p:=⟨gp,k*3+1,none⟩) (Blk.far (p:=⟨gp,k*3,none⟩) (zaa hb HKX.out) (by show w.heap.size≠gp;omega) (.bool b3)) (by show w.heap.size≠gp;omega) (.slice A3 n3 c3)) (by show w.heap.size≠gp;omega) (.slice E3 k3 f3))
   clear hr3 hr4 hb hw3 HX HROW HB1 HKX
   go_wp2
   go_roundg (n - k)
   case measure=>omega
   case rel=>exact⟨k+1,by omega,by omega,by go_num,HR4.out,HB4.out,HK4.out⟩
  ·have hk:k=n:=by omega
   subst hk
   have hd1:decide ((k:Int)<(k:Int))=false:=by simp
   have HR5:=lh9 (zbs 0 zs k HLZ.out▸hrow)
   have HB1:=lh9 hB
   have hge:w.heap.size<=gp:=by omega
   clear hrow hB hkx
   go_wp2
   go_ret
   exact⟨gp,rfl,hge,HR5.out,HB1.out⟩
structure zdk (w:World)(A:oA9)(n:Nat)(zs:List Int):Prop where
 len:zs.length=n
 ints:∀i,i<n-> -9223372036854775808<=zs.getD i 0/\zs.getD i 0<=9223372036854775807
 num:∀i,i<n->∃ad:Addr,A=some ad/\w.cell? (ad.add i)=some (.int .i64 (zs.getD i 0))
def ofL (zs:List Int):List Rat:=zs.map λz:Int=>(z:Rat)
theorem zdM {zs:List Int}{A:oA9}{n c:Nat}{w:World}(hT:zai w)(ha:zdk w A n zs)(hn:n<=1073741824:=by omega):
  Calls Tryz.prog 60 #[.slice A n c] w (zdI w n (ofL zs)):=by
 have hla:=ha.len
 have hlz:(ofL zs).length=n:=by unfold ofL;rw [List.length_map];exact hla
 have HGI:∀i,i<n->(ofL zs)[i]?=some ((zs.getD i 0:Int):Rat):=λi hi=>by
  unfold ofL
  rw [List.getElem?_map,List.getD_eq_getElem?_getD,List.getElem?_eq_getElem (by omega)];rfl
 have HI:=lh9 ha.ints
 unfold zdI
 obtain⟨ys,hys⟩:∃ys,ofL zs=ys:=⟨_,rfl⟩
 rw [hys] at HGI hlz⊢
 have HG:=lh9 HGI
 have HLZ:=lh9 hlz
 have HA:=lh9 ha.num
 have HT:=lh9 (λw' (hb:Below w.heap.size w w')=>hT.on hb)
 obtain⟨Z,hZ⟩:=zdC n (by omega)
 have hmk:=λW=>(hZ W).1
 have HOWN:=lh9 (λW=>(hZ W).2)
 clear hT ha hla hlz hys HGI hZ
 have i0:(0:Int)<=(n:Int):=by omega
 go_enter Tryz.func60,Tryz.ntmps60
 go_wp2_with fail
 clear hmk
 have hrow:=HOWN.out w
 have hB:Below w.heap.size w (w.alloc (.cells Z 41)):=(Below.refl _ w).alloc (Nat.le_refl _) _
 obtain⟨gp,hgp⟩:∃g,w.heap.size=g:=⟨_,rfl⟩
 have hwg:w.heap.size<=gp:=by omega
 rw [hgp] at hrow⊢
 rw [<-zbh 0 ys n] at hrow
 generalize w.alloc (.cells Z 41)=W1 at*
 clear hgp HOWN
 go_loopg [11] (n+1) (λg ix wr=>∃(k:Nat),k<=n/\n<g+k/\ix=.int .i64 k/\zbU wr gp n (zbR 0 ys n k)/\Below w.heap.size w wr)
 case atStart=>exact⟨0,Nat.zero_le _,by omega,rfl,hrow,hB⟩
 case round=>
  clear hrow hB
  obtain⟨k,hkn,hg,rfl,hrow,hB⟩:=hrel
  by_cases hlt:k<n
  ·obtain⟨ad,rfl,hc⟩:=HA.out k hlt
   have hc0:=zac hB hc
   obtain⟨z1,z2⟩:=HI.out k hlt
   have HGK:=lh9 (HG.out k hlt)
   obtain⟨z,hz⟩:∃z,zs.getD k 0=z:=⟨_,rfl⟩
   rw [hz] at hc0 z1 z2 HGK
   have hd1:decide ((k:Int)<(n:Int))=true:=decide_eq_true (by omega)
   have i1:(0:Int)<=(k:Int):=by omega
   have i2:(k:Int)<(n:Int):=by omega
   have HROW:=lh9 hrow
   have HB1:=lh9 hB
   clear hrow hB hc hz
   go_wp2_with fail
   (with_reducible refine(zcR z _ (HT.out _ HB1.out) z1 z2).mono ?_)
   rintro e w3 ⟨b3,A3,n3,c3,E3,k3,f3,rfl,hw3,hb⟩
   clear hc0
   have hr3:=HROW.out.keep hb
   have hr4:=zbm.set_ zaf hr3 hlt hw3
   rw [zbt 0 ys n k HLZ.out hlt _ HGK.out] at hr4
   obtain⟨q0,q1,q2,sc0,sf0,sc1,sf1,sc2,sf2⟩:=hr3.ready hlt (.bool b3) (.slice A3 n3 c3)
   have HR4:=lh9 hr4
   have HB4:=lh9 (zbH (k*3) (k*3+1) (k*3+2) (.bool b3) (.slice A3 n3 c3) (.slice E3 k3 f3) hwg (zab HB1.out hb))
   clear hr3 hr4 hb hw3 HROW HB1
   go_wp2
   go_roundg (n - k)
   case measure=>omega
   case rel=>exact⟨k+1,by omega,by omega,by go_num,HR4.out,HB4.out⟩
  ·have hk:k=n:=by omega
   subst hk
   have hd1:decide ((k:Int)<(k:Int))=false:=by simp
   have HR5:=lh9 (zbs 0 ys k HLZ.out▸hrow)
   have HB1:=lh9 hB
   clear hrow hB
   go_wp2
   go_ret
   exact⟨gp,rfl,hwg,HR5.out,HB1.out⟩
theorem znC {K:Nat}{xs:List Rat}{A:oA9}{n c:Nat}{w:World}(hT:zai w)(ha:zaz w A n c xs)(hx:zau K xs)(hn:n<=1073741824:=by omega)(hK:K+2<=67108864:=by omega):
  Calls Tryz.prog 85 #[.slice A n c] w (zdI w n xs):=by
 have hla:=ha.len
 have HG:Hid (∀i,i<n->xs[i]?=some (xs.getD i 0)):=λi hi=>by
  rw [List.getD_eq_getElem?_getD,List.getElem?_eq_getElem (by omega)];rfl
 have HSX:Hid (∀i,i<n->zau K [xs.getD i 0]):=λi hi y hy=>by
  rw [List.mem_singleton.1 hy];exact hx.at_ (by omega)
 unfold zdI
 have HLZ:=lh9 hla
 have HA:=lh9 ha
 have HT:=lh9 (λw' (hb:Below w.heap.size w w')=>hT.on hb)
 obtain⟨Z,hZ⟩:=zdC n (by omega)
 have hmk:=λW=>(hZ W).1
 have HOWN:=lh9 (λW=>(hZ W).2)
 clear hT ha hx hla hZ
 have i0:(0:Int)<=(n:Int):=by omega
 go_enter Tryz.func85,Tryz.ntmps85
 go_wp2_with fail
 clear hmk
 have hrow:=HOWN.out w
 have hB:Below w.heap.size w (w.alloc (.cells Z 41)):=(Below.refl _ w).alloc (Nat.le_refl _) _
 obtain⟨gp,hgp⟩:∃g,w.heap.size=g:=⟨_,rfl⟩
 have hwg:w.heap.size<=gp:=by omega
 rw [hgp] at hrow⊢
 rw [<-zbh 0 xs n] at hrow
 generalize w.alloc (.cells Z 41)=W1 at*
 clear hgp HOWN
 go_loopg [11] (n+1) (λg ix wr=>∃(k:Nat),k<=n/\n<g+k/\ix=.int .i64 k/\zbU wr gp n (zbR 0 xs n k)/\Below w.heap.size w wr)
 case atStart=>exact⟨0,Nat.zero_le _,by omega,rfl,hrow,hB⟩
 case round=>
  clear hrow hB
  obtain⟨k,hkn,hg,rfl,hrow,hB⟩:=hrel
  by_cases hlt:k<n
  ·obtain⟨ad,b1,B1,m1,d1,E1,u1,v1,rfl,-,hc0,hc1,hc2,hx⟩:=HA.out.get hB hlt
   have hd1:decide ((k:Int)<(n:Int))=true:=decide_eq_true (by omega)
   have i1:(0:Int)<=(k:Int):=by omega
   have i2:(k:Int)<(n:Int):=by omega
   obtain⟨s1,t1,t2,t3⟩:=zbI wr 41 41 #[.bool b1,.slice B1 m1 d1,.slice E1 u1 v1] #[.bool b1,.slice B1 m1 d1,.slice E1 u1 v1]
   have t1':=(zav wr 41 #[.bool b1,.slice B1 m1 d1,.slice E1 u1 v1]).2.1
   obtain⟨p0,p1,p2⟩:=t1'.c3
   have HL1:=lh9 (znD t2 (hx.below s1))
   have HROW:=lh9 (hrow.keep s1)
   have HB1:=lh9 (zab hB s1)
   clear hx hrow hB s1 t1 t2 t3 t1'
   go_wp2_with fail
   (with_reducible refine(q_sum (HT.out _ HB1.out) HL1.out (HSX.out k hlt) (by decide) (by omega)).mono ?_)
   rintro e w3 ⟨b3,A3,n3,c3,E3,k3,f3,rfl,hw3,hb⟩
   clear hc0 hc1 hc2 p0 p1 p2
   have hw3:zah w3 (xs.getD k 0) b3 A3 n3 c3 E3 k3 f3:=by
    have e:zdG [xs.getD k 0]=xs.getD k 0:=by rw [zfh,zlj,Rat.add_zero]
    rw [e] at hw3
    exact hw3
   have hr3:=HROW.out.keep hb
   have hr4:=zbm.set_ zaf hr3 hlt hw3
   rw [zbt 0 xs n k HLZ.out hlt _ (HG.out k hlt)] at hr4
   obtain⟨q0,q1,q2,sc0,sf0,sc1,sf1,sc2,sf2⟩:=hr3.ready hlt (.bool b3) (.slice A3 n3 c3)
   have HR4:=lh9 hr4
   have HB4:=lh9 (zbH (k*3) (k*3+1) (k*3+2) (.bool b3) (.slice A3 n3 c3) (.slice E3 k3 f3) hwg (zab HB1.out hb))
   clear hr3 hr4 hb hw3 HROW HB1 HL1
   go_wp2
   go_roundg (n - k)
   case measure=>omega
   case rel=>exact⟨k+1,by omega,by omega,by go_num,HR4.out,HB4.out⟩
  ·have hk:k=n:=by omega
   subst hk
   have hd1:decide ((k:Int)<(k:Int))=false:=by simp
   have HR5:=lh9 (zbs 0 xs k HLZ.out▸hrow)
   have HB1:=lh9 hB
   clear hrow hB
   go_wp2
   go_ret
   exact⟨gp,rfl,hwg,HR5.out,HB1.out⟩
theorem zkj (n:Nat)(w:World)(hn:n<=64):Calls Tryz.prog 88 #[.int .i64 (n:Int)] w (zdP w n (List.replicate n 0)):=by
 unfold zdP
 obtain⟨ys,hys⟩:∃ys,List.replicate n (0:Rat)=ys:=⟨_,rfl⟩
 obtain⟨Z,hZ⟩:=zdC n (by omega)
 have hmk:=λW=>(hZ W).1
 have HOWN:=lh9 (hZ w).2
 rw [hys] at HOWN⊢
 have hd:decide ((n:Int)<0)=false:=decide_eq_false (by omega)
 have hd2:decide (64<(n:Int))=false:=decide_eq_false (by omega)
 have hd3:decide ((n:Int)>64)=false:=decide_eq_false (by omega)
 have hB:=lh9 ((Below.refl _ w).alloc (Nat.le_refl _) (.cells Z 41))
 clear hZ hys
 go_enter Tryz.func88,Tryz.ntmps88
 go_wp2
 go_ret2
 exact⟨_,rfl,Nat.le_refl _,HOWN.out,hB.out⟩
def zec (n k:Nat):List Rat:=(List.replicate n 0).set k 1
theorem znE (n k:Nat)(w:World)(hT:zai w)(hn:n<=64)(hk:k<n):Calls Tryz.prog 72 #[.int .i64 (n:Int),.int .i64 (k:Int)] w (zdP w n (zec n k)):=by
 have H:=lh9 (zkj n w hn)
 have HT:=lh9 (λw' (hb:Below w.heap.size w w')=>hT.on hb)
 have HU:Hid (zec n k=(List.replicate n 0).set k 1):=rfl
 unfold zdP
 obtain⟨us,hus⟩:∃us,zec n k=us:=⟨_,rfl⟩
 rw [hus] at HU⊢
 have hd:decide ((k:Int)<0)=false:=decide_eq_false (by omega)
 have hd2:decide (n<=k)=false:=decide_eq_false (by omega)
 have hd3:decide ((n:Int)<=(k:Int))=false:=decide_eq_false (by omega)
 have hd4:decide ((k:Int)>=(n:Int))=false:=decide_eq_false (by omega)
 have i1:(0:Int)<=(k:Int):=by omega
 have i2:(k:Int)<(n:Int):=by omega
 clear hT hus
 go_enter Tryz.func72,Tryz.ntmps72
 go_wp2_with fail
 refine H.out.mono ?_
 rintro e w1 ⟨g,rfl,h1,h2,hb⟩
 have HR:=lh9 h2
 have HB:=lh9 hb
 clear h2 hb H
 go_wp2_with fail
 (with_reducible refine(zcR 1 _ (HT.out _ HB.out) (by decide) (by decide)).mono ?_)
 rintro e w3 ⟨b3,A3,n3,c3,E3,k3,f3,rfl,hw3,hb⟩
 have hr3:=HR.out.keep hb
 have hr4:=zbm.set_ zaf hr3 hk hw3
 have e1:((1:Int):Rat)=1:=rfl
 rw [e1,<-HU.out] at hr4
 obtain⟨q0,q1,q2,sc0,sf0,sc1,sf1,sc2,sf2⟩:=hr3.ready hk (.bool b3) (.slice A3 n3 c3)
 have HR4:=lh9 hr4
 have HB4:=lh9 (zbH (k*3) (k*3+1) (k*3+2) (.bool b3) (.slice A3 n3 c3) (.slice E3 k3 f3) h1 (zab HB.out hb))
 clear hr3 hr4 hb hw3 HR HB e1
 go_wp2
 go_ret2
 exact⟨g,rfl,h1,HR4.out,HB4.out⟩
theorem gq0 {w w':World}{r:Rat}{b:Bool}{A E:oA9}{n c k f:Nat}(h:zah w' r b A n c E k f)(hb:Below w.heap.size w w'):zaH w r (.returned (.agg #[.bool b,.slice A n c,.slice E k f])) w':=⟨_,_,_,_,_,_,_,rfl,h,hb⟩
section
variable {A:oA9}{n c m:Nat}{M:List (List Rat)}{w:World}
theorem en_one1:∀(args:Array Value) (w':World),Sem.run Tryz.prog (callFunc 95 args) w'=.ok (.enter 95 args) w':=Go.Proofs.enters_of Tryz.func95 (by kernel_rfl) rfl
theorem cl_one (hT:zai w)(i j:Nat):Calls Tryz.prog 95 #[.int .i64 (i:Int),.int .i64 (j:Int)] w (zaH w (if i=j then 1 else 0)):=by
 obtain⟨bx1,bx2,bz⟩:=zav w 41 #[.bool false,.slice none 0 0,.slice none 0 0]
 by_cases hij:i=j
 ·have e0:((i:Int)==(j:Int))=true:=by rw [beq_iff_eq];omega
  rw [if_pos hij]
  have HT:=lh9 (hT.on bx1)
  have HB:=lh9 bx1
  have HK:=lh9 bx2
  clear hij bx1 bx2 bz hT
  go_enter Tryz.func95,Tryz.ntmps95
  go_wp2_with fail
  (with_reducible refine(zcR 1 _ HT.out (by decide) (by decide)).mono ?_)
  rintro e w3 ⟨b3,A3,n3,c3,E3,k3,f3,rfl,hw3,hb⟩
  have hk2:=zaa hb HK.out
  obtain⟨sc0,sf0,sc1,sf1,sc2,sf2⟩:=st3 hk2 (.bool b3) (.slice A3 n3 c3)
  obtain⟨r0,r1,r2⟩:=(sn3 hk2 (.bool b3) (.slice A3 n3 c3) (.slice E3 k3 f3)).c3
  have HG:Hid (zaH w 1 _ _):=gq3 (r:=1) hw3 hk2 (zab HB.out hb) (Nat.le_refl _)
  clear hb hk2 hw3 HB HK HT
  go_wp2
  refine bodyPost_ret (v:=.agg #[.bool b3,.slice A3 n3 c3,.slice E3 k3 f3]) (by simp [results,Tryz.results95,go_sem,r0,r1,r2]) rfl ?_
  exact HG.out
 ·have e0:((i:Int)==(j:Int))=false:=by rw [beq_eq_false_iff_ne];omega
  rw [if_neg hij]
  obtain⟨r0,r1,r2⟩:=bx2.c3
  have HG:=lh9 (gq0 (zgO _) bx1)
  clear bx1 bx2 bz hij
  go_enter Tryz.func95,Tryz.ntmps95
  go_wp2
  refine bodyPost_ret (v:=.agg #[.bool false,.slice none 0 0,.slice none 0 0]) (by simp [results,Tryz.results95,go_sem,r0,r1,r2]) rfl ?_
  exact HG.out
theorem zoh:∀(args:Array Value) (w':World),Sem.run Tryz.prog (callFunc 99 args) w'=.ok (.enter 99 args) w':=Go.Proofs.enters_of Tryz.func99 (by kernel_rfl) rfl
theorem zqa {g i j:Nat}(h:zaR w A n c m M)(hk:Blk w g 28 #[.slice A n c,.int .i64 (m:Int)])(hi:i<n)(hj:j<m):Calls Tryz.prog 99 #[.int .i64 (j:Int),.int .i64 (i:Int),.pointer (some ⟨g,0,none⟩)] w (zaH w (atM M i j)):=by
 obtain⟨bx1,bx2,bz⟩:=zav w 41 #[.bool false,.slice none 0 0,.slice none 0 0]
 obtain⟨ad,B,d,rfl,-,hc,ae,b1,B1,m1,d1,E1,u1,v1,rfl,-,h0,h1,h2,hq⟩:=h.place (Below.refl _ w) hi hj
 obtain⟨g0,g1⟩:=(zaa bx1 hk).c2
 have hc:=zac bx1 hc
 have h0:=zac bx1 h0
 have h1:=zac bx1 h1
 have h2:=zac bx1 h2
 have i1:(0:Int)<=(i:Int):=by omega
 have i2:(i:Int)<(n:Int):=by omega
 have i3:(0:Int)<=(j:Int):=by omega
 have i4:(j:Int)<(m:Int):=by omega
 obtain⟨by1,by2,-⟩:=zav w 41 #[.bool b1,.slice B1 m1 d1,.slice E1 u1 v1]
 obtain⟨r0,r1,r2⟩:=by2.c3
 have HG:=lh9 (gq0 (hq.below by1) by1)
 clear hq bx1 bx2 bz by1 by2 h hk
 go_enter Tryz.func99,Tryz.ntmps99
 go_wp2
 refine bodyPost_ret (v:=.agg #[.bool b1,.slice B1 m1 d1,.slice E1 u1 v1]) (by simp [results,Tryz.results99,go_sem,r0,r1,r2]) rfl ?_
 exact HG.out
theorem zmM:∀(args:Array Value) (w':World),Sem.run Tryz.prog (callFunc 152 args) w'=.ok (.enter 152 args) w':=Go.Proofs.enters_of Tryz.func152 (by kernel_rfl) rfl
theorem znU {g gv i j:Nat}{V:oA9}{cv:Nat}{xs:List Rat}(h:zaR w A n c m M)(hk:Blk w g 28 #[.slice A n c,.int .i64 (m:Int)])(hkv:Blk w gv 61 #[.slice V n cv])(hv:zaz w V n cv xs)(hi:i<n)(hj:j<m+1):
  Calls Tryz.prog 152 #[.int .i64 (i:Int),.int .i64 (j:Int),.pointer (some ⟨g,0,none⟩),.pointer (some ⟨gv,0,none⟩)] w (zaH w (if j=m then xs.getD i 0 else atM M i j)):=by
 obtain⟨bx1,bx2,bz⟩:=zav w 41 #[.bool false,.slice none 0 0,.slice none 0 0]
 by_cases h1:j=m
 ·have e1:((j:Int)==(m:Int))=true:=by rw [beq_iff_eq];omega
  rw [if_pos h1]
  obtain⟨g0,g1⟩:=(zaa bx1 hk).c2
  have y0:=(zaa bx1 hkv).c1
  clear h1
  obtain⟨ae,b1,B1,m1,d1,E1,u1,v1,rfl,-,h0,h2,h3,hq⟩:=hv.get (Below.refl _ w) hi
  have h0:=zac bx1 h0
  have h1:=zac bx1 h2
  have h2:=zac bx1 h3
  have i1:(0:Int)<=(i:Int):=by omega
  have i2:(i:Int)<(n:Int):=by omega
  clear hkv
  obtain⟨by1,by2,-⟩:=zav w 41 #[.bool b1,.slice B1 m1 d1,.slice E1 u1 v1]
  obtain⟨r0,r1,r2⟩:=by2.c3
  have HG:=lh9 (gq0 (hq.below by1) by1)
  clear hq bx1 bx2 bz by1 by2 h hk hv
  go_enter Tryz.func152,Tryz.ntmps152
  go_wp2
  refine bodyPost_ret (v:=.agg #[.bool b1,.slice B1 m1 d1,.slice E1 u1 v1]) (by simp [results,Tryz.results152,go_sem,r0,r1,r2]) rfl ?_
  exact HG.out
 ·have e1:((j:Int)==(m:Int))=false:=by rw [beq_eq_false_iff_ne];omega
  rw [if_neg h1]
  have hj:j<m:=by omega
  clear h1 hkv
  obtain⟨ad,B,d,rfl,-,hc,ae,b1,B1,m1,d1,E1,u1,v1,rfl,-,h0,h1,h2,hq⟩:=h.place (Below.refl _ w) hi hj
  obtain⟨g0,g1⟩:=(zaa bx1 hk).c2
  have hc:=zac bx1 hc
  have h0:=zac bx1 h0
  have h1:=zac bx1 h1
  have h2:=zac bx1 h2
  have i1:(0:Int)<=(i:Int):=by omega
  have i2:(i:Int)<(n:Int):=by omega
  have i3:(0:Int)<=(j:Int):=by omega
  have i4:(j:Int)<(m:Int):=by omega
  obtain⟨by1,by2,-⟩:=zav w 41 #[.bool b1,.slice B1 m1 d1,.slice E1 u1 v1]
  obtain⟨r0,r1,r2⟩:=by2.c3
  have HG:=lh9 (gq0 (hq.below by1) by1)
  clear hq bx1 bx2 bz by1 by2 h hk hv
  go_enter Tryz.func152,Tryz.ntmps152
  go_wp2
  refine bodyPost_ret (v:=.agg #[.bool b1,.slice B1 m1 d1,.slice E1 u1 v1]) (by simp [results,Tryz.results152,go_sem,r0,r1,r2]) rfl ?_
  exact HG.out
theorem en_of2:∀(args:Array Value) (w':World),Sem.run Tryz.prog (callFunc 130 args) w'=.ok (.enter 130 args) w':=Go.Proofs.enters_of Tryz.func130 (by kernel_rfl) rfl
theorem cl_of {gs i j:Nat}{Q:oA9}{q:Nat}(h:zaB (zaI zah) w Q n M)(hd:zaN M n m)(hk:Blk w gs 26 #[.slice Q n q])(hi:i<n)(hj:j<m):Calls Tryz.prog 130 #[.int .i64 (i:Int),.int .i64 (j:Int),.pointer (some ⟨gs,0,none⟩)] w (zaH w (atM M i j)):=by
 obtain⟨bx1,bx2,bz⟩:=zav w 41 #[.bool false,.slice none 0 0,.slice none 0 0]
 obtain⟨ad,B,d,rfl,-,hc,hv⟩:=h.get (zam zaf) (Below.refl _ w) hi (hd.row hi)
 obtain⟨ae,b1,B1,m1,d1,E1,u1,v1,rfl,-,h0,h1,h2,hq⟩:=zaz.get hv (Below.refl _ w) hj
 have hc:=zac bx1 hc
 have h0:=zac bx1 h0
 have h1:=zac bx1 h1
 have h2:=zac bx1 h2
 have g0:=(zaa bx1 hk).c1
 have i1:(0:Int)<=(i:Int):=by omega
 have i2:(i:Int)<(n:Int):=by omega
 have i3:(0:Int)<=(j:Int):=by omega
 have i4:(j:Int)<(m:Int):=by omega
 obtain⟨by1,by2,-⟩:=zav w 41 #[.bool b1,.slice B1 m1 d1,.slice E1 u1 v1]
 obtain⟨r0,r1,r2⟩:=by2.c3
 have HG:=lh9 (gq0 (hq.below by1) by1)
 clear hq bx1 bx2 bz by1 by2 h hk hv hd
 go_enter Tryz.func130,Tryz.ntmps130
 go_wp2
 refine bodyPost_ret (v:=.agg #[.bool b1,.slice B1 m1 d1,.slice E1 u1 v1]) (by simp [results,Tryz.results130,go_sem,r0,r1,r2]) rfl ?_
 exact HG.out
theorem en_of1:∀(args:Array Value) (w':World),Sem.run Tryz.prog (callFunc 128 args) w'=.ok (.enter 128 args) w':=Go.Proofs.enters_of Tryz.func128 (by kernel_rfl) rfl
theorem zpZ {gc k:Nat}{V:oA9}{cv:Nat}{z:Int}(hk:Blk w gc 3 #[.int .i64 z]):Calls Tryz.prog 128 #[.slice V k cv,.pointer (some ⟨gc,0,none⟩)] w (λe w'=>e=.returned (.bool (!decide ((k:Int)=z)))/\Below w.heap.size w w'):=by
 have g0:=hk.c1
 obtain⟨b,hb⟩:∃b,(!decide ((k:Int)=z))=b:=⟨_,rfl⟩
 have hb2:((k:Int) !=z)=b:=by rw [<-hb];by_cases q:(k:Int)=z<;>simp [q]
 rw [hb]
 clear hk hb
 go_enter Tryz.func128,Tryz.ntmps128
 go_wp2
 go_ret
 exact⟨rfl,Below.refl _ _⟩
end
