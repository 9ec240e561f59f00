/- What this claim leans on. -/
import Derived.Test.YtghpdeciaaagnaaGreatDoorIVRow
namespace Go.Proofs.YtghpdeciaaagnaaGreatDoor
open Go Go.RowKit
set_option maxHeartbeats 16000000
set_option maxRecDepth 100000
set_option linter.unusedVariables false
set_option linter.unusedSimpArgs false
theorem zkl (f:Rat->Rat->Rat)(F:FuncId)(cap:Array Value)(xs ys:List Rat)(A B:oA9)(n c d:Nat)(w:World)(ha:zaz w A n c xs)(hb:zaz w B n d ys)(hn:n<=1073741824)
  (hEn:∀(args:Array Value) (w':World),Sem.run Tryz.prog (callFunc F args) w'=.ok (.enter F args) w')
  (hF : ∀ i,i < n → ∀ w',Below w.heap.size w w' → ∀ (b b' : Bool) (A A' : oA9) (n n' c c' : Nat) (E E' : oA9) (k k' f9 f9' : Nat),zah w' (xs.getD i 0) b A n c E k f9 → zah w' (ys.getD i 0) b' A' n' c' E' k' f9' →
    Calls Tryz.prog F (#[.agg #[.bool b,.slice A n c,.slice E k f9],.agg #[.bool b',.slice A' n' c',.slice E' k' f9']]++cap) w' (zaH w' (f (xs.getD i 0) (ys.getD i 0)))):
  Calls Tryz.prog 124 #[.slice A n c,.slice B n d,.func (.func F) #[] cap] w (zdP w n (List.zipWith f xs ys)):=by
 have hla:=ha.len
 have hlb:=hb.len
 have hlz:(List.zipWith f xs ys).length=n:=zpT hla hlb
 unfold zdP
 have HGI:∀i,i<n->(List.zipWith f xs ys)[i]?=some (f (xs.getD i 0) (ys.getD i 0)):=λi hi=>by
  rw [List.getElem?_zipWith,List.getD_eq_getElem?_getD,List.getD_eq_getElem?_getD,List.getElem?_eq_getElem (by omega),List.getElem?_eq_getElem (by omega)];rfl
 obtain⟨zs,hzs⟩:∃zs,List.zipWith f xs ys=zs:=⟨_,rfl⟩
 rw [hzs] at HGI hlz⊢
 have HG:=lh9 HGI
 have HLZ:=lh9 hlz
 have HF:=lh9 hF
 have HA:=lh9 ha
 have HB9:=lh9 hb
 obtain⟨Z,hZ⟩:=zdC n (by omega)
 have hmk:=λW=>(hZ W).1
 have HOWN:=lh9 (λW=>(hZ W).2)
 clear hF ha hb hla hlb hlz hzs HGI hZ
 have hd0:((n:Int) !=(n:Int))=false:=by simp
 have i0:(0:Int)<=(n:Int):=by omega
 go_enter Tryz.func124,Tryz.ntmps124
 go_wp2_with fail
 clear hmk
 have hrow:=HOWN.out w
 have hB:Below w.heap.size w (w.alloc (.cells Z 41)):=(Below.refl _ w).alloc (Nat.le_refl _) _
 obtain⟨gp,hgp⟩:∃g,w.heap.size=g:=⟨_,rfl⟩
 have hwg:w.heap.size<=gp:=by omega
 have hz:gp+1<=(w.alloc (.cells Z 41)).heap.size:=by simp [hgp]
 rw [hgp] at hrow⊢
 rw [<-zbh 0 zs n] at hrow
 generalize w.alloc (.cells Z 41)=W1 at*
 clear hgp HOWN
 go_loopg [21] (n+1) (λg ix wr=>∃(k:Nat),k<=n/\n<g+k/\ix=.int .i64 k/\zbU wr gp n (zbR 0 zs n k)/\Below w.heap.size w wr)
 case atStart=>exact⟨0,Nat.zero_le _,by omega,rfl,hrow,hB⟩
 case round=>
  clear hrow hB hz
  obtain⟨k,hkn,hg,rfl,hrow,hB⟩:=hrel
  by_cases hlt:k<n
  ·obtain⟨ad,b1,B1,m1,d1,E1,u1,v1,rfl,-,hc0,hc1,hc2,hx⟩:=HA.out.get hB hlt
   obtain⟨ae,b2,B2,m2,d2,E2,u2,v2,rfl,hae,he0,he1,he2,hy⟩:=HB9.out.get hB hlt
   have hd1:decide ((k:Int)<(n:Int))=true:=by simp;omega
   have i1:(0:Int)<=(k:Int):=by omega
   have i2:(k:Int)<(n:Int):=by omega
   have hgr:=hrow.lt
   obtain⟨st,d3,d4⟩:=zav wr 41 #[.bool b1,.slice B1 m1 d1,.slice E1 u1 v1]
   have HBX:=lh9 d3
   have HX:=lh9 (hx.below st)
   have HY:=lh9 (hy.below st)
   have HROW:=lh9 (hrow.keep st)
   have HB1:=lh9 (zab hB st)
   have HE:=lh9 (And.intro (zac st he0) (And.intro (zac st he1) (zac st he2)))
   clear hx hy hrow hB st d3 d4 he0 he1 he2
   go_wp2_with fail
   clear hc0 hc1 hc2
   generalize wr.alloc (.cells #[.bool b1,.slice B1 m1 d1,.slice E1 u1 v1] 41)=W2 at*
   generalize wr.heap.size=gb at*
   obtain⟨p0,p1,p2⟩:=HBX.out.c3
   obtain⟨e0,e1,e2⟩:=HE.out
   have hBw:=(Below.refl W2.heap.size W2).drew
   have hne:=ziL (k:=k*3) (show ae.block≠gp by omega)
   refine rg (csc p0 (csc p1 (csc p2 (csc e0 (csc e1 (csc e2 csn)))))) (λhHeld=>?_)
   refine tk 0 ?_
   refine tk 1 ?_
   refine tk 2 ?_
   refine tk 3 ?_
   refine tk 4 ?_
   refine tk 5 ?_
   refine tk 6 ?_
   refine tk 7 ?_
   refine rc 8 (λK hK=>?_)
   go_simp
   refine(HF.out k hlt _ (zab HB1.out hBw) _ _ _ _ _ _ _ _ _ _ _ _ _ _ (HX.out.below hBw) (HY.out.below hBw)).mono ?_
   rintro e w3 ⟨b3,A3,n3,c3,E3,k3,f3,rfl,hw3,hb⟩
   have hBw:=zab hBw hb
   refine hK.out _ _ (Cs.below hHeld hb) (λhHeld=>?_);clear hK K hb
   refine tk 9 ?_
   have hr3:=HROW.out.keep hBw
   obtain⟨q0,q1,q2,sc0,sf0,sc1,sf1,sc2,sf2⟩:=hr3.ready hlt (.bool b3) (.slice A3 n3 c3)
   refine rc 10 (λK hK=>?_)
   go_simp
   have hr4:=zbm.set_ zaf hr3 hlt hw3
   rw [zbt 0 zs n k HLZ.out hlt _ (HG.out k hlt)] at hr4
   have hB4:=zbH (k*3) (k*3+1) (k*3+2) (.bool b3) (.slice A3 n3 c3) (.slice E3 k3 f3) hwg (zab HB1.out hBw)
   refine hK.out _ _ (Cs.far hHeld (offg3 _ _ _ _ _ _ _ _) (by refine⟨?_,?_,?_,hne,hne,hne,trivial⟩<;>(show gb≠gp;omega))) (λhHeld=>?_);clear hK K
   refine rdn ?_
   have HR4:=lh9 hr4
   have HB4:=lh9 hB4
   clear hr4 hB4 hr3 hHeld hBw hw3 sc0 sf0 sc1 sf1 sc2 sf2 p0 p1 p2 e0 e1 e2 HBX HX HY HROW HB1 HE
   go_wp2
   go_roundg (n - k)
   case measure=>omega
   case rel=>exact⟨k+1,by omega,by omega,by go_num,HR4.out,HB4.out⟩
  ·have hk:k=n:=by omega
   subst hk
   have hd1:decide ((k:Int)<(k:Int))=false:=by simp
   have HR:=lh9 (zbs 0 zs k HLZ.out▸hrow)
   have HB1:=lh9 hB
   clear hrow hB
   go_wp2
   go_ret2
   exact⟨gp,rfl,hwg,HR.out,HB1.out⟩
theorem zad.to8 {w:World}{x y:Nat}{A:oA9}{n c:Nat}(e:x=y)(h:zad w x A n c):zad w y A n c:=e▸h
theorem zaG.to8 {w:World}{x y:Int}{b:Bool}{A:oA9}{n c:Nat}(e:x=y)(h:zaG w x b A n c):zaG w y b A n c:=e▸h
theorem zlu (x:Nat)(A:oA9)(n c:Nat)(w:World)(h:zad w x A n c)(hn:n<=1099511627776):
  Calls Tryz.prog 146 #[.agg #[.slice A n c]] w λe w'=>∃(B:oA9) (m d:Nat),e=.returned (.slice B m d)/\zad w' x B m d/\Below w.heap.size w w':=by
 refine(zdo x A n c w h hn).mono ?_
 rintro e w' ⟨B,d,rfl,h1,h2,h3,h4⟩
 exact⟨B,_,d,rfl,⟨h1,h2,h3.1⟩,h4⟩
theorem of_row (x:Nat)(A:oA9)(n c:Nat)(w:World)(h:zad w x A n c)(hn:n<=1099511627776):
  Calls Tryz.prog 149 #[.slice A n c] w λe w'=>∃(B:oA9) (m d:Nat),e=.returned (.agg #[.slice B m d])/\zad w' x B m d/\Below w.heap.size w w':=by
 have k:=zcT A n c _ w h.1 (zcS (by decide) x) h.2.1 h.2.2 hn
 rw [zdz (by decide)] at k
 refine k.mono ?_
 rintro e w' ⟨B,m,d,rfl,h1,h2,_⟩
 exact⟨B,m,d,rfl,h1,h2⟩
theorem zpS {P:Program}{f:FuncId}{args:Array Value}{w:World}{z v:Int}(e:z=v)(h:Calls P f args w λe w'=>e=.returned (.tuple #[.int .u64 z,.bool true])/\Below w.heap.size w w'):Calls P f args w λe w'=>e=.returned (.tuple #[.int .u64 v,.bool true])/\Below w.heap.size w w':=by
 subst e;exact h
theorem zmy (x:Nat)(A:oA9)(n c:Nat)(w:World)(hA:zad w x A n c)(hn:n<=1099511627776):Calls Tryz.prog 151 #[.agg #[.slice A n c]] w (zcH w ((bitLen x:Nat):Int)):=zjH x A n c w hA hn
theorem zhB {K K':Nat}{z:Int}{k:Nat}(h:Sz K z.natAbs)(h':Sz K' k):Sz (K+K') (z*((k:Nat):Int)).natAbs:=by
 rw [Int.natAbs_mul,Int.natAbs_natCast]
 exact h.mul h'
theorem zar {K q x:Nat}(h:Sz K q)(e:q=(if x=0 then 1 else x)/\x≠1):Sz K x:=h.of_le (by rw [e.1];split<;>omega)
theorem zaM {w:World}{r:Rat}{b:Bool}{A:oA9}{n c:Nat}{E:oA9}{k f K:Nat}(h:zah w r b A n c E k f)(q:zaT n k)(hK:67108864=K):SzQ K r:=by
 obtain⟨x,e,hx⟩:=h.2
 have h1:Sz K r.num.natAbs:=Sz.of_words h.1.2 (by have:=q.1;omega)
 have h2:Sz K x:=Sz.of_words hx (by have:=q.2;omega)
 refine⟨h1,?_⟩
 rw [e.1]
 split
 ·exact zff (by omega)
 ·exact h2
theorem zfk (w:World):zad w 0 none 0 0:=by
 refine⟨⟨by rw [show dg 18446744073709551616 0=[] from by rw [dg];rfl];rfl,λh=>absurd h (by decide)⟩,Nat.le_refl _,by decide⟩
theorem zfR (w:World):zah w (0:Rat) false none 0 0 none 0 0:=⟨⟨rfl,zfk w⟩,⟨0,⟨rfl,by decide⟩,zfk w⟩⟩
theorem zeP {w:World}{z:Int}{b:Bool}{A:oA9}{n c:Nat}(h:zaG w z b A n c):zah w (z:Rat) b A n c none 0 0:=⟨by rw [Rat.num_intCast];exact h,⟨0,⟨by rw [Rat.den_intCast];rfl,by decide⟩,zfk w⟩⟩
theorem zqT {w:World}{r:Rat}{z:Int}{b:Bool}{A:oA9}{n c:Nat}{E:oA9}{k f:Nat}(hn:r.num=z)(hd:r.den=1)(h:zaG w z b A n c)(q:zad w 0 E k f):zah w r b A n c E k f:=
 ⟨by rw [hn];exact h,⟨0,⟨by rw [hd];rfl,by decide⟩,q⟩⟩
theorem zjS {w:World}{r:Rat}{z:Int}{y:Nat}{b:Bool}{A:oA9}{n c:Nat}{E:oA9}{k f:Nat}(hn:r.num=z)(hd:r.den=y)(hy:y≠1)(h:zaG w z b A n c)(q:zad w y E k f):zah w r b A n c E k f:=
 ⟨by rw [hn];exact h,⟨y,⟨by rw [if_neg (λh0=>r.den_nz (by rw [hd,h0]))];exact hd,hy⟩,q⟩⟩
theorem zgR {q x:Nat}(e:q=(if x=0 then 1 else x)/\x≠1)(h:q=1):x=0:=by
 refine Decidable.byContradiction λh0=>?_
 rw [if_neg h0] at e
 omega
theorem zeo {q x:Nat}(e:q=(if x=0 then 1 else x)/\x≠1)(h:q≠1):x≠0/\x=q:=by
 have h0:x≠0:=λh0=>h (by rw [e.1,if_pos h0])
 refine⟨h0,?_⟩
 have:=e.1
 rw [if_neg h0] at this
 exact this.symm
theorem zqY (z:Int):zba (decide (z<0)) z.natAbs=z:=by
 unfold zba
 by_cases h:z<0
 ·rw [decide_eq_true h,if_pos rfl];omega
 ·rw [decide_eq_false h,if_neg (by decide)];omega
theorem zqy {w:World}{x:Nat}{A:oA9}{n c:Nat}(h:zad w x A n c)(hn:n<=1):x<18446744073709551616:=zjJ h.len hn
theorem len_one {w:World}{x:Nat}{A:oA9}{n c:Nat}(h:zad w x A n c)(hx:x=1):n<=1:=by
 have h1:Sz 1 x:=by rw [hx];exact zff (by decide)
 exact h1.words h
theorem zoJ (p d:Int)(hd:d≠0):(Rat.divInt p d).num=zba (decide (p<0) !=decide (d<0)) (p.natAbs / Nat.gcd p.natAbs d.natAbs)/\(Rat.divInt p d).den=d.natAbs / Nat.gcd p.natAbs d.natAbs:=by
 refine⟨?_,made_den p d hd⟩
 have h1:=made_num p d hd
 have h2:=zqz p d hd
 rw [<-h1]
 generalize (Rat.divInt p d).num=z at*
 unfold zba
 by_cases hp:p<0
 ·by_cases hq:d<0
  ·rw [decide_eq_true hp,decide_eq_true hq];simp;omega
  ·rw [decide_eq_true hp,decide_eq_false hq];simp;omega
 ·by_cases hq:d<0
  ·rw [decide_eq_false hp,decide_eq_true hq];simp
   by_cases h0:p=0
   ·subst h0;simp at h1;omega
   ·omega
  ·rw [decide_eq_false hp,decide_eq_false hq];simp;omega
theorem zgN (z:Int)(baa:Bool)(Baa:oA9)(maa daa:Nat)(w:World)(hT:zai w)(haa:zaG w z baa Baa maa daa)(qaa:maa<=268435456):
  Calls Tryz.prog 144 #[.agg #[.bool baa,.slice Baa maa daa]] w (zbc w z):=by
 have HIC:=lh9 (zbV (T:=zai))
 have HT:=lh9 (λw' (hb:Below w.heap.size w w')=>hT.on hb)
 have HTB:=HT
 obtain⟨K,hKe⟩:∃K,268435456=K:=⟨_,rfl⟩
 have hKK:K<=268435456:=by omega
 have hK0:0<K:=by omega
 have HV:=lh9 (zqY z)
 obtain⟨sb,hsb⟩:∃s,decide (z<0)=s:=⟨_,rfl⟩
 rw [hsb] at HV
 have HSB:=lh9 hsb
 clear hsb
 have HNaa:=lh9 (λw' (b:Below w.heap.size w w')=>haa.below b)
 have HZaa:Hid (Sz K z.natAbs):=Sz.of_words haa.words (by omega)
 clear haa qaa
 clear hT hKe
 go_enter Tryz.func144,Tryz.ntmps144
 have hB:=Below.refl w.heap.size w
 obtain⟨bx1,bx2,bx3,bz⟩:=zbI w 39 39 #[.bool baa,.slice Baa maa daa] #[.bool false,.slice none 0 0]
 have hB:=zab hB bx1
 obtain⟨g1,e1⟩:=bx2.c2
 have k2:=bx3
 clear bx1 bx2 bx3 bz
 go_wp2_with fail
 generalize (w.alloc (.cells #[.bool baa,.slice Baa maa daa] 39)).alloc (.cells #[.bool false,.slice none 0 0] 39)=W1 at*
 have C0:=lh9 (λw' (h:Below W1.heap.size W1 w')=>zay (HSB.out) (HIC.out.belowI (z) baa Baa maa daa w' (HT.out _ (zab hB h)) (HNaa.out _ (zab hB h)) (szi HZaa (HNaa.out _ hB))))
 have HZ3:Hid (Sz (K) (z.natAbs)):=HZaa.out
 have C1:=lh9 (λw' (h:Below W1.heap.size W1 w')=>HIC.out.abs (z) baa Baa maa daa w' (HT.out _ (zab hB h)) (HNaa.out _ (zab hB h)) (szi HZaa (HNaa.out _ hB)))
 have HZ4:Hid (Sz (K) (zba sb z.natAbs).natAbs):=(by rw [zeb];exact HZ3.out)
 have C2:=lh9 (λw' (h:Below W1.heap.size W1 w') B3 m3 d3 (hw3:zad w' (z.natAbs) B3 m3 d3)=>HIC.out.new sb (z.natAbs) B3 m3 d3 w' (HT.out _ (zab hB h)) hw3 (szw HZ3 hw3))
 have hBw:=(Below.refl W1.heap.size W1).drew
 refine rg (csc g1 (csc e1 csn)) (λhHeld=>?_)
 refine tk 0 ?_
 refine tk 2 ?_
 refine rc 1 (λK hK=>?_)
 go_simp
 go_at_call 107;(with_reducible refine(C0.out _ hBw).mono ?_);rintro e wa2 ⟨rfl,hb⟩;have hBw:=zab hBw hb;refine hK.out _ _ (Cs.below hHeld hb) (λhHeld=>?_);clear hK K hb
 try simp only [sb9]
 refine rc 3 (λK hK=>?_)
 go_simp
 go_at_call 104;(with_reducible refine(C1.out _ hBw).mono ?_);rintro e wa3 ⟨B3,m3,d3,rfl,hw3,hb⟩;have hBw:=zab hBw hb;refine hK.out _ _ (Cs.below hHeld hb) (λhHeld=>?_);clear hK K hb
 try simp only [sb9]
 refine rc 4 (λK hK=>?_)
 go_simp
 go_at_call 163;(with_reducible refine(C2.out _ hBw _ _ _ hw3).mono ?_);rintro e wa4 ⟨b4,B4,m4,d4,rfl,hw4,hb⟩;have hBw:=zab hBw hb;have hw3:=hw3.below hb;refine hK.out _ _ (Cs.below hHeld hb) (λhHeld=>?_);clear hK K hb
 try simp only [sb9]
 obtain⟨sc0,sf0,sc1,sf1⟩:=st2 (zaa hBw k2) (.bool b4)
 refine rc 5 (λK hK=>?_)
 go_simp
 refine hK.out _ _ (cs2 (.bool b4) (.slice B4 m4 d4) hHeld) (λhHeld=>?_);clear hK K
 try simp only [sb9]
 refine rdn ?_
 have hB:=zab hB hBw
 have g1:=zac hBw g1
 have e1:=zac hBw e1
 have k2:=zaa hBw k2
 have HN4:=lh9 hw4
 clear hBw hHeld hw3 hw4 C0 C1 C2
 obtain⟨r0,r1⟩:=(sn2 k2 (.bool b4) (.slice B4 m4 d4)).c2
 have HG:=lh9 (gi2 (zaG.to8 HV.out HN4.out) k2 hB (by omega))
 go_wp2
 refine bodyPost_ret (v:=.agg #[.bool b4,.slice B4 m4 d4]) (by simp [results,Tryz.results144,go_sem,r0,r1]) rfl ?_
 exact HG.out
theorem zgh (z:Int)(k:Nat)(baa:Bool)(Baa:oA9)(maa daa:Nat)(Bab:oA9)(mab dab:Nat)(w:World)(hT:zai w)(haa:zaG w z baa Baa maa daa)(hab:zad w k Bab mab dab)(qaa:maa<=134217728)(qab:mab<=134217728):
  Calls Tryz.prog 203 #[.agg #[.bool baa,.slice Baa maa daa],.agg #[.slice Bab mab dab]] w (zbc w (z*((k:Nat):Int))):=by
 have HIC:=lh9 (zbV (T:=zai))
 have HT:=lh9 (λw' (hb:Below w.heap.size w w')=>hT.on hb)
 have HTB:=HT
 obtain⟨K,hKe⟩:∃K,134217728=K:=⟨_,rfl⟩
 have hKK:K<=134217728:=by omega
 have hK0:0<K:=by omega
 have HNaa:=lh9 (λw' (b:Below w.heap.size w w')=>haa.below b)
 have HZaa:Hid (Sz K z.natAbs):=Sz.of_words haa.words (by omega)
 clear haa qaa
 have HNab:=lh9 (λw' (b:Below w.heap.size w w')=>hab.below b)
 have HZab:Hid (Sz K k):=Sz.of_words hab (by omega)
 clear hab qab
 clear hT hKe
 go_enter Tryz.func203,Tryz.ntmps203
 have hB:=Below.refl w.heap.size w
 obtain⟨bx1,bx2,bx3,bx4,bz⟩:=zbL w 39 37 39 #[.bool baa,.slice Baa maa daa] #[.slice Bab mab dab] #[.bool false,.slice none 0 0]
 have hB:=zab hB bx1
 obtain⟨g1,e1⟩:=bx2.c2
 have g2:=bx3.c1
 have k3:=bx4
 clear bx1 bx2 bx3 bx4 bz
 go_wp2_with fail
 generalize ((w.alloc (.cells #[.bool baa,.slice Baa maa daa] 39)).alloc (.cells #[.slice Bab mab dab] 37)).alloc (.cells #[.bool false,.slice none 0 0] 39)=W1 at*
 have HZ4:Hid (Sz (K) (((k:Nat):Int)).natAbs):=(by rw [Int.natAbs_natCast];exact HZab.out)
 have C0:=lh9 (λw' (h:Below W1.heap.size W1 w')=>inew_pos HIC.out (k) Bab mab dab w' (HT.out _ (zab hB h)) (HNab.out _ (zab hB h)) (szw HZab (HNab.out _ hB)))
 have HZ5:Hid (Sz (K+K) (z*(((k:Nat):Int))).natAbs):=SzI.mul HZaa.out HZ4.out
 have C1:=lh9 (λw' (h:Below W1.heap.size W1 w') b4 B4 m4 d4 (hw4:zaG w' (((k:Nat):Int)) b4 B4 m4 d4)=>HIC.out.mul (z) (((k:Nat):Int)) baa b4 Baa B4 maa m4 daa d4 w' (HT.out _ (zab hB h)) (HNaa.out _ (zab hB h)) hw4 (szi HZaa (HNaa.out _ hB)) (szi HZ4 hw4))
 have hBw:=(Below.refl W1.heap.size W1).drew
 refine rg (csc g1 (csc e1 (csc g2 csn))) (λhHeld=>?_)
 refine tk 0 ?_
 refine tk 1 ?_
 refine rc 2 (λK hK=>?_)
 go_simp
 go_at_call 163;(with_reducible refine(C0.out _ hBw).mono ?_);rintro e wa2 ⟨b4,B4,m4,d4,rfl,hw4,hb⟩;have hBw:=zab hBw hb;refine hK.out _ _ (Cs.below hHeld hb) (λhHeld=>?_);clear hK K hb
 try simp only [sb9]
 refine rc 3 (λK hK=>?_)
 go_simp
 go_at_call 102;(with_reducible refine(C1.out _ hBw _ _ _ _ hw4).mono ?_);rintro e wa3 ⟨b5,B5,m5,d5,rfl,hw5,hb⟩;have hBw:=zab hBw hb;have hw4:=hw4.below hb;refine hK.out _ _ (Cs.below hHeld hb) (λhHeld=>?_);clear hK K hb
 try simp only [sb9]
 obtain⟨sc0,sf0,sc1,sf1⟩:=st2 (zaa hBw k3) (.bool b5)
 refine rc 4 (λK hK=>?_)
 go_simp
 refine hK.out _ _ (cs2 (.bool b5) (.slice B5 m5 d5) hHeld) (λhHeld=>?_);clear hK K
 try simp only [sb9]
 refine rdn ?_
 have hB:=zab hB hBw
 have g1:=zac hBw g1
 have e1:=zac hBw e1
 have g2:=zac hBw g2
 have k3:=zaa hBw k3
 have HN5:=lh9 hw5
 clear hBw hHeld hw4 hw5 C0 C1
 obtain⟨r0,r1⟩:=(sn2 k3 (.bool b5) (.slice B5 m5 d5)).c2
 have HG:=lh9 (gi2 (HN5.out) k3 hB (by omega))
 go_wp2
 refine bodyPost_ret (v:=.agg #[.bool b5,.slice B5 m5 d5]) (by simp [results,Tryz.results203,go_sem,r0,r1]) rfl ?_
 exact HG.out
theorem znn (r:Rat)(baa:Bool)(Baa:oA9)(maa daa:Nat)(Eaa:oA9)(uaa vaa:Nat)(w:World)(hT:zai w)(haa:zah w r baa Baa maa daa Eaa uaa vaa)(qaa:zaT maa uaa)(hd:r.den=1):
  Calls Tryz.prog 79 #[.agg #[.bool baa,.slice Baa maa daa,.slice Eaa uaa vaa]] w (λe w'=>e=.returned (.bool true)/\Below w.heap.size w w'):=by
 have HT:=lh9 (λw' (hb:Below w.heap.size w w')=>hT.on hb)
 have HTB:=HT
 obtain⟨K,hKe⟩:∃K,67108864=K:=⟨_,rfl⟩
 have hKK:K<=67108864:=by omega
 have hK0:0<K:=by omega
 obtain⟨xaa,hxaa,hxwaa⟩:=haa.2
 have HXaa:=lh9 hxaa
 have HZaa:Hid (SzQ K r):=zaM haa qaa hKe
 have HZaap:Hid (Sz K r.num.natAbs):=HZaa.out.num
 have HZaaq:Hid (Sz K xaa):=zar HZaa.out.den hxaa
 have HNaaq:=lh9 (λw' (b:Below w.heap.size w w')=>hxwaa.below b)
 clear haa qaa hxaa hxwaa
 have HX0:=lh9 (zgR HXaa.out hd)
 clear hT hKe hd
 go_enter Tryz.func79,Tryz.ntmps79
 have hB:=Below.refl w.heap.size w
 obtain⟨bx1,bx2,bz⟩:=zav w 41 #[.bool baa,.slice Baa maa daa,.slice Eaa uaa vaa]
 have hB:=zab hB bx1
 obtain⟨g1,e1,i1⟩:=bx2.c3
 clear bx1 bx2 bz
 go_wp2_with fail
 generalize w.alloc (.cells #[.bool baa,.slice Baa maa daa,.slice Eaa uaa vaa] 41)=W1 at*
 (with_reducible refine(zee HX0.out (HNaaq.out _ hB)).mono ?_)
 rintro e wc2 ⟨rfl,hb⟩
 have hB:=zab hB hb
 have g1:=zac hb g1
 have e1:=zac hb e1
 have i1:=zac hb i1
 clear hb 
 go_wp2
 go_ret
 exact⟨by first|rfl|simp,hB⟩
theorem znm (r:Rat)(baa:Bool)(Baa:oA9)(maa daa:Nat)(Eaa:oA9)(uaa vaa:Nat)(w:World)(hT:zai w)(haa:zah w r baa Baa maa daa Eaa uaa vaa)(qaa:zaT maa uaa)(hd:r.den≠1):
  Calls Tryz.prog 79 #[.agg #[.bool baa,.slice Baa maa daa,.slice Eaa uaa vaa]] w (λe w'=>e=.returned (.bool false)/\Below w.heap.size w w'):=by
 have HT:=lh9 (λw' (hb:Below w.heap.size w w')=>hT.on hb)
 have HTB:=HT
 obtain⟨K,hKe⟩:∃K,67108864=K:=⟨_,rfl⟩
 have hKK:K<=67108864:=by omega
 have hK0:0<K:=by omega
 obtain⟨xaa,hxaa,hxwaa⟩:=haa.2
 have HXaa:=lh9 hxaa
 have HZaa:Hid (SzQ K r):=zaM haa qaa hKe
 have HZaap:Hid (Sz K r.num.natAbs):=HZaa.out.num
 have HZaaq:Hid (Sz K xaa):=zar HZaa.out.den hxaa
 have HNaaq:=lh9 (λw' (b:Below w.heap.size w w')=>hxwaa.below b)
 clear haa qaa hxaa hxwaa
 have HX0:=lh9 (zeo HXaa.out hd).1
 clear hT hKe hd
 go_enter Tryz.func79,Tryz.ntmps79
 have hB:=Below.refl w.heap.size w
 obtain⟨bx1,bx2,bz⟩:=zav w 41 #[.bool baa,.slice Baa maa daa,.slice Eaa uaa vaa]
 have hB:=zab hB bx1
 obtain⟨g1,e1,i1⟩:=bx2.c3
 clear bx1 bx2 bz
 go_wp2_with fail
 generalize w.alloc (.cells #[.bool baa,.slice Baa maa daa,.slice Eaa uaa vaa] 41)=W1 at*
 (with_reducible refine(zer HX0.out (HNaaq.out _ hB)).mono ?_)
 rintro e wc2 ⟨rfl,hb⟩
 have hB:=zab hB hb
 have g1:=zac hb g1
 have e1:=zac hb e1
 have i1:=zac hb i1
 clear hb 
 go_wp2
 go_ret
 exact⟨by first|rfl|simp,hB⟩
theorem zby (r:Rat)(baa:Bool)(Baa:oA9)(maa daa:Nat)(Eaa:oA9)(uaa vaa:Nat)(w:World)(hT:zai w)(haa:zah w r baa Baa maa daa Eaa uaa vaa)(qaa:zaT maa uaa):
  Calls Tryz.prog 79 #[.agg #[.bool baa,.slice Baa maa daa,.slice Eaa uaa vaa]] w (λe w'=>e=.returned (.bool (decide (r.den=1)))/\Below w.heap.size w w'):=by
 by_cases hd:r.den=1
 ·rw [decide_eq_true hd];exact znn r baa Baa maa daa Eaa uaa vaa w hT haa qaa hd
 ·rw [decide_eq_false hd];exact znm r baa Baa maa daa Eaa uaa vaa w hT haa qaa hd
