/- What this claim leans on. -/
import Derived.Test.YtghpdeciaaagnaaGreatDoorIMArgs
namespace Go.Proofs.YtghpdeciaaagnaaGreatDoor
open Go Go.RowKit
set_option maxHeartbeats 16000000
set_option maxRecDepth 100000
set_option linter.unusedVariables false
set_option linter.unusedSimpArgs false
def zkz (w:World)(n m:Nat)(Ls:List (List Rat))(e:Ending)(w':World):Prop:=∃g,e=.returned (.slice (some ⟨g,0,none⟩) n n)/\w.heap.size<=g/\zaC (FullV m) w' 61 g n Ls/\Below w.heap.size w w'
section
variable {w:World}{A:oA9}{n c m K:Nat}{MM:List (List Rat)}
theorem zks (hT:zai w)(h:zaR w A n c m MM)(z:zax K MM)(hK:K+2<=67108864:=by omega):
  Calls Tryz.prog 65 #[.agg #[.slice A n c,.int .i64 (m:Int)]] w (zkz w n m MM):=by
 obtain⟨hn,hm⟩:=And.intro h.hn h.hm
 have HM:=lh9 (λw' (hb:Below w.heap.size w w')=>h.keep hb)
 have HT:=lh9 (λw' (hb:Below w.heap.size w w')=>hT.on hb)
 have HZ:=lh9 z
 have HR:=λW=>lh9 (zbd A n c (m:Int) W)
 have HLZ:Hid (MM.length=n):=h.dims.rows
 have HLC:Hid (∀i,i<n->(MM.getD i []).length=m):=λi hi=>h.dims.row hi
 have HG:Hid (∀i,i<n->MM[i]?=some (MM.getD i [])):=λi hi=>zbE (by have:=h.dims.rows;omega)
 obtain⟨Y,hY⟩:=zoy (zeE m) n (by omega)
 have hmk:=λW=>(hY W).1
 have HOWN:=lh9 (λW=>(hY W).2)
 obtain⟨bx1,bx2,bz⟩:=zav w 28 #[.slice A n c,.int .i64 (m:Int)]
 obtain⟨g0,g1⟩:=bx2.c2
 have HB:=lh9 bx1
 have HK:=lh9 bx2
 clear h hY bx1 bx2 bz hT z
 unfold zkz
 have i0:(0:Int)<=(n:Int):=by omega
 go_enter Tryz.func65,Tryz.ntmps65
 go_wp2_with fail
 generalize w.alloc (.cells #[.slice A n c,.int .i64 (m:Int)] 28)=W1 at*
 refine(HR _).out.mono ?_
 rintro eo w1 ⟨rfl,hb⟩
 have hK1:=zaa hb HK.out
 have hB1:=zab HB.out hb
 clear hb g0 g1 HR HB HK
 go_wp2_with fail
 clear hmk
 have hrow:=HOWN.out w1
 have hBa:=(zav w1 61 Y).1
 have hK:=zaa hBa hK1
 have hB:=zab hB1 hBa
 have hlt1:=hK1.lt
 rw [<-zbh [] MM n] at hrow
 generalize w1.alloc (.cells Y 61)=W2 at*
 clear HOWN hBa hK1 hB1
 generalize w1.heap.size=gp at*
 go_loopg [10] (n+1) (λg ix wr=>∃(k:Nat),k<=n/\n<g+k/\ix=.int .i64 k/\zaC (FullV m) wr 61 gp n (zbR [] MM n k)/\Below w.heap.size w wr/\Blk wr w.heap.size 28 #[.slice A n c,.int .i64 (m:Int)])
 case atStart=>exact⟨0,Nat.zero_le _,by omega,rfl,hrow,hB,hK⟩
 case round=>
  clear hrow hB hK
  obtain⟨i,hkn,hg,rfl,hrow,hB,hK⟩:=hrel
  by_cases hlt:i<n
  ·have hd1:decide ((i:Int)<(n:Int))=true:=decide_eq_true (by omega)
   have i1:(0:Int)<=(i:Int):=by omega
   have i2:(i:Int)<(n:Int):=by omega
   obtain⟨g0,g1⟩:=hK.c2
   have HROW:=lh9 hrow
   have HB1:=lh9 hB
   have HK1:=lh9 hK
   have HGI:=lh9 (HG.out i hlt)
   clear hrow hB hK
   go_wp2_with fail
   (with_reducible refine(zpx (HT.out _ HB1.out) (HM.out _ HB1.out) HZ.out hlt).mono ?_)
   rintro eo w5 ⟨g5,rfl,hg5,ho5,hb⟩
   clear g0 g1
   have hr5:=HROW.out.below (zeE m) hb
   have hr6:=zaC.set_ (zeE m) hr5 hlt ⟨zaJ ho5,λe=>e⟩ (HLC.out i hlt)
   rw [zbt [] MM n i HLZ.out hlt _ HGI.out] at hr6
   obtain⟨q0,sc0,sf0⟩:=hr5.ready hlt
   have HR6:=lh9 hr6
   have HB6:=lh9 (zae (p:=⟨gp,i,none⟩) (.slice (some ⟨g5,0,none⟩) m m) (show w.heap.size<=gp by omega) (zab HB1.out hb))
   have HK6:=lh9 (Blk.far (p:=⟨gp,i,none⟩) (zaa hb HK1.out) (by show w.heap.size≠gp;omega) (.slice (some ⟨g5,0,none⟩) m m))
   clear hr5 hr6 ho5 hb HROW HB1 HK1 HGI
   go_wp2
   go_roundg (n - i)
   case measure=>omega
   case rel=>exact⟨i+1,by omega,by omega,by go_num,HR6.out,HB6.out,HK6.out⟩
  ·have hk9:i=n:=by omega
   subst hk9
   have hd1:decide ((i:Int)<(i:Int))=false:=by simp
   have HR5:=lh9 (zbs [] MM i HLZ.out▸hrow)
   have HB1:=lh9 hB
   clear hrow hB hK
   go_wp2
   go_ret
   exact⟨gp,rfl,by omega,HR5.out,HB1.out⟩
end
def zgv (n:Nat)(X:List (List Rat))(r:Nat):List (List Rat):=X.mapIdx λi row=>if i<r then row.drop n else row
theorem zoc (n:Nat)(X:List (List Rat)):zgv n X 0=X:=by
 unfold zgv
 apply List.ext_getElem?
 intro i
 rw [List.getElem?_mapIdx]
 cases X[i]?<;>rfl
theorem cutTo_at {n:Nat}{X:List (List Rat)}{r:Nat}(hr:r<X.length):(zgv n X r)[r]?=some (X.getD r []):=by
 unfold zgv
 rw [List.getElem?_mapIdx,List.getElem?_eq_getElem hr]
 show some (if r<r then _ else _)=_
 rw [if_neg (by omega),show X.getD r []=X[r] by rw [List.getD_eq_getElem?_getD,List.getElem?_eq_getElem hr];rfl]
theorem zqf {n:Nat}{X:List (List Rat)}{r:Nat}(hr:r<X.length):(zgv n X r).set r ((X.getD r []).drop n)=zgv n X (r+1):=by
 apply List.ext_getElem?
 intro i
 unfold zgv
 rw [List.getElem?_mapIdx,List.getElem?_set]
 by_cases e:r=i
 ·subst e
  rw [if_pos rfl,if_pos (by rw [List.length_mapIdx];exact hr),List.getElem?_eq_getElem hr]
  dsimp only [Option.map_some]
  rw [if_pos (by omega),show X.getD r []=X[r] by rw [List.getD_eq_getElem?_getD,List.getElem?_eq_getElem hr];rfl]
 ·rw [if_neg e,List.getElem?_mapIdx]
  cases X[i]? with
  |none=>rfl
  |some row=>
    dsimp only [Option.map_some]
    by_cases e2:i<r
    ·rw [if_pos e2,if_pos (by omega)]
    ·rw [if_neg e2,if_neg (by omega)]
theorem zqe {n:Nat}{X:List (List Rat)}:zgv n X X.length=X.map (List.drop n):=by
 apply List.ext_getElem?
 intro i
 unfold zgv
 rw [List.getElem?_mapIdx,List.getElem?_map]
 cases h:X[i]? with
 |none=>rfl
 |some row=>
   have:=(List.getElem?_eq_some_iff.1 h).1
   show some (if i<X.length then _ else _)=_
   rw [if_pos this];rfl
theorem zaz.some_ {w:World}{B:oA9}{n d:Nat}{xs:List Rat}(h:zaz w B n d xs)(hn:0<n):∃p,B=some p:=by
 obtain⟨ad,_,_,_,_,_,_,_,e,_⟩:=h.num 0 _ (List.getElem?_eq_getElem (by rw [h.len];exact hn))
 exact⟨ad,e⟩
def ziV (w:World)(n:Nat)(X:List (List Rat))(t:Bool)(eo:Ending)(w':World):Prop:=if t=true then zcU w n n (zfr n X) eo w' else zhI w eo w'
section
variable {w:World}{A:oA9}{n c m K K0:Nat}{X:List (List Rat)}
theorem zmL (hnm:n≠m):Calls Tryz.prog 19 #[.agg #[.slice A n c,.int .i64 (m:Int)]] w (zhI w):=by
 obtain⟨bx1,bx2,bx3,-⟩:=zbI w 28 28 #[.slice A n c,.int .i64 (m:Int)] #[.slice none 0 0,.int .i64 0]
 obtain⟨p0,p1⟩:=bx2.c2
 have HB:=lh9 bx1
 have HK2:=lh9 bx3
 have d1:((n:Int) !=(m:Int))=true:=by rw [bne_iff_ne];omega
 clear bx1 bx2 bx3
 go_enter Tryz.func19,Tryz.ntmps19
 go_wp2_with fail
 generalize (w.alloc (.cells #[.slice A n c,.int .i64 (m:Int)] 28)).alloc (.cells #[.slice none 0 0,.int .i64 0] 28)=W1 at*
 have hbd:=(Below.refl W1.heap.size W1).drew
 refine rg (csc p0 (csc p1 csn)) (λhHeld=>?_)
 have HB:=lh9 (zab HB.out hbd)
 have HK2:=lh9 (zaa hbd HK2.out)
 clear p0 p1 hbd
 generalize W1.drew=D at*
 refine tk 0 ?_
 refine tk 2 ?_
 refine rc 1 (λKK hK9=>?_)
 go_simp
 refine(zbd A n c (m:Int) _).mono ?_
 rintro eo w2 ⟨rfl,hb⟩
 refine hK9.out _ _ (Cs.below hHeld hb) (λhHeld=>?_)
 have HB:=lh9 (zab HB.out hb)
 have HK2:=lh9 (zaa hb HK2.out)
 clear hK9 KK hb
 refine rc 3 (λKK hK9=>?_)
 go_simp
 refine(zbr A n c (m:Int) _).mono ?_
 rintro eo w3 ⟨rfl,hb⟩
 refine hK9.out _ _ (Cs.below hHeld hb) (λhHeld=>?_)
 have HB:=lh9 (zab HB.out hb)
 have HK2:=lh9 (zaa hb HK2.out)
 clear hK9 KK hb
 refine tk 4 ?_
 refine rdn ?_
 clear hHeld
 obtain⟨sc0,sf0,sc1,sf1⟩:=st2 HK2.out (.slice none 0 0)
 obtain⟨r0,r1⟩:=(sn2 HK2.out (.slice none 0 0) (.int .i64 0)).c2
 have HBF:=lh9 (bl2 (.slice none 0 0) (.int .i64 0) (show w.heap.size<=w.heap.size+1 by omega) HB.out)
 clear HB HK2
 go_wp2
 refine bodyPost_ret (v:=.tuple #[.agg #[.slice none 0 0,.int .i64 0],.bool false]) (by simp [results,Tryz.results19,go_sem,r0,r1]) rfl ?_
 exact⟨rfl,HBF.out⟩
theorem zmK (t:Bool)(ht:decide ((zbA n X).ld.length<n)= !t)(hT:zai w)(h:zaR w A n c n X)(z:zax K0 X)(hW:zbS K (zcc n X))(hK:260*K+269<=33554432:=by omega)(hK0:K+K0<=33554432:=by omega)(hKp:0<K:=by omega)(hKq:0<K0:=by omega):
  Calls Tryz.prog 19 #[.agg #[.slice A n c,.int .i64 (n:Int)]] w (ziV w n X t):=by
 obtain⟨hn,-⟩:=And.intro h.hn h.hm
 have HM:=lh9 (λw' (hb:Below w.heap.size w w')=>h.keep hb)
 have HT:=lh9 (λw' (hb:Below w.heap.size w w')=>hT.on hb)
 have HZ:=lh9 z
 have HSZ:=lh9 (znu z hKq (n:=n))
 have HW:=lh9 hW
 have HD:=lh9 (zds h.dims)
 have HDX:=lh9 h.dims
 have HXL:Hid (X.length=n):=h.dims.rows
 obtain⟨s1,s2,s3,s4⟩:=zpP h.dims hn hW
 have HS1:=lh9 s1
 have HS2:=lh9 s2
 have HS3:=lh9 s3
 have HS4:=lh9 s4
 have HDI:=lh9 (zkO h.dims)
 have HDE:=lh9 (zfg h.dims).dims
 have HIM:Hid (zfr n X=(zcs (zbA n X).p⁻¹ (zbA n X).S).map (List.drop n)):=rfl
 have HTT:=lh9 ht
 obtain⟨bx1,bx2,bx3,-⟩:=zbI w 28 28 #[.slice A n c,.int .i64 (n:Int)] #[.slice none 0 0,.int .i64 0]
 obtain⟨p0,p1⟩:=bx2.c2
 have HB:=lh9 bx1
 have HK1:=lh9 bx2
 have HK2:=lh9 bx3
 have d1:((n:Int) !=(n:Int))=false:=by simp
 have hst:zeD n (zbe (zcc n X))=zbA n X:=rfl
 obtain⟨st,hst2⟩:∃st,zbA n X=st:=⟨_,rfl⟩
 rw [hst2] at hst HS2 HS3 HS4 HDE HIM HTT
 obtain⟨IM,hIM⟩:∃IM,zfr n X=IM:=⟨_,rfl⟩
 have HGI:Hid (∀eo w',(if t=true then zcU w n n IM eo w' else zhI w eo w')->ziV w n X t eo w'):=λeo w' h=>by unfold ziV;rw [hIM];exact h
 rw [hIM] at HIM HS1 HDI
 have HST:=lh9 hst
 clear h hT z hW bx1 bx2 bx3 hst hst2 s1 s2 s3 s4 ht hIM
 go_enter Tryz.func19,Tryz.ntmps19
 go_wp2_with fail
 generalize (w.alloc (.cells #[.slice A n c,.int .i64 (n:Int)] 28)).alloc (.cells #[.slice none 0 0,.int .i64 0] 28)=W1 at*
 have hbd:=(Below.refl W1.heap.size W1).drew
 refine rg (csc p0 (csc p1 csn)) (λhHeld=>?_)
 have HB:=lh9 (zab HB.out hbd)
 have HK1:=lh9 (zaa hbd HK1.out)
 have HK2:=lh9 (zaa hbd HK2.out)
 clear p0 p1 hbd
 generalize W1.drew=D at*
 refine tk 0 ?_
 refine tk 2 ?_
 refine rc 1 (λKK hK9=>?_)
 go_simp
 refine(zbd A n c (n:Int) _).mono ?_
 rintro eo w2 ⟨rfl,hb⟩
 refine hK9.out _ _ (Cs.below hHeld hb) (λhHeld=>?_)
 have HB:=lh9 (zab HB.out hb)
 have HK1:=lh9 (zaa hb HK1.out)
 have HK2:=lh9 (zaa hb HK2.out)
 clear hK9 KK hb
 refine rc 3 (λKK hK9=>?_)
 go_simp
 refine(zbr A n c (n:Int) _).mono ?_
 rintro eo w3 ⟨rfl,hb⟩
 refine hK9.out _ _ (Cs.below hHeld hb) (λhHeld=>?_)
 have HB:=lh9 (zab HB.out hb)
 have HK1:=lh9 (zaa hb HK1.out)
 have HK2:=lh9 (zaa hb HK2.out)
 clear hK9 KK hb
 refine tk 4 ?_
 refine rdn ?_
 clear hHeld
 obtain⟨p0,p1⟩:=HK1.out.c2
 go_wp2_with fail
 clear p0 p1
 (with_reducible refine(zks (HT.out _ HB.out) (HM.out _ HB.out) HZ.out (by omega)).mono ?_)
 rintro eo w4 ⟨g4,rfl,hg4,ho4,hb⟩
 have hB:=zab HB.out hb
 have hK1:=zaa hb HK1.out
 have hK2:=zaa hb HK2.out
 have hg4':w.heap.size+1<g4:=by have:=HK2.out.lt;omega
 rw [<-znv n X] at ho4
 clear hb HB HK1 HK2 hg4
 go_wp2_with fail
 go_loopg [21] (n+1) (λgg ix wr=>∃(k:Nat),k<=n/\n<gg+k/\ix=.int .i64 k/\zaC (FullV n) wr 61 g4 n (zdt n X k)/\Below w.heap.size w wr/\Blk wr w.heap.size 28 #[.slice A n c,.int .i64 (n:Int)]/\Blk wr (w.heap.size+1) 28 #[.slice none 0 0,.int .i64 0])
 case atStart=>exact⟨0,Nat.zero_le _,by omega,rfl,ho4,hB,hK1,hK2⟩
 case round=>
  clear ho4 hB hK1 hK2
  obtain⟨i,hkn,hg,rfl,hrow,hB,hK1,hK2⟩:=hrel
  by_cases hlt:i<n
  ·have d2:decide ((i:Int)<(n:Int))=true:=decide_eq_true (by omega)
   have i1:(0:Int)<=(i:Int):=by omega
   have i2:(i:Int)<(n:Int):=by omega
   have HROW:=lh9 hrow
   have HB:=lh9 hB
   have HK1:=lh9 hK1
   have HK2:=lh9 hK2
   clear hrow hB hK1 hK2
   go_wp2_with fail
   (with_reducible refine(znE n i _ (HT.out _ HB.out) hn hlt).mono ?_)
   rintro eo w5 ⟨g5,rfl,hg5,ho5,hb⟩
   have hrow:=HROW.out.below (zeE n) hb
   have HB:=lh9 (zab HB.out hb)
   have HK1:=lh9 (zaa hb HK1.out)
   have HK2:=lh9 (zaa hb HK2.out)
   have hLi:(zdt n X i)[i]?=some (X.getD i []):=by
    have e:=zgQ (n:=n) (X:=X) (r:=i) (i:=i) (by rw [HXL.out];exact hlt)
    rw [if_neg (by omega)] at e
    rw [<-e]
    exact zbE (by rw [zgP,HXL.out];exact hlt)
   obtain⟨B,d,hc9,hv9,hd9⟩:=hrow.num i _ hLi
   rw [HDX.out.row hlt] at hc9 hv9 hd9
   have hd9:d=n:=hd9 rfl
   subst hd9
   obtain⟨p,rfl⟩:=hv9.some_ (by omega)
   have HROW:=lh9 hrow
   have HV9:=lh9 hv9
   have HV5:=lh9 (zaJ ho5)
   clear hb hrow hv9 ho5 hLi
   go_wp2_with (at_builtin;go_loud (refine zia rfl (.tmp 36) (.tmp 37) 61 rfl Tryz.underlying61 p ⟨g5,0,none⟩ d d d (X.getD i []) (zec d i) rfl rfl HV9.out HV5.out (by omega) (by omega) ?_;intro c9 w6 hv6 hb6;have hr6:=HROW.out.below (zeE d) hb6;obtain⟨q0,sc0,sf0⟩:=hr6.ready hlt;have HR6:=lh9 hr6;have HV6:=lh9 hv6;have HB6:=lh9 hb6;clear hr6 hv6 hb6))
   have hr7:=zaC.set_ (zeE d) HR6.out hlt (L:=zgm d (X.getD i []) i) (m:=d+d) ⟨HV6.out,λe=>by omega⟩ HV6.out.len
   rw [zpa (by rw [HXL.out];exact hlt)] at hr7
   have HR7:=lh9 hr7
   have HB7:=lh9 (zae (p:=⟨g4,i,none⟩) (.slice (some ⟨w5.heap.size,0,none⟩) (d+d) c9) (show w.heap.size<=g4 by omega) (zab HB.out HB6.out))
   have HK17:=lh9 (Blk.far (p:=⟨g4,i,none⟩) (zaa HB6.out HK1.out) (by show w.heap.size≠g4;omega) (.slice (some ⟨w5.heap.size,0,none⟩) (d+d) c9))
   have HK27:=lh9 (Blk.far (p:=⟨g4,i,none⟩) (zaa HB6.out HK2.out) (by show w.heap.size+1≠g4;omega) (.slice (some ⟨w5.heap.size,0,none⟩) (d+d) c9))
   clear hr7 HROW HV9 HV5 HR6 HV6 HB6 hc9 sc0 sf0 HB HK1 HK2
   go_wp2
   go_roundg (d - i)
   case measure=>omega
   case rel=>exact⟨i+1,by omega,by omega,by go_num,HR7.out,HB7.out,HK17.out,HK27.out⟩
  ·have hk9:i=n:=by omega
   subst hk9
   have d2:decide ((i:Int)<(i:Int))=false:=by simp
   have HR:Hid (zaB (zaI zah) wr (some ⟨g4,0,none⟩) i (zcc i X)):=(hrow.wider (R':=zaI zah) λx=>x.1).rows
   have HB:=lh9 hB
   have HK1:=lh9 hK1
   have HK2:=lh9 hK2
   obtain⟨p0,p1⟩:=hK1.c2
   clear hrow hB hK1 hK2
   go_wp2_with fail
   clear p0 p1
   refine(zbr A i c (i:Int) _).mono ?_
   rintro eo w7 ⟨rfl,hb⟩
   have HB:=lh9 (zab HB.out hb)
   have HK1:=lh9 (zaa hb HK1.out)
   have HK2:=lh9 (zaa hb HK2.out)
   have HR:=lh9 (HR.out.below (zam zaf) hb)
   clear hb
   go_wp2_with fail
   (with_reducible refine(zhP (HT.out _ HB.out) HR.out HD.out HSZ.out HW.out hn (by omega) (by omega) hK hK0 hKp).mono ?_)
   rintro eo w8 ⟨g8,rfl,hg8,⟨A8,cA8,B8,k8,cB8,z0,z1,z2,u0,u1,u2,hes⟩,hb⟩
   rw [HST.out] at hes
   have HB:=lh9 (zab HB.out hb)
   have HK1:=lh9 (zaa hb HK1.out)
   have HK2:=lh9 (zaa hb HK2.out)
   have HES:=lh9 hes
   clear hb hes HR hg8
   go_upto_region 11 with fail
   have hbd:=(Below.refl w8.heap.size w8).drew
   obtain⟨p0,p1⟩:=HK1.out.c2
   obtain⟨-,p2,-⟩:=HES.out.cells
   refine rg (csc p0 (csc p1 (csc p2 csn))) (λhHeld=>?_)
   have HB:=lh9 (zab HB.out hbd)
   have HES:=lh9 (HES.out.below hbd)
   have HK1:=lh9 (zaa hbd HK1.out)
   have HK2:=lh9 (zaa hbd HK2.out)
   clear p0 p1 p2 hbd
   generalize w8.drew=D8 at*
   refine tk 0 ?_
   refine tk 1 ?_
   refine tk 2 ?_
   refine tk 3 ?_
   refine tk 4 ?_
   refine tk 5 ?_
   refine rc 6 (λKK hK9=>?_)
   go_simp
   refine(zbd A i c (i:Int) _).mono ?_
   rintro eo w9 ⟨rfl,hb⟩
   refine hK9.out _ _ (Cs.below hHeld hb) (λhHeld=>?_)
   have HB:=lh9 (zab HB.out hb)
   have HES:=lh9 (HES.out.below hb)
   have HK1:=lh9 (zaa hb HK1.out)
   have HK2:=lh9 (zaa hb HK2.out)
   clear hK9 KK hb
   refine tk 7 ?_
   refine rdn ?_
   clear hHeld
   have hk8:decide ((k8:Int)<(i:Int))= !t:=by
    rw [<-HTT.out,HES.out.hk]
    by_cases e:k8<i
    ·rw [decide_eq_true e,decide_eq_true (by omega)]
    ·rw [decide_eq_false e,decide_eq_false (by omega)]
   cases t
   ·have d3:decide ((k8:Int)<(i:Int))=true:=hk8
    have hlt8:k8<i:=by have:=of_decide_eq_true d3;omega
    clear hk8
    obtain⟨sc0,sf0,sc1,sf1⟩:=st2 HK2.out (.slice none 0 0)
    obtain⟨r0,r1⟩:=(sn2 HK2.out (.slice none 0 0) (.int .i64 0)).c2
    have HBF:=lh9 (bl2 (.slice none 0 0) (.int .i64 0) (show w.heap.size<=w.heap.size+1 by omega) HB.out)
    clear HB HK2
    go_wp2
    refine bodyPost_ret (v:=.tuple #[.agg #[.slice none 0 0,.int .i64 0],.bool false]) (by simp [results,Tryz.results19,go_sem,r0,r1]) rfl ?_
    exact HGI.out _ _ ⟨rfl,HBF.out⟩
   ·have d3:decide ((k8:Int)<(i:Int))=false:=hk8
    have hlt8:¬(k8<i):=by have:=of_decide_eq_false d3;omega
    clear hk8
    go_upto_region 13 with fail
    go_wp2_with fail
    (with_reducible refine(zhj (HT.out _ HB.out) HES.out HDE.out HS4.out HS2.out HS3.out hn (by omega) (by omega)).mono ?_)
    rintro eo w10 ⟨g10,rfl,hg10,ho10,hb⟩
    have hB:=zab HB.out hb
    have hK1:=zaa hb HK1.out
    have hK2:=zaa hb HK2.out
    have hg10':w.heap.size+1<g10:=by have:=HK2.out.lt;omega
    have HDS:=lh9 (zen HDE.out st.p⁻¹)
    obtain⟨RM,hRM⟩:∃RM,zcs st.p⁻¹ st.S=RM:=⟨_,rfl⟩
    rw [hRM] at ho10 HIM HDS
    have HRL:Hid (RM.length=i):=HDS.out.rows
    obtain⟨m2,hm2⟩:∃m2,i+i=m2:=⟨_,rfl⟩
    have HM2:=lh9 hm2
    rw [hm2] at HDS
    rw [<-zoc i RM] at ho10
    clear hb HB HK1 HK2 hg10 HES hRM hm2
    go_wp2_with fail
    go_loopg [58] (i+1) (λgg ix wr=>∃(k:Nat),k<=i/\i<gg+k/\ix=.int .i64 k/\zaC (zaI zah) wr 61 g10 i (zgv i RM k)/\Below w.heap.size w wr/\Blk wr w.heap.size 28 #[.slice A i c,.int .i64 (i:Int)]/\Blk wr (w.heap.size+1) 28 #[.slice none 0 0,.int .i64 0])
    case atStart=>exact⟨0,Nat.zero_le _,by omega,rfl,ho10,hB,hK1,hK2⟩
    case round=>
     clear ho10 hB hK1 hK2
     obtain⟨k,hkn2,hg2,rfl,hrow,hB,hK1,hK2⟩:=hrel
     by_cases hlt:k<i
     ·have d4:decide ((k:Int)<(i:Int))=true:=decide_eq_true (by omega)
      have i1:(0:Int)<=(k:Int):=by omega
      have i2:(k:Int)<(i:Int):=by omega
      obtain⟨B,d,hc9,hv9⟩:=hrow.num k _ (cutTo_at (n:=i) (by rw [HRL.out];exact hlt))
      rw [HDS.out.row hlt] at hc9 hv9
      have hm2i:i<m2:=by have:=HM2.out;omega
      obtain⟨p,rfl⟩:=zaz.some_ hv9 (by omega)
      have hdm:m2<=d:=hv9.fits
      have e1:¬(d=i):=by omega
      have e2:(0:Int)<=(i:Int):=by omega
      have e3:(i:Int)<=(m2:Int):=by omega
      have e4:(m2:Int)<=(d:Int):=by omega
      have e5:(i:Int)<=(d:Int):=by omega
      obtain⟨p0,p1⟩:=hK1.c2
      have HROW:=lh9 hrow
      have HV9:=lh9 hv9
      have HB:=lh9 hB
      have HK1:=lh9 hK1
      have HK2:=lh9 hK2
      clear hrow hB hK1 hK2 hv9
      go_wp2_with fail
      clear p0 p1
      refine(zbr A i c (i:Int) _).mono ?_
      rintro eo w11 ⟨rfl,hb⟩
      have hr5:=HROW.out.below (zam zaf) hb
      have hv5:=zaz.keep HV9.out hb
      have hr6:=zaC.set_ (zam zaf) hr5 hlt (zaz.rest hv5 (Nat.le_of_lt hm2i)) (by rw [List.length_drop,HDS.out.row hlt])
      rw [zqf (by rw [HRL.out];exact hlt)] at hr6
      obtain⟨q0,sc0,sf0⟩:=hr5.ready hlt
      have HR6:=lh9 hr6
      have HB6:=lh9 (zae (p:=⟨g10,k,none⟩) (.slice (some (p.add (i*3))) (m2 - i) (d - i)) (show w.heap.size<=g10 by omega) (zab HB.out hb))
      have HK16:=lh9 (Blk.far (p:=⟨g10,k,none⟩) (zaa hb HK1.out) (by show w.heap.size≠g10;omega) (.slice (some (p.add (i*3))) (m2 - i) (d - i)))
      have HK26:=lh9 (Blk.far (p:=⟨g10,k,none⟩) (zaa hb HK2.out) (by show w.heap.size+1≠g10;omega) (.slice (some (p.add (i*3))) (m2 - i) (d - i)))
      clear hr5 hr6 hv5 hb HROW HV9 HB HK1 HK2 hc9
      go_wp2
      go_roundg (i - k)
      case measure=>omega
      case rel=>exact⟨k+1,by omega,by omega,by go_num,HR6.out,HB6.out,HK16.out,HK26.out⟩
     ·have hk9:k=i:=by omega
      subst hk9
      have d4:decide ((k:Int)<(k:Int))=false:=by simp
      have hall:=zqe (n:=k) (X:=RM)
      rw [HRL.out,<-HIM.out] at hall
      rw [hall] at hrow
      have HR:=lh9 hrow.rows
      have HB:=lh9 hB
      have HK1:=lh9 hK1
      have HK2:=lh9 hK2
      obtain⟨p0,p1⟩:=hK1.c2
      clear hrow hB hK1 hK2 hall
      go_wp2_with fail
      clear p0 p1
      refine(zbr A k c (k:Int) _).mono ?_
      rintro eo w12 ⟨rfl,hb⟩
      have HB:=lh9 (zab HB.out hb)
      have HK2:=lh9 (zaa hb HK2.out)
      have HR:=lh9 (HR.out.below (zam zaf) hb)
      clear hb HK1
      go_wp2_with fail
      (with_reducible refine(zjz (HT.out _ HB.out) HR.out HDI.out hn hn HS1.out (by omega)).mono ?_)
      rintro eo w13 ⟨A13,c13,rfl,hm13,hf13,hb⟩
      have hlt2:=HK2.out.lt
      have HB:=lh9 (zab HB.out hb)
      have HK2:=lh9 (zaa hb HK2.out)
      obtain⟨sc0,sf0,sc1,sf1⟩:=st2 HK2.out (.slice A13 k c13)
      obtain⟨r0,r1⟩:=(sn2 HK2.out (.slice A13 k c13) (.int .i64 (k:Int))).c2
      have HG:=lh9 (gmb2 hm13 (λad e=>by have:=hf13 ad e;show w.heap.size+1<ad.block;omega) HK2.out HB.out (show w.heap.size<=w.heap.size+1 by omega))
      clear hb hm13 hf13 HB HK2 HR
      go_wp2
      refine bodyPost_ret (v:=.tuple #[.agg #[.slice A13 k c13,.int .i64 (k:Int)],.bool true]) (by simp [results,Tryz.results19,go_sem,r0,r1]) rfl ?_
      exact HGI.out _ _ HG.out
end
