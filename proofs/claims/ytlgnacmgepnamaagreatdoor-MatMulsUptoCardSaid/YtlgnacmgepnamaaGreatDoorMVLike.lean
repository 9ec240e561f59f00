/- What this claim leans on. -/
import Derived.Test.YtlgnacmgepnamaaGreatDoorMW8Like
import Derived.Test.YtlgnacmgepnamaaGreatDoorMMProd
namespace Go.Proofs.YtlgnacmgepnamaaGreatDoor
open Go Go.RowKit
set_option maxHeartbeats 16000000
set_option maxRecDepth 100000
set_option linter.unusedVariables false
set_option linter.unusedSimpArgs false
theorem int_lit {z:Int}(h1: -9223372036854775808<=z)(h2:z<=9223372036854775807):zbB z:=⟨h1,h2⟩
section
variable {K K' L:Nat}{xs ys:List Rat}{A B:oA9}{n n' c d:Nat}{w:World}
theorem zbZ (hT:zao w)(ha:zaM w A n c xs)(hb:zbw w B n d xs)(hx:zay K xs)(hn:n<=1073741824:=by omega)(hK:K<=16777216:=by omega):
  Calls Tryz.prog 22 #[.slice A n c,.slice B n d] w (λe w'=>e=.returned (.bool true)/\Below w.heap.size w w'):=by
 have hla:=ha.len
 have HSX:Hid (∀i,i<n->SzQ K (xs.getD i 0)):=λi hi=>hx.at_ (by omega)
 have HA:=lh9 ha
 have HB9:=lh9 hb
 have HT:=lh9 (λw' (hb:Below w.heap.size w w')=>hT.on hb)
 clear hT ha hb hx hla
 have hB:=Below.refl w.heap.size w
 have hd0:((n:Int) !=(n:Int))=false:=by simp
 have i0:(0:Int)<=(n:Int):=by omega
 go_enter Tryz.func22,Tryz.ntmps22
 go_wp2_with fail
 go_loopg [5] (n+1) (λg ix wr=>∃(k:Nat),k<=n/\n<g+k/\ix=.int .i64 k/\Below w.heap.size w wr)
 case atStart=>exact⟨0,Nat.zero_le _,by omega,rfl,hB⟩
 case round=>
  clear hB
  obtain⟨k,hkn,hg,rfl,hB⟩:=hrel
  by_cases hlt:k<n
  ·obtain⟨ad,b1,B1,m1,d1,E1,u1,v1,rfl,-,hc0,hc1,hc2,hx⟩:=HA.out.get hB hlt
   obtain⟨ae,b2,B2,m2,d2,E2,u2,v2,rfl,-,he0,he1,he2,hy⟩:=HB9.out.get hB hlt
   have hd1:decide ((k:Int)<(n:Int))=true:=decide_eq_true (by omega)
   have i1:(0:Int)<=(k:Int):=by omega
   have i2:(k:Int)<(n:Int):=by omega
   have HX:=lh9 hx
   have HY:=lh9 hy
   have HB1:=lh9 hB
   clear hx hy hB
   go_wp2_with fail
   have hBw:=(Below.refl wr.heap.size wr).drew
   refine rg (csc hc0 (csc hc1 (csc hc2 (csc he0 (csc he1 (csc he2 csn)))))) (λhHeld=>?_)
   refine tk 0 ?_
   refine tk 1 ?_
   refine tk 2 ?_
   refine tk 3 ?_
   refine tk 4 ?_
   refine tk 5 ?_
   refine tk 6 ?_
   refine tk 7 ?_
   refine rc 8 (λKK hK9=>?_)
   go_simp
   (with_reducible refine(zjE (λ_ _ h hb=>h.on hb) zbY qc10 _ K b1 B1 m1 d1 E1 u1 v1 b2 B2 m2 d2 E2 u2 v2 _ hK (HSX.out k hlt) (HX.out.below hBw) (HY.out.below hBw) (HT.out _ (zac HB1.out hBw))).mono ?_);rintro e wa ⟨rfl,hb⟩;have hBw:=zac hBw hb;refine hK9.out _ _ (Cs.below hHeld hb) (λhHeld=>?_);clear hK9 KK hb
   refine tk 9 ?_
   refine rdn ?_
   have HB2:=lh9 (zac HB1.out hBw)
   clear hHeld hBw hc0 hc1 hc2 he0 he1 he2 HX HY HB1
   go_wp2
   go_roundg (n - k)
   case measure=>omega
   case rel=>exact⟨k+1,by omega,by omega,by go_num,HB2.out⟩
  ·have hd1:decide ((k:Int)<(n:Int))=false:=decide_eq_false (by omega)
   have HB2:=lh9 hB
   clear hB
   go_wp2
   go_ret
   exact⟨rfl,HB2.out⟩
theorem zjU (ha:zbw w A n c xs)(hb:zbw w B n d ys)(hx:zay K xs)(hy:zay K' ys)(hK:K<=2097152)(hK':K'<=2097152)(hS:1+n*(K+K'+1)<=2097152)(hn:n<=1073741824:=by omega)(hKK:K+K'<=2097152:=by omega):
  Calls Tryz.prog 81 #[.slice A n c,.slice B n d] w (zcs w (zdY xs ys)):=by
 have hla:=ha.len
 have hlb:=hb.len
 have hlz:(zgW xs ys).length=n:=zle hla hlb
 have HSX:Hid (∀i,i<n->SzQ K (xs.getD i 0)):=λi hi=>hx.at_ (by omega)
 have HSY:Hid (∀i,i<n->SzQ K' (ys.getD i 0)):=λi hi=>hy.at_ (by omega)
 have HSS:Hid (∀k,k<=n->SzQ (1+n*(K+K'+1)) (zcb ((zgW xs ys).take k))):=λk hk=>zoE (zay.mul hx hy) hlz k hk
 have HSU:Hid (∀k,k<n->zcb ((zgW xs ys).take (k+1))=zcb ((zgW xs ys).take k)+xs.getD k 0*ys.getD k 0):=λk hk=>by
  have e:=zjZ (zgW xs ys) k (by omega)
  rw [zkW,zkW] at e
  rw [e]
  congr 1
  unfold zgW
  rw [List.getD_eq_getElem?_getD,List.getElem?_zipWith,List.getD_eq_getElem?_getD,List.getD_eq_getElem?_getD,List.getElem?_eq_getElem (by omega),List.getElem?_eq_getElem (by omega)]
  rfl
 have HFIN:Hid (zcb ((zgW xs ys).take n)=zdY xs ys):=by
  show _=_
  rw [List.take_of_length_le (by omega)]
  rfl
 have HA:=lh9 ha
 have HB9:=lh9 hb
 have HNS:=lh9 hS
 obtain⟨bx1,bx2,-⟩:=zaD w 94 #[.bool false,.slice none 0 0,.slice none 0 0]
 have HBX:=lh9 bx1
 have HKX:=lh9 bx2
 clear ha hb hx hy hla hlb hlz hS bx1 bx2
 have i0:(0:Int)<=(n:Int):=by omega
 go_enter Tryz.func81,Tryz.ntmps81
 go_wp2_with fail
 (with_reducible refine(zfE (z:=0) (int_lit (by decide) (by decide))).mono ?_)
 rintro e w2 ⟨b2,A2,n2,c2,E2,k2,f2,rfl,hq,hb⟩
 have hB2:=zac HBX.out hb
 have hk2:=zad hb HKX.out
 obtain⟨s1,s2,s3⟩:=zaD w2 94 #[.bool b2,.slice A2 n2 c2,.slice E2 k2 f2]
 have hp:=s2
 have hB:=zac hB2 s1
 have hkr:=zad s1 hk2
 have hs0:zbF (w2.alloc (.cells #[.bool b2,.slice A2 n2 c2,.slice E2 k2 f2] 94)) (zcb ((zgW xs ys).take 0)) b2 A2 n2 c2 E2 k2 f2:=hq.below s1
 have hwg:w.heap.size<w2.heap.size:=by have:=HKX.out.lt;have:=hb.size;have:=hk2.lt;omega
 clear hb hq hB2 hk2 s1 s2 s3
 go_wp2_with fail
 generalize w2.alloc (.cells #[.bool b2,.slice A2 n2 c2,.slice E2 k2 f2] 94)=W1 at*
 generalize w2.heap.size=gp at*
 go_loopg [6] (n+1) (λg ix wr=>∃(k:Nat) (b:Bool) (Ap:oA9) (np cp:Nat) (Ep:oA9) (kp fp:Nat),k<=n/\n<g+k/\ix=.int .i64 k/\zbF wr (zcb ((zgW xs ys).take k)) b Ap np cp Ep kp fp/\Blk wr gp 94 #[.bool b,.slice Ap np cp,.slice Ep kp fp]/\Below w.heap.size w wr/\Blk wr w.heap.size 94 #[.bool false,.slice none 0 0,.slice none 0 0])
 case atStart=>exact⟨0,b2,A2,n2,c2,E2,k2,f2,Nat.zero_le _,by omega,rfl,hs0,hp,hB,hkr⟩
 case round=>
  clear hp hB hkr hs0
  obtain⟨k,b,Ap,np,cp,Ep,kp,fp,hkn,hg,rfl,hw,hp,hB,hkr⟩:=hrel
  by_cases hlt:k<n
  ·obtain⟨ad,b1,B1,m1,d1,E1,u1,v1,rfl,had,hc0,hc1,hc2,hx⟩:=HA.out.get hB hlt
   obtain⟨ae,b3,B3,m3,d3,E3,u3,v3,rfl,hae,he0,he1,he2,hy⟩:=HB9.out.get hB hlt
   have hd1:decide ((k:Int)<(n:Int))=true:=decide_eq_true (by omega)
   have i1:(0:Int)<=(k:Int):=by omega
   have i2:(k:Int)<(n:Int):=by omega
   have hbd:=(Below.refl wr.heap.size wr).drew
   have HX:=lh9 (hx.below hbd)
   have HY:=lh9 (hy.below hbd)
   have HW:=lh9 (hw.below hbd)
   have HP:=lh9 (zad hbd hp)
   have HB1:=lh9 (zac hB hbd)
   have HKR:=lh9 (zad hbd hkr)
   have HCE:Hid (∀w',Below w.heap.size w w'->(w'.cell? (ad.add (k*3))=some (.bool b1)/\w'.cell? ⟨(ad.add (k*3)).block,(ad.add (k*3)).off+1,none⟩=some (.slice B1 m1 d1)/\w'.cell? ⟨(ad.add (k*3)).block,(ad.add (k*3)).off+2,none⟩=some (.slice E1 u1 v1))/\(w'.cell? (ae.add (k*3))=some (.bool b3)/\w'.cell? ⟨(ae.add (k*3)).block,(ae.add (k*3)).off+1,none⟩=some (.slice B3 m3 d3)/\w'.cell? ⟨(ae.add (k*3)).block,(ae.add (k*3)).off+2,none⟩=some (.slice E3 u3 v3))):=λw' hb'=>by
    have t:∀(q:Addr) (v:Value),q.block<w.heap.size->wr.cell? q=some v->w'.cell? q=some v:=λq v hq h=>by
     rw [hb'.cell hq,<-hB.cell hq];exact h
    have h1:∀j,(ad.add j).block<w.heap.size:=λj=>by rw [zap];exact had
    have h2:∀j,(ae.add j).block<w.heap.size:=λj=>by rw [zap];exact hae
    exact⟨⟨t _ _ (h1 _) hc0,t _ _ (h1 _) hc1,t _ _ (h1 _) hc2⟩,t _ _ (h2 _) he0,t _ _ (h2 _) he1,t _ _ (h2 _) he2⟩
   have hlim:=HNS.out
   clear hx hy hw hp hbd hkr
   go_wp2_with fail
   refine rg (csc hc0 (csc hc1 (csc hc2 (csc he0 (csc he1 (csc he2 csn)))))) (λhHeld=>?_)
   clear hc0 hc1 hc2 he0 he1 he2 hB
   generalize wr.drew=D at*
   refine tk 1 ?_
   refine tk 2 ?_
   refine tk 3 ?_
   refine tk 4 ?_
   refine tk 5 ?_
   refine tk 6 ?_
   refine tk 7 ?_
   refine tk 8 ?_
   refine rcb 0 9 (λKK hK9=>?_) (λKK hK9=>?_)
   ·obtain⟨p0,p1,p2⟩:=HP.out.c3
    go_simp
    clear p0 p1 p2
    refine hK9.out _ _ hHeld (λhHeld=>?_)
    clear hK9 KK
    refine rc 9 (λKK hK9=>?_)
    go_simp
    (with_reducible refine(zmj (xs.getD k 0) (ys.getD k 0) b1 B1 m1 d1 E1 u1 v1 b3 B3 m3 d3 E3 u3 v3 K K' _ (HSX.out k hlt) HX.out (HSY.out k hlt) HY.out hK hK').mono ?_)
    rintro e D2 ⟨b4,A4,n4,c4,E4,k4,f4,rfl,hq,hb⟩
    refine hK9.out _ _ (Cs.below hHeld hb) (λhHeld=>?_)
    clear hK9 KK
    have HQ:=lh9 hq
    have HW:=lh9 (HW.out.below hb)
    have HP:=lh9 (zad hb HP.out)
    have HB1:=lh9 (zac HB1.out hb)
    have HKR:=lh9 (zad hb HKR.out)
    clear hq hb
    refine rc 10 (λKK hK9=>?_)
    go_simp
    (with_reducible refine(zmi (zcb ((zgW xs ys).take k)) (xs.getD k 0*ys.getD k 0) b Ap np cp Ep kp fp b4 A4 n4 c4 E4 k4 f4 (1+n*(K+K'+1)) (K+K') _ (HSS.out k hkn) HW.out ((HSX.out k hlt).mul (HSY.out k hlt)) HQ.out hlim hKK).mono ?_)
    rintro e D3 ⟨b5,A5,n5,c5,E5,k5,f5,rfl,hq,hb⟩
    refine hK9.out _ _ (Cs.below hHeld hb) (λhHeld=>?_)
    clear hK9 KK
    rw [<-HSU.out k hlt] at hq
    have hp5:=zad hb HP.out
    obtain⟨sc0,sf0,sc1,sf1,sc2,sf2⟩:=st3 hp5 (.bool b5) (.slice A5 n5 c5)
    have HW4:=lh9 (zhc hq hp5 (NoU.s3 _ _ _ _ _ _ _) (off3 D3 gp (.bool b5) (.slice A5 n5 c5) (.slice E5 k5 f5)))
    have HB4:=lh9 (bl3 (.bool b5) (.slice A5 n5 c5) (.slice E5 k5 f5) (show w.heap.size<=gp by omega) (zac HB1.out hb))
    have HP4:=lh9 (sn3 hp5 (.bool b5) (.slice A5 n5 c5) (.slice E5 k5 f5))
    have HK4:=lh9 (zhR (zad hb HKR.out) (by show w.heap.size≠gp;omega) (.bool b5) (.slice A5 n5 c5) (.slice E5 k5 f5))
    obtain⟨⟨y0,y1,y2⟩,y3,y4,y5⟩:=HCE.out _ HB4.out
    refine rc 11 (λKK hK9=>?_)
    go_simp
    refine hK9.out _ _ (csc y0 (csc y1 (csc y2 (csc y3 (csc y4 (csc y5 csn)))))) (λhHeld=>?_)
    clear hK9 KK
    refine rdn ?_
    clear sc0 sf0 sc1 sf1 sc2 sf2 y0 y1 y2 y3 y4 y5 hHeld hq hb hp5 HQ HX HY HW HP HB1 HKR
    go_wp2
    go_roundg (n - k)
    case measure=>omega
    case rel=>exact⟨k+1,b5,A5,n5,c5,E5,k5,f5,by omega,by omega,by go_num,HW4.out,HP4.out,HB4.out,HK4.out⟩
   ·go_simp
    (with_reducible refine(zmj (xs.getD k 0) (ys.getD k 0) b1 B1 m1 d1 E1 u1 v1 b3 B3 m3 d3 E3 u3 v3 K K' _ (HSX.out k hlt) HX.out (HSY.out k hlt) HY.out hK hK').mono ?_)
    rintro e D2 ⟨b4,A4,n4,c4,E4,k4,f4,rfl,hq,hb⟩
    refine hK9.out _ _ (Cs.below hHeld hb) (λhHeld=>?_)
    clear hK9 KK
    have HQ:=lh9 hq
    have HW:=lh9 (HW.out.below hb)
    have HP:=lh9 (zad hb HP.out)
    have HB1:=lh9 (zac HB1.out hb)
    have HKR:=lh9 (zad hb HKR.out)
    clear hq hb
    refine rc 0 (λKK hK9=>?_)
    obtain⟨p0,p1,p2⟩:=HP.out.c3
    go_simp
    clear p0 p1 p2
    refine hK9.out _ _ hHeld (λhHeld=>?_)
    clear hK9 KK
    refine rc 10 (λKK hK9=>?_)
    go_simp
    (with_reducible refine(zmi (zcb ((zgW xs ys).take k)) (xs.getD k 0*ys.getD k 0) b Ap np cp Ep kp fp b4 A4 n4 c4 E4 k4 f4 (1+n*(K+K'+1)) (K+K') _ (HSS.out k hkn) HW.out ((HSX.out k hlt).mul (HSY.out k hlt)) HQ.out hlim hKK).mono ?_)
    rintro e D3 ⟨b5,A5,n5,c5,E5,k5,f5,rfl,hq,hb⟩
    refine hK9.out _ _ (Cs.below hHeld hb) (λhHeld=>?_)
    clear hK9 KK
    rw [<-HSU.out k hlt] at hq
    have hp5:=zad hb HP.out
    obtain⟨sc0,sf0,sc1,sf1,sc2,sf2⟩:=st3 hp5 (.bool b5) (.slice A5 n5 c5)
    have HW4:=lh9 (zhc hq hp5 (NoU.s3 _ _ _ _ _ _ _) (off3 D3 gp (.bool b5) (.slice A5 n5 c5) (.slice E5 k5 f5)))
    have HB4:=lh9 (bl3 (.bool b5) (.slice A5 n5 c5) (.slice E5 k5 f5) (show w.heap.size<=gp by omega) (zac HB1.out hb))
    have HP4:=lh9 (sn3 hp5 (.bool b5) (.slice A5 n5 c5) (.slice E5 k5 f5))
    have HK4:=lh9 (zhR (zad hb HKR.out) (by show w.heap.size≠gp;omega) (.bool b5) (.slice A5 n5 c5) (.slice E5 k5 f5))
    obtain⟨⟨y0,y1,y2⟩,y3,y4,y5⟩:=HCE.out _ HB4.out
    refine rc 11 (λKK hK9=>?_)
    go_simp
    refine hK9.out _ _ (csc y0 (csc y1 (csc y2 (csc y3 (csc y4 (csc y5 csn)))))) (λhHeld=>?_)
    clear hK9 KK
    refine rdn ?_
    clear sc0 sf0 sc1 sf1 sc2 sf2 y0 y1 y2 y3 y4 y5 hHeld hq hb hp5 HQ HX HY HW HP HB1 HKR
    go_wp2
    go_roundg (n - k)
    case measure=>omega
    case rel=>exact⟨k+1,b5,A5,n5,c5,E5,k5,f5,by omega,by omega,by go_num,HW4.out,HP4.out,HB4.out,HK4.out⟩
  ·have hk:k=n:=by omega
   subst hk
   have hd1:decide ((k:Int)<(k:Int))=false:=by simp
   rw [HFIN.out] at hw
   obtain⟨p0,p1,p2⟩:=hp.c3
   obtain⟨sc0,sf0,sc1,sf1,sc2,sf2⟩:=st3 hkr (.bool b) (.slice Ap np cp)
   obtain⟨r0,r1,r2⟩:=(sn3 hkr (.bool b) (.slice Ap np cp) (.slice Ep kp fp)).c3
   have HG9:=lh9 (gr3 hw hkr hB (Nat.le_refl _))
   clear hw hp hkr hB
   go_wp2
   refine bodyPost_ret (v:=.agg #[.bool b,.slice Ap np cp,.slice Ep kp fp]) (by simp [results,Tryz.results81,go_sem,r0,r1,r2]) rfl ?_
   exact HG9.out
end
theorem byM_get {q m j:Nat}{v:List Rat}{M:List (List Rat)}(h:j<m):(byM q m v M)[j]?=some (zdY v (zcS q M j)):=by
 unfold byM
 rw [List.getElem?_map,List.getElem?_range h];rfl
theorem byM_len (q m:Nat)(v:List Rat)(M:List (List Rat)):(byM q m v M).length=m:=by simp [byM]
theorem zgH {A B:oA9}{n c q d m K K':Nat}{MA MB:List (List Rat)}{w:World}(hA:zbL w A n c q MA)(hBB:zbL w B q d m MB)(zA:zaB K MA)(zB:zaB K' MB)(hK:K<=2097152)(hK':K'<=2097152)(hKS:1+q*(K+K'+1)<=2097152)(hKK:K+K'<=2097152:=by omega):
  Calls Tryz.prog 39 #[.agg #[.slice A n c,.int .i64 (q:Int)],.agg #[.slice B q d,.int .i64 (m:Int)]] w (zdm w n m (zdG n q m MA MB)):=by
 obtain⟨i9,hi9,hz9,hz10,hz11⟩:=info_parts zik
 obtain⟨i1',hi1,hz20,hz21,hz22⟩:=info_parts zhE
 have hn0:n<=64:=hA.hn
 have hq0:q<=64:=hA.hm
 have hm0:m<=64:=hBB.hm
 have HD:=lh9 (zfC n q m MA MB)
 have HS:Hid (∀k,k<n->(zdG n q m MA MB).take (k+1)=(zdG n q m MA MB).take k++[byM q m (MA.getD k []) MB]):=λk hk=>zdL (by
  have hl:=(zfC n q m MA MB).rows
  rw [<-mulM_row hk,List.getD_eq_getElem?_getD,List.getElem?_eq_getElem (by omega)];rfl)
 have HDOT:Hid (∀(W:World) (X:oA9) (dx:Nat) (Y:oA9) (dy k j:Nat),zbw W X q dx (MA.getD k [])->zbw W Y q dy (zcS q MB j)->k<n->j<m->Calls Tryz.prog 81 #[.slice X q dx,.slice Y q dy] W (zcs W (zdY (MA.getD k []) (zcS q MB j)))):=λW X dx Y dy k j h1 h2 hk hj=>zjU h1 h2 (zA.row (by rw [hA.dims.rows];exact hk)) (zB.col hBB.dims hj) hK hK' hKS (by omega) hKK
 obtain⟨T,hT⟩:∃T,zdG n q m MA MB=T:=⟨_,rfl⟩
 rw [hT] at HD HS⊢
 have HL:Hid (T.length=n):=HD.out.rows
 obtain⟨bx1,bx2,bx3,bx4,bz⟩:=zbm w 32 32 32 #[.slice A n c,.int .i64 (q:Int)] #[.slice B q d,.int .i64 (m:Int)] #[.slice none 0 0,.int .i64 0]
 have HMA:=lh9 (hA.keep bx1)
 have HMB:=lh9 (hBB.keep bx1)
 obtain⟨g0,g1⟩:=bx2.c2
 obtain⟨p0,p1⟩:=bx3.c2
 have HB0:=lh9 bx1
 have HKA:=lh9 bx2
 have HKB:=lh9 bx3
 have HKR:=lh9 bx4
 unfold zdm
 clear hA hBB zA zB hK hK' hKS hKK hT bx1 bx2 bx3 bx4
 go_enter Tryz.func39,Tryz.ntmps39
 go_upto_region 1 with fail
 generalize ((w.alloc (.cells #[.slice A n c,.int .i64 (q:Int)] 32)).alloc (.cells #[.slice B q d,.int .i64 (m:Int)] 32)).alloc (.cells #[.slice none 0 0,.int .i64 0] 32)=W2 at*
 go_wp2_with fail
 obtain⟨cx1,cx2,-⟩:=zaD W2 32 #[.slice none 0 0,.int .i64 (m:Int)]
 generalize W2.alloc (.cells #[.slice none 0 0,.int .i64 (m:Int)] 32)=W3 at*
 have hB:=cx1
 have hP:=cx2
 obtain⟨gp,hgpe⟩:∃g,W2.heap.size=g:=⟨_,rfl⟩
 have hgp:W2.heap.size<=gp:=by omega
 obtain⟨mm,hmm⟩:∃z:Int,(m:Int)=z:=⟨_,rfl⟩
 rw [hgpe] at hP
 first
  |rw [hgpe]
  |skip
 rw [hmm] at hP
 have HMM:=lh9 hmm
 have hlt0:w.heap.size+2<gp:=by omega
 clear g0 g1 p0 p1 cx1 cx2 hgpe hmm
 go_loopg [6] (n+1) (λg ix wr=>∃(k:Nat) (v:Value) (vs:List Value),k<=n/\n<g+k/\ix=.int .i64 k/\zbe (zas zbF) wr (gp+1) 55 v (T.take k) vs/\Blk wr gp 32 #[v,.int .i64 mm]/\Below W2.heap.size W2 wr)
 case atStart=>exact⟨0,_,_,Nat.zero_le _,by omega,rfl,zbe.nil _ _ _,hP,hB⟩
 case round=>
  clear hB hP
  obtain⟨k,v,vs,hkn,hg,rfl,hon,hP,hB⟩:=hrel
  obtain⟨g0,g1⟩:=(zad hB HKA.out).c2
  have hlq:(T.take k).length=k:=by rw [List.length_take,HL.out];omega
  by_cases hlt:k<n
  ·obtain⟨Av,cv,rfl,-⟩:=hon.shape hlq
   have hd1:decide ((k:Int)<(n:Int))=true:=decide_eq_true (by omega)
   have hd1':decide (k<n)=true:=decide_eq_true hlt
   have i1:(0:Int)<=(k:Int):=by omega
   have i2:(k:Int)<(n:Int):=by omega
   have HSK:=lh9 (HS.out k hlt)
   have HRL:=lh9 hlq
   obtain⟨ad,Bk,dk,rfl,-,hck,hrk⟩:=HMA.out.row (Below.refl _ _) hlt
   have HCK:=lh9 hck
   have HRK:=lh9 hrk
   have HXS:Hid (∀j,j<m->(byM q m (MA.getD k []) MB).take (j+1)=(byM q m (MA.getD k []) MB).take j++[zdY (MA.getD k []) (zcS q MB j)]):=λj hj=>zdL (byM_get hj)
   have HXL:Hid ((byM q m (MA.getD k []) MB).length=m):=byM_len _ _ _ _
   obtain⟨Lk,hLk⟩:∃L,byM q m (MA.getD k []) MB=L:=⟨_,rfl⟩
   rw [hLk] at HXS HXL HSK
   have HON:=lh9 hon
   have HP:=lh9 hP
   have HBO:=lh9 hB
   clear hon hP hB hlq hck hrk hLk
   go_upto_region 7 with fail
   first
    |skip
   have hB:=Below.refl wr.heap.size wr
   obtain⟨wo,hwo⟩:∃wo,wo=wr:=⟨_,rfl⟩
   subst hwo
   clear g0 g1
   go_loopg [7,8] (m+1) (λg sl jx wr=>∃(j:Nat) (x:Value) (xs:List Value),j<=m/\m<g+j/\jx=.int .i64 j/\x=sl/\zcw zbF wr wo.heap.size 94 x (Lk.take j) xs/\Below wo.heap.size wo wr)
   case atStart=>exact⟨0,_,_,Nat.zero_le _,by omega,rfl,rfl,zcw.nil _ _ _,hB⟩
   case round=>
    clear hB
    obtain⟨j,x,xs,hjm,hg2,rfl,rfl,hox,hB⟩:=hrel
    have hB2:=zac HBO.out hB
    obtain⟨g0,g1⟩:=(zad hB2 HKA.out).c2
    obtain⟨p0,p1⟩:=(zad hB2 HKB.out).c2
    have hck:=zae hB2 HCK.out
    have hlj:(Lk.take j).length=j:=by rw [List.length_take,HXL.out];omega
    by_cases hjl:j<m
    ·have he1:decide ((j:Int)<(m:Int))=true:=decide_eq_true (by omega)
     have he1':decide (j<m)=true:=decide_eq_true hjl
     have HSJ:=lh9 (HXS.out j hjl)
     have HLJ:=lh9 hlj
     have hbd:=(Below.refl wr.heap.size wr).drew
     have HOX:=lh9 (hox.below zai hbd)
     have HB:=lh9 (zac hB hbd)
     clear hox hB hB2 hlj hbd
     go_upto_region 9 with fail
     refine rg (csc g0 (csc g1 (csc p0 (csc p1 (csc hck csn))))) (λhHeld=>?_)
     clear g0 g1 p0 p1 hck
     generalize wr.drew=D at*
     refine tk 0 ?_
     refine tk 1 ?_
     refine tk 2 ?_
     refine tk 3 ?_
     refine tk 4 ?_
     refine tk 5 ?_
     refine tk 6 ?_
     refine tk 7 ?_
     refine rc 8 (λKK hK=>?_)
     go_simp
     (with_reducible refine(ziQ (HMB.out.keep (zac HBO.out HB.out)) hjl).mono ?_)
     rintro e w4 ⟨A4,c4,rfl,hr4,hb⟩
     refine hK.out _ _ (Cs.below hHeld hb) (λhHeld=>?_)
     clear hK KK
     have HOX:=lh9 (HOX.out.below zai hb)
     have HB:=lh9 (zac HB.out hb)
     have HC:=lh9 hr4
     clear hb hr4
     refine rc 9 (λKK hK=>?_)
     go_simp
     (with_reducible refine(HDOT.out _ _ _ _ _ k j (zbw.keep HRK.out (zac HBO.out HB.out)) HC.out hlt hjl).mono ?_)
     rintro e w5 ⟨b1,B1,m1,d1,E1,u1,v1,rfl,hq,hb⟩
     refine hK.out _ _ (Cs.below hHeld hb) (λhHeld=>?_)
     clear hK KK
     obtain⟨t1,t2,-⟩:=zaD w5 94 #[.bool b1,.slice B1 m1 d1,.slice E1 u1 v1]
     have hup:=zac hb t1
     have hox1:=HOX.out.below zai hup
     have HX:=lh9 (zbF.below hq t1)
     have HB:=lh9 (zac HB.out hup)
     have HCELL:=lh9 (zeJ t2)
     have HBS:=lh9 HB.out.size
     have hown:=hox1.own
     rw [HLJ.out] at hown
     have HOWN:=lh9 hown
     have HNOU:=lh9 hox1.nou
     have HOB:=lh9 (λr (h:x.ownBlock=some r)=>hox1.own.lt r h)
     have HOX:=lh9 hox1
     have hHeld2:=Cs.below hHeld t1
     clear hb hup hq hox1 t1 t2 hown
     refine rc 10 (λKK hK=>?_)
     go_simp
     refine hK.out _ _ hHeld2 (λhHeld=>?_)
     clear hK KK hHeld2
     refine rc 11 (λKK hK=>?_)
     refine zfP _ (.tmp 25) (.tmp 35) 55 rfl wo.heap.size 94 i1' (.agg #[.bool false,.slice none 0 0,.slice none 0 0]) 3 56 Tryz.underlying55 hi1 hz20 hz21 hz22 rfl (by decide) x j xs rfl HOWN.out ⟨w5.heap.size,0,none⟩ 1 1 [.bool b1,.slice B1 m1 d1,.slice E1 u1 v1] rfl rfl HCELL.out (zgy _ _ _ _ _ _ _) (by unfold maxLen;omega) (by omega) HBS.out HNOU.out zfI (zgx _ _ _ _ _ _ _) ?_
     intro v' w8 hown' hgrow hat hnou'
     have HOX8:=lh9 (zcw.grow (n:=j+1) zai HOX.out HX.out hown' (by rw [HLJ.out]) hgrow hnou')
     have HB8:=lh9 (HB.out.grown hgrow HBS.out (λr hr=>(HOB.out r hr).1))
     obtain⟨g0,g1⟩:=(zad (zac HBO.out HB8.out) HKA.out).c2
     obtain⟨p0,p1⟩:=(zad (zac HBO.out HB8.out) HKB.out).c2
     have hck:=zae (zac HBO.out HB8.out) HCK.out
     refine hK.out _ _ (csc g0 (csc g1 (csc p0 (csc p1 (csc hck csn))))) (λhHeld=>?_)
     clear hK KK g0 g1 p0 p1 hck hown' hgrow hat hnou'
     refine tk 12 ?_
     refine rdn ?_
     clear hHeld HOX HX HB HCELL HBS HOWN HNOU HOB HC
     rw [<-HSJ.out] at HOX8
     go_wp2
     go_roundg (m - j)
     case measure=>omega
     case rel=>exact⟨j+1,_,_,by omega,by omega,by go_num,rfl,HOX8.out,HB8.out⟩
    ·have hj:j=m:=by omega
     subst hj
     have he1:decide ((j:Int)<(j:Int))=false:=by simp
     have he1':decide (j<j)=false:=by simp
     rw [List.take_of_length_le (by rw [HXL.out];exact Nat.le_refl _)] at hox
     obtain⟨Ax,cx,rfl,hrx,-⟩:=hox.shape
     rw [HXL.out] at hrx⊢
     obtain⟨t1,t2,-⟩:=zaD wr 55 #[.slice Ax j cx]
     have HP0:=HP.out
     have HON:=lh9 (HON.out.below (zav zai) (zac hB t1))
     have HP:=lh9 (zad (zac hB t1) HP.out)
     have HB:=lh9 (zac hB2 t1)
     have HR:=lh9 (zas.below zai hrx t1)
     have HBZ:=lh9 HB.out.size
     obtain⟨q0,q1⟩:=(zad hB (HP0:Blk wo gp 32 #[.slice Av k cv,.int .i64 mm])).c2
     clear t1 t2 hox hrx hB hB2 hlj g0 g1 hck HP0
     have hown:=HON.out.own
     rw [HRL.out] at hown
     have HOWN:=lh9 hown
     have HSL:=lh9 HON.out.sl
     have HCELL:=lh9 (zaW wr (.slice Ax j cx) 55)
     have HBS:=lh9 HP.out.lt
     have HOB:=lh9 (λr (h:(Value.slice Av k cv).ownBlock=some r)=>HON.out.own.lt r h)
     have HZS:Hid (∀u ∈(Value.slice none 0 0).cells.toList,zbC u):=by intro u hu;simp [Value.cells] at hu;exact⟨_,_,_,hu⟩
     have HNN:Hid (∀u ∈ [Value.slice Ax j cx],zbC u):=by intro u hu;simp at hu;exact⟨_,_,_,hu⟩
     have HONE:Hid (∀u ∈ [Value.slice Ax j cx],u.oneCell'=true):=by intro u hu;simp at hu;subst hu;rfl
     clear hown
     go_wp2_with (at_builtin;go_loud (refine zbR _ rfl (.tmp 38) (.tmp 40) 30 rfl (gp+1) 55 i9 (.slice none 0 0) 1 24 Tryz.underlying30 hi9 hz9 hz10 hz11 rfl (by decide) (.slice Av k cv) k vs rfl HOWN.out ⟨wr.heap.size,0,none⟩ 1 1 [.slice Ax j cx] rfl rfl HCELL.out HONE.out (by unfold maxLen;omega) (by omega) HBS.out HSL.out HZS.out HNN.out ?_;intro v' w8 hown' hgrow hat hsl';have hon8:=zbe.grow (n:=k+1) (L:=Lk) (zav zai) HON.out HR.out HXL.out hown' (by rw [HRL.out]) hgrow hsl';rw [<-HSK.out] at hon8;obtain⟨A8,c8,rfl,-⟩:=hon8.shape (n:=k+1) (by rw [List.length_take,HL.out];omega);have HP8:Hid (Blk w8 gp 32 #[.slice Av k cv,.int .i64 mm]):=zbg HP.out hgrow (λe=>by have:=(HOB.out _ e).1;omega);have HB8:=lh9 (HB.out.grown hgrow HBZ.out (λr hr=>by have:=(HOB.out r hr).1;omega));have HON9:=lh9 (hon8.slot (g:=gp) (i:=0) (u:=(.slice A8 (k+1) c8)) (Nat.lt_succ_self gp) (λh3=>zdv h3 HP8.out (zbD _ _ _ _) (HP8.out.cell 0) (.slice A8 (k+1) c8)));have HP9:Hid (Blk (w8.setCell ⟨gp,0,none⟩ (.slice A8 (k+1) c8)) gp 32 #[.slice A8 (k+1) c8,.int .i64 mm]):=HP8.out.set_ 0 (.slice A8 (k+1) c8);have HB9:=lh9 (bl1 (.slice A8 (k+1) c8) hgp HB8.out);clear hon8 hown' hgrow hat hsl' HON HR HOWN HSL HCELL HOB HZS HNN HONE;obtain⟨sc0,sc1⟩:=HP8.out.c2;have sf0:=HP8.out.frozen 0;clear q0 q1 p0 p1 HP8 HB8 HP HB HBS HBZ))
     go_roundg (n - k)
     case measure=>omega
     case rel=>exact⟨k+1,_,_,by omega,by omega,by go_num,HON9.out,HP9.out,HB9.out⟩
  ·have hk:k=n:=by omega
   subst hk
   have hd1:decide ((k:Int)<(k:Int))=false:=by simp
   have hd1':decide (k<k)=false:=by simp
   rw [List.take_of_length_le (by rw [HL.out];exact Nat.le_refl _)] at hon
   obtain⟨A7,c7,rfl,hm7⟩:=hon.refm HD.out hn0 hm0
   obtain⟨q0,q1⟩:=hP.c2
   have hk9:=zad hB HKR.out
   obtain⟨sc0,sf0,sc1,sf1⟩:=st2 hk9 (.slice A7 k c7)
   obtain⟨r0,r1⟩:=(sn2 hk9 (.slice A7 k c7) (.int .i64 (m:Int))).c2
   have HG:=lh9 (grm2 hm7 hk9 (zac HB0.out hB) (by omega))
   unfold zdm at HG
   obtain rfl:=HMM.out
   clear hon hm7 hk9 hB hP hlq
   go_wp2
   refine bodyPost_ret (v:=.agg #[.slice A7 k c7,.int .i64 (m:Int)]) (by simp [results,Tryz.results39,go_sem,r0,r1]) rfl ?_
   exact HG.out
