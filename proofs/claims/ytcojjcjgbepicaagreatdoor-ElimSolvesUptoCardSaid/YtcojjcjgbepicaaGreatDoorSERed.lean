/- What this claim leans on. -/
import Derived.Test.YtcojjcjgbepicaaGreatDoorSEAll
namespace Go.Proofs.YtcojjcjgbepicaaGreatDoor
open Go Go.RowKit
set_option maxHeartbeats 16000000
set_option maxRecDepth 100000
set_option linter.unusedVariables false
set_option linter.unusedSimpArgs false
def zaA (m:Nat)(MM:List (List Rat)):ESt:=zeW m (zbg MM)
def zdP (m:Nat)(MM:List (List Rat)):List (List Rat):=zcO (zaA m MM).p⁻¹ (zaA m MM).S
def ldI (ld:List Nat):List Int:=ld.map λl:Nat=>(l:Int)
theorem zfQ.ints {w:World}{base:Nat}{B:oA9}{k c:Nat}{ld:List Nat}(h:zfQ w base (.slice B k c) ld)(hb:∀l ∈ ld,l<128):zdb w B k (ldI ld):=by
 obtain⟨B',c',e,-,-,-,h1⟩:=h.shape
 injection e with e1 e2 e3
 subst e1 e2
 refine⟨by unfold ldI;rw [List.length_map],λi hi=>?_,λi hi=>?_⟩
 ·unfold ldI
  rw [List.getD_eq_getElem?_getD,List.getElem?_map,List.getElem?_eq_getElem hi]
  have:=hb _ (List.getElem_mem hi)
  show -9223372036854775808<=((ld[i]:Nat):Int)/\((ld[i]:Nat):Int)<=9223372036854775807
  omega
 ·obtain⟨ad,e,hc⟩:=h1 i hi
  refine⟨ad,e,?_⟩
  rw [hc]
  unfold ldI
  rw [List.getD_eq_getElem?_getD,List.getD_eq_getElem?_getD,List.getElem?_map,List.getElem?_eq_getElem hi];rfl
theorem zdb.keep {w w':World}{A:oA9}{n:Nat}{zs:List Int}(h:zdb w A n zs)(hb:Below w.heap.size w w'):zdb w' A n zs:=
 ⟨h.len,h.ints,λi hi=>by obtain⟨ad,e,hc⟩:=h.num i hi;exact⟨ad,e,zac hb hc⟩⟩
theorem zdb.off {w w':World}{A:oA9}{n g:Nat}{zs:List Int}{t:TypeId}{cs:Array Value}(h:zdb w A n zs)(hk:Blk w g t cs)(hcs:NoK .i64 cs)(ho:zbe g w w'):zdb w' A n zs:=
 ⟨h.len,h.ints,λi hi=>by
  obtain⟨ad,e,hc⟩:=h.num i hi
  refine⟨ad,e,(ho.2 _ (World.block_lt_of_cell? w _ hc) λhg=>?_).trans hc⟩
  generalize ad.add i=q at hc hg
  obtain⟨bk,off,pr⟩:=q
  simp only at hg
  subst hg
  unfold Blk at hk
  cases pr with
  |none=>
    rw [show w.cell? ⟨bk,off,none⟩=cs[off]? from cell_of_row w bk off _ t (0,0) hk,<-Array.getElem?_toList] at hc
    exact hcs _ (List.mem_of_getElem? hc) _ rfl
  |some q=>simp [World.cell?,hk] at hc⟩
def zgu (w:World)(n m:Nat)(M:List (List Rat))(ld:List Nat)(eo:Ending)(w':World):Prop:=∃(A:oA9) (c:Nat) (B:oA9) (k cB:Nat),eo=.returned (.tuple #[.agg #[.slice A n c,.int .i64 (m:Int)],.slice B k cB])/\k=ld.length/\zaW w' A n c m M/\zdb w' B k (ldI ld)/\k<=cB/\cB<=9223372036854775807/\Below w.heap.size w w'
section
variable {w:World}{A:oA9}{n c m K K0:Nat}{MM:List (List Rat)}
theorem zcM (h:zbh MM n m):EOk n m m (atM (zbg MM)) (zaA m MM):=zhU (zhH h) (Nat.le_refl _)
theorem ok_lt {n m c:Nat}{a0:Nat->Nat->Rat}{e:ESt}(h:EOk n m c a0 e):∀l ∈ e.ld,l<c:=λl hl=>by
 obtain⟨_,_,_,hi⟩:=h
 obtain⟨i,hi2,rfl⟩:=zdq hl
 exact hi.lt i hi2
theorem ok_len {n m c:Nat}{a0:Nat->Nat->Rat}{e:ESt}(h:EOk n m c a0 e):e.ld.length<=n:=by
 obtain⟨_,_,_,hi⟩:=h
 exact hi.len
theorem zmh {M:List (List Rat)}{n m:Nat}(h:zbh M n m)(r:Rat):zbh (zcO r M) n m:=⟨by unfold zcO;rw [List.length_map];exact h.rows,λL hL=>by
 unfold zcO at hL
 obtain⟨row,hr,rfl⟩:=List.mem_map.1 hL
 exact zbn (h.cols row hr)⟩
theorem zpu {K L:Nat}{M:List (List Rat)}{r:Rat}(hr:SzQ L r)(h:zaD K M):zaD (L+K) (zcO r M):=λR hR=>by
 unfold zcO at hR
 obtain⟨row,hq,rfl⟩:=List.mem_map.1 hR
 exact zaq.scale hr (h row hq)
theorem zgN (h:zbh MM n m)(hn:n<=64)(hW:zbT K MM):zaD ((67+65*K)+(67+65*K)) (zdP m MM)/\SzQ (67+65*K) (zaA m MM).p/\(zaA m MM).p≠0/\zaD (67+65*K) (zaA m MM).S:=by
 have hok:=zcM h
 have ha:=hW.at_ h
 obtain⟨h1,h2⟩:=EOk.psz hok.inv hn ha
 have h3:=EOk.msz hok.dims hok.inv hn ha
 exact⟨zpu h1.inv h3,h1,h2,h3⟩
theorem zka (h:zbh MM n m):zbh (zdP m MM) n m:=zmh (zcM h).dims _
theorem zjH (hT:zaj w)(h:zaW w A n c m MM)(z:zaD K0 MM)(hW:zbT K MM)(hK:260*K+269<=33554432:=by omega)(hK0:K+K0<=33554432:=by omega)(hKp:0<K:=by omega):
  Calls Tryz.prog 31 #[.agg #[.slice A n c,.int .i64 (m:Int)]] w (λeo w'=>eo=.returned (.int .i64 ((zaA m MM).ld.length:Int))/\Below w.heap.size w w'):=by
 obtain⟨hn,hm⟩:=And.intro h.hn h.hm
 have HM:=lh9 (λw' (hb:Below w.heap.size w w')=>h.keep hb)
 have HT:=lh9 (λw' (hb:Below w.heap.size w w')=>hT.on hb)
 have HZ:=lh9 z
 have HW:=lh9 hW
 have HD:=lh9 h.dims
 obtain⟨bx1,bx2,-⟩:=zaw w 32 #[.slice A n c,.int .i64 (m:Int)]
 obtain⟨p0,p1⟩:=bx2.c2
 have HB:=lh9 bx1
 obtain⟨st,hst⟩:∃st,zaA m MM=st:=⟨_,rfl⟩
 have HST:Hid (zeW m (zbg MM)=st):=hst
 rw [hst]
 clear h hT z hW bx1 bx2 hst
 go_enter Tryz.func31,Tryz.ntmps31
 go_wp2_with fail
 generalize w.alloc (.cells #[.slice A n c,.int .i64 (m:Int)] 32)=W1 at*
 have hbd:=(Below.refl W1.heap.size W1).drew
 refine rg (csc p0 (csc p1 csn)) (λhHeld=>?_)
 have HB:=lh9 (zaa HB.out hbd)
 clear p0 p1 hbd
 generalize W1.drew=D at*
 refine tk 0 ?_
 refine tk 2 ?_
 refine rc 1 (λKK hK9=>?_)
 go_simp
 refine(zbp A n c (m:Int) _).mono ?_
 rintro eo w2 ⟨rfl,hb⟩
 refine hK9.out _ _ (Cs.below hHeld hb) (λhHeld=>?_)
 have HB:=lh9 (zaa HB.out hb)
 clear hK9 KK hb
 refine rc 3 (λKK hK9=>?_)
 go_simp
 (with_reducible refine(zfg (HT.out _ HB.out) (HM.out _ HB.out) HZ.out (by omega)).mono ?_)
 rintro eo w3 ⟨g3,rfl,hg3,ho3,hb⟩
 refine hK9.out _ _ (Cs.below hHeld hb) (λhHeld=>?_)
 have HB:=lh9 (zaa HB.out hb)
 have HR:=lh9 ho3.rows
 clear hK9 KK hb hg3 ho3
 refine rc 4 (λKK hK9=>?_)
 go_simp
 (with_reducible refine(zhf (HT.out _ HB.out) HR.out HD.out HZ.out HW.out hn (by omega) (Nat.le_refl _) hK hK0 hKp).mono ?_)
 rintro eo w4 ⟨g4,rfl,hg4,⟨A4,cA4,B4,k4,cB4,z0,z1,z2,u0,u1,u2,hes⟩,hb⟩
 rw [HST.out] at hes
 refine hK9.out _ _ (Cs.below hHeld hb) (λhHeld=>?_)
 have HB:=lh9 (zaa HB.out hb)
 have HES:=lh9 hes
 clear hK9 KK hb hg4 hes HR
 obtain⟨-,q1,-⟩:=HES.out.cells
 refine tk 5 ?_
 refine tk 6 ?_
 refine rc 7 (λKK hK9=>?_)
 go_simp
 refine hK9.out _ _ hHeld (λhHeld=>?_)
 clear hK9 KK
 refine tk 8 ?_
 refine tk 9 ?_
 refine rdn ?_
 clear hHeld q1
 go_wp2
 go_ret
 rw [HES.out.hk]
 exact⟨rfl,HB.out⟩
end
section
variable {w:World}{A:oA9}{n c m K K0:Nat}{MM:List (List Rat)}
theorem zfQ.slot {w:World}{base g:Nat}{t:TypeId}{v:Value}{ld:List Nat}{cs:Array Value}(h:zfQ w base v ld)(hk:Blk w g t cs)(ht:t≠3)(i:Nat)(x:Value):zfQ (w.setCell ⟨g,i,none⟩ x) base v ld:=
 h.off λq s ds hq hq2=>Blk.far (p:=⟨g,i,none⟩) hq2 (λe=>by
  have e:q=g:=e
  subst e
  rcases h.own.2 with⟨h5,_⟩|⟨g',cap,cur,e1,e2,e3,_⟩
  ·rw [h5] at hq;cases hq
  ·rw [e1] at hq
   simp [Value.ownBlock] at hq
   subst hq
   exact ht (zcV hk e3)) _
theorem zgD (hT:zaj w)(h:zaW w A n c m MM)(z:zaD K0 MM)(hW:zbT K MM)(hK:260*K+269<=33554432:=by omega)(hK0:K+K0<=33554432:=by omega)(hKp:0<K:=by omega):
  Calls Tryz.prog 40 #[.agg #[.slice A n c,.int .i64 (m:Int)]] w (zgu w n m (zdP m MM) (zaA m MM).ld):=by
 obtain⟨hn,hm⟩:=And.intro h.hn h.hm
 have HM:=lh9 (λw' (hb:Below w.heap.size w w')=>h.keep hb)
 have HT:=lh9 (λw' (hb:Below w.heap.size w w')=>hT.on hb)
 have HZ:=lh9 z
 have HW:=lh9 hW
 have HD:=lh9 h.dims
 have hok:=zcM h.dims
 obtain⟨s1,s2,s3,s4⟩:=zgN h.dims hn hW
 have HS1:=lh9 s1
 have HS2:=lh9 s2
 have HS3:=lh9 s3
 have HS4:=lh9 s4
 have HDR:=lh9 (zka h.dims)
 have HDS:=lh9 hok.dims
 have HLL:Hid (∀l ∈(zaA m MM).ld,l<128):=λl hl=>by have:=ok_lt hok l hl;omega
 obtain⟨bx1,bx2,bx3,-⟩:=zbC w 32 32 #[.slice A n c,.int .i64 (m:Int)] #[.slice none 0 0,.int .i64 0]
 obtain⟨p0,p1⟩:=bx2.c2
 have HB:=lh9 bx1
 have HK1:=lh9 bx2
 have HK2:=lh9 bx3
 have HRM:Hid (zdP m MM=zcO (zaA m MM).p⁻¹ (zaA m MM).S):=rfl
 have hst:zeW m (zbg MM)=zaA m MM:=rfl
 obtain⟨st,hst2⟩:∃st,zaA m MM=st:=⟨_,rfl⟩
 obtain⟨RM,hRM⟩:∃RM,zdP m MM=RM:=⟨_,rfl⟩
 rw [hst2] at hst HS2 HS3 HS4 HDS HLL HRM⊢
 rw [hRM] at HRM HS1 HDR⊢
 have HST:=lh9 hst
 unfold zgu
 clear h hT z hW bx1 bx2 bx3 hst hst2 hok s1 s2 s3 s4 hRM
 go_enter Tryz.func40,Tryz.ntmps40
 go_wp2_with fail
 generalize (w.alloc (.cells #[.slice A n c,.int .i64 (m:Int)] 32)).alloc (.cells #[.slice none 0 0,.int .i64 0] 32)=W1 at*
 have hbd:=(Below.refl W1.heap.size W1).drew
 refine rg (csc p0 (csc p1 csn)) (λhHeld=>?_)
 have HB:=lh9 (zaa HB.out hbd)
 have HK1:=lh9 (zab hbd HK1.out)
 have HK2:=lh9 (zab hbd HK2.out)
 clear p0 p1 hbd
 generalize W1.drew=D at*
 refine tk 0 ?_
 refine tk 2 ?_
 refine rc 1 (λKK hK9=>?_)
 go_simp
 refine(zbp A n c (m:Int) _).mono ?_
 rintro eo w2 ⟨rfl,hb⟩
 refine hK9.out _ _ (Cs.below hHeld hb) (λhHeld=>?_)
 have HB:=lh9 (zaa HB.out hb)
 have HK1:=lh9 (zab hb HK1.out)
 have HK2:=lh9 (zab hb HK2.out)
 clear hK9 KK hb
 refine rc 3 (λKK hK9=>?_)
 go_simp
 (with_reducible refine(zfg (HT.out _ HB.out) (HM.out _ HB.out) HZ.out (by omega)).mono ?_)
 rintro eo w3 ⟨g3,rfl,hg3,ho3,hb⟩
 refine hK9.out _ _ (Cs.below hHeld hb) (λhHeld=>?_)
 have HB:=lh9 (zaa HB.out hb)
 have HK1:=lh9 (zab hb HK1.out)
 have HK2:=lh9 (zab hb HK2.out)
 have HR:=lh9 ho3.rows
 clear hK9 KK hb hg3 ho3
 refine rc 4 (λKK hK9=>?_)
 go_simp
 (with_reducible refine(zhf (HT.out _ HB.out) HR.out HD.out HZ.out HW.out hn (by omega) (Nat.le_refl _) hK hK0 hKp).mono ?_)
 rintro eo w4 ⟨g4,rfl,hg4,⟨A4,cA4,B4,k4,cB4,z0,z1,z2,u0,u1,u2,hes⟩,hb⟩
 rw [HST.out] at hes
 refine hK9.out _ _ (Cs.below hHeld hb) (λhHeld=>?_)
 have HB:=lh9 (zaa HB.out hb)
 have HK1:=lh9 (zab hb HK1.out)
 have HK2:=lh9 (zab hb HK2.out)
 have HES:=lh9 hes
 clear hK9 KK hb hg4 hes HR
 refine tk 5 ?_
 refine rdn ?_
 clear hHeld
 obtain⟨p0,p1⟩:=HK1.out.c2
 go_wp2_with fail
 clear p0 p1
 refine(zbp A n c (m:Int) _).mono ?_
 rintro eo w5 ⟨rfl,hb⟩
 have HB:=lh9 (zaa HB.out hb)
 have HK2:=lh9 (zab hb HK2.out)
 have HES:=lh9 (HES.out.below hb)
 clear hb HK1
 go_wp2_with fail
 (with_reducible refine(zkA (HT.out _ HB.out) HES.out HDS.out HS4.out HS2.out HS3.out hn (by omega) (by omega)).mono ?_)
 rintro eo w6 ⟨g6,rfl,hg6,ho6,hb⟩
 rw [<-HRM.out] at ho6
 have HB:=lh9 (zaa HB.out hb)
 have HK2:=lh9 (zab hb HK2.out)
 have HES:=lh9 (HES.out.below hb)
 have HR6:=lh9 ho6.rows
 clear hb hg6 ho6
 go_wp2_with fail
 (with_reducible refine(zkH (HT.out _ HB.out) HR6.out HDR.out hn hm HS1.out (by omega)).mono ?_)
 rintro eo w7 ⟨A7,c7,rfl,hm7,-,hb⟩
 obtain⟨bx1,bx2,-⟩:=zaw w7 32 #[.slice A7 n c7,.int .i64 (m:Int)]
 have hbx:=zaa hb bx1
 have HK2o:=HK2
 have HB:=lh9 (zaa HB.out hbx)
 have HK2:=lh9 (zab hbx HK2.out)
 have HES:=lh9 (HES.out.below hbx)
 have HM7:=lh9 (hm7.keep bx1)
 have HK7:=lh9 bx2
 have HQ7:Hid (w.heap.size+1<w7.heap.size):=(zab hb HK2o.out).lt
 clear hb hm7 bx1 bx2 hbx HR6 HK2o
 go_upto_region 3 with fail
 generalize w7.alloc (.cells #[.slice A7 n c7,.int .i64 (m:Int)] 32)=W8 at*
 generalize w7.heap.size=q7 at*
 obtain⟨p0,p1⟩:=HK7.out.c2
 obtain⟨-,p2,-⟩:=HES.out.cells
 have hbd:=(Below.refl W8.heap.size W8).drew
 have HNG:Hid (g4≠w.heap.size+1):=λe=>by subst e;exact absurd (zcV HES.out.blk HK2.out) (by decide)
 have HNQ:Hid (q7≠w.heap.size+1):=by have:=HQ7.out;show q7≠w.heap.size+1;omega
 refine rg (csc p0 (csc p1 (csc p2 csn))) (λhHeld=>?_)
 have HB:=lh9 (zaa HB.out hbd)
 have HK2:=lh9 (zab hbd HK2.out)
 have HES:=lh9 (HES.out.below hbd)
 have HM7:=lh9 (HM7.out.keep hbd)
 clear p0 p1 p2 hbd HK7
 generalize W8.drew=D8 at*
 refine tk 0 ?_
 refine tk 1 ?_
 refine tk 2 ?_
 refine tk 3 ?_
 refine tk 4 ?_
 obtain⟨sc0,sf0,sc1,sf1⟩:=st2 HK2.out (.slice A7 n c7)
 obtain⟨r0,r1⟩:=(sn2 HK2.out (.slice A7 n c7) (.int .i64 (m:Int))).c2
 have HBF:=lh9 (bl2 (.slice A7 n c7) (.int .i64 (m:Int)) (show w.heap.size<=w.heap.size+1 by omega) HB.out)
 have HMF:=lh9 (HM7.out.offz HK2.out (.slice A7 n c7) (.int .i64 (m:Int)))
 have HLF:=lh9 ((HES.out.lds.slot HK2.out (by decide) 0 (.slice A7 n c7)).slot (HK2.out.set_ 0 (.slice A7 n c7)) (by decide) 1 (.int .i64 (m:Int)))
 have HIF:=lh9 (HLF.out.ints HLL.out)
 have HCP:=lh9 HES.out.cap
 have HHK:=lh9 HES.out.hk
 refine rc 5 (λKK hK9=>?_)
 go_simp
 refine hK9.out _ _ (Cs.far hHeld (ziM _ _ (.slice A7 n c7) (.int .i64 (m:Int))) ⟨HNQ.out,HNQ.out,HNG.out,trivial⟩) (λhHeld=>?_)
 clear hK9 KK sc0 sf0 sc1 sf1
 refine tk 6 ?_
 refine rdn ?_
 clear hHeld HES HM7 HB HK2 HLF
 go_wp2
 refine bodyPost_ret (v:=.tuple #[.agg #[.slice A7 n c7,.int .i64 (m:Int)],.slice B4 k4 cB4]) (by simp [results,Tryz.results40,go_sem,r0,r1]) rfl ?_
 exact⟨A7,c7,B4,k4,cB4,rfl,HHK.out.symm,HMF.out,HIF.out,HCP.out.2.2.2.1,HCP.out.2.2.2.2.1,HBF.out⟩
end
def zfk (m:Nat)(ld:List Nat)(R:List (List Rat))(c i:Nat):List Rat:=(List.range i).foldl (λx r=>x.set (ld.getD r 0) (-atM R r c)) (zjg m c)
theorem ziB (m:Nat)(ld:List Nat)(R:List (List Rat))(c i:Nat):zfk m ld R c (i+1)=(zfk m ld R c i).set (ld.getD i 0) (-atM R i c):=by unfold zfk;rw [List.range_succ,List.foldl_append];rfl
theorem zjN {m:Nat}{ld:List Nat}{R:List (List Rat)}{c:Nat}(h:(zjg m c).length=m)(i:Nat):(zfk m ld R c i).length=m:=by
 induction i with
 |zero=>exact h
 |succ i ih=>rw [ziB,List.length_set,ih]
def zdL (ld:List Nat)(i:Nat):List Nat:=(List.range i).filter λc=> !decide (c ∈ ld)
def zfS (m:Nat)(ld:List Nat)(R:List (List Rat))(i:Nat):List (List Rat):=(zdL ld i).map λc=>zfk m ld R c ld.length
theorem kerM_yes {m:Nat}{ld:List Nat}{R:List (List Rat)}{i:Nat}(h:i ∉ ld):zfS m ld R (i+1)=zfS m ld R i++[zfk m ld R i ld.length]:=by
 unfold zfS zdL
 rw [List.range_succ,List.filter_append,List.map_append]
 simp [h]
theorem kerM_no {m:Nat}{ld:List Nat}{R:List (List Rat)}{i:Nat}(h:i ∈ ld):zfS m ld R (i+1)=zfS m ld R i:=by
 unfold zfS zdL
 rw [List.range_succ,List.filter_append,List.map_append]
 simp [h]
theorem kerM_le (m:Nat)(ld:List Nat)(R:List (List Rat))(i:Nat):(zfS m ld R i).length<=i:=by
 unfold zfS zdL
 rw [List.length_map]
 exact Nat.le_trans (List.length_filter_le _ _) (by rw [List.length_range];exact Nat.le_refl _)
theorem zhV {ld:List Nat}{c:Nat}:((c:Int)∈ ldI ld)↔c ∈ ld:=by
 unfold ldI
 rw [List.mem_map]
 constructor
 ·rintro⟨l,hl,e⟩
  rwa [show c=l by omega]
 ·exact λh=>⟨c,h,rfl⟩
theorem znf {ld:List Nat}{i:Nat}(h:i<ld.length):(ldI ld).getD i 0=((ld.getD i 0:Nat):Int):=by
 unfold ldI
 rw [List.getD_eq_getElem?_getD,List.getD_eq_getElem?_getD,List.getElem?_map,List.getElem?_eq_getElem h];rfl
def zln (w:World)(m:Nat)(Ls:List (List Rat))(eo:Ending)(w':World):Prop:=∃(A:oA9) (k c:Nat),eo=.returned (.slice A k c)/\k=Ls.length/\zaz (zaM zah) w' A k Ls/\(∀L ∈ Ls,L.length=m)/\k<=c/\c<=9223372036854775807/\Below w.heap.size w w'
section
variable {w:World}{A:oA9}{n c m K K0:Nat}{MM:List (List Rat)}
theorem elim_ker (hT:zaj w)(h:zaW w A n c m MM)(z:zaD K0 MM)(hW:zbT K MM)(hK:260*K+269<=33554432:=by omega)(hK0:K+K0<=33554432:=by omega)(hKp:0<K:=by omega):
  Calls Tryz.prog 51 #[.agg #[.slice A n c,.int .i64 (m:Int)]] w (zln w m (zfS m (zaA m MM).ld (zdP m MM) m)):=by
 obtain⟨hn,hm⟩:=And.intro h.hn h.hm
 have HT:=lh9 (λw' (hb:Below w.heap.size w w')=>hT.on hb)
 have hok:=zcM h.dims
 obtain⟨s1,-,-,-⟩:=zgN h.dims hn hW
 have HS1:=lh9 s1
 have HLM:Hid (∀l ∈(zaA m MM).ld,l<m):=ok_lt hok
 have HLN:Hid ((zaA m MM).ld.length<=n):=ok_len hok
 have HUL:Hid (∀j,(zjg m j).length=m):=λj=>by unfold zjg;simp
 obtain⟨bx1,bx2,-⟩:=zaw w 32 #[.slice A n c,.int .i64 (m:Int)]
 obtain⟨p0,p1⟩:=bx2.c2
 have HRED:=lh9 (zgD (hT.on bx1) (h.keep bx1) z hW hK hK0 hKp)
 have HB:=lh9 bx1
 have HK1:=lh9 bx2
 obtain⟨st,hst⟩:∃st,zaA m MM=st:=⟨_,rfl⟩
 obtain⟨RM,hRM⟩:∃RM,zdP m MM=RM:=⟨_,rfl⟩
 rw [hst] at HLM HLN HRED⊢
 rw [hRM] at HS1 HRED⊢
 obtain⟨ld,hld⟩:∃ld,st.ld=ld:=⟨_,rfl⟩
 rw [hld] at HLM HLN HRED⊢
 have i0:(0:Int)<=(m:Int):=by omega
 unfold zln
 obtain⟨i9,hi9,hz9,hz10,hz11⟩:=info_parts zfJ
 clear hT h z hW bx1 bx2 hok s1 hst hRM hld
 go_enter Tryz.func51,Tryz.ntmps51
 go_wp2_with fail
 generalize w.alloc (.cells #[.slice A n c,.int .i64 (m:Int)] 32)=W1 at*
 refine HRED.out.mono ?_
 rintro eo w2 ⟨A2,c2,B2,k2,cB2,rfl,hk2,hm2,hI2,hc3,hc4,hb⟩
 obtain⟨bx1,bx2,-⟩:=zaw w2 32 #[.slice A2 n c2,.int .i64 (m:Int)]
 have hbx:=zaa hb bx1
 have HB:=lh9 (zaa HB.out hbx)
 have HK1:=lh9 (zab hbx HK1.out)
 have HM2:=lh9 (hm2.keep bx1)
 have HI2:=lh9 (hI2.keep bx1)
 have HK3:=lh9 bx2
 have HKK:=lh9 hk2
 obtain⟨p2,p3⟩:=HK1.out.c2
 clear hb hm2 hI2 bx1 bx2 hbx p0 p1 HRED hk2
 go_wp2_with fail
 generalize w2.alloc (.cells #[.slice A2 n c2,.int .i64 (m:Int)] 32)=W3 at*
 generalize w2.heap.size=q3 at*
 clear p2 p3
 refine(zbp A n c (m:Int) _).mono ?_
 rintro eo w4 ⟨rfl,hb⟩
 have HB:=lh9 (zaa HB.out hb)
 have HK1:=lh9 (zab hb HK1.out)
 have HK3:=lh9 (zab hb HK3.out)
 have HM2:=lh9 (HM2.out.keep hb)
 have HI2:=lh9 (HI2.out.keep hb)
 clear hb
 have HM4:=lh9 (λw' (hb:Below w4.heap.size w4 w')=>HM2.out.keep hb)
 have HI4:=lh9 (λw' (hb:Below w4.heap.size w4 w')=>HI2.out.keep hb)
 have HK14:=lh9 (λw' (hb:Below w4.heap.size w4 w')=>zab hb HK1.out)
 have HK34:=lh9 (λw' (hb:Below w4.heap.size w4 w')=>zab hb HK3.out)
 have HT4:=lh9 (λw' (hb:Below w4.heap.size w4 w')=>HT.out w' (zaa HB.out hb))
 have hB4:=Below.refl w4.heap.size w4
 clear HM2 HI2 HK1 HK3 HT
 go_wp2_with fail
 go_loopg [5,18] (m+1) (λg sl ix wr=>∃(i:Nat) (v:Value) (vs:List Value),i<=m/\m<g+i/\ix=.int .i64 i/\v=sl/\zbj (zaM zah) wr w4.heap.size 71 v (zfS m ld RM i) vs/\Below w4.heap.size w4 wr)
 case atStart=>exact⟨0,_,_,Nat.zero_le _,by omega,rfl,rfl,zbj.nil _ _ _,hB4⟩
 case round=>
  clear hB4
  obtain⟨i,v,vs,him,hg,rfl,rfl,hon,hB4⟩:=hrel
  by_cases hlt:i<m
  ·have hd1:decide ((i:Int)<(m:Int))=true:=decide_eq_true (by omega)
   have HON:=lh9 hon
   have HB4:=lh9 hB4
   clear hon hB4
   go_wp2_with fail
   by_cases hin:i ∈ ld
   ·refine(zdl (decide_eq_true (zhV.2 hin)) (HI4.out _ HB4.out) (by have:=HKK.out;have:=HLN.out;omega)).mono ?_
    rintro eo w5 ⟨rfl,hb⟩
    have HON5:Hid (zbj (zaM zah) w5 w4.heap.size 71 v (zfS m ld RM (i+1)) vs):=by rw [kerM_no hin];exact HON.out.below (zam zaf) hb
    have HB5:=lh9 (zaa HB4.out hb)
    clear hb hin HON HB4
    go_wp2
    go_roundg (m - i)
    case measure=>omega
    case rel=>exact⟨i+1,_,_,by omega,by omega,by go_num,rfl,HON5.out,HB5.out⟩
   ·have HNI:=lh9 hin
    refine(zdl (decide_eq_false (λh9=>hin (zhV.1 h9))) (HI4.out _ HB4.out) (by have:=HKK.out;have:=HLN.out;omega)).mono ?_
    rintro eo w5 ⟨rfl,hb⟩
    have HB5:=lh9 (zaa HB4.out hb)
    have HON:=lh9 (HON.out.below (zam zaf) hb)
    obtain⟨p0,p1⟩:=(HK14.out _ HB5.out).c2
    clear hb hin HB4
    go_wp2_with fail
    clear p0 p1
    refine(zbp A n c (m:Int) _).mono ?_
    rintro eo w6 ⟨rfl,hb⟩
    have HB5:=lh9 (zaa HB5.out hb)
    have HON:=lh9 (HON.out.below (zam zaf) hb)
    clear hb
    have HON6:=lh9 (λw' (hb:Below w6.heap.size w6 w')=>HON.out.below (zam zaf) hb)
    have HB6:=lh9 (λw' (hb:Below w6.heap.size w6 w')=>zaa HB5.out hb)
    have hB6:=Below.refl w6.heap.size w6
    clear HON HB5
    go_wp2_with fail
    (with_reducible refine(vec_unit m i _ (HT4.out _ (HB6.out _ hB6)) hm hlt).mono ?_)
    rintro eo w7 ⟨g7,rfl,hg7,ho7,hB7⟩
    have hx7:zbK w7 g7 m (zfk m ld RM i 0):=ho7
    clear ho7 hB6
    go_wp2_with fail
    go_loopg [33] (k2+1) (λgg ix wx=>∃(r:Nat),r<=k2/\k2<gg+r/\ix=.int .i64 r/\zbK wx g7 m (zfk m ld RM i r)/\Below w6.heap.size w6 wx)
    case atStart=>exact⟨0,Nat.zero_le _,by omega,rfl,hx7,hB7⟩
    case round=>
     clear hx7 hB7
     obtain⟨r,hrk,hg2,rfl,hx,hB7⟩:=hrel
     by_cases hlr:r<k2
     ·have hd3:decide ((r:Int)<(k2:Int))=true:=decide_eq_true (by omega)
      have i1:(0:Int)<=(r:Int):=by omega
      have i2:(r:Int)<(k2:Int):=by omega
      have hrl:r<ld.length:=by rw [<-HKK.out];exact hlr
      have HB7:=lh9 hB7
      obtain⟨ad,hadB,hc⟩:=(HI4.out _ (HB6.out _ hB7)).num r hlr
      rw [znf hrl] at hc
      have hlm:ld.getD r 0<m:=HLM.out _ (zcB hrl)
      have HKS:=lh9 (ziB m ld RM i r)
      obtain⟨l,hl⟩:∃l,ld.getD r 0=l:=⟨_,rfl⟩
      rw [hl] at hc hlm HKS
      have i3:(0:Int)<=(l:Int):=by omega
      have i4:(l:Int)<(m:Int):=by omega
      obtain⟨p0,p1⟩:=(HK34.out _ (HB6.out _ hB7)).c2
      have hrn:r<n:=by have:=HLN.out;omega
      have HX:=lh9 hx
      subst hadB
      clear hx hB7 hl
      go_wp2_with fail
      (with_reducible refine(mat_at (HT4.out _ (HB6.out _ HB7.out)) (HM4.out _ (HB6.out _ HB7.out)) HS1.out hrn hlt (by omega)).mono ?_)
      rintro eo w8 ⟨b8,A8,n8,c8,E8,k8,f8,rfl,hw8,hb⟩
      have HX:=lh9 (HX.out.keep hb)
      have HB7:=lh9 (zaa HB7.out hb)
      have HW8:=lh9 hw8
      have HZ8:=lh9 (HS1.out.at_ (HM4.out _ (HB6.out _ HB7.out)).dims hrn hlt)
      clear hb hw8 hc p0 p1
      go_wp2_with fail
      (with_reducible refine(zkY (atM RM r i) b8 A8 n8 c8 E8 k8 f8 _ (HT4.out _ (HB6.out _ HB7.out)) HW8.out (HZ8.out.fit HW8.out (by omega))).mono ?_)
      rintro eo w9 ⟨b9,A9,n9,c9,E9,k9,f9,rfl,hw9,hb⟩
      have hX9:=HX.out.keep hb
      have hr4:=zbf.set_ zaf hX9 hlm hw9
      rw [<-HKS.out] at hr4
      obtain⟨q0,q1,q2,sc0,sf0,sc1,sf1,sc2,sf2⟩:=hX9.ready hlm (.bool b9) (.slice A9 n9 c9)
      have HR4:=lh9 hr4
      have HB9:=lh9 (zbB (l*3) (l*3+1) (l*3+2) (.bool b9) (.slice A9 n9 c9) (.slice E9 k9 f9) hg7 (zaa HB7.out hb))
      clear hb hw9 hX9 hr4 HX HB7 HW8 HKS
      go_wp2
      go_roundg (k2 - r)
      case measure=>omega
      case rel=>exact⟨r+1,by omega,by omega,by go_num,HR4.out,HB9.out⟩
     ·have hk9:r=k2:=by omega
      have hd3:decide ((r:Int)<(k2:Int))=false:=by rw [hk9];simp
      have hx9:zbK wr g7 m (zfk m ld RM i ld.length):=by rw [<-HKK.out,<-hk9];exact hx
      obtain⟨t1,t2,-⟩:=zaw wr 71 #[.slice (some ⟨g7,0,none⟩) m m]
      have hup:=zaa hB7 t1
      have HONX:=lh9 (HON6.out _ hup)
      have HVX:=lh9 (zaC.keep (zaE hx9) t1)
      have HBX:=lh9 (HB6.out _ hup)
      have hown:=HONX.out.own
      obtain⟨kk,hkk⟩:∃kk,(zfS m ld RM i).length=kk:=⟨_,rfl⟩
      have hkki:kk<=i:=by rw [<-hkk];exact kerM_le m ld RM i
      rw [hkk] at hown
      have HKL:=lh9 hkk
      have HOWN:=lh9 hown
      have HSL:=lh9 HONX.out.sl
      have HCELL:=lh9 (zbZ wr (.slice (some ⟨g7,0,none⟩) m m) 71)
      have HBS:=lh9 HBX.out.size
      have HOB:=lh9 (λr (h:v.ownBlock=some r)=>HONX.out.own.lt r h)
      have HZS:Hid (∀u ∈(Value.slice none 0 0).cells.toList,zch u):=by intro u hu;simp [Value.cells] at hu;exact⟨_,_,_,hu⟩
      have HNN:Hid (∀u ∈ [Value.slice (some ⟨g7,0,none⟩) m m],zch u):=by intro u hu;simp at hu;exact⟨_,_,_,hu⟩
      have HONE:Hid (∀u ∈ [Value.slice (some ⟨g7,0,none⟩) m m],u.oneCell'=true):=by intro u hu;simp at hu;subst hu;rfl
      have HKT:Hid ((zfk m ld RM i ld.length).length=m):=zjN (HUL.out i) _
      clear hx hx9 hB7 t1 t2 hup hown hkk hk9
      go_wp2_with (at_builtin;go_loud (refine zcx _ rfl (.tmp 47) (.tmp 49) 30 rfl w4.heap.size 71 i9 (.slice none 0 0) 1 24 Tryz.underlying30 hi9 hz9 hz10 hz11 rfl (by decide) v kk vs rfl HOWN.out ⟨wr.heap.size,0,none⟩ 1 1 [.slice (some ⟨g7,0,none⟩) m m] rfl rfl HCELL.out HONE.out (by unfold maxLen;omega) (by omega) HBS.out HSL.out HZS.out HNN.out ?_;intro v' w8 hown' hgrow hat hsl'))
      have hon8:=zbj.grow (n:=kk+1) (L:=zfk m ld RM i ld.length) (zam zaf) HONX.out HVX.out HKT.out hown' (by rw [HKL.out]) hgrow hsl'
      rw [<-kerM_yes HNI.out] at hon8
      have HON8:=lh9 hon8
      have HB8:=lh9 (HBX.out.grown hgrow HBS.out (λr hr=>(HOB.out r hr).1))
      clear hon8 hown' hgrow hat hsl' HONX HVX HOWN HSL HCELL HBS HOB HZS HNN HONE HBX
      go_wp2
      go_roundg (m - i)
      case measure=>omega
      case rel=>exact⟨i+1,_,_,by omega,by omega,by go_num,rfl,HON8.out,HB8.out⟩
  ·have hk9:i=m:=by omega
   subst hk9
   have hd1:decide ((i:Int)<(i:Int))=false:=by simp
   obtain⟨Q5,q5,e5,hq1,hq2,hr5,-⟩:=hon.shape (n:=(zfS i ld RM i).length) rfl
   subst e5
   have HR5:=lh9 hr5
   have HB9:=lh9 (zaa HB.out hB4)
   have HQ:=lh9 (And.intro hq1 hq2)
   have HLL:Hid (∀L ∈ zfS i ld RM i,L.length=i):=λL hL=>by
    unfold zfS at hL
    obtain⟨j,_,rfl⟩:=List.mem_map.1 hL
    exact zjN (HUL.out j) _
   clear hon hB4 hr5 hq1 hq2
   go_wp2
   go_ret
   exact⟨Q5,_,q5,rfl,rfl,HR5.out,HLL.out,HQ.out.1,HQ.out.2,HB9.out⟩
end
