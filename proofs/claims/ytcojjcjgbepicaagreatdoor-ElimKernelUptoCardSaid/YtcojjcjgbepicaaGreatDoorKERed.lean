/- What this claim leans on. -/
import Derived.Test.YtcojjcjgbepicaaGreatDoorKMMul
import Derived.Test.YtcojjcjgbepicaaGreatDoorKEAll
namespace Go.Proofs.YtcojjcjgbepicaaGreatDoor
open Go Go.RowKit
set_option maxHeartbeats 16000000
set_option maxRecDepth 100000
set_option linter.unusedVariables false
set_option linter.unusedSimpArgs false
def zaE (m:Nat)(MM:List (List Rat)):ESt:=zeT m (zbg MM)
def zcY (m:Nat)(MM:List (List Rat)):List (List Rat):=zcO (zaE m MM).p⁻¹ (zaE m MM).S
def ldI (ld:List Nat):List Int:=ld.map λl:Nat=>(l:Int)
theorem zfN.ints {w:World}{base:Nat}{B:oA9}{k c:Nat}{ld:List Nat}(h:zfN w base (.slice B k c) ld)(hb:∀l ∈ ld,l<128):zda w B k (ldI ld):=by
 obtain⟨B',c',e,-,-,-,h1⟩:=h.shape
 injection e with e1 e2 e3
 subst e1 e2
 refine⟨by unfold ldI;rw [List.length_map],λi hi=>?_,λi hi=>?_⟩
 ·unfold ldI
  rw [List.getD_eq_getElem?_getD,List.getElem?_map,List.getElem?_eq_getElem hi]
  have:=hb _ (List.getElem_mem hi)
  show -9223372036854775808<=((ld[i]:Nat):Int)/\((ld[i]:Nat):Int)<=9223372036854775807
  omega
 ·obtain⟨ad,e,hc⟩:=h1 i hi
  refine⟨ad,e,?_⟩
  rw [hc]
  unfold ldI
  rw [List.getD_eq_getElem?_getD,List.getD_eq_getElem?_getD,List.getElem?_map,List.getElem?_eq_getElem hi];rfl
theorem zda.keep {w w':World}{A:oA9}{n:Nat}{zs:List Int}(h:zda w A n zs)(hb:Below w.heap.size w w'):zda w' A n zs:=
 ⟨h.len,h.ints,λi hi=>by obtain⟨ad,e,hc⟩:=h.num i hi;exact⟨ad,e,zac hb hc⟩⟩
theorem zda.off {w w':World}{A:oA9}{n g:Nat}{zs:List Int}{t:TypeId}{cs:Array Value}(h:zda w A n zs)(hk:Blk w g t cs)(hcs:NoK .i64 cs)(ho:zbd g w w'):zda w' A n zs:=
 ⟨h.len,h.ints,λi hi=>by
  obtain⟨ad,e,hc⟩:=h.num i hi
  refine⟨ad,e,(ho.2 _ (World.block_lt_of_cell? w _ hc) λhg=>?_).trans hc⟩
  generalize ad.add i=q at hc hg
  obtain⟨bk,off,pr⟩:=q
  simp only at hg
  subst hg
  unfold Blk at hk
  cases pr with
  |none=>
    rw [show w.cell? ⟨bk,off,none⟩=cs[off]? from cell_of_row w bk off _ t (0,0) hk,<-Array.getElem?_toList] at hc
    exact hcs _ (List.mem_of_getElem? hc) _ rfl
  |some q=>simp [World.cell?,hk] at hc⟩
def zgr (w:World)(n m:Nat)(M:List (List Rat))(ld:List Nat)(eo:Ending)(w':World):Prop:=∃(A:oA9) (c:Nat) (B:oA9) (k cB:Nat),eo=.returned (.tuple #[.agg #[.slice A n c,.int .i64 (m:Int)],.slice B k cB])/\k=ld.length/\zaU w' A n c m M/\zda w' B k (ldI ld)/\k<=cB/\cB<=9223372036854775807/\Below w.heap.size w w'
section
variable {w:World}{A:oA9}{n c m K K0:Nat}{MM:List (List Rat)}
theorem zcn (h:zbe MM n m):EOk n m m (atM (zbg MM)) (zaE m MM):=zhP (zhB h) (Nat.le_refl _)
theorem ok_lt {n m c:Nat}{a0:Nat->Nat->Rat}{e:ESt}(h:EOk n m c a0 e):∀l ∈ e.ld,l<c:=λl hl=>by
 obtain⟨_,_,_,hi⟩:=h
 obtain⟨i,hi2,rfl⟩:=zdJ hl
 exact hi.lt i hi2
theorem ok_len {n m c:Nat}{a0:Nat->Nat->Rat}{e:ESt}(h:EOk n m c a0 e):e.ld.length<=n:=by
 obtain⟨_,_,_,hi⟩:=h
 exact hi.len
theorem zlV {M:List (List Rat)}{n m:Nat}(h:zbe M n m)(r:Rat):zbe (zcO r M) n m:=⟨by unfold zcO;rw [List.length_map];exact h.rows,λL hL=>by
 unfold zcO at hL
 obtain⟨row,hr,rfl⟩:=List.mem_map.1 hL
 exact zbm (h.cols row hr)⟩
theorem zpu {K L:Nat}{M:List (List Rat)}{r:Rat}(hr:SzQ L r)(h:zaB K M):zaB (L+K) (zcO r M):=λR hR=>by
 unfold zcO at hR
 obtain⟨row,hq,rfl⟩:=List.mem_map.1 hR
 exact zar.scale hr (h row hq)
theorem zgL (h:zbe MM n m)(hn:n<=64)(hW:zbZ K MM):zaB ((67+65*K)+(67+65*K)) (zcY m MM)/\SzQ (67+65*K) (zaE m MM).p/\(zaE m MM).p≠0/\zaB (67+65*K) (zaE m MM).S:=by
 have hok:=zcn h
 have ha:=hW.at_ h
 obtain⟨h1,h2⟩:=EOk.psz hok.inv hn ha
 have h3:=EOk.msz hok.dims hok.inv hn ha
 exact⟨zpu h1.inv h3,h1,h2,h3⟩
theorem zjM (h:zbe MM n m):zbe (zcY m MM) n m:=zlV (zcn h).dims _
theorem zoL (hT:zai w)(h:zaU w A n c m MM)(z:zaB K0 MM)(hW:zbZ K MM)(hK:260*K+269<=33554432:=by omega)(hK0:K+K0<=33554432:=by omega)(hKp:0<K:=by omega):
  Calls Tryz.prog 31 #[.agg #[.slice A n c,.int .i64 (m:Int)]] w (λeo w'=>eo=.returned (.int .i64 ((zaE m MM).ld.length:Int))/\Below w.heap.size w w'):=by
 obtain⟨hn,hm⟩:=And.intro h.hn h.hm
 have HM:=lh9 (λw' (hb:Below w.heap.size w w')=>h.keep hb)
 have HT:=lh9 (λw' (hb:Below w.heap.size w w')=>hT.on hb)
 have HZ:=lh9 z
 have HW:=lh9 hW
 have HD:=lh9 h.dims
 obtain⟨bx1,bx2,-⟩:=zax w 32 #[.slice A n c,.int .i64 (m:Int)]
 obtain⟨p0,p1⟩:=bx2.c2
 have HB:=lh9 bx1
 obtain⟨st,hst⟩:∃st,zaE m MM=st:=⟨_,rfl⟩
 have HST:Hid (zeT m (zbg MM)=st):=hst
 rw [hst]
 clear h hT z hW bx1 bx2 hst
 go_enter Tryz.func31,Tryz.ntmps31
 go_wp2_with fail
 generalize w.alloc (.cells #[.slice A n c,.int .i64 (m:Int)] 32)=W1 at*
 have hbd:=(Below.refl W1.heap.size W1).drew
 refine rg (csc p0 (csc p1 csn)) (λhHeld=>?_)
 have HB:=lh9 (zaa HB.out hbd)
 clear p0 p1 hbd
 generalize W1.drew=D at*
 refine tk 0 ?_
 refine tk 2 ?_
 refine rc 1 (λKK hK9=>?_)
 go_simp
 refine(zbw A n c (m:Int) _).mono ?_
 rintro eo w2 ⟨rfl,hb⟩
 refine hK9.out _ _ (Cs.below hHeld hb) (λhHeld=>?_)
 have HB:=lh9 (zaa HB.out hb)
 clear hK9 KK hb
 refine rc 3 (λKK hK9=>?_)
 go_simp
 (with_reducible refine(zfc (HT.out _ HB.out) (HM.out _ HB.out) HZ.out (by omega)).mono ?_)
 rintro eo w3 ⟨g3,rfl,hg3,ho3,hb⟩
 refine hK9.out _ _ (Cs.below hHeld hb) (λhHeld=>?_)
 have HB:=lh9 (zaa HB.out hb)
 have HR:=lh9 ho3.rows
 clear hK9 KK hb hg3 ho3
 refine rc 4 (λKK hK9=>?_)
 go_simp
 (with_reducible refine(zhb (HT.out _ HB.out) HR.out HD.out HZ.out HW.out hn (by omega) (Nat.le_refl _) hK hK0 hKp).mono ?_)
 rintro eo w4 ⟨g4,rfl,hg4,⟨A4,cA4,B4,k4,cB4,z0,z1,z2,u0,u1,u2,hes⟩,hb⟩
 rw [HST.out] at hes
 refine hK9.out _ _ (Cs.below hHeld hb) (λhHeld=>?_)
 have HB:=lh9 (zaa HB.out hb)
 have HES:=lh9 hes
 clear hK9 KK hb hg4 hes HR
 obtain⟨-,q1,-⟩:=HES.out.cells
 refine tk 5 ?_
 refine tk 6 ?_
 refine rc 7 (λKK hK9=>?_)
 go_simp
 refine hK9.out _ _ hHeld (λhHeld=>?_)
 clear hK9 KK
 refine tk 8 ?_
 refine tk 9 ?_
 refine rdn ?_
 clear hHeld q1
 go_wp2
 go_ret
 rw [HES.out.hk]
 exact⟨rfl,HB.out⟩
end
section
variable {w:World}{A:oA9}{n c m K K0:Nat}{MM:List (List Rat)}
theorem zfN.slot {w:World}{base g:Nat}{t:TypeId}{v:Value}{ld:List Nat}{cs:Array Value}(h:zfN w base v ld)(hk:Blk w g t cs)(ht:t≠3)(i:Nat)(x:Value):zfN (w.setCell ⟨g,i,none⟩ x) base v ld:=
 h.off λq s ds hq hq2=>Blk.far (p:=⟨g,i,none⟩) hq2 (λe=>by
  have e:q=g:=e
  subst e
  rcases h.own.2 with⟨h5,_⟩|⟨g',cap,cur,e1,e2,e3,_⟩
  ·rw [h5] at hq;cases hq
  ·rw [e1] at hq
   simp [Value.ownBlock] at hq
   subst hq
   exact ht (zcU hk e3)) _
theorem zgA (hT:zai w)(h:zaU w A n c m MM)(z:zaB K0 MM)(hW:zbZ K MM)(hK:260*K+269<=33554432:=by omega)(hK0:K+K0<=33554432:=by omega)(hKp:0<K:=by omega):
  Calls Tryz.prog 40 #[.agg #[.slice A n c,.int .i64 (m:Int)]] w (zgr w n m (zcY m MM) (zaE m MM).ld):=by
 obtain⟨hn,hm⟩:=And.intro h.hn h.hm
 have HM:=lh9 (λw' (hb:Below w.heap.size w w')=>h.keep hb)
 have HT:=lh9 (λw' (hb:Below w.heap.size w w')=>hT.on hb)
 have HZ:=lh9 z
 have HW:=lh9 hW
 have HD:=lh9 h.dims
 have hok:=zcn h.dims
 obtain⟨s1,s2,s3,s4⟩:=zgL h.dims hn hW
 have HS1:=lh9 s1
 have HS2:=lh9 s2
 have HS3:=lh9 s3
 have HS4:=lh9 s4
 have HDR:=lh9 (zjM h.dims)
 have HDS:=lh9 hok.dims
 have HLL:Hid (∀l ∈(zaE m MM).ld,l<128):=λl hl=>by have:=ok_lt hok l hl;omega
 obtain⟨bx1,bx2,bx3,-⟩:=zbC w 32 32 #[.slice A n c,.int .i64 (m:Int)] #[.slice none 0 0,.int .i64 0]
 obtain⟨p0,p1⟩:=bx2.c2
 have HB:=lh9 bx1
 have HK1:=lh9 bx2
 have HK2:=lh9 bx3
 have HRM:Hid (zcY m MM=zcO (zaE m MM).p⁻¹ (zaE m MM).S):=rfl
 have hst:zeT m (zbg MM)=zaE m MM:=rfl
 obtain⟨st,hst2⟩:∃st,zaE m MM=st:=⟨_,rfl⟩
 obtain⟨RM,hRM⟩:∃RM,zcY m MM=RM:=⟨_,rfl⟩
 rw [hst2] at hst HS2 HS3 HS4 HDS HLL HRM⊢
 rw [hRM] at HRM HS1 HDR⊢
 have HST:=lh9 hst
 unfold zgr
 clear h hT z hW bx1 bx2 bx3 hst hst2 hok s1 s2 s3 s4 hRM
 go_enter Tryz.func40,Tryz.ntmps40
 go_wp2_with fail
 generalize (w.alloc (.cells #[.slice A n c,.int .i64 (m:Int)] 32)).alloc (.cells #[.slice none 0 0,.int .i64 0] 32)=W1 at*
 have hbd:=(Below.refl W1.heap.size W1).drew
 refine rg (csc p0 (csc p1 csn)) (λhHeld=>?_)
 have HB:=lh9 (zaa HB.out hbd)
 have HK1:=lh9 (zab hbd HK1.out)
 have HK2:=lh9 (zab hbd HK2.out)
 clear p0 p1 hbd
 generalize W1.drew=D at*
 refine tk 0 ?_
 refine tk 2 ?_
 refine rc 1 (λKK hK9=>?_)
 go_simp
 refine(zbw A n c (m:Int) _).mono ?_
 rintro eo w2 ⟨rfl,hb⟩
 refine hK9.out _ _ (Cs.below hHeld hb) (λhHeld=>?_)
 have HB:=lh9 (zaa HB.out hb)
 have HK1:=lh9 (zab hb HK1.out)
 have HK2:=lh9 (zab hb HK2.out)
 clear hK9 KK hb
 refine rc 3 (λKK hK9=>?_)
 go_simp
 (with_reducible refine(zfc (HT.out _ HB.out) (HM.out _ HB.out) HZ.out (by omega)).mono ?_)
 rintro eo w3 ⟨g3,rfl,hg3,ho3,hb⟩
 refine hK9.out _ _ (Cs.below hHeld hb) (λhHeld=>?_)
 have HB:=lh9 (zaa HB.out hb)
 have HK1:=lh9 (zab hb HK1.out)
 have HK2:=lh9 (zab hb HK2.out)
 have HR:=lh9 ho3.rows
 clear hK9 KK hb hg3 ho3
 refine rc 4 (λKK hK9=>?_)
 go_simp
 (with_reducible refine(zhb (HT.out _ HB.out) HR.out HD.out HZ.out HW.out hn (by omega) (Nat.le_refl _) hK hK0 hKp).mono ?_)
 rintro eo w4 ⟨g4,rfl,hg4,⟨A4,cA4,B4,k4,cB4,z0,z1,z2,u0,u1,u2,hes⟩,hb⟩
 rw [HST.out] at hes
 refine hK9.out _ _ (Cs.below hHeld hb) (λhHeld=>?_)
 have HB:=lh9 (zaa HB.out hb)
 have HK1:=lh9 (zab hb HK1.out)
 have HK2:=lh9 (zab hb HK2.out)
 have HES:=lh9 hes
 clear hK9 KK hb hg4 hes HR
 refine tk 5 ?_
 refine rdn ?_
 clear hHeld
 obtain⟨p0,p1⟩:=HK1.out.c2
 go_wp2_with fail
 clear p0 p1
 refine(zbw A n c (m:Int) _).mono ?_
 rintro eo w5 ⟨rfl,hb⟩
 have HB:=lh9 (zaa HB.out hb)
 have HK2:=lh9 (zab hb HK2.out)
 have HES:=lh9 (HES.out.below hb)
 clear hb HK1
 go_wp2_with fail
 (with_reducible refine(zkm (HT.out _ HB.out) HES.out HDS.out HS4.out HS2.out HS3.out hn (by omega) (by omega)).mono ?_)
 rintro eo w6 ⟨g6,rfl,hg6,ho6,hb⟩
 rw [<-HRM.out] at ho6
 have HB:=lh9 (zaa HB.out hb)
 have HK2:=lh9 (zab hb HK2.out)
 have HES:=lh9 (HES.out.below hb)
 have HR6:=lh9 ho6.rows
 clear hb hg6 ho6
 go_wp2_with fail
 (with_reducible refine(ziB (HT.out _ HB.out) HR6.out HDR.out hn hm HS1.out (by omega)).mono ?_)
 rintro eo w7 ⟨A7,c7,rfl,hm7,-,hb⟩
 obtain⟨bx1,bx2,-⟩:=zax w7 32 #[.slice A7 n c7,.int .i64 (m:Int)]
 have hbx:=zaa hb bx1
 have HK2o:=HK2
 have HB:=lh9 (zaa HB.out hbx)
 have HK2:=lh9 (zab hbx HK2.out)
 have HES:=lh9 (HES.out.below hbx)
 have HM7:=lh9 (hm7.keep bx1)
 have HK7:=lh9 bx2
 have HQ7:Hid (w.heap.size+1<w7.heap.size):=(zab hb HK2o.out).lt
 clear hb hm7 bx1 bx2 hbx HR6 HK2o
 go_upto_region 3 with fail
 generalize w7.alloc (.cells #[.slice A7 n c7,.int .i64 (m:Int)] 32)=W8 at*
 generalize w7.heap.size=q7 at*
 obtain⟨p0,p1⟩:=HK7.out.c2
 obtain⟨-,p2,-⟩:=HES.out.cells
 have hbd:=(Below.refl W8.heap.size W8).drew
 have HNG:Hid (g4≠w.heap.size+1):=λe=>by subst e;exact absurd (zcU HES.out.blk HK2.out) (by decide)
 have HNQ:Hid (q7≠w.heap.size+1):=by have:=HQ7.out;show q7≠w.heap.size+1;omega
 refine rg (csc p0 (csc p1 (csc p2 csn))) (λhHeld=>?_)
 have HB:=lh9 (zaa HB.out hbd)
 have HK2:=lh9 (zab hbd HK2.out)
 have HES:=lh9 (HES.out.below hbd)
 have HM7:=lh9 (HM7.out.keep hbd)
 clear p0 p1 p2 hbd HK7
 generalize W8.drew=D8 at*
 refine tk 0 ?_
 refine tk 1 ?_
 refine tk 2 ?_
 refine tk 3 ?_
 refine tk 4 ?_
 obtain⟨sc0,sf0,sc1,sf1⟩:=st2 HK2.out (.slice A7 n c7)
 obtain⟨r0,r1⟩:=(sn2 HK2.out (.slice A7 n c7) (.int .i64 (m:Int))).c2
 have HBF:=lh9 (bl2 (.slice A7 n c7) (.int .i64 (m:Int)) (show w.heap.size<=w.heap.size+1 by omega) HB.out)
 have HMF:=lh9 (HM7.out.offz HK2.out (.slice A7 n c7) (.int .i64 (m:Int)))
 have HLF:=lh9 ((HES.out.lds.slot HK2.out (by decide) 0 (.slice A7 n c7)).slot (HK2.out.set_ 0 (.slice A7 n c7)) (by decide) 1 (.int .i64 (m:Int)))
 have HIF:=lh9 (HLF.out.ints HLL.out)
 have HCP:=lh9 HES.out.cap
 have HHK:=lh9 HES.out.hk
 refine rc 5 (λKK hK9=>?_)
 go_simp
 refine hK9.out _ _ (Cs.far hHeld (ziG _ _ (.slice A7 n c7) (.int .i64 (m:Int))) ⟨HNQ.out,HNQ.out,HNG.out,trivial⟩) (λhHeld=>?_)
 clear hK9 KK sc0 sf0 sc1 sf1
 refine tk 6 ?_
 refine rdn ?_
 clear hHeld HES HM7 HB HK2 HLF
 go_wp2
 refine bodyPost_ret (v:=.tuple #[.agg #[.slice A7 n c7,.int .i64 (m:Int)],.slice B4 k4 cB4]) (by simp [results,Tryz.results40,go_sem,r0,r1]) rfl ?_
 exact⟨A7,c7,B4,k4,cB4,rfl,HHK.out.symm,HMF.out,HIF.out,HCP.out.2.2.2.1,HCP.out.2.2.2.2.1,HBF.out⟩
end
