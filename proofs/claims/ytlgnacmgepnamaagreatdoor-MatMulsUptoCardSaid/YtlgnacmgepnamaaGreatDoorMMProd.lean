/- What this claim leans on. -/
import Derived.Test.YtlgnacmgepnamaaGreatDoorMMGrid
namespace Go.Proofs.YtlgnacmgepnamaaGreatDoor
open Go Go.RowKit
set_option maxHeartbeats 16000000
set_option maxRecDepth 100000
set_option linter.unusedVariables false
set_option linter.unusedSimpArgs false
theorem zkT {w:World}{g n:Nat}{t:TypeId}(hk:Blk w g t (madeCells zdx n)):zaZ (zas zan) w t g n (List.replicate n []):=by
 refine⟨by simp,⟨_,hk,zmC _,size_madeCells _ _⟩,λi x hi=>?_⟩
 have hlt:i<n:=by
  have:=(List.getElem?_eq_some_iff.1 hi).1
  simpa using this
 obtain rfl:[]=x:=by
  rw [List.getElem?_replicate,if_pos hlt] at hi
  injection hi
 refine⟨none,0,?_,zas.nil _⟩
 rw [hk.cell,zbx _ _ _ hlt,show zdx.size=1 from rfl,Nat.mod_one]
 rfl
theorem znd (n:Nat)(hn:n<=1099511627776)(W:World):(Instr.makeSlice 26 (.int .i64 (n:Int)) (.int .i64 (n:Int))).run Tryz.prog W=.ok (.slice (some ⟨W.heap.size,0,none⟩) n n) (W.alloc (.cells (madeCells zdx n) 51)):=by
 obtain⟨i0,hi0,hz0,hz1,hz2⟩:=info_parts zgv
 have h:=zaT (P:=Tryz.prog) _ _ i0 _ Tryz.underlying26 hi0 hz0 .i64 .i64 n n (Nat.le_refl _) (by rw [hz2];omega) (by omega) W
 rw [hz1,Nat.mul_one] at h
 exact h
section
variable {A B:oA9}{n c k k' d m K K':Nat}{MA MB:List (List Rat)}{w:World}
theorem zni (h:k≠k'):Calls Tryz.prog 34 #[.agg #[.slice A n c,.int .i64 (k:Int)],.agg #[.slice B k' d,.int .i64 (m:Int)]] w (zdI w):=by
 have e0:((k:Int) !=(k':Int))=true:=by rw [bne_iff_ne];omega
 have HR:=λW=>lh9 (zcy B k' d (m:Int) W)
 obtain⟨bx1,bx2,bx3,bx4,bz⟩:=zbm w 28 28 28 #[.slice A n c,.int .i64 (k:Int)] #[.slice B k' d,.int .i64 (m:Int)] #[.slice none 0 0,.int .i64 0]
 obtain⟨p0,p1⟩:=bx2.c2
 obtain⟨q0,q1⟩:=bx3.c2
 have HB:=lh9 bx1
 have HK:=lh9 bx4
 clear h bx1 bx2 bx3 bx4 bz
 go_enter Tryz.func34,Tryz.ntmps34
 go_wp2_with fail
 generalize ((w.alloc (.cells #[.slice A n c,.int .i64 (k:Int)] 28)).alloc (.cells #[.slice B k' d,.int .i64 (m:Int)] 28)).alloc (.cells #[.slice none 0 0,.int .i64 0] 28)=W1 at*
 have hbd:=(Below.refl W1.heap.size W1).drew
 refine rg (csc p1 (csc q0 (csc q1 csn))) (λhHeld=>?_)
 clear p0 p1 q0 q1
 have HB:=lh9 (zac HB.out hbd)
 have HK:=lh9 (zad hbd HK.out)
 clear hbd
 generalize W1.drew=D at*
 refine tk 0 ?_
 refine tk 1 ?_
 refine tk 2 ?_
 refine rc 3 (λKK hK9=>?_)
 go_simp
 refine(HR _).out.mono ?_
 rintro e w2 ⟨rfl,hb⟩
 refine hK9.out _ _ (Cs.below hHeld hb) (λhHeld=>?_)
 clear hK9 KK
 have hk3:=zad hb HK.out
 obtain⟨sc0,sf0,sc1,sf1⟩:=st2 hk3 (.slice none 0 0)
 obtain⟨r0,r1⟩:=(sn2 hk3 (.slice none 0 0) (.int .i64 0)).c2
 have HG:=lh9 (gmn2 (g:=w.heap.size+1+1) (zac HB.out hb) (by omega))
 clear hb hk3 HK HB
 refine tk 4 ?_
 refine rdn ?_
 clear hHeld
 go_wp2
 refine bodyPost_ret (v:=.tuple #[.agg #[.slice none 0 0,.int .i64 0],.bool false]) (by simp [results,Tryz.results34,go_sem,r0,r1]) rfl ?_
 exact HG.out
theorem mulM_get {r:Nat}(hr:r<n):(zdG n k m MA MB)[r]?=some (zaN (zbq k m MB) (MA.getD r [])):=by
 rw [znS]
 exact ziU _ hr
theorem zok (hT:zao w)(hA:zaE w A n c k MA)(hB:zaE w B k d m MB)(z:zaB K MA)(z':zaB K' MB)(hK:K<=67108864:=by omega)(hK':K'<=67108864:=by omega)(hS:1+k*(K'+K+1)<=67108864:=by omega):
  Calls Tryz.prog 34 #[.agg #[.slice A n c,.int .i64 (k:Int)],.agg #[.slice B k d,.int .i64 (m:Int)]] w (zel w n m (zdG n k m MA MB)):=by
 obtain⟨hn,hk⟩:=And.intro hA.hn hA.hm
 have hm:=hB.hm
 have e0:((k:Int) !=(k:Int))=false:=by simp
 have HR:=λW=>lh9 (zcy B k d (m:Int) W)
 have HRA:=λW=>lh9 (zcy A n c (k:Int) W)
 have HMA:=lh9 hA
 have HCOL:=lh9 (λW (hb:Below w.heap.size w W)=>zhk (hB.keep hb))
 have HDOT:=lh9 (λW (Q V:oA9) (q e:Nat) (r:Nat) (hr9:r<n) (hb:Below w.heap.size w W) (hr:zaH (zas zan) W Q m (zbq k m MB)) (hv:zaM W V k e (MA.getD r []))=>zio (q:=q) (hT.on hb) hr (zbQ k m MB).cols hv (z'.turn hB.dims) (z.row (i:=r) (by rw [hA.dims.rows];exact hr9)) hm hk hK' hK hS)
 have HLM:Hid ((zdG n k m MA MB).length=n):=zgM _ _ _
 have HGM:Hid (∀r,r<n->(zdG n k m MA MB)[r]?=some (zaN (zbq k m MB) (MA.getD r []))):=λr hr=>mulM_get hr
 have HLR:Hid (∀v,(zaN (zbq k m MB) v).length=m):=λv=>by rw [ziX];exact zgM _ _ _
 have HDM:=lh9 (zfC n k m MA MB)
 obtain⟨M,hM⟩:∃M,zdG n k m MA MB=M:=⟨_,rfl⟩
 rw [hM] at HLM HGM HDM⊢
 have hmk:=znd n (by omega)
 obtain⟨bx1,bx2,bx3,bx4,bz⟩:=zbm w 28 28 28 #[.slice A n c,.int .i64 (k:Int)] #[.slice B k d,.int .i64 (m:Int)] #[.slice none 0 0,.int .i64 0]
 obtain⟨p0,p1⟩:=bx2.c2
 obtain⟨q0,q1⟩:=bx3.c2
 have HB:=lh9 bx1
 have HK:=lh9 bx4
 have HKA:=lh9 bx2
 have HKB:=lh9 bx3
 have i0:(0:Int)<=(n:Int):=by omega
 clear hT hA hB z z' hM bx1 bx2 bx3 bx4 bz hS hK hK'
 go_enter Tryz.func34,Tryz.ntmps34
 go_wp2_with fail
 generalize ((w.alloc (.cells #[.slice A n c,.int .i64 (k:Int)] 28)).alloc (.cells #[.slice B k d,.int .i64 (m:Int)] 28)).alloc (.cells #[.slice none 0 0,.int .i64 0] 28)=W1 at*
 have hbd:=(Below.refl W1.heap.size W1).drew
 refine rg (csc p1 (csc q0 (csc q1 csn))) (λhHeld=>?_)
 clear p0 p1 q0 q1
 have HB:=lh9 (zac HB.out hbd)
 have HK:=lh9 (zad hbd HK.out)
 have HKA:=lh9 (zad hbd HKA.out)
 have HKB:=lh9 (zad hbd HKB.out)
 clear hbd
 generalize W1.drew=D at*
 refine tk 0 ?_
 refine tk 1 ?_
 refine tk 2 ?_
 refine rc 3 (λKK hK9=>?_)
 go_simp
 refine(HR _).out.mono ?_
 rintro e w2 ⟨rfl,hb⟩
 refine hK9.out _ _ (Cs.below hHeld hb) (λhHeld=>?_)
 clear hK9 KK
 have HB2:=lh9 (zac HB.out hb)
 have HK2:=lh9 (zad hb HK.out)
 have HKA2:=lh9 (zad hb HKA.out)
 have HKB2:=lh9 (zad hb HKB.out)
 clear hb HB HK HKA HKB
 refine tk 4 ?_
 refine rdn ?_
 clear hHeld
 go_upto_region 3 with fail
 go_cut [6,16,17,18,19,20,21] (λs6 s16 s17 s18 s19 s20 s21 wx=>∃g1 g2:Nat,s6=.pointer (some ⟨g2,0,none⟩)/\g1≠g2/\w2.heap.size<=g1/\w2.heap.size<=g2/\Blk wx g1 51 (madeCells zdx n)/\Blk wx g2 28 #[.slice (some ⟨g1,0,none⟩) n n,.int .i64 (m:Int)]/\Below w2.heap.size w2 wx)
 case first=>
  obtain⟨p0,p1⟩:=HKA2.out.c2
  obtain⟨q0,q1⟩:=HKB2.out.c2
  have hl1:=HKA2.out.lt
  have hl2:=HKB2.out.lt
  have hbd:=(Below.refl w2.heap.size w2).drew
  refine rg (csc p0 (csc p1 (csc q1 csn))) (λhHeld=>?_)
  clear p0 p1 q0 q1 HKA2 HKB2 HK2 HB2 HMA HCOL HDOT
  generalize w2.drew=D2 at*
  refine tk 0 ?_
  refine tk 3 ?_
  refine tk 4 ?_
  refine rcb 1 6 (λKK hK9=>?_) (λKK hK9=>?_)
  ·go_simp
   refine(HRA _).out.mono ?_
   rintro e w4 ⟨rfl,hb⟩
   refine hK9.out _ _ (Cs.below hHeld hb) (λhHeld=>?_)
   clear hK9 KK
   have hbd:=zac hbd hb
   clear hb
   refine rcb 2 6 (λKK hK9=>?_) (λKK hK9=>?_)
   ·go_simp
    obtain⟨t1,t2,t3⟩:=zaD w4 51 (madeCells zdx n)
    refine hK9.out _ _ (Cs.below hHeld t1) (λhHeld=>?_)
    clear hK9 KK
    have hg1:w2.heap.size<=w4.heap.size:=hbd.size
    have hbd:=zac hbd t1
    generalize w4.alloc (.cells (madeCells zdx n) 51)=W5 at*
    generalize w4.heap.size=g1 at*
    refine tk 5 ?_
    refine rc 6 (λKK hK9=>?_)
    go_simp
    obtain⟨u1,u2,u3⟩:=zaD W5 28 #[.slice none 0 0,.int .i64 0]
    refine hK9.out _ _ (Cs.below hHeld u1) (λhHeld=>?_)
    clear hK9 KK
    have hg2:w2.heap.size<=W5.heap.size:=hbd.size
    have hne:g1≠W5.heap.size:=by omega
    have hbd:=zac hbd u1
    have t4:=zad u1 t2
    generalize W5.alloc (.cells #[.slice none 0 0,.int .i64 0] 28)=W6 at*
    generalize W5.heap.size=g2 at*
    obtain⟨sc0,sf0,sc1,sf1⟩:=st2 u2 (.slice (some ⟨g1,0,none⟩) n n)
    refine rc 7 (λKK hK9=>?_)
    go_simp
    refine hK9.out _ _ (Cs.far hHeld (zdA _ _ _ _) ⟨by show w.heap.size≠g2;omega,by show w.heap.size≠g2;omega,by show w.heap.size+1≠g2;omega,trivial⟩) (λhHeld=>?_)
    clear hK9 KK
    refine rdn ?_
    clear hHeld sc0 sf0 sc1 sf1
    go_wp2
    go_meet
    exact⟨g1,g2,rfl,hne,hg1,hg2,Blk.far (p:=⟨g2,1,none⟩) (Blk.far (p:=⟨g2,0,none⟩) t4 hne _) hne _,sn2 u2 _ _,bl2 _ _ hg2 hbd⟩
   ·go_simp
    obtain⟨u1,u2,u3⟩:=zaD w4 28 #[.slice none 0 0,.int .i64 0]
    refine hK9.out _ _ (Cs.below hHeld u1) (λhHeld=>?_)
    clear hK9 KK
    have hg2:w2.heap.size<=w4.heap.size:=hbd.size
    have hbd:=zac hbd u1
    generalize w4.alloc (.cells #[.slice none 0 0,.int .i64 0] 28)=W5 at*
    generalize w4.heap.size=g2 at*
    refine rc 2 (λKK hK9=>?_)
    go_simp
    obtain⟨t1,t2,t3⟩:=zaD W5 51 (madeCells zdx n)
    refine hK9.out _ _ (Cs.below hHeld t1) (λhHeld=>?_)
    clear hK9 KK
    have hg1:w2.heap.size<=W5.heap.size:=hbd.size
    have hne:W5.heap.size≠g2:=by omega
    have hbd:=zac hbd t1
    have u4:=zad t1 u2
    generalize W5.alloc (.cells (madeCells zdx n) 51)=W6 at*
    generalize W5.heap.size=g1 at*
    refine tk 5 ?_
    obtain⟨sc0,sf0,sc1,sf1⟩:=st2 u4 (.slice (some ⟨g1,0,none⟩) n n)
    refine rc 7 (λKK hK9=>?_)
    go_simp
    refine hK9.out _ _ (Cs.far hHeld (zdA _ _ _ _) ⟨by show w.heap.size≠g2;omega,by show w.heap.size≠g2;omega,by show w.heap.size+1≠g2;omega,trivial⟩) (λhHeld=>?_)
    clear hK9 KK
    refine rdn ?_
    clear hHeld sc0 sf0 sc1 sf1
    go_wp2
    go_meet
    exact⟨g1,g2,rfl,hne,hg1,hg2,Blk.far (p:=⟨g2,1,none⟩) (Blk.far (p:=⟨g2,0,none⟩) t2 hne _) hne _,sn2 u4 _ _,bl2 _ _ hg2 hbd⟩
  ·go_simp
   obtain⟨u1,u2,u3⟩:=zaD D2 28 #[.slice none 0 0,.int .i64 0]
   refine hK9.out _ _ (Cs.below hHeld u1) (λhHeld=>?_)
   clear hK9 KK
   have hg2:w2.heap.size<=D2.heap.size:=hbd.size
   have hbd:=zac hbd u1
   generalize D2.alloc (.cells #[.slice none 0 0,.int .i64 0] 28)=W4 at*
   generalize D2.heap.size=g2 at*
   refine rc 1 (λKK hK9=>?_)
   go_simp
   refine(HRA _).out.mono ?_
   rintro e W5 ⟨rfl,hb⟩
   refine hK9.out _ _ (Cs.below hHeld hb) (λhHeld=>?_)
   clear hK9 KK
   have hbd:=zac hbd hb
   have u2:=zad hb u2
   have u3:=Nat.le_trans u3 hb.size
   clear hb
   refine rc 2 (λKK hK9=>?_)
   go_simp
   obtain⟨t1,t2,t3⟩:=zaD W5 51 (madeCells zdx n)
   refine hK9.out _ _ (Cs.below hHeld t1) (λhHeld=>?_)
   clear hK9 KK
   have hg1:w2.heap.size<=W5.heap.size:=hbd.size
   have hne:W5.heap.size≠g2:=by omega
   have hbd:=zac hbd t1
   have u4:=zad t1 u2
   generalize W5.alloc (.cells (madeCells zdx n) 51)=W6 at*
   generalize W5.heap.size=g1 at*
   refine tk 5 ?_
   obtain⟨sc0,sf0,sc1,sf1⟩:=st2 u4 (.slice (some ⟨g1,0,none⟩) n n)
   refine rc 7 (λKK hK9=>?_)
   go_simp
   refine hK9.out _ _ (Cs.far hHeld (zdA _ _ _ _) ⟨by show w.heap.size≠g2;omega,by show w.heap.size≠g2;omega,by show w.heap.size+1≠g2;omega,trivial⟩) (λhHeld=>?_)
   clear hK9 KK
   refine rdn ?_
   clear hHeld sc0 sf0 sc1 sf1
   go_wp2
   go_meet
   exact⟨g1,g2,rfl,hne,hg1,hg2,Blk.far (p:=⟨g2,1,none⟩) (Blk.far (p:=⟨g2,0,none⟩) t2 hne _) hne _,sn2 u4 _ _,bl2 _ _ hg2 hbd⟩
 case rest=>
  obtain⟨g1,g2,rfl,hne,hg1,hg2,hk1,hk2,hb⟩:=hcut
  have hsz:=HK2.out.lt
  have hl7:=hk1.lt
  have hwr:w.heap.size<=w2.heap.size:=HB2.out.size
  have HB3:=lh9 (zac HB2.out hb)
  have HK3:=lh9 (zad hb HK2.out)
  have HKA3:=lh9 (zad hb HKA2.out)
  obtain⟨p0,p1⟩:=HKA3.out.c2
  obtain⟨q0,q1⟩:=(zad hb HKB2.out).c2
  have HR1:=lh9 hk1
  have HM2:=lh9 hk2
  clear hb hk1 hk2 HB2 HK2 HKA2 HKB2 HR HRA
  go_wp2_with fail
  refine(HCOL.out _ HB3.out).mono ?_
  rintro e w5 ⟨g5,rfl,hg5,ho5,hb⟩
  have HCR:=lh9 ho5.rows
  have hrow:zaZ (zas zan) w5 51 g1 n (zch [] M n 0):=by rw [zbH];exact zkT (zad hb HR1.out)
  have hB:=zac HB3.out hb
  have hk0:=zad hb HK3.out
  have hk2:=zad hb HM2.out
  have hBw:=Below.refl w5.heap.size w5
  obtain⟨p0,p1⟩:=(zad hb HKA3.out).c2
  have hl5:=hrow.lt
  have hl6:=hk2.lt
  clear hb ho5 q0 q1 HB3 HK3 HKA3 HR1 HM2
  go_wp2_with fail
  clear p0 p1
  go_loopg [27] (n+1) (λg ix wr=>∃(r:Nat),r<=n/\n<g+r/\ix=.int .i64 r/\zaZ (zas zan) wr 51 g1 n (zch [] M n r)/\zaH (zas zan) wr (some ⟨g5,0,none⟩) m (zbq k m MB)/\Below w.heap.size w wr/\Blk wr (w.heap.size+1+1) 28 #[.slice none 0 0,.int .i64 0]/\Blk wr g2 28 #[.slice (some ⟨g1,0,none⟩) n n,.int .i64 (m:Int)])
  case atStart=>exact⟨0,Nat.zero_le _,by omega,rfl,hrow,HCR.out,hB,hk0,hk2⟩
  case round=>
   clear hrow hB hk0 hk2 hBw HCR
   obtain⟨r,hrn,hg,rfl,hrow,hcr,hB,hk0,hk2⟩:=hrel
   by_cases hlt:r<n
   ·obtain⟨ad,Bq,dq,rfl,-,hc,hv⟩:=HMA.out.row hB hlt
    have hd1:decide ((r:Int)<(n:Int))=true:=decide_eq_true (by omega)
    have i2:(0:Int)<=(r:Int):=by omega
    have i3:(r:Int)<(n:Int):=by omega
    obtain⟨p0,p1⟩:=hk2.c2
    have hbd:=(Below.refl wr.heap.size wr).drew
    have HROW:=lh9 (hrow.below (zav zar) hbd)
    have HCR:=lh9 (hcr.below (zav zar) hbd)
    have HV:=lh9 (zaM.keep hv hbd)
    have HB1:=lh9 (zac hB hbd)
    have HK0:=lh9 (zad hbd hk0)
    have HK2:=lh9 (zad hbd hk2)
    have HGR:=lh9 (HGM.out r hlt)
    clear hrow hcr hv hB hk0 hk2 hbd
    go_wp2_with fail
    refine rg (csc p0 csn) (λhHeld=>?_)
    clear p0 p1 hc
    generalize wr.drew=D2 at*
    refine tk 0 ?_
    refine tk 1 ?_
    refine tk 2 ?_
    refine tk 3 ?_
    refine tk 4 ?_
    refine rc 5 (λKK hK9=>?_)
    go_simp
    (with_reducible refine(HDOT.out _ _ _ _ _ r hlt HB1.out HCR.out HV.out).mono ?_)
    rintro e w7 ⟨g7,rfl,hg7,ho7,hb⟩
    refine hK9.out _ _ (Cs.below hHeld hb) (λhHeld=>?_)
    clear hK9 KK
    have hr5:=HROW.out.below (zav zar) hb
    have hr6:=zaZ.set_ (zav zar) hr5 hlt (zbI ho7) (HLR.out _)
    rw [zbW [] M n r HLM.out hlt _ HGR.out] at hr6
    obtain⟨q0,sc0,sf0⟩:=hr5.ready hlt
    have hoff:zcI g1 w7 (w7.setCell ⟨g1,r,none⟩ (.slice (some ⟨g7,0,none⟩) m m)):=zcI.of_far ((zde.refl g1 w7).set_ r _)
    have hcr7:=HCR.out.below (zav zar) hb
    have hsl:∃cs,Blk w7 g1 51 cs/\∀u ∈ cs.toList,zbC u:=by obtain⟨cs,h1,h2,_⟩:=hr5.blk;exact⟨cs,h1,h2⟩
    have HR6:=lh9 hr6
    have HCR6:Hid (zaH (zas zan) (w7.setCell ⟨g1,r,none⟩ (.slice (some ⟨g7,0,none⟩) m m)) (some ⟨g5,0,none⟩) m (zbq k m MB)):=by
     obtain⟨cs,h1,h2⟩:=hsl
     exact hcr7.off (λad e=>by injection e with e;subst e;show g5≠g1;omega) hoff (λh3=>zmn zar h3 h1 h2 hoff)
    have HB6:=lh9 (zaf (p:=⟨g1,r,none⟩) (.slice (some ⟨g7,0,none⟩) m m) (show w.heap.size<=g1 by omega) (zac HB1.out hb))
    have HK06:=lh9 (Blk.far (p:=⟨g1,r,none⟩) (zad hb HK0.out) (by show w.heap.size+1+1≠g1;omega) (.slice (some ⟨g7,0,none⟩) m m))
    have HK26:=lh9 (Blk.far (p:=⟨g1,r,none⟩) (zad hb HK2.out) (by show g2≠g1;omega) (.slice (some ⟨g7,0,none⟩) m m))
    clear hb hr5 hr6 ho7 HROW HCR HB1 HK0 HK2 HV hcr7 hsl hoff
    refine tk 6 ?_
    refine rc 7 (λKK hK9=>?_)
    go_simp
    refine hK9.out _ _ ?_ (λhHeld=>?_)
    ·refine Cs.far hHeld ((zde.refl g1 _).set_ r _) ⟨?_,trivial⟩
     show g2≠g1
     omega
    clear hK9 KK
    refine rdn ?_
    clear hHeld sc0 sf0
    go_wp2
    go_roundg (n - r)
    case measure=>omega
    case rel=>exact⟨r+1,by omega,by omega,by go_num,HR6.out,HCR6.out,HB6.out,HK06.out,HK26.out⟩
   ·have hr:r=n:=by omega
    subst hr
    have hd1:decide ((r:Int)<(r:Int))=false:=by simp
    have HM:=lh9 (zgC (zbV [] M r HLM.out▸hrow) HDM.out hn hm)
    obtain⟨p0,p1⟩:=hk2.c2
    obtain⟨sc0,sf0,sc1,sf1⟩:=st2 hk0 (.slice (some ⟨g1,0,none⟩) r r)
    obtain⟨r0,r1⟩:=(sn2 hk0 (.slice (some ⟨g1,0,none⟩) r r) (.int .i64 (m:Int))).c2
    have HG:=lh9 (gmb2 HM.out (λad e=>by injection e with e;subst e;show w.heap.size+1+1<g1;omega) hk0 hB (by omega))
    clear hrow hcr hB hk0 hk2
    go_wp2
    refine bodyPost_ret (v:=.tuple #[.agg #[.slice (some ⟨g1,0,none⟩) r r,.int .i64 (m:Int)],.bool true]) (by simp [results,Tryz.results34,go_sem,r0,r1]) rfl ?_
    exact HG.out
end
theorem zgb {zs:List Int}(h:∀z ∈ zs,-9223372036854775808<=z/\z<=9223372036854775807):zay 1 (ofL zs):=λx hx=>by
 obtain⟨z,hz,rfl⟩:=List.mem_map.1 hx
 exact SzQ.whole (zeu (h z hz).1 (h z hz).2) (by decide)
theorem zdt (zs:List Int)(n:Nat)(hn:zs.length=n){w:World}{g:Nat}{t:TypeId}(h:Blk w g t (zs.map (Value.int .i64)).toArray)(hz:∀z ∈ zs,-9223372036854775808<=z/\z<=9223372036854775807):zeB w (some ⟨g,0,none⟩) n zs:=by
 subst hn
 exact⟨rfl,λi hi=>by
  rw [List.getD_eq_getElem?_getD,List.getElem?_eq_getElem hi]
  exact hz _ (List.getElem_mem hi),λi hi=>⟨_,rfl,by
  rw [zaO,h.cell,List.getD_eq_getElem?_getD,List.getElem?_eq_getElem hi]
  simp [hi]⟩⟩
theorem qc10:RatC zao (λ_=>False):=ratC (λ_ h=>h) (λh=>h.elim) (λh=>h.elim) (λh=>h.elim)
theorem zaV.below {W W':World}{A:oA9}{n c:Nat}{R:zhx}(h:zaV W A n c R)(hb:Below W.heap.size W W'):zaV W' A n c R:=⟨h.fits,h.small,λr hr=>by
 obtain⟨ad,e,h1,h2,h3⟩:=h.row r hr
 exact⟨ad,e,Nat.lt_of_lt_of_le h1 hb.size,zae hb h2,h3.below hb⟩⟩
theorem znE {w:World}{A:oA9}{n:Nat}{k:IntKind}{l:List Nat}{p:Addr}{B:oA9}{m d:Nat}(h:zau w w.heap.size 1 A n (zaw k l))(hp:w.cell? p=some (.slice B m d))(u:Value):zau (w.setCell p u) (w.setCell p u).heap.size 1 A n (zaw k l):=by
 refine⟨h.1,λhn=>?_⟩
 obtain⟨ad,e,hb,hc⟩:=h.2 hn
 refine⟨ad,e,by simpa using hb,λj v hv=>?_⟩
 have h0:=hc j v hv
 rw [World.cell?_setCell_other w p (ad.add j) u (λe2=>?_)]
 ·exact h0
 ·have hm:=List.mem_of_getElem? hv
  unfold zaw at hm
  obtain⟨z,_,rfl⟩:=List.mem_map.1 hm
  first
   |rw [e2,hp] at h0;cases h0
   |rw [<-e2,hp] at h0;cases h0
theorem zii {w:World}{x:Nat}{A:oA9}{n c:Nat}{p:Addr}{B:oA9}{m d:Nat}(h:zak w x A n c)(hp:w.cell? p=some (.slice B m d))(u:Value):zak (w.setCell p u) x A n c:=⟨znE h.1 hp u,h.2⟩
theorem zpH {w:World}{p:Addr}{B:oA9}{m d:Nat}{r:Rat}{b:Bool}{A:oA9}{n c:Nat}{E:oA9}{k f:Nat}(h:zbF w r b A n c E k f)(hp:w.cell? p=some (.slice B m d))(u:Value):zbF (w.setCell p u) r b A n c E k f:=⟨⟨h.1.1,zii h.1.2 hp u⟩,zii h.2 hp u⟩
theorem zdv {w:World}{A:oA9}{n c:Nat}{xs:List Rat}{g i:Nat}{t:TypeId}{cs:Array Value}{B:oA9}{m d:Nat}(h:zbw w A n c xs)(hk:Blk w g t cs)(hs:∀u ∈ cs.toList,∀b,u≠.bool b)(hp:w.cell? ⟨g,i,none⟩=some (.slice B m d))(u:Value):zbw (w.setCell ⟨g,i,none⟩ u) A n c xs:=
 zhH h hk hs (zcI.of_far ((zde.refl g w).set_ i u)) (λh5=>zpH h5 hp u)
theorem zpd {w:World}{x:Nat}{A:oA9}{n c f:Nat}{t:TypeId}(h:zak w x A n c)(k:Blk w f t #[.slice none 0 0,.int .i64 0])(hn:0<n):∀ad,A=some ad->ad.block≠f:=by
 intro ad e hf
 obtain⟨ad',e',_,hc⟩:=zbr h.1 (k:=n - 1) (by omega)
 rw [e] at e'
 injection e' with e'
 subst e'
 have hm:Value.int .i64 (((dg 65536 x).getD (n - 1) 0:Nat):Int)∈(#[.slice none 0 0,.int .i64 0]:Array Value).toList:=by
  have hb:(ad.add (n - 1)).block=f:=by rw [zap];exact hf
  generalize ad.add (n - 1)=q at hb hc
  obtain⟨bk,off,pr⟩:=q
  simp only at hb
  subst hb
  unfold Blk at k
  cases pr with
  |none=>
    rw [show w.cell? ⟨bk,off,none⟩=_ from cell_of_row w bk off _ t (0,0) k,<-Array.getElem?_toList] at hc
    exact List.mem_of_getElem? hc
  |some q=>simp [World.cell?,k] at hc
 have hx:x≠0:=λhx=>by have:=zie h hx;omega
 have hl:=h.len
 have hv:=zcO (b:=65536) (by decide) x
 have hg:=(zhj (b:=65536) (by decide) x hx).2
 have ht:=zaI 65536 (dg 65536 x) (n - 1)
 have hd:=zcv (b:=65536) (l:=(dg 65536 x).take (n - 1)) (λd hd=>zcg (by decide) x d (List.mem_of_mem_take hd))
 rw [List.length_take,<-hl,Nat.min_eq_left (by omega)] at hd
 rw [show n - 1+1=n by omega,List.take_of_length_le (by omega),hv] at ht
 rw [<-hl] at hg
 have hz:(dg 65536 x).getD (n - 1) 0=0:=by
  simp only [List.mem_cons,List.not_mem_nil,or_false] at hm
  rcases hm with hm|hm
  ·cases hm
  ·injection hm with _ hm;omega
 rw [hz,Nat.mul_zero] at ht
 omega
theorem zif {w w':World}{x:Nat}{A:oA9}{n c f:Nat}{t:TypeId}(h:zak w x A n c)(k:Blk w f t #[.slice none 0 0,.int .i64 0])(ho:zde f w w'):zak w' x A n c:=by
 have hne:=zpd h k
 refine⟨⟨h.1.1,λhn=>?_⟩,h.2⟩
 obtain⟨ad,e,hb,hc⟩:=h.1.2 hn
 refine⟨ad,e,by rw [ho.1];exact hb,λj v hv=>?_⟩
 rw [ho.2 (ad.add j) (by rw [zap];exact hne hn ad e)]
 exact hc j v hv
theorem zpG {w w':World}{r:Rat}{b:Bool}{A:oA9}{n c:Nat}{E:oA9}{u v f:Nat}{t:TypeId}(h:zbF w r b A n c E u v)(k:Blk w f t #[.slice none 0 0,.int .i64 0])(ho:zde f w w'):zbF w' r b A n c E u v:=⟨⟨h.1.1,zif h.1.2 k ho⟩,zif h.2 k ho⟩
theorem ref_offz {w:World}{A:oA9}{n c g:Nat}{xs:List Rat}{t:TypeId}(h:zbw w A n c xs)(hk:Blk w g t #[.slice none 0 0,.int .i64 0])(x y:Value):zbw ((w.setCell ⟨g,0,none⟩ x).setCell ⟨g,1,none⟩ y) A n c xs:=
 zhH h hk (zbD _ _ _ _) (zcI.of_far (zdA _ _ _ _)) (λh5=>zpG h5 hk (zdA _ _ _ _))
theorem zbe.slot {α:Type}{R:RP α}{w:World}{base:Nat}{t:TypeId}{v:Value}{Ls:List (List α)}{vs:List Value}{g i:Nat}{u:Value}(h:zbe R w base t v Ls vs)(hg:g<base)(hR2:∀{B:oA9}{m d:Nat}{L:List α},R w B m d L->R (w.setCell ⟨g,i,none⟩ u) B m d L):zbe R (w.setCell ⟨g,i,none⟩ u) base t v Ls vs:=by
 refine⟨⟨h.own.1,?_⟩,h.sl.block (λg' e=>Below.heap_setCell _ _ _ _ ?_),λj L hj=>?_⟩
 ·rcases h.own.2 with h1|⟨g',cap,cur,e1,e2,e3,e4⟩
  ·exact .inl h1
  ·exact .inr ⟨g',cap,cur,e1,e2,(Below.heap_setCell w ⟨g,i,none⟩ u g' (by show g'≠g;omega)).trans e3,e4⟩
 ·have:=(h.own.lt g' e).1
  show g'≠g
  omega
 ·obtain⟨B,d,hv,hw⟩:=h.num j L hj
  exact⟨B,d,hv,hR2 hw⟩
structure zbL (w:World)(A:oA9)(n c m:Nat)(M:List (List Rat)):Prop where
 dims:zcT M n m
 fits:n<=c
 most:c<=9223372036854775807
 hn:n<=64
 hm:m<=64
 rows:zaH (zas zbF) w A n M
 ty:∀ad,A=some ad->TyAt w ad.block 55
theorem zbL.keep {w w':World}{A:oA9}{n c m:Nat}{M:List (List Rat)}(h:zbL w A n c m M)(hb:Below w.heap.size w w'):zbL w' A n c m M:={h with rows:=h.rows.below (zav zai) hb,ty:=λad e=>(h.ty ad e).below hb}
theorem zbL.nil (w:World)(m:Nat)(h:m<=64):zbL w none 0 0 m []:=⟨zls m,Nat.le_refl _,by decide,by decide,h,zaH.nil w none,λad e=>by cases e⟩
theorem zbL.offz {w:World}{A:oA9}{n c m g:Nat}{M:List (List Rat)}{t:TypeId}(h:zbL w A n c m M)(hk:Blk w g t #[.slice none 0 0,.int .i64 0])(x y:Value)(ht:55≠t:=by decide):zbL ((w.setCell ⟨g,0,none⟩ x).setCell ⟨g,1,none⟩ y) A n c m M:=
 { h with
  rows:=h.rows.off (λad e=>(h.ty ad e).ne hk ht) (zcI.of_far (zdA _ _ _ _)) (λh3=>ref_offz h3 hk x y)
  ty:=λad e=>((h.ty ad e).set_ _ _ _).set_ _ _ _}
theorem zbL.slot {w:World}{A:oA9}{n c m g:Nat}{M:List (List Rat)}{t:TypeId}{B:oA9}{p q:Nat}{z:Int}(h:zbL w A n c m M)(hk:Blk w g t #[.slice B p q,.int .i64 z])(u:Value)(ht:55≠t:=by decide):zbL (w.setCell ⟨g,0,none⟩ u) A n c m M:=
 { h with
  rows:=h.rows.off (λad e=>(h.ty ad e).ne hk ht) (zcI.of_far (zbP _ _ _)) (λh3=>zdv h3 hk (zbD _ _ _ _) (hk.cell 0) u)
  ty:=λad e=>(h.ty ad e).set_ _ _ _}
theorem zbL.row {w wr:World}{A:oA9}{n c m:Nat}{M:List (List Rat)}(h:zbL w A n c m M)(hb:Below w.heap.size w wr){i:Nat}(hi:i<n):∃(ad:Addr) (B:oA9) (d:Nat),A=some ad/\ad.block<w.heap.size/\wr.cell? (ad.add i)=some (.slice B m d)/\zbw wr B m d (M.getD i []):=
 h.rows.get (zav zai) hb hi (h.dims.row hi)
theorem zbL.place {w wr:World}{A:oA9}{n c m:Nat}{M:List (List Rat)}(h:zbL w A n c m M)(hb:Below w.heap.size w wr){i j:Nat}(hi:i<n)(hj:j<m):∃(ad:Addr) (B:oA9) (d:Nat),A=some ad/\ad.block<w.heap.size/\wr.cell? (ad.add i)=some (.slice B m d)/\
  ∃(ae:Addr) (b1:Bool) (B1:oA9) (m1 d1:Nat) (E1:oA9) (u1 v1:Nat),B=some ae/\ae.block<wr.heap.size/\wr.cell? (ae.add (j*3))=some (.bool b1)/\wr.cell? ⟨(ae.add (j*3)).block,(ae.add (j*3)).off+1,none⟩=some (.slice B1 m1 d1)/\wr.cell? ⟨(ae.add (j*3)).block,(ae.add (j*3)).off+2,none⟩=some (.slice E1 u1 v1)/\zbF wr (atM M i j) b1 B1 m1 d1 E1 u1 v1:=by
 obtain⟨ad,B,d,e,h1,h2,h3⟩:=h.row hb hi
 obtain⟨ae,b1,B1,m1,d1,E1,u1,v1,e4,h4,h5,h6,h7,h8⟩:=h3.get (Below.refl _ _) hj
 exact⟨ad,B,d,e,h1,h2,ae,b1,B1,m1,d1,E1,u1,v1,e4,h4,h5,h6,h7,h8⟩
theorem zbe.refm {w:World}{base n m:Nat}{v:Value}{M:List (List Rat)}{vs:List Value}(h:zbe (zas zbF) w base 55 v M vs)(hd:zcT M n m)(hn:n<=64)(hm:m<=64):∃A c,v=.slice A n c/\zbL w A n c m M:=by
 obtain⟨A,c,rfl,h1,h2,h3,h4⟩:=h.shape hd.rows
 refine⟨A,c,rfl,hd,h1,h2,hn,hm,h3,λad e=>?_⟩
 subst e
 rcases h.own.2 with⟨e1,h0⟩|⟨g,cap,cur,e1,e2,e3,e4⟩
 ·cases e1
 ·injection e1 with e1 _ _
  injection e1 with e1
  subst e1
  exact⟨cur,e3⟩
def zdm (w:World)(n m:Nat)(M:List (List Rat))(e:Ending)(w':World):Prop:=∃(A:oA9) (c:Nat),e=.returned (.agg #[.slice A n c,.int .i64 (m:Int)])/\zbL w' A n c m M/\Below w.heap.size w w'
theorem grm2 {w W:World}{A:oA9}{n c m g:Nat}{M:List (List Rat)}(h:zbL W A n c m M)(k:Blk W g 32 #[.slice none 0 0,.int .i64 0])(hB:Below w.heap.size w W)(hg:w.heap.size<=g):
  zdm w n m M (.returned (.agg #[.slice A n c,.int .i64 (m:Int)])) ((W.setCell ⟨g,0,none⟩ (.slice A n c)).setCell ⟨g,1,none⟩ (.int .i64 (m:Int))):=
 ⟨A,c,rfl,h.offz k _ _,bl2 _ _ hg hB⟩
theorem zik:(Tryz.prog.info? 55).map (λi=>(i.zero,i.size,i.bytes))=some (some (.slice none 0 0),1,24):=by kernel_rfl
theorem zdL {α:Type}{L:List α}{k:Nat}{x:α}(h:L[k]?=some x):L.take (k+1)=L.take k++[x]:=by
 have hlt:=(List.getElem?_eq_some_iff.1 h).1
 rw [List.take_succ_eq_append_getElem hlt]
 congr 1
 rw [List.getElem?_eq_getElem hlt] at h
 injection h with h
 rw [h]
theorem colM_get {n k c:Nat}{M:List (List Rat)}(h:k<n):(zcS n M c)[k]?=some (atM M k c):=by
 unfold zcS
 rw [List.getElem?_map,List.getElem?_range h];rfl
theorem ziQ {A:oA9}{n c m j:Nat}{M:List (List Rat)}{w:World}(h:zbL w A n c m M)(hj:j<m):
  Calls Tryz.prog 23 #[.agg #[.slice A n c,.int .i64 (m:Int)],.int .i64 (j:Int)] w (zgl w n (zcS n M j)):=by
 obtain⟨i1',hi1,hz10,hz11,hz12⟩:=info_parts zhE
 have hn0:n<=64:=h.hn
 have hm0:m<=64:=h.hm
 have HS:Hid (∀k,k<n->(zcS n M j).take (k+1)=(zcS n M j).take k++[atM M k j]):=λk hk=>zdL (colM_get hk)
 have HL:Hid ((zcS n M j).length=n):=zdr n M j
 obtain⟨C,hC⟩:∃C,zcS n M j=C:=⟨_,rfl⟩
 rw [hC] at HS HL⊢
 obtain⟨bx1,bx2,bz⟩:=zaD w 32 #[.slice A n c,.int .i64 (m:Int)]
 have HM:=lh9 (h.keep bx1)
 obtain⟨g0,g1⟩:=bx2.c2
 have HB0:=lh9 bx1
 have HK:=lh9 bx2
 have i3:(0:Int)<=(j:Int):=by omega
 have i4:(j:Int)<(m:Int):=by omega
 unfold zgl
 clear h hC bx1 bx2 bz
 go_enter Tryz.func23,Tryz.ntmps23
 go_wp2_with fail
 generalize w.alloc (.cells #[.slice A n c,.int .i64 (m:Int)] 32)=W1 at*
 have hB:=Below.refl W1.heap.size W1
 clear g0 g1
 go_loopg [5,6] (n+1) (λg sl ix wr=>∃(k:Nat) (v:Value) (vs:List Value),k<=n/\n<g+k/\ix=.int .i64 k/\v=sl/\zcw zbF wr W1.heap.size 94 v (C.take k) vs/\Below W1.heap.size W1 wr)
 case atStart=>exact⟨0,_,_,Nat.zero_le _,by omega,rfl,rfl,zcw.nil _ _ _,hB⟩
 case round=>
  clear hB
  obtain⟨k,v,vs,hkn,hg,rfl,rfl,hon,hB⟩:=hrel
  obtain⟨g0,g1⟩:=(zad hB HK.out).c2
  by_cases hlt:k<n
  ·obtain⟨ad,B,d,rfl,-,hc0,ae,b1,B1,m1,d1,E1,u1,v1,rfl,-,hc1,hc2,hc3,hq⟩:=HM.out.place hB hlt hj
   have HSK:=lh9 (HS.out k hlt)
   have hd1:decide ((k:Int)<(n:Int))=true:=decide_eq_true (by omega)
   have hd1':decide (k<n)=true:=decide_eq_true hlt
   have i1:(0:Int)<=(k:Int):=by omega
   have i2:(k:Int)<(n:Int):=by omega
   have hlq:(C.take k).length=k:=by rw [List.length_take,HL.out];omega
   have HLQ:=lh9 hlq
   obtain⟨t1,t2,-⟩:=zaD wr 94 #[.bool b1,.slice B1 m1 d1,.slice E1 u1 v1]
   have hon1:=zcw.below zai hon t1
   have HX:=lh9 (zbF.below hq t1)
   have HB:=lh9 (zac hB t1)
   have HCELL:=lh9 (zeJ t2)
   have HONE:=lh9 (zgy b1 B1 E1 m1 d1 u1 v1)
   have HNN:=lh9 (zgx b1 B1 E1 m1 d1 u1 v1)
   have HZN:=lh9 zfI
   have HBS:=lh9 HB.out.size
   have hown:=hon1.own
   rw [HLQ.out] at hown
   have HOWN:=lh9 hown
   have HNOU:=lh9 hon1.nou
   have HOB:=lh9 (λr (h:v.ownBlock=some r)=>hon1.own.lt r h)
   have HON:=lh9 hon1
   clear hon hon1 hq hB t1 t2 hown hlq
   go_upto_region 5 with fail
   go_wp2_with (at_builtin;go_loud (refine zdc _ rfl (.tmp 14) (.tmp 23) 55 rfl W1.heap.size 94 i1' (.agg #[.bool false,.slice none 0 0,.slice none 0 0]) 3 56 Tryz.underlying55 hi1 hz10 hz11 hz12 rfl (by decide) v k vs rfl HOWN.out ⟨wr.heap.size,0,none⟩ 1 1 [.bool b1,.slice B1 m1 d1,.slice E1 u1 v1] rfl rfl HCELL.out HONE.out (by unfold maxLen;omega) (by omega) HBS.out HNOU.out HZN.out HNN.out ?_;intro v' w8 hown' hgrow hat hnou';have HON8:=lh9 (zcw.grow (n:=k+1) zai HON.out HX.out hown' (by rw [HLQ.out]) hgrow hnou');have HB8:=lh9 (HB.out.grown hgrow HBS.out (λr hr=>(HOB.out r hr).1));clear hown' hgrow hat hnou'))
   rw [<-HSK.out] at HON8
   go_roundg (n - k)
   case measure=>omega
   case rel=>exact⟨k+1,_,_,by omega,by omega,by go_num,rfl,HON8.out,HB8.out⟩
  ·have hk:k=n:=by omega
   subst hk
   have hd1:decide ((k:Int)<(k:Int))=false:=by simp
   have hd1':decide (k<k)=false:=by simp
   rw [List.take_of_length_le (by rw [HL.out];exact Nat.le_refl _)] at hon
   obtain⟨A1,c1,rfl,hv,hf⟩:=hon.shape
   rw [HL.out] at hv⊢
   have HV:=lh9 hv
   have HB1:=lh9 (zac HB0.out hB)
   clear hon hv hB hf
   go_wp2
   go_ret
   exact⟨A1,c1,rfl,HV.out,HB1.out⟩
def CondM (ok:Bool)(w:World)(A:oA9)(n c:Nat)(z:Int)(N m:Nat)(M:List (List Rat)):Prop:=ok=true->N=n/\(m:Int)=z/\zaE w A N c m M
theorem CondM.keep {ok:Bool}{w w':World}{A:oA9}{n c:Nat}{z:Int}{N m:Nat}{M:List (List Rat)}(h:CondM ok w A n c z N m M)(hb:Below w.heap.size w w'):CondM ok w' A n c z N m M:=λe=>⟨(h e).1,(h e).2.1,(h e).2.2.keep hb⟩
def zlg (ok:Bool)(w:World)(A:oA9)(n c N:Nat)(xs:List Rat):Prop:=ok=true->N=n/\zaM w A N c xs
theorem zlg.keep {ok:Bool}{w w':World}{A:oA9}{n c N:Nat}{xs:List Rat}(h:zlg ok w A n c N xs)(hb:Below w.heap.size w w'):zlg ok w' A n c N xs:=λe=>⟨(h e).1,(h e).2.keep hb⟩
theorem zkn {a b:Nat}{ok:Bool}(h:decide (a=b)=ok):((a:Int)==(b:Int))=ok:=by
 subst h
 by_cases q:a=b
 ·rw [decide_eq_true q,beq_iff_eq];omega
 ·rw [decide_eq_false q,beq_eq_false_iff_ne];omega
theorem bne_b (b:Bool):(b !=b)=false:=by cases b<;>rfl
theorem znn (b:Bool):(!(b==b))=false:=by cases b<;>rfl
