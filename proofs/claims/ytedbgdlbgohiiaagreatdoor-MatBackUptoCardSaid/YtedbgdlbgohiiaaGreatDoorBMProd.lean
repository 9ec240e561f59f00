/- What this claim leans on. -/
import Derived.Test.YtedbgdlbgohiiaaGreatDoorBMMade
namespace Go.Proofs.YtedbgdlbgohiiaaGreatDoor
open Go Go.RowKit
set_option maxHeartbeats 16000000
set_option maxRecDepth 100000
set_option linter.unusedVariables false
set_option linter.unusedSimpArgs false
theorem zjm {w : World} {g n : Nat} {t : TypeId} (hk : Blk w g t (madeCells zcJ n)) : zaO (zaH zai) w t g n (List.replicate n []):=by
 refine ⟨by simp,⟨_,hk,zkI _,size_madeCells _ _⟩,fun i x hi => ?_⟩
 have hlt : i < n:=by
  have:=(List.getElem?_eq_some_iff.1 hi).1
  simpa using this
 obtain rfl : [] = x:=by
  rw [List.getElem?_replicate,if_pos hlt] at hi
  injection hi
 refine ⟨none,0,?_,zaH.nil _⟩
 rw [hk.cell,zbd _ _ _ hlt,show zcJ.size = 1 from rfl,Nat.mod_one]
 rfl
theorem zlm (n : Nat) (hn : n ≤ 1099511627776) (W : World) : (Instr.makeSlice 26 (.int .i64 (n : Int)) (.int .i64 (n : Int))).run Tryz.prog W = .ok (.slice (some ⟨W.heap.size,0,none⟩) n n) (W.alloc (.cells (madeCells zcJ n) 51)):=by
 obtain ⟨i0,hi0,hz0,hz1,hz2⟩:=info_parts zdl
 have h:=zaM (P:=Tryz.prog) _ _ i0 _ Tryz.underlying26 hi0 hz0 .i64 .i64 n n (Nat.le_refl _) (by rw [hz2]; omega) (by omega) W
 rw [hz1,Nat.mul_one] at h
 exact h
section
variable {A B : oA9} {n c k k' d m K K' : Nat} {MA MB : List (List Rat)} {w : World}
theorem mulM_get {r : Nat} (hr : r < n) : (zgd n k m MA MB)[r]? = some (zbx (zbN k m MB) (MA.getD r [])):=by
 rw [zlU]
 exact zhH _ hr
theorem mat_mul (hT : zaj w) (hA : zat w A n c k MA) (hB : zat w B k d m MB) (z : zau K MA) (z' : zau K' MB) (hK : K ≤ 67108864:=by omega) (hK' : K' ≤ 67108864:=by omega) (hS : 1 + k * (K' + K + 1) ≤ 67108864:=by omega) :
  Calls Tryz.prog 35 #[.agg #[.slice A n c,.int .i64 (k : Int)],.agg #[.slice B k d,.int .i64 (m : Int)]] w (zbq w n m (zgd n k m MA MB)):=by
 obtain ⟨hn,hk⟩:=And.intro hA.hn hA.hm
 have hm:=hB.hm
 have e0 : ((k : Int) != (k : Int)) = false:=by simp
 have HR:=fun W => lh9 (zaW B k d (m : Int) W)
 have HRA:=fun W => lh9 (zaW A n c (k : Int) W)
 have HT:=lh9 (fun w' (hb : Below w.heap.size w w') => hT.on hb)
 have HMA:=lh9 hA
 have HCOL:=lh9 (fun W (hb : Below w.heap.size w W) => zgo (hB.keep hb))
 have HDOT:=lh9 (fun W (Q V : oA9) (q e : Nat) (r : Nat) (hr9 : r < n) (hb : Below w.heap.size w W) (hr : zaE (zaH zai) W Q m (zbN k m MB)) (hv : zaD W V k e (MA.getD r [])) => zhh (q:=q) (hT.on hb) hr (zeF k m MB).cols hv (z'.turn hB.dims) (z.row (i:=r) (by rw [hA.dims.rows]; exact hr9)) hm hk hK' hK hS)
 have HLM : Hid ((zgd n k m MA MB).length = n):=zfP _ _ _
 have HGM : Hid (∀ r,r < n → (zgd n k m MA MB)[r]? = some (zbx (zbN k m MB) (MA.getD r []))):=fun r hr => mulM_get hr
 have HLR : Hid (∀ v,(zbx (zbN k m MB) v).length = m):=fun v => by rw [zhJ]; exact zfP _ _ _
 have HDM:=lh9 (ziq n k m MA MB)
 obtain ⟨M,hM⟩ : ∃ M,zgd n k m MA MB = M:=⟨_,rfl⟩
 rw [hM] at HLM HGM HDM ⊢
 have hmk:=zlm n (by omega)
 obtain ⟨bx1,bx2,bx3,bx4,bz⟩:=zbh w 28 28 28 #[.slice A n c,.int .i64 (k : Int)] #[.slice B k d,.int .i64 (m : Int)] #[.slice none 0 0,.int .i64 0]
 obtain ⟨p0,p1⟩:=bx2.c2
 obtain ⟨q0,q1⟩:=bx3.c2
 have HB:=lh9 bx1
 have HK:=lh9 bx4
 have HKA:=lh9 bx2
 have HKB:=lh9 bx3
 have i0 : (0 : Int) ≤ (n : Int):=by omega
 clear hT hA hB z z' hM bx1 bx2 bx3 bx4 bz hS hK hK'
 go_enter Tryz.func35,Tryz.ntmps35
 go_wp2_with fail
 generalize ((w.alloc (.cells #[.slice A n c,.int .i64 (k : Int)] 28)).alloc (.cells #[.slice B k d,.int .i64 (m : Int)] 28)).alloc (.cells #[.slice none 0 0,.int .i64 0] 28) = W1 at *
 have hbd:=(Below.refl W1.heap.size W1).drew
 refine rg (csc p1 (csc q0 (csc q1 csn))) (fun hHeld => ?_)
 clear p0 p1 q0 q1
 have HB:=lh9 (zaa HB.out hbd)
 have HK:=lh9 (zac hbd HK.out)
 have HKA:=lh9 (zac hbd HKA.out)
 have HKB:=lh9 (zac hbd HKB.out)
 clear hbd
 generalize W1.drew = D at *
 refine tk 0 ?_
 refine tk 1 ?_
 refine tk 2 ?_
 refine rc 3 (fun KK hK9 => ?_)
 go_simp
 refine (HR _).out.mono ?_
 rintro e w2 ⟨rfl,hb⟩
 refine hK9.out _ _ (Cs.below hHeld hb) (fun hHeld => ?_)
 clear hK9 KK
 have HB2:=lh9 (zaa HB.out hb)
 have HK2:=lh9 (zac hb HK.out)
 have HKA2:=lh9 (zac hb HKA.out)
 have HKB2:=lh9 (zac hb HKB.out)
 clear hb HB HK HKA HKB
 refine tk 4 ?_
 refine rdn ?_
 clear hHeld
 go_upto_region 3 with fail
 go_cut [6,16,17,18,19,20,21] (fun s6 s16 s17 s18 s19 s20 s21 wx => ∃ g1 g2 : Nat,s6 = .pointer (some ⟨g2,0,none⟩) ∧ g1 ≠ g2 ∧ w2.heap.size ≤ g1 ∧ w2.heap.size ≤ g2 ∧ Blk wx g1 51 (madeCells zcJ n) ∧ Blk wx g2 28 #[.slice (some ⟨g1,0,none⟩) n n,.int .i64 (m : Int)] ∧ Below w2.heap.size w2 wx)
 case first =>
  obtain ⟨p0,p1⟩:=HKA2.out.c2
  obtain ⟨q0,q1⟩:=HKB2.out.c2
  have hl1:=HKA2.out.lt
  have hl2:=HKB2.out.lt
  have hbd:=(Below.refl w2.heap.size w2).drew
  refine rg (csc p0 (csc p1 (csc q1 csn))) (fun hHeld => ?_)
  clear p0 p1 q0 q1 HKA2 HKB2 HK2 HB2 HMA HCOL HDOT HT
  generalize w2.drew = D2 at *
  refine tk 0 ?_
  refine tk 3 ?_
  refine tk 4 ?_
  refine rcb 1 6 (fun KK hK9 => ?_) (fun KK hK9 => ?_)
  ·go_simp
   refine (HRA _).out.mono ?_
   rintro e w4 ⟨rfl,hb⟩
   refine hK9.out _ _ (Cs.below hHeld hb) (fun hHeld => ?_)
   clear hK9 KK
   have hbd:=zaa hbd hb
   clear hb
   refine rcb 2 6 (fun KK hK9 => ?_) (fun KK hK9 => ?_)
   ·go_simp
    obtain ⟨t1,t2,t3⟩:=zaC w4 51 (madeCells zcJ n)
    refine hK9.out _ _ (Cs.below hHeld t1) (fun hHeld => ?_)
    clear hK9 KK
    have hg1 : w2.heap.size ≤ w4.heap.size:=hbd.size
    have hbd:=zaa hbd t1
    generalize w4.alloc (.cells (madeCells zcJ n) 51) = W5 at *
    generalize w4.heap.size = g1 at *
    refine tk 5 ?_
    refine rc 6 (fun KK hK9 => ?_)
    go_simp
    obtain ⟨u1,u2,u3⟩:=zaC W5 28 #[.slice none 0 0,.int .i64 0]
    refine hK9.out _ _ (Cs.below hHeld u1) (fun hHeld => ?_)
    clear hK9 KK
    have hg2 : w2.heap.size ≤ W5.heap.size:=hbd.size
    have hne : g1 ≠ W5.heap.size:=by omega
    have hbd:=zaa hbd u1
    have t4:=zac u1 t2
    generalize W5.alloc (.cells #[.slice none 0 0,.int .i64 0] 28) = W6 at *
    generalize W5.heap.size = g2 at *
    obtain ⟨sc0,sf0,sc1,sf1⟩:=st2 u2 (.slice (some ⟨g1,0,none⟩) n n)
    refine rc 7 (fun KK hK9 => ?_)
    go_simp
    refine hK9.out _ _ (Cs.far hHeld (zdf _ _ _ _) ⟨by show w.heap.size ≠ g2; omega,by show w.heap.size ≠ g2; omega,by show w.heap.size + 1 ≠ g2; omega,trivial⟩) (fun hHeld => ?_)
    clear hK9 KK
    refine rdn ?_
    clear hHeld sc0 sf0 sc1 sf1
    go_wp2
    go_meet
    exact ⟨g1,g2,rfl,hne,hg1,hg2,Blk.far (p:=⟨g2,1,none⟩) (Blk.far (p:=⟨g2,0,none⟩) t4 hne _) hne _,sn2 u2 _ _,bl2 _ _ hg2 hbd⟩
   ·go_simp
    obtain ⟨u1,u2,u3⟩:=zaC w4 28 #[.slice none 0 0,.int .i64 0]
    refine hK9.out _ _ (Cs.below hHeld u1) (fun hHeld => ?_)
    clear hK9 KK
    have hg2 : w2.heap.size ≤ w4.heap.size:=hbd.size
    have hbd:=zaa hbd u1
    generalize w4.alloc (.cells #[.slice none 0 0,.int .i64 0] 28) = W5 at *
    generalize w4.heap.size = g2 at *
    refine rc 2 (fun KK hK9 => ?_)
    go_simp
    obtain ⟨t1,t2,t3⟩:=zaC W5 51 (madeCells zcJ n)
    refine hK9.out _ _ (Cs.below hHeld t1) (fun hHeld => ?_)
    clear hK9 KK
    have hg1 : w2.heap.size ≤ W5.heap.size:=hbd.size
    have hne : W5.heap.size ≠ g2:=by omega
    have hbd:=zaa hbd t1
    have u4:=zac t1 u2
    generalize W5.alloc (.cells (madeCells zcJ n) 51) = W6 at *
    generalize W5.heap.size = g1 at *
    refine tk 5 ?_
    obtain ⟨sc0,sf0,sc1,sf1⟩:=st2 u4 (.slice (some ⟨g1,0,none⟩) n n)
    refine rc 7 (fun KK hK9 => ?_)
    go_simp
    refine hK9.out _ _ (Cs.far hHeld (zdf _ _ _ _) ⟨by show w.heap.size ≠ g2; omega,by show w.heap.size ≠ g2; omega,by show w.heap.size + 1 ≠ g2; omega,trivial⟩) (fun hHeld => ?_)
    clear hK9 KK
    refine rdn ?_
    clear hHeld sc0 sf0 sc1 sf1
    go_wp2
    go_meet
    exact ⟨g1,g2,rfl,hne,hg1,hg2,Blk.far (p:=⟨g2,1,none⟩) (Blk.far (p:=⟨g2,0,none⟩) t2 hne _) hne _,sn2 u4 _ _,bl2 _ _ hg2 hbd⟩
  ·go_simp
   obtain ⟨u1,u2,u3⟩:=zaC D2 28 #[.slice none 0 0,.int .i64 0]
   refine hK9.out _ _ (Cs.below hHeld u1) (fun hHeld => ?_)
   clear hK9 KK
   have hg2 : w2.heap.size ≤ D2.heap.size:=hbd.size
   have hbd:=zaa hbd u1
   generalize D2.alloc (.cells #[.slice none 0 0,.int .i64 0] 28) = W4 at *
   generalize D2.heap.size = g2 at *
   refine rc 1 (fun KK hK9 => ?_)
   go_simp
   refine (HRA _).out.mono ?_
   rintro e W5 ⟨rfl,hb⟩
   refine hK9.out _ _ (Cs.below hHeld hb) (fun hHeld => ?_)
   clear hK9 KK
   have hbd:=zaa hbd hb
   have u2:=zac hb u2
   have u3:=Nat.le_trans u3 hb.size
   clear hb
   refine rc 2 (fun KK hK9 => ?_)
   go_simp
   obtain ⟨t1,t2,t3⟩:=zaC W5 51 (madeCells zcJ n)
   refine hK9.out _ _ (Cs.below hHeld t1) (fun hHeld => ?_)
   clear hK9 KK
   have hg1 : w2.heap.size ≤ W5.heap.size:=hbd.size
   have hne : W5.heap.size ≠ g2:=by omega
   have hbd:=zaa hbd t1
   have u4:=zac t1 u2
   generalize W5.alloc (.cells (madeCells zcJ n) 51) = W6 at *
   generalize W5.heap.size = g1 at *
   refine tk 5 ?_
   obtain ⟨sc0,sf0,sc1,sf1⟩:=st2 u4 (.slice (some ⟨g1,0,none⟩) n n)
   refine rc 7 (fun KK hK9 => ?_)
   go_simp
   refine hK9.out _ _ (Cs.far hHeld (zdf _ _ _ _) ⟨by show w.heap.size ≠ g2; omega,by show w.heap.size ≠ g2; omega,by show w.heap.size + 1 ≠ g2; omega,trivial⟩) (fun hHeld => ?_)
   clear hK9 KK
   refine rdn ?_
   clear hHeld sc0 sf0 sc1 sf1
   go_wp2
   go_meet
   exact ⟨g1,g2,rfl,hne,hg1,hg2,Blk.far (p:=⟨g2,1,none⟩) (Blk.far (p:=⟨g2,0,none⟩) t2 hne _) hne _,sn2 u4 _ _,bl2 _ _ hg2 hbd⟩
 case rest =>
  obtain ⟨g1,g2,rfl,hne,hg1,hg2,hk1,hk2,hb⟩:=hcut
  have hsz:=HK2.out.lt
  have hl7:=hk1.lt
  have hwr : w.heap.size ≤ w2.heap.size:=HB2.out.size
  have HB3:=lh9 (zaa HB2.out hb)
  have HK3:=lh9 (zac hb HK2.out)
  have HKA3:=lh9 (zac hb HKA2.out)
  obtain ⟨p0,p1⟩:=HKA3.out.c2
  obtain ⟨q0,q1⟩:=(zac hb HKB2.out).c2
  have HR1:=lh9 hk1
  have HM2:=lh9 hk2
  clear hb hk1 hk2 HB2 HK2 HKA2 HKB2 HR HRA
  go_wp2_with fail
  refine (HCOL.out _ HB3.out).mono ?_
  rintro e w5 ⟨g5,rfl,hg5,ho5,hb⟩
  have HCR:=lh9 ho5.rows
  have hrow : zaO (zaH zai) w5 51 g1 n (zbJ [] M n 0):=by rw [zbn]; exact zjm (zac hb HR1.out)
  have hB:=zaa HB3.out hb
  have hk0:=zac hb HK3.out
  have hk2:=zac hb HM2.out
  have hBw:=Below.refl w5.heap.size w5
  obtain ⟨p0,p1⟩:=(zac hb HKA3.out).c2
  have hl5:=hrow.lt
  have hl6:=hk2.lt
  clear hb ho5 q0 q1 HB3 HK3 HKA3 HR1 HM2
  go_wp2_with fail
  clear p0 p1
  go_loopg [27] (n + 1) (fun g ix wr => ∃ (r : Nat),r ≤ n ∧ n < g + r ∧ ix = .int .i64 r ∧ zaO (zaH zai) wr 51 g1 n (zbJ [] M n r) ∧ zaE (zaH zai) wr (some ⟨g5,0,none⟩) m (zbN k m MB) ∧ Below w.heap.size w wr ∧ Blk wr (w.heap.size + 1 + 1) 28 #[.slice none 0 0,.int .i64 0] ∧ Blk wr g2 28 #[.slice (some ⟨g1,0,none⟩) n n,.int .i64 (m : Int)])
  case atStart => exact ⟨0,Nat.zero_le _,by omega,rfl,hrow,HCR.out,hB,hk0,hk2⟩
  case round =>
   clear hrow hB hk0 hk2 hBw HCR
   obtain ⟨r,hrn,hg,rfl,hrow,hcr,hB,hk0,hk2⟩:=hrel
   by_cases hlt : r < n
   ·obtain ⟨ad,Bq,dq,rfl,-,hc,hv⟩:=HMA.out.row hB hlt
    have hd1 : decide ((r : Int) < (n : Int)) = true:=decide_eq_true (by omega)
    have i2 : (0 : Int) ≤ (r : Int):=by omega
    have i3 : (r : Int) < (n : Int):=by omega
    obtain ⟨p0,p1⟩:=hk2.c2
    have hbd:=(Below.refl wr.heap.size wr).drew
    have HROW:=lh9 (hrow.below (zaA zal) hbd)
    have HCR:=lh9 (hcr.below (zaA zal) hbd)
    have HV:=lh9 (zaD.keep hv hbd)
    have HB1:=lh9 (zaa hB hbd)
    have HK0:=lh9 (zac hbd hk0)
    have HK2:=lh9 (zac hbd hk2)
    have HGR:=lh9 (HGM.out r hlt)
    clear hrow hcr hv hB hk0 hk2 hbd
    go_wp2_with fail
    refine rg (csc p0 csn) (fun hHeld => ?_)
    clear p0 p1 hc
    generalize wr.drew = D2 at *
    refine tk 0 ?_
    refine tk 1 ?_
    refine tk 2 ?_
    refine tk 3 ?_
    refine tk 4 ?_
    refine rc 5 (fun KK hK9 => ?_)
    go_simp
    (with_reducible refine (HDOT.out _ _ _ _ _ r hlt HB1.out HCR.out HV.out).mono ?_)
    rintro e w7 ⟨g7,rfl,hg7,ho7,hb⟩
    refine hK9.out _ _ (Cs.below hHeld hb) (fun hHeld => ?_)
    clear hK9 KK
    have hr5:=HROW.out.below (zaA zal) hb
    have hr6:=zaO.set_ (zaA zal) hr5 hlt (zbF ho7) (HLR.out _)
    rw [zbD [] M n r HLM.out hlt _ HGR.out] at hr6
    obtain ⟨q0,sc0,sf0⟩:=hr5.ready hlt
    have hoff : zcm g1 w7 (w7.setCell ⟨g1,r,none⟩ (.slice (some ⟨g7,0,none⟩) m m)):=zcm.of_far ((zcK.refl g1 w7).set_ r _)
    have hcr7:=HCR.out.below (zaA zal) hb
    have hsl : ∃ cs,Blk w7 g1 51 cs ∧ ∀ u ∈ cs.toList,zbr u:=by obtain ⟨cs,h1,h2,_⟩:=hr5.blk; exact ⟨cs,h1,h2⟩
    have HR6:=lh9 hr6
    have HCR6 : Hid (zaE (zaH zai) (w7.setCell ⟨g1,r,none⟩ (.slice (some ⟨g7,0,none⟩) m m)) (some ⟨g5,0,none⟩) m (zbN k m MB)):=by
     obtain ⟨cs,h1,h2⟩:=hsl
     exact hcr7.off (fun ad e => by injection e with e; subst e; show g5 ≠ g1; omega) hoff (fun h3 => zfL zal h3 h1 h2 hoff)
    have HB6:=lh9 (zae (p:=⟨g1,r,none⟩) (.slice (some ⟨g7,0,none⟩) m m) (show w.heap.size ≤ g1 by omega) (zaa HB1.out hb))
    have HK06:=lh9 (Blk.far (p:=⟨g1,r,none⟩) (zac hb HK0.out) (by show w.heap.size + 1 + 1 ≠ g1; omega) (.slice (some ⟨g7,0,none⟩) m m))
    have HK26:=lh9 (Blk.far (p:=⟨g1,r,none⟩) (zac hb HK2.out) (by show g2 ≠ g1; omega) (.slice (some ⟨g7,0,none⟩) m m))
    clear hb hr5 hr6 ho7 HROW HCR HB1 HK0 HK2 HV hcr7 hsl hoff
    refine tk 6 ?_
    refine rc 7 (fun KK hK9 => ?_)
    go_simp
    refine hK9.out _ _ ?_ (fun hHeld => ?_)
    ·refine Cs.far hHeld ((zcK.refl g1 _).set_ r _) ⟨?_,trivial⟩
     show g2 ≠ g1
     omega
    clear hK9 KK
    refine rdn ?_
    clear hHeld sc0 sf0
    go_wp2
    go_roundg (n - r)
    case measure => omega
    case rel => exact ⟨r + 1,by omega,by omega,by go_num,HR6.out,HCR6.out,HB6.out,HK06.out,HK26.out⟩
   ·have hr : r = n:=by omega
    subst hr
    have hd1 : decide ((r : Int) < (r : Int)) = false:=by simp
    have HM:=lh9 (zfE (zbC [] M r HLM.out ▸ hrow) HDM.out hn hm)
    obtain ⟨p0,p1⟩:=hk2.c2
    obtain ⟨sc0,sf0,sc1,sf1⟩:=st2 hk0 (.slice (some ⟨g1,0,none⟩) r r)
    obtain ⟨r0,r1⟩:=(sn2 hk0 (.slice (some ⟨g1,0,none⟩) r r) (.int .i64 (m : Int))).c2
    have HG:=lh9 (gmb2 HM.out (fun ad e => by injection e with e; subst e; show w.heap.size + 1 + 1 < g1; omega) hk0 hB (by omega))
    clear hrow hcr hB hk0 hk2
    go_wp2
    refine bodyPost_ret (v:=.tuple #[.agg #[.slice (some ⟨g1,0,none⟩) r r,.int .i64 (m : Int)],.bool true]) (by simp [results,Tryz.results35,go_sem,r0,r1]) rfl ?_
    exact HG.out
end
end Go.Proofs.YtedbgdlbgohiiaaGreatDoor
