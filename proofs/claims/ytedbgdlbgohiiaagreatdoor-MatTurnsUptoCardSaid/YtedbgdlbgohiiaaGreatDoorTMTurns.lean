/- What this claim leans on. -/
import Derived.Test.YtedbgdlbgohiiaaGreatDoorTMAwake
namespace Go.Proofs.YtedbgdlbgohiiaaGreatDoor
open Go Go.RowKit
set_option maxHeartbeats 16000000
set_option maxRecDepth 100000
set_option linter.unusedVariables false
set_option linter.unusedSimpArgs false
theorem matTurns_core (z0 : Nat) (A0 : oA9) (n0 c0 : Nat) (R0 : zfh) (z1 : Nat) (A1 : oA9) (n1 c1 : Nat) (R1 : zfh) (w : World) (hz0 : z0 ≤ 255) (h0 : zaK w A0 n0 c0 R0) (hz1 : z1 ≤ 255) (h1 : zaK w A1 n1 c1 R1) (hT : zak w) :
  Calls Tryz.prog 6 #[.agg #[.int .u8 (z0 : Int),.slice A0 n0 c0],.agg #[.int .u8 (z1 : Int),.slice A1 n1 c1]] w fun e w' => e = .returned (.bool true) ∧ Below w.heap.size w w':=by
 have HMK0:=lh9 (fun W (hb : Below w.heap.size w W) => zcY (hT.on hb) hz0 (h0.below hb))
 have HSX0:=lh9 (zdx (m:=z0 % 7) h0 (Nat.min_le_left n0 6))
 have HDX0:=lh9 (zct (z0 % 7) R0 (min n0 6))
 obtain ⟨m0,hm0⟩ : ∃ m,z0 % 7 = m:=⟨_,rfl⟩
 obtain ⟨N0,hN0⟩ : ∃ N,min n0 6 = N:=⟨_,rfl⟩
 have bm0 : m0 ≤ 6:=by omega
 have bN0 : N0 ≤ 6:=by omega
 rw [hm0,hN0] at HMK0 HSX0 HDX0
 obtain ⟨X0,hX0⟩ : ∃ X,zeh m0 R0 N0 = X:=⟨_,rfl⟩
 rw [hX0] at HMK0 HSX0 HDX0
 have HMK1:=lh9 (fun W (hb : Below w.heap.size w W) => zcY (hT.on hb) hz1 (h1.below hb))
 have HSX1:=lh9 (zdx (m:=z1 % 7) h1 (Nat.min_le_left n1 6))
 have HDX1:=lh9 (zct (z1 % 7) R1 (min n1 6))
 obtain ⟨m1,hm1⟩ : ∃ m,z1 % 7 = m:=⟨_,rfl⟩
 obtain ⟨N1,hN1⟩ : ∃ N,min n1 6 = N:=⟨_,rfl⟩
 have bm1 : m1 ≤ 6:=by omega
 have bN1 : N1 ≤ 6:=by omega
 rw [hm1,hN1] at HMK1 HSX1 HDX1
 obtain ⟨X1,hX1⟩ : ∃ X,zeh m1 R1 N1 = X:=⟨_,rfl⟩
 rw [hX1] at HMK1 HSX1 HDX1
 have HT:=lh9 (fun w' (hb : Below w.heap.size w w') => hT.on hb)
 have HB:=lh9 (Below.refl w.heap.size w)
 clear hT h0 hz0 h1 hz1 hm0 hN0 hX0 hm1 hN1 hX1
 go_enter Tryz.func6,Tryz.ntmps6
 obtain ⟨bq0,bq1,bq2,-⟩:=zbs w 24 24 #[.int .u8 (z0 : Int),.slice A0 n0 c0] #[.int .u8 (z1 : Int),.slice A1 n1 c1]
 have HB:=lh9 (zaa HB.out bq0)
 have HK1:=lh9 (bq1)
 have HK2:=lh9 (bq2)
 clear bq0 bq1 bq2
 go_wp2_with fail
 generalize (w.alloc (.cells #[.int .u8 (z0 : Int),.slice A0 n0 c0] 24)).alloc (.cells #[.int .u8 (z1 : Int),.slice A1 n1 c1] 24) = W3 at *
 (with_reducible refine (zfZ (HT.out _ HB.out)).mono ?_)
 rintro e X4 ⟨rfl,hb⟩
 have HB:=lh9 (zaa HB.out hb)
 have HK1:=lh9 (zac hb HK1.out)
 have HK2:=lh9 (zac hb HK2.out)
 clear hb 
 go_wp2_with fail
 have HS5 : Hid (zas (1) (X0)):=HSX0.out
 have HS6 : Hid (zas (1) (X1)):=HSX1.out
 obtain ⟨p7_0,p7_1⟩:=HK1.out.c2
 obtain ⟨p8_0,p8_1⟩:=HK2.out.c2
 have GG:=lh9 (fun w' (h : Below X4.heap.size X4 w') => (csc (zab h p7_0) (csc (zab h p7_1) (csc (zab h p8_0) (csc (zab h p8_1) csn)))))
 refine rgB (fun hHeld => ?_)
 clear p7_0 p7_1 p8_0 p8_1
 refine tl 0 GG.out ?_
 refine tl 2 GG.out ?_
 refine zaV (L:=#[true,true,true,true,true,true,true,true])
  (J:=fun a0 l a w' => ∃ (fl1 fl3 fl4 fl5 fl6 fl7 : Bool) (A5 : oA9) (c5 : Nat) (A6 : oA9) (c6 ad4 ad5 : Nat),l = #[true,fl1,true,fl3,fl4,fl5,fl6,fl7] ∧ zbW [14,16,5,6] a0 a ∧ Hid (Below X4.heap.size X4 w') ∧
    Hid (Gd fl1 (a.tmps.getD 14 undef = .agg #[.slice A5 N0 c5,.int .i64 (m0 : Int)] ∧ zap w' A5 N0 c5 m0 (X0))) ∧
    Hid (Gd fl3 (a.tmps.getD 16 undef = .agg #[.slice A6 N1 c6,.int .i64 (m1 : Int)] ∧ zap w' A6 N1 c6 m1 (X1))) ∧
    Hid (Gd fl4 (a.tmps.getD 5 undef = .pointer (some ⟨ad4,0,none⟩) ∧ X4.heap.size ≤ ad4 ∧ Blk w' ad4 28 (bif fl6 then #[.slice A5 N0 c5,.int .i64 (m0 : Int)] else #[.slice none 0 0,.int .i64 0]))) ∧
    Hid (Gd fl5 (a.tmps.getD 6 undef = .pointer (some ⟨ad5,0,none⟩) ∧ X4.heap.size ≤ ad5 ∧ Blk w' ad5 28 (bif fl7 then #[.slice A6 N1 c6,.int .i64 (m1 : Int)] else #[.slice none 0 0,.int .i64 0]))) ∧
    Hid (Gd fl4 (Gd fl5 (ad4 ≠ ad5))) ∧
    Hid (Gd fl3 (fl1 = true)) ∧
    Hid (Gd fl6 (fl1 = true)) ∧
    Hid (Gd fl6 (fl3 = true)) ∧
    Hid (Gd fl6 (fl4 = true)) ∧
    Hid (Gd fl7 (fl3 = true)) ∧
    Hid (Gd fl7 (fl5 = true)) ∧
    Hid (Gd fl7 (fl6 = true)))
  (by rfl) ?_ ?_ ?_
 ·exact ⟨false,false,false,false,false,false,none,0,none,0,0,0,by kernel_rfl,zbW.refl _ _,hHeld,Gd.no,Gd.no,Gd.no,Gd.no,Gd.no,Gd.no,Gd.no,Gd.no,Gd.no,Gd.no,Gd.no,Gd.no⟩
 ·intro OPS Ac0 Q0 hO hAs hA
  have RB13 : Ac0.tmps.getD 13 undef = .agg #[.int .u8 (z0 : Int),.slice A0 n0 c0]:=(hA 13 undef).trans (by kernel_rfl)
  have RB15 : Ac0.tmps.getD 15 undef = .agg #[.int .u8 (z1 : Int),.slice A1 n1 c1]:=(hA 15 undef).trans (by kernel_rfl)
  have hsz : Ac0.tmps.size = 50:=hAs.trans (by kernel_rfl)
  clear hAs hA
  refine ⟨?_,?_⟩
  ·rintro l a w' ⟨fl1,fl3,fl4,fl5,fl6,fl7,A5,c5,A6,c6,ad4,ad5,rfl,-⟩ hr
   obtain rfl : fl1 = true:=als 1 hr hO
   obtain rfl : fl3 = true:=als 3 hr hO
   obtain rfl : fl4 = true:=als 4 hr hO
   obtain rfl : fl5 = true:=als 5 hr hO
   obtain rfl : fl6 = true:=als 6 hr hO
   obtain rfl : fl7 = true:=als 7 hr hO
   rfl
  ·rintro l a w' i ⟨fl1,fl3,fl4,fl5,fl6,fl7,A5,c5,A6,c6,ad4,ad5,rfl,HKp,hBi,qf1,qf3,qf4,qf5,qn4_5,qd3_1,qd6_1,qd6_3,qd6_4,qd7_3,qd7_5,qd7_6⟩ hne hi
   have hlt : i < 8:=by have:=zbN hi; rw [hO] at this; exact this
   rcases (show i = 0 ∨ i = 1 ∨ i = 2 ∨ i = 3 ∨ i = 4 ∨ i = 5 ∨ i = 6 ∨ i = 7 by omega) with rfl | rfl | rfl | rfl | rfl | rfl | rfl | rfl
   ·cases (zaf hi : true = false)
   ·obtain rfl : fl1 = false:=zaf hi
    obtain rfl : fl3 = false:=Gd.off qd3_1.out
    obtain rfl : fl6 = false:=Gd.off qd6_1.out
    obtain rfl : fl7 = false:=Gd.off qd7_3.out
    have rd13:=HKp.get 13 (by decide) RB13
    have HBn:=lh9 (zaa HB.out hBi.out)
    refine wog hO (fun K' hK => ?_)
    go_simp
    (with_reducible refine (HMK0.out _ HBn.out).mono ?_)
    rintro e w2 ⟨nA5,nc5,rfl,nhm5,-,hb⟩
    exact hK.out _ _ ⟨zaa hBi.out hb,true,false,fl4,fl5,false,false,nA5,nc5,A6,c6,ad4,ad5,by rfl,HKp.put (by decide) _,zaa hBi.out hb,Gd.yes ⟨zav (HKp.lt (by rw [hsz]; decide)) _,nhm5⟩,Gd.no,kq qf4.out fun h => ⟨h.1,zac hb h.2⟩,kq qf5.out fun h => ⟨h.1,zac hb h.2⟩,qn4_5,Gd.no,Gd.no,Gd.no,Gd.no,Gd.no,Gd.no,Gd.no⟩
   ·cases (zaf hi : true = false)
   ·obtain rfl : fl3 = false:=zaf hi
    obtain rfl : fl1 = true:=rdp 1 1 hi hO
    obtain rfl : fl6 = false:=Gd.off qd6_3.out
    obtain rfl : fl7 = false:=Gd.off qd7_3.out
    have rd15:=HKp.get 15 (by decide) RB15
    have hw1_0:=lh9 (qf1.out.get.2)
    have HBn:=lh9 (zaa HB.out hBi.out)
    refine wog hO (fun K' hK => ?_)
    go_simp
    (with_reducible refine (HMK1.out _ HBn.out).mono ?_)
    rintro e w2 ⟨nA6,nc6,rfl,nhm6,-,hb⟩
    exact hK.out _ _ ⟨zaa hBi.out hb,true,true,fl4,fl5,false,false,A5,c5,nA6,nc6,ad4,ad5,by rfl,HKp.put (by decide) _,zaa hBi.out hb,kq qf1.out fun h => zap.keep (h) hb,Gd.yes ⟨zav (HKp.lt (by rw [hsz]; decide)) _,nhm6⟩,kq qf4.out fun h => ⟨h.1,zac hb h.2⟩,kq qf5.out fun h => ⟨h.1,zac hb h.2⟩,qn4_5,fun _ => rfl,Gd.no,Gd.no,Gd.no,Gd.no,Gd.no,Gd.no⟩
   ·obtain rfl : fl4 = false:=zaf hi
    obtain rfl : fl6 = false:=Gd.off qd6_4.out
    obtain rfl : fl7 = false:=Gd.off qd7_6.out
    refine wog hO (fun K' hK => ?_)
    go_simp
    have hb:=zaT w' (.cells #[.slice none 0 0,.int .i64 0] 28)
    exact hK.out _ _ ⟨zaa hBi.out hb,fl1,fl3,true,fl5,false,false,A5,c5,A6,c6,w'.heap.size,ad5,by rfl,HKp.put (by decide) _,zaa hBi.out hb,kq qf1.out fun h => zap.keep (h) hb,kq qf3.out fun h => zap.keep (h) hb,Gd.yes ⟨zav (HKp.lt (by rw [hsz]; decide)) _,hBi.out.size,Blk.new w' _ _⟩,kq qf5.out fun h => ⟨h.1,zac hb h.2⟩,Gd.yes (qf5.out.mono fun h => by have:=Blk.lt h.2.2; omega),qd3_1,Gd.no,Gd.no,Gd.no,Gd.no,Gd.no,Gd.no⟩
   ·obtain rfl : fl5 = false:=zaf hi
    obtain rfl : fl7 = false:=Gd.off qd7_5.out
    refine wog hO (fun K' hK => ?_)
    go_simp
    have hb:=zaT w' (.cells #[.slice none 0 0,.int .i64 0] 28)
    exact hK.out _ _ ⟨zaa hBi.out hb,fl1,fl3,fl4,true,fl6,false,A5,c5,A6,c6,ad4,w'.heap.size,by rfl,HKp.put (by decide) _,zaa hBi.out hb,kq qf1.out fun h => zap.keep (h) hb,kq qf3.out fun h => zap.keep (h) hb,kq qf4.out fun h => ⟨h.1,zac hb h.2⟩,Gd.yes ⟨zav (HKp.lt (by rw [hsz]; decide)) _,hBi.out.size,Blk.new w' _ _⟩,qf4.out.mono fun h => Gd.yes (by have:=Blk.lt h.2.2; omega),qd3_1,qd6_1,qd6_3,qd6_4,Gd.no,Gd.no,Gd.no⟩
   ·obtain rfl : fl6 = false:=zaf hi
    obtain rfl : fl1 = true:=rdp 1 1 hi hO
    obtain rfl : fl3 = true:=rdp 3 2 hi hO
    obtain rfl : fl4 = true:=rdp 4 0 hi hO
    obtain rfl : fl5 = true:=rdp 5 8 hi hO
    obtain rfl : fl7 = false:=Gd.off qd7_6.out
    have rd5:=qf4.out.get.1
    have rd14:=qf1.out.get.1
    obtain ⟨_,hg,hk⟩:=qf4.out.get
    have hk : Blk w' ad4 28 #[.slice none 0 0,.int .i64 0]:=hk
    obtain ⟨sc0,sf0,sc1,sf1⟩:=st2 hk (.slice A5 N0 c5)
    have hj1:=sn2 hk (.slice A5 N0 c5) (.int .i64 (m0 : Int))
    have hBn:=bl2 (.slice A5 N0 c5) (.int .i64 (m0 : Int)) hg hBi.out
    refine wog hO (fun K' hK => ?_)
    go_simp
    exact hK.out _ _ ⟨hBn,true,true,true,true,true,false,A5,c5,A6,c6,ad4,ad5,by rfl,HKp,hBn,qf1.out.mono fun h => ⟨h.1,zap.offz (h.2) hk _ _⟩,qf3.out.mono fun h => ⟨h.1,zap.offz (h.2) hk _ _⟩,qf4.out.mono fun h => ⟨h.1,h.2.1,hj1⟩,fun hf9 => (fun h => ⟨h.1,h.2.1,Blk.far (p:=⟨ad4,1,none⟩) (Blk.far (p:=⟨ad4,0,none⟩) (h.2.2) (Ne.symm (qn4_5.out rfl hf9)) (.slice A5 N0 c5)) (Ne.symm (qn4_5.out rfl hf9)) (.int .i64 (m0 : Int))⟩) (qf5.out hf9),qn4_5,fun _ => rfl,fun _ => rfl,fun _ => rfl,fun _ => rfl,Gd.no,Gd.no,Gd.no⟩
   ·obtain rfl : fl7 = false:=zaf hi
    obtain rfl : fl1 = true:=rdp 1 4 hi hO
    obtain rfl : fl3 = true:=rdp 3 1 hi hO
    obtain rfl : fl4 = true:=rdp 4 7 hi hO
    obtain rfl : fl5 = true:=rdp 5 0 hi hO
    obtain rfl : fl6 = true:=rdp 6 2 hi hO
    have rd6:=qf5.out.get.1
    have rd16:=qf3.out.get.1
    obtain ⟨_,hg,hk⟩:=qf5.out.get
    have hk : Blk w' ad5 28 #[.slice none 0 0,.int .i64 0]:=hk
    obtain ⟨sc0,sf0,sc1,sf1⟩:=st2 hk (.slice A6 N1 c6)
    have hj1:=sn2 hk (.slice A6 N1 c6) (.int .i64 (m1 : Int))
    have hBn:=bl2 (.slice A6 N1 c6) (.int .i64 (m1 : Int)) hg hBi.out
    refine wog hO (fun K' hK => ?_)
    go_simp
    exact hK.out _ _ ⟨hBn,true,true,true,true,true,true,A5,c5,A6,c6,ad4,ad5,by rfl,HKp,hBn,qf1.out.mono fun h => ⟨h.1,zap.offz (h.2) hk _ _⟩,qf3.out.mono fun h => ⟨h.1,zap.offz (h.2) hk _ _⟩,fun hf9 => (fun h => ⟨h.1,h.2.1,Blk.far (p:=⟨ad5,1,none⟩) (Blk.far (p:=⟨ad5,0,none⟩) (h.2.2) (qn4_5.out hf9 rfl) (.slice A6 N1 c6)) (qn4_5.out hf9 rfl) (.int .i64 (m1 : Int))⟩) (qf4.out hf9),qf5.out.mono fun h => ⟨h.1,h.2.1,hj1⟩,qn4_5,fun _ => rfl,fun _ => rfl,fun _ => rfl,fun _ => rfl,fun _ => rfl,fun _ => rfl,fun _ => rfl⟩
 rintro a wm9 ⟨fl1,fl3,fl4,fl5,fl6,fl7,A5,c5,A6,c6,ad4,ad5,hl,HKp,hBi,qf1,qf3,qf4,qf5,qn4_5,qd3_1,qd6_1,qd6_3,qd6_4,qd7_3,qd7_5,qd7_6⟩
 have xx1 : fl1 = true:=gdl 1 hl
 subst xx1
 have xx3 : fl3 = true:=gdl 3 hl
 subst xx3
 have xx4 : fl4 = true:=gdl 4 hl
 subst xx4
 have xx5 : fl5 = true:=gdl 5 hl
 subst xx5
 have xx6 : fl6 = true:=gdl 6 hl
 subst xx6
 have xx7 : fl7 = true:=gdl 7 hl
 subst xx7
 obtain ⟨rv1,hw1_0⟩:=qf1.out.get
 obtain ⟨rv3,hw3_0⟩:=qf3.out.get
 obtain ⟨rv4,hg4,hk4⟩:=qf4.out.get
 obtain ⟨rv5,hg5,hk5⟩:=qf5.out.get
 obtain rfl:=HKp.eq [(14,.agg #[.slice A5 N0 c5,.int .i64 (m0 : Int)]),(16,.agg #[.slice A6 N1 c6,.int .i64 (m1 : Int)]),(5,.pointer (some ⟨ad4,0,none⟩)),(6,.pointer (some ⟨ad5,0,none⟩))] rfl (by
  intro p hp
  simp only [List.mem_cons,List.not_mem_nil,or_false] at hp
  rcases hp with rfl | rfl | rfl | rfl
  ·exact rv1
  ·exact rv3
  ·exact rv4
  ·exact rv5)
 have hBv:=hBi.out
 clear hl hBi HKp qf1 qf3 qf4 qf5 qn4_5 qd3_1 qd6_1 qd6_3 qd6_4 qd7_3 qd7_5 qd7_6 rv1 rv3 rv4 rv5
 have hk4 : Blk wm9 ad4 28 #[.slice A5 N0 c5,.int .i64 (m0 : Int)]:=hk4
 have hk5 : Blk wm9 ad5 28 #[.slice A6 N1 c6,.int .i64 (m1 : Int)]:=hk5
 rw [show due #[true,true,true,true,true,true,true,true] = 0 from rfl]
 simp only [zbL,List.foldl,Act.put,List.setIfInBounds_toArray,List.set_cons_zero,List.set_cons_succ]
 refine wpAnyH_done (by kernel_rfl) ?_ _
 refine NoPanic.normal ?_
 have HB:=lh9 (zaa HB.out hBv)
 have HK1:=lh9 (zac hBv HK1.out)
 have HK2:=lh9 (zac hBv HK2.out)
 have HM5:=lh9 (hw1_0)
 have HM6:=lh9 (hw3_0)
 obtain ⟨adx10,hga⟩ : ∃ x,x = ad4:=⟨_,rfl⟩
 subst hga
 have HK10:=lh9 (hk4)
 obtain ⟨adx11,hga⟩ : ∃ x,x = ad5:=⟨_,rfl⟩
 subst hga
 have HK11:=lh9 (hk5)
 clear hBv GG hk4 hg4 hk5 hg5 hw1_0 hw3_0
 clear HK1 HK2
 go_wp2_with fail
 obtain ⟨p12_0,p12_1⟩:=HK10.out.c2
 have hbd:=(Below.refl wm9.heap.size wm9).drew
 have HB:=lh9 (zaa HB.out hbd)
 have HM5:=lh9 (HM5.out.keep hbd)
 have HM6:=lh9 (HM6.out.keep hbd)
 have HK10:=lh9 (zac hbd HK10.out)
 have HK11:=lh9 (zac hbd HK11.out)
 refine rg (csc p12_0 (csc p12_1 csn)) (fun hHeld => ?_)
 clear hbd p12_0 p12_1
 generalize wm9.drew = D13 at *
 refine tk 0 ?_
 refine tk 3 ?_
 have HS14 : Hid (zas (1) (zaN N0 m0 X0)):=HS5.out.turn HDX0.out
 refine rc 1 (fun KK hK => ?_)
 go_simp
 (with_reducible refine (zbK (HT.out _ HB.out) HM5.out HS5.out).mono ?_)
 rintro e X15 ⟨A14,c14,rfl,hm14,-,hb⟩
 refine hK.out _ _ (Cs.below hHeld hb) (fun hHeld => ?_)
 clear hK KK
 have HB:=lh9 (zaa HB.out hb)
 have HM5:=lh9 (HM5.out.keep hb)
 have HM6:=lh9 (HM6.out.keep hb)
 have HK10:=lh9 (zac hb HK10.out)
 have HK11:=lh9 (zac hb HK11.out)
 have HM14:=lh9 (hm14)
 clear hb hm14
 have HS16 : Hid (zas (1) (zaN m0 N0 (zaN N0 m0 X0))):=HS14.out.turn (zcj _ _ _)
 refine rc 2 (fun KK hK => ?_)
 go_simp
 (with_reducible refine (zbK (HT.out _ HB.out) HM14.out HS14.out).mono ?_)
 rintro e X17 ⟨A16,c16,rfl,hm16,-,hb⟩
 refine hK.out _ _ (Cs.below hHeld hb) (fun hHeld => ?_)
 clear hK KK
 have HB:=lh9 (zaa HB.out hb)
 have HM5:=lh9 (HM5.out.keep hb)
 have HM6:=lh9 (HM6.out.keep hb)
 have HK10:=lh9 (zac hb HK10.out)
 have HK11:=lh9 (zac hb HK11.out)
 have HM14:=lh9 (HM14.out.keep hb)
 have HM16:=lh9 (hm16)
 clear hb hm16
 refine rc 4 (fun KK hK => ?_)
 go_simp
 (with_reducible refine (zej (t:=true) (decide_eq_true ⟨rfl,znd HDX0.out⟩) (HT.out _ HB.out) HM16.out HM5.out HS16.out HS5.out).mono ?_)
 rintro e X18 ⟨rfl,hb⟩
 refine hK.out _ _ (Cs.below hHeld hb) (fun hHeld => ?_)
 clear hK KK
 have HB:=lh9 (zaa HB.out hb)
 have HM5:=lh9 (HM5.out.keep hb)
 have HM6:=lh9 (HM6.out.keep hb)
 have HK10:=lh9 (zac hb HK10.out)
 have HK11:=lh9 (zac hb HK11.out)
 have HM14:=lh9 (HM14.out.keep hb)
 have HM16:=lh9 (HM16.out.keep hb)
 clear hb 
 refine tk 5 ?_
 refine rdn ?_
 clear hHeld
 clear HM14 HM16
 by_cases hq : m0 = N1
 ·subst hq
  obtain ⟨p19_0,p19_1⟩:=HK10.out.c2
  obtain ⟨p20_0,p20_1⟩:=HK11.out.c2
  have HS21 : Hid (zas (19) (zbX N0 m0 m1 X0 X1)):=zas.up (zas.mul HS5.out HS6.out HDX0.out HDX1.out) (by omega)
  go_wp2_with fail
  clear p19_0 p19_1 p20_0 p20_1
  (with_reducible refine (zcP (HT.out _ HB.out) HM5.out HM6.out HS5.out HS6.out).mono ?_)
  rintro e X22 ⟨A21,c21,rfl,hm21,-,hb⟩
  have HB:=lh9 (zaa HB.out hb)
  have HM5:=lh9 (HM5.out.keep hb)
  have HM6:=lh9 (HM6.out.keep hb)
  have HK10:=lh9 (zac hb HK10.out)
  have HK11:=lh9 (zac hb HK11.out)
  have HM21:=lh9 (hm21)
  clear hb hm21
  obtain ⟨bq0,bq1,-⟩:=zaz X22 28 #[.slice A21 N0 c21,.int .i64 (m1 : Int)]
  have HB:=lh9 (zaa HB.out bq0)
  have HM5:=lh9 (HM5.out.keep bq0)
  have HM6:=lh9 (HM6.out.keep bq0)
  have HK10:=lh9 (zac bq0 HK10.out)
  have HK11:=lh9 (zac bq0 HK11.out)
  have HM21:=lh9 (HM21.out.keep bq0)
  have HK23:=lh9 (bq1)
  clear bq0 bq1
  go_wp2_with fail
  generalize X22.alloc (.cells #[.slice A21 N0 c21,.int .i64 (m1 : Int)] 28) = W24 at *
  generalize X22.heap.size = q24 at *
  have HS25 : Hid (zas (1) (zaN m0 m1 X1)):=HS6.out.turn HDX1.out
  have HS26 : Hid (zas (1) (zaN N0 m0 X0)):=HS5.out.turn HDX0.out
  have HS27 : Hid (zas (19) (zbX m1 m0 N0 (zaN m0 m1 X1) (zaN N0 m0 X0))):=zas.up (zas.mul HS25.out HS26.out (zcj _ _ _) (zcj _ _ _)) (by omega)
  obtain ⟨p28_0,p28_1⟩:=HK11.out.c2
  obtain ⟨p29_0,p29_1⟩:=HK10.out.c2
  have GG:=lh9 (fun w' (h : Below W24.heap.size W24 w') => (csc (zab h p28_0) (csc (zab h p28_1) (csc (zab h p29_0) (csc (zab h p29_1) csn)))))
  refine rgB (fun hHeld => ?_)
  clear p28_0 p28_1 p29_0 p29_1
  refine tl 0 GG.out ?_
  refine tl 2 GG.out ?_
  refine zaV (L:=#[true,true,true,true,true,true,true,true,true,true,true])
   (J:=fun a0 l a w' => ∃ (fl1 fl3 fl4 fl5 fl6 fl7 fl8 fl9 fl10 : Bool) (A25 : oA9) (c25 : Nat) (A26 : oA9) (c26 : Nat) (A27 : oA9) (c27 ad8 : Nat),l = #[true,fl1,true,fl3,fl4,fl5,fl6,fl7,fl8,fl9,fl10] ∧ zbW [31,33,34,29,35,36,9,10] a0 a ∧ Hid (Below W24.heap.size W24 w') ∧
     Hid (Gd fl1 (a.tmps.getD 31 undef = .agg #[.slice A25 m1 c25,.int .i64 (m0 : Int)] ∧ zap w' A25 m1 c25 m0 (zaN m0 m1 X1))) ∧
     Hid (Gd fl3 (a.tmps.getD 33 undef = .agg #[.slice A26 m0 c26,.int .i64 (N0 : Int)] ∧ zap w' A26 m0 c26 N0 (zaN N0 m0 X0))) ∧
     Hid (Gd fl4 (a.tmps.getD 34 undef = .tuple #[.agg #[.slice A27 m1 c27,.int .i64 (N0 : Int)],.bool true] ∧ zap w' A27 m1 c27 N0 (zbX m1 m0 N0 (zaN m0 m1 X1) (zaN N0 m0 X0)))) ∧
     Hid (Gd fl5 (a.tmps.getD 29 undef = .tuple #[.agg #[.slice A27 m1 c27,.int .i64 (N0 : Int)],.bool true])) ∧
     Hid (Gd fl6 (a.tmps.getD 35 undef = .agg #[.slice A27 m1 c27,.int .i64 (N0 : Int)])) ∧
     Hid (Gd fl7 (a.tmps.getD 36 undef = .bool true)) ∧
     Hid (Gd fl10 (a.tmps.getD 10 undef = .bool true)) ∧
     Hid (Gd fl8 (a.tmps.getD 9 undef = .pointer (some ⟨ad8,0,none⟩) ∧ W24.heap.size ≤ ad8 ∧ Blk w' ad8 28 (bif fl9 then #[.slice A27 m1 c27,.int .i64 (N0 : Int)] else #[.slice none 0 0,.int .i64 0]))) ∧
     Hid (Gd fl3 (fl1 = true)) ∧
     Hid (Gd fl4 (fl1 = true)) ∧
     Hid (Gd fl4 (fl3 = true)) ∧
     Hid (Gd fl5 (fl4 = true)) ∧
     Hid (Gd fl6 (fl5 = true)) ∧
     Hid (Gd fl7 (fl5 = true)) ∧
     Hid (Gd fl9 (fl4 = true)) ∧
     Hid (Gd fl9 (fl6 = true)) ∧
     Hid (Gd fl9 (fl8 = true)) ∧
     Hid (Gd fl10 (fl7 = true)) ∧
     Hid (Gd fl10 (fl9 = true)))
   (by rfl) ?_ ?_ ?_
  ·exact ⟨false,false,false,false,false,false,false,false,false,none,0,none,0,none,0,0,by kernel_rfl,zbW.refl _ _,hHeld,Gd.no,Gd.no,Gd.no,Gd.no,Gd.no,Gd.no,Gd.no,Gd.no,Gd.no,Gd.no,Gd.no,Gd.no,Gd.no,Gd.no,Gd.no,Gd.no,Gd.no,Gd.no,Gd.no⟩
  ·intro OPS Ac0 Q0 hO hAs hA
   have RB30 : Ac0.tmps.getD 30 undef = .agg #[.slice A6 m0 c6,.int .i64 (m1 : Int)]:=(hA 30 undef).trans (by kernel_rfl)
   have RB32 : Ac0.tmps.getD 32 undef = .agg #[.slice A5 N0 c5,.int .i64 (m0 : Int)]:=(hA 32 undef).trans (by kernel_rfl)
   have hsz : Ac0.tmps.size = 50:=hAs.trans (by kernel_rfl)
   clear hAs hA
   refine ⟨?_,?_⟩
   ·rintro l a w' ⟨fl1,fl3,fl4,fl5,fl6,fl7,fl8,fl9,fl10,A25,c25,A26,c26,A27,c27,ad8,rfl,-⟩ hr
    obtain rfl : fl1 = true:=als 1 hr hO
    obtain rfl : fl3 = true:=als 3 hr hO
    obtain rfl : fl4 = true:=als 4 hr hO
    obtain rfl : fl5 = true:=als 5 hr hO
    obtain rfl : fl6 = true:=als 6 hr hO
    obtain rfl : fl7 = true:=als 7 hr hO
    obtain rfl : fl8 = true:=als 8 hr hO
    obtain rfl : fl9 = true:=als 9 hr hO
    obtain rfl : fl10 = true:=als 10 hr hO
    rfl
   ·rintro l a w' i ⟨fl1,fl3,fl4,fl5,fl6,fl7,fl8,fl9,fl10,A25,c25,A26,c26,A27,c27,ad8,rfl,HKp,hBi,qf1,qf3,qf4,qf5,qf6,qf7,qf10,qf8,qd3_1,qd4_1,qd4_3,qd5_4,qd6_5,qd7_5,qd9_4,qd9_6,qd9_8,qd10_7,qd10_9⟩ hne hi
    have hlt : i < 11:=by have:=zbN hi; rw [hO] at this; exact this
    rcases (show i = 0 ∨ i = 1 ∨ i = 2 ∨ i = 3 ∨ i = 4 ∨ i = 5 ∨ i = 6 ∨ i = 7 ∨ i = 8 ∨ i = 9 ∨ i = 10 by omega) with rfl | rfl | rfl | rfl | rfl | rfl | rfl | rfl | rfl | rfl | rfl
    ·cases (zaf hi : true = false)
    ·obtain rfl : fl1 = false:=zaf hi
     obtain rfl : fl3 = false:=Gd.off qd3_1.out
     obtain rfl : fl4 = false:=Gd.off qd4_1.out
     obtain rfl : fl5 = false:=Gd.off qd5_4.out
     obtain rfl : fl6 = false:=Gd.off qd6_5.out
     obtain rfl : fl7 = false:=Gd.off qd7_5.out
     obtain rfl : fl9 = false:=Gd.off qd9_4.out
     obtain rfl : fl10 = false:=Gd.off qd10_7.out
     have rd30:=HKp.get 30 (by decide) RB30
     have HBn:=lh9 (zaa HB.out hBi.out)
     have HM6n:=lh9 (HM6.out.keep hBi.out)
     refine wog hO (fun K' hK => ?_)
     go_simp
     (with_reducible refine (zbK (HT.out _ HBn.out) HM6n.out HS6.out).mono ?_)
     rintro e w2 ⟨nA25,nc25,rfl,nhm25,-,hb⟩
     exact hK.out _ _ ⟨zaa hBi.out hb,true,false,false,false,false,false,fl8,false,false,nA25,nc25,A26,c26,A27,c27,ad8,by rfl,HKp.put (by decide) _,zaa hBi.out hb,Gd.yes ⟨zav (HKp.lt (by rw [hsz]; decide)) _,nhm25⟩,Gd.no,Gd.no,Gd.no,Gd.no,Gd.no,Gd.no,kq qf8.out fun h => ⟨h.1,zac hb h.2⟩,Gd.no,Gd.no,Gd.no,Gd.no,Gd.no,Gd.no,Gd.no,Gd.no,Gd.no,Gd.no,Gd.no⟩
    ·cases (zaf hi : true = false)
    ·obtain rfl : fl3 = false:=zaf hi
     obtain rfl : fl1 = true:=rdp 1 1 hi hO
     obtain rfl : fl4 = false:=Gd.off qd4_3.out
     obtain rfl : fl5 = false:=Gd.off qd5_4.out
     obtain rfl : fl6 = false:=Gd.off qd6_5.out
     obtain rfl : fl7 = false:=Gd.off qd7_5.out
     obtain rfl : fl9 = false:=Gd.off qd9_4.out
     obtain rfl : fl10 = false:=Gd.off qd10_7.out
     have rd32:=HKp.get 32 (by decide) RB32
     have hw1_0:=lh9 (qf1.out.get.2)
     have HBn:=lh9 (zaa HB.out hBi.out)
     have HM5n:=lh9 (HM5.out.keep hBi.out)
     refine wog hO (fun K' hK => ?_)
     go_simp
     (with_reducible refine (zbK (HT.out _ HBn.out) HM5n.out HS5.out).mono ?_)
     rintro e w2 ⟨nA26,nc26,rfl,nhm26,-,hb⟩
     exact hK.out _ _ ⟨zaa hBi.out hb,true,true,false,false,false,false,fl8,false,false,A25,c25,nA26,nc26,A27,c27,ad8,by rfl,HKp.put (by decide) _,zaa hBi.out hb,kq qf1.out fun h => zap.keep (h) hb,Gd.yes ⟨zav (HKp.lt (by rw [hsz]; decide)) _,nhm26⟩,Gd.no,Gd.no,Gd.no,Gd.no,Gd.no,kq qf8.out fun h => ⟨h.1,zac hb h.2⟩,fun _ => rfl,Gd.no,Gd.no,Gd.no,Gd.no,Gd.no,Gd.no,Gd.no,Gd.no,Gd.no,Gd.no⟩
    ·obtain rfl : fl4 = false:=zaf hi
     obtain rfl : fl1 = true:=rdp 1 0 hi hO
     obtain rfl : fl3 = true:=rdp 3 1 hi hO
     obtain rfl : fl5 = false:=Gd.off qd5_4.out
     obtain rfl : fl6 = false:=Gd.off qd6_5.out
     obtain rfl : fl7 = false:=Gd.off qd7_5.out
     obtain rfl : fl9 = false:=Gd.off qd9_4.out
     obtain rfl : fl10 = false:=Gd.off qd10_7.out
     have rd31:=qf1.out.get.1
     have rd33:=qf3.out.get.1
     have hw1_0:=lh9 (qf1.out.get.2)
     have hw3_0:=lh9 (qf3.out.get.2)
     have HBn:=lh9 (zaa HB.out hBi.out)
     refine wog hO (fun K' hK => ?_)
     go_simp
     (with_reducible refine (zcP (HT.out _ HBn.out) hw1_0.out hw3_0.out HS25.out HS26.out).mono ?_)
     rintro e w2 ⟨nA27,nc27,rfl,nhm27,-,hb⟩
     exact hK.out _ _ ⟨zaa hBi.out hb,true,true,true,false,false,false,fl8,false,false,A25,c25,A26,c26,nA27,nc27,ad8,by rfl,HKp.put (by decide) _,zaa hBi.out hb,kq qf1.out fun h => zap.keep (h) hb,kq qf3.out fun h => zap.keep (h) hb,Gd.yes ⟨zav (HKp.lt (by rw [hsz]; decide)) _,nhm27⟩,Gd.no,Gd.no,Gd.no,Gd.no,kq qf8.out fun h => ⟨h.1,zac hb h.2⟩,fun _ => rfl,fun _ => rfl,fun _ => rfl,Gd.no,Gd.no,Gd.no,Gd.no,Gd.no,Gd.no,Gd.no,Gd.no⟩
    ·obtain rfl : fl5 = false:=zaf hi
     obtain rfl : fl4 = true:=rdp 4 0 hi hO
     obtain rfl : fl1 = true:=qd4_1.out.get
     obtain rfl : fl3 = true:=qd4_3.out.get
     obtain rfl : fl6 = false:=Gd.off qd6_5.out
     obtain rfl : fl7 = false:=Gd.off qd7_5.out
     obtain rfl : fl9 = false:=Gd.off qd9_6.out
     obtain rfl : fl10 = false:=Gd.off qd10_7.out
     have rd34:=qf4.out.get.1
     refine wog hO (fun K' hK => ?_)
     refine zbq (x:=34) (Or.inl rfl) rd34 ?_
     exact hK.out _ _ ⟨hBi.out,true,true,true,true,false,false,fl8,false,false,A25,c25,A26,c26,A27,c27,ad8,by rfl,HKp.put (by decide) _,hBi.out,kq qf1.out fun h => (h),kq qf3.out fun h => (h),kq qf4.out fun h => (h),Gd.yes (zav (HKp.lt (by rw [hsz]; decide)) _),Gd.no,Gd.no,Gd.no,kq qf8.out id,fun _ => rfl,fun _ => rfl,fun _ => rfl,fun _ => rfl,Gd.no,Gd.no,Gd.no,Gd.no,Gd.no,Gd.no,Gd.no⟩
    ·obtain rfl : fl6 = false:=zaf hi
     obtain rfl : fl5 = true:=rdp 5 0 hi hO
     obtain rfl : fl4 = true:=qd5_4.out.get
     obtain rfl : fl1 = true:=qd4_1.out.get
     obtain rfl : fl3 = true:=qd4_3.out.get
     obtain rfl : fl9 = false:=Gd.off qd9_6.out
     obtain rfl : fl10 = false:=Gd.off qd10_9.out
     have rd29:=qf5.out.get
     refine wog hO (fun K' hK => ?_)
     refine zaF (x:=29) (k:=0) rfl rd29 rfl ?_
     exact hK.out _ _ ⟨hBi.out,true,true,true,true,true,fl7,fl8,false,false,A25,c25,A26,c26,A27,c27,ad8,by rfl,HKp.put (by decide) _,hBi.out,kq qf1.out fun h => (h),kq qf3.out fun h => (h),kq qf4.out fun h => (h),kq0 qf5.out,Gd.yes (zav (HKp.lt (by rw [hsz]; decide)) _),kq0 qf7.out,Gd.no,kq qf8.out id,fun _ => rfl,fun _ => rfl,fun _ => rfl,fun _ => rfl,fun _ => rfl,fun _ => rfl,Gd.no,Gd.no,Gd.no,Gd.no,Gd.no⟩
    ·obtain rfl : fl7 = false:=zaf hi
     obtain rfl : fl5 = true:=rdp 5 0 hi hO
     obtain rfl : fl4 = true:=qd5_4.out.get
     obtain rfl : fl1 = true:=qd4_1.out.get
     obtain rfl : fl3 = true:=qd4_3.out.get
     obtain rfl : fl10 = false:=Gd.off qd10_7.out
     have rd29:=qf5.out.get
     refine wog hO (fun K' hK => ?_)
     refine zaF (x:=29) (k:=1) rfl rd29 rfl ?_
     exact hK.out _ _ ⟨hBi.out,true,true,true,true,fl6,true,fl8,fl9,false,A25,c25,A26,c26,A27,c27,ad8,by rfl,HKp.put (by decide) _,hBi.out,kq qf1.out fun h => (h),kq qf3.out fun h => (h),kq qf4.out fun h => (h),kq0 qf5.out,kq0 qf6.out,Gd.yes (zav (HKp.lt (by rw [hsz]; decide)) _),Gd.no,kq qf8.out id,fun _ => rfl,fun _ => rfl,fun _ => rfl,fun _ => rfl,fun _ => rfl,fun _ => rfl,fun _ => rfl,qd9_6,qd9_8,Gd.no,Gd.no⟩
    ·obtain rfl : fl8 = false:=zaf hi
     obtain rfl : fl9 = false:=Gd.off qd9_8.out
     obtain rfl : fl10 = false:=Gd.off qd10_9.out
     refine wog hO (fun K' hK => ?_)
     go_simp
     have hb:=zaT w' (.cells #[.slice none 0 0,.int .i64 0] 28)
     exact hK.out _ _ ⟨zaa hBi.out hb,fl1,fl3,fl4,fl5,fl6,fl7,true,false,false,A25,c25,A26,c26,A27,c27,w'.heap.size,by rfl,HKp.put (by decide) _,zaa hBi.out hb,kq qf1.out fun h => zap.keep (h) hb,kq qf3.out fun h => zap.keep (h) hb,kq qf4.out fun h => zap.keep (h) hb,kq0 qf5.out,kq0 qf6.out,kq0 qf7.out,Gd.no,Gd.yes ⟨zav (HKp.lt (by rw [hsz]; decide)) _,hBi.out.size,Blk.new w' _ _⟩,qd3_1,qd4_1,qd4_3,qd5_4,qd6_5,qd7_5,Gd.no,Gd.no,Gd.no,Gd.no,Gd.no⟩
    ·obtain rfl : fl9 = false:=zaf hi
     obtain rfl : fl1 = true:=rdp 1 4 hi hO
     obtain rfl : fl3 = true:=rdp 3 6 hi hO
     obtain rfl : fl4 = true:=rdp 4 2 hi hO
     obtain rfl : fl5 = true:=rdp 5 8 hi hO
     obtain rfl : fl6 = true:=rdp 6 1 hi hO
     obtain rfl : fl8 = true:=rdp 8 0 hi hO
     obtain rfl : fl10 = false:=Gd.off qd10_9.out
     have rd9:=qf8.out.get.1
     have rd35:=qf6.out.get
     obtain ⟨_,hg,hk⟩:=qf8.out.get
     have hk : Blk w' ad8 28 #[.slice none 0 0,.int .i64 0]:=hk
     obtain ⟨sc0,sf0,sc1,sf1⟩:=st2 hk (.slice A27 m1 c27)
     have hj1:=sn2 hk (.slice A27 m1 c27) (.int .i64 (N0 : Int))
     have hBn:=bl2 (.slice A27 m1 c27) (.int .i64 (N0 : Int)) hg hBi.out
     refine wog hO (fun K' hK => ?_)
     go_simp
     exact hK.out _ _ ⟨hBn,true,true,true,true,true,fl7,true,true,false,A25,c25,A26,c26,A27,c27,ad8,by rfl,HKp,hBn,qf1.out.mono fun h => ⟨h.1,zap.offz (h.2) hk _ _⟩,qf3.out.mono fun h => ⟨h.1,zap.offz (h.2) hk _ _⟩,qf4.out.mono fun h => ⟨h.1,zap.offz (h.2) hk _ _⟩,qf5.out.mono fun h => h,qf6.out.mono fun h => h,qf7.out.mono fun h => h,Gd.no,qf8.out.mono fun h => ⟨h.1,h.2.1,hj1⟩,fun _ => rfl,fun _ => rfl,fun _ => rfl,fun _ => rfl,fun _ => rfl,fun _ => rfl,fun _ => rfl,fun _ => rfl,fun _ => rfl,Gd.no,Gd.no⟩
    ·obtain rfl : fl10 = false:=zaf hi
     obtain rfl : fl1 = true:=rdp 1 3 hi hO
     obtain rfl : fl3 = true:=rdp 3 5 hi hO
     obtain rfl : fl4 = true:=rdp 4 6 hi hO
     obtain rfl : fl5 = true:=rdp 5 7 hi hO
     obtain rfl : fl6 = true:=rdp 6 8 hi hO
     obtain rfl : fl7 = true:=rdp 7 0 hi hO
     obtain rfl : fl8 = true:=rdp 8 10 hi hO
     obtain rfl : fl9 = true:=rdp 9 1 hi hO
     have rd36:=qf7.out.get
     refine wog hO (fun K' hK => ?_)
     refine zbq (x:=36) (Or.inr rfl) rd36 ?_
     exact hK.out _ _ ⟨hBi.out,true,true,true,true,true,true,true,true,true,A25,c25,A26,c26,A27,c27,ad8,by rfl,HKp.put (by decide) _,hBi.out,kq qf1.out fun h => (h),kq qf3.out fun h => (h),kq qf4.out fun h => (h),kq0 qf5.out,kq0 qf6.out,kq0 qf7.out,Gd.yes (zav (HKp.lt (by rw [hsz]; decide)) _),kq qf8.out id,fun _ => rfl,fun _ => rfl,fun _ => rfl,fun _ => rfl,fun _ => rfl,fun _ => rfl,fun _ => rfl,fun _ => rfl,fun _ => rfl,fun _ => rfl,fun _ => rfl⟩
  rintro a wm30 ⟨fl1,fl3,fl4,fl5,fl6,fl7,fl8,fl9,fl10,A25,c25,A26,c26,A27,c27,ad8,hl,HKp,hBi,qf1,qf3,qf4,qf5,qf6,qf7,qf10,qf8,qd3_1,qd4_1,qd4_3,qd5_4,qd6_5,qd7_5,qd9_4,qd9_6,qd9_8,qd10_7,qd10_9⟩
  have xx1 : fl1 = true:=gdl 1 hl
  subst xx1
  have xx3 : fl3 = true:=gdl 3 hl
  subst xx3
  have xx4 : fl4 = true:=gdl 4 hl
  subst xx4
  have xx5 : fl5 = true:=gdl 5 hl
  subst xx5
  have xx6 : fl6 = true:=gdl 6 hl
  subst xx6
  have xx7 : fl7 = true:=gdl 7 hl
  subst xx7
  have xx8 : fl8 = true:=gdl 8 hl
  subst xx8
  have xx9 : fl9 = true:=gdl 9 hl
  subst xx9
  have xx10 : fl10 = true:=gdl 10 hl
  subst xx10
  obtain ⟨rv1,hw1_0⟩:=qf1.out.get
  obtain ⟨rv3,hw3_0⟩:=qf3.out.get
  obtain ⟨rv4,hw4_0⟩:=qf4.out.get
  have rv5:=qf5.out.get
  have rv6:=qf6.out.get
  have rv7:=qf7.out.get
  have rv10:=qf10.out.get
  obtain ⟨rv8,hg8,hk8⟩:=qf8.out.get
  obtain rfl:=HKp.eq [(31,.agg #[.slice A25 m1 c25,.int .i64 (m0 : Int)]),(33,.agg #[.slice A26 m0 c26,.int .i64 (N0 : Int)]),(34,.tuple #[.agg #[.slice A27 m1 c27,.int .i64 (N0 : Int)],.bool true]),(29,.tuple #[.agg #[.slice A27 m1 c27,.int .i64 (N0 : Int)],.bool true]),(35,.agg #[.slice A27 m1 c27,.int .i64 (N0 : Int)]),(36,.bool true),(9,.pointer (some ⟨ad8,0,none⟩)),(10,.bool true)] rfl (by
   intro p hp
   simp only [List.mem_cons,List.not_mem_nil,or_false] at hp
   rcases hp with rfl | rfl | rfl | rfl | rfl | rfl | rfl | rfl
   ·exact rv1
   ·exact rv3
   ·exact rv4
   ·exact rv5
   ·exact rv6
   ·exact rv7
   ·exact rv8
   ·exact rv10)
  have hBv:=hBi.out
  clear hl hBi HKp qf1 qf3 qf4 qf5 qf6 qf7 qf10 qf8 qd3_1 qd4_1 qd4_3 qd5_4 qd6_5 qd7_5 qd9_4 qd9_6 qd9_8 qd10_7 qd10_9 rv1 rv3 rv4 rv5 rv6 rv7 rv8 rv10
  have hk8 : Blk wm30 ad8 28 #[.slice A27 m1 c27,.int .i64 (N0 : Int)]:=hk8
  rw [show due #[true,true,true,true,true,true,true,true,true,true,true] = 0 from rfl]
  simp only [zbL,List.foldl,Act.put,List.setIfInBounds_toArray,List.set_cons_zero,List.set_cons_succ]
  refine wpAnyH_done (by kernel_rfl) ?_ _
  refine NoPanic.normal ?_
  have HB:=lh9 (zaa HB.out hBv)
  have HM5:=lh9 (HM5.out.keep hBv)
  have HM6:=lh9 (HM6.out.keep hBv)
  have HK10:=lh9 (zac hBv HK10.out)
  have HK11:=lh9 (zac hBv HK11.out)
  have HM21:=lh9 (HM21.out.keep hBv)
  have HK23:=lh9 (zac hBv HK23.out)
  have HM25:=lh9 (hw1_0)
  have HM26:=lh9 (hw3_0)
  have HM27:=lh9 (hw4_0)
  obtain ⟨adx31,hga⟩ : ∃ x,x = ad8:=⟨_,rfl⟩
  subst hga
  have HK31:=lh9 (hk8)
  clear hBv GG hk8 hg8 hw1_0 hw3_0 hw4_0
  go_wp2_with fail
  obtain ⟨p32_0,p32_1⟩:=HK23.out.c2
  obtain ⟨p33_0,p33_1⟩:=HK31.out.c2
  have hbd:=(Below.refl wm30.heap.size wm30).drew
  have HB:=lh9 (zaa HB.out hbd)
  have HM5:=lh9 (HM5.out.keep hbd)
  have HM6:=lh9 (HM6.out.keep hbd)
  have HK10:=lh9 (zac hbd HK10.out)
  have HK11:=lh9 (zac hbd HK11.out)
  have HM21:=lh9 (HM21.out.keep hbd)
  have HK23:=lh9 (zac hbd HK23.out)
  have HM25:=lh9 (HM25.out.keep hbd)
  have HM26:=lh9 (HM26.out.keep hbd)
  have HM27:=lh9 (HM27.out.keep hbd)
  have HK31:=lh9 (zac hbd HK31.out)
  refine rg (csc p32_0 (csc p32_1 (csc p33_0 (csc p33_1 csn)))) (fun hHeld => ?_)
  clear hbd p32_0 p32_1 p33_0 p33_1
  generalize wm30.drew = D34 at *
  refine tk 0 ?_
  refine tk 1 ?_
  refine tk 2 ?_
  refine tk 3 ?_
  refine tk 4 ?_
  refine tk 5 ?_
  refine tk 6 ?_
  refine tk 7 ?_
  refine tk 9 ?_
  have HS35 : Hid (zas (19) (zaN N0 m1 (zbX N0 m0 m1 X0 X1))):=HS21.out.turn (zbQ _ _ _ _ _)
  refine rc 8 (fun KK hK => ?_)
  go_simp
  (with_reducible refine (zbK (HT.out _ HB.out) HM21.out HS21.out).mono ?_)
  rintro e X36 ⟨A35,c35,rfl,hm35,-,hb⟩
  refine hK.out _ _ (Cs.below hHeld hb) (fun hHeld => ?_)
  clear hK KK
  have HB:=lh9 (zaa HB.out hb)
  have HM5:=lh9 (HM5.out.keep hb)
  have HM6:=lh9 (HM6.out.keep hb)
  have HK10:=lh9 (zac hb HK10.out)
  have HK11:=lh9 (zac hb HK11.out)
  have HM21:=lh9 (HM21.out.keep hb)
  have HK23:=lh9 (zac hb HK23.out)
  have HM25:=lh9 (HM25.out.keep hb)
  have HM26:=lh9 (HM26.out.keep hb)
  have HM27:=lh9 (HM27.out.keep hb)
  have HK31:=lh9 (zac hb HK31.out)
  have HM35:=lh9 (hm35)
  clear hb hm35
  refine rc 10 (fun KK hK => ?_)
  go_simp
  (with_reducible refine (zej (t:=true) (decide_eq_true ⟨rfl,turn_mul HDX0.out⟩) (HT.out _ HB.out) HM35.out HM27.out HS35.out HS27.out).mono ?_)
  rintro e X37 ⟨rfl,hb⟩
  refine hK.out _ _ (Cs.below hHeld hb) (fun hHeld => ?_)
  clear hK KK
  have HB:=lh9 (zaa HB.out hb)
  have HM5:=lh9 (HM5.out.keep hb)
  have HM6:=lh9 (HM6.out.keep hb)
  have HK10:=lh9 (zac hb HK10.out)
  have HK11:=lh9 (zac hb HK11.out)
  have HM21:=lh9 (HM21.out.keep hb)
  have HK23:=lh9 (zac hb HK23.out)
  have HM25:=lh9 (HM25.out.keep hb)
  have HM26:=lh9 (HM26.out.keep hb)
  have HM27:=lh9 (HM27.out.keep hb)
  have HK31:=lh9 (zac hb HK31.out)
  have HM35:=lh9 (HM35.out.keep hb)
  clear hb 
  refine tk 11 ?_
  refine tk 12 ?_
  refine tk 13 ?_
  refine rdn ?_
  clear hHeld
  go_wp2
  go_ret
  exact ⟨rfl,HB.out⟩
 ·have HQ:=lh9 hq
  clear hq
  obtain ⟨p19_0,p19_1⟩:=HK10.out.c2
  obtain ⟨p20_0,p20_1⟩:=HK11.out.c2
  go_wp2_with fail
  clear p19_0 p19_1 p20_0 p20_1
  (with_reducible refine (zcZ HQ.out).mono ?_)
  rintro e X21 ⟨rfl,hb⟩
  have HB:=lh9 (zaa HB.out hb)
  have HM5:=lh9 (HM5.out.keep hb)
  have HM6:=lh9 (HM6.out.keep hb)
  have HK10:=lh9 (zac hb HK10.out)
  have HK11:=lh9 (zac hb HK11.out)
  clear hb 
  obtain ⟨bq0,bq1,-⟩:=zaz X21 28 #[.slice none 0 0,.int .i64 0]
  have HB:=lh9 (zaa HB.out bq0)
  have HM5:=lh9 (HM5.out.keep bq0)
  have HM6:=lh9 (HM6.out.keep bq0)
  have HK10:=lh9 (zac bq0 HK10.out)
  have HK11:=lh9 (zac bq0 HK11.out)
  have HK22:=lh9 (bq1)
  clear bq0 bq1
  go_wp2_with fail
  generalize X21.alloc (.cells #[.slice none 0 0,.int .i64 0] 28) = W23 at *
  generalize X21.heap.size = q23 at *
  have HS24 : Hid (zas (1) (zaN N1 m1 X1)):=HS6.out.turn HDX1.out
  have HS25 : Hid (zas (1) (zaN N0 m0 X0)):=HS5.out.turn HDX0.out
  obtain ⟨p26_0,p26_1⟩:=HK11.out.c2
  obtain ⟨p27_0,p27_1⟩:=HK10.out.c2
  have GG:=lh9 (fun w' (h : Below W23.heap.size W23 w') => (csc (zab h p26_0) (csc (zab h p26_1) (csc (zab h p27_0) (csc (zab h p27_1) csn)))))
  refine rgB (fun hHeld => ?_)
  clear p26_0 p26_1 p27_0 p27_1
  refine tl 0 GG.out ?_
  refine tl 2 GG.out ?_
  refine zaV (L:=#[true,true,true,true,true,true,true,true,true,true,true])
   (J:=fun a0 l a w' => ∃ (fl1 fl3 fl4 fl5 fl6 fl7 fl8 fl9 fl10 : Bool) (A24 : oA9) (c24 : Nat) (A25 : oA9) (c25 ad8 : Nat),l = #[true,fl1,true,fl3,fl4,fl5,fl6,fl7,fl8,fl9,fl10] ∧ zbW [31,33,34,29,35,36,9,10] a0 a ∧ Hid (Below W23.heap.size W23 w') ∧
     Hid (Gd fl1 (a.tmps.getD 31 undef = .agg #[.slice A24 m1 c24,.int .i64 (N1 : Int)] ∧ zap w' A24 m1 c24 N1 (zaN N1 m1 X1))) ∧
     Hid (Gd fl3 (a.tmps.getD 33 undef = .agg #[.slice A25 m0 c25,.int .i64 (N0 : Int)] ∧ zap w' A25 m0 c25 N0 (zaN N0 m0 X0))) ∧
     Hid (Gd fl4 (a.tmps.getD 34 undef = .tuple #[.agg #[.slice none 0 0,.int .i64 0],.bool false])) ∧
     Hid (Gd fl5 (a.tmps.getD 29 undef = .tuple #[.agg #[.slice none 0 0,.int .i64 0],.bool false])) ∧
     Hid (Gd fl6 (a.tmps.getD 35 undef = .agg #[.slice none 0 0,.int .i64 0])) ∧
     Hid (Gd fl7 (a.tmps.getD 36 undef = .bool false)) ∧
     Hid (Gd fl10 (a.tmps.getD 10 undef = .bool false)) ∧
     Hid (Gd fl8 (a.tmps.getD 9 undef = .pointer (some ⟨ad8,0,none⟩) ∧ W23.heap.size ≤ ad8 ∧ Blk w' ad8 28 (bif fl9 then #[.slice none 0 0,.int .i64 0] else #[.slice none 0 0,.int .i64 0]))) ∧
     Hid (Gd fl3 (fl1 = true)) ∧
     Hid (Gd fl4 (fl1 = true)) ∧
     Hid (Gd fl4 (fl3 = true)) ∧
     Hid (Gd fl5 (fl4 = true)) ∧
     Hid (Gd fl6 (fl5 = true)) ∧
     Hid (Gd fl7 (fl5 = true)) ∧
     Hid (Gd fl9 (fl4 = true)) ∧
     Hid (Gd fl9 (fl6 = true)) ∧
     Hid (Gd fl9 (fl8 = true)) ∧
     Hid (Gd fl10 (fl7 = true)) ∧
     Hid (Gd fl10 (fl9 = true)))
   (by rfl) ?_ ?_ ?_
  ·exact ⟨false,false,false,false,false,false,false,false,false,none,0,none,0,0,by kernel_rfl,zbW.refl _ _,hHeld,Gd.no,Gd.no,Gd.no,Gd.no,Gd.no,Gd.no,Gd.no,Gd.no,Gd.no,Gd.no,Gd.no,Gd.no,Gd.no,Gd.no,Gd.no,Gd.no,Gd.no,Gd.no,Gd.no⟩
  ·intro OPS Ac0 Q0 hO hAs hA
   have RB30 : Ac0.tmps.getD 30 undef = .agg #[.slice A6 N1 c6,.int .i64 (m1 : Int)]:=(hA 30 undef).trans (by kernel_rfl)
   have RB32 : Ac0.tmps.getD 32 undef = .agg #[.slice A5 N0 c5,.int .i64 (m0 : Int)]:=(hA 32 undef).trans (by kernel_rfl)
   have hsz : Ac0.tmps.size = 50:=hAs.trans (by kernel_rfl)
   clear hAs hA
   refine ⟨?_,?_⟩
   ·rintro l a w' ⟨fl1,fl3,fl4,fl5,fl6,fl7,fl8,fl9,fl10,A24,c24,A25,c25,ad8,rfl,-⟩ hr
    obtain rfl : fl1 = true:=als 1 hr hO
    obtain rfl : fl3 = true:=als 3 hr hO
    obtain rfl : fl4 = true:=als 4 hr hO
    obtain rfl : fl5 = true:=als 5 hr hO
    obtain rfl : fl6 = true:=als 6 hr hO
    obtain rfl : fl7 = true:=als 7 hr hO
    obtain rfl : fl8 = true:=als 8 hr hO
    obtain rfl : fl9 = true:=als 9 hr hO
    obtain rfl : fl10 = true:=als 10 hr hO
    rfl
   ·rintro l a w' i ⟨fl1,fl3,fl4,fl5,fl6,fl7,fl8,fl9,fl10,A24,c24,A25,c25,ad8,rfl,HKp,hBi,qf1,qf3,qf4,qf5,qf6,qf7,qf10,qf8,qd3_1,qd4_1,qd4_3,qd5_4,qd6_5,qd7_5,qd9_4,qd9_6,qd9_8,qd10_7,qd10_9⟩ hne hi
    have hlt : i < 11:=by have:=zbN hi; rw [hO] at this; exact this
    rcases (show i = 0 ∨ i = 1 ∨ i = 2 ∨ i = 3 ∨ i = 4 ∨ i = 5 ∨ i = 6 ∨ i = 7 ∨ i = 8 ∨ i = 9 ∨ i = 10 by omega) with rfl | rfl | rfl | rfl | rfl | rfl | rfl | rfl | rfl | rfl | rfl
    ·cases (zaf hi : true = false)
    ·obtain rfl : fl1 = false:=zaf hi
     obtain rfl : fl3 = false:=Gd.off qd3_1.out
     obtain rfl : fl4 = false:=Gd.off qd4_1.out
     obtain rfl : fl5 = false:=Gd.off qd5_4.out
     obtain rfl : fl6 = false:=Gd.off qd6_5.out
     obtain rfl : fl7 = false:=Gd.off qd7_5.out
     obtain rfl : fl9 = false:=Gd.off qd9_4.out
     obtain rfl : fl10 = false:=Gd.off qd10_7.out
     have rd30:=HKp.get 30 (by decide) RB30
     have HBn:=lh9 (zaa HB.out hBi.out)
     have HM6n:=lh9 (HM6.out.keep hBi.out)
     refine wog hO (fun K' hK => ?_)
     go_simp
     (with_reducible refine (zbK (HT.out _ HBn.out) HM6n.out HS6.out).mono ?_)
     rintro e w2 ⟨nA24,nc24,rfl,nhm24,-,hb⟩
     exact hK.out _ _ ⟨zaa hBi.out hb,true,false,false,false,false,false,fl8,false,false,nA24,nc24,A25,c25,ad8,by rfl,HKp.put (by decide) _,zaa hBi.out hb,Gd.yes ⟨zav (HKp.lt (by rw [hsz]; decide)) _,nhm24⟩,Gd.no,Gd.no,Gd.no,Gd.no,Gd.no,Gd.no,kq qf8.out fun h => ⟨h.1,zac hb h.2⟩,Gd.no,Gd.no,Gd.no,Gd.no,Gd.no,Gd.no,Gd.no,Gd.no,Gd.no,Gd.no,Gd.no⟩
    ·cases (zaf hi : true = false)
    ·obtain rfl : fl3 = false:=zaf hi
     obtain rfl : fl1 = true:=rdp 1 1 hi hO
     obtain rfl : fl4 = false:=Gd.off qd4_3.out
     obtain rfl : fl5 = false:=Gd.off qd5_4.out
     obtain rfl : fl6 = false:=Gd.off qd6_5.out
     obtain rfl : fl7 = false:=Gd.off qd7_5.out
     obtain rfl : fl9 = false:=Gd.off qd9_4.out
     obtain rfl : fl10 = false:=Gd.off qd10_7.out
     have rd32:=HKp.get 32 (by decide) RB32
     have hw1_0:=lh9 (qf1.out.get.2)
     have HBn:=lh9 (zaa HB.out hBi.out)
     have HM5n:=lh9 (HM5.out.keep hBi.out)
     refine wog hO (fun K' hK => ?_)
     go_simp
     (with_reducible refine (zbK (HT.out _ HBn.out) HM5n.out HS5.out).mono ?_)
     rintro e w2 ⟨nA25,nc25,rfl,nhm25,-,hb⟩
     exact hK.out _ _ ⟨zaa hBi.out hb,true,true,false,false,false,false,fl8,false,false,A24,c24,nA25,nc25,ad8,by rfl,HKp.put (by decide) _,zaa hBi.out hb,kq qf1.out fun h => zap.keep (h) hb,Gd.yes ⟨zav (HKp.lt (by rw [hsz]; decide)) _,nhm25⟩,Gd.no,Gd.no,Gd.no,Gd.no,Gd.no,kq qf8.out fun h => ⟨h.1,zac hb h.2⟩,fun _ => rfl,Gd.no,Gd.no,Gd.no,Gd.no,Gd.no,Gd.no,Gd.no,Gd.no,Gd.no,Gd.no⟩
    ·obtain rfl : fl4 = false:=zaf hi
     obtain rfl : fl1 = true:=rdp 1 0 hi hO
     obtain rfl : fl3 = true:=rdp 3 1 hi hO
     obtain rfl : fl5 = false:=Gd.off qd5_4.out
     obtain rfl : fl6 = false:=Gd.off qd6_5.out
     obtain rfl : fl7 = false:=Gd.off qd7_5.out
     obtain rfl : fl9 = false:=Gd.off qd9_4.out
     obtain rfl : fl10 = false:=Gd.off qd10_7.out
     have rd31:=qf1.out.get.1
     have rd33:=qf3.out.get.1
     have hw1_0:=lh9 (qf1.out.get.2)
     have hw3_0:=lh9 (qf3.out.get.2)
     have HBn:=lh9 (zaa HB.out hBi.out)
     refine wog hO (fun K' hK => ?_)
     go_simp
     (with_reducible refine (zcZ (Ne.symm HQ.out)).mono ?_)
     rintro e w2 ⟨rfl,hb⟩
     exact hK.out _ _ ⟨zaa hBi.out hb,true,true,true,false,false,false,fl8,false,false,A24,c24,A25,c25,ad8,by rfl,HKp.put (by decide) _,zaa hBi.out hb,kq qf1.out fun h => zap.keep (h) hb,kq qf3.out fun h => zap.keep (h) hb,Gd.yes (zav (HKp.lt (by rw [hsz]; decide)) _),Gd.no,Gd.no,Gd.no,Gd.no,kq qf8.out fun h => ⟨h.1,zac hb h.2⟩,fun _ => rfl,fun _ => rfl,fun _ => rfl,Gd.no,Gd.no,Gd.no,Gd.no,Gd.no,Gd.no,Gd.no,Gd.no⟩
    ·obtain rfl : fl5 = false:=zaf hi
     obtain rfl : fl4 = true:=rdp 4 0 hi hO
     obtain rfl : fl1 = true:=qd4_1.out.get
     obtain rfl : fl3 = true:=qd4_3.out.get
     obtain rfl : fl6 = false:=Gd.off qd6_5.out
     obtain rfl : fl7 = false:=Gd.off qd7_5.out
     obtain rfl : fl9 = false:=Gd.off qd9_6.out
     obtain rfl : fl10 = false:=Gd.off qd10_7.out
     have rd34:=qf4.out.get
     refine wog hO (fun K' hK => ?_)
     refine zbq (x:=34) (Or.inl rfl) rd34 ?_
     exact hK.out _ _ ⟨hBi.out,true,true,true,true,false,false,fl8,false,false,A24,c24,A25,c25,ad8,by rfl,HKp.put (by decide) _,hBi.out,kq qf1.out fun h => (h),kq qf3.out fun h => (h),kq0 qf4.out,Gd.yes (zav (HKp.lt (by rw [hsz]; decide)) _),Gd.no,Gd.no,Gd.no,kq qf8.out id,fun _ => rfl,fun _ => rfl,fun _ => rfl,fun _ => rfl,Gd.no,Gd.no,Gd.no,Gd.no,Gd.no,Gd.no,Gd.no⟩
    ·obtain rfl : fl6 = false:=zaf hi
     obtain rfl : fl5 = true:=rdp 5 0 hi hO
     obtain rfl : fl4 = true:=qd5_4.out.get
     obtain rfl : fl1 = true:=qd4_1.out.get
     obtain rfl : fl3 = true:=qd4_3.out.get
     obtain rfl : fl9 = false:=Gd.off qd9_6.out
     obtain rfl : fl10 = false:=Gd.off qd10_9.out
     have rd29:=qf5.out.get
     refine wog hO (fun K' hK => ?_)
     refine zaF (x:=29) (k:=0) rfl rd29 rfl ?_
     exact hK.out _ _ ⟨hBi.out,true,true,true,true,true,fl7,fl8,false,false,A24,c24,A25,c25,ad8,by rfl,HKp.put (by decide) _,hBi.out,kq qf1.out fun h => (h),kq qf3.out fun h => (h),kq0 qf4.out,kq0 qf5.out,Gd.yes (zav (HKp.lt (by rw [hsz]; decide)) _),kq0 qf7.out,Gd.no,kq qf8.out id,fun _ => rfl,fun _ => rfl,fun _ => rfl,fun _ => rfl,fun _ => rfl,fun _ => rfl,Gd.no,Gd.no,Gd.no,Gd.no,Gd.no⟩
    ·obtain rfl : fl7 = false:=zaf hi
     obtain rfl : fl5 = true:=rdp 5 0 hi hO
     obtain rfl : fl4 = true:=qd5_4.out.get
     obtain rfl : fl1 = true:=qd4_1.out.get
     obtain rfl : fl3 = true:=qd4_3.out.get
     obtain rfl : fl10 = false:=Gd.off qd10_7.out
     have rd29:=qf5.out.get
     refine wog hO (fun K' hK => ?_)
     refine zaF (x:=29) (k:=1) rfl rd29 rfl ?_
     exact hK.out _ _ ⟨hBi.out,true,true,true,true,fl6,true,fl8,fl9,false,A24,c24,A25,c25,ad8,by rfl,HKp.put (by decide) _,hBi.out,kq qf1.out fun h => (h),kq qf3.out fun h => (h),kq0 qf4.out,kq0 qf5.out,kq0 qf6.out,Gd.yes (zav (HKp.lt (by rw [hsz]; decide)) _),Gd.no,kq qf8.out id,fun _ => rfl,fun _ => rfl,fun _ => rfl,fun _ => rfl,fun _ => rfl,fun _ => rfl,fun _ => rfl,qd9_6,qd9_8,Gd.no,Gd.no⟩
    ·obtain rfl : fl8 = false:=zaf hi
     obtain rfl : fl9 = false:=Gd.off qd9_8.out
     obtain rfl : fl10 = false:=Gd.off qd10_9.out
     refine wog hO (fun K' hK => ?_)
     go_simp
     have hb:=zaT w' (.cells #[.slice none 0 0,.int .i64 0] 28)
     exact hK.out _ _ ⟨zaa hBi.out hb,fl1,fl3,fl4,fl5,fl6,fl7,true,false,false,A24,c24,A25,c25,w'.heap.size,by rfl,HKp.put (by decide) _,zaa hBi.out hb,kq qf1.out fun h => zap.keep (h) hb,kq qf3.out fun h => zap.keep (h) hb,kq0 qf4.out,kq0 qf5.out,kq0 qf6.out,kq0 qf7.out,Gd.no,Gd.yes ⟨zav (HKp.lt (by rw [hsz]; decide)) _,hBi.out.size,Blk.new w' _ _⟩,qd3_1,qd4_1,qd4_3,qd5_4,qd6_5,qd7_5,Gd.no,Gd.no,Gd.no,Gd.no,Gd.no⟩
    ·obtain rfl : fl9 = false:=zaf hi
     obtain rfl : fl1 = true:=rdp 1 4 hi hO
     obtain rfl : fl3 = true:=rdp 3 6 hi hO
     obtain rfl : fl4 = true:=rdp 4 2 hi hO
     obtain rfl : fl5 = true:=rdp 5 8 hi hO
     obtain rfl : fl6 = true:=rdp 6 1 hi hO
     obtain rfl : fl8 = true:=rdp 8 0 hi hO
     obtain rfl : fl10 = false:=Gd.off qd10_9.out
     have rd9:=qf8.out.get.1
     have rd35:=qf6.out.get
     obtain ⟨_,hg,hk⟩:=qf8.out.get
     have hk : Blk w' ad8 28 #[.slice none 0 0,.int .i64 0]:=hk
     obtain ⟨sc0,sf0,sc1,sf1⟩:=st2 hk (.slice none 0 0)
     have hj1:=sn2 hk (.slice none 0 0) (.int .i64 0)
     have hBn:=bl2 (.slice none 0 0) (.int .i64 0) hg hBi.out
     refine wog hO (fun K' hK => ?_)
     go_simp
     exact hK.out _ _ ⟨hBn,true,true,true,true,true,fl7,true,true,false,A24,c24,A25,c25,ad8,by rfl,HKp,hBn,qf1.out.mono fun h => ⟨h.1,zap.offz (h.2) hk _ _⟩,qf3.out.mono fun h => ⟨h.1,zap.offz (h.2) hk _ _⟩,qf4.out.mono fun h => h,qf5.out.mono fun h => h,qf6.out.mono fun h => h,qf7.out.mono fun h => h,Gd.no,qf8.out.mono fun h => ⟨h.1,h.2.1,hj1⟩,fun _ => rfl,fun _ => rfl,fun _ => rfl,fun _ => rfl,fun _ => rfl,fun _ => rfl,fun _ => rfl,fun _ => rfl,fun _ => rfl,Gd.no,Gd.no⟩
    ·obtain rfl : fl10 = false:=zaf hi
     obtain rfl : fl1 = true:=rdp 1 3 hi hO
     obtain rfl : fl3 = true:=rdp 3 5 hi hO
     obtain rfl : fl4 = true:=rdp 4 6 hi hO
     obtain rfl : fl5 = true:=rdp 5 7 hi hO
     obtain rfl : fl6 = true:=rdp 6 8 hi hO
     obtain rfl : fl7 = true:=rdp 7 0 hi hO
     obtain rfl : fl8 = true:=rdp 8 10 hi hO
     obtain rfl : fl9 = true:=rdp 9 1 hi hO
     have rd36:=qf7.out.get
     refine wog hO (fun K' hK => ?_)
     refine zbq (x:=36) (Or.inr rfl) rd36 ?_
     exact hK.out _ _ ⟨hBi.out,true,true,true,true,true,true,true,true,true,A24,c24,A25,c25,ad8,by rfl,HKp.put (by decide) _,hBi.out,kq qf1.out fun h => (h),kq qf3.out fun h => (h),kq0 qf4.out,kq0 qf5.out,kq0 qf6.out,kq0 qf7.out,Gd.yes (zav (HKp.lt (by rw [hsz]; decide)) _),kq qf8.out id,fun _ => rfl,fun _ => rfl,fun _ => rfl,fun _ => rfl,fun _ => rfl,fun _ => rfl,fun _ => rfl,fun _ => rfl,fun _ => rfl,fun _ => rfl,fun _ => rfl⟩
  rintro a wm28 ⟨fl1,fl3,fl4,fl5,fl6,fl7,fl8,fl9,fl10,A24,c24,A25,c25,ad8,hl,HKp,hBi,qf1,qf3,qf4,qf5,qf6,qf7,qf10,qf8,qd3_1,qd4_1,qd4_3,qd5_4,qd6_5,qd7_5,qd9_4,qd9_6,qd9_8,qd10_7,qd10_9⟩
  have xx1 : fl1 = true:=gdl 1 hl
  subst xx1
  have xx3 : fl3 = true:=gdl 3 hl
  subst xx3
  have xx4 : fl4 = true:=gdl 4 hl
  subst xx4
  have xx5 : fl5 = true:=gdl 5 hl
  subst xx5
  have xx6 : fl6 = true:=gdl 6 hl
  subst xx6
  have xx7 : fl7 = true:=gdl 7 hl
  subst xx7
  have xx8 : fl8 = true:=gdl 8 hl
  subst xx8
  have xx9 : fl9 = true:=gdl 9 hl
  subst xx9
  have xx10 : fl10 = true:=gdl 10 hl
  subst xx10
  obtain ⟨rv1,hw1_0⟩:=qf1.out.get
  obtain ⟨rv3,hw3_0⟩:=qf3.out.get
  have rv4:=qf4.out.get
  have rv5:=qf5.out.get
  have rv6:=qf6.out.get
  have rv7:=qf7.out.get
  have rv10:=qf10.out.get
  obtain ⟨rv8,hg8,hk8⟩:=qf8.out.get
  obtain rfl:=HKp.eq [(31,.agg #[.slice A24 m1 c24,.int .i64 (N1 : Int)]),(33,.agg #[.slice A25 m0 c25,.int .i64 (N0 : Int)]),(34,.tuple #[.agg #[.slice none 0 0,.int .i64 0],.bool false]),(29,.tuple #[.agg #[.slice none 0 0,.int .i64 0],.bool false]),(35,.agg #[.slice none 0 0,.int .i64 0]),(36,.bool false),(9,.pointer (some ⟨ad8,0,none⟩)),(10,.bool false)] rfl (by
   intro p hp
   simp only [List.mem_cons,List.not_mem_nil,or_false] at hp
   rcases hp with rfl | rfl | rfl | rfl | rfl | rfl | rfl | rfl
   ·exact rv1
   ·exact rv3
   ·exact rv4
   ·exact rv5
   ·exact rv6
   ·exact rv7
   ·exact rv8
   ·exact rv10)
  have hBv:=hBi.out
  clear hl hBi HKp qf1 qf3 qf4 qf5 qf6 qf7 qf10 qf8 qd3_1 qd4_1 qd4_3 qd5_4 qd6_5 qd7_5 qd9_4 qd9_6 qd9_8 qd10_7 qd10_9 rv1 rv3 rv4 rv5 rv6 rv7 rv8 rv10
  have hk8 : Blk wm28 ad8 28 #[.slice none 0 0,.int .i64 0]:=hk8
  rw [show due #[true,true,true,true,true,true,true,true,true,true,true] = 0 from rfl]
  simp only [zbL,List.foldl,Act.put,List.setIfInBounds_toArray,List.set_cons_zero,List.set_cons_succ]
  refine wpAnyH_done (by kernel_rfl) ?_ _
  refine NoPanic.normal ?_
  have HB:=lh9 (zaa HB.out hBv)
  have HM5:=lh9 (HM5.out.keep hBv)
  have HM6:=lh9 (HM6.out.keep hBv)
  have HK10:=lh9 (zac hBv HK10.out)
  have HK11:=lh9 (zac hBv HK11.out)
  have HK22:=lh9 (zac hBv HK22.out)
  have HM24:=lh9 (hw1_0)
  have HM25:=lh9 (hw3_0)
  obtain ⟨adx29,hga⟩ : ∃ x,x = ad8:=⟨_,rfl⟩
  subst hga
  have HK29:=lh9 (hk8)
  clear hBv GG hk8 hg8 hw1_0 hw3_0
  go_wp2_with fail
  have hbd:=(Below.refl wm28.heap.size wm28).drew
  have HB:=lh9 (zaa HB.out hbd)
  have HM5:=lh9 (HM5.out.keep hbd)
  have HM6:=lh9 (HM6.out.keep hbd)
  have HK10:=lh9 (zac hbd HK10.out)
  have HK11:=lh9 (zac hbd HK11.out)
  have HK22:=lh9 (zac hbd HK22.out)
  have HM24:=lh9 (HM24.out.keep hbd)
  have HM25:=lh9 (HM25.out.keep hbd)
  have HK29:=lh9 (zac hbd HK29.out)
  refine rg csn (fun hHeld => ?_)
  clear hbd
  generalize wm28.drew = D30 at *
  refine tk 0 ?_
  refine tk 1 ?_
  refine tk 2 ?_
  refine tk 3 ?_
  refine tk 4 ?_
  refine tk 5 ?_
  refine tk 6 ?_
  refine tu 7 ?_
  refine tu 8 ?_
  refine tu 9 ?_
  refine tu 10 ?_
  refine tk 11 ?_
  refine tk 12 ?_
  refine tk 13 ?_
  refine rdn ?_
  clear hHeld
  go_wp2
  go_ret
  exact ⟨rfl,HB.out⟩
end Go.Proofs.YtedbgdlbgohiiaaGreatDoor
