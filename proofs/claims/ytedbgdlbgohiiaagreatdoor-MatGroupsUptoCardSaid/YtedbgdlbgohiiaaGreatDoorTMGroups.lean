/- What this claim leans on. -/
import Derived.Test.YtedbgdlbgohiiaaGreatDoorTMAwake
namespace Go.Proofs.YtedbgdlbgohiiaaGreatDoor
open Go Go.RowKit
set_option maxHeartbeats 16000000
set_option maxRecDepth 100000
set_option linter.unusedVariables false
set_option linter.unusedSimpArgs false
theorem matGroups_core (z0 : Nat) (A0 : oA9) (n0 c0 : Nat) (R0 : zfh) (z1 : Nat) (A1 : oA9) (n1 c1 : Nat) (R1 : zfh) (z2 : Nat) (A2 : oA9) (n2 c2 : Nat) (R2 : zfh) (w : World) (hz0 : z0 ≤ 255) (h0 : zaK w A0 n0 c0 R0) (hz1 : z1 ≤ 255) (h1 : zaK w A1 n1 c1 R1) (hz2 : z2 ≤ 255) (h2 : zaK w A2 n2 c2 R2) (hT : zak w) :
  Calls Tryz.prog 7 #[.agg #[.int .u8 (z0 : Int),.slice A0 n0 c0],.agg #[.int .u8 (z1 : Int),.slice A1 n1 c1],.agg #[.int .u8 (z2 : Int),.slice A2 n2 c2]] w fun e w' => e = .returned (.bool true) ∧ Below w.heap.size w w':=by
 have HMK0:=lh9 (fun W (hb : Below w.heap.size w W) => zcY (hT.on hb) hz0 (h0.below hb))
 have HSX0:=lh9 (zdx (m:=z0 % 7) h0 (Nat.min_le_left n0 6))
 have HDX0:=lh9 (zct (z0 % 7) R0 (min n0 6))
 obtain ⟨m0,hm0⟩ : ∃ m,z0 % 7 = m:=⟨_,rfl⟩
 obtain ⟨N0,hN0⟩ : ∃ N,min n0 6 = N:=⟨_,rfl⟩
 have bm0 : m0 ≤ 6:=by omega
 have bN0 : N0 ≤ 6:=by omega
 rw [hm0,hN0] at HMK0 HSX0 HDX0
 obtain ⟨X0,hX0⟩ : ∃ X,zeh m0 R0 N0 = X:=⟨_,rfl⟩
 rw [hX0] at HMK0 HSX0 HDX0
 have HMK1:=lh9 (fun W (hb : Below w.heap.size w W) => zcY (hT.on hb) hz1 (h1.below hb))
 have HSX1:=lh9 (zdx (m:=z1 % 7) h1 (Nat.min_le_left n1 6))
 have HDX1:=lh9 (zct (z1 % 7) R1 (min n1 6))
 obtain ⟨m1,hm1⟩ : ∃ m,z1 % 7 = m:=⟨_,rfl⟩
 obtain ⟨N1,hN1⟩ : ∃ N,min n1 6 = N:=⟨_,rfl⟩
 have bm1 : m1 ≤ 6:=by omega
 have bN1 : N1 ≤ 6:=by omega
 rw [hm1,hN1] at HMK1 HSX1 HDX1
 obtain ⟨X1,hX1⟩ : ∃ X,zeh m1 R1 N1 = X:=⟨_,rfl⟩
 rw [hX1] at HMK1 HSX1 HDX1
 have HMK2:=lh9 (fun W (hb : Below w.heap.size w W) => zcY (hT.on hb) hz2 (h2.below hb))
 have HSX2:=lh9 (zdx (m:=z2 % 7) h2 (Nat.min_le_left n2 6))
 have HDX2:=lh9 (zct (z2 % 7) R2 (min n2 6))
 obtain ⟨m2,hm2⟩ : ∃ m,z2 % 7 = m:=⟨_,rfl⟩
 obtain ⟨N2,hN2⟩ : ∃ N,min n2 6 = N:=⟨_,rfl⟩
 have bm2 : m2 ≤ 6:=by omega
 have bN2 : N2 ≤ 6:=by omega
 rw [hm2,hN2] at HMK2 HSX2 HDX2
 obtain ⟨X2,hX2⟩ : ∃ X,zeh m2 R2 N2 = X:=⟨_,rfl⟩
 rw [hX2] at HMK2 HSX2 HDX2
 have HT:=lh9 (fun w' (hb : Below w.heap.size w w') => hT.on hb)
 have HB:=lh9 (Below.refl w.heap.size w)
 clear hT h0 hz0 h1 hz1 h2 hz2 hm0 hN0 hX0 hm1 hN1 hX1 hm2 hN2 hX2
 go_enter Tryz.func7,Tryz.ntmps7
 obtain ⟨bq0,bq1,bq2,bq3,-⟩:=zbd w 24 24 24 #[.int .u8 (z0 : Int),.slice A0 n0 c0] #[.int .u8 (z1 : Int),.slice A1 n1 c1] #[.int .u8 (z2 : Int),.slice A2 n2 c2]
 have HB:=lh9 (zaa HB.out bq0)
 have HK1:=lh9 (bq1)
 have HK2:=lh9 (bq2)
 have HK3:=lh9 (bq3)
 clear bq0 bq1 bq2 bq3
 go_wp2_with fail
 generalize ((w.alloc (.cells #[.int .u8 (z0 : Int),.slice A0 n0 c0] 24)).alloc (.cells #[.int .u8 (z1 : Int),.slice A1 n1 c1] 24)).alloc (.cells #[.int .u8 (z2 : Int),.slice A2 n2 c2] 24) = W4 at *
 (with_reducible refine (zfZ (HT.out _ HB.out)).mono ?_)
 rintro e X5 ⟨rfl,hb⟩
 have HB:=lh9 (zaa HB.out hb)
 have HK1:=lh9 (zac hb HK1.out)
 have HK2:=lh9 (zac hb HK2.out)
 have HK3:=lh9 (zac hb HK3.out)
 clear hb 
 go_wp2_with fail
 have HS6 : Hid (zas (1) (X0)):=HSX0.out
 have HS7 : Hid (zas (1) (X1)):=HSX1.out
 have HS8 : Hid (zas (1) (X2)):=HSX2.out
 obtain ⟨p9_0,p9_1⟩:=HK1.out.c2
 obtain ⟨p10_0,p10_1⟩:=HK2.out.c2
 obtain ⟨p11_0,p11_1⟩:=HK3.out.c2
 have GG:=lh9 (fun w' (h : Below X5.heap.size X5 w') => (csc (zab h p9_0) (csc (zab h p9_1) (csc (zab h p10_0) (csc (zab h p10_1) (csc (zab h p11_0) (csc (zab h p11_1) csn)))))))
 refine rgB (fun hHeld => ?_)
 clear p9_0 p9_1 p10_0 p10_1 p11_0 p11_1
 refine tl 0 GG.out ?_
 refine tl 2 GG.out ?_
 refine tl 4 GG.out ?_
 refine zaV (L:=#[true,true,true,true,true,true,true,true,true,true,true,true])
  (J:=fun a0 l a w' => ∃ (fl1 fl3 fl5 fl6 fl7 fl8 fl9 fl10 fl11 : Bool) (A6 : oA9) (c6 : Nat) (A7 : oA9) (c7 : Nat) (A8 : oA9) (c8 ad6 ad7 ad8 : Nat),l = #[true,fl1,true,fl3,true,fl5,fl6,fl7,fl8,fl9,fl10,fl11] ∧ zbW [25,27,29,7,8,9] a0 a ∧ Hid (Below X5.heap.size X5 w') ∧
    Hid (Gd fl1 (a.tmps.getD 25 undef = .agg #[.slice A6 N0 c6,.int .i64 (m0 : Int)] ∧ zap w' A6 N0 c6 m0 (X0))) ∧
    Hid (Gd fl3 (a.tmps.getD 27 undef = .agg #[.slice A7 N1 c7,.int .i64 (m1 : Int)] ∧ zap w' A7 N1 c7 m1 (X1))) ∧
    Hid (Gd fl5 (a.tmps.getD 29 undef = .agg #[.slice A8 N2 c8,.int .i64 (m2 : Int)] ∧ zap w' A8 N2 c8 m2 (X2))) ∧
    Hid (Gd fl6 (a.tmps.getD 7 undef = .pointer (some ⟨ad6,0,none⟩) ∧ X5.heap.size ≤ ad6 ∧ Blk w' ad6 28 (bif fl9 then #[.slice A6 N0 c6,.int .i64 (m0 : Int)] else #[.slice none 0 0,.int .i64 0]))) ∧
    Hid (Gd fl7 (a.tmps.getD 8 undef = .pointer (some ⟨ad7,0,none⟩) ∧ X5.heap.size ≤ ad7 ∧ Blk w' ad7 28 (bif fl10 then #[.slice A7 N1 c7,.int .i64 (m1 : Int)] else #[.slice none 0 0,.int .i64 0]))) ∧
    Hid (Gd fl8 (a.tmps.getD 9 undef = .pointer (some ⟨ad8,0,none⟩) ∧ X5.heap.size ≤ ad8 ∧ Blk w' ad8 28 (bif fl11 then #[.slice A8 N2 c8,.int .i64 (m2 : Int)] else #[.slice none 0 0,.int .i64 0]))) ∧
    Hid (Gd fl6 (Gd fl7 (ad6 ≠ ad7))) ∧
    Hid (Gd fl6 (Gd fl8 (ad6 ≠ ad8))) ∧
    Hid (Gd fl7 (Gd fl8 (ad7 ≠ ad8))) ∧
    Hid (Gd fl3 (fl1 = true)) ∧
    Hid (Gd fl5 (fl3 = true)) ∧
    Hid (Gd fl9 (fl1 = true)) ∧
    Hid (Gd fl9 (fl5 = true)) ∧
    Hid (Gd fl9 (fl6 = true)) ∧
    Hid (Gd fl10 (fl3 = true)) ∧
    Hid (Gd fl10 (fl7 = true)) ∧
    Hid (Gd fl10 (fl9 = true)) ∧
    Hid (Gd fl11 (fl5 = true)) ∧
    Hid (Gd fl11 (fl8 = true)) ∧
    Hid (Gd fl11 (fl10 = true)))
  (by rfl) ?_ ?_ ?_
 ·exact ⟨false,false,false,false,false,false,false,false,false,none,0,none,0,none,0,0,0,0,by kernel_rfl,zbW.refl _ _,hHeld,Gd.no,Gd.no,Gd.no,Gd.no,Gd.no,Gd.no,Gd.no,Gd.no,Gd.no,Gd.no,Gd.no,Gd.no,Gd.no,Gd.no,Gd.no,Gd.no,Gd.no,Gd.no,Gd.no,Gd.no⟩
 ·intro OPS Ac0 Q0 hO hAs hA
  have RB24 : Ac0.tmps.getD 24 undef = .agg #[.int .u8 (z0 : Int),.slice A0 n0 c0]:=(hA 24 undef).trans (by kernel_rfl)
  have RB26 : Ac0.tmps.getD 26 undef = .agg #[.int .u8 (z1 : Int),.slice A1 n1 c1]:=(hA 26 undef).trans (by kernel_rfl)
  have RB28 : Ac0.tmps.getD 28 undef = .agg #[.int .u8 (z2 : Int),.slice A2 n2 c2]:=(hA 28 undef).trans (by kernel_rfl)
  have hsz : Ac0.tmps.size = 93:=hAs.trans (by kernel_rfl)
  clear hAs hA
  refine ⟨?_,?_⟩
  ·rintro l a w' ⟨fl1,fl3,fl5,fl6,fl7,fl8,fl9,fl10,fl11,A6,c6,A7,c7,A8,c8,ad6,ad7,ad8,rfl,-⟩ hr
   obtain rfl : fl1 = true:=als 1 hr hO
   obtain rfl : fl3 = true:=als 3 hr hO
   obtain rfl : fl5 = true:=als 5 hr hO
   obtain rfl : fl6 = true:=als 6 hr hO
   obtain rfl : fl7 = true:=als 7 hr hO
   obtain rfl : fl8 = true:=als 8 hr hO
   obtain rfl : fl9 = true:=als 9 hr hO
   obtain rfl : fl10 = true:=als 10 hr hO
   obtain rfl : fl11 = true:=als 11 hr hO
   rfl
  ·rintro l a w' i ⟨fl1,fl3,fl5,fl6,fl7,fl8,fl9,fl10,fl11,A6,c6,A7,c7,A8,c8,ad6,ad7,ad8,rfl,HKp,hBi,qf1,qf3,qf5,qf6,qf7,qf8,qn6_7,qn6_8,qn7_8,qd3_1,qd5_3,qd9_1,qd9_5,qd9_6,qd10_3,qd10_7,qd10_9,qd11_5,qd11_8,qd11_10⟩ hne hi
   have hlt : i < 12:=by have:=zbN hi; rw [hO] at this; exact this
   rcases (show i = 0 ∨ i = 1 ∨ i = 2 ∨ i = 3 ∨ i = 4 ∨ i = 5 ∨ i = 6 ∨ i = 7 ∨ i = 8 ∨ i = 9 ∨ i = 10 ∨ i = 11 by omega) with rfl | rfl | rfl | rfl | rfl | rfl | rfl | rfl | rfl | rfl | rfl | rfl
   ·cases (zaf hi : true = false)
   ·obtain rfl : fl1 = false:=zaf hi
    obtain rfl : fl3 = false:=Gd.off qd3_1.out
    obtain rfl : fl5 = false:=Gd.off qd5_3.out
    obtain rfl : fl9 = false:=Gd.off qd9_1.out
    obtain rfl : fl10 = false:=Gd.off qd10_3.out
    obtain rfl : fl11 = false:=Gd.off qd11_5.out
    have rd24:=HKp.get 24 (by decide) RB24
    have HBn:=lh9 (zaa HB.out hBi.out)
    refine wog hO (fun K' hK => ?_)
    go_simp
    (with_reducible refine (HMK0.out _ HBn.out).mono ?_)
    rintro e w2 ⟨nA6,nc6,rfl,nhm6,-,hb⟩
    exact hK.out _ _ ⟨zaa hBi.out hb,true,false,false,fl6,fl7,fl8,false,false,false,nA6,nc6,A7,c7,A8,c8,ad6,ad7,ad8,by rfl,HKp.put (by decide) _,zaa hBi.out hb,Gd.yes ⟨zav (HKp.lt (by rw [hsz]; decide)) _,nhm6⟩,Gd.no,Gd.no,kq qf6.out fun h => ⟨h.1,zac hb h.2⟩,kq qf7.out fun h => ⟨h.1,zac hb h.2⟩,kq qf8.out fun h => ⟨h.1,zac hb h.2⟩,qn6_7,qn6_8,qn7_8,Gd.no,Gd.no,Gd.no,Gd.no,Gd.no,Gd.no,Gd.no,Gd.no,Gd.no,Gd.no,Gd.no⟩
   ·cases (zaf hi : true = false)
   ·obtain rfl : fl3 = false:=zaf hi
    obtain rfl : fl1 = true:=rdp 1 1 hi hO
    obtain rfl : fl5 = false:=Gd.off qd5_3.out
    obtain rfl : fl9 = false:=Gd.off qd9_5.out
    obtain rfl : fl10 = false:=Gd.off qd10_3.out
    obtain rfl : fl11 = false:=Gd.off qd11_5.out
    have rd26:=HKp.get 26 (by decide) RB26
    have hw1_0:=lh9 (qf1.out.get.2)
    have HBn:=lh9 (zaa HB.out hBi.out)
    refine wog hO (fun K' hK => ?_)
    go_simp
    (with_reducible refine (HMK1.out _ HBn.out).mono ?_)
    rintro e w2 ⟨nA7,nc7,rfl,nhm7,-,hb⟩
    exact hK.out _ _ ⟨zaa hBi.out hb,true,true,false,fl6,fl7,fl8,false,false,false,A6,c6,nA7,nc7,A8,c8,ad6,ad7,ad8,by rfl,HKp.put (by decide) _,zaa hBi.out hb,kq qf1.out fun h => zap.keep (h) hb,Gd.yes ⟨zav (HKp.lt (by rw [hsz]; decide)) _,nhm7⟩,Gd.no,kq qf6.out fun h => ⟨h.1,zac hb h.2⟩,kq qf7.out fun h => ⟨h.1,zac hb h.2⟩,kq qf8.out fun h => ⟨h.1,zac hb h.2⟩,qn6_7,qn6_8,qn7_8,fun _ => rfl,Gd.no,Gd.no,Gd.no,Gd.no,Gd.no,Gd.no,Gd.no,Gd.no,Gd.no,Gd.no⟩
   ·cases (zaf hi : true = false)
   ·obtain rfl : fl5 = false:=zaf hi
    obtain rfl : fl3 = true:=rdp 3 1 hi hO
    obtain rfl : fl1 = true:=qd3_1.out.get
    obtain rfl : fl9 = false:=Gd.off qd9_5.out
    obtain rfl : fl10 = false:=Gd.off qd10_9.out
    obtain rfl : fl11 = false:=Gd.off qd11_5.out
    have rd28:=HKp.get 28 (by decide) RB28
    have hw1_0:=lh9 (qf1.out.get.2)
    have hw3_0:=lh9 (qf3.out.get.2)
    have HBn:=lh9 (zaa HB.out hBi.out)
    refine wog hO (fun K' hK => ?_)
    go_simp
    (with_reducible refine (HMK2.out _ HBn.out).mono ?_)
    rintro e w2 ⟨nA8,nc8,rfl,nhm8,-,hb⟩
    exact hK.out _ _ ⟨zaa hBi.out hb,true,true,true,fl6,fl7,fl8,false,false,false,A6,c6,A7,c7,nA8,nc8,ad6,ad7,ad8,by rfl,HKp.put (by decide) _,zaa hBi.out hb,kq qf1.out fun h => zap.keep (h) hb,kq qf3.out fun h => zap.keep (h) hb,Gd.yes ⟨zav (HKp.lt (by rw [hsz]; decide)) _,nhm8⟩,kq qf6.out fun h => ⟨h.1,zac hb h.2⟩,kq qf7.out fun h => ⟨h.1,zac hb h.2⟩,kq qf8.out fun h => ⟨h.1,zac hb h.2⟩,qn6_7,qn6_8,qn7_8,fun _ => rfl,fun _ => rfl,Gd.no,Gd.no,Gd.no,Gd.no,Gd.no,Gd.no,Gd.no,Gd.no,Gd.no⟩
   ·obtain rfl : fl6 = false:=zaf hi
    obtain rfl : fl9 = false:=Gd.off qd9_6.out
    obtain rfl : fl10 = false:=Gd.off qd10_9.out
    obtain rfl : fl11 = false:=Gd.off qd11_10.out
    refine wog hO (fun K' hK => ?_)
    go_simp
    have hb:=zaT w' (.cells #[.slice none 0 0,.int .i64 0] 28)
    exact hK.out _ _ ⟨zaa hBi.out hb,fl1,fl3,fl5,true,fl7,fl8,false,false,false,A6,c6,A7,c7,A8,c8,w'.heap.size,ad7,ad8,by rfl,HKp.put (by decide) _,zaa hBi.out hb,kq qf1.out fun h => zap.keep (h) hb,kq qf3.out fun h => zap.keep (h) hb,kq qf5.out fun h => zap.keep (h) hb,Gd.yes ⟨zav (HKp.lt (by rw [hsz]; decide)) _,hBi.out.size,Blk.new w' _ _⟩,kq qf7.out fun h => ⟨h.1,zac hb h.2⟩,kq qf8.out fun h => ⟨h.1,zac hb h.2⟩,Gd.yes (qf7.out.mono fun h => by have:=Blk.lt h.2.2; omega),Gd.yes (qf8.out.mono fun h => by have:=Blk.lt h.2.2; omega),qn7_8,qd3_1,qd5_3,Gd.no,Gd.no,Gd.no,Gd.no,Gd.no,Gd.no,Gd.no,Gd.no,Gd.no⟩
   ·obtain rfl : fl7 = false:=zaf hi
    obtain rfl : fl10 = false:=Gd.off qd10_7.out
    obtain rfl : fl11 = false:=Gd.off qd11_10.out
    refine wog hO (fun K' hK => ?_)
    go_simp
    have hb:=zaT w' (.cells #[.slice none 0 0,.int .i64 0] 28)
    exact hK.out _ _ ⟨zaa hBi.out hb,fl1,fl3,fl5,fl6,true,fl8,fl9,false,false,A6,c6,A7,c7,A8,c8,ad6,w'.heap.size,ad8,by rfl,HKp.put (by decide) _,zaa hBi.out hb,kq qf1.out fun h => zap.keep (h) hb,kq qf3.out fun h => zap.keep (h) hb,kq qf5.out fun h => zap.keep (h) hb,kq qf6.out fun h => ⟨h.1,zac hb h.2⟩,Gd.yes ⟨zav (HKp.lt (by rw [hsz]; decide)) _,hBi.out.size,Blk.new w' _ _⟩,kq qf8.out fun h => ⟨h.1,zac hb h.2⟩,qf6.out.mono fun h => Gd.yes (by have:=Blk.lt h.2.2; omega),qn6_8,Gd.yes (qf8.out.mono fun h => by have:=Blk.lt h.2.2; omega),qd3_1,qd5_3,qd9_1,qd9_5,qd9_6,Gd.no,Gd.no,Gd.no,Gd.no,Gd.no,Gd.no⟩
   ·obtain rfl : fl8 = false:=zaf hi
    obtain rfl : fl11 = false:=Gd.off qd11_8.out
    refine wog hO (fun K' hK => ?_)
    go_simp
    have hb:=zaT w' (.cells #[.slice none 0 0,.int .i64 0] 28)
    exact hK.out _ _ ⟨zaa hBi.out hb,fl1,fl3,fl5,fl6,fl7,true,fl9,fl10,false,A6,c6,A7,c7,A8,c8,ad6,ad7,w'.heap.size,by rfl,HKp.put (by decide) _,zaa hBi.out hb,kq qf1.out fun h => zap.keep (h) hb,kq qf3.out fun h => zap.keep (h) hb,kq qf5.out fun h => zap.keep (h) hb,kq qf6.out fun h => ⟨h.1,zac hb h.2⟩,kq qf7.out fun h => ⟨h.1,zac hb h.2⟩,Gd.yes ⟨zav (HKp.lt (by rw [hsz]; decide)) _,hBi.out.size,Blk.new w' _ _⟩,qn6_7,qf6.out.mono fun h => Gd.yes (by have:=Blk.lt h.2.2; omega),qf7.out.mono fun h => Gd.yes (by have:=Blk.lt h.2.2; omega),qd3_1,qd5_3,qd9_1,qd9_5,qd9_6,qd10_3,qd10_7,qd10_9,Gd.no,Gd.no,Gd.no⟩
   ·obtain rfl : fl9 = false:=zaf hi
    obtain rfl : fl1 = true:=rdp 1 1 hi hO
    obtain rfl : fl5 = true:=rdp 5 2 hi hO
    obtain rfl : fl6 = true:=rdp 6 0 hi hO
    obtain rfl : fl7 = true:=rdp 7 10 hi hO
    obtain rfl : fl8 = true:=rdp 8 11 hi hO
    obtain rfl : fl3 = true:=qd5_3.out.get
    obtain rfl : fl10 = false:=Gd.off qd10_9.out
    obtain rfl : fl11 = false:=Gd.off qd11_10.out
    have rd7:=qf6.out.get.1
    have rd25:=qf1.out.get.1
    obtain ⟨_,hg,hk⟩:=qf6.out.get
    have hk : Blk w' ad6 28 #[.slice none 0 0,.int .i64 0]:=hk
    obtain ⟨sc0,sf0,sc1,sf1⟩:=st2 hk (.slice A6 N0 c6)
    have hj1:=sn2 hk (.slice A6 N0 c6) (.int .i64 (m0 : Int))
    have hBn:=bl2 (.slice A6 N0 c6) (.int .i64 (m0 : Int)) hg hBi.out
    refine wog hO (fun K' hK => ?_)
    go_simp
    exact hK.out _ _ ⟨hBn,true,true,true,true,true,true,true,false,false,A6,c6,A7,c7,A8,c8,ad6,ad7,ad8,by rfl,HKp,hBn,qf1.out.mono fun h => ⟨h.1,zap.offz (h.2) hk _ _⟩,qf3.out.mono fun h => ⟨h.1,zap.offz (h.2) hk _ _⟩,qf5.out.mono fun h => ⟨h.1,zap.offz (h.2) hk _ _⟩,qf6.out.mono fun h => ⟨h.1,h.2.1,hj1⟩,fun hf9 => (fun h => ⟨h.1,h.2.1,Blk.far (p:=⟨ad6,1,none⟩) (Blk.far (p:=⟨ad6,0,none⟩) (h.2.2) (Ne.symm (qn6_7.out rfl hf9)) (.slice A6 N0 c6)) (Ne.symm (qn6_7.out rfl hf9)) (.int .i64 (m0 : Int))⟩) (qf7.out hf9),fun hf9 => (fun h => ⟨h.1,h.2.1,Blk.far (p:=⟨ad6,1,none⟩) (Blk.far (p:=⟨ad6,0,none⟩) (h.2.2) (Ne.symm (qn6_8.out rfl hf9)) (.slice A6 N0 c6)) (Ne.symm (qn6_8.out rfl hf9)) (.int .i64 (m0 : Int))⟩) (qf8.out hf9),qn6_7,qn6_8,qn7_8,fun _ => rfl,fun _ => rfl,fun _ => rfl,fun _ => rfl,fun _ => rfl,Gd.no,Gd.no,Gd.no,Gd.no,Gd.no,Gd.no⟩
   ·obtain rfl : fl10 = false:=zaf hi
    obtain rfl : fl1 = true:=rdp 1 4 hi hO
    obtain rfl : fl3 = true:=rdp 3 1 hi hO
    obtain rfl : fl6 = true:=rdp 6 9 hi hO
    obtain rfl : fl7 = true:=rdp 7 0 hi hO
    obtain rfl : fl8 = true:=rdp 8 11 hi hO
    obtain rfl : fl9 = true:=rdp 9 2 hi hO
    obtain rfl : fl5 = true:=qd9_5.out.get
    obtain rfl : fl11 = false:=Gd.off qd11_10.out
    have rd8:=qf7.out.get.1
    have rd27:=qf3.out.get.1
    obtain ⟨_,hg,hk⟩:=qf7.out.get
    have hk : Blk w' ad7 28 #[.slice none 0 0,.int .i64 0]:=hk
    obtain ⟨sc0,sf0,sc1,sf1⟩:=st2 hk (.slice A7 N1 c7)
    have hj1:=sn2 hk (.slice A7 N1 c7) (.int .i64 (m1 : Int))
    have hBn:=bl2 (.slice A7 N1 c7) (.int .i64 (m1 : Int)) hg hBi.out
    refine wog hO (fun K' hK => ?_)
    go_simp
    exact hK.out _ _ ⟨hBn,true,true,true,true,true,true,true,true,false,A6,c6,A7,c7,A8,c8,ad6,ad7,ad8,by rfl,HKp,hBn,qf1.out.mono fun h => ⟨h.1,zap.offz (h.2) hk _ _⟩,qf3.out.mono fun h => ⟨h.1,zap.offz (h.2) hk _ _⟩,qf5.out.mono fun h => ⟨h.1,zap.offz (h.2) hk _ _⟩,fun hf9 => (fun h => ⟨h.1,h.2.1,Blk.far (p:=⟨ad7,1,none⟩) (Blk.far (p:=⟨ad7,0,none⟩) (h.2.2) (qn6_7.out hf9 rfl) (.slice A7 N1 c7)) (qn6_7.out hf9 rfl) (.int .i64 (m1 : Int))⟩) (qf6.out hf9),qf7.out.mono fun h => ⟨h.1,h.2.1,hj1⟩,fun hf9 => (fun h => ⟨h.1,h.2.1,Blk.far (p:=⟨ad7,1,none⟩) (Blk.far (p:=⟨ad7,0,none⟩) (h.2.2) (Ne.symm (qn7_8.out rfl hf9)) (.slice A7 N1 c7)) (Ne.symm (qn7_8.out rfl hf9)) (.int .i64 (m1 : Int))⟩) (qf8.out hf9),qn6_7,qn6_8,qn7_8,fun _ => rfl,fun _ => rfl,fun _ => rfl,fun _ => rfl,fun _ => rfl,fun _ => rfl,fun _ => rfl,fun _ => rfl,Gd.no,Gd.no,Gd.no⟩
   ·obtain rfl : fl11 = false:=zaf hi
    obtain rfl : fl1 = true:=rdp 1 4 hi hO
    obtain rfl : fl3 = true:=rdp 3 6 hi hO
    obtain rfl : fl5 = true:=rdp 5 1 hi hO
    obtain rfl : fl6 = true:=rdp 6 9 hi hO
    obtain rfl : fl7 = true:=rdp 7 10 hi hO
    obtain rfl : fl8 = true:=rdp 8 0 hi hO
    obtain rfl : fl9 = true:=rdp 9 12 hi hO
    obtain rfl : fl10 = true:=rdp 10 2 hi hO
    have rd9:=qf8.out.get.1
    have rd29:=qf5.out.get.1
    obtain ⟨_,hg,hk⟩:=qf8.out.get
    have hk : Blk w' ad8 28 #[.slice none 0 0,.int .i64 0]:=hk
    obtain ⟨sc0,sf0,sc1,sf1⟩:=st2 hk (.slice A8 N2 c8)
    have hj1:=sn2 hk (.slice A8 N2 c8) (.int .i64 (m2 : Int))
    have hBn:=bl2 (.slice A8 N2 c8) (.int .i64 (m2 : Int)) hg hBi.out
    refine wog hO (fun K' hK => ?_)
    go_simp
    exact hK.out _ _ ⟨hBn,true,true,true,true,true,true,true,true,true,A6,c6,A7,c7,A8,c8,ad6,ad7,ad8,by rfl,HKp,hBn,qf1.out.mono fun h => ⟨h.1,zap.offz (h.2) hk _ _⟩,qf3.out.mono fun h => ⟨h.1,zap.offz (h.2) hk _ _⟩,qf5.out.mono fun h => ⟨h.1,zap.offz (h.2) hk _ _⟩,fun hf9 => (fun h => ⟨h.1,h.2.1,Blk.far (p:=⟨ad8,1,none⟩) (Blk.far (p:=⟨ad8,0,none⟩) (h.2.2) (qn6_8.out hf9 rfl) (.slice A8 N2 c8)) (qn6_8.out hf9 rfl) (.int .i64 (m2 : Int))⟩) (qf6.out hf9),fun hf9 => (fun h => ⟨h.1,h.2.1,Blk.far (p:=⟨ad8,1,none⟩) (Blk.far (p:=⟨ad8,0,none⟩) (h.2.2) (qn7_8.out hf9 rfl) (.slice A8 N2 c8)) (qn7_8.out hf9 rfl) (.int .i64 (m2 : Int))⟩) (qf7.out hf9),qf8.out.mono fun h => ⟨h.1,h.2.1,hj1⟩,qn6_7,qn6_8,qn7_8,fun _ => rfl,fun _ => rfl,fun _ => rfl,fun _ => rfl,fun _ => rfl,fun _ => rfl,fun _ => rfl,fun _ => rfl,fun _ => rfl,fun _ => rfl,fun _ => rfl⟩
 rintro a wm12 ⟨fl1,fl3,fl5,fl6,fl7,fl8,fl9,fl10,fl11,A6,c6,A7,c7,A8,c8,ad6,ad7,ad8,hl,HKp,hBi,qf1,qf3,qf5,qf6,qf7,qf8,qn6_7,qn6_8,qn7_8,qd3_1,qd5_3,qd9_1,qd9_5,qd9_6,qd10_3,qd10_7,qd10_9,qd11_5,qd11_8,qd11_10⟩
 have xx1 : fl1 = true:=gdl 1 hl
 subst xx1
 have xx3 : fl3 = true:=gdl 3 hl
 subst xx3
 have xx5 : fl5 = true:=gdl 5 hl
 subst xx5
 have xx6 : fl6 = true:=gdl 6 hl
 subst xx6
 have xx7 : fl7 = true:=gdl 7 hl
 subst xx7
 have xx8 : fl8 = true:=gdl 8 hl
 subst xx8
 have xx9 : fl9 = true:=gdl 9 hl
 subst xx9
 have xx10 : fl10 = true:=gdl 10 hl
 subst xx10
 have xx11 : fl11 = true:=gdl 11 hl
 subst xx11
 obtain ⟨rv1,hw1_0⟩:=qf1.out.get
 obtain ⟨rv3,hw3_0⟩:=qf3.out.get
 obtain ⟨rv5,hw5_0⟩:=qf5.out.get
 obtain ⟨rv6,hg6,hk6⟩:=qf6.out.get
 obtain ⟨rv7,hg7,hk7⟩:=qf7.out.get
 obtain ⟨rv8,hg8,hk8⟩:=qf8.out.get
 obtain rfl:=HKp.eq [(25,.agg #[.slice A6 N0 c6,.int .i64 (m0 : Int)]),(27,.agg #[.slice A7 N1 c7,.int .i64 (m1 : Int)]),(29,.agg #[.slice A8 N2 c8,.int .i64 (m2 : Int)]),(7,.pointer (some ⟨ad6,0,none⟩)),(8,.pointer (some ⟨ad7,0,none⟩)),(9,.pointer (some ⟨ad8,0,none⟩))] rfl (by
  intro p hp
  simp only [List.mem_cons,List.not_mem_nil,or_false] at hp
  rcases hp with rfl | rfl | rfl | rfl | rfl | rfl
  ·exact rv1
  ·exact rv3
  ·exact rv5
  ·exact rv6
  ·exact rv7
  ·exact rv8)
 have hBv:=hBi.out
 clear hl hBi HKp qf1 qf3 qf5 qf6 qf7 qf8 qn6_7 qn6_8 qn7_8 qd3_1 qd5_3 qd9_1 qd9_5 qd9_6 qd10_3 qd10_7 qd10_9 qd11_5 qd11_8 qd11_10 rv1 rv3 rv5 rv6 rv7 rv8
 have hk6 : Blk wm12 ad6 28 #[.slice A6 N0 c6,.int .i64 (m0 : Int)]:=hk6
 have hk7 : Blk wm12 ad7 28 #[.slice A7 N1 c7,.int .i64 (m1 : Int)]:=hk7
 have hk8 : Blk wm12 ad8 28 #[.slice A8 N2 c8,.int .i64 (m2 : Int)]:=hk8
 rw [show due #[true,true,true,true,true,true,true,true,true,true,true,true] = 0 from rfl]
 simp only [zbL,List.foldl,Act.put,List.setIfInBounds_toArray,List.set_cons_zero,List.set_cons_succ]
 refine wpAnyH_done (by kernel_rfl) ?_ _
 refine NoPanic.normal ?_
 have HB:=lh9 (zaa HB.out hBv)
 have HK1:=lh9 (zac hBv HK1.out)
 have HK2:=lh9 (zac hBv HK2.out)
 have HK3:=lh9 (zac hBv HK3.out)
 have HM6:=lh9 (hw1_0)
 have HM7:=lh9 (hw3_0)
 have HM8:=lh9 (hw5_0)
 obtain ⟨adx13,hga⟩ : ∃ x,x = ad6:=⟨_,rfl⟩
 subst hga
 have HK13:=lh9 (hk6)
 obtain ⟨adx14,hga⟩ : ∃ x,x = ad7:=⟨_,rfl⟩
 subst hga
 have HK14:=lh9 (hk7)
 obtain ⟨adx15,hga⟩ : ∃ x,x = ad8:=⟨_,rfl⟩
 subst hga
 have HK15:=lh9 (hk8)
 clear hBv GG hk6 hg6 hk7 hg7 hk8 hg8 hw1_0 hw3_0 hw5_0
 clear HK1 HK2 HK3
 obtain ⟨p16_0,p16_1⟩:=HK13.out.c2
 go_wp2_with fail
 clear p16_0 p16_1
 (with_reducible refine (mat_cols A6 N0 c6 (m0 : Int) _).mono ?_)
 rintro e X17 ⟨rfl,hb⟩
 have HB:=lh9 (zaa HB.out hb)
 have HM6:=lh9 (HM6.out.keep hb)
 have HM7:=lh9 (HM7.out.keep hb)
 have HM8:=lh9 (HM8.out.keep hb)
 have HK13:=lh9 (zac hb HK13.out)
 have HK14:=lh9 (zac hb HK14.out)
 have HK15:=lh9 (zac hb HK15.out)
 clear hb 
 have HS18 : Hid (zas (1) (zha m0)):=zas.tab fun r c _ _ => zkO r c
 go_wp2_with fail
 (with_reducible refine (zlz (HT.out _ HB.out) (by omega)).mono ?_)
 rintro e X19 ⟨A18,c18,rfl,hm18,-,hb⟩
 have HB:=lh9 (zaa HB.out hb)
 have HM6:=lh9 (HM6.out.keep hb)
 have HM7:=lh9 (HM7.out.keep hb)
 have HM8:=lh9 (HM8.out.keep hb)
 have HK13:=lh9 (zac hb HK13.out)
 have HK14:=lh9 (zac hb HK14.out)
 have HK15:=lh9 (zac hb HK15.out)
 have HM18:=lh9 (hm18)
 clear hb hm18
 obtain ⟨bq0,bq1,-⟩:=zaz X19 28 #[.slice A18 m0 c18,.int .i64 (m0 : Int)]
 have HB:=lh9 (zaa HB.out bq0)
 have HM6:=lh9 (HM6.out.keep bq0)
 have HM7:=lh9 (HM7.out.keep bq0)
 have HM8:=lh9 (HM8.out.keep bq0)
 have HK13:=lh9 (zac bq0 HK13.out)
 have HK14:=lh9 (zac bq0 HK14.out)
 have HK15:=lh9 (zac bq0 HK15.out)
 have HM18:=lh9 (HM18.out.keep bq0)
 have HK20:=lh9 (bq1)
 obtain ⟨p21_0,p21_1⟩:=bq1.c2
 clear bq0 bq1
 obtain ⟨p22_0,p22_1⟩:=HK13.out.c2
 go_wp2_with fail
 clear p21_0 p21_1 p22_0 p22_1
 generalize X19.alloc (.cells #[.slice A18 m0 c18,.int .i64 (m0 : Int)] 28) = W23 at *
 generalize X19.heap.size = q23 at *
 have HS24 : Hid (zas (19) (zbX N0 m0 m0 X0 (zha m0))):=zas.up (zas.mul HS6.out HS18.out HDX0.out (zcx _ _ _)) (by omega)
 (with_reducible refine (zcP (HT.out _ HB.out) HM6.out HM18.out HS6.out HS18.out).mono ?_)
 rintro e X25 ⟨A24,c24,rfl,hm24,-,hb⟩
 have HB:=lh9 (zaa HB.out hb)
 have HM6:=lh9 (HM6.out.keep hb)
 have HM7:=lh9 (HM7.out.keep hb)
 have HM8:=lh9 (HM8.out.keep hb)
 have HK13:=lh9 (zac hb HK13.out)
 have HK14:=lh9 (zac hb HK14.out)
 have HK15:=lh9 (zac hb HK15.out)
 have HM18:=lh9 (HM18.out.keep hb)
 have HK20:=lh9 (zac hb HK20.out)
 have HM24:=lh9 (hm24)
 clear hb hm24
 obtain ⟨bq0,bq1,-⟩:=zaz X25 28 #[.slice A24 N0 c24,.int .i64 (m0 : Int)]
 have HB:=lh9 (zaa HB.out bq0)
 have HM6:=lh9 (HM6.out.keep bq0)
 have HM7:=lh9 (HM7.out.keep bq0)
 have HM8:=lh9 (HM8.out.keep bq0)
 have HK13:=lh9 (zac bq0 HK13.out)
 have HK14:=lh9 (zac bq0 HK14.out)
 have HK15:=lh9 (zac bq0 HK15.out)
 have HM18:=lh9 (HM18.out.keep bq0)
 have HK20:=lh9 (zac bq0 HK20.out)
 have HM24:=lh9 (HM24.out.keep bq0)
 have HK26:=lh9 (bq1)
 obtain ⟨p27_0,p27_1⟩:=bq1.c2
 clear bq0 bq1
 obtain ⟨p28_0,p28_1⟩:=HK13.out.c2
 go_wp2_with fail
 clear p27_0 p27_1 p28_0 p28_1
 generalize X25.alloc (.cells #[.slice A24 N0 c24,.int .i64 (m0 : Int)] 28) = W29 at *
 generalize X25.heap.size = q29 at *
 (with_reducible refine (zej (t:=true) (decide_eq_true ⟨rfl,zjy HDX0.out⟩) (HT.out _ HB.out) HM24.out HM6.out HS24.out HS6.out).mono ?_)
 rintro e X30 ⟨rfl,hb⟩
 have HB:=lh9 (zaa HB.out hb)
 have HM6:=lh9 (HM6.out.keep hb)
 have HM7:=lh9 (HM7.out.keep hb)
 have HM8:=lh9 (HM8.out.keep hb)
 have HK13:=lh9 (zac hb HK13.out)
 have HK14:=lh9 (zac hb HK14.out)
 have HK15:=lh9 (zac hb HK15.out)
 have HM18:=lh9 (HM18.out.keep hb)
 have HK20:=lh9 (zac hb HK20.out)
 have HM24:=lh9 (HM24.out.keep hb)
 have HK26:=lh9 (zac hb HK26.out)
 clear hb 
 clear HM24 HM18 HK26 HK20
 by_cases hq : m0 = N1
 ·subst hq
  obtain ⟨p31_0,p31_1⟩:=HK13.out.c2
  obtain ⟨p32_0,p32_1⟩:=HK14.out.c2
  have HS33 : Hid (zas (19) (zbX N0 m0 m1 X0 X1)):=zas.up (zas.mul HS6.out HS7.out HDX0.out HDX1.out) (by omega)
  go_wp2_with fail
  clear p31_0 p31_1 p32_0 p32_1
  (with_reducible refine (zcP (HT.out _ HB.out) HM6.out HM7.out HS6.out HS7.out).mono ?_)
  rintro e X34 ⟨A33,c33,rfl,hm33,-,hb⟩
  have HB:=lh9 (zaa HB.out hb)
  have HM6:=lh9 (HM6.out.keep hb)
  have HM7:=lh9 (HM7.out.keep hb)
  have HM8:=lh9 (HM8.out.keep hb)
  have HK13:=lh9 (zac hb HK13.out)
  have HK14:=lh9 (zac hb HK14.out)
  have HK15:=lh9 (zac hb HK15.out)
  have HM33:=lh9 (hm33)
  clear hb hm33
  by_cases hq2 : m1 = N2
  ·subst hq2
   obtain ⟨bq0,bq1,-⟩:=zaz X34 28 #[.slice A33 N0 c33,.int .i64 (m1 : Int)]
   have HB:=lh9 (zaa HB.out bq0)
   have HM6:=lh9 (HM6.out.keep bq0)
   have HM7:=lh9 (HM7.out.keep bq0)
   have HM8:=lh9 (HM8.out.keep bq0)
   have HK13:=lh9 (zac bq0 HK13.out)
   have HK14:=lh9 (zac bq0 HK14.out)
   have HK15:=lh9 (zac bq0 HK15.out)
   have HM33:=lh9 (HM33.out.keep bq0)
   have HK35:=lh9 (bq1)
   clear bq0 bq1
   obtain ⟨p36_0,p36_1⟩:=HK14.out.c2
   obtain ⟨p37_0,p37_1⟩:=HK15.out.c2
   go_wp2_with fail
   clear p36_0 p36_1 p37_0 p37_1
   generalize X34.alloc (.cells #[.slice A33 N0 c33,.int .i64 (m1 : Int)] 28) = W38 at *
   generalize X34.heap.size = q38 at *
   have HS39 : Hid (zas (19) (zbX m0 m1 m2 X1 X2)):=zas.up (zas.mul HS7.out HS8.out HDX1.out HDX2.out) (by omega)
   (with_reducible refine (zcP (HT.out _ HB.out) HM7.out HM8.out HS7.out HS8.out).mono ?_)
   rintro e X40 ⟨A39,c39,rfl,hm39,-,hb⟩
   have HB:=lh9 (zaa HB.out hb)
   have HM6:=lh9 (HM6.out.keep hb)
   have HM7:=lh9 (HM7.out.keep hb)
   have HM8:=lh9 (HM8.out.keep hb)
   have HK13:=lh9 (zac hb HK13.out)
   have HK14:=lh9 (zac hb HK14.out)
   have HK15:=lh9 (zac hb HK15.out)
   have HM33:=lh9 (HM33.out.keep hb)
   have HK35:=lh9 (zac hb HK35.out)
   have HM39:=lh9 (hm39)
   clear hb hm39
   obtain ⟨bq0,bq1,-⟩:=zaz X40 28 #[.slice A39 m0 c39,.int .i64 (m2 : Int)]
   have HB:=lh9 (zaa HB.out bq0)
   have HM6:=lh9 (HM6.out.keep bq0)
   have HM7:=lh9 (HM7.out.keep bq0)
   have HM8:=lh9 (HM8.out.keep bq0)
   have HK13:=lh9 (zac bq0 HK13.out)
   have HK14:=lh9 (zac bq0 HK14.out)
   have HK15:=lh9 (zac bq0 HK15.out)
   have HM33:=lh9 (HM33.out.keep bq0)
   have HK35:=lh9 (zac bq0 HK35.out)
   have HM39:=lh9 (HM39.out.keep bq0)
   have HK41:=lh9 (bq1)
   clear bq0 bq1
   obtain ⟨p42_0,p42_1⟩:=HK35.out.c2
   obtain ⟨p43_0,p43_1⟩:=HK15.out.c2
   go_wp2_with fail
   clear p42_0 p42_1 p43_0 p43_1
   generalize X40.alloc (.cells #[.slice A39 m0 c39,.int .i64 (m2 : Int)] 28) = W44 at *
   generalize X40.heap.size = q44 at *
   have HS45 : Hid (zas (127) (zbX N0 m1 m2 (zbX N0 m0 m1 X0 X1) X2)):=zas.up (zas.mul HS33.out HS8.out (zbQ _ _ _ _ _) HDX2.out) (by omega)
   (with_reducible refine (zcP (HT.out _ HB.out) HM33.out HM8.out HS33.out HS8.out).mono ?_)
   rintro e X46 ⟨A45,c45,rfl,hm45,-,hb⟩
   have HB:=lh9 (zaa HB.out hb)
   have HM6:=lh9 (HM6.out.keep hb)
   have HM7:=lh9 (HM7.out.keep hb)
   have HM8:=lh9 (HM8.out.keep hb)
   have HK13:=lh9 (zac hb HK13.out)
   have HK14:=lh9 (zac hb HK14.out)
   have HK15:=lh9 (zac hb HK15.out)
   have HM33:=lh9 (HM33.out.keep hb)
   have HK35:=lh9 (zac hb HK35.out)
   have HM39:=lh9 (HM39.out.keep hb)
   have HK41:=lh9 (zac hb HK41.out)
   have HM45:=lh9 (hm45)
   clear hb hm45
   obtain ⟨bq0,bq1,-⟩:=zaz X46 28 #[.slice A45 N0 c45,.int .i64 (m2 : Int)]
   have HB:=lh9 (zaa HB.out bq0)
   have HM6:=lh9 (HM6.out.keep bq0)
   have HM7:=lh9 (HM7.out.keep bq0)
   have HM8:=lh9 (HM8.out.keep bq0)
   have HK13:=lh9 (zac bq0 HK13.out)
   have HK14:=lh9 (zac bq0 HK14.out)
   have HK15:=lh9 (zac bq0 HK15.out)
   have HM33:=lh9 (HM33.out.keep bq0)
   have HK35:=lh9 (zac bq0 HK35.out)
   have HM39:=lh9 (HM39.out.keep bq0)
   have HK41:=lh9 (zac bq0 HK41.out)
   have HM45:=lh9 (HM45.out.keep bq0)
   have HK47:=lh9 (bq1)
   clear bq0 bq1
   obtain ⟨p48_0,p48_1⟩:=HK13.out.c2
   obtain ⟨p49_0,p49_1⟩:=HK41.out.c2
   go_wp2_with fail
   clear p48_0 p48_1 p49_0 p49_1
   generalize X46.alloc (.cells #[.slice A45 N0 c45,.int .i64 (m2 : Int)] 28) = W50 at *
   generalize X46.heap.size = q50 at *
   have HS51 : Hid (zas (127) (zbX N0 m0 m2 X0 (zbX m0 m1 m2 X1 X2))):=zas.up (zas.mul HS6.out HS39.out HDX0.out (zbQ _ _ _ _ _)) (by omega)
   (with_reducible refine (zcP (HT.out _ HB.out) HM6.out HM39.out HS6.out HS39.out).mono ?_)
   rintro e X52 ⟨A51,c51,rfl,hm51,-,hb⟩
   have HB:=lh9 (zaa HB.out hb)
   have HM6:=lh9 (HM6.out.keep hb)
   have HM7:=lh9 (HM7.out.keep hb)
   have HM8:=lh9 (HM8.out.keep hb)
   have HK13:=lh9 (zac hb HK13.out)
   have HK14:=lh9 (zac hb HK14.out)
   have HK15:=lh9 (zac hb HK15.out)
   have HM33:=lh9 (HM33.out.keep hb)
   have HK35:=lh9 (zac hb HK35.out)
   have HM39:=lh9 (HM39.out.keep hb)
   have HK41:=lh9 (zac hb HK41.out)
   have HM45:=lh9 (HM45.out.keep hb)
   have HK47:=lh9 (zac hb HK47.out)
   have HM51:=lh9 (hm51)
   clear hb hm51
   obtain ⟨bq0,bq1,-⟩:=zaz X52 28 #[.slice A51 N0 c51,.int .i64 (m2 : Int)]
   have HB:=lh9 (zaa HB.out bq0)
   have HM6:=lh9 (HM6.out.keep bq0)
   have HM7:=lh9 (HM7.out.keep bq0)
   have HM8:=lh9 (HM8.out.keep bq0)
   have HK13:=lh9 (zac bq0 HK13.out)
   have HK14:=lh9 (zac bq0 HK14.out)
   have HK15:=lh9 (zac bq0 HK15.out)
   have HM33:=lh9 (HM33.out.keep bq0)
   have HK35:=lh9 (zac bq0 HK35.out)
   have HM39:=lh9 (HM39.out.keep bq0)
   have HK41:=lh9 (zac bq0 HK41.out)
   have HM45:=lh9 (HM45.out.keep bq0)
   have HK47:=lh9 (zac bq0 HK47.out)
   have HM51:=lh9 (HM51.out.keep bq0)
   have HK53:=lh9 (bq1)
   obtain ⟨p54_0,p54_1⟩:=bq1.c2
   clear bq0 bq1
   obtain ⟨p55_0,p55_1⟩:=HK47.out.c2
   go_wp2_with fail
   clear p54_0 p54_1 p55_0 p55_1
   generalize X52.alloc (.cells #[.slice A51 N0 c51,.int .i64 (m2 : Int)] 28) = W56 at *
   generalize X52.heap.size = q56 at *
   (with_reducible refine (zej (t:=true) (decide_eq_true ⟨rfl,zkI HDX0.out HDX1.out⟩) (HT.out _ HB.out) HM45.out HM51.out HS45.out HS51.out).mono ?_)
   rintro e X57 ⟨rfl,hb⟩
   have HB:=lh9 (zaa HB.out hb)
   have HM6:=lh9 (HM6.out.keep hb)
   have HM7:=lh9 (HM7.out.keep hb)
   have HM8:=lh9 (HM8.out.keep hb)
   have HK13:=lh9 (zac hb HK13.out)
   have HK14:=lh9 (zac hb HK14.out)
   have HK15:=lh9 (zac hb HK15.out)
   have HM33:=lh9 (HM33.out.keep hb)
   have HK35:=lh9 (zac hb HK35.out)
   have HM39:=lh9 (HM39.out.keep hb)
   have HK41:=lh9 (zac hb HK41.out)
   have HM45:=lh9 (HM45.out.keep hb)
   have HK47:=lh9 (zac hb HK47.out)
   have HM51:=lh9 (HM51.out.keep hb)
   have HK53:=lh9 (zac hb HK53.out)
   clear hb 
   go_wp2
   go_ret
   exact ⟨rfl,HB.out⟩
  ·have HQ2:=lh9 hq2
   clear hq2
   obtain ⟨bq0,bq1,-⟩:=zaz X34 28 #[.slice A33 N0 c33,.int .i64 (m1 : Int)]
   have HB:=lh9 (zaa HB.out bq0)
   have HM6:=lh9 (HM6.out.keep bq0)
   have HM7:=lh9 (HM7.out.keep bq0)
   have HM8:=lh9 (HM8.out.keep bq0)
   have HK13:=lh9 (zac bq0 HK13.out)
   have HK14:=lh9 (zac bq0 HK14.out)
   have HK15:=lh9 (zac bq0 HK15.out)
   have HM33:=lh9 (HM33.out.keep bq0)
   have HK35:=lh9 (bq1)
   clear bq0 bq1
   obtain ⟨p36_0,p36_1⟩:=HK14.out.c2
   obtain ⟨p37_0,p37_1⟩:=HK15.out.c2
   go_wp2_with fail
   clear p36_0 p36_1 p37_0 p37_1
   generalize X34.alloc (.cells #[.slice A33 N0 c33,.int .i64 (m1 : Int)] 28) = W38 at *
   generalize X34.heap.size = q38 at *
   (with_reducible refine (zcZ HQ2.out).mono ?_)
   rintro e X39 ⟨rfl,hb⟩
   have HB:=lh9 (zaa HB.out hb)
   have HM6:=lh9 (HM6.out.keep hb)
   have HM7:=lh9 (HM7.out.keep hb)
   have HM8:=lh9 (HM8.out.keep hb)
   have HK13:=lh9 (zac hb HK13.out)
   have HK14:=lh9 (zac hb HK14.out)
   have HK15:=lh9 (zac hb HK15.out)
   have HM33:=lh9 (HM33.out.keep hb)
   have HK35:=lh9 (zac hb HK35.out)
   clear hb 
   have HB:=lh9 (zaa HB.out (zaz X39 28 #[.slice none 0 0,.int .i64 0]).1)
   go_wp2
   go_ret
   exact ⟨rfl,HB.out⟩
 ·have HQ:=lh9 hq
  clear hq
  obtain ⟨p31_0,p31_1⟩:=HK13.out.c2
  obtain ⟨p32_0,p32_1⟩:=HK14.out.c2
  go_wp2_with fail
  clear p31_0 p31_1 p32_0 p32_1
  (with_reducible refine (zcZ HQ.out).mono ?_)
  rintro e X33 ⟨rfl,hb⟩
  have HB:=lh9 (zaa HB.out hb)
  have HM6:=lh9 (HM6.out.keep hb)
  have HM7:=lh9 (HM7.out.keep hb)
  have HM8:=lh9 (HM8.out.keep hb)
  have HK13:=lh9 (zac hb HK13.out)
  have HK14:=lh9 (zac hb HK14.out)
  have HK15:=lh9 (zac hb HK15.out)
  clear hb 
  by_cases hq2 : m1 = N2
  ·subst hq2
   obtain ⟨bq0,bq1,-⟩:=zaz X33 28 #[.slice none 0 0,.int .i64 0]
   have HB:=lh9 (zaa HB.out bq0)
   have HM6:=lh9 (HM6.out.keep bq0)
   have HM7:=lh9 (HM7.out.keep bq0)
   have HM8:=lh9 (HM8.out.keep bq0)
   have HK13:=lh9 (zac bq0 HK13.out)
   have HK14:=lh9 (zac bq0 HK14.out)
   have HK15:=lh9 (zac bq0 HK15.out)
   have HK34:=lh9 (bq1)
   clear bq0 bq1
   obtain ⟨p35_0,p35_1⟩:=HK14.out.c2
   obtain ⟨p36_0,p36_1⟩:=HK15.out.c2
   go_wp2_with fail
   clear p35_0 p35_1 p36_0 p36_1
   generalize X33.alloc (.cells #[.slice none 0 0,.int .i64 0] 28) = W37 at *
   generalize X33.heap.size = q37 at *
   have HS38 : Hid (zas (19) (zbX N1 m1 m2 X1 X2)):=zas.up (zas.mul HS7.out HS8.out HDX1.out HDX2.out) (by omega)
   (with_reducible refine (zcP (HT.out _ HB.out) HM7.out HM8.out HS7.out HS8.out).mono ?_)
   rintro e X39 ⟨A38,c38,rfl,hm38,-,hb⟩
   have HB:=lh9 (zaa HB.out hb)
   have HM6:=lh9 (HM6.out.keep hb)
   have HM7:=lh9 (HM7.out.keep hb)
   have HM8:=lh9 (HM8.out.keep hb)
   have HK13:=lh9 (zac hb HK13.out)
   have HK14:=lh9 (zac hb HK14.out)
   have HK15:=lh9 (zac hb HK15.out)
   have HK34:=lh9 (zac hb HK34.out)
   have HM38:=lh9 (hm38)
   clear hb hm38
   have HB:=lh9 (zaa HB.out (zaz X39 28 #[.slice A38 N1 c38,.int .i64 (m2 : Int)]).1)
   go_wp2
   go_ret
   exact ⟨rfl,HB.out⟩
  ·have HQ2:=lh9 hq2
   clear hq2
   obtain ⟨bq0,bq1,-⟩:=zaz X33 28 #[.slice none 0 0,.int .i64 0]
   have HB:=lh9 (zaa HB.out bq0)
   have HM6:=lh9 (HM6.out.keep bq0)
   have HM7:=lh9 (HM7.out.keep bq0)
   have HM8:=lh9 (HM8.out.keep bq0)
   have HK13:=lh9 (zac bq0 HK13.out)
   have HK14:=lh9 (zac bq0 HK14.out)
   have HK15:=lh9 (zac bq0 HK15.out)
   have HK34:=lh9 (bq1)
   clear bq0 bq1
   obtain ⟨p35_0,p35_1⟩:=HK14.out.c2
   obtain ⟨p36_0,p36_1⟩:=HK15.out.c2
   go_wp2_with fail
   clear p35_0 p35_1 p36_0 p36_1
   generalize X33.alloc (.cells #[.slice none 0 0,.int .i64 0] 28) = W37 at *
   generalize X33.heap.size = q37 at *
   (with_reducible refine (zcZ HQ2.out).mono ?_)
   rintro e X38 ⟨rfl,hb⟩
   have HB:=lh9 (zaa HB.out hb)
   have HM6:=lh9 (HM6.out.keep hb)
   have HM7:=lh9 (HM7.out.keep hb)
   have HM8:=lh9 (HM8.out.keep hb)
   have HK13:=lh9 (zac hb HK13.out)
   have HK14:=lh9 (zac hb HK14.out)
   have HK15:=lh9 (zac hb HK15.out)
   have HK34:=lh9 (zac hb HK34.out)
   clear hb 
   have HB:=lh9 (zaa HB.out (zaz X38 28 #[.slice none 0 0,.int .i64 0]).1)
   go_wp2
   go_ret
   exact ⟨rfl,HB.out⟩
end Go.Proofs.YtedbgdlbgohiiaaGreatDoor
