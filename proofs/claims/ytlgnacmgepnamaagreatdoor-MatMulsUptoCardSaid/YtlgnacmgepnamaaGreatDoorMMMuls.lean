/- What this claim leans on. -/
import Derived.Test.YtlgnacmgepnamaaGreatDoorMMAwake
import Derived.Test.YtlgnacmgepnamaaGreatDoorMRTurn
namespace Go.Proofs.YtlgnacmgepnamaaGreatDoor
open Go Go.RowKit
set_option maxHeartbeats 16000000
set_option maxRecDepth 100000
set_option linter.unusedVariables false
set_option linter.unusedSimpArgs false
theorem matMuls_core (z0:Nat)(A0:oA9)(n0 c0:Nat)(R0:zhx)(z1:Nat)(A1:oA9)(n1 c1:Nat)(R1:zhx)(A2:oA9)(n2 c2:Nat)(L2:List (Int×Int))(w:World)(hz0:z0<=255)(h0:zaV w A0 n0 c0 R0)(hz1:z1<=255)(h1:zaV w A1 n1 c1 R1)(h2:zba w A2 n2 c2 L2)(hT:zao w):
  Calls Tryz.prog 5 #[.agg #[.int .u8 (z0:Int),.slice A0 n0 c0],.agg #[.int .u8 (z1:Int),.slice A1 n1 c1],.slice A2 n2 c2] w λe w'=>e=.returned (.bool true)/\Below w.heap.size w w':=by
 have HRF0:=lh9 (λW (hb:Below w.heap.size w W)=>zjD hz0 (h0.below hb))
 have HMK0:=lh9 (λW (hb:Below w.heap.size w W)=>zil (hT.on hb) hz0 (h0.below hb))
 have HSX0:=lh9 (zid (m:=z0%7) h0 (Nat.min_le_left n0 6))
 have HDX0:=lh9 (zeG (z0%7) R0 (min n0 6))
 obtain⟨m0,hm0⟩:∃m,z0%7=m:=⟨_,rfl⟩
 obtain⟨N0,hN0⟩:∃N,min n0 6=N:=⟨_,rfl⟩
 have bm0:m0<=6:=by omega
 have bN0:N0<=6:=by omega
 rw [hm0,hN0] at HMK0 HRF0 HSX0 HDX0
 obtain⟨X0,hX0⟩:∃X,zfh m0 R0 N0=X:=⟨_,rfl⟩
 rw [hX0] at HMK0 HRF0 HSX0 HDX0
 have HRF1:=lh9 (λW (hb:Below w.heap.size w W)=>zjD hz1 (h1.below hb))
 have HMK1:=lh9 (λW (hb:Below w.heap.size w W)=>zil (hT.on hb) hz1 (h1.below hb))
 have HSX1:=lh9 (zid (m:=z1%7) h1 (Nat.min_le_left n1 6))
 have HDX1:=lh9 (zeG (z1%7) R1 (min n1 6))
 obtain⟨m1,hm1⟩:∃m,z1%7=m:=⟨_,rfl⟩
 obtain⟨N1,hN1⟩:∃N,min n1 6=N:=⟨_,rfl⟩
 have bm1:m1<=6:=by omega
 have bN1:N1<=6:=by omega
 rw [hm1,hN1] at HMK1 HRF1 HSX1 HDX1
 obtain⟨X1,hX1⟩:∃X,zfh m1 R1 N1=X:=⟨_,rfl⟩
 rw [hX1] at HMK1 HRF1 HSX1 HDX1
 have hn2:n2<=1048576:=Nat.le_trans h2.fits h2.small
 have hl2:(zci L2).length=n2:=by rw [zcC];exact h2.len
 have HL2:=lh9 hl2
 clear hl2
 have HSA2:=lh9 (qsOf_sz h2)
 have HA2:=lh9 (λw' (hb:Below w.heap.size w w')=>h2.below hb)
 obtain⟨Y2,hY2⟩:∃X,zci L2=X:=⟨_,rfl⟩
 rw [hY2] at HL2 HSA2
 have HY2:=lh9 hY2
 have HT:=lh9 (λw' (hb:Below w.heap.size w w')=>hT.on hb)
 have HB:=lh9 (Below.refl w.heap.size w)
 clear hT h0 hz0 h1 hz1 h2 hm0 hN0 hX0 hm1 hN1 hX1 hY2
 go_enter Tryz.func5,Tryz.ntmps5
 obtain⟨bq0,bq1,bq2,-⟩:=zbl w 24 24 #[.int .u8 (z0:Int),.slice A0 n0 c0] #[.int .u8 (z1:Int),.slice A1 n1 c1]
 have HB:=lh9 (zac HB.out bq0)
 have HK1:=lh9 (bq1)
 have HK2:=lh9 (bq2)
 clear bq0 bq1 bq2
 go_wp2_with fail
 generalize (w.alloc (.cells #[.int .u8 (z0:Int),.slice A0 n0 c0] 24)).alloc (.cells #[.int .u8 (z1:Int),.slice A1 n1 c1] 24)=W3 at*
 (with_reducible refine(zlI (HT.out _ HB.out)).mono ?_)
 rintro e X4 ⟨rfl,hb⟩
 have HB:=lh9 (zac HB.out hb)
 have HK1:=lh9 (zad hb HK1.out)
 have HK2:=lh9 (zad hb HK2.out)
 clear hb 
 by_cases hv:n2<=12
 ·have hd:decide ((12:Int)<(n2:Int))=false:=decide_eq_false (by omega)
  have hd':decide (12<n2)=false:=decide_eq_false (by omega)
  go_wp2_with fail
  have HS5:Hid (zaB (1) (X0)):=HSX0.out
  have HS6:Hid (zaB (1) (X1)):=HSX1.out
  obtain⟨p9_0,p9_1⟩:=HK1.out.c2
  obtain⟨p10_0,p10_1⟩:=HK2.out.c2
  have GG:=lh9 (λw' (h:Below X4.heap.size X4 w')=>(csc (zae h p9_0) (csc (zae h p9_1) (csc (zae h p10_0) (csc (zae h p10_1) csn)))))
  refine rgB (λhHeld=>?_)
  clear p9_0 p9_1 p10_0 p10_1
  refine tl 0 GG.out ?_
  refine tl 2 GG.out ?_
  refine tl 4 GG.out ?_
  refine tl 6 GG.out ?_
  refine zbz (L:=#[true,true,true,true,true,true,true,true,true,true,true,true,true,true,true,true])
   (J:=fun a0 l a w' => ∃ (fl1 fl3 fl5 fl7 fl8 fl9 fl10 fl11 fl12 fl13 fl14 fl15 : Bool) (A5 : oA9) (c5 : Nat) (A6 : oA9) (c6 : Nat) (A7 : oA9) (c7 : Nat) (A8 : oA9) (c8 ad8 ad9 ad10 ad11 : Nat),l = #[true,fl1,true,fl3,true,fl5,true,fl7,fl8,fl9,fl10,fl11,fl12,fl13,fl14,fl15] ∧ zcV [24,26,28,30,7,8,9,10] a0 a ∧ Hid (Below X4.heap.size X4 w') ∧
     Hid (Gd fl1 (a.tmps.getD 24 undef=.agg #[.slice A5 N0 c5,.int .i64 (m0:Int)]/\zaE w' A5 N0 c5 m0 (X0)))/\
     Hid (Gd fl3 (a.tmps.getD 26 undef=.agg #[.slice A6 N1 c6,.int .i64 (m1:Int)]/\zaE w' A6 N1 c6 m1 (X1)))/\
     Hid (Gd fl5 (a.tmps.getD 28 undef=.agg #[.slice A7 N0 c7,.int .i64 (m0:Int)]/\zbL w' A7 N0 c7 m0 (X0)))/\
     Hid (Gd fl7 (a.tmps.getD 30 undef=.agg #[.slice A8 N1 c8,.int .i64 (m1:Int)]/\zbL w' A8 N1 c8 m1 (X1)))/\
     Hid (Gd fl8 (a.tmps.getD 7 undef=.pointer (some ⟨ad8,0,none⟩)/\X4.heap.size<=ad8/\Blk w' ad8 28 (bif fl12 then #[.slice A5 N0 c5,.int .i64 (m0:Int)] else #[.slice none 0 0,.int .i64 0])))/\
     Hid (Gd fl9 (a.tmps.getD 8 undef=.pointer (some ⟨ad9,0,none⟩)/\X4.heap.size<=ad9/\Blk w' ad9 28 (bif fl13 then #[.slice A6 N1 c6,.int .i64 (m1:Int)] else #[.slice none 0 0,.int .i64 0])))/\
     Hid (Gd fl10 (a.tmps.getD 9 undef=.pointer (some ⟨ad10,0,none⟩)/\X4.heap.size<=ad10/\Blk w' ad10 32 (bif fl14 then #[.slice A7 N0 c7,.int .i64 (m0:Int)] else #[.slice none 0 0,.int .i64 0])))/\
     Hid (Gd fl11 (a.tmps.getD 10 undef=.pointer (some ⟨ad11,0,none⟩)/\X4.heap.size<=ad11/\Blk w' ad11 32 (bif fl15 then #[.slice A8 N1 c8,.int .i64 (m1:Int)] else #[.slice none 0 0,.int .i64 0])))/\
     Hid (Gd fl8 (Gd fl9 (ad8≠ad9)))/\
     Hid (Gd fl8 (Gd fl10 (ad8≠ad10)))/\
     Hid (Gd fl8 (Gd fl11 (ad8≠ad11)))/\
     Hid (Gd fl9 (Gd fl10 (ad9≠ad10)))/\
     Hid (Gd fl9 (Gd fl11 (ad9≠ad11)))/\
     Hid (Gd fl10 (Gd fl11 (ad10≠ad11)))/\
     Hid (Gd fl3 (fl1=true))/\
     Hid (Gd fl5 (fl3=true))/\
     Hid (Gd fl7 (fl5=true))/\
     Hid (Gd fl12 (fl1=true))/\
     Hid (Gd fl12 (fl7=true))/\
     Hid (Gd fl12 (fl8=true))/\
     Hid (Gd fl13 (fl3=true))/\
     Hid (Gd fl13 (fl9=true))/\
     Hid (Gd fl13 (fl12=true))/\
     Hid (Gd fl14 (fl5=true))/\
     Hid (Gd fl14 (fl10=true))/\
     Hid (Gd fl14 (fl13=true))/\
     Hid (Gd fl15 (fl7=true))/\
     Hid (Gd fl15 (fl11=true))/\
     Hid (Gd fl15 (fl14=true)))
   (by rfl) ?_ ?_ ?_
  ·exact⟨false,false,false,false,false,false,false,false,false,false,false,false,none,0,none,0,none,0,none,0,0,0,0,0,by kernel_rfl,zcV.refl _ _,hHeld,Gd.no,Gd.no,Gd.no,Gd.no,Gd.no,Gd.no,Gd.no,Gd.no,Gd.no,Gd.no,Gd.no,Gd.no,Gd.no,Gd.no,Gd.no,Gd.no,Gd.no,Gd.no,Gd.no,Gd.no,Gd.no,Gd.no,Gd.no,Gd.no,Gd.no,Gd.no,Gd.no,Gd.no,Gd.no⟩
  ·intro OPS Ac0 Q0 hO hAs hA
   have RB23:Ac0.tmps.getD 23 undef=.agg #[.int .u8 (z0:Int),.slice A0 n0 c0]:=(hA 23 undef).trans (by kernel_rfl)
   have RB25:Ac0.tmps.getD 25 undef=.agg #[.int .u8 (z1:Int),.slice A1 n1 c1]:=(hA 25 undef).trans (by kernel_rfl)
   have RB27:Ac0.tmps.getD 27 undef=.agg #[.int .u8 (z0:Int),.slice A0 n0 c0]:=(hA 27 undef).trans (by kernel_rfl)
   have RB29:Ac0.tmps.getD 29 undef=.agg #[.int .u8 (z1:Int),.slice A1 n1 c1]:=(hA 29 undef).trans (by kernel_rfl)
   have hsz:Ac0.tmps.size=112:=hAs.trans (by kernel_rfl)
   clear hAs hA
   refine⟨?_,?_⟩
   ·rintro l a w' ⟨fl1,fl3,fl5,fl7,fl8,fl9,fl10,fl11,fl12,fl13,fl14,fl15,A5,c5,A6,c6,A7,c7,A8,c8,ad8,ad9,ad10,ad11,rfl,-⟩ hr
    obtain rfl:fl1=true:=als 1 hr hO
    obtain rfl:fl3=true:=als 3 hr hO
    obtain rfl:fl5=true:=als 5 hr hO
    obtain rfl:fl7=true:=als 7 hr hO
    obtain rfl:fl8=true:=als 8 hr hO
    obtain rfl:fl9=true:=als 9 hr hO
    obtain rfl:fl10=true:=als 10 hr hO
    obtain rfl:fl11=true:=als 11 hr hO
    obtain rfl:fl12=true:=als 12 hr hO
    obtain rfl:fl13=true:=als 13 hr hO
    obtain rfl:fl14=true:=als 14 hr hO
    obtain rfl:fl15=true:=als 15 hr hO
    rfl
   ·rintro l a w' i ⟨fl1,fl3,fl5,fl7,fl8,fl9,fl10,fl11,fl12,fl13,fl14,fl15,A5,c5,A6,c6,A7,c7,A8,c8,ad8,ad9,ad10,ad11,rfl,HKp,hBi,qf1,qf3,qf5,qf7,qf8,qf9,qf10,qf11,qn8_9,qn8_10,qn8_11,qn9_10,qn9_11,qn10_11,qd3_1,qd5_3,qd7_5,qd12_1,qd12_7,qd12_8,qd13_3,qd13_9,qd13_12,qd14_5,qd14_10,qd14_13,qd15_7,qd15_11,qd15_14⟩ hne hi
    have hlt:i<16:=by have:=zcZ hi;rw [hO] at this;exact this
    rcases (show i=0\/i=1\/i=2\/i=3\/i=4\/i=5\/i=6\/i=7\/i=8\/i=9\/i=10\/i=11\/i=12\/i=13\/i=14\/i=15 by omega) with rfl|rfl|rfl|rfl|rfl|rfl|rfl|rfl|rfl|rfl|rfl|rfl|rfl|rfl|rfl|rfl
    ·cases (zaj hi:true=false)
    ·obtain rfl:fl1=false:=zaj hi
     obtain rfl:fl3=false:=Gd.off qd3_1.out
     obtain rfl:fl5=false:=Gd.off qd5_3.out
     obtain rfl:fl7=false:=Gd.off qd7_5.out
     obtain rfl:fl12=false:=Gd.off qd12_1.out
     obtain rfl:fl13=false:=Gd.off qd13_3.out
     obtain rfl:fl14=false:=Gd.off qd14_5.out
     obtain rfl:fl15=false:=Gd.off qd15_7.out
     have rd23:=HKp.get 23 (by decide) RB23
     have HBn:=lh9 (zac HB.out hBi.out)
     refine wog hO (λK' hK=>?_)
     go_simp
     (with_reducible refine(HMK0.out _ HBn.out).mono ?_)
     rintro e w2 ⟨nA5,nc5,rfl,nhm5,-,hb⟩
     exact hK.out _ _ ⟨zac hBi.out hb,true,false,false,false,fl8,fl9,fl10,fl11,false,false,false,false,nA5,nc5,A6,c6,A7,c7,A8,c8,ad8,ad9,ad10,ad11,by rfl,HKp.put (by decide) _,zac hBi.out hb,Gd.yes ⟨zaG (HKp.lt (by rw [hsz];decide)) _,nhm5⟩,Gd.no,Gd.no,Gd.no,kq qf8.out λh=>⟨h.1,zad hb h.2⟩,kq qf9.out λh=>⟨h.1,zad hb h.2⟩,kq qf10.out λh=>⟨h.1,zad hb h.2⟩,kq qf11.out λh=>⟨h.1,zad hb h.2⟩,qn8_9,qn8_10,qn8_11,qn9_10,qn9_11,qn10_11,Gd.no,Gd.no,Gd.no,Gd.no,Gd.no,Gd.no,Gd.no,Gd.no,Gd.no,Gd.no,Gd.no,Gd.no,Gd.no,Gd.no,Gd.no⟩
    ·cases (zaj hi:true=false)
    ·obtain rfl:fl3=false:=zaj hi
     obtain rfl:fl1=true:=rdp 1 1 hi hO
     obtain rfl:fl5=false:=Gd.off qd5_3.out
     obtain rfl:fl7=false:=Gd.off qd7_5.out
     obtain rfl:fl12=false:=Gd.off qd12_7.out
     obtain rfl:fl13=false:=Gd.off qd13_3.out
     obtain rfl:fl14=false:=Gd.off qd14_5.out
     obtain rfl:fl15=false:=Gd.off qd15_7.out
     have rd25:=HKp.get 25 (by decide) RB25
     have HBn:=lh9 (zac HB.out hBi.out)
     refine wog hO (λK' hK=>?_)
     go_simp
     (with_reducible refine(HMK1.out _ HBn.out).mono ?_)
     rintro e w2 ⟨nA6,nc6,rfl,nhm6,-,hb⟩
     exact hK.out _ _ ⟨zac hBi.out hb,true,true,false,false,fl8,fl9,fl10,fl11,false,false,false,false,A5,c5,nA6,nc6,A7,c7,A8,c8,ad8,ad9,ad10,ad11,by rfl,HKp.put (by decide) _,zac hBi.out hb,kq qf1.out λh=>zaE.keep (h) hb,Gd.yes ⟨zaG (HKp.lt (by rw [hsz];decide)) _,nhm6⟩,Gd.no,Gd.no,kq qf8.out λh=>⟨h.1,zad hb h.2⟩,kq qf9.out λh=>⟨h.1,zad hb h.2⟩,kq qf10.out λh=>⟨h.1,zad hb h.2⟩,kq qf11.out λh=>⟨h.1,zad hb h.2⟩,qn8_9,qn8_10,qn8_11,qn9_10,qn9_11,qn10_11,λ_=>rfl,Gd.no,Gd.no,Gd.no,Gd.no,Gd.no,Gd.no,Gd.no,Gd.no,Gd.no,Gd.no,Gd.no,Gd.no,Gd.no,Gd.no⟩
    ·cases (zaj hi:true=false)
    ·obtain rfl:fl5=false:=zaj hi
     obtain rfl:fl3=true:=rdp 3 1 hi hO
     obtain rfl:fl1=true:=qd3_1.out.get
     obtain rfl:fl7=false:=Gd.off qd7_5.out
     obtain rfl:fl12=false:=Gd.off qd12_7.out
     obtain rfl:fl13=false:=Gd.off qd13_12.out
     obtain rfl:fl14=false:=Gd.off qd14_5.out
     obtain rfl:fl15=false:=Gd.off qd15_7.out
     have rd27:=HKp.get 27 (by decide) RB27
     have HBn:=lh9 (zac HB.out hBi.out)
     refine wog hO (λK' hK=>?_)
     go_simp
     (with_reducible refine(HRF0.out _ HBn.out).mono ?_)
     rintro e w2 ⟨nA7,nc7,rfl,nhm7,hb⟩
     exact hK.out _ _ ⟨zac hBi.out hb,true,true,true,false,fl8,fl9,fl10,fl11,false,false,false,false,A5,c5,A6,c6,nA7,nc7,A8,c8,ad8,ad9,ad10,ad11,by rfl,HKp.put (by decide) _,zac hBi.out hb,kq qf1.out λh=>zaE.keep (h) hb,kq qf3.out λh=>zaE.keep (h) hb,Gd.yes ⟨zaG (HKp.lt (by rw [hsz];decide)) _,nhm7⟩,Gd.no,kq qf8.out λh=>⟨h.1,zad hb h.2⟩,kq qf9.out λh=>⟨h.1,zad hb h.2⟩,kq qf10.out λh=>⟨h.1,zad hb h.2⟩,kq qf11.out λh=>⟨h.1,zad hb h.2⟩,qn8_9,qn8_10,qn8_11,qn9_10,qn9_11,qn10_11,λ_=>rfl,λ_=>rfl,Gd.no,Gd.no,Gd.no,Gd.no,Gd.no,Gd.no,Gd.no,Gd.no,Gd.no,Gd.no,Gd.no,Gd.no,Gd.no⟩
    ·cases (zaj hi:true=false)
    ·obtain rfl:fl7=false:=zaj hi
     obtain rfl:fl5=true:=rdp 5 1 hi hO
     obtain rfl:fl3=true:=qd5_3.out.get
     obtain rfl:fl1=true:=qd3_1.out.get
     obtain rfl:fl12=false:=Gd.off qd12_7.out
     obtain rfl:fl13=false:=Gd.off qd13_12.out
     obtain rfl:fl14=false:=Gd.off qd14_13.out
     obtain rfl:fl15=false:=Gd.off qd15_7.out
     have rd29:=HKp.get 29 (by decide) RB29
     have HBn:=lh9 (zac HB.out hBi.out)
     refine wog hO (λK' hK=>?_)
     go_simp
     (with_reducible refine(HRF1.out _ HBn.out).mono ?_)
     rintro e w2 ⟨nA8,nc8,rfl,nhm8,hb⟩
     exact hK.out _ _ ⟨zac hBi.out hb,true,true,true,true,fl8,fl9,fl10,fl11,false,false,false,false,A5,c5,A6,c6,A7,c7,nA8,nc8,ad8,ad9,ad10,ad11,by rfl,HKp.put (by decide) _,zac hBi.out hb,kq qf1.out λh=>zaE.keep (h) hb,kq qf3.out λh=>zaE.keep (h) hb,kq qf5.out λh=>zbL.keep (h) hb,Gd.yes ⟨zaG (HKp.lt (by rw [hsz];decide)) _,nhm8⟩,kq qf8.out λh=>⟨h.1,zad hb h.2⟩,kq qf9.out λh=>⟨h.1,zad hb h.2⟩,kq qf10.out λh=>⟨h.1,zad hb h.2⟩,kq qf11.out λh=>⟨h.1,zad hb h.2⟩,qn8_9,qn8_10,qn8_11,qn9_10,qn9_11,qn10_11,λ_=>rfl,λ_=>rfl,λ_=>rfl,Gd.no,Gd.no,Gd.no,Gd.no,Gd.no,Gd.no,Gd.no,Gd.no,Gd.no,Gd.no,Gd.no,Gd.no⟩
    ·obtain rfl:fl8=false:=zaj hi
     obtain rfl:fl12=false:=Gd.off qd12_8.out
     obtain rfl:fl13=false:=Gd.off qd13_12.out
     obtain rfl:fl14=false:=Gd.off qd14_13.out
     obtain rfl:fl15=false:=Gd.off qd15_14.out
     refine wog hO (λK' hK=>?_)
     go_simp
     have hb:=zbk w' (.cells #[.slice none 0 0,.int .i64 0] 28)
     exact hK.out _ _ ⟨zac hBi.out hb,fl1,fl3,fl5,fl7,true,fl9,fl10,fl11,false,false,false,false,A5,c5,A6,c6,A7,c7,A8,c8,w'.heap.size,ad9,ad10,ad11,by rfl,HKp.put (by decide) _,zac hBi.out hb,kq qf1.out λh=>zaE.keep (h) hb,kq qf3.out λh=>zaE.keep (h) hb,kq qf5.out λh=>zbL.keep (h) hb,kq qf7.out λh=>zbL.keep (h) hb,Gd.yes ⟨zaG (HKp.lt (by rw [hsz];decide)) _,hBi.out.size,Blk.new w' _ _⟩,kq qf9.out λh=>⟨h.1,zad hb h.2⟩,kq qf10.out λh=>⟨h.1,zad hb h.2⟩,kq qf11.out λh=>⟨h.1,zad hb h.2⟩,Gd.yes (qf9.out.mono λh=>by have:=Blk.lt h.2.2;omega),Gd.yes (qf10.out.mono λh=>by have:=Blk.lt h.2.2;omega),Gd.yes (qf11.out.mono λh=>by have:=Blk.lt h.2.2;omega),qn9_10,qn9_11,qn10_11,qd3_1,qd5_3,qd7_5,Gd.no,Gd.no,Gd.no,Gd.no,Gd.no,Gd.no,Gd.no,Gd.no,Gd.no,Gd.no,Gd.no,Gd.no⟩
    ·obtain rfl:fl9=false:=zaj hi
     obtain rfl:fl13=false:=Gd.off qd13_9.out
     obtain rfl:fl14=false:=Gd.off qd14_13.out
     obtain rfl:fl15=false:=Gd.off qd15_14.out
     refine wog hO (λK' hK=>?_)
     go_simp
     have hb:=zbk w' (.cells #[.slice none 0 0,.int .i64 0] 28)
     exact hK.out _ _ ⟨zac hBi.out hb,fl1,fl3,fl5,fl7,fl8,true,fl10,fl11,fl12,false,false,false,A5,c5,A6,c6,A7,c7,A8,c8,ad8,w'.heap.size,ad10,ad11,by rfl,HKp.put (by decide) _,zac hBi.out hb,kq qf1.out λh=>zaE.keep (h) hb,kq qf3.out λh=>zaE.keep (h) hb,kq qf5.out λh=>zbL.keep (h) hb,kq qf7.out λh=>zbL.keep (h) hb,kq qf8.out λh=>⟨h.1,zad hb h.2⟩,Gd.yes ⟨zaG (HKp.lt (by rw [hsz];decide)) _,hBi.out.size,Blk.new w' _ _⟩,kq qf10.out λh=>⟨h.1,zad hb h.2⟩,kq qf11.out λh=>⟨h.1,zad hb h.2⟩,qf8.out.mono λh=>Gd.yes (by have:=Blk.lt h.2.2;omega),qn8_10,qn8_11,Gd.yes (qf10.out.mono λh=>by have:=Blk.lt h.2.2;omega),Gd.yes (qf11.out.mono λh=>by have:=Blk.lt h.2.2;omega),qn10_11,qd3_1,qd5_3,qd7_5,qd12_1,qd12_7,qd12_8,Gd.no,Gd.no,Gd.no,Gd.no,Gd.no,Gd.no,Gd.no,Gd.no,Gd.no⟩
    ·obtain rfl:fl10=false:=zaj hi
     obtain rfl:fl14=false:=Gd.off qd14_10.out
     obtain rfl:fl15=false:=Gd.off qd15_14.out
     refine wog hO (λK' hK=>?_)
     go_simp
     have hb:=zbk w' (.cells #[.slice none 0 0,.int .i64 0] 32)
     exact hK.out _ _ ⟨zac hBi.out hb,fl1,fl3,fl5,fl7,fl8,fl9,true,fl11,fl12,fl13,false,false,A5,c5,A6,c6,A7,c7,A8,c8,ad8,ad9,w'.heap.size,ad11,by rfl,HKp.put (by decide) _,zac hBi.out hb,kq qf1.out λh=>zaE.keep (h) hb,kq qf3.out λh=>zaE.keep (h) hb,kq qf5.out λh=>zbL.keep (h) hb,kq qf7.out λh=>zbL.keep (h) hb,kq qf8.out λh=>⟨h.1,zad hb h.2⟩,kq qf9.out λh=>⟨h.1,zad hb h.2⟩,Gd.yes ⟨zaG (HKp.lt (by rw [hsz];decide)) _,hBi.out.size,Blk.new w' _ _⟩,kq qf11.out λh=>⟨h.1,zad hb h.2⟩,qn8_9,qf8.out.mono λh=>Gd.yes (by have:=Blk.lt h.2.2;omega),qn8_11,qf9.out.mono λh=>Gd.yes (by have:=Blk.lt h.2.2;omega),qn9_11,Gd.yes (qf11.out.mono λh=>by have:=Blk.lt h.2.2;omega),qd3_1,qd5_3,qd7_5,qd12_1,qd12_7,qd12_8,qd13_3,qd13_9,qd13_12,Gd.no,Gd.no,Gd.no,Gd.no,Gd.no,Gd.no⟩
    ·obtain rfl:fl11=false:=zaj hi
     obtain rfl:fl15=false:=Gd.off qd15_11.out
     refine wog hO (λK' hK=>?_)
     go_simp
     have hb:=zbk w' (.cells #[.slice none 0 0,.int .i64 0] 32)
     exact hK.out _ _ ⟨zac hBi.out hb,fl1,fl3,fl5,fl7,fl8,fl9,fl10,true,fl12,fl13,fl14,false,A5,c5,A6,c6,A7,c7,A8,c8,ad8,ad9,ad10,w'.heap.size,by rfl,HKp.put (by decide) _,zac hBi.out hb,kq qf1.out λh=>zaE.keep (h) hb,kq qf3.out λh=>zaE.keep (h) hb,kq qf5.out λh=>zbL.keep (h) hb,kq qf7.out λh=>zbL.keep (h) hb,kq qf8.out λh=>⟨h.1,zad hb h.2⟩,kq qf9.out λh=>⟨h.1,zad hb h.2⟩,kq qf10.out λh=>⟨h.1,zad hb h.2⟩,Gd.yes ⟨zaG (HKp.lt (by rw [hsz];decide)) _,hBi.out.size,Blk.new w' _ _⟩,qn8_9,qn8_10,qf8.out.mono λh=>Gd.yes (by have:=Blk.lt h.2.2;omega),qn9_10,qf9.out.mono λh=>Gd.yes (by have:=Blk.lt h.2.2;omega),qf10.out.mono λh=>Gd.yes (by have:=Blk.lt h.2.2;omega),qd3_1,qd5_3,qd7_5,qd12_1,qd12_7,qd12_8,qd13_3,qd13_9,qd13_12,qd14_5,qd14_10,qd14_13,Gd.no,Gd.no,Gd.no⟩
    ·obtain rfl:fl12=false:=zaj hi
     obtain rfl:fl1=true:=rdp 1 1 hi hO
     obtain rfl:fl7=true:=rdp 7 2 hi hO
     obtain rfl:fl8=true:=rdp 8 0 hi hO
     obtain rfl:fl9=true:=rdp 9 12 hi hO
     obtain rfl:fl10=true:=rdp 10 13 hi hO
     obtain rfl:fl11=true:=rdp 11 14 hi hO
     obtain rfl:fl5=true:=qd7_5.out.get
     obtain rfl:fl3=true:=qd5_3.out.get
     obtain rfl:fl13=false:=Gd.off qd13_12.out
     obtain rfl:fl14=false:=Gd.off qd14_13.out
     obtain rfl:fl15=false:=Gd.off qd15_14.out
     have rd7:=qf8.out.get.1
     have rd24:=qf1.out.get.1
     obtain⟨_,hg,hk⟩:=qf8.out.get
     have hk:Blk w' ad8 28 #[.slice none 0 0,.int .i64 0]:=hk
     obtain⟨sc0,sf0,sc1,sf1⟩:=st2 hk (.slice A5 N0 c5)
     have hj1:=sn2 hk (.slice A5 N0 c5) (.int .i64 (m0:Int))
     have hBn:=bl2 (.slice A5 N0 c5) (.int .i64 (m0:Int)) hg hBi.out
     refine wog hO (λK' hK=>?_)
     go_simp
     exact hK.out _ _ ⟨hBn,true,true,true,true,true,true,true,true,true,false,false,false,A5,c5,A6,c6,A7,c7,A8,c8,ad8,ad9,ad10,ad11,by rfl,HKp,hBn,qf1.out.mono λh=>⟨h.1,zaE.offz (h.2) hk _ _⟩,qf3.out.mono λh=>⟨h.1,zaE.offz (h.2) hk _ _⟩,qf5.out.mono λh=>⟨h.1,zbL.offz (h.2) hk _ _⟩,qf7.out.mono λh=>⟨h.1,zbL.offz (h.2) hk _ _⟩,qf8.out.mono λh=>⟨h.1,h.2.1,hj1⟩,λhf9=>(λh=>⟨h.1,h.2.1,Blk.far (p:=⟨ad8,1,none⟩) (Blk.far (p:=⟨ad8,0,none⟩) (h.2.2) (Ne.symm (qn8_9.out rfl hf9)) (.slice A5 N0 c5)) (Ne.symm (qn8_9.out rfl hf9)) (.int .i64 (m0:Int))⟩) (qf9.out hf9),λhf9=>(λh=>⟨h.1,h.2.1,Blk.far (p:=⟨ad8,1,none⟩) (Blk.far (p:=⟨ad8,0,none⟩) (h.2.2) (Ne.symm (qn8_10.out rfl hf9)) (.slice A5 N0 c5)) (Ne.symm (qn8_10.out rfl hf9)) (.int .i64 (m0:Int))⟩) (qf10.out hf9),λhf9=>(λh=>⟨h.1,h.2.1,Blk.far (p:=⟨ad8,1,none⟩) (Blk.far (p:=⟨ad8,0,none⟩) (h.2.2) (Ne.symm (qn8_11.out rfl hf9)) (.slice A5 N0 c5)) (Ne.symm (qn8_11.out rfl hf9)) (.int .i64 (m0:Int))⟩) (qf11.out hf9),qn8_9,qn8_10,qn8_11,qn9_10,qn9_11,qn10_11,λ_=>rfl,λ_=>rfl,λ_=>rfl,λ_=>rfl,λ_=>rfl,λ_=>rfl,Gd.no,Gd.no,Gd.no,Gd.no,Gd.no,Gd.no,Gd.no,Gd.no,Gd.no⟩
    ·obtain rfl:fl13=false:=zaj hi
     obtain rfl:fl1=true:=rdp 1 4 hi hO
     obtain rfl:fl3=true:=rdp 3 1 hi hO
     obtain rfl:fl8=true:=rdp 8 11 hi hO
     obtain rfl:fl9=true:=rdp 9 0 hi hO
     obtain rfl:fl10=true:=rdp 10 13 hi hO
     obtain rfl:fl11=true:=rdp 11 14 hi hO
     obtain rfl:fl12=true:=rdp 12 2 hi hO
     obtain rfl:fl7=true:=qd12_7.out.get
     obtain rfl:fl5=true:=qd7_5.out.get
     obtain rfl:fl14=false:=Gd.off qd14_13.out
     obtain rfl:fl15=false:=Gd.off qd15_14.out
     have rd8:=qf9.out.get.1
     have rd26:=qf3.out.get.1
     obtain⟨_,hg,hk⟩:=qf9.out.get
     have hk:Blk w' ad9 28 #[.slice none 0 0,.int .i64 0]:=hk
     obtain⟨sc0,sf0,sc1,sf1⟩:=st2 hk (.slice A6 N1 c6)
     have hj1:=sn2 hk (.slice A6 N1 c6) (.int .i64 (m1:Int))
     have hBn:=bl2 (.slice A6 N1 c6) (.int .i64 (m1:Int)) hg hBi.out
     refine wog hO (λK' hK=>?_)
     go_simp
     exact hK.out _ _ ⟨hBn,true,true,true,true,true,true,true,true,true,true,false,false,A5,c5,A6,c6,A7,c7,A8,c8,ad8,ad9,ad10,ad11,by rfl,HKp,hBn,qf1.out.mono λh=>⟨h.1,zaE.offz (h.2) hk _ _⟩,qf3.out.mono λh=>⟨h.1,zaE.offz (h.2) hk _ _⟩,qf5.out.mono λh=>⟨h.1,zbL.offz (h.2) hk _ _⟩,qf7.out.mono λh=>⟨h.1,zbL.offz (h.2) hk _ _⟩,λhf9=>(λh=>⟨h.1,h.2.1,Blk.far (p:=⟨ad9,1,none⟩) (Blk.far (p:=⟨ad9,0,none⟩) (h.2.2) (qn8_9.out hf9 rfl) (.slice A6 N1 c6)) (qn8_9.out hf9 rfl) (.int .i64 (m1:Int))⟩) (qf8.out hf9),qf9.out.mono λh=>⟨h.1,h.2.1,hj1⟩,λhf9=>(λh=>⟨h.1,h.2.1,Blk.far (p:=⟨ad9,1,none⟩) (Blk.far (p:=⟨ad9,0,none⟩) (h.2.2) (Ne.symm (qn9_10.out rfl hf9)) (.slice A6 N1 c6)) (Ne.symm (qn9_10.out rfl hf9)) (.int .i64 (m1:Int))⟩) (qf10.out hf9),λhf9=>(λh=>⟨h.1,h.2.1,Blk.far (p:=⟨ad9,1,none⟩) (Blk.far (p:=⟨ad9,0,none⟩) (h.2.2) (Ne.symm (qn9_11.out rfl hf9)) (.slice A6 N1 c6)) (Ne.symm (qn9_11.out rfl hf9)) (.int .i64 (m1:Int))⟩) (qf11.out hf9),qn8_9,qn8_10,qn8_11,qn9_10,qn9_11,qn10_11,λ_=>rfl,λ_=>rfl,λ_=>rfl,λ_=>rfl,λ_=>rfl,λ_=>rfl,λ_=>rfl,λ_=>rfl,λ_=>rfl,Gd.no,Gd.no,Gd.no,Gd.no,Gd.no,Gd.no⟩
    ·obtain rfl:fl14=false:=zaj hi
     obtain rfl:fl1=true:=rdp 1 4 hi hO
     obtain rfl:fl3=true:=rdp 3 6 hi hO
     obtain rfl:fl5=true:=rdp 5 1 hi hO
     obtain rfl:fl8=true:=rdp 8 11 hi hO
     obtain rfl:fl9=true:=rdp 9 12 hi hO
     obtain rfl:fl10=true:=rdp 10 0 hi hO
     obtain rfl:fl11=true:=rdp 11 14 hi hO
     obtain rfl:fl12=true:=rdp 12 15 hi hO
     obtain rfl:fl13=true:=rdp 13 2 hi hO
     obtain rfl:fl7=true:=qd12_7.out.get
     obtain rfl:fl15=false:=Gd.off qd15_14.out
     have rd9:=qf10.out.get.1
     have rd28:=qf5.out.get.1
     obtain⟨_,hg,hk⟩:=qf10.out.get
     have hk:Blk w' ad10 32 #[.slice none 0 0,.int .i64 0]:=hk
     obtain⟨sc0,sf0,sc1,sf1⟩:=st2 hk (.slice A7 N0 c7)
     have hj1:=sn2 hk (.slice A7 N0 c7) (.int .i64 (m0:Int))
     have hBn:=bl2 (.slice A7 N0 c7) (.int .i64 (m0:Int)) hg hBi.out
     refine wog hO (λK' hK=>?_)
     go_simp
     exact hK.out _ _ ⟨hBn,true,true,true,true,true,true,true,true,true,true,true,false,A5,c5,A6,c6,A7,c7,A8,c8,ad8,ad9,ad10,ad11,by rfl,HKp,hBn,qf1.out.mono λh=>⟨h.1,zaE.offz (h.2) hk _ _⟩,qf3.out.mono λh=>⟨h.1,zaE.offz (h.2) hk _ _⟩,qf5.out.mono λh=>⟨h.1,zbL.offz (h.2) hk _ _⟩,qf7.out.mono λh=>⟨h.1,zbL.offz (h.2) hk _ _⟩,λhf9=>(λh=>⟨h.1,h.2.1,Blk.far (p:=⟨ad10,1,none⟩) (Blk.far (p:=⟨ad10,0,none⟩) (h.2.2) (qn8_10.out hf9 rfl) (.slice A7 N0 c7)) (qn8_10.out hf9 rfl) (.int .i64 (m0:Int))⟩) (qf8.out hf9),λhf9=>(λh=>⟨h.1,h.2.1,Blk.far (p:=⟨ad10,1,none⟩) (Blk.far (p:=⟨ad10,0,none⟩) (h.2.2) (qn9_10.out hf9 rfl) (.slice A7 N0 c7)) (qn9_10.out hf9 rfl) (.int .i64 (m0:Int))⟩) (qf9.out hf9),qf10.out.mono λh=>⟨h.1,h.2.1,hj1⟩,λhf9=>(λh=>⟨h.1,h.2.1,Blk.far (p:=⟨ad10,1,none⟩) (Blk.far (p:=⟨ad10,0,none⟩) (h.2.2) (Ne.symm (qn10_11.out rfl hf9)) (.slice A7 N0 c7)) (Ne.symm (qn10_11.out rfl hf9)) (.int .i64 (m0:Int))⟩) (qf11.out hf9),qn8_9,qn8_10,qn8_11,qn9_10,qn9_11,qn10_11,λ_=>rfl,λ_=>rfl,λ_=>rfl,λ_=>rfl,λ_=>rfl,λ_=>rfl,λ_=>rfl,λ_=>rfl,λ_=>rfl,λ_=>rfl,λ_=>rfl,λ_=>rfl,Gd.no,Gd.no,Gd.no⟩
    ·obtain rfl:fl15=false:=zaj hi
     obtain rfl:fl1=true:=rdp 1 4 hi hO
     obtain rfl:fl3=true:=rdp 3 6 hi hO
     obtain rfl:fl5=true:=rdp 5 8 hi hO
     obtain rfl:fl7=true:=rdp 7 1 hi hO
     obtain rfl:fl8=true:=rdp 8 11 hi hO
     obtain rfl:fl9=true:=rdp 9 12 hi hO
     obtain rfl:fl10=true:=rdp 10 13 hi hO
     obtain rfl:fl11=true:=rdp 11 0 hi hO
     obtain rfl:fl12=true:=rdp 12 15 hi hO
     obtain rfl:fl13=true:=rdp 13 16 hi hO
     obtain rfl:fl14=true:=rdp 14 2 hi hO
     have rd10:=qf11.out.get.1
     have rd30:=qf7.out.get.1
     obtain⟨_,hg,hk⟩:=qf11.out.get
     have hk:Blk w' ad11 32 #[.slice none 0 0,.int .i64 0]:=hk
     obtain⟨sc0,sf0,sc1,sf1⟩:=st2 hk (.slice A8 N1 c8)
     have hj1:=sn2 hk (.slice A8 N1 c8) (.int .i64 (m1:Int))
     have hBn:=bl2 (.slice A8 N1 c8) (.int .i64 (m1:Int)) hg hBi.out
     refine wog hO (λK' hK=>?_)
     go_simp
     exact hK.out _ _ ⟨hBn,true,true,true,true,true,true,true,true,true,true,true,true,A5,c5,A6,c6,A7,c7,A8,c8,ad8,ad9,ad10,ad11,by rfl,HKp,hBn,qf1.out.mono λh=>⟨h.1,zaE.offz (h.2) hk _ _⟩,qf3.out.mono λh=>⟨h.1,zaE.offz (h.2) hk _ _⟩,qf5.out.mono λh=>⟨h.1,zbL.offz (h.2) hk _ _⟩,qf7.out.mono λh=>⟨h.1,zbL.offz (h.2) hk _ _⟩,λhf9=>(λh=>⟨h.1,h.2.1,Blk.far (p:=⟨ad11,1,none⟩) (Blk.far (p:=⟨ad11,0,none⟩) (h.2.2) (qn8_11.out hf9 rfl) (.slice A8 N1 c8)) (qn8_11.out hf9 rfl) (.int .i64 (m1:Int))⟩) (qf8.out hf9),λhf9=>(λh=>⟨h.1,h.2.1,Blk.far (p:=⟨ad11,1,none⟩) (Blk.far (p:=⟨ad11,0,none⟩) (h.2.2) (qn9_11.out hf9 rfl) (.slice A8 N1 c8)) (qn9_11.out hf9 rfl) (.int .i64 (m1:Int))⟩) (qf9.out hf9),λhf9=>(λh=>⟨h.1,h.2.1,Blk.far (p:=⟨ad11,1,none⟩) (Blk.far (p:=⟨ad11,0,none⟩) (h.2.2) (qn10_11.out hf9 rfl) (.slice A8 N1 c8)) (qn10_11.out hf9 rfl) (.int .i64 (m1:Int))⟩) (qf10.out hf9),qf11.out.mono λh=>⟨h.1,h.2.1,hj1⟩,qn8_9,qn8_10,qn8_11,qn9_10,qn9_11,qn10_11,λ_=>rfl,λ_=>rfl,λ_=>rfl,λ_=>rfl,λ_=>rfl,λ_=>rfl,λ_=>rfl,λ_=>rfl,λ_=>rfl,λ_=>rfl,λ_=>rfl,λ_=>rfl,λ_=>rfl,λ_=>rfl,λ_=>rfl⟩
  rintro a wm11 ⟨fl1,fl3,fl5,fl7,fl8,fl9,fl10,fl11,fl12,fl13,fl14,fl15,A5,c5,A6,c6,A7,c7,A8,c8,ad8,ad9,ad10,ad11,hl,HKp,hBi,qf1,qf3,qf5,qf7,qf8,qf9,qf10,qf11,qn8_9,qn8_10,qn8_11,qn9_10,qn9_11,qn10_11,qd3_1,qd5_3,qd7_5,qd12_1,qd12_7,qd12_8,qd13_3,qd13_9,qd13_12,qd14_5,qd14_10,qd14_13,qd15_7,qd15_11,qd15_14⟩
  have xx1:fl1=true:=gdl 1 hl
  subst xx1
  have xx3:fl3=true:=gdl 3 hl
  subst xx3
  have xx5:fl5=true:=gdl 5 hl
  subst xx5
  have xx7:fl7=true:=gdl 7 hl
  subst xx7
  have xx8:fl8=true:=gdl 8 hl
  subst xx8
  have xx9:fl9=true:=gdl 9 hl
  subst xx9
  have xx10:fl10=true:=gdl 10 hl
  subst xx10
  have xx11:fl11=true:=gdl 11 hl
  subst xx11
  have xx12:fl12=true:=gdl 12 hl
  subst xx12
  have xx13:fl13=true:=gdl 13 hl
  subst xx13
  have xx14:fl14=true:=gdl 14 hl
  subst xx14
  have xx15:fl15=true:=gdl 15 hl
  subst xx15
  obtain⟨rv1,hw1_0⟩:=qf1.out.get
  obtain⟨rv3,hw3_0⟩:=qf3.out.get
  obtain⟨rv5,hw5_0⟩:=qf5.out.get
  obtain⟨rv7,hw7_0⟩:=qf7.out.get
  obtain⟨rv8,hg8,hk8⟩:=qf8.out.get
  obtain⟨rv9,hg9,hk9⟩:=qf9.out.get
  obtain⟨rv10,hg10,hk10⟩:=qf10.out.get
  obtain⟨rv11,hg11,hk11⟩:=qf11.out.get
  obtain rfl:=HKp.eq [(24,.agg #[.slice A5 N0 c5,.int .i64 (m0:Int)]),(26,.agg #[.slice A6 N1 c6,.int .i64 (m1:Int)]),(28,.agg #[.slice A7 N0 c7,.int .i64 (m0:Int)]),(30,.agg #[.slice A8 N1 c8,.int .i64 (m1:Int)]),(7,.pointer (some ⟨ad8,0,none⟩)),(8,.pointer (some ⟨ad9,0,none⟩)),(9,.pointer (some ⟨ad10,0,none⟩)),(10,.pointer (some ⟨ad11,0,none⟩))] rfl (by
   intro p hp
   simp only [List.mem_cons,List.not_mem_nil,or_false] at hp
   rcases hp with rfl|rfl|rfl|rfl|rfl|rfl|rfl|rfl
   ·exact rv1
   ·exact rv3
   ·exact rv5
   ·exact rv7
   ·exact rv8
   ·exact rv9
   ·exact rv10
   ·exact rv11)
  have hBv:=hBi.out
  clear hl hBi HKp qf1 qf3 qf5 qf7 qf8 qf9 qf10 qf11 qn8_9 qn8_10 qn8_11 qn9_10 qn9_11 qn10_11 qd3_1 qd5_3 qd7_5 qd12_1 qd12_7 qd12_8 qd13_3 qd13_9 qd13_12 qd14_5 qd14_10 qd14_13 qd15_7 qd15_11 qd15_14 rv1 rv3 rv5 rv7 rv8 rv9 rv10 rv11
  have hk8:Blk wm11 ad8 28 #[.slice A5 N0 c5,.int .i64 (m0:Int)]:=hk8
  have hk9:Blk wm11 ad9 28 #[.slice A6 N1 c6,.int .i64 (m1:Int)]:=hk9
  have hk10:Blk wm11 ad10 32 #[.slice A7 N0 c7,.int .i64 (m0:Int)]:=hk10
  have hk11:Blk wm11 ad11 32 #[.slice A8 N1 c8,.int .i64 (m1:Int)]:=hk11
  rw [show due #[true,true,true,true,true,true,true,true,true,true,true,true,true,true,true,true]=0 from rfl]
  simp only [zcL,List.foldl,Act.put,List.setIfInBounds_toArray,List.set_cons_zero,List.set_cons_succ]
  refine wpAnyH_done (by kernel_rfl) ?_ _
  refine NoPanic.normal ?_
  have HB:=lh9 (zac HB.out hBv)
  have HK1:=lh9 (zad hBv HK1.out)
  have HK2:=lh9 (zad hBv HK2.out)
  have HM5:=lh9 (hw1_0)
  have HM6:=lh9 (hw3_0)
  have HR7:=lh9 (hw5_0)
  have HR8:=lh9 (hw7_0)
  obtain⟨adx12,hga⟩:∃x,x=ad8:=⟨_,rfl⟩
  subst hga
  have HK12:=lh9 (hk8)
  obtain⟨adx13,hga⟩:∃x,x=ad9:=⟨_,rfl⟩
  subst hga
  have HK13:=lh9 (hk9)
  obtain⟨adx14,hga⟩:∃x,x=ad10:=⟨_,rfl⟩
  subst hga
  have HK14:=lh9 (hk10)
  obtain⟨adx15,hga⟩:∃x,x=ad11:=⟨_,rfl⟩
  subst hga
  have HK15:=lh9 (hk11)
  clear hBv GG hk8 hg8 hk9 hg9 hk10 hg10 hk11 hg11 hw1_0 hw3_0 hw5_0 hw7_0
  clear HK1 HK2
  obtain⟨ok,hq⟩:∃b,decide (m0=N1)=b:=⟨_,rfl⟩
  have eb_ok:=zkn hq
  have H_ok:=lh9 hq
  clear hq
  obtain⟨fine,hq⟩:∃b,decide (n2=m0)=b:=⟨_,rfl⟩
  have eb_fine:=zkn hq
  have H_fine:=lh9 hq
  clear hq
  obtain⟨good,hq⟩:∃b,decide (n2=N0)=b:=⟨_,rfl⟩
  have eb_good:=zkn hq
  have H_good:=lh9 hq
  clear hq
  go_upto_region 6 with fail
  go_cut [11,12,31,32,33,34,35,36] (λs11 s12 s31 s32 s33 s34 s35 s36 wx=>∃(q:Nat) (A:oA9) (n c:Nat) (z:Int),s11=.pointer (some ⟨q,0,none⟩)/\s12=.bool ok/\Blk wx q 28 #[.slice A n c,.int .i64 z]/\CondM ok wx A n c z N0 m1 (zdG N0 m0 m1 X0 X1)/\Below wm11.heap.size wm11 wx)
  case first=>
   have HW:=lh9 (Below.refl wm11.heap.size wm11)
   by_cases hq:m0=N1
   ·obtain rfl:=hq
    obtain rfl:true=ok:=by rw [<-H_ok.out];simp
    obtain⟨p16_0,p16_1⟩:=HK12.out.c2
    obtain⟨p17_0,p17_1⟩:=HK13.out.c2
    have HS18:Hid (zaB (19) (zdG N0 m0 m1 X0 X1)):=zaB.up (zaB.mul HS5.out HS6.out HDX0.out HDX1.out) (by omega)
    go_wp2_with fail
    clear p16_0 p16_1 p17_0 p17_1
    (with_reducible refine(zok (HT.out _ HB.out) HM5.out HM6.out HS5.out HS6.out).mono ?_)
    rintro e X19 ⟨A18,c18,rfl,hm18,-,hb⟩
    have HW:=lh9 (zac HW.out hb)
    have HM18:=lh9 (hm18)
    clear hb hm18
    obtain⟨t1,t2,-⟩:=zaD X19 28 #[.slice A18 N0 c18,.int .i64 (m1:Int)]
    have HW:=lh9 (zac HW.out t1)
    have HM18:=lh9 (HM18.out.keep t1)
    go_wp2
    go_meet
    exact⟨_,_,_,_,_,rfl,rfl,t2,λ_=>⟨rfl,rfl,HM18.out⟩,HW.out⟩
   ·obtain rfl:false=ok:=by rw [<-H_ok.out];simp [hq]
    have HQ:=lh9 hq
    clear hq
    obtain⟨p16_0,p16_1⟩:=HK12.out.c2
    obtain⟨p17_0,p17_1⟩:=HK13.out.c2
    go_wp2_with fail
    clear p16_0 p16_1 p17_0 p17_1
    (with_reducible refine(zni HQ.out).mono ?_)
    rintro e X18 ⟨rfl,hb⟩
    have HW:=lh9 (zac HW.out hb)
    clear hb 
    obtain⟨t1,t2,-⟩:=zaD X18 28 #[.slice none 0 0,.int .i64 0]
    have HW:=lh9 (zac HW.out t1)
    go_wp2
    go_meet
    exact⟨_,_,_,_,_,rfl,rfl,t2,λh=>(by cases h),HW.out⟩
  case rest=>
   obtain⟨qm,Am,nm,cm,zm,rfl,rfl,hk,hi,hb⟩:=hcut
   obtain⟨wk,hwq⟩:∃x,x=wc:=⟨_,rfl⟩
   subst hwq
   have HB:=lh9 (zac HB.out hb)
   have HM5:=lh9 (HM5.out.keep hb)
   have HR7:=lh9 (HR7.out.keep hb)
   have HR8:=lh9 (HR8.out.keep hb)
   have HK12:=lh9 (zad hb HK12.out)
   have HK14:=lh9 (zad hb HK14.out)
   have HK15:=lh9 (zad hb HK15.out)
   have HKm:=lh9 (hk)
   have HIm:=lh9 (hi)
   clear hb hk hi
   generalize wk=V116 at*
   go_upto_region 7 with fail
   go_cut [13,14,37,38,39,40,41,42,43] (λs13 s14 s37 s38 s39 s40 s41 s42 s43 wx=>∃(A:oA9) (n c:Nat),s13=.slice A n c/\s14=.bool fine/\zlg fine wx A n c N0 (zaN X0 Y2)/\Below V116.heap.size V116 wx)
   case first=>
    have HW:=lh9 (Below.refl V116.heap.size V116)
    by_cases hq:n2=m0
    ·obtain rfl:=hq
     obtain rfl:true=fine:=by rw [<-H_fine.out];simp
     obtain⟨p117_0,p117_1⟩:=HK12.out.c2
     have hbd:=(Below.refl V116.heap.size V116).drew
     have HB:=lh9 (zac HB.out hbd)
     have HM5:=lh9 (HM5.out.keep hbd)
     have HW:=lh9 (zac HW.out hbd)
     refine rg (csc p117_0 (csc p117_1 csn)) (λhHeld=>?_)
     clear hbd p117_0 p117_1
     generalize V116.drew=D118 at*
     refine tk 0 ?_
     refine tk 1 ?_
     refine rc 2 (λKK hK=>?_)
     go_simp
     (with_reducible refine(HY2.out▸zdR (HT.out _ HB.out) (HA2.out _ HB.out)).mono ?_)
     rintro e X120 ⟨A119,c119,rfl,hv119,-,hb⟩
     refine hK.out _ _ (Cs.below hHeld hb) (λhHeld=>?_)
     clear hK KK
     have HB:=lh9 (zac HB.out hb)
     have HM5:=lh9 (HM5.out.keep hb)
     have HW:=lh9 (zac HW.out hb)
     have HV119:=lh9 (hv119)
     clear hb hv119
     have HS121:Hid (zay (64) (zaN X0 Y2)):=zay.up (zcc HS5.out HSA2.out (k:=n2) HDX0.out.cols (by have:=HL2.out;omega)) (by omega)
     refine rc 3 (λKK hK=>?_)
     go_simp
     (with_reducible refine(zjJ (HT.out _ HB.out) HM5.out HV119.out HS5.out HSA2.out).mono ?_)
     rintro e X122 ⟨g121,rfl,hg121,ho121,hb⟩
     refine hK.out _ _ (Cs.below hHeld hb) (λhHeld=>?_)
     clear hK KK
     have HW:=lh9 (zac HW.out hb)
     have HV121:=lh9 (zbI ho121)
     clear hb hg121 ho121
     refine tk 4 ?_
     refine tk 5 ?_
     refine tk 6 ?_
     refine tk 7 ?_
     refine tk 8 ?_
     refine rdn ?_
     clear hHeld
     go_wp2
     go_meet
     exact⟨_,_,_,rfl,rfl,λ_=>⟨rfl,HV121.out⟩,HW.out⟩
    ·obtain rfl:false=fine:=by rw [<-H_fine.out];simp [hq]
     have HQ:=lh9 hq
     clear hq
     obtain⟨p117_0,p117_1⟩:=HK12.out.c2
     have hbd:=(Below.refl V116.heap.size V116).drew
     have HB:=lh9 (zac HB.out hbd)
     have HW:=lh9 (zac HW.out hbd)
     refine rg (csc p117_0 (csc p117_1 csn)) (λhHeld=>?_)
     clear hbd p117_0 p117_1
     generalize V116.drew=D118 at*
     refine tk 0 ?_
     refine tk 1 ?_
     refine rc 2 (λKK hK=>?_)
     go_simp
     (with_reducible refine(HY2.out▸zdR (HT.out _ HB.out) (HA2.out _ HB.out)).mono ?_)
     rintro e X120 ⟨A119,c119,rfl,hv119,-,hb⟩
     refine hK.out _ _ (Cs.below hHeld hb) (λhHeld=>?_)
     clear hK KK
     have HW:=lh9 (zac HW.out hb)
     clear hb hv119
     refine rc 3 (λKK hK=>?_)
     go_simp
     (with_reducible refine(zkC HQ.out).mono ?_)
     rintro e X121 ⟨rfl,hb⟩
     refine hK.out _ _ (Cs.below hHeld hb) (λhHeld=>?_)
     clear hK KK
     have HW:=lh9 (zac HW.out hb)
     clear hb 
     refine tk 4 ?_
     refine tk 5 ?_
     refine tk 6 ?_
     refine tk 7 ?_
     refine tk 8 ?_
     refine rdn ?_
     clear hHeld
     go_wp2
     go_meet
     exact⟨_,_,_,rfl,rfl,λh=>(by cases h),HW.out⟩
   case rest=>
    obtain⟨At,nt,ct,rfl,rfl,hi,hb⟩:=hcut
    obtain⟨wk,hwq⟩:∃x,x=wc:=⟨_,rfl⟩
    subst hwq
    have HB:=lh9 (zac HB.out hb)
    have HM5:=lh9 (HM5.out.keep hb)
    have HR7:=lh9 (HR7.out.keep hb)
    have HR8:=lh9 (HR8.out.keep hb)
    have HK12:=lh9 (zad hb HK12.out)
    have HK14:=lh9 (zad hb HK14.out)
    have HK15:=lh9 (zad hb HK15.out)
    have HKm:=lh9 (zad hb HKm.out)
    have HIm:=lh9 (HIm.out.keep hb)
    have HIt:=lh9 (hi)
    clear hb hi
    generalize wk=V217 at*
    go_upto_region 8 with fail
    go_cut [15,16,44,45,46,47,48,49,50] (λs15 s16 s44 s45 s46 s47 s48 s49 s50 wx=>∃(A:oA9) (n c:Nat),s15=.slice A n c/\s16=.bool good/\zlg good wx A n c m0 (zaN (zbq N0 m0 X0) Y2)/\Below V217.heap.size V217 wx)
    case first=>
     have HW:=lh9 (Below.refl V217.heap.size V217)
     by_cases hq:n2=N0
     ·obtain rfl:=hq
      obtain rfl:true=good:=by rw [<-H_good.out];simp
      obtain⟨p218_0,p218_1⟩:=HK12.out.c2
      have hbd:=(Below.refl V217.heap.size V217).drew
      have HB:=lh9 (zac HB.out hbd)
      have HM5:=lh9 (HM5.out.keep hbd)
      have HW:=lh9 (zac HW.out hbd)
      refine rg (csc p218_0 (csc p218_1 csn)) (λhHeld=>?_)
      clear hbd p218_0 p218_1
      generalize V217.drew=D219 at*
      refine tk 0 ?_
      refine tk 1 ?_
      refine rc 2 (λKK hK=>?_)
      go_simp
      (with_reducible refine(HY2.out▸zdR (HT.out _ HB.out) (HA2.out _ HB.out)).mono ?_)
      rintro e X221 ⟨A220,c220,rfl,hv220,-,hb⟩
      refine hK.out _ _ (Cs.below hHeld hb) (λhHeld=>?_)
      clear hK KK
      have HB:=lh9 (zac HB.out hb)
      have HM5:=lh9 (HM5.out.keep hb)
      have HW:=lh9 (zac HW.out hb)
      have HV220:=lh9 (hv220)
      clear hb hv220
      have HS222:Hid (zay (64) (zaN (zbq n2 m0 X0) Y2)):=zay.up (zcc (HS5.out.turn HDX0.out) HSA2.out (k:=n2) (zbQ _ _ _).cols (by have:=HL2.out;omega)) (by omega)
      refine rc 3 (λKK hK=>?_)
      go_simp
      (with_reducible refine(mat_by (HT.out _ HB.out) HM5.out HV220.out HS5.out HSA2.out).mono ?_)
      rintro e X223 ⟨g222,rfl,hg222,ho222,hb⟩
      refine hK.out _ _ (Cs.below hHeld hb) (λhHeld=>?_)
      clear hK KK
      have HW:=lh9 (zac HW.out hb)
      have HV222:=lh9 (zbI ho222)
      clear hb hg222 ho222
      refine tk 4 ?_
      refine tk 5 ?_
      refine tk 6 ?_
      refine tk 7 ?_
      refine tk 8 ?_
      refine rdn ?_
      clear hHeld
      go_wp2
      go_meet
      exact⟨_,_,_,rfl,rfl,λ_=>⟨rfl,HV222.out⟩,HW.out⟩
     ·obtain rfl:false=good:=by rw [<-H_good.out];simp [hq]
      have HQ:=lh9 hq
      clear hq
      obtain⟨p218_0,p218_1⟩:=HK12.out.c2
      have hbd:=(Below.refl V217.heap.size V217).drew
      have HB:=lh9 (zac HB.out hbd)
      have HW:=lh9 (zac HW.out hbd)
      refine rg (csc p218_0 (csc p218_1 csn)) (λhHeld=>?_)
      clear hbd p218_0 p218_1
      generalize V217.drew=D219 at*
      refine tk 0 ?_
      refine tk 1 ?_
      refine rc 2 (λKK hK=>?_)
      go_simp
      (with_reducible refine(HY2.out▸zdR (HT.out _ HB.out) (HA2.out _ HB.out)).mono ?_)
      rintro e X221 ⟨A220,c220,rfl,hv220,-,hb⟩
      refine hK.out _ _ (Cs.below hHeld hb) (λhHeld=>?_)
      clear hK KK
      have HW:=lh9 (zac HW.out hb)
      clear hb hv220
      refine rc 3 (λKK hK=>?_)
      go_simp
      (with_reducible refine(zpi HQ.out).mono ?_)
      rintro e X222 ⟨rfl,hb⟩
      refine hK.out _ _ (Cs.below hHeld hb) (λhHeld=>?_)
      clear hK KK
      have HW:=lh9 (zac HW.out hb)
      clear hb 
      refine tk 4 ?_
      refine tk 5 ?_
      refine tk 6 ?_
      refine tk 7 ?_
      refine tk 8 ?_
      refine rdn ?_
      clear hHeld
      go_wp2
      go_meet
      exact⟨_,_,_,rfl,rfl,λh=>(by cases h),HW.out⟩
    case rest=>
     obtain⟨Aw,nw,cw,rfl,rfl,hi,hb⟩:=hcut
     obtain⟨wk,hwq⟩:∃x,x=wc:=⟨_,rfl⟩
     subst hwq
     have HB:=lh9 (zac HB.out hb)
     have HR7:=lh9 (HR7.out.keep hb)
     have HR8:=lh9 (HR8.out.keep hb)
     have HK14:=lh9 (zad hb HK14.out)
     have HK15:=lh9 (zad hb HK15.out)
     have HKm:=lh9 (zad hb HKm.out)
     have HIm:=lh9 (HIm.out.keep hb)
     have HIt:=lh9 (HIt.out.keep hb)
     have HIw:=lh9 (hi)
     clear hb hi
     generalize wk=V318 at*
     have hb1:=bne_b ok
     have hb2:=znn ok
     have hb3:=bne_b fine
     have hb4:=znn fine
     have hb5:=bne_b good
     have hb6:=znn good
     obtain⟨p319_0,p319_1⟩:=HK14.out.c2
     obtain⟨p320_0,p320_1⟩:=HK15.out.c2
     go_wp2_with fail
     clear p319_0 p319_1 p320_0 p320_1
     (with_reducible refine(HY2.out▸zgU (HA2.out _ HB.out)).mono ?_)
     rintro e X322 ⟨A321,c321,rfl,hv321,hb⟩
     have HB:=lh9 (zac HB.out hb)
     have HR7:=lh9 (HR7.out.keep hb)
     have HR8:=lh9 (HR8.out.keep hb)
     have HK14:=lh9 (zad hb HK14.out)
     have HK15:=lh9 (zad hb HK15.out)
     have HKm:=lh9 (zad hb HKm.out)
     have HIm:=lh9 (HIm.out.keep hb)
     have HIt:=lh9 (HIt.out.keep hb)
     have HIw:=lh9 (HIw.out.keep hb)
     have HR321:=lh9 (hv321)
     clear hb hv321
     clear hb1 hb2 hb3 hb4 hb5 hb6 eb_ok eb_fine eb_good
     go_wp2_with fail
     cases ok<;>cases fine<;>cases good
     ·clear HIm
      clear HIt
      clear HIw
      obtain⟨p323_0,p323_1⟩:=HKm.out.c2
      obtain⟨p324_0,p324_1⟩:=HK14.out.c2
      obtain⟨p325_0,p325_1⟩:=HK15.out.c2
      have hbd:=(Below.refl X322.heap.size X322).drew
      have HB:=lh9 (zac HB.out hbd)
      refine rg (csc p323_0 (csc p323_1 (csc p324_0 (csc p324_1 (csc p325_0 (csc p325_1 csn)))))) (λhHeld=>?_)
      clear hbd p323_0 p323_1 p324_0 p324_1 p325_0 p325_1
      generalize X322.drew=D326 at*
      refine tk 0 ?_
      refine tk 1 ?_
      refine tk 2 ?_
      refine tu 3 ?_
      refine tu 4 ?_
      refine tu 5 ?_
      refine tu 6 ?_
      refine tu 7 ?_
      refine tk 8 ?_
      refine tk 9 ?_
      refine tk 10 ?_
      refine tk 11 ?_
      refine tk 12 ?_
      refine tu 13 ?_
      refine tu 14 ?_
      refine tu 15 ?_
      refine tu 16 ?_
      refine tu 17 ?_
      refine tk 18 ?_
      refine tk 19 ?_
      refine tk 20 ?_
      refine tk 21 ?_
      refine tk 22 ?_
      refine tk 23 ?_
      refine tu 24 ?_
      refine tu 25 ?_
      refine tu 26 ?_
      refine tu 27 ?_
      refine tu 28 ?_
      refine tu 29 ?_
      refine tk 30 ?_
      refine tk 31 ?_
      refine tk 32 ?_
      refine rdn ?_
      clear hHeld
      go_wp2
      go_ret
      exact⟨rfl,HB.out⟩
     ·obtain rfl:n2=N0:=of_decide_eq_true H_good.out
      clear HIm
      clear HIt
      obtain⟨rfl,hmm⟩:=HIw.out rfl
      have HVw:=lh9 hmm
      clear hmm HIw
      have HSw:Hid (zay 64 (zaN (zbq n2 m0 X0) Y2)):=zay.up (zcc (HS5.out.turn HDX0.out) HSA2.out (k:=n2) (zbQ _ _ _).cols (by have:=HL2.out;omega)) (by omega)
      obtain⟨p323_0,p323_1⟩:=HKm.out.c2
      obtain⟨p324_0,p324_1⟩:=HK14.out.c2
      obtain⟨p325_0,p325_1⟩:=HK15.out.c2
      have hbd:=(Below.refl X322.heap.size X322).drew
      have HB:=lh9 (zac HB.out hbd)
      have HR7:=lh9 (HR7.out.keep hbd)
      have HR321:=lh9 (zas.below zai HR321.out hbd)
      have HVw:=lh9 (HVw.out.keep hbd)
      refine rg (csc p323_0 (csc p323_1 (csc p324_0 (csc p324_1 (csc p325_0 (csc p325_1 csn)))))) (λhHeld=>?_)
      clear hbd p323_0 p323_1 p324_0 p324_1 p325_0 p325_1
      generalize X322.drew=D326 at*
      refine tk 0 ?_
      refine tk 1 ?_
      refine tk 2 ?_
      refine tu 3 ?_
      refine tu 4 ?_
      refine tu 5 ?_
      refine tu 6 ?_
      refine tu 7 ?_
      refine tk 8 ?_
      refine tk 9 ?_
      refine tk 10 ?_
      refine tk 11 ?_
      refine tk 12 ?_
      refine tu 13 ?_
      refine tu 14 ?_
      refine tu 15 ?_
      refine tu 16 ?_
      refine tu 17 ?_
      refine tk 18 ?_
      refine tk 19 ?_
      refine tk 20 ?_
      refine tk 21 ?_
      refine tk 22 ?_
      refine tk 23 ?_
      refine tk 24 ?_
      refine tk 25 ?_
      refine tk 27 ?_
      refine rc 26 (λKK hK=>?_)
      go_simp
      (with_reducible refine(zee HR7.out).mono ?_)
      rintro e X328 ⟨A327,c327,rfl,hm327,hb⟩
      refine hK.out _ _ (Cs.below hHeld hb) (λhHeld=>?_)
      clear hK KK
      have HB:=lh9 (zac HB.out hb)
      have HR321:=lh9 (zas.below zai HR321.out hb)
      have HVw:=lh9 (HVw.out.keep hb)
      have HRt:=lh9 (hm327)
      clear hb hm327
      refine rc 28 (λKK hK=>?_)
      go_simp
      (with_reducible refine(zcr HRt.out HR321.out (HS5.out.turn HDX0.out) HSA2.out (by decide) (by decide) (by omega)).mono ?_)
      rintro e X330 ⟨A329,c329,rfl,hv329,hb⟩
      refine hK.out _ _ (Cs.below hHeld hb) (λhHeld=>?_)
      clear hK KK
      have HB:=lh9 (zac HB.out hb)
      have HVw:=lh9 (HVw.out.keep hb)
      have HR329:=lh9 (hv329)
      clear hb hv329
      refine rc 29 (λKK hK=>?_)
      go_simp
      (with_reducible refine(zbZ (HT.out _ HB.out) HVw.out HR329.out HSw.out (by omega) (by decide)).mono ?_)
      rintro e X331 ⟨rfl,hb⟩
      refine hK.out _ _ (Cs.below hHeld hb) (λhHeld=>?_)
      clear hK KK
      have HB:=lh9 (zac HB.out hb)
      clear hb 
      refine tk 30 ?_
      refine tk 31 ?_
      refine tk 32 ?_
      refine rdn ?_
      clear hHeld
      go_wp2
      go_ret
      exact⟨rfl,HB.out⟩
     ·obtain rfl:m0=n2:=(of_decide_eq_true H_fine.out).symm
      clear HIm
      obtain⟨rfl,hmm⟩:=HIt.out rfl
      have HVt:=lh9 hmm
      clear hmm HIt
      have HSt:Hid (zay 64 (zaN X0 Y2)):=zay.up (zcc HS5.out HSA2.out (k:=m0) HDX0.out.cols (by have:=HL2.out;omega)) (by omega)
      clear HIw
      obtain⟨p323_0,p323_1⟩:=HKm.out.c2
      obtain⟨p324_0,p324_1⟩:=HK14.out.c2
      obtain⟨p325_0,p325_1⟩:=HK15.out.c2
      have hbd:=(Below.refl X322.heap.size X322).drew
      have HB:=lh9 (zac HB.out hbd)
      have HR7:=lh9 (HR7.out.keep hbd)
      have HR321:=lh9 (zas.below zai HR321.out hbd)
      have HVt:=lh9 (HVt.out.keep hbd)
      refine rg (csc p323_0 (csc p323_1 (csc p324_0 (csc p324_1 (csc p325_0 (csc p325_1 csn)))))) (λhHeld=>?_)
      clear hbd p323_0 p323_1 p324_0 p324_1 p325_0 p325_1
      generalize X322.drew=D326 at*
      refine tk 0 ?_
      refine tk 1 ?_
      refine tk 2 ?_
      refine tu 3 ?_
      refine tu 4 ?_
      refine tu 5 ?_
      refine tu 6 ?_
      refine tu 7 ?_
      refine tk 8 ?_
      refine tk 9 ?_
      refine tk 10 ?_
      refine tk 11 ?_
      refine tk 12 ?_
      refine tk 13 ?_
      refine tk 14 ?_
      refine tk 15 ?_
      refine rc 16 (λKK hK=>?_)
      go_simp
      (with_reducible refine(zcr HR7.out HR321.out HS5.out HSA2.out (by decide) (by decide) (by omega)).mono ?_)
      rintro e X328 ⟨A327,c327,rfl,hv327,hb⟩
      refine hK.out _ _ (Cs.below hHeld hb) (λhHeld=>?_)
      clear hK KK
      have HB:=lh9 (zac HB.out hb)
      have HVt:=lh9 (HVt.out.keep hb)
      have HR327:=lh9 (hv327)
      clear hb hv327
      refine rc 17 (λKK hK=>?_)
      go_simp
      (with_reducible refine(zbZ (HT.out _ HB.out) HVt.out HR327.out HSt.out (by omega) (by decide)).mono ?_)
      rintro e X329 ⟨rfl,hb⟩
      refine hK.out _ _ (Cs.below hHeld hb) (λhHeld=>?_)
      clear hK KK
      have HB:=lh9 (zac HB.out hb)
      clear hb 
      refine tk 18 ?_
      refine tk 19 ?_
      refine tk 20 ?_
      refine tk 21 ?_
      refine tk 22 ?_
      refine tk 23 ?_
      refine tu 24 ?_
      refine tu 25 ?_
      refine tu 26 ?_
      refine tu 27 ?_
      refine tu 28 ?_
      refine tu 29 ?_
      refine tk 30 ?_
      refine tk 31 ?_
      refine tk 32 ?_
      refine rdn ?_
      clear hHeld
      go_wp2
      go_ret
      exact⟨rfl,HB.out⟩
     ·obtain rfl:m0=n2:=(of_decide_eq_true H_fine.out).symm
      obtain rfl:m0=N0:=of_decide_eq_true H_good.out
      clear HIm
      obtain⟨rfl,hmm⟩:=HIt.out rfl
      have HVt:=lh9 hmm
      clear hmm HIt
      have HSt:Hid (zay 64 (zaN X0 Y2)):=zay.up (zcc HS5.out HSA2.out (k:=m0) HDX0.out.cols (by have:=HL2.out;omega)) (by omega)
      obtain⟨rfl,hmm⟩:=HIw.out rfl
      have HVw:=lh9 hmm
      clear hmm HIw
      have HSw:Hid (zay 64 (zaN (zbq m0 m0 X0) Y2)):=zay.up (zcc (HS5.out.turn HDX0.out) HSA2.out (k:=m0) (zbQ _ _ _).cols (by have:=HL2.out;omega)) (by omega)
      obtain⟨p323_0,p323_1⟩:=HKm.out.c2
      obtain⟨p324_0,p324_1⟩:=HK14.out.c2
      obtain⟨p325_0,p325_1⟩:=HK15.out.c2
      have hbd:=(Below.refl X322.heap.size X322).drew
      have HB:=lh9 (zac HB.out hbd)
      have HR7:=lh9 (HR7.out.keep hbd)
      have HR321:=lh9 (zas.below zai HR321.out hbd)
      have HVt:=lh9 (HVt.out.keep hbd)
      have HVw:=lh9 (HVw.out.keep hbd)
      refine rg (csc p323_0 (csc p323_1 (csc p324_0 (csc p324_1 (csc p325_0 (csc p325_1 csn)))))) (λhHeld=>?_)
      clear hbd p323_0 p323_1 p324_0 p324_1 p325_0 p325_1
      generalize X322.drew=D326 at*
      refine tk 0 ?_
      refine tk 1 ?_
      refine tk 2 ?_
      refine tu 3 ?_
      refine tu 4 ?_
      refine tu 5 ?_
      refine tu 6 ?_
      refine tu 7 ?_
      refine tk 8 ?_
      refine tk 9 ?_
      refine tk 10 ?_
      refine tk 11 ?_
      refine tk 12 ?_
      refine tk 13 ?_
      refine tk 14 ?_
      refine tk 15 ?_
      refine rc 16 (λKK hK=>?_)
      go_simp
      (with_reducible refine(zcr HR7.out HR321.out HS5.out HSA2.out (by decide) (by decide) (by omega)).mono ?_)
      rintro e X328 ⟨A327,c327,rfl,hv327,hb⟩
      refine hK.out _ _ (Cs.below hHeld hb) (λhHeld=>?_)
      clear hK KK
      have HB:=lh9 (zac HB.out hb)
      have HR7:=lh9 (HR7.out.keep hb)
      have HR321:=lh9 (zas.below zai HR321.out hb)
      have HVt:=lh9 (HVt.out.keep hb)
      have HVw:=lh9 (HVw.out.keep hb)
      have HR327:=lh9 (hv327)
      clear hb hv327
      refine rc 17 (λKK hK=>?_)
      go_simp
      (with_reducible refine(zbZ (HT.out _ HB.out) HVt.out HR327.out HSt.out (by omega) (by decide)).mono ?_)
      rintro e X329 ⟨rfl,hb⟩
      refine hK.out _ _ (Cs.below hHeld hb) (λhHeld=>?_)
      clear hK KK
      have HB:=lh9 (zac HB.out hb)
      have HR7:=lh9 (HR7.out.keep hb)
      have HR321:=lh9 (zas.below zai HR321.out hb)
      have HVw:=lh9 (HVw.out.keep hb)
      clear hb 
      refine tk 18 ?_
      refine tk 19 ?_
      refine tk 20 ?_
      refine tk 21 ?_
      refine tk 22 ?_
      refine tk 23 ?_
      refine tk 24 ?_
      refine tk 25 ?_
      refine tk 27 ?_
      refine rc 26 (λKK hK=>?_)
      go_simp
      (with_reducible refine(zee HR7.out).mono ?_)
      rintro e X331 ⟨A330,c330,rfl,hm330,hb⟩
      refine hK.out _ _ (Cs.below hHeld hb) (λhHeld=>?_)
      clear hK KK
      have HB:=lh9 (zac HB.out hb)
      have HR321:=lh9 (zas.below zai HR321.out hb)
      have HVw:=lh9 (HVw.out.keep hb)
      have HRt:=lh9 (hm330)
      clear hb hm330
      refine rc 28 (λKK hK=>?_)
      go_simp
      (with_reducible refine(zcr HRt.out HR321.out (HS5.out.turn HDX0.out) HSA2.out (by decide) (by decide) (by omega)).mono ?_)
      rintro e X333 ⟨A332,c332,rfl,hv332,hb⟩
      refine hK.out _ _ (Cs.below hHeld hb) (λhHeld=>?_)
      clear hK KK
      have HB:=lh9 (zac HB.out hb)
      have HVw:=lh9 (HVw.out.keep hb)
      have HR332:=lh9 (hv332)
      clear hb hv332
      refine rc 29 (λKK hK=>?_)
      go_simp
      (with_reducible refine(zbZ (HT.out _ HB.out) HVw.out HR332.out HSw.out (by omega) (by decide)).mono ?_)
      rintro e X334 ⟨rfl,hb⟩
      refine hK.out _ _ (Cs.below hHeld hb) (λhHeld=>?_)
      clear hK KK
      have HB:=lh9 (zac HB.out hb)
      clear hb 
      refine tk 30 ?_
      refine tk 31 ?_
      refine tk 32 ?_
      refine rdn ?_
      clear hHeld
      go_wp2
      go_ret
      exact⟨rfl,HB.out⟩
     ·obtain rfl:m0=N1:=of_decide_eq_true H_ok.out
      obtain⟨rfl,rfl,hmm⟩:=HIm.out rfl
      have HMm:=lh9 hmm
      clear hmm HIm
      have HSm:Hid (zaB 19 (zdG N0 m0 m1 X0 X1)):=zaB.up (zaB.mul HS5.out HS6.out HDX0.out HDX1.out) (by omega)
      clear HIt
      clear HIw
      obtain⟨p323_0,p323_1⟩:=HKm.out.c2
      obtain⟨p324_0,p324_1⟩:=HK14.out.c2
      obtain⟨p325_0,p325_1⟩:=HK15.out.c2
      have hbd:=(Below.refl X322.heap.size X322).drew
      have HB:=lh9 (zac HB.out hbd)
      have HR7:=lh9 (HR7.out.keep hbd)
      have HR8:=lh9 (HR8.out.keep hbd)
      have HMm:=lh9 (HMm.out.keep hbd)
      refine rg (csc p323_0 (csc p323_1 (csc p324_0 (csc p324_1 (csc p325_0 (csc p325_1 csn)))))) (λhHeld=>?_)
      clear hbd p323_0 p323_1 p324_0 p324_1 p325_0 p325_1
      generalize X322.drew=D326 at*
      refine tk 0 ?_
      refine tk 1 ?_
      refine tk 2 ?_
      refine tk 3 ?_
      refine tk 4 ?_
      refine tk 5 ?_
      refine rc 6 (λKK hK=>?_)
      go_simp
      (with_reducible refine(zgH HR7.out HR8.out HS5.out HS6.out (by decide) (by decide) (by omega)).mono ?_)
      rintro e X328 ⟨A327,c327,rfl,hm327,hb⟩
      refine hK.out _ _ (Cs.below hHeld hb) (λhHeld=>?_)
      clear hK KK
      have HB:=lh9 (zac HB.out hb)
      have HMm:=lh9 (HMm.out.keep hb)
      have HRm:=lh9 (hm327)
      clear hb hm327
      refine rc 7 (λKK hK=>?_)
      go_simp
      (with_reducible refine(zeH (HT.out _ HB.out) HMm.out HRm.out HSm.out).mono ?_)
      rintro e X329 ⟨rfl,hb⟩
      refine hK.out _ _ (Cs.below hHeld hb) (λhHeld=>?_)
      clear hK KK
      have HB:=lh9 (zac HB.out hb)
      clear hb 
      refine tk 8 ?_
      refine tk 9 ?_
      refine tk 10 ?_
      refine tk 11 ?_
      refine tk 12 ?_
      refine tu 13 ?_
      refine tu 14 ?_
      refine tu 15 ?_
      refine tu 16 ?_
      refine tu 17 ?_
      refine tk 18 ?_
      refine tk 19 ?_
      refine tk 20 ?_
      refine tk 21 ?_
      refine tk 22 ?_
      refine tk 23 ?_
      refine tu 24 ?_
      refine tu 25 ?_
      refine tu 26 ?_
      refine tu 27 ?_
      refine tu 28 ?_
      refine tu 29 ?_
      refine tk 30 ?_
      refine tk 31 ?_
      refine tk 32 ?_
      refine rdn ?_
      clear hHeld
      go_wp2
      go_ret
      exact⟨rfl,HB.out⟩
     ·obtain rfl:m0=N1:=of_decide_eq_true H_ok.out
      obtain rfl:n2=N0:=of_decide_eq_true H_good.out
      obtain⟨rfl,rfl,hmm⟩:=HIm.out rfl
      have HMm:=lh9 hmm
      clear hmm HIm
      have HSm:Hid (zaB 19 (zdG n2 m0 m1 X0 X1)):=zaB.up (zaB.mul HS5.out HS6.out HDX0.out HDX1.out) (by omega)
      clear HIt
      obtain⟨rfl,hmm⟩:=HIw.out rfl
      have HVw:=lh9 hmm
      clear hmm HIw
      have HSw:Hid (zay 64 (zaN (zbq n2 m0 X0) Y2)):=zay.up (zcc (HS5.out.turn HDX0.out) HSA2.out (k:=n2) (zbQ _ _ _).cols (by have:=HL2.out;omega)) (by omega)
      obtain⟨p323_0,p323_1⟩:=HKm.out.c2
      obtain⟨p324_0,p324_1⟩:=HK14.out.c2
      obtain⟨p325_0,p325_1⟩:=HK15.out.c2
      have hbd:=(Below.refl X322.heap.size X322).drew
      have HB:=lh9 (zac HB.out hbd)
      have HR7:=lh9 (HR7.out.keep hbd)
      have HR8:=lh9 (HR8.out.keep hbd)
      have HR321:=lh9 (zas.below zai HR321.out hbd)
      have HMm:=lh9 (HMm.out.keep hbd)
      have HVw:=lh9 (HVw.out.keep hbd)
      refine rg (csc p323_0 (csc p323_1 (csc p324_0 (csc p324_1 (csc p325_0 (csc p325_1 csn)))))) (λhHeld=>?_)
      clear hbd p323_0 p323_1 p324_0 p324_1 p325_0 p325_1
      generalize X322.drew=D326 at*
      refine tk 0 ?_
      refine tk 1 ?_
      refine tk 2 ?_
      refine tk 3 ?_
      refine tk 4 ?_
      refine tk 5 ?_
      refine rc 6 (λKK hK=>?_)
      go_simp
      (with_reducible refine(zgH HR7.out HR8.out HS5.out HS6.out (by decide) (by decide) (by omega)).mono ?_)
      rintro e X328 ⟨A327,c327,rfl,hm327,hb⟩
      refine hK.out _ _ (Cs.below hHeld hb) (λhHeld=>?_)
      clear hK KK
      have HB:=lh9 (zac HB.out hb)
      have HR7:=lh9 (HR7.out.keep hb)
      have HR321:=lh9 (zas.below zai HR321.out hb)
      have HMm:=lh9 (HMm.out.keep hb)
      have HVw:=lh9 (HVw.out.keep hb)
      have HRm:=lh9 (hm327)
      clear hb hm327
      refine rc 7 (λKK hK=>?_)
      go_simp
      (with_reducible refine(zeH (HT.out _ HB.out) HMm.out HRm.out HSm.out).mono ?_)
      rintro e X329 ⟨rfl,hb⟩
      refine hK.out _ _ (Cs.below hHeld hb) (λhHeld=>?_)
      clear hK KK
      have HB:=lh9 (zac HB.out hb)
      have HR7:=lh9 (HR7.out.keep hb)
      have HR321:=lh9 (zas.below zai HR321.out hb)
      have HVw:=lh9 (HVw.out.keep hb)
      clear hb 
      refine tk 8 ?_
      refine tk 9 ?_
      refine tk 10 ?_
      refine tk 11 ?_
      refine tk 12 ?_
      refine tu 13 ?_
      refine tu 14 ?_
      refine tu 15 ?_
      refine tu 16 ?_
      refine tu 17 ?_
      refine tk 18 ?_
      refine tk 19 ?_
      refine tk 20 ?_
      refine tk 21 ?_
      refine tk 22 ?_
      refine tk 23 ?_
      refine tk 24 ?_
      refine tk 25 ?_
      refine tk 27 ?_
      refine rc 26 (λKK hK=>?_)
      go_simp
      (with_reducible refine(zee HR7.out).mono ?_)
      rintro e X331 ⟨A330,c330,rfl,hm330,hb⟩
      refine hK.out _ _ (Cs.below hHeld hb) (λhHeld=>?_)
      clear hK KK
      have HB:=lh9 (zac HB.out hb)
      have HR321:=lh9 (zas.below zai HR321.out hb)
      have HVw:=lh9 (HVw.out.keep hb)
      have HRt:=lh9 (hm330)
      clear hb hm330
      refine rc 28 (λKK hK=>?_)
      go_simp
      (with_reducible refine(zcr HRt.out HR321.out (HS5.out.turn HDX0.out) HSA2.out (by decide) (by decide) (by omega)).mono ?_)
      rintro e X333 ⟨A332,c332,rfl,hv332,hb⟩
      refine hK.out _ _ (Cs.below hHeld hb) (λhHeld=>?_)
      clear hK KK
      have HB:=lh9 (zac HB.out hb)
      have HVw:=lh9 (HVw.out.keep hb)
      have HR332:=lh9 (hv332)
      clear hb hv332
      refine rc 29 (λKK hK=>?_)
      go_simp
      (with_reducible refine(zbZ (HT.out _ HB.out) HVw.out HR332.out HSw.out (by omega) (by decide)).mono ?_)
      rintro e X334 ⟨rfl,hb⟩
      refine hK.out _ _ (Cs.below hHeld hb) (λhHeld=>?_)
      clear hK KK
      have HB:=lh9 (zac HB.out hb)
      clear hb 
      refine tk 30 ?_
      refine tk 31 ?_
      refine tk 32 ?_
      refine rdn ?_
      clear hHeld
      go_wp2
      go_ret
      exact⟨rfl,HB.out⟩
     ·obtain rfl:m0=N1:=of_decide_eq_true H_ok.out
      obtain rfl:m0=n2:=(of_decide_eq_true H_fine.out).symm
      obtain⟨rfl,rfl,hmm⟩:=HIm.out rfl
      have HMm:=lh9 hmm
      clear hmm HIm
      have HSm:Hid (zaB 19 (zdG N0 m0 m1 X0 X1)):=zaB.up (zaB.mul HS5.out HS6.out HDX0.out HDX1.out) (by omega)
      obtain⟨rfl,hmm⟩:=HIt.out rfl
      have HVt:=lh9 hmm
      clear hmm HIt
      have HSt:Hid (zay 64 (zaN X0 Y2)):=zay.up (zcc HS5.out HSA2.out (k:=m0) HDX0.out.cols (by have:=HL2.out;omega)) (by omega)
      clear HIw
      obtain⟨p323_0,p323_1⟩:=HKm.out.c2
      obtain⟨p324_0,p324_1⟩:=HK14.out.c2
      obtain⟨p325_0,p325_1⟩:=HK15.out.c2
      have hbd:=(Below.refl X322.heap.size X322).drew
      have HB:=lh9 (zac HB.out hbd)
      have HR7:=lh9 (HR7.out.keep hbd)
      have HR8:=lh9 (HR8.out.keep hbd)
      have HR321:=lh9 (zas.below zai HR321.out hbd)
      have HMm:=lh9 (HMm.out.keep hbd)
      have HVt:=lh9 (HVt.out.keep hbd)
      refine rg (csc p323_0 (csc p323_1 (csc p324_0 (csc p324_1 (csc p325_0 (csc p325_1 csn)))))) (λhHeld=>?_)
      clear hbd p323_0 p323_1 p324_0 p324_1 p325_0 p325_1
      generalize X322.drew=D326 at*
      refine tk 0 ?_
      refine tk 1 ?_
      refine tk 2 ?_
      refine tk 3 ?_
      refine tk 4 ?_
      refine tk 5 ?_
      refine rc 6 (λKK hK=>?_)
      go_simp
      (with_reducible refine(zgH HR7.out HR8.out HS5.out HS6.out (by decide) (by decide) (by omega)).mono ?_)
      rintro e X328 ⟨A327,c327,rfl,hm327,hb⟩
      refine hK.out _ _ (Cs.below hHeld hb) (λhHeld=>?_)
      clear hK KK
      have HB:=lh9 (zac HB.out hb)
      have HR7:=lh9 (HR7.out.keep hb)
      have HR321:=lh9 (zas.below zai HR321.out hb)
      have HMm:=lh9 (HMm.out.keep hb)
      have HVt:=lh9 (HVt.out.keep hb)
      have HRm:=lh9 (hm327)
      clear hb hm327
      refine rc 7 (λKK hK=>?_)
      go_simp
      (with_reducible refine(zeH (HT.out _ HB.out) HMm.out HRm.out HSm.out).mono ?_)
      rintro e X329 ⟨rfl,hb⟩
      refine hK.out _ _ (Cs.below hHeld hb) (λhHeld=>?_)
      clear hK KK
      have HB:=lh9 (zac HB.out hb)
      have HR7:=lh9 (HR7.out.keep hb)
      have HR321:=lh9 (zas.below zai HR321.out hb)
      have HVt:=lh9 (HVt.out.keep hb)
      clear hb 
      refine tk 8 ?_
      refine tk 9 ?_
      refine tk 10 ?_
      refine tk 11 ?_
      refine tk 12 ?_
      refine tk 13 ?_
      refine tk 14 ?_
      refine tk 15 ?_
      refine rc 16 (λKK hK=>?_)
      go_simp
      (with_reducible refine(zcr HR7.out HR321.out HS5.out HSA2.out (by decide) (by decide) (by omega)).mono ?_)
      rintro e X331 ⟨A330,c330,rfl,hv330,hb⟩
      refine hK.out _ _ (Cs.below hHeld hb) (λhHeld=>?_)
      clear hK KK
      have HB:=lh9 (zac HB.out hb)
      have HVt:=lh9 (HVt.out.keep hb)
      have HR330:=lh9 (hv330)
      clear hb hv330
      refine rc 17 (λKK hK=>?_)
      go_simp
      (with_reducible refine(zbZ (HT.out _ HB.out) HVt.out HR330.out HSt.out (by omega) (by decide)).mono ?_)
      rintro e X332 ⟨rfl,hb⟩
      refine hK.out _ _ (Cs.below hHeld hb) (λhHeld=>?_)
      clear hK KK
      have HB:=lh9 (zac HB.out hb)
      clear hb 
      refine tk 18 ?_
      refine tk 19 ?_
      refine tk 20 ?_
      refine tk 21 ?_
      refine tk 22 ?_
      refine tk 23 ?_
      refine tu 24 ?_
      refine tu 25 ?_
      refine tu 26 ?_
      refine tu 27 ?_
      refine tu 28 ?_
      refine tu 29 ?_
      refine tk 30 ?_
      refine tk 31 ?_
      refine tk 32 ?_
      refine rdn ?_
      clear hHeld
      go_wp2
      go_ret
      exact⟨rfl,HB.out⟩
     ·obtain rfl:m0=N1:=of_decide_eq_true H_ok.out
      obtain rfl:m0=n2:=(of_decide_eq_true H_fine.out).symm
      obtain rfl:m0=N0:=of_decide_eq_true H_good.out
      obtain⟨rfl,rfl,hmm⟩:=HIm.out rfl
      have HMm:=lh9 hmm
      clear hmm HIm
      have HSm:Hid (zaB 19 (zdG m0 m0 m1 X0 X1)):=zaB.up (zaB.mul HS5.out HS6.out HDX0.out HDX1.out) (by omega)
      obtain⟨rfl,hmm⟩:=HIt.out rfl
      have HVt:=lh9 hmm
      clear hmm HIt
      have HSt:Hid (zay 64 (zaN X0 Y2)):=zay.up (zcc HS5.out HSA2.out (k:=m0) HDX0.out.cols (by have:=HL2.out;omega)) (by omega)
      obtain⟨rfl,hmm⟩:=HIw.out rfl
      have HVw:=lh9 hmm
      clear hmm HIw
      have HSw:Hid (zay 64 (zaN (zbq m0 m0 X0) Y2)):=zay.up (zcc (HS5.out.turn HDX0.out) HSA2.out (k:=m0) (zbQ _ _ _).cols (by have:=HL2.out;omega)) (by omega)
      obtain⟨p323_0,p323_1⟩:=HKm.out.c2
      obtain⟨p324_0,p324_1⟩:=HK14.out.c2
      obtain⟨p325_0,p325_1⟩:=HK15.out.c2
      have hbd:=(Below.refl X322.heap.size X322).drew
      have HB:=lh9 (zac HB.out hbd)
      have HR7:=lh9 (HR7.out.keep hbd)
      have HR8:=lh9 (HR8.out.keep hbd)
      have HR321:=lh9 (zas.below zai HR321.out hbd)
      have HMm:=lh9 (HMm.out.keep hbd)
      have HVt:=lh9 (HVt.out.keep hbd)
      have HVw:=lh9 (HVw.out.keep hbd)
      refine rg (csc p323_0 (csc p323_1 (csc p324_0 (csc p324_1 (csc p325_0 (csc p325_1 csn)))))) (λhHeld=>?_)
      clear hbd p323_0 p323_1 p324_0 p324_1 p325_0 p325_1
      generalize X322.drew=D326 at*
      refine tk 0 ?_
      refine tk 1 ?_
      refine tk 2 ?_
      refine tk 3 ?_
      refine tk 4 ?_
      refine tk 5 ?_
      refine rc 6 (λKK hK=>?_)
      go_simp
      (with_reducible refine(zgH HR7.out HR8.out HS5.out HS6.out (by decide) (by decide) (by omega)).mono ?_)
      rintro e X328 ⟨A327,c327,rfl,hm327,hb⟩
      refine hK.out _ _ (Cs.below hHeld hb) (λhHeld=>?_)
      clear hK KK
      have HB:=lh9 (zac HB.out hb)
      have HR7:=lh9 (HR7.out.keep hb)
      have HR321:=lh9 (zas.below zai HR321.out hb)
      have HMm:=lh9 (HMm.out.keep hb)
      have HVt:=lh9 (HVt.out.keep hb)
      have HVw:=lh9 (HVw.out.keep hb)
      have HRm:=lh9 (hm327)
      clear hb hm327
      refine rc 7 (λKK hK=>?_)
      go_simp
      (with_reducible refine(zeH (HT.out _ HB.out) HMm.out HRm.out HSm.out).mono ?_)
      rintro e X329 ⟨rfl,hb⟩
      refine hK.out _ _ (Cs.below hHeld hb) (λhHeld=>?_)
      clear hK KK
      have HB:=lh9 (zac HB.out hb)
      have HR7:=lh9 (HR7.out.keep hb)
      have HR321:=lh9 (zas.below zai HR321.out hb)
      have HVt:=lh9 (HVt.out.keep hb)
      have HVw:=lh9 (HVw.out.keep hb)
      clear hb 
      refine tk 8 ?_
      refine tk 9 ?_
      refine tk 10 ?_
      refine tk 11 ?_
      refine tk 12 ?_
      refine tk 13 ?_
      refine tk 14 ?_
      refine tk 15 ?_
      refine rc 16 (λKK hK=>?_)
      go_simp
      (with_reducible refine(zcr HR7.out HR321.out HS5.out HSA2.out (by decide) (by decide) (by omega)).mono ?_)
      rintro e X331 ⟨A330,c330,rfl,hv330,hb⟩
      refine hK.out _ _ (Cs.below hHeld hb) (λhHeld=>?_)
      clear hK KK
      have HB:=lh9 (zac HB.out hb)
      have HR7:=lh9 (HR7.out.keep hb)
      have HR321:=lh9 (zas.below zai HR321.out hb)
      have HVt:=lh9 (HVt.out.keep hb)
      have HVw:=lh9 (HVw.out.keep hb)
      have HR330:=lh9 (hv330)
      clear hb hv330
      refine rc 17 (λKK hK=>?_)
      go_simp
      (with_reducible refine(zbZ (HT.out _ HB.out) HVt.out HR330.out HSt.out (by omega) (by decide)).mono ?_)
      rintro e X332 ⟨rfl,hb⟩
      refine hK.out _ _ (Cs.below hHeld hb) (λhHeld=>?_)
      clear hK KK
      have HB:=lh9 (zac HB.out hb)
      have HR7:=lh9 (HR7.out.keep hb)
      have HR321:=lh9 (zas.below zai HR321.out hb)
      have HVw:=lh9 (HVw.out.keep hb)
      clear hb 
      refine tk 18 ?_
      refine tk 19 ?_
      refine tk 20 ?_
      refine tk 21 ?_
      refine tk 22 ?_
      refine tk 23 ?_
      refine tk 24 ?_
      refine tk 25 ?_
      refine tk 27 ?_
      refine rc 26 (λKK hK=>?_)
      go_simp
      (with_reducible refine(zee HR7.out).mono ?_)
      rintro e X334 ⟨A333,c333,rfl,hm333,hb⟩
      refine hK.out _ _ (Cs.below hHeld hb) (λhHeld=>?_)
      clear hK KK
      have HB:=lh9 (zac HB.out hb)
      have HR321:=lh9 (zas.below zai HR321.out hb)
      have HVw:=lh9 (HVw.out.keep hb)
      have HRt:=lh9 (hm333)
      clear hb hm333
      refine rc 28 (λKK hK=>?_)
      go_simp
      (with_reducible refine(zcr HRt.out HR321.out (HS5.out.turn HDX0.out) HSA2.out (by decide) (by decide) (by omega)).mono ?_)
      rintro e X336 ⟨A335,c335,rfl,hv335,hb⟩
      refine hK.out _ _ (Cs.below hHeld hb) (λhHeld=>?_)
      clear hK KK
      have HB:=lh9 (zac HB.out hb)
      have HVw:=lh9 (HVw.out.keep hb)
      have HR335:=lh9 (hv335)
      clear hb hv335
      refine rc 29 (λKK hK=>?_)
      go_simp
      (with_reducible refine(zbZ (HT.out _ HB.out) HVw.out HR335.out HSw.out (by omega) (by decide)).mono ?_)
      rintro e X337 ⟨rfl,hb⟩
      refine hK.out _ _ (Cs.below hHeld hb) (λhHeld=>?_)
      clear hK KK
      have HB:=lh9 (zac HB.out hb)
      clear hb 
      refine tk 30 ?_
      refine tk 31 ?_
      refine tk 32 ?_
      refine rdn ?_
      clear hHeld
      go_wp2
      go_ret
      exact⟨rfl,HB.out⟩
 ·have hd:decide ((12:Int)<(n2:Int))=true:=decide_eq_true (by omega)
  have hd':decide (12<n2)=true:=decide_eq_true (by omega)
  go_wp2
  go_ret
  exact⟨rfl,HB.out⟩
