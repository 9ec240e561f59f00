/- What this claim leans on. -/
import Derived.Test.YtkiedljcgkoaiaaGreatDoorXVLook
namespace Go.Proofs.YtkiedljcgkoaiaaGreatDoor
open Go Go.RowKit
set_option maxHeartbeats 16000000
set_option maxRecDepth 100000
set_option linter.unusedVariables false
set_option linter.unusedSimpArgs false
theorem run_min3 {P : Program} (w : World) (ts : Array TypeId) (t : TypeId) (x y z m : Int) (h : min x (min y z) = m) : (Builtin.min_ ts t #[.int .i64 x,.int .i64 y,.int .i64 z]).run P w = .ok (.int .i64 m) w:=by
 have e1 : (if y < x then y else x) = min x y:=by split <;> omega
 have e2 : (if z < min x y then z else min x y) = m:=by split <;> omega
 simp [Builtin.min_,Builtin.min2,e1,e2]
theorem vecRoom_core (A0 : oA9) (n0 c0 : Nat) (L0 : List (Int × Int)) (A1 : oA9) (n1 c1 : Nat) (L1 : List (Int × Int)) (A2 : oA9) (n2 c2 : Nat) (L2 : List (Int × Int)) (p3 q3 : Int) (w : World) (h0 : zaN w A0 n0 c0 L0) (h1 : zaN w A1 n1 c1 L1) (h2 : zaN w A2 n2 c2 L2) (hp3 : zbM p3) (hq3 : zbM q3) (hT : zaj w) :
  Calls Tryz.prog 5 #[.slice A0 n0 c0,.slice A1 n1 c1,.slice A2 n2 c2,.agg #[.int .i64 p3,.int .i64 q3]] w fun e w' => e = .returned (.bool true) ∧ Below w.heap.size w w':=by
 have hn0 : n0 ≤ 1048576:=Nat.le_trans h0.fits h0.small
 have hl0 : (zbI L0).length = n0:=by rw [zbm]; exact h0.len
 have HL0:=lh9 hl0
 clear hl0
 have HSA0:=lh9 (zbX h0)
 have HA0:=lh9 (fun w' (hb : Below w.heap.size w w') => h0.below hb)
 have hn1 : n1 ≤ 1048576:=Nat.le_trans h1.fits h1.small
 have hl1 : (zbI L1).length = n1:=by rw [zbm]; exact h1.len
 have HL1:=lh9 hl1
 clear hl1
 have HSA1:=lh9 (zbX h1)
 have HA1:=lh9 (fun w' (hb : Below w.heap.size w w') => h1.below hb)
 have hn2 : n2 ≤ 1048576:=Nat.le_trans h2.fits h2.small
 have hl2 : (zbI L2).length = n2:=by rw [zbm]; exact h2.len
 have HL2:=lh9 hl2
 clear hl2
 have HSA2:=lh9 (zbX h2)
 have HA2:=lh9 (fun w' (hb : Below w.heap.size w w') => h2.below hb)
 have HP3:=lh9 hp3
 have HQ3:=lh9 hq3
 have HSF3:=lh9 (qOf_sz hp3.1 hp3.2 hq3.1 hq3.2)
 obtain ⟨N,hN⟩ : ∃ N,min n0 (min n1 n2) = N:=⟨_,rfl⟩
 have hN0 : N ≤ n0:=by omega
 have hN1 : N ≤ n1:=by omega
 have hN2 : N ≤ n2:=by omega
 have hNN : N ≤ 1048576:=by omega
 have hmin : ∀ W : World,(Builtin.min_ #[3,3,3] 3 #[.int .i64 (n0 : Int),.int .i64 (n1 : Int),.int .i64 (n2 : Int)]).run Tryz.prog W = .ok (.int .i64 (N : Int)) W:=fun W => run_min3 W _ _ _ _ _ _ (by omega)
 clear hN
 have jz : (0 : Int) ≤ (N : Int):=by omega
 have j0 : (N : Int) ≤ (c0 : Int):=by have:=h0.fits; omega
 have j1 : (N : Int) ≤ (c1 : Int):=by have:=h1.fits; omega
 have j2 : (N : Int) ≤ (c2 : Int):=by have:=h2.fits; omega
 have k0:=h0.take hN0
 obtain ⟨M0,hM0⟩ : ∃ M,L0.take N = M:=⟨_,rfl⟩
 rw [hM0] at k0
 clear HA0 HSA0 HL0
 have HA0:=lh9 (fun w' (hb : Below w.heap.size w w') => k0.below hb)
 have hl0 : (zbI M0).length = N:=by rw [zbm]; exact k0.len
 have hs0:=zbX k0
 obtain ⟨X,hx0⟩ : ∃ X,zbI M0 = X:=⟨_,rfl⟩
 rw [hx0] at hl0 hs0
 have HX0:=lh9 hx0
 have HSA0:=lh9 hs0
 have HL0:=lh9 hl0
 clear k0 hM0 hx0 hl0 hs0 hN0
 have k1:=h1.take hN1
 obtain ⟨M1,hM1⟩ : ∃ M,L1.take N = M:=⟨_,rfl⟩
 rw [hM1] at k1
 clear HA1 HSA1 HL1
 have HA1:=lh9 (fun w' (hb : Below w.heap.size w w') => k1.below hb)
 have hl1 : (zbI M1).length = N:=by rw [zbm]; exact k1.len
 have hs1:=zbX k1
 obtain ⟨Y,hx1⟩ : ∃ X,zbI M1 = X:=⟨_,rfl⟩
 rw [hx1] at hl1 hs1
 have HX1:=lh9 hx1
 have HSA1:=lh9 hs1
 have HL1:=lh9 hl1
 clear k1 hM1 hx1 hl1 hs1 hN1
 have k2:=h2.take hN2
 obtain ⟨M2,hM2⟩ : ∃ M,L2.take N = M:=⟨_,rfl⟩
 rw [hM2] at k2
 clear HA2 HSA2 HL2
 have HA2:=lh9 (fun w' (hb : Below w.heap.size w w') => k2.below hb)
 have hl2 : (zbI M2).length = N:=by rw [zbm]; exact k2.len
 have hs2:=zbX k2
 obtain ⟨Z,hx2⟩ : ∃ X,zbI M2 = X:=⟨_,rfl⟩
 rw [hx2] at hl2 hs2
 have HX2:=lh9 hx2
 have HSA2:=lh9 hs2
 have HL2:=lh9 hl2
 clear k2 hM2 hx2 hl2 hs2 hN2
 obtain ⟨f,hf⟩ : ∃ f,qOf p3 q3 = f:=⟨_,rfl⟩
 rw [hf] at HSF3
 have HF:=lh9 hf
 have E1 : Hid (decide (zcn X Y = zcn Y X) = true):=decide_eq_true (zgw X Y)
 have E2 : Hid (decide (zcq (subL X X) < 0) = true):=decide_eq_true ((zfO _).2 (zgN X))
 have E3 : Hid (decide (zbZ (zcn X Y) Z = zbZ X Z + zbZ Y Z) = true):=decide_eq_true (zhP HL0.out HL1.out HL2.out)
 have E4 : Hid (decide (zba f (zcn X Y) = zcn (zba f X) (zba f Y)) = true):=decide_eq_true (zgM f X Y)
 clear hf
 have HT:=lh9 (fun w' (hb : Below w.heap.size w w') => hT.on hb)
 have HB:=lh9 (Below.refl w.heap.size w)
 clear hT h0 h1 h2 hp3 hq3
 go_enter Tryz.func5,Tryz.ntmps5
 obtain ⟨bq0,bq1,-⟩:=zaG w 24 #[.int .i64 p3,.int .i64 q3]
 have HB:=lh9 (zaa HB.out bq0)
 have HK1:=lh9 (bq1)
 clear bq0 bq1
 go_wp2_with fail
 generalize w.alloc (.cells #[.int .i64 p3,.int .i64 q3] 24) = W2 at *
 (with_reducible refine (zdA (HT.out _ HB.out)).mono ?_)
 rintro e X3 ⟨rfl,hb⟩
 have HB:=lh9 (zaa HB.out hb)
 have HK1:=lh9 (zac hb HK1.out)
 clear hb 
 go_wp2_with fail
 clear hmin
 have hbd:=(Below.refl X3.heap.size X3).drew
 have HB:=lh9 (zaa HB.out hbd)
 have HK1:=lh9 (zac hbd HK1.out)
 refine rg csn (fun hHeld => ?_)
 clear hbd
 generalize X3.drew = D4 at *
 refine tk 0 ?_
 refine tk 1 ?_
 refine tk 2 ?_
 refine tk 4 ?_
 refine tk 5 ?_
 refine tk 6 ?_
 refine tk 8 ?_
 refine tk 9 ?_
 refine tk 10 ?_
 refine rc 3 (fun KK hK => ?_)
 go_simp
 (with_reducible refine (HX0.out ▸ zbj (HT.out _ HB.out) (HA0.out _ HB.out)).mono ?_)
 rintro e X6 ⟨A5,c5,rfl,hv5,-,hb⟩
 refine hK.out _ _ (Cs.below hHeld hb) (fun hHeld => ?_)
 clear hK KK
 have HB:=lh9 (zaa HB.out hb)
 have HK1:=lh9 (zac hb HK1.out)
 have HV5:=lh9 (hv5)
 clear hb hv5
 refine rc 7 (fun KK hK => ?_)
 go_simp
 (with_reducible refine (HX1.out ▸ zbj (HT.out _ HB.out) (HA1.out _ HB.out)).mono ?_)
 rintro e X8 ⟨A7,c7,rfl,hv7,-,hb⟩
 refine hK.out _ _ (Cs.below hHeld hb) (fun hHeld => ?_)
 clear hK KK
 have HB:=lh9 (zaa HB.out hb)
 have HK1:=lh9 (zac hb HK1.out)
 have HV5:=lh9 (HV5.out.keep hb)
 have HV7:=lh9 (hv7)
 clear hb hv7
 refine rc 11 (fun KK hK => ?_)
 go_simp
 (with_reducible refine (HX2.out ▸ zbj (HT.out _ HB.out) (HA2.out _ HB.out)).mono ?_)
 rintro e X10 ⟨A9,c9,rfl,hv9,-,hb⟩
 refine hK.out _ _ (Cs.below hHeld hb) (fun hHeld => ?_)
 clear hK KK
 have HB:=lh9 (zaa HB.out hb)
 have HK1:=lh9 (zac hb HK1.out)
 have HV5:=lh9 (HV5.out.keep hb)
 have HV7:=lh9 (HV7.out.keep hb)
 have HV9:=lh9 (hv9)
 clear hb hv9
 refine tk 12 ?_
 refine tk 13 ?_
 refine tk 14 ?_
 refine rdn ?_
 clear hHeld
 have HS11 : Hid (zao (3) (zcn X Y)):=(zao.add HSA0.out HSA1.out).up (by decide)
 go_wp2_with fail
 (with_reducible refine (zhz (HT.out _ HB.out) HV5.out HV7.out HSA0.out HSA1.out (by omega) (by decide) (by decide)).mono ?_)
 rintro e X12 ⟨g11,rfl,hg11,ho11,hb⟩
 have HB:=lh9 (zaa HB.out hb)
 have HK1:=lh9 (zac hb HK1.out)
 have HV5:=lh9 (HV5.out.keep hb)
 have HV7:=lh9 (HV7.out.keep hb)
 have HV9:=lh9 (HV9.out.keep hb)
 have HV11:=lh9 (zaH ho11)
 clear hb hg11 ho11
 have HS13 : Hid (zao (3) (zcn Y X)):=(zao.add HSA1.out HSA0.out).up (by decide)
 go_wp2_with fail
 (with_reducible refine (zhz (HT.out _ HB.out) HV7.out HV5.out HSA1.out HSA0.out (by omega) (by decide) (by decide)).mono ?_)
 rintro e X14 ⟨g13,rfl,hg13,ho13,hb⟩
 have HB:=lh9 (zaa HB.out hb)
 have HK1:=lh9 (zac hb HK1.out)
 have HV5:=lh9 (HV5.out.keep hb)
 have HV7:=lh9 (HV7.out.keep hb)
 have HV9:=lh9 (HV9.out.keep hb)
 have HV11:=lh9 (HV11.out.keep hb)
 have HV13:=lh9 (zaH ho13)
 clear hb hg13 ho13
 have HS15 : Hid (zao (3) (subL X X)):=(zao.sub HSA0.out HSA0.out).up (by decide)
 go_wp2_with fail
 (with_reducible refine (vec_sub (HT.out _ HB.out) HV5.out HV5.out HSA0.out HSA0.out (by omega) (by decide) (by decide)).mono ?_)
 rintro e X16 ⟨g15,rfl,hg15,ho15,hb⟩
 have HB:=lh9 (zaa HB.out hb)
 have HK1:=lh9 (zac hb HK1.out)
 have HV5:=lh9 (HV5.out.keep hb)
 have HV7:=lh9 (HV7.out.keep hb)
 have HV9:=lh9 (HV9.out.keep hb)
 have HV11:=lh9 (HV11.out.keep hb)
 have HV13:=lh9 (HV13.out.keep hb)
 have HV15:=lh9 (zaH ho15)
 clear hb hg15 ho15
 go_wp2_with fail
 (with_reducible refine (zbU E1.out (HT.out _ HB.out) HV11.out HV13.out HS11.out HS13.out (by omega) (by omega) (by decide) (by decide)).mono ?_)
 rintro e X17 ⟨rfl,hb⟩
 have HB:=lh9 (zaa HB.out hb)
 have HK1:=lh9 (zac hb HK1.out)
 have HV5:=lh9 (HV5.out.keep hb)
 have HV7:=lh9 (HV7.out.keep hb)
 have HV9:=lh9 (HV9.out.keep hb)
 have HV11:=lh9 (HV11.out.keep hb)
 have HV13:=lh9 (HV13.out.keep hb)
 have HV15:=lh9 (HV15.out.keep hb)
 clear hb 
 go_wp2_with fail
 (with_reducible refine (ziE E2.out (HT.out _ HB.out) HV15.out HS15.out (by omega) (by decide)).mono ?_)
 rintro e X18 ⟨rfl,hb⟩
 have HB:=lh9 (zaa HB.out hb)
 have HK1:=lh9 (zac hb HK1.out)
 have HV5:=lh9 (HV5.out.keep hb)
 have HV7:=lh9 (HV7.out.keep hb)
 have HV9:=lh9 (HV9.out.keep hb)
 have HV11:=lh9 (HV11.out.keep hb)
 have HV13:=lh9 (HV13.out.keep hb)
 have HV15:=lh9 (HV15.out.keep hb)
 clear hb 
 clear HV13 HV15
 have HS19 : Hid (SzQ (1 + N * (3 + 1 + 1)) (zbZ (zcn X Y) Z)):=ziY (add_len HL0.out HL1.out) HL2.out HS11.out HSA2.out
 go_wp2_with fail
 (with_reducible refine (zeO (HT.out _ HB.out) HV11.out HV9.out HS11.out HSA2.out (by omega) (by decide) (by decide) (by omega)).mono ?_)
 rintro e X20 ⟨b19,A19,n19,c19,E19,k19,f19,rfl,hw19,hb⟩
 have HB:=lh9 (zaa HB.out hb)
 have HK1:=lh9 (zac hb HK1.out)
 have HV5:=lh9 (HV5.out.keep hb)
 have HV7:=lh9 (HV7.out.keep hb)
 have HV9:=lh9 (HV9.out.keep hb)
 have HV11:=lh9 (HV11.out.keep hb)
 have HQ19:=lh9 (hw19)
 clear hb hw19
 have HS22 : Hid (SzQ (1 + N * (1 + 1 + 1)) (zbZ X Z)):=ziY HL0.out HL2.out HSA0.out HSA2.out
 obtain ⟨bq0,bq1,-⟩:=zaG X20 44 #[.bool b19,.slice A19 n19 c19,.slice E19 k19 f19]
 have HB:=lh9 (zaa HB.out bq0)
 have HK1:=lh9 (zac bq0 HK1.out)
 have HV5:=lh9 (HV5.out.keep bq0)
 have HV7:=lh9 (HV7.out.keep bq0)
 have HV9:=lh9 (HV9.out.keep bq0)
 have HV11:=lh9 (HV11.out.keep bq0)
 have HQ19:=lh9 (HQ19.out.below bq0)
 have HK21:=lh9 (bq1)
 clear bq0 bq1
 go_wp2_with fail
 generalize X20.alloc (.cells #[.bool b19,.slice A19 n19 c19,.slice E19 k19 f19] 44) = W23 at *
 generalize X20.heap.size = q23 at *
 (with_reducible refine (zeO (HT.out _ HB.out) HV5.out HV9.out HSA0.out HSA2.out (by omega) (by decide) (by decide) (by omega)).mono ?_)
 rintro e X24 ⟨b22,A22,n22,c22,E22,k22,f22,rfl,hw22,hb⟩
 have HB:=lh9 (zaa HB.out hb)
 have HK1:=lh9 (zac hb HK1.out)
 have HV5:=lh9 (HV5.out.keep hb)
 have HV7:=lh9 (HV7.out.keep hb)
 have HV9:=lh9 (HV9.out.keep hb)
 have HV11:=lh9 (HV11.out.keep hb)
 have HQ19:=lh9 (HQ19.out.below hb)
 have HK21:=lh9 (zac hb HK21.out)
 have HQ22:=lh9 (hw22)
 clear hb hw22
 have HS26 : Hid (SzQ (1 + N * (1 + 1 + 1)) (zbZ Y Z)):=ziY HL1.out HL2.out HSA1.out HSA2.out
 obtain ⟨bq0,bq1,-⟩:=zaG X24 44 #[.bool b22,.slice A22 n22 c22,.slice E22 k22 f22]
 have HB:=lh9 (zaa HB.out bq0)
 have HK1:=lh9 (zac bq0 HK1.out)
 have HV5:=lh9 (HV5.out.keep bq0)
 have HV7:=lh9 (HV7.out.keep bq0)
 have HV9:=lh9 (HV9.out.keep bq0)
 have HV11:=lh9 (HV11.out.keep bq0)
 have HQ19:=lh9 (HQ19.out.below bq0)
 have HK21:=lh9 (zac bq0 HK21.out)
 have HQ22:=lh9 (HQ22.out.below bq0)
 have HK25:=lh9 (bq1)
 clear bq0 bq1
 go_wp2_with fail
 generalize X24.alloc (.cells #[.bool b22,.slice A22 n22 c22,.slice E22 k22 f22] 44) = W27 at *
 generalize X24.heap.size = q27 at *
 (with_reducible refine (zeO (HT.out _ HB.out) HV7.out HV9.out HSA1.out HSA2.out (by omega) (by decide) (by decide) (by omega)).mono ?_)
 rintro e X28 ⟨b26,A26,n26,c26,E26,k26,f26,rfl,hw26,hb⟩
 have HB:=lh9 (zaa HB.out hb)
 have HK1:=lh9 (zac hb HK1.out)
 have HV5:=lh9 (HV5.out.keep hb)
 have HV7:=lh9 (HV7.out.keep hb)
 have HV9:=lh9 (HV9.out.keep hb)
 have HV11:=lh9 (HV11.out.keep hb)
 have HQ19:=lh9 (HQ19.out.below hb)
 have HK21:=lh9 (zac hb HK21.out)
 have HQ22:=lh9 (HQ22.out.below hb)
 have HK25:=lh9 (zac hb HK25.out)
 have HQ26:=lh9 (hw26)
 clear hb hw26
 obtain ⟨bq0,bq1,-⟩:=zaG X28 44 #[.bool b26,.slice A26 n26 c26,.slice E26 k26 f26]
 have HB:=lh9 (zaa HB.out bq0)
 have HK1:=lh9 (zac bq0 HK1.out)
 have HV5:=lh9 (HV5.out.keep bq0)
 have HV7:=lh9 (HV7.out.keep bq0)
 have HV9:=lh9 (HV9.out.keep bq0)
 have HV11:=lh9 (HV11.out.keep bq0)
 have HQ19:=lh9 (HQ19.out.below bq0)
 have HK21:=lh9 (zac bq0 HK21.out)
 have HQ22:=lh9 (HQ22.out.below bq0)
 have HK25:=lh9 (zac bq0 HK25.out)
 have HQ26:=lh9 (HQ26.out.below bq0)
 have HK29:=lh9 (bq1)
 clear bq0 bq1
 go_upto_region 13 with fail
 generalize X28.alloc (.cells #[.bool b26,.slice A26 n26 c26,.slice E26 k26 f26] 44) = W30 at *
 generalize X28.heap.size = q30 at *
 obtain ⟨p31_0,p31_1⟩:=HK1.out.c2
 have hbd:=(Below.refl W30.heap.size W30).drew
 have HB:=lh9 (zaa HB.out hbd)
 have HK1:=lh9 (zac hbd HK1.out)
 have HV5:=lh9 (HV5.out.keep hbd)
 have HV7:=lh9 (HV7.out.keep hbd)
 have HV9:=lh9 (HV9.out.keep hbd)
 have HV11:=lh9 (HV11.out.keep hbd)
 have HQ19:=lh9 (HQ19.out.below hbd)
 have HK21:=lh9 (zac hbd HK21.out)
 have HQ22:=lh9 (HQ22.out.below hbd)
 have HK25:=lh9 (zac hbd HK25.out)
 have HQ26:=lh9 (HQ26.out.below hbd)
 have HK29:=lh9 (zac hbd HK29.out)
 refine rg (csc p31_0 (csc p31_1 csn)) (fun hHeld => ?_)
 clear hbd p31_0 p31_1
 generalize W30.drew = D32 at *
 refine tk 0 ?_
 refine tk 2 ?_
 refine tk 4 ?_
 refine tk 6 ?_
 have HS33 : Hid (SzQ (1) (f)):=HSF3.out
 refine rc 1 (fun KK hK => ?_)
 go_simp
 (with_reducible refine (HF.out ▸ zdS (HT.out _ HB.out) HP3.out HQ3.out).mono ?_)
 rintro e X34 ⟨b33,A33,n33,c33,E33,k33,f33,rfl,hw33,hb⟩
 refine hK.out _ _ (Cs.below hHeld hb) (fun hHeld => ?_)
 clear hK KK
 have HB:=lh9 (zaa HB.out hb)
 have HK1:=lh9 (zac hb HK1.out)
 have HV5:=lh9 (HV5.out.keep hb)
 have HV7:=lh9 (HV7.out.keep hb)
 have HV9:=lh9 (HV9.out.keep hb)
 have HV11:=lh9 (HV11.out.keep hb)
 have HQ19:=lh9 (HQ19.out.below hb)
 have HK21:=lh9 (zac hb HK21.out)
 have HQ22:=lh9 (HQ22.out.below hb)
 have HK25:=lh9 (zac hb HK25.out)
 have HQ26:=lh9 (HQ26.out.below hb)
 have HK29:=lh9 (zac hb HK29.out)
 have HQ33:=lh9 (hw33)
 clear hb hw33
 have HS35 : Hid (zao (1 + 1) (zba f X)):=(zao.scale HS33.out HSA0.out).up (by decide)
 refine rc 3 (fun KK hK => ?_)
 go_simp
 (with_reducible refine (zeX (HT.out _ HB.out) HQ33.out HV5.out HS33.out HSA0.out (by omega) (by decide) (by decide)).mono ?_)
 rintro e X36 ⟨g35,rfl,hg35,ho35,hb⟩
 refine hK.out _ _ (Cs.below hHeld hb) (fun hHeld => ?_)
 clear hK KK
 have HB:=lh9 (zaa HB.out hb)
 have HK1:=lh9 (zac hb HK1.out)
 have HV5:=lh9 (HV5.out.keep hb)
 have HV7:=lh9 (HV7.out.keep hb)
 have HV9:=lh9 (HV9.out.keep hb)
 have HV11:=lh9 (HV11.out.keep hb)
 have HQ19:=lh9 (HQ19.out.below hb)
 have HK21:=lh9 (zac hb HK21.out)
 have HQ22:=lh9 (HQ22.out.below hb)
 have HK25:=lh9 (zac hb HK25.out)
 have HQ26:=lh9 (HQ26.out.below hb)
 have HK29:=lh9 (zac hb HK29.out)
 have HQ33:=lh9 (HQ33.out.below hb)
 have HV35:=lh9 (zaH ho35)
 clear hb hg35 ho35
 have HS37 : Hid (SzQ (1) (f)):=HSF3.out
 refine rc 5 (fun KK hK => ?_)
 go_simp
 (with_reducible refine (HF.out ▸ zdS (HT.out _ HB.out) HP3.out HQ3.out).mono ?_)
 rintro e X38 ⟨b37,A37,n37,c37,E37,k37,f37,rfl,hw37,hb⟩
 refine hK.out _ _ (Cs.below hHeld hb) (fun hHeld => ?_)
 clear hK KK
 have HB:=lh9 (zaa HB.out hb)
 have HK1:=lh9 (zac hb HK1.out)
 have HV5:=lh9 (HV5.out.keep hb)
 have HV7:=lh9 (HV7.out.keep hb)
 have HV9:=lh9 (HV9.out.keep hb)
 have HV11:=lh9 (HV11.out.keep hb)
 have HQ19:=lh9 (HQ19.out.below hb)
 have HK21:=lh9 (zac hb HK21.out)
 have HQ22:=lh9 (HQ22.out.below hb)
 have HK25:=lh9 (zac hb HK25.out)
 have HQ26:=lh9 (HQ26.out.below hb)
 have HK29:=lh9 (zac hb HK29.out)
 have HQ33:=lh9 (HQ33.out.below hb)
 have HV35:=lh9 (HV35.out.keep hb)
 have HQ37:=lh9 (hw37)
 clear hb hw37
 have HS39 : Hid (zao (1 + 1) (zba f Y)):=(zao.scale HS37.out HSA1.out).up (by decide)
 refine rc 7 (fun KK hK => ?_)
 go_simp
 (with_reducible refine (zeX (HT.out _ HB.out) HQ37.out HV7.out HS37.out HSA1.out (by omega) (by decide) (by decide)).mono ?_)
 rintro e X40 ⟨g39,rfl,hg39,ho39,hb⟩
 refine hK.out _ _ (Cs.below hHeld hb) (fun hHeld => ?_)
 clear hK KK
 have HB:=lh9 (zaa HB.out hb)
 have HK1:=lh9 (zac hb HK1.out)
 have HV5:=lh9 (HV5.out.keep hb)
 have HV7:=lh9 (HV7.out.keep hb)
 have HV9:=lh9 (HV9.out.keep hb)
 have HV11:=lh9 (HV11.out.keep hb)
 have HQ19:=lh9 (HQ19.out.below hb)
 have HK21:=lh9 (zac hb HK21.out)
 have HQ22:=lh9 (HQ22.out.below hb)
 have HK25:=lh9 (zac hb HK25.out)
 have HQ26:=lh9 (HQ26.out.below hb)
 have HK29:=lh9 (zac hb HK29.out)
 have HQ33:=lh9 (HQ33.out.below hb)
 have HV35:=lh9 (HV35.out.keep hb)
 have HQ37:=lh9 (HQ37.out.below hb)
 have HV39:=lh9 (zaH ho39)
 clear hb hg39 ho39
 have HS41 : Hid (zao (5) (zcn (zba f X) (zba f Y))):=(zao.add HS35.out HS39.out).up (by decide)
 refine rc 8 (fun KK hK => ?_)
 go_simp
 (with_reducible refine (zhz (HT.out _ HB.out) HV35.out HV39.out HS35.out HS39.out (by omega) (by decide) (by decide)).mono ?_)
 rintro e X42 ⟨g41,rfl,hg41,ho41,hb⟩
 refine hK.out _ _ (Cs.below hHeld hb) (fun hHeld => ?_)
 clear hK KK
 have HB:=lh9 (zaa HB.out hb)
 have HK1:=lh9 (zac hb HK1.out)
 have HV5:=lh9 (HV5.out.keep hb)
 have HV7:=lh9 (HV7.out.keep hb)
 have HV9:=lh9 (HV9.out.keep hb)
 have HV11:=lh9 (HV11.out.keep hb)
 have HQ19:=lh9 (HQ19.out.below hb)
 have HK21:=lh9 (zac hb HK21.out)
 have HQ22:=lh9 (HQ22.out.below hb)
 have HK25:=lh9 (zac hb HK25.out)
 have HQ26:=lh9 (HQ26.out.below hb)
 have HK29:=lh9 (zac hb HK29.out)
 have HQ33:=lh9 (HQ33.out.below hb)
 have HV35:=lh9 (HV35.out.keep hb)
 have HQ37:=lh9 (HQ37.out.below hb)
 have HV39:=lh9 (HV39.out.keep hb)
 have HV41:=lh9 (zaH ho41)
 clear hb hg41 ho41
 refine tk 9 ?_
 refine tk 10 ?_
 refine tk 11 ?_
 refine tk 12 ?_
 refine tk 13 ?_
 refine rdn ?_
 clear hHeld
 clear HQ33 HQ37 HV35 HV39 HV5 HV7 HV9
 go_upto_region 14 with fail
 obtain ⟨p43_0,p43_1,p43_2⟩:=HK21.out.c3
 obtain ⟨p44_0,p44_1,p44_2⟩:=HK25.out.c3
 obtain ⟨p45_0,p45_1,p45_2⟩:=HK29.out.c3
 obtain ⟨p46_0,p46_1⟩:=HK1.out.c2
 have hbd:=(Below.refl X42.heap.size X42).drew
 have HB:=lh9 (zaa HB.out hbd)
 have HK1:=lh9 (zac hbd HK1.out)
 have HV11:=lh9 (HV11.out.keep hbd)
 have HQ19:=lh9 (HQ19.out.below hbd)
 have HK21:=lh9 (zac hbd HK21.out)
 have HQ22:=lh9 (HQ22.out.below hbd)
 have HK25:=lh9 (zac hbd HK25.out)
 have HQ26:=lh9 (HQ26.out.below hbd)
 have HK29:=lh9 (zac hbd HK29.out)
 have HV41:=lh9 (HV41.out.keep hbd)
 refine rg (csc p43_0 (csc p43_1 (csc p43_2 (csc p44_0 (csc p44_1 (csc p44_2 (csc p45_0 (csc p45_1 (csc p45_2 (csc p46_0 (csc p46_1 csn))))))))))) (fun hHeld => ?_)
 clear hbd p43_0 p43_1 p43_2 p44_0 p44_1 p44_2 p45_0 p45_1 p45_2 p46_0 p46_1
 generalize X42.drew = D47 at *
 refine tk 0 ?_
 refine tk 1 ?_
 refine tk 2 ?_
 have HS48 : Hid (SzQ (1 + N * (1 + 1 + 1) + (1 + N * (1 + 1 + 1)) + 1) (zbZ X Z + zbZ Y Z)):=SzQ.add HS22.out HS26.out
 refine rc 3 (fun KK hK => ?_)
 go_simp
 (with_reducible refine (zin (HT.out _ HB.out) HQ22.out HQ26.out HS22.out HS26.out (by omega) (by omega)).mono ?_)
 rintro e X49 ⟨b48,A48,n48,c48,E48,k48,f48,rfl,hw48,hb⟩
 refine hK.out _ _ (Cs.below hHeld hb) (fun hHeld => ?_)
 clear hK KK
 have HB:=lh9 (zaa HB.out hb)
 have HK1:=lh9 (zac hb HK1.out)
 have HV11:=lh9 (HV11.out.keep hb)
 have HQ19:=lh9 (HQ19.out.below hb)
 have HK21:=lh9 (zac hb HK21.out)
 have HQ22:=lh9 (HQ22.out.below hb)
 have HK25:=lh9 (zac hb HK25.out)
 have HQ26:=lh9 (HQ26.out.below hb)
 have HK29:=lh9 (zac hb HK29.out)
 have HV41:=lh9 (HV41.out.keep hb)
 have HQ48:=lh9 (hw48)
 clear hb hw48
 refine rc 4 (fun KK hK => ?_)
 go_simp
 (with_reducible refine (zjo E3.out (HT.out _ HB.out) HQ19.out HQ48.out HS19.out HS48.out (by omega) (by omega)).mono ?_)
 rintro e X50 ⟨rfl,hb⟩
 refine hK.out _ _ (Cs.below hHeld hb) (fun hHeld => ?_)
 clear hK KK
 have HB:=lh9 (zaa HB.out hb)
 have HK1:=lh9 (zac hb HK1.out)
 have HV11:=lh9 (HV11.out.keep hb)
 have HQ19:=lh9 (HQ19.out.below hb)
 have HK21:=lh9 (zac hb HK21.out)
 have HQ22:=lh9 (HQ22.out.below hb)
 have HK25:=lh9 (zac hb HK25.out)
 have HQ26:=lh9 (HQ26.out.below hb)
 have HK29:=lh9 (zac hb HK29.out)
 have HV41:=lh9 (HV41.out.keep hb)
 have HQ48:=lh9 (HQ48.out.below hb)
 clear hb 
 refine tk 5 ?_
 refine tk 6 ?_
 refine tk 8 ?_
 refine tk 10 ?_
 have HS51 : Hid (SzQ (1) (f)):=HSF3.out
 refine rc 7 (fun KK hK => ?_)
 go_simp
 (with_reducible refine (HF.out ▸ zdS (HT.out _ HB.out) HP3.out HQ3.out).mono ?_)
 rintro e X52 ⟨b51,A51,n51,c51,E51,k51,f51,rfl,hw51,hb⟩
 refine hK.out _ _ (Cs.below hHeld hb) (fun hHeld => ?_)
 clear hK KK
 have HB:=lh9 (zaa HB.out hb)
 have HK1:=lh9 (zac hb HK1.out)
 have HV11:=lh9 (HV11.out.keep hb)
 have HQ19:=lh9 (HQ19.out.below hb)
 have HK21:=lh9 (zac hb HK21.out)
 have HQ22:=lh9 (HQ22.out.below hb)
 have HK25:=lh9 (zac hb HK25.out)
 have HQ26:=lh9 (HQ26.out.below hb)
 have HK29:=lh9 (zac hb HK29.out)
 have HV41:=lh9 (HV41.out.keep hb)
 have HQ48:=lh9 (HQ48.out.below hb)
 have HQ51:=lh9 (hw51)
 clear hb hw51
 have HS53 : Hid (zao (1 + 3) (zba f (zcn X Y))):=(zao.scale HS51.out HS11.out).up (by decide)
 refine rc 9 (fun KK hK => ?_)
 go_simp
 (with_reducible refine (zeX (HT.out _ HB.out) HQ51.out HV11.out HS51.out HS11.out (by omega) (by decide) (by decide)).mono ?_)
 rintro e X54 ⟨g53,rfl,hg53,ho53,hb⟩
 refine hK.out _ _ (Cs.below hHeld hb) (fun hHeld => ?_)
 clear hK KK
 have HB:=lh9 (zaa HB.out hb)
 have HK1:=lh9 (zac hb HK1.out)
 have HV11:=lh9 (HV11.out.keep hb)
 have HQ19:=lh9 (HQ19.out.below hb)
 have HK21:=lh9 (zac hb HK21.out)
 have HQ22:=lh9 (HQ22.out.below hb)
 have HK25:=lh9 (zac hb HK25.out)
 have HQ26:=lh9 (HQ26.out.below hb)
 have HK29:=lh9 (zac hb HK29.out)
 have HV41:=lh9 (HV41.out.keep hb)
 have HQ48:=lh9 (HQ48.out.below hb)
 have HQ51:=lh9 (HQ51.out.below hb)
 have HV53:=lh9 (zaH ho53)
 clear hb hg53 ho53
 refine rc 11 (fun KK hK => ?_)
 go_simp
 (with_reducible refine (zbU E4.out (HT.out _ HB.out) HV53.out HV41.out HS53.out HS41.out (by omega) (by omega) (by decide) (by decide)).mono ?_)
 rintro e X55 ⟨rfl,hb⟩
 refine hK.out _ _ (Cs.below hHeld hb) (fun hHeld => ?_)
 clear hK KK
 have HB:=lh9 (zaa HB.out hb)
 have HK1:=lh9 (zac hb HK1.out)
 have HV11:=lh9 (HV11.out.keep hb)
 have HQ19:=lh9 (HQ19.out.below hb)
 have HK21:=lh9 (zac hb HK21.out)
 have HQ22:=lh9 (HQ22.out.below hb)
 have HK25:=lh9 (zac hb HK25.out)
 have HQ26:=lh9 (HQ26.out.below hb)
 have HK29:=lh9 (zac hb HK29.out)
 have HV41:=lh9 (HV41.out.keep hb)
 have HQ48:=lh9 (HQ48.out.below hb)
 have HQ51:=lh9 (HQ51.out.below hb)
 have HV53:=lh9 (HV53.out.keep hb)
 clear hb 
 refine tk 12 ?_
 refine tk 13 ?_
 refine rdn ?_
 clear hHeld
 go_wp2
 go_ret
 exact ⟨rfl,HB.out⟩
end Go.Proofs.YtkiedljcgkoaiaaGreatDoor
