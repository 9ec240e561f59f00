/- What this claim leans on. -/
import Derived.Test.YtkiedljcgkoaiaaGreatDoorRVLike
namespace Go.Proofs.YtkiedljcgkoaiaaGreatDoor
open Go Go.RowKit
set_option maxHeartbeats 16000000
set_option maxRecDepth 100000
set_option linter.unusedVariables false
set_option linter.unusedSimpArgs false
theorem zfE (A0 : oA9) (n0 c0 : Nat) (L0 : List (Int × Int)) (A1 : oA9) (n1 c1 : Nat) (L1 : List (Int × Int)) (p2 q2 : Int) (w : World) (h0 : zaT w A0 n0 c0 L0) (h1 : zaT w A1 n1 c1 L1) (hp2 : zaX p2) (hq2 : zaX q2) (p0 : 12 < n0) (hT : zan w) :
  Calls Tryz.prog 3 #[.slice A0 n0 c0,.slice A1 n1 c1,.agg #[.int .i64 p2,.int .i64 q2]] w fun e w' => e = .returned (.bool true) ∧ Below w.heap.size w w':=by
 have hn0 : n0 ≤ 1048576:=Nat.le_trans h0.fits h0.small
 have hl0 : (zcq L0).length = n0:=by rw [zbB]; exact h0.len
 have HL0:=lh9 hl0
 clear hl0
 have HSA0:=lh9 (zdo h0)
 have HA0:=lh9 (fun w' (hb : Below w.heap.size w w') => h0.below hb)
 have hn1 : n1 ≤ 1048576:=Nat.le_trans h1.fits h1.small
 have hl1 : (zcq L1).length = n1:=by rw [zbB]; exact h1.len
 have HL1:=lh9 hl1
 clear hl1
 have HSA1:=lh9 (zdo h1)
 have HA1:=lh9 (fun w' (hb : Below w.heap.size w w') => h1.below hb)
 have HP2:=lh9 hp2
 have HQ2:=lh9 hq2
 have HSF2:=lh9 (zhh hp2.1 hp2.2 hq2.1 hq2.2)
 have d1 : decide ((n0 : Int) > 12) = true:=decide_eq_true (by omega)
 have d2 : decide ((12 : Int) < (n0 : Int)) = true:=decide_eq_true (by omega)
 have d3 : decide (12 < n0) = true:=decide_eq_true (by omega)
 have HT:=lh9 (fun w' (hb : Below w.heap.size w w') => hT.on hb)
 have HB:=lh9 (Below.refl w.heap.size w)
 clear hT h0 h1 hp2 hq2 p0
 go_enter Tryz.func3,Tryz.ntmps3
 obtain ⟨bq0,bq1,-⟩:=zaL w 24 #[.int .i64 p2,.int .i64 q2]
 have HB:=lh9 (zac HB.out bq0)
 have HK1:=lh9 (bq1)
 clear bq0 bq1
 go_wp2_with fail
 generalize w.alloc (.cells #[.int .i64 p2,.int .i64 q2] 24) = W2 at *
 (with_reducible refine (zdn (HT.out _ HB.out)).mono ?_)
 rintro e X3 ⟨rfl,hb⟩
 have HB:=lh9 (zac HB.out hb)
 have HK1:=lh9 (zae hb HK1.out)
 clear hb 
 go_wp2
 go_ret
 exact ⟨rfl,HB.out⟩
theorem zfF (A0 : oA9) (n0 c0 : Nat) (L0 : List (Int × Int)) (A1 : oA9) (n1 c1 : Nat) (L1 : List (Int × Int)) (p2 q2 : Int) (w : World) (h0 : zaT w A0 n0 c0 L0) (h1 : zaT w A1 n1 c1 L1) (hp2 : zaX p2) (hq2 : zaX q2) (p0 : n0 ≤ 12) (p1 : 12 < n1) (hT : zan w) :
  Calls Tryz.prog 3 #[.slice A0 n0 c0,.slice A1 n1 c1,.agg #[.int .i64 p2,.int .i64 q2]] w fun e w' => e = .returned (.bool true) ∧ Below w.heap.size w w':=by
 have hn0 : n0 ≤ 1048576:=Nat.le_trans h0.fits h0.small
 have hl0 : (zcq L0).length = n0:=by rw [zbB]; exact h0.len
 have HL0:=lh9 hl0
 clear hl0
 have HSA0:=lh9 (zdo h0)
 have HA0:=lh9 (fun w' (hb : Below w.heap.size w w') => h0.below hb)
 have hn1 : n1 ≤ 1048576:=Nat.le_trans h1.fits h1.small
 have hl1 : (zcq L1).length = n1:=by rw [zbB]; exact h1.len
 have HL1:=lh9 hl1
 clear hl1
 have HSA1:=lh9 (zdo h1)
 have HA1:=lh9 (fun w' (hb : Below w.heap.size w w') => h1.below hb)
 have HP2:=lh9 hp2
 have HQ2:=lh9 hq2
 have HSF2:=lh9 (zhh hp2.1 hp2.2 hq2.1 hq2.2)
 have d1 : decide ((n0 : Int) > 12) = false:=decide_eq_false (by omega)
 have d2 : decide ((12 : Int) < (n0 : Int)) = false:=decide_eq_false (by omega)
 have d3 : decide (12 < n0) = false:=decide_eq_false (by omega)
 have e1 : decide ((n1 : Int) > 12) = true:=decide_eq_true (by omega)
 have e2 : decide ((12 : Int) < (n1 : Int)) = true:=decide_eq_true (by omega)
 have e3 : decide (12 < n1) = true:=decide_eq_true (by omega)
 have HT:=lh9 (fun w' (hb : Below w.heap.size w w') => hT.on hb)
 have HB:=lh9 (Below.refl w.heap.size w)
 clear hT h0 h1 hp2 hq2 p0 p1
 go_enter Tryz.func3,Tryz.ntmps3
 obtain ⟨bq0,bq1,-⟩:=zaL w 24 #[.int .i64 p2,.int .i64 q2]
 have HB:=lh9 (zac HB.out bq0)
 have HK1:=lh9 (bq1)
 clear bq0 bq1
 go_wp2_with fail
 generalize w.alloc (.cells #[.int .i64 p2,.int .i64 q2] 24) = W2 at *
 (with_reducible refine (zdn (HT.out _ HB.out)).mono ?_)
 rintro e X3 ⟨rfl,hb⟩
 have HB:=lh9 (zac HB.out hb)
 have HK1:=lh9 (zae hb HK1.out)
 clear hb 
 go_wp2
 go_ret
 exact ⟨rfl,HB.out⟩
theorem zhM (A0 : oA9) (n0 c0 : Nat) (L0 : List (Int × Int)) (A1 : oA9) (n1 c1 : Nat) (L1 : List (Int × Int)) (p2 q2 : Int) (w : World) (h0 : zaT w A0 n0 c0 L0) (h1 : zaT w A1 n1 c1 L1) (hp2 : zaX p2) (hq2 : zaX q2) (p0 : n0 ≤ 12) (p1 : n1 ≤ 12) (p2' : n0 ≠ n1) (hT : zan w) :
  Calls Tryz.prog 3 #[.slice A0 n0 c0,.slice A1 n1 c1,.agg #[.int .i64 p2,.int .i64 q2]] w fun e w' => e = .returned (.bool true) ∧ Below w.heap.size w w':=by
 have hn0 : n0 ≤ 1048576:=Nat.le_trans h0.fits h0.small
 have hl0 : (zcq L0).length = n0:=by rw [zbB]; exact h0.len
 have HL0:=lh9 hl0
 clear hl0
 have HSA0:=lh9 (zdo h0)
 have HA0:=lh9 (fun w' (hb : Below w.heap.size w w') => h0.below hb)
 have hn1 : n1 ≤ 1048576:=Nat.le_trans h1.fits h1.small
 have hl1 : (zcq L1).length = n1:=by rw [zbB]; exact h1.len
 have HL1:=lh9 hl1
 clear hl1
 have HSA1:=lh9 (zdo h1)
 have HA1:=lh9 (fun w' (hb : Below w.heap.size w w') => h1.below hb)
 have HP2:=lh9 hp2
 have HQ2:=lh9 hq2
 have HSF2:=lh9 (zhh hp2.1 hp2.2 hq2.1 hq2.2)
 have d01 : decide ((n0 : Int) > 12) = false:=decide_eq_false (by omega)
 have d02 : decide ((12 : Int) < (n0 : Int)) = false:=decide_eq_false (by omega)
 have d03 : decide (12 < n0) = false:=decide_eq_false (by omega)
 have d11 : decide ((n1 : Int) > 12) = false:=decide_eq_false (by omega)
 have d12 : decide ((12 : Int) < (n1 : Int)) = false:=decide_eq_false (by omega)
 have d13 : decide (12 < n1) = false:=decide_eq_false (by omega)
 obtain ⟨X,hx0⟩ : ∃ X,zcq L0 = X:=⟨_,rfl⟩
 rw [hx0] at HL0 HSA0
 have HX0:=lh9 hx0
 clear hx0
 obtain ⟨Y,hx1⟩ : ∃ X,zcq L1 = X:=⟨_,rfl⟩
 rw [hx1] at HL1 HSA1
 have HX1:=lh9 hx1
 clear hx1
 obtain ⟨f,hf⟩ : ∃ f,qOf p2 q2 = f:=⟨_,rfl⟩
 rw [hf] at HSF2
 have HF:=lh9 hf
 clear hf
 have kq : ((n0 : Int) == (n1 : Int)) = false:=by rw [beq_eq_false_iff_ne]; omega
 have HNE:=lh9 p2'
 clear p2'
 have HT:=lh9 (fun w' (hb : Below w.heap.size w w') => hT.on hb)
 have HB:=lh9 (Below.refl w.heap.size w)
 clear hT h0 h1 hp2 hq2
 go_enter Tryz.func3,Tryz.ntmps3
 obtain ⟨bq0,bq1,-⟩:=zaL w 24 #[.int .i64 p2,.int .i64 q2]
 have HB:=lh9 (zac HB.out bq0)
 have HK1:=lh9 (bq1)
 clear bq0 bq1
 go_wp2_with fail
 generalize w.alloc (.cells #[.int .i64 p2,.int .i64 q2] 24) = W2 at *
 (with_reducible refine (zdn (HT.out _ HB.out)).mono ?_)
 rintro e X3 ⟨rfl,hb⟩
 have HB:=lh9 (zac HB.out hb)
 have HK1:=lh9 (zae hb HK1.out)
 clear hb 
 go_wp2_with fail
 (with_reducible refine (HX0.out ▸ zdT (HT.out _ HB.out) (HA0.out _ HB.out)).mono ?_)
 rintro e X5 ⟨A4,c4,rfl,hv4,-,hb⟩
 have HB:=lh9 (zac HB.out hb)
 have HK1:=lh9 (zae hb HK1.out)
 have HV4:=lh9 (hv4)
 clear hb hv4
 go_wp2_with fail
 (with_reducible refine (HX1.out ▸ zdT (HT.out _ HB.out) (HA1.out _ HB.out)).mono ?_)
 rintro e X7 ⟨A6,c6,rfl,hv6,-,hb⟩
 have HB:=lh9 (zac HB.out hb)
 have HK1:=lh9 (zae hb HK1.out)
 have HV4:=lh9 (HV4.out.keep hb)
 have HV6:=lh9 (hv6)
 clear hb hv6
 go_wp2_with fail
 (with_reducible refine (HX0.out ▸ zeM (HA0.out _ HB.out)).mono ?_)
 rintro e X9 ⟨A8,c8,rfl,hv8,hb⟩
 have HB:=lh9 (zac HB.out hb)
 have HK1:=lh9 (zae hb HK1.out)
 have HV4:=lh9 (HV4.out.keep hb)
 have HV6:=lh9 (HV6.out.keep hb)
 have HR8:=lh9 (hv8)
 clear hb hv8
 go_wp2_with fail
 (with_reducible refine (HX1.out ▸ zeM (HA1.out _ HB.out)).mono ?_)
 rintro e X11 ⟨A10,c10,rfl,hv10,hb⟩
 have HB:=lh9 (zac HB.out hb)
 have HK1:=lh9 (zae hb HK1.out)
 have HV4:=lh9 (HV4.out.keep hb)
 have HV6:=lh9 (HV6.out.keep hb)
 have HR8:=lh9 (zar.below zah HR8.out hb)
 have HR10:=lh9 (hv10)
 clear hb hv10
 obtain ⟨p12_0,p12_1⟩:=HK1.out.c2
 have HS13 : Hid (SzQ (1) (f)):=HSF2.out
 go_wp2_with fail
 clear p12_0 p12_1
 (with_reducible refine (HF.out ▸ zho HP2.out HQ2.out).mono ?_)
 rintro e X14 ⟨b13,A13,n13,c13,E13,k13,f13,rfl,hw13,hb⟩
 have HB:=lh9 (zac HB.out hb)
 have HK1:=lh9 (zae hb HK1.out)
 have HV4:=lh9 (HV4.out.keep hb)
 have HV6:=lh9 (HV6.out.keep hb)
 have HR8:=lh9 (zar.below zah HR8.out hb)
 have HR10:=lh9 (zar.below zah HR10.out hb)
 have HZ13:=lh9 (hw13)
 clear hb hw13
 have HS16 : Hid (SzQ (1) (0)):=SzQ.zero
 obtain ⟨bq0,bq1,-⟩:=zaL X14 36 #[.bool b13,.slice A13 n13 c13,.slice E13 k13 f13]
 have HB:=lh9 (zac HB.out bq0)
 have HK1:=lh9 (zae bq0 HK1.out)
 have HV4:=lh9 (HV4.out.keep bq0)
 have HV6:=lh9 (HV6.out.keep bq0)
 have HR8:=lh9 (zar.below zah HR8.out bq0)
 have HR10:=lh9 (zar.below zah HR10.out bq0)
 have HZ13:=lh9 (HZ13.out.below bq0)
 have HK15:=lh9 (bq1)
 clear bq0 bq1
 go_wp2_with fail
 generalize X14.alloc (.cells #[.bool b13,.slice A13 n13 c13,.slice E13 k13 f13] 36) = W17 at *
 generalize X14.heap.size = q17 at *
 (with_reducible refine (zlF (HT.out _ HB.out) HNE.out).mono ?_)
 rintro e X18 ⟨b16,A16,n16,c16,E16,k16,f16,rfl,hw16,hb⟩
 have HB:=lh9 (zac HB.out hb)
 have HK1:=lh9 (zae hb HK1.out)
 have HV4:=lh9 (HV4.out.keep hb)
 have HV6:=lh9 (HV6.out.keep hb)
 have HR8:=lh9 (zar.below zah HR8.out hb)
 have HR10:=lh9 (zar.below zah HR10.out hb)
 have HZ13:=lh9 (HZ13.out.below hb)
 have HK15:=lh9 (zae hb HK15.out)
 have HQ16:=lh9 (hw16)
 clear hb hw16
 obtain ⟨bq0,bq1,-⟩:=zaL X18 44 #[.bool b16,.slice A16 n16 c16,.slice E16 k16 f16]
 have HB:=lh9 (zac HB.out bq0)
 have HK1:=lh9 (zae bq0 HK1.out)
 have HV4:=lh9 (HV4.out.keep bq0)
 have HV6:=lh9 (HV6.out.keep bq0)
 have HR8:=lh9 (zar.below zah HR8.out bq0)
 have HR10:=lh9 (zar.below zah HR10.out bq0)
 have HZ13:=lh9 (HZ13.out.below bq0)
 have HK15:=lh9 (zae bq0 HK15.out)
 have HQ16:=lh9 (HQ16.out.below bq0)
 have HK19:=lh9 (bq1)
 clear bq0 bq1
 go_wp2_with fail
 generalize X18.alloc (.cells #[.bool b16,.slice A16 n16 c16,.slice E16 k16 f16] 44) = W20 at *
 generalize X18.heap.size = q20 at *
 (with_reducible refine (zhE _ _ n0 n1 _ _ _ HNE.out).mono ?_)
 rintro e X21 ⟨rfl,hb⟩
 have HB:=lh9 (zac HB.out hb)
 have HK1:=lh9 (zae hb HK1.out)
 have HV4:=lh9 (HV4.out.keep hb)
 have HV6:=lh9 (HV6.out.keep hb)
 have HR8:=lh9 (zar.below zah HR8.out hb)
 have HR10:=lh9 (zar.below zah HR10.out hb)
 have HZ13:=lh9 (HZ13.out.below hb)
 have HK15:=lh9 (zae hb HK15.out)
 have HQ16:=lh9 (HQ16.out.below hb)
 have HK19:=lh9 (zae hb HK19.out)
 clear hb 
 go_wp2_with fail
 (with_reducible refine (zlI _ _ n0 n1 _ _ _ HNE.out).mono ?_)
 rintro e X22 ⟨rfl,hb⟩
 have HB:=lh9 (zac HB.out hb)
 have HK1:=lh9 (zae hb HK1.out)
 have HV4:=lh9 (HV4.out.keep hb)
 have HV6:=lh9 (HV6.out.keep hb)
 have HR8:=lh9 (zar.below zah HR8.out hb)
 have HR10:=lh9 (zar.below zah HR10.out hb)
 have HZ13:=lh9 (HZ13.out.below hb)
 have HK15:=lh9 (zae hb HK15.out)
 have HQ16:=lh9 (HQ16.out.below hb)
 have HK19:=lh9 (zae hb HK19.out)
 clear hb 
 obtain ⟨p23_0,p23_1⟩:=HK1.out.c2
 have HS24 : Hid (SzQ (1) (f)):=HSF2.out
 go_wp2_with fail
 clear p23_0 p23_1
 (with_reducible refine (HF.out ▸ zeL (HT.out _ HB.out) HP2.out HQ2.out).mono ?_)
 rintro e X25 ⟨b24,A24,n24,c24,E24,k24,f24,rfl,hw24,hb⟩
 have HB:=lh9 (zac HB.out hb)
 have HK1:=lh9 (zae hb HK1.out)
 have HV4:=lh9 (HV4.out.keep hb)
 have HV6:=lh9 (HV6.out.keep hb)
 have HR8:=lh9 (zar.below zah HR8.out hb)
 have HR10:=lh9 (zar.below zah HR10.out hb)
 have HZ13:=lh9 (HZ13.out.below hb)
 have HK15:=lh9 (zae hb HK15.out)
 have HQ16:=lh9 (HQ16.out.below hb)
 have HK19:=lh9 (zae hb HK19.out)
 have HQ24:=lh9 (hw24)
 clear hb hw24
 go_wp2_with fail
 (with_reducible refine (zkH HNE.out).mono ?_)
 rintro e X26 ⟨rfl,hb⟩
 have HB:=lh9 (zac HB.out hb)
 have HK1:=lh9 (zae hb HK1.out)
 have HV4:=lh9 (HV4.out.keep hb)
 have HV6:=lh9 (HV6.out.keep hb)
 have HR8:=lh9 (zar.below zah HR8.out hb)
 have HR10:=lh9 (zar.below zah HR10.out hb)
 have HZ13:=lh9 (HZ13.out.below hb)
 have HK15:=lh9 (zae hb HK15.out)
 have HQ16:=lh9 (HQ16.out.below hb)
 have HK19:=lh9 (zae hb HK19.out)
 have HQ24:=lh9 (HQ24.out.below hb)
 clear hb 
 go_wp2_with fail
 (with_reducible refine (zbM (HT.out _ HB.out) HV4.out HR8.out HSA0.out (by omega) (by decide)).mono ?_)
 rintro e X27 ⟨rfl,hb⟩
 have HB:=lh9 (zac HB.out hb)
 have HK1:=lh9 (zae hb HK1.out)
 have HV4:=lh9 (HV4.out.keep hb)
 have HV6:=lh9 (HV6.out.keep hb)
 have HR8:=lh9 (zar.below zah HR8.out hb)
 have HR10:=lh9 (zar.below zah HR10.out hb)
 have HZ13:=lh9 (HZ13.out.below hb)
 have HK15:=lh9 (zae hb HK15.out)
 have HQ16:=lh9 (HQ16.out.below hb)
 have HK19:=lh9 (zae hb HK19.out)
 have HQ24:=lh9 (HQ24.out.below hb)
 clear hb 
 go_wp2_with fail
 (with_reducible refine (zbM (HT.out _ HB.out) HV6.out HR10.out HSA1.out (by omega) (by decide)).mono ?_)
 rintro e X28 ⟨rfl,hb⟩
 have HB:=lh9 (zac HB.out hb)
 have HK1:=lh9 (zae hb HK1.out)
 have HV4:=lh9 (HV4.out.keep hb)
 have HV6:=lh9 (HV6.out.keep hb)
 have HR8:=lh9 (zar.below zah HR8.out hb)
 have HR10:=lh9 (zar.below zah HR10.out hb)
 have HZ13:=lh9 (HZ13.out.below hb)
 have HK15:=lh9 (zae hb HK15.out)
 have HQ16:=lh9 (HQ16.out.below hb)
 have HK19:=lh9 (zae hb HK19.out)
 have HQ24:=lh9 (HQ24.out.below hb)
 clear hb 
 obtain ⟨p29_0,p29_1,p29_2⟩:=HK19.out.c3
 go_wp2_with fail
 clear p29_0 p29_1 p29_2
 (with_reducible refine (q_zero (t:=true) (decide_eq_true rfl) (HT.out _ HB.out) HQ16.out HS16.out (by decide)).mono ?_)
 rintro e X30 ⟨rfl,hb⟩
 have HB:=lh9 (zac HB.out hb)
 have HK1:=lh9 (zae hb HK1.out)
 have HV4:=lh9 (HV4.out.keep hb)
 have HV6:=lh9 (HV6.out.keep hb)
 have HR8:=lh9 (zar.below zah HR8.out hb)
 have HR10:=lh9 (zar.below zah HR10.out hb)
 have HZ13:=lh9 (HZ13.out.below hb)
 have HK15:=lh9 (zae hb HK15.out)
 have HQ16:=lh9 (HQ16.out.below hb)
 have HK19:=lh9 (zae hb HK19.out)
 have HQ24:=lh9 (HQ24.out.below hb)
 clear hb 
 go_wp2
 go_ret
 exact ⟨rfl,HB.out⟩
theorem zhD (A0 : oA9) (n0 c0 : Nat) (L0 : List (Int × Int)) (A1 : oA9) (n1 c1 : Nat) (L1 : List (Int × Int)) (p2 q2 : Int) (w : World) (h0 : zaT w A0 n0 c0 L0) (h1 : zaT w A1 n1 c1 L1) (hp2 : zaX p2) (hq2 : zaX q2) (p0 : n0 ≤ 12) (p1 : n1 ≤ 12) (p2' : n0 = n1) (hT : zan w) :
  Calls Tryz.prog 3 #[.slice A0 n0 c0,.slice A1 n1 c1,.agg #[.int .i64 p2,.int .i64 q2]] w fun e w' => e = .returned (.bool true) ∧ Below w.heap.size w w':=by
 have hn0 : n0 ≤ 1048576:=Nat.le_trans h0.fits h0.small
 have hl0 : (zcq L0).length = n0:=by rw [zbB]; exact h0.len
 have HL0:=lh9 hl0
 clear hl0
 have HSA0:=lh9 (zdo h0)
 have HA0:=lh9 (fun w' (hb : Below w.heap.size w w') => h0.below hb)
 have hn1 : n1 ≤ 1048576:=Nat.le_trans h1.fits h1.small
 have hl1 : (zcq L1).length = n1:=by rw [zbB]; exact h1.len
 have HL1:=lh9 hl1
 clear hl1
 have HSA1:=lh9 (zdo h1)
 have HA1:=lh9 (fun w' (hb : Below w.heap.size w w') => h1.below hb)
 have HP2:=lh9 hp2
 have HQ2:=lh9 hq2
 have HSF2:=lh9 (zhh hp2.1 hp2.2 hq2.1 hq2.2)
 have d01 : decide ((n0 : Int) > 12) = false:=decide_eq_false (by omega)
 have d02 : decide ((12 : Int) < (n0 : Int)) = false:=decide_eq_false (by omega)
 have d03 : decide (12 < n0) = false:=decide_eq_false (by omega)
 have d11 : decide ((n1 : Int) > 12) = false:=decide_eq_false (by omega)
 have d12 : decide ((12 : Int) < (n1 : Int)) = false:=decide_eq_false (by omega)
 have d13 : decide (12 < n1) = false:=decide_eq_false (by omega)
 obtain ⟨X,hx0⟩ : ∃ X,zcq L0 = X:=⟨_,rfl⟩
 rw [hx0] at HL0 HSA0
 have HX0:=lh9 hx0
 clear hx0
 obtain ⟨Y,hx1⟩ : ∃ X,zcq L1 = X:=⟨_,rfl⟩
 rw [hx1] at HL1 HSA1
 have HX1:=lh9 hx1
 clear hx1
 obtain ⟨f,hf⟩ : ∃ f,qOf p2 q2 = f:=⟨_,rfl⟩
 rw [hf] at HSF2
 have HF:=lh9 hf
 clear hf
 subst p2'
 have kq : ((n0 : Int) == (n0 : Int)) = true:=by simp
 have HE1 : Hid (zbl X ((1 : Int) : Rat) Y = addL X Y):=addTL_i1 X Y
 have HEM : Hid (zbl X ((-1 : Int) : Rat) Y = subL X Y):=addTL_im X Y
 have HE3 : Hid (zbl (List.replicate n0 0) f X = zcM f X):=addTL_z HL0.out
 have HT:=lh9 (fun w' (hb : Below w.heap.size w w') => hT.on hb)
 have HB:=lh9 (Below.refl w.heap.size w)
 clear hT h0 h1 hp2 hq2
 go_enter Tryz.func3,Tryz.ntmps3
 obtain ⟨bq0,bq1,-⟩:=zaL w 24 #[.int .i64 p2,.int .i64 q2]
 have HB:=lh9 (zac HB.out bq0)
 have HK1:=lh9 (bq1)
 clear bq0 bq1
 go_wp2_with fail
 generalize w.alloc (.cells #[.int .i64 p2,.int .i64 q2] 24) = W2 at *
 (with_reducible refine (zdn (HT.out _ HB.out)).mono ?_)
 rintro e X3 ⟨rfl,hb⟩
 have HB:=lh9 (zac HB.out hb)
 have HK1:=lh9 (zae hb HK1.out)
 clear hb 
 go_wp2_with fail
 (with_reducible refine (HX0.out ▸ zdT (HT.out _ HB.out) (HA0.out _ HB.out)).mono ?_)
 rintro e X5 ⟨A4,c4,rfl,hv4,-,hb⟩
 have HB:=lh9 (zac HB.out hb)
 have HK1:=lh9 (zae hb HK1.out)
 have HV4:=lh9 (hv4)
 clear hb hv4
 go_wp2_with fail
 (with_reducible refine (HX1.out ▸ zdT (HT.out _ HB.out) (HA1.out _ HB.out)).mono ?_)
 rintro e X7 ⟨A6,c6,rfl,hv6,-,hb⟩
 have HB:=lh9 (zac HB.out hb)
 have HK1:=lh9 (zae hb HK1.out)
 have HV4:=lh9 (HV4.out.keep hb)
 have HV6:=lh9 (hv6)
 clear hb hv6
 go_wp2_with fail
 (with_reducible refine (HX0.out ▸ zeM (HA0.out _ HB.out)).mono ?_)
 rintro e X9 ⟨A8,c8,rfl,hv8,hb⟩
 have HB:=lh9 (zac HB.out hb)
 have HK1:=lh9 (zae hb HK1.out)
 have HV4:=lh9 (HV4.out.keep hb)
 have HV6:=lh9 (HV6.out.keep hb)
 have HR8:=lh9 (hv8)
 clear hb hv8
 go_wp2_with fail
 (with_reducible refine (HX1.out ▸ zeM (HA1.out _ HB.out)).mono ?_)
 rintro e X11 ⟨A10,c10,rfl,hv10,hb⟩
 have HB:=lh9 (zac HB.out hb)
 have HK1:=lh9 (zae hb HK1.out)
 have HV4:=lh9 (HV4.out.keep hb)
 have HV6:=lh9 (HV6.out.keep hb)
 have HR8:=lh9 (zar.below zah HR8.out hb)
 have HR10:=lh9 (hv10)
 clear hb hv10
 obtain ⟨p12_0,p12_1⟩:=HK1.out.c2
 have HS13 : Hid (SzQ (1) (f)):=HSF2.out
 go_wp2_with fail
 clear p12_0 p12_1
 (with_reducible refine (HF.out ▸ zho HP2.out HQ2.out).mono ?_)
 rintro e X14 ⟨b13,A13,n13,c13,E13,k13,f13,rfl,hw13,hb⟩
 have HB:=lh9 (zac HB.out hb)
 have HK1:=lh9 (zae hb HK1.out)
 have HV4:=lh9 (HV4.out.keep hb)
 have HV6:=lh9 (HV6.out.keep hb)
 have HR8:=lh9 (zar.below zah HR8.out hb)
 have HR10:=lh9 (zar.below zah HR10.out hb)
 have HZ13:=lh9 (hw13)
 clear hb hw13
 have HS16 : Hid (SzQ (37) (dotQ X Y)):=(dot_sz HL0.out HL1.out HSA0.out HSA1.out).up (by omega)
 obtain ⟨bq0,bq1,-⟩:=zaL X14 36 #[.bool b13,.slice A13 n13 c13,.slice E13 k13 f13]
 have HB:=lh9 (zac HB.out bq0)
 have HK1:=lh9 (zae bq0 HK1.out)
 have HV4:=lh9 (HV4.out.keep bq0)
 have HV6:=lh9 (HV6.out.keep bq0)
 have HR8:=lh9 (zar.below zah HR8.out bq0)
 have HR10:=lh9 (zar.below zah HR10.out bq0)
 have HZ13:=lh9 (HZ13.out.below bq0)
 have HK15:=lh9 (bq1)
 clear bq0 bq1
 go_wp2_with fail
 generalize X14.alloc (.cells #[.bool b13,.slice A13 n13 c13,.slice E13 k13 f13] 36) = W17 at *
 generalize X14.heap.size = q17 at *
 (with_reducible refine (zmw (HT.out _ HB.out) HV4.out HV6.out HSA0.out HSA1.out (by omega) (by decide) (by decide) (by omega)).mono ?_)
 rintro e X18 ⟨b16,A16,n16,c16,E16,k16,f16,rfl,hw16,hb⟩
 have HB:=lh9 (zac HB.out hb)
 have HK1:=lh9 (zae hb HK1.out)
 have HV4:=lh9 (HV4.out.keep hb)
 have HV6:=lh9 (HV6.out.keep hb)
 have HR8:=lh9 (zar.below zah HR8.out hb)
 have HR10:=lh9 (zar.below zah HR10.out hb)
 have HZ13:=lh9 (HZ13.out.below hb)
 have HK15:=lh9 (zae hb HK15.out)
 have HQ16:=lh9 (hw16)
 clear hb hw16
 have HS20 : Hid (zax (3) (addL X Y)):=(zax.add HSA0.out HSA1.out).up (by decide)
 obtain ⟨bq0,bq1,-⟩:=zaL X18 44 #[.bool b16,.slice A16 n16 c16,.slice E16 k16 f16]
 have HB:=lh9 (zac HB.out bq0)
 have HK1:=lh9 (zae bq0 HK1.out)
 have HV4:=lh9 (HV4.out.keep bq0)
 have HV6:=lh9 (HV6.out.keep bq0)
 have HR8:=lh9 (zar.below zah HR8.out bq0)
 have HR10:=lh9 (zar.below zah HR10.out bq0)
 have HZ13:=lh9 (HZ13.out.below bq0)
 have HK15:=lh9 (zae bq0 HK15.out)
 have HQ16:=lh9 (HQ16.out.below bq0)
 have HK19:=lh9 (bq1)
 clear bq0 bq1
 go_wp2_with fail
 generalize X18.alloc (.cells #[.bool b16,.slice A16 n16 c16,.slice E16 k16 f16] 44) = W21 at *
 generalize X18.heap.size = q21 at *
 (with_reducible refine (vec_add (HT.out _ HB.out) HV4.out HV6.out HSA0.out HSA1.out (by omega) (by decide) (by decide)).mono ?_)
 rintro e X22 ⟨g20,rfl,hg20,ho20,hb⟩
 have HB:=lh9 (zac HB.out hb)
 have HK1:=lh9 (zae hb HK1.out)
 have HV4:=lh9 (HV4.out.keep hb)
 have HV6:=lh9 (HV6.out.keep hb)
 have HR8:=lh9 (zar.below zah HR8.out hb)
 have HR10:=lh9 (zar.below zah HR10.out hb)
 have HZ13:=lh9 (HZ13.out.below hb)
 have HK15:=lh9 (zae hb HK15.out)
 have HQ16:=lh9 (HQ16.out.below hb)
 have HK19:=lh9 (zae hb HK19.out)
 have HV20:=lh9 (zbo ho20)
 clear hb hg20 ho20
 have HS23 : Hid (zax (3) (subL X Y)):=(zax.sub HSA0.out HSA1.out).up (by decide)
 go_wp2_with fail
 (with_reducible refine (vec_sub (HT.out _ HB.out) HV4.out HV6.out HSA0.out HSA1.out (by omega) (by decide) (by decide)).mono ?_)
 rintro e X24 ⟨g23,rfl,hg23,ho23,hb⟩
 have HB:=lh9 (zac HB.out hb)
 have HK1:=lh9 (zae hb HK1.out)
 have HV4:=lh9 (HV4.out.keep hb)
 have HV6:=lh9 (HV6.out.keep hb)
 have HR8:=lh9 (zar.below zah HR8.out hb)
 have HR10:=lh9 (zar.below zah HR10.out hb)
 have HZ13:=lh9 (HZ13.out.below hb)
 have HK15:=lh9 (zae hb HK15.out)
 have HQ16:=lh9 (HQ16.out.below hb)
 have HK19:=lh9 (zae hb HK19.out)
 have HV20:=lh9 (HV20.out.keep hb)
 have HV23:=lh9 (zbo ho23)
 clear hb hg23 ho23
 obtain ⟨p25_0,p25_1⟩:=HK1.out.c2
 have HS26 : Hid (SzQ (1) (f)):=HSF2.out
 go_wp2_with fail
 clear p25_0 p25_1
 (with_reducible refine (HF.out ▸ zeL (HT.out _ HB.out) HP2.out HQ2.out).mono ?_)
 rintro e X27 ⟨b26,A26,n26,c26,E26,k26,f26,rfl,hw26,hb⟩
 have HB:=lh9 (zac HB.out hb)
 have HK1:=lh9 (zae hb HK1.out)
 have HV4:=lh9 (HV4.out.keep hb)
 have HV6:=lh9 (HV6.out.keep hb)
 have HR8:=lh9 (zar.below zah HR8.out hb)
 have HR10:=lh9 (zar.below zah HR10.out hb)
 have HZ13:=lh9 (HZ13.out.below hb)
 have HK15:=lh9 (zae hb HK15.out)
 have HQ16:=lh9 (HQ16.out.below hb)
 have HK19:=lh9 (zae hb HK19.out)
 have HV20:=lh9 (HV20.out.keep hb)
 have HV23:=lh9 (HV23.out.keep hb)
 have HQ26:=lh9 (hw26)
 clear hb hw26
 have HS28 : Hid (zax (4) (zbl X f Y)):=(zax.addT HSA0.out HSF2.out HSA1.out).up (by decide)
 go_wp2_with fail
 (with_reducible refine (zkG (HT.out _ HB.out) HV4.out HQ26.out HV6.out HSA0.out HSF2.out HSA1.out (by omega) (by decide) (by decide)).mono ?_)
 rintro e X29 ⟨g28,rfl,hg28,ho28,hb⟩
 have HB:=lh9 (zac HB.out hb)
 have HK1:=lh9 (zae hb HK1.out)
 have HV4:=lh9 (HV4.out.keep hb)
 have HV6:=lh9 (HV6.out.keep hb)
 have HR8:=lh9 (zar.below zah HR8.out hb)
 have HR10:=lh9 (zar.below zah HR10.out hb)
 have HZ13:=lh9 (HZ13.out.below hb)
 have HK15:=lh9 (zae hb HK15.out)
 have HQ16:=lh9 (HQ16.out.below hb)
 have HK19:=lh9 (zae hb HK19.out)
 have HV20:=lh9 (HV20.out.keep hb)
 have HV23:=lh9 (HV23.out.keep hb)
 have HQ26:=lh9 (HQ26.out.below hb)
 have HV28:=lh9 (zbo ho28)
 clear hb hg28 ho28
 clear HQ26
 go_wp2_with fail
 (with_reducible refine (zbM (HT.out _ HB.out) HV4.out HR8.out HSA0.out (by omega) (by decide)).mono ?_)
 rintro e X30 ⟨rfl,hb⟩
 have HB:=lh9 (zac HB.out hb)
 have HK1:=lh9 (zae hb HK1.out)
 have HV4:=lh9 (HV4.out.keep hb)
 have HV6:=lh9 (HV6.out.keep hb)
 have HR8:=lh9 (zar.below zah HR8.out hb)
 have HR10:=lh9 (zar.below zah HR10.out hb)
 have HZ13:=lh9 (HZ13.out.below hb)
 have HK15:=lh9 (zae hb HK15.out)
 have HQ16:=lh9 (HQ16.out.below hb)
 have HK19:=lh9 (zae hb HK19.out)
 have HV20:=lh9 (HV20.out.keep hb)
 have HV23:=lh9 (HV23.out.keep hb)
 have HV28:=lh9 (HV28.out.keep hb)
 clear hb 
 go_wp2_with fail
 (with_reducible refine (zbM (HT.out _ HB.out) HV6.out HR10.out HSA1.out (by omega) (by decide)).mono ?_)
 rintro e X31 ⟨rfl,hb⟩
 have HB:=lh9 (zac HB.out hb)
 have HK1:=lh9 (zae hb HK1.out)
 have HV4:=lh9 (HV4.out.keep hb)
 have HV6:=lh9 (HV6.out.keep hb)
 have HR8:=lh9 (zar.below zah HR8.out hb)
 have HR10:=lh9 (zar.below zah HR10.out hb)
 have HZ13:=lh9 (HZ13.out.below hb)
 have HK15:=lh9 (zae hb HK15.out)
 have HQ16:=lh9 (HQ16.out.below hb)
 have HK19:=lh9 (zae hb HK19.out)
 have HV20:=lh9 (HV20.out.keep hb)
 have HV23:=lh9 (HV23.out.keep hb)
 have HV28:=lh9 (HV28.out.keep hb)
 clear hb 
 clear HV6
 obtain ⟨Z,hZ⟩:=zmR n0 (by omega)
 have hmk:=fun W => (hZ W).1
 have HOWN:=lh9 (hZ X31).2
 clear hZ
 go_wp2_with fail
 clear hmk
 have hrow : zaR OptQ (X31.alloc (.cells Z 36)) 36 X31.heap.size n0 (zcm none (List.replicate n0 (some 0)) n0 0):=by rw [zdl]; exact HOWN.out
 have hBk : Below X31.heap.size X31 (X31.alloc (.cells Z 36)):=(Below.refl _ X31).alloc (Nat.le_refl _) _
 obtain ⟨gp,hgp⟩ : ∃ g,X31.heap.size = g:=⟨_,rfl⟩
 have hgq : X31.heap.size ≤ gp:=by omega
 rw [hgp] at hrow ⊢
 clear hgp HOWN
 generalize X31.alloc (.cells Z 36) = W1 at *
 go_loopg [22] (n0 + 1) (fun g ix wr => ∃ (k : Nat),k ≤ n0 ∧ n0 < g + k ∧ ix = .int .i64 k ∧ zaR OptQ wr 36 gp n0 (zcm none (List.replicate n0 (some 0)) n0 k) ∧ Below X31.heap.size X31 wr)
 case atStart => exact ⟨0,Nat.zero_le _,by omega,rfl,hrow,hBk⟩
 case round =>
  clear hrow hBk
  obtain ⟨k,hkn,hg,rfl,hrow,hBk⟩:=hrel
  by_cases hlt : k < n0
  ·have hd1 : decide ((k : Int) < (n0 : Int)) = true:=decide_eq_true (by omega)
   have i1 : (0 : Int) ≤ (k : Int):=by omega
   have i2 : (k : Int) < (n0 : Int):=by omega
   have HROW:=lh9 hrow
   have HBK:=lh9 hBk
   clear hrow hBk
   go_wp2_with fail
   (with_reducible refine (zcy (z:=0) isInt_0).mono ?_)
   rintro e w5 ⟨b5,A5,m5,c5,E5,k5,f5,rfl,hx5,hb⟩
   have hr5:=zaR.below zhe HROW.out hb
   obtain ⟨q0,q1,q2',sc0,sf0,sc1,sf1,sc2,sf2⟩:=zaR.ready hr5 hlt (.bool b5) (.slice A5 m5 c5)
   have HR6:=lh9 (refs_set (r:=0) hr5 hlt hx5)
   have HB6:=lh9 (zdh (k * 3) (k * 3 + 1) (k * 3 + 2) (.bool b5) (.slice A5 m5 c5) (.slice E5 k5 f5) hgq (zac HBK.out hb))
   clear hr5 hx5 hb HROW HBK
   go_wp2
   go_roundg (n0 - k)
   case measure => omega
   case rel => exact ⟨k + 1,by omega,by omega,by go_num,HR6.out,HB6.out⟩
  ·have hk : k = n0:=by omega
   subst hk
   have hd1 : decide ((k : Int) < (k : Int)) = false:=by simp
   rw [zdQ _ _ _ (by simp)] at hrow
   have HNONE:=lh9 (zkx hrow (by omega))
   have hb:=hBk
   have HB:=lh9 (zac HB.out hb)
   have HK1:=lh9 (zae hb HK1.out)
   have HV4:=lh9 (HV4.out.keep hb)
   have HR8:=lh9 (zar.below zah HR8.out hb)
   have HR10:=lh9 (zar.below zah HR10.out hb)
   have HZ13:=lh9 (HZ13.out.below hb)
   have HK15:=lh9 (zae hb HK15.out)
   have HQ16:=lh9 (HQ16.out.below hb)
   have HK19:=lh9 (zae hb HK19.out)
   have HV20:=lh9 (HV20.out.keep hb)
   have HV23:=lh9 (HV23.out.keep hb)
   have HV28:=lh9 (HV28.out.keep hb)
   clear hb hBk hrow
   go_wp2_with fail
   obtain ⟨p32_0,p32_1,p32_2⟩:=HK19.out.c3
   obtain ⟨p33_0,p33_1⟩:=HK1.out.c2
   obtain ⟨p34_0,p34_1,p34_2⟩:=HK15.out.c3
   have hbd:=(Below.refl wr.heap.size wr).drew
   have HB:=lh9 (zac HB.out hbd)
   have HK1:=lh9 (zae hbd HK1.out)
   have HV4:=lh9 (HV4.out.keep hbd)
   have HR8:=lh9 (zar.below zah HR8.out hbd)
   have HR10:=lh9 (zar.below zah HR10.out hbd)
   have HZ13:=lh9 (HZ13.out.below hbd)
   have HK15:=lh9 (zae hbd HK15.out)
   have HQ16:=lh9 (HQ16.out.below hbd)
   have HK19:=lh9 (zae hbd HK19.out)
   have HV20:=lh9 (HV20.out.keep hbd)
   have HV23:=lh9 (HV23.out.keep hbd)
   have HV28:=lh9 (HV28.out.keep hbd)
   have HNONE:=lh9 (zar.below zah HNONE.out hbd)
   refine rg (csc p32_0 (csc p32_1 (csc p32_2 (csc p33_0 (csc p33_1 (csc p34_0 (csc p34_1 (csc p34_2 csn)))))))) (fun hHeld => ?_)
   clear hbd p32_0 p32_1 p32_2 p33_0 p33_1 p34_0 p34_1 p34_2
   generalize wr.drew = D35 at *
   refine tk 0 ?_
   refine tk 1 ?_
   refine tk 2 ?_
   have HS36 : Hid (SzQ (37) (dotQ X Y)):=(dot_sz HL0.out HL1.out HSA0.out HSA1.out).up (by omega)
   refine rc 3 (fun KK hK => ?_)
   go_simp
   (with_reducible refine (znn (K:=1) (K':=1) HR8.out HR10.out HSA0.out HSA1.out (by decide) (by decide) (by omega)).mono ?_)
   rintro e X37 ⟨b36,A36,n36,c36,E36,k36,f36,rfl,hw36,hb⟩
   refine hK.out _ _ (Cs.below hHeld hb) (fun hHeld => ?_)
   clear hK KK
   have HB:=lh9 (zac HB.out hb)
   have HK1:=lh9 (zae hb HK1.out)
   have HV4:=lh9 (HV4.out.keep hb)
   have HR8:=lh9 (zar.below zah HR8.out hb)
   have HR10:=lh9 (zar.below zah HR10.out hb)
   have HZ13:=lh9 (HZ13.out.below hb)
   have HK15:=lh9 (zae hb HK15.out)
   have HQ16:=lh9 (HQ16.out.below hb)
   have HK19:=lh9 (zae hb HK19.out)
   have HV20:=lh9 (HV20.out.keep hb)
   have HV23:=lh9 (HV23.out.keep hb)
   have HV28:=lh9 (HV28.out.keep hb)
   have HNONE:=lh9 (zar.below zah HNONE.out hb)
   have HZ36:=lh9 (hw36)
   clear hb hw36
   refine rc 4 (fun KK hK => ?_)
   go_simp
   (with_reducible refine (zib (fun _ _ h hb => h.on hb) zbu qc10 (dotQ X Y) 37 b16 A16 n16 c16 E16 k16 f16 b36 A36 n36 c36 E36 k36 f36 _ (by decide) HS16.out HQ16.out HZ36.out (HT.out _ HB.out)).mono ?_)
   rintro e X38 ⟨rfl,hb⟩
   refine hK.out _ _ (Cs.below hHeld hb) (fun hHeld => ?_)
   clear hK KK
   have HB:=lh9 (zac HB.out hb)
   have HK1:=lh9 (zae hb HK1.out)
   have HV4:=lh9 (HV4.out.keep hb)
   have HR8:=lh9 (zar.below zah HR8.out hb)
   have HR10:=lh9 (zar.below zah HR10.out hb)
   have HZ13:=lh9 (HZ13.out.below hb)
   have HK15:=lh9 (zae hb HK15.out)
   have HQ16:=lh9 (HQ16.out.below hb)
   have HK19:=lh9 (zae hb HK19.out)
   have HV20:=lh9 (HV20.out.keep hb)
   have HV23:=lh9 (HV23.out.keep hb)
   have HV28:=lh9 (HV28.out.keep hb)
   have HNONE:=lh9 (zar.below zah HNONE.out hb)
   have HZ36:=lh9 (HZ36.out.below hb)
   clear hb 
   clear HZ36
   refine tk 5 ?_
   refine tk 6 ?_
   refine tk 7 ?_
   refine tk 9 ?_
   have HS39 : Hid (SzQ (1) (((1 : Int) : Rat))):=szI_1
   refine rc 8 (fun KK hK => ?_)
   go_simp
   (with_reducible refine (zcy (z:=1) isInt_1).mono ?_)
   rintro e X40 ⟨b39,A39,n39,c39,E39,k39,f39,rfl,hw39,hb⟩
   refine hK.out _ _ (Cs.below hHeld hb) (fun hHeld => ?_)
   clear hK KK
   have HB:=lh9 (zac HB.out hb)
   have HK1:=lh9 (zae hb HK1.out)
   have HV4:=lh9 (HV4.out.keep hb)
   have HR8:=lh9 (zar.below zah HR8.out hb)
   have HR10:=lh9 (zar.below zah HR10.out hb)
   have HZ13:=lh9 (HZ13.out.below hb)
   have HK15:=lh9 (zae hb HK15.out)
   have HQ16:=lh9 (HQ16.out.below hb)
   have HK19:=lh9 (zae hb HK19.out)
   have HV20:=lh9 (HV20.out.keep hb)
   have HV23:=lh9 (HV23.out.keep hb)
   have HV28:=lh9 (HV28.out.keep hb)
   have HNONE:=lh9 (zar.below zah HNONE.out hb)
   have HZ39:=lh9 (hw39)
   clear hb hw39
   refine rc 10 (fun KK hK => ?_)
   go_simp
   (with_reducible refine (zdY (K:=1) (L:=1) (K':=1) HR8.out HZ39.out HR10.out HSA0.out HS39.out HSA1.out (by decide) (by decide) (by decide) (by decide) (by omega)).mono ?_)
   rintro e X42 ⟨A41,c41,rfl,hv41,hb⟩
   refine hK.out _ _ (Cs.below hHeld hb) (fun hHeld => ?_)
   clear hK KK
   have HB:=lh9 (zac HB.out hb)
   have HK1:=lh9 (zae hb HK1.out)
   have HV4:=lh9 (HV4.out.keep hb)
   have HR8:=lh9 (zar.below zah HR8.out hb)
   have HR10:=lh9 (zar.below zah HR10.out hb)
   have HZ13:=lh9 (HZ13.out.below hb)
   have HK15:=lh9 (zae hb HK15.out)
   have HQ16:=lh9 (HQ16.out.below hb)
   have HK19:=lh9 (zae hb HK19.out)
   have HV20:=lh9 (HV20.out.keep hb)
   have HV23:=lh9 (HV23.out.keep hb)
   have HV28:=lh9 (HV28.out.keep hb)
   have HNONE:=lh9 (zar.below zah HNONE.out hb)
   have HZ39:=lh9 (HZ39.out.below hb)
   have HR41:=lh9 (hv41)
   clear hb hv41
   have h9:=HR41.out
   rw [HE1.out] at h9
   have HC43:=lh9 h9
   clear h9
   clear HR41
   clear HZ39
   refine rc 11 (fun KK hK => ?_)
   go_simp
   (with_reducible refine (zbM (HT.out _ HB.out) HV20.out HC43.out HS20.out (by omega) (by decide)).mono ?_)
   rintro e X44 ⟨rfl,hb⟩
   refine hK.out _ _ (Cs.below hHeld hb) (fun hHeld => ?_)
   clear hK KK
   have HB:=lh9 (zac HB.out hb)
   have HK1:=lh9 (zae hb HK1.out)
   have HV4:=lh9 (HV4.out.keep hb)
   have HR8:=lh9 (zar.below zah HR8.out hb)
   have HR10:=lh9 (zar.below zah HR10.out hb)
   have HZ13:=lh9 (HZ13.out.below hb)
   have HK15:=lh9 (zae hb HK15.out)
   have HQ16:=lh9 (HQ16.out.below hb)
   have HK19:=lh9 (zae hb HK19.out)
   have HV20:=lh9 (HV20.out.keep hb)
   have HV23:=lh9 (HV23.out.keep hb)
   have HV28:=lh9 (HV28.out.keep hb)
   have HNONE:=lh9 (zar.below zah HNONE.out hb)
   have HC43:=lh9 (zar.below zah HC43.out hb)
   clear hb 
   clear HV20 HC43
   refine tk 12 ?_
   refine tk 13 ?_
   refine tk 14 ?_
   refine tk 15 ?_
   refine tk 17 ?_
   have HS45 : Hid (SzQ (1) (((-1 : Int) : Rat))):=szI_m
   refine rc 16 (fun KK hK => ?_)
   go_simp
   (with_reducible refine (zcy (z:=-1) isInt_m).mono ?_)
   rintro e X46 ⟨b45,A45,n45,c45,E45,k45,f45,rfl,hw45,hb⟩
   refine hK.out _ _ (Cs.below hHeld hb) (fun hHeld => ?_)
   clear hK KK
   have HB:=lh9 (zac HB.out hb)
   have HK1:=lh9 (zae hb HK1.out)
   have HV4:=lh9 (HV4.out.keep hb)
   have HR8:=lh9 (zar.below zah HR8.out hb)
   have HR10:=lh9 (zar.below zah HR10.out hb)
   have HZ13:=lh9 (HZ13.out.below hb)
   have HK15:=lh9 (zae hb HK15.out)
   have HQ16:=lh9 (HQ16.out.below hb)
   have HK19:=lh9 (zae hb HK19.out)
   have HV23:=lh9 (HV23.out.keep hb)
   have HV28:=lh9 (HV28.out.keep hb)
   have HNONE:=lh9 (zar.below zah HNONE.out hb)
   have HZ45:=lh9 (hw45)
   clear hb hw45
   refine rc 18 (fun KK hK => ?_)
   go_simp
   (with_reducible refine (zdY (K:=1) (L:=1) (K':=1) HR8.out HZ45.out HR10.out HSA0.out HS45.out HSA1.out (by decide) (by decide) (by decide) (by decide) (by omega)).mono ?_)
   rintro e X48 ⟨A47,c47,rfl,hv47,hb⟩
   refine hK.out _ _ (Cs.below hHeld hb) (fun hHeld => ?_)
   clear hK KK
   have HB:=lh9 (zac HB.out hb)
   have HK1:=lh9 (zae hb HK1.out)
   have HV4:=lh9 (HV4.out.keep hb)
   have HR8:=lh9 (zar.below zah HR8.out hb)
   have HR10:=lh9 (zar.below zah HR10.out hb)
   have HZ13:=lh9 (HZ13.out.below hb)
   have HK15:=lh9 (zae hb HK15.out)
   have HQ16:=lh9 (HQ16.out.below hb)
   have HK19:=lh9 (zae hb HK19.out)
   have HV23:=lh9 (HV23.out.keep hb)
   have HV28:=lh9 (HV28.out.keep hb)
   have HNONE:=lh9 (zar.below zah HNONE.out hb)
   have HZ45:=lh9 (HZ45.out.below hb)
   have HR47:=lh9 (hv47)
   clear hb hv47
   have h9:=HR47.out
   rw [HEM.out] at h9
   have HC49:=lh9 h9
   clear h9
   clear HR47
   clear HZ45
   refine rc 19 (fun KK hK => ?_)
   go_simp
   (with_reducible refine (zbM (HT.out _ HB.out) HV23.out HC49.out HS23.out (by omega) (by decide)).mono ?_)
   rintro e X50 ⟨rfl,hb⟩
   refine hK.out _ _ (Cs.below hHeld hb) (fun hHeld => ?_)
   clear hK KK
   have HB:=lh9 (zac HB.out hb)
   have HK1:=lh9 (zae hb HK1.out)
   have HV4:=lh9 (HV4.out.keep hb)
   have HR8:=lh9 (zar.below zah HR8.out hb)
   have HR10:=lh9 (zar.below zah HR10.out hb)
   have HZ13:=lh9 (HZ13.out.below hb)
   have HK15:=lh9 (zae hb HK15.out)
   have HQ16:=lh9 (HQ16.out.below hb)
   have HK19:=lh9 (zae hb HK19.out)
   have HV23:=lh9 (HV23.out.keep hb)
   have HV28:=lh9 (HV28.out.keep hb)
   have HNONE:=lh9 (zar.below zah HNONE.out hb)
   have HC49:=lh9 (zar.below zah HC49.out hb)
   clear hb 
   clear HV23 HC49
   refine tk 20 ?_
   refine tk 21 ?_
   refine tk 22 ?_
   refine tk 23 ?_
   refine tk 24 ?_
   refine tk 25 ?_
   have HEF : Hid (zbl X f Y = zbl X f Y):=rfl
   refine rc 26 (fun KK hK => ?_)
   go_simp
   (with_reducible refine (zdY (K:=1) (L:=1) (K':=1) HR8.out HZ13.out HR10.out HSA0.out HSF2.out HSA1.out (by decide) (by decide) (by decide) (by decide) (by omega)).mono ?_)
   rintro e X52 ⟨A51,c51,rfl,hv51,hb⟩
   refine hK.out _ _ (Cs.below hHeld hb) (fun hHeld => ?_)
   clear hK KK
   have HB:=lh9 (zac HB.out hb)
   have HK1:=lh9 (zae hb HK1.out)
   have HV4:=lh9 (HV4.out.keep hb)
   have HR8:=lh9 (zar.below zah HR8.out hb)
   have HR10:=lh9 (zar.below zah HR10.out hb)
   have HZ13:=lh9 (HZ13.out.below hb)
   have HK15:=lh9 (zae hb HK15.out)
   have HQ16:=lh9 (HQ16.out.below hb)
   have HK19:=lh9 (zae hb HK19.out)
   have HV28:=lh9 (HV28.out.keep hb)
   have HNONE:=lh9 (zar.below zah HNONE.out hb)
   have HR51:=lh9 (hv51)
   clear hb hv51
   have h9:=HR51.out
   rw [HEF.out] at h9
   have HC53:=lh9 h9
   clear h9
   clear HR51
   refine rc 27 (fun KK hK => ?_)
   go_simp
   (with_reducible refine (zbM (HT.out _ HB.out) HV28.out HC53.out HS28.out (by omega) (by decide)).mono ?_)
   rintro e X54 ⟨rfl,hb⟩
   refine hK.out _ _ (Cs.below hHeld hb) (fun hHeld => ?_)
   clear hK KK
   have HB:=lh9 (zac HB.out hb)
   have HK1:=lh9 (zae hb HK1.out)
   have HV4:=lh9 (HV4.out.keep hb)
   have HR8:=lh9 (zar.below zah HR8.out hb)
   have HR10:=lh9 (zar.below zah HR10.out hb)
   have HZ13:=lh9 (HZ13.out.below hb)
   have HK15:=lh9 (zae hb HK15.out)
   have HQ16:=lh9 (HQ16.out.below hb)
   have HK19:=lh9 (zae hb HK19.out)
   have HV28:=lh9 (HV28.out.keep hb)
   have HNONE:=lh9 (zar.below zah HNONE.out hb)
   have HC53:=lh9 (zar.below zah HC53.out hb)
   clear hb 
   clear HV28 HC53
   refine tk 28 ?_
   refine tk 29 ?_
   refine tk 30 ?_
   refine tk 32 ?_
   refine tk 34 ?_
   refine tk 35 ?_
   refine tk 36 ?_
   have HS55 : Hid (SzQ (1) (f)):=HSF2.out
   refine rc 31 (fun KK hK => ?_)
   go_simp
   (with_reducible refine (HF.out ▸ zeL (HT.out _ HB.out) HP2.out HQ2.out).mono ?_)
   rintro e X56 ⟨b55,A55,n55,c55,E55,k55,f55,rfl,hw55,hb⟩
   refine hK.out _ _ (Cs.below hHeld hb) (fun hHeld => ?_)
   clear hK KK
   have HB:=lh9 (zac HB.out hb)
   have HK1:=lh9 (zae hb HK1.out)
   have HV4:=lh9 (HV4.out.keep hb)
   have HR8:=lh9 (zar.below zah HR8.out hb)
   have HR10:=lh9 (zar.below zah HR10.out hb)
   have HZ13:=lh9 (HZ13.out.below hb)
   have HK15:=lh9 (zae hb HK15.out)
   have HQ16:=lh9 (HQ16.out.below hb)
   have HK19:=lh9 (zae hb HK19.out)
   have HNONE:=lh9 (zar.below zah HNONE.out hb)
   have HQ55:=lh9 (hw55)
   clear hb hw55
   have HS57 : Hid (zax (2) (zcM f X)):=(zax.scale HSF2.out HSA0.out).up (by decide)
   refine rc 33 (fun KK hK => ?_)
   go_simp
   (with_reducible refine (znx (HT.out _ HB.out) HQ55.out HV4.out HS55.out HSA0.out (by omega) (by decide) (by decide)).mono ?_)
   rintro e X58 ⟨g57,rfl,hg57,ho57,hb⟩
   refine hK.out _ _ (Cs.below hHeld hb) (fun hHeld => ?_)
   clear hK KK
   have HB:=lh9 (zac HB.out hb)
   have HK1:=lh9 (zae hb HK1.out)
   have HV4:=lh9 (HV4.out.keep hb)
   have HR8:=lh9 (zar.below zah HR8.out hb)
   have HR10:=lh9 (zar.below zah HR10.out hb)
   have HZ13:=lh9 (HZ13.out.below hb)
   have HK15:=lh9 (zae hb HK15.out)
   have HQ16:=lh9 (HQ16.out.below hb)
   have HK19:=lh9 (zae hb HK19.out)
   have HNONE:=lh9 (zar.below zah HNONE.out hb)
   have HQ55:=lh9 (HQ55.out.below hb)
   have HV57:=lh9 (zbo ho57)
   clear hb hg57 ho57
   refine rc 37 (fun KK hK => ?_)
   go_simp
   (with_reducible refine (zdY (K:=1) (L:=1) (K':=1) HNONE.out HZ13.out HR8.out (znD k) HSF2.out HSA0.out (by decide) (by decide) (by decide) (by decide) (by omega)).mono ?_)
   rintro e X60 ⟨A59,c59,rfl,hv59,hb⟩
   refine hK.out _ _ (Cs.below hHeld hb) (fun hHeld => ?_)
   clear hK KK
   have HB:=lh9 (zac HB.out hb)
   have HK1:=lh9 (zae hb HK1.out)
   have HV4:=lh9 (HV4.out.keep hb)
   have HR8:=lh9 (zar.below zah HR8.out hb)
   have HR10:=lh9 (zar.below zah HR10.out hb)
   have HZ13:=lh9 (HZ13.out.below hb)
   have HK15:=lh9 (zae hb HK15.out)
   have HQ16:=lh9 (HQ16.out.below hb)
   have HK19:=lh9 (zae hb HK19.out)
   have HNONE:=lh9 (zar.below zah HNONE.out hb)
   have HQ55:=lh9 (HQ55.out.below hb)
   have HV57:=lh9 (HV57.out.keep hb)
   have HR59:=lh9 (hv59)
   clear hb hv59
   have h9:=HR59.out
   rw [HE3.out] at h9
   have HC61:=lh9 h9
   clear h9
   clear HR59
   refine rc 38 (fun KK hK => ?_)
   go_simp
   (with_reducible refine (zbM (HT.out _ HB.out) HV57.out HC61.out HS57.out (by omega) (by decide)).mono ?_)
   rintro e X62 ⟨rfl,hb⟩
   refine hK.out _ _ (Cs.below hHeld hb) (fun hHeld => ?_)
   clear hK KK
   have HB:=lh9 (zac HB.out hb)
   have HK1:=lh9 (zae hb HK1.out)
   have HV4:=lh9 (HV4.out.keep hb)
   have HR8:=lh9 (zar.below zah HR8.out hb)
   have HR10:=lh9 (zar.below zah HR10.out hb)
   have HZ13:=lh9 (HZ13.out.below hb)
   have HK15:=lh9 (zae hb HK15.out)
   have HQ16:=lh9 (HQ16.out.below hb)
   have HK19:=lh9 (zae hb HK19.out)
   have HNONE:=lh9 (zar.below zah HNONE.out hb)
   have HQ55:=lh9 (HQ55.out.below hb)
   have HV57:=lh9 (HV57.out.keep hb)
   have HC61:=lh9 (zar.below zah HC61.out hb)
   clear hb 
   clear HV57 HC61
   refine tk 39 ?_
   refine tk 40 ?_
   refine rdn ?_
   clear hHeld
   go_wp2
   go_ret
   exact ⟨rfl,HB.out⟩
theorem vecReckons_core (A0 : oA9) (n0 c0 : Nat) (L0 : List (Int × Int)) (A1 : oA9) (n1 c1 : Nat) (L1 : List (Int × Int)) (p2 q2 : Int) (w : World) (h0 : zaT w A0 n0 c0 L0) (h1 : zaT w A1 n1 c1 L1) (hp2 : zaX p2) (hq2 : zaX q2) (hT : zan w) :
  Calls Tryz.prog 3 #[.slice A0 n0 c0,.slice A1 n1 c1,.agg #[.int .i64 p2,.int .i64 q2]] w fun e w' => e = .returned (.bool true) ∧ Below w.heap.size w w':=by
 by_cases p0 : n0 ≤ 12
 ·by_cases p1 : n1 ≤ 12
  ·by_cases p2' : n0 = n1
   ·exact zhD A0 n0 c0 L0 A1 n1 c1 L1 p2 q2 w h0 h1 hp2 hq2 p0 p1 p2' hT
   ·exact zhM A0 n0 c0 L0 A1 n1 c1 L1 p2 q2 w h0 h1 hp2 hq2 p0 p1 p2' hT
  ·exact zfF A0 n0 c0 L0 A1 n1 c1 L1 p2 q2 w h0 h1 hp2 hq2 p0 (by omega) hT
 ·exact zfE A0 n0 c0 L0 A1 n1 c1 L1 p2 q2 w h0 h1 hp2 hq2 (by omega) hT
end Go.Proofs.YtkiedljcgkoaiaaGreatDoor
