/- What this claim leans on. -/
import Derived.Test.YtgigccjiblaefaaGreatDoorOW8Awake
import Derived.Test.YtgigccjiblaefaaGreatDoorOW8Make
import Derived.Test.YtgigccjiblaefaaGreatDoorOW8Like
namespace Go.Proofs.YtgigccjiblaefaaGreatDoor
open Go Go.RowKit
set_option maxHeartbeats 16000000
set_option maxRecDepth 100000
set_option linter.unusedVariables false
set_option linter.unusedSimpArgs false
theorem zjC {T : World → Prop} {M : Nat → Prop} (hTb : ∀ w w',T w → Below w.heap.size w w' → T w') (IC : IntC T) (QC : RatC T M) (M1 : M 1) (s0 : Bool) (A0 : oA9) (n0 c0 : Nat) (l0 : List Nat) (E0 : oA9) (u0 v0 : Nat) (e0 : List Nat) (s1 : Bool) (A1 : oA9) (n1 c1 : Nat) (l1 : List Nat) (E1 : oA9) (u1 v1 : Nat) (e1 : List Nat) (w : World) (h0 : zau w A0 n0 c0 l0) (k0 : zau w E0 u0 v0 e0) (h1 : zau w A1 n1 c1 l1) (k1 : zau w E1 u1 v1 e1) (sm0 : ∀ w : World,Calls Tryz.prog 19 #[.agg #[.bool s0,.slice A0 n0 c0,.slice E0 u0 v0],.int .i64 4] w fun e w' => e = .returned (.bool false) ∧ Below w.heap.size w w') (hT : T w) :
  Calls Tryz.prog 5 #[.agg #[.bool s0,.slice A0 n0 c0,.slice E0 u0 v0],.agg #[.bool s1,.slice A1 n1 c1,.slice E1 u1 v1]] w fun e w' => e = .returned (.bool true) ∧ Below w.heap.size w w' := by
 have HAW := lh9 (fun w' (hb : Below w.heap.size w w') => zex hTb IC QC w' (hTb w w' hT hb))
 have HIC := lh9 IC
 have HQC := lh9 QC
 have HT := lh9 (fun w' (hb : Below w.heap.size w w') => hTb w w' hT hb)
 obtain ⟨K,hK⟩ : ∃ K,1048576 = K := ⟨_,rfl⟩
 have hKK : K ≤ 1048576 := by omega
 have hK0 : 0 < K := by omega
 have HM0 := lh9 (fun w' (hb : Below w.heap.size w w') => zcJ hTb IC QC s0 A0 n0 c0 l0 E0 u0 v0 e0 w' ⟨(h0.reads.below hb).more hb.size,h0.dgs,h0.fits,h0.small⟩ ⟨(k0.reads.below hb).more hb.size,k0.dgs,k0.fits,k0.small⟩ (hTb w w' hT hb))
 have S0 : SzQ 1048576 (fOf s0 l0 e0) := zfp h0 k0
 rw [hK] at S0
 obtain ⟨x,hz0⟩ : ∃ x,fOf s0 l0 e0 = x := ⟨_,rfl⟩
 rw [hz0] at HM0 S0
 have HS0 := lh9 S0
 have HM1 := lh9 (fun w' (hb : Below w.heap.size w w') => zcJ hTb IC QC s1 A1 n1 c1 l1 E1 u1 v1 e1 w' ⟨(h1.reads.below hb).more hb.size,h1.dgs,h1.fits,h1.small⟩ ⟨(k1.reads.below hb).more hb.size,k1.dgs,k1.fits,k1.small⟩ (hTb w w' hT hb))
 have S1 : SzQ 1048576 (fOf s1 l1 e1) := zfp h1 k1
 rw [hK] at S1
 obtain ⟨y,hz1⟩ : ∃ x,fOf s1 l1 e1 = x := ⟨_,rfl⟩
 rw [hz1] at HM1 S1
 have HS1 := lh9 S1
 have HR0 := lh9 (fun w' (hb : Below w.heap.size w w') => zdf s0 A0 n0 c0 l0 E0 u0 v0 e0 w' ⟨(h0.reads.below hb).more hb.size,h0.dgs,h0.fits,h0.small⟩ ⟨(k0.reads.below hb).more hb.size,k0.dgs,k0.fits,k0.small⟩)
 rw [hz0] at HR0
 have HR1 := lh9 (fun w' (hb : Below w.heap.size w w') => zdf s1 A1 n1 c1 l1 E1 u1 v1 e1 w' ⟨(h1.reads.below hb).more hb.size,h1.dgs,h1.fits,h1.small⟩ ⟨(k1.reads.below hb).more hb.size,k1.dgs,k1.fits,k1.small⟩)
 rw [hz1] at HR1
 have HSM0 := lh9 sm0
 clear IC QC hT h0 k0 hz0 S0 h1 k1 hz1 S1 hK sm0
 go_enter Tryz.func5,Tryz.ntmps5
 have hB := Below.refl w.heap.size w
 obtain ⟨bx1,bx2,bx3,bz⟩ := zaT w 48 48 #[.bool s0,.slice A0 n0 c0,.slice E0 u0 v0] #[.bool s1,.slice A1 n1 c1,.slice E1 u1 v1]
 have hB := zad hB bx1
 obtain ⟨g1,e1,i1⟩ := bx2.c3
 obtain ⟨g2,e2,i2⟩ := bx3.c3
 clear bx1 bx2 bx3 bz
 go_wp2_with fail
 generalize (w.alloc (.cells #[.bool s0,.slice A0 n0 c0,.slice E0 u0 v0] 48)).alloc (.cells #[.bool s1,.slice A1 n1 c1,.slice E1 u1 v1] 48) = W1 at *
 (with_reducible refine (HAW.out _ hB).mono ?_)
 rintro e wc2 ⟨rfl,hb⟩
 have hB := zad hB hb
 have g1 := zac hb g1
 have e1 := zac hb e1
 have i1 := zac hb i1
 have g2 := zac hb g2
 have e2 := zac hb e2
 have i2 := zac hb i2
 clear hb 
 go_wp2_with fail
 (with_reducible refine (HSM0.out _).mono ?_)
 rintro e wc3 ⟨rfl,hb⟩
 have hB := zad hB hb
 have g1 := zac hb g1
 have e1 := zac hb e1
 have i1 := zac hb i1
 have g2 := zac hb g2
 have e2 := zac hb e2
 have i2 := zac hb i2
 clear hb 
 go_wp2
 go_ret
 exact ⟨by first | rfl | simp,hB⟩
theorem ziG {T : World → Prop} {M : Nat → Prop} (hTb : ∀ w w',T w → Below w.heap.size w w' → T w') (IC : IntC T) (QC : RatC T M) (M1 : M 1) (s0 : Bool) (A0 : oA9) (n0 c0 : Nat) (l0 : List Nat) (E0 : oA9) (u0 v0 : Nat) (e0 : List Nat) (s1 : Bool) (A1 : oA9) (n1 c1 : Nat) (l1 : List Nat) (E1 : oA9) (u1 v1 : Nat) (e1 : List Nat) (w : World) (h0 : zau w A0 n0 c0 l0) (k0 : zau w E0 u0 v0 e0) (h1 : zau w A1 n1 c1 l1) (k1 : zau w E1 u1 v1 e1) (sm0 : ∀ w : World,Calls Tryz.prog 19 #[.agg #[.bool s0,.slice A0 n0 c0,.slice E0 u0 v0],.int .i64 4] w fun e w' => e = .returned (.bool true) ∧ Below w.heap.size w w') (sm1 : ∀ w : World,Calls Tryz.prog 19 #[.agg #[.bool s1,.slice A1 n1 c1,.slice E1 u1 v1],.int .i64 4] w fun e w' => e = .returned (.bool false) ∧ Below w.heap.size w w') (hT : T w) :
  Calls Tryz.prog 5 #[.agg #[.bool s0,.slice A0 n0 c0,.slice E0 u0 v0],.agg #[.bool s1,.slice A1 n1 c1,.slice E1 u1 v1]] w fun e w' => e = .returned (.bool true) ∧ Below w.heap.size w w' := by
 have HAW := lh9 (fun w' (hb : Below w.heap.size w w') => zex hTb IC QC w' (hTb w w' hT hb))
 have HIC := lh9 IC
 have HQC := lh9 QC
 have HT := lh9 (fun w' (hb : Below w.heap.size w w') => hTb w w' hT hb)
 obtain ⟨K,hK⟩ : ∃ K,1048576 = K := ⟨_,rfl⟩
 have hKK : K ≤ 1048576 := by omega
 have hK0 : 0 < K := by omega
 have HM0 := lh9 (fun w' (hb : Below w.heap.size w w') => zcJ hTb IC QC s0 A0 n0 c0 l0 E0 u0 v0 e0 w' ⟨(h0.reads.below hb).more hb.size,h0.dgs,h0.fits,h0.small⟩ ⟨(k0.reads.below hb).more hb.size,k0.dgs,k0.fits,k0.small⟩ (hTb w w' hT hb))
 have S0 : SzQ 1048576 (fOf s0 l0 e0) := zfp h0 k0
 rw [hK] at S0
 obtain ⟨x,hz0⟩ : ∃ x,fOf s0 l0 e0 = x := ⟨_,rfl⟩
 rw [hz0] at HM0 S0
 have HS0 := lh9 S0
 have HM1 := lh9 (fun w' (hb : Below w.heap.size w w') => zcJ hTb IC QC s1 A1 n1 c1 l1 E1 u1 v1 e1 w' ⟨(h1.reads.below hb).more hb.size,h1.dgs,h1.fits,h1.small⟩ ⟨(k1.reads.below hb).more hb.size,k1.dgs,k1.fits,k1.small⟩ (hTb w w' hT hb))
 have S1 : SzQ 1048576 (fOf s1 l1 e1) := zfp h1 k1
 rw [hK] at S1
 obtain ⟨y,hz1⟩ : ∃ x,fOf s1 l1 e1 = x := ⟨_,rfl⟩
 rw [hz1] at HM1 S1
 have HS1 := lh9 S1
 have HR0 := lh9 (fun w' (hb : Below w.heap.size w w') => zdf s0 A0 n0 c0 l0 E0 u0 v0 e0 w' ⟨(h0.reads.below hb).more hb.size,h0.dgs,h0.fits,h0.small⟩ ⟨(k0.reads.below hb).more hb.size,k0.dgs,k0.fits,k0.small⟩)
 rw [hz0] at HR0
 have HR1 := lh9 (fun w' (hb : Below w.heap.size w w') => zdf s1 A1 n1 c1 l1 E1 u1 v1 e1 w' ⟨(h1.reads.below hb).more hb.size,h1.dgs,h1.fits,h1.small⟩ ⟨(k1.reads.below hb).more hb.size,k1.dgs,k1.fits,k1.small⟩)
 rw [hz1] at HR1
 have HSM0 := lh9 sm0
 have HSM1 := lh9 sm1
 clear IC QC hT h0 k0 hz0 S0 h1 k1 hz1 S1 hK sm0 sm1
 go_enter Tryz.func5,Tryz.ntmps5
 have hB := Below.refl w.heap.size w
 obtain ⟨bx1,bx2,bx3,bz⟩ := zaT w 48 48 #[.bool s0,.slice A0 n0 c0,.slice E0 u0 v0] #[.bool s1,.slice A1 n1 c1,.slice E1 u1 v1]
 have hB := zad hB bx1
 obtain ⟨g1,e1,i1⟩ := bx2.c3
 obtain ⟨g2,e2,i2⟩ := bx3.c3
 clear bx1 bx2 bx3 bz
 go_wp2_with fail
 generalize (w.alloc (.cells #[.bool s0,.slice A0 n0 c0,.slice E0 u0 v0] 48)).alloc (.cells #[.bool s1,.slice A1 n1 c1,.slice E1 u1 v1] 48) = W1 at *
 (with_reducible refine (HAW.out _ hB).mono ?_)
 rintro e wc2 ⟨rfl,hb⟩
 have hB := zad hB hb
 have g1 := zac hb g1
 have e1 := zac hb e1
 have i1 := zac hb i1
 have g2 := zac hb g2
 have e2 := zac hb e2
 have i2 := zac hb i2
 clear hb 
 go_wp2_with fail
 (with_reducible refine (HSM0.out _).mono ?_)
 rintro e wc3 ⟨rfl,hb⟩
 have hB := zad hB hb
 have g1 := zac hb g1
 have e1 := zac hb e1
 have i1 := zac hb i1
 have g2 := zac hb g2
 have e2 := zac hb e2
 have i2 := zac hb i2
 clear hb 
 go_wp2_with fail
 (with_reducible refine (HSM1.out _).mono ?_)
 rintro e wc4 ⟨rfl,hb⟩
 have hB := zad hB hb
 have g1 := zac hb g1
 have e1 := zac hb e1
 have i1 := zac hb i1
 have g2 := zac hb g2
 have e2 := zac hb e2
 have i2 := zac hb i2
 clear hb 
 go_wp2
 go_ret
 exact ⟨by first | rfl | simp,hB⟩
theorem zit {T : World → Prop} {M : Nat → Prop} (hTb : ∀ w w',T w → Below w.heap.size w w' → T w') (IC : IntC T) (QC : RatC T M) (M1 : M 1) (s0 : Bool) (A0 : oA9) (n0 c0 : Nat) (l0 : List Nat) (E0 : oA9) (u0 v0 : Nat) (e0 : List Nat) (s1 : Bool) (A1 : oA9) (n1 c1 : Nat) (l1 : List Nat) (E1 : oA9) (u1 v1 : Nat) (e1 : List Nat) (w : World) (h0 : zau w A0 n0 c0 l0) (k0 : zau w E0 u0 v0 e0) (h1 : zau w A1 n1 c1 l1) (k1 : zau w E1 u1 v1 e1) (sm0 : ∀ w : World,Calls Tryz.prog 19 #[.agg #[.bool s0,.slice A0 n0 c0,.slice E0 u0 v0],.int .i64 4] w fun e w' => e = .returned (.bool true) ∧ Below w.heap.size w w') (sm1 : ∀ w : World,Calls Tryz.prog 19 #[.agg #[.bool s1,.slice A1 n1 c1,.slice E1 u1 v1],.int .i64 4] w fun e w' => e = .returned (.bool true) ∧ Below w.heap.size w w') (hT : T w) :
  Calls Tryz.prog 5 #[.agg #[.bool s0,.slice A0 n0 c0,.slice E0 u0 v0],.agg #[.bool s1,.slice A1 n1 c1,.slice E1 u1 v1]] w fun e w' => e = .returned (.bool true) ∧ Below w.heap.size w w' := by
 have HAW := lh9 (fun w' (hb : Below w.heap.size w w') => zex hTb IC QC w' (hTb w w' hT hb))
 have HIC := lh9 IC
 have HQC := lh9 QC
 have HT := lh9 (fun w' (hb : Below w.heap.size w w') => hTb w w' hT hb)
 obtain ⟨K,hK⟩ : ∃ K,1048576 = K := ⟨_,rfl⟩
 have hKK : K ≤ 1048576 := by omega
 have hK0 : 0 < K := by omega
 have HM0 := lh9 (fun w' (hb : Below w.heap.size w w') => zcJ hTb IC QC s0 A0 n0 c0 l0 E0 u0 v0 e0 w' ⟨(h0.reads.below hb).more hb.size,h0.dgs,h0.fits,h0.small⟩ ⟨(k0.reads.below hb).more hb.size,k0.dgs,k0.fits,k0.small⟩ (hTb w w' hT hb))
 have S0 : SzQ 1048576 (fOf s0 l0 e0) := zfp h0 k0
 rw [hK] at S0
 obtain ⟨x,hz0⟩ : ∃ x,fOf s0 l0 e0 = x := ⟨_,rfl⟩
 rw [hz0] at HM0 S0
 have HS0 := lh9 S0
 have HM1 := lh9 (fun w' (hb : Below w.heap.size w w') => zcJ hTb IC QC s1 A1 n1 c1 l1 E1 u1 v1 e1 w' ⟨(h1.reads.below hb).more hb.size,h1.dgs,h1.fits,h1.small⟩ ⟨(k1.reads.below hb).more hb.size,k1.dgs,k1.fits,k1.small⟩ (hTb w w' hT hb))
 have S1 : SzQ 1048576 (fOf s1 l1 e1) := zfp h1 k1
 rw [hK] at S1
 obtain ⟨y,hz1⟩ : ∃ x,fOf s1 l1 e1 = x := ⟨_,rfl⟩
 rw [hz1] at HM1 S1
 have HS1 := lh9 S1
 have HR0 := lh9 (fun w' (hb : Below w.heap.size w w') => zdf s0 A0 n0 c0 l0 E0 u0 v0 e0 w' ⟨(h0.reads.below hb).more hb.size,h0.dgs,h0.fits,h0.small⟩ ⟨(k0.reads.below hb).more hb.size,k0.dgs,k0.fits,k0.small⟩)
 rw [hz0] at HR0
 have HR1 := lh9 (fun w' (hb : Below w.heap.size w w') => zdf s1 A1 n1 c1 l1 E1 u1 v1 e1 w' ⟨(h1.reads.below hb).more hb.size,h1.dgs,h1.fits,h1.small⟩ ⟨(k1.reads.below hb).more hb.size,k1.dgs,k1.fits,k1.small⟩)
 rw [hz1] at HR1
 have HSM0 := lh9 sm0
 have HSM1 := lh9 sm1
 obtain ⟨c,hc⟩ : ∃ c,zce x y = c := ⟨_,rfl⟩
 obtain ⟨tb,htb⟩ : ∃ t,decide (x = y) = t := ⟨_,rfl⟩
 have HC := lh9 hc
 have HTE := lh9 htb
 have kb1 : (c != c) = false := by simp
 have kb2 : (!(tb == (c == 0))) = false := by
  rw [← htb,← hc]
  by_cases h9 : x = y
  ·rw [decide_eq_true h9,(zih x y).2 h9]; rfl
  ·have h8 : (zce x y == 0) = false := by rw [beq_eq_false_iff_ne]; exact fun h7 => h9 ((zih x y).1 h7)
   rw [decide_eq_false h9,h8]; rfl
 have kb3 : (tb != (c == 0)) = false := kb2
 clear hc htb
 have HCASE : Hid (c ≤ 0 ∨ 0 < c) := by show _ ∨ _; omega
 clear IC QC hT h0 k0 hz0 S0 h1 k1 hz1 S1 hK sm0 sm1
 go_enter Tryz.func5,Tryz.ntmps5
 have hB := Below.refl w.heap.size w
 obtain ⟨bx1,bx2,bx3,bz⟩ := zaT w 48 48 #[.bool s0,.slice A0 n0 c0,.slice E0 u0 v0] #[.bool s1,.slice A1 n1 c1,.slice E1 u1 v1]
 have hB := zad hB bx1
 obtain ⟨g1,e1,i1⟩ := bx2.c3
 obtain ⟨g2,e2,i2⟩ := bx3.c3
 clear bx1 bx2 bx3 bz
 go_wp2_with fail
 generalize (w.alloc (.cells #[.bool s0,.slice A0 n0 c0,.slice E0 u0 v0] 48)).alloc (.cells #[.bool s1,.slice A1 n1 c1,.slice E1 u1 v1] 48) = W1 at *
 (with_reducible refine (HAW.out _ hB).mono ?_)
 rintro e wc2 ⟨rfl,hb⟩
 have hB := zad hB hb
 have g1 := zac hb g1
 have e1 := zac hb e1
 have i1 := zac hb i1
 have g2 := zac hb g2
 have e2 := zac hb e2
 have i2 := zac hb i2
 clear hb 
 go_wp2_with fail
 (with_reducible refine (HSM0.out _).mono ?_)
 rintro e wc3 ⟨rfl,hb⟩
 have hB := zad hB hb
 have g1 := zac hb g1
 have e1 := zac hb e1
 have i1 := zac hb i1
 have g2 := zac hb g2
 have e2 := zac hb e2
 have i2 := zac hb i2
 clear hb 
 go_wp2_with fail
 (with_reducible refine (HSM1.out _).mono ?_)
 rintro e wc4 ⟨rfl,hb⟩
 have hB := zad hB hb
 have g1 := zac hb g1
 have e1 := zac hb e1
 have i1 := zac hb i1
 have g2 := zac hb g2
 have e2 := zac hb e2
 have i2 := zac hb i2
 clear hb 
 go_wp2_with fail
 have HZ3 : Hid (SzQ (K) (x)) := HS0.out
 have C0 := lh9 (fun w' (h : Below wc4.heap.size wc4 w') => HM0.out _ (zad hB h))
 have HZ4 : Hid (SzQ (K) (y)) := HS1.out
 have C1 := lh9 (fun w' (h : Below wc4.heap.size wc4 w') => HM1.out _ (zad hB h))
 have HZ5 : Hid (SzQ (K) (x)) := HS0.out
 have C2 := lh9 (fun w' (h : Below wc4.heap.size wc4 w') => HR0.out _ (zad hB h))
 have HZ6 : Hid (SzQ (K) (y)) := HS1.out
 have C3 := lh9 (fun w' (h : Below wc4.heap.size wc4 w') => HR1.out _ (zad hB h))
 have GG := lh9 (fun w' (h : Below wc4.heap.size wc4 w') => (csc (zac h g1) (csc (zac h e1) (csc (zac h i1) (csc (zac h g2) (csc (zac h e2) (csc (zac h i2) csn)))))))
 refine rgB (fun hHeld => ?_)
 refine tl 0 GG.out ?_
 refine tl 2 GG.out ?_
 refine tl 4 GG.out ?_
 refine tl 6 GG.out ?_
 refine zaU (L := #[true,true,true,true,true,true,true,true,true,true,true,true,true,true,true,true])
  (J := fun a0 l a w' => ∃ (fl1 fl3 fl5 fl7 fl8 fl9 fl10 fl11 fl12 fl13 fl14 fl15 b3 : Bool) (B3 : oA9) (m3 d3 : Nat) (E3 : oA9) (u3 v3 : Nat) (b4 : Bool) (B4 : oA9) (m4 d4 : Nat) (E4 : oA9) (u4 v4 : Nat) (b5 : Bool) (B5 : oA9) (m5 d5 : Nat) (E5 : oA9) (u5 v5 : Nat) (b6 : Bool) (B6 : oA9) (m6 d6 : Nat) (E6 : oA9) (u6 v6 ad8 ad9 ad10 ad11 : Nat),l = #[true,fl1,true,fl3,true,fl5,true,fl7,fl8,fl9,fl10,fl11,fl12,fl13,fl14,fl15] ∧ zbG [23,25,27,29,5,6,7,8] a0 a ∧ Hid (Below wc4.heap.size wc4 w') ∧
    Hid (Gd fl1 (a.tmps.getD 23 undef = .agg #[.bool b3,.slice B3 m3 d3,.slice E3 u3 v3] ∧ zam w' (x) b3 B3 m3 d3 E3 u3 v3)) ∧
    Hid (Gd fl3 (a.tmps.getD 25 undef = .agg #[.bool b4,.slice B4 m4 d4,.slice E4 u4 v4] ∧ zam w' (y) b4 B4 m4 d4 E4 u4 v4)) ∧
    Hid (Gd fl5 (a.tmps.getD 27 undef = .agg #[.bool b5,.slice B5 m5 d5,.slice E5 u5 v5] ∧ zck w' (x) b5 B5 m5 d5 E5 u5 v5)) ∧
    Hid (Gd fl7 (a.tmps.getD 29 undef = .agg #[.bool b6,.slice B6 m6 d6,.slice E6 u6 v6] ∧ zck w' (y) b6 B6 m6 d6 E6 u6 v6)) ∧
    Hid (Gd fl8 (a.tmps.getD 5 undef = .pointer (some ⟨ad8,0,none⟩) ∧ wc4.heap.size ≤ ad8 ∧ Blk w' ad8 31 (bif fl12 then #[.bool b3,.slice B3 m3 d3,.slice E3 u3 v3] else #[.bool false,.slice none 0 0,.slice none 0 0]))) ∧
    Hid (Gd fl9 (a.tmps.getD 6 undef = .pointer (some ⟨ad9,0,none⟩) ∧ wc4.heap.size ≤ ad9 ∧ Blk w' ad9 31 (bif fl13 then #[.bool b4,.slice B4 m4 d4,.slice E4 u4 v4] else #[.bool false,.slice none 0 0,.slice none 0 0]))) ∧
    Hid (Gd fl10 (a.tmps.getD 7 undef = .pointer (some ⟨ad10,0,none⟩) ∧ wc4.heap.size ≤ ad10 ∧ Blk w' ad10 42 (bif fl14 then #[.bool b5,.slice B5 m5 d5,.slice E5 u5 v5] else #[.bool false,.slice none 0 0,.slice none 0 0]))) ∧
    Hid (Gd fl11 (a.tmps.getD 8 undef = .pointer (some ⟨ad11,0,none⟩) ∧ wc4.heap.size ≤ ad11 ∧ Blk w' ad11 42 (bif fl15 then #[.bool b6,.slice B6 m6 d6,.slice E6 u6 v6] else #[.bool false,.slice none 0 0,.slice none 0 0]))) ∧
    Hid (Gd fl8 (Gd fl9 (ad8 ≠ ad9))) ∧
    Hid (Gd fl8 (Gd fl10 (ad8 ≠ ad10))) ∧
    Hid (Gd fl8 (Gd fl11 (ad8 ≠ ad11))) ∧
    Hid (Gd fl9 (Gd fl10 (ad9 ≠ ad10))) ∧
    Hid (Gd fl9 (Gd fl11 (ad9 ≠ ad11))) ∧
    Hid (Gd fl10 (Gd fl11 (ad10 ≠ ad11))) ∧
    Hid (Gd fl3 (fl1 = true)) ∧
    Hid (Gd fl5 (fl3 = true)) ∧
    Hid (Gd fl7 (fl5 = true)) ∧
    Hid (Gd fl12 (fl1 = true)) ∧
    Hid (Gd fl12 (fl7 = true)) ∧
    Hid (Gd fl12 (fl8 = true)) ∧
    Hid (Gd fl13 (fl3 = true)) ∧
    Hid (Gd fl13 (fl9 = true)) ∧
    Hid (Gd fl13 (fl12 = true)) ∧
    Hid (Gd fl14 (fl5 = true)) ∧
    Hid (Gd fl14 (fl10 = true)) ∧
    Hid (Gd fl14 (fl13 = true)) ∧
    Hid (Gd fl15 (fl7 = true)) ∧
    Hid (Gd fl15 (fl11 = true)) ∧
    Hid (Gd fl15 (fl14 = true)))
  (by rfl) ?_ ?_ ?_
 ·exact ⟨false,false,false,false,false,false,false,false,false,false,false,false,false,none,0,0,none,0,0,false,none,0,0,none,0,0,false,none,0,0,none,0,0,false,none,0,0,none,0,0,0,0,0,0,by kernel_rfl,zbG.refl _ _,hHeld,Gd.no,Gd.no,Gd.no,Gd.no,Gd.no,Gd.no,Gd.no,Gd.no,Gd.no,Gd.no,Gd.no,Gd.no,Gd.no,Gd.no,Gd.no,Gd.no,Gd.no,Gd.no,Gd.no,Gd.no,Gd.no,Gd.no,Gd.no,Gd.no,Gd.no,Gd.no,Gd.no,Gd.no,Gd.no⟩
 ·intro OPS Ac0 Q0 hO hAs hA
  have RB22 : Ac0.tmps.getD 22 undef = .agg #[.bool s0,.slice A0 n0 c0,.slice E0 u0 v0] := (hA 22 undef).trans (by kernel_rfl)
  have RB24 : Ac0.tmps.getD 24 undef = .agg #[.bool s1,.slice A1 n1 c1,.slice E1 u1 v1] := (hA 24 undef).trans (by kernel_rfl)
  have RB26 : Ac0.tmps.getD 26 undef = .agg #[.bool s0,.slice A0 n0 c0,.slice E0 u0 v0] := (hA 26 undef).trans (by kernel_rfl)
  have RB28 : Ac0.tmps.getD 28 undef = .agg #[.bool s1,.slice A1 n1 c1,.slice E1 u1 v1] := (hA 28 undef).trans (by kernel_rfl)
  have hsz : Ac0.tmps.size = 82 := hAs.trans (by kernel_rfl)
  clear hAs hA
  refine ⟨?_,?_⟩
  ·rintro l a w' ⟨fl1,fl3,fl5,fl7,fl8,fl9,fl10,fl11,fl12,fl13,fl14,fl15,b3,B3,m3,d3,E3,u3,v3,b4,B4,m4,d4,E4,u4,v4,b5,B5,m5,d5,E5,u5,v5,b6,B6,m6,d6,E6,u6,v6,ad8,ad9,ad10,ad11,rfl,-⟩ hr
   obtain rfl : fl1 = true := als 1 hr hO
   obtain rfl : fl3 = true := als 3 hr hO
   obtain rfl : fl5 = true := als 5 hr hO
   obtain rfl : fl7 = true := als 7 hr hO
   obtain rfl : fl8 = true := als 8 hr hO
   obtain rfl : fl9 = true := als 9 hr hO
   obtain rfl : fl10 = true := als 10 hr hO
   obtain rfl : fl11 = true := als 11 hr hO
   obtain rfl : fl12 = true := als 12 hr hO
   obtain rfl : fl13 = true := als 13 hr hO
   obtain rfl : fl14 = true := als 14 hr hO
   obtain rfl : fl15 = true := als 15 hr hO
   rfl
  ·rintro l a w' i ⟨fl1,fl3,fl5,fl7,fl8,fl9,fl10,fl11,fl12,fl13,fl14,fl15,b3,B3,m3,d3,E3,u3,v3,b4,B4,m4,d4,E4,u4,v4,b5,B5,m5,d5,E5,u5,v5,b6,B6,m6,d6,E6,u6,v6,ad8,ad9,ad10,ad11,rfl,HKp,hBi,qf1,qf3,qf5,qf7,qf8,qf9,qf10,qf11,qn8_9,qn8_10,qn8_11,qn9_10,qn9_11,qn10_11,qd3_1,qd5_3,qd7_5,qd12_1,qd12_7,qd12_8,qd13_3,qd13_9,qd13_12,qd14_5,qd14_10,qd14_13,qd15_7,qd15_11,qd15_14⟩ hne hi
   have hlt : i < 16 := by have := zbr hi; rw [hO] at this; exact this
   rcases (show i = 0 ∨ i = 1 ∨ i = 2 ∨ i = 3 ∨ i = 4 ∨ i = 5 ∨ i = 6 ∨ i = 7 ∨ i = 8 ∨ i = 9 ∨ i = 10 ∨ i = 11 ∨ i = 12 ∨ i = 13 ∨ i = 14 ∨ i = 15 by omega) with rfl | rfl | rfl | rfl | rfl | rfl | rfl | rfl | rfl | rfl | rfl | rfl | rfl | rfl | rfl | rfl
   ·cases (zai hi : true = false)
   ·obtain rfl : fl1 = false := zai hi
    obtain rfl : fl3 = false := Gd.off qd3_1.out
    obtain rfl : fl5 = false := Gd.off qd5_3.out
    obtain rfl : fl7 = false := Gd.off qd7_5.out
    obtain rfl : fl12 = false := Gd.off qd12_1.out
    obtain rfl : fl13 = false := Gd.off qd13_3.out
    obtain rfl : fl14 = false := Gd.off qd14_5.out
    obtain rfl : fl15 = false := Gd.off qd15_7.out
    have rd22 := HKp.get 22 (by decide) RB22
    refine wog hO (fun K' hK => ?_)
    go_simp
    refine (C0.out w' hBi.out).mono ?_
    rintro e w2 ⟨nb3,nB3,nm3,nd3,nE3,nu3,nv3,rfl,nhw3,hb⟩
    exact hK.out _ _ ⟨zad hBi.out hb,true,false,false,false,fl8,fl9,fl10,fl11,false,false,false,false,nb3,nB3,nm3,nd3,nE3,nu3,nv3,b4,B4,m4,d4,E4,u4,v4,b5,B5,m5,d5,E5,u5,v5,b6,B6,m6,d6,E6,u6,v6,ad8,ad9,ad10,ad11,by rfl,HKp.put (by decide) _,zad hBi.out hb,Gd.yes ⟨zaw (HKp.lt (by rw [hsz]; decide)) _,nhw3⟩,Gd.no,Gd.no,Gd.no,kq qf8.out fun h => ⟨h.1,zae hb h.2⟩,kq qf9.out fun h => ⟨h.1,zae hb h.2⟩,kq qf10.out fun h => ⟨h.1,zae hb h.2⟩,kq qf11.out fun h => ⟨h.1,zae hb h.2⟩,qn8_9,qn8_10,qn8_11,qn9_10,qn9_11,qn10_11,Gd.no,Gd.no,Gd.no,Gd.no,Gd.no,Gd.no,Gd.no,Gd.no,Gd.no,Gd.no,Gd.no,Gd.no,Gd.no,Gd.no,Gd.no⟩
   ·cases (zai hi : true = false)
   ·obtain rfl : fl3 = false := zai hi
    obtain rfl : fl1 = true := rdp 1 1 hi hO
    obtain rfl : fl5 = false := Gd.off qd5_3.out
    obtain rfl : fl7 = false := Gd.off qd7_5.out
    obtain rfl : fl12 = false := Gd.off qd12_7.out
    obtain rfl : fl13 = false := Gd.off qd13_3.out
    obtain rfl : fl14 = false := Gd.off qd14_5.out
    obtain rfl : fl15 = false := Gd.off qd15_7.out
    have rd24 := HKp.get 24 (by decide) RB24
    refine wog hO (fun K' hK => ?_)
    go_simp
    refine (C1.out w' hBi.out).mono ?_
    rintro e w2 ⟨nb4,nB4,nm4,nd4,nE4,nu4,nv4,rfl,nhw4,hb⟩
    exact hK.out _ _ ⟨zad hBi.out hb,true,true,false,false,fl8,fl9,fl10,fl11,false,false,false,false,b3,B3,m3,d3,E3,u3,v3,nb4,nB4,nm4,nd4,nE4,nu4,nv4,b5,B5,m5,d5,E5,u5,v5,b6,B6,m6,d6,E6,u6,v6,ad8,ad9,ad10,ad11,by rfl,HKp.put (by decide) _,zad hBi.out hb,kq qf1.out fun h => (h).below hb,Gd.yes ⟨zaw (HKp.lt (by rw [hsz]; decide)) _,nhw4⟩,Gd.no,Gd.no,kq qf8.out fun h => ⟨h.1,zae hb h.2⟩,kq qf9.out fun h => ⟨h.1,zae hb h.2⟩,kq qf10.out fun h => ⟨h.1,zae hb h.2⟩,kq qf11.out fun h => ⟨h.1,zae hb h.2⟩,qn8_9,qn8_10,qn8_11,qn9_10,qn9_11,qn10_11,fun _ => rfl,Gd.no,Gd.no,Gd.no,Gd.no,Gd.no,Gd.no,Gd.no,Gd.no,Gd.no,Gd.no,Gd.no,Gd.no,Gd.no,Gd.no⟩
   ·cases (zai hi : true = false)
   ·obtain rfl : fl5 = false := zai hi
    obtain rfl : fl3 = true := rdp 3 1 hi hO
    obtain rfl : fl1 = true := qd3_1.out.get
    obtain rfl : fl7 = false := Gd.off qd7_5.out
    obtain rfl : fl12 = false := Gd.off qd12_7.out
    obtain rfl : fl13 = false := Gd.off qd13_12.out
    obtain rfl : fl14 = false := Gd.off qd14_5.out
    obtain rfl : fl15 = false := Gd.off qd15_7.out
    have rd26 := HKp.get 26 (by decide) RB26
    refine wog hO (fun K' hK => ?_)
    go_simp
    refine (C2.out w' hBi.out).mono ?_
    rintro e w2 ⟨nb5,nB5,nm5,nd5,nE5,nu5,nv5,rfl,nhw5,hb⟩
    exact hK.out _ _ ⟨zad hBi.out hb,true,true,true,false,fl8,fl9,fl10,fl11,false,false,false,false,b3,B3,m3,d3,E3,u3,v3,b4,B4,m4,d4,E4,u4,v4,nb5,nB5,nm5,nd5,nE5,nu5,nv5,b6,B6,m6,d6,E6,u6,v6,ad8,ad9,ad10,ad11,by rfl,HKp.put (by decide) _,zad hBi.out hb,kq qf1.out fun h => (h).below hb,kq qf3.out fun h => (h).below hb,Gd.yes ⟨zaw (HKp.lt (by rw [hsz]; decide)) _,nhw5⟩,Gd.no,kq qf8.out fun h => ⟨h.1,zae hb h.2⟩,kq qf9.out fun h => ⟨h.1,zae hb h.2⟩,kq qf10.out fun h => ⟨h.1,zae hb h.2⟩,kq qf11.out fun h => ⟨h.1,zae hb h.2⟩,qn8_9,qn8_10,qn8_11,qn9_10,qn9_11,qn10_11,fun _ => rfl,fun _ => rfl,Gd.no,Gd.no,Gd.no,Gd.no,Gd.no,Gd.no,Gd.no,Gd.no,Gd.no,Gd.no,Gd.no,Gd.no,Gd.no⟩
   ·cases (zai hi : true = false)
   ·obtain rfl : fl7 = false := zai hi
    obtain rfl : fl5 = true := rdp 5 1 hi hO
    obtain rfl : fl3 = true := qd5_3.out.get
    obtain rfl : fl1 = true := qd3_1.out.get
    obtain rfl : fl12 = false := Gd.off qd12_7.out
    obtain rfl : fl13 = false := Gd.off qd13_12.out
    obtain rfl : fl14 = false := Gd.off qd14_13.out
    obtain rfl : fl15 = false := Gd.off qd15_7.out
    have rd28 := HKp.get 28 (by decide) RB28
    refine wog hO (fun K' hK => ?_)
    go_simp
    refine (C3.out w' hBi.out).mono ?_
    rintro e w2 ⟨nb6,nB6,nm6,nd6,nE6,nu6,nv6,rfl,nhw6,hb⟩
    exact hK.out _ _ ⟨zad hBi.out hb,true,true,true,true,fl8,fl9,fl10,fl11,false,false,false,false,b3,B3,m3,d3,E3,u3,v3,b4,B4,m4,d4,E4,u4,v4,b5,B5,m5,d5,E5,u5,v5,nb6,nB6,nm6,nd6,nE6,nu6,nv6,ad8,ad9,ad10,ad11,by rfl,HKp.put (by decide) _,zad hBi.out hb,kq qf1.out fun h => (h).below hb,kq qf3.out fun h => (h).below hb,kq qf5.out fun h => (h).below hb,Gd.yes ⟨zaw (HKp.lt (by rw [hsz]; decide)) _,nhw6⟩,kq qf8.out fun h => ⟨h.1,zae hb h.2⟩,kq qf9.out fun h => ⟨h.1,zae hb h.2⟩,kq qf10.out fun h => ⟨h.1,zae hb h.2⟩,kq qf11.out fun h => ⟨h.1,zae hb h.2⟩,qn8_9,qn8_10,qn8_11,qn9_10,qn9_11,qn10_11,fun _ => rfl,fun _ => rfl,fun _ => rfl,Gd.no,Gd.no,Gd.no,Gd.no,Gd.no,Gd.no,Gd.no,Gd.no,Gd.no,Gd.no,Gd.no,Gd.no⟩
   ·obtain rfl : fl8 = false := zai hi
    obtain rfl : fl12 = false := Gd.off qd12_8.out
    obtain rfl : fl13 = false := Gd.off qd13_12.out
    obtain rfl : fl14 = false := Gd.off qd14_13.out
    obtain rfl : fl15 = false := Gd.off qd15_14.out
    refine wog hO (fun K' hK => ?_)
    go_simp
    have hb := zaA w' (.cells #[.bool false,.slice none 0 0,.slice none 0 0] 31)
    exact hK.out _ _ ⟨zad hBi.out hb,fl1,fl3,fl5,fl7,true,fl9,fl10,fl11,false,false,false,false,b3,B3,m3,d3,E3,u3,v3,b4,B4,m4,d4,E4,u4,v4,b5,B5,m5,d5,E5,u5,v5,b6,B6,m6,d6,E6,u6,v6,w'.heap.size,ad9,ad10,ad11,by rfl,HKp.put (by decide) _,zad hBi.out hb,kq qf1.out fun h => (h).below hb,kq qf3.out fun h => (h).below hb,kq qf5.out fun h => (h).below hb,kq qf7.out fun h => (h).below hb,Gd.yes ⟨zaw (HKp.lt (by rw [hsz]; decide)) _,hBi.out.size,Blk.new w' _ _⟩,kq qf9.out fun h => ⟨h.1,zae hb h.2⟩,kq qf10.out fun h => ⟨h.1,zae hb h.2⟩,kq qf11.out fun h => ⟨h.1,zae hb h.2⟩,Gd.yes (qf9.out.mono fun h => by have := Blk.lt h.2.2; omega),Gd.yes (qf10.out.mono fun h => by have := Blk.lt h.2.2; omega),Gd.yes (qf11.out.mono fun h => by have := Blk.lt h.2.2; omega),qn9_10,qn9_11,qn10_11,qd3_1,qd5_3,qd7_5,Gd.no,Gd.no,Gd.no,Gd.no,Gd.no,Gd.no,Gd.no,Gd.no,Gd.no,Gd.no,Gd.no,Gd.no⟩
   ·obtain rfl : fl9 = false := zai hi
    obtain rfl : fl13 = false := Gd.off qd13_9.out
    obtain rfl : fl14 = false := Gd.off qd14_13.out
    obtain rfl : fl15 = false := Gd.off qd15_14.out
    refine wog hO (fun K' hK => ?_)
    go_simp
    have hb := zaA w' (.cells #[.bool false,.slice none 0 0,.slice none 0 0] 31)
    exact hK.out _ _ ⟨zad hBi.out hb,fl1,fl3,fl5,fl7,fl8,true,fl10,fl11,fl12,false,false,false,b3,B3,m3,d3,E3,u3,v3,b4,B4,m4,d4,E4,u4,v4,b5,B5,m5,d5,E5,u5,v5,b6,B6,m6,d6,E6,u6,v6,ad8,w'.heap.size,ad10,ad11,by rfl,HKp.put (by decide) _,zad hBi.out hb,kq qf1.out fun h => (h).below hb,kq qf3.out fun h => (h).below hb,kq qf5.out fun h => (h).below hb,kq qf7.out fun h => (h).below hb,kq qf8.out fun h => ⟨h.1,zae hb h.2⟩,Gd.yes ⟨zaw (HKp.lt (by rw [hsz]; decide)) _,hBi.out.size,Blk.new w' _ _⟩,kq qf10.out fun h => ⟨h.1,zae hb h.2⟩,kq qf11.out fun h => ⟨h.1,zae hb h.2⟩,qf8.out.mono fun h => Gd.yes (by have := Blk.lt h.2.2; omega),qn8_10,qn8_11,Gd.yes (qf10.out.mono fun h => by have := Blk.lt h.2.2; omega),Gd.yes (qf11.out.mono fun h => by have := Blk.lt h.2.2; omega),qn10_11,qd3_1,qd5_3,qd7_5,qd12_1,qd12_7,qd12_8,Gd.no,Gd.no,Gd.no,Gd.no,Gd.no,Gd.no,Gd.no,Gd.no,Gd.no⟩
   ·obtain rfl : fl10 = false := zai hi
    obtain rfl : fl14 = false := Gd.off qd14_10.out
    obtain rfl : fl15 = false := Gd.off qd15_14.out
    refine wog hO (fun K' hK => ?_)
    go_simp
    have hb := zaA w' (.cells #[.bool false,.slice none 0 0,.slice none 0 0] 42)
    exact hK.out _ _ ⟨zad hBi.out hb,fl1,fl3,fl5,fl7,fl8,fl9,true,fl11,fl12,fl13,false,false,b3,B3,m3,d3,E3,u3,v3,b4,B4,m4,d4,E4,u4,v4,b5,B5,m5,d5,E5,u5,v5,b6,B6,m6,d6,E6,u6,v6,ad8,ad9,w'.heap.size,ad11,by rfl,HKp.put (by decide) _,zad hBi.out hb,kq qf1.out fun h => (h).below hb,kq qf3.out fun h => (h).below hb,kq qf5.out fun h => (h).below hb,kq qf7.out fun h => (h).below hb,kq qf8.out fun h => ⟨h.1,zae hb h.2⟩,kq qf9.out fun h => ⟨h.1,zae hb h.2⟩,Gd.yes ⟨zaw (HKp.lt (by rw [hsz]; decide)) _,hBi.out.size,Blk.new w' _ _⟩,kq qf11.out fun h => ⟨h.1,zae hb h.2⟩,qn8_9,qf8.out.mono fun h => Gd.yes (by have := Blk.lt h.2.2; omega),qn8_11,qf9.out.mono fun h => Gd.yes (by have := Blk.lt h.2.2; omega),qn9_11,Gd.yes (qf11.out.mono fun h => by have := Blk.lt h.2.2; omega),qd3_1,qd5_3,qd7_5,qd12_1,qd12_7,qd12_8,qd13_3,qd13_9,qd13_12,Gd.no,Gd.no,Gd.no,Gd.no,Gd.no,Gd.no⟩
   ·obtain rfl : fl11 = false := zai hi
    obtain rfl : fl15 = false := Gd.off qd15_11.out
    refine wog hO (fun K' hK => ?_)
    go_simp
    have hb := zaA w' (.cells #[.bool false,.slice none 0 0,.slice none 0 0] 42)
    exact hK.out _ _ ⟨zad hBi.out hb,fl1,fl3,fl5,fl7,fl8,fl9,fl10,true,fl12,fl13,fl14,false,b3,B3,m3,d3,E3,u3,v3,b4,B4,m4,d4,E4,u4,v4,b5,B5,m5,d5,E5,u5,v5,b6,B6,m6,d6,E6,u6,v6,ad8,ad9,ad10,w'.heap.size,by rfl,HKp.put (by decide) _,zad hBi.out hb,kq qf1.out fun h => (h).below hb,kq qf3.out fun h => (h).below hb,kq qf5.out fun h => (h).below hb,kq qf7.out fun h => (h).below hb,kq qf8.out fun h => ⟨h.1,zae hb h.2⟩,kq qf9.out fun h => ⟨h.1,zae hb h.2⟩,kq qf10.out fun h => ⟨h.1,zae hb h.2⟩,Gd.yes ⟨zaw (HKp.lt (by rw [hsz]; decide)) _,hBi.out.size,Blk.new w' _ _⟩,qn8_9,qn8_10,qf8.out.mono fun h => Gd.yes (by have := Blk.lt h.2.2; omega),qn9_10,qf9.out.mono fun h => Gd.yes (by have := Blk.lt h.2.2; omega),qf10.out.mono fun h => Gd.yes (by have := Blk.lt h.2.2; omega),qd3_1,qd5_3,qd7_5,qd12_1,qd12_7,qd12_8,qd13_3,qd13_9,qd13_12,qd14_5,qd14_10,qd14_13,Gd.no,Gd.no,Gd.no⟩
   ·obtain rfl : fl12 = false := zai hi
    obtain rfl : fl1 = true := rdp 1 1 hi hO
    obtain rfl : fl7 = true := rdp 7 2 hi hO
    obtain rfl : fl8 = true := rdp 8 0 hi hO
    obtain rfl : fl9 = true := rdp 9 12 hi hO
    obtain rfl : fl10 = true := rdp 10 13 hi hO
    obtain rfl : fl11 = true := rdp 11 14 hi hO
    obtain rfl : fl5 = true := qd7_5.out.get
    obtain rfl : fl3 = true := qd5_3.out.get
    obtain rfl : fl13 = false := Gd.off qd13_12.out
    obtain rfl : fl14 = false := Gd.off qd14_13.out
    obtain rfl : fl15 = false := Gd.off qd15_14.out
    have rd5 := qf8.out.get.1
    have rd23 := qf1.out.get.1
    obtain ⟨_,hg,hk⟩ := qf8.out.get
    have hk : Blk w' ad8 31 #[.bool false,.slice none 0 0,.slice none 0 0] := hk
    obtain ⟨sc0,sf0,sc1,sf1,sc2,sf2⟩ := st3 hk (.bool b3) (.slice B3 m3 d3)
    have hj2 := sn3 hk (.bool b3) (.slice B3 m3 d3) (.slice E3 u3 v3)
    have hBn := bl3 (.bool b3) (.slice B3 m3 d3) (.slice E3 u3 v3) hg hBi.out
    refine wog hO (fun K' hK => ?_)
    go_simp
    exact hK.out _ _ ⟨hBn,true,true,true,true,true,true,true,true,true,false,false,false,b3,B3,m3,d3,E3,u3,v3,b4,B4,m4,d4,E4,u4,v4,b5,B5,m5,d5,E5,u5,v5,b6,B6,m6,d6,E6,u6,v6,ad8,ad9,ad10,ad11,by rfl,HKp,hBn,qf1.out.mono fun h => ⟨h.1,zbj (h.2) hk zcW (zbo _ _ _ _ _)⟩,qf3.out.mono fun h => ⟨h.1,zbj (h.2) hk zcW (zbo _ _ _ _ _)⟩,qf5.out.mono fun h => ⟨h.1,zba (h.2) hk zcW (zbo _ _ _ _ _)⟩,qf7.out.mono fun h => ⟨h.1,zba (h.2) hk zcW (zbo _ _ _ _ _)⟩,qf8.out.mono fun h => ⟨h.1,h.2.1,hj2⟩,fun hf9 => (fun h => ⟨h.1,h.2.1,Blk.far (p := ⟨ad8,2,none⟩) (Blk.far (p := ⟨ad8,1,none⟩) (Blk.far (p := ⟨ad8,0,none⟩) (h.2.2) (Ne.symm (qn8_9.out rfl hf9)) (.bool b3)) (Ne.symm (qn8_9.out rfl hf9)) (.slice B3 m3 d3)) (Ne.symm (qn8_9.out rfl hf9)) (.slice E3 u3 v3)⟩) (qf9.out hf9),fun hf9 => (fun h => ⟨h.1,h.2.1,Blk.far (p := ⟨ad8,2,none⟩) (Blk.far (p := ⟨ad8,1,none⟩) (Blk.far (p := ⟨ad8,0,none⟩) (h.2.2) (Ne.symm (qn8_10.out rfl hf9)) (.bool b3)) (Ne.symm (qn8_10.out rfl hf9)) (.slice B3 m3 d3)) (Ne.symm (qn8_10.out rfl hf9)) (.slice E3 u3 v3)⟩) (qf10.out hf9),fun hf9 => (fun h => ⟨h.1,h.2.1,Blk.far (p := ⟨ad8,2,none⟩) (Blk.far (p := ⟨ad8,1,none⟩) (Blk.far (p := ⟨ad8,0,none⟩) (h.2.2) (Ne.symm (qn8_11.out rfl hf9)) (.bool b3)) (Ne.symm (qn8_11.out rfl hf9)) (.slice B3 m3 d3)) (Ne.symm (qn8_11.out rfl hf9)) (.slice E3 u3 v3)⟩) (qf11.out hf9),qn8_9,qn8_10,qn8_11,qn9_10,qn9_11,qn10_11,fun _ => rfl,fun _ => rfl,fun _ => rfl,fun _ => rfl,fun _ => rfl,fun _ => rfl,Gd.no,Gd.no,Gd.no,Gd.no,Gd.no,Gd.no,Gd.no,Gd.no,Gd.no⟩
   ·obtain rfl : fl13 = false := zai hi
    obtain rfl : fl1 = true := rdp 1 4 hi hO
    obtain rfl : fl3 = true := rdp 3 1 hi hO
    obtain rfl : fl8 = true := rdp 8 11 hi hO
    obtain rfl : fl9 = true := rdp 9 0 hi hO
    obtain rfl : fl10 = true := rdp 10 13 hi hO
    obtain rfl : fl11 = true := rdp 11 14 hi hO
    obtain rfl : fl12 = true := rdp 12 2 hi hO
    obtain rfl : fl7 = true := qd12_7.out.get
    obtain rfl : fl5 = true := qd7_5.out.get
    obtain rfl : fl14 = false := Gd.off qd14_13.out
    obtain rfl : fl15 = false := Gd.off qd15_14.out
    have rd6 := qf9.out.get.1
    have rd25 := qf3.out.get.1
    obtain ⟨_,hg,hk⟩ := qf9.out.get
    have hk : Blk w' ad9 31 #[.bool false,.slice none 0 0,.slice none 0 0] := hk
    obtain ⟨sc0,sf0,sc1,sf1,sc2,sf2⟩ := st3 hk (.bool b4) (.slice B4 m4 d4)
    have hj2 := sn3 hk (.bool b4) (.slice B4 m4 d4) (.slice E4 u4 v4)
    have hBn := bl3 (.bool b4) (.slice B4 m4 d4) (.slice E4 u4 v4) hg hBi.out
    refine wog hO (fun K' hK => ?_)
    go_simp
    exact hK.out _ _ ⟨hBn,true,true,true,true,true,true,true,true,true,true,false,false,b3,B3,m3,d3,E3,u3,v3,b4,B4,m4,d4,E4,u4,v4,b5,B5,m5,d5,E5,u5,v5,b6,B6,m6,d6,E6,u6,v6,ad8,ad9,ad10,ad11,by rfl,HKp,hBn,qf1.out.mono fun h => ⟨h.1,zbj (h.2) hk zcW (zbo _ _ _ _ _)⟩,qf3.out.mono fun h => ⟨h.1,zbj (h.2) hk zcW (zbo _ _ _ _ _)⟩,qf5.out.mono fun h => ⟨h.1,zba (h.2) hk zcW (zbo _ _ _ _ _)⟩,qf7.out.mono fun h => ⟨h.1,zba (h.2) hk zcW (zbo _ _ _ _ _)⟩,fun hf9 => (fun h => ⟨h.1,h.2.1,Blk.far (p := ⟨ad9,2,none⟩) (Blk.far (p := ⟨ad9,1,none⟩) (Blk.far (p := ⟨ad9,0,none⟩) (h.2.2) (qn8_9.out hf9 rfl) (.bool b4)) (qn8_9.out hf9 rfl) (.slice B4 m4 d4)) (qn8_9.out hf9 rfl) (.slice E4 u4 v4)⟩) (qf8.out hf9),qf9.out.mono fun h => ⟨h.1,h.2.1,hj2⟩,fun hf9 => (fun h => ⟨h.1,h.2.1,Blk.far (p := ⟨ad9,2,none⟩) (Blk.far (p := ⟨ad9,1,none⟩) (Blk.far (p := ⟨ad9,0,none⟩) (h.2.2) (Ne.symm (qn9_10.out rfl hf9)) (.bool b4)) (Ne.symm (qn9_10.out rfl hf9)) (.slice B4 m4 d4)) (Ne.symm (qn9_10.out rfl hf9)) (.slice E4 u4 v4)⟩) (qf10.out hf9),fun hf9 => (fun h => ⟨h.1,h.2.1,Blk.far (p := ⟨ad9,2,none⟩) (Blk.far (p := ⟨ad9,1,none⟩) (Blk.far (p := ⟨ad9,0,none⟩) (h.2.2) (Ne.symm (qn9_11.out rfl hf9)) (.bool b4)) (Ne.symm (qn9_11.out rfl hf9)) (.slice B4 m4 d4)) (Ne.symm (qn9_11.out rfl hf9)) (.slice E4 u4 v4)⟩) (qf11.out hf9),qn8_9,qn8_10,qn8_11,qn9_10,qn9_11,qn10_11,fun _ => rfl,fun _ => rfl,fun _ => rfl,fun _ => rfl,fun _ => rfl,fun _ => rfl,fun _ => rfl,fun _ => rfl,fun _ => rfl,Gd.no,Gd.no,Gd.no,Gd.no,Gd.no,Gd.no⟩
   ·obtain rfl : fl14 = false := zai hi
    obtain rfl : fl1 = true := rdp 1 4 hi hO
    obtain rfl : fl3 = true := rdp 3 6 hi hO
    obtain rfl : fl5 = true := rdp 5 1 hi hO
    obtain rfl : fl8 = true := rdp 8 11 hi hO
    obtain rfl : fl9 = true := rdp 9 12 hi hO
    obtain rfl : fl10 = true := rdp 10 0 hi hO
    obtain rfl : fl11 = true := rdp 11 14 hi hO
    obtain rfl : fl12 = true := rdp 12 15 hi hO
    obtain rfl : fl13 = true := rdp 13 2 hi hO
    obtain rfl : fl7 = true := qd12_7.out.get
    obtain rfl : fl15 = false := Gd.off qd15_14.out
    have rd7 := qf10.out.get.1
    have rd27 := qf5.out.get.1
    obtain ⟨_,hg,hk⟩ := qf10.out.get
    have hk : Blk w' ad10 42 #[.bool false,.slice none 0 0,.slice none 0 0] := hk
    obtain ⟨sc0,sf0,sc1,sf1,sc2,sf2⟩ := st3 hk (.bool b5) (.slice B5 m5 d5)
    have hj2 := sn3 hk (.bool b5) (.slice B5 m5 d5) (.slice E5 u5 v5)
    have hBn := bl3 (.bool b5) (.slice B5 m5 d5) (.slice E5 u5 v5) hg hBi.out
    refine wog hO (fun K' hK => ?_)
    go_simp
    exact hK.out _ _ ⟨hBn,true,true,true,true,true,true,true,true,true,true,true,false,b3,B3,m3,d3,E3,u3,v3,b4,B4,m4,d4,E4,u4,v4,b5,B5,m5,d5,E5,u5,v5,b6,B6,m6,d6,E6,u6,v6,ad8,ad9,ad10,ad11,by rfl,HKp,hBn,qf1.out.mono fun h => ⟨h.1,zbj (h.2) hk zcW (zbo _ _ _ _ _)⟩,qf3.out.mono fun h => ⟨h.1,zbj (h.2) hk zcW (zbo _ _ _ _ _)⟩,qf5.out.mono fun h => ⟨h.1,zba (h.2) hk zcW (zbo _ _ _ _ _)⟩,qf7.out.mono fun h => ⟨h.1,zba (h.2) hk zcW (zbo _ _ _ _ _)⟩,fun hf9 => (fun h => ⟨h.1,h.2.1,Blk.far (p := ⟨ad10,2,none⟩) (Blk.far (p := ⟨ad10,1,none⟩) (Blk.far (p := ⟨ad10,0,none⟩) (h.2.2) (qn8_10.out hf9 rfl) (.bool b5)) (qn8_10.out hf9 rfl) (.slice B5 m5 d5)) (qn8_10.out hf9 rfl) (.slice E5 u5 v5)⟩) (qf8.out hf9),fun hf9 => (fun h => ⟨h.1,h.2.1,Blk.far (p := ⟨ad10,2,none⟩) (Blk.far (p := ⟨ad10,1,none⟩) (Blk.far (p := ⟨ad10,0,none⟩) (h.2.2) (qn9_10.out hf9 rfl) (.bool b5)) (qn9_10.out hf9 rfl) (.slice B5 m5 d5)) (qn9_10.out hf9 rfl) (.slice E5 u5 v5)⟩) (qf9.out hf9),qf10.out.mono fun h => ⟨h.1,h.2.1,hj2⟩,fun hf9 => (fun h => ⟨h.1,h.2.1,Blk.far (p := ⟨ad10,2,none⟩) (Blk.far (p := ⟨ad10,1,none⟩) (Blk.far (p := ⟨ad10,0,none⟩) (h.2.2) (Ne.symm (qn10_11.out rfl hf9)) (.bool b5)) (Ne.symm (qn10_11.out rfl hf9)) (.slice B5 m5 d5)) (Ne.symm (qn10_11.out rfl hf9)) (.slice E5 u5 v5)⟩) (qf11.out hf9),qn8_9,qn8_10,qn8_11,qn9_10,qn9_11,qn10_11,fun _ => rfl,fun _ => rfl,fun _ => rfl,fun _ => rfl,fun _ => rfl,fun _ => rfl,fun _ => rfl,fun _ => rfl,fun _ => rfl,fun _ => rfl,fun _ => rfl,fun _ => rfl,Gd.no,Gd.no,Gd.no⟩
   ·obtain rfl : fl15 = false := zai hi
    obtain rfl : fl1 = true := rdp 1 4 hi hO
    obtain rfl : fl3 = true := rdp 3 6 hi hO
    obtain rfl : fl5 = true := rdp 5 8 hi hO
    obtain rfl : fl7 = true := rdp 7 1 hi hO
    obtain rfl : fl8 = true := rdp 8 11 hi hO
    obtain rfl : fl9 = true := rdp 9 12 hi hO
    obtain rfl : fl10 = true := rdp 10 13 hi hO
    obtain rfl : fl11 = true := rdp 11 0 hi hO
    obtain rfl : fl12 = true := rdp 12 15 hi hO
    obtain rfl : fl13 = true := rdp 13 16 hi hO
    obtain rfl : fl14 = true := rdp 14 2 hi hO
    have rd8 := qf11.out.get.1
    have rd29 := qf7.out.get.1
    obtain ⟨_,hg,hk⟩ := qf11.out.get
    have hk : Blk w' ad11 42 #[.bool false,.slice none 0 0,.slice none 0 0] := hk
    obtain ⟨sc0,sf0,sc1,sf1,sc2,sf2⟩ := st3 hk (.bool b6) (.slice B6 m6 d6)
    have hj2 := sn3 hk (.bool b6) (.slice B6 m6 d6) (.slice E6 u6 v6)
    have hBn := bl3 (.bool b6) (.slice B6 m6 d6) (.slice E6 u6 v6) hg hBi.out
    refine wog hO (fun K' hK => ?_)
    go_simp
    exact hK.out _ _ ⟨hBn,true,true,true,true,true,true,true,true,true,true,true,true,b3,B3,m3,d3,E3,u3,v3,b4,B4,m4,d4,E4,u4,v4,b5,B5,m5,d5,E5,u5,v5,b6,B6,m6,d6,E6,u6,v6,ad8,ad9,ad10,ad11,by rfl,HKp,hBn,qf1.out.mono fun h => ⟨h.1,zbj (h.2) hk zcW (zbo _ _ _ _ _)⟩,qf3.out.mono fun h => ⟨h.1,zbj (h.2) hk zcW (zbo _ _ _ _ _)⟩,qf5.out.mono fun h => ⟨h.1,zba (h.2) hk zcW (zbo _ _ _ _ _)⟩,qf7.out.mono fun h => ⟨h.1,zba (h.2) hk zcW (zbo _ _ _ _ _)⟩,fun hf9 => (fun h => ⟨h.1,h.2.1,Blk.far (p := ⟨ad11,2,none⟩) (Blk.far (p := ⟨ad11,1,none⟩) (Blk.far (p := ⟨ad11,0,none⟩) (h.2.2) (qn8_11.out hf9 rfl) (.bool b6)) (qn8_11.out hf9 rfl) (.slice B6 m6 d6)) (qn8_11.out hf9 rfl) (.slice E6 u6 v6)⟩) (qf8.out hf9),fun hf9 => (fun h => ⟨h.1,h.2.1,Blk.far (p := ⟨ad11,2,none⟩) (Blk.far (p := ⟨ad11,1,none⟩) (Blk.far (p := ⟨ad11,0,none⟩) (h.2.2) (qn9_11.out hf9 rfl) (.bool b6)) (qn9_11.out hf9 rfl) (.slice B6 m6 d6)) (qn9_11.out hf9 rfl) (.slice E6 u6 v6)⟩) (qf9.out hf9),fun hf9 => (fun h => ⟨h.1,h.2.1,Blk.far (p := ⟨ad11,2,none⟩) (Blk.far (p := ⟨ad11,1,none⟩) (Blk.far (p := ⟨ad11,0,none⟩) (h.2.2) (qn10_11.out hf9 rfl) (.bool b6)) (qn10_11.out hf9 rfl) (.slice B6 m6 d6)) (qn10_11.out hf9 rfl) (.slice E6 u6 v6)⟩) (qf10.out hf9),qf11.out.mono fun h => ⟨h.1,h.2.1,hj2⟩,qn8_9,qn8_10,qn8_11,qn9_10,qn9_11,qn10_11,fun _ => rfl,fun _ => rfl,fun _ => rfl,fun _ => rfl,fun _ => rfl,fun _ => rfl,fun _ => rfl,fun _ => rfl,fun _ => rfl,fun _ => rfl,fun _ => rfl,fun _ => rfl,fun _ => rfl,fun _ => rfl,fun _ => rfl⟩
 rintro a wm5 ⟨fl1,fl3,fl5,fl7,fl8,fl9,fl10,fl11,fl12,fl13,fl14,fl15,b3,B3,m3,d3,E3,u3,v3,b4,B4,m4,d4,E4,u4,v4,b5,B5,m5,d5,E5,u5,v5,b6,B6,m6,d6,E6,u6,v6,ad8,ad9,ad10,ad11,hl,HKp,hBi,qf1,qf3,qf5,qf7,qf8,qf9,qf10,qf11,qn8_9,qn8_10,qn8_11,qn9_10,qn9_11,qn10_11,qd3_1,qd5_3,qd7_5,qd12_1,qd12_7,qd12_8,qd13_3,qd13_9,qd13_12,qd14_5,qd14_10,qd14_13,qd15_7,qd15_11,qd15_14⟩
 have xx1 : fl1 = true := gdl 1 hl
 subst xx1
 have xx3 : fl3 = true := gdl 3 hl
 subst xx3
 have xx5 : fl5 = true := gdl 5 hl
 subst xx5
 have xx7 : fl7 = true := gdl 7 hl
 subst xx7
 have xx8 : fl8 = true := gdl 8 hl
 subst xx8
 have xx9 : fl9 = true := gdl 9 hl
 subst xx9
 have xx10 : fl10 = true := gdl 10 hl
 subst xx10
 have xx11 : fl11 = true := gdl 11 hl
 subst xx11
 have xx12 : fl12 = true := gdl 12 hl
 subst xx12
 have xx13 : fl13 = true := gdl 13 hl
 subst xx13
 have xx14 : fl14 = true := gdl 14 hl
 subst xx14
 have xx15 : fl15 = true := gdl 15 hl
 subst xx15
 obtain ⟨rv1,hw3⟩ := qf1.out.get
 obtain ⟨rv3,hw4⟩ := qf3.out.get
 obtain ⟨rv5,hw5⟩ := qf5.out.get
 obtain ⟨rv7,hw6⟩ := qf7.out.get
 obtain ⟨rv8,hg8,hk8⟩ := qf8.out.get
 obtain ⟨rv9,hg9,hk9⟩ := qf9.out.get
 obtain ⟨rv10,hg10,hk10⟩ := qf10.out.get
 obtain ⟨rv11,hg11,hk11⟩ := qf11.out.get
 obtain rfl := HKp.eq [(23,.agg #[.bool b3,.slice B3 m3 d3,.slice E3 u3 v3]),(25,.agg #[.bool b4,.slice B4 m4 d4,.slice E4 u4 v4]),(27,.agg #[.bool b5,.slice B5 m5 d5,.slice E5 u5 v5]),(29,.agg #[.bool b6,.slice B6 m6 d6,.slice E6 u6 v6]),(5,.pointer (some ⟨ad8,0,none⟩)),(6,.pointer (some ⟨ad9,0,none⟩)),(7,.pointer (some ⟨ad10,0,none⟩)),(8,.pointer (some ⟨ad11,0,none⟩))] rfl (by
  intro p hp
  simp only [List.mem_cons,List.not_mem_nil,or_false] at hp
  rcases hp with rfl | rfl | rfl | rfl | rfl | rfl | rfl | rfl
  ·exact rv1
  ·exact rv3
  ·exact rv5
  ·exact rv7
  ·exact rv8
  ·exact rv9
  ·exact rv10
  ·exact rv11)
 have hBv := hBi.out
 clear hl hBi HKp qf1 qf3 qf5 qf7 qf8 qf9 qf10 qf11 qn8_9 qn8_10 qn8_11 qn9_10 qn9_11 qn10_11 qd3_1 qd5_3 qd7_5 qd12_1 qd12_7 qd12_8 qd13_3 qd13_9 qd13_12 qd14_5 qd14_10 qd14_13 qd15_7 qd15_11 qd15_14 rv1 rv3 rv5 rv7 rv8 rv9 rv10 rv11
 have hk8 : Blk wm5 ad8 31 #[.bool b3,.slice B3 m3 d3,.slice E3 u3 v3] := hk8
 have hk9 : Blk wm5 ad9 31 #[.bool b4,.slice B4 m4 d4,.slice E4 u4 v4] := hk9
 have hk10 : Blk wm5 ad10 42 #[.bool b5,.slice B5 m5 d5,.slice E5 u5 v5] := hk10
 have hk11 : Blk wm5 ad11 42 #[.bool b6,.slice B6 m6 d6,.slice E6 u6 v6] := hk11
 rw [show due #[true,true,true,true,true,true,true,true,true,true,true,true,true,true,true,true] = 0 from rfl]
 simp only [zbx,List.foldl,Act.put,List.setIfInBounds_toArray,List.set_cons_zero,List.set_cons_succ]
 refine wpAnyH_done (by kernel_rfl) ?_ _
 refine NoPanic.normal ?_
 have lt1_m5 := World.block_lt_of_cell? _ _ g1
 dsimp only at lt1_m5
 have lt2_m5 := World.block_lt_of_cell? _ _ g2
 dsimp only at lt2_m5
 have hB := zad hB hBv
 have g1 := zac hBv g1
 have e1 := zac hBv e1
 have i1 := zac hBv i1
 have g2 := zac hBv g2
 have e2 := zac hBv e2
 have i2 := zac hBv i2
 obtain ⟨ad8_7,hga⟩ : ∃ x,x = ad8 := ⟨_,rfl⟩
 subst hga
 obtain ⟨g7,e7,i7⟩ := hk8.c3
 obtain ⟨ad9_8,hga⟩ : ∃ x,x = ad9 := ⟨_,rfl⟩
 subst hga
 obtain ⟨g8,e8,i8⟩ := hk9.c3
 obtain ⟨ad10_9,hga⟩ : ∃ x,x = ad10 := ⟨_,rfl⟩
 subst hga
 obtain ⟨g9,e9,i9⟩ := hk10.c3
 obtain ⟨ad11_10,hga⟩ : ∃ x,x = ad11 := ⟨_,rfl⟩
 subst hga
 obtain ⟨g10,e10,i10⟩ := hk11.c3
 have HN3 := lh9 hw3
 have HN4 := lh9 hw4
 have HN5 := lh9 hw5
 have HN6 := lh9 hw6
 clear hBv hk8 hk9 hk10 hk11 hw3 hw4 hw5 hw6 GG
 clear C0 C1 C2 C3
 go_wp2_with fail
 (with_reducible refine (zaZ (v := c) (HC.out) (ref8_cmp (x) (y) b5 B5 m5 d5 E5 u5 v5 b6 B6 m6 d6 E6 u6 v6 (K) (K) _ HZ5.out HN5.out HZ6.out HN6.out (by omega) (by omega))).mono ?_)
 rintro e wc6 ⟨rfl,hb⟩
 have hB := zad hB hb
 have g1 := zac hb g1
 have e1 := zac hb e1
 have i1 := zac hb i1
 have g2 := zac hb g2
 have e2 := zac hb e2
 have i2 := zac hb i2
 have g7 := zac hb g7
 have e7 := zac hb e7
 have i7 := zac hb i7
 have g8 := zac hb g8
 have e8 := zac hb e8
 have i8 := zac hb i8
 have g9 := zac hb g9
 have e9 := zac hb e9
 have i9 := zac hb i9
 have g10 := zac hb g10
 have e10 := zac hb e10
 have i10 := zac hb i10
 have HN3 := lh9 (HN3.out.below hb)
 have HN4 := lh9 (HN4.out.below hb)
 have HN5 := lh9 (HN5.out.below hb)
 have HN6 := lh9 (HN6.out.below hb)
 clear hb 
 go_wp2_with fail
 have C0 := lh9 (fun w' (h : Below wc6.heap.size wc6 w') => zaZ (v := c) (HC.out) (HQC.out.cmp (x) (y) b3 b4 B3 B4 m3 m4 d3 d4 E3 E4 u3 u4 v3 v4 w' (HT.out _ (zad hB h)) (HN3.out.below h) (HN4.out.below h) (szq HZ3 HN3.out) (szq HZ4 HN4.out)))
 have C1 := lh9 (fun w' (h : Below wc6.heap.size wc6 w') => zaD (HTE.out) (HQC.out.same (x) (y) b3 b4 B3 B4 m3 m4 d3 d4 E3 E4 u3 u4 v3 v4 w' (HT.out _ (zad hB h)) (HN3.out.below h) (HN4.out.below h) (szq HZ3 HN3.out) (szq HZ4 HN4.out)))
 have HZ11 : Hid (Sz (K) (x.floor).natAbs) := SzQ.floor HZ3.out
 have C2 := lh9 (fun w' (h : Below wc6.heap.size wc6 w') => HQC.out.floor (x) b3 B3 m3 d3 E3 u3 v3 w' (HT.out _ (zad hB h)) (HN3.out.below h) (szq HZ3 HN3.out))
 have HZ12 : Hid (Sz (K) (x.floor).natAbs) := SzQ.floor HZ5.out
 have C3 := lh9 (fun w' (h : Below wc6.heap.size wc6 w') => zgl (x) b5 B5 m5 d5 E5 u5 v5 (K) w' HZ5.out (HN5.out.below h) (by omega))
 have C4 := lh9 (fun w' (h : Below wc6.heap.size wc6 w') b11 B11 m11 d11 (hw11 : zat w' (x.floor) b11 B11 m11 d11) b12 B12 m12 d12 (hw12 : zaz w' (x.floor) b12 B12 m12 d12) => zde hTb HIC.out (x.floor) b11 B11 m11 d11 b12 B12 m12 d12 (K) (by omega) w' HZ11.out hw11 hw12 (HT.out _ (zad hB h)))
 have HZ13 : Hid (Sz (K) (x.ceil).natAbs) := SzQ.ceil HZ3.out
 have C5 := lh9 (fun w' (h : Below wc6.heap.size wc6 w') => HQC.out.ceil (x) b3 B3 m3 d3 E3 u3 v3 w' (HT.out _ (zad hB h)) (HN3.out.below h) (szq HZ3 HN3.out))
 have HZ14 : Hid (SzQ (K) ((-x))) := SzQ.neg HZ5.out
 have C6 := lh9 (fun w' (h : Below wc6.heap.size wc6 w') => ref8_neg (x) b5 B5 m5 d5 E5 u5 v5 (K) w' HZ5.out (HN5.out.below h) (by omega))
 have HZ15 : Hid (Sz (K) ((-x).floor).natAbs) := SzQ.floor HZ14.out
 have C7 := lh9 (fun w' (h : Below wc6.heap.size wc6 w') b14 B14 m14 d14 E14 u14 v14 (hw14 : zck w' ((-x)) b14 B14 m14 d14 E14 u14 v14) => zgl ((-x)) b14 B14 m14 d14 E14 u14 v14 (K) w' HZ14.out hw14 (by omega))
 have HZ16 : Hid (Sz (K) (-(-x).floor).natAbs) := SzI.neg HZ15.out
 have C8 := lh9 (fun w' (h : Below wc6.heap.size wc6 w') b15 B15 m15 d15 (hw15 : zaz w' ((-x).floor) b15 B15 m15 d15) => zef ((-x).floor) b15 B15 m15 d15 w' hw15 (szr HZ15 hw15))
 have C9 := lh9 (fun w' (h : Below wc6.heap.size wc6 w') b13 B13 m13 d13 (hw13 : zat w' (x.ceil) b13 B13 m13 d13) b16 B16 m16 d16 (hw16 : zaz w' (-(-x).floor) b16 B16 m16 d16) => zde hTb HIC.out (x.ceil) b13 B13 m13 d13 b16 B16 m16 d16 (K) (by omega) w' HZ13.out hw13 (zaz.to (Rat.ceil_eq_neg_floor_neg _).symm hw16) (HT.out _ (zad hB h)))
 have hBw := (Below.refl wc6.heap.size wc6).drew
 refine rg (csc g7 (csc e7 (csc i7 (csc g8 (csc e8 (csc i8 (csc g9 (csc e9 (csc i9 csn))))))))) (fun hHeld => ?_)
 refine tk 0 ?_
 refine tk 1 ?_
 refine tk 3 ?_
 refine rc 2 (fun K hK => ?_)
 go_simp
 go_at_call 32; (with_reducible refine (C0.out _ hBw).mono ?_); rintro e wa7 ⟨rfl,hb⟩; have hBw := zad hBw hb; refine hK.out _ _ (Cs.below hHeld hb) (fun hHeld => ?_); clear hK K hb
 try simp only [sb9]
 refine tk 4 ?_
 refine tk 5 ?_
 refine tk 6 ?_
 refine tk 7 ?_
 refine tk 9 ?_
 refine tk 10 ?_
 refine rc 8 (fun K hK => ?_)
 go_simp
 go_at_call 33; (with_reducible refine (C1.out _ hBw).mono ?_); rintro e wa8 ⟨rfl,hb⟩; have hBw := zad hBw hb; refine hK.out _ _ (Cs.below hHeld hb) (fun hHeld => ?_); clear hK K hb
 try simp only [sb9]
 refine tk 11 ?_
 refine tk 12 ?_
 refine tk 13 ?_
 refine tk 14 ?_
 refine tk 16 ?_
 refine rc 15 (fun K hK => ?_)
 go_simp
 go_at_call 35; (with_reducible refine (C2.out _ hBw).mono ?_); rintro e wa9 ⟨b11,B11,m11,d11,rfl,hw11,hb⟩; have hBw := zad hBw hb; refine hK.out _ _ (Cs.below hHeld hb) (fun hHeld => ?_); clear hK K hb
 try simp only [sb9]
 refine rc 17 (fun K hK => ?_)
 go_simp
 go_at_call 36; (with_reducible refine (C3.out _ hBw).mono ?_); rintro e wa10 ⟨b12,B12,m12,d12,rfl,hw12,hb⟩; have hBw := zad hBw hb; have hw11 := hw11.below hb; refine hK.out _ _ (Cs.below hHeld hb) (fun hHeld => ?_); clear hK K hb
 try simp only [sb9]
 refine rc 18 (fun K hK => ?_)
 go_simp
 go_at_call 34; (with_reducible refine (C4.out _ hBw _ _ _ _ hw11 _ _ _ _ hw12).mono ?_); rintro e wa11 ⟨rfl,hb⟩; have hBw := zad hBw hb; have hw11 := hw11.below hb; have hw12 := hw12.below hb; refine hK.out _ _ (Cs.below hHeld hb) (fun hHeld => ?_); clear hK K hb
 try simp only [sb9]
 refine tk 19 ?_
 refine tk 20 ?_
 refine tk 21 ?_
 refine tk 22 ?_
 refine tk 24 ?_
 refine rc 23 (fun K hK => ?_)
 go_simp
 go_at_call 37; (with_reducible refine (C5.out _ hBw).mono ?_); rintro e wa12 ⟨b13,B13,m13,d13,rfl,hw13,hb⟩; have hBw := zad hBw hb; have hw11 := hw11.below hb; have hw12 := hw12.below hb; refine hK.out _ _ (Cs.below hHeld hb) (fun hHeld => ?_); clear hK K hb
 try simp only [sb9]
 refine rc 25 (fun K hK => ?_)
 go_simp
 go_at_call 25; (with_reducible refine (C6.out _ hBw).mono ?_); rintro e wa13 ⟨b14,B14,m14,d14,E14,u14,v14,rfl,hw14,hb⟩; have hBw := zad hBw hb; have hw11 := hw11.below hb; have hw12 := hw12.below hb; have hw13 := hw13.below hb; refine hK.out _ _ (Cs.below hHeld hb) (fun hHeld => ?_); clear hK K hb
 try simp only [sb9]
 refine rc 26 (fun K hK => ?_)
 go_simp
 go_at_call 36; (with_reducible refine (C7.out _ hBw _ _ _ _ _ _ _ hw14).mono ?_); rintro e wa14 ⟨b15,B15,m15,d15,rfl,hw15,hb⟩; have hBw := zad hBw hb; have hw11 := hw11.below hb; have hw12 := hw12.below hb; have hw13 := hw13.below hb; have hw14 := hw14.below hb; refine hK.out _ _ (Cs.below hHeld hb) (fun hHeld => ?_); clear hK K hb
 try simp only [sb9]
 refine rc 27 (fun K hK => ?_)
 go_simp
 go_at_call 38; (with_reducible refine (C8.out _ hBw _ _ _ _ hw15).mono ?_); rintro e wa15 ⟨b16,B16,m16,d16,rfl,hw16,hb⟩; have hBw := zad hBw hb; have hw11 := hw11.below hb; have hw12 := hw12.below hb; have hw13 := hw13.below hb; have hw14 := hw14.below hb; have hw15 := hw15.below hb; refine hK.out _ _ (Cs.below hHeld hb) (fun hHeld => ?_); clear hK K hb
 try simp only [sb9]
 refine rc 28 (fun K hK => ?_)
 go_simp
 go_at_call 34; (with_reducible refine (C9.out _ hBw _ _ _ _ hw13 _ _ _ _ hw16).mono ?_); rintro e wa16 ⟨rfl,hb⟩; have hBw := zad hBw hb; have hw11 := hw11.below hb; have hw12 := hw12.below hb; have hw13 := hw13.below hb; have hw14 := hw14.below hb; have hw15 := hw15.below hb; have hw16 := hw16.below hb; refine hK.out _ _ (Cs.below hHeld hb) (fun hHeld => ?_); clear hK K hb
 try simp only [sb9]
 refine tk 29 ?_
 refine tk 30 ?_
 refine rdn ?_
 have hB := zad hB hBw
 have g1 := zac hBw g1
 have e1 := zac hBw e1
 have i1 := zac hBw i1
 have g2 := zac hBw g2
 have e2 := zac hBw e2
 have i2 := zac hBw i2
 have g7 := zac hBw g7
 have e7 := zac hBw e7
 have i7 := zac hBw i7
 have g8 := zac hBw g8
 have e8 := zac hBw e8
 have i8 := zac hBw i8
 have g9 := zac hBw g9
 have e9 := zac hBw e9
 have i9 := zac hBw i9
 have g10 := zac hBw g10
 have e10 := zac hBw e10
 have i10 := zac hBw i10
 have HN3 := lh9 (HN3.out.below hBw)
 have HN4 := lh9 (HN4.out.below hBw)
 have HN5 := lh9 (HN5.out.below hBw)
 have HN6 := lh9 (HN6.out.below hBw)
 have HN11 := lh9 hw11
 have HN12 := lh9 hw12
 have HN13 := lh9 hw13
 have HN14 := lh9 hw14
 have HN15 := lh9 hw15
 have HN16 := lh9 hw16
 clear hBw hHeld hw11 hw12 hw13 hw14 hw15 hw16 C0 C1 C2 C3 C4 C5 C6 C7 C8 C9
 go_wp2_with fail
 have GG := lh9 (fun w' (h : Below wa16.heap.size wa16 w') => (csc (zac h g9) (csc (zac h e9) (csc (zac h i9) (csc (zac h g10) (csc (zac h e10) (csc (zac h i10) csn)))))))
 refine rgB (fun hHeld => ?_)
 refine tl 0 GG.out ?_
 refine tl 1 GG.out ?_
 refine zaU (L := #[true,true,true,true,true,true])
  (J := fun a0 l a w' => ∃ (fl2 fl3 fl4 fl5 : Bool) (ad2 ad3 : Nat),l = #[true,true,fl2,fl3,fl4,fl5] ∧ zbG [10,11] a0 a ∧ Hid (Below wa16.heap.size wa16 w') ∧
    Hid (Gd fl2 (a.tmps.getD 10 undef = .pointer (some ⟨ad2,0,none⟩) ∧ wa16.heap.size ≤ ad2 ∧ Blk w' ad2 42 (bif fl4 then #[.bool b5,.slice B5 m5 d5,.slice E5 u5 v5] else #[.bool false,.slice none 0 0,.slice none 0 0]))) ∧
    Hid (Gd fl3 (a.tmps.getD 11 undef = .pointer (some ⟨ad3,0,none⟩) ∧ wa16.heap.size ≤ ad3 ∧ Blk w' ad3 42 (bif fl5 then #[.bool b6,.slice B6 m6 d6,.slice E6 u6 v6] else #[.bool false,.slice none 0 0,.slice none 0 0]))) ∧
    Hid (Gd fl2 (Gd fl3 (ad2 ≠ ad3))) ∧
    Hid (Gd fl4 (fl2 = true)) ∧
    Hid (Gd fl5 (fl3 = true)) ∧
    Hid (Gd fl5 (fl4 = true)))
  (by rfl) ?_ ?_ ?_
 ·exact ⟨false,false,false,false,0,0,by kernel_rfl,zbG.refl _ _,hHeld,Gd.no,Gd.no,Gd.no,Gd.no,Gd.no,Gd.no⟩
 ·intro OPS Ac0 Q0 hO hAs hA
  have RB64 : Ac0.tmps.getD 64 undef = .agg #[.bool b5,.slice B5 m5 d5,.slice E5 u5 v5] := (hA 64 undef).trans (by kernel_rfl)
  have RB65 : Ac0.tmps.getD 65 undef = .agg #[.bool b6,.slice B6 m6 d6,.slice E6 u6 v6] := (hA 65 undef).trans (by kernel_rfl)
  have hsz : Ac0.tmps.size = 82 := hAs.trans (by kernel_rfl)
  clear hAs hA
  refine ⟨?_,?_⟩
  ·rintro l a w' ⟨fl2,fl3,fl4,fl5,ad2,ad3,rfl,-⟩ hr
   obtain rfl : fl2 = true := als 2 hr hO
   obtain rfl : fl3 = true := als 3 hr hO
   obtain rfl : fl4 = true := als 4 hr hO
   obtain rfl : fl5 = true := als 5 hr hO
   rfl
  ·rintro l a w' i ⟨fl2,fl3,fl4,fl5,ad2,ad3,rfl,HKp,hBi,qf2,qf3,qn2_3,qd4_2,qd5_3,qd5_4⟩ hne hi
   have hlt : i < 6 := by have := zbr hi; rw [hO] at this; exact this
   rcases (show i = 0 ∨ i = 1 ∨ i = 2 ∨ i = 3 ∨ i = 4 ∨ i = 5 by omega) with rfl | rfl | rfl | rfl | rfl | rfl
   ·cases (zai hi : true = false)
   ·cases (zai hi : true = false)
   ·obtain rfl : fl2 = false := zai hi
    obtain rfl : fl4 = false := Gd.off qd4_2.out
    obtain rfl : fl5 = false := Gd.off qd5_4.out
    refine wog hO (fun K' hK => ?_)
    go_simp
    have hb := zaA w' (.cells #[.bool false,.slice none 0 0,.slice none 0 0] 42)
    exact hK.out _ _ ⟨zad hBi.out hb,true,fl3,false,false,w'.heap.size,ad3,by rfl,HKp.put (by decide) _,zad hBi.out hb,Gd.yes ⟨zaw (HKp.lt (by rw [hsz]; decide)) _,hBi.out.size,Blk.new w' _ _⟩,kq qf3.out fun h => ⟨h.1,zae hb h.2⟩,Gd.yes (qf3.out.mono fun h => by have := Blk.lt h.2.2; omega),Gd.no,Gd.no,Gd.no⟩
   ·obtain rfl : fl3 = false := zai hi
    obtain rfl : fl5 = false := Gd.off qd5_3.out
    refine wog hO (fun K' hK => ?_)
    go_simp
    have hb := zaA w' (.cells #[.bool false,.slice none 0 0,.slice none 0 0] 42)
    exact hK.out _ _ ⟨zad hBi.out hb,fl2,true,fl4,false,ad2,w'.heap.size,by rfl,HKp.put (by decide) _,zad hBi.out hb,kq qf2.out fun h => ⟨h.1,zae hb h.2⟩,Gd.yes ⟨zaw (HKp.lt (by rw [hsz]; decide)) _,hBi.out.size,Blk.new w' _ _⟩,qf2.out.mono fun h => Gd.yes (by have := Blk.lt h.2.2; omega),qd4_2,Gd.no,Gd.no⟩
   ·obtain rfl : fl4 = false := zai hi
    obtain rfl : fl2 = true := rdp 2 0 hi hO
    obtain rfl : fl3 = true := rdp 3 5 hi hO
    obtain rfl : fl5 = false := Gd.off qd5_4.out
    have rd10 := qf2.out.get.1
    have rd64 := HKp.get 64 (by decide) RB64
    obtain ⟨_,hg,hk⟩ := qf2.out.get
    have hk : Blk w' ad2 42 #[.bool false,.slice none 0 0,.slice none 0 0] := hk
    obtain ⟨sc0,sf0,sc1,sf1,sc2,sf2⟩ := st3 hk (.bool b5) (.slice B5 m5 d5)
    have hj2 := sn3 hk (.bool b5) (.slice B5 m5 d5) (.slice E5 u5 v5)
    have hBn := bl3 (.bool b5) (.slice B5 m5 d5) (.slice E5 u5 v5) hg hBi.out
    refine wog hO (fun K' hK => ?_)
    go_simp
    exact hK.out _ _ ⟨hBn,true,true,true,false,ad2,ad3,by rfl,HKp,hBn,qf2.out.mono fun h => ⟨h.1,h.2.1,hj2⟩,fun hf9 => (fun h => ⟨h.1,h.2.1,Blk.far (p := ⟨ad2,2,none⟩) (Blk.far (p := ⟨ad2,1,none⟩) (Blk.far (p := ⟨ad2,0,none⟩) (h.2.2) (Ne.symm (qn2_3.out rfl hf9)) (.bool b5)) (Ne.symm (qn2_3.out rfl hf9)) (.slice B5 m5 d5)) (Ne.symm (qn2_3.out rfl hf9)) (.slice E5 u5 v5)⟩) (qf3.out hf9),qn2_3,fun _ => rfl,Gd.no,Gd.no⟩
   ·obtain rfl : fl5 = false := zai hi
    obtain rfl : fl2 = true := rdp 2 5 hi hO
    obtain rfl : fl3 = true := rdp 3 0 hi hO
    obtain rfl : fl4 = true := rdp 4 2 hi hO
    have rd11 := qf3.out.get.1
    have rd65 := HKp.get 65 (by decide) RB65
    obtain ⟨_,hg,hk⟩ := qf3.out.get
    have hk : Blk w' ad3 42 #[.bool false,.slice none 0 0,.slice none 0 0] := hk
    obtain ⟨sc0,sf0,sc1,sf1,sc2,sf2⟩ := st3 hk (.bool b6) (.slice B6 m6 d6)
    have hj2 := sn3 hk (.bool b6) (.slice B6 m6 d6) (.slice E6 u6 v6)
    have hBn := bl3 (.bool b6) (.slice B6 m6 d6) (.slice E6 u6 v6) hg hBi.out
    refine wog hO (fun K' hK => ?_)
    go_simp
    exact hK.out _ _ ⟨hBn,true,true,true,true,ad2,ad3,by rfl,HKp,hBn,fun hf9 => (fun h => ⟨h.1,h.2.1,Blk.far (p := ⟨ad3,2,none⟩) (Blk.far (p := ⟨ad3,1,none⟩) (Blk.far (p := ⟨ad3,0,none⟩) (h.2.2) (qn2_3.out hf9 rfl) (.bool b6)) (qn2_3.out hf9 rfl) (.slice B6 m6 d6)) (qn2_3.out hf9 rfl) (.slice E6 u6 v6)⟩) (qf2.out hf9),qf3.out.mono fun h => ⟨h.1,h.2.1,hj2⟩,qn2_3,fun _ => rfl,fun _ => rfl,fun _ => rfl⟩
 rintro a wm17 ⟨fl2,fl3,fl4,fl5,ad2,ad3,hl,HKp,hBi,qf2,qf3,qn2_3,qd4_2,qd5_3,qd5_4⟩
 have xx2 : fl2 = true := gdl 2 hl
 subst xx2
 have xx3 : fl3 = true := gdl 3 hl
 subst xx3
 have xx4 : fl4 = true := gdl 4 hl
 subst xx4
 have xx5 : fl5 = true := gdl 5 hl
 subst xx5
 obtain ⟨rv2,hg2,hk2⟩ := qf2.out.get
 obtain ⟨rv3,hg3,hk3⟩ := qf3.out.get
 obtain rfl := HKp.eq [(10,.pointer (some ⟨ad2,0,none⟩)),(11,.pointer (some ⟨ad3,0,none⟩))] rfl (by
  intro p hp
  simp only [List.mem_cons,List.not_mem_nil,or_false] at hp
  rcases hp with rfl | rfl
  ·exact rv2
  ·exact rv3)
 have nn2_3 := qn2_3.out.get.get
 have hBv := hBi.out
 clear hl hBi HKp qf2 qf3 qn2_3 qd4_2 qd5_3 qd5_4 rv2 rv3
 have hk2 : Blk wm17 ad2 42 #[.bool b5,.slice B5 m5 d5,.slice E5 u5 v5] := hk2
 have hk3 : Blk wm17 ad3 42 #[.bool b6,.slice B6 m6 d6,.slice E6 u6 v6] := hk3
 rw [show due #[true,true,true,true,true,true] = 0 from rfl]
 simp only [zbx,List.foldl,Act.put,List.setIfInBounds_toArray,List.set_cons_zero,List.set_cons_succ]
 refine wpAnyH_done (by kernel_rfl) ?_ _
 refine NoPanic.normal ?_
 have lt1_m17 := World.block_lt_of_cell? _ _ g1
 dsimp only at lt1_m17
 have lt2_m17 := World.block_lt_of_cell? _ _ g2
 dsimp only at lt2_m17
 have lt7_m17 := World.block_lt_of_cell? _ _ g7
 dsimp only at lt7_m17
 have lt8_m17 := World.block_lt_of_cell? _ _ g8
 dsimp only at lt8_m17
 have lt9_m17 := World.block_lt_of_cell? _ _ g9
 dsimp only at lt9_m17
 have lt10_m17 := World.block_lt_of_cell? _ _ g10
 dsimp only at lt10_m17
 have hB := zad hB hBv
 have g1 := zac hBv g1
 have e1 := zac hBv e1
 have i1 := zac hBv i1
 have g2 := zac hBv g2
 have e2 := zac hBv e2
 have i2 := zac hBv i2
 have g7 := zac hBv g7
 have e7 := zac hBv e7
 have i7 := zac hBv i7
 have g8 := zac hBv g8
 have e8 := zac hBv e8
 have i8 := zac hBv i8
 have g9 := zac hBv g9
 have e9 := zac hBv e9
 have i9 := zac hBv i9
 have g10 := zac hBv g10
 have e10 := zac hBv e10
 have i10 := zac hBv i10
 have HN3 := lh9 (HN3.out.below hBv)
 have HN4 := lh9 (HN4.out.below hBv)
 have HN5 := lh9 (HN5.out.below hBv)
 have HN6 := lh9 (HN6.out.below hBv)
 have HN11 := lh9 (HN11.out.below hBv)
 have HN12 := lh9 (HN12.out.below hBv)
 have HN13 := lh9 (HN13.out.below hBv)
 have HN14 := lh9 (HN14.out.below hBv)
 have HN15 := lh9 (HN15.out.below hBv)
 have HN16 := lh9 (HN16.out.below hBv)
 obtain ⟨ad2_17,hga⟩ : ∃ x,x = ad2 := ⟨_,rfl⟩
 subst hga
 obtain ⟨g17,e17,i17⟩ := hk2.c3
 have k17 := hk2
 obtain ⟨ad3_18,hga⟩ : ∃ x,x = ad3 := ⟨_,rfl⟩
 subst hga
 obtain ⟨g18,e18,i18⟩ := hk3.c3
 have k18 := hk3
 clear hBv hk2 hk3  GG
 rcases HCASE.out with hq | hq
 ·clear HCASE
  have Hq1 := lh9 hq
  have hd1 : decide (c > 0) = false := by simp; omega
  have hd2 : decide (0 < c) = false := by simp; omega
  clear hq
  go_wp2_with fail
  have HZ19 : Hid (SzQ (K + K) (zdP x y)) := SzQ.min HZ3.out HZ4.out
  have C0 := lh9 (fun w' (h : Below wm17.heap.size wm17 w') => (HQC.out.g1 M1).min (x) (y) b3 b4 B3 B4 m3 m4 d3 d4 E3 E4 u3 u4 v3 v4 w' (HT.out _ (zad hB h)) (HN3.out.below h) (HN4.out.below h) (szq HZ3 HN3.out) (szq HZ4 HN4.out))
  have C1 := lh9 (fun w' (h : Below wm17.heap.size wm17 w') b19 B19 m19 d19 E19 u19 v19 (hw19 : zam w' (zdP x y) b19 B19 m19 d19 E19 u19 v19) => zeo hTb HIC.out HQC.out (zdP x y) (K + K) b19 B19 m19 d19 E19 u19 v19 b5 B5 m5 d5 E5 u5 v5 w' (by omega) HZ19.out hw19 (zck.to (by unfold zdP; rw [if_pos (by have := HC.out; have := Hq1.out; omega)]) (HN5.out.below h)) (HT.out _ (zad hB h)))
  have HZ20 : Hid (SzQ (K + K) (zdQ x y)) := SzQ.max HZ3.out HZ4.out
  have C2 := lh9 (fun w' (h : Below wm17.heap.size wm17 w') => (HQC.out.g1 M1).max (x) (y) b3 b4 B3 B4 m3 m4 d3 d4 E3 E4 u3 u4 v3 v4 w' (HT.out _ (zad hB h)) (HN3.out.below h) (HN4.out.below h) (szq HZ3 HN3.out) (szq HZ4 HN4.out))
  have C3 := lh9 (fun w' (h : Below wm17.heap.size wm17 w') b20 B20 m20 d20 E20 u20 v20 (hw20 : zam w' (zdQ x y) b20 B20 m20 d20 E20 u20 v20) => zeo hTb HIC.out HQC.out (zdQ x y) (K + K) b20 B20 m20 d20 E20 u20 v20 b6 B6 m6 d6 E6 u6 v6 w' (by omega) HZ20.out hw20 (zck.to (by unfold zdQ; rw [if_pos (by have := HC.out; have := Hq1.out; omega)]) (HN6.out.below h)) (HT.out _ (zad hB h)))
  have hBw := (Below.refl wm17.heap.size wm17).drew
  refine rg (csc g7 (csc e7 (csc i7 (csc g8 (csc e8 (csc i8 (csc g17 (csc e17 (csc i17 (csc g18 (csc e18 (csc i18 csn)))))))))))) (fun hHeld => ?_)
  refine tk 0 ?_
  refine tk 1 ?_
  refine tk 3 ?_
  refine rc 2 (fun K hK => ?_)
  go_simp
  go_at_call 39; (with_reducible refine (C0.out _ hBw).mono ?_); rintro e wa18 ⟨b19,B19,m19,d19,E19,u19,v19,rfl,hw19,hb⟩; have hBw := zad hBw hb; refine hK.out _ _ (Cs.below hHeld hb) (fun hHeld => ?_); clear hK K hb
  try simp only [sb9]
  refine rc 4 (fun K hK => ?_)
  go_simp
  go_at_call 14; (with_reducible refine (C1.out _ hBw _ _ _ _ _ _ _ hw19).mono ?_); rintro e wa19 ⟨rfl,hb⟩; have hBw := zad hBw hb; have hw19 := hw19.below hb; refine hK.out _ _ (Cs.below hHeld hb) (fun hHeld => ?_); clear hK K hb
  try simp only [sb9]
  refine tk 5 ?_
  refine tk 6 ?_
  refine tk 7 ?_
  refine tk 9 ?_
  refine rc 8 (fun K hK => ?_)
  go_simp
  go_at_call 40; (with_reducible refine (C2.out _ hBw).mono ?_); rintro e wa20 ⟨b20,B20,m20,d20,E20,u20,v20,rfl,hw20,hb⟩; have hBw := zad hBw hb; have hw19 := hw19.below hb; refine hK.out _ _ (Cs.below hHeld hb) (fun hHeld => ?_); clear hK K hb
  try simp only [sb9]
  refine rc 10 (fun K hK => ?_)
  go_simp
  go_at_call 14; (with_reducible refine (C3.out _ hBw _ _ _ _ _ _ _ hw20).mono ?_); rintro e wa21 ⟨rfl,hb⟩; have hBw := zad hBw hb; have hw19 := hw19.below hb; have hw20 := hw20.below hb; refine hK.out _ _ (Cs.below hHeld hb) (fun hHeld => ?_); clear hK K hb
  try simp only [sb9]
  refine tk 11 ?_
  refine tk 12 ?_
  refine rdn ?_
  have hB := zad hB hBw
  have g1 := zac hBw g1
  have e1 := zac hBw e1
  have i1 := zac hBw i1
  have g2 := zac hBw g2
  have e2 := zac hBw e2
  have i2 := zac hBw i2
  have g7 := zac hBw g7
  have e7 := zac hBw e7
  have i7 := zac hBw i7
  have g8 := zac hBw g8
  have e8 := zac hBw e8
  have i8 := zac hBw i8
  have g9 := zac hBw g9
  have e9 := zac hBw e9
  have i9 := zac hBw i9
  have g10 := zac hBw g10
  have e10 := zac hBw e10
  have i10 := zac hBw i10
  have HN3 := lh9 (HN3.out.below hBw)
  have HN4 := lh9 (HN4.out.below hBw)
  have HN5 := lh9 (HN5.out.below hBw)
  have HN6 := lh9 (HN6.out.below hBw)
  have HN11 := lh9 (HN11.out.below hBw)
  have HN12 := lh9 (HN12.out.below hBw)
  have HN13 := lh9 (HN13.out.below hBw)
  have HN14 := lh9 (HN14.out.below hBw)
  have HN15 := lh9 (HN15.out.below hBw)
  have HN16 := lh9 (HN16.out.below hBw)
  have g17 := zac hBw g17
  have e17 := zac hBw e17
  have i17 := zac hBw i17
  have k17 := zae hBw k17
  have g18 := zac hBw g18
  have e18 := zac hBw e18
  have i18 := zac hBw i18
  have k18 := zae hBw k18
  have HN19 := lh9 hw19
  have HN20 := lh9 hw20
  clear hBw hHeld hw19 hw20 C0 C1 C2 C3
  go_wp2
  go_ret
  exact ⟨by first | rfl | simp,hB⟩
 ·clear HCASE
  have Hq1 := lh9 hq
  have hd1 : decide (c > 0) = true := by simp; omega
  have hd2 : decide (0 < c) = true := by simp; omega
  clear hq
  go_wp2_with fail
  have lt1_s17 := World.block_lt_of_cell? _ _ g1
  dsimp only at lt1_s17
  have lt2_s17 := World.block_lt_of_cell? _ _ g2
  dsimp only at lt2_s17
  have lt7_s17 := World.block_lt_of_cell? _ _ g7
  dsimp only at lt7_s17
  have lt8_s17 := World.block_lt_of_cell? _ _ g8
  dsimp only at lt8_s17
  have lt9_s17 := World.block_lt_of_cell? _ _ g9
  dsimp only at lt9_s17
  have lt10_s17 := World.block_lt_of_cell? _ _ g10
  dsimp only at lt10_s17
  have lt17_s17 := k17.lt
  have lt18_s17 := k18.lt
  have hBw := (Below.refl wm17.heap.size wm17).drew
  refine rg (csc g10 (csc e10 (csc i10 (csc g9 (csc e9 (csc i9 csn)))))) (fun hHeld => ?_)
  have hB := zad hB hBw
  have g1 := zac hBw g1
  have e1 := zac hBw e1
  have i1 := zac hBw i1
  have g2 := zac hBw g2
  have e2 := zac hBw e2
  have i2 := zac hBw i2
  have g7 := zac hBw g7
  have e7 := zac hBw e7
  have i7 := zac hBw i7
  have g8 := zac hBw g8
  have e8 := zac hBw e8
  have i8 := zac hBw i8
  have g9 := zac hBw g9
  have e9 := zac hBw e9
  have i9 := zac hBw i9
  have g10 := zac hBw g10
  have e10 := zac hBw e10
  have i10 := zac hBw i10
  have HN3 := lh9 (HN3.out.below hBw)
  have HN4 := lh9 (HN4.out.below hBw)
  have HN5 := lh9 (HN5.out.below hBw)
  have HN6 := lh9 (HN6.out.below hBw)
  have HN11 := lh9 (HN11.out.below hBw)
  have HN12 := lh9 (HN12.out.below hBw)
  have HN13 := lh9 (HN13.out.below hBw)
  have HN14 := lh9 (HN14.out.below hBw)
  have HN15 := lh9 (HN15.out.below hBw)
  have HN16 := lh9 (HN16.out.below hBw)
  have g17 := zac hBw g17
  have e17 := zac hBw e17
  have i17 := zac hBw i17
  have k17 := zae hBw k17
  have g18 := zac hBw g18
  have e18 := zac hBw e18
  have i18 := zac hBw i18
  have k18 := zae hBw k18
  generalize wm17.drew = Wd18 at *
  refine tk 0 ?_
  refine tk 1 ?_
  obtain ⟨sc0,sf0,sc1,sf1,sc2,sf2⟩ := st3 k17 (.bool b6) (.slice B6 m6 d6)
  have kz2 := sn3 k17 (.bool b6) (.slice B6 m6 d6) (.slice E6 u6 v6)
  have g1 := zaf (q := ⟨ad2_17,2,none⟩) (.slice E6 u6 v6) (by show w.heap.size ≠ ad2_17; omega) (zaf (q := ⟨ad2_17,1,none⟩) (.slice B6 m6 d6) (by show w.heap.size ≠ ad2_17; omega) (zaf (q := ⟨ad2_17,0,none⟩) (.bool b6) (by show w.heap.size ≠ ad2_17; omega) (g1)))
  have e1 := zaf (q := ⟨ad2_17,2,none⟩) (.slice E6 u6 v6) (by show w.heap.size ≠ ad2_17; omega) (zaf (q := ⟨ad2_17,1,none⟩) (.slice B6 m6 d6) (by show w.heap.size ≠ ad2_17; omega) (zaf (q := ⟨ad2_17,0,none⟩) (.bool b6) (by show w.heap.size ≠ ad2_17; omega) (e1)))
  have i1 := zaf (q := ⟨ad2_17,2,none⟩) (.slice E6 u6 v6) (by show w.heap.size ≠ ad2_17; omega) (zaf (q := ⟨ad2_17,1,none⟩) (.slice B6 m6 d6) (by show w.heap.size ≠ ad2_17; omega) (zaf (q := ⟨ad2_17,0,none⟩) (.bool b6) (by show w.heap.size ≠ ad2_17; omega) (i1)))
  have g2 := zaf (q := ⟨ad2_17,2,none⟩) (.slice E6 u6 v6) (by show w.heap.size + 1 ≠ ad2_17; omega) (zaf (q := ⟨ad2_17,1,none⟩) (.slice B6 m6 d6) (by show w.heap.size + 1 ≠ ad2_17; omega) (zaf (q := ⟨ad2_17,0,none⟩) (.bool b6) (by show w.heap.size + 1 ≠ ad2_17; omega) (g2)))
  have e2 := zaf (q := ⟨ad2_17,2,none⟩) (.slice E6 u6 v6) (by show w.heap.size + 1 ≠ ad2_17; omega) (zaf (q := ⟨ad2_17,1,none⟩) (.slice B6 m6 d6) (by show w.heap.size + 1 ≠ ad2_17; omega) (zaf (q := ⟨ad2_17,0,none⟩) (.bool b6) (by show w.heap.size + 1 ≠ ad2_17; omega) (e2)))
  have i2 := zaf (q := ⟨ad2_17,2,none⟩) (.slice E6 u6 v6) (by show w.heap.size + 1 ≠ ad2_17; omega) (zaf (q := ⟨ad2_17,1,none⟩) (.slice B6 m6 d6) (by show w.heap.size + 1 ≠ ad2_17; omega) (zaf (q := ⟨ad2_17,0,none⟩) (.bool b6) (by show w.heap.size + 1 ≠ ad2_17; omega) (i2)))
  have g7 := zaf (q := ⟨ad2_17,2,none⟩) (.slice E6 u6 v6) (by show ad8_7 ≠ ad2_17; omega) (zaf (q := ⟨ad2_17,1,none⟩) (.slice B6 m6 d6) (by show ad8_7 ≠ ad2_17; omega) (zaf (q := ⟨ad2_17,0,none⟩) (.bool b6) (by show ad8_7 ≠ ad2_17; omega) (g7)))
  have e7 := zaf (q := ⟨ad2_17,2,none⟩) (.slice E6 u6 v6) (by show ad8_7 ≠ ad2_17; omega) (zaf (q := ⟨ad2_17,1,none⟩) (.slice B6 m6 d6) (by show ad8_7 ≠ ad2_17; omega) (zaf (q := ⟨ad2_17,0,none⟩) (.bool b6) (by show ad8_7 ≠ ad2_17; omega) (e7)))
  have i7 := zaf (q := ⟨ad2_17,2,none⟩) (.slice E6 u6 v6) (by show ad8_7 ≠ ad2_17; omega) (zaf (q := ⟨ad2_17,1,none⟩) (.slice B6 m6 d6) (by show ad8_7 ≠ ad2_17; omega) (zaf (q := ⟨ad2_17,0,none⟩) (.bool b6) (by show ad8_7 ≠ ad2_17; omega) (i7)))
  have g8 := zaf (q := ⟨ad2_17,2,none⟩) (.slice E6 u6 v6) (by show ad9_8 ≠ ad2_17; omega) (zaf (q := ⟨ad2_17,1,none⟩) (.slice B6 m6 d6) (by show ad9_8 ≠ ad2_17; omega) (zaf (q := ⟨ad2_17,0,none⟩) (.bool b6) (by show ad9_8 ≠ ad2_17; omega) (g8)))
  have e8 := zaf (q := ⟨ad2_17,2,none⟩) (.slice E6 u6 v6) (by show ad9_8 ≠ ad2_17; omega) (zaf (q := ⟨ad2_17,1,none⟩) (.slice B6 m6 d6) (by show ad9_8 ≠ ad2_17; omega) (zaf (q := ⟨ad2_17,0,none⟩) (.bool b6) (by show ad9_8 ≠ ad2_17; omega) (e8)))
  have i8 := zaf (q := ⟨ad2_17,2,none⟩) (.slice E6 u6 v6) (by show ad9_8 ≠ ad2_17; omega) (zaf (q := ⟨ad2_17,1,none⟩) (.slice B6 m6 d6) (by show ad9_8 ≠ ad2_17; omega) (zaf (q := ⟨ad2_17,0,none⟩) (.bool b6) (by show ad9_8 ≠ ad2_17; omega) (i8)))
  have g9 := zaf (q := ⟨ad2_17,2,none⟩) (.slice E6 u6 v6) (by show ad10_9 ≠ ad2_17; omega) (zaf (q := ⟨ad2_17,1,none⟩) (.slice B6 m6 d6) (by show ad10_9 ≠ ad2_17; omega) (zaf (q := ⟨ad2_17,0,none⟩) (.bool b6) (by show ad10_9 ≠ ad2_17; omega) (g9)))
  have e9 := zaf (q := ⟨ad2_17,2,none⟩) (.slice E6 u6 v6) (by show ad10_9 ≠ ad2_17; omega) (zaf (q := ⟨ad2_17,1,none⟩) (.slice B6 m6 d6) (by show ad10_9 ≠ ad2_17; omega) (zaf (q := ⟨ad2_17,0,none⟩) (.bool b6) (by show ad10_9 ≠ ad2_17; omega) (e9)))
  have i9 := zaf (q := ⟨ad2_17,2,none⟩) (.slice E6 u6 v6) (by show ad10_9 ≠ ad2_17; omega) (zaf (q := ⟨ad2_17,1,none⟩) (.slice B6 m6 d6) (by show ad10_9 ≠ ad2_17; omega) (zaf (q := ⟨ad2_17,0,none⟩) (.bool b6) (by show ad10_9 ≠ ad2_17; omega) (i9)))
  have g10 := zaf (q := ⟨ad2_17,2,none⟩) (.slice E6 u6 v6) (by show ad11_10 ≠ ad2_17; omega) (zaf (q := ⟨ad2_17,1,none⟩) (.slice B6 m6 d6) (by show ad11_10 ≠ ad2_17; omega) (zaf (q := ⟨ad2_17,0,none⟩) (.bool b6) (by show ad11_10 ≠ ad2_17; omega) (g10)))
  have e10 := zaf (q := ⟨ad2_17,2,none⟩) (.slice E6 u6 v6) (by show ad11_10 ≠ ad2_17; omega) (zaf (q := ⟨ad2_17,1,none⟩) (.slice B6 m6 d6) (by show ad11_10 ≠ ad2_17; omega) (zaf (q := ⟨ad2_17,0,none⟩) (.bool b6) (by show ad11_10 ≠ ad2_17; omega) (e10)))
  have i10 := zaf (q := ⟨ad2_17,2,none⟩) (.slice E6 u6 v6) (by show ad11_10 ≠ ad2_17; omega) (zaf (q := ⟨ad2_17,1,none⟩) (.slice B6 m6 d6) (by show ad11_10 ≠ ad2_17; omega) (zaf (q := ⟨ad2_17,0,none⟩) (.bool b6) (by show ad11_10 ≠ ad2_17; omega) (i10)))
  have HN3 := lh9 (zbj HN3.out k17 (NoU.s3 _ _ _ _ _ _ _) (zbo _ _ (.bool b6) (.slice B6 m6 d6) (.slice E6 u6 v6)))
  have HN4 := lh9 (zbj HN4.out k17 (NoU.s3 _ _ _ _ _ _ _) (zbo _ _ (.bool b6) (.slice B6 m6 d6) (.slice E6 u6 v6)))
  have HN5 := lh9 (zba HN5.out k17 (NoU.s3 _ _ _ _ _ _ _) (zbo _ _ (.bool b6) (.slice B6 m6 d6) (.slice E6 u6 v6)))
  have HN6 := lh9 (zba HN6.out k17 (NoU.s3 _ _ _ _ _ _ _) (zbo _ _ (.bool b6) (.slice B6 m6 d6) (.slice E6 u6 v6)))
  have HN11 := lh9 (zbk HN11.out k17 (NoU.s3 _ _ _ _ _ _ _) (zbo _ _ (.bool b6) (.slice B6 m6 d6) (.slice E6 u6 v6)))
  have HN12 := lh9 (zbh HN12.out k17 (NoU.s3 _ _ _ _ _ _ _) (zbo _ _ (.bool b6) (.slice B6 m6 d6) (.slice E6 u6 v6)))
  have HN13 := lh9 (zbk HN13.out k17 (NoU.s3 _ _ _ _ _ _ _) (zbo _ _ (.bool b6) (.slice B6 m6 d6) (.slice E6 u6 v6)))
  have HN14 := lh9 (zba HN14.out k17 (NoU.s3 _ _ _ _ _ _ _) (zbo _ _ (.bool b6) (.slice B6 m6 d6) (.slice E6 u6 v6)))
  have HN15 := lh9 (zbh HN15.out k17 (NoU.s3 _ _ _ _ _ _ _) (zbo _ _ (.bool b6) (.slice B6 m6 d6) (.slice E6 u6 v6)))
  have HN16 := lh9 (zbh HN16.out k17 (NoU.s3 _ _ _ _ _ _ _) (zbo _ _ (.bool b6) (.slice B6 m6 d6) (.slice E6 u6 v6)))
  have g18 := zaf (q := ⟨ad2_17,2,none⟩) (.slice E6 u6 v6) (by show ad3_18 ≠ ad2_17; omega) (zaf (q := ⟨ad2_17,1,none⟩) (.slice B6 m6 d6) (by show ad3_18 ≠ ad2_17; omega) (zaf (q := ⟨ad2_17,0,none⟩) (.bool b6) (by show ad3_18 ≠ ad2_17; omega) (g18)))
  have e18 := zaf (q := ⟨ad2_17,2,none⟩) (.slice E6 u6 v6) (by show ad3_18 ≠ ad2_17; omega) (zaf (q := ⟨ad2_17,1,none⟩) (.slice B6 m6 d6) (by show ad3_18 ≠ ad2_17; omega) (zaf (q := ⟨ad2_17,0,none⟩) (.bool b6) (by show ad3_18 ≠ ad2_17; omega) (e18)))
  have i18 := zaf (q := ⟨ad2_17,2,none⟩) (.slice E6 u6 v6) (by show ad3_18 ≠ ad2_17; omega) (zaf (q := ⟨ad2_17,1,none⟩) (.slice B6 m6 d6) (by show ad3_18 ≠ ad2_17; omega) (zaf (q := ⟨ad2_17,0,none⟩) (.bool b6) (by show ad3_18 ≠ ad2_17; omega) (i18)))
  have k18 := Blk.far (p := ⟨ad2_17,2,none⟩) (Blk.far (p := ⟨ad2_17,1,none⟩) (Blk.far (p := ⟨ad2_17,0,none⟩) (k18) (by show ad3_18 ≠ ad2_17; omega) (.bool b6)) (by show ad3_18 ≠ ad2_17; omega) (.slice B6 m6 d6)) (by show ad3_18 ≠ ad2_17; omega) (.slice E6 u6 v6)
  have hB := bl3 (.bool b6) (.slice B6 m6 d6) (.slice E6 u6 v6) (by show w.heap.size ≤ ad2_17; omega) hB
  have g17 : (((Wd18.setCell ⟨ad2_17,0,none⟩ (.bool b6)).setCell ⟨ad2_17,1,none⟩ (.slice B6 m6 d6)).setCell ⟨ad2_17,2,none⟩ (.slice E6 u6 v6)).cell? ⟨ad2_17,0,none⟩ = some (.bool b6) := kz2.cell 0
  have e17 : (((Wd18.setCell ⟨ad2_17,0,none⟩ (.bool b6)).setCell ⟨ad2_17,1,none⟩ (.slice B6 m6 d6)).setCell ⟨ad2_17,2,none⟩ (.slice E6 u6 v6)).cell? ⟨ad2_17,1,none⟩ = some (.slice B6 m6 d6) := kz2.cell 1
  have i17 : (((Wd18.setCell ⟨ad2_17,0,none⟩ (.bool b6)).setCell ⟨ad2_17,1,none⟩ (.slice B6 m6 d6)).setCell ⟨ad2_17,2,none⟩ (.slice E6 u6 v6)).cell? ⟨ad2_17,2,none⟩ = some (.slice E6 u6 v6) := kz2.cell 2
  have k17 := kz2
  refine rc 2 (fun K hK => ?_)
  go_simp
  refine hK.out _ _ (cs3 (.bool b6) (.slice B6 m6 d6) (.slice E6 u6 v6) hHeld) (fun hHeld => ?_); clear hK K
  try simp only [sb9]
  clear sc0 sf0 sc1 sf1 sc2 sf2 kz2
  generalize ((Wd18.setCell ⟨ad2_17,0,none⟩ (.bool b6)).setCell ⟨ad2_17,1,none⟩ (.slice B6 m6 d6)).setCell ⟨ad2_17,2,none⟩ (.slice E6 u6 v6) = W19 at *
  obtain ⟨sc0,sf0,sc1,sf1,sc2,sf2⟩ := st3 k18 (.bool b5) (.slice B5 m5 d5)
  have kz2 := sn3 k18 (.bool b5) (.slice B5 m5 d5) (.slice E5 u5 v5)
  have g1 := zaf (q := ⟨ad3_18,2,none⟩) (.slice E5 u5 v5) (by show w.heap.size ≠ ad3_18; omega) (zaf (q := ⟨ad3_18,1,none⟩) (.slice B5 m5 d5) (by show w.heap.size ≠ ad3_18; omega) (zaf (q := ⟨ad3_18,0,none⟩) (.bool b5) (by show w.heap.size ≠ ad3_18; omega) (g1)))
  have e1 := zaf (q := ⟨ad3_18,2,none⟩) (.slice E5 u5 v5) (by show w.heap.size ≠ ad3_18; omega) (zaf (q := ⟨ad3_18,1,none⟩) (.slice B5 m5 d5) (by show w.heap.size ≠ ad3_18; omega) (zaf (q := ⟨ad3_18,0,none⟩) (.bool b5) (by show w.heap.size ≠ ad3_18; omega) (e1)))
  have i1 := zaf (q := ⟨ad3_18,2,none⟩) (.slice E5 u5 v5) (by show w.heap.size ≠ ad3_18; omega) (zaf (q := ⟨ad3_18,1,none⟩) (.slice B5 m5 d5) (by show w.heap.size ≠ ad3_18; omega) (zaf (q := ⟨ad3_18,0,none⟩) (.bool b5) (by show w.heap.size ≠ ad3_18; omega) (i1)))
  have g2 := zaf (q := ⟨ad3_18,2,none⟩) (.slice E5 u5 v5) (by show w.heap.size + 1 ≠ ad3_18; omega) (zaf (q := ⟨ad3_18,1,none⟩) (.slice B5 m5 d5) (by show w.heap.size + 1 ≠ ad3_18; omega) (zaf (q := ⟨ad3_18,0,none⟩) (.bool b5) (by show w.heap.size + 1 ≠ ad3_18; omega) (g2)))
  have e2 := zaf (q := ⟨ad3_18,2,none⟩) (.slice E5 u5 v5) (by show w.heap.size + 1 ≠ ad3_18; omega) (zaf (q := ⟨ad3_18,1,none⟩) (.slice B5 m5 d5) (by show w.heap.size + 1 ≠ ad3_18; omega) (zaf (q := ⟨ad3_18,0,none⟩) (.bool b5) (by show w.heap.size + 1 ≠ ad3_18; omega) (e2)))
  have i2 := zaf (q := ⟨ad3_18,2,none⟩) (.slice E5 u5 v5) (by show w.heap.size + 1 ≠ ad3_18; omega) (zaf (q := ⟨ad3_18,1,none⟩) (.slice B5 m5 d5) (by show w.heap.size + 1 ≠ ad3_18; omega) (zaf (q := ⟨ad3_18,0,none⟩) (.bool b5) (by show w.heap.size + 1 ≠ ad3_18; omega) (i2)))
  have g7 := zaf (q := ⟨ad3_18,2,none⟩) (.slice E5 u5 v5) (by show ad8_7 ≠ ad3_18; omega) (zaf (q := ⟨ad3_18,1,none⟩) (.slice B5 m5 d5) (by show ad8_7 ≠ ad3_18; omega) (zaf (q := ⟨ad3_18,0,none⟩) (.bool b5) (by show ad8_7 ≠ ad3_18; omega) (g7)))
  have e7 := zaf (q := ⟨ad3_18,2,none⟩) (.slice E5 u5 v5) (by show ad8_7 ≠ ad3_18; omega) (zaf (q := ⟨ad3_18,1,none⟩) (.slice B5 m5 d5) (by show ad8_7 ≠ ad3_18; omega) (zaf (q := ⟨ad3_18,0,none⟩) (.bool b5) (by show ad8_7 ≠ ad3_18; omega) (e7)))
  have i7 := zaf (q := ⟨ad3_18,2,none⟩) (.slice E5 u5 v5) (by show ad8_7 ≠ ad3_18; omega) (zaf (q := ⟨ad3_18,1,none⟩) (.slice B5 m5 d5) (by show ad8_7 ≠ ad3_18; omega) (zaf (q := ⟨ad3_18,0,none⟩) (.bool b5) (by show ad8_7 ≠ ad3_18; omega) (i7)))
  have g8 := zaf (q := ⟨ad3_18,2,none⟩) (.slice E5 u5 v5) (by show ad9_8 ≠ ad3_18; omega) (zaf (q := ⟨ad3_18,1,none⟩) (.slice B5 m5 d5) (by show ad9_8 ≠ ad3_18; omega) (zaf (q := ⟨ad3_18,0,none⟩) (.bool b5) (by show ad9_8 ≠ ad3_18; omega) (g8)))
  have e8 := zaf (q := ⟨ad3_18,2,none⟩) (.slice E5 u5 v5) (by show ad9_8 ≠ ad3_18; omega) (zaf (q := ⟨ad3_18,1,none⟩) (.slice B5 m5 d5) (by show ad9_8 ≠ ad3_18; omega) (zaf (q := ⟨ad3_18,0,none⟩) (.bool b5) (by show ad9_8 ≠ ad3_18; omega) (e8)))
  have i8 := zaf (q := ⟨ad3_18,2,none⟩) (.slice E5 u5 v5) (by show ad9_8 ≠ ad3_18; omega) (zaf (q := ⟨ad3_18,1,none⟩) (.slice B5 m5 d5) (by show ad9_8 ≠ ad3_18; omega) (zaf (q := ⟨ad3_18,0,none⟩) (.bool b5) (by show ad9_8 ≠ ad3_18; omega) (i8)))
  have g9 := zaf (q := ⟨ad3_18,2,none⟩) (.slice E5 u5 v5) (by show ad10_9 ≠ ad3_18; omega) (zaf (q := ⟨ad3_18,1,none⟩) (.slice B5 m5 d5) (by show ad10_9 ≠ ad3_18; omega) (zaf (q := ⟨ad3_18,0,none⟩) (.bool b5) (by show ad10_9 ≠ ad3_18; omega) (g9)))
  have e9 := zaf (q := ⟨ad3_18,2,none⟩) (.slice E5 u5 v5) (by show ad10_9 ≠ ad3_18; omega) (zaf (q := ⟨ad3_18,1,none⟩) (.slice B5 m5 d5) (by show ad10_9 ≠ ad3_18; omega) (zaf (q := ⟨ad3_18,0,none⟩) (.bool b5) (by show ad10_9 ≠ ad3_18; omega) (e9)))
  have i9 := zaf (q := ⟨ad3_18,2,none⟩) (.slice E5 u5 v5) (by show ad10_9 ≠ ad3_18; omega) (zaf (q := ⟨ad3_18,1,none⟩) (.slice B5 m5 d5) (by show ad10_9 ≠ ad3_18; omega) (zaf (q := ⟨ad3_18,0,none⟩) (.bool b5) (by show ad10_9 ≠ ad3_18; omega) (i9)))
  have g10 := zaf (q := ⟨ad3_18,2,none⟩) (.slice E5 u5 v5) (by show ad11_10 ≠ ad3_18; omega) (zaf (q := ⟨ad3_18,1,none⟩) (.slice B5 m5 d5) (by show ad11_10 ≠ ad3_18; omega) (zaf (q := ⟨ad3_18,0,none⟩) (.bool b5) (by show ad11_10 ≠ ad3_18; omega) (g10)))
  have e10 := zaf (q := ⟨ad3_18,2,none⟩) (.slice E5 u5 v5) (by show ad11_10 ≠ ad3_18; omega) (zaf (q := ⟨ad3_18,1,none⟩) (.slice B5 m5 d5) (by show ad11_10 ≠ ad3_18; omega) (zaf (q := ⟨ad3_18,0,none⟩) (.bool b5) (by show ad11_10 ≠ ad3_18; omega) (e10)))
  have i10 := zaf (q := ⟨ad3_18,2,none⟩) (.slice E5 u5 v5) (by show ad11_10 ≠ ad3_18; omega) (zaf (q := ⟨ad3_18,1,none⟩) (.slice B5 m5 d5) (by show ad11_10 ≠ ad3_18; omega) (zaf (q := ⟨ad3_18,0,none⟩) (.bool b5) (by show ad11_10 ≠ ad3_18; omega) (i10)))
  have HN3 := lh9 (zbj HN3.out k18 (NoU.s3 _ _ _ _ _ _ _) (zbo _ _ (.bool b5) (.slice B5 m5 d5) (.slice E5 u5 v5)))
  have HN4 := lh9 (zbj HN4.out k18 (NoU.s3 _ _ _ _ _ _ _) (zbo _ _ (.bool b5) (.slice B5 m5 d5) (.slice E5 u5 v5)))
  have HN5 := lh9 (zba HN5.out k18 (NoU.s3 _ _ _ _ _ _ _) (zbo _ _ (.bool b5) (.slice B5 m5 d5) (.slice E5 u5 v5)))
  have HN6 := lh9 (zba HN6.out k18 (NoU.s3 _ _ _ _ _ _ _) (zbo _ _ (.bool b5) (.slice B5 m5 d5) (.slice E5 u5 v5)))
  have HN11 := lh9 (zbk HN11.out k18 (NoU.s3 _ _ _ _ _ _ _) (zbo _ _ (.bool b5) (.slice B5 m5 d5) (.slice E5 u5 v5)))
  have HN12 := lh9 (zbh HN12.out k18 (NoU.s3 _ _ _ _ _ _ _) (zbo _ _ (.bool b5) (.slice B5 m5 d5) (.slice E5 u5 v5)))
  have HN13 := lh9 (zbk HN13.out k18 (NoU.s3 _ _ _ _ _ _ _) (zbo _ _ (.bool b5) (.slice B5 m5 d5) (.slice E5 u5 v5)))
  have HN14 := lh9 (zba HN14.out k18 (NoU.s3 _ _ _ _ _ _ _) (zbo _ _ (.bool b5) (.slice B5 m5 d5) (.slice E5 u5 v5)))
  have HN15 := lh9 (zbh HN15.out k18 (NoU.s3 _ _ _ _ _ _ _) (zbo _ _ (.bool b5) (.slice B5 m5 d5) (.slice E5 u5 v5)))
  have HN16 := lh9 (zbh HN16.out k18 (NoU.s3 _ _ _ _ _ _ _) (zbo _ _ (.bool b5) (.slice B5 m5 d5) (.slice E5 u5 v5)))
  have k17 := Blk.far (p := ⟨ad3_18,2,none⟩) (Blk.far (p := ⟨ad3_18,1,none⟩) (Blk.far (p := ⟨ad3_18,0,none⟩) (k17) (by show ad2_17 ≠ ad3_18; omega) (.bool b5)) (by show ad2_17 ≠ ad3_18; omega) (.slice B5 m5 d5)) (by show ad2_17 ≠ ad3_18; omega) (.slice E5 u5 v5)
  have g17 := zaf (q := ⟨ad3_18,2,none⟩) (.slice E5 u5 v5) (by show ad2_17 ≠ ad3_18; omega) (zaf (q := ⟨ad3_18,1,none⟩) (.slice B5 m5 d5) (by show ad2_17 ≠ ad3_18; omega) (zaf (q := ⟨ad3_18,0,none⟩) (.bool b5) (by show ad2_17 ≠ ad3_18; omega) (g17)))
  have e17 := zaf (q := ⟨ad3_18,2,none⟩) (.slice E5 u5 v5) (by show ad2_17 ≠ ad3_18; omega) (zaf (q := ⟨ad3_18,1,none⟩) (.slice B5 m5 d5) (by show ad2_17 ≠ ad3_18; omega) (zaf (q := ⟨ad3_18,0,none⟩) (.bool b5) (by show ad2_17 ≠ ad3_18; omega) (e17)))
  have i17 := zaf (q := ⟨ad3_18,2,none⟩) (.slice E5 u5 v5) (by show ad2_17 ≠ ad3_18; omega) (zaf (q := ⟨ad3_18,1,none⟩) (.slice B5 m5 d5) (by show ad2_17 ≠ ad3_18; omega) (zaf (q := ⟨ad3_18,0,none⟩) (.bool b5) (by show ad2_17 ≠ ad3_18; omega) (i17)))
  have hB := bl3 (.bool b5) (.slice B5 m5 d5) (.slice E5 u5 v5) (by show w.heap.size ≤ ad3_18; omega) hB
  have g18 : (((W19.setCell ⟨ad3_18,0,none⟩ (.bool b5)).setCell ⟨ad3_18,1,none⟩ (.slice B5 m5 d5)).setCell ⟨ad3_18,2,none⟩ (.slice E5 u5 v5)).cell? ⟨ad3_18,0,none⟩ = some (.bool b5) := kz2.cell 0
  have e18 : (((W19.setCell ⟨ad3_18,0,none⟩ (.bool b5)).setCell ⟨ad3_18,1,none⟩ (.slice B5 m5 d5)).setCell ⟨ad3_18,2,none⟩ (.slice E5 u5 v5)).cell? ⟨ad3_18,1,none⟩ = some (.slice B5 m5 d5) := kz2.cell 1
  have i18 : (((W19.setCell ⟨ad3_18,0,none⟩ (.bool b5)).setCell ⟨ad3_18,1,none⟩ (.slice B5 m5 d5)).setCell ⟨ad3_18,2,none⟩ (.slice E5 u5 v5)).cell? ⟨ad3_18,2,none⟩ = some (.slice E5 u5 v5) := kz2.cell 2
  have k18 := kz2
  refine rc 3 (fun K hK => ?_)
  go_simp
  refine hK.out _ _ (cs3 (.bool b5) (.slice B5 m5 d5) (.slice E5 u5 v5) hHeld) (fun hHeld => ?_); clear hK K
  try simp only [sb9]
  clear sc0 sf0 sc1 sf1 sc2 sf2 kz2
  generalize ((W19.setCell ⟨ad3_18,0,none⟩ (.bool b5)).setCell ⟨ad3_18,1,none⟩ (.slice B5 m5 d5)).setCell ⟨ad3_18,2,none⟩ (.slice E5 u5 v5) = W20 at *
  refine rdn ?_
  clear hHeld
  go_wp2_with fail
  have HZ19 : Hid (SzQ (K + K) (zdP x y)) := SzQ.min HZ3.out HZ4.out
  have C0 := lh9 (fun w' (h : Below W20.heap.size W20 w') => (HQC.out.g1 M1).min (x) (y) b3 b4 B3 B4 m3 m4 d3 d4 E3 E4 u3 u4 v3 v4 w' (HT.out _ (zad hB h)) (HN3.out.below h) (HN4.out.below h) (szq HZ3 HN3.out) (szq HZ4 HN4.out))
  have C1 := lh9 (fun w' (h : Below W20.heap.size W20 w') b19 B19 m19 d19 E19 u19 v19 (hw19 : zam w' (zdP x y) b19 B19 m19 d19 E19 u19 v19) => zeo hTb HIC.out HQC.out (zdP x y) (K + K) b19 B19 m19 d19 E19 u19 v19 b6 B6 m6 d6 E6 u6 v6 w' (by omega) HZ19.out hw19 (zck.to (by unfold zdP; rw [if_neg (by have := HC.out; have := Hq1.out; omega)]) (HN6.out.below h)) (HT.out _ (zad hB h)))
  have HZ20 : Hid (SzQ (K + K) (zdQ x y)) := SzQ.max HZ3.out HZ4.out
  have C2 := lh9 (fun w' (h : Below W20.heap.size W20 w') => (HQC.out.g1 M1).max (x) (y) b3 b4 B3 B4 m3 m4 d3 d4 E3 E4 u3 u4 v3 v4 w' (HT.out _ (zad hB h)) (HN3.out.below h) (HN4.out.below h) (szq HZ3 HN3.out) (szq HZ4 HN4.out))
  have C3 := lh9 (fun w' (h : Below W20.heap.size W20 w') b20 B20 m20 d20 E20 u20 v20 (hw20 : zam w' (zdQ x y) b20 B20 m20 d20 E20 u20 v20) => zeo hTb HIC.out HQC.out (zdQ x y) (K + K) b20 B20 m20 d20 E20 u20 v20 b5 B5 m5 d5 E5 u5 v5 w' (by omega) HZ20.out hw20 (zck.to (by unfold zdQ; rw [if_neg (by have := HC.out; have := Hq1.out; omega)]) (HN5.out.below h)) (HT.out _ (zad hB h)))
  have hBw := (Below.refl W20.heap.size W20).drew
  refine rg (csc g7 (csc e7 (csc i7 (csc g8 (csc e8 (csc i8 (csc g17 (csc e17 (csc i17 (csc g18 (csc e18 (csc i18 csn)))))))))))) (fun hHeld => ?_)
  refine tk 0 ?_
  refine tk 1 ?_
  refine tk 3 ?_
  refine rc 2 (fun K hK => ?_)
  go_simp
  go_at_call 39; (with_reducible refine (C0.out _ hBw).mono ?_); rintro e wa21 ⟨b19,B19,m19,d19,E19,u19,v19,rfl,hw19,hb⟩; have hBw := zad hBw hb; refine hK.out _ _ (Cs.below hHeld hb) (fun hHeld => ?_); clear hK K hb
  try simp only [sb9]
  refine rc 4 (fun K hK => ?_)
  go_simp
  go_at_call 14; (with_reducible refine (C1.out _ hBw _ _ _ _ _ _ _ hw19).mono ?_); rintro e wa22 ⟨rfl,hb⟩; have hBw := zad hBw hb; have hw19 := hw19.below hb; refine hK.out _ _ (Cs.below hHeld hb) (fun hHeld => ?_); clear hK K hb
  try simp only [sb9]
  refine tk 5 ?_
  refine tk 6 ?_
  refine tk 7 ?_
  refine tk 9 ?_
  refine rc 8 (fun K hK => ?_)
  go_simp
  go_at_call 40; (with_reducible refine (C2.out _ hBw).mono ?_); rintro e wa23 ⟨b20,B20,m20,d20,E20,u20,v20,rfl,hw20,hb⟩; have hBw := zad hBw hb; have hw19 := hw19.below hb; refine hK.out _ _ (Cs.below hHeld hb) (fun hHeld => ?_); clear hK K hb
  try simp only [sb9]
  refine rc 10 (fun K hK => ?_)
  go_simp
  go_at_call 14; (with_reducible refine (C3.out _ hBw _ _ _ _ _ _ _ hw20).mono ?_); rintro e wa24 ⟨rfl,hb⟩; have hBw := zad hBw hb; have hw19 := hw19.below hb; have hw20 := hw20.below hb; refine hK.out _ _ (Cs.below hHeld hb) (fun hHeld => ?_); clear hK K hb
  try simp only [sb9]
  refine tk 11 ?_
  refine tk 12 ?_
  refine rdn ?_
  have hB := zad hB hBw
  have g1 := zac hBw g1
  have e1 := zac hBw e1
  have i1 := zac hBw i1
  have g2 := zac hBw g2
  have e2 := zac hBw e2
  have i2 := zac hBw i2
  have g7 := zac hBw g7
  have e7 := zac hBw e7
  have i7 := zac hBw i7
  have g8 := zac hBw g8
  have e8 := zac hBw e8
  have i8 := zac hBw i8
  have g9 := zac hBw g9
  have e9 := zac hBw e9
  have i9 := zac hBw i9
  have g10 := zac hBw g10
  have e10 := zac hBw e10
  have i10 := zac hBw i10
  have HN3 := lh9 (HN3.out.below hBw)
  have HN4 := lh9 (HN4.out.below hBw)
  have HN5 := lh9 (HN5.out.below hBw)
  have HN6 := lh9 (HN6.out.below hBw)
  have HN11 := lh9 (HN11.out.below hBw)
  have HN12 := lh9 (HN12.out.below hBw)
  have HN13 := lh9 (HN13.out.below hBw)
  have HN14 := lh9 (HN14.out.below hBw)
  have HN15 := lh9 (HN15.out.below hBw)
  have HN16 := lh9 (HN16.out.below hBw)
  have k17 := zae hBw k17
  have k18 := zae hBw k18
  have g17 := zac hBw g17
  have e17 := zac hBw e17
  have i17 := zac hBw i17
  have g18 := zac hBw g18
  have e18 := zac hBw e18
  have i18 := zac hBw i18
  have HN19 := lh9 hw19
  have HN20 := lh9 hw20
  clear hBw hHeld hw19 hw20 C0 C1 C2 C3
  go_wp2
  go_ret
  exact ⟨by first | rfl | simp,hB⟩
theorem ratOrders_core {T : World → Prop} {M : Nat → Prop} (hTb : ∀ w w',T w → Below w.heap.size w w' → T w') (IC : IntC T) (QC : RatC T M) (M1 : M 1) (s0 : Bool) (A0 : oA9) (n0 c0 : Nat) (l0 : List Nat) (E0 : oA9) (u0 v0 : Nat) (e0 : List Nat) (s1 : Bool) (A1 : oA9) (n1 c1 : Nat) (l1 : List Nat) (E1 : oA9) (u1 v1 : Nat) (e1 : List Nat) (w : World) (h0 : zau w A0 n0 c0 l0) (k0 : zau w E0 u0 v0 e0) (h1 : zau w A1 n1 c1 l1) (k1 : zau w E1 u1 v1 e1) (hT : T w) :
  Calls Tryz.prog 5 #[.agg #[.bool s0,.slice A0 n0 c0,.slice E0 u0 v0],.agg #[.bool s1,.slice A1 n1 c1,.slice E1 u1 v1]] w fun e w' => e = .returned (.bool true) ∧ Below w.heap.size w w' := by
 obtain ⟨ta,ha⟩ := zfX s0 A0 n0 c0 E0 u0 v0
 obtain ⟨tb,hb⟩ := zfX s1 A1 n1 c1 E1 u1 v1
 cases ta
 ·exact zjC hTb IC QC M1 s0 A0 n0 c0 l0 E0 u0 v0 e0 s1 A1 n1 c1 l1 E1 u1 v1 e1 w h0 k0 h1 k1 ha hT
 ·cases tb
  ·exact ziG hTb IC QC M1 s0 A0 n0 c0 l0 E0 u0 v0 e0 s1 A1 n1 c1 l1 E1 u1 v1 e1 w h0 k0 h1 k1 ha hb hT
  ·exact zit hTb IC QC M1 s0 A0 n0 c0 l0 E0 u0 v0 e0 s1 A1 n1 c1 l1 E1 u1 v1 e1 w h0 k0 h1 k1 ha hb hT
end Go.Proofs.YtgigccjiblaefaaGreatDoor
