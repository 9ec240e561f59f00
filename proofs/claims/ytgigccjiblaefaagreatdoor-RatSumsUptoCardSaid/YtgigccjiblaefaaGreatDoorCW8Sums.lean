/- What this claim leans on. -/
import Derived.Test.YtgigccjiblaefaaGreatDoorCW8Awake
import Derived.Test.YtgigccjiblaefaaGreatDoorCW8Make
import Derived.Test.YtgigccjiblaefaaGreatDoorCW8Like
namespace Go.Proofs.YtgigccjiblaefaaGreatDoor
open Go Go.RowKit
set_option maxHeartbeats 16000000
set_option maxRecDepth 100000
set_option linter.unusedVariables false
set_option linter.unusedSimpArgs false
theorem zlu {T : World → Prop} {M : Nat → Prop} (hTb : ∀ w w',T w → Below w.heap.size w w' → T w') (IC : IntC T) (QC : RatC T M) (M0 : M 0) (s0 : Bool) (A0 : oA9) (n0 c0 : Nat) (l0 : List Nat) (E0 : oA9) (u0 v0 : Nat) (e0 : List Nat) (s1 : Bool) (A1 : oA9) (n1 c1 : Nat) (l1 : List Nat) (E1 : oA9) (u1 v1 : Nat) (e1 : List Nat) (w : World) (h0 : zaw w A0 n0 c0 l0) (k0 : zaw w E0 u0 v0 e0) (h1 : zaw w A1 n1 c1 l1) (k1 : zaw w E1 u1 v1 e1) (sm0 : ∀ w : World,Calls Tryz.prog 19 #[.agg #[.bool s0,.slice A0 n0 c0,.slice E0 u0 v0],.int .i64 4] w fun e w' => e = .returned (.bool false) ∧ Below w.heap.size w w') (hT : T w) :
  Calls Tryz.prog 4 #[.agg #[.bool s0,.slice A0 n0 c0,.slice E0 u0 v0],.agg #[.bool s1,.slice A1 n1 c1,.slice E1 u1 v1]] w fun e w' => e = .returned (.bool true) ∧ Below w.heap.size w w' := by
 have HAW := lh9 (fun w' (hb : Below w.heap.size w w') => zew hTb IC QC w' (hTb w w' hT hb))
 have HIC := lh9 IC
 have HQC := lh9 QC
 have HT := lh9 (fun w' (hb : Below w.heap.size w w') => hTb w w' hT hb)
 obtain ⟨K,hK⟩ : ∃ K,1048576 = K := ⟨_,rfl⟩
 have hKK : K ≤ 1048576 := by omega
 have hK0 : 0 < K := by omega
 have HM0 := lh9 (fun w' (hb : Below w.heap.size w w') => zcH hTb IC QC s0 A0 n0 c0 l0 E0 u0 v0 e0 w' ⟨(h0.reads.below hb).more hb.size,h0.dgs,h0.fits,h0.small⟩ ⟨(k0.reads.below hb).more hb.size,k0.dgs,k0.fits,k0.small⟩ (hTb w w' hT hb))
 have S0 : SzQ 1048576 (fOf s0 l0 e0) := zfm h0 k0
 rw [hK] at S0
 obtain ⟨x,hz0⟩ : ∃ x,fOf s0 l0 e0 = x := ⟨_,rfl⟩
 rw [hz0] at HM0 S0
 have HS0 := lh9 S0
 have HM1 := lh9 (fun w' (hb : Below w.heap.size w w') => zcH hTb IC QC s1 A1 n1 c1 l1 E1 u1 v1 e1 w' ⟨(h1.reads.below hb).more hb.size,h1.dgs,h1.fits,h1.small⟩ ⟨(k1.reads.below hb).more hb.size,k1.dgs,k1.fits,k1.small⟩ (hTb w w' hT hb))
 have S1 : SzQ 1048576 (fOf s1 l1 e1) := zfm h1 k1
 rw [hK] at S1
 obtain ⟨y,hz1⟩ : ∃ x,fOf s1 l1 e1 = x := ⟨_,rfl⟩
 rw [hz1] at HM1 S1
 have HS1 := lh9 S1
 have HR0 := lh9 (fun w' (hb : Below w.heap.size w w') => zde s0 A0 n0 c0 l0 E0 u0 v0 e0 w' ⟨(h0.reads.below hb).more hb.size,h0.dgs,h0.fits,h0.small⟩ ⟨(k0.reads.below hb).more hb.size,k0.dgs,k0.fits,k0.small⟩)
 rw [hz0] at HR0
 have HR1 := lh9 (fun w' (hb : Below w.heap.size w w') => zde s1 A1 n1 c1 l1 E1 u1 v1 e1 w' ⟨(h1.reads.below hb).more hb.size,h1.dgs,h1.fits,h1.small⟩ ⟨(k1.reads.below hb).more hb.size,k1.dgs,k1.fits,k1.small⟩)
 rw [hz1] at HR1
 have HSM0 := lh9 sm0
 clear IC QC hT h0 k0 hz0 S0 h1 k1 hz1 S1 hK sm0
 go_enter Tryz.func4,Tryz.ntmps4
 have hB := Below.refl w.heap.size w
 obtain ⟨bx1,bx2,bx3,bz⟩ := zaR w 48 48 #[.bool s0,.slice A0 n0 c0,.slice E0 u0 v0] #[.bool s1,.slice A1 n1 c1,.slice E1 u1 v1]
 have hB := zad hB bx1
 obtain ⟨g1,e1,i1⟩ := bx2.c3
 obtain ⟨g2,e2,i2⟩ := bx3.c3
 clear bx1 bx2 bx3 bz
 go_wp2_with fail
 generalize (w.alloc (.cells #[.bool s0,.slice A0 n0 c0,.slice E0 u0 v0] 48)).alloc (.cells #[.bool s1,.slice A1 n1 c1,.slice E1 u1 v1] 48) = W1 at *
 (with_reducible refine (HAW.out _ hB).mono ?_)
 rintro e wc2 ⟨rfl,hb⟩
 have hB := zad hB hb
 have g1 := zac hb g1
 have e1 := zac hb e1
 have i1 := zac hb i1
 have g2 := zac hb g2
 have e2 := zac hb e2
 have i2 := zac hb i2
 clear hb 
 go_wp2_with fail
 (with_reducible refine (HSM0.out _).mono ?_)
 rintro e wc3 ⟨rfl,hb⟩
 have hB := zad hB hb
 have g1 := zac hb g1
 have e1 := zac hb e1
 have i1 := zac hb i1
 have g2 := zac hb g2
 have e2 := zac hb e2
 have i2 := zac hb i2
 clear hb 
 go_wp2
 go_ret
 exact ⟨by first | rfl | simp,hB⟩
theorem zlv {T : World → Prop} {M : Nat → Prop} (hTb : ∀ w w',T w → Below w.heap.size w w' → T w') (IC : IntC T) (QC : RatC T M) (M0 : M 0) (s0 : Bool) (A0 : oA9) (n0 c0 : Nat) (l0 : List Nat) (E0 : oA9) (u0 v0 : Nat) (e0 : List Nat) (s1 : Bool) (A1 : oA9) (n1 c1 : Nat) (l1 : List Nat) (E1 : oA9) (u1 v1 : Nat) (e1 : List Nat) (w : World) (h0 : zaw w A0 n0 c0 l0) (k0 : zaw w E0 u0 v0 e0) (h1 : zaw w A1 n1 c1 l1) (k1 : zaw w E1 u1 v1 e1) (sm0 : ∀ w : World,Calls Tryz.prog 19 #[.agg #[.bool s0,.slice A0 n0 c0,.slice E0 u0 v0],.int .i64 4] w fun e w' => e = .returned (.bool true) ∧ Below w.heap.size w w') (sm1 : ∀ w : World,Calls Tryz.prog 19 #[.agg #[.bool s1,.slice A1 n1 c1,.slice E1 u1 v1],.int .i64 4] w fun e w' => e = .returned (.bool false) ∧ Below w.heap.size w w') (hT : T w) :
  Calls Tryz.prog 4 #[.agg #[.bool s0,.slice A0 n0 c0,.slice E0 u0 v0],.agg #[.bool s1,.slice A1 n1 c1,.slice E1 u1 v1]] w fun e w' => e = .returned (.bool true) ∧ Below w.heap.size w w' := by
 have HAW := lh9 (fun w' (hb : Below w.heap.size w w') => zew hTb IC QC w' (hTb w w' hT hb))
 have HIC := lh9 IC
 have HQC := lh9 QC
 have HT := lh9 (fun w' (hb : Below w.heap.size w w') => hTb w w' hT hb)
 obtain ⟨K,hK⟩ : ∃ K,1048576 = K := ⟨_,rfl⟩
 have hKK : K ≤ 1048576 := by omega
 have hK0 : 0 < K := by omega
 have HM0 := lh9 (fun w' (hb : Below w.heap.size w w') => zcH hTb IC QC s0 A0 n0 c0 l0 E0 u0 v0 e0 w' ⟨(h0.reads.below hb).more hb.size,h0.dgs,h0.fits,h0.small⟩ ⟨(k0.reads.below hb).more hb.size,k0.dgs,k0.fits,k0.small⟩ (hTb w w' hT hb))
 have S0 : SzQ 1048576 (fOf s0 l0 e0) := zfm h0 k0
 rw [hK] at S0
 obtain ⟨x,hz0⟩ : ∃ x,fOf s0 l0 e0 = x := ⟨_,rfl⟩
 rw [hz0] at HM0 S0
 have HS0 := lh9 S0
 have HM1 := lh9 (fun w' (hb : Below w.heap.size w w') => zcH hTb IC QC s1 A1 n1 c1 l1 E1 u1 v1 e1 w' ⟨(h1.reads.below hb).more hb.size,h1.dgs,h1.fits,h1.small⟩ ⟨(k1.reads.below hb).more hb.size,k1.dgs,k1.fits,k1.small⟩ (hTb w w' hT hb))
 have S1 : SzQ 1048576 (fOf s1 l1 e1) := zfm h1 k1
 rw [hK] at S1
 obtain ⟨y,hz1⟩ : ∃ x,fOf s1 l1 e1 = x := ⟨_,rfl⟩
 rw [hz1] at HM1 S1
 have HS1 := lh9 S1
 have HR0 := lh9 (fun w' (hb : Below w.heap.size w w') => zde s0 A0 n0 c0 l0 E0 u0 v0 e0 w' ⟨(h0.reads.below hb).more hb.size,h0.dgs,h0.fits,h0.small⟩ ⟨(k0.reads.below hb).more hb.size,k0.dgs,k0.fits,k0.small⟩)
 rw [hz0] at HR0
 have HR1 := lh9 (fun w' (hb : Below w.heap.size w w') => zde s1 A1 n1 c1 l1 E1 u1 v1 e1 w' ⟨(h1.reads.below hb).more hb.size,h1.dgs,h1.fits,h1.small⟩ ⟨(k1.reads.below hb).more hb.size,k1.dgs,k1.fits,k1.small⟩)
 rw [hz1] at HR1
 have HSM0 := lh9 sm0
 have HSM1 := lh9 sm1
 clear IC QC hT h0 k0 hz0 S0 h1 k1 hz1 S1 hK sm0 sm1
 go_enter Tryz.func4,Tryz.ntmps4
 have hB := Below.refl w.heap.size w
 obtain ⟨bx1,bx2,bx3,bz⟩ := zaR w 48 48 #[.bool s0,.slice A0 n0 c0,.slice E0 u0 v0] #[.bool s1,.slice A1 n1 c1,.slice E1 u1 v1]
 have hB := zad hB bx1
 obtain ⟨g1,e1,i1⟩ := bx2.c3
 obtain ⟨g2,e2,i2⟩ := bx3.c3
 clear bx1 bx2 bx3 bz
 go_wp2_with fail
 generalize (w.alloc (.cells #[.bool s0,.slice A0 n0 c0,.slice E0 u0 v0] 48)).alloc (.cells #[.bool s1,.slice A1 n1 c1,.slice E1 u1 v1] 48) = W1 at *
 (with_reducible refine (HAW.out _ hB).mono ?_)
 rintro e wc2 ⟨rfl,hb⟩
 have hB := zad hB hb
 have g1 := zac hb g1
 have e1 := zac hb e1
 have i1 := zac hb i1
 have g2 := zac hb g2
 have e2 := zac hb e2
 have i2 := zac hb i2
 clear hb 
 go_wp2_with fail
 (with_reducible refine (HSM0.out _).mono ?_)
 rintro e wc3 ⟨rfl,hb⟩
 have hB := zad hB hb
 have g1 := zac hb g1
 have e1 := zac hb e1
 have i1 := zac hb i1
 have g2 := zac hb g2
 have e2 := zac hb e2
 have i2 := zac hb i2
 clear hb 
 go_wp2_with fail
 (with_reducible refine (HSM1.out _).mono ?_)
 rintro e wc4 ⟨rfl,hb⟩
 have hB := zad hB hb
 have g1 := zac hb g1
 have e1 := zac hb e1
 have i1 := zac hb i1
 have g2 := zac hb g2
 have e2 := zac hb e2
 have i2 := zac hb i2
 clear hb 
 go_wp2
 go_ret
 exact ⟨by first | rfl | simp,hB⟩
theorem zlh {T : World → Prop} {M : Nat → Prop} (hTb : ∀ w w',T w → Below w.heap.size w w' → T w') (IC : IntC T) (QC : RatC T M) (M0 : M 0) (s0 : Bool) (A0 : oA9) (n0 c0 : Nat) (l0 : List Nat) (E0 : oA9) (u0 v0 : Nat) (e0 : List Nat) (s1 : Bool) (A1 : oA9) (n1 c1 : Nat) (l1 : List Nat) (E1 : oA9) (u1 v1 : Nat) (e1 : List Nat) (w : World) (h0 : zaw w A0 n0 c0 l0) (k0 : zaw w E0 u0 v0 e0) (h1 : zaw w A1 n1 c1 l1) (k1 : zaw w E1 u1 v1 e1) (sm0 : ∀ w : World,Calls Tryz.prog 19 #[.agg #[.bool s0,.slice A0 n0 c0,.slice E0 u0 v0],.int .i64 4] w fun e w' => e = .returned (.bool true) ∧ Below w.heap.size w w') (sm1 : ∀ w : World,Calls Tryz.prog 19 #[.agg #[.bool s1,.slice A1 n1 c1,.slice E1 u1 v1],.int .i64 4] w fun e w' => e = .returned (.bool true) ∧ Below w.heap.size w w') (hT : T w) :
  Calls Tryz.prog 4 #[.agg #[.bool s0,.slice A0 n0 c0,.slice E0 u0 v0],.agg #[.bool s1,.slice A1 n1 c1,.slice E1 u1 v1]] w fun e w' => e = .returned (.bool true) ∧ Below w.heap.size w w' := by
 have HAW := lh9 (fun w' (hb : Below w.heap.size w w') => zew hTb IC QC w' (hTb w w' hT hb))
 have HIC := lh9 IC
 have HQC := lh9 QC
 have HT := lh9 (fun w' (hb : Below w.heap.size w w') => hTb w w' hT hb)
 obtain ⟨K,hK⟩ : ∃ K,1048576 = K := ⟨_,rfl⟩
 have hKK : K ≤ 1048576 := by omega
 have hK0 : 0 < K := by omega
 have HM0 := lh9 (fun w' (hb : Below w.heap.size w w') => zcH hTb IC QC s0 A0 n0 c0 l0 E0 u0 v0 e0 w' ⟨(h0.reads.below hb).more hb.size,h0.dgs,h0.fits,h0.small⟩ ⟨(k0.reads.below hb).more hb.size,k0.dgs,k0.fits,k0.small⟩ (hTb w w' hT hb))
 have S0 : SzQ 1048576 (fOf s0 l0 e0) := zfm h0 k0
 rw [hK] at S0
 obtain ⟨x,hz0⟩ : ∃ x,fOf s0 l0 e0 = x := ⟨_,rfl⟩
 rw [hz0] at HM0 S0
 have HS0 := lh9 S0
 have HM1 := lh9 (fun w' (hb : Below w.heap.size w w') => zcH hTb IC QC s1 A1 n1 c1 l1 E1 u1 v1 e1 w' ⟨(h1.reads.below hb).more hb.size,h1.dgs,h1.fits,h1.small⟩ ⟨(k1.reads.below hb).more hb.size,k1.dgs,k1.fits,k1.small⟩ (hTb w w' hT hb))
 have S1 : SzQ 1048576 (fOf s1 l1 e1) := zfm h1 k1
 rw [hK] at S1
 obtain ⟨y,hz1⟩ : ∃ x,fOf s1 l1 e1 = x := ⟨_,rfl⟩
 rw [hz1] at HM1 S1
 have HS1 := lh9 S1
 have HR0 := lh9 (fun w' (hb : Below w.heap.size w w') => zde s0 A0 n0 c0 l0 E0 u0 v0 e0 w' ⟨(h0.reads.below hb).more hb.size,h0.dgs,h0.fits,h0.small⟩ ⟨(k0.reads.below hb).more hb.size,k0.dgs,k0.fits,k0.small⟩)
 rw [hz0] at HR0
 have HR1 := lh9 (fun w' (hb : Below w.heap.size w w') => zde s1 A1 n1 c1 l1 E1 u1 v1 e1 w' ⟨(h1.reads.below hb).more hb.size,h1.dgs,h1.fits,h1.small⟩ ⟨(k1.reads.below hb).more hb.size,k1.dgs,k1.fits,k1.small⟩)
 rw [hz1] at HR1
 have HSM0 := lh9 sm0
 have HSM1 := lh9 sm1
 have HCASE : Hid (y = 0 ∨ y ≠ 0) := Decidable.em _
 clear IC QC hT h0 k0 hz0 S0 h1 k1 hz1 S1 hK sm0 sm1
 go_enter Tryz.func4,Tryz.ntmps4
 have hB := Below.refl w.heap.size w
 obtain ⟨bx1,bx2,bx3,bz⟩ := zaR w 48 48 #[.bool s0,.slice A0 n0 c0,.slice E0 u0 v0] #[.bool s1,.slice A1 n1 c1,.slice E1 u1 v1]
 have hB := zad hB bx1
 obtain ⟨g1,e1,i1⟩ := bx2.c3
 obtain ⟨g2,e2,i2⟩ := bx3.c3
 clear bx1 bx2 bx3 bz
 go_wp2_with fail
 generalize (w.alloc (.cells #[.bool s0,.slice A0 n0 c0,.slice E0 u0 v0] 48)).alloc (.cells #[.bool s1,.slice A1 n1 c1,.slice E1 u1 v1] 48) = W1 at *
 (with_reducible refine (HAW.out _ hB).mono ?_)
 rintro e wc2 ⟨rfl,hb⟩
 have hB := zad hB hb
 have g1 := zac hb g1
 have e1 := zac hb e1
 have i1 := zac hb i1
 have g2 := zac hb g2
 have e2 := zac hb e2
 have i2 := zac hb i2
 clear hb 
 go_wp2_with fail
 (with_reducible refine (HSM0.out _).mono ?_)
 rintro e wc3 ⟨rfl,hb⟩
 have hB := zad hB hb
 have g1 := zac hb g1
 have e1 := zac hb e1
 have i1 := zac hb i1
 have g2 := zac hb g2
 have e2 := zac hb e2
 have i2 := zac hb i2
 clear hb 
 go_wp2_with fail
 (with_reducible refine (HSM1.out _).mono ?_)
 rintro e wc4 ⟨rfl,hb⟩
 have hB := zad hB hb
 have g1 := zac hb g1
 have e1 := zac hb e1
 have i1 := zac hb i1
 have g2 := zac hb g2
 have e2 := zac hb e2
 have i2 := zac hb i2
 clear hb 
 go_wp2_with fail
 have HZ3 : Hid (SzQ (K) (x)) := HS0.out
 have C0 := lh9 (fun w' (h : Below wc4.heap.size wc4 w') => HM0.out _ (zad hB h))
 have HZ4 : Hid (SzQ (K) (y)) := HS1.out
 have C1 := lh9 (fun w' (h : Below wc4.heap.size wc4 w') => HM1.out _ (zad hB h))
 have HZ5 : Hid (SzQ (K) (x)) := HS0.out
 have C2 := lh9 (fun w' (h : Below wc4.heap.size wc4 w') => HR0.out _ (zad hB h))
 have HZ6 : Hid (SzQ (K) (y)) := HS1.out
 have C3 := lh9 (fun w' (h : Below wc4.heap.size wc4 w') => HR1.out _ (zad hB h))
 have GG := lh9 (fun w' (h : Below wc4.heap.size wc4 w') => (csc (zac h g1) (csc (zac h e1) (csc (zac h i1) (csc (zac h g2) (csc (zac h e2) (csc (zac h i2) csn)))))))
 refine rgB (fun hHeld => ?_)
 refine tl 0 GG.out ?_
 refine tl 2 GG.out ?_
 refine tl 4 GG.out ?_
 refine tl 6 GG.out ?_
 refine zaY (L := #[true,true,true,true,true,true,true,true,true,true,true,true,true,true,true,true])
  (J := fun a0 l a w' => ∃ (fl1 fl3 fl5 fl7 fl8 fl9 fl10 fl11 fl12 fl13 fl14 fl15 b3 : Bool) (B3 : oA9) (m3 d3 : Nat) (E3 : oA9) (u3 v3 : Nat) (b4 : Bool) (B4 : oA9) (m4 d4 : Nat) (E4 : oA9) (u4 v4 : Nat) (b5 : Bool) (B5 : oA9) (m5 d5 : Nat) (E5 : oA9) (u5 v5 : Nat) (b6 : Bool) (B6 : oA9) (m6 d6 : Nat) (E6 : oA9) (u6 v6 ad8 ad9 ad10 ad11 : Nat),l = #[true,fl1,true,fl3,true,fl5,true,fl7,fl8,fl9,fl10,fl11,fl12,fl13,fl14,fl15] ∧ zbQ [22,24,26,28,5,6,7,8] a0 a ∧ Hid (Below wc4.heap.size wc4 w') ∧
    Hid (Gd fl1 (a.tmps.getD 22 undef = .agg #[.bool b3,.slice B3 m3 d3,.slice E3 u3 v3] ∧ zam w' (x) b3 B3 m3 d3 E3 u3 v3)) ∧
    Hid (Gd fl3 (a.tmps.getD 24 undef = .agg #[.bool b4,.slice B4 m4 d4,.slice E4 u4 v4] ∧ zam w' (y) b4 B4 m4 d4 E4 u4 v4)) ∧
    Hid (Gd fl5 (a.tmps.getD 26 undef = .agg #[.bool b5,.slice B5 m5 d5,.slice E5 u5 v5] ∧ zbF w' (x) b5 B5 m5 d5 E5 u5 v5)) ∧
    Hid (Gd fl7 (a.tmps.getD 28 undef = .agg #[.bool b6,.slice B6 m6 d6,.slice E6 u6 v6] ∧ zbF w' (y) b6 B6 m6 d6 E6 u6 v6)) ∧
    Hid (Gd fl8 (a.tmps.getD 5 undef = .pointer (some ⟨ad8,0,none⟩) ∧ wc4.heap.size ≤ ad8 ∧ Blk w' ad8 31 (bif fl12 then #[.bool b3,.slice B3 m3 d3,.slice E3 u3 v3] else #[.bool false,.slice none 0 0,.slice none 0 0]))) ∧
    Hid (Gd fl9 (a.tmps.getD 6 undef = .pointer (some ⟨ad9,0,none⟩) ∧ wc4.heap.size ≤ ad9 ∧ Blk w' ad9 31 (bif fl13 then #[.bool b4,.slice B4 m4 d4,.slice E4 u4 v4] else #[.bool false,.slice none 0 0,.slice none 0 0]))) ∧
    Hid (Gd fl10 (a.tmps.getD 7 undef = .pointer (some ⟨ad10,0,none⟩) ∧ wc4.heap.size ≤ ad10 ∧ Blk w' ad10 42 (bif fl14 then #[.bool b5,.slice B5 m5 d5,.slice E5 u5 v5] else #[.bool false,.slice none 0 0,.slice none 0 0]))) ∧
    Hid (Gd fl11 (a.tmps.getD 8 undef = .pointer (some ⟨ad11,0,none⟩) ∧ wc4.heap.size ≤ ad11 ∧ Blk w' ad11 42 (bif fl15 then #[.bool b6,.slice B6 m6 d6,.slice E6 u6 v6] else #[.bool false,.slice none 0 0,.slice none 0 0]))) ∧
    Hid (Gd fl8 (Gd fl9 (ad8 ≠ ad9))) ∧
    Hid (Gd fl8 (Gd fl10 (ad8 ≠ ad10))) ∧
    Hid (Gd fl8 (Gd fl11 (ad8 ≠ ad11))) ∧
    Hid (Gd fl9 (Gd fl10 (ad9 ≠ ad10))) ∧
    Hid (Gd fl9 (Gd fl11 (ad9 ≠ ad11))) ∧
    Hid (Gd fl10 (Gd fl11 (ad10 ≠ ad11))) ∧
    Hid (Gd fl3 (fl1 = true)) ∧
    Hid (Gd fl5 (fl3 = true)) ∧
    Hid (Gd fl7 (fl5 = true)) ∧
    Hid (Gd fl12 (fl1 = true)) ∧
    Hid (Gd fl12 (fl7 = true)) ∧
    Hid (Gd fl12 (fl8 = true)) ∧
    Hid (Gd fl13 (fl3 = true)) ∧
    Hid (Gd fl13 (fl9 = true)) ∧
    Hid (Gd fl13 (fl12 = true)) ∧
    Hid (Gd fl14 (fl5 = true)) ∧
    Hid (Gd fl14 (fl10 = true)) ∧
    Hid (Gd fl14 (fl13 = true)) ∧
    Hid (Gd fl15 (fl7 = true)) ∧
    Hid (Gd fl15 (fl11 = true)) ∧
    Hid (Gd fl15 (fl14 = true)))
  (by rfl) ?_ ?_ ?_
 ·exact ⟨false,false,false,false,false,false,false,false,false,false,false,false,false,none,0,0,none,0,0,false,none,0,0,none,0,0,false,none,0,0,none,0,0,false,none,0,0,none,0,0,0,0,0,0,by kernel_rfl,zbQ.refl _ _,hHeld,Gd.no,Gd.no,Gd.no,Gd.no,Gd.no,Gd.no,Gd.no,Gd.no,Gd.no,Gd.no,Gd.no,Gd.no,Gd.no,Gd.no,Gd.no,Gd.no,Gd.no,Gd.no,Gd.no,Gd.no,Gd.no,Gd.no,Gd.no,Gd.no,Gd.no,Gd.no,Gd.no,Gd.no,Gd.no⟩
 ·intro OPS Ac0 Q0 hO hAs hA
  have RB21 : Ac0.tmps.getD 21 undef = .agg #[.bool s0,.slice A0 n0 c0,.slice E0 u0 v0] := (hA 21 undef).trans (by kernel_rfl)
  have RB23 : Ac0.tmps.getD 23 undef = .agg #[.bool s1,.slice A1 n1 c1,.slice E1 u1 v1] := (hA 23 undef).trans (by kernel_rfl)
  have RB25 : Ac0.tmps.getD 25 undef = .agg #[.bool s0,.slice A0 n0 c0,.slice E0 u0 v0] := (hA 25 undef).trans (by kernel_rfl)
  have RB27 : Ac0.tmps.getD 27 undef = .agg #[.bool s1,.slice A1 n1 c1,.slice E1 u1 v1] := (hA 27 undef).trans (by kernel_rfl)
  have hsz : Ac0.tmps.size = 97 := hAs.trans (by kernel_rfl)
  clear hAs hA
  refine ⟨?_,?_⟩
  ·rintro l a w' ⟨fl1,fl3,fl5,fl7,fl8,fl9,fl10,fl11,fl12,fl13,fl14,fl15,b3,B3,m3,d3,E3,u3,v3,b4,B4,m4,d4,E4,u4,v4,b5,B5,m5,d5,E5,u5,v5,b6,B6,m6,d6,E6,u6,v6,ad8,ad9,ad10,ad11,rfl,-⟩ hr
   obtain rfl : fl1 = true := als 1 hr hO
   obtain rfl : fl3 = true := als 3 hr hO
   obtain rfl : fl5 = true := als 5 hr hO
   obtain rfl : fl7 = true := als 7 hr hO
   obtain rfl : fl8 = true := als 8 hr hO
   obtain rfl : fl9 = true := als 9 hr hO
   obtain rfl : fl10 = true := als 10 hr hO
   obtain rfl : fl11 = true := als 11 hr hO
   obtain rfl : fl12 = true := als 12 hr hO
   obtain rfl : fl13 = true := als 13 hr hO
   obtain rfl : fl14 = true := als 14 hr hO
   obtain rfl : fl15 = true := als 15 hr hO
   rfl
  ·rintro l a w' i ⟨fl1,fl3,fl5,fl7,fl8,fl9,fl10,fl11,fl12,fl13,fl14,fl15,b3,B3,m3,d3,E3,u3,v3,b4,B4,m4,d4,E4,u4,v4,b5,B5,m5,d5,E5,u5,v5,b6,B6,m6,d6,E6,u6,v6,ad8,ad9,ad10,ad11,rfl,HKp,hBi,qf1,qf3,qf5,qf7,qf8,qf9,qf10,qf11,qn8_9,qn8_10,qn8_11,qn9_10,qn9_11,qn10_11,qd3_1,qd5_3,qd7_5,qd12_1,qd12_7,qd12_8,qd13_3,qd13_9,qd13_12,qd14_5,qd14_10,qd14_13,qd15_7,qd15_11,qd15_14⟩ hne hi
   have hlt : i < 16 := by have := zbI hi; rw [hO] at this; exact this
   rcases (show i = 0 ∨ i = 1 ∨ i = 2 ∨ i = 3 ∨ i = 4 ∨ i = 5 ∨ i = 6 ∨ i = 7 ∨ i = 8 ∨ i = 9 ∨ i = 10 ∨ i = 11 ∨ i = 12 ∨ i = 13 ∨ i = 14 ∨ i = 15 by omega) with rfl | rfl | rfl | rfl | rfl | rfl | rfl | rfl | rfl | rfl | rfl | rfl | rfl | rfl | rfl | rfl
   ·cases (zai hi : true = false)
   ·obtain rfl : fl1 = false := zai hi
    obtain rfl : fl3 = false := Gd.off qd3_1.out
    obtain rfl : fl5 = false := Gd.off qd5_3.out
    obtain rfl : fl7 = false := Gd.off qd7_5.out
    obtain rfl : fl12 = false := Gd.off qd12_1.out
    obtain rfl : fl13 = false := Gd.off qd13_3.out
    obtain rfl : fl14 = false := Gd.off qd14_5.out
    obtain rfl : fl15 = false := Gd.off qd15_7.out
    have rd21 := HKp.get 21 (by decide) RB21
    refine wog hO (fun K' hK => ?_)
    go_simp
    refine (C0.out w' hBi.out).mono ?_
    rintro e w2 ⟨nb3,nB3,nm3,nd3,nE3,nu3,nv3,rfl,nhw3,hb⟩
    exact hK.out _ _ ⟨zad hBi.out hb,true,false,false,false,fl8,fl9,fl10,fl11,false,false,false,false,nb3,nB3,nm3,nd3,nE3,nu3,nv3,b4,B4,m4,d4,E4,u4,v4,b5,B5,m5,d5,E5,u5,v5,b6,B6,m6,d6,E6,u6,v6,ad8,ad9,ad10,ad11,by rfl,HKp.put (by decide) _,zad hBi.out hb,Gd.yes ⟨zax (HKp.lt (by rw [hsz]; decide)) _,nhw3⟩,Gd.no,Gd.no,Gd.no,kq qf8.out fun h => ⟨h.1,zae hb h.2⟩,kq qf9.out fun h => ⟨h.1,zae hb h.2⟩,kq qf10.out fun h => ⟨h.1,zae hb h.2⟩,kq qf11.out fun h => ⟨h.1,zae hb h.2⟩,qn8_9,qn8_10,qn8_11,qn9_10,qn9_11,qn10_11,Gd.no,Gd.no,Gd.no,Gd.no,Gd.no,Gd.no,Gd.no,Gd.no,Gd.no,Gd.no,Gd.no,Gd.no,Gd.no,Gd.no,Gd.no⟩
   ·cases (zai hi : true = false)
   ·obtain rfl : fl3 = false := zai hi
    obtain rfl : fl1 = true := rdp 1 1 hi hO
    obtain rfl : fl5 = false := Gd.off qd5_3.out
    obtain rfl : fl7 = false := Gd.off qd7_5.out
    obtain rfl : fl12 = false := Gd.off qd12_7.out
    obtain rfl : fl13 = false := Gd.off qd13_3.out
    obtain rfl : fl14 = false := Gd.off qd14_5.out
    obtain rfl : fl15 = false := Gd.off qd15_7.out
    have rd23 := HKp.get 23 (by decide) RB23
    refine wog hO (fun K' hK => ?_)
    go_simp
    refine (C1.out w' hBi.out).mono ?_
    rintro e w2 ⟨nb4,nB4,nm4,nd4,nE4,nu4,nv4,rfl,nhw4,hb⟩
    exact hK.out _ _ ⟨zad hBi.out hb,true,true,false,false,fl8,fl9,fl10,fl11,false,false,false,false,b3,B3,m3,d3,E3,u3,v3,nb4,nB4,nm4,nd4,nE4,nu4,nv4,b5,B5,m5,d5,E5,u5,v5,b6,B6,m6,d6,E6,u6,v6,ad8,ad9,ad10,ad11,by rfl,HKp.put (by decide) _,zad hBi.out hb,kq qf1.out fun h => (h).below hb,Gd.yes ⟨zax (HKp.lt (by rw [hsz]; decide)) _,nhw4⟩,Gd.no,Gd.no,kq qf8.out fun h => ⟨h.1,zae hb h.2⟩,kq qf9.out fun h => ⟨h.1,zae hb h.2⟩,kq qf10.out fun h => ⟨h.1,zae hb h.2⟩,kq qf11.out fun h => ⟨h.1,zae hb h.2⟩,qn8_9,qn8_10,qn8_11,qn9_10,qn9_11,qn10_11,fun _ => rfl,Gd.no,Gd.no,Gd.no,Gd.no,Gd.no,Gd.no,Gd.no,Gd.no,Gd.no,Gd.no,Gd.no,Gd.no,Gd.no,Gd.no⟩
   ·cases (zai hi : true = false)
   ·obtain rfl : fl5 = false := zai hi
    obtain rfl : fl3 = true := rdp 3 1 hi hO
    obtain rfl : fl1 = true := qd3_1.out.get
    obtain rfl : fl7 = false := Gd.off qd7_5.out
    obtain rfl : fl12 = false := Gd.off qd12_7.out
    obtain rfl : fl13 = false := Gd.off qd13_12.out
    obtain rfl : fl14 = false := Gd.off qd14_5.out
    obtain rfl : fl15 = false := Gd.off qd15_7.out
    have rd25 := HKp.get 25 (by decide) RB25
    refine wog hO (fun K' hK => ?_)
    go_simp
    refine (C2.out w' hBi.out).mono ?_
    rintro e w2 ⟨nb5,nB5,nm5,nd5,nE5,nu5,nv5,rfl,nhw5,hb⟩
    exact hK.out _ _ ⟨zad hBi.out hb,true,true,true,false,fl8,fl9,fl10,fl11,false,false,false,false,b3,B3,m3,d3,E3,u3,v3,b4,B4,m4,d4,E4,u4,v4,nb5,nB5,nm5,nd5,nE5,nu5,nv5,b6,B6,m6,d6,E6,u6,v6,ad8,ad9,ad10,ad11,by rfl,HKp.put (by decide) _,zad hBi.out hb,kq qf1.out fun h => (h).below hb,kq qf3.out fun h => (h).below hb,Gd.yes ⟨zax (HKp.lt (by rw [hsz]; decide)) _,nhw5⟩,Gd.no,kq qf8.out fun h => ⟨h.1,zae hb h.2⟩,kq qf9.out fun h => ⟨h.1,zae hb h.2⟩,kq qf10.out fun h => ⟨h.1,zae hb h.2⟩,kq qf11.out fun h => ⟨h.1,zae hb h.2⟩,qn8_9,qn8_10,qn8_11,qn9_10,qn9_11,qn10_11,fun _ => rfl,fun _ => rfl,Gd.no,Gd.no,Gd.no,Gd.no,Gd.no,Gd.no,Gd.no,Gd.no,Gd.no,Gd.no,Gd.no,Gd.no,Gd.no⟩
   ·cases (zai hi : true = false)
   ·obtain rfl : fl7 = false := zai hi
    obtain rfl : fl5 = true := rdp 5 1 hi hO
    obtain rfl : fl3 = true := qd5_3.out.get
    obtain rfl : fl1 = true := qd3_1.out.get
    obtain rfl : fl12 = false := Gd.off qd12_7.out
    obtain rfl : fl13 = false := Gd.off qd13_12.out
    obtain rfl : fl14 = false := Gd.off qd14_13.out
    obtain rfl : fl15 = false := Gd.off qd15_7.out
    have rd27 := HKp.get 27 (by decide) RB27
    refine wog hO (fun K' hK => ?_)
    go_simp
    refine (C3.out w' hBi.out).mono ?_
    rintro e w2 ⟨nb6,nB6,nm6,nd6,nE6,nu6,nv6,rfl,nhw6,hb⟩
    exact hK.out _ _ ⟨zad hBi.out hb,true,true,true,true,fl8,fl9,fl10,fl11,false,false,false,false,b3,B3,m3,d3,E3,u3,v3,b4,B4,m4,d4,E4,u4,v4,b5,B5,m5,d5,E5,u5,v5,nb6,nB6,nm6,nd6,nE6,nu6,nv6,ad8,ad9,ad10,ad11,by rfl,HKp.put (by decide) _,zad hBi.out hb,kq qf1.out fun h => (h).below hb,kq qf3.out fun h => (h).below hb,kq qf5.out fun h => (h).below hb,Gd.yes ⟨zax (HKp.lt (by rw [hsz]; decide)) _,nhw6⟩,kq qf8.out fun h => ⟨h.1,zae hb h.2⟩,kq qf9.out fun h => ⟨h.1,zae hb h.2⟩,kq qf10.out fun h => ⟨h.1,zae hb h.2⟩,kq qf11.out fun h => ⟨h.1,zae hb h.2⟩,qn8_9,qn8_10,qn8_11,qn9_10,qn9_11,qn10_11,fun _ => rfl,fun _ => rfl,fun _ => rfl,Gd.no,Gd.no,Gd.no,Gd.no,Gd.no,Gd.no,Gd.no,Gd.no,Gd.no,Gd.no,Gd.no,Gd.no⟩
   ·obtain rfl : fl8 = false := zai hi
    obtain rfl : fl12 = false := Gd.off qd12_8.out
    obtain rfl : fl13 = false := Gd.off qd13_12.out
    obtain rfl : fl14 = false := Gd.off qd14_13.out
    obtain rfl : fl15 = false := Gd.off qd15_14.out
    refine wog hO (fun K' hK => ?_)
    go_simp
    have hb := zaN w' (.cells #[.bool false,.slice none 0 0,.slice none 0 0] 31)
    exact hK.out _ _ ⟨zad hBi.out hb,fl1,fl3,fl5,fl7,true,fl9,fl10,fl11,false,false,false,false,b3,B3,m3,d3,E3,u3,v3,b4,B4,m4,d4,E4,u4,v4,b5,B5,m5,d5,E5,u5,v5,b6,B6,m6,d6,E6,u6,v6,w'.heap.size,ad9,ad10,ad11,by rfl,HKp.put (by decide) _,zad hBi.out hb,kq qf1.out fun h => (h).below hb,kq qf3.out fun h => (h).below hb,kq qf5.out fun h => (h).below hb,kq qf7.out fun h => (h).below hb,Gd.yes ⟨zax (HKp.lt (by rw [hsz]; decide)) _,hBi.out.size,Blk.new w' _ _⟩,kq qf9.out fun h => ⟨h.1,zae hb h.2⟩,kq qf10.out fun h => ⟨h.1,zae hb h.2⟩,kq qf11.out fun h => ⟨h.1,zae hb h.2⟩,Gd.yes (qf9.out.mono fun h => by have := Blk.lt h.2.2; omega),Gd.yes (qf10.out.mono fun h => by have := Blk.lt h.2.2; omega),Gd.yes (qf11.out.mono fun h => by have := Blk.lt h.2.2; omega),qn9_10,qn9_11,qn10_11,qd3_1,qd5_3,qd7_5,Gd.no,Gd.no,Gd.no,Gd.no,Gd.no,Gd.no,Gd.no,Gd.no,Gd.no,Gd.no,Gd.no,Gd.no⟩
   ·obtain rfl : fl9 = false := zai hi
    obtain rfl : fl13 = false := Gd.off qd13_9.out
    obtain rfl : fl14 = false := Gd.off qd14_13.out
    obtain rfl : fl15 = false := Gd.off qd15_14.out
    refine wog hO (fun K' hK => ?_)
    go_simp
    have hb := zaN w' (.cells #[.bool false,.slice none 0 0,.slice none 0 0] 31)
    exact hK.out _ _ ⟨zad hBi.out hb,fl1,fl3,fl5,fl7,fl8,true,fl10,fl11,fl12,false,false,false,b3,B3,m3,d3,E3,u3,v3,b4,B4,m4,d4,E4,u4,v4,b5,B5,m5,d5,E5,u5,v5,b6,B6,m6,d6,E6,u6,v6,ad8,w'.heap.size,ad10,ad11,by rfl,HKp.put (by decide) _,zad hBi.out hb,kq qf1.out fun h => (h).below hb,kq qf3.out fun h => (h).below hb,kq qf5.out fun h => (h).below hb,kq qf7.out fun h => (h).below hb,kq qf8.out fun h => ⟨h.1,zae hb h.2⟩,Gd.yes ⟨zax (HKp.lt (by rw [hsz]; decide)) _,hBi.out.size,Blk.new w' _ _⟩,kq qf10.out fun h => ⟨h.1,zae hb h.2⟩,kq qf11.out fun h => ⟨h.1,zae hb h.2⟩,qf8.out.mono fun h => Gd.yes (by have := Blk.lt h.2.2; omega),qn8_10,qn8_11,Gd.yes (qf10.out.mono fun h => by have := Blk.lt h.2.2; omega),Gd.yes (qf11.out.mono fun h => by have := Blk.lt h.2.2; omega),qn10_11,qd3_1,qd5_3,qd7_5,qd12_1,qd12_7,qd12_8,Gd.no,Gd.no,Gd.no,Gd.no,Gd.no,Gd.no,Gd.no,Gd.no,Gd.no⟩
   ·obtain rfl : fl10 = false := zai hi
    obtain rfl : fl14 = false := Gd.off qd14_10.out
    obtain rfl : fl15 = false := Gd.off qd15_14.out
    refine wog hO (fun K' hK => ?_)
    go_simp
    have hb := zaN w' (.cells #[.bool false,.slice none 0 0,.slice none 0 0] 42)
    exact hK.out _ _ ⟨zad hBi.out hb,fl1,fl3,fl5,fl7,fl8,fl9,true,fl11,fl12,fl13,false,false,b3,B3,m3,d3,E3,u3,v3,b4,B4,m4,d4,E4,u4,v4,b5,B5,m5,d5,E5,u5,v5,b6,B6,m6,d6,E6,u6,v6,ad8,ad9,w'.heap.size,ad11,by rfl,HKp.put (by decide) _,zad hBi.out hb,kq qf1.out fun h => (h).below hb,kq qf3.out fun h => (h).below hb,kq qf5.out fun h => (h).below hb,kq qf7.out fun h => (h).below hb,kq qf8.out fun h => ⟨h.1,zae hb h.2⟩,kq qf9.out fun h => ⟨h.1,zae hb h.2⟩,Gd.yes ⟨zax (HKp.lt (by rw [hsz]; decide)) _,hBi.out.size,Blk.new w' _ _⟩,kq qf11.out fun h => ⟨h.1,zae hb h.2⟩,qn8_9,qf8.out.mono fun h => Gd.yes (by have := Blk.lt h.2.2; omega),qn8_11,qf9.out.mono fun h => Gd.yes (by have := Blk.lt h.2.2; omega),qn9_11,Gd.yes (qf11.out.mono fun h => by have := Blk.lt h.2.2; omega),qd3_1,qd5_3,qd7_5,qd12_1,qd12_7,qd12_8,qd13_3,qd13_9,qd13_12,Gd.no,Gd.no,Gd.no,Gd.no,Gd.no,Gd.no⟩
   ·obtain rfl : fl11 = false := zai hi
    obtain rfl : fl15 = false := Gd.off qd15_11.out
    refine wog hO (fun K' hK => ?_)
    go_simp
    have hb := zaN w' (.cells #[.bool false,.slice none 0 0,.slice none 0 0] 42)
    exact hK.out _ _ ⟨zad hBi.out hb,fl1,fl3,fl5,fl7,fl8,fl9,fl10,true,fl12,fl13,fl14,false,b3,B3,m3,d3,E3,u3,v3,b4,B4,m4,d4,E4,u4,v4,b5,B5,m5,d5,E5,u5,v5,b6,B6,m6,d6,E6,u6,v6,ad8,ad9,ad10,w'.heap.size,by rfl,HKp.put (by decide) _,zad hBi.out hb,kq qf1.out fun h => (h).below hb,kq qf3.out fun h => (h).below hb,kq qf5.out fun h => (h).below hb,kq qf7.out fun h => (h).below hb,kq qf8.out fun h => ⟨h.1,zae hb h.2⟩,kq qf9.out fun h => ⟨h.1,zae hb h.2⟩,kq qf10.out fun h => ⟨h.1,zae hb h.2⟩,Gd.yes ⟨zax (HKp.lt (by rw [hsz]; decide)) _,hBi.out.size,Blk.new w' _ _⟩,qn8_9,qn8_10,qf8.out.mono fun h => Gd.yes (by have := Blk.lt h.2.2; omega),qn9_10,qf9.out.mono fun h => Gd.yes (by have := Blk.lt h.2.2; omega),qf10.out.mono fun h => Gd.yes (by have := Blk.lt h.2.2; omega),qd3_1,qd5_3,qd7_5,qd12_1,qd12_7,qd12_8,qd13_3,qd13_9,qd13_12,qd14_5,qd14_10,qd14_13,Gd.no,Gd.no,Gd.no⟩
   ·obtain rfl : fl12 = false := zai hi
    obtain rfl : fl1 = true := rdp 1 1 hi hO
    obtain rfl : fl7 = true := rdp 7 2 hi hO
    obtain rfl : fl8 = true := rdp 8 0 hi hO
    obtain rfl : fl9 = true := rdp 9 12 hi hO
    obtain rfl : fl10 = true := rdp 10 13 hi hO
    obtain rfl : fl11 = true := rdp 11 14 hi hO
    obtain rfl : fl5 = true := qd7_5.out.get
    obtain rfl : fl3 = true := qd5_3.out.get
    obtain rfl : fl13 = false := Gd.off qd13_12.out
    obtain rfl : fl14 = false := Gd.off qd14_13.out
    obtain rfl : fl15 = false := Gd.off qd15_14.out
    have rd5 := qf8.out.get.1
    have rd22 := qf1.out.get.1
    obtain ⟨_,hg,hk⟩ := qf8.out.get
    have hk : Blk w' ad8 31 #[.bool false,.slice none 0 0,.slice none 0 0] := hk
    obtain ⟨sc0,sf0,sc1,sf1,sc2,sf2⟩ := st3 hk (.bool b3) (.slice B3 m3 d3)
    have hj2 := sn3 hk (.bool b3) (.slice B3 m3 d3) (.slice E3 u3 v3)
    have hBn := bl3 (.bool b3) (.slice B3 m3 d3) (.slice E3 u3 v3) hg hBi.out
    refine wog hO (fun K' hK => ?_)
    go_simp
    exact hK.out _ _ ⟨hBn,true,true,true,true,true,true,true,true,true,false,false,false,b3,B3,m3,d3,E3,u3,v3,b4,B4,m4,d4,E4,u4,v4,b5,B5,m5,d5,E5,u5,v5,b6,B6,m6,d6,E6,u6,v6,ad8,ad9,ad10,ad11,by rfl,HKp,hBn,qf1.out.mono fun h => ⟨h.1,zbx (h.2) hk zcU (zcx _ _ _ _ _)⟩,qf3.out.mono fun h => ⟨h.1,zbx (h.2) hk zcU (zcx _ _ _ _ _)⟩,qf5.out.mono fun h => ⟨h.1,zbO (h.2) hk zcU (zcx _ _ _ _ _)⟩,qf7.out.mono fun h => ⟨h.1,zbO (h.2) hk zcU (zcx _ _ _ _ _)⟩,qf8.out.mono fun h => ⟨h.1,h.2.1,hj2⟩,fun hf9 => (fun h => ⟨h.1,h.2.1,Blk.far (p := ⟨ad8,2,none⟩) (Blk.far (p := ⟨ad8,1,none⟩) (Blk.far (p := ⟨ad8,0,none⟩) (h.2.2) (Ne.symm (qn8_9.out rfl hf9)) (.bool b3)) (Ne.symm (qn8_9.out rfl hf9)) (.slice B3 m3 d3)) (Ne.symm (qn8_9.out rfl hf9)) (.slice E3 u3 v3)⟩) (qf9.out hf9),fun hf9 => (fun h => ⟨h.1,h.2.1,Blk.far (p := ⟨ad8,2,none⟩) (Blk.far (p := ⟨ad8,1,none⟩) (Blk.far (p := ⟨ad8,0,none⟩) (h.2.2) (Ne.symm (qn8_10.out rfl hf9)) (.bool b3)) (Ne.symm (qn8_10.out rfl hf9)) (.slice B3 m3 d3)) (Ne.symm (qn8_10.out rfl hf9)) (.slice E3 u3 v3)⟩) (qf10.out hf9),fun hf9 => (fun h => ⟨h.1,h.2.1,Blk.far (p := ⟨ad8,2,none⟩) (Blk.far (p := ⟨ad8,1,none⟩) (Blk.far (p := ⟨ad8,0,none⟩) (h.2.2) (Ne.symm (qn8_11.out rfl hf9)) (.bool b3)) (Ne.symm (qn8_11.out rfl hf9)) (.slice B3 m3 d3)) (Ne.symm (qn8_11.out rfl hf9)) (.slice E3 u3 v3)⟩) (qf11.out hf9),qn8_9,qn8_10,qn8_11,qn9_10,qn9_11,qn10_11,fun _ => rfl,fun _ => rfl,fun _ => rfl,fun _ => rfl,fun _ => rfl,fun _ => rfl,Gd.no,Gd.no,Gd.no,Gd.no,Gd.no,Gd.no,Gd.no,Gd.no,Gd.no⟩
   ·obtain rfl : fl13 = false := zai hi
    obtain rfl : fl1 = true := rdp 1 4 hi hO
    obtain rfl : fl3 = true := rdp 3 1 hi hO
    obtain rfl : fl8 = true := rdp 8 11 hi hO
    obtain rfl : fl9 = true := rdp 9 0 hi hO
    obtain rfl : fl10 = true := rdp 10 13 hi hO
    obtain rfl : fl11 = true := rdp 11 14 hi hO
    obtain rfl : fl12 = true := rdp 12 2 hi hO
    obtain rfl : fl7 = true := qd12_7.out.get
    obtain rfl : fl5 = true := qd7_5.out.get
    obtain rfl : fl14 = false := Gd.off qd14_13.out
    obtain rfl : fl15 = false := Gd.off qd15_14.out
    have rd6 := qf9.out.get.1
    have rd24 := qf3.out.get.1
    obtain ⟨_,hg,hk⟩ := qf9.out.get
    have hk : Blk w' ad9 31 #[.bool false,.slice none 0 0,.slice none 0 0] := hk
    obtain ⟨sc0,sf0,sc1,sf1,sc2,sf2⟩ := st3 hk (.bool b4) (.slice B4 m4 d4)
    have hj2 := sn3 hk (.bool b4) (.slice B4 m4 d4) (.slice E4 u4 v4)
    have hBn := bl3 (.bool b4) (.slice B4 m4 d4) (.slice E4 u4 v4) hg hBi.out
    refine wog hO (fun K' hK => ?_)
    go_simp
    exact hK.out _ _ ⟨hBn,true,true,true,true,true,true,true,true,true,true,false,false,b3,B3,m3,d3,E3,u3,v3,b4,B4,m4,d4,E4,u4,v4,b5,B5,m5,d5,E5,u5,v5,b6,B6,m6,d6,E6,u6,v6,ad8,ad9,ad10,ad11,by rfl,HKp,hBn,qf1.out.mono fun h => ⟨h.1,zbx (h.2) hk zcU (zcx _ _ _ _ _)⟩,qf3.out.mono fun h => ⟨h.1,zbx (h.2) hk zcU (zcx _ _ _ _ _)⟩,qf5.out.mono fun h => ⟨h.1,zbO (h.2) hk zcU (zcx _ _ _ _ _)⟩,qf7.out.mono fun h => ⟨h.1,zbO (h.2) hk zcU (zcx _ _ _ _ _)⟩,fun hf9 => (fun h => ⟨h.1,h.2.1,Blk.far (p := ⟨ad9,2,none⟩) (Blk.far (p := ⟨ad9,1,none⟩) (Blk.far (p := ⟨ad9,0,none⟩) (h.2.2) (qn8_9.out hf9 rfl) (.bool b4)) (qn8_9.out hf9 rfl) (.slice B4 m4 d4)) (qn8_9.out hf9 rfl) (.slice E4 u4 v4)⟩) (qf8.out hf9),qf9.out.mono fun h => ⟨h.1,h.2.1,hj2⟩,fun hf9 => (fun h => ⟨h.1,h.2.1,Blk.far (p := ⟨ad9,2,none⟩) (Blk.far (p := ⟨ad9,1,none⟩) (Blk.far (p := ⟨ad9,0,none⟩) (h.2.2) (Ne.symm (qn9_10.out rfl hf9)) (.bool b4)) (Ne.symm (qn9_10.out rfl hf9)) (.slice B4 m4 d4)) (Ne.symm (qn9_10.out rfl hf9)) (.slice E4 u4 v4)⟩) (qf10.out hf9),fun hf9 => (fun h => ⟨h.1,h.2.1,Blk.far (p := ⟨ad9,2,none⟩) (Blk.far (p := ⟨ad9,1,none⟩) (Blk.far (p := ⟨ad9,0,none⟩) (h.2.2) (Ne.symm (qn9_11.out rfl hf9)) (.bool b4)) (Ne.symm (qn9_11.out rfl hf9)) (.slice B4 m4 d4)) (Ne.symm (qn9_11.out rfl hf9)) (.slice E4 u4 v4)⟩) (qf11.out hf9),qn8_9,qn8_10,qn8_11,qn9_10,qn9_11,qn10_11,fun _ => rfl,fun _ => rfl,fun _ => rfl,fun _ => rfl,fun _ => rfl,fun _ => rfl,fun _ => rfl,fun _ => rfl,fun _ => rfl,Gd.no,Gd.no,Gd.no,Gd.no,Gd.no,Gd.no⟩
   ·obtain rfl : fl14 = false := zai hi
    obtain rfl : fl1 = true := rdp 1 4 hi hO
    obtain rfl : fl3 = true := rdp 3 6 hi hO
    obtain rfl : fl5 = true := rdp 5 1 hi hO
    obtain rfl : fl8 = true := rdp 8 11 hi hO
    obtain rfl : fl9 = true := rdp 9 12 hi hO
    obtain rfl : fl10 = true := rdp 10 0 hi hO
    obtain rfl : fl11 = true := rdp 11 14 hi hO
    obtain rfl : fl12 = true := rdp 12 15 hi hO
    obtain rfl : fl13 = true := rdp 13 2 hi hO
    obtain rfl : fl7 = true := qd12_7.out.get
    obtain rfl : fl15 = false := Gd.off qd15_14.out
    have rd7 := qf10.out.get.1
    have rd26 := qf5.out.get.1
    obtain ⟨_,hg,hk⟩ := qf10.out.get
    have hk : Blk w' ad10 42 #[.bool false,.slice none 0 0,.slice none 0 0] := hk
    obtain ⟨sc0,sf0,sc1,sf1,sc2,sf2⟩ := st3 hk (.bool b5) (.slice B5 m5 d5)
    have hj2 := sn3 hk (.bool b5) (.slice B5 m5 d5) (.slice E5 u5 v5)
    have hBn := bl3 (.bool b5) (.slice B5 m5 d5) (.slice E5 u5 v5) hg hBi.out
    refine wog hO (fun K' hK => ?_)
    go_simp
    exact hK.out _ _ ⟨hBn,true,true,true,true,true,true,true,true,true,true,true,false,b3,B3,m3,d3,E3,u3,v3,b4,B4,m4,d4,E4,u4,v4,b5,B5,m5,d5,E5,u5,v5,b6,B6,m6,d6,E6,u6,v6,ad8,ad9,ad10,ad11,by rfl,HKp,hBn,qf1.out.mono fun h => ⟨h.1,zbx (h.2) hk zcU (zcx _ _ _ _ _)⟩,qf3.out.mono fun h => ⟨h.1,zbx (h.2) hk zcU (zcx _ _ _ _ _)⟩,qf5.out.mono fun h => ⟨h.1,zbO (h.2) hk zcU (zcx _ _ _ _ _)⟩,qf7.out.mono fun h => ⟨h.1,zbO (h.2) hk zcU (zcx _ _ _ _ _)⟩,fun hf9 => (fun h => ⟨h.1,h.2.1,Blk.far (p := ⟨ad10,2,none⟩) (Blk.far (p := ⟨ad10,1,none⟩) (Blk.far (p := ⟨ad10,0,none⟩) (h.2.2) (qn8_10.out hf9 rfl) (.bool b5)) (qn8_10.out hf9 rfl) (.slice B5 m5 d5)) (qn8_10.out hf9 rfl) (.slice E5 u5 v5)⟩) (qf8.out hf9),fun hf9 => (fun h => ⟨h.1,h.2.1,Blk.far (p := ⟨ad10,2,none⟩) (Blk.far (p := ⟨ad10,1,none⟩) (Blk.far (p := ⟨ad10,0,none⟩) (h.2.2) (qn9_10.out hf9 rfl) (.bool b5)) (qn9_10.out hf9 rfl) (.slice B5 m5 d5)) (qn9_10.out hf9 rfl) (.slice E5 u5 v5)⟩) (qf9.out hf9),qf10.out.mono fun h => ⟨h.1,h.2.1,hj2⟩,fun hf9 => (fun h => ⟨h.1,h.2.1,Blk.far (p := ⟨ad10,2,none⟩) (Blk.far (p := ⟨ad10,1,none⟩) (Blk.far (p := ⟨ad10,0,none⟩) (h.2.2) (Ne.symm (qn10_11.out rfl hf9)) (.bool b5)) (Ne.symm (qn10_11.out rfl hf9)) (.slice B5 m5 d5)) (Ne.symm (qn10_11.out rfl hf9)) (.slice E5 u5 v5)⟩) (qf11.out hf9),qn8_9,qn8_10,qn8_11,qn9_10,qn9_11,qn10_11,fun _ => rfl,fun _ => rfl,fun _ => rfl,fun _ => rfl,fun _ => rfl,fun _ => rfl,fun _ => rfl,fun _ => rfl,fun _ => rfl,fun _ => rfl,fun _ => rfl,fun _ => rfl,Gd.no,Gd.no,Gd.no⟩
   ·obtain rfl : fl15 = false := zai hi
    obtain rfl : fl1 = true := rdp 1 4 hi hO
    obtain rfl : fl3 = true := rdp 3 6 hi hO
    obtain rfl : fl5 = true := rdp 5 8 hi hO
    obtain rfl : fl7 = true := rdp 7 1 hi hO
    obtain rfl : fl8 = true := rdp 8 11 hi hO
    obtain rfl : fl9 = true := rdp 9 12 hi hO
    obtain rfl : fl10 = true := rdp 10 13 hi hO
    obtain rfl : fl11 = true := rdp 11 0 hi hO
    obtain rfl : fl12 = true := rdp 12 15 hi hO
    obtain rfl : fl13 = true := rdp 13 16 hi hO
    obtain rfl : fl14 = true := rdp 14 2 hi hO
    have rd8 := qf11.out.get.1
    have rd28 := qf7.out.get.1
    obtain ⟨_,hg,hk⟩ := qf11.out.get
    have hk : Blk w' ad11 42 #[.bool false,.slice none 0 0,.slice none 0 0] := hk
    obtain ⟨sc0,sf0,sc1,sf1,sc2,sf2⟩ := st3 hk (.bool b6) (.slice B6 m6 d6)
    have hj2 := sn3 hk (.bool b6) (.slice B6 m6 d6) (.slice E6 u6 v6)
    have hBn := bl3 (.bool b6) (.slice B6 m6 d6) (.slice E6 u6 v6) hg hBi.out
    refine wog hO (fun K' hK => ?_)
    go_simp
    exact hK.out _ _ ⟨hBn,true,true,true,true,true,true,true,true,true,true,true,true,b3,B3,m3,d3,E3,u3,v3,b4,B4,m4,d4,E4,u4,v4,b5,B5,m5,d5,E5,u5,v5,b6,B6,m6,d6,E6,u6,v6,ad8,ad9,ad10,ad11,by rfl,HKp,hBn,qf1.out.mono fun h => ⟨h.1,zbx (h.2) hk zcU (zcx _ _ _ _ _)⟩,qf3.out.mono fun h => ⟨h.1,zbx (h.2) hk zcU (zcx _ _ _ _ _)⟩,qf5.out.mono fun h => ⟨h.1,zbO (h.2) hk zcU (zcx _ _ _ _ _)⟩,qf7.out.mono fun h => ⟨h.1,zbO (h.2) hk zcU (zcx _ _ _ _ _)⟩,fun hf9 => (fun h => ⟨h.1,h.2.1,Blk.far (p := ⟨ad11,2,none⟩) (Blk.far (p := ⟨ad11,1,none⟩) (Blk.far (p := ⟨ad11,0,none⟩) (h.2.2) (qn8_11.out hf9 rfl) (.bool b6)) (qn8_11.out hf9 rfl) (.slice B6 m6 d6)) (qn8_11.out hf9 rfl) (.slice E6 u6 v6)⟩) (qf8.out hf9),fun hf9 => (fun h => ⟨h.1,h.2.1,Blk.far (p := ⟨ad11,2,none⟩) (Blk.far (p := ⟨ad11,1,none⟩) (Blk.far (p := ⟨ad11,0,none⟩) (h.2.2) (qn9_11.out hf9 rfl) (.bool b6)) (qn9_11.out hf9 rfl) (.slice B6 m6 d6)) (qn9_11.out hf9 rfl) (.slice E6 u6 v6)⟩) (qf9.out hf9),fun hf9 => (fun h => ⟨h.1,h.2.1,Blk.far (p := ⟨ad11,2,none⟩) (Blk.far (p := ⟨ad11,1,none⟩) (Blk.far (p := ⟨ad11,0,none⟩) (h.2.2) (qn10_11.out hf9 rfl) (.bool b6)) (qn10_11.out hf9 rfl) (.slice B6 m6 d6)) (qn10_11.out hf9 rfl) (.slice E6 u6 v6)⟩) (qf10.out hf9),qf11.out.mono fun h => ⟨h.1,h.2.1,hj2⟩,qn8_9,qn8_10,qn8_11,qn9_10,qn9_11,qn10_11,fun _ => rfl,fun _ => rfl,fun _ => rfl,fun _ => rfl,fun _ => rfl,fun _ => rfl,fun _ => rfl,fun _ => rfl,fun _ => rfl,fun _ => rfl,fun _ => rfl,fun _ => rfl,fun _ => rfl,fun _ => rfl,fun _ => rfl⟩
 rintro a wm5 ⟨fl1,fl3,fl5,fl7,fl8,fl9,fl10,fl11,fl12,fl13,fl14,fl15,b3,B3,m3,d3,E3,u3,v3,b4,B4,m4,d4,E4,u4,v4,b5,B5,m5,d5,E5,u5,v5,b6,B6,m6,d6,E6,u6,v6,ad8,ad9,ad10,ad11,hl,HKp,hBi,qf1,qf3,qf5,qf7,qf8,qf9,qf10,qf11,qn8_9,qn8_10,qn8_11,qn9_10,qn9_11,qn10_11,qd3_1,qd5_3,qd7_5,qd12_1,qd12_7,qd12_8,qd13_3,qd13_9,qd13_12,qd14_5,qd14_10,qd14_13,qd15_7,qd15_11,qd15_14⟩
 have xx1 : fl1 = true := gdl 1 hl
 subst xx1
 have xx3 : fl3 = true := gdl 3 hl
 subst xx3
 have xx5 : fl5 = true := gdl 5 hl
 subst xx5
 have xx7 : fl7 = true := gdl 7 hl
 subst xx7
 have xx8 : fl8 = true := gdl 8 hl
 subst xx8
 have xx9 : fl9 = true := gdl 9 hl
 subst xx9
 have xx10 : fl10 = true := gdl 10 hl
 subst xx10
 have xx11 : fl11 = true := gdl 11 hl
 subst xx11
 have xx12 : fl12 = true := gdl 12 hl
 subst xx12
 have xx13 : fl13 = true := gdl 13 hl
 subst xx13
 have xx14 : fl14 = true := gdl 14 hl
 subst xx14
 have xx15 : fl15 = true := gdl 15 hl
 subst xx15
 obtain ⟨rv1,hw3⟩ := qf1.out.get
 obtain ⟨rv3,hw4⟩ := qf3.out.get
 obtain ⟨rv5,hw5⟩ := qf5.out.get
 obtain ⟨rv7,hw6⟩ := qf7.out.get
 obtain ⟨rv8,hg8,hk8⟩ := qf8.out.get
 obtain ⟨rv9,hg9,hk9⟩ := qf9.out.get
 obtain ⟨rv10,hg10,hk10⟩ := qf10.out.get
 obtain ⟨rv11,hg11,hk11⟩ := qf11.out.get
 obtain rfl := HKp.eq [(22,.agg #[.bool b3,.slice B3 m3 d3,.slice E3 u3 v3]),(24,.agg #[.bool b4,.slice B4 m4 d4,.slice E4 u4 v4]),(26,.agg #[.bool b5,.slice B5 m5 d5,.slice E5 u5 v5]),(28,.agg #[.bool b6,.slice B6 m6 d6,.slice E6 u6 v6]),(5,.pointer (some ⟨ad8,0,none⟩)),(6,.pointer (some ⟨ad9,0,none⟩)),(7,.pointer (some ⟨ad10,0,none⟩)),(8,.pointer (some ⟨ad11,0,none⟩))] rfl (by
  intro p hp
  simp only [List.mem_cons,List.not_mem_nil,or_false] at hp
  rcases hp with rfl | rfl | rfl | rfl | rfl | rfl | rfl | rfl
  ·exact rv1
  ·exact rv3
  ·exact rv5
  ·exact rv7
  ·exact rv8
  ·exact rv9
  ·exact rv10
  ·exact rv11)
 have hBv := hBi.out
 clear hl hBi HKp qf1 qf3 qf5 qf7 qf8 qf9 qf10 qf11 qn8_9 qn8_10 qn8_11 qn9_10 qn9_11 qn10_11 qd3_1 qd5_3 qd7_5 qd12_1 qd12_7 qd12_8 qd13_3 qd13_9 qd13_12 qd14_5 qd14_10 qd14_13 qd15_7 qd15_11 qd15_14 rv1 rv3 rv5 rv7 rv8 rv9 rv10 rv11
 have hk8 : Blk wm5 ad8 31 #[.bool b3,.slice B3 m3 d3,.slice E3 u3 v3] := hk8
 have hk9 : Blk wm5 ad9 31 #[.bool b4,.slice B4 m4 d4,.slice E4 u4 v4] := hk9
 have hk10 : Blk wm5 ad10 42 #[.bool b5,.slice B5 m5 d5,.slice E5 u5 v5] := hk10
 have hk11 : Blk wm5 ad11 42 #[.bool b6,.slice B6 m6 d6,.slice E6 u6 v6] := hk11
 rw [show due #[true,true,true,true,true,true,true,true,true,true,true,true,true,true,true,true] = 0 from rfl]
 simp only [zbK,List.foldl,Act.put,List.setIfInBounds_toArray,List.set_cons_zero,List.set_cons_succ]
 refine wpAnyH_done (by kernel_rfl) ?_ _
 refine NoPanic.normal ?_
 have hB := zad hB hBv
 have g1 := zac hBv g1
 have e1 := zac hBv e1
 have i1 := zac hBv i1
 have g2 := zac hBv g2
 have e2 := zac hBv e2
 have i2 := zac hBv i2
 obtain ⟨ad8_7,hga⟩ : ∃ x,x = ad8 := ⟨_,rfl⟩
 subst hga
 obtain ⟨g7,e7,i7⟩ := hk8.c3
 obtain ⟨ad9_8,hga⟩ : ∃ x,x = ad9 := ⟨_,rfl⟩
 subst hga
 obtain ⟨g8,e8,i8⟩ := hk9.c3
 obtain ⟨ad10_9,hga⟩ : ∃ x,x = ad10 := ⟨_,rfl⟩
 subst hga
 obtain ⟨g9,e9,i9⟩ := hk10.c3
 obtain ⟨ad11_10,hga⟩ : ∃ x,x = ad11 := ⟨_,rfl⟩
 subst hga
 obtain ⟨g10,e10,i10⟩ := hk11.c3
 have HN3 := lh9 hw3
 have HN4 := lh9 hw4
 have HN5 := lh9 hw5
 have HN6 := lh9 hw6
 clear hBv hk8 hg8 hk9 hg9 hk10 hg10 hk11 hg11 hw3 hw4 hw5 hw6 GG
 clear C0 C1 C2 C3
 go_wp2_with fail
 have C0 := lh9 (fun w' (h : Below wm5.heap.size wm5 w') => zcJ hTb HIC.out HQC.out (x) (K) b3 B3 m3 d3 E3 u3 v3 b5 B5 m5 d5 E5 u5 v5 w' (by omega) HZ3.out (HN3.out.below h) (HN5.out.below h) (HT.out _ (zad hB h)))
 have HZ11 : Hid (SzQ (K + K + 1) (x + y)) := SzQ.add HZ3.out HZ4.out
 have C1 := lh9 (fun w' (h : Below wm5.heap.size wm5 w') => HQC.out.add (x) (y) b3 b4 B3 B4 m3 m4 d3 d4 E3 E4 u3 u4 v3 v4 w' (HT.out _ (zad hB h)) (HN3.out.below h) (HN4.out.below h) (szq HZ3 HN3.out) (szq HZ4 HN4.out))
 have HZ12 : Hid (SzQ (K + K + 1) (x + y)) := SzQ.add HZ5.out HZ6.out
 have C2 := lh9 (fun w' (h : Below wm5.heap.size wm5 w') => zjh (x) (y) b5 B5 m5 d5 E5 u5 v5 b6 B6 m6 d6 E6 u6 v6 (K) (K) w' HZ5.out (HN5.out.below h) HZ6.out (HN6.out.below h) (by omega) (by omega))
 have C3 := lh9 (fun w' (h : Below wm5.heap.size wm5 w') b11 B11 m11 d11 E11 u11 v11 (hw11 : zam w' (x + y) b11 B11 m11 d11 E11 u11 v11) b12 B12 m12 d12 E12 u12 v12 (hw12 : zbF w' (x + y) b12 B12 m12 d12 E12 u12 v12) => zcJ hTb HIC.out HQC.out (x + y) (K + K + 1) b11 B11 m11 d11 E11 u11 v11 b12 B12 m12 d12 E12 u12 v12 w' (by omega) HZ11.out hw11 hw12 (HT.out _ (zad hB h)))
 have HZ13 : Hid (SzQ (K + K + 1) (x - y)) := SzQ.sub HZ3.out HZ4.out
 have C4 := lh9 (fun w' (h : Below wm5.heap.size wm5 w') => HQC.out.sub (x) (y) b3 b4 B3 B4 m3 m4 d3 d4 E3 E4 u3 u4 v3 v4 w' (HT.out _ (zad hB h)) (HN3.out.below h) (HN4.out.below h) (szq HZ3 HN3.out) (szq HZ4 HN4.out))
 have HZ14 : Hid (SzQ (K) ((-y))) := SzQ.neg HZ6.out
 have C5 := lh9 (fun w' (h : Below wm5.heap.size wm5 w') => zjp (y) b6 B6 m6 d6 E6 u6 v6 (K) w' HZ6.out (HN6.out.below h) (by omega))
 have HZ15 : Hid (SzQ (K + K + 1) (x + (-y))) := SzQ.add HZ5.out HZ14.out
 have C6 := lh9 (fun w' (h : Below wm5.heap.size wm5 w') b14 B14 m14 d14 E14 u14 v14 (hw14 : zbF w' ((-y)) b14 B14 m14 d14 E14 u14 v14) => zjh (x) ((-y)) b5 B5 m5 d5 E5 u5 v5 b14 B14 m14 d14 E14 u14 v14 (K) (K) w' HZ5.out (HN5.out.below h) HZ14.out hw14 (by omega) (by omega))
 have C7 := lh9 (fun w' (h : Below wm5.heap.size wm5 w') b13 B13 m13 d13 E13 u13 v13 (hw13 : zam w' (x - y) b13 B13 m13 d13 E13 u13 v13) b15 B15 m15 d15 E15 u15 v15 (hw15 : zbF w' (x + (-y)) b15 B15 m15 d15 E15 u15 v15) => zcJ hTb HIC.out HQC.out (x - y) (K + K + 1) b13 B13 m13 d13 E13 u13 v13 b15 B15 m15 d15 E15 u15 v15 w' (by omega) HZ13.out hw13 (zbF.to (Rat.sub_eq_add_neg _ _).symm hw15) (HT.out _ (zad hB h)))
 have HZ16 : Hid (SzQ (K + K) (x * y)) := SzQ.mul HZ3.out HZ4.out
 have C8 := lh9 (fun w' (h : Below wm5.heap.size wm5 w') => (HQC.out.g0 M0).mul (x) (y) b3 b4 B3 B4 m3 m4 d3 d4 E3 E4 u3 u4 v3 v4 w' (HT.out _ (zad hB h)) (HN3.out.below h) (HN4.out.below h) (szq HZ3 HN3.out) (szq HZ4 HN4.out))
 have HZ17 : Hid (SzQ (K + K) (x * y)) := SzQ.mul HZ5.out HZ6.out
 have C9 := lh9 (fun w' (h : Below wm5.heap.size wm5 w') => ref8_mul (x) (y) b5 B5 m5 d5 E5 u5 v5 b6 B6 m6 d6 E6 u6 v6 (K) (K) w' HZ5.out (HN5.out.below h) HZ6.out (HN6.out.below h) (by omega) (by omega))
 have C10 := lh9 (fun w' (h : Below wm5.heap.size wm5 w') b16 B16 m16 d16 E16 u16 v16 (hw16 : zam w' (x * y) b16 B16 m16 d16 E16 u16 v16) b17 B17 m17 d17 E17 u17 v17 (hw17 : zbF w' (x * y) b17 B17 m17 d17 E17 u17 v17) => zcJ hTb HIC.out HQC.out (x * y) (K + K) b16 B16 m16 d16 E16 u16 v16 b17 B17 m17 d17 E17 u17 v17 w' (by omega) HZ16.out hw16 hw17 (HT.out _ (zad hB h)))
 have HZ18 : Hid (SzQ (K) ((-x))) := SzQ.neg HZ3.out
 have C11 := lh9 (fun w' (h : Below wm5.heap.size wm5 w') => HQC.out.neg (x) b3 B3 m3 d3 E3 u3 v3 w' (HT.out _ (zad hB h)) (HN3.out.below h) (szq HZ3 HN3.out))
 have HZ19 : Hid (SzQ (K) ((-x))) := SzQ.neg HZ5.out
 have C12 := lh9 (fun w' (h : Below wm5.heap.size wm5 w') => zjp (x) b5 B5 m5 d5 E5 u5 v5 (K) w' HZ5.out (HN5.out.below h) (by omega))
 have C13 := lh9 (fun w' (h : Below wm5.heap.size wm5 w') b18 B18 m18 d18 E18 u18 v18 (hw18 : zam w' ((-x)) b18 B18 m18 d18 E18 u18 v18) b19 B19 m19 d19 E19 u19 v19 (hw19 : zbF w' ((-x)) b19 B19 m19 d19 E19 u19 v19) => zcJ hTb HIC.out HQC.out ((-x)) (K) b18 B18 m18 d18 E18 u18 v18 b19 B19 m19 d19 E19 u19 v19 w' (by omega) HZ18.out hw18 hw19 (HT.out _ (zad hB h)))
 have hBw := (Below.refl wm5.heap.size wm5).drew
 refine rg (csc g7 (csc e7 (csc i7 (csc g9 (csc e9 (csc i9 (csc g8 (csc e8 (csc i8 (csc g10 (csc e10 (csc i10 csn)))))))))))) (fun hHeld => ?_)
 refine tk 0 ?_
 refine tk 1 ?_
 refine rc 2 (fun K hK => ?_)
 go_simp
 go_at_call 14; (with_reducible refine (C0.out _ hBw).mono ?_); rintro e wa6 ⟨rfl,hb⟩; have hBw := zad hBw hb; refine hK.out _ _ (Cs.below hHeld hb) (fun hHeld => ?_); clear hK K hb
 try simp only [sb9]
 refine tk 3 ?_
 refine tk 4 ?_
 refine tk 5 ?_
 refine tk 6 ?_
 refine tk 8 ?_
 refine tk 9 ?_
 refine rc 7 (fun K hK => ?_)
 go_simp
 go_at_call 22; (with_reducible refine (C1.out _ hBw).mono ?_); rintro e wa7 ⟨b11,B11,m11,d11,E11,u11,v11,rfl,hw11,hb⟩; have hBw := zad hBw hb; refine hK.out _ _ (Cs.below hHeld hb) (fun hHeld => ?_); clear hK K hb
 try simp only [sb9]
 refine rc 10 (fun K hK => ?_)
 go_simp
 go_at_call 23; (with_reducible refine (C2.out _ hBw).mono ?_); rintro e wa8 ⟨b12,B12,m12,d12,E12,u12,v12,rfl,hw12,hb⟩; have hBw := zad hBw hb; have hw11 := hw11.below hb; refine hK.out _ _ (Cs.below hHeld hb) (fun hHeld => ?_); clear hK K hb
 try simp only [sb9]
 refine rc 11 (fun K hK => ?_)
 go_simp
 go_at_call 14; (with_reducible refine (C3.out _ hBw _ _ _ _ _ _ _ hw11 _ _ _ _ _ _ _ hw12).mono ?_); rintro e wa9 ⟨rfl,hb⟩; have hBw := zad hBw hb; have hw11 := hw11.below hb; have hw12 := hw12.below hb; refine hK.out _ _ (Cs.below hHeld hb) (fun hHeld => ?_); clear hK K hb
 try simp only [sb9]
 refine tk 12 ?_
 refine tk 13 ?_
 refine tk 14 ?_
 refine tk 15 ?_
 refine tk 16 ?_
 refine tk 18 ?_
 refine tk 19 ?_
 refine rc 17 (fun K hK => ?_)
 go_simp
 go_at_call 24; (with_reducible refine (C4.out _ hBw).mono ?_); rintro e wa10 ⟨b13,B13,m13,d13,E13,u13,v13,rfl,hw13,hb⟩; have hBw := zad hBw hb; have hw11 := hw11.below hb; have hw12 := hw12.below hb; refine hK.out _ _ (Cs.below hHeld hb) (fun hHeld => ?_); clear hK K hb
 try simp only [sb9]
 refine rc 20 (fun K hK => ?_)
 go_simp
 go_at_call 25; (with_reducible refine (C5.out _ hBw).mono ?_); rintro e wa11 ⟨b14,B14,m14,d14,E14,u14,v14,rfl,hw14,hb⟩; have hBw := zad hBw hb; have hw11 := hw11.below hb; have hw12 := hw12.below hb; have hw13 := hw13.below hb; refine hK.out _ _ (Cs.below hHeld hb) (fun hHeld => ?_); clear hK K hb
 try simp only [sb9]
 refine rc 21 (fun K hK => ?_)
 go_simp
 go_at_call 23; (with_reducible refine (C6.out _ hBw _ _ _ _ _ _ _ hw14).mono ?_); rintro e wa12 ⟨b15,B15,m15,d15,E15,u15,v15,rfl,hw15,hb⟩; have hBw := zad hBw hb; have hw11 := hw11.below hb; have hw12 := hw12.below hb; have hw13 := hw13.below hb; have hw14 := hw14.below hb; refine hK.out _ _ (Cs.below hHeld hb) (fun hHeld => ?_); clear hK K hb
 try simp only [sb9]
 refine rc 22 (fun K hK => ?_)
 go_simp
 go_at_call 14; (with_reducible refine (C7.out _ hBw _ _ _ _ _ _ _ hw13 _ _ _ _ _ _ _ hw15).mono ?_); rintro e wa13 ⟨rfl,hb⟩; have hBw := zad hBw hb; have hw11 := hw11.below hb; have hw12 := hw12.below hb; have hw13 := hw13.below hb; have hw14 := hw14.below hb; have hw15 := hw15.below hb; refine hK.out _ _ (Cs.below hHeld hb) (fun hHeld => ?_); clear hK K hb
 try simp only [sb9]
 refine tk 23 ?_
 refine tk 24 ?_
 refine tk 25 ?_
 refine tk 26 ?_
 refine tk 27 ?_
 refine tk 29 ?_
 refine tk 30 ?_
 refine rc 28 (fun K hK => ?_)
 go_simp
 go_at_call 26; (with_reducible refine (C8.out _ hBw).mono ?_); rintro e wa14 ⟨b16,B16,m16,d16,E16,u16,v16,rfl,hw16,hb⟩; have hBw := zad hBw hb; have hw11 := hw11.below hb; have hw12 := hw12.below hb; have hw13 := hw13.below hb; have hw14 := hw14.below hb; have hw15 := hw15.below hb; refine hK.out _ _ (Cs.below hHeld hb) (fun hHeld => ?_); clear hK K hb
 try simp only [sb9]
 refine rc 31 (fun K hK => ?_)
 go_simp
 go_at_call 27; (with_reducible refine (C9.out _ hBw).mono ?_); rintro e wa15 ⟨b17,B17,m17,d17,E17,u17,v17,rfl,hw17,hb⟩; have hBw := zad hBw hb; have hw11 := hw11.below hb; have hw12 := hw12.below hb; have hw13 := hw13.below hb; have hw14 := hw14.below hb; have hw15 := hw15.below hb; have hw16 := hw16.below hb; refine hK.out _ _ (Cs.below hHeld hb) (fun hHeld => ?_); clear hK K hb
 try simp only [sb9]
 refine rc 32 (fun K hK => ?_)
 go_simp
 go_at_call 14; (with_reducible refine (C10.out _ hBw _ _ _ _ _ _ _ hw16 _ _ _ _ _ _ _ hw17).mono ?_); rintro e wa16 ⟨rfl,hb⟩; have hBw := zad hBw hb; have hw11 := hw11.below hb; have hw12 := hw12.below hb; have hw13 := hw13.below hb; have hw14 := hw14.below hb; have hw15 := hw15.below hb; have hw16 := hw16.below hb; have hw17 := hw17.below hb; refine hK.out _ _ (Cs.below hHeld hb) (fun hHeld => ?_); clear hK K hb
 try simp only [sb9]
 refine tk 33 ?_
 refine tk 34 ?_
 refine tk 35 ?_
 refine tk 36 ?_
 refine tk 38 ?_
 refine rc 37 (fun K hK => ?_)
 go_simp
 go_at_call 28; (with_reducible refine (C11.out _ hBw).mono ?_); rintro e wa17 ⟨b18,B18,m18,d18,E18,u18,v18,rfl,hw18,hb⟩; have hBw := zad hBw hb; have hw11 := hw11.below hb; have hw12 := hw12.below hb; have hw13 := hw13.below hb; have hw14 := hw14.below hb; have hw15 := hw15.below hb; have hw16 := hw16.below hb; have hw17 := hw17.below hb; refine hK.out _ _ (Cs.below hHeld hb) (fun hHeld => ?_); clear hK K hb
 try simp only [sb9]
 refine rc 39 (fun K hK => ?_)
 go_simp
 go_at_call 25; (with_reducible refine (C12.out _ hBw).mono ?_); rintro e wa18 ⟨b19,B19,m19,d19,E19,u19,v19,rfl,hw19,hb⟩; have hBw := zad hBw hb; have hw11 := hw11.below hb; have hw12 := hw12.below hb; have hw13 := hw13.below hb; have hw14 := hw14.below hb; have hw15 := hw15.below hb; have hw16 := hw16.below hb; have hw17 := hw17.below hb; have hw18 := hw18.below hb; refine hK.out _ _ (Cs.below hHeld hb) (fun hHeld => ?_); clear hK K hb
 try simp only [sb9]
 refine rc 40 (fun K hK => ?_)
 go_simp
 go_at_call 14; (with_reducible refine (C13.out _ hBw _ _ _ _ _ _ _ hw18 _ _ _ _ _ _ _ hw19).mono ?_); rintro e wa19 ⟨rfl,hb⟩; have hBw := zad hBw hb; have hw11 := hw11.below hb; have hw12 := hw12.below hb; have hw13 := hw13.below hb; have hw14 := hw14.below hb; have hw15 := hw15.below hb; have hw16 := hw16.below hb; have hw17 := hw17.below hb; have hw18 := hw18.below hb; have hw19 := hw19.below hb; refine hK.out _ _ (Cs.below hHeld hb) (fun hHeld => ?_); clear hK K hb
 try simp only [sb9]
 refine tk 41 ?_
 refine tk 42 ?_
 refine rdn ?_
 have hB := zad hB hBw
 have g1 := zac hBw g1
 have e1 := zac hBw e1
 have i1 := zac hBw i1
 have g2 := zac hBw g2
 have e2 := zac hBw e2
 have i2 := zac hBw i2
 have g7 := zac hBw g7
 have e7 := zac hBw e7
 have i7 := zac hBw i7
 have g8 := zac hBw g8
 have e8 := zac hBw e8
 have i8 := zac hBw i8
 have g9 := zac hBw g9
 have e9 := zac hBw e9
 have i9 := zac hBw i9
 have g10 := zac hBw g10
 have e10 := zac hBw e10
 have i10 := zac hBw i10
 have HN3 := lh9 (HN3.out.below hBw)
 have HN4 := lh9 (HN4.out.below hBw)
 have HN5 := lh9 (HN5.out.below hBw)
 have HN6 := lh9 (HN6.out.below hBw)
 have HN11 := lh9 hw11
 have HN12 := lh9 hw12
 have HN13 := lh9 hw13
 have HN14 := lh9 hw14
 have HN15 := lh9 hw15
 have HN16 := lh9 hw16
 have HN17 := lh9 hw17
 have HN18 := lh9 hw18
 have HN19 := lh9 hw19
 clear hBw hHeld hw11 hw12 hw13 hw14 hw15 hw16 hw17 hw18 hw19 C0 C1 C2 C3 C4 C5 C6 C7 C8 C9 C10 C11 C12 C13
 rcases HCASE.out with hq | hq
 ·clear HCASE
  have Hy0 := lh9 hq
  clear hq
  go_wp2_with fail
  have HZ20 : Hid (SzQ (1) ((0 : Rat))) := SzQ.zero
  (with_reducible refine ((HQC.out.g0 M0).divNo (x) (y) b3 b4 B3 B4 m3 m4 d3 d4 E3 E4 u3 u4 v3 v4 _ (HT.out _ hB) HN3.out HN4.out (szq HZ3 HN3.out) (szq HZ4 HN4.out) Hy0.out).mono ?_)
  rintro e wc20 ⟨b20,B20,m20,d20,E20,u20,v20,rfl,hw20,hb⟩
  have hB := zad hB hb
  have g1 := zac hb g1
  have e1 := zac hb e1
  have i1 := zac hb i1
  have g2 := zac hb g2
  have e2 := zac hb e2
  have i2 := zac hb i2
  have g7 := zac hb g7
  have e7 := zac hb e7
  have i7 := zac hb i7
  have g8 := zac hb g8
  have e8 := zac hb e8
  have i8 := zac hb i8
  have g9 := zac hb g9
  have e9 := zac hb e9
  have i9 := zac hb i9
  have g10 := zac hb g10
  have e10 := zac hb e10
  have i10 := zac hb i10
  have HN3 := lh9 (HN3.out.below hb)
  have HN4 := lh9 (HN4.out.below hb)
  have HN5 := lh9 (HN5.out.below hb)
  have HN6 := lh9 (HN6.out.below hb)
  have HN11 := lh9 (HN11.out.below hb)
  have HN12 := lh9 (HN12.out.below hb)
  have HN13 := lh9 (HN13.out.below hb)
  have HN14 := lh9 (HN14.out.below hb)
  have HN15 := lh9 (HN15.out.below hb)
  have HN16 := lh9 (HN16.out.below hb)
  have HN17 := lh9 (HN17.out.below hb)
  have HN18 := lh9 (HN18.out.below hb)
  have HN19 := lh9 (HN19.out.below hb)
  have HN20 := lh9 hw20
  clear hb hw20
  have hl6 : ((m6 : Int) == 0) = true := by have := zeG HN6.out.1.2 (by rw [Hy0.out]; rfl); rw [beq_iff_eq]; omega
  obtain ⟨bx1,bx2,bz⟩ := zbd wc20 31 #[.bool b20,.slice B20 m20 d20,.slice E20 u20 v20]
  have hB := zad hB bx1
  have g1 := zac bx1 g1
  have e1 := zac bx1 e1
  have i1 := zac bx1 i1
  have g2 := zac bx1 g2
  have e2 := zac bx1 e2
  have i2 := zac bx1 i2
  have g7 := zac bx1 g7
  have e7 := zac bx1 e7
  have i7 := zac bx1 i7
  have g8 := zac bx1 g8
  have e8 := zac bx1 e8
  have i8 := zac bx1 i8
  have g9 := zac bx1 g9
  have e9 := zac bx1 e9
  have i9 := zac bx1 i9
  have g10 := zac bx1 g10
  have e10 := zac bx1 e10
  have i10 := zac bx1 i10
  have HN3 := lh9 (HN3.out.below bx1)
  have HN4 := lh9 (HN4.out.below bx1)
  have HN5 := lh9 (HN5.out.below bx1)
  have HN6 := lh9 (HN6.out.below bx1)
  have HN11 := lh9 (HN11.out.below bx1)
  have HN12 := lh9 (HN12.out.below bx1)
  have HN13 := lh9 (HN13.out.below bx1)
  have HN14 := lh9 (HN14.out.below bx1)
  have HN15 := lh9 (HN15.out.below bx1)
  have HN16 := lh9 (HN16.out.below bx1)
  have HN17 := lh9 (HN17.out.below bx1)
  have HN18 := lh9 (HN18.out.below bx1)
  have HN19 := lh9 (HN19.out.below bx1)
  have HN20 := lh9 (HN20.out.below bx1)
  obtain ⟨g21,e21,i21⟩ := bx2.c3
  clear bx1 bx2 bz
  go_wp2_with fail
  generalize wc20.alloc (.cells #[.bool b20,.slice B20 m20 d20,.slice E20 u20 v20] 31) = W21 at *
  generalize wc20.heap.size = q21 at *
  (with_reducible refine (zav (decide_eq_true rfl) (HQC.out.zero ((0 : Rat)) b20 B20 m20 d20 E20 u20 v20 _ (HT.out _ hB) HN20.out (szq HZ20 HN20.out))).mono ?_)
  rintro e wc22 ⟨rfl,hb⟩
  have hB := zad hB hb
  have g1 := zac hb g1
  have e1 := zac hb e1
  have i1 := zac hb i1
  have g2 := zac hb g2
  have e2 := zac hb e2
  have i2 := zac hb i2
  have g7 := zac hb g7
  have e7 := zac hb e7
  have i7 := zac hb i7
  have g8 := zac hb g8
  have e8 := zac hb e8
  have i8 := zac hb i8
  have g9 := zac hb g9
  have e9 := zac hb e9
  have i9 := zac hb i9
  have g10 := zac hb g10
  have e10 := zac hb e10
  have i10 := zac hb i10
  have HN3 := lh9 (HN3.out.below hb)
  have HN4 := lh9 (HN4.out.below hb)
  have HN5 := lh9 (HN5.out.below hb)
  have HN6 := lh9 (HN6.out.below hb)
  have HN11 := lh9 (HN11.out.below hb)
  have HN12 := lh9 (HN12.out.below hb)
  have HN13 := lh9 (HN13.out.below hb)
  have HN14 := lh9 (HN14.out.below hb)
  have HN15 := lh9 (HN15.out.below hb)
  have HN16 := lh9 (HN16.out.below hb)
  have HN17 := lh9 (HN17.out.below hb)
  have HN18 := lh9 (HN18.out.below hb)
  have HN19 := lh9 (HN19.out.below hb)
  have HN20 := lh9 (HN20.out.below hb)
  have g21 := zac hb g21
  have e21 := zac hb e21
  have i21 := zac hb i21
  clear hb 
  go_wp2
  go_ret
  exact ⟨by first | rfl | simp,hB⟩
 ·clear HCASE
  have Hy0 := lh9 hq
  clear hq
  go_wp2_with fail
  have HZ20 : Hid (SzQ (K + K) (x / y)) := SzQ.div HZ3.out HZ4.out
  (with_reducible refine ((HQC.out.g0 M0).div (x) (y) b3 b4 B3 B4 m3 m4 d3 d4 E3 E4 u3 u4 v3 v4 _ (HT.out _ hB) HN3.out HN4.out (szq HZ3 HN3.out) (szq HZ4 HN4.out) Hy0.out).mono ?_)
  rintro e wc20 ⟨b20,B20,m20,d20,E20,u20,v20,rfl,hw20,hb⟩
  have hB := zad hB hb
  have g1 := zac hb g1
  have e1 := zac hb e1
  have i1 := zac hb i1
  have g2 := zac hb g2
  have e2 := zac hb e2
  have i2 := zac hb i2
  have g7 := zac hb g7
  have e7 := zac hb e7
  have i7 := zac hb i7
  have g8 := zac hb g8
  have e8 := zac hb e8
  have i8 := zac hb i8
  have g9 := zac hb g9
  have e9 := zac hb e9
  have i9 := zac hb i9
  have g10 := zac hb g10
  have e10 := zac hb e10
  have i10 := zac hb i10
  have HN3 := lh9 (HN3.out.below hb)
  have HN4 := lh9 (HN4.out.below hb)
  have HN5 := lh9 (HN5.out.below hb)
  have HN6 := lh9 (HN6.out.below hb)
  have HN11 := lh9 (HN11.out.below hb)
  have HN12 := lh9 (HN12.out.below hb)
  have HN13 := lh9 (HN13.out.below hb)
  have HN14 := lh9 (HN14.out.below hb)
  have HN15 := lh9 (HN15.out.below hb)
  have HN16 := lh9 (HN16.out.below hb)
  have HN17 := lh9 (HN17.out.below hb)
  have HN18 := lh9 (HN18.out.below hb)
  have HN19 := lh9 (HN19.out.below hb)
  have HN20 := lh9 hw20
  clear hb hw20
  have hl6 : ((m6 : Int) == 0) = false := by have := zfa HN6.out.1.2 (fun h9 => Hy0.out (Rat.num_eq_zero.1 (by omega))); rw [beq_eq_false_iff_ne]; omega
  obtain ⟨bx1,bx2,bz⟩ := zbd wc20 31 #[.bool b20,.slice B20 m20 d20,.slice E20 u20 v20]
  have hB := zad hB bx1
  have g1 := zac bx1 g1
  have e1 := zac bx1 e1
  have i1 := zac bx1 i1
  have g2 := zac bx1 g2
  have e2 := zac bx1 e2
  have i2 := zac bx1 i2
  have g7 := zac bx1 g7
  have e7 := zac bx1 e7
  have i7 := zac bx1 i7
  have g8 := zac bx1 g8
  have e8 := zac bx1 e8
  have i8 := zac bx1 i8
  have g9 := zac bx1 g9
  have e9 := zac bx1 e9
  have i9 := zac bx1 i9
  have g10 := zac bx1 g10
  have e10 := zac bx1 e10
  have i10 := zac bx1 i10
  have HN3 := lh9 (HN3.out.below bx1)
  have HN4 := lh9 (HN4.out.below bx1)
  have HN5 := lh9 (HN5.out.below bx1)
  have HN6 := lh9 (HN6.out.below bx1)
  have HN11 := lh9 (HN11.out.below bx1)
  have HN12 := lh9 (HN12.out.below bx1)
  have HN13 := lh9 (HN13.out.below bx1)
  have HN14 := lh9 (HN14.out.below bx1)
  have HN15 := lh9 (HN15.out.below bx1)
  have HN16 := lh9 (HN16.out.below bx1)
  have HN17 := lh9 (HN17.out.below bx1)
  have HN18 := lh9 (HN18.out.below bx1)
  have HN19 := lh9 (HN19.out.below bx1)
  have HN20 := lh9 (HN20.out.below bx1)
  obtain ⟨g21,e21,i21⟩ := bx2.c3
  clear bx1 bx2 bz
  go_wp2_with fail
  generalize wc20.alloc (.cells #[.bool b20,.slice B20 m20 d20,.slice E20 u20 v20] 31) = W21 at *
  generalize wc20.heap.size = q21 at *
  have HZ22 : Hid (SzQ (K + K) (x / y)) := SzQ.div HZ5.out HZ6.out
  have C0 := lh9 (fun w' (h : Below W21.heap.size W21 w') => ref8_div (x) (y) b5 B5 m5 d5 E5 u5 v5 b6 B6 m6 d6 E6 u6 v6 (K) (K) w' HZ5.out (HN5.out.below h) HZ6.out (HN6.out.below h) (by omega) (by omega) Hy0.out)
  have C1 := lh9 (fun w' (h : Below W21.heap.size W21 w') b22 B22 m22 d22 E22 u22 v22 (hw22 : zbF w' (x / y) b22 B22 m22 d22 E22 u22 v22) => zcJ hTb HIC.out HQC.out (x / y) (K + K) b20 B20 m20 d20 E20 u20 v20 b22 B22 m22 d22 E22 u22 v22 w' (by omega) HZ20.out (HN20.out.below h) hw22 (HT.out _ (zad hB h)))
  have hBw := (Below.refl W21.heap.size W21).drew
  refine rg (csc g21 (csc e21 (csc i21 (csc g9 (csc e9 (csc i9 (csc g10 (csc e10 (csc i10 csn))))))))) (fun hHeld => ?_)
  refine tk 0 ?_
  refine tk 1 ?_
  refine tk 2 ?_
  refine tk 3 ?_
  refine tk 4 ?_
  refine rc 5 (fun K hK => ?_)
  go_simp
  go_at_call 30; (with_reducible refine (C0.out _ hBw).mono ?_); rintro e wa22 ⟨b22,B22,m22,d22,E22,u22,v22,rfl,hw22,hb⟩; have hBw := zad hBw hb; refine hK.out _ _ (Cs.below hHeld hb) (fun hHeld => ?_); clear hK K hb
  try simp only [sb9]
  refine rc 6 (fun K hK => ?_)
  go_simp
  go_at_call 14; (with_reducible refine (C1.out _ hBw _ _ _ _ _ _ _ hw22).mono ?_); rintro e wa23 ⟨rfl,hb⟩; have hBw := zad hBw hb; have hw22 := hw22.below hb; refine hK.out _ _ (Cs.below hHeld hb) (fun hHeld => ?_); clear hK K hb
  try simp only [sb9]
  refine tk 7 ?_
  refine tk 8 ?_
  refine rdn ?_
  have hB := zad hB hBw
  have g1 := zac hBw g1
  have e1 := zac hBw e1
  have i1 := zac hBw i1
  have g2 := zac hBw g2
  have e2 := zac hBw e2
  have i2 := zac hBw i2
  have g7 := zac hBw g7
  have e7 := zac hBw e7
  have i7 := zac hBw i7
  have g8 := zac hBw g8
  have e8 := zac hBw e8
  have i8 := zac hBw i8
  have g9 := zac hBw g9
  have e9 := zac hBw e9
  have i9 := zac hBw i9
  have g10 := zac hBw g10
  have e10 := zac hBw e10
  have i10 := zac hBw i10
  have HN3 := lh9 (HN3.out.below hBw)
  have HN4 := lh9 (HN4.out.below hBw)
  have HN5 := lh9 (HN5.out.below hBw)
  have HN6 := lh9 (HN6.out.below hBw)
  have HN11 := lh9 (HN11.out.below hBw)
  have HN12 := lh9 (HN12.out.below hBw)
  have HN13 := lh9 (HN13.out.below hBw)
  have HN14 := lh9 (HN14.out.below hBw)
  have HN15 := lh9 (HN15.out.below hBw)
  have HN16 := lh9 (HN16.out.below hBw)
  have HN17 := lh9 (HN17.out.below hBw)
  have HN18 := lh9 (HN18.out.below hBw)
  have HN19 := lh9 (HN19.out.below hBw)
  have HN20 := lh9 (HN20.out.below hBw)
  have g21 := zac hBw g21
  have e21 := zac hBw e21
  have i21 := zac hBw i21
  have HN22 := lh9 hw22
  clear hBw hHeld hw22 C0 C1
  go_wp2
  go_ret
  exact ⟨by first | rfl | simp,hB⟩
theorem ratSums_core {T : World → Prop} {M : Nat → Prop} (hTb : ∀ w w',T w → Below w.heap.size w w' → T w') (IC : IntC T) (QC : RatC T M) (M0 : M 0) (s0 : Bool) (A0 : oA9) (n0 c0 : Nat) (l0 : List Nat) (E0 : oA9) (u0 v0 : Nat) (e0 : List Nat) (s1 : Bool) (A1 : oA9) (n1 c1 : Nat) (l1 : List Nat) (E1 : oA9) (u1 v1 : Nat) (e1 : List Nat) (w : World) (h0 : zaw w A0 n0 c0 l0) (k0 : zaw w E0 u0 v0 e0) (h1 : zaw w A1 n1 c1 l1) (k1 : zaw w E1 u1 v1 e1) (hT : T w) :
  Calls Tryz.prog 4 #[.agg #[.bool s0,.slice A0 n0 c0,.slice E0 u0 v0],.agg #[.bool s1,.slice A1 n1 c1,.slice E1 u1 v1]] w fun e w' => e = .returned (.bool true) ∧ Below w.heap.size w w' := by
 obtain ⟨ta,ha⟩ := zgs s0 A0 n0 c0 E0 u0 v0
 obtain ⟨tb,hb⟩ := zgs s1 A1 n1 c1 E1 u1 v1
 cases ta
 ·exact zlu hTb IC QC M0 s0 A0 n0 c0 l0 E0 u0 v0 e0 s1 A1 n1 c1 l1 E1 u1 v1 e1 w h0 k0 h1 k1 ha hT
 ·cases tb
  ·exact zlv hTb IC QC M0 s0 A0 n0 c0 l0 E0 u0 v0 e0 s1 A1 n1 c1 l1 E1 u1 v1 e1 w h0 k0 h1 k1 ha hb hT
  ·exact zlh hTb IC QC M0 s0 A0 n0 c0 l0 E0 u0 v0 e0 s1 A1 n1 c1 l1 E1 u1 v1 e1 w h0 k0 h1 k1 ha hb hT
end Go.Proofs.YtgigccjiblaefaaGreatDoor
