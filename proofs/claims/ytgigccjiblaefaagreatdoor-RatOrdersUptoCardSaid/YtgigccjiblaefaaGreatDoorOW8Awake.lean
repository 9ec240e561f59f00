/- What this claim leans on. -/
import Derived.Test.YtgigccjiblaefaaGreatDoorOBunP
namespace Go.Proofs.YtgigccjiblaefaaGreatDoor
open Go Go.RowKit
set_option maxHeartbeats 16000000
set_option maxRecDepth 100000
set_option linter.unusedVariables false
set_option linter.unusedSimpArgs false
theorem zex {T : World → Prop} {M : Nat → Prop} (hTb : ∀ w w',T w → Below w.heap.size w w' → T w') (IC : IntC T) (QC : RatC T M) (w : World) (hT : T w) : Calls Tryz.prog 9 #[] w fun e w' => e = .returned (.bool true) ∧ Below w.heap.size w w' := by
 have HIC := lh9 IC
 have HQC := lh9 QC
 have HT := lh9 (fun w' (hb : Below w.heap.size w w') => hTb w w' hT hb)
 clear IC QC hT
 go_enter Tryz.func9,Tryz.ntmps9
 have hB := Below.refl w.heap.size w
 go_wp2_with fail
 have HZ1 : Hid (SzQ (1) (Rat.divInt (6) (-4))) := SzQ.made (K := 1) (by show ((6) : Int).natAbs < _; decide) (by show ((-4) : Int).natAbs < _; decide) (by decide)
 (with_reducible refine (HQC.out.of (6) (-4) _ (HT.out _ hB) (by decide) (by decide) (by decide) (by decide) (by decide)).mono ?_)
 rintro e wc1 ⟨b1,B1,m1,d1,E1,u1,v1,rfl,hw1,hb⟩
 have hB := zad hB hb
 have HN1 := lh9 hw1
 clear hb hw1
 obtain ⟨bx1,bx2,bz⟩ := zbm wc1 31 #[.bool b1,.slice B1 m1 d1,.slice E1 u1 v1]
 have hB := zad hB bx1
 have HN1 := lh9 (HN1.out.below bx1)
 obtain ⟨g2,e2,i2⟩ := bx2.c3
 clear bx1 bx2 bz
 go_wp2_with fail
 generalize wc1.alloc (.cells #[.bool b1,.slice B1 m1 d1,.slice E1 u1 v1] 31) = W2 at *
 generalize wc1.heap.size = q2 at *
 have HZ3 : Hid (SzQ (1) ((Rat.divInt (6) (-4))⁻¹)) := SzQ.inv HZ1.out
 (with_reducible refine (HQC.out.inv (Rat.divInt (6) (-4)) b1 B1 m1 d1 E1 u1 v1 _ (HT.out _ hB) HN1.out (szq HZ1 HN1.out) aw_ne).mono ?_)
 rintro e wc3 ⟨b3,B3,m3,d3,E3,u3,v3,rfl,hw3,hb⟩
 have hB := zad hB hb
 have HN1 := lh9 (HN1.out.below hb)
 have g2 := zac hb g2
 have e2 := zac hb e2
 have i2 := zac hb i2
 have HN3 := lh9 hw3
 clear hb hw3
 obtain ⟨bx1,bx2,bz⟩ := zbm wc3 31 #[.bool b3,.slice B3 m3 d3,.slice E3 u3 v3]
 have hB := zad hB bx1
 have HN1 := lh9 (HN1.out.below bx1)
 have g2 := zac bx1 g2
 have e2 := zac bx1 e2
 have i2 := zac bx1 i2
 have HN3 := lh9 (HN3.out.below bx1)
 obtain ⟨g4,e4,i4⟩ := bx2.c3
 clear bx1 bx2 bz
 go_wp2_with fail
 generalize wc3.alloc (.cells #[.bool b3,.slice B3 m3 d3,.slice E3 u3 v3] 31) = W4 at *
 generalize wc3.heap.size = q4 at *
 have HZ5 : Hid (SzQ (1) ((0 : Rat))) := SzQ.zero
 (with_reducible refine (HQC.out.ofNo (1) (0) _ (HT.out _ hB) (by decide) (by decide) rfl).mono ?_)
 rintro e wc5 ⟨b5,B5,m5,d5,E5,u5,v5,rfl,hw5,hb⟩
 have hB := zad hB hb
 have HN1 := lh9 (HN1.out.below hb)
 have g2 := zac hb g2
 have e2 := zac hb e2
 have i2 := zac hb i2
 have HN3 := lh9 (HN3.out.below hb)
 have g4 := zac hb g4
 have e4 := zac hb e4
 have i4 := zac hb i4
 have HN5 := lh9 hw5
 clear hb hw5
 obtain ⟨bx1,bx2,bz⟩ := zbm wc5 31 #[.bool b5,.slice B5 m5 d5,.slice E5 u5 v5]
 have hB := zad hB bx1
 have HN1 := lh9 (HN1.out.below bx1)
 have g2 := zac bx1 g2
 have e2 := zac bx1 e2
 have i2 := zac bx1 i2
 have HN3 := lh9 (HN3.out.below bx1)
 have g4 := zac bx1 g4
 have e4 := zac bx1 e4
 have i4 := zac bx1 i4
 have HN5 := lh9 (HN5.out.below bx1)
 obtain ⟨g6,e6,i6⟩ := bx2.c3
 clear bx1 bx2 bz
 go_wp2_with fail
 generalize wc5.alloc (.cells #[.bool b5,.slice B5 m5 d5,.slice E5 u5 v5] 31) = W6 at *
 generalize wc5.heap.size = q6 at *
 have HZ7 : Hid (SzQ (1) (Rat.divInt (1) (2))) := SzQ.made (K := 1) (by show ((1) : Int).natAbs < _; decide) (by show ((2) : Int).natAbs < _; decide) (by decide)
 (with_reducible refine (HQC.out.of (1) (2) _ (HT.out _ hB) (by decide) (by decide) (by decide) (by decide) (by decide)).mono ?_)
 rintro e wc7 ⟨b7,B7,m7,d7,E7,u7,v7,rfl,hw7,hb⟩
 have hB := zad hB hb
 have HN1 := lh9 (HN1.out.below hb)
 have g2 := zac hb g2
 have e2 := zac hb e2
 have i2 := zac hb i2
 have HN3 := lh9 (HN3.out.below hb)
 have g4 := zac hb g4
 have e4 := zac hb e4
 have i4 := zac hb i4
 have HN5 := lh9 (HN5.out.below hb)
 have g6 := zac hb g6
 have e6 := zac hb e6
 have i6 := zac hb i6
 have HN7 := lh9 hw7
 clear hb hw7
 obtain ⟨bx1,bx2,bz⟩ := zbm wc7 31 #[.bool b7,.slice B7 m7 d7,.slice E7 u7 v7]
 have hB := zad hB bx1
 have HN1 := lh9 (HN1.out.below bx1)
 have g2 := zac bx1 g2
 have e2 := zac bx1 e2
 have i2 := zac bx1 i2
 have HN3 := lh9 (HN3.out.below bx1)
 have g4 := zac bx1 g4
 have e4 := zac bx1 e4
 have i4 := zac bx1 i4
 have HN5 := lh9 (HN5.out.below bx1)
 have g6 := zac bx1 g6
 have e6 := zac bx1 e6
 have i6 := zac bx1 i6
 have HN7 := lh9 (HN7.out.below bx1)
 obtain ⟨g8,e8,i8⟩ := bx2.c3
 clear bx1 bx2 bz
 go_wp2_with fail
 generalize wc7.alloc (.cells #[.bool b7,.slice B7 m7 d7,.slice E7 u7 v7] 31) = W8 at *
 generalize wc7.heap.size = q8 at *
 have HZ9 : Hid (SzQ (1) (Rat.divInt (1) (3))) := SzQ.made (K := 1) (by show ((1) : Int).natAbs < _; decide) (by show ((3) : Int).natAbs < _; decide) (by decide)
 (with_reducible refine (HQC.out.of (1) (3) _ (HT.out _ hB) (by decide) (by decide) (by decide) (by decide) (by decide)).mono ?_)
 rintro e wc9 ⟨b9,B9,m9,d9,E9,u9,v9,rfl,hw9,hb⟩
 have hB := zad hB hb
 have HN1 := lh9 (HN1.out.below hb)
 have g2 := zac hb g2
 have e2 := zac hb e2
 have i2 := zac hb i2
 have HN3 := lh9 (HN3.out.below hb)
 have g4 := zac hb g4
 have e4 := zac hb e4
 have i4 := zac hb i4
 have HN5 := lh9 (HN5.out.below hb)
 have g6 := zac hb g6
 have e6 := zac hb e6
 have i6 := zac hb i6
 have HN7 := lh9 (HN7.out.below hb)
 have g8 := zac hb g8
 have e8 := zac hb e8
 have i8 := zac hb i8
 have HN9 := lh9 hw9
 clear hb hw9
 obtain ⟨bx1,bx2,bz⟩ := zbm wc9 31 #[.bool b9,.slice B9 m9 d9,.slice E9 u9 v9]
 have hB := zad hB bx1
 have HN1 := lh9 (HN1.out.below bx1)
 have g2 := zac bx1 g2
 have e2 := zac bx1 e2
 have i2 := zac bx1 i2
 have HN3 := lh9 (HN3.out.below bx1)
 have g4 := zac bx1 g4
 have e4 := zac bx1 e4
 have i4 := zac bx1 i4
 have HN5 := lh9 (HN5.out.below bx1)
 have g6 := zac bx1 g6
 have e6 := zac bx1 e6
 have i6 := zac bx1 i6
 have HN7 := lh9 (HN7.out.below bx1)
 have g8 := zac bx1 g8
 have e8 := zac bx1 e8
 have i8 := zac bx1 i8
 have HN9 := lh9 (HN9.out.below bx1)
 obtain ⟨g10,e10,i10⟩ := bx2.c3
 clear bx1 bx2 bz
 go_wp2_with fail
 generalize wc9.alloc (.cells #[.bool b9,.slice B9 m9 d9,.slice E9 u9 v9] 31) = W10 at *
 generalize wc9.heap.size = q10 at *
 have HZ11 : Hid (Sz (1) ((Rat.divInt (6) (-4)).num).natAbs) := SzQ.num HZ1.out
 (with_reducible refine (HQC.out.num (Rat.divInt (6) (-4)) b1 B1 m1 d1 E1 u1 v1 _ (HT.out _ hB) HN1.out (szq HZ1 HN1.out)).mono ?_)
 rintro e wc11 ⟨b11,B11,m11,d11,rfl,hw11,hb⟩
 have hB := zad hB hb
 have HN1 := lh9 (HN1.out.below hb)
 have g2 := zac hb g2
 have e2 := zac hb e2
 have i2 := zac hb i2
 have HN3 := lh9 (HN3.out.below hb)
 have g4 := zac hb g4
 have e4 := zac hb e4
 have i4 := zac hb i4
 have HN5 := lh9 (HN5.out.below hb)
 have g6 := zac hb g6
 have e6 := zac hb e6
 have i6 := zac hb i6
 have HN7 := lh9 (HN7.out.below hb)
 have g8 := zac hb g8
 have e8 := zac hb e8
 have i8 := zac hb i8
 have HN9 := lh9 (HN9.out.below hb)
 have g10 := zac hb g10
 have e10 := zac hb e10
 have i10 := zac hb i10
 have HN11 := lh9 hw11
 clear hb hw11
 go_wp2_with fail
 have HZ12 : Hid (Sz (1) (((-3) : Int)).natAbs) := (by show ((-3) : Int).natAbs < _; decide)
 (with_reducible refine (HIC.out.of (-3) _ (HT.out _ hB) (by decide) (by decide)).mono ?_)
 rintro e wc12 ⟨b12,B12,m12,d12,rfl,hw12,hb⟩
 have hB := zad hB hb
 have HN1 := lh9 (HN1.out.below hb)
 have g2 := zac hb g2
 have e2 := zac hb e2
 have i2 := zac hb i2
 have HN3 := lh9 (HN3.out.below hb)
 have g4 := zac hb g4
 have e4 := zac hb e4
 have i4 := zac hb i4
 have HN5 := lh9 (HN5.out.below hb)
 have g6 := zac hb g6
 have e6 := zac hb e6
 have i6 := zac hb i6
 have HN7 := lh9 (HN7.out.below hb)
 have g8 := zac hb g8
 have e8 := zac hb e8
 have i8 := zac hb i8
 have HN9 := lh9 (HN9.out.below hb)
 have g10 := zac hb g10
 have e10 := zac hb e10
 have i10 := zac hb i10
 have HN11 := lh9 (HN11.out.below hb)
 have HN12 := lh9 hw12
 clear hb hw12
 go_wp2_with fail
 (with_reducible refine (zeP (zft) (HIC.out.cmp ((Rat.divInt (6) (-4)).num) (((-3) : Int)) b11 b12 B11 B12 m11 m12 d11 d12 _ (HT.out _ hB) HN11.out HN12.out (by have := Sz.words HZ11.out HN11.out.words; omega) (by have := Sz.words HZ12.out HN12.out.words; omega))).mono ?_)
 rintro e wc13 ⟨rfl,hb⟩
 have hB := zad hB hb
 have HN1 := lh9 (HN1.out.below hb)
 have g2 := zac hb g2
 have e2 := zac hb e2
 have i2 := zac hb i2
 have HN3 := lh9 (HN3.out.below hb)
 have g4 := zac hb g4
 have e4 := zac hb e4
 have i4 := zac hb i4
 have HN5 := lh9 (HN5.out.below hb)
 have g6 := zac hb g6
 have e6 := zac hb e6
 have i6 := zac hb i6
 have HN7 := lh9 (HN7.out.below hb)
 have g8 := zac hb g8
 have e8 := zac hb e8
 have i8 := zac hb i8
 have HN9 := lh9 (HN9.out.below hb)
 have g10 := zac hb g10
 have e10 := zac hb e10
 have i10 := zac hb i10
 have HN11 := lh9 (HN11.out.below hb)
 have HN12 := lh9 (HN12.out.below hb)
 clear hb 
 go_wp2_with fail
 have HZ13 : Hid (Sz (1) ((Rat.divInt (6) (-4)).den)) := SzQ.den HZ1.out
 (with_reducible refine (HQC.out.den (Rat.divInt (6) (-4)) b1 B1 m1 d1 E1 u1 v1 _ (HT.out _ hB) HN1.out (szq HZ1 HN1.out)).mono ?_)
 rintro e wc14 ⟨B13,m13,d13,rfl,hw13,hb⟩
 have hB := zad hB hb
 have HN1 := lh9 (HN1.out.below hb)
 have g2 := zac hb g2
 have e2 := zac hb e2
 have i2 := zac hb i2
 have HN3 := lh9 (HN3.out.below hb)
 have g4 := zac hb g4
 have e4 := zac hb e4
 have i4 := zac hb i4
 have HN5 := lh9 (HN5.out.below hb)
 have g6 := zac hb g6
 have e6 := zac hb e6
 have i6 := zac hb i6
 have HN7 := lh9 (HN7.out.below hb)
 have g8 := zac hb g8
 have e8 := zac hb e8
 have i8 := zac hb i8
 have HN9 := lh9 (HN9.out.below hb)
 have g10 := zac hb g10
 have e10 := zac hb e10
 have i10 := zac hb i10
 have HN11 := lh9 (HN11.out.below hb)
 have HN12 := lh9 (HN12.out.below hb)
 have HN13 := lh9 hw13
 clear hb hw13
 obtain ⟨bx1,bx2,bz⟩ := zbm wc14 78 #[.int .u64 2]
 have hB := zad hB bx1
 have HN1 := lh9 (HN1.out.below bx1)
 have g2 := zac bx1 g2
 have e2 := zac bx1 e2
 have i2 := zac bx1 i2
 have HN3 := lh9 (HN3.out.below bx1)
 have g4 := zac bx1 g4
 have e4 := zac bx1 e4
 have i4 := zac bx1 i4
 have HN5 := lh9 (HN5.out.below bx1)
 have g6 := zac bx1 g6
 have e6 := zac bx1 e6
 have i6 := zac bx1 i6
 have HN7 := lh9 (HN7.out.below bx1)
 have g8 := zac bx1 g8
 have e8 := zac bx1 e8
 have i8 := zac bx1 i8
 have HN9 := lh9 (HN9.out.below bx1)
 have g10 := zac bx1 g10
 have e10 := zac bx1 e10
 have i10 := zac bx1 i10
 have HN11 := lh9 (HN11.out.below bx1)
 have HN12 := lh9 (HN12.out.below bx1)
 have HN13 := lh9 (HN13.out.below bx1)
 have k14 := bx2
 clear bx1 bx2 bz
 go_wp2_with fail
 generalize wc14.alloc (.cells #[.int .u64 2] 78) = W15 at *
 generalize wc14.heap.size = q15 at *
 obtain rfl : m13 = 1 := len_of HN13.out aw_dg
 (with_reducible refine (is_lits ((Rat.divInt (6) (-4)).den) B13 1 d13 _ _ [2] _ HN13.out k14 rfl rfl (dgs1 2 (by decide)) aw_dg (by decide)).mono ?_)
 rintro e wc16 ⟨rfl,hb⟩
 have hB := zad hB hb
 have HN1 := lh9 (HN1.out.below hb)
 have g2 := zac hb g2
 have e2 := zac hb e2
 have i2 := zac hb i2
 have HN3 := lh9 (HN3.out.below hb)
 have g4 := zac hb g4
 have e4 := zac hb e4
 have i4 := zac hb i4
 have HN5 := lh9 (HN5.out.below hb)
 have g6 := zac hb g6
 have e6 := zac hb e6
 have i6 := zac hb i6
 have HN7 := lh9 (HN7.out.below hb)
 have g8 := zac hb g8
 have e8 := zac hb e8
 have i8 := zac hb i8
 have HN9 := lh9 (HN9.out.below hb)
 have g10 := zac hb g10
 have e10 := zac hb e10
 have i10 := zac hb i10
 have HN11 := lh9 (HN11.out.below hb)
 have HN12 := lh9 (HN12.out.below hb)
 have HN13 := lh9 (HN13.out.below hb)
 have k14 := zae hb k14
 clear hb 
 go_wp2_with fail
 (with_reducible refine (zaZ (v := 4) (aw_bits) (HQC.out.bits (Rat.divInt (6) (-4)) b1 B1 m1 d1 E1 u1 v1 _ (HT.out _ hB) HN1.out (szq HZ1 HN1.out))).mono ?_)
 rintro e wc17 ⟨rfl,hb⟩
 have hB := zad hB hb
 have HN1 := lh9 (HN1.out.below hb)
 have g2 := zac hb g2
 have e2 := zac hb e2
 have i2 := zac hb i2
 have HN3 := lh9 (HN3.out.below hb)
 have g4 := zac hb g4
 have e4 := zac hb e4
 have i4 := zac hb i4
 have HN5 := lh9 (HN5.out.below hb)
 have g6 := zac hb g6
 have e6 := zac hb e6
 have i6 := zac hb i6
 have HN7 := lh9 (HN7.out.below hb)
 have g8 := zac hb g8
 have e8 := zac hb e8
 have i8 := zac hb i8
 have HN9 := lh9 (HN9.out.below hb)
 have g10 := zac hb g10
 have e10 := zac hb e10
 have i10 := zac hb i10
 have HN11 := lh9 (HN11.out.below hb)
 have HN12 := lh9 (HN12.out.below hb)
 have HN13 := lh9 (HN13.out.below hb)
 have k14 := zae hb k14
 clear hb 
 go_wp2_with fail
 have HZ15 : Hid (Sz (1) ((Rat.divInt (6) (-4)).floor).natAbs) := SzQ.floor HZ1.out
 (with_reducible refine (HQC.out.floor (Rat.divInt (6) (-4)) b1 B1 m1 d1 E1 u1 v1 _ (HT.out _ hB) HN1.out (szq HZ1 HN1.out)).mono ?_)
 rintro e wc18 ⟨b15,B15,m15,d15,rfl,hw15,hb⟩
 have hB := zad hB hb
 have HN1 := lh9 (HN1.out.below hb)
 have g2 := zac hb g2
 have e2 := zac hb e2
 have i2 := zac hb i2
 have HN3 := lh9 (HN3.out.below hb)
 have g4 := zac hb g4
 have e4 := zac hb e4
 have i4 := zac hb i4
 have HN5 := lh9 (HN5.out.below hb)
 have g6 := zac hb g6
 have e6 := zac hb e6
 have i6 := zac hb i6
 have HN7 := lh9 (HN7.out.below hb)
 have g8 := zac hb g8
 have e8 := zac hb e8
 have i8 := zac hb i8
 have HN9 := lh9 (HN9.out.below hb)
 have g10 := zac hb g10
 have e10 := zac hb e10
 have i10 := zac hb i10
 have HN11 := lh9 (HN11.out.below hb)
 have HN12 := lh9 (HN12.out.below hb)
 have HN13 := lh9 (HN13.out.below hb)
 have k14 := zae hb k14
 have HN15 := lh9 hw15
 clear hb hw15
 go_wp2_with fail
 have HZ16 : Hid (Sz (1) (((-2) : Int)).natAbs) := (by show ((-2) : Int).natAbs < _; decide)
 (with_reducible refine (HIC.out.of (-2) _ (HT.out _ hB) (by decide) (by decide)).mono ?_)
 rintro e wc19 ⟨b16,B16,m16,d16,rfl,hw16,hb⟩
 have hB := zad hB hb
 have HN1 := lh9 (HN1.out.below hb)
 have g2 := zac hb g2
 have e2 := zac hb e2
 have i2 := zac hb i2
 have HN3 := lh9 (HN3.out.below hb)
 have g4 := zac hb g4
 have e4 := zac hb e4
 have i4 := zac hb i4
 have HN5 := lh9 (HN5.out.below hb)
 have g6 := zac hb g6
 have e6 := zac hb e6
 have i6 := zac hb i6
 have HN7 := lh9 (HN7.out.below hb)
 have g8 := zac hb g8
 have e8 := zac hb e8
 have i8 := zac hb i8
 have HN9 := lh9 (HN9.out.below hb)
 have g10 := zac hb g10
 have e10 := zac hb e10
 have i10 := zac hb i10
 have HN11 := lh9 (HN11.out.below hb)
 have HN12 := lh9 (HN12.out.below hb)
 have HN13 := lh9 (HN13.out.below hb)
 have k14 := zae hb k14
 have HN15 := lh9 (HN15.out.below hb)
 have HN16 := lh9 hw16
 clear hb hw16
 go_wp2_with fail
 (with_reducible refine (zeP (aw_floor) (HIC.out.cmp ((Rat.divInt (6) (-4)).floor) (((-2) : Int)) b15 b16 B15 B16 m15 m16 d15 d16 _ (HT.out _ hB) HN15.out HN16.out (by have := Sz.words HZ15.out HN15.out.words; omega) (by have := Sz.words HZ16.out HN16.out.words; omega))).mono ?_)
 rintro e wc20 ⟨rfl,hb⟩
 have hB := zad hB hb
 have HN1 := lh9 (HN1.out.below hb)
 have g2 := zac hb g2
 have e2 := zac hb e2
 have i2 := zac hb i2
 have HN3 := lh9 (HN3.out.below hb)
 have g4 := zac hb g4
 have e4 := zac hb e4
 have i4 := zac hb i4
 have HN5 := lh9 (HN5.out.below hb)
 have g6 := zac hb g6
 have e6 := zac hb e6
 have i6 := zac hb i6
 have HN7 := lh9 (HN7.out.below hb)
 have g8 := zac hb g8
 have e8 := zac hb e8
 have i8 := zac hb i8
 have HN9 := lh9 (HN9.out.below hb)
 have g10 := zac hb g10
 have e10 := zac hb e10
 have i10 := zac hb i10
 have HN11 := lh9 (HN11.out.below hb)
 have HN12 := lh9 (HN12.out.below hb)
 have HN13 := lh9 (HN13.out.below hb)
 have k14 := zae hb k14
 have HN15 := lh9 (HN15.out.below hb)
 have HN16 := lh9 (HN16.out.below hb)
 clear hb 
 go_wp2_with fail
 have HZ17 : Hid (Sz (1) ((Rat.divInt (6) (-4)).ceil).natAbs) := SzQ.ceil HZ1.out
 (with_reducible refine (HQC.out.ceil (Rat.divInt (6) (-4)) b1 B1 m1 d1 E1 u1 v1 _ (HT.out _ hB) HN1.out (szq HZ1 HN1.out)).mono ?_)
 rintro e wc21 ⟨b17,B17,m17,d17,rfl,hw17,hb⟩
 have hB := zad hB hb
 have HN1 := lh9 (HN1.out.below hb)
 have g2 := zac hb g2
 have e2 := zac hb e2
 have i2 := zac hb i2
 have HN3 := lh9 (HN3.out.below hb)
 have g4 := zac hb g4
 have e4 := zac hb e4
 have i4 := zac hb i4
 have HN5 := lh9 (HN5.out.below hb)
 have g6 := zac hb g6
 have e6 := zac hb e6
 have i6 := zac hb i6
 have HN7 := lh9 (HN7.out.below hb)
 have g8 := zac hb g8
 have e8 := zac hb e8
 have i8 := zac hb i8
 have HN9 := lh9 (HN9.out.below hb)
 have g10 := zac hb g10
 have e10 := zac hb e10
 have i10 := zac hb i10
 have HN11 := lh9 (HN11.out.below hb)
 have HN12 := lh9 (HN12.out.below hb)
 have HN13 := lh9 (HN13.out.below hb)
 have k14 := zae hb k14
 have HN15 := lh9 (HN15.out.below hb)
 have HN16 := lh9 (HN16.out.below hb)
 have HN17 := lh9 hw17
 clear hb hw17
 go_wp2_with fail
 have HZ18 : Hid (Sz (1) (((-1) : Int)).natAbs) := (by show ((-1) : Int).natAbs < _; decide)
 (with_reducible refine (HIC.out.of (-1) _ (HT.out _ hB) (by decide) (by decide)).mono ?_)
 rintro e wc22 ⟨b18,B18,m18,d18,rfl,hw18,hb⟩
 have hB := zad hB hb
 have HN1 := lh9 (HN1.out.below hb)
 have g2 := zac hb g2
 have e2 := zac hb e2
 have i2 := zac hb i2
 have HN3 := lh9 (HN3.out.below hb)
 have g4 := zac hb g4
 have e4 := zac hb e4
 have i4 := zac hb i4
 have HN5 := lh9 (HN5.out.below hb)
 have g6 := zac hb g6
 have e6 := zac hb e6
 have i6 := zac hb i6
 have HN7 := lh9 (HN7.out.below hb)
 have g8 := zac hb g8
 have e8 := zac hb e8
 have i8 := zac hb i8
 have HN9 := lh9 (HN9.out.below hb)
 have g10 := zac hb g10
 have e10 := zac hb e10
 have i10 := zac hb i10
 have HN11 := lh9 (HN11.out.below hb)
 have HN12 := lh9 (HN12.out.below hb)
 have HN13 := lh9 (HN13.out.below hb)
 have k14 := zae hb k14
 have HN15 := lh9 (HN15.out.below hb)
 have HN16 := lh9 (HN16.out.below hb)
 have HN17 := lh9 (HN17.out.below hb)
 have HN18 := lh9 hw18
 clear hb hw18
 go_wp2_with fail
 (with_reducible refine (zeP (aw_ceil) (HIC.out.cmp ((Rat.divInt (6) (-4)).ceil) (((-1) : Int)) b17 b18 B17 B18 m17 m18 d17 d18 _ (HT.out _ hB) HN17.out HN18.out (by have := Sz.words HZ17.out HN17.out.words; omega) (by have := Sz.words HZ18.out HN18.out.words; omega))).mono ?_)
 rintro e wc23 ⟨rfl,hb⟩
 have hB := zad hB hb
 have HN1 := lh9 (HN1.out.below hb)
 have g2 := zac hb g2
 have e2 := zac hb e2
 have i2 := zac hb i2
 have HN3 := lh9 (HN3.out.below hb)
 have g4 := zac hb g4
 have e4 := zac hb e4
 have i4 := zac hb i4
 have HN5 := lh9 (HN5.out.below hb)
 have g6 := zac hb g6
 have e6 := zac hb e6
 have i6 := zac hb i6
 have HN7 := lh9 (HN7.out.below hb)
 have g8 := zac hb g8
 have e8 := zac hb e8
 have i8 := zac hb i8
 have HN9 := lh9 (HN9.out.below hb)
 have g10 := zac hb g10
 have e10 := zac hb e10
 have i10 := zac hb i10
 have HN11 := lh9 (HN11.out.below hb)
 have HN12 := lh9 (HN12.out.below hb)
 have HN13 := lh9 (HN13.out.below hb)
 have k14 := zae hb k14
 have HN15 := lh9 (HN15.out.below hb)
 have HN16 := lh9 (HN16.out.below hb)
 have HN17 := lh9 (HN17.out.below hb)
 have HN18 := lh9 (HN18.out.below hb)
 clear hb 
 go_wp2_with fail
 have HZ19 : Hid (Sz (1) (((Rat.divInt (6) (-4))⁻¹).num).natAbs) := SzQ.num HZ3.out
 (with_reducible refine (HQC.out.num ((Rat.divInt (6) (-4))⁻¹) b3 B3 m3 d3 E3 u3 v3 _ (HT.out _ hB) HN3.out (szq HZ3 HN3.out)).mono ?_)
 rintro e wc24 ⟨b19,B19,m19,d19,rfl,hw19,hb⟩
 have hB := zad hB hb
 have HN1 := lh9 (HN1.out.below hb)
 have g2 := zac hb g2
 have e2 := zac hb e2
 have i2 := zac hb i2
 have HN3 := lh9 (HN3.out.below hb)
 have g4 := zac hb g4
 have e4 := zac hb e4
 have i4 := zac hb i4
 have HN5 := lh9 (HN5.out.below hb)
 have g6 := zac hb g6
 have e6 := zac hb e6
 have i6 := zac hb i6
 have HN7 := lh9 (HN7.out.below hb)
 have g8 := zac hb g8
 have e8 := zac hb e8
 have i8 := zac hb i8
 have HN9 := lh9 (HN9.out.below hb)
 have g10 := zac hb g10
 have e10 := zac hb e10
 have i10 := zac hb i10
 have HN11 := lh9 (HN11.out.below hb)
 have HN12 := lh9 (HN12.out.below hb)
 have HN13 := lh9 (HN13.out.below hb)
 have k14 := zae hb k14
 have HN15 := lh9 (HN15.out.below hb)
 have HN16 := lh9 (HN16.out.below hb)
 have HN17 := lh9 (HN17.out.below hb)
 have HN18 := lh9 (HN18.out.below hb)
 have HN19 := lh9 hw19
 clear hb hw19
 go_wp2_with fail
 have HZ20 : Hid (Sz (1) (((-2) : Int)).natAbs) := (by show ((-2) : Int).natAbs < _; decide)
 (with_reducible refine (HIC.out.of (-2) _ (HT.out _ hB) (by decide) (by decide)).mono ?_)
 rintro e wc25 ⟨b20,B20,m20,d20,rfl,hw20,hb⟩
 have hB := zad hB hb
 have HN1 := lh9 (HN1.out.below hb)
 have g2 := zac hb g2
 have e2 := zac hb e2
 have i2 := zac hb i2
 have HN3 := lh9 (HN3.out.below hb)
 have g4 := zac hb g4
 have e4 := zac hb e4
 have i4 := zac hb i4
 have HN5 := lh9 (HN5.out.below hb)
 have g6 := zac hb g6
 have e6 := zac hb e6
 have i6 := zac hb i6
 have HN7 := lh9 (HN7.out.below hb)
 have g8 := zac hb g8
 have e8 := zac hb e8
 have i8 := zac hb i8
 have HN9 := lh9 (HN9.out.below hb)
 have g10 := zac hb g10
 have e10 := zac hb e10
 have i10 := zac hb i10
 have HN11 := lh9 (HN11.out.below hb)
 have HN12 := lh9 (HN12.out.below hb)
 have HN13 := lh9 (HN13.out.below hb)
 have k14 := zae hb k14
 have HN15 := lh9 (HN15.out.below hb)
 have HN16 := lh9 (HN16.out.below hb)
 have HN17 := lh9 (HN17.out.below hb)
 have HN18 := lh9 (HN18.out.below hb)
 have HN19 := lh9 (HN19.out.below hb)
 have HN20 := lh9 hw20
 clear hb hw20
 go_wp2_with fail
 (with_reducible refine (zeP (aw_inv) (HIC.out.cmp (((Rat.divInt (6) (-4))⁻¹).num) (((-2) : Int)) b19 b20 B19 B20 m19 m20 d19 d20 _ (HT.out _ hB) HN19.out HN20.out (by have := Sz.words HZ19.out HN19.out.words; omega) (by have := Sz.words HZ20.out HN20.out.words; omega))).mono ?_)
 rintro e wc26 ⟨rfl,hb⟩
 have hB := zad hB hb
 have HN1 := lh9 (HN1.out.below hb)
 have g2 := zac hb g2
 have e2 := zac hb e2
 have i2 := zac hb i2
 have HN3 := lh9 (HN3.out.below hb)
 have g4 := zac hb g4
 have e4 := zac hb e4
 have i4 := zac hb i4
 have HN5 := lh9 (HN5.out.below hb)
 have g6 := zac hb g6
 have e6 := zac hb e6
 have i6 := zac hb i6
 have HN7 := lh9 (HN7.out.below hb)
 have g8 := zac hb g8
 have e8 := zac hb e8
 have i8 := zac hb i8
 have HN9 := lh9 (HN9.out.below hb)
 have g10 := zac hb g10
 have e10 := zac hb e10
 have i10 := zac hb i10
 have HN11 := lh9 (HN11.out.below hb)
 have HN12 := lh9 (HN12.out.below hb)
 have HN13 := lh9 (HN13.out.below hb)
 have k14 := zae hb k14
 have HN15 := lh9 (HN15.out.below hb)
 have HN16 := lh9 (HN16.out.below hb)
 have HN17 := lh9 (HN17.out.below hb)
 have HN18 := lh9 (HN18.out.below hb)
 have HN19 := lh9 (HN19.out.below hb)
 have HN20 := lh9 (HN20.out.below hb)
 clear hb 
 go_wp2_with fail
 have HZ21 : Hid (SzQ (1 + 1 + 1) ((Rat.divInt (1) (2)) + (Rat.divInt (1) (3)))) := SzQ.add HZ7.out HZ9.out
 (with_reducible refine (HQC.out.add (Rat.divInt (1) (2)) (Rat.divInt (1) (3)) b7 b9 B7 B9 m7 m9 d7 d9 E7 E9 u7 u9 v7 v9 _ (HT.out _ hB) HN7.out HN9.out (szq HZ7 HN7.out) (szq HZ9 HN9.out)).mono ?_)
 rintro e wc27 ⟨b21,B21,m21,d21,E21,u21,v21,rfl,hw21,hb⟩
 have hB := zad hB hb
 have HN1 := lh9 (HN1.out.below hb)
 have g2 := zac hb g2
 have e2 := zac hb e2
 have i2 := zac hb i2
 have HN3 := lh9 (HN3.out.below hb)
 have g4 := zac hb g4
 have e4 := zac hb e4
 have i4 := zac hb i4
 have HN5 := lh9 (HN5.out.below hb)
 have g6 := zac hb g6
 have e6 := zac hb e6
 have i6 := zac hb i6
 have HN7 := lh9 (HN7.out.below hb)
 have g8 := zac hb g8
 have e8 := zac hb e8
 have i8 := zac hb i8
 have HN9 := lh9 (HN9.out.below hb)
 have g10 := zac hb g10
 have e10 := zac hb e10
 have i10 := zac hb i10
 have HN11 := lh9 (HN11.out.below hb)
 have HN12 := lh9 (HN12.out.below hb)
 have HN13 := lh9 (HN13.out.below hb)
 have k14 := zae hb k14
 have HN15 := lh9 (HN15.out.below hb)
 have HN16 := lh9 (HN16.out.below hb)
 have HN17 := lh9 (HN17.out.below hb)
 have HN18 := lh9 (HN18.out.below hb)
 have HN19 := lh9 (HN19.out.below hb)
 have HN20 := lh9 (HN20.out.below hb)
 have HN21 := lh9 hw21
 clear hb hw21
 go_wp2_with fail
 (with_reducible refine (law8_is hTb HIC.out HQC.out (5) (6) ((Rat.divInt (1) (2)) + (Rat.divInt (1) (3))) (1 + 1 + 1) b21 B21 m21 d21 E21 u21 v21 _ (by omega) HZ21.out HN21.out (HT.out _ hB) (by decide) (by decide) (by decide) (by decide) (by decide) (aw_sum)).mono ?_)
 rintro e wc28 ⟨rfl,hb⟩
 have hB := zad hB hb
 have HN1 := lh9 (HN1.out.below hb)
 have g2 := zac hb g2
 have e2 := zac hb e2
 have i2 := zac hb i2
 have HN3 := lh9 (HN3.out.below hb)
 have g4 := zac hb g4
 have e4 := zac hb e4
 have i4 := zac hb i4
 have HN5 := lh9 (HN5.out.below hb)
 have g6 := zac hb g6
 have e6 := zac hb e6
 have i6 := zac hb i6
 have HN7 := lh9 (HN7.out.below hb)
 have g8 := zac hb g8
 have e8 := zac hb e8
 have i8 := zac hb i8
 have HN9 := lh9 (HN9.out.below hb)
 have g10 := zac hb g10
 have e10 := zac hb e10
 have i10 := zac hb i10
 have HN11 := lh9 (HN11.out.below hb)
 have HN12 := lh9 (HN12.out.below hb)
 have HN13 := lh9 (HN13.out.below hb)
 have k14 := zae hb k14
 have HN15 := lh9 (HN15.out.below hb)
 have HN16 := lh9 (HN16.out.below hb)
 have HN17 := lh9 (HN17.out.below hb)
 have HN18 := lh9 (HN18.out.below hb)
 have HN19 := lh9 (HN19.out.below hb)
 have HN20 := lh9 (HN20.out.below hb)
 have HN21 := lh9 (HN21.out.below hb)
 clear hb 
 go_wp2
 go_ret
 exact ⟨by first | rfl | simp,hB⟩
end Go.Proofs.YtgigccjiblaefaaGreatDoor
