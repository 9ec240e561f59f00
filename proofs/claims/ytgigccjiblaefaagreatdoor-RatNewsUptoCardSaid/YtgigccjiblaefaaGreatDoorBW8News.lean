/- What this claim leans on. -/
import Derived.Test.YtgigccjiblaefaaGreatDoorBW8Awake
import Derived.Test.YtgigccjiblaefaaGreatDoorBW8Like
namespace Go.Proofs.YtgigccjiblaefaaGreatDoor
open Go Go.RowKit
set_option maxRecDepth 100000
set_option linter.unusedVariables false
set_option linter.unusedSimpArgs false
set_option maxHeartbeats 16000000 in
theorem zkU {T : World → Prop} {M : Nat → Prop} (hTb : ∀ w w', T w → Below w.heap.size w w' → T w') (IC : IntC T) (QC : RatC T M) (s0 : Bool) (A0 : Option Addr) (n0 c0 : Nat) (l0 : List Nat) (s1 : Bool) (A1 : Option Addr) (n1 c1 : Nat) (l1 : List Nat) (w : World) (h0 : zaL w A0 n0 c0 l0) (h1 : zaL w A1 n1 c1 l1) (p0 : 8 < n0) (hT : T w) :
  Calls Tryz.prog 3 #[.agg #[.bool s0, .slice A0 n0 c0], .agg #[.bool s1, .slice A1 n1 c1]] w fun e w' => e = .returned (.bool true) ∧ Below w.heap.size w w' := by
 have HAW := Lib.hid (fun w' (hb : Below w.heap.size w w') => zdg hTb IC QC w' (hTb w w' hT hb))
 have HIC := Lib.hid IC
 have HQC := Lib.hid QC
 have HT := Lib.hid (fun w' (hb : Below w.heap.size w w') => hTb w w' hT hb)
 obtain ⟨K, hK⟩ : ∃ K, 1048576 = K := ⟨_, rfl⟩
 have hKK : K ≤ 1048576 := by omega
 have hK0 : 0 < K := by omega
 have HM0 := Lib.hid (fun w' (hb : Below w.heap.size w w') => zbN hTb IC s0 A0 n0 c0 l0 w' ⟨(h0.reads.below hb).more hb.size, h0.dgs, h0.fits, h0.small⟩ (hTb w w' hT hb))
 have HRF0 := Lib.hid (fun w' (hb : Below w.heap.size w w') => zcm s0 A0 n0 c0 l0 w' ⟨(h0.reads.below hb).more hb.size, h0.dgs, h0.fits, h0.small⟩)
 have S0 : Sz 1048576 (zOf s0 l0).natAbs := by rw [zcK]; exact zcS h0
 rw [hK] at S0
 obtain ⟨x, hz0⟩ : ∃ x, zOf s0 l0 = x := ⟨_, rfl⟩
 rw [hz0] at HM0 HRF0 S0
 have HS0 := Lib.hid S0
 have HM1 := Lib.hid (fun w' (hb : Below w.heap.size w w') => zbN hTb IC s1 A1 n1 c1 l1 w' ⟨(h1.reads.below hb).more hb.size, h1.dgs, h1.fits, h1.small⟩ (hTb w w' hT hb))
 have HRF1 := Lib.hid (fun w' (hb : Below w.heap.size w w') => zcm s1 A1 n1 c1 l1 w' ⟨(h1.reads.below hb).more hb.size, h1.dgs, h1.fits, h1.small⟩)
 have S1 : Sz 1048576 (zOf s1 l1).natAbs := by rw [zcK]; exact zcS h1
 rw [hK] at S1
 obtain ⟨y, hz1⟩ : ∃ x, zOf s1 l1 = x := ⟨_, rfl⟩
 rw [hz1] at HM1 HRF1 S1
 have HS1 := Lib.hid S1
 have hd0 : decide ((n0 : Int) > 8) = true := by simp; omega
 have he0 : decide ((8 : Int) < (n0 : Int)) = true := by simp; omega
 have hf0 : decide (8 < n0) = true := by simp; omega
 clear IC QC hT h0 h1 hz0 hz1 S0 S1 hK p0
 go_enter Tryz.func3, Tryz.ntmps3
 have hB := Below.refl w.heap.size w
 obtain ⟨bx1, bx2, bx3, bz⟩ := zaO w 24 24 #[.bool s0, .slice A0 n0 c0] #[.bool s1, .slice A1 n1 c1]
 have hB := zad hB bx1
 obtain ⟨g1, e1⟩ := bx2.c2
 obtain ⟨g2, e2⟩ := bx3.c2
 clear bx1 bx2 bx3 bz
 go_wp2_with fail
 generalize (w.alloc (.cells #[.bool s0, .slice A0 n0 c0] 24)).alloc (.cells #[.bool s1, .slice A1 n1 c1] 24) = W1 at *
 (with_reducible refine (HAW.out _ hB).mono ?_)
 rintro e wc2 ⟨rfl, hb⟩
 have hB := zad hB hb
 have g1 := zac hb g1
 have e1 := zac hb e1
 have g2 := zac hb g2
 have e2 := zac hb e2
 clear hb 
 go_wp2
 go_ret
 exact ⟨by first | rfl | simp, hB⟩
set_option maxHeartbeats 16000000 in
theorem zlf {T : World → Prop} {M : Nat → Prop} (hTb : ∀ w w', T w → Below w.heap.size w w' → T w') (IC : IntC T) (QC : RatC T M) (s0 : Bool) (A0 : Option Addr) (n0 c0 : Nat) (l0 : List Nat) (s1 : Bool) (A1 : Option Addr) (n1 c1 : Nat) (l1 : List Nat) (w : World) (h0 : zaL w A0 n0 c0 l0) (h1 : zaL w A1 n1 c1 l1) (p0 : n0 ≤ 8) (p1 : 8 < n1) (hT : T w) :
  Calls Tryz.prog 3 #[.agg #[.bool s0, .slice A0 n0 c0], .agg #[.bool s1, .slice A1 n1 c1]] w fun e w' => e = .returned (.bool true) ∧ Below w.heap.size w w' := by
 have HAW := Lib.hid (fun w' (hb : Below w.heap.size w w') => zdg hTb IC QC w' (hTb w w' hT hb))
 have HIC := Lib.hid IC
 have HQC := Lib.hid QC
 have HT := Lib.hid (fun w' (hb : Below w.heap.size w w') => hTb w w' hT hb)
 obtain ⟨K, hK⟩ : ∃ K, 1048576 = K := ⟨_, rfl⟩
 have hKK : K ≤ 1048576 := by omega
 have hK0 : 0 < K := by omega
 have HM0 := Lib.hid (fun w' (hb : Below w.heap.size w w') => zbN hTb IC s0 A0 n0 c0 l0 w' ⟨(h0.reads.below hb).more hb.size, h0.dgs, h0.fits, h0.small⟩ (hTb w w' hT hb))
 have HRF0 := Lib.hid (fun w' (hb : Below w.heap.size w w') => zcm s0 A0 n0 c0 l0 w' ⟨(h0.reads.below hb).more hb.size, h0.dgs, h0.fits, h0.small⟩)
 have S0 : Sz 1048576 (zOf s0 l0).natAbs := by rw [zcK]; exact zcS h0
 rw [hK] at S0
 obtain ⟨x, hz0⟩ : ∃ x, zOf s0 l0 = x := ⟨_, rfl⟩
 rw [hz0] at HM0 HRF0 S0
 have HS0 := Lib.hid S0
 have HM1 := Lib.hid (fun w' (hb : Below w.heap.size w w') => zbN hTb IC s1 A1 n1 c1 l1 w' ⟨(h1.reads.below hb).more hb.size, h1.dgs, h1.fits, h1.small⟩ (hTb w w' hT hb))
 have HRF1 := Lib.hid (fun w' (hb : Below w.heap.size w w') => zcm s1 A1 n1 c1 l1 w' ⟨(h1.reads.below hb).more hb.size, h1.dgs, h1.fits, h1.small⟩)
 have S1 : Sz 1048576 (zOf s1 l1).natAbs := by rw [zcK]; exact zcS h1
 rw [hK] at S1
 obtain ⟨y, hz1⟩ : ∃ x, zOf s1 l1 = x := ⟨_, rfl⟩
 rw [hz1] at HM1 HRF1 S1
 have HS1 := Lib.hid S1
 have hd0 : decide ((n0 : Int) > 8) = false := by simp; omega
 have he0 : decide ((8 : Int) < (n0 : Int)) = false := by simp; omega
 have hf0 : decide (8 < n0) = false := by simp; omega
 have hd1 : decide ((n1 : Int) > 8) = true := by simp; omega
 have he1 : decide ((8 : Int) < (n1 : Int)) = true := by simp; omega
 have hf1 : decide (8 < n1) = true := by simp; omega
 clear IC QC hT h0 h1 hz0 hz1 S0 S1 hK p0 p1
 go_enter Tryz.func3, Tryz.ntmps3
 have hB := Below.refl w.heap.size w
 obtain ⟨bx1, bx2, bx3, bz⟩ := zaO w 24 24 #[.bool s0, .slice A0 n0 c0] #[.bool s1, .slice A1 n1 c1]
 have hB := zad hB bx1
 obtain ⟨g1, e1⟩ := bx2.c2
 obtain ⟨g2, e2⟩ := bx3.c2
 clear bx1 bx2 bx3 bz
 go_wp2_with fail
 generalize (w.alloc (.cells #[.bool s0, .slice A0 n0 c0] 24)).alloc (.cells #[.bool s1, .slice A1 n1 c1] 24) = W1 at *
 (with_reducible refine (HAW.out _ hB).mono ?_)
 rintro e wc2 ⟨rfl, hb⟩
 have hB := zad hB hb
 have g1 := zac hb g1
 have e1 := zac hb e1
 have g2 := zac hb g2
 have e2 := zac hb e2
 clear hb 
 go_wp2
 go_ret
 exact ⟨by first | rfl | simp, hB⟩
set_option maxHeartbeats 16000000 in
theorem zkJ {T : World → Prop} {M : Nat → Prop} (hTb : ∀ w w', T w → Below w.heap.size w w' → T w') (IC : IntC T) (QC : RatC T M) (s0 : Bool) (A0 : Option Addr) (n0 c0 : Nat) (l0 : List Nat) (s1 : Bool) (A1 : Option Addr) (n1 c1 : Nat) (l1 : List Nat) (w : World) (h0 : zaL w A0 n0 c0 l0) (h1 : zaL w A1 n1 c1 l1) (y0 : zOf s1 l1 = 0) (p0 : n0 ≤ 8) (p1 : n1 ≤ 8) (hT : T w) :
  Calls Tryz.prog 3 #[.agg #[.bool s0, .slice A0 n0 c0], .agg #[.bool s1, .slice A1 n1 c1]] w fun e w' => e = .returned (.bool true) ∧ Below w.heap.size w w' := by
 have HAW := Lib.hid (fun w' (hb : Below w.heap.size w w') => zdg hTb IC QC w' (hTb w w' hT hb))
 have HIC := Lib.hid IC
 have HQC := Lib.hid QC
 have HT := Lib.hid (fun w' (hb : Below w.heap.size w w') => hTb w w' hT hb)
 obtain ⟨K, hK⟩ : ∃ K, 1048576 = K := ⟨_, rfl⟩
 have hKK : K ≤ 1048576 := by omega
 have hK0 : 0 < K := by omega
 have HM0 := Lib.hid (fun w' (hb : Below w.heap.size w w') => zbN hTb IC s0 A0 n0 c0 l0 w' ⟨(h0.reads.below hb).more hb.size, h0.dgs, h0.fits, h0.small⟩ (hTb w w' hT hb))
 have HRF0 := Lib.hid (fun w' (hb : Below w.heap.size w w') => zcm s0 A0 n0 c0 l0 w' ⟨(h0.reads.below hb).more hb.size, h0.dgs, h0.fits, h0.small⟩)
 have S0 : Sz 1048576 (zOf s0 l0).natAbs := by rw [zcK]; exact zcS h0
 rw [hK] at S0
 obtain ⟨x, hz0⟩ : ∃ x, zOf s0 l0 = x := ⟨_, rfl⟩
 rw [hz0] at HM0 HRF0 S0
 have HS0 := Lib.hid S0
 have HM1 := Lib.hid (fun w' (hb : Below w.heap.size w w') => zbN hTb IC s1 A1 n1 c1 l1 w' ⟨(h1.reads.below hb).more hb.size, h1.dgs, h1.fits, h1.small⟩ (hTb w w' hT hb))
 have HRF1 := Lib.hid (fun w' (hb : Below w.heap.size w w') => zcm s1 A1 n1 c1 l1 w' ⟨(h1.reads.below hb).more hb.size, h1.dgs, h1.fits, h1.small⟩)
 have S1 : Sz 1048576 (zOf s1 l1).natAbs := by rw [zcK]; exact zcS h1
 rw [hK] at S1
 obtain ⟨y, hz1⟩ : ∃ x, zOf s1 l1 = x := ⟨_, rfl⟩
 rw [hz1] at HM1 HRF1 S1 y0
 have HS1 := Lib.hid S1
 have Hy0 := Lib.hid y0
 have hd0 : decide ((n0 : Int) > 8) = false := by simp; omega
 have he0 : decide ((8 : Int) < (n0 : Int)) = false := by simp; omega
 have hf0 : decide (8 < n0) = false := by simp; omega
 have hd1 : decide ((n1 : Int) > 8) = false := by simp; omega
 have he1 : decide ((8 : Int) < (n1 : Int)) = false := by simp; omega
 have hf1 : decide (8 < n1) = false := by simp; omega
 clear IC QC hT h0 h1 hz0 hz1 S0 S1 hK y0 p0 p1
 go_enter Tryz.func3, Tryz.ntmps3
 have hB := Below.refl w.heap.size w
 obtain ⟨bx1, bx2, bx3, bz⟩ := zaO w 24 24 #[.bool s0, .slice A0 n0 c0] #[.bool s1, .slice A1 n1 c1]
 have hB := zad hB bx1
 obtain ⟨g1, e1⟩ := bx2.c2
 obtain ⟨g2, e2⟩ := bx3.c2
 clear bx1 bx2 bx3 bz
 go_wp2_with fail
 generalize (w.alloc (.cells #[.bool s0, .slice A0 n0 c0] 24)).alloc (.cells #[.bool s1, .slice A1 n1 c1] 24) = W1 at *
 (with_reducible refine (HAW.out _ hB).mono ?_)
 rintro e wc2 ⟨rfl, hb⟩
 have hB := zad hB hb
 have g1 := zac hb g1
 have e1 := zac hb e1
 have g2 := zac hb g2
 have e2 := zac hb e2
 clear hb 
 go_wp2_with fail
 have HZ3 : Hid (Sz (K) (x).natAbs) := HS0.out
 have C0 := Lib.hid (fun w' (h : Below wc2.heap.size wc2 w') => HM0.out _ (zad hB h))
 have HZ4 : Hid (Sz (K) (y).natAbs) := HS1.out
 have C1 := Lib.hid (fun w' (h : Below wc2.heap.size wc2 w') => HM1.out _ (zad hB h))
 have HZ5 : Hid (SzQ (1) ((0 : Rat))) := SzQ.zero
 have C2 := Lib.hid (fun w' (h : Below wc2.heap.size wc2 w') b3 B3 m3 d3 (hw3 : zas w' (x) b3 B3 m3 d3) b4 B4 m4 d4 (hw4 : zas w' (y) b4 B4 m4 d4) => HQC.out.newNo (x) (y) b3 b4 B3 B4 m3 m4 d3 d4 w' (HT.out _ (zad hB h)) hw3 hw4 (by have := Sz.words HZ3.out hw3.words; omega) (by have := Sz.words HZ4.out hw4.words; omega) Hy0.out)
 have GG := Lib.hid (fun w' (h : Below wc2.heap.size wc2 w') => (csc (zac h g1) (csc (zac h e1) (csc (zac h g2) (csc (zac h e2) csn)))))
 refine rgB (fun hHeld => ?_)
 refine tl 0 GG.out ?_
 try simp only [sb]
 refine tl 2 GG.out ?_
 try simp only [sb]
 refine zbl (L := #[true, true, true, true, true, true, true, true, true, true, true])
  (J := fun a0 l a w' => ∃ (fl1 fl3 fl4 fl5 fl6 fl7 fl8 fl9 fl10 b3 : Bool) (B3 : Option Addr) (m3 d3 : Nat) (b4 : Bool) (B4 : Option Addr) (m4 d4 : Nat) (b5 : Bool) (B5 : Option Addr) (m5 d5 : Nat) (E5 : Option Addr) (u5 v5 ad8 : Nat), l = #[true, fl1, true, fl3, fl4, fl5, fl6, fl7, fl8, fl9, fl10] ∧ zcq [22, 24, 25, 20, 26, 27, 5, 6] a0 a ∧ Hid (Below wc2.heap.size wc2 w') ∧
    Hid (Gd fl1 (a.tmps.getD 22 undef = .agg #[.bool b3, .slice B3 m3 d3] ∧ zas w' (x) b3 B3 m3 d3)) ∧
    Hid (Gd fl3 (a.tmps.getD 24 undef = .agg #[.bool b4, .slice B4 m4 d4] ∧ zas w' (y) b4 B4 m4 d4)) ∧
    Hid (Gd fl4 (a.tmps.getD 25 undef = .tuple #[.agg #[.bool b5, .slice B5 m5 d5, .slice E5 u5 v5], .bool false] ∧ zaq w' ((0 : Rat)) b5 B5 m5 d5 E5 u5 v5)) ∧
    Hid (Gd fl5 (a.tmps.getD 20 undef = .tuple #[.agg #[.bool b5, .slice B5 m5 d5, .slice E5 u5 v5], .bool false])) ∧
    Hid (Gd fl6 (a.tmps.getD 26 undef = .agg #[.bool b5, .slice B5 m5 d5, .slice E5 u5 v5])) ∧
    Hid (Gd fl7 (a.tmps.getD 27 undef = .bool false)) ∧
    Hid (Gd fl10 (a.tmps.getD 6 undef = .bool false)) ∧
    Hid (Gd fl8 (a.tmps.getD 5 undef = .pointer (some ⟨ad8, 0, none⟩) ∧ wc2.heap.size ≤ ad8 ∧ Blk w' ad8 31 (bif fl9 then #[.bool b5, .slice B5 m5 d5, .slice E5 u5 v5] else #[.bool false, .slice none 0 0, .slice none 0 0]))) ∧
    Hid (Gd fl3 (fl1 = true)) ∧
    Hid (Gd fl4 (fl1 = true)) ∧
    Hid (Gd fl4 (fl3 = true)) ∧
    Hid (Gd fl5 (fl4 = true)) ∧
    Hid (Gd fl6 (fl5 = true)) ∧
    Hid (Gd fl7 (fl5 = true)) ∧
    Hid (Gd fl9 (fl4 = true)) ∧
    Hid (Gd fl9 (fl6 = true)) ∧
    Hid (Gd fl9 (fl8 = true)) ∧
    Hid (Gd fl10 (fl7 = true)) ∧
    Hid (Gd fl10 (fl9 = true)))
  (by rfl) ?_ ?_ ?_
 ·exact ⟨false, false, false, false, false, false, false, false, false, false, none, 0, 0, false, none, 0, 0, false, none, 0, 0, none, 0, 0, 0, by kernel_rfl, zcq.refl _ _, hHeld, Gd.no, Gd.no, Gd.no, Gd.no, Gd.no, Gd.no, Gd.no, Gd.no, Gd.no, Gd.no, Gd.no, Gd.no, Gd.no, Gd.no, Gd.no, Gd.no, Gd.no, Gd.no, Gd.no⟩
 ·intro OPS Ac0 Q0 hO hAs hA
  have RB21 : Ac0.tmps.getD 21 undef = .agg #[.bool s0, .slice A0 n0 c0] := (hA 21 undef).trans (by kernel_rfl)
  have RB23 : Ac0.tmps.getD 23 undef = .agg #[.bool s1, .slice A1 n1 c1] := (hA 23 undef).trans (by kernel_rfl)
  have hsz : Ac0.tmps.size = 57 := hAs.trans (by kernel_rfl)
  clear hAs hA
  refine ⟨?_, ?_⟩
  ·rintro l a w' ⟨fl1, fl3, fl4, fl5, fl6, fl7, fl8, fl9, fl10, b3, B3, m3, d3, b4, B4, m4, d4, b5, B5, m5, d5, E5, u5, v5, ad8, rfl, -⟩ hr
   obtain rfl : fl1 = true := als 1 hr hO
   obtain rfl : fl3 = true := als 3 hr hO
   obtain rfl : fl4 = true := als 4 hr hO
   obtain rfl : fl5 = true := als 5 hr hO
   obtain rfl : fl6 = true := als 6 hr hO
   obtain rfl : fl7 = true := als 7 hr hO
   obtain rfl : fl8 = true := als 8 hr hO
   obtain rfl : fl9 = true := als 9 hr hO
   obtain rfl : fl10 = true := als 10 hr hO
   rfl
  ·rintro l a w' i ⟨fl1, fl3, fl4, fl5, fl6, fl7, fl8, fl9, fl10, b3, B3, m3, d3, b4, B4, m4, d4, b5, B5, m5, d5, E5, u5, v5, ad8, rfl, HKp, hBi, qf1, qf3, qf4, qf5, qf6, qf7, qf10, qf8, qd3_1, qd4_1, qd4_3, qd5_4, qd6_5, qd7_5, qd9_4, qd9_6, qd9_8, qd10_7, qd10_9⟩ hne hi
   have hlt : i < 11 := by have := zcF hi; rw [hO] at this; exact this
   rcases (show i = 0 ∨ i = 1 ∨ i = 2 ∨ i = 3 ∨ i = 4 ∨ i = 5 ∨ i = 6 ∨ i = 7 ∨ i = 8 ∨ i = 9 ∨ i = 10 by omega) with rfl | rfl | rfl | rfl | rfl | rfl | rfl | rfl | rfl | rfl | rfl
   ·cases (zak hi : true = false)
   ·obtain rfl : fl1 = false := zak hi
    obtain rfl : fl3 = false := Gd.off qd3_1.out
    obtain rfl : fl4 = false := Gd.off qd4_1.out
    obtain rfl : fl5 = false := Gd.off qd5_4.out
    obtain rfl : fl6 = false := Gd.off qd6_5.out
    obtain rfl : fl7 = false := Gd.off qd7_5.out
    obtain rfl : fl9 = false := Gd.off qd9_4.out
    obtain rfl : fl10 = false := Gd.off qd10_7.out
    have rd21 := HKp.get 21 (by decide) RB21
    refine wog hO (fun K' hK => ?_)
    go_simp
    refine (C0.out w' hBi.out).mono ?_
    rintro e w2 ⟨nb3, nB3, nm3, nd3, rfl, nhw3, hb⟩
    exact hK.out _ _ ⟨zad hBi.out hb, true, false, false, false, false, false, fl8, false, false, nb3, nB3, nm3, nd3, b4, B4, m4, d4, b5, B5, m5, d5, E5, u5, v5, ad8, by rfl, HKp.put (by decide) _, zad hBi.out hb, Gd.yes ⟨zaD (HKp.lt (by rw [hsz]; decide)) _, nhw3⟩, Gd.no, Gd.no, Gd.no, Gd.no, Gd.no, Gd.no, kq qf8.out fun h => ⟨h.1, zae hb h.2⟩, Gd.no, Gd.no, Gd.no, Gd.no, Gd.no, Gd.no, Gd.no, Gd.no, Gd.no, Gd.no, Gd.no⟩
   ·cases (zak hi : true = false)
   ·obtain rfl : fl3 = false := zak hi
    obtain rfl : fl1 = true := rdp 1 1 hi hO
    obtain rfl : fl4 = false := Gd.off qd4_3.out
    obtain rfl : fl5 = false := Gd.off qd5_4.out
    obtain rfl : fl6 = false := Gd.off qd6_5.out
    obtain rfl : fl7 = false := Gd.off qd7_5.out
    obtain rfl : fl9 = false := Gd.off qd9_4.out
    obtain rfl : fl10 = false := Gd.off qd10_7.out
    have rd23 := HKp.get 23 (by decide) RB23
    refine wog hO (fun K' hK => ?_)
    go_simp
    refine (C1.out w' hBi.out).mono ?_
    rintro e w2 ⟨nb4, nB4, nm4, nd4, rfl, nhw4, hb⟩
    exact hK.out _ _ ⟨zad hBi.out hb, true, true, false, false, false, false, fl8, false, false, b3, B3, m3, d3, nb4, nB4, nm4, nd4, b5, B5, m5, d5, E5, u5, v5, ad8, by rfl, HKp.put (by decide) _, zad hBi.out hb, kq qf1.out fun h => (h).below hb, Gd.yes ⟨zaD (HKp.lt (by rw [hsz]; decide)) _, nhw4⟩, Gd.no, Gd.no, Gd.no, Gd.no, Gd.no, kq qf8.out fun h => ⟨h.1, zae hb h.2⟩, fun _ => rfl, Gd.no, Gd.no, Gd.no, Gd.no, Gd.no, Gd.no, Gd.no, Gd.no, Gd.no, Gd.no⟩
   ·obtain rfl : fl4 = false := zak hi
    obtain rfl : fl1 = true := rdp 1 0 hi hO
    obtain rfl : fl3 = true := rdp 3 1 hi hO
    obtain rfl : fl5 = false := Gd.off qd5_4.out
    obtain rfl : fl6 = false := Gd.off qd6_5.out
    obtain rfl : fl7 = false := Gd.off qd7_5.out
    obtain rfl : fl9 = false := Gd.off qd9_4.out
    obtain rfl : fl10 = false := Gd.off qd10_7.out
    have rd22 := qf1.out.get.1
    have rd24 := qf3.out.get.1
    have hw3 := qf1.out.get.2
    have hw4 := qf3.out.get.2
    refine wog hO (fun K' hK => ?_)
    go_simp
    refine (C2.out w' hBi.out _ _ _ _ hw3 _ _ _ _ hw4).mono ?_
    rintro e w2 ⟨nb5, nB5, nm5, nd5, nE5, nu5, nv5, rfl, nhw5, hb⟩
    exact hK.out _ _ ⟨zad hBi.out hb, true, true, true, false, false, false, fl8, false, false, b3, B3, m3, d3, b4, B4, m4, d4, nb5, nB5, nm5, nd5, nE5, nu5, nv5, ad8, by rfl, HKp.put (by decide) _, zad hBi.out hb, kq qf1.out fun h => (h).below hb, kq qf3.out fun h => (h).below hb, Gd.yes ⟨zaD (HKp.lt (by rw [hsz]; decide)) _, nhw5⟩, Gd.no, Gd.no, Gd.no, Gd.no, kq qf8.out fun h => ⟨h.1, zae hb h.2⟩, fun _ => rfl, fun _ => rfl, fun _ => rfl, Gd.no, Gd.no, Gd.no, Gd.no, Gd.no, Gd.no, Gd.no, Gd.no⟩
   ·obtain rfl : fl5 = false := zak hi
    obtain rfl : fl4 = true := rdp 4 0 hi hO
    obtain rfl : fl1 = true := qd4_1.out.get
    obtain rfl : fl3 = true := qd4_3.out.get
    obtain rfl : fl6 = false := Gd.off qd6_5.out
    obtain rfl : fl7 = false := Gd.off qd7_5.out
    obtain rfl : fl9 = false := Gd.off qd9_6.out
    obtain rfl : fl10 = false := Gd.off qd10_7.out
    have rd25 := qf4.out.get.1
    refine wog hO (fun K' hK => ?_)
    refine zbz (x := 25) (Or.inl rfl) rd25 ?_
    exact hK.out _ _ ⟨hBi.out, true, true, true, true, false, false, fl8, false, false, b3, B3, m3, d3, b4, B4, m4, d4, b5, B5, m5, d5, E5, u5, v5, ad8, by rfl, HKp.put (by decide) _, hBi.out, kq qf1.out fun h => (h), kq qf3.out fun h => (h), kq qf4.out fun h => (h), Gd.yes (zaD (HKp.lt (by rw [hsz]; decide)) _), Gd.no, Gd.no, Gd.no, kq qf8.out id, fun _ => rfl, fun _ => rfl, fun _ => rfl, fun _ => rfl, Gd.no, Gd.no, Gd.no, Gd.no, Gd.no, Gd.no, Gd.no⟩
   ·obtain rfl : fl6 = false := zak hi
    obtain rfl : fl5 = true := rdp 5 0 hi hO
    obtain rfl : fl4 = true := qd5_4.out.get
    obtain rfl : fl1 = true := qd4_1.out.get
    obtain rfl : fl3 = true := qd4_3.out.get
    obtain rfl : fl9 = false := Gd.off qd9_6.out
    obtain rfl : fl10 = false := Gd.off qd10_9.out
    have rd20 := qf5.out.get
    refine wog hO (fun K' hK => ?_)
    refine zaK (x := 20) (k := 0) rfl rd20 rfl ?_
    exact hK.out _ _ ⟨hBi.out, true, true, true, true, true, fl7, fl8, false, false, b3, B3, m3, d3, b4, B4, m4, d4, b5, B5, m5, d5, E5, u5, v5, ad8, by rfl, HKp.put (by decide) _, hBi.out, kq qf1.out fun h => (h), kq qf3.out fun h => (h), kq qf4.out fun h => (h), kq0 qf5.out, Gd.yes (zaD (HKp.lt (by rw [hsz]; decide)) _), kq0 qf7.out, Gd.no, kq qf8.out id, fun _ => rfl, fun _ => rfl, fun _ => rfl, fun _ => rfl, fun _ => rfl, fun _ => rfl, Gd.no, Gd.no, Gd.no, Gd.no, Gd.no⟩
   ·obtain rfl : fl7 = false := zak hi
    obtain rfl : fl5 = true := rdp 5 0 hi hO
    obtain rfl : fl4 = true := qd5_4.out.get
    obtain rfl : fl1 = true := qd4_1.out.get
    obtain rfl : fl3 = true := qd4_3.out.get
    obtain rfl : fl10 = false := Gd.off qd10_7.out
    have rd20 := qf5.out.get
    refine wog hO (fun K' hK => ?_)
    refine zaK (x := 20) (k := 1) rfl rd20 rfl ?_
    exact hK.out _ _ ⟨hBi.out, true, true, true, true, fl6, true, fl8, fl9, false, b3, B3, m3, d3, b4, B4, m4, d4, b5, B5, m5, d5, E5, u5, v5, ad8, by rfl, HKp.put (by decide) _, hBi.out, kq qf1.out fun h => (h), kq qf3.out fun h => (h), kq qf4.out fun h => (h), kq0 qf5.out, kq0 qf6.out, Gd.yes (zaD (HKp.lt (by rw [hsz]; decide)) _), Gd.no, kq qf8.out id, fun _ => rfl, fun _ => rfl, fun _ => rfl, fun _ => rfl, fun _ => rfl, fun _ => rfl, fun _ => rfl, qd9_6, qd9_8, Gd.no, Gd.no⟩
   ·obtain rfl : fl8 = false := zak hi
    obtain rfl : fl9 = false := Gd.off qd9_8.out
    obtain rfl : fl10 = false := Gd.off qd10_9.out
    refine wog hO (fun K' hK => ?_)
    go_simp
    have hb := zaY w' (.cells #[.bool false, .slice none 0 0, .slice none 0 0] 31)
    exact hK.out _ _ ⟨zad hBi.out hb, fl1, fl3, fl4, fl5, fl6, fl7, true, false, false, b3, B3, m3, d3, b4, B4, m4, d4, b5, B5, m5, d5, E5, u5, v5, w'.heap.size, by rfl, HKp.put (by decide) _, zad hBi.out hb, kq qf1.out fun h => (h).below hb, kq qf3.out fun h => (h).below hb, kq qf4.out fun h => (h).below hb, kq0 qf5.out, kq0 qf6.out, kq0 qf7.out, Gd.no, Gd.yes ⟨zaD (HKp.lt (by rw [hsz]; decide)) _, hBi.out.size, Blk.new w' _ _⟩, qd3_1, qd4_1, qd4_3, qd5_4, qd6_5, qd7_5, Gd.no, Gd.no, Gd.no, Gd.no, Gd.no⟩
   ·obtain rfl : fl9 = false := zak hi
    obtain rfl : fl1 = true := rdp 1 4 hi hO
    obtain rfl : fl3 = true := rdp 3 6 hi hO
    obtain rfl : fl4 = true := rdp 4 2 hi hO
    obtain rfl : fl5 = true := rdp 5 8 hi hO
    obtain rfl : fl6 = true := rdp 6 1 hi hO
    obtain rfl : fl8 = true := rdp 8 0 hi hO
    obtain rfl : fl10 = false := Gd.off qd10_9.out
    have rd5 := qf8.out.get.1
    have rd26 := qf6.out.get
    obtain ⟨_, hg, hk⟩ := qf8.out.get
    have hk : Blk w' ad8 31 #[.bool false, .slice none 0 0, .slice none 0 0] := hk
    obtain ⟨sc0, sf0, sc1, sf1, sc2, sf2⟩ := st3 hk (.bool b5) (.slice B5 m5 d5)
    have hj2 := sn3 hk (.bool b5) (.slice B5 m5 d5) (.slice E5 u5 v5)
    have hBn := bl3 (.bool b5) (.slice B5 m5 d5) (.slice E5 u5 v5) hg hBi.out
    refine wog hO (fun K' hK => ?_)
    go_simp
    exact hK.out _ _ ⟨hBn, true, true, true, true, true, fl7, true, true, false, b3, B3, m3, d3, b4, B4, m4, d4, b5, B5, m5, d5, E5, u5, v5, ad8, by rfl, HKp, hBn, qf1.out.mono fun h => ⟨h.1, zbn (h.2) hk nou3 (off3 _ _ _ _ _)⟩, qf3.out.mono fun h => ⟨h.1, zbn (h.2) hk nou3 (off3 _ _ _ _ _)⟩, qf4.out.mono fun h => ⟨h.1, zeB (h.2) hk nou3 (off3 _ _ _ _ _)⟩, qf5.out.mono fun h => h, qf6.out.mono fun h => h, qf7.out.mono fun h => h, Gd.no, qf8.out.mono fun h => ⟨h.1, h.2.1, hj2⟩, fun _ => rfl, fun _ => rfl, fun _ => rfl, fun _ => rfl, fun _ => rfl, fun _ => rfl, fun _ => rfl, fun _ => rfl, fun _ => rfl, Gd.no, Gd.no⟩
   ·obtain rfl : fl10 = false := zak hi
    obtain rfl : fl1 = true := rdp 1 3 hi hO
    obtain rfl : fl3 = true := rdp 3 5 hi hO
    obtain rfl : fl4 = true := rdp 4 6 hi hO
    obtain rfl : fl5 = true := rdp 5 7 hi hO
    obtain rfl : fl6 = true := rdp 6 8 hi hO
    obtain rfl : fl7 = true := rdp 7 0 hi hO
    obtain rfl : fl8 = true := rdp 8 10 hi hO
    obtain rfl : fl9 = true := rdp 9 1 hi hO
    have rd27 := qf7.out.get
    refine wog hO (fun K' hK => ?_)
    refine zbz (x := 27) (Or.inr rfl) rd27 ?_
    exact hK.out _ _ ⟨hBi.out, true, true, true, true, true, true, true, true, true, b3, B3, m3, d3, b4, B4, m4, d4, b5, B5, m5, d5, E5, u5, v5, ad8, by rfl, HKp.put (by decide) _, hBi.out, kq qf1.out fun h => (h), kq qf3.out fun h => (h), kq qf4.out fun h => (h), kq0 qf5.out, kq0 qf6.out, kq0 qf7.out, Gd.yes (zaD (HKp.lt (by rw [hsz]; decide)) _), kq qf8.out id, fun _ => rfl, fun _ => rfl, fun _ => rfl, fun _ => rfl, fun _ => rfl, fun _ => rfl, fun _ => rfl, fun _ => rfl, fun _ => rfl, fun _ => rfl, fun _ => rfl⟩
 rintro a wm3 ⟨fl1, fl3, fl4, fl5, fl6, fl7, fl8, fl9, fl10, b3, B3, m3, d3, b4, B4, m4, d4, b5, B5, m5, d5, E5, u5, v5, ad8, hl, HKp, hBi, qf1, qf3, qf4, qf5, qf6, qf7, qf10, qf8, qd3_1, qd4_1, qd4_3, qd5_4, qd6_5, qd7_5, qd9_4, qd9_6, qd9_8, qd10_7, qd10_9⟩
 have xx1 : fl1 = true := gdl 1 hl
 subst xx1
 have xx3 : fl3 = true := gdl 3 hl
 subst xx3
 have xx4 : fl4 = true := gdl 4 hl
 subst xx4
 have xx5 : fl5 = true := gdl 5 hl
 subst xx5
 have xx6 : fl6 = true := gdl 6 hl
 subst xx6
 have xx7 : fl7 = true := gdl 7 hl
 subst xx7
 have xx8 : fl8 = true := gdl 8 hl
 subst xx8
 have xx9 : fl9 = true := gdl 9 hl
 subst xx9
 have xx10 : fl10 = true := gdl 10 hl
 subst xx10
 obtain ⟨rv1, hw3⟩ := qf1.out.get
 obtain ⟨rv3, hw4⟩ := qf3.out.get
 obtain ⟨rv4, hw5⟩ := qf4.out.get
 have rv5 := qf5.out.get
 have rv6 := qf6.out.get
 have rv7 := qf7.out.get
 have rv10 := qf10.out.get
 obtain ⟨rv8, hg8, hk8⟩ := qf8.out.get
 obtain rfl := HKp.eq [(22, .agg #[.bool b3, .slice B3 m3 d3]), (24, .agg #[.bool b4, .slice B4 m4 d4]), (25, .tuple #[.agg #[.bool b5, .slice B5 m5 d5, .slice E5 u5 v5], .bool false]), (20, .tuple #[.agg #[.bool b5, .slice B5 m5 d5, .slice E5 u5 v5], .bool false]), (26, .agg #[.bool b5, .slice B5 m5 d5, .slice E5 u5 v5]), (27, .bool false), (5, .pointer (some ⟨ad8, 0, none⟩)), (6, .bool false)] rfl (by
  intro p hp
  simp only [List.mem_cons, List.not_mem_nil, or_false] at hp
  rcases hp with rfl | rfl | rfl | rfl | rfl | rfl | rfl | rfl
  ·exact rv1
  ·exact rv3
  ·exact rv4
  ·exact rv5
  ·exact rv6
  ·exact rv7
  ·exact rv8
  ·exact rv10)
 have hBv := hBi.out
 clear hl hBi HKp qf1 qf3 qf4 qf5 qf6 qf7 qf10 qf8 qd3_1 qd4_1 qd4_3 qd5_4 qd6_5 qd7_5 qd9_4 qd9_6 qd9_8 qd10_7 qd10_9 rv1 rv3 rv4 rv5 rv6 rv7 rv8 rv10
 have hk8 : Blk wm3 ad8 31 #[.bool b5, .slice B5 m5 d5, .slice E5 u5 v5] := hk8
 rw [show due #[true, true, true, true, true, true, true, true, true, true, true] = 0 from rfl]
 simp only [zbZ, List.foldl, Act.put, List.setIfInBounds_toArray, List.set_cons_zero, List.set_cons_succ]
 refine wpAnyH_done (by kernel_rfl) ?_ _
 refine NoPanic.normal ?_
 have hB := zad hB hBv
 have g1 := zac hBv g1
 have e1 := zac hBv e1
 have g2 := zac hBv g2
 have e2 := zac hBv e2
 obtain ⟨ad8_6, hga⟩ : ∃ x, x = ad8 := ⟨_, rfl⟩
 subst hga
 obtain ⟨g6, e6, i6⟩ := hk8.c3
 have HN3 := Lib.hid hw3
 have HN4 := Lib.hid hw4
 have HN5 := Lib.hid hw5
 clear hBv hk8 hg8 hw3 hw4 hw5 GG
 clear C0 C1 C2
 go_wp2_with fail
 have HZ7 : Hid (Sz (K) (y).natAbs) := HS1.out
 (with_reducible refine (HRF1.out _ hB).mono ?_)
 rintro e wc4 ⟨b7, B7, m7, d7, rfl, hw7, hb⟩
 have hB := zad hB hb
 have g1 := zac hb g1
 have e1 := zac hb e1
 have g2 := zac hb g2
 have e2 := zac hb e2
 have g6 := zac hb g6
 have e6 := zac hb e6
 have i6 := zac hb i6
 have HN3 := Lib.hid (HN3.out.below hb)
 have HN4 := Lib.hid (HN4.out.below hb)
 have HN5 := Lib.hid (HN5.out.below hb)
 have HN7 := Lib.hid hw7
 clear hb hw7
 have hq7 := zfw HN7.out.2 (by rw [Hy0.out]; rfl)
 have hr7 : ((m7 : Int) == 0) = true := by rw [beq_iff_eq]; omega
 clear hq7
 obtain ⟨bx1, bx2, bz⟩ := zbf wc4 38 #[.bool b7, .slice B7 m7 d7]
 have hB := zad hB bx1
 have g1 := zac bx1 g1
 have e1 := zac bx1 e1
 have g2 := zac bx1 g2
 have e2 := zac bx1 e2
 have g6 := zac bx1 g6
 have e6 := zac bx1 e6
 have i6 := zac bx1 i6
 have HN3 := Lib.hid (HN3.out.below bx1)
 have HN4 := Lib.hid (HN4.out.below bx1)
 have HN5 := Lib.hid (HN5.out.below bx1)
 have HN7 := Lib.hid (HN7.out.below bx1)
 obtain ⟨g8, e8⟩ := bx2.c2
 clear bx1 bx2 bz
 go_wp2_with fail
 generalize wc4.alloc (.cells #[.bool b7, .slice B7 m7 d7] 38) = W5 at *
 generalize wc4.heap.size = q5 at *
 (with_reducible refine (zaw (decide_eq_true rfl) (HQC.out.zero ((0 : Rat)) b5 B5 m5 d5 E5 u5 v5 _ (HT.out _ hB) HN5.out (SzQ.fit HZ5.out HN5.out (by omega)))).mono ?_)
 rintro e wc6 ⟨rfl, hb⟩
 have hB := zad hB hb
 have g1 := zac hb g1
 have e1 := zac hb e1
 have g2 := zac hb g2
 have e2 := zac hb e2
 have g6 := zac hb g6
 have e6 := zac hb e6
 have i6 := zac hb i6
 have HN3 := Lib.hid (HN3.out.below hb)
 have HN4 := Lib.hid (HN4.out.below hb)
 have HN5 := Lib.hid (HN5.out.below hb)
 have HN7 := Lib.hid (HN7.out.below hb)
 have g8 := zac hb g8
 have e8 := zac hb e8
 clear hb 
 go_wp2
 go_ret
 exact ⟨by first | rfl | simp, hB⟩
set_option maxHeartbeats 16000000 in
theorem zkV {T : World → Prop} {M : Nat → Prop} (hTb : ∀ w w', T w → Below w.heap.size w w' → T w') (IC : IntC T) (QC : RatC T M) (s0 : Bool) (A0 : Option Addr) (n0 c0 : Nat) (l0 : List Nat) (s1 : Bool) (A1 : Option Addr) (n1 c1 : Nat) (l1 : List Nat) (w : World) (h0 : zaL w A0 n0 c0 l0) (h1 : zaL w A1 n1 c1 l1) (y0 : zOf s1 l1 ≠ 0) (p0 : n0 ≤ 8) (p1 : n1 ≤ 8) (hT : T w) :
  Calls Tryz.prog 3 #[.agg #[.bool s0, .slice A0 n0 c0], .agg #[.bool s1, .slice A1 n1 c1]] w fun e w' => e = .returned (.bool true) ∧ Below w.heap.size w w' := by
 have HAW := Lib.hid (fun w' (hb : Below w.heap.size w w') => zdg hTb IC QC w' (hTb w w' hT hb))
 have HIC := Lib.hid IC
 have HQC := Lib.hid QC
 have HT := Lib.hid (fun w' (hb : Below w.heap.size w w') => hTb w w' hT hb)
 obtain ⟨K, hK⟩ : ∃ K, 1048576 = K := ⟨_, rfl⟩
 have hKK : K ≤ 1048576 := by omega
 have hK0 : 0 < K := by omega
 have HM0 := Lib.hid (fun w' (hb : Below w.heap.size w w') => zbN hTb IC s0 A0 n0 c0 l0 w' ⟨(h0.reads.below hb).more hb.size, h0.dgs, h0.fits, h0.small⟩ (hTb w w' hT hb))
 have HRF0 := Lib.hid (fun w' (hb : Below w.heap.size w w') => zcm s0 A0 n0 c0 l0 w' ⟨(h0.reads.below hb).more hb.size, h0.dgs, h0.fits, h0.small⟩)
 have S0 : Sz 1048576 (zOf s0 l0).natAbs := by rw [zcK]; exact zcS h0
 rw [hK] at S0
 obtain ⟨x, hz0⟩ : ∃ x, zOf s0 l0 = x := ⟨_, rfl⟩
 rw [hz0] at HM0 HRF0 S0
 have HS0 := Lib.hid S0
 have HM1 := Lib.hid (fun w' (hb : Below w.heap.size w w') => zbN hTb IC s1 A1 n1 c1 l1 w' ⟨(h1.reads.below hb).more hb.size, h1.dgs, h1.fits, h1.small⟩ (hTb w w' hT hb))
 have HRF1 := Lib.hid (fun w' (hb : Below w.heap.size w w') => zcm s1 A1 n1 c1 l1 w' ⟨(h1.reads.below hb).more hb.size, h1.dgs, h1.fits, h1.small⟩)
 have S1 : Sz 1048576 (zOf s1 l1).natAbs := by rw [zcK]; exact zcS h1
 rw [hK] at S1
 obtain ⟨y, hz1⟩ : ∃ x, zOf s1 l1 = x := ⟨_, rfl⟩
 rw [hz1] at HM1 HRF1 S1 y0
 have HS1 := Lib.hid S1
 have Hy0 := Lib.hid y0
 have hd0 : decide ((n0 : Int) > 8) = false := by simp; omega
 have he0 : decide ((8 : Int) < (n0 : Int)) = false := by simp; omega
 have hf0 : decide (8 < n0) = false := by simp; omega
 have hd1 : decide ((n1 : Int) > 8) = false := by simp; omega
 have he1 : decide ((8 : Int) < (n1 : Int)) = false := by simp; omega
 have hf1 : decide (8 < n1) = false := by simp; omega
 obtain ⟨sg, hsg⟩ : ∃ s, sgnQ (Rat.divInt x y) = s := ⟨_, rfl⟩
 have HSG := Lib.hid hsg
 have kb1 : (sg == sg) = true := by simp
 clear hsg
 clear IC QC hT h0 h1 hz0 hz1 S0 S1 hK y0 p0 p1
 go_enter Tryz.func3, Tryz.ntmps3
 have hB := Below.refl w.heap.size w
 obtain ⟨bx1, bx2, bx3, bz⟩ := zaO w 24 24 #[.bool s0, .slice A0 n0 c0] #[.bool s1, .slice A1 n1 c1]
 have hB := zad hB bx1
 obtain ⟨g1, e1⟩ := bx2.c2
 obtain ⟨g2, e2⟩ := bx3.c2
 clear bx1 bx2 bx3 bz
 go_wp2_with fail
 generalize (w.alloc (.cells #[.bool s0, .slice A0 n0 c0] 24)).alloc (.cells #[.bool s1, .slice A1 n1 c1] 24) = W1 at *
 (with_reducible refine (HAW.out _ hB).mono ?_)
 rintro e wc2 ⟨rfl, hb⟩
 have hB := zad hB hb
 have g1 := zac hb g1
 have e1 := zac hb e1
 have g2 := zac hb g2
 have e2 := zac hb e2
 clear hb 
 go_wp2_with fail
 have HZ3 : Hid (Sz (K) (x).natAbs) := HS0.out
 have C0 := Lib.hid (fun w' (h : Below wc2.heap.size wc2 w') => HM0.out _ (zad hB h))
 have HZ4 : Hid (Sz (K) (y).natAbs) := HS1.out
 have C1 := Lib.hid (fun w' (h : Below wc2.heap.size wc2 w') => HM1.out _ (zad hB h))
 have HZ5 : Hid (SzQ (K) (Rat.divInt x y)) := SzQ.made HS0.out HS1.out (by omega)
 have C2 := Lib.hid (fun w' (h : Below wc2.heap.size wc2 w') b3 B3 m3 d3 (hw3 : zas w' (x) b3 B3 m3 d3) b4 B4 m4 d4 (hw4 : zas w' (y) b4 B4 m4 d4) => HQC.out.new (x) (y) b3 b4 B3 B4 m3 m4 d3 d4 w' (HT.out _ (zad hB h)) hw3 hw4 (by have := Sz.words HZ3.out hw3.words; omega) (by have := Sz.words HZ4.out hw4.words; omega) Hy0.out)
 have GG := Lib.hid (fun w' (h : Below wc2.heap.size wc2 w') => (csc (zac h g1) (csc (zac h e1) (csc (zac h g2) (csc (zac h e2) csn)))))
 refine rgB (fun hHeld => ?_)
 refine tl 0 GG.out ?_
 try simp only [sb]
 refine tl 2 GG.out ?_
 try simp only [sb]
 refine zbl (L := #[true, true, true, true, true, true, true, true, true, true, true])
  (J := fun a0 l a w' => ∃ (fl1 fl3 fl4 fl5 fl6 fl7 fl8 fl9 fl10 b3 : Bool) (B3 : Option Addr) (m3 d3 : Nat) (b4 : Bool) (B4 : Option Addr) (m4 d4 : Nat) (b5 : Bool) (B5 : Option Addr) (m5 d5 : Nat) (E5 : Option Addr) (u5 v5 ad8 : Nat), l = #[true, fl1, true, fl3, fl4, fl5, fl6, fl7, fl8, fl9, fl10] ∧ zcq [22, 24, 25, 20, 26, 27, 5, 6] a0 a ∧ Hid (Below wc2.heap.size wc2 w') ∧
    Hid (Gd fl1 (a.tmps.getD 22 undef = .agg #[.bool b3, .slice B3 m3 d3] ∧ zas w' (x) b3 B3 m3 d3)) ∧
    Hid (Gd fl3 (a.tmps.getD 24 undef = .agg #[.bool b4, .slice B4 m4 d4] ∧ zas w' (y) b4 B4 m4 d4)) ∧
    Hid (Gd fl4 (a.tmps.getD 25 undef = .tuple #[.agg #[.bool b5, .slice B5 m5 d5, .slice E5 u5 v5], .bool true] ∧ zaq w' (Rat.divInt x y) b5 B5 m5 d5 E5 u5 v5)) ∧
    Hid (Gd fl5 (a.tmps.getD 20 undef = .tuple #[.agg #[.bool b5, .slice B5 m5 d5, .slice E5 u5 v5], .bool true])) ∧
    Hid (Gd fl6 (a.tmps.getD 26 undef = .agg #[.bool b5, .slice B5 m5 d5, .slice E5 u5 v5])) ∧
    Hid (Gd fl7 (a.tmps.getD 27 undef = .bool true)) ∧
    Hid (Gd fl10 (a.tmps.getD 6 undef = .bool true)) ∧
    Hid (Gd fl8 (a.tmps.getD 5 undef = .pointer (some ⟨ad8, 0, none⟩) ∧ wc2.heap.size ≤ ad8 ∧ Blk w' ad8 31 (bif fl9 then #[.bool b5, .slice B5 m5 d5, .slice E5 u5 v5] else #[.bool false, .slice none 0 0, .slice none 0 0]))) ∧
    Hid (Gd fl3 (fl1 = true)) ∧
    Hid (Gd fl4 (fl1 = true)) ∧
    Hid (Gd fl4 (fl3 = true)) ∧
    Hid (Gd fl5 (fl4 = true)) ∧
    Hid (Gd fl6 (fl5 = true)) ∧
    Hid (Gd fl7 (fl5 = true)) ∧
    Hid (Gd fl9 (fl4 = true)) ∧
    Hid (Gd fl9 (fl6 = true)) ∧
    Hid (Gd fl9 (fl8 = true)) ∧
    Hid (Gd fl10 (fl7 = true)) ∧
    Hid (Gd fl10 (fl9 = true)))
  (by rfl) ?_ ?_ ?_
 ·exact ⟨false, false, false, false, false, false, false, false, false, false, none, 0, 0, false, none, 0, 0, false, none, 0, 0, none, 0, 0, 0, by kernel_rfl, zcq.refl _ _, hHeld, Gd.no, Gd.no, Gd.no, Gd.no, Gd.no, Gd.no, Gd.no, Gd.no, Gd.no, Gd.no, Gd.no, Gd.no, Gd.no, Gd.no, Gd.no, Gd.no, Gd.no, Gd.no, Gd.no⟩
 ·intro OPS Ac0 Q0 hO hAs hA
  have RB21 : Ac0.tmps.getD 21 undef = .agg #[.bool s0, .slice A0 n0 c0] := (hA 21 undef).trans (by kernel_rfl)
  have RB23 : Ac0.tmps.getD 23 undef = .agg #[.bool s1, .slice A1 n1 c1] := (hA 23 undef).trans (by kernel_rfl)
  have hsz : Ac0.tmps.size = 57 := hAs.trans (by kernel_rfl)
  clear hAs hA
  refine ⟨?_, ?_⟩
  ·rintro l a w' ⟨fl1, fl3, fl4, fl5, fl6, fl7, fl8, fl9, fl10, b3, B3, m3, d3, b4, B4, m4, d4, b5, B5, m5, d5, E5, u5, v5, ad8, rfl, -⟩ hr
   obtain rfl : fl1 = true := als 1 hr hO
   obtain rfl : fl3 = true := als 3 hr hO
   obtain rfl : fl4 = true := als 4 hr hO
   obtain rfl : fl5 = true := als 5 hr hO
   obtain rfl : fl6 = true := als 6 hr hO
   obtain rfl : fl7 = true := als 7 hr hO
   obtain rfl : fl8 = true := als 8 hr hO
   obtain rfl : fl9 = true := als 9 hr hO
   obtain rfl : fl10 = true := als 10 hr hO
   rfl
  ·rintro l a w' i ⟨fl1, fl3, fl4, fl5, fl6, fl7, fl8, fl9, fl10, b3, B3, m3, d3, b4, B4, m4, d4, b5, B5, m5, d5, E5, u5, v5, ad8, rfl, HKp, hBi, qf1, qf3, qf4, qf5, qf6, qf7, qf10, qf8, qd3_1, qd4_1, qd4_3, qd5_4, qd6_5, qd7_5, qd9_4, qd9_6, qd9_8, qd10_7, qd10_9⟩ hne hi
   have hlt : i < 11 := by have := zcF hi; rw [hO] at this; exact this
   rcases (show i = 0 ∨ i = 1 ∨ i = 2 ∨ i = 3 ∨ i = 4 ∨ i = 5 ∨ i = 6 ∨ i = 7 ∨ i = 8 ∨ i = 9 ∨ i = 10 by omega) with rfl | rfl | rfl | rfl | rfl | rfl | rfl | rfl | rfl | rfl | rfl
   ·cases (zak hi : true = false)
   ·obtain rfl : fl1 = false := zak hi
    obtain rfl : fl3 = false := Gd.off qd3_1.out
    obtain rfl : fl4 = false := Gd.off qd4_1.out
    obtain rfl : fl5 = false := Gd.off qd5_4.out
    obtain rfl : fl6 = false := Gd.off qd6_5.out
    obtain rfl : fl7 = false := Gd.off qd7_5.out
    obtain rfl : fl9 = false := Gd.off qd9_4.out
    obtain rfl : fl10 = false := Gd.off qd10_7.out
    have rd21 := HKp.get 21 (by decide) RB21
    refine wog hO (fun K' hK => ?_)
    go_simp
    refine (C0.out w' hBi.out).mono ?_
    rintro e w2 ⟨nb3, nB3, nm3, nd3, rfl, nhw3, hb⟩
    exact hK.out _ _ ⟨zad hBi.out hb, true, false, false, false, false, false, fl8, false, false, nb3, nB3, nm3, nd3, b4, B4, m4, d4, b5, B5, m5, d5, E5, u5, v5, ad8, by rfl, HKp.put (by decide) _, zad hBi.out hb, Gd.yes ⟨zaD (HKp.lt (by rw [hsz]; decide)) _, nhw3⟩, Gd.no, Gd.no, Gd.no, Gd.no, Gd.no, Gd.no, kq qf8.out fun h => ⟨h.1, zae hb h.2⟩, Gd.no, Gd.no, Gd.no, Gd.no, Gd.no, Gd.no, Gd.no, Gd.no, Gd.no, Gd.no, Gd.no⟩
   ·cases (zak hi : true = false)
   ·obtain rfl : fl3 = false := zak hi
    obtain rfl : fl1 = true := rdp 1 1 hi hO
    obtain rfl : fl4 = false := Gd.off qd4_3.out
    obtain rfl : fl5 = false := Gd.off qd5_4.out
    obtain rfl : fl6 = false := Gd.off qd6_5.out
    obtain rfl : fl7 = false := Gd.off qd7_5.out
    obtain rfl : fl9 = false := Gd.off qd9_4.out
    obtain rfl : fl10 = false := Gd.off qd10_7.out
    have rd23 := HKp.get 23 (by decide) RB23
    refine wog hO (fun K' hK => ?_)
    go_simp
    refine (C1.out w' hBi.out).mono ?_
    rintro e w2 ⟨nb4, nB4, nm4, nd4, rfl, nhw4, hb⟩
    exact hK.out _ _ ⟨zad hBi.out hb, true, true, false, false, false, false, fl8, false, false, b3, B3, m3, d3, nb4, nB4, nm4, nd4, b5, B5, m5, d5, E5, u5, v5, ad8, by rfl, HKp.put (by decide) _, zad hBi.out hb, kq qf1.out fun h => (h).below hb, Gd.yes ⟨zaD (HKp.lt (by rw [hsz]; decide)) _, nhw4⟩, Gd.no, Gd.no, Gd.no, Gd.no, Gd.no, kq qf8.out fun h => ⟨h.1, zae hb h.2⟩, fun _ => rfl, Gd.no, Gd.no, Gd.no, Gd.no, Gd.no, Gd.no, Gd.no, Gd.no, Gd.no, Gd.no⟩
   ·obtain rfl : fl4 = false := zak hi
    obtain rfl : fl1 = true := rdp 1 0 hi hO
    obtain rfl : fl3 = true := rdp 3 1 hi hO
    obtain rfl : fl5 = false := Gd.off qd5_4.out
    obtain rfl : fl6 = false := Gd.off qd6_5.out
    obtain rfl : fl7 = false := Gd.off qd7_5.out
    obtain rfl : fl9 = false := Gd.off qd9_4.out
    obtain rfl : fl10 = false := Gd.off qd10_7.out
    have rd22 := qf1.out.get.1
    have rd24 := qf3.out.get.1
    have hw3 := qf1.out.get.2
    have hw4 := qf3.out.get.2
    refine wog hO (fun K' hK => ?_)
    go_simp
    refine (C2.out w' hBi.out _ _ _ _ hw3 _ _ _ _ hw4).mono ?_
    rintro e w2 ⟨nb5, nB5, nm5, nd5, nE5, nu5, nv5, rfl, nhw5, hb⟩
    exact hK.out _ _ ⟨zad hBi.out hb, true, true, true, false, false, false, fl8, false, false, b3, B3, m3, d3, b4, B4, m4, d4, nb5, nB5, nm5, nd5, nE5, nu5, nv5, ad8, by rfl, HKp.put (by decide) _, zad hBi.out hb, kq qf1.out fun h => (h).below hb, kq qf3.out fun h => (h).below hb, Gd.yes ⟨zaD (HKp.lt (by rw [hsz]; decide)) _, nhw5⟩, Gd.no, Gd.no, Gd.no, Gd.no, kq qf8.out fun h => ⟨h.1, zae hb h.2⟩, fun _ => rfl, fun _ => rfl, fun _ => rfl, Gd.no, Gd.no, Gd.no, Gd.no, Gd.no, Gd.no, Gd.no, Gd.no⟩
   ·obtain rfl : fl5 = false := zak hi
    obtain rfl : fl4 = true := rdp 4 0 hi hO
    obtain rfl : fl1 = true := qd4_1.out.get
    obtain rfl : fl3 = true := qd4_3.out.get
    obtain rfl : fl6 = false := Gd.off qd6_5.out
    obtain rfl : fl7 = false := Gd.off qd7_5.out
    obtain rfl : fl9 = false := Gd.off qd9_6.out
    obtain rfl : fl10 = false := Gd.off qd10_7.out
    have rd25 := qf4.out.get.1
    refine wog hO (fun K' hK => ?_)
    refine zbz (x := 25) (Or.inl rfl) rd25 ?_
    exact hK.out _ _ ⟨hBi.out, true, true, true, true, false, false, fl8, false, false, b3, B3, m3, d3, b4, B4, m4, d4, b5, B5, m5, d5, E5, u5, v5, ad8, by rfl, HKp.put (by decide) _, hBi.out, kq qf1.out fun h => (h), kq qf3.out fun h => (h), kq qf4.out fun h => (h), Gd.yes (zaD (HKp.lt (by rw [hsz]; decide)) _), Gd.no, Gd.no, Gd.no, kq qf8.out id, fun _ => rfl, fun _ => rfl, fun _ => rfl, fun _ => rfl, Gd.no, Gd.no, Gd.no, Gd.no, Gd.no, Gd.no, Gd.no⟩
   ·obtain rfl : fl6 = false := zak hi
    obtain rfl : fl5 = true := rdp 5 0 hi hO
    obtain rfl : fl4 = true := qd5_4.out.get
    obtain rfl : fl1 = true := qd4_1.out.get
    obtain rfl : fl3 = true := qd4_3.out.get
    obtain rfl : fl9 = false := Gd.off qd9_6.out
    obtain rfl : fl10 = false := Gd.off qd10_9.out
    have rd20 := qf5.out.get
    refine wog hO (fun K' hK => ?_)
    refine zaK (x := 20) (k := 0) rfl rd20 rfl ?_
    exact hK.out _ _ ⟨hBi.out, true, true, true, true, true, fl7, fl8, false, false, b3, B3, m3, d3, b4, B4, m4, d4, b5, B5, m5, d5, E5, u5, v5, ad8, by rfl, HKp.put (by decide) _, hBi.out, kq qf1.out fun h => (h), kq qf3.out fun h => (h), kq qf4.out fun h => (h), kq0 qf5.out, Gd.yes (zaD (HKp.lt (by rw [hsz]; decide)) _), kq0 qf7.out, Gd.no, kq qf8.out id, fun _ => rfl, fun _ => rfl, fun _ => rfl, fun _ => rfl, fun _ => rfl, fun _ => rfl, Gd.no, Gd.no, Gd.no, Gd.no, Gd.no⟩
   ·obtain rfl : fl7 = false := zak hi
    obtain rfl : fl5 = true := rdp 5 0 hi hO
    obtain rfl : fl4 = true := qd5_4.out.get
    obtain rfl : fl1 = true := qd4_1.out.get
    obtain rfl : fl3 = true := qd4_3.out.get
    obtain rfl : fl10 = false := Gd.off qd10_7.out
    have rd20 := qf5.out.get
    refine wog hO (fun K' hK => ?_)
    refine zaK (x := 20) (k := 1) rfl rd20 rfl ?_
    exact hK.out _ _ ⟨hBi.out, true, true, true, true, fl6, true, fl8, fl9, false, b3, B3, m3, d3, b4, B4, m4, d4, b5, B5, m5, d5, E5, u5, v5, ad8, by rfl, HKp.put (by decide) _, hBi.out, kq qf1.out fun h => (h), kq qf3.out fun h => (h), kq qf4.out fun h => (h), kq0 qf5.out, kq0 qf6.out, Gd.yes (zaD (HKp.lt (by rw [hsz]; decide)) _), Gd.no, kq qf8.out id, fun _ => rfl, fun _ => rfl, fun _ => rfl, fun _ => rfl, fun _ => rfl, fun _ => rfl, fun _ => rfl, qd9_6, qd9_8, Gd.no, Gd.no⟩
   ·obtain rfl : fl8 = false := zak hi
    obtain rfl : fl9 = false := Gd.off qd9_8.out
    obtain rfl : fl10 = false := Gd.off qd10_9.out
    refine wog hO (fun K' hK => ?_)
    go_simp
    have hb := zaY w' (.cells #[.bool false, .slice none 0 0, .slice none 0 0] 31)
    exact hK.out _ _ ⟨zad hBi.out hb, fl1, fl3, fl4, fl5, fl6, fl7, true, false, false, b3, B3, m3, d3, b4, B4, m4, d4, b5, B5, m5, d5, E5, u5, v5, w'.heap.size, by rfl, HKp.put (by decide) _, zad hBi.out hb, kq qf1.out fun h => (h).below hb, kq qf3.out fun h => (h).below hb, kq qf4.out fun h => (h).below hb, kq0 qf5.out, kq0 qf6.out, kq0 qf7.out, Gd.no, Gd.yes ⟨zaD (HKp.lt (by rw [hsz]; decide)) _, hBi.out.size, Blk.new w' _ _⟩, qd3_1, qd4_1, qd4_3, qd5_4, qd6_5, qd7_5, Gd.no, Gd.no, Gd.no, Gd.no, Gd.no⟩
   ·obtain rfl : fl9 = false := zak hi
    obtain rfl : fl1 = true := rdp 1 4 hi hO
    obtain rfl : fl3 = true := rdp 3 6 hi hO
    obtain rfl : fl4 = true := rdp 4 2 hi hO
    obtain rfl : fl5 = true := rdp 5 8 hi hO
    obtain rfl : fl6 = true := rdp 6 1 hi hO
    obtain rfl : fl8 = true := rdp 8 0 hi hO
    obtain rfl : fl10 = false := Gd.off qd10_9.out
    have rd5 := qf8.out.get.1
    have rd26 := qf6.out.get
    obtain ⟨_, hg, hk⟩ := qf8.out.get
    have hk : Blk w' ad8 31 #[.bool false, .slice none 0 0, .slice none 0 0] := hk
    obtain ⟨sc0, sf0, sc1, sf1, sc2, sf2⟩ := st3 hk (.bool b5) (.slice B5 m5 d5)
    have hj2 := sn3 hk (.bool b5) (.slice B5 m5 d5) (.slice E5 u5 v5)
    have hBn := bl3 (.bool b5) (.slice B5 m5 d5) (.slice E5 u5 v5) hg hBi.out
    refine wog hO (fun K' hK => ?_)
    go_simp
    exact hK.out _ _ ⟨hBn, true, true, true, true, true, fl7, true, true, false, b3, B3, m3, d3, b4, B4, m4, d4, b5, B5, m5, d5, E5, u5, v5, ad8, by rfl, HKp, hBn, qf1.out.mono fun h => ⟨h.1, zbn (h.2) hk nou3 (off3 _ _ _ _ _)⟩, qf3.out.mono fun h => ⟨h.1, zbn (h.2) hk nou3 (off3 _ _ _ _ _)⟩, qf4.out.mono fun h => ⟨h.1, zeB (h.2) hk nou3 (off3 _ _ _ _ _)⟩, qf5.out.mono fun h => h, qf6.out.mono fun h => h, qf7.out.mono fun h => h, Gd.no, qf8.out.mono fun h => ⟨h.1, h.2.1, hj2⟩, fun _ => rfl, fun _ => rfl, fun _ => rfl, fun _ => rfl, fun _ => rfl, fun _ => rfl, fun _ => rfl, fun _ => rfl, fun _ => rfl, Gd.no, Gd.no⟩
   ·obtain rfl : fl10 = false := zak hi
    obtain rfl : fl1 = true := rdp 1 3 hi hO
    obtain rfl : fl3 = true := rdp 3 5 hi hO
    obtain rfl : fl4 = true := rdp 4 6 hi hO
    obtain rfl : fl5 = true := rdp 5 7 hi hO
    obtain rfl : fl6 = true := rdp 6 8 hi hO
    obtain rfl : fl7 = true := rdp 7 0 hi hO
    obtain rfl : fl8 = true := rdp 8 10 hi hO
    obtain rfl : fl9 = true := rdp 9 1 hi hO
    have rd27 := qf7.out.get
    refine wog hO (fun K' hK => ?_)
    refine zbz (x := 27) (Or.inr rfl) rd27 ?_
    exact hK.out _ _ ⟨hBi.out, true, true, true, true, true, true, true, true, true, b3, B3, m3, d3, b4, B4, m4, d4, b5, B5, m5, d5, E5, u5, v5, ad8, by rfl, HKp.put (by decide) _, hBi.out, kq qf1.out fun h => (h), kq qf3.out fun h => (h), kq qf4.out fun h => (h), kq0 qf5.out, kq0 qf6.out, kq0 qf7.out, Gd.yes (zaD (HKp.lt (by rw [hsz]; decide)) _), kq qf8.out id, fun _ => rfl, fun _ => rfl, fun _ => rfl, fun _ => rfl, fun _ => rfl, fun _ => rfl, fun _ => rfl, fun _ => rfl, fun _ => rfl, fun _ => rfl, fun _ => rfl⟩
 rintro a wm3 ⟨fl1, fl3, fl4, fl5, fl6, fl7, fl8, fl9, fl10, b3, B3, m3, d3, b4, B4, m4, d4, b5, B5, m5, d5, E5, u5, v5, ad8, hl, HKp, hBi, qf1, qf3, qf4, qf5, qf6, qf7, qf10, qf8, qd3_1, qd4_1, qd4_3, qd5_4, qd6_5, qd7_5, qd9_4, qd9_6, qd9_8, qd10_7, qd10_9⟩
 have xx1 : fl1 = true := gdl 1 hl
 subst xx1
 have xx3 : fl3 = true := gdl 3 hl
 subst xx3
 have xx4 : fl4 = true := gdl 4 hl
 subst xx4
 have xx5 : fl5 = true := gdl 5 hl
 subst xx5
 have xx6 : fl6 = true := gdl 6 hl
 subst xx6
 have xx7 : fl7 = true := gdl 7 hl
 subst xx7
 have xx8 : fl8 = true := gdl 8 hl
 subst xx8
 have xx9 : fl9 = true := gdl 9 hl
 subst xx9
 have xx10 : fl10 = true := gdl 10 hl
 subst xx10
 obtain ⟨rv1, hw3⟩ := qf1.out.get
 obtain ⟨rv3, hw4⟩ := qf3.out.get
 obtain ⟨rv4, hw5⟩ := qf4.out.get
 have rv5 := qf5.out.get
 have rv6 := qf6.out.get
 have rv7 := qf7.out.get
 have rv10 := qf10.out.get
 obtain ⟨rv8, hg8, hk8⟩ := qf8.out.get
 obtain rfl := HKp.eq [(22, .agg #[.bool b3, .slice B3 m3 d3]), (24, .agg #[.bool b4, .slice B4 m4 d4]), (25, .tuple #[.agg #[.bool b5, .slice B5 m5 d5, .slice E5 u5 v5], .bool true]), (20, .tuple #[.agg #[.bool b5, .slice B5 m5 d5, .slice E5 u5 v5], .bool true]), (26, .agg #[.bool b5, .slice B5 m5 d5, .slice E5 u5 v5]), (27, .bool true), (5, .pointer (some ⟨ad8, 0, none⟩)), (6, .bool true)] rfl (by
  intro p hp
  simp only [List.mem_cons, List.not_mem_nil, or_false] at hp
  rcases hp with rfl | rfl | rfl | rfl | rfl | rfl | rfl | rfl
  ·exact rv1
  ·exact rv3
  ·exact rv4
  ·exact rv5
  ·exact rv6
  ·exact rv7
  ·exact rv8
  ·exact rv10)
 have hBv := hBi.out
 clear hl hBi HKp qf1 qf3 qf4 qf5 qf6 qf7 qf10 qf8 qd3_1 qd4_1 qd4_3 qd5_4 qd6_5 qd7_5 qd9_4 qd9_6 qd9_8 qd10_7 qd10_9 rv1 rv3 rv4 rv5 rv6 rv7 rv8 rv10
 have hk8 : Blk wm3 ad8 31 #[.bool b5, .slice B5 m5 d5, .slice E5 u5 v5] := hk8
 rw [show due #[true, true, true, true, true, true, true, true, true, true, true] = 0 from rfl]
 simp only [zbZ, List.foldl, Act.put, List.setIfInBounds_toArray, List.set_cons_zero, List.set_cons_succ]
 refine wpAnyH_done (by kernel_rfl) ?_ _
 refine NoPanic.normal ?_
 have hB := zad hB hBv
 have g1 := zac hBv g1
 have e1 := zac hBv e1
 have g2 := zac hBv g2
 have e2 := zac hBv e2
 obtain ⟨ad8_6, hga⟩ : ∃ x, x = ad8 := ⟨_, rfl⟩
 subst hga
 obtain ⟨g6, e6, i6⟩ := hk8.c3
 have HN3 := Lib.hid hw3
 have HN4 := Lib.hid hw4
 have HN5 := Lib.hid hw5
 clear hBv hk8 hg8 hw3 hw4 hw5 GG
 clear C0 C1 C2
 go_wp2_with fail
 have HZ7 : Hid (Sz (K) (y).natAbs) := HS1.out
 (with_reducible refine (HRF1.out _ hB).mono ?_)
 rintro e wc4 ⟨b7, B7, m7, d7, rfl, hw7, hb⟩
 have hB := zad hB hb
 have g1 := zac hb g1
 have e1 := zac hb e1
 have g2 := zac hb g2
 have e2 := zac hb e2
 have g6 := zac hb g6
 have e6 := zac hb e6
 have i6 := zac hb i6
 have HN3 := Lib.hid (HN3.out.below hb)
 have HN4 := Lib.hid (HN4.out.below hb)
 have HN5 := Lib.hid (HN5.out.below hb)
 have HN7 := Lib.hid hw7
 clear hb hw7
 have hq7 := zfr HN7.out.2 (fun h9 => Hy0.out (Int.natAbs_eq_zero.1 h9))
 have hr7 : ((m7 : Int) == 0) = false := by rw [beq_eq_false_iff_ne]; omega
 clear hq7
 obtain ⟨bx1, bx2, bz⟩ := zbf wc4 38 #[.bool b7, .slice B7 m7 d7]
 have hB := zad hB bx1
 have g1 := zac bx1 g1
 have e1 := zac bx1 e1
 have g2 := zac bx1 g2
 have e2 := zac bx1 e2
 have g6 := zac bx1 g6
 have e6 := zac bx1 e6
 have i6 := zac bx1 i6
 have HN3 := Lib.hid (HN3.out.below bx1)
 have HN4 := Lib.hid (HN4.out.below bx1)
 have HN5 := Lib.hid (HN5.out.below bx1)
 have HN7 := Lib.hid (HN7.out.below bx1)
 obtain ⟨g8, e8⟩ := bx2.c2
 clear bx1 bx2 bz
 go_wp2_with fail
 generalize wc4.alloc (.cells #[.bool b7, .slice B7 m7 d7] 38) = W5 at *
 generalize wc4.heap.size = q5 at *
 have HZ9 : Hid (Sz (K) (x).natAbs) := HS0.out
 have C0 := Lib.hid (fun w' (h : Below W5.heap.size W5 w') => HRF0.out _ (zad hB h))
 have HZ10 : Hid (SzQ (K + K + 1) (Rat.divInt x y)) := SzQ.made (HZ9.out.up (by omega)) (HZ7.out.up (by omega)) (by omega)
 have C1 := Lib.hid (fun w' (h : Below W5.heap.size W5 w') b9 B9 m9 d9 (hw9 : zba w' (x) b9 B9 m9 d9) => ref8_new (x) (y) b9 B9 m9 d9 b7 B7 m7 d7 (K) (K) w' HZ9.out hw9 HZ7.out (HN7.out.below h) (by omega) (by omega) Hy0.out)
 have C2 := Lib.hid (fun w' (h : Below W5.heap.size W5 w') b10 B10 m10 d10 E10 u10 v10 (hw10 : zec w' (Rat.divInt x y) b10 B10 m10 d10 E10 u10 v10) => zkH hTb HIC.out HQC.out (Rat.divInt x y) (K) b5 B5 m5 d5 E5 u5 v5 b10 B10 m10 d10 E10 u10 v10 w' (by omega) HZ5.out (HN5.out.below h) hw10 (HT.out _ (zad hB h)))
 have C3 := Lib.hid (fun w' (h : Below W5.heap.size W5 w') => zbd (v := sg) (HSG.out) (HQC.out.sign (Rat.divInt x y) b5 B5 m5 d5 E5 u5 v5 w' (HT.out _ (zad hB h)) (HN5.out.below h) (SzQ.fit HZ5.out HN5.out (by omega))))
 have HZ11 : Hid (Sz (K) ((Rat.divInt x y).num).natAbs) := SzQ.num HZ5.out
 have C4 := Lib.hid (fun w' (h : Below W5.heap.size W5 w') => HQC.out.num (Rat.divInt x y) b5 B5 m5 d5 E5 u5 v5 w' (HT.out _ (zad hB h)) (HN5.out.below h) (SzQ.fit HZ5.out HN5.out (by omega)))
 have C5 := Lib.hid (fun w' (h : Below W5.heap.size W5 w') b11 B11 m11 d11 (hw11 : zas w' ((Rat.divInt x y).num) b11 B11 m11 d11) => zfl (v := sg) (HSG.out) (HIC.out.sign ((Rat.divInt x y).num) b11 B11 m11 d11 w' (HT.out _ (zad hB h)) hw11 (by have := Sz.words HZ11.out hw11.words; omega)))
 have hBw := (Below.refl W5.heap.size W5).drew
 refine rg (csc g6 (csc e6 (csc i6 (csc g1 (csc e1 (csc g8 (csc e8 csn))))))) (fun hHeld => ?_)
 refine tk 0 ?_
 try simp only [sb]
 refine tk 1 ?_
 try simp only [sb]
 refine tk 2 ?_
 try simp only [sb]
 refine tk 3 ?_
 try simp only [sb]
 refine tk 5 ?_
 try simp only [sb]
 refine rc 4 (fun K hK => ?_)
 go_simp
 go_at_call 12; (with_reducible refine (C0.out _ hBw).mono ?_); rintro e wa6 ⟨b9, B9, m9, d9, rfl, hw9, hb⟩; have hBw := zad hBw hb; refine hK.out _ _ (Cs.below hHeld hb) (fun hHeld => ?_); clear hK K hb
 try simp only [sb]
 refine rc 6 (fun K hK => ?_)
 go_simp
 go_at_call 15; (with_reducible refine (C1.out _ hBw _ _ _ _ hw9).mono ?_); rintro e wa7 ⟨b10, B10, m10, d10, E10, u10, v10, rfl, hw10, hb⟩; have hBw := zad hBw hb; have hw9 := hw9.below hb; refine hK.out _ _ (Cs.below hHeld hb) (fun hHeld => ?_); clear hK K hb
 try simp only [sb]
 refine rc 7 (fun K hK => ?_)
 go_simp
 go_at_call 14; (with_reducible refine (C2.out _ hBw _ _ _ _ _ _ _ hw10).mono ?_); rintro e wa8 ⟨rfl, hb⟩; have hBw := zad hBw hb; have hw9 := hw9.below hb; have hw10 := hw10.below hb; refine hK.out _ _ (Cs.below hHeld hb) (fun hHeld => ?_); clear hK K hb
 try simp only [sb]
 refine tk 8 ?_
 try simp only [sb]
 refine tk 9 ?_
 try simp only [sb]
 refine tk 10 ?_
 try simp only [sb]
 refine tk 12 ?_
 try simp only [sb]
 refine rc 11 (fun K hK => ?_)
 go_simp
 go_at_call 16; (with_reducible refine (C3.out _ hBw).mono ?_); rintro e wa9 ⟨rfl, hb⟩; have hBw := zad hBw hb; have hw9 := hw9.below hb; have hw10 := hw10.below hb; refine hK.out _ _ (Cs.below hHeld hb) (fun hHeld => ?_); clear hK K hb
 try simp only [sb]
 refine rc 13 (fun K hK => ?_)
 go_simp
 go_at_call 17; (with_reducible refine (C4.out _ hBw).mono ?_); rintro e wa10 ⟨b11, B11, m11, d11, rfl, hw11, hb⟩; have hBw := zad hBw hb; have hw9 := hw9.below hb; have hw10 := hw10.below hb; refine hK.out _ _ (Cs.below hHeld hb) (fun hHeld => ?_); clear hK K hb
 try simp only [sb]
 refine rc 14 (fun K hK => ?_)
 go_simp
 go_at_call 18; (with_reducible refine (C5.out _ hBw _ _ _ _ hw11).mono ?_); rintro e wa11 ⟨rfl, hb⟩; have hBw := zad hBw hb; have hw9 := hw9.below hb; have hw10 := hw10.below hb; have hw11 := hw11.below hb; refine hK.out _ _ (Cs.below hHeld hb) (fun hHeld => ?_); clear hK K hb
 try simp only [sb]
 refine tk 15 ?_
 try simp only [sb]
 refine tk 16 ?_
 try simp only [sb]
 refine tk 17 ?_
 try simp only [sb]
 refine rdn ?_
 have hB := zad hB hBw
 have g1 := zac hBw g1
 have e1 := zac hBw e1
 have g2 := zac hBw g2
 have e2 := zac hBw e2
 have g6 := zac hBw g6
 have e6 := zac hBw e6
 have i6 := zac hBw i6
 have HN3 := Lib.hid (HN3.out.below hBw)
 have HN4 := Lib.hid (HN4.out.below hBw)
 have HN5 := Lib.hid (HN5.out.below hBw)
 have HN7 := Lib.hid (HN7.out.below hBw)
 have g8 := zac hBw g8
 have e8 := zac hBw e8
 have HN9 := Lib.hid hw9
 have HN10 := Lib.hid hw10
 have HN11 := Lib.hid hw11
 clear hBw hHeld hw9 hw10 hw11 C0 C1 C2 C3 C4 C5
 go_wp2
 go_ret
 exact ⟨by first | rfl | simp, hB⟩
theorem ratNews_core {T : World → Prop} {M : Nat → Prop} (hTb : ∀ w w', T w → Below w.heap.size w w' → T w') (IC : IntC T) (QC : RatC T M) (s0 : Bool) (A0 : Option Addr) (n0 c0 : Nat) (l0 : List Nat) (s1 : Bool) (A1 : Option Addr) (n1 c1 : Nat) (l1 : List Nat) (w : World) (h0 : zaL w A0 n0 c0 l0) (h1 : zaL w A1 n1 c1 l1) (hT : T w) :
  Calls Tryz.prog 3 #[.agg #[.bool s0, .slice A0 n0 c0], .agg #[.bool s1, .slice A1 n1 c1]] w fun e w' => e = .returned (.bool true) ∧ Below w.heap.size w w' := by
 by_cases p0 : n0 ≤ 8
 ·by_cases p1 : n1 ≤ 8
  ·by_cases y0 : zOf s1 l1 = 0
   ·exact zkJ hTb IC QC s0 A0 n0 c0 l0 s1 A1 n1 c1 l1 w h0 h1 y0 p0 p1 hT
   ·exact zkV hTb IC QC s0 A0 n0 c0 l0 s1 A1 n1 c1 l1 w h0 h1 y0 p0 p1 hT
  ·exact zlf hTb IC QC s0 A0 n0 c0 l0 s1 A1 n1 c1 l1 w h0 h1 p0 (by omega) hT
 ·exact zkU hTb IC QC s0 A0 n0 c0 l0 s1 A1 n1 c1 l1 w h0 h1 (by omega) hT
end Go.Proofs.YtgigccjiblaefaaGreatDoor
