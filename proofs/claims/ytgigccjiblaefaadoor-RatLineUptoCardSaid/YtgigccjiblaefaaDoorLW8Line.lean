/- What this claim leans on. -/
import Derived.Test.YtgigccjiblaefaaDoorLW8Awake
import Derived.Test.YtgigccjiblaefaaDoorLW8Make
namespace Go.Proofs.YtgigccjiblaefaaDoor
open Go Go.RowKit
set_option maxRecDepth 100000
set_option linter.unusedVariables false
set_option linter.unusedSimpArgs false
set_option maxHeartbeats 16000000 in
theorem zjm {T : World → Prop} (hTb : ∀ w w', T w → Below w.heap.size w w' → T w') (IC : IntC T) (QC : RatC T) (s0 : Bool) (A0 : Option Addr) (n0 c0 : Nat) (l0 : List Nat) (E0 : Option Addr) (u0 v0 : Nat) (e0 : List Nat) (s1 : Bool) (A1 : Option Addr) (n1 c1 : Nat) (l1 : List Nat) (E1 : Option Addr) (u1 v1 : Nat) (e1 : List Nat) (s2 : Bool) (A2 : Option Addr) (n2 c2 : Nat) (l2 : List Nat) (E2 : Option Addr) (u2 v2 : Nat) (e2 : List Nat) (w : World) (h0 : zat w A0 n0 c0 l0) (k0 : zat w E0 u0 v0 e0) (h1 : zat w A1 n1 c1 l1) (k1 : zat w E1 u1 v1 e1) (h2 : zat w A2 n2 c2 l2) (k2 : zat w E2 u2 v2 e2) (hp : 0 < zaM (fOf s0 l0 e0) (fOf s1 l1 e1)) (hT : T w) :
  Calls Tryd.prog 3 #[.agg #[.bool s0, .slice A0 n0 c0, .slice E0 u0 v0], .agg #[.bool s1, .slice A1 n1 c1, .slice E1 u1 v1], .agg #[.bool s2, .slice A2 n2 c2, .slice E2 u2 v2]] w fun e w' => e = .returned (.bool true) ∧ Below w.heap.size w w' := by
 have HAW := Lib.hid (fun w' (hb : Below w.heap.size w w') => zdw hTb IC QC w' (hTb w w' hT hb))
 have HIC := Lib.hid IC
 have HQC := Lib.hid QC
 have HT := Lib.hid (fun w' (hb : Below w.heap.size w w') => hTb w w' hT hb)
 obtain ⟨K, hK⟩ : ∃ K, 1048576 = K := ⟨_, rfl⟩
 have hKK : K ≤ 1048576 := by omega
 have hK0 : 0 < K := by omega
 have HM0 := Lib.hid (fun w' (hb : Below w.heap.size w w') => zbu hTb IC QC s0 A0 n0 c0 l0 E0 u0 v0 e0 w' ⟨(h0.reads.below hb).more hb.size, h0.dgs, h0.fits, h0.small⟩ ⟨(k0.reads.below hb).more hb.size, k0.dgs, k0.fits, k0.small⟩ (hTb w w' hT hb))
 have S0 : SzQ 1048576 (fOf s0 l0 e0) := zcI h0 k0
 rw [hK] at S0
 obtain ⟨x, hz0⟩ : ∃ x, fOf s0 l0 e0 = x := ⟨_, rfl⟩
 rw [hz0] at HM0 S0 hp
 have HS0 := Lib.hid S0
 have HM1 := Lib.hid (fun w' (hb : Below w.heap.size w w') => zbu hTb IC QC s1 A1 n1 c1 l1 E1 u1 v1 e1 w' ⟨(h1.reads.below hb).more hb.size, h1.dgs, h1.fits, h1.small⟩ ⟨(k1.reads.below hb).more hb.size, k1.dgs, k1.fits, k1.small⟩ (hTb w w' hT hb))
 have S1 : SzQ 1048576 (fOf s1 l1 e1) := zcI h1 k1
 rw [hK] at S1
 obtain ⟨y, hz1⟩ : ∃ x, fOf s1 l1 e1 = x := ⟨_, rfl⟩
 rw [hz1] at HM1 S1 hp
 have HS1 := Lib.hid S1
 have HM2 := Lib.hid (fun w' (hb : Below w.heap.size w w') => zbu hTb IC QC s2 A2 n2 c2 l2 E2 u2 v2 e2 w' ⟨(h2.reads.below hb).more hb.size, h2.dgs, h2.fits, h2.small⟩ ⟨(k2.reads.below hb).more hb.size, k2.dgs, k2.fits, k2.small⟩ (hTb w w' hT hb))
 have S2 : SzQ 1048576 (fOf s2 l2 e2) := zcI h2 k2
 rw [hK] at S2
 obtain ⟨z, hz2⟩ : ∃ x, fOf s2 l2 e2 = x := ⟨_, rfl⟩
 rw [hz2] at HM2 S2
 have HS2 := Lib.hid S2
 have hk1 := zgy x y
 have HZN : Hid (zaM y x = -zaM x y) := zdR x y
 have HAD : Hid (zaM (x + z) (y + z) = zaM x y) := zeO x y z
 have HMU : Hid (zaM (x * z) (y * z) = zaM x y * zef z) := zfc x y z
 have hg1 := zfV z.num
 obtain ⟨g, hg⟩ : ∃ g, zef z = g := ⟨_, rfl⟩
 have HSG := Lib.hid hg
 rw [show zcN z.num = g from hg] at hg1
 obtain ⟨k, hk⟩ : ∃ k, zaM x y = k := ⟨_, rfl⟩
 rw [hk] at hk1 HZN HAD HMU hp
 rw [hg] at HMU
 have HK := Lib.hid hk
 clear hk hg
 have kw1 : IntKind.i64.wrap (-(-k)) = k := by rw [Int.neg_neg]; exact IntWalk.i64_in _ (by omega)
 have kw2 : IntKind.i64.wrap (-k) = -k := IntWalk.i64_in _ (by omega)
 have kw4 : IntKind.i64.wrap k = k := IntWalk.i64_in _ (by omega)
 have kb1 : (k != k) = false := by simp
 have kg : -1 ≤ k * g ∧ k * g ≤ 1 := by
  rcases (show k = -1 ∨ k = 0 ∨ k = 1 by omega) with h9 | h9 | h9 <;> rcases (show g = -1 ∨ g = 0 ∨ g = 1 by omega) with h8 | h8 | h8 <;> rw [h9, h8] <;> decide
 have kw3 : IntKind.i64.wrap (k * g) = k * g := IntWalk.i64_in _ (by omega)
 have kb9 : (k * g == k * g) = true := by simp
 have kb2 : decide (k ≤ 0) = false := by simp; omega
 have Hhp := Lib.hid hp
 clear IC QC hT h0 k0 hz0 S0 h1 k1 hz1 S1 h2 k2 hz2 S2 hp hK
 go_enter Tryd.func3, Tryd.ntmps3
 have hB := Below.refl w.heap.size w
 obtain ⟨bx1, bx2, bx3, bx4, bz⟩ := zbd w 26 26 26 #[.bool s0, .slice A0 n0 c0, .slice E0 u0 v0] #[.bool s1, .slice A1 n1 c1, .slice E1 u1 v1] #[.bool s2, .slice A2 n2 c2, .slice E2 u2 v2]
 have hB := zab hB bx1
 obtain ⟨g1, e1, i1⟩ := bx2.c3
 obtain ⟨g2, e2, i2⟩ := bx3.c3
 obtain ⟨g3, e3, i3⟩ := bx4.c3
 clear bx1 bx2 bx3 bx4 bz
 go_wp2_with fail
 generalize ((w.alloc (.cells #[.bool s0, .slice A0 n0 c0, .slice E0 u0 v0] 26)).alloc (.cells #[.bool s1, .slice A1 n1 c1, .slice E1 u1 v1] 26)).alloc (.cells #[.bool s2, .slice A2 n2 c2, .slice E2 u2 v2] 26) = W1 at *
 (with_reducible refine (HAW.out _ hB).mono ?_)
 rintro e wc2 ⟨rfl, hb⟩
 have hB := zab hB hb
 have g1 := zaa hb g1
 have e1 := zaa hb e1
 have i1 := zaa hb i1
 have g2 := zaa hb g2
 have e2 := zaa hb e2
 have i2 := zaa hb i2
 have g3 := zaa hb g3
 have e3 := zaa hb e3
 have i3 := zaa hb i3
 clear hb 
 go_wp2_with fail
 have HZ4 : Hid (SzQ (K) (x)) := HS0.out
 have C0 := Lib.hid (fun w' (h : Below wc2.heap.size wc2 w') => HM0.out _ (zab hB h))
 have HZ5 : Hid (SzQ (K) (y)) := HS1.out
 have C1 := Lib.hid (fun w' (h : Below wc2.heap.size wc2 w') => HM1.out _ (zab hB h))
 have HZ6 : Hid (SzQ (K) (z)) := HS2.out
 have C2 := Lib.hid (fun w' (h : Below wc2.heap.size wc2 w') => HM2.out _ (zab hB h))
 have GG := Lib.hid (fun w' (h : Below wc2.heap.size wc2 w') => (csc (zaa h g1) (csc (zaa h e1) (csc (zaa h i1) (csc (zaa h g2) (csc (zaa h e2) (csc (zaa h i2) (csc (zaa h g3) (csc (zaa h e3) (csc (zaa h i3) csn))))))))))
 refine rgB (fun hHeld => ?_)
 refine tl 0 GG.out ?_
 try simp only [sb]
 refine tl 2 GG.out ?_
 try simp only [sb]
 refine tl 4 GG.out ?_
 try simp only [sb]
 refine zaH (L := #[true, true, true, true, true, true, true, true, true, true, true, true])
  (J := fun a0 l a w' => ∃ (fl1 fl3 fl5 fl6 fl7 fl8 fl9 fl10 fl11 b4 : Bool) (B4 : Option Addr) (m4 d4 : Nat) (E4 : Option Addr) (u4 v4 : Nat) (b5 : Bool) (B5 : Option Addr) (m5 d5 : Nat) (E5 : Option Addr) (u5 v5 : Nat) (b6 : Bool) (B6 : Option Addr) (m6 d6 : Nat) (E6 : Option Addr) (u6 v6 ad6 ad7 ad8 : Nat), l = #[true, fl1, true, fl3, true, fl5, fl6, fl7, fl8, fl9, fl10, fl11] ∧ zbm [14, 16, 18, 7, 8, 9] a0 a ∧ Hid (Below wc2.heap.size wc2 w') ∧
    Hid (Gd fl1 (a.tmps.getD 14 undef = .agg #[.bool b4, .slice B4 m4 d4, .slice E4 u4 v4] ∧ zal w' (x) b4 B4 m4 d4 E4 u4 v4)) ∧
    Hid (Gd fl3 (a.tmps.getD 16 undef = .agg #[.bool b5, .slice B5 m5 d5, .slice E5 u5 v5] ∧ zal w' (y) b5 B5 m5 d5 E5 u5 v5)) ∧
    Hid (Gd fl5 (a.tmps.getD 18 undef = .agg #[.bool b6, .slice B6 m6 d6, .slice E6 u6 v6] ∧ zal w' (z) b6 B6 m6 d6 E6 u6 v6)) ∧
    Hid (Gd fl6 (a.tmps.getD 7 undef = .pointer (some ⟨ad6, 0, none⟩) ∧ wc2.heap.size ≤ ad6 ∧ Blk w' ad6 33 (bif fl9 then #[.bool b4, .slice B4 m4 d4, .slice E4 u4 v4] else #[.bool false, .slice none 0 0, .slice none 0 0]))) ∧
    Hid (Gd fl7 (a.tmps.getD 8 undef = .pointer (some ⟨ad7, 0, none⟩) ∧ wc2.heap.size ≤ ad7 ∧ Blk w' ad7 33 (bif fl10 then #[.bool b5, .slice B5 m5 d5, .slice E5 u5 v5] else #[.bool false, .slice none 0 0, .slice none 0 0]))) ∧
    Hid (Gd fl8 (a.tmps.getD 9 undef = .pointer (some ⟨ad8, 0, none⟩) ∧ wc2.heap.size ≤ ad8 ∧ Blk w' ad8 33 (bif fl11 then #[.bool b6, .slice B6 m6 d6, .slice E6 u6 v6] else #[.bool false, .slice none 0 0, .slice none 0 0]))) ∧
    Hid (Gd fl6 (Gd fl7 (ad6 ≠ ad7))) ∧
    Hid (Gd fl6 (Gd fl8 (ad6 ≠ ad8))) ∧
    Hid (Gd fl7 (Gd fl8 (ad7 ≠ ad8))) ∧
    Hid (Gd fl3 (fl1 = true)) ∧
    Hid (Gd fl5 (fl3 = true)) ∧
    Hid (Gd fl9 (fl1 = true)) ∧
    Hid (Gd fl9 (fl5 = true)) ∧
    Hid (Gd fl9 (fl6 = true)) ∧
    Hid (Gd fl10 (fl3 = true)) ∧
    Hid (Gd fl10 (fl7 = true)) ∧
    Hid (Gd fl10 (fl9 = true)) ∧
    Hid (Gd fl11 (fl5 = true)) ∧
    Hid (Gd fl11 (fl8 = true)) ∧
    Hid (Gd fl11 (fl10 = true)))
  (by rfl) ?_ ?_ ?_
 ·exact ⟨false, false, false, false, false, false, false, false, false, false, none, 0, 0, none, 0, 0, false, none, 0, 0, none, 0, 0, false, none, 0, 0, none, 0, 0, 0, 0, 0, by kernel_rfl, zbm.refl _ _, hHeld, Gd.no, Gd.no, Gd.no, Gd.no, Gd.no, Gd.no, Gd.no, Gd.no, Gd.no, Gd.no, Gd.no, Gd.no, Gd.no, Gd.no, Gd.no, Gd.no, Gd.no, Gd.no, Gd.no, Gd.no⟩
 ·intro OPS Ac0 Q0 hO hAs hA
  have RB13 : Ac0.tmps.getD 13 undef = .agg #[.bool s0, .slice A0 n0 c0, .slice E0 u0 v0] := (hA 13 undef).trans (by kernel_rfl)
  have RB15 : Ac0.tmps.getD 15 undef = .agg #[.bool s1, .slice A1 n1 c1, .slice E1 u1 v1] := (hA 15 undef).trans (by kernel_rfl)
  have RB17 : Ac0.tmps.getD 17 undef = .agg #[.bool s2, .slice A2 n2 c2, .slice E2 u2 v2] := (hA 17 undef).trans (by kernel_rfl)
  have hsz : Ac0.tmps.size = 67 := hAs.trans (by kernel_rfl)
  clear hAs hA
  refine ⟨?_, ?_⟩
  ·rintro l a w' ⟨fl1, fl3, fl5, fl6, fl7, fl8, fl9, fl10, fl11, b4, B4, m4, d4, E4, u4, v4, b5, B5, m5, d5, E5, u5, v5, b6, B6, m6, d6, E6, u6, v6, ad6, ad7, ad8, rfl, -⟩ hr
   obtain rfl : fl1 = true := als 1 hr hO
   obtain rfl : fl3 = true := als 3 hr hO
   obtain rfl : fl5 = true := als 5 hr hO
   obtain rfl : fl6 = true := als 6 hr hO
   obtain rfl : fl7 = true := als 7 hr hO
   obtain rfl : fl8 = true := als 8 hr hO
   obtain rfl : fl9 = true := als 9 hr hO
   obtain rfl : fl10 = true := als 10 hr hO
   obtain rfl : fl11 = true := als 11 hr hO
   rfl
  ·rintro l a w' i ⟨fl1, fl3, fl5, fl6, fl7, fl8, fl9, fl10, fl11, b4, B4, m4, d4, E4, u4, v4, b5, B5, m5, d5, E5, u5, v5, b6, B6, m6, d6, E6, u6, v6, ad6, ad7, ad8, rfl, HKp, hBi, qf1, qf3, qf5, qf6, qf7, qf8, qn6_7, qn6_8, qn7_8, qd3_1, qd5_3, qd9_1, qd9_5, qd9_6, qd10_3, qd10_7, qd10_9, qd11_5, qd11_8, qd11_10⟩ hne hi
   have hlt : i < 12 := by have := zbe hi; rw [hO] at this; exact this
   rcases (show i = 0 ∨ i = 1 ∨ i = 2 ∨ i = 3 ∨ i = 4 ∨ i = 5 ∨ i = 6 ∨ i = 7 ∨ i = 8 ∨ i = 9 ∨ i = 10 ∨ i = 11 by omega) with rfl | rfl | rfl | rfl | rfl | rfl | rfl | rfl | rfl | rfl | rfl | rfl
   ·cases (zaf hi : true = false)
   ·obtain rfl : fl1 = false := zaf hi
    obtain rfl : fl3 = false := Gd.off qd3_1.out
    obtain rfl : fl5 = false := Gd.off qd5_3.out
    obtain rfl : fl9 = false := Gd.off qd9_1.out
    obtain rfl : fl10 = false := Gd.off qd10_3.out
    obtain rfl : fl11 = false := Gd.off qd11_5.out
    have rd13 := HKp.get 13 (by decide) RB13
    refine wog hO (fun K' hK => ?_)
    go_simp
    refine (C0.out w' hBi.out).mono ?_
    rintro e w2 ⟨nb4, nB4, nm4, nd4, nE4, nu4, nv4, rfl, nhw4, hb⟩
    exact hK.out _ _ ⟨zab hBi.out hb, true, false, false, fl6, fl7, fl8, false, false, false, nb4, nB4, nm4, nd4, nE4, nu4, nv4, b5, B5, m5, d5, E5, u5, v5, b6, B6, m6, d6, E6, u6, v6, ad6, ad7, ad8, by rfl, HKp.put (by decide) _, zab hBi.out hb, Gd.yes ⟨zap (HKp.lt (by rw [hsz]; decide)) _, nhw4⟩, Gd.no, Gd.no, kq qf6.out fun h => ⟨h.1, zac hb h.2⟩, kq qf7.out fun h => ⟨h.1, zac hb h.2⟩, kq qf8.out fun h => ⟨h.1, zac hb h.2⟩, qn6_7, qn6_8, qn7_8, Gd.no, Gd.no, Gd.no, Gd.no, Gd.no, Gd.no, Gd.no, Gd.no, Gd.no, Gd.no, Gd.no⟩
   ·cases (zaf hi : true = false)
   ·obtain rfl : fl3 = false := zaf hi
    obtain rfl : fl1 = true := rdp 1 1 hi hO
    obtain rfl : fl5 = false := Gd.off qd5_3.out
    obtain rfl : fl9 = false := Gd.off qd9_5.out
    obtain rfl : fl10 = false := Gd.off qd10_3.out
    obtain rfl : fl11 = false := Gd.off qd11_5.out
    have rd15 := HKp.get 15 (by decide) RB15
    refine wog hO (fun K' hK => ?_)
    go_simp
    refine (C1.out w' hBi.out).mono ?_
    rintro e w2 ⟨nb5, nB5, nm5, nd5, nE5, nu5, nv5, rfl, nhw5, hb⟩
    exact hK.out _ _ ⟨zab hBi.out hb, true, true, false, fl6, fl7, fl8, false, false, false, b4, B4, m4, d4, E4, u4, v4, nb5, nB5, nm5, nd5, nE5, nu5, nv5, b6, B6, m6, d6, E6, u6, v6, ad6, ad7, ad8, by rfl, HKp.put (by decide) _, zab hBi.out hb, kq qf1.out fun h => (h).below hb, Gd.yes ⟨zap (HKp.lt (by rw [hsz]; decide)) _, nhw5⟩, Gd.no, kq qf6.out fun h => ⟨h.1, zac hb h.2⟩, kq qf7.out fun h => ⟨h.1, zac hb h.2⟩, kq qf8.out fun h => ⟨h.1, zac hb h.2⟩, qn6_7, qn6_8, qn7_8, fun _ => rfl, Gd.no, Gd.no, Gd.no, Gd.no, Gd.no, Gd.no, Gd.no, Gd.no, Gd.no, Gd.no⟩
   ·cases (zaf hi : true = false)
   ·obtain rfl : fl5 = false := zaf hi
    obtain rfl : fl3 = true := rdp 3 1 hi hO
    obtain rfl : fl1 = true := qd3_1.out.get
    obtain rfl : fl9 = false := Gd.off qd9_5.out
    obtain rfl : fl10 = false := Gd.off qd10_9.out
    obtain rfl : fl11 = false := Gd.off qd11_5.out
    have rd17 := HKp.get 17 (by decide) RB17
    refine wog hO (fun K' hK => ?_)
    go_simp
    refine (C2.out w' hBi.out).mono ?_
    rintro e w2 ⟨nb6, nB6, nm6, nd6, nE6, nu6, nv6, rfl, nhw6, hb⟩
    exact hK.out _ _ ⟨zab hBi.out hb, true, true, true, fl6, fl7, fl8, false, false, false, b4, B4, m4, d4, E4, u4, v4, b5, B5, m5, d5, E5, u5, v5, nb6, nB6, nm6, nd6, nE6, nu6, nv6, ad6, ad7, ad8, by rfl, HKp.put (by decide) _, zab hBi.out hb, kq qf1.out fun h => (h).below hb, kq qf3.out fun h => (h).below hb, Gd.yes ⟨zap (HKp.lt (by rw [hsz]; decide)) _, nhw6⟩, kq qf6.out fun h => ⟨h.1, zac hb h.2⟩, kq qf7.out fun h => ⟨h.1, zac hb h.2⟩, kq qf8.out fun h => ⟨h.1, zac hb h.2⟩, qn6_7, qn6_8, qn7_8, fun _ => rfl, fun _ => rfl, Gd.no, Gd.no, Gd.no, Gd.no, Gd.no, Gd.no, Gd.no, Gd.no, Gd.no⟩
   ·obtain rfl : fl6 = false := zaf hi
    obtain rfl : fl9 = false := Gd.off qd9_6.out
    obtain rfl : fl10 = false := Gd.off qd10_9.out
    obtain rfl : fl11 = false := Gd.off qd11_10.out
    refine wog hO (fun K' hK => ?_)
    go_simp
    have hb := zaz w' (.cells #[.bool false, .slice none 0 0, .slice none 0 0] 33)
    exact hK.out _ _ ⟨zab hBi.out hb, fl1, fl3, fl5, true, fl7, fl8, false, false, false, b4, B4, m4, d4, E4, u4, v4, b5, B5, m5, d5, E5, u5, v5, b6, B6, m6, d6, E6, u6, v6, w'.heap.size, ad7, ad8, by rfl, HKp.put (by decide) _, zab hBi.out hb, kq qf1.out fun h => (h).below hb, kq qf3.out fun h => (h).below hb, kq qf5.out fun h => (h).below hb, Gd.yes ⟨zap (HKp.lt (by rw [hsz]; decide)) _, hBi.out.size, Blk.new w' _ _⟩, kq qf7.out fun h => ⟨h.1, zac hb h.2⟩, kq qf8.out fun h => ⟨h.1, zac hb h.2⟩, Gd.yes (qf7.out.mono fun h => by have := Blk.lt h.2.2; omega), Gd.yes (qf8.out.mono fun h => by have := Blk.lt h.2.2; omega), qn7_8, qd3_1, qd5_3, Gd.no, Gd.no, Gd.no, Gd.no, Gd.no, Gd.no, Gd.no, Gd.no, Gd.no⟩
   ·obtain rfl : fl7 = false := zaf hi
    obtain rfl : fl10 = false := Gd.off qd10_7.out
    obtain rfl : fl11 = false := Gd.off qd11_10.out
    refine wog hO (fun K' hK => ?_)
    go_simp
    have hb := zaz w' (.cells #[.bool false, .slice none 0 0, .slice none 0 0] 33)
    exact hK.out _ _ ⟨zab hBi.out hb, fl1, fl3, fl5, fl6, true, fl8, fl9, false, false, b4, B4, m4, d4, E4, u4, v4, b5, B5, m5, d5, E5, u5, v5, b6, B6, m6, d6, E6, u6, v6, ad6, w'.heap.size, ad8, by rfl, HKp.put (by decide) _, zab hBi.out hb, kq qf1.out fun h => (h).below hb, kq qf3.out fun h => (h).below hb, kq qf5.out fun h => (h).below hb, kq qf6.out fun h => ⟨h.1, zac hb h.2⟩, Gd.yes ⟨zap (HKp.lt (by rw [hsz]; decide)) _, hBi.out.size, Blk.new w' _ _⟩, kq qf8.out fun h => ⟨h.1, zac hb h.2⟩, qf6.out.mono fun h => Gd.yes (by have := Blk.lt h.2.2; omega), qn6_8, Gd.yes (qf8.out.mono fun h => by have := Blk.lt h.2.2; omega), qd3_1, qd5_3, qd9_1, qd9_5, qd9_6, Gd.no, Gd.no, Gd.no, Gd.no, Gd.no, Gd.no⟩
   ·obtain rfl : fl8 = false := zaf hi
    obtain rfl : fl11 = false := Gd.off qd11_8.out
    refine wog hO (fun K' hK => ?_)
    go_simp
    have hb := zaz w' (.cells #[.bool false, .slice none 0 0, .slice none 0 0] 33)
    exact hK.out _ _ ⟨zab hBi.out hb, fl1, fl3, fl5, fl6, fl7, true, fl9, fl10, false, b4, B4, m4, d4, E4, u4, v4, b5, B5, m5, d5, E5, u5, v5, b6, B6, m6, d6, E6, u6, v6, ad6, ad7, w'.heap.size, by rfl, HKp.put (by decide) _, zab hBi.out hb, kq qf1.out fun h => (h).below hb, kq qf3.out fun h => (h).below hb, kq qf5.out fun h => (h).below hb, kq qf6.out fun h => ⟨h.1, zac hb h.2⟩, kq qf7.out fun h => ⟨h.1, zac hb h.2⟩, Gd.yes ⟨zap (HKp.lt (by rw [hsz]; decide)) _, hBi.out.size, Blk.new w' _ _⟩, qn6_7, qf6.out.mono fun h => Gd.yes (by have := Blk.lt h.2.2; omega), qf7.out.mono fun h => Gd.yes (by have := Blk.lt h.2.2; omega), qd3_1, qd5_3, qd9_1, qd9_5, qd9_6, qd10_3, qd10_7, qd10_9, Gd.no, Gd.no, Gd.no⟩
   ·obtain rfl : fl9 = false := zaf hi
    obtain rfl : fl1 = true := rdp 1 1 hi hO
    obtain rfl : fl5 = true := rdp 5 2 hi hO
    obtain rfl : fl6 = true := rdp 6 0 hi hO
    obtain rfl : fl7 = true := rdp 7 10 hi hO
    obtain rfl : fl8 = true := rdp 8 11 hi hO
    obtain rfl : fl3 = true := qd5_3.out.get
    obtain rfl : fl10 = false := Gd.off qd10_9.out
    obtain rfl : fl11 = false := Gd.off qd11_10.out
    have rd7 := qf6.out.get.1
    have rd14 := qf1.out.get.1
    obtain ⟨_, hg, hk⟩ := qf6.out.get
    have hk : Blk w' ad6 33 #[.bool false, .slice none 0 0, .slice none 0 0] := hk
    obtain ⟨sc0, sf0, sc1, sf1, sc2, sf2⟩ := st3 hk (.bool b4) (.slice B4 m4 d4)
    have hj2 := sn3 hk (.bool b4) (.slice B4 m4 d4) (.slice E4 u4 v4)
    have hBn := bl3 (.bool b4) (.slice B4 m4 d4) (.slice E4 u4 v4) hg hBi.out
    refine wog hO (fun K' hK => ?_)
    go_simp
    exact hK.out _ _ ⟨hBn, true, true, true, true, true, true, true, false, false, b4, B4, m4, d4, E4, u4, v4, b5, B5, m5, d5, E5, u5, v5, b6, B6, m6, d6, E6, u6, v6, ad6, ad7, ad8, by rfl, HKp, hBn, qf1.out.mono fun h => ⟨h.1, zaA (h.2) hk zbx (zbp _ _ _ _ _)⟩, qf3.out.mono fun h => ⟨h.1, zaA (h.2) hk zbx (zbp _ _ _ _ _)⟩, qf5.out.mono fun h => ⟨h.1, zaA (h.2) hk zbx (zbp _ _ _ _ _)⟩, qf6.out.mono fun h => ⟨h.1, h.2.1, hj2⟩, fun hf9 => (fun h => ⟨h.1, h.2.1, Blk.far (p := ⟨ad6, 2, none⟩) (Blk.far (p := ⟨ad6, 1, none⟩) (Blk.far (p := ⟨ad6, 0, none⟩) (h.2.2) (Ne.symm (qn6_7.out rfl hf9)) (.bool b4)) (Ne.symm (qn6_7.out rfl hf9)) (.slice B4 m4 d4)) (Ne.symm (qn6_7.out rfl hf9)) (.slice E4 u4 v4)⟩) (qf7.out hf9), fun hf9 => (fun h => ⟨h.1, h.2.1, Blk.far (p := ⟨ad6, 2, none⟩) (Blk.far (p := ⟨ad6, 1, none⟩) (Blk.far (p := ⟨ad6, 0, none⟩) (h.2.2) (Ne.symm (qn6_8.out rfl hf9)) (.bool b4)) (Ne.symm (qn6_8.out rfl hf9)) (.slice B4 m4 d4)) (Ne.symm (qn6_8.out rfl hf9)) (.slice E4 u4 v4)⟩) (qf8.out hf9), qn6_7, qn6_8, qn7_8, fun _ => rfl, fun _ => rfl, fun _ => rfl, fun _ => rfl, fun _ => rfl, Gd.no, Gd.no, Gd.no, Gd.no, Gd.no, Gd.no⟩
   ·obtain rfl : fl10 = false := zaf hi
    obtain rfl : fl1 = true := rdp 1 4 hi hO
    obtain rfl : fl3 = true := rdp 3 1 hi hO
    obtain rfl : fl6 = true := rdp 6 9 hi hO
    obtain rfl : fl7 = true := rdp 7 0 hi hO
    obtain rfl : fl8 = true := rdp 8 11 hi hO
    obtain rfl : fl9 = true := rdp 9 2 hi hO
    obtain rfl : fl5 = true := qd9_5.out.get
    obtain rfl : fl11 = false := Gd.off qd11_10.out
    have rd8 := qf7.out.get.1
    have rd16 := qf3.out.get.1
    obtain ⟨_, hg, hk⟩ := qf7.out.get
    have hk : Blk w' ad7 33 #[.bool false, .slice none 0 0, .slice none 0 0] := hk
    obtain ⟨sc0, sf0, sc1, sf1, sc2, sf2⟩ := st3 hk (.bool b5) (.slice B5 m5 d5)
    have hj2 := sn3 hk (.bool b5) (.slice B5 m5 d5) (.slice E5 u5 v5)
    have hBn := bl3 (.bool b5) (.slice B5 m5 d5) (.slice E5 u5 v5) hg hBi.out
    refine wog hO (fun K' hK => ?_)
    go_simp
    exact hK.out _ _ ⟨hBn, true, true, true, true, true, true, true, true, false, b4, B4, m4, d4, E4, u4, v4, b5, B5, m5, d5, E5, u5, v5, b6, B6, m6, d6, E6, u6, v6, ad6, ad7, ad8, by rfl, HKp, hBn, qf1.out.mono fun h => ⟨h.1, zaA (h.2) hk zbx (zbp _ _ _ _ _)⟩, qf3.out.mono fun h => ⟨h.1, zaA (h.2) hk zbx (zbp _ _ _ _ _)⟩, qf5.out.mono fun h => ⟨h.1, zaA (h.2) hk zbx (zbp _ _ _ _ _)⟩, fun hf9 => (fun h => ⟨h.1, h.2.1, Blk.far (p := ⟨ad7, 2, none⟩) (Blk.far (p := ⟨ad7, 1, none⟩) (Blk.far (p := ⟨ad7, 0, none⟩) (h.2.2) (qn6_7.out hf9 rfl) (.bool b5)) (qn6_7.out hf9 rfl) (.slice B5 m5 d5)) (qn6_7.out hf9 rfl) (.slice E5 u5 v5)⟩) (qf6.out hf9), qf7.out.mono fun h => ⟨h.1, h.2.1, hj2⟩, fun hf9 => (fun h => ⟨h.1, h.2.1, Blk.far (p := ⟨ad7, 2, none⟩) (Blk.far (p := ⟨ad7, 1, none⟩) (Blk.far (p := ⟨ad7, 0, none⟩) (h.2.2) (Ne.symm (qn7_8.out rfl hf9)) (.bool b5)) (Ne.symm (qn7_8.out rfl hf9)) (.slice B5 m5 d5)) (Ne.symm (qn7_8.out rfl hf9)) (.slice E5 u5 v5)⟩) (qf8.out hf9), qn6_7, qn6_8, qn7_8, fun _ => rfl, fun _ => rfl, fun _ => rfl, fun _ => rfl, fun _ => rfl, fun _ => rfl, fun _ => rfl, fun _ => rfl, Gd.no, Gd.no, Gd.no⟩
   ·obtain rfl : fl11 = false := zaf hi
    obtain rfl : fl1 = true := rdp 1 4 hi hO
    obtain rfl : fl3 = true := rdp 3 6 hi hO
    obtain rfl : fl5 = true := rdp 5 1 hi hO
    obtain rfl : fl6 = true := rdp 6 9 hi hO
    obtain rfl : fl7 = true := rdp 7 10 hi hO
    obtain rfl : fl8 = true := rdp 8 0 hi hO
    obtain rfl : fl9 = true := rdp 9 12 hi hO
    obtain rfl : fl10 = true := rdp 10 2 hi hO
    have rd9 := qf8.out.get.1
    have rd18 := qf5.out.get.1
    obtain ⟨_, hg, hk⟩ := qf8.out.get
    have hk : Blk w' ad8 33 #[.bool false, .slice none 0 0, .slice none 0 0] := hk
    obtain ⟨sc0, sf0, sc1, sf1, sc2, sf2⟩ := st3 hk (.bool b6) (.slice B6 m6 d6)
    have hj2 := sn3 hk (.bool b6) (.slice B6 m6 d6) (.slice E6 u6 v6)
    have hBn := bl3 (.bool b6) (.slice B6 m6 d6) (.slice E6 u6 v6) hg hBi.out
    refine wog hO (fun K' hK => ?_)
    go_simp
    exact hK.out _ _ ⟨hBn, true, true, true, true, true, true, true, true, true, b4, B4, m4, d4, E4, u4, v4, b5, B5, m5, d5, E5, u5, v5, b6, B6, m6, d6, E6, u6, v6, ad6, ad7, ad8, by rfl, HKp, hBn, qf1.out.mono fun h => ⟨h.1, zaA (h.2) hk zbx (zbp _ _ _ _ _)⟩, qf3.out.mono fun h => ⟨h.1, zaA (h.2) hk zbx (zbp _ _ _ _ _)⟩, qf5.out.mono fun h => ⟨h.1, zaA (h.2) hk zbx (zbp _ _ _ _ _)⟩, fun hf9 => (fun h => ⟨h.1, h.2.1, Blk.far (p := ⟨ad8, 2, none⟩) (Blk.far (p := ⟨ad8, 1, none⟩) (Blk.far (p := ⟨ad8, 0, none⟩) (h.2.2) (qn6_8.out hf9 rfl) (.bool b6)) (qn6_8.out hf9 rfl) (.slice B6 m6 d6)) (qn6_8.out hf9 rfl) (.slice E6 u6 v6)⟩) (qf6.out hf9), fun hf9 => (fun h => ⟨h.1, h.2.1, Blk.far (p := ⟨ad8, 2, none⟩) (Blk.far (p := ⟨ad8, 1, none⟩) (Blk.far (p := ⟨ad8, 0, none⟩) (h.2.2) (qn7_8.out hf9 rfl) (.bool b6)) (qn7_8.out hf9 rfl) (.slice B6 m6 d6)) (qn7_8.out hf9 rfl) (.slice E6 u6 v6)⟩) (qf7.out hf9), qf8.out.mono fun h => ⟨h.1, h.2.1, hj2⟩, qn6_7, qn6_8, qn7_8, fun _ => rfl, fun _ => rfl, fun _ => rfl, fun _ => rfl, fun _ => rfl, fun _ => rfl, fun _ => rfl, fun _ => rfl, fun _ => rfl, fun _ => rfl, fun _ => rfl⟩
 rintro a wm3 ⟨fl1, fl3, fl5, fl6, fl7, fl8, fl9, fl10, fl11, b4, B4, m4, d4, E4, u4, v4, b5, B5, m5, d5, E5, u5, v5, b6, B6, m6, d6, E6, u6, v6, ad6, ad7, ad8, hl, HKp, hBi, qf1, qf3, qf5, qf6, qf7, qf8, qn6_7, qn6_8, qn7_8, qd3_1, qd5_3, qd9_1, qd9_5, qd9_6, qd10_3, qd10_7, qd10_9, qd11_5, qd11_8, qd11_10⟩
 have xx1 : fl1 = true := gdl 1 hl
 subst xx1
 have xx3 : fl3 = true := gdl 3 hl
 subst xx3
 have xx5 : fl5 = true := gdl 5 hl
 subst xx5
 have xx6 : fl6 = true := gdl 6 hl
 subst xx6
 have xx7 : fl7 = true := gdl 7 hl
 subst xx7
 have xx8 : fl8 = true := gdl 8 hl
 subst xx8
 have xx9 : fl9 = true := gdl 9 hl
 subst xx9
 have xx10 : fl10 = true := gdl 10 hl
 subst xx10
 have xx11 : fl11 = true := gdl 11 hl
 subst xx11
 obtain ⟨rv1, hw4⟩ := qf1.out.get
 obtain ⟨rv3, hw5⟩ := qf3.out.get
 obtain ⟨rv5, hw6⟩ := qf5.out.get
 obtain ⟨rv6, hg6, hk6⟩ := qf6.out.get
 obtain ⟨rv7, hg7, hk7⟩ := qf7.out.get
 obtain ⟨rv8, hg8, hk8⟩ := qf8.out.get
 obtain rfl := HKp.eq [(14, .agg #[.bool b4, .slice B4 m4 d4, .slice E4 u4 v4]), (16, .agg #[.bool b5, .slice B5 m5 d5, .slice E5 u5 v5]), (18, .agg #[.bool b6, .slice B6 m6 d6, .slice E6 u6 v6]), (7, .pointer (some ⟨ad6, 0, none⟩)), (8, .pointer (some ⟨ad7, 0, none⟩)), (9, .pointer (some ⟨ad8, 0, none⟩))] rfl (by
  intro p hp
  simp only [List.mem_cons, List.not_mem_nil, or_false] at hp
  rcases hp with rfl | rfl | rfl | rfl | rfl | rfl
  ·exact rv1
  ·exact rv3
  ·exact rv5
  ·exact rv6
  ·exact rv7
  ·exact rv8)
 have hBv := hBi.out
 clear hl hBi HKp qf1 qf3 qf5 qf6 qf7 qf8 qn6_7 qn6_8 qn7_8 qd3_1 qd5_3 qd9_1 qd9_5 qd9_6 qd10_3 qd10_7 qd10_9 qd11_5 qd11_8 qd11_10 rv1 rv3 rv5 rv6 rv7 rv8
 have hk6 : Blk wm3 ad6 33 #[.bool b4, .slice B4 m4 d4, .slice E4 u4 v4] := hk6
 have hk7 : Blk wm3 ad7 33 #[.bool b5, .slice B5 m5 d5, .slice E5 u5 v5] := hk7
 have hk8 : Blk wm3 ad8 33 #[.bool b6, .slice B6 m6 d6, .slice E6 u6 v6] := hk8
 rw [show due #[true, true, true, true, true, true, true, true, true, true, true, true] = 0 from rfl]
 simp only [zbj, List.foldl, Act.put, List.setIfInBounds_toArray, List.set_cons_zero, List.set_cons_succ]
 refine wpAnyH_done (by kernel_rfl) ?_ _
 refine NoPanic.normal ?_
 have hB := zab hB hBv
 have g1 := zaa hBv g1
 have e1 := zaa hBv e1
 have i1 := zaa hBv i1
 have g2 := zaa hBv g2
 have e2 := zaa hBv e2
 have i2 := zaa hBv i2
 have g3 := zaa hBv g3
 have e3 := zaa hBv e3
 have i3 := zaa hBv i3
 obtain ⟨ad6_7, hga⟩ : ∃ x, x = ad6 := ⟨_, rfl⟩
 subst hga
 obtain ⟨g7, e7, i7⟩ := hk6.c3
 obtain ⟨ad7_8, hga⟩ : ∃ x, x = ad7 := ⟨_, rfl⟩
 subst hga
 obtain ⟨g8, e8, i8⟩ := hk7.c3
 obtain ⟨ad8_9, hga⟩ : ∃ x, x = ad8 := ⟨_, rfl⟩
 subst hga
 obtain ⟨g9, e9, i9⟩ := hk8.c3
 have HN4 := Lib.hid hw4
 have HN5 := Lib.hid hw5
 have HN6 := Lib.hid hw6
 clear hBv hk6 hg6 hk7 hg7 hk8 hg8 hw4 hw5 hw6 GG
 clear C0 C1 C2
 go_wp2_with fail
 (with_reducible refine (zaF (v := k) (HK.out) (HQC.out.cmp (x) (y) b4 b5 B4 B5 m4 m5 d4 d5 E4 E5 u4 u5 v4 v5 _ (HT.out _ hB) HN4.out HN5.out (SzQ.fit HZ4.out HN4.out (by omega)) (SzQ.fit HZ5.out HN5.out (by omega)))).mono ?_)
 rintro e wc4 ⟨rfl, hb⟩
 have hB := zab hB hb
 have g1 := zaa hb g1
 have e1 := zaa hb e1
 have i1 := zaa hb i1
 have g2 := zaa hb g2
 have e2 := zaa hb e2
 have i2 := zaa hb i2
 have g3 := zaa hb g3
 have e3 := zaa hb e3
 have i3 := zaa hb i3
 have g7 := zaa hb g7
 have e7 := zaa hb e7
 have i7 := zaa hb i7
 have g8 := zaa hb g8
 have e8 := zaa hb e8
 have i8 := zaa hb i8
 have g9 := zaa hb g9
 have e9 := zaa hb e9
 have i9 := zaa hb i9
 have HN4 := Lib.hid (HN4.out.below hb)
 have HN5 := Lib.hid (HN5.out.below hb)
 have HN6 := Lib.hid (HN6.out.below hb)
 clear hb 
 go_wp2_with fail
 have C0 := Lib.hid (fun w' (h : Below wc4.heap.size wc4 w') => zaF (v := (-k)) (HZN.out) (HQC.out.cmp (y) (x) b5 b4 B5 B4 m5 m4 d5 d4 E5 E4 u5 u4 v5 v4 w' (HT.out _ (zab hB h)) (HN5.out.below h) (HN4.out.below h) (SzQ.fit HZ5.out HN5.out (by omega)) (SzQ.fit HZ4.out HN4.out (by omega))))
 have HZ10 : Hid (SzQ (K + K + 1) (x + z)) := SzQ.add HZ4.out HZ6.out
 have C1 := Lib.hid (fun w' (h : Below wc4.heap.size wc4 w') => HQC.out.add (x) (z) b4 b6 B4 B6 m4 m6 d4 d6 E4 E6 u4 u6 v4 v6 w' (HT.out _ (zab hB h)) (HN4.out.below h) (HN6.out.below h) (SzQ.fit HZ4.out HN4.out (by omega)) (SzQ.fit HZ6.out HN6.out (by omega)))
 have HZ11 : Hid (SzQ (K + K + 1) (y + z)) := SzQ.add HZ5.out HZ6.out
 have C2 := Lib.hid (fun w' (h : Below wc4.heap.size wc4 w') => HQC.out.add (y) (z) b5 b6 B5 B6 m5 m6 d5 d6 E5 E6 u5 u6 v5 v6 w' (HT.out _ (zab hB h)) (HN5.out.below h) (HN6.out.below h) (SzQ.fit HZ5.out HN5.out (by omega)) (SzQ.fit HZ6.out HN6.out (by omega)))
 have C3 := Lib.hid (fun w' (h : Below wc4.heap.size wc4 w') b10 B10 m10 d10 E10 u10 v10 (hw10 : zal w' (x + z) b10 B10 m10 d10 E10 u10 v10) b11 B11 m11 d11 E11 u11 v11 (hw11 : zal w' (y + z) b11 B11 m11 d11 E11 u11 v11) => zaF (v := k) (HAD.out) (HQC.out.cmp (x + z) (y + z) b10 b11 B10 B11 m10 m11 d10 d11 E10 E11 u10 u11 v10 v11 w' (HT.out _ (zab hB h)) hw10 hw11 (SzQ.fit HZ10.out hw10 (by omega)) (SzQ.fit HZ11.out hw11 (by omega))))
 have hBw := (Below.refl wc4.heap.size wc4).drew
 refine rg (csc g8 (csc e8 (csc i8 (csc g7 (csc e7 (csc i7 (csc g9 (csc e9 (csc i9 csn))))))))) (fun hHeld => ?_)
 refine tk 0 ?_
 try simp only [sb]
 refine tk 1 ?_
 try simp only [sb]
 refine tk 2 ?_
 try simp only [sb]
 refine rc 3 (fun K hK => ?_)
 go_simp
 go_at_call 7; (with_reducible refine (C0.out _ hBw).mono ?_); rintro e wa5 ⟨rfl, hb⟩; have hBw := zab hBw hb; refine hK.out _ _ (Cs.below hHeld hb) (fun hHeld => ?_); clear hK K hb
 try simp only [sb]
 refine tk 4 ?_
 try simp only [sb]
 refine tk 5 ?_
 try simp only [sb]
 refine tk 6 ?_
 try simp only [sb]
 refine tk 7 ?_
 try simp only [sb]
 refine tk 8 ?_
 try simp only [sb]
 refine tk 9 ?_
 try simp only [sb]
 refine tu 10 ?_
 try simp only [sb]
 refine tu 11 ?_
 try simp only [sb]
 refine tu 12 ?_
 try simp only [sb]
 refine tu 13 ?_
 try simp only [sb]
 refine tk 14 ?_
 try simp only [sb]
 refine tk 15 ?_
 try simp only [sb]
 refine tu 16 ?_
 try simp only [sb]
 refine tu 17 ?_
 try simp only [sb]
 refine tu 18 ?_
 try simp only [sb]
 refine tu 19 ?_
 try simp only [sb]
 refine tk 20 ?_
 try simp only [sb]
 refine tk 21 ?_
 try simp only [sb]
 refine tk 22 ?_
 try simp only [sb]
 refine tk 23 ?_
 try simp only [sb]
 refine tk 24 ?_
 try simp only [sb]
 refine tk 26 ?_
 try simp only [sb]
 refine tk 27 ?_
 try simp only [sb]
 refine tk 30 ?_
 try simp only [sb]
 refine rc 25 (fun K hK => ?_)
 go_simp
 go_at_call 8; (with_reducible refine (C1.out _ hBw).mono ?_); rintro e wa6 ⟨b10, B10, m10, d10, E10, u10, v10, rfl, hw10, hb⟩; have hBw := zab hBw hb; refine hK.out _ _ (Cs.below hHeld hb) (fun hHeld => ?_); clear hK K hb
 try simp only [sb]
 refine rc 28 (fun K hK => ?_)
 go_simp
 go_at_call 8; (with_reducible refine (C2.out _ hBw).mono ?_); rintro e wa7 ⟨b11, B11, m11, d11, E11, u11, v11, rfl, hw11, hb⟩; have hBw := zab hBw hb; have hw10 := hw10.below hb; refine hK.out _ _ (Cs.below hHeld hb) (fun hHeld => ?_); clear hK K hb
 try simp only [sb]
 refine rc 29 (fun K hK => ?_)
 go_simp
 go_at_call 7; (with_reducible refine (C3.out _ hBw _ _ _ _ _ _ _ hw10 _ _ _ _ _ _ _ hw11).mono ?_); rintro e wa8 ⟨rfl, hb⟩; have hBw := zab hBw hb; have hw10 := hw10.below hb; have hw11 := hw11.below hb; refine hK.out _ _ (Cs.below hHeld hb) (fun hHeld => ?_); clear hK K hb
 try simp only [sb]
 refine tk 31 ?_
 try simp only [sb]
 refine tk 32 ?_
 try simp only [sb]
 refine rdn ?_
 have hB := zab hB hBw
 have g1 := zaa hBw g1
 have e1 := zaa hBw e1
 have i1 := zaa hBw i1
 have g2 := zaa hBw g2
 have e2 := zaa hBw e2
 have i2 := zaa hBw i2
 have g3 := zaa hBw g3
 have e3 := zaa hBw e3
 have i3 := zaa hBw i3
 have g7 := zaa hBw g7
 have e7 := zaa hBw e7
 have i7 := zaa hBw i7
 have g8 := zaa hBw g8
 have e8 := zaa hBw e8
 have i8 := zaa hBw i8
 have g9 := zaa hBw g9
 have e9 := zaa hBw e9
 have i9 := zaa hBw i9
 have HN4 := Lib.hid (HN4.out.below hBw)
 have HN5 := Lib.hid (HN5.out.below hBw)
 have HN6 := Lib.hid (HN6.out.below hBw)
 have HN10 := Lib.hid hw10
 have HN11 := Lib.hid hw11
 clear hBw hHeld hw10 hw11 C0 C1 C2 C3
 go_wp2_with fail
 have HZ12 : Hid (SzQ (K + K) (x * z)) := SzQ.mul HZ4.out HZ6.out
 have C0 := Lib.hid (fun w' (h : Below wa8.heap.size wa8 w') => HQC.out.mul (x) (z) b4 b6 B4 B6 m4 m6 d4 d6 E4 E6 u4 u6 v4 v6 w' (HT.out _ (zab hB h)) (HN4.out.below h) (HN6.out.below h) (SzQ.fit HZ4.out HN4.out (by omega)) (SzQ.fit HZ6.out HN6.out (by omega)))
 have HZ13 : Hid (SzQ (K + K) (y * z)) := SzQ.mul HZ5.out HZ6.out
 have C1 := Lib.hid (fun w' (h : Below wa8.heap.size wa8 w') => HQC.out.mul (y) (z) b5 b6 B5 B6 m5 m6 d5 d6 E5 E6 u5 u6 v5 v6 w' (HT.out _ (zab hB h)) (HN5.out.below h) (HN6.out.below h) (SzQ.fit HZ5.out HN5.out (by omega)) (SzQ.fit HZ6.out HN6.out (by omega)))
 have C2 := Lib.hid (fun w' (h : Below wa8.heap.size wa8 w') b12 B12 m12 d12 E12 u12 v12 (hw12 : zal w' (x * z) b12 B12 m12 d12 E12 u12 v12) b13 B13 m13 d13 E13 u13 v13 (hw13 : zal w' (y * z) b13 B13 m13 d13 E13 u13 v13) => zaF (v := ((k * g))) (HMU.out) (HQC.out.cmp (x * z) (y * z) b12 b13 B12 B13 m12 m13 d12 d13 E12 E13 u12 u13 v12 v13 w' (HT.out _ (zab hB h)) hw12 hw13 (SzQ.fit HZ12.out hw12 (by omega)) (SzQ.fit HZ13.out hw13 (by omega))))
 have C3 := Lib.hid (fun w' (h : Below wa8.heap.size wa8 w') => zaF (v := g) (HSG.out) (HQC.out.sign (z) b6 B6 m6 d6 E6 u6 v6 w' (HT.out _ (zab hB h)) (HN6.out.below h) (SzQ.fit HZ6.out HN6.out (by omega))))
 have hBw := (Below.refl wa8.heap.size wa8).drew
 refine rg (csc g7 (csc e7 (csc i7 (csc g9 (csc e9 (csc i9 (csc g8 (csc e8 (csc i8 csn))))))))) (fun hHeld => ?_)
 refine tk 0 ?_
 try simp only [sb]
 refine tk 1 ?_
 try simp only [sb]
 refine tk 3 ?_
 try simp only [sb]
 refine tk 4 ?_
 try simp only [sb]
 refine tk 7 ?_
 try simp only [sb]
 refine tk 8 ?_
 try simp only [sb]
 refine rc 2 (fun K hK => ?_)
 go_simp
 go_at_call 9; (with_reducible refine (C0.out _ hBw).mono ?_); rintro e wa9 ⟨b12, B12, m12, d12, E12, u12, v12, rfl, hw12, hb⟩; have hBw := zab hBw hb; refine hK.out _ _ (Cs.below hHeld hb) (fun hHeld => ?_); clear hK K hb
 try simp only [sb]
 refine rc 5 (fun K hK => ?_)
 go_simp
 go_at_call 9; (with_reducible refine (C1.out _ hBw).mono ?_); rintro e wa10 ⟨b13, B13, m13, d13, E13, u13, v13, rfl, hw13, hb⟩; have hBw := zab hBw hb; have hw12 := hw12.below hb; refine hK.out _ _ (Cs.below hHeld hb) (fun hHeld => ?_); clear hK K hb
 try simp only [sb]
 refine rc 6 (fun K hK => ?_)
 go_simp
 go_at_call 7; (with_reducible refine (C2.out _ hBw _ _ _ _ _ _ _ hw12 _ _ _ _ _ _ _ hw13).mono ?_); rintro e wa11 ⟨rfl, hb⟩; have hBw := zab hBw hb; have hw12 := hw12.below hb; have hw13 := hw13.below hb; refine hK.out _ _ (Cs.below hHeld hb) (fun hHeld => ?_); clear hK K hb
 try simp only [sb]
 refine rc 9 (fun K hK => ?_)
 go_simp
 go_at_call 10; (with_reducible refine (C3.out _ hBw).mono ?_); rintro e wa12 ⟨rfl, hb⟩; have hBw := zab hBw hb; have hw12 := hw12.below hb; have hw13 := hw13.below hb; refine hK.out _ _ (Cs.below hHeld hb) (fun hHeld => ?_); clear hK K hb
 try simp only [sb]
 refine tk 10 ?_
 try simp only [sb]
 refine tk 11 ?_
 try simp only [sb]
 refine tk 12 ?_
 try simp only [sb]
 refine rdn ?_
 have hB := zab hB hBw
 have g1 := zaa hBw g1
 have e1 := zaa hBw e1
 have i1 := zaa hBw i1
 have g2 := zaa hBw g2
 have e2 := zaa hBw e2
 have i2 := zaa hBw i2
 have g3 := zaa hBw g3
 have e3 := zaa hBw e3
 have i3 := zaa hBw i3
 have g7 := zaa hBw g7
 have e7 := zaa hBw e7
 have i7 := zaa hBw i7
 have g8 := zaa hBw g8
 have e8 := zaa hBw e8
 have i8 := zaa hBw i8
 have g9 := zaa hBw g9
 have e9 := zaa hBw e9
 have i9 := zaa hBw i9
 have HN4 := Lib.hid (HN4.out.below hBw)
 have HN5 := Lib.hid (HN5.out.below hBw)
 have HN6 := Lib.hid (HN6.out.below hBw)
 have HN10 := Lib.hid (HN10.out.below hBw)
 have HN11 := Lib.hid (HN11.out.below hBw)
 have HN12 := Lib.hid hw12
 have HN13 := Lib.hid hw13
 clear hBw hHeld hw12 hw13 C0 C1 C2 C3
 go_wp2
 go_ret
 exact ⟨by first | rfl | simp, hB⟩
set_option maxHeartbeats 16000000 in
theorem zje {T : World → Prop} (hTb : ∀ w w', T w → Below w.heap.size w w' → T w') (IC : IntC T) (QC : RatC T) (s0 : Bool) (A0 : Option Addr) (n0 c0 : Nat) (l0 : List Nat) (E0 : Option Addr) (u0 v0 : Nat) (e0 : List Nat) (s1 : Bool) (A1 : Option Addr) (n1 c1 : Nat) (l1 : List Nat) (E1 : Option Addr) (u1 v1 : Nat) (e1 : List Nat) (s2 : Bool) (A2 : Option Addr) (n2 c2 : Nat) (l2 : List Nat) (E2 : Option Addr) (u2 v2 : Nat) (e2 : List Nat) (w : World) (h0 : zat w A0 n0 c0 l0) (k0 : zat w E0 u0 v0 e0) (h1 : zat w A1 n1 c1 l1) (k1 : zat w E1 u1 v1 e1) (h2 : zat w A2 n2 c2 l2) (k2 : zat w E2 u2 v2 e2) (hp : zaM (fOf s0 l0 e0) (fOf s1 l1 e1) ≤ 0) (hq : 0 < zaM (fOf s1 l1 e1) (fOf s2 l2 e2)) (hT : T w) :
  Calls Tryd.prog 3 #[.agg #[.bool s0, .slice A0 n0 c0, .slice E0 u0 v0], .agg #[.bool s1, .slice A1 n1 c1, .slice E1 u1 v1], .agg #[.bool s2, .slice A2 n2 c2, .slice E2 u2 v2]] w fun e w' => e = .returned (.bool true) ∧ Below w.heap.size w w' := by
 have HAW := Lib.hid (fun w' (hb : Below w.heap.size w w') => zdw hTb IC QC w' (hTb w w' hT hb))
 have HIC := Lib.hid IC
 have HQC := Lib.hid QC
 have HT := Lib.hid (fun w' (hb : Below w.heap.size w w') => hTb w w' hT hb)
 obtain ⟨K, hK⟩ : ∃ K, 1048576 = K := ⟨_, rfl⟩
 have hKK : K ≤ 1048576 := by omega
 have hK0 : 0 < K := by omega
 have HM0 := Lib.hid (fun w' (hb : Below w.heap.size w w') => zbu hTb IC QC s0 A0 n0 c0 l0 E0 u0 v0 e0 w' ⟨(h0.reads.below hb).more hb.size, h0.dgs, h0.fits, h0.small⟩ ⟨(k0.reads.below hb).more hb.size, k0.dgs, k0.fits, k0.small⟩ (hTb w w' hT hb))
 have S0 : SzQ 1048576 (fOf s0 l0 e0) := zcI h0 k0
 rw [hK] at S0
 obtain ⟨x, hz0⟩ : ∃ x, fOf s0 l0 e0 = x := ⟨_, rfl⟩
 rw [hz0] at HM0 S0 hp
 have HS0 := Lib.hid S0
 have HM1 := Lib.hid (fun w' (hb : Below w.heap.size w w') => zbu hTb IC QC s1 A1 n1 c1 l1 E1 u1 v1 e1 w' ⟨(h1.reads.below hb).more hb.size, h1.dgs, h1.fits, h1.small⟩ ⟨(k1.reads.below hb).more hb.size, k1.dgs, k1.fits, k1.small⟩ (hTb w w' hT hb))
 have S1 : SzQ 1048576 (fOf s1 l1 e1) := zcI h1 k1
 rw [hK] at S1
 obtain ⟨y, hz1⟩ : ∃ x, fOf s1 l1 e1 = x := ⟨_, rfl⟩
 rw [hz1] at HM1 S1 hp hq
 have HS1 := Lib.hid S1
 have HM2 := Lib.hid (fun w' (hb : Below w.heap.size w w') => zbu hTb IC QC s2 A2 n2 c2 l2 E2 u2 v2 e2 w' ⟨(h2.reads.below hb).more hb.size, h2.dgs, h2.fits, h2.small⟩ ⟨(k2.reads.below hb).more hb.size, k2.dgs, k2.fits, k2.small⟩ (hTb w w' hT hb))
 have S2 : SzQ 1048576 (fOf s2 l2 e2) := zcI h2 k2
 rw [hK] at S2
 obtain ⟨z, hz2⟩ : ∃ x, fOf s2 l2 e2 = x := ⟨_, rfl⟩
 rw [hz2] at HM2 S2 hq
 have HS2 := Lib.hid S2
 have hk1 := zgy x y
 have HZN : Hid (zaM y x = -zaM x y) := zdR x y
 have HAD : Hid (zaM (x + z) (y + z) = zaM x y) := zeO x y z
 have HMU : Hid (zaM (x * z) (y * z) = zaM x y * zef z) := zfc x y z
 have hg1 := zfV z.num
 obtain ⟨g, hg⟩ : ∃ g, zef z = g := ⟨_, rfl⟩
 have HSG := Lib.hid hg
 rw [show zcN z.num = g from hg] at hg1
 obtain ⟨k, hk⟩ : ∃ k, zaM x y = k := ⟨_, rfl⟩
 rw [hk] at hk1 HZN HAD HMU hp
 rw [hg] at HMU
 have HK := Lib.hid hk
 clear hk hg
 have kw1 : IntKind.i64.wrap (-(-k)) = k := by rw [Int.neg_neg]; exact IntWalk.i64_in _ (by omega)
 have kw2 : IntKind.i64.wrap (-k) = -k := IntWalk.i64_in _ (by omega)
 have kw4 : IntKind.i64.wrap k = k := IntWalk.i64_in _ (by omega)
 have kb1 : (k != k) = false := by simp
 have kg : -1 ≤ k * g ∧ k * g ≤ 1 := by
  rcases (show k = -1 ∨ k = 0 ∨ k = 1 by omega) with h9 | h9 | h9 <;> rcases (show g = -1 ∨ g = 0 ∨ g = 1 by omega) with h8 | h8 | h8 <;> rw [h9, h8] <;> decide
 have kw3 : IntKind.i64.wrap (k * g) = k * g := IntWalk.i64_in _ (by omega)
 have kb9 : (k * g == k * g) = true := by simp
 have kb2 : decide (k ≤ 0) = true := by simp; omega
 obtain ⟨m, hm⟩ : ∃ k, zaM y z = k := ⟨_, rfl⟩
 rw [hm] at hq
 have HE2 := Lib.hid hm
 clear hm
 have kb3 : decide (m ≤ 0) = false := by simp; omega
 have Hhp := Lib.hid hp
 have Hhq := Lib.hid hq
 clear IC QC hT h0 k0 hz0 S0 h1 k1 hz1 S1 h2 k2 hz2 S2 hp hq hK
 go_enter Tryd.func3, Tryd.ntmps3
 have hB := Below.refl w.heap.size w
 obtain ⟨bx1, bx2, bx3, bx4, bz⟩ := zbd w 26 26 26 #[.bool s0, .slice A0 n0 c0, .slice E0 u0 v0] #[.bool s1, .slice A1 n1 c1, .slice E1 u1 v1] #[.bool s2, .slice A2 n2 c2, .slice E2 u2 v2]
 have hB := zab hB bx1
 obtain ⟨g1, e1, i1⟩ := bx2.c3
 obtain ⟨g2, e2, i2⟩ := bx3.c3
 obtain ⟨g3, e3, i3⟩ := bx4.c3
 clear bx1 bx2 bx3 bx4 bz
 go_wp2_with fail
 generalize ((w.alloc (.cells #[.bool s0, .slice A0 n0 c0, .slice E0 u0 v0] 26)).alloc (.cells #[.bool s1, .slice A1 n1 c1, .slice E1 u1 v1] 26)).alloc (.cells #[.bool s2, .slice A2 n2 c2, .slice E2 u2 v2] 26) = W1 at *
 (with_reducible refine (HAW.out _ hB).mono ?_)
 rintro e wc2 ⟨rfl, hb⟩
 have hB := zab hB hb
 have g1 := zaa hb g1
 have e1 := zaa hb e1
 have i1 := zaa hb i1
 have g2 := zaa hb g2
 have e2 := zaa hb e2
 have i2 := zaa hb i2
 have g3 := zaa hb g3
 have e3 := zaa hb e3
 have i3 := zaa hb i3
 clear hb 
 go_wp2_with fail
 have HZ4 : Hid (SzQ (K) (x)) := HS0.out
 have C0 := Lib.hid (fun w' (h : Below wc2.heap.size wc2 w') => HM0.out _ (zab hB h))
 have HZ5 : Hid (SzQ (K) (y)) := HS1.out
 have C1 := Lib.hid (fun w' (h : Below wc2.heap.size wc2 w') => HM1.out _ (zab hB h))
 have HZ6 : Hid (SzQ (K) (z)) := HS2.out
 have C2 := Lib.hid (fun w' (h : Below wc2.heap.size wc2 w') => HM2.out _ (zab hB h))
 have GG := Lib.hid (fun w' (h : Below wc2.heap.size wc2 w') => (csc (zaa h g1) (csc (zaa h e1) (csc (zaa h i1) (csc (zaa h g2) (csc (zaa h e2) (csc (zaa h i2) (csc (zaa h g3) (csc (zaa h e3) (csc (zaa h i3) csn))))))))))
 refine rgB (fun hHeld => ?_)
 refine tl 0 GG.out ?_
 try simp only [sb]
 refine tl 2 GG.out ?_
 try simp only [sb]
 refine tl 4 GG.out ?_
 try simp only [sb]
 refine zaH (L := #[true, true, true, true, true, true, true, true, true, true, true, true])
  (J := fun a0 l a w' => ∃ (fl1 fl3 fl5 fl6 fl7 fl8 fl9 fl10 fl11 b4 : Bool) (B4 : Option Addr) (m4 d4 : Nat) (E4 : Option Addr) (u4 v4 : Nat) (b5 : Bool) (B5 : Option Addr) (m5 d5 : Nat) (E5 : Option Addr) (u5 v5 : Nat) (b6 : Bool) (B6 : Option Addr) (m6 d6 : Nat) (E6 : Option Addr) (u6 v6 ad6 ad7 ad8 : Nat), l = #[true, fl1, true, fl3, true, fl5, fl6, fl7, fl8, fl9, fl10, fl11] ∧ zbm [14, 16, 18, 7, 8, 9] a0 a ∧ Hid (Below wc2.heap.size wc2 w') ∧
    Hid (Gd fl1 (a.tmps.getD 14 undef = .agg #[.bool b4, .slice B4 m4 d4, .slice E4 u4 v4] ∧ zal w' (x) b4 B4 m4 d4 E4 u4 v4)) ∧
    Hid (Gd fl3 (a.tmps.getD 16 undef = .agg #[.bool b5, .slice B5 m5 d5, .slice E5 u5 v5] ∧ zal w' (y) b5 B5 m5 d5 E5 u5 v5)) ∧
    Hid (Gd fl5 (a.tmps.getD 18 undef = .agg #[.bool b6, .slice B6 m6 d6, .slice E6 u6 v6] ∧ zal w' (z) b6 B6 m6 d6 E6 u6 v6)) ∧
    Hid (Gd fl6 (a.tmps.getD 7 undef = .pointer (some ⟨ad6, 0, none⟩) ∧ wc2.heap.size ≤ ad6 ∧ Blk w' ad6 33 (bif fl9 then #[.bool b4, .slice B4 m4 d4, .slice E4 u4 v4] else #[.bool false, .slice none 0 0, .slice none 0 0]))) ∧
    Hid (Gd fl7 (a.tmps.getD 8 undef = .pointer (some ⟨ad7, 0, none⟩) ∧ wc2.heap.size ≤ ad7 ∧ Blk w' ad7 33 (bif fl10 then #[.bool b5, .slice B5 m5 d5, .slice E5 u5 v5] else #[.bool false, .slice none 0 0, .slice none 0 0]))) ∧
    Hid (Gd fl8 (a.tmps.getD 9 undef = .pointer (some ⟨ad8, 0, none⟩) ∧ wc2.heap.size ≤ ad8 ∧ Blk w' ad8 33 (bif fl11 then #[.bool b6, .slice B6 m6 d6, .slice E6 u6 v6] else #[.bool false, .slice none 0 0, .slice none 0 0]))) ∧
    Hid (Gd fl6 (Gd fl7 (ad6 ≠ ad7))) ∧
    Hid (Gd fl6 (Gd fl8 (ad6 ≠ ad8))) ∧
    Hid (Gd fl7 (Gd fl8 (ad7 ≠ ad8))) ∧
    Hid (Gd fl3 (fl1 = true)) ∧
    Hid (Gd fl5 (fl3 = true)) ∧
    Hid (Gd fl9 (fl1 = true)) ∧
    Hid (Gd fl9 (fl5 = true)) ∧
    Hid (Gd fl9 (fl6 = true)) ∧
    Hid (Gd fl10 (fl3 = true)) ∧
    Hid (Gd fl10 (fl7 = true)) ∧
    Hid (Gd fl10 (fl9 = true)) ∧
    Hid (Gd fl11 (fl5 = true)) ∧
    Hid (Gd fl11 (fl8 = true)) ∧
    Hid (Gd fl11 (fl10 = true)))
  (by rfl) ?_ ?_ ?_
 ·exact ⟨false, false, false, false, false, false, false, false, false, false, none, 0, 0, none, 0, 0, false, none, 0, 0, none, 0, 0, false, none, 0, 0, none, 0, 0, 0, 0, 0, by kernel_rfl, zbm.refl _ _, hHeld, Gd.no, Gd.no, Gd.no, Gd.no, Gd.no, Gd.no, Gd.no, Gd.no, Gd.no, Gd.no, Gd.no, Gd.no, Gd.no, Gd.no, Gd.no, Gd.no, Gd.no, Gd.no, Gd.no, Gd.no⟩
 ·intro OPS Ac0 Q0 hO hAs hA
  have RB13 : Ac0.tmps.getD 13 undef = .agg #[.bool s0, .slice A0 n0 c0, .slice E0 u0 v0] := (hA 13 undef).trans (by kernel_rfl)
  have RB15 : Ac0.tmps.getD 15 undef = .agg #[.bool s1, .slice A1 n1 c1, .slice E1 u1 v1] := (hA 15 undef).trans (by kernel_rfl)
  have RB17 : Ac0.tmps.getD 17 undef = .agg #[.bool s2, .slice A2 n2 c2, .slice E2 u2 v2] := (hA 17 undef).trans (by kernel_rfl)
  have hsz : Ac0.tmps.size = 67 := hAs.trans (by kernel_rfl)
  clear hAs hA
  refine ⟨?_, ?_⟩
  ·rintro l a w' ⟨fl1, fl3, fl5, fl6, fl7, fl8, fl9, fl10, fl11, b4, B4, m4, d4, E4, u4, v4, b5, B5, m5, d5, E5, u5, v5, b6, B6, m6, d6, E6, u6, v6, ad6, ad7, ad8, rfl, -⟩ hr
   obtain rfl : fl1 = true := als 1 hr hO
   obtain rfl : fl3 = true := als 3 hr hO
   obtain rfl : fl5 = true := als 5 hr hO
   obtain rfl : fl6 = true := als 6 hr hO
   obtain rfl : fl7 = true := als 7 hr hO
   obtain rfl : fl8 = true := als 8 hr hO
   obtain rfl : fl9 = true := als 9 hr hO
   obtain rfl : fl10 = true := als 10 hr hO
   obtain rfl : fl11 = true := als 11 hr hO
   rfl
  ·rintro l a w' i ⟨fl1, fl3, fl5, fl6, fl7, fl8, fl9, fl10, fl11, b4, B4, m4, d4, E4, u4, v4, b5, B5, m5, d5, E5, u5, v5, b6, B6, m6, d6, E6, u6, v6, ad6, ad7, ad8, rfl, HKp, hBi, qf1, qf3, qf5, qf6, qf7, qf8, qn6_7, qn6_8, qn7_8, qd3_1, qd5_3, qd9_1, qd9_5, qd9_6, qd10_3, qd10_7, qd10_9, qd11_5, qd11_8, qd11_10⟩ hne hi
   have hlt : i < 12 := by have := zbe hi; rw [hO] at this; exact this
   rcases (show i = 0 ∨ i = 1 ∨ i = 2 ∨ i = 3 ∨ i = 4 ∨ i = 5 ∨ i = 6 ∨ i = 7 ∨ i = 8 ∨ i = 9 ∨ i = 10 ∨ i = 11 by omega) with rfl | rfl | rfl | rfl | rfl | rfl | rfl | rfl | rfl | rfl | rfl | rfl
   ·cases (zaf hi : true = false)
   ·obtain rfl : fl1 = false := zaf hi
    obtain rfl : fl3 = false := Gd.off qd3_1.out
    obtain rfl : fl5 = false := Gd.off qd5_3.out
    obtain rfl : fl9 = false := Gd.off qd9_1.out
    obtain rfl : fl10 = false := Gd.off qd10_3.out
    obtain rfl : fl11 = false := Gd.off qd11_5.out
    have rd13 := HKp.get 13 (by decide) RB13
    refine wog hO (fun K' hK => ?_)
    go_simp
    refine (C0.out w' hBi.out).mono ?_
    rintro e w2 ⟨nb4, nB4, nm4, nd4, nE4, nu4, nv4, rfl, nhw4, hb⟩
    exact hK.out _ _ ⟨zab hBi.out hb, true, false, false, fl6, fl7, fl8, false, false, false, nb4, nB4, nm4, nd4, nE4, nu4, nv4, b5, B5, m5, d5, E5, u5, v5, b6, B6, m6, d6, E6, u6, v6, ad6, ad7, ad8, by rfl, HKp.put (by decide) _, zab hBi.out hb, Gd.yes ⟨zap (HKp.lt (by rw [hsz]; decide)) _, nhw4⟩, Gd.no, Gd.no, kq qf6.out fun h => ⟨h.1, zac hb h.2⟩, kq qf7.out fun h => ⟨h.1, zac hb h.2⟩, kq qf8.out fun h => ⟨h.1, zac hb h.2⟩, qn6_7, qn6_8, qn7_8, Gd.no, Gd.no, Gd.no, Gd.no, Gd.no, Gd.no, Gd.no, Gd.no, Gd.no, Gd.no, Gd.no⟩
   ·cases (zaf hi : true = false)
   ·obtain rfl : fl3 = false := zaf hi
    obtain rfl : fl1 = true := rdp 1 1 hi hO
    obtain rfl : fl5 = false := Gd.off qd5_3.out
    obtain rfl : fl9 = false := Gd.off qd9_5.out
    obtain rfl : fl10 = false := Gd.off qd10_3.out
    obtain rfl : fl11 = false := Gd.off qd11_5.out
    have rd15 := HKp.get 15 (by decide) RB15
    refine wog hO (fun K' hK => ?_)
    go_simp
    refine (C1.out w' hBi.out).mono ?_
    rintro e w2 ⟨nb5, nB5, nm5, nd5, nE5, nu5, nv5, rfl, nhw5, hb⟩
    exact hK.out _ _ ⟨zab hBi.out hb, true, true, false, fl6, fl7, fl8, false, false, false, b4, B4, m4, d4, E4, u4, v4, nb5, nB5, nm5, nd5, nE5, nu5, nv5, b6, B6, m6, d6, E6, u6, v6, ad6, ad7, ad8, by rfl, HKp.put (by decide) _, zab hBi.out hb, kq qf1.out fun h => (h).below hb, Gd.yes ⟨zap (HKp.lt (by rw [hsz]; decide)) _, nhw5⟩, Gd.no, kq qf6.out fun h => ⟨h.1, zac hb h.2⟩, kq qf7.out fun h => ⟨h.1, zac hb h.2⟩, kq qf8.out fun h => ⟨h.1, zac hb h.2⟩, qn6_7, qn6_8, qn7_8, fun _ => rfl, Gd.no, Gd.no, Gd.no, Gd.no, Gd.no, Gd.no, Gd.no, Gd.no, Gd.no, Gd.no⟩
   ·cases (zaf hi : true = false)
   ·obtain rfl : fl5 = false := zaf hi
    obtain rfl : fl3 = true := rdp 3 1 hi hO
    obtain rfl : fl1 = true := qd3_1.out.get
    obtain rfl : fl9 = false := Gd.off qd9_5.out
    obtain rfl : fl10 = false := Gd.off qd10_9.out
    obtain rfl : fl11 = false := Gd.off qd11_5.out
    have rd17 := HKp.get 17 (by decide) RB17
    refine wog hO (fun K' hK => ?_)
    go_simp
    refine (C2.out w' hBi.out).mono ?_
    rintro e w2 ⟨nb6, nB6, nm6, nd6, nE6, nu6, nv6, rfl, nhw6, hb⟩
    exact hK.out _ _ ⟨zab hBi.out hb, true, true, true, fl6, fl7, fl8, false, false, false, b4, B4, m4, d4, E4, u4, v4, b5, B5, m5, d5, E5, u5, v5, nb6, nB6, nm6, nd6, nE6, nu6, nv6, ad6, ad7, ad8, by rfl, HKp.put (by decide) _, zab hBi.out hb, kq qf1.out fun h => (h).below hb, kq qf3.out fun h => (h).below hb, Gd.yes ⟨zap (HKp.lt (by rw [hsz]; decide)) _, nhw6⟩, kq qf6.out fun h => ⟨h.1, zac hb h.2⟩, kq qf7.out fun h => ⟨h.1, zac hb h.2⟩, kq qf8.out fun h => ⟨h.1, zac hb h.2⟩, qn6_7, qn6_8, qn7_8, fun _ => rfl, fun _ => rfl, Gd.no, Gd.no, Gd.no, Gd.no, Gd.no, Gd.no, Gd.no, Gd.no, Gd.no⟩
   ·obtain rfl : fl6 = false := zaf hi
    obtain rfl : fl9 = false := Gd.off qd9_6.out
    obtain rfl : fl10 = false := Gd.off qd10_9.out
    obtain rfl : fl11 = false := Gd.off qd11_10.out
    refine wog hO (fun K' hK => ?_)
    go_simp
    have hb := zaz w' (.cells #[.bool false, .slice none 0 0, .slice none 0 0] 33)
    exact hK.out _ _ ⟨zab hBi.out hb, fl1, fl3, fl5, true, fl7, fl8, false, false, false, b4, B4, m4, d4, E4, u4, v4, b5, B5, m5, d5, E5, u5, v5, b6, B6, m6, d6, E6, u6, v6, w'.heap.size, ad7, ad8, by rfl, HKp.put (by decide) _, zab hBi.out hb, kq qf1.out fun h => (h).below hb, kq qf3.out fun h => (h).below hb, kq qf5.out fun h => (h).below hb, Gd.yes ⟨zap (HKp.lt (by rw [hsz]; decide)) _, hBi.out.size, Blk.new w' _ _⟩, kq qf7.out fun h => ⟨h.1, zac hb h.2⟩, kq qf8.out fun h => ⟨h.1, zac hb h.2⟩, Gd.yes (qf7.out.mono fun h => by have := Blk.lt h.2.2; omega), Gd.yes (qf8.out.mono fun h => by have := Blk.lt h.2.2; omega), qn7_8, qd3_1, qd5_3, Gd.no, Gd.no, Gd.no, Gd.no, Gd.no, Gd.no, Gd.no, Gd.no, Gd.no⟩
   ·obtain rfl : fl7 = false := zaf hi
    obtain rfl : fl10 = false := Gd.off qd10_7.out
    obtain rfl : fl11 = false := Gd.off qd11_10.out
    refine wog hO (fun K' hK => ?_)
    go_simp
    have hb := zaz w' (.cells #[.bool false, .slice none 0 0, .slice none 0 0] 33)
    exact hK.out _ _ ⟨zab hBi.out hb, fl1, fl3, fl5, fl6, true, fl8, fl9, false, false, b4, B4, m4, d4, E4, u4, v4, b5, B5, m5, d5, E5, u5, v5, b6, B6, m6, d6, E6, u6, v6, ad6, w'.heap.size, ad8, by rfl, HKp.put (by decide) _, zab hBi.out hb, kq qf1.out fun h => (h).below hb, kq qf3.out fun h => (h).below hb, kq qf5.out fun h => (h).below hb, kq qf6.out fun h => ⟨h.1, zac hb h.2⟩, Gd.yes ⟨zap (HKp.lt (by rw [hsz]; decide)) _, hBi.out.size, Blk.new w' _ _⟩, kq qf8.out fun h => ⟨h.1, zac hb h.2⟩, qf6.out.mono fun h => Gd.yes (by have := Blk.lt h.2.2; omega), qn6_8, Gd.yes (qf8.out.mono fun h => by have := Blk.lt h.2.2; omega), qd3_1, qd5_3, qd9_1, qd9_5, qd9_6, Gd.no, Gd.no, Gd.no, Gd.no, Gd.no, Gd.no⟩
   ·obtain rfl : fl8 = false := zaf hi
    obtain rfl : fl11 = false := Gd.off qd11_8.out
    refine wog hO (fun K' hK => ?_)
    go_simp
    have hb := zaz w' (.cells #[.bool false, .slice none 0 0, .slice none 0 0] 33)
    exact hK.out _ _ ⟨zab hBi.out hb, fl1, fl3, fl5, fl6, fl7, true, fl9, fl10, false, b4, B4, m4, d4, E4, u4, v4, b5, B5, m5, d5, E5, u5, v5, b6, B6, m6, d6, E6, u6, v6, ad6, ad7, w'.heap.size, by rfl, HKp.put (by decide) _, zab hBi.out hb, kq qf1.out fun h => (h).below hb, kq qf3.out fun h => (h).below hb, kq qf5.out fun h => (h).below hb, kq qf6.out fun h => ⟨h.1, zac hb h.2⟩, kq qf7.out fun h => ⟨h.1, zac hb h.2⟩, Gd.yes ⟨zap (HKp.lt (by rw [hsz]; decide)) _, hBi.out.size, Blk.new w' _ _⟩, qn6_7, qf6.out.mono fun h => Gd.yes (by have := Blk.lt h.2.2; omega), qf7.out.mono fun h => Gd.yes (by have := Blk.lt h.2.2; omega), qd3_1, qd5_3, qd9_1, qd9_5, qd9_6, qd10_3, qd10_7, qd10_9, Gd.no, Gd.no, Gd.no⟩
   ·obtain rfl : fl9 = false := zaf hi
    obtain rfl : fl1 = true := rdp 1 1 hi hO
    obtain rfl : fl5 = true := rdp 5 2 hi hO
    obtain rfl : fl6 = true := rdp 6 0 hi hO
    obtain rfl : fl7 = true := rdp 7 10 hi hO
    obtain rfl : fl8 = true := rdp 8 11 hi hO
    obtain rfl : fl3 = true := qd5_3.out.get
    obtain rfl : fl10 = false := Gd.off qd10_9.out
    obtain rfl : fl11 = false := Gd.off qd11_10.out
    have rd7 := qf6.out.get.1
    have rd14 := qf1.out.get.1
    obtain ⟨_, hg, hk⟩ := qf6.out.get
    have hk : Blk w' ad6 33 #[.bool false, .slice none 0 0, .slice none 0 0] := hk
    obtain ⟨sc0, sf0, sc1, sf1, sc2, sf2⟩ := st3 hk (.bool b4) (.slice B4 m4 d4)
    have hj2 := sn3 hk (.bool b4) (.slice B4 m4 d4) (.slice E4 u4 v4)
    have hBn := bl3 (.bool b4) (.slice B4 m4 d4) (.slice E4 u4 v4) hg hBi.out
    refine wog hO (fun K' hK => ?_)
    go_simp
    exact hK.out _ _ ⟨hBn, true, true, true, true, true, true, true, false, false, b4, B4, m4, d4, E4, u4, v4, b5, B5, m5, d5, E5, u5, v5, b6, B6, m6, d6, E6, u6, v6, ad6, ad7, ad8, by rfl, HKp, hBn, qf1.out.mono fun h => ⟨h.1, zaA (h.2) hk zbx (zbp _ _ _ _ _)⟩, qf3.out.mono fun h => ⟨h.1, zaA (h.2) hk zbx (zbp _ _ _ _ _)⟩, qf5.out.mono fun h => ⟨h.1, zaA (h.2) hk zbx (zbp _ _ _ _ _)⟩, qf6.out.mono fun h => ⟨h.1, h.2.1, hj2⟩, fun hf9 => (fun h => ⟨h.1, h.2.1, Blk.far (p := ⟨ad6, 2, none⟩) (Blk.far (p := ⟨ad6, 1, none⟩) (Blk.far (p := ⟨ad6, 0, none⟩) (h.2.2) (Ne.symm (qn6_7.out rfl hf9)) (.bool b4)) (Ne.symm (qn6_7.out rfl hf9)) (.slice B4 m4 d4)) (Ne.symm (qn6_7.out rfl hf9)) (.slice E4 u4 v4)⟩) (qf7.out hf9), fun hf9 => (fun h => ⟨h.1, h.2.1, Blk.far (p := ⟨ad6, 2, none⟩) (Blk.far (p := ⟨ad6, 1, none⟩) (Blk.far (p := ⟨ad6, 0, none⟩) (h.2.2) (Ne.symm (qn6_8.out rfl hf9)) (.bool b4)) (Ne.symm (qn6_8.out rfl hf9)) (.slice B4 m4 d4)) (Ne.symm (qn6_8.out rfl hf9)) (.slice E4 u4 v4)⟩) (qf8.out hf9), qn6_7, qn6_8, qn7_8, fun _ => rfl, fun _ => rfl, fun _ => rfl, fun _ => rfl, fun _ => rfl, Gd.no, Gd.no, Gd.no, Gd.no, Gd.no, Gd.no⟩
   ·obtain rfl : fl10 = false := zaf hi
    obtain rfl : fl1 = true := rdp 1 4 hi hO
    obtain rfl : fl3 = true := rdp 3 1 hi hO
    obtain rfl : fl6 = true := rdp 6 9 hi hO
    obtain rfl : fl7 = true := rdp 7 0 hi hO
    obtain rfl : fl8 = true := rdp 8 11 hi hO
    obtain rfl : fl9 = true := rdp 9 2 hi hO
    obtain rfl : fl5 = true := qd9_5.out.get
    obtain rfl : fl11 = false := Gd.off qd11_10.out
    have rd8 := qf7.out.get.1
    have rd16 := qf3.out.get.1
    obtain ⟨_, hg, hk⟩ := qf7.out.get
    have hk : Blk w' ad7 33 #[.bool false, .slice none 0 0, .slice none 0 0] := hk
    obtain ⟨sc0, sf0, sc1, sf1, sc2, sf2⟩ := st3 hk (.bool b5) (.slice B5 m5 d5)
    have hj2 := sn3 hk (.bool b5) (.slice B5 m5 d5) (.slice E5 u5 v5)
    have hBn := bl3 (.bool b5) (.slice B5 m5 d5) (.slice E5 u5 v5) hg hBi.out
    refine wog hO (fun K' hK => ?_)
    go_simp
    exact hK.out _ _ ⟨hBn, true, true, true, true, true, true, true, true, false, b4, B4, m4, d4, E4, u4, v4, b5, B5, m5, d5, E5, u5, v5, b6, B6, m6, d6, E6, u6, v6, ad6, ad7, ad8, by rfl, HKp, hBn, qf1.out.mono fun h => ⟨h.1, zaA (h.2) hk zbx (zbp _ _ _ _ _)⟩, qf3.out.mono fun h => ⟨h.1, zaA (h.2) hk zbx (zbp _ _ _ _ _)⟩, qf5.out.mono fun h => ⟨h.1, zaA (h.2) hk zbx (zbp _ _ _ _ _)⟩, fun hf9 => (fun h => ⟨h.1, h.2.1, Blk.far (p := ⟨ad7, 2, none⟩) (Blk.far (p := ⟨ad7, 1, none⟩) (Blk.far (p := ⟨ad7, 0, none⟩) (h.2.2) (qn6_7.out hf9 rfl) (.bool b5)) (qn6_7.out hf9 rfl) (.slice B5 m5 d5)) (qn6_7.out hf9 rfl) (.slice E5 u5 v5)⟩) (qf6.out hf9), qf7.out.mono fun h => ⟨h.1, h.2.1, hj2⟩, fun hf9 => (fun h => ⟨h.1, h.2.1, Blk.far (p := ⟨ad7, 2, none⟩) (Blk.far (p := ⟨ad7, 1, none⟩) (Blk.far (p := ⟨ad7, 0, none⟩) (h.2.2) (Ne.symm (qn7_8.out rfl hf9)) (.bool b5)) (Ne.symm (qn7_8.out rfl hf9)) (.slice B5 m5 d5)) (Ne.symm (qn7_8.out rfl hf9)) (.slice E5 u5 v5)⟩) (qf8.out hf9), qn6_7, qn6_8, qn7_8, fun _ => rfl, fun _ => rfl, fun _ => rfl, fun _ => rfl, fun _ => rfl, fun _ => rfl, fun _ => rfl, fun _ => rfl, Gd.no, Gd.no, Gd.no⟩
   ·obtain rfl : fl11 = false := zaf hi
    obtain rfl : fl1 = true := rdp 1 4 hi hO
    obtain rfl : fl3 = true := rdp 3 6 hi hO
    obtain rfl : fl5 = true := rdp 5 1 hi hO
    obtain rfl : fl6 = true := rdp 6 9 hi hO
    obtain rfl : fl7 = true := rdp 7 10 hi hO
    obtain rfl : fl8 = true := rdp 8 0 hi hO
    obtain rfl : fl9 = true := rdp 9 12 hi hO
    obtain rfl : fl10 = true := rdp 10 2 hi hO
    have rd9 := qf8.out.get.1
    have rd18 := qf5.out.get.1
    obtain ⟨_, hg, hk⟩ := qf8.out.get
    have hk : Blk w' ad8 33 #[.bool false, .slice none 0 0, .slice none 0 0] := hk
    obtain ⟨sc0, sf0, sc1, sf1, sc2, sf2⟩ := st3 hk (.bool b6) (.slice B6 m6 d6)
    have hj2 := sn3 hk (.bool b6) (.slice B6 m6 d6) (.slice E6 u6 v6)
    have hBn := bl3 (.bool b6) (.slice B6 m6 d6) (.slice E6 u6 v6) hg hBi.out
    refine wog hO (fun K' hK => ?_)
    go_simp
    exact hK.out _ _ ⟨hBn, true, true, true, true, true, true, true, true, true, b4, B4, m4, d4, E4, u4, v4, b5, B5, m5, d5, E5, u5, v5, b6, B6, m6, d6, E6, u6, v6, ad6, ad7, ad8, by rfl, HKp, hBn, qf1.out.mono fun h => ⟨h.1, zaA (h.2) hk zbx (zbp _ _ _ _ _)⟩, qf3.out.mono fun h => ⟨h.1, zaA (h.2) hk zbx (zbp _ _ _ _ _)⟩, qf5.out.mono fun h => ⟨h.1, zaA (h.2) hk zbx (zbp _ _ _ _ _)⟩, fun hf9 => (fun h => ⟨h.1, h.2.1, Blk.far (p := ⟨ad8, 2, none⟩) (Blk.far (p := ⟨ad8, 1, none⟩) (Blk.far (p := ⟨ad8, 0, none⟩) (h.2.2) (qn6_8.out hf9 rfl) (.bool b6)) (qn6_8.out hf9 rfl) (.slice B6 m6 d6)) (qn6_8.out hf9 rfl) (.slice E6 u6 v6)⟩) (qf6.out hf9), fun hf9 => (fun h => ⟨h.1, h.2.1, Blk.far (p := ⟨ad8, 2, none⟩) (Blk.far (p := ⟨ad8, 1, none⟩) (Blk.far (p := ⟨ad8, 0, none⟩) (h.2.2) (qn7_8.out hf9 rfl) (.bool b6)) (qn7_8.out hf9 rfl) (.slice B6 m6 d6)) (qn7_8.out hf9 rfl) (.slice E6 u6 v6)⟩) (qf7.out hf9), qf8.out.mono fun h => ⟨h.1, h.2.1, hj2⟩, qn6_7, qn6_8, qn7_8, fun _ => rfl, fun _ => rfl, fun _ => rfl, fun _ => rfl, fun _ => rfl, fun _ => rfl, fun _ => rfl, fun _ => rfl, fun _ => rfl, fun _ => rfl, fun _ => rfl⟩
 rintro a wm3 ⟨fl1, fl3, fl5, fl6, fl7, fl8, fl9, fl10, fl11, b4, B4, m4, d4, E4, u4, v4, b5, B5, m5, d5, E5, u5, v5, b6, B6, m6, d6, E6, u6, v6, ad6, ad7, ad8, hl, HKp, hBi, qf1, qf3, qf5, qf6, qf7, qf8, qn6_7, qn6_8, qn7_8, qd3_1, qd5_3, qd9_1, qd9_5, qd9_6, qd10_3, qd10_7, qd10_9, qd11_5, qd11_8, qd11_10⟩
 have xx1 : fl1 = true := gdl 1 hl
 subst xx1
 have xx3 : fl3 = true := gdl 3 hl
 subst xx3
 have xx5 : fl5 = true := gdl 5 hl
 subst xx5
 have xx6 : fl6 = true := gdl 6 hl
 subst xx6
 have xx7 : fl7 = true := gdl 7 hl
 subst xx7
 have xx8 : fl8 = true := gdl 8 hl
 subst xx8
 have xx9 : fl9 = true := gdl 9 hl
 subst xx9
 have xx10 : fl10 = true := gdl 10 hl
 subst xx10
 have xx11 : fl11 = true := gdl 11 hl
 subst xx11
 obtain ⟨rv1, hw4⟩ := qf1.out.get
 obtain ⟨rv3, hw5⟩ := qf3.out.get
 obtain ⟨rv5, hw6⟩ := qf5.out.get
 obtain ⟨rv6, hg6, hk6⟩ := qf6.out.get
 obtain ⟨rv7, hg7, hk7⟩ := qf7.out.get
 obtain ⟨rv8, hg8, hk8⟩ := qf8.out.get
 obtain rfl := HKp.eq [(14, .agg #[.bool b4, .slice B4 m4 d4, .slice E4 u4 v4]), (16, .agg #[.bool b5, .slice B5 m5 d5, .slice E5 u5 v5]), (18, .agg #[.bool b6, .slice B6 m6 d6, .slice E6 u6 v6]), (7, .pointer (some ⟨ad6, 0, none⟩)), (8, .pointer (some ⟨ad7, 0, none⟩)), (9, .pointer (some ⟨ad8, 0, none⟩))] rfl (by
  intro p hp
  simp only [List.mem_cons, List.not_mem_nil, or_false] at hp
  rcases hp with rfl | rfl | rfl | rfl | rfl | rfl
  ·exact rv1
  ·exact rv3
  ·exact rv5
  ·exact rv6
  ·exact rv7
  ·exact rv8)
 have hBv := hBi.out
 clear hl hBi HKp qf1 qf3 qf5 qf6 qf7 qf8 qn6_7 qn6_8 qn7_8 qd3_1 qd5_3 qd9_1 qd9_5 qd9_6 qd10_3 qd10_7 qd10_9 qd11_5 qd11_8 qd11_10 rv1 rv3 rv5 rv6 rv7 rv8
 have hk6 : Blk wm3 ad6 33 #[.bool b4, .slice B4 m4 d4, .slice E4 u4 v4] := hk6
 have hk7 : Blk wm3 ad7 33 #[.bool b5, .slice B5 m5 d5, .slice E5 u5 v5] := hk7
 have hk8 : Blk wm3 ad8 33 #[.bool b6, .slice B6 m6 d6, .slice E6 u6 v6] := hk8
 rw [show due #[true, true, true, true, true, true, true, true, true, true, true, true] = 0 from rfl]
 simp only [zbj, List.foldl, Act.put, List.setIfInBounds_toArray, List.set_cons_zero, List.set_cons_succ]
 refine wpAnyH_done (by kernel_rfl) ?_ _
 refine NoPanic.normal ?_
 have hB := zab hB hBv
 have g1 := zaa hBv g1
 have e1 := zaa hBv e1
 have i1 := zaa hBv i1
 have g2 := zaa hBv g2
 have e2 := zaa hBv e2
 have i2 := zaa hBv i2
 have g3 := zaa hBv g3
 have e3 := zaa hBv e3
 have i3 := zaa hBv i3
 obtain ⟨ad6_7, hga⟩ : ∃ x, x = ad6 := ⟨_, rfl⟩
 subst hga
 obtain ⟨g7, e7, i7⟩ := hk6.c3
 obtain ⟨ad7_8, hga⟩ : ∃ x, x = ad7 := ⟨_, rfl⟩
 subst hga
 obtain ⟨g8, e8, i8⟩ := hk7.c3
 obtain ⟨ad8_9, hga⟩ : ∃ x, x = ad8 := ⟨_, rfl⟩
 subst hga
 obtain ⟨g9, e9, i9⟩ := hk8.c3
 have HN4 := Lib.hid hw4
 have HN5 := Lib.hid hw5
 have HN6 := Lib.hid hw6
 clear hBv hk6 hg6 hk7 hg7 hk8 hg8 hw4 hw5 hw6 GG
 clear C0 C1 C2
 go_wp2_with fail
 (with_reducible refine (zaF (v := k) (HK.out) (HQC.out.cmp (x) (y) b4 b5 B4 B5 m4 m5 d4 d5 E4 E5 u4 u5 v4 v5 _ (HT.out _ hB) HN4.out HN5.out (SzQ.fit HZ4.out HN4.out (by omega)) (SzQ.fit HZ5.out HN5.out (by omega)))).mono ?_)
 rintro e wc4 ⟨rfl, hb⟩
 have hB := zab hB hb
 have g1 := zaa hb g1
 have e1 := zaa hb e1
 have i1 := zaa hb i1
 have g2 := zaa hb g2
 have e2 := zaa hb e2
 have i2 := zaa hb i2
 have g3 := zaa hb g3
 have e3 := zaa hb e3
 have i3 := zaa hb i3
 have g7 := zaa hb g7
 have e7 := zaa hb e7
 have i7 := zaa hb i7
 have g8 := zaa hb g8
 have e8 := zaa hb e8
 have i8 := zaa hb i8
 have g9 := zaa hb g9
 have e9 := zaa hb e9
 have i9 := zaa hb i9
 have HN4 := Lib.hid (HN4.out.below hb)
 have HN5 := Lib.hid (HN5.out.below hb)
 have HN6 := Lib.hid (HN6.out.below hb)
 clear hb 
 go_wp2_with fail
 have C0 := Lib.hid (fun w' (h : Below wc4.heap.size wc4 w') => zaF (v := (-k)) (HZN.out) (HQC.out.cmp (y) (x) b5 b4 B5 B4 m5 m4 d5 d4 E5 E4 u5 u4 v5 v4 w' (HT.out _ (zab hB h)) (HN5.out.below h) (HN4.out.below h) (SzQ.fit HZ5.out HN5.out (by omega)) (SzQ.fit HZ4.out HN4.out (by omega))))
 have C1 := Lib.hid (fun w' (h : Below wc4.heap.size wc4 w') => zaF (v := m) (HE2.out) (HQC.out.cmp (y) (z) b5 b6 B5 B6 m5 m6 d5 d6 E5 E6 u5 u6 v5 v6 w' (HT.out _ (zab hB h)) (HN5.out.below h) (HN6.out.below h) (SzQ.fit HZ5.out HN5.out (by omega)) (SzQ.fit HZ6.out HN6.out (by omega))))
 have HZ10 : Hid (SzQ (K + K + 1) (x + z)) := SzQ.add HZ4.out HZ6.out
 have C2 := Lib.hid (fun w' (h : Below wc4.heap.size wc4 w') => HQC.out.add (x) (z) b4 b6 B4 B6 m4 m6 d4 d6 E4 E6 u4 u6 v4 v6 w' (HT.out _ (zab hB h)) (HN4.out.below h) (HN6.out.below h) (SzQ.fit HZ4.out HN4.out (by omega)) (SzQ.fit HZ6.out HN6.out (by omega)))
 have HZ11 : Hid (SzQ (K + K + 1) (y + z)) := SzQ.add HZ5.out HZ6.out
 have C3 := Lib.hid (fun w' (h : Below wc4.heap.size wc4 w') => HQC.out.add (y) (z) b5 b6 B5 B6 m5 m6 d5 d6 E5 E6 u5 u6 v5 v6 w' (HT.out _ (zab hB h)) (HN5.out.below h) (HN6.out.below h) (SzQ.fit HZ5.out HN5.out (by omega)) (SzQ.fit HZ6.out HN6.out (by omega)))
 have C4 := Lib.hid (fun w' (h : Below wc4.heap.size wc4 w') b10 B10 m10 d10 E10 u10 v10 (hw10 : zal w' (x + z) b10 B10 m10 d10 E10 u10 v10) b11 B11 m11 d11 E11 u11 v11 (hw11 : zal w' (y + z) b11 B11 m11 d11 E11 u11 v11) => zaF (v := k) (HAD.out) (HQC.out.cmp (x + z) (y + z) b10 b11 B10 B11 m10 m11 d10 d11 E10 E11 u10 u11 v10 v11 w' (HT.out _ (zab hB h)) hw10 hw11 (SzQ.fit HZ10.out hw10 (by omega)) (SzQ.fit HZ11.out hw11 (by omega))))
 have hBw := (Below.refl wc4.heap.size wc4).drew
 refine rg (csc g8 (csc e8 (csc i8 (csc g7 (csc e7 (csc i7 (csc g9 (csc e9 (csc i9 csn))))))))) (fun hHeld => ?_)
 refine tk 0 ?_
 try simp only [sb]
 refine tk 1 ?_
 try simp only [sb]
 refine tk 2 ?_
 try simp only [sb]
 refine rc 3 (fun K hK => ?_)
 go_simp
 go_at_call 7; (with_reducible refine (C0.out _ hBw).mono ?_); rintro e wa5 ⟨rfl, hb⟩; have hBw := zab hBw hb; refine hK.out _ _ (Cs.below hHeld hb) (fun hHeld => ?_); clear hK K hb
 try simp only [sb]
 refine tk 4 ?_
 try simp only [sb]
 refine tk 5 ?_
 try simp only [sb]
 refine tk 6 ?_
 try simp only [sb]
 refine tk 7 ?_
 try simp only [sb]
 refine tk 8 ?_
 try simp only [sb]
 refine tk 9 ?_
 try simp only [sb]
 refine tk 10 ?_
 try simp only [sb]
 refine tk 11 ?_
 try simp only [sb]
 refine rc 12 (fun K hK => ?_)
 go_simp
 go_at_call 7; (with_reducible refine (C1.out _ hBw).mono ?_); rintro e wa6 ⟨rfl, hb⟩; have hBw := zab hBw hb; refine hK.out _ _ (Cs.below hHeld hb) (fun hHeld => ?_); clear hK K hb
 try simp only [sb]
 refine tk 13 ?_
 try simp only [sb]
 refine tk 14 ?_
 try simp only [sb]
 refine tk 15 ?_
 try simp only [sb]
 refine tu 16 ?_
 try simp only [sb]
 refine tu 17 ?_
 try simp only [sb]
 refine tu 18 ?_
 try simp only [sb]
 refine tu 19 ?_
 try simp only [sb]
 refine tk 20 ?_
 try simp only [sb]
 refine tk 21 ?_
 try simp only [sb]
 refine tk 22 ?_
 try simp only [sb]
 refine tk 23 ?_
 try simp only [sb]
 refine tk 24 ?_
 try simp only [sb]
 refine tk 26 ?_
 try simp only [sb]
 refine tk 27 ?_
 try simp only [sb]
 refine tk 30 ?_
 try simp only [sb]
 refine rc 25 (fun K hK => ?_)
 go_simp
 go_at_call 8; (with_reducible refine (C2.out _ hBw).mono ?_); rintro e wa7 ⟨b10, B10, m10, d10, E10, u10, v10, rfl, hw10, hb⟩; have hBw := zab hBw hb; refine hK.out _ _ (Cs.below hHeld hb) (fun hHeld => ?_); clear hK K hb
 try simp only [sb]
 refine rc 28 (fun K hK => ?_)
 go_simp
 go_at_call 8; (with_reducible refine (C3.out _ hBw).mono ?_); rintro e wa8 ⟨b11, B11, m11, d11, E11, u11, v11, rfl, hw11, hb⟩; have hBw := zab hBw hb; have hw10 := hw10.below hb; refine hK.out _ _ (Cs.below hHeld hb) (fun hHeld => ?_); clear hK K hb
 try simp only [sb]
 refine rc 29 (fun K hK => ?_)
 go_simp
 go_at_call 7; (with_reducible refine (C4.out _ hBw _ _ _ _ _ _ _ hw10 _ _ _ _ _ _ _ hw11).mono ?_); rintro e wa9 ⟨rfl, hb⟩; have hBw := zab hBw hb; have hw10 := hw10.below hb; have hw11 := hw11.below hb; refine hK.out _ _ (Cs.below hHeld hb) (fun hHeld => ?_); clear hK K hb
 try simp only [sb]
 refine tk 31 ?_
 try simp only [sb]
 refine tk 32 ?_
 try simp only [sb]
 refine rdn ?_
 have hB := zab hB hBw
 have g1 := zaa hBw g1
 have e1 := zaa hBw e1
 have i1 := zaa hBw i1
 have g2 := zaa hBw g2
 have e2 := zaa hBw e2
 have i2 := zaa hBw i2
 have g3 := zaa hBw g3
 have e3 := zaa hBw e3
 have i3 := zaa hBw i3
 have g7 := zaa hBw g7
 have e7 := zaa hBw e7
 have i7 := zaa hBw i7
 have g8 := zaa hBw g8
 have e8 := zaa hBw e8
 have i8 := zaa hBw i8
 have g9 := zaa hBw g9
 have e9 := zaa hBw e9
 have i9 := zaa hBw i9
 have HN4 := Lib.hid (HN4.out.below hBw)
 have HN5 := Lib.hid (HN5.out.below hBw)
 have HN6 := Lib.hid (HN6.out.below hBw)
 have HN10 := Lib.hid hw10
 have HN11 := Lib.hid hw11
 clear hBw hHeld hw10 hw11 C0 C1 C2 C3 C4
 go_wp2_with fail
 have HZ12 : Hid (SzQ (K + K) (x * z)) := SzQ.mul HZ4.out HZ6.out
 have C0 := Lib.hid (fun w' (h : Below wa9.heap.size wa9 w') => HQC.out.mul (x) (z) b4 b6 B4 B6 m4 m6 d4 d6 E4 E6 u4 u6 v4 v6 w' (HT.out _ (zab hB h)) (HN4.out.below h) (HN6.out.below h) (SzQ.fit HZ4.out HN4.out (by omega)) (SzQ.fit HZ6.out HN6.out (by omega)))
 have HZ13 : Hid (SzQ (K + K) (y * z)) := SzQ.mul HZ5.out HZ6.out
 have C1 := Lib.hid (fun w' (h : Below wa9.heap.size wa9 w') => HQC.out.mul (y) (z) b5 b6 B5 B6 m5 m6 d5 d6 E5 E6 u5 u6 v5 v6 w' (HT.out _ (zab hB h)) (HN5.out.below h) (HN6.out.below h) (SzQ.fit HZ5.out HN5.out (by omega)) (SzQ.fit HZ6.out HN6.out (by omega)))
 have C2 := Lib.hid (fun w' (h : Below wa9.heap.size wa9 w') b12 B12 m12 d12 E12 u12 v12 (hw12 : zal w' (x * z) b12 B12 m12 d12 E12 u12 v12) b13 B13 m13 d13 E13 u13 v13 (hw13 : zal w' (y * z) b13 B13 m13 d13 E13 u13 v13) => zaF (v := ((k * g))) (HMU.out) (HQC.out.cmp (x * z) (y * z) b12 b13 B12 B13 m12 m13 d12 d13 E12 E13 u12 u13 v12 v13 w' (HT.out _ (zab hB h)) hw12 hw13 (SzQ.fit HZ12.out hw12 (by omega)) (SzQ.fit HZ13.out hw13 (by omega))))
 have C3 := Lib.hid (fun w' (h : Below wa9.heap.size wa9 w') => zaF (v := g) (HSG.out) (HQC.out.sign (z) b6 B6 m6 d6 E6 u6 v6 w' (HT.out _ (zab hB h)) (HN6.out.below h) (SzQ.fit HZ6.out HN6.out (by omega))))
 have hBw := (Below.refl wa9.heap.size wa9).drew
 refine rg (csc g7 (csc e7 (csc i7 (csc g9 (csc e9 (csc i9 (csc g8 (csc e8 (csc i8 csn))))))))) (fun hHeld => ?_)
 refine tk 0 ?_
 try simp only [sb]
 refine tk 1 ?_
 try simp only [sb]
 refine tk 3 ?_
 try simp only [sb]
 refine tk 4 ?_
 try simp only [sb]
 refine tk 7 ?_
 try simp only [sb]
 refine tk 8 ?_
 try simp only [sb]
 refine rc 2 (fun K hK => ?_)
 go_simp
 go_at_call 9; (with_reducible refine (C0.out _ hBw).mono ?_); rintro e wa10 ⟨b12, B12, m12, d12, E12, u12, v12, rfl, hw12, hb⟩; have hBw := zab hBw hb; refine hK.out _ _ (Cs.below hHeld hb) (fun hHeld => ?_); clear hK K hb
 try simp only [sb]
 refine rc 5 (fun K hK => ?_)
 go_simp
 go_at_call 9; (with_reducible refine (C1.out _ hBw).mono ?_); rintro e wa11 ⟨b13, B13, m13, d13, E13, u13, v13, rfl, hw13, hb⟩; have hBw := zab hBw hb; have hw12 := hw12.below hb; refine hK.out _ _ (Cs.below hHeld hb) (fun hHeld => ?_); clear hK K hb
 try simp only [sb]
 refine rc 6 (fun K hK => ?_)
 go_simp
 go_at_call 7; (with_reducible refine (C2.out _ hBw _ _ _ _ _ _ _ hw12 _ _ _ _ _ _ _ hw13).mono ?_); rintro e wa12 ⟨rfl, hb⟩; have hBw := zab hBw hb; have hw12 := hw12.below hb; have hw13 := hw13.below hb; refine hK.out _ _ (Cs.below hHeld hb) (fun hHeld => ?_); clear hK K hb
 try simp only [sb]
 refine rc 9 (fun K hK => ?_)
 go_simp
 go_at_call 10; (with_reducible refine (C3.out _ hBw).mono ?_); rintro e wa13 ⟨rfl, hb⟩; have hBw := zab hBw hb; have hw12 := hw12.below hb; have hw13 := hw13.below hb; refine hK.out _ _ (Cs.below hHeld hb) (fun hHeld => ?_); clear hK K hb
 try simp only [sb]
 refine tk 10 ?_
 try simp only [sb]
 refine tk 11 ?_
 try simp only [sb]
 refine tk 12 ?_
 try simp only [sb]
 refine rdn ?_
 have hB := zab hB hBw
 have g1 := zaa hBw g1
 have e1 := zaa hBw e1
 have i1 := zaa hBw i1
 have g2 := zaa hBw g2
 have e2 := zaa hBw e2
 have i2 := zaa hBw i2
 have g3 := zaa hBw g3
 have e3 := zaa hBw e3
 have i3 := zaa hBw i3
 have g7 := zaa hBw g7
 have e7 := zaa hBw e7
 have i7 := zaa hBw i7
 have g8 := zaa hBw g8
 have e8 := zaa hBw e8
 have i8 := zaa hBw i8
 have g9 := zaa hBw g9
 have e9 := zaa hBw e9
 have i9 := zaa hBw i9
 have HN4 := Lib.hid (HN4.out.below hBw)
 have HN5 := Lib.hid (HN5.out.below hBw)
 have HN6 := Lib.hid (HN6.out.below hBw)
 have HN10 := Lib.hid (HN10.out.below hBw)
 have HN11 := Lib.hid (HN11.out.below hBw)
 have HN12 := Lib.hid hw12
 have HN13 := Lib.hid hw13
 clear hBw hHeld hw12 hw13 C0 C1 C2 C3
 go_wp2
 go_ret
 exact ⟨by first | rfl | simp, hB⟩
set_option maxHeartbeats 16000000 in
theorem zjp {T : World → Prop} (hTb : ∀ w w', T w → Below w.heap.size w w' → T w') (IC : IntC T) (QC : RatC T) (s0 : Bool) (A0 : Option Addr) (n0 c0 : Nat) (l0 : List Nat) (E0 : Option Addr) (u0 v0 : Nat) (e0 : List Nat) (s1 : Bool) (A1 : Option Addr) (n1 c1 : Nat) (l1 : List Nat) (E1 : Option Addr) (u1 v1 : Nat) (e1 : List Nat) (s2 : Bool) (A2 : Option Addr) (n2 c2 : Nat) (l2 : List Nat) (E2 : Option Addr) (u2 v2 : Nat) (e2 : List Nat) (w : World) (h0 : zat w A0 n0 c0 l0) (k0 : zat w E0 u0 v0 e0) (h1 : zat w A1 n1 c1 l1) (k1 : zat w E1 u1 v1 e1) (h2 : zat w A2 n2 c2 l2) (k2 : zat w E2 u2 v2 e2) (hp : zaM (fOf s0 l0 e0) (fOf s1 l1 e1) ≤ 0) (hq : zaM (fOf s1 l1 e1) (fOf s2 l2 e2) ≤ 0) (hT : T w) :
  Calls Tryd.prog 3 #[.agg #[.bool s0, .slice A0 n0 c0, .slice E0 u0 v0], .agg #[.bool s1, .slice A1 n1 c1, .slice E1 u1 v1], .agg #[.bool s2, .slice A2 n2 c2, .slice E2 u2 v2]] w fun e w' => e = .returned (.bool true) ∧ Below w.heap.size w w' := by
 have HAW := Lib.hid (fun w' (hb : Below w.heap.size w w') => zdw hTb IC QC w' (hTb w w' hT hb))
 have HIC := Lib.hid IC
 have HQC := Lib.hid QC
 have HT := Lib.hid (fun w' (hb : Below w.heap.size w w') => hTb w w' hT hb)
 obtain ⟨K, hK⟩ : ∃ K, 1048576 = K := ⟨_, rfl⟩
 have hKK : K ≤ 1048576 := by omega
 have hK0 : 0 < K := by omega
 have HM0 := Lib.hid (fun w' (hb : Below w.heap.size w w') => zbu hTb IC QC s0 A0 n0 c0 l0 E0 u0 v0 e0 w' ⟨(h0.reads.below hb).more hb.size, h0.dgs, h0.fits, h0.small⟩ ⟨(k0.reads.below hb).more hb.size, k0.dgs, k0.fits, k0.small⟩ (hTb w w' hT hb))
 have S0 : SzQ 1048576 (fOf s0 l0 e0) := zcI h0 k0
 rw [hK] at S0
 obtain ⟨x, hz0⟩ : ∃ x, fOf s0 l0 e0 = x := ⟨_, rfl⟩
 rw [hz0] at HM0 S0 hp
 have HS0 := Lib.hid S0
 have HM1 := Lib.hid (fun w' (hb : Below w.heap.size w w') => zbu hTb IC QC s1 A1 n1 c1 l1 E1 u1 v1 e1 w' ⟨(h1.reads.below hb).more hb.size, h1.dgs, h1.fits, h1.small⟩ ⟨(k1.reads.below hb).more hb.size, k1.dgs, k1.fits, k1.small⟩ (hTb w w' hT hb))
 have S1 : SzQ 1048576 (fOf s1 l1 e1) := zcI h1 k1
 rw [hK] at S1
 obtain ⟨y, hz1⟩ : ∃ x, fOf s1 l1 e1 = x := ⟨_, rfl⟩
 rw [hz1] at HM1 S1 hp hq
 have HS1 := Lib.hid S1
 have HM2 := Lib.hid (fun w' (hb : Below w.heap.size w w') => zbu hTb IC QC s2 A2 n2 c2 l2 E2 u2 v2 e2 w' ⟨(h2.reads.below hb).more hb.size, h2.dgs, h2.fits, h2.small⟩ ⟨(k2.reads.below hb).more hb.size, k2.dgs, k2.fits, k2.small⟩ (hTb w w' hT hb))
 have S2 : SzQ 1048576 (fOf s2 l2 e2) := zcI h2 k2
 rw [hK] at S2
 obtain ⟨z, hz2⟩ : ∃ x, fOf s2 l2 e2 = x := ⟨_, rfl⟩
 rw [hz2] at HM2 S2 hq
 have HS2 := Lib.hid S2
 have hv1 : zaM x z ≤ 0 := zhF hp hq
 have hk1 := zgy x y
 have HZN : Hid (zaM y x = -zaM x y) := zdR x y
 have HAD : Hid (zaM (x + z) (y + z) = zaM x y) := zeO x y z
 have HMU : Hid (zaM (x * z) (y * z) = zaM x y * zef z) := zfc x y z
 have hg1 := zfV z.num
 obtain ⟨g, hg⟩ : ∃ g, zef z = g := ⟨_, rfl⟩
 have HSG := Lib.hid hg
 rw [show zcN z.num = g from hg] at hg1
 obtain ⟨k, hk⟩ : ∃ k, zaM x y = k := ⟨_, rfl⟩
 rw [hk] at hk1 HZN HAD HMU hp
 rw [hg] at HMU
 have HK := Lib.hid hk
 clear hk hg
 have kw1 : IntKind.i64.wrap (-(-k)) = k := by rw [Int.neg_neg]; exact IntWalk.i64_in _ (by omega)
 have kw2 : IntKind.i64.wrap (-k) = -k := IntWalk.i64_in _ (by omega)
 have kw4 : IntKind.i64.wrap k = k := IntWalk.i64_in _ (by omega)
 have kb1 : (k != k) = false := by simp
 have kg : -1 ≤ k * g ∧ k * g ≤ 1 := by
  rcases (show k = -1 ∨ k = 0 ∨ k = 1 by omega) with h9 | h9 | h9 <;> rcases (show g = -1 ∨ g = 0 ∨ g = 1 by omega) with h8 | h8 | h8 <;> rw [h9, h8] <;> decide
 have kw3 : IntKind.i64.wrap (k * g) = k * g := IntWalk.i64_in _ (by omega)
 have kb9 : (k * g == k * g) = true := by simp
 have kb2 : decide (k ≤ 0) = true := by simp; omega
 obtain ⟨m, hm⟩ : ∃ k, zaM y z = k := ⟨_, rfl⟩
 rw [hm] at hq
 have HE2 := Lib.hid hm
 clear hm
 have kb3 : decide (m ≤ 0) = true := by simp; omega
 obtain ⟨v, hv⟩ : ∃ k, zaM x z = k := ⟨_, rfl⟩
 rw [hv] at hv1
 have HE3 := Lib.hid hv
 clear hv
 have kb4 : decide (v > 0) = false := by simp; omega
 have kb5 : decide (0 < v) = false := by simp; omega
 have Hhp := Lib.hid hp
 have Hhq := Lib.hid hq
 clear IC QC hT h0 k0 hz0 S0 h1 k1 hz1 S1 h2 k2 hz2 S2 hp hq hK
 go_enter Tryd.func3, Tryd.ntmps3
 have hB := Below.refl w.heap.size w
 obtain ⟨bx1, bx2, bx3, bx4, bz⟩ := zbd w 26 26 26 #[.bool s0, .slice A0 n0 c0, .slice E0 u0 v0] #[.bool s1, .slice A1 n1 c1, .slice E1 u1 v1] #[.bool s2, .slice A2 n2 c2, .slice E2 u2 v2]
 have hB := zab hB bx1
 obtain ⟨g1, e1, i1⟩ := bx2.c3
 obtain ⟨g2, e2, i2⟩ := bx3.c3
 obtain ⟨g3, e3, i3⟩ := bx4.c3
 clear bx1 bx2 bx3 bx4 bz
 go_wp2_with fail
 generalize ((w.alloc (.cells #[.bool s0, .slice A0 n0 c0, .slice E0 u0 v0] 26)).alloc (.cells #[.bool s1, .slice A1 n1 c1, .slice E1 u1 v1] 26)).alloc (.cells #[.bool s2, .slice A2 n2 c2, .slice E2 u2 v2] 26) = W1 at *
 (with_reducible refine (HAW.out _ hB).mono ?_)
 rintro e wc2 ⟨rfl, hb⟩
 have hB := zab hB hb
 have g1 := zaa hb g1
 have e1 := zaa hb e1
 have i1 := zaa hb i1
 have g2 := zaa hb g2
 have e2 := zaa hb e2
 have i2 := zaa hb i2
 have g3 := zaa hb g3
 have e3 := zaa hb e3
 have i3 := zaa hb i3
 clear hb 
 go_wp2_with fail
 have HZ4 : Hid (SzQ (K) (x)) := HS0.out
 have C0 := Lib.hid (fun w' (h : Below wc2.heap.size wc2 w') => HM0.out _ (zab hB h))
 have HZ5 : Hid (SzQ (K) (y)) := HS1.out
 have C1 := Lib.hid (fun w' (h : Below wc2.heap.size wc2 w') => HM1.out _ (zab hB h))
 have HZ6 : Hid (SzQ (K) (z)) := HS2.out
 have C2 := Lib.hid (fun w' (h : Below wc2.heap.size wc2 w') => HM2.out _ (zab hB h))
 have GG := Lib.hid (fun w' (h : Below wc2.heap.size wc2 w') => (csc (zaa h g1) (csc (zaa h e1) (csc (zaa h i1) (csc (zaa h g2) (csc (zaa h e2) (csc (zaa h i2) (csc (zaa h g3) (csc (zaa h e3) (csc (zaa h i3) csn))))))))))
 refine rgB (fun hHeld => ?_)
 refine tl 0 GG.out ?_
 try simp only [sb]
 refine tl 2 GG.out ?_
 try simp only [sb]
 refine tl 4 GG.out ?_
 try simp only [sb]
 refine zaH (L := #[true, true, true, true, true, true, true, true, true, true, true, true])
  (J := fun a0 l a w' => ∃ (fl1 fl3 fl5 fl6 fl7 fl8 fl9 fl10 fl11 b4 : Bool) (B4 : Option Addr) (m4 d4 : Nat) (E4 : Option Addr) (u4 v4 : Nat) (b5 : Bool) (B5 : Option Addr) (m5 d5 : Nat) (E5 : Option Addr) (u5 v5 : Nat) (b6 : Bool) (B6 : Option Addr) (m6 d6 : Nat) (E6 : Option Addr) (u6 v6 ad6 ad7 ad8 : Nat), l = #[true, fl1, true, fl3, true, fl5, fl6, fl7, fl8, fl9, fl10, fl11] ∧ zbm [14, 16, 18, 7, 8, 9] a0 a ∧ Hid (Below wc2.heap.size wc2 w') ∧
    Hid (Gd fl1 (a.tmps.getD 14 undef = .agg #[.bool b4, .slice B4 m4 d4, .slice E4 u4 v4] ∧ zal w' (x) b4 B4 m4 d4 E4 u4 v4)) ∧
    Hid (Gd fl3 (a.tmps.getD 16 undef = .agg #[.bool b5, .slice B5 m5 d5, .slice E5 u5 v5] ∧ zal w' (y) b5 B5 m5 d5 E5 u5 v5)) ∧
    Hid (Gd fl5 (a.tmps.getD 18 undef = .agg #[.bool b6, .slice B6 m6 d6, .slice E6 u6 v6] ∧ zal w' (z) b6 B6 m6 d6 E6 u6 v6)) ∧
    Hid (Gd fl6 (a.tmps.getD 7 undef = .pointer (some ⟨ad6, 0, none⟩) ∧ wc2.heap.size ≤ ad6 ∧ Blk w' ad6 33 (bif fl9 then #[.bool b4, .slice B4 m4 d4, .slice E4 u4 v4] else #[.bool false, .slice none 0 0, .slice none 0 0]))) ∧
    Hid (Gd fl7 (a.tmps.getD 8 undef = .pointer (some ⟨ad7, 0, none⟩) ∧ wc2.heap.size ≤ ad7 ∧ Blk w' ad7 33 (bif fl10 then #[.bool b5, .slice B5 m5 d5, .slice E5 u5 v5] else #[.bool false, .slice none 0 0, .slice none 0 0]))) ∧
    Hid (Gd fl8 (a.tmps.getD 9 undef = .pointer (some ⟨ad8, 0, none⟩) ∧ wc2.heap.size ≤ ad8 ∧ Blk w' ad8 33 (bif fl11 then #[.bool b6, .slice B6 m6 d6, .slice E6 u6 v6] else #[.bool false, .slice none 0 0, .slice none 0 0]))) ∧
    Hid (Gd fl6 (Gd fl7 (ad6 ≠ ad7))) ∧
    Hid (Gd fl6 (Gd fl8 (ad6 ≠ ad8))) ∧
    Hid (Gd fl7 (Gd fl8 (ad7 ≠ ad8))) ∧
    Hid (Gd fl3 (fl1 = true)) ∧
    Hid (Gd fl5 (fl3 = true)) ∧
    Hid (Gd fl9 (fl1 = true)) ∧
    Hid (Gd fl9 (fl5 = true)) ∧
    Hid (Gd fl9 (fl6 = true)) ∧
    Hid (Gd fl10 (fl3 = true)) ∧
    Hid (Gd fl10 (fl7 = true)) ∧
    Hid (Gd fl10 (fl9 = true)) ∧
    Hid (Gd fl11 (fl5 = true)) ∧
    Hid (Gd fl11 (fl8 = true)) ∧
    Hid (Gd fl11 (fl10 = true)))
  (by rfl) ?_ ?_ ?_
 ·exact ⟨false, false, false, false, false, false, false, false, false, false, none, 0, 0, none, 0, 0, false, none, 0, 0, none, 0, 0, false, none, 0, 0, none, 0, 0, 0, 0, 0, by kernel_rfl, zbm.refl _ _, hHeld, Gd.no, Gd.no, Gd.no, Gd.no, Gd.no, Gd.no, Gd.no, Gd.no, Gd.no, Gd.no, Gd.no, Gd.no, Gd.no, Gd.no, Gd.no, Gd.no, Gd.no, Gd.no, Gd.no, Gd.no⟩
 ·intro OPS Ac0 Q0 hO hAs hA
  have RB13 : Ac0.tmps.getD 13 undef = .agg #[.bool s0, .slice A0 n0 c0, .slice E0 u0 v0] := (hA 13 undef).trans (by kernel_rfl)
  have RB15 : Ac0.tmps.getD 15 undef = .agg #[.bool s1, .slice A1 n1 c1, .slice E1 u1 v1] := (hA 15 undef).trans (by kernel_rfl)
  have RB17 : Ac0.tmps.getD 17 undef = .agg #[.bool s2, .slice A2 n2 c2, .slice E2 u2 v2] := (hA 17 undef).trans (by kernel_rfl)
  have hsz : Ac0.tmps.size = 67 := hAs.trans (by kernel_rfl)
  clear hAs hA
  refine ⟨?_, ?_⟩
  ·rintro l a w' ⟨fl1, fl3, fl5, fl6, fl7, fl8, fl9, fl10, fl11, b4, B4, m4, d4, E4, u4, v4, b5, B5, m5, d5, E5, u5, v5, b6, B6, m6, d6, E6, u6, v6, ad6, ad7, ad8, rfl, -⟩ hr
   obtain rfl : fl1 = true := als 1 hr hO
   obtain rfl : fl3 = true := als 3 hr hO
   obtain rfl : fl5 = true := als 5 hr hO
   obtain rfl : fl6 = true := als 6 hr hO
   obtain rfl : fl7 = true := als 7 hr hO
   obtain rfl : fl8 = true := als 8 hr hO
   obtain rfl : fl9 = true := als 9 hr hO
   obtain rfl : fl10 = true := als 10 hr hO
   obtain rfl : fl11 = true := als 11 hr hO
   rfl
  ·rintro l a w' i ⟨fl1, fl3, fl5, fl6, fl7, fl8, fl9, fl10, fl11, b4, B4, m4, d4, E4, u4, v4, b5, B5, m5, d5, E5, u5, v5, b6, B6, m6, d6, E6, u6, v6, ad6, ad7, ad8, rfl, HKp, hBi, qf1, qf3, qf5, qf6, qf7, qf8, qn6_7, qn6_8, qn7_8, qd3_1, qd5_3, qd9_1, qd9_5, qd9_6, qd10_3, qd10_7, qd10_9, qd11_5, qd11_8, qd11_10⟩ hne hi
   have hlt : i < 12 := by have := zbe hi; rw [hO] at this; exact this
   rcases (show i = 0 ∨ i = 1 ∨ i = 2 ∨ i = 3 ∨ i = 4 ∨ i = 5 ∨ i = 6 ∨ i = 7 ∨ i = 8 ∨ i = 9 ∨ i = 10 ∨ i = 11 by omega) with rfl | rfl | rfl | rfl | rfl | rfl | rfl | rfl | rfl | rfl | rfl | rfl
   ·cases (zaf hi : true = false)
   ·obtain rfl : fl1 = false := zaf hi
    obtain rfl : fl3 = false := Gd.off qd3_1.out
    obtain rfl : fl5 = false := Gd.off qd5_3.out
    obtain rfl : fl9 = false := Gd.off qd9_1.out
    obtain rfl : fl10 = false := Gd.off qd10_3.out
    obtain rfl : fl11 = false := Gd.off qd11_5.out
    have rd13 := HKp.get 13 (by decide) RB13
    refine wog hO (fun K' hK => ?_)
    go_simp
    refine (C0.out w' hBi.out).mono ?_
    rintro e w2 ⟨nb4, nB4, nm4, nd4, nE4, nu4, nv4, rfl, nhw4, hb⟩
    exact hK.out _ _ ⟨zab hBi.out hb, true, false, false, fl6, fl7, fl8, false, false, false, nb4, nB4, nm4, nd4, nE4, nu4, nv4, b5, B5, m5, d5, E5, u5, v5, b6, B6, m6, d6, E6, u6, v6, ad6, ad7, ad8, by rfl, HKp.put (by decide) _, zab hBi.out hb, Gd.yes ⟨zap (HKp.lt (by rw [hsz]; decide)) _, nhw4⟩, Gd.no, Gd.no, kq qf6.out fun h => ⟨h.1, zac hb h.2⟩, kq qf7.out fun h => ⟨h.1, zac hb h.2⟩, kq qf8.out fun h => ⟨h.1, zac hb h.2⟩, qn6_7, qn6_8, qn7_8, Gd.no, Gd.no, Gd.no, Gd.no, Gd.no, Gd.no, Gd.no, Gd.no, Gd.no, Gd.no, Gd.no⟩
   ·cases (zaf hi : true = false)
   ·obtain rfl : fl3 = false := zaf hi
    obtain rfl : fl1 = true := rdp 1 1 hi hO
    obtain rfl : fl5 = false := Gd.off qd5_3.out
    obtain rfl : fl9 = false := Gd.off qd9_5.out
    obtain rfl : fl10 = false := Gd.off qd10_3.out
    obtain rfl : fl11 = false := Gd.off qd11_5.out
    have rd15 := HKp.get 15 (by decide) RB15
    refine wog hO (fun K' hK => ?_)
    go_simp
    refine (C1.out w' hBi.out).mono ?_
    rintro e w2 ⟨nb5, nB5, nm5, nd5, nE5, nu5, nv5, rfl, nhw5, hb⟩
    exact hK.out _ _ ⟨zab hBi.out hb, true, true, false, fl6, fl7, fl8, false, false, false, b4, B4, m4, d4, E4, u4, v4, nb5, nB5, nm5, nd5, nE5, nu5, nv5, b6, B6, m6, d6, E6, u6, v6, ad6, ad7, ad8, by rfl, HKp.put (by decide) _, zab hBi.out hb, kq qf1.out fun h => (h).below hb, Gd.yes ⟨zap (HKp.lt (by rw [hsz]; decide)) _, nhw5⟩, Gd.no, kq qf6.out fun h => ⟨h.1, zac hb h.2⟩, kq qf7.out fun h => ⟨h.1, zac hb h.2⟩, kq qf8.out fun h => ⟨h.1, zac hb h.2⟩, qn6_7, qn6_8, qn7_8, fun _ => rfl, Gd.no, Gd.no, Gd.no, Gd.no, Gd.no, Gd.no, Gd.no, Gd.no, Gd.no, Gd.no⟩
   ·cases (zaf hi : true = false)
   ·obtain rfl : fl5 = false := zaf hi
    obtain rfl : fl3 = true := rdp 3 1 hi hO
    obtain rfl : fl1 = true := qd3_1.out.get
    obtain rfl : fl9 = false := Gd.off qd9_5.out
    obtain rfl : fl10 = false := Gd.off qd10_9.out
    obtain rfl : fl11 = false := Gd.off qd11_5.out
    have rd17 := HKp.get 17 (by decide) RB17
    refine wog hO (fun K' hK => ?_)
    go_simp
    refine (C2.out w' hBi.out).mono ?_
    rintro e w2 ⟨nb6, nB6, nm6, nd6, nE6, nu6, nv6, rfl, nhw6, hb⟩
    exact hK.out _ _ ⟨zab hBi.out hb, true, true, true, fl6, fl7, fl8, false, false, false, b4, B4, m4, d4, E4, u4, v4, b5, B5, m5, d5, E5, u5, v5, nb6, nB6, nm6, nd6, nE6, nu6, nv6, ad6, ad7, ad8, by rfl, HKp.put (by decide) _, zab hBi.out hb, kq qf1.out fun h => (h).below hb, kq qf3.out fun h => (h).below hb, Gd.yes ⟨zap (HKp.lt (by rw [hsz]; decide)) _, nhw6⟩, kq qf6.out fun h => ⟨h.1, zac hb h.2⟩, kq qf7.out fun h => ⟨h.1, zac hb h.2⟩, kq qf8.out fun h => ⟨h.1, zac hb h.2⟩, qn6_7, qn6_8, qn7_8, fun _ => rfl, fun _ => rfl, Gd.no, Gd.no, Gd.no, Gd.no, Gd.no, Gd.no, Gd.no, Gd.no, Gd.no⟩
   ·obtain rfl : fl6 = false := zaf hi
    obtain rfl : fl9 = false := Gd.off qd9_6.out
    obtain rfl : fl10 = false := Gd.off qd10_9.out
    obtain rfl : fl11 = false := Gd.off qd11_10.out
    refine wog hO (fun K' hK => ?_)
    go_simp
    have hb := zaz w' (.cells #[.bool false, .slice none 0 0, .slice none 0 0] 33)
    exact hK.out _ _ ⟨zab hBi.out hb, fl1, fl3, fl5, true, fl7, fl8, false, false, false, b4, B4, m4, d4, E4, u4, v4, b5, B5, m5, d5, E5, u5, v5, b6, B6, m6, d6, E6, u6, v6, w'.heap.size, ad7, ad8, by rfl, HKp.put (by decide) _, zab hBi.out hb, kq qf1.out fun h => (h).below hb, kq qf3.out fun h => (h).below hb, kq qf5.out fun h => (h).below hb, Gd.yes ⟨zap (HKp.lt (by rw [hsz]; decide)) _, hBi.out.size, Blk.new w' _ _⟩, kq qf7.out fun h => ⟨h.1, zac hb h.2⟩, kq qf8.out fun h => ⟨h.1, zac hb h.2⟩, Gd.yes (qf7.out.mono fun h => by have := Blk.lt h.2.2; omega), Gd.yes (qf8.out.mono fun h => by have := Blk.lt h.2.2; omega), qn7_8, qd3_1, qd5_3, Gd.no, Gd.no, Gd.no, Gd.no, Gd.no, Gd.no, Gd.no, Gd.no, Gd.no⟩
   ·obtain rfl : fl7 = false := zaf hi
    obtain rfl : fl10 = false := Gd.off qd10_7.out
    obtain rfl : fl11 = false := Gd.off qd11_10.out
    refine wog hO (fun K' hK => ?_)
    go_simp
    have hb := zaz w' (.cells #[.bool false, .slice none 0 0, .slice none 0 0] 33)
    exact hK.out _ _ ⟨zab hBi.out hb, fl1, fl3, fl5, fl6, true, fl8, fl9, false, false, b4, B4, m4, d4, E4, u4, v4, b5, B5, m5, d5, E5, u5, v5, b6, B6, m6, d6, E6, u6, v6, ad6, w'.heap.size, ad8, by rfl, HKp.put (by decide) _, zab hBi.out hb, kq qf1.out fun h => (h).below hb, kq qf3.out fun h => (h).below hb, kq qf5.out fun h => (h).below hb, kq qf6.out fun h => ⟨h.1, zac hb h.2⟩, Gd.yes ⟨zap (HKp.lt (by rw [hsz]; decide)) _, hBi.out.size, Blk.new w' _ _⟩, kq qf8.out fun h => ⟨h.1, zac hb h.2⟩, qf6.out.mono fun h => Gd.yes (by have := Blk.lt h.2.2; omega), qn6_8, Gd.yes (qf8.out.mono fun h => by have := Blk.lt h.2.2; omega), qd3_1, qd5_3, qd9_1, qd9_5, qd9_6, Gd.no, Gd.no, Gd.no, Gd.no, Gd.no, Gd.no⟩
   ·obtain rfl : fl8 = false := zaf hi
    obtain rfl : fl11 = false := Gd.off qd11_8.out
    refine wog hO (fun K' hK => ?_)
    go_simp
    have hb := zaz w' (.cells #[.bool false, .slice none 0 0, .slice none 0 0] 33)
    exact hK.out _ _ ⟨zab hBi.out hb, fl1, fl3, fl5, fl6, fl7, true, fl9, fl10, false, b4, B4, m4, d4, E4, u4, v4, b5, B5, m5, d5, E5, u5, v5, b6, B6, m6, d6, E6, u6, v6, ad6, ad7, w'.heap.size, by rfl, HKp.put (by decide) _, zab hBi.out hb, kq qf1.out fun h => (h).below hb, kq qf3.out fun h => (h).below hb, kq qf5.out fun h => (h).below hb, kq qf6.out fun h => ⟨h.1, zac hb h.2⟩, kq qf7.out fun h => ⟨h.1, zac hb h.2⟩, Gd.yes ⟨zap (HKp.lt (by rw [hsz]; decide)) _, hBi.out.size, Blk.new w' _ _⟩, qn6_7, qf6.out.mono fun h => Gd.yes (by have := Blk.lt h.2.2; omega), qf7.out.mono fun h => Gd.yes (by have := Blk.lt h.2.2; omega), qd3_1, qd5_3, qd9_1, qd9_5, qd9_6, qd10_3, qd10_7, qd10_9, Gd.no, Gd.no, Gd.no⟩
   ·obtain rfl : fl9 = false := zaf hi
    obtain rfl : fl1 = true := rdp 1 1 hi hO
    obtain rfl : fl5 = true := rdp 5 2 hi hO
    obtain rfl : fl6 = true := rdp 6 0 hi hO
    obtain rfl : fl7 = true := rdp 7 10 hi hO
    obtain rfl : fl8 = true := rdp 8 11 hi hO
    obtain rfl : fl3 = true := qd5_3.out.get
    obtain rfl : fl10 = false := Gd.off qd10_9.out
    obtain rfl : fl11 = false := Gd.off qd11_10.out
    have rd7 := qf6.out.get.1
    have rd14 := qf1.out.get.1
    obtain ⟨_, hg, hk⟩ := qf6.out.get
    have hk : Blk w' ad6 33 #[.bool false, .slice none 0 0, .slice none 0 0] := hk
    obtain ⟨sc0, sf0, sc1, sf1, sc2, sf2⟩ := st3 hk (.bool b4) (.slice B4 m4 d4)
    have hj2 := sn3 hk (.bool b4) (.slice B4 m4 d4) (.slice E4 u4 v4)
    have hBn := bl3 (.bool b4) (.slice B4 m4 d4) (.slice E4 u4 v4) hg hBi.out
    refine wog hO (fun K' hK => ?_)
    go_simp
    exact hK.out _ _ ⟨hBn, true, true, true, true, true, true, true, false, false, b4, B4, m4, d4, E4, u4, v4, b5, B5, m5, d5, E5, u5, v5, b6, B6, m6, d6, E6, u6, v6, ad6, ad7, ad8, by rfl, HKp, hBn, qf1.out.mono fun h => ⟨h.1, zaA (h.2) hk zbx (zbp _ _ _ _ _)⟩, qf3.out.mono fun h => ⟨h.1, zaA (h.2) hk zbx (zbp _ _ _ _ _)⟩, qf5.out.mono fun h => ⟨h.1, zaA (h.2) hk zbx (zbp _ _ _ _ _)⟩, qf6.out.mono fun h => ⟨h.1, h.2.1, hj2⟩, fun hf9 => (fun h => ⟨h.1, h.2.1, Blk.far (p := ⟨ad6, 2, none⟩) (Blk.far (p := ⟨ad6, 1, none⟩) (Blk.far (p := ⟨ad6, 0, none⟩) (h.2.2) (Ne.symm (qn6_7.out rfl hf9)) (.bool b4)) (Ne.symm (qn6_7.out rfl hf9)) (.slice B4 m4 d4)) (Ne.symm (qn6_7.out rfl hf9)) (.slice E4 u4 v4)⟩) (qf7.out hf9), fun hf9 => (fun h => ⟨h.1, h.2.1, Blk.far (p := ⟨ad6, 2, none⟩) (Blk.far (p := ⟨ad6, 1, none⟩) (Blk.far (p := ⟨ad6, 0, none⟩) (h.2.2) (Ne.symm (qn6_8.out rfl hf9)) (.bool b4)) (Ne.symm (qn6_8.out rfl hf9)) (.slice B4 m4 d4)) (Ne.symm (qn6_8.out rfl hf9)) (.slice E4 u4 v4)⟩) (qf8.out hf9), qn6_7, qn6_8, qn7_8, fun _ => rfl, fun _ => rfl, fun _ => rfl, fun _ => rfl, fun _ => rfl, Gd.no, Gd.no, Gd.no, Gd.no, Gd.no, Gd.no⟩
   ·obtain rfl : fl10 = false := zaf hi
    obtain rfl : fl1 = true := rdp 1 4 hi hO
    obtain rfl : fl3 = true := rdp 3 1 hi hO
    obtain rfl : fl6 = true := rdp 6 9 hi hO
    obtain rfl : fl7 = true := rdp 7 0 hi hO
    obtain rfl : fl8 = true := rdp 8 11 hi hO
    obtain rfl : fl9 = true := rdp 9 2 hi hO
    obtain rfl : fl5 = true := qd9_5.out.get
    obtain rfl : fl11 = false := Gd.off qd11_10.out
    have rd8 := qf7.out.get.1
    have rd16 := qf3.out.get.1
    obtain ⟨_, hg, hk⟩ := qf7.out.get
    have hk : Blk w' ad7 33 #[.bool false, .slice none 0 0, .slice none 0 0] := hk
    obtain ⟨sc0, sf0, sc1, sf1, sc2, sf2⟩ := st3 hk (.bool b5) (.slice B5 m5 d5)
    have hj2 := sn3 hk (.bool b5) (.slice B5 m5 d5) (.slice E5 u5 v5)
    have hBn := bl3 (.bool b5) (.slice B5 m5 d5) (.slice E5 u5 v5) hg hBi.out
    refine wog hO (fun K' hK => ?_)
    go_simp
    exact hK.out _ _ ⟨hBn, true, true, true, true, true, true, true, true, false, b4, B4, m4, d4, E4, u4, v4, b5, B5, m5, d5, E5, u5, v5, b6, B6, m6, d6, E6, u6, v6, ad6, ad7, ad8, by rfl, HKp, hBn, qf1.out.mono fun h => ⟨h.1, zaA (h.2) hk zbx (zbp _ _ _ _ _)⟩, qf3.out.mono fun h => ⟨h.1, zaA (h.2) hk zbx (zbp _ _ _ _ _)⟩, qf5.out.mono fun h => ⟨h.1, zaA (h.2) hk zbx (zbp _ _ _ _ _)⟩, fun hf9 => (fun h => ⟨h.1, h.2.1, Blk.far (p := ⟨ad7, 2, none⟩) (Blk.far (p := ⟨ad7, 1, none⟩) (Blk.far (p := ⟨ad7, 0, none⟩) (h.2.2) (qn6_7.out hf9 rfl) (.bool b5)) (qn6_7.out hf9 rfl) (.slice B5 m5 d5)) (qn6_7.out hf9 rfl) (.slice E5 u5 v5)⟩) (qf6.out hf9), qf7.out.mono fun h => ⟨h.1, h.2.1, hj2⟩, fun hf9 => (fun h => ⟨h.1, h.2.1, Blk.far (p := ⟨ad7, 2, none⟩) (Blk.far (p := ⟨ad7, 1, none⟩) (Blk.far (p := ⟨ad7, 0, none⟩) (h.2.2) (Ne.symm (qn7_8.out rfl hf9)) (.bool b5)) (Ne.symm (qn7_8.out rfl hf9)) (.slice B5 m5 d5)) (Ne.symm (qn7_8.out rfl hf9)) (.slice E5 u5 v5)⟩) (qf8.out hf9), qn6_7, qn6_8, qn7_8, fun _ => rfl, fun _ => rfl, fun _ => rfl, fun _ => rfl, fun _ => rfl, fun _ => rfl, fun _ => rfl, fun _ => rfl, Gd.no, Gd.no, Gd.no⟩
   ·obtain rfl : fl11 = false := zaf hi
    obtain rfl : fl1 = true := rdp 1 4 hi hO
    obtain rfl : fl3 = true := rdp 3 6 hi hO
    obtain rfl : fl5 = true := rdp 5 1 hi hO
    obtain rfl : fl6 = true := rdp 6 9 hi hO
    obtain rfl : fl7 = true := rdp 7 10 hi hO
    obtain rfl : fl8 = true := rdp 8 0 hi hO
    obtain rfl : fl9 = true := rdp 9 12 hi hO
    obtain rfl : fl10 = true := rdp 10 2 hi hO
    have rd9 := qf8.out.get.1
    have rd18 := qf5.out.get.1
    obtain ⟨_, hg, hk⟩ := qf8.out.get
    have hk : Blk w' ad8 33 #[.bool false, .slice none 0 0, .slice none 0 0] := hk
    obtain ⟨sc0, sf0, sc1, sf1, sc2, sf2⟩ := st3 hk (.bool b6) (.slice B6 m6 d6)
    have hj2 := sn3 hk (.bool b6) (.slice B6 m6 d6) (.slice E6 u6 v6)
    have hBn := bl3 (.bool b6) (.slice B6 m6 d6) (.slice E6 u6 v6) hg hBi.out
    refine wog hO (fun K' hK => ?_)
    go_simp
    exact hK.out _ _ ⟨hBn, true, true, true, true, true, true, true, true, true, b4, B4, m4, d4, E4, u4, v4, b5, B5, m5, d5, E5, u5, v5, b6, B6, m6, d6, E6, u6, v6, ad6, ad7, ad8, by rfl, HKp, hBn, qf1.out.mono fun h => ⟨h.1, zaA (h.2) hk zbx (zbp _ _ _ _ _)⟩, qf3.out.mono fun h => ⟨h.1, zaA (h.2) hk zbx (zbp _ _ _ _ _)⟩, qf5.out.mono fun h => ⟨h.1, zaA (h.2) hk zbx (zbp _ _ _ _ _)⟩, fun hf9 => (fun h => ⟨h.1, h.2.1, Blk.far (p := ⟨ad8, 2, none⟩) (Blk.far (p := ⟨ad8, 1, none⟩) (Blk.far (p := ⟨ad8, 0, none⟩) (h.2.2) (qn6_8.out hf9 rfl) (.bool b6)) (qn6_8.out hf9 rfl) (.slice B6 m6 d6)) (qn6_8.out hf9 rfl) (.slice E6 u6 v6)⟩) (qf6.out hf9), fun hf9 => (fun h => ⟨h.1, h.2.1, Blk.far (p := ⟨ad8, 2, none⟩) (Blk.far (p := ⟨ad8, 1, none⟩) (Blk.far (p := ⟨ad8, 0, none⟩) (h.2.2) (qn7_8.out hf9 rfl) (.bool b6)) (qn7_8.out hf9 rfl) (.slice B6 m6 d6)) (qn7_8.out hf9 rfl) (.slice E6 u6 v6)⟩) (qf7.out hf9), qf8.out.mono fun h => ⟨h.1, h.2.1, hj2⟩, qn6_7, qn6_8, qn7_8, fun _ => rfl, fun _ => rfl, fun _ => rfl, fun _ => rfl, fun _ => rfl, fun _ => rfl, fun _ => rfl, fun _ => rfl, fun _ => rfl, fun _ => rfl, fun _ => rfl⟩
 rintro a wm3 ⟨fl1, fl3, fl5, fl6, fl7, fl8, fl9, fl10, fl11, b4, B4, m4, d4, E4, u4, v4, b5, B5, m5, d5, E5, u5, v5, b6, B6, m6, d6, E6, u6, v6, ad6, ad7, ad8, hl, HKp, hBi, qf1, qf3, qf5, qf6, qf7, qf8, qn6_7, qn6_8, qn7_8, qd3_1, qd5_3, qd9_1, qd9_5, qd9_6, qd10_3, qd10_7, qd10_9, qd11_5, qd11_8, qd11_10⟩
 have xx1 : fl1 = true := gdl 1 hl
 subst xx1
 have xx3 : fl3 = true := gdl 3 hl
 subst xx3
 have xx5 : fl5 = true := gdl 5 hl
 subst xx5
 have xx6 : fl6 = true := gdl 6 hl
 subst xx6
 have xx7 : fl7 = true := gdl 7 hl
 subst xx7
 have xx8 : fl8 = true := gdl 8 hl
 subst xx8
 have xx9 : fl9 = true := gdl 9 hl
 subst xx9
 have xx10 : fl10 = true := gdl 10 hl
 subst xx10
 have xx11 : fl11 = true := gdl 11 hl
 subst xx11
 obtain ⟨rv1, hw4⟩ := qf1.out.get
 obtain ⟨rv3, hw5⟩ := qf3.out.get
 obtain ⟨rv5, hw6⟩ := qf5.out.get
 obtain ⟨rv6, hg6, hk6⟩ := qf6.out.get
 obtain ⟨rv7, hg7, hk7⟩ := qf7.out.get
 obtain ⟨rv8, hg8, hk8⟩ := qf8.out.get
 obtain rfl := HKp.eq [(14, .agg #[.bool b4, .slice B4 m4 d4, .slice E4 u4 v4]), (16, .agg #[.bool b5, .slice B5 m5 d5, .slice E5 u5 v5]), (18, .agg #[.bool b6, .slice B6 m6 d6, .slice E6 u6 v6]), (7, .pointer (some ⟨ad6, 0, none⟩)), (8, .pointer (some ⟨ad7, 0, none⟩)), (9, .pointer (some ⟨ad8, 0, none⟩))] rfl (by
  intro p hp
  simp only [List.mem_cons, List.not_mem_nil, or_false] at hp
  rcases hp with rfl | rfl | rfl | rfl | rfl | rfl
  ·exact rv1
  ·exact rv3
  ·exact rv5
  ·exact rv6
  ·exact rv7
  ·exact rv8)
 have hBv := hBi.out
 clear hl hBi HKp qf1 qf3 qf5 qf6 qf7 qf8 qn6_7 qn6_8 qn7_8 qd3_1 qd5_3 qd9_1 qd9_5 qd9_6 qd10_3 qd10_7 qd10_9 qd11_5 qd11_8 qd11_10 rv1 rv3 rv5 rv6 rv7 rv8
 have hk6 : Blk wm3 ad6 33 #[.bool b4, .slice B4 m4 d4, .slice E4 u4 v4] := hk6
 have hk7 : Blk wm3 ad7 33 #[.bool b5, .slice B5 m5 d5, .slice E5 u5 v5] := hk7
 have hk8 : Blk wm3 ad8 33 #[.bool b6, .slice B6 m6 d6, .slice E6 u6 v6] := hk8
 rw [show due #[true, true, true, true, true, true, true, true, true, true, true, true] = 0 from rfl]
 simp only [zbj, List.foldl, Act.put, List.setIfInBounds_toArray, List.set_cons_zero, List.set_cons_succ]
 refine wpAnyH_done (by kernel_rfl) ?_ _
 refine NoPanic.normal ?_
 have hB := zab hB hBv
 have g1 := zaa hBv g1
 have e1 := zaa hBv e1
 have i1 := zaa hBv i1
 have g2 := zaa hBv g2
 have e2 := zaa hBv e2
 have i2 := zaa hBv i2
 have g3 := zaa hBv g3
 have e3 := zaa hBv e3
 have i3 := zaa hBv i3
 obtain ⟨ad6_7, hga⟩ : ∃ x, x = ad6 := ⟨_, rfl⟩
 subst hga
 obtain ⟨g7, e7, i7⟩ := hk6.c3
 obtain ⟨ad7_8, hga⟩ : ∃ x, x = ad7 := ⟨_, rfl⟩
 subst hga
 obtain ⟨g8, e8, i8⟩ := hk7.c3
 obtain ⟨ad8_9, hga⟩ : ∃ x, x = ad8 := ⟨_, rfl⟩
 subst hga
 obtain ⟨g9, e9, i9⟩ := hk8.c3
 have HN4 := Lib.hid hw4
 have HN5 := Lib.hid hw5
 have HN6 := Lib.hid hw6
 clear hBv hk6 hg6 hk7 hg7 hk8 hg8 hw4 hw5 hw6 GG
 clear C0 C1 C2
 go_wp2_with fail
 (with_reducible refine (zaF (v := k) (HK.out) (HQC.out.cmp (x) (y) b4 b5 B4 B5 m4 m5 d4 d5 E4 E5 u4 u5 v4 v5 _ (HT.out _ hB) HN4.out HN5.out (SzQ.fit HZ4.out HN4.out (by omega)) (SzQ.fit HZ5.out HN5.out (by omega)))).mono ?_)
 rintro e wc4 ⟨rfl, hb⟩
 have hB := zab hB hb
 have g1 := zaa hb g1
 have e1 := zaa hb e1
 have i1 := zaa hb i1
 have g2 := zaa hb g2
 have e2 := zaa hb e2
 have i2 := zaa hb i2
 have g3 := zaa hb g3
 have e3 := zaa hb e3
 have i3 := zaa hb i3
 have g7 := zaa hb g7
 have e7 := zaa hb e7
 have i7 := zaa hb i7
 have g8 := zaa hb g8
 have e8 := zaa hb e8
 have i8 := zaa hb i8
 have g9 := zaa hb g9
 have e9 := zaa hb e9
 have i9 := zaa hb i9
 have HN4 := Lib.hid (HN4.out.below hb)
 have HN5 := Lib.hid (HN5.out.below hb)
 have HN6 := Lib.hid (HN6.out.below hb)
 clear hb 
 go_wp2_with fail
 have C0 := Lib.hid (fun w' (h : Below wc4.heap.size wc4 w') => zaF (v := (-k)) (HZN.out) (HQC.out.cmp (y) (x) b5 b4 B5 B4 m5 m4 d5 d4 E5 E4 u5 u4 v5 v4 w' (HT.out _ (zab hB h)) (HN5.out.below h) (HN4.out.below h) (SzQ.fit HZ5.out HN5.out (by omega)) (SzQ.fit HZ4.out HN4.out (by omega))))
 have C1 := Lib.hid (fun w' (h : Below wc4.heap.size wc4 w') => zaF (v := m) (HE2.out) (HQC.out.cmp (y) (z) b5 b6 B5 B6 m5 m6 d5 d6 E5 E6 u5 u6 v5 v6 w' (HT.out _ (zab hB h)) (HN5.out.below h) (HN6.out.below h) (SzQ.fit HZ5.out HN5.out (by omega)) (SzQ.fit HZ6.out HN6.out (by omega))))
 have C2 := Lib.hid (fun w' (h : Below wc4.heap.size wc4 w') => zaF (v := v) (HE3.out) (HQC.out.cmp (x) (z) b4 b6 B4 B6 m4 m6 d4 d6 E4 E6 u4 u6 v4 v6 w' (HT.out _ (zab hB h)) (HN4.out.below h) (HN6.out.below h) (SzQ.fit HZ4.out HN4.out (by omega)) (SzQ.fit HZ6.out HN6.out (by omega))))
 have HZ10 : Hid (SzQ (K + K + 1) (x + z)) := SzQ.add HZ4.out HZ6.out
 have C3 := Lib.hid (fun w' (h : Below wc4.heap.size wc4 w') => HQC.out.add (x) (z) b4 b6 B4 B6 m4 m6 d4 d6 E4 E6 u4 u6 v4 v6 w' (HT.out _ (zab hB h)) (HN4.out.below h) (HN6.out.below h) (SzQ.fit HZ4.out HN4.out (by omega)) (SzQ.fit HZ6.out HN6.out (by omega)))
 have HZ11 : Hid (SzQ (K + K + 1) (y + z)) := SzQ.add HZ5.out HZ6.out
 have C4 := Lib.hid (fun w' (h : Below wc4.heap.size wc4 w') => HQC.out.add (y) (z) b5 b6 B5 B6 m5 m6 d5 d6 E5 E6 u5 u6 v5 v6 w' (HT.out _ (zab hB h)) (HN5.out.below h) (HN6.out.below h) (SzQ.fit HZ5.out HN5.out (by omega)) (SzQ.fit HZ6.out HN6.out (by omega)))
 have C5 := Lib.hid (fun w' (h : Below wc4.heap.size wc4 w') b10 B10 m10 d10 E10 u10 v10 (hw10 : zal w' (x + z) b10 B10 m10 d10 E10 u10 v10) b11 B11 m11 d11 E11 u11 v11 (hw11 : zal w' (y + z) b11 B11 m11 d11 E11 u11 v11) => zaF (v := k) (HAD.out) (HQC.out.cmp (x + z) (y + z) b10 b11 B10 B11 m10 m11 d10 d11 E10 E11 u10 u11 v10 v11 w' (HT.out _ (zab hB h)) hw10 hw11 (SzQ.fit HZ10.out hw10 (by omega)) (SzQ.fit HZ11.out hw11 (by omega))))
 have hBw := (Below.refl wc4.heap.size wc4).drew
 refine rg (csc g8 (csc e8 (csc i8 (csc g7 (csc e7 (csc i7 (csc g9 (csc e9 (csc i9 csn))))))))) (fun hHeld => ?_)
 refine tk 0 ?_
 try simp only [sb]
 refine tk 1 ?_
 try simp only [sb]
 refine tk 2 ?_
 try simp only [sb]
 refine rc 3 (fun K hK => ?_)
 go_simp
 go_at_call 7; (with_reducible refine (C0.out _ hBw).mono ?_); rintro e wa5 ⟨rfl, hb⟩; have hBw := zab hBw hb; refine hK.out _ _ (Cs.below hHeld hb) (fun hHeld => ?_); clear hK K hb
 try simp only [sb]
 refine tk 4 ?_
 try simp only [sb]
 refine tk 5 ?_
 try simp only [sb]
 refine tk 6 ?_
 try simp only [sb]
 refine tk 7 ?_
 try simp only [sb]
 refine tk 8 ?_
 try simp only [sb]
 refine tk 9 ?_
 try simp only [sb]
 refine tk 10 ?_
 try simp only [sb]
 refine tk 11 ?_
 try simp only [sb]
 refine rc 12 (fun K hK => ?_)
 go_simp
 go_at_call 7; (with_reducible refine (C1.out _ hBw).mono ?_); rintro e wa6 ⟨rfl, hb⟩; have hBw := zab hBw hb; refine hK.out _ _ (Cs.below hHeld hb) (fun hHeld => ?_); clear hK K hb
 try simp only [sb]
 refine tk 13 ?_
 try simp only [sb]
 refine tk 14 ?_
 try simp only [sb]
 refine tk 15 ?_
 try simp only [sb]
 refine tk 16 ?_
 try simp only [sb]
 refine tk 17 ?_
 try simp only [sb]
 refine rc 18 (fun K hK => ?_)
 go_simp
 go_at_call 7; (with_reducible refine (C2.out _ hBw).mono ?_); rintro e wa7 ⟨rfl, hb⟩; have hBw := zab hBw hb; refine hK.out _ _ (Cs.below hHeld hb) (fun hHeld => ?_); clear hK K hb
 try simp only [sb]
 refine tk 19 ?_
 try simp only [sb]
 refine tk 20 ?_
 try simp only [sb]
 refine tk 21 ?_
 try simp only [sb]
 refine tk 22 ?_
 try simp only [sb]
 refine tk 23 ?_
 try simp only [sb]
 refine tk 24 ?_
 try simp only [sb]
 refine tk 26 ?_
 try simp only [sb]
 refine tk 27 ?_
 try simp only [sb]
 refine tk 30 ?_
 try simp only [sb]
 refine rc 25 (fun K hK => ?_)
 go_simp
 go_at_call 8; (with_reducible refine (C3.out _ hBw).mono ?_); rintro e wa8 ⟨b10, B10, m10, d10, E10, u10, v10, rfl, hw10, hb⟩; have hBw := zab hBw hb; refine hK.out _ _ (Cs.below hHeld hb) (fun hHeld => ?_); clear hK K hb
 try simp only [sb]
 refine rc 28 (fun K hK => ?_)
 go_simp
 go_at_call 8; (with_reducible refine (C4.out _ hBw).mono ?_); rintro e wa9 ⟨b11, B11, m11, d11, E11, u11, v11, rfl, hw11, hb⟩; have hBw := zab hBw hb; have hw10 := hw10.below hb; refine hK.out _ _ (Cs.below hHeld hb) (fun hHeld => ?_); clear hK K hb
 try simp only [sb]
 refine rc 29 (fun K hK => ?_)
 go_simp
 go_at_call 7; (with_reducible refine (C5.out _ hBw _ _ _ _ _ _ _ hw10 _ _ _ _ _ _ _ hw11).mono ?_); rintro e wa10 ⟨rfl, hb⟩; have hBw := zab hBw hb; have hw10 := hw10.below hb; have hw11 := hw11.below hb; refine hK.out _ _ (Cs.below hHeld hb) (fun hHeld => ?_); clear hK K hb
 try simp only [sb]
 refine tk 31 ?_
 try simp only [sb]
 refine tk 32 ?_
 try simp only [sb]
 refine rdn ?_
 have hB := zab hB hBw
 have g1 := zaa hBw g1
 have e1 := zaa hBw e1
 have i1 := zaa hBw i1
 have g2 := zaa hBw g2
 have e2 := zaa hBw e2
 have i2 := zaa hBw i2
 have g3 := zaa hBw g3
 have e3 := zaa hBw e3
 have i3 := zaa hBw i3
 have g7 := zaa hBw g7
 have e7 := zaa hBw e7
 have i7 := zaa hBw i7
 have g8 := zaa hBw g8
 have e8 := zaa hBw e8
 have i8 := zaa hBw i8
 have g9 := zaa hBw g9
 have e9 := zaa hBw e9
 have i9 := zaa hBw i9
 have HN4 := Lib.hid (HN4.out.below hBw)
 have HN5 := Lib.hid (HN5.out.below hBw)
 have HN6 := Lib.hid (HN6.out.below hBw)
 have HN10 := Lib.hid hw10
 have HN11 := Lib.hid hw11
 clear hBw hHeld hw10 hw11 C0 C1 C2 C3 C4 C5
 go_wp2_with fail
 have HZ12 : Hid (SzQ (K + K) (x * z)) := SzQ.mul HZ4.out HZ6.out
 have C0 := Lib.hid (fun w' (h : Below wa10.heap.size wa10 w') => HQC.out.mul (x) (z) b4 b6 B4 B6 m4 m6 d4 d6 E4 E6 u4 u6 v4 v6 w' (HT.out _ (zab hB h)) (HN4.out.below h) (HN6.out.below h) (SzQ.fit HZ4.out HN4.out (by omega)) (SzQ.fit HZ6.out HN6.out (by omega)))
 have HZ13 : Hid (SzQ (K + K) (y * z)) := SzQ.mul HZ5.out HZ6.out
 have C1 := Lib.hid (fun w' (h : Below wa10.heap.size wa10 w') => HQC.out.mul (y) (z) b5 b6 B5 B6 m5 m6 d5 d6 E5 E6 u5 u6 v5 v6 w' (HT.out _ (zab hB h)) (HN5.out.below h) (HN6.out.below h) (SzQ.fit HZ5.out HN5.out (by omega)) (SzQ.fit HZ6.out HN6.out (by omega)))
 have C2 := Lib.hid (fun w' (h : Below wa10.heap.size wa10 w') b12 B12 m12 d12 E12 u12 v12 (hw12 : zal w' (x * z) b12 B12 m12 d12 E12 u12 v12) b13 B13 m13 d13 E13 u13 v13 (hw13 : zal w' (y * z) b13 B13 m13 d13 E13 u13 v13) => zaF (v := ((k * g))) (HMU.out) (HQC.out.cmp (x * z) (y * z) b12 b13 B12 B13 m12 m13 d12 d13 E12 E13 u12 u13 v12 v13 w' (HT.out _ (zab hB h)) hw12 hw13 (SzQ.fit HZ12.out hw12 (by omega)) (SzQ.fit HZ13.out hw13 (by omega))))
 have C3 := Lib.hid (fun w' (h : Below wa10.heap.size wa10 w') => zaF (v := g) (HSG.out) (HQC.out.sign (z) b6 B6 m6 d6 E6 u6 v6 w' (HT.out _ (zab hB h)) (HN6.out.below h) (SzQ.fit HZ6.out HN6.out (by omega))))
 have hBw := (Below.refl wa10.heap.size wa10).drew
 refine rg (csc g7 (csc e7 (csc i7 (csc g9 (csc e9 (csc i9 (csc g8 (csc e8 (csc i8 csn))))))))) (fun hHeld => ?_)
 refine tk 0 ?_
 try simp only [sb]
 refine tk 1 ?_
 try simp only [sb]
 refine tk 3 ?_
 try simp only [sb]
 refine tk 4 ?_
 try simp only [sb]
 refine tk 7 ?_
 try simp only [sb]
 refine tk 8 ?_
 try simp only [sb]
 refine rc 2 (fun K hK => ?_)
 go_simp
 go_at_call 9; (with_reducible refine (C0.out _ hBw).mono ?_); rintro e wa11 ⟨b12, B12, m12, d12, E12, u12, v12, rfl, hw12, hb⟩; have hBw := zab hBw hb; refine hK.out _ _ (Cs.below hHeld hb) (fun hHeld => ?_); clear hK K hb
 try simp only [sb]
 refine rc 5 (fun K hK => ?_)
 go_simp
 go_at_call 9; (with_reducible refine (C1.out _ hBw).mono ?_); rintro e wa12 ⟨b13, B13, m13, d13, E13, u13, v13, rfl, hw13, hb⟩; have hBw := zab hBw hb; have hw12 := hw12.below hb; refine hK.out _ _ (Cs.below hHeld hb) (fun hHeld => ?_); clear hK K hb
 try simp only [sb]
 refine rc 6 (fun K hK => ?_)
 go_simp
 go_at_call 7; (with_reducible refine (C2.out _ hBw _ _ _ _ _ _ _ hw12 _ _ _ _ _ _ _ hw13).mono ?_); rintro e wa13 ⟨rfl, hb⟩; have hBw := zab hBw hb; have hw12 := hw12.below hb; have hw13 := hw13.below hb; refine hK.out _ _ (Cs.below hHeld hb) (fun hHeld => ?_); clear hK K hb
 try simp only [sb]
 refine rc 9 (fun K hK => ?_)
 go_simp
 go_at_call 10; (with_reducible refine (C3.out _ hBw).mono ?_); rintro e wa14 ⟨rfl, hb⟩; have hBw := zab hBw hb; have hw12 := hw12.below hb; have hw13 := hw13.below hb; refine hK.out _ _ (Cs.below hHeld hb) (fun hHeld => ?_); clear hK K hb
 try simp only [sb]
 refine tk 10 ?_
 try simp only [sb]
 refine tk 11 ?_
 try simp only [sb]
 refine tk 12 ?_
 try simp only [sb]
 refine rdn ?_
 have hB := zab hB hBw
 have g1 := zaa hBw g1
 have e1 := zaa hBw e1
 have i1 := zaa hBw i1
 have g2 := zaa hBw g2
 have e2 := zaa hBw e2
 have i2 := zaa hBw i2
 have g3 := zaa hBw g3
 have e3 := zaa hBw e3
 have i3 := zaa hBw i3
 have g7 := zaa hBw g7
 have e7 := zaa hBw e7
 have i7 := zaa hBw i7
 have g8 := zaa hBw g8
 have e8 := zaa hBw e8
 have i8 := zaa hBw i8
 have g9 := zaa hBw g9
 have e9 := zaa hBw e9
 have i9 := zaa hBw i9
 have HN4 := Lib.hid (HN4.out.below hBw)
 have HN5 := Lib.hid (HN5.out.below hBw)
 have HN6 := Lib.hid (HN6.out.below hBw)
 have HN10 := Lib.hid (HN10.out.below hBw)
 have HN11 := Lib.hid (HN11.out.below hBw)
 have HN12 := Lib.hid hw12
 have HN13 := Lib.hid hw13
 clear hBw hHeld hw12 hw13 C0 C1 C2 C3
 go_wp2
 go_ret
 exact ⟨by first | rfl | simp, hB⟩
theorem ratLine_core {T : World → Prop} (hTb : ∀ w w', T w → Below w.heap.size w w' → T w') (IC : IntC T) (QC : RatC T) (s0 : Bool) (A0 : Option Addr) (n0 c0 : Nat) (l0 : List Nat) (E0 : Option Addr) (u0 v0 : Nat) (e0 : List Nat) (s1 : Bool) (A1 : Option Addr) (n1 c1 : Nat) (l1 : List Nat) (E1 : Option Addr) (u1 v1 : Nat) (e1 : List Nat) (s2 : Bool) (A2 : Option Addr) (n2 c2 : Nat) (l2 : List Nat) (E2 : Option Addr) (u2 v2 : Nat) (e2 : List Nat) (w : World) (h0 : zat w A0 n0 c0 l0) (k0 : zat w E0 u0 v0 e0) (h1 : zat w A1 n1 c1 l1) (k1 : zat w E1 u1 v1 e1) (h2 : zat w A2 n2 c2 l2) (k2 : zat w E2 u2 v2 e2) (hT : T w) :
  Calls Tryd.prog 3 #[.agg #[.bool s0, .slice A0 n0 c0, .slice E0 u0 v0], .agg #[.bool s1, .slice A1 n1 c1, .slice E1 u1 v1], .agg #[.bool s2, .slice A2 n2 c2, .slice E2 u2 v2]] w fun e w' => e = .returned (.bool true) ∧ Below w.heap.size w w' := by
 by_cases hp : 0 < zaM (fOf s0 l0 e0) (fOf s1 l1 e1)
 ·exact zjm hTb IC QC s0 A0 n0 c0 l0 E0 u0 v0 e0 s1 A1 n1 c1 l1 E1 u1 v1 e1 s2 A2 n2 c2 l2 E2 u2 v2 e2 w h0 k0 h1 k1 h2 k2 hp hT
 ·by_cases hq : 0 < zaM (fOf s1 l1 e1) (fOf s2 l2 e2)
  ·exact zje hTb IC QC s0 A0 n0 c0 l0 E0 u0 v0 e0 s1 A1 n1 c1 l1 E1 u1 v1 e1 s2 A2 n2 c2 l2 E2 u2 v2 e2 w h0 k0 h1 k1 h2 k2 (by omega) hq hT
  ·exact zjp hTb IC QC s0 A0 n0 c0 l0 E0 u0 v0 e0 s1 A1 n1 c1 l1 E1 u1 v1 e1 s2 A2 n2 c2 l2 E2 u2 v2 e2 w h0 k0 h1 k1 h2 k2 (by omega) (by omega) hT
end Go.Proofs.YtgigccjiblaefaaDoor
