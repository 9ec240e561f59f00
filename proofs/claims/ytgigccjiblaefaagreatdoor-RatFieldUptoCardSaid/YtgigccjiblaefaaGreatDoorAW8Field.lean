/- What this claim leans on. -/
import Derived.Test.YtgigccjiblaefaaGreatDoorAW8Awake
import Derived.Test.YtgigccjiblaefaaGreatDoorAW8Make
namespace Go.Proofs.YtgigccjiblaefaaGreatDoor
open Go Go.RowKit
set_option maxRecDepth 100000
set_option linter.unusedVariables false
set_option linter.unusedSimpArgs false
set_option maxHeartbeats 16000000 in
theorem ziu {T : World → Prop} (hTb : ∀ w w', T w → Below w.heap.size w w' → T w') (IC : IntC T) (QC : RatC T) (s0 : Bool) (A0 : Option Addr) (n0 c0 : Nat) (l0 : List Nat) (E0 : Option Addr) (u0 v0 : Nat) (e0 : List Nat) (s1 : Bool) (A1 : Option Addr) (n1 c1 : Nat) (l1 : List Nat) (E1 : Option Addr) (u1 v1 : Nat) (e1 : List Nat) (s2 : Bool) (A2 : Option Addr) (n2 c2 : Nat) (l2 : List Nat) (E2 : Option Addr) (u2 v2 : Nat) (e2 : List Nat) (w : World) (h0 : zap w A0 n0 c0 l0) (k0 : zap w E0 u0 v0 e0) (h1 : zap w A1 n1 c1 l1) (k1 : zap w E1 u1 v1 e1) (h2 : zap w A2 n2 c2 l2) (k2 : zap w E2 u2 v2 e2) (x0 : fOf s0 l0 e0 = 0) (hT : T w) :
  Calls Tryz.prog 6 #[.agg #[.bool s0, .slice A0 n0 c0, .slice E0 u0 v0], .agg #[.bool s1, .slice A1 n1 c1, .slice E1 u1 v1], .agg #[.bool s2, .slice A2 n2 c2, .slice E2 u2 v2]] w fun e w' => e = .returned (.bool true) ∧ Below w.heap.size w w' := by
 have HAW := Lib.hid (fun w' (hb : Below w.heap.size w w') => zbn hTb IC QC w' (hTb w w' hT hb))
 have HIC := Lib.hid IC
 have HQC := Lib.hid QC
 have HT := Lib.hid (fun w' (hb : Below w.heap.size w w') => hTb w w' hT hb)
 obtain ⟨K, hK⟩ : ∃ K, 1048576 = K := ⟨_, rfl⟩
 have hKK : K ≤ 1048576 := by omega
 have hK0 : 0 < K := by omega
 have HM0 := Lib.hid (fun w' (hb : Below w.heap.size w w') => zaL hTb IC QC s0 A0 n0 c0 l0 E0 u0 v0 e0 w' ⟨(h0.reads.below hb).more hb.size, h0.dgs, h0.fits, h0.small⟩ ⟨(k0.reads.below hb).more hb.size, k0.dgs, k0.fits, k0.small⟩ (hTb w w' hT hb))
 have S0 : SzQ 1048576 (fOf s0 l0 e0) := zbp h0 k0
 rw [hK] at S0
 obtain ⟨x, hz0⟩ : ∃ x, fOf s0 l0 e0 = x := ⟨_, rfl⟩
 rw [hz0] at HM0 S0 x0
 have HS0 := Lib.hid S0
 have HM1 := Lib.hid (fun w' (hb : Below w.heap.size w w') => zaL hTb IC QC s1 A1 n1 c1 l1 E1 u1 v1 e1 w' ⟨(h1.reads.below hb).more hb.size, h1.dgs, h1.fits, h1.small⟩ ⟨(k1.reads.below hb).more hb.size, k1.dgs, k1.fits, k1.small⟩ (hTb w w' hT hb))
 have S1 : SzQ 1048576 (fOf s1 l1 e1) := zbp h1 k1
 rw [hK] at S1
 obtain ⟨y, hz1⟩ : ∃ x, fOf s1 l1 e1 = x := ⟨_, rfl⟩
 rw [hz1] at HM1 S1
 have HS1 := Lib.hid S1
 have HM2 := Lib.hid (fun w' (hb : Below w.heap.size w w') => zaL hTb IC QC s2 A2 n2 c2 l2 E2 u2 v2 e2 w' ⟨(h2.reads.below hb).more hb.size, h2.dgs, h2.fits, h2.small⟩ ⟨(k2.reads.below hb).more hb.size, k2.dgs, k2.fits, k2.small⟩ (hTb w w' hT hb))
 have S2 : SzQ 1048576 (fOf s2 l2 e2) := zbp h2 k2
 rw [hK] at S2
 obtain ⟨z, hz2⟩ : ∃ x, fOf s2 l2 e2 = x := ⟨_, rfl⟩
 rw [hz2] at HM2 S2
 have HS2 := Lib.hid S2
 have Hx0 := Lib.hid x0
 clear IC QC hT h0 k0 hz0 S0 h1 k1 hz1 S1 h2 k2 hz2 S2 x0 hK
 go_enter Tryz.func6, Tryz.ntmps6
 have hB := Below.refl w.heap.size w
 obtain ⟨bx1, bx2, bx3, bx4, bz⟩ := zbb w 48 48 48 #[.bool s0, .slice A0 n0 c0, .slice E0 u0 v0] #[.bool s1, .slice A1 n1 c1, .slice E1 u1 v1] #[.bool s2, .slice A2 n2 c2, .slice E2 u2 v2]
 have hB := zab hB bx1
 obtain ⟨g1, e1, i1⟩ := bx2.c3
 obtain ⟨g2, e2, i2⟩ := bx3.c3
 obtain ⟨g3, e3, i3⟩ := bx4.c3
 clear bx1 bx2 bx3 bx4 bz
 go_wp2_with fail
 generalize ((w.alloc (.cells #[.bool s0, .slice A0 n0 c0, .slice E0 u0 v0] 48)).alloc (.cells #[.bool s1, .slice A1 n1 c1, .slice E1 u1 v1] 48)).alloc (.cells #[.bool s2, .slice A2 n2 c2, .slice E2 u2 v2] 48) = W1 at *
 (with_reducible refine (HAW.out _ hB).mono ?_)
 rintro e wc2 ⟨rfl, hb⟩
 have hB := zab hB hb
 have g1 := zaa hb g1
 have e1 := zaa hb e1
 have i1 := zaa hb i1
 have g2 := zaa hb g2
 have e2 := zaa hb e2
 have i2 := zaa hb i2
 have g3 := zaa hb g3
 have e3 := zaa hb e3
 have i3 := zaa hb i3
 clear hb 
 go_wp2_with fail
 have HZ4 : Hid (SzQ (K) (x)) := HS0.out
 have C0 := Lib.hid (fun w' (h : Below wc2.heap.size wc2 w') => HM0.out _ (zab hB h))
 have HZ5 : Hid (SzQ (K) (y)) := HS1.out
 have C1 := Lib.hid (fun w' (h : Below wc2.heap.size wc2 w') => HM1.out _ (zab hB h))
 have HZ6 : Hid (SzQ (K) (z)) := HS2.out
 have C2 := Lib.hid (fun w' (h : Below wc2.heap.size wc2 w') => HM2.out _ (zab hB h))
 have GG := Lib.hid (fun w' (h : Below wc2.heap.size wc2 w') => (csc (zaa h g1) (csc (zaa h e1) (csc (zaa h i1) (csc (zaa h g2) (csc (zaa h e2) (csc (zaa h i2) (csc (zaa h g3) (csc (zaa h e3) (csc (zaa h i3) csn))))))))))
 refine rgB (fun hHeld => ?_)
 refine tl 0 GG.out ?_
 try simp only [sb]
 refine tl 2 GG.out ?_
 try simp only [sb]
 refine tl 4 GG.out ?_
 try simp only [sb]
 refine zaw (L := #[true, true, true, true, true, true, true, true, true, true, true, true])
  (J := fun a0 l a w' => ∃ (fl1 fl3 fl5 fl6 fl7 fl8 fl9 fl10 fl11 b4 : Bool) (B4 : Option Addr) (m4 d4 : Nat) (E4 : Option Addr) (u4 v4 : Nat) (b5 : Bool) (B5 : Option Addr) (m5 d5 : Nat) (E5 : Option Addr) (u5 v5 : Nat) (b6 : Bool) (B6 : Option Addr) (m6 d6 : Nat) (E6 : Option Addr) (u6 v6 ad6 ad7 ad8 : Nat), l = #[true, fl1, true, fl3, true, fl5, fl6, fl7, fl8, fl9, fl10, fl11] ∧ zaT [19, 21, 23, 7, 8, 9] a0 a ∧ Hid (Below wc2.heap.size wc2 w') ∧
    Hid (Gd fl1 (a.tmps.getD 19 undef = .agg #[.bool b4, .slice B4 m4 d4, .slice E4 u4 v4] ∧ zah w' (x) b4 B4 m4 d4 E4 u4 v4)) ∧
    Hid (Gd fl3 (a.tmps.getD 21 undef = .agg #[.bool b5, .slice B5 m5 d5, .slice E5 u5 v5] ∧ zah w' (y) b5 B5 m5 d5 E5 u5 v5)) ∧
    Hid (Gd fl5 (a.tmps.getD 23 undef = .agg #[.bool b6, .slice B6 m6 d6, .slice E6 u6 v6] ∧ zah w' (z) b6 B6 m6 d6 E6 u6 v6)) ∧
    Hid (Gd fl6 (a.tmps.getD 7 undef = .pointer (some ⟨ad6, 0, none⟩) ∧ wc2.heap.size ≤ ad6 ∧ Blk w' ad6 31 (bif fl9 then #[.bool b4, .slice B4 m4 d4, .slice E4 u4 v4] else #[.bool false, .slice none 0 0, .slice none 0 0]))) ∧
    Hid (Gd fl7 (a.tmps.getD 8 undef = .pointer (some ⟨ad7, 0, none⟩) ∧ wc2.heap.size ≤ ad7 ∧ Blk w' ad7 31 (bif fl10 then #[.bool b5, .slice B5 m5 d5, .slice E5 u5 v5] else #[.bool false, .slice none 0 0, .slice none 0 0]))) ∧
    Hid (Gd fl8 (a.tmps.getD 9 undef = .pointer (some ⟨ad8, 0, none⟩) ∧ wc2.heap.size ≤ ad8 ∧ Blk w' ad8 31 (bif fl11 then #[.bool b6, .slice B6 m6 d6, .slice E6 u6 v6] else #[.bool false, .slice none 0 0, .slice none 0 0]))) ∧
    Hid (Gd fl6 (Gd fl7 (ad6 ≠ ad7))) ∧
    Hid (Gd fl6 (Gd fl8 (ad6 ≠ ad8))) ∧
    Hid (Gd fl7 (Gd fl8 (ad7 ≠ ad8))) ∧
    Hid (Gd fl3 (fl1 = true)) ∧
    Hid (Gd fl5 (fl3 = true)) ∧
    Hid (Gd fl9 (fl1 = true)) ∧
    Hid (Gd fl9 (fl5 = true)) ∧
    Hid (Gd fl9 (fl6 = true)) ∧
    Hid (Gd fl10 (fl3 = true)) ∧
    Hid (Gd fl10 (fl7 = true)) ∧
    Hid (Gd fl10 (fl9 = true)) ∧
    Hid (Gd fl11 (fl5 = true)) ∧
    Hid (Gd fl11 (fl8 = true)) ∧
    Hid (Gd fl11 (fl10 = true)))
  (by rfl) ?_ ?_ ?_
 ·exact ⟨false, false, false, false, false, false, false, false, false, false, none, 0, 0, none, 0, 0, false, none, 0, 0, none, 0, 0, false, none, 0, 0, none, 0, 0, 0, 0, 0, by kernel_rfl, zaT.refl _ _, hHeld, Gd.no, Gd.no, Gd.no, Gd.no, Gd.no, Gd.no, Gd.no, Gd.no, Gd.no, Gd.no, Gd.no, Gd.no, Gd.no, Gd.no, Gd.no, Gd.no, Gd.no, Gd.no, Gd.no, Gd.no⟩
 ·intro OPS Ac0 Q0 hO hAs hA
  have RB18 : Ac0.tmps.getD 18 undef = .agg #[.bool s0, .slice A0 n0 c0, .slice E0 u0 v0] := (hA 18 undef).trans (by kernel_rfl)
  have RB20 : Ac0.tmps.getD 20 undef = .agg #[.bool s1, .slice A1 n1 c1, .slice E1 u1 v1] := (hA 20 undef).trans (by kernel_rfl)
  have RB22 : Ac0.tmps.getD 22 undef = .agg #[.bool s2, .slice A2 n2 c2, .slice E2 u2 v2] := (hA 22 undef).trans (by kernel_rfl)
  have hsz : Ac0.tmps.size = 119 := hAs.trans (by kernel_rfl)
  clear hAs hA
  refine ⟨?_, ?_⟩
  ·rintro l a w' ⟨fl1, fl3, fl5, fl6, fl7, fl8, fl9, fl10, fl11, b4, B4, m4, d4, E4, u4, v4, b5, B5, m5, d5, E5, u5, v5, b6, B6, m6, d6, E6, u6, v6, ad6, ad7, ad8, rfl, -⟩ hr
   obtain rfl : fl1 = true := als 1 hr hO
   obtain rfl : fl3 = true := als 3 hr hO
   obtain rfl : fl5 = true := als 5 hr hO
   obtain rfl : fl6 = true := als 6 hr hO
   obtain rfl : fl7 = true := als 7 hr hO
   obtain rfl : fl8 = true := als 8 hr hO
   obtain rfl : fl9 = true := als 9 hr hO
   obtain rfl : fl10 = true := als 10 hr hO
   obtain rfl : fl11 = true := als 11 hr hO
   rfl
  ·rintro l a w' i ⟨fl1, fl3, fl5, fl6, fl7, fl8, fl9, fl10, fl11, b4, B4, m4, d4, E4, u4, v4, b5, B5, m5, d5, E5, u5, v5, b6, B6, m6, d6, E6, u6, v6, ad6, ad7, ad8, rfl, HKp, hBi, qf1, qf3, qf5, qf6, qf7, qf8, qn6_7, qn6_8, qn7_8, qd3_1, qd5_3, qd9_1, qd9_5, qd9_6, qd10_3, qd10_7, qd10_9, qd11_5, qd11_8, qd11_10⟩ hne hi
   have hlt : i < 12 := by have := zaJ hi; rw [hO] at this; exact this
   rcases (show i = 0 ∨ i = 1 ∨ i = 2 ∨ i = 3 ∨ i = 4 ∨ i = 5 ∨ i = 6 ∨ i = 7 ∨ i = 8 ∨ i = 9 ∨ i = 10 ∨ i = 11 by omega) with rfl | rfl | rfl | rfl | rfl | rfl | rfl | rfl | rfl | rfl | rfl | rfl
   ·cases (zad hi : true = false)
   ·obtain rfl : fl1 = false := zad hi
    obtain rfl : fl3 = false := Gd.off qd3_1.out
    obtain rfl : fl5 = false := Gd.off qd5_3.out
    obtain rfl : fl9 = false := Gd.off qd9_1.out
    obtain rfl : fl10 = false := Gd.off qd10_3.out
    obtain rfl : fl11 = false := Gd.off qd11_5.out
    have rd18 := HKp.get 18 (by decide) RB18
    refine wog hO (fun K' hK => ?_)
    go_simp
    refine (C0.out w' hBi.out).mono ?_
    rintro e w2 ⟨nb4, nB4, nm4, nd4, nE4, nu4, nv4, rfl, nhw4, hb⟩
    exact hK.out _ _ ⟨zab hBi.out hb, true, false, false, fl6, fl7, fl8, false, false, false, nb4, nB4, nm4, nd4, nE4, nu4, nv4, b5, B5, m5, d5, E5, u5, v5, b6, B6, m6, d6, E6, u6, v6, ad6, ad7, ad8, by rfl, HKp.put (by decide) _, zab hBi.out hb, Gd.yes ⟨zal (HKp.lt (by rw [hsz]; decide)) _, nhw4⟩, Gd.no, Gd.no, kq qf6.out fun h => ⟨h.1, zac hb h.2⟩, kq qf7.out fun h => ⟨h.1, zac hb h.2⟩, kq qf8.out fun h => ⟨h.1, zac hb h.2⟩, qn6_7, qn6_8, qn7_8, Gd.no, Gd.no, Gd.no, Gd.no, Gd.no, Gd.no, Gd.no, Gd.no, Gd.no, Gd.no, Gd.no⟩
   ·cases (zad hi : true = false)
   ·obtain rfl : fl3 = false := zad hi
    obtain rfl : fl1 = true := rdp 1 1 hi hO
    obtain rfl : fl5 = false := Gd.off qd5_3.out
    obtain rfl : fl9 = false := Gd.off qd9_5.out
    obtain rfl : fl10 = false := Gd.off qd10_3.out
    obtain rfl : fl11 = false := Gd.off qd11_5.out
    have rd20 := HKp.get 20 (by decide) RB20
    refine wog hO (fun K' hK => ?_)
    go_simp
    refine (C1.out w' hBi.out).mono ?_
    rintro e w2 ⟨nb5, nB5, nm5, nd5, nE5, nu5, nv5, rfl, nhw5, hb⟩
    exact hK.out _ _ ⟨zab hBi.out hb, true, true, false, fl6, fl7, fl8, false, false, false, b4, B4, m4, d4, E4, u4, v4, nb5, nB5, nm5, nd5, nE5, nu5, nv5, b6, B6, m6, d6, E6, u6, v6, ad6, ad7, ad8, by rfl, HKp.put (by decide) _, zab hBi.out hb, kq qf1.out fun h => (h).below hb, Gd.yes ⟨zal (HKp.lt (by rw [hsz]; decide)) _, nhw5⟩, Gd.no, kq qf6.out fun h => ⟨h.1, zac hb h.2⟩, kq qf7.out fun h => ⟨h.1, zac hb h.2⟩, kq qf8.out fun h => ⟨h.1, zac hb h.2⟩, qn6_7, qn6_8, qn7_8, fun _ => rfl, Gd.no, Gd.no, Gd.no, Gd.no, Gd.no, Gd.no, Gd.no, Gd.no, Gd.no, Gd.no⟩
   ·cases (zad hi : true = false)
   ·obtain rfl : fl5 = false := zad hi
    obtain rfl : fl3 = true := rdp 3 1 hi hO
    obtain rfl : fl1 = true := qd3_1.out.get
    obtain rfl : fl9 = false := Gd.off qd9_5.out
    obtain rfl : fl10 = false := Gd.off qd10_9.out
    obtain rfl : fl11 = false := Gd.off qd11_5.out
    have rd22 := HKp.get 22 (by decide) RB22
    refine wog hO (fun K' hK => ?_)
    go_simp
    refine (C2.out w' hBi.out).mono ?_
    rintro e w2 ⟨nb6, nB6, nm6, nd6, nE6, nu6, nv6, rfl, nhw6, hb⟩
    exact hK.out _ _ ⟨zab hBi.out hb, true, true, true, fl6, fl7, fl8, false, false, false, b4, B4, m4, d4, E4, u4, v4, b5, B5, m5, d5, E5, u5, v5, nb6, nB6, nm6, nd6, nE6, nu6, nv6, ad6, ad7, ad8, by rfl, HKp.put (by decide) _, zab hBi.out hb, kq qf1.out fun h => (h).below hb, kq qf3.out fun h => (h).below hb, Gd.yes ⟨zal (HKp.lt (by rw [hsz]; decide)) _, nhw6⟩, kq qf6.out fun h => ⟨h.1, zac hb h.2⟩, kq qf7.out fun h => ⟨h.1, zac hb h.2⟩, kq qf8.out fun h => ⟨h.1, zac hb h.2⟩, qn6_7, qn6_8, qn7_8, fun _ => rfl, fun _ => rfl, Gd.no, Gd.no, Gd.no, Gd.no, Gd.no, Gd.no, Gd.no, Gd.no, Gd.no⟩
   ·obtain rfl : fl6 = false := zad hi
    obtain rfl : fl9 = false := Gd.off qd9_6.out
    obtain rfl : fl10 = false := Gd.off qd10_9.out
    obtain rfl : fl11 = false := Gd.off qd11_10.out
    refine wog hO (fun K' hK => ?_)
    go_simp
    have hb := zau w' (.cells #[.bool false, .slice none 0 0, .slice none 0 0] 31)
    exact hK.out _ _ ⟨zab hBi.out hb, fl1, fl3, fl5, true, fl7, fl8, false, false, false, b4, B4, m4, d4, E4, u4, v4, b5, B5, m5, d5, E5, u5, v5, b6, B6, m6, d6, E6, u6, v6, w'.heap.size, ad7, ad8, by rfl, HKp.put (by decide) _, zab hBi.out hb, kq qf1.out fun h => (h).below hb, kq qf3.out fun h => (h).below hb, kq qf5.out fun h => (h).below hb, Gd.yes ⟨zal (HKp.lt (by rw [hsz]; decide)) _, hBi.out.size, Blk.new w' _ _⟩, kq qf7.out fun h => ⟨h.1, zac hb h.2⟩, kq qf8.out fun h => ⟨h.1, zac hb h.2⟩, Gd.yes (qf7.out.mono fun h => by have := Blk.lt h.2.2; omega), Gd.yes (qf8.out.mono fun h => by have := Blk.lt h.2.2; omega), qn7_8, qd3_1, qd5_3, Gd.no, Gd.no, Gd.no, Gd.no, Gd.no, Gd.no, Gd.no, Gd.no, Gd.no⟩
   ·obtain rfl : fl7 = false := zad hi
    obtain rfl : fl10 = false := Gd.off qd10_7.out
    obtain rfl : fl11 = false := Gd.off qd11_10.out
    refine wog hO (fun K' hK => ?_)
    go_simp
    have hb := zau w' (.cells #[.bool false, .slice none 0 0, .slice none 0 0] 31)
    exact hK.out _ _ ⟨zab hBi.out hb, fl1, fl3, fl5, fl6, true, fl8, fl9, false, false, b4, B4, m4, d4, E4, u4, v4, b5, B5, m5, d5, E5, u5, v5, b6, B6, m6, d6, E6, u6, v6, ad6, w'.heap.size, ad8, by rfl, HKp.put (by decide) _, zab hBi.out hb, kq qf1.out fun h => (h).below hb, kq qf3.out fun h => (h).below hb, kq qf5.out fun h => (h).below hb, kq qf6.out fun h => ⟨h.1, zac hb h.2⟩, Gd.yes ⟨zal (HKp.lt (by rw [hsz]; decide)) _, hBi.out.size, Blk.new w' _ _⟩, kq qf8.out fun h => ⟨h.1, zac hb h.2⟩, qf6.out.mono fun h => Gd.yes (by have := Blk.lt h.2.2; omega), qn6_8, Gd.yes (qf8.out.mono fun h => by have := Blk.lt h.2.2; omega), qd3_1, qd5_3, qd9_1, qd9_5, qd9_6, Gd.no, Gd.no, Gd.no, Gd.no, Gd.no, Gd.no⟩
   ·obtain rfl : fl8 = false := zad hi
    obtain rfl : fl11 = false := Gd.off qd11_8.out
    refine wog hO (fun K' hK => ?_)
    go_simp
    have hb := zau w' (.cells #[.bool false, .slice none 0 0, .slice none 0 0] 31)
    exact hK.out _ _ ⟨zab hBi.out hb, fl1, fl3, fl5, fl6, fl7, true, fl9, fl10, false, b4, B4, m4, d4, E4, u4, v4, b5, B5, m5, d5, E5, u5, v5, b6, B6, m6, d6, E6, u6, v6, ad6, ad7, w'.heap.size, by rfl, HKp.put (by decide) _, zab hBi.out hb, kq qf1.out fun h => (h).below hb, kq qf3.out fun h => (h).below hb, kq qf5.out fun h => (h).below hb, kq qf6.out fun h => ⟨h.1, zac hb h.2⟩, kq qf7.out fun h => ⟨h.1, zac hb h.2⟩, Gd.yes ⟨zal (HKp.lt (by rw [hsz]; decide)) _, hBi.out.size, Blk.new w' _ _⟩, qn6_7, qf6.out.mono fun h => Gd.yes (by have := Blk.lt h.2.2; omega), qf7.out.mono fun h => Gd.yes (by have := Blk.lt h.2.2; omega), qd3_1, qd5_3, qd9_1, qd9_5, qd9_6, qd10_3, qd10_7, qd10_9, Gd.no, Gd.no, Gd.no⟩
   ·obtain rfl : fl9 = false := zad hi
    obtain rfl : fl1 = true := rdp 1 1 hi hO
    obtain rfl : fl5 = true := rdp 5 2 hi hO
    obtain rfl : fl6 = true := rdp 6 0 hi hO
    obtain rfl : fl7 = true := rdp 7 10 hi hO
    obtain rfl : fl8 = true := rdp 8 11 hi hO
    obtain rfl : fl3 = true := qd5_3.out.get
    obtain rfl : fl10 = false := Gd.off qd10_9.out
    obtain rfl : fl11 = false := Gd.off qd11_10.out
    have rd7 := qf6.out.get.1
    have rd19 := qf1.out.get.1
    obtain ⟨_, hg, hk⟩ := qf6.out.get
    have hk : Blk w' ad6 31 #[.bool false, .slice none 0 0, .slice none 0 0] := hk
    obtain ⟨sc0, sf0, sc1, sf1, sc2, sf2⟩ := st3 hk (.bool b4) (.slice B4 m4 d4)
    have hj2 := sn3 hk (.bool b4) (.slice B4 m4 d4) (.slice E4 u4 v4)
    have hBn := bl3 (.bool b4) (.slice B4 m4 d4) (.slice E4 u4 v4) hg hBi.out
    refine wog hO (fun K' hK => ?_)
    go_simp
    exact hK.out _ _ ⟨hBn, true, true, true, true, true, true, true, false, false, b4, B4, m4, d4, E4, u4, v4, b5, B5, m5, d5, E5, u5, v5, b6, B6, m6, d6, E6, u6, v6, ad6, ad7, ad8, by rfl, HKp, hBn, qf1.out.mono fun h => ⟨h.1, zar (h.2) hk zaK (zaI _ _ _ _ _)⟩, qf3.out.mono fun h => ⟨h.1, zar (h.2) hk zaK (zaI _ _ _ _ _)⟩, qf5.out.mono fun h => ⟨h.1, zar (h.2) hk zaK (zaI _ _ _ _ _)⟩, qf6.out.mono fun h => ⟨h.1, h.2.1, hj2⟩, fun hf9 => (fun h => ⟨h.1, h.2.1, Blk.far (p := ⟨ad6, 2, none⟩) (Blk.far (p := ⟨ad6, 1, none⟩) (Blk.far (p := ⟨ad6, 0, none⟩) (h.2.2) (Ne.symm (qn6_7.out rfl hf9)) (.bool b4)) (Ne.symm (qn6_7.out rfl hf9)) (.slice B4 m4 d4)) (Ne.symm (qn6_7.out rfl hf9)) (.slice E4 u4 v4)⟩) (qf7.out hf9), fun hf9 => (fun h => ⟨h.1, h.2.1, Blk.far (p := ⟨ad6, 2, none⟩) (Blk.far (p := ⟨ad6, 1, none⟩) (Blk.far (p := ⟨ad6, 0, none⟩) (h.2.2) (Ne.symm (qn6_8.out rfl hf9)) (.bool b4)) (Ne.symm (qn6_8.out rfl hf9)) (.slice B4 m4 d4)) (Ne.symm (qn6_8.out rfl hf9)) (.slice E4 u4 v4)⟩) (qf8.out hf9), qn6_7, qn6_8, qn7_8, fun _ => rfl, fun _ => rfl, fun _ => rfl, fun _ => rfl, fun _ => rfl, Gd.no, Gd.no, Gd.no, Gd.no, Gd.no, Gd.no⟩
   ·obtain rfl : fl10 = false := zad hi
    obtain rfl : fl1 = true := rdp 1 4 hi hO
    obtain rfl : fl3 = true := rdp 3 1 hi hO
    obtain rfl : fl6 = true := rdp 6 9 hi hO
    obtain rfl : fl7 = true := rdp 7 0 hi hO
    obtain rfl : fl8 = true := rdp 8 11 hi hO
    obtain rfl : fl9 = true := rdp 9 2 hi hO
    obtain rfl : fl5 = true := qd9_5.out.get
    obtain rfl : fl11 = false := Gd.off qd11_10.out
    have rd8 := qf7.out.get.1
    have rd21 := qf3.out.get.1
    obtain ⟨_, hg, hk⟩ := qf7.out.get
    have hk : Blk w' ad7 31 #[.bool false, .slice none 0 0, .slice none 0 0] := hk
    obtain ⟨sc0, sf0, sc1, sf1, sc2, sf2⟩ := st3 hk (.bool b5) (.slice B5 m5 d5)
    have hj2 := sn3 hk (.bool b5) (.slice B5 m5 d5) (.slice E5 u5 v5)
    have hBn := bl3 (.bool b5) (.slice B5 m5 d5) (.slice E5 u5 v5) hg hBi.out
    refine wog hO (fun K' hK => ?_)
    go_simp
    exact hK.out _ _ ⟨hBn, true, true, true, true, true, true, true, true, false, b4, B4, m4, d4, E4, u4, v4, b5, B5, m5, d5, E5, u5, v5, b6, B6, m6, d6, E6, u6, v6, ad6, ad7, ad8, by rfl, HKp, hBn, qf1.out.mono fun h => ⟨h.1, zar (h.2) hk zaK (zaI _ _ _ _ _)⟩, qf3.out.mono fun h => ⟨h.1, zar (h.2) hk zaK (zaI _ _ _ _ _)⟩, qf5.out.mono fun h => ⟨h.1, zar (h.2) hk zaK (zaI _ _ _ _ _)⟩, fun hf9 => (fun h => ⟨h.1, h.2.1, Blk.far (p := ⟨ad7, 2, none⟩) (Blk.far (p := ⟨ad7, 1, none⟩) (Blk.far (p := ⟨ad7, 0, none⟩) (h.2.2) (qn6_7.out hf9 rfl) (.bool b5)) (qn6_7.out hf9 rfl) (.slice B5 m5 d5)) (qn6_7.out hf9 rfl) (.slice E5 u5 v5)⟩) (qf6.out hf9), qf7.out.mono fun h => ⟨h.1, h.2.1, hj2⟩, fun hf9 => (fun h => ⟨h.1, h.2.1, Blk.far (p := ⟨ad7, 2, none⟩) (Blk.far (p := ⟨ad7, 1, none⟩) (Blk.far (p := ⟨ad7, 0, none⟩) (h.2.2) (Ne.symm (qn7_8.out rfl hf9)) (.bool b5)) (Ne.symm (qn7_8.out rfl hf9)) (.slice B5 m5 d5)) (Ne.symm (qn7_8.out rfl hf9)) (.slice E5 u5 v5)⟩) (qf8.out hf9), qn6_7, qn6_8, qn7_8, fun _ => rfl, fun _ => rfl, fun _ => rfl, fun _ => rfl, fun _ => rfl, fun _ => rfl, fun _ => rfl, fun _ => rfl, Gd.no, Gd.no, Gd.no⟩
   ·obtain rfl : fl11 = false := zad hi
    obtain rfl : fl1 = true := rdp 1 4 hi hO
    obtain rfl : fl3 = true := rdp 3 6 hi hO
    obtain rfl : fl5 = true := rdp 5 1 hi hO
    obtain rfl : fl6 = true := rdp 6 9 hi hO
    obtain rfl : fl7 = true := rdp 7 10 hi hO
    obtain rfl : fl8 = true := rdp 8 0 hi hO
    obtain rfl : fl9 = true := rdp 9 12 hi hO
    obtain rfl : fl10 = true := rdp 10 2 hi hO
    have rd9 := qf8.out.get.1
    have rd23 := qf5.out.get.1
    obtain ⟨_, hg, hk⟩ := qf8.out.get
    have hk : Blk w' ad8 31 #[.bool false, .slice none 0 0, .slice none 0 0] := hk
    obtain ⟨sc0, sf0, sc1, sf1, sc2, sf2⟩ := st3 hk (.bool b6) (.slice B6 m6 d6)
    have hj2 := sn3 hk (.bool b6) (.slice B6 m6 d6) (.slice E6 u6 v6)
    have hBn := bl3 (.bool b6) (.slice B6 m6 d6) (.slice E6 u6 v6) hg hBi.out
    refine wog hO (fun K' hK => ?_)
    go_simp
    exact hK.out _ _ ⟨hBn, true, true, true, true, true, true, true, true, true, b4, B4, m4, d4, E4, u4, v4, b5, B5, m5, d5, E5, u5, v5, b6, B6, m6, d6, E6, u6, v6, ad6, ad7, ad8, by rfl, HKp, hBn, qf1.out.mono fun h => ⟨h.1, zar (h.2) hk zaK (zaI _ _ _ _ _)⟩, qf3.out.mono fun h => ⟨h.1, zar (h.2) hk zaK (zaI _ _ _ _ _)⟩, qf5.out.mono fun h => ⟨h.1, zar (h.2) hk zaK (zaI _ _ _ _ _)⟩, fun hf9 => (fun h => ⟨h.1, h.2.1, Blk.far (p := ⟨ad8, 2, none⟩) (Blk.far (p := ⟨ad8, 1, none⟩) (Blk.far (p := ⟨ad8, 0, none⟩) (h.2.2) (qn6_8.out hf9 rfl) (.bool b6)) (qn6_8.out hf9 rfl) (.slice B6 m6 d6)) (qn6_8.out hf9 rfl) (.slice E6 u6 v6)⟩) (qf6.out hf9), fun hf9 => (fun h => ⟨h.1, h.2.1, Blk.far (p := ⟨ad8, 2, none⟩) (Blk.far (p := ⟨ad8, 1, none⟩) (Blk.far (p := ⟨ad8, 0, none⟩) (h.2.2) (qn7_8.out hf9 rfl) (.bool b6)) (qn7_8.out hf9 rfl) (.slice B6 m6 d6)) (qn7_8.out hf9 rfl) (.slice E6 u6 v6)⟩) (qf7.out hf9), qf8.out.mono fun h => ⟨h.1, h.2.1, hj2⟩, qn6_7, qn6_8, qn7_8, fun _ => rfl, fun _ => rfl, fun _ => rfl, fun _ => rfl, fun _ => rfl, fun _ => rfl, fun _ => rfl, fun _ => rfl, fun _ => rfl, fun _ => rfl, fun _ => rfl⟩
 rintro a wm3 ⟨fl1, fl3, fl5, fl6, fl7, fl8, fl9, fl10, fl11, b4, B4, m4, d4, E4, u4, v4, b5, B5, m5, d5, E5, u5, v5, b6, B6, m6, d6, E6, u6, v6, ad6, ad7, ad8, hl, HKp, hBi, qf1, qf3, qf5, qf6, qf7, qf8, qn6_7, qn6_8, qn7_8, qd3_1, qd5_3, qd9_1, qd9_5, qd9_6, qd10_3, qd10_7, qd10_9, qd11_5, qd11_8, qd11_10⟩
 have xx1 : fl1 = true := gdl 1 hl
 subst xx1
 have xx3 : fl3 = true := gdl 3 hl
 subst xx3
 have xx5 : fl5 = true := gdl 5 hl
 subst xx5
 have xx6 : fl6 = true := gdl 6 hl
 subst xx6
 have xx7 : fl7 = true := gdl 7 hl
 subst xx7
 have xx8 : fl8 = true := gdl 8 hl
 subst xx8
 have xx9 : fl9 = true := gdl 9 hl
 subst xx9
 have xx10 : fl10 = true := gdl 10 hl
 subst xx10
 have xx11 : fl11 = true := gdl 11 hl
 subst xx11
 obtain ⟨rv1, hw4⟩ := qf1.out.get
 obtain ⟨rv3, hw5⟩ := qf3.out.get
 obtain ⟨rv5, hw6⟩ := qf5.out.get
 obtain ⟨rv6, hg6, hk6⟩ := qf6.out.get
 obtain ⟨rv7, hg7, hk7⟩ := qf7.out.get
 obtain ⟨rv8, hg8, hk8⟩ := qf8.out.get
 obtain rfl := HKp.eq [(19, .agg #[.bool b4, .slice B4 m4 d4, .slice E4 u4 v4]), (21, .agg #[.bool b5, .slice B5 m5 d5, .slice E5 u5 v5]), (23, .agg #[.bool b6, .slice B6 m6 d6, .slice E6 u6 v6]), (7, .pointer (some ⟨ad6, 0, none⟩)), (8, .pointer (some ⟨ad7, 0, none⟩)), (9, .pointer (some ⟨ad8, 0, none⟩))] rfl (by
  intro p hp
  simp only [List.mem_cons, List.not_mem_nil, or_false] at hp
  rcases hp with rfl | rfl | rfl | rfl | rfl | rfl
  ·exact rv1
  ·exact rv3
  ·exact rv5
  ·exact rv6
  ·exact rv7
  ·exact rv8)
 have hBv := hBi.out
 clear hl hBi HKp qf1 qf3 qf5 qf6 qf7 qf8 qn6_7 qn6_8 qn7_8 qd3_1 qd5_3 qd9_1 qd9_5 qd9_6 qd10_3 qd10_7 qd10_9 qd11_5 qd11_8 qd11_10 rv1 rv3 rv5 rv6 rv7 rv8
 have hk6 : Blk wm3 ad6 31 #[.bool b4, .slice B4 m4 d4, .slice E4 u4 v4] := hk6
 have hk7 : Blk wm3 ad7 31 #[.bool b5, .slice B5 m5 d5, .slice E5 u5 v5] := hk7
 have hk8 : Blk wm3 ad8 31 #[.bool b6, .slice B6 m6 d6, .slice E6 u6 v6] := hk8
 rw [show due #[true, true, true, true, true, true, true, true, true, true, true, true] = 0 from rfl]
 simp only [zaR, List.foldl, Act.put, List.setIfInBounds_toArray, List.set_cons_zero, List.set_cons_succ]
 refine wpAnyH_done (by kernel_rfl) ?_ _
 refine NoPanic.normal ?_
 have hB := zab hB hBv
 have g1 := zaa hBv g1
 have e1 := zaa hBv e1
 have i1 := zaa hBv i1
 have g2 := zaa hBv g2
 have e2 := zaa hBv e2
 have i2 := zaa hBv i2
 have g3 := zaa hBv g3
 have e3 := zaa hBv e3
 have i3 := zaa hBv i3
 obtain ⟨ad6_7, hga⟩ : ∃ x, x = ad6 := ⟨_, rfl⟩
 subst hga
 obtain ⟨g7, e7, i7⟩ := hk6.c3
 obtain ⟨ad7_8, hga⟩ : ∃ x, x = ad7 := ⟨_, rfl⟩
 subst hga
 obtain ⟨g8, e8, i8⟩ := hk7.c3
 obtain ⟨ad8_9, hga⟩ : ∃ x, x = ad8 := ⟨_, rfl⟩
 subst hga
 obtain ⟨g9, e9, i9⟩ := hk8.c3
 have HN4 := Lib.hid hw4
 have HN5 := Lib.hid hw5
 have HN6 := Lib.hid hw6
 clear hBv hk6 hg6 hk7 hg7 hk8 hg8 hw4 hw5 hw6 GG
 clear C0 C1 C2
 go_wp2_with fail
 have HZ10 : Hid (SzQ (K + K + 1) (x + y)) := SzQ.add HZ4.out HZ5.out
 have C0 := Lib.hid (fun w' (h : Below wm3.heap.size wm3 w') => HQC.out.add (x) (y) b4 b5 B4 B5 m4 m5 d4 d5 E4 E5 u4 u5 v4 v5 w' (HT.out _ (zab hB h)) (HN4.out.below h) (HN5.out.below h) (SzQ.fit HZ4.out HN4.out (by omega)) (SzQ.fit HZ5.out HN5.out (by omega)))
 have HZ11 : Hid (SzQ (K + K) (x * y)) := SzQ.mul HZ4.out HZ5.out
 have C1 := Lib.hid (fun w' (h : Below wm3.heap.size wm3 w') => HQC.out.mul (x) (y) b4 b5 B4 B5 m4 m5 d4 d5 E4 E5 u4 u5 v4 v5 w' (HT.out _ (zab hB h)) (HN4.out.below h) (HN5.out.below h) (SzQ.fit HZ4.out HN4.out (by omega)) (SzQ.fit HZ5.out HN5.out (by omega)))
 have GG := Lib.hid (fun w' (h : Below wm3.heap.size wm3 w') => (csc (zaa h g7) (csc (zaa h e7) (csc (zaa h i7) (csc (zaa h g8) (csc (zaa h e8) (csc (zaa h i8) csn)))))))
 refine rgB (fun hHeld => ?_)
 refine tl 0 GG.out ?_
 try simp only [sb]
 refine tl 1 GG.out ?_
 try simp only [sb]
 refine tl 3 GG.out ?_
 try simp only [sb]
 refine tl 4 GG.out ?_
 try simp only [sb]
 refine zaw (L := #[true, true, true, true, true, true, true, true, true, true])
  (J := fun a0 l a w' => ∃ (fl2 fl5 fl6 fl7 fl8 fl9 b10 : Bool) (B10 : Option Addr) (m10 d10 : Nat) (E10 : Option Addr) (u10 v10 : Nat) (b11 : Bool) (B11 : Option Addr) (m11 d11 : Nat) (E11 : Option Addr) (u11 v11 ad6 ad7 : Nat), l = #[true, true, fl2, true, true, fl5, fl6, fl7, fl8, fl9] ∧ zaT [26, 29, 10, 11] a0 a ∧ Hid (Below wm3.heap.size wm3 w') ∧
    Hid (Gd fl2 (a.tmps.getD 26 undef = .agg #[.bool b10, .slice B10 m10 d10, .slice E10 u10 v10] ∧ zah w' (x + y) b10 B10 m10 d10 E10 u10 v10)) ∧
    Hid (Gd fl5 (a.tmps.getD 29 undef = .agg #[.bool b11, .slice B11 m11 d11, .slice E11 u11 v11] ∧ zah w' (x * y) b11 B11 m11 d11 E11 u11 v11)) ∧
    Hid (Gd fl6 (a.tmps.getD 10 undef = .pointer (some ⟨ad6, 0, none⟩) ∧ wm3.heap.size ≤ ad6 ∧ Blk w' ad6 31 (bif fl8 then #[.bool b10, .slice B10 m10 d10, .slice E10 u10 v10] else #[.bool false, .slice none 0 0, .slice none 0 0]))) ∧
    Hid (Gd fl7 (a.tmps.getD 11 undef = .pointer (some ⟨ad7, 0, none⟩) ∧ wm3.heap.size ≤ ad7 ∧ Blk w' ad7 31 (bif fl9 then #[.bool b11, .slice B11 m11 d11, .slice E11 u11 v11] else #[.bool false, .slice none 0 0, .slice none 0 0]))) ∧
    Hid (Gd fl6 (Gd fl7 (ad6 ≠ ad7))) ∧
    Hid (Gd fl5 (fl2 = true)) ∧
    Hid (Gd fl8 (fl2 = true)) ∧
    Hid (Gd fl8 (fl5 = true)) ∧
    Hid (Gd fl8 (fl6 = true)) ∧
    Hid (Gd fl9 (fl5 = true)) ∧
    Hid (Gd fl9 (fl7 = true)) ∧
    Hid (Gd fl9 (fl8 = true)))
  (by rfl) ?_ ?_ ?_
 ·exact ⟨false, false, false, false, false, false, false, none, 0, 0, none, 0, 0, false, none, 0, 0, none, 0, 0, 0, 0, by kernel_rfl, zaT.refl _ _, hHeld, Gd.no, Gd.no, Gd.no, Gd.no, Gd.no, Gd.no, Gd.no, Gd.no, Gd.no, Gd.no, Gd.no, Gd.no⟩
 ·intro OPS Ac0 Q0 hO hAs hA
  have RB24 : Ac0.tmps.getD 24 undef = .agg #[.bool b4, .slice B4 m4 d4, .slice E4 u4 v4] := (hA 24 undef).trans (by kernel_rfl)
  have RB25 : Ac0.tmps.getD 25 undef = .agg #[.bool b5, .slice B5 m5 d5, .slice E5 u5 v5] := (hA 25 undef).trans (by kernel_rfl)
  have RB27 : Ac0.tmps.getD 27 undef = .agg #[.bool b4, .slice B4 m4 d4, .slice E4 u4 v4] := (hA 27 undef).trans (by kernel_rfl)
  have RB28 : Ac0.tmps.getD 28 undef = .agg #[.bool b5, .slice B5 m5 d5, .slice E5 u5 v5] := (hA 28 undef).trans (by kernel_rfl)
  have hsz : Ac0.tmps.size = 119 := hAs.trans (by kernel_rfl)
  clear hAs hA
  refine ⟨?_, ?_⟩
  ·rintro l a w' ⟨fl2, fl5, fl6, fl7, fl8, fl9, b10, B10, m10, d10, E10, u10, v10, b11, B11, m11, d11, E11, u11, v11, ad6, ad7, rfl, -⟩ hr
   obtain rfl : fl2 = true := als 2 hr hO
   obtain rfl : fl5 = true := als 5 hr hO
   obtain rfl : fl6 = true := als 6 hr hO
   obtain rfl : fl7 = true := als 7 hr hO
   obtain rfl : fl8 = true := als 8 hr hO
   obtain rfl : fl9 = true := als 9 hr hO
   rfl
  ·rintro l a w' i ⟨fl2, fl5, fl6, fl7, fl8, fl9, b10, B10, m10, d10, E10, u10, v10, b11, B11, m11, d11, E11, u11, v11, ad6, ad7, rfl, HKp, hBi, qf2, qf5, qf6, qf7, qn6_7, qd5_2, qd8_2, qd8_5, qd8_6, qd9_5, qd9_7, qd9_8⟩ hne hi
   have hlt : i < 10 := by have := zaJ hi; rw [hO] at this; exact this
   rcases (show i = 0 ∨ i = 1 ∨ i = 2 ∨ i = 3 ∨ i = 4 ∨ i = 5 ∨ i = 6 ∨ i = 7 ∨ i = 8 ∨ i = 9 by omega) with rfl | rfl | rfl | rfl | rfl | rfl | rfl | rfl | rfl | rfl
   ·cases (zad hi : true = false)
   ·cases (zad hi : true = false)
   ·obtain rfl : fl2 = false := zad hi
    obtain rfl : fl5 = false := Gd.off qd5_2.out
    obtain rfl : fl8 = false := Gd.off qd8_2.out
    obtain rfl : fl9 = false := Gd.off qd9_5.out
    have rd24 := HKp.get 24 (by decide) RB24
    have rd25 := HKp.get 25 (by decide) RB25
    refine wog hO (fun K' hK => ?_)
    go_simp
    refine (C0.out w' hBi.out).mono ?_
    rintro e w2 ⟨nb10, nB10, nm10, nd10, nE10, nu10, nv10, rfl, nhw10, hb⟩
    exact hK.out _ _ ⟨zab hBi.out hb, true, false, fl6, fl7, false, false, nb10, nB10, nm10, nd10, nE10, nu10, nv10, b11, B11, m11, d11, E11, u11, v11, ad6, ad7, by rfl, HKp.put (by decide) _, zab hBi.out hb, Gd.yes ⟨zal (HKp.lt (by rw [hsz]; decide)) _, nhw10⟩, Gd.no, kq qf6.out fun h => ⟨h.1, zac hb h.2⟩, kq qf7.out fun h => ⟨h.1, zac hb h.2⟩, qn6_7, Gd.no, Gd.no, Gd.no, Gd.no, Gd.no, Gd.no, Gd.no⟩
   ·cases (zad hi : true = false)
   ·cases (zad hi : true = false)
   ·obtain rfl : fl5 = false := zad hi
    obtain rfl : fl2 = true := rdp 2 2 hi hO
    obtain rfl : fl8 = false := Gd.off qd8_5.out
    obtain rfl : fl9 = false := Gd.off qd9_5.out
    have rd27 := HKp.get 27 (by decide) RB27
    have rd28 := HKp.get 28 (by decide) RB28
    refine wog hO (fun K' hK => ?_)
    go_simp
    refine (C1.out w' hBi.out).mono ?_
    rintro e w2 ⟨nb11, nB11, nm11, nd11, nE11, nu11, nv11, rfl, nhw11, hb⟩
    exact hK.out _ _ ⟨zab hBi.out hb, true, true, fl6, fl7, false, false, b10, B10, m10, d10, E10, u10, v10, nb11, nB11, nm11, nd11, nE11, nu11, nv11, ad6, ad7, by rfl, HKp.put (by decide) _, zab hBi.out hb, kq qf2.out fun h => (h).below hb, Gd.yes ⟨zal (HKp.lt (by rw [hsz]; decide)) _, nhw11⟩, kq qf6.out fun h => ⟨h.1, zac hb h.2⟩, kq qf7.out fun h => ⟨h.1, zac hb h.2⟩, qn6_7, fun _ => rfl, Gd.no, Gd.no, Gd.no, Gd.no, Gd.no, Gd.no⟩
   ·obtain rfl : fl6 = false := zad hi
    obtain rfl : fl8 = false := Gd.off qd8_6.out
    obtain rfl : fl9 = false := Gd.off qd9_8.out
    refine wog hO (fun K' hK => ?_)
    go_simp
    have hb := zau w' (.cells #[.bool false, .slice none 0 0, .slice none 0 0] 31)
    exact hK.out _ _ ⟨zab hBi.out hb, fl2, fl5, true, fl7, false, false, b10, B10, m10, d10, E10, u10, v10, b11, B11, m11, d11, E11, u11, v11, w'.heap.size, ad7, by rfl, HKp.put (by decide) _, zab hBi.out hb, kq qf2.out fun h => (h).below hb, kq qf5.out fun h => (h).below hb, Gd.yes ⟨zal (HKp.lt (by rw [hsz]; decide)) _, hBi.out.size, Blk.new w' _ _⟩, kq qf7.out fun h => ⟨h.1, zac hb h.2⟩, Gd.yes (qf7.out.mono fun h => by have := Blk.lt h.2.2; omega), qd5_2, Gd.no, Gd.no, Gd.no, Gd.no, Gd.no, Gd.no⟩
   ·obtain rfl : fl7 = false := zad hi
    obtain rfl : fl9 = false := Gd.off qd9_7.out
    refine wog hO (fun K' hK => ?_)
    go_simp
    have hb := zau w' (.cells #[.bool false, .slice none 0 0, .slice none 0 0] 31)
    exact hK.out _ _ ⟨zab hBi.out hb, fl2, fl5, fl6, true, fl8, false, b10, B10, m10, d10, E10, u10, v10, b11, B11, m11, d11, E11, u11, v11, ad6, w'.heap.size, by rfl, HKp.put (by decide) _, zab hBi.out hb, kq qf2.out fun h => (h).below hb, kq qf5.out fun h => (h).below hb, kq qf6.out fun h => ⟨h.1, zac hb h.2⟩, Gd.yes ⟨zal (HKp.lt (by rw [hsz]; decide)) _, hBi.out.size, Blk.new w' _ _⟩, qf6.out.mono fun h => Gd.yes (by have := Blk.lt h.2.2; omega), qd5_2, qd8_2, qd8_5, qd8_6, Gd.no, Gd.no, Gd.no⟩
   ·obtain rfl : fl8 = false := zad hi
    obtain rfl : fl2 = true := rdp 2 1 hi hO
    obtain rfl : fl5 = true := rdp 5 2 hi hO
    obtain rfl : fl6 = true := rdp 6 0 hi hO
    obtain rfl : fl7 = true := rdp 7 10 hi hO
    obtain rfl : fl9 = false := Gd.off qd9_8.out
    have rd10 := qf6.out.get.1
    have rd26 := qf2.out.get.1
    obtain ⟨_, hg, hk⟩ := qf6.out.get
    have hk : Blk w' ad6 31 #[.bool false, .slice none 0 0, .slice none 0 0] := hk
    obtain ⟨sc0, sf0, sc1, sf1, sc2, sf2⟩ := st3 hk (.bool b10) (.slice B10 m10 d10)
    have hj2 := sn3 hk (.bool b10) (.slice B10 m10 d10) (.slice E10 u10 v10)
    have hBn := bl3 (.bool b10) (.slice B10 m10 d10) (.slice E10 u10 v10) hg hBi.out
    refine wog hO (fun K' hK => ?_)
    go_simp
    exact hK.out _ _ ⟨hBn, true, true, true, true, true, false, b10, B10, m10, d10, E10, u10, v10, b11, B11, m11, d11, E11, u11, v11, ad6, ad7, by rfl, HKp, hBn, qf2.out.mono fun h => ⟨h.1, zar (h.2) hk zaK (zaI _ _ _ _ _)⟩, qf5.out.mono fun h => ⟨h.1, zar (h.2) hk zaK (zaI _ _ _ _ _)⟩, qf6.out.mono fun h => ⟨h.1, h.2.1, hj2⟩, fun hf9 => (fun h => ⟨h.1, h.2.1, Blk.far (p := ⟨ad6, 2, none⟩) (Blk.far (p := ⟨ad6, 1, none⟩) (Blk.far (p := ⟨ad6, 0, none⟩) (h.2.2) (Ne.symm (qn6_7.out rfl hf9)) (.bool b10)) (Ne.symm (qn6_7.out rfl hf9)) (.slice B10 m10 d10)) (Ne.symm (qn6_7.out rfl hf9)) (.slice E10 u10 v10)⟩) (qf7.out hf9), qn6_7, fun _ => rfl, fun _ => rfl, fun _ => rfl, fun _ => rfl, Gd.no, Gd.no, Gd.no⟩
   ·obtain rfl : fl9 = false := zad hi
    obtain rfl : fl2 = true := rdp 2 5 hi hO
    obtain rfl : fl5 = true := rdp 5 1 hi hO
    obtain rfl : fl6 = true := rdp 6 9 hi hO
    obtain rfl : fl7 = true := rdp 7 0 hi hO
    obtain rfl : fl8 = true := rdp 8 2 hi hO
    have rd11 := qf7.out.get.1
    have rd29 := qf5.out.get.1
    obtain ⟨_, hg, hk⟩ := qf7.out.get
    have hk : Blk w' ad7 31 #[.bool false, .slice none 0 0, .slice none 0 0] := hk
    obtain ⟨sc0, sf0, sc1, sf1, sc2, sf2⟩ := st3 hk (.bool b11) (.slice B11 m11 d11)
    have hj2 := sn3 hk (.bool b11) (.slice B11 m11 d11) (.slice E11 u11 v11)
    have hBn := bl3 (.bool b11) (.slice B11 m11 d11) (.slice E11 u11 v11) hg hBi.out
    refine wog hO (fun K' hK => ?_)
    go_simp
    exact hK.out _ _ ⟨hBn, true, true, true, true, true, true, b10, B10, m10, d10, E10, u10, v10, b11, B11, m11, d11, E11, u11, v11, ad6, ad7, by rfl, HKp, hBn, qf2.out.mono fun h => ⟨h.1, zar (h.2) hk zaK (zaI _ _ _ _ _)⟩, qf5.out.mono fun h => ⟨h.1, zar (h.2) hk zaK (zaI _ _ _ _ _)⟩, fun hf9 => (fun h => ⟨h.1, h.2.1, Blk.far (p := ⟨ad7, 2, none⟩) (Blk.far (p := ⟨ad7, 1, none⟩) (Blk.far (p := ⟨ad7, 0, none⟩) (h.2.2) (qn6_7.out hf9 rfl) (.bool b11)) (qn6_7.out hf9 rfl) (.slice B11 m11 d11)) (qn6_7.out hf9 rfl) (.slice E11 u11 v11)⟩) (qf6.out hf9), qf7.out.mono fun h => ⟨h.1, h.2.1, hj2⟩, qn6_7, fun _ => rfl, fun _ => rfl, fun _ => rfl, fun _ => rfl, fun _ => rfl, fun _ => rfl, fun _ => rfl⟩
 rintro a wm4 ⟨fl2, fl5, fl6, fl7, fl8, fl9, b10, B10, m10, d10, E10, u10, v10, b11, B11, m11, d11, E11, u11, v11, ad6, ad7, hl, HKp, hBi, qf2, qf5, qf6, qf7, qn6_7, qd5_2, qd8_2, qd8_5, qd8_6, qd9_5, qd9_7, qd9_8⟩
 have xx2 : fl2 = true := gdl 2 hl
 subst xx2
 have xx5 : fl5 = true := gdl 5 hl
 subst xx5
 have xx6 : fl6 = true := gdl 6 hl
 subst xx6
 have xx7 : fl7 = true := gdl 7 hl
 subst xx7
 have xx8 : fl8 = true := gdl 8 hl
 subst xx8
 have xx9 : fl9 = true := gdl 9 hl
 subst xx9
 obtain ⟨rv2, hw10⟩ := qf2.out.get
 obtain ⟨rv5, hw11⟩ := qf5.out.get
 obtain ⟨rv6, hg6, hk6⟩ := qf6.out.get
 obtain ⟨rv7, hg7, hk7⟩ := qf7.out.get
 obtain rfl := HKp.eq [(26, .agg #[.bool b10, .slice B10 m10 d10, .slice E10 u10 v10]), (29, .agg #[.bool b11, .slice B11 m11 d11, .slice E11 u11 v11]), (10, .pointer (some ⟨ad6, 0, none⟩)), (11, .pointer (some ⟨ad7, 0, none⟩))] rfl (by
  intro p hp
  simp only [List.mem_cons, List.not_mem_nil, or_false] at hp
  rcases hp with rfl | rfl | rfl | rfl
  ·exact rv2
  ·exact rv5
  ·exact rv6
  ·exact rv7)
 have hBv := hBi.out
 clear hl hBi HKp qf2 qf5 qf6 qf7 qn6_7 qd5_2 qd8_2 qd8_5 qd8_6 qd9_5 qd9_7 qd9_8 rv2 rv5 rv6 rv7
 have hk6 : Blk wm4 ad6 31 #[.bool b10, .slice B10 m10 d10, .slice E10 u10 v10] := hk6
 have hk7 : Blk wm4 ad7 31 #[.bool b11, .slice B11 m11 d11, .slice E11 u11 v11] := hk7
 rw [show due #[true, true, true, true, true, true, true, true, true, true] = 0 from rfl]
 simp only [zaR, List.foldl, Act.put, List.setIfInBounds_toArray, List.set_cons_zero, List.set_cons_succ]
 refine wpAnyH_done (by kernel_rfl) ?_ _
 refine NoPanic.normal ?_
 have hB := zab hB hBv
 have g1 := zaa hBv g1
 have e1 := zaa hBv e1
 have i1 := zaa hBv i1
 have g2 := zaa hBv g2
 have e2 := zaa hBv e2
 have i2 := zaa hBv i2
 have g3 := zaa hBv g3
 have e3 := zaa hBv e3
 have i3 := zaa hBv i3
 have g7 := zaa hBv g7
 have e7 := zaa hBv e7
 have i7 := zaa hBv i7
 have g8 := zaa hBv g8
 have e8 := zaa hBv e8
 have i8 := zaa hBv i8
 have g9 := zaa hBv g9
 have e9 := zaa hBv e9
 have i9 := zaa hBv i9
 have HN4 := Lib.hid (HN4.out.below hBv)
 have HN5 := Lib.hid (HN5.out.below hBv)
 have HN6 := Lib.hid (HN6.out.below hBv)
 obtain ⟨ad6_12, hga⟩ : ∃ x, x = ad6 := ⟨_, rfl⟩
 subst hga
 obtain ⟨g12, e12, i12⟩ := hk6.c3
 obtain ⟨ad7_13, hga⟩ : ∃ x, x = ad7 := ⟨_, rfl⟩
 subst hga
 obtain ⟨g13, e13, i13⟩ := hk7.c3
 have HN10 := Lib.hid hw10
 have HN11 := Lib.hid hw11
 clear hBv hk6 hg6 hk7 hg7 hw10 hw11 GG
 clear C0 C1
 go_wp2_with fail
 have HZ14 : Hid (SzQ (K + K + 1) (y + x)) := SzQ.add HZ5.out HZ4.out
 have C0 := Lib.hid (fun w' (h : Below wm4.heap.size wm4 w') => HQC.out.add (y) (x) b5 b4 B5 B4 m5 m4 d5 d4 E5 E4 u5 u4 v5 v4 w' (HT.out _ (zab hB h)) (HN5.out.below h) (HN4.out.below h) (SzQ.fit HZ5.out HN5.out (by omega)) (SzQ.fit HZ4.out HN4.out (by omega)))
 have C1 := Lib.hid (fun w' (h : Below wm4.heap.size wm4 w') b14 B14 m14 d14 E14 u14 v14 (hw14 : zah w' (y + x) b14 B14 m14 d14 E14 u14 v14) => zai (decide_eq_true (Rat.add_comm _ _)) (HQC.out.same (y + x) (x + y) b14 b10 B14 B10 m14 m10 d14 d10 E14 E10 u14 u10 v14 v10 w' (HT.out _ (zab hB h)) hw14 (HN10.out.below h) (SzQ.fit HZ14.out hw14 (by omega)) (SzQ.fit HZ10.out HN10.out (by omega))))
 have HZ15 : Hid (SzQ (K + K) (y * x)) := SzQ.mul HZ5.out HZ4.out
 have C2 := Lib.hid (fun w' (h : Below wm4.heap.size wm4 w') => HQC.out.mul (y) (x) b5 b4 B5 B4 m5 m4 d5 d4 E5 E4 u5 u4 v5 v4 w' (HT.out _ (zab hB h)) (HN5.out.below h) (HN4.out.below h) (SzQ.fit HZ5.out HN5.out (by omega)) (SzQ.fit HZ4.out HN4.out (by omega)))
 have C3 := Lib.hid (fun w' (h : Below wm4.heap.size wm4 w') b15 B15 m15 d15 E15 u15 v15 (hw15 : zah w' (y * x) b15 B15 m15 d15 E15 u15 v15) => zai (decide_eq_true (Rat.mul_comm _ _)) (HQC.out.same (y * x) (x * y) b15 b11 B15 B11 m15 m11 d15 d11 E15 E11 u15 u11 v15 v11 w' (HT.out _ (zab hB h)) hw15 (HN11.out.below h) (SzQ.fit HZ15.out hw15 (by omega)) (SzQ.fit HZ11.out HN11.out (by omega))))
 have HZ16 : Hid (SzQ (K + K + 1) (x - x)) := SzQ.sub HZ4.out HZ4.out
 have C4 := Lib.hid (fun w' (h : Below wm4.heap.size wm4 w') => HQC.out.sub (x) (x) b4 b4 B4 B4 m4 m4 d4 d4 E4 E4 u4 u4 v4 v4 w' (HT.out _ (zab hB h)) (HN4.out.below h) (HN4.out.below h) (SzQ.fit HZ4.out HN4.out (by omega)) (SzQ.fit HZ4.out HN4.out (by omega)))
 have C5 := Lib.hid (fun w' (h : Below wm4.heap.size wm4 w') b16 B16 m16 d16 E16 u16 v16 (hw16 : zah w' (x - x) b16 B16 m16 d16 E16 u16 v16) => zai (decide_eq_true Rat.sub_self) (HQC.out.zero (x - x) b16 B16 m16 d16 E16 u16 v16 w' (HT.out _ (zab hB h)) hw16 (SzQ.fit HZ16.out hw16 (by omega))))
 have HZ17 : Hid (SzQ ((K + K + 1) + K + 1) ((x + y) + z)) := SzQ.add HZ10.out HZ6.out
 have C6 := Lib.hid (fun w' (h : Below wm4.heap.size wm4 w') => HQC.out.add (x + y) (z) b10 b6 B10 B6 m10 m6 d10 d6 E10 E6 u10 u6 v10 v6 w' (HT.out _ (zab hB h)) (HN10.out.below h) (HN6.out.below h) (SzQ.fit HZ10.out HN10.out (by omega)) (SzQ.fit HZ6.out HN6.out (by omega)))
 have HZ18 : Hid (SzQ (K + K + 1) (y + z)) := SzQ.add HZ5.out HZ6.out
 have C7 := Lib.hid (fun w' (h : Below wm4.heap.size wm4 w') => HQC.out.add (y) (z) b5 b6 B5 B6 m5 m6 d5 d6 E5 E6 u5 u6 v5 v6 w' (HT.out _ (zab hB h)) (HN5.out.below h) (HN6.out.below h) (SzQ.fit HZ5.out HN5.out (by omega)) (SzQ.fit HZ6.out HN6.out (by omega)))
 have HZ19 : Hid (SzQ (K + (K + K + 1) + 1) (x + (y + z))) := SzQ.add HZ4.out HZ18.out
 have C8 := Lib.hid (fun w' (h : Below wm4.heap.size wm4 w') b18 B18 m18 d18 E18 u18 v18 (hw18 : zah w' (y + z) b18 B18 m18 d18 E18 u18 v18) => HQC.out.add (x) (y + z) b4 b18 B4 B18 m4 m18 d4 d18 E4 E18 u4 u18 v4 v18 w' (HT.out _ (zab hB h)) (HN4.out.below h) hw18 (SzQ.fit HZ4.out HN4.out (by omega)) (SzQ.fit HZ18.out hw18 (by omega)))
 have C9 := Lib.hid (fun w' (h : Below wm4.heap.size wm4 w') b17 B17 m17 d17 E17 u17 v17 (hw17 : zah w' ((x + y) + z) b17 B17 m17 d17 E17 u17 v17) b19 B19 m19 d19 E19 u19 v19 (hw19 : zah w' (x + (y + z)) b19 B19 m19 d19 E19 u19 v19) => zai (decide_eq_true (Rat.add_assoc _ _ _)) (HQC.out.same ((x + y) + z) (x + (y + z)) b17 b19 B17 B19 m17 m19 d17 d19 E17 E19 u17 u19 v17 v19 w' (HT.out _ (zab hB h)) hw17 hw19 (SzQ.fit HZ17.out hw17 (by omega)) (SzQ.fit HZ19.out hw19 (by omega))))
 have hBw := (Below.refl wm4.heap.size wm4).drew
 refine rg (csc g8 (csc e8 (csc i8 (csc g7 (csc e7 (csc i7 (csc g12 (csc e12 (csc i12 (csc g13 (csc e13 (csc i13 (csc g9 (csc e9 (csc i9 csn))))))))))))))) (fun hHeld => ?_)
 refine tk 0 ?_
 try simp only [sb]
 refine tk 1 ?_
 try simp only [sb]
 refine tk 3 ?_
 try simp only [sb]
 refine rc 2 (fun K hK => ?_)
 go_simp
 go_at_call 22; (with_reducible refine (C0.out _ hBw).mono ?_); rintro e wa5 ⟨b14, B14, m14, d14, E14, u14, v14, rfl, hw14, hb⟩; have hBw := zab hBw hb; refine hK.out _ _ (Cs.below hHeld hb) (fun hHeld => ?_); clear hK K hb
 try simp only [sb]
 refine rc 4 (fun K hK => ?_)
 go_simp
 go_at_call 33; (with_reducible refine (C1.out _ hBw _ _ _ _ _ _ _ hw14).mono ?_); rintro e wa6 ⟨rfl, hb⟩; have hBw := zab hBw hb; have hw14 := hw14.below hb; refine hK.out _ _ (Cs.below hHeld hb) (fun hHeld => ?_); clear hK K hb
 try simp only [sb]
 refine tk 5 ?_
 try simp only [sb]
 refine tk 6 ?_
 try simp only [sb]
 refine tk 7 ?_
 try simp only [sb]
 refine tk 8 ?_
 try simp only [sb]
 refine tk 10 ?_
 try simp only [sb]
 refine rc 9 (fun K hK => ?_)
 go_simp
 go_at_call 26; (with_reducible refine (C2.out _ hBw).mono ?_); rintro e wa7 ⟨b15, B15, m15, d15, E15, u15, v15, rfl, hw15, hb⟩; have hBw := zab hBw hb; have hw14 := hw14.below hb; refine hK.out _ _ (Cs.below hHeld hb) (fun hHeld => ?_); clear hK K hb
 try simp only [sb]
 refine rc 11 (fun K hK => ?_)
 go_simp
 go_at_call 33; (with_reducible refine (C3.out _ hBw _ _ _ _ _ _ _ hw15).mono ?_); rintro e wa8 ⟨rfl, hb⟩; have hBw := zab hBw hb; have hw14 := hw14.below hb; have hw15 := hw15.below hb; refine hK.out _ _ (Cs.below hHeld hb) (fun hHeld => ?_); clear hK K hb
 try simp only [sb]
 refine tk 12 ?_
 try simp only [sb]
 refine tk 13 ?_
 try simp only [sb]
 refine tk 14 ?_
 try simp only [sb]
 refine tk 15 ?_
 try simp only [sb]
 refine tk 16 ?_
 try simp only [sb]
 refine rc 17 (fun K hK => ?_)
 go_simp
 go_at_call 24; (with_reducible refine (C4.out _ hBw).mono ?_); rintro e wa9 ⟨b16, B16, m16, d16, E16, u16, v16, rfl, hw16, hb⟩; have hBw := zab hBw hb; have hw14 := hw14.below hb; have hw15 := hw15.below hb; refine hK.out _ _ (Cs.below hHeld hb) (fun hHeld => ?_); clear hK K hb
 try simp only [sb]
 refine rc 18 (fun K hK => ?_)
 go_simp
 go_at_call 13; (with_reducible refine (C5.out _ hBw _ _ _ _ _ _ _ hw16).mono ?_); rintro e wa10 ⟨rfl, hb⟩; have hBw := zab hBw hb; have hw14 := hw14.below hb; have hw15 := hw15.below hb; have hw16 := hw16.below hb; refine hK.out _ _ (Cs.below hHeld hb) (fun hHeld => ?_); clear hK K hb
 try simp only [sb]
 refine tk 19 ?_
 try simp only [sb]
 refine tk 20 ?_
 try simp only [sb]
 refine tk 21 ?_
 try simp only [sb]
 refine tk 22 ?_
 try simp only [sb]
 refine tk 23 ?_
 try simp only [sb]
 refine tk 25 ?_
 try simp only [sb]
 refine tk 26 ?_
 try simp only [sb]
 refine tk 27 ?_
 try simp only [sb]
 refine rc 24 (fun K hK => ?_)
 go_simp
 go_at_call 22; (with_reducible refine (C6.out _ hBw).mono ?_); rintro e wa11 ⟨b17, B17, m17, d17, E17, u17, v17, rfl, hw17, hb⟩; have hBw := zab hBw hb; have hw14 := hw14.below hb; have hw15 := hw15.below hb; have hw16 := hw16.below hb; refine hK.out _ _ (Cs.below hHeld hb) (fun hHeld => ?_); clear hK K hb
 try simp only [sb]
 refine rc 28 (fun K hK => ?_)
 go_simp
 go_at_call 22; (with_reducible refine (C7.out _ hBw).mono ?_); rintro e wa12 ⟨b18, B18, m18, d18, E18, u18, v18, rfl, hw18, hb⟩; have hBw := zab hBw hb; have hw14 := hw14.below hb; have hw15 := hw15.below hb; have hw16 := hw16.below hb; have hw17 := hw17.below hb; refine hK.out _ _ (Cs.below hHeld hb) (fun hHeld => ?_); clear hK K hb
 try simp only [sb]
 refine rc 29 (fun K hK => ?_)
 go_simp
 go_at_call 22; (with_reducible refine (C8.out _ hBw _ _ _ _ _ _ _ hw18).mono ?_); rintro e wa13 ⟨b19, B19, m19, d19, E19, u19, v19, rfl, hw19, hb⟩; have hBw := zab hBw hb; have hw14 := hw14.below hb; have hw15 := hw15.below hb; have hw16 := hw16.below hb; have hw17 := hw17.below hb; have hw18 := hw18.below hb; refine hK.out _ _ (Cs.below hHeld hb) (fun hHeld => ?_); clear hK K hb
 try simp only [sb]
 refine rc 30 (fun K hK => ?_)
 go_simp
 go_at_call 33; (with_reducible refine (C9.out _ hBw _ _ _ _ _ _ _ hw17 _ _ _ _ _ _ _ hw19).mono ?_); rintro e wa14 ⟨rfl, hb⟩; have hBw := zab hBw hb; have hw14 := hw14.below hb; have hw15 := hw15.below hb; have hw16 := hw16.below hb; have hw17 := hw17.below hb; have hw18 := hw18.below hb; have hw19 := hw19.below hb; refine hK.out _ _ (Cs.below hHeld hb) (fun hHeld => ?_); clear hK K hb
 try simp only [sb]
 refine tk 31 ?_
 try simp only [sb]
 refine tk 32 ?_
 try simp only [sb]
 refine rdn ?_
 have hB := zab hB hBw
 have g1 := zaa hBw g1
 have e1 := zaa hBw e1
 have i1 := zaa hBw i1
 have g2 := zaa hBw g2
 have e2 := zaa hBw e2
 have i2 := zaa hBw i2
 have g3 := zaa hBw g3
 have e3 := zaa hBw e3
 have i3 := zaa hBw i3
 have g7 := zaa hBw g7
 have e7 := zaa hBw e7
 have i7 := zaa hBw i7
 have g8 := zaa hBw g8
 have e8 := zaa hBw e8
 have i8 := zaa hBw i8
 have g9 := zaa hBw g9
 have e9 := zaa hBw e9
 have i9 := zaa hBw i9
 have HN4 := Lib.hid (HN4.out.below hBw)
 have HN5 := Lib.hid (HN5.out.below hBw)
 have HN6 := Lib.hid (HN6.out.below hBw)
 have g12 := zaa hBw g12
 have e12 := zaa hBw e12
 have i12 := zaa hBw i12
 have g13 := zaa hBw g13
 have e13 := zaa hBw e13
 have i13 := zaa hBw i13
 have HN10 := Lib.hid (HN10.out.below hBw)
 have HN11 := Lib.hid (HN11.out.below hBw)
 have HN14 := Lib.hid hw14
 have HN15 := Lib.hid hw15
 have HN16 := Lib.hid hw16
 have HN17 := Lib.hid hw17
 have HN18 := Lib.hid hw18
 have HN19 := Lib.hid hw19
 clear hBw hHeld hw14 hw15 hw16 hw17 hw18 hw19 C0 C1 C2 C3 C4 C5 C6 C7 C8 C9
 go_wp2_with fail
 have HZ20 : Hid (SzQ (K + (K + K + 1)) (z * (x + y))) := SzQ.mul HZ6.out HZ10.out
 have C0 := Lib.hid (fun w' (h : Below wa14.heap.size wa14 w') => HQC.out.mul (z) (x + y) b6 b10 B6 B10 m6 m10 d6 d10 E6 E10 u6 u10 v6 v10 w' (HT.out _ (zab hB h)) (HN6.out.below h) (HN10.out.below h) (SzQ.fit HZ6.out HN6.out (by omega)) (SzQ.fit HZ10.out HN10.out (by omega)))
 have HZ21 : Hid (SzQ (K + K) (z * x)) := SzQ.mul HZ6.out HZ4.out
 have C1 := Lib.hid (fun w' (h : Below wa14.heap.size wa14 w') => HQC.out.mul (z) (x) b6 b4 B6 B4 m6 m4 d6 d4 E6 E4 u6 u4 v6 v4 w' (HT.out _ (zab hB h)) (HN6.out.below h) (HN4.out.below h) (SzQ.fit HZ6.out HN6.out (by omega)) (SzQ.fit HZ4.out HN4.out (by omega)))
 have HZ22 : Hid (SzQ (K + K) (z * y)) := SzQ.mul HZ6.out HZ5.out
 have C2 := Lib.hid (fun w' (h : Below wa14.heap.size wa14 w') => HQC.out.mul (z) (y) b6 b5 B6 B5 m6 m5 d6 d5 E6 E5 u6 u5 v6 v5 w' (HT.out _ (zab hB h)) (HN6.out.below h) (HN5.out.below h) (SzQ.fit HZ6.out HN6.out (by omega)) (SzQ.fit HZ5.out HN5.out (by omega)))
 have HZ23 : Hid (SzQ ((K + K) + (K + K) + 1) ((z * x) + (z * y))) := SzQ.add HZ21.out HZ22.out
 have C3 := Lib.hid (fun w' (h : Below wa14.heap.size wa14 w') b21 B21 m21 d21 E21 u21 v21 (hw21 : zah w' (z * x) b21 B21 m21 d21 E21 u21 v21) b22 B22 m22 d22 E22 u22 v22 (hw22 : zah w' (z * y) b22 B22 m22 d22 E22 u22 v22) => HQC.out.add (z * x) (z * y) b21 b22 B21 B22 m21 m22 d21 d22 E21 E22 u21 u22 v21 v22 w' (HT.out _ (zab hB h)) hw21 hw22 (SzQ.fit HZ21.out hw21 (by omega)) (SzQ.fit HZ22.out hw22 (by omega)))
 have C4 := Lib.hid (fun w' (h : Below wa14.heap.size wa14 w') b20 B20 m20 d20 E20 u20 v20 (hw20 : zah w' (z * (x + y)) b20 B20 m20 d20 E20 u20 v20) b23 B23 m23 d23 E23 u23 v23 (hw23 : zah w' ((z * x) + (z * y)) b23 B23 m23 d23 E23 u23 v23) => zai (decide_eq_true (Rat.mul_add _ _ _)) (HQC.out.same (z * (x + y)) ((z * x) + (z * y)) b20 b23 B20 B23 m20 m23 d20 d23 E20 E23 u20 u23 v20 v23 w' (HT.out _ (zab hB h)) hw20 hw23 (SzQ.fit HZ20.out hw20 (by omega)) (SzQ.fit HZ23.out hw23 (by omega))))
 have HZ24 : Hid (SzQ ((K + K) + K) ((x * y) * z)) := SzQ.mul HZ11.out HZ6.out
 have C5 := Lib.hid (fun w' (h : Below wa14.heap.size wa14 w') => HQC.out.mul (x * y) (z) b11 b6 B11 B6 m11 m6 d11 d6 E11 E6 u11 u6 v11 v6 w' (HT.out _ (zab hB h)) (HN11.out.below h) (HN6.out.below h) (SzQ.fit HZ11.out HN11.out (by omega)) (SzQ.fit HZ6.out HN6.out (by omega)))
 have HZ25 : Hid (SzQ (K + K) (y * z)) := SzQ.mul HZ5.out HZ6.out
 have C6 := Lib.hid (fun w' (h : Below wa14.heap.size wa14 w') => HQC.out.mul (y) (z) b5 b6 B5 B6 m5 m6 d5 d6 E5 E6 u5 u6 v5 v6 w' (HT.out _ (zab hB h)) (HN5.out.below h) (HN6.out.below h) (SzQ.fit HZ5.out HN5.out (by omega)) (SzQ.fit HZ6.out HN6.out (by omega)))
 have HZ26 : Hid (SzQ (K + (K + K)) (x * (y * z))) := SzQ.mul HZ4.out HZ25.out
 have C7 := Lib.hid (fun w' (h : Below wa14.heap.size wa14 w') b25 B25 m25 d25 E25 u25 v25 (hw25 : zah w' (y * z) b25 B25 m25 d25 E25 u25 v25) => HQC.out.mul (x) (y * z) b4 b25 B4 B25 m4 m25 d4 d25 E4 E25 u4 u25 v4 v25 w' (HT.out _ (zab hB h)) (HN4.out.below h) hw25 (SzQ.fit HZ4.out HN4.out (by omega)) (SzQ.fit HZ25.out hw25 (by omega)))
 have C8 := Lib.hid (fun w' (h : Below wa14.heap.size wa14 w') b24 B24 m24 d24 E24 u24 v24 (hw24 : zah w' ((x * y) * z) b24 B24 m24 d24 E24 u24 v24) b26 B26 m26 d26 E26 u26 v26 (hw26 : zah w' (x * (y * z)) b26 B26 m26 d26 E26 u26 v26) => zai (decide_eq_true (Rat.mul_assoc _ _ _)) (HQC.out.same ((x * y) * z) (x * (y * z)) b24 b26 B24 B26 m24 m26 d24 d26 E24 E26 u24 u26 v24 v26 w' (HT.out _ (zab hB h)) hw24 hw26 (SzQ.fit HZ24.out hw24 (by omega)) (SzQ.fit HZ26.out hw26 (by omega))))
 have hBw := (Below.refl wa14.heap.size wa14).drew
 refine rg (csc g9 (csc e9 (csc i9 (csc g12 (csc e12 (csc i12 (csc g7 (csc e7 (csc i7 (csc g8 (csc e8 (csc i8 (csc g13 (csc e13 (csc i13 csn))))))))))))))) (fun hHeld => ?_)
 refine tk 0 ?_
 try simp only [sb]
 refine tk 1 ?_
 try simp only [sb]
 refine tk 3 ?_
 try simp only [sb]
 refine tk 4 ?_
 try simp only [sb]
 refine tk 6 ?_
 try simp only [sb]
 refine tk 7 ?_
 try simp only [sb]
 refine rc 2 (fun K hK => ?_)
 go_simp
 go_at_call 26; (with_reducible refine (C0.out _ hBw).mono ?_); rintro e wa15 ⟨b20, B20, m20, d20, E20, u20, v20, rfl, hw20, hb⟩; have hBw := zab hBw hb; refine hK.out _ _ (Cs.below hHeld hb) (fun hHeld => ?_); clear hK K hb
 try simp only [sb]
 refine rc 5 (fun K hK => ?_)
 go_simp
 go_at_call 26; (with_reducible refine (C1.out _ hBw).mono ?_); rintro e wa16 ⟨b21, B21, m21, d21, E21, u21, v21, rfl, hw21, hb⟩; have hBw := zab hBw hb; have hw20 := hw20.below hb; refine hK.out _ _ (Cs.below hHeld hb) (fun hHeld => ?_); clear hK K hb
 try simp only [sb]
 refine rc 8 (fun K hK => ?_)
 go_simp
 go_at_call 26; (with_reducible refine (C2.out _ hBw).mono ?_); rintro e wa17 ⟨b22, B22, m22, d22, E22, u22, v22, rfl, hw22, hb⟩; have hBw := zab hBw hb; have hw20 := hw20.below hb; have hw21 := hw21.below hb; refine hK.out _ _ (Cs.below hHeld hb) (fun hHeld => ?_); clear hK K hb
 try simp only [sb]
 refine rc 9 (fun K hK => ?_)
 go_simp
 go_at_call 22; (with_reducible refine (C3.out _ hBw _ _ _ _ _ _ _ hw21 _ _ _ _ _ _ _ hw22).mono ?_); rintro e wa18 ⟨b23, B23, m23, d23, E23, u23, v23, rfl, hw23, hb⟩; have hBw := zab hBw hb; have hw20 := hw20.below hb; have hw21 := hw21.below hb; have hw22 := hw22.below hb; refine hK.out _ _ (Cs.below hHeld hb) (fun hHeld => ?_); clear hK K hb
 try simp only [sb]
 refine rc 10 (fun K hK => ?_)
 go_simp
 go_at_call 33; (with_reducible refine (C4.out _ hBw _ _ _ _ _ _ _ hw20 _ _ _ _ _ _ _ hw23).mono ?_); rintro e wa19 ⟨rfl, hb⟩; have hBw := zab hBw hb; have hw20 := hw20.below hb; have hw21 := hw21.below hb; have hw22 := hw22.below hb; have hw23 := hw23.below hb; refine hK.out _ _ (Cs.below hHeld hb) (fun hHeld => ?_); clear hK K hb
 try simp only [sb]
 refine tk 11 ?_
 try simp only [sb]
 refine tk 12 ?_
 try simp only [sb]
 refine tk 13 ?_
 try simp only [sb]
 refine tk 14 ?_
 try simp only [sb]
 refine tk 16 ?_
 try simp only [sb]
 refine tk 17 ?_
 try simp only [sb]
 refine tk 18 ?_
 try simp only [sb]
 refine rc 15 (fun K hK => ?_)
 go_simp
 go_at_call 26; (with_reducible refine (C5.out _ hBw).mono ?_); rintro e wa20 ⟨b24, B24, m24, d24, E24, u24, v24, rfl, hw24, hb⟩; have hBw := zab hBw hb; have hw20 := hw20.below hb; have hw21 := hw21.below hb; have hw22 := hw22.below hb; have hw23 := hw23.below hb; refine hK.out _ _ (Cs.below hHeld hb) (fun hHeld => ?_); clear hK K hb
 try simp only [sb]
 refine rc 19 (fun K hK => ?_)
 go_simp
 go_at_call 26; (with_reducible refine (C6.out _ hBw).mono ?_); rintro e wa21 ⟨b25, B25, m25, d25, E25, u25, v25, rfl, hw25, hb⟩; have hBw := zab hBw hb; have hw20 := hw20.below hb; have hw21 := hw21.below hb; have hw22 := hw22.below hb; have hw23 := hw23.below hb; have hw24 := hw24.below hb; refine hK.out _ _ (Cs.below hHeld hb) (fun hHeld => ?_); clear hK K hb
 try simp only [sb]
 refine rc 20 (fun K hK => ?_)
 go_simp
 go_at_call 26; (with_reducible refine (C7.out _ hBw _ _ _ _ _ _ _ hw25).mono ?_); rintro e wa22 ⟨b26, B26, m26, d26, E26, u26, v26, rfl, hw26, hb⟩; have hBw := zab hBw hb; have hw20 := hw20.below hb; have hw21 := hw21.below hb; have hw22 := hw22.below hb; have hw23 := hw23.below hb; have hw24 := hw24.below hb; have hw25 := hw25.below hb; refine hK.out _ _ (Cs.below hHeld hb) (fun hHeld => ?_); clear hK K hb
 try simp only [sb]
 refine rc 21 (fun K hK => ?_)
 go_simp
 go_at_call 33; (with_reducible refine (C8.out _ hBw _ _ _ _ _ _ _ hw24 _ _ _ _ _ _ _ hw26).mono ?_); rintro e wa23 ⟨rfl, hb⟩; have hBw := zab hBw hb; have hw20 := hw20.below hb; have hw21 := hw21.below hb; have hw22 := hw22.below hb; have hw23 := hw23.below hb; have hw24 := hw24.below hb; have hw25 := hw25.below hb; have hw26 := hw26.below hb; refine hK.out _ _ (Cs.below hHeld hb) (fun hHeld => ?_); clear hK K hb
 try simp only [sb]
 refine tk 22 ?_
 try simp only [sb]
 refine tk 23 ?_
 try simp only [sb]
 refine rdn ?_
 have hB := zab hB hBw
 have g1 := zaa hBw g1
 have e1 := zaa hBw e1
 have i1 := zaa hBw i1
 have g2 := zaa hBw g2
 have e2 := zaa hBw e2
 have i2 := zaa hBw i2
 have g3 := zaa hBw g3
 have e3 := zaa hBw e3
 have i3 := zaa hBw i3
 have g7 := zaa hBw g7
 have e7 := zaa hBw e7
 have i7 := zaa hBw i7
 have g8 := zaa hBw g8
 have e8 := zaa hBw e8
 have i8 := zaa hBw i8
 have g9 := zaa hBw g9
 have e9 := zaa hBw e9
 have i9 := zaa hBw i9
 have HN4 := Lib.hid (HN4.out.below hBw)
 have HN5 := Lib.hid (HN5.out.below hBw)
 have HN6 := Lib.hid (HN6.out.below hBw)
 have g12 := zaa hBw g12
 have e12 := zaa hBw e12
 have i12 := zaa hBw i12
 have g13 := zaa hBw g13
 have e13 := zaa hBw e13
 have i13 := zaa hBw i13
 have HN10 := Lib.hid (HN10.out.below hBw)
 have HN11 := Lib.hid (HN11.out.below hBw)
 have HN14 := Lib.hid (HN14.out.below hBw)
 have HN15 := Lib.hid (HN15.out.below hBw)
 have HN16 := Lib.hid (HN16.out.below hBw)
 have HN17 := Lib.hid (HN17.out.below hBw)
 have HN18 := Lib.hid (HN18.out.below hBw)
 have HN19 := Lib.hid (HN19.out.below hBw)
 have HN20 := Lib.hid hw20
 have HN21 := Lib.hid hw21
 have HN22 := Lib.hid hw22
 have HN23 := Lib.hid hw23
 have HN24 := Lib.hid hw24
 have HN25 := Lib.hid hw25
 have HN26 := Lib.hid hw26
 clear hBw hHeld hw20 hw21 hw22 hw23 hw24 hw25 hw26 C0 C1 C2 C3 C4 C5 C6 C7 C8
 go_wp2_with fail
 have HZ27 : Hid (SzQ (1) ((0 : Rat))) := SzQ.zero
 (with_reducible refine (HQC.out.invNo (x) b4 B4 m4 d4 E4 u4 v4 _ (HT.out _ hB) HN4.out (SzQ.fit HZ4.out HN4.out (by omega)) Hx0.out).mono ?_)
 rintro e wc24 ⟨b27, B27, m27, d27, E27, u27, v27, rfl, hw27, hb⟩
 have hB := zab hB hb
 have g1 := zaa hb g1
 have e1 := zaa hb e1
 have i1 := zaa hb i1
 have g2 := zaa hb g2
 have e2 := zaa hb e2
 have i2 := zaa hb i2
 have g3 := zaa hb g3
 have e3 := zaa hb e3
 have i3 := zaa hb i3
 have g7 := zaa hb g7
 have e7 := zaa hb e7
 have i7 := zaa hb i7
 have g8 := zaa hb g8
 have e8 := zaa hb e8
 have i8 := zaa hb i8
 have g9 := zaa hb g9
 have e9 := zaa hb e9
 have i9 := zaa hb i9
 have HN4 := Lib.hid (HN4.out.below hb)
 have HN5 := Lib.hid (HN5.out.below hb)
 have HN6 := Lib.hid (HN6.out.below hb)
 have g12 := zaa hb g12
 have e12 := zaa hb e12
 have i12 := zaa hb i12
 have g13 := zaa hb g13
 have e13 := zaa hb e13
 have i13 := zaa hb i13
 have HN10 := Lib.hid (HN10.out.below hb)
 have HN11 := Lib.hid (HN11.out.below hb)
 have HN14 := Lib.hid (HN14.out.below hb)
 have HN15 := Lib.hid (HN15.out.below hb)
 have HN16 := Lib.hid (HN16.out.below hb)
 have HN17 := Lib.hid (HN17.out.below hb)
 have HN18 := Lib.hid (HN18.out.below hb)
 have HN19 := Lib.hid (HN19.out.below hb)
 have HN20 := Lib.hid (HN20.out.below hb)
 have HN21 := Lib.hid (HN21.out.below hb)
 have HN22 := Lib.hid (HN22.out.below hb)
 have HN23 := Lib.hid (HN23.out.below hb)
 have HN24 := Lib.hid (HN24.out.below hb)
 have HN25 := Lib.hid (HN25.out.below hb)
 have HN26 := Lib.hid (HN26.out.below hb)
 have HN27 := Lib.hid hw27
 clear hb hw27
 obtain ⟨bx1, bx2, bz⟩ := zaZ wc24 31 #[.bool b27, .slice B27 m27 d27, .slice E27 u27 v27]
 have hB := zab hB bx1
 have g1 := zaa bx1 g1
 have e1 := zaa bx1 e1
 have i1 := zaa bx1 i1
 have g2 := zaa bx1 g2
 have e2 := zaa bx1 e2
 have i2 := zaa bx1 i2
 have g3 := zaa bx1 g3
 have e3 := zaa bx1 e3
 have i3 := zaa bx1 i3
 have g7 := zaa bx1 g7
 have e7 := zaa bx1 e7
 have i7 := zaa bx1 i7
 have g8 := zaa bx1 g8
 have e8 := zaa bx1 e8
 have i8 := zaa bx1 i8
 have g9 := zaa bx1 g9
 have e9 := zaa bx1 e9
 have i9 := zaa bx1 i9
 have HN4 := Lib.hid (HN4.out.below bx1)
 have HN5 := Lib.hid (HN5.out.below bx1)
 have HN6 := Lib.hid (HN6.out.below bx1)
 have g12 := zaa bx1 g12
 have e12 := zaa bx1 e12
 have i12 := zaa bx1 i12
 have g13 := zaa bx1 g13
 have e13 := zaa bx1 e13
 have i13 := zaa bx1 i13
 have HN10 := Lib.hid (HN10.out.below bx1)
 have HN11 := Lib.hid (HN11.out.below bx1)
 have HN14 := Lib.hid (HN14.out.below bx1)
 have HN15 := Lib.hid (HN15.out.below bx1)
 have HN16 := Lib.hid (HN16.out.below bx1)
 have HN17 := Lib.hid (HN17.out.below bx1)
 have HN18 := Lib.hid (HN18.out.below bx1)
 have HN19 := Lib.hid (HN19.out.below bx1)
 have HN20 := Lib.hid (HN20.out.below bx1)
 have HN21 := Lib.hid (HN21.out.below bx1)
 have HN22 := Lib.hid (HN22.out.below bx1)
 have HN23 := Lib.hid (HN23.out.below bx1)
 have HN24 := Lib.hid (HN24.out.below bx1)
 have HN25 := Lib.hid (HN25.out.below bx1)
 have HN26 := Lib.hid (HN26.out.below bx1)
 have HN27 := Lib.hid (HN27.out.below bx1)
 obtain ⟨g28, e28, i28⟩ := bx2.c3
 clear bx1 bx2 bz
 go_wp2_with fail
 generalize wc24.alloc (.cells #[.bool b27, .slice B27 m27 d27, .slice E27 u27 v27] 31) = W25 at *
 generalize wc24.heap.size = q25 at *
 (with_reducible refine (zai (decide_eq_true Hx0.out) (HQC.out.zero (x) b4 B4 m4 d4 E4 u4 v4 _ (HT.out _ hB) HN4.out (SzQ.fit HZ4.out HN4.out (by omega)))).mono ?_)
 rintro e wc26 ⟨rfl, hb⟩
 have hB := zab hB hb
 have g1 := zaa hb g1
 have e1 := zaa hb e1
 have i1 := zaa hb i1
 have g2 := zaa hb g2
 have e2 := zaa hb e2
 have i2 := zaa hb i2
 have g3 := zaa hb g3
 have e3 := zaa hb e3
 have i3 := zaa hb i3
 have g7 := zaa hb g7
 have e7 := zaa hb e7
 have i7 := zaa hb i7
 have g8 := zaa hb g8
 have e8 := zaa hb e8
 have i8 := zaa hb i8
 have g9 := zaa hb g9
 have e9 := zaa hb e9
 have i9 := zaa hb i9
 have HN4 := Lib.hid (HN4.out.below hb)
 have HN5 := Lib.hid (HN5.out.below hb)
 have HN6 := Lib.hid (HN6.out.below hb)
 have g12 := zaa hb g12
 have e12 := zaa hb e12
 have i12 := zaa hb i12
 have g13 := zaa hb g13
 have e13 := zaa hb e13
 have i13 := zaa hb i13
 have HN10 := Lib.hid (HN10.out.below hb)
 have HN11 := Lib.hid (HN11.out.below hb)
 have HN14 := Lib.hid (HN14.out.below hb)
 have HN15 := Lib.hid (HN15.out.below hb)
 have HN16 := Lib.hid (HN16.out.below hb)
 have HN17 := Lib.hid (HN17.out.below hb)
 have HN18 := Lib.hid (HN18.out.below hb)
 have HN19 := Lib.hid (HN19.out.below hb)
 have HN20 := Lib.hid (HN20.out.below hb)
 have HN21 := Lib.hid (HN21.out.below hb)
 have HN22 := Lib.hid (HN22.out.below hb)
 have HN23 := Lib.hid (HN23.out.below hb)
 have HN24 := Lib.hid (HN24.out.below hb)
 have HN25 := Lib.hid (HN25.out.below hb)
 have HN26 := Lib.hid (HN26.out.below hb)
 have HN27 := Lib.hid (HN27.out.below hb)
 have g28 := zaa hb g28
 have e28 := zaa hb e28
 have i28 := zaa hb i28
 clear hb 
 go_wp2
 go_ret
 exact ⟨by first | rfl | simp, hB⟩
set_option maxHeartbeats 16000000 in
theorem zif {T : World → Prop} (hTb : ∀ w w', T w → Below w.heap.size w w' → T w') (IC : IntC T) (QC : RatC T) (s0 : Bool) (A0 : Option Addr) (n0 c0 : Nat) (l0 : List Nat) (E0 : Option Addr) (u0 v0 : Nat) (e0 : List Nat) (s1 : Bool) (A1 : Option Addr) (n1 c1 : Nat) (l1 : List Nat) (E1 : Option Addr) (u1 v1 : Nat) (e1 : List Nat) (s2 : Bool) (A2 : Option Addr) (n2 c2 : Nat) (l2 : List Nat) (E2 : Option Addr) (u2 v2 : Nat) (e2 : List Nat) (w : World) (h0 : zap w A0 n0 c0 l0) (k0 : zap w E0 u0 v0 e0) (h1 : zap w A1 n1 c1 l1) (k1 : zap w E1 u1 v1 e1) (h2 : zap w A2 n2 c2 l2) (k2 : zap w E2 u2 v2 e2) (x0 : fOf s0 l0 e0 ≠ 0) (hT : T w) :
  Calls Tryz.prog 6 #[.agg #[.bool s0, .slice A0 n0 c0, .slice E0 u0 v0], .agg #[.bool s1, .slice A1 n1 c1, .slice E1 u1 v1], .agg #[.bool s2, .slice A2 n2 c2, .slice E2 u2 v2]] w fun e w' => e = .returned (.bool true) ∧ Below w.heap.size w w' := by
 have HAW := Lib.hid (fun w' (hb : Below w.heap.size w w') => zbn hTb IC QC w' (hTb w w' hT hb))
 have HIC := Lib.hid IC
 have HQC := Lib.hid QC
 have HT := Lib.hid (fun w' (hb : Below w.heap.size w w') => hTb w w' hT hb)
 obtain ⟨K, hK⟩ : ∃ K, 1048576 = K := ⟨_, rfl⟩
 have hKK : K ≤ 1048576 := by omega
 have hK0 : 0 < K := by omega
 have HM0 := Lib.hid (fun w' (hb : Below w.heap.size w w') => zaL hTb IC QC s0 A0 n0 c0 l0 E0 u0 v0 e0 w' ⟨(h0.reads.below hb).more hb.size, h0.dgs, h0.fits, h0.small⟩ ⟨(k0.reads.below hb).more hb.size, k0.dgs, k0.fits, k0.small⟩ (hTb w w' hT hb))
 have S0 : SzQ 1048576 (fOf s0 l0 e0) := zbp h0 k0
 rw [hK] at S0
 obtain ⟨x, hz0⟩ : ∃ x, fOf s0 l0 e0 = x := ⟨_, rfl⟩
 rw [hz0] at HM0 S0 x0
 have HS0 := Lib.hid S0
 have HM1 := Lib.hid (fun w' (hb : Below w.heap.size w w') => zaL hTb IC QC s1 A1 n1 c1 l1 E1 u1 v1 e1 w' ⟨(h1.reads.below hb).more hb.size, h1.dgs, h1.fits, h1.small⟩ ⟨(k1.reads.below hb).more hb.size, k1.dgs, k1.fits, k1.small⟩ (hTb w w' hT hb))
 have S1 : SzQ 1048576 (fOf s1 l1 e1) := zbp h1 k1
 rw [hK] at S1
 obtain ⟨y, hz1⟩ : ∃ x, fOf s1 l1 e1 = x := ⟨_, rfl⟩
 rw [hz1] at HM1 S1
 have HS1 := Lib.hid S1
 have HM2 := Lib.hid (fun w' (hb : Below w.heap.size w w') => zaL hTb IC QC s2 A2 n2 c2 l2 E2 u2 v2 e2 w' ⟨(h2.reads.below hb).more hb.size, h2.dgs, h2.fits, h2.small⟩ ⟨(k2.reads.below hb).more hb.size, k2.dgs, k2.fits, k2.small⟩ (hTb w w' hT hb))
 have S2 : SzQ 1048576 (fOf s2 l2 e2) := zbp h2 k2
 rw [hK] at S2
 obtain ⟨z, hz2⟩ : ∃ x, fOf s2 l2 e2 = x := ⟨_, rfl⟩
 rw [hz2] at HM2 S2
 have HS2 := Lib.hid S2
 have Hx0 := Lib.hid x0
 clear IC QC hT h0 k0 hz0 S0 h1 k1 hz1 S1 h2 k2 hz2 S2 x0 hK
 go_enter Tryz.func6, Tryz.ntmps6
 have hB := Below.refl w.heap.size w
 obtain ⟨bx1, bx2, bx3, bx4, bz⟩ := zbb w 48 48 48 #[.bool s0, .slice A0 n0 c0, .slice E0 u0 v0] #[.bool s1, .slice A1 n1 c1, .slice E1 u1 v1] #[.bool s2, .slice A2 n2 c2, .slice E2 u2 v2]
 have hB := zab hB bx1
 obtain ⟨g1, e1, i1⟩ := bx2.c3
 obtain ⟨g2, e2, i2⟩ := bx3.c3
 obtain ⟨g3, e3, i3⟩ := bx4.c3
 clear bx1 bx2 bx3 bx4 bz
 go_wp2_with fail
 generalize ((w.alloc (.cells #[.bool s0, .slice A0 n0 c0, .slice E0 u0 v0] 48)).alloc (.cells #[.bool s1, .slice A1 n1 c1, .slice E1 u1 v1] 48)).alloc (.cells #[.bool s2, .slice A2 n2 c2, .slice E2 u2 v2] 48) = W1 at *
 (with_reducible refine (HAW.out _ hB).mono ?_)
 rintro e wc2 ⟨rfl, hb⟩
 have hB := zab hB hb
 have g1 := zaa hb g1
 have e1 := zaa hb e1
 have i1 := zaa hb i1
 have g2 := zaa hb g2
 have e2 := zaa hb e2
 have i2 := zaa hb i2
 have g3 := zaa hb g3
 have e3 := zaa hb e3
 have i3 := zaa hb i3
 clear hb 
 go_wp2_with fail
 have HZ4 : Hid (SzQ (K) (x)) := HS0.out
 have C0 := Lib.hid (fun w' (h : Below wc2.heap.size wc2 w') => HM0.out _ (zab hB h))
 have HZ5 : Hid (SzQ (K) (y)) := HS1.out
 have C1 := Lib.hid (fun w' (h : Below wc2.heap.size wc2 w') => HM1.out _ (zab hB h))
 have HZ6 : Hid (SzQ (K) (z)) := HS2.out
 have C2 := Lib.hid (fun w' (h : Below wc2.heap.size wc2 w') => HM2.out _ (zab hB h))
 have GG := Lib.hid (fun w' (h : Below wc2.heap.size wc2 w') => (csc (zaa h g1) (csc (zaa h e1) (csc (zaa h i1) (csc (zaa h g2) (csc (zaa h e2) (csc (zaa h i2) (csc (zaa h g3) (csc (zaa h e3) (csc (zaa h i3) csn))))))))))
 refine rgB (fun hHeld => ?_)
 refine tl 0 GG.out ?_
 try simp only [sb]
 refine tl 2 GG.out ?_
 try simp only [sb]
 refine tl 4 GG.out ?_
 try simp only [sb]
 refine zaw (L := #[true, true, true, true, true, true, true, true, true, true, true, true])
  (J := fun a0 l a w' => ∃ (fl1 fl3 fl5 fl6 fl7 fl8 fl9 fl10 fl11 b4 : Bool) (B4 : Option Addr) (m4 d4 : Nat) (E4 : Option Addr) (u4 v4 : Nat) (b5 : Bool) (B5 : Option Addr) (m5 d5 : Nat) (E5 : Option Addr) (u5 v5 : Nat) (b6 : Bool) (B6 : Option Addr) (m6 d6 : Nat) (E6 : Option Addr) (u6 v6 ad6 ad7 ad8 : Nat), l = #[true, fl1, true, fl3, true, fl5, fl6, fl7, fl8, fl9, fl10, fl11] ∧ zaT [19, 21, 23, 7, 8, 9] a0 a ∧ Hid (Below wc2.heap.size wc2 w') ∧
    Hid (Gd fl1 (a.tmps.getD 19 undef = .agg #[.bool b4, .slice B4 m4 d4, .slice E4 u4 v4] ∧ zah w' (x) b4 B4 m4 d4 E4 u4 v4)) ∧
    Hid (Gd fl3 (a.tmps.getD 21 undef = .agg #[.bool b5, .slice B5 m5 d5, .slice E5 u5 v5] ∧ zah w' (y) b5 B5 m5 d5 E5 u5 v5)) ∧
    Hid (Gd fl5 (a.tmps.getD 23 undef = .agg #[.bool b6, .slice B6 m6 d6, .slice E6 u6 v6] ∧ zah w' (z) b6 B6 m6 d6 E6 u6 v6)) ∧
    Hid (Gd fl6 (a.tmps.getD 7 undef = .pointer (some ⟨ad6, 0, none⟩) ∧ wc2.heap.size ≤ ad6 ∧ Blk w' ad6 31 (bif fl9 then #[.bool b4, .slice B4 m4 d4, .slice E4 u4 v4] else #[.bool false, .slice none 0 0, .slice none 0 0]))) ∧
    Hid (Gd fl7 (a.tmps.getD 8 undef = .pointer (some ⟨ad7, 0, none⟩) ∧ wc2.heap.size ≤ ad7 ∧ Blk w' ad7 31 (bif fl10 then #[.bool b5, .slice B5 m5 d5, .slice E5 u5 v5] else #[.bool false, .slice none 0 0, .slice none 0 0]))) ∧
    Hid (Gd fl8 (a.tmps.getD 9 undef = .pointer (some ⟨ad8, 0, none⟩) ∧ wc2.heap.size ≤ ad8 ∧ Blk w' ad8 31 (bif fl11 then #[.bool b6, .slice B6 m6 d6, .slice E6 u6 v6] else #[.bool false, .slice none 0 0, .slice none 0 0]))) ∧
    Hid (Gd fl6 (Gd fl7 (ad6 ≠ ad7))) ∧
    Hid (Gd fl6 (Gd fl8 (ad6 ≠ ad8))) ∧
    Hid (Gd fl7 (Gd fl8 (ad7 ≠ ad8))) ∧
    Hid (Gd fl3 (fl1 = true)) ∧
    Hid (Gd fl5 (fl3 = true)) ∧
    Hid (Gd fl9 (fl1 = true)) ∧
    Hid (Gd fl9 (fl5 = true)) ∧
    Hid (Gd fl9 (fl6 = true)) ∧
    Hid (Gd fl10 (fl3 = true)) ∧
    Hid (Gd fl10 (fl7 = true)) ∧
    Hid (Gd fl10 (fl9 = true)) ∧
    Hid (Gd fl11 (fl5 = true)) ∧
    Hid (Gd fl11 (fl8 = true)) ∧
    Hid (Gd fl11 (fl10 = true)))
  (by rfl) ?_ ?_ ?_
 ·exact ⟨false, false, false, false, false, false, false, false, false, false, none, 0, 0, none, 0, 0, false, none, 0, 0, none, 0, 0, false, none, 0, 0, none, 0, 0, 0, 0, 0, by kernel_rfl, zaT.refl _ _, hHeld, Gd.no, Gd.no, Gd.no, Gd.no, Gd.no, Gd.no, Gd.no, Gd.no, Gd.no, Gd.no, Gd.no, Gd.no, Gd.no, Gd.no, Gd.no, Gd.no, Gd.no, Gd.no, Gd.no, Gd.no⟩
 ·intro OPS Ac0 Q0 hO hAs hA
  have RB18 : Ac0.tmps.getD 18 undef = .agg #[.bool s0, .slice A0 n0 c0, .slice E0 u0 v0] := (hA 18 undef).trans (by kernel_rfl)
  have RB20 : Ac0.tmps.getD 20 undef = .agg #[.bool s1, .slice A1 n1 c1, .slice E1 u1 v1] := (hA 20 undef).trans (by kernel_rfl)
  have RB22 : Ac0.tmps.getD 22 undef = .agg #[.bool s2, .slice A2 n2 c2, .slice E2 u2 v2] := (hA 22 undef).trans (by kernel_rfl)
  have hsz : Ac0.tmps.size = 119 := hAs.trans (by kernel_rfl)
  clear hAs hA
  refine ⟨?_, ?_⟩
  ·rintro l a w' ⟨fl1, fl3, fl5, fl6, fl7, fl8, fl9, fl10, fl11, b4, B4, m4, d4, E4, u4, v4, b5, B5, m5, d5, E5, u5, v5, b6, B6, m6, d6, E6, u6, v6, ad6, ad7, ad8, rfl, -⟩ hr
   obtain rfl : fl1 = true := als 1 hr hO
   obtain rfl : fl3 = true := als 3 hr hO
   obtain rfl : fl5 = true := als 5 hr hO
   obtain rfl : fl6 = true := als 6 hr hO
   obtain rfl : fl7 = true := als 7 hr hO
   obtain rfl : fl8 = true := als 8 hr hO
   obtain rfl : fl9 = true := als 9 hr hO
   obtain rfl : fl10 = true := als 10 hr hO
   obtain rfl : fl11 = true := als 11 hr hO
   rfl
  ·rintro l a w' i ⟨fl1, fl3, fl5, fl6, fl7, fl8, fl9, fl10, fl11, b4, B4, m4, d4, E4, u4, v4, b5, B5, m5, d5, E5, u5, v5, b6, B6, m6, d6, E6, u6, v6, ad6, ad7, ad8, rfl, HKp, hBi, qf1, qf3, qf5, qf6, qf7, qf8, qn6_7, qn6_8, qn7_8, qd3_1, qd5_3, qd9_1, qd9_5, qd9_6, qd10_3, qd10_7, qd10_9, qd11_5, qd11_8, qd11_10⟩ hne hi
   have hlt : i < 12 := by have := zaJ hi; rw [hO] at this; exact this
   rcases (show i = 0 ∨ i = 1 ∨ i = 2 ∨ i = 3 ∨ i = 4 ∨ i = 5 ∨ i = 6 ∨ i = 7 ∨ i = 8 ∨ i = 9 ∨ i = 10 ∨ i = 11 by omega) with rfl | rfl | rfl | rfl | rfl | rfl | rfl | rfl | rfl | rfl | rfl | rfl
   ·cases (zad hi : true = false)
   ·obtain rfl : fl1 = false := zad hi
    obtain rfl : fl3 = false := Gd.off qd3_1.out
    obtain rfl : fl5 = false := Gd.off qd5_3.out
    obtain rfl : fl9 = false := Gd.off qd9_1.out
    obtain rfl : fl10 = false := Gd.off qd10_3.out
    obtain rfl : fl11 = false := Gd.off qd11_5.out
    have rd18 := HKp.get 18 (by decide) RB18
    refine wog hO (fun K' hK => ?_)
    go_simp
    refine (C0.out w' hBi.out).mono ?_
    rintro e w2 ⟨nb4, nB4, nm4, nd4, nE4, nu4, nv4, rfl, nhw4, hb⟩
    exact hK.out _ _ ⟨zab hBi.out hb, true, false, false, fl6, fl7, fl8, false, false, false, nb4, nB4, nm4, nd4, nE4, nu4, nv4, b5, B5, m5, d5, E5, u5, v5, b6, B6, m6, d6, E6, u6, v6, ad6, ad7, ad8, by rfl, HKp.put (by decide) _, zab hBi.out hb, Gd.yes ⟨zal (HKp.lt (by rw [hsz]; decide)) _, nhw4⟩, Gd.no, Gd.no, kq qf6.out fun h => ⟨h.1, zac hb h.2⟩, kq qf7.out fun h => ⟨h.1, zac hb h.2⟩, kq qf8.out fun h => ⟨h.1, zac hb h.2⟩, qn6_7, qn6_8, qn7_8, Gd.no, Gd.no, Gd.no, Gd.no, Gd.no, Gd.no, Gd.no, Gd.no, Gd.no, Gd.no, Gd.no⟩
   ·cases (zad hi : true = false)
   ·obtain rfl : fl3 = false := zad hi
    obtain rfl : fl1 = true := rdp 1 1 hi hO
    obtain rfl : fl5 = false := Gd.off qd5_3.out
    obtain rfl : fl9 = false := Gd.off qd9_5.out
    obtain rfl : fl10 = false := Gd.off qd10_3.out
    obtain rfl : fl11 = false := Gd.off qd11_5.out
    have rd20 := HKp.get 20 (by decide) RB20
    refine wog hO (fun K' hK => ?_)
    go_simp
    refine (C1.out w' hBi.out).mono ?_
    rintro e w2 ⟨nb5, nB5, nm5, nd5, nE5, nu5, nv5, rfl, nhw5, hb⟩
    exact hK.out _ _ ⟨zab hBi.out hb, true, true, false, fl6, fl7, fl8, false, false, false, b4, B4, m4, d4, E4, u4, v4, nb5, nB5, nm5, nd5, nE5, nu5, nv5, b6, B6, m6, d6, E6, u6, v6, ad6, ad7, ad8, by rfl, HKp.put (by decide) _, zab hBi.out hb, kq qf1.out fun h => (h).below hb, Gd.yes ⟨zal (HKp.lt (by rw [hsz]; decide)) _, nhw5⟩, Gd.no, kq qf6.out fun h => ⟨h.1, zac hb h.2⟩, kq qf7.out fun h => ⟨h.1, zac hb h.2⟩, kq qf8.out fun h => ⟨h.1, zac hb h.2⟩, qn6_7, qn6_8, qn7_8, fun _ => rfl, Gd.no, Gd.no, Gd.no, Gd.no, Gd.no, Gd.no, Gd.no, Gd.no, Gd.no, Gd.no⟩
   ·cases (zad hi : true = false)
   ·obtain rfl : fl5 = false := zad hi
    obtain rfl : fl3 = true := rdp 3 1 hi hO
    obtain rfl : fl1 = true := qd3_1.out.get
    obtain rfl : fl9 = false := Gd.off qd9_5.out
    obtain rfl : fl10 = false := Gd.off qd10_9.out
    obtain rfl : fl11 = false := Gd.off qd11_5.out
    have rd22 := HKp.get 22 (by decide) RB22
    refine wog hO (fun K' hK => ?_)
    go_simp
    refine (C2.out w' hBi.out).mono ?_
    rintro e w2 ⟨nb6, nB6, nm6, nd6, nE6, nu6, nv6, rfl, nhw6, hb⟩
    exact hK.out _ _ ⟨zab hBi.out hb, true, true, true, fl6, fl7, fl8, false, false, false, b4, B4, m4, d4, E4, u4, v4, b5, B5, m5, d5, E5, u5, v5, nb6, nB6, nm6, nd6, nE6, nu6, nv6, ad6, ad7, ad8, by rfl, HKp.put (by decide) _, zab hBi.out hb, kq qf1.out fun h => (h).below hb, kq qf3.out fun h => (h).below hb, Gd.yes ⟨zal (HKp.lt (by rw [hsz]; decide)) _, nhw6⟩, kq qf6.out fun h => ⟨h.1, zac hb h.2⟩, kq qf7.out fun h => ⟨h.1, zac hb h.2⟩, kq qf8.out fun h => ⟨h.1, zac hb h.2⟩, qn6_7, qn6_8, qn7_8, fun _ => rfl, fun _ => rfl, Gd.no, Gd.no, Gd.no, Gd.no, Gd.no, Gd.no, Gd.no, Gd.no, Gd.no⟩
   ·obtain rfl : fl6 = false := zad hi
    obtain rfl : fl9 = false := Gd.off qd9_6.out
    obtain rfl : fl10 = false := Gd.off qd10_9.out
    obtain rfl : fl11 = false := Gd.off qd11_10.out
    refine wog hO (fun K' hK => ?_)
    go_simp
    have hb := zau w' (.cells #[.bool false, .slice none 0 0, .slice none 0 0] 31)
    exact hK.out _ _ ⟨zab hBi.out hb, fl1, fl3, fl5, true, fl7, fl8, false, false, false, b4, B4, m4, d4, E4, u4, v4, b5, B5, m5, d5, E5, u5, v5, b6, B6, m6, d6, E6, u6, v6, w'.heap.size, ad7, ad8, by rfl, HKp.put (by decide) _, zab hBi.out hb, kq qf1.out fun h => (h).below hb, kq qf3.out fun h => (h).below hb, kq qf5.out fun h => (h).below hb, Gd.yes ⟨zal (HKp.lt (by rw [hsz]; decide)) _, hBi.out.size, Blk.new w' _ _⟩, kq qf7.out fun h => ⟨h.1, zac hb h.2⟩, kq qf8.out fun h => ⟨h.1, zac hb h.2⟩, Gd.yes (qf7.out.mono fun h => by have := Blk.lt h.2.2; omega), Gd.yes (qf8.out.mono fun h => by have := Blk.lt h.2.2; omega), qn7_8, qd3_1, qd5_3, Gd.no, Gd.no, Gd.no, Gd.no, Gd.no, Gd.no, Gd.no, Gd.no, Gd.no⟩
   ·obtain rfl : fl7 = false := zad hi
    obtain rfl : fl10 = false := Gd.off qd10_7.out
    obtain rfl : fl11 = false := Gd.off qd11_10.out
    refine wog hO (fun K' hK => ?_)
    go_simp
    have hb := zau w' (.cells #[.bool false, .slice none 0 0, .slice none 0 0] 31)
    exact hK.out _ _ ⟨zab hBi.out hb, fl1, fl3, fl5, fl6, true, fl8, fl9, false, false, b4, B4, m4, d4, E4, u4, v4, b5, B5, m5, d5, E5, u5, v5, b6, B6, m6, d6, E6, u6, v6, ad6, w'.heap.size, ad8, by rfl, HKp.put (by decide) _, zab hBi.out hb, kq qf1.out fun h => (h).below hb, kq qf3.out fun h => (h).below hb, kq qf5.out fun h => (h).below hb, kq qf6.out fun h => ⟨h.1, zac hb h.2⟩, Gd.yes ⟨zal (HKp.lt (by rw [hsz]; decide)) _, hBi.out.size, Blk.new w' _ _⟩, kq qf8.out fun h => ⟨h.1, zac hb h.2⟩, qf6.out.mono fun h => Gd.yes (by have := Blk.lt h.2.2; omega), qn6_8, Gd.yes (qf8.out.mono fun h => by have := Blk.lt h.2.2; omega), qd3_1, qd5_3, qd9_1, qd9_5, qd9_6, Gd.no, Gd.no, Gd.no, Gd.no, Gd.no, Gd.no⟩
   ·obtain rfl : fl8 = false := zad hi
    obtain rfl : fl11 = false := Gd.off qd11_8.out
    refine wog hO (fun K' hK => ?_)
    go_simp
    have hb := zau w' (.cells #[.bool false, .slice none 0 0, .slice none 0 0] 31)
    exact hK.out _ _ ⟨zab hBi.out hb, fl1, fl3, fl5, fl6, fl7, true, fl9, fl10, false, b4, B4, m4, d4, E4, u4, v4, b5, B5, m5, d5, E5, u5, v5, b6, B6, m6, d6, E6, u6, v6, ad6, ad7, w'.heap.size, by rfl, HKp.put (by decide) _, zab hBi.out hb, kq qf1.out fun h => (h).below hb, kq qf3.out fun h => (h).below hb, kq qf5.out fun h => (h).below hb, kq qf6.out fun h => ⟨h.1, zac hb h.2⟩, kq qf7.out fun h => ⟨h.1, zac hb h.2⟩, Gd.yes ⟨zal (HKp.lt (by rw [hsz]; decide)) _, hBi.out.size, Blk.new w' _ _⟩, qn6_7, qf6.out.mono fun h => Gd.yes (by have := Blk.lt h.2.2; omega), qf7.out.mono fun h => Gd.yes (by have := Blk.lt h.2.2; omega), qd3_1, qd5_3, qd9_1, qd9_5, qd9_6, qd10_3, qd10_7, qd10_9, Gd.no, Gd.no, Gd.no⟩
   ·obtain rfl : fl9 = false := zad hi
    obtain rfl : fl1 = true := rdp 1 1 hi hO
    obtain rfl : fl5 = true := rdp 5 2 hi hO
    obtain rfl : fl6 = true := rdp 6 0 hi hO
    obtain rfl : fl7 = true := rdp 7 10 hi hO
    obtain rfl : fl8 = true := rdp 8 11 hi hO
    obtain rfl : fl3 = true := qd5_3.out.get
    obtain rfl : fl10 = false := Gd.off qd10_9.out
    obtain rfl : fl11 = false := Gd.off qd11_10.out
    have rd7 := qf6.out.get.1
    have rd19 := qf1.out.get.1
    obtain ⟨_, hg, hk⟩ := qf6.out.get
    have hk : Blk w' ad6 31 #[.bool false, .slice none 0 0, .slice none 0 0] := hk
    obtain ⟨sc0, sf0, sc1, sf1, sc2, sf2⟩ := st3 hk (.bool b4) (.slice B4 m4 d4)
    have hj2 := sn3 hk (.bool b4) (.slice B4 m4 d4) (.slice E4 u4 v4)
    have hBn := bl3 (.bool b4) (.slice B4 m4 d4) (.slice E4 u4 v4) hg hBi.out
    refine wog hO (fun K' hK => ?_)
    go_simp
    exact hK.out _ _ ⟨hBn, true, true, true, true, true, true, true, false, false, b4, B4, m4, d4, E4, u4, v4, b5, B5, m5, d5, E5, u5, v5, b6, B6, m6, d6, E6, u6, v6, ad6, ad7, ad8, by rfl, HKp, hBn, qf1.out.mono fun h => ⟨h.1, zar (h.2) hk zaK (zaI _ _ _ _ _)⟩, qf3.out.mono fun h => ⟨h.1, zar (h.2) hk zaK (zaI _ _ _ _ _)⟩, qf5.out.mono fun h => ⟨h.1, zar (h.2) hk zaK (zaI _ _ _ _ _)⟩, qf6.out.mono fun h => ⟨h.1, h.2.1, hj2⟩, fun hf9 => (fun h => ⟨h.1, h.2.1, Blk.far (p := ⟨ad6, 2, none⟩) (Blk.far (p := ⟨ad6, 1, none⟩) (Blk.far (p := ⟨ad6, 0, none⟩) (h.2.2) (Ne.symm (qn6_7.out rfl hf9)) (.bool b4)) (Ne.symm (qn6_7.out rfl hf9)) (.slice B4 m4 d4)) (Ne.symm (qn6_7.out rfl hf9)) (.slice E4 u4 v4)⟩) (qf7.out hf9), fun hf9 => (fun h => ⟨h.1, h.2.1, Blk.far (p := ⟨ad6, 2, none⟩) (Blk.far (p := ⟨ad6, 1, none⟩) (Blk.far (p := ⟨ad6, 0, none⟩) (h.2.2) (Ne.symm (qn6_8.out rfl hf9)) (.bool b4)) (Ne.symm (qn6_8.out rfl hf9)) (.slice B4 m4 d4)) (Ne.symm (qn6_8.out rfl hf9)) (.slice E4 u4 v4)⟩) (qf8.out hf9), qn6_7, qn6_8, qn7_8, fun _ => rfl, fun _ => rfl, fun _ => rfl, fun _ => rfl, fun _ => rfl, Gd.no, Gd.no, Gd.no, Gd.no, Gd.no, Gd.no⟩
   ·obtain rfl : fl10 = false := zad hi
    obtain rfl : fl1 = true := rdp 1 4 hi hO
    obtain rfl : fl3 = true := rdp 3 1 hi hO
    obtain rfl : fl6 = true := rdp 6 9 hi hO
    obtain rfl : fl7 = true := rdp 7 0 hi hO
    obtain rfl : fl8 = true := rdp 8 11 hi hO
    obtain rfl : fl9 = true := rdp 9 2 hi hO
    obtain rfl : fl5 = true := qd9_5.out.get
    obtain rfl : fl11 = false := Gd.off qd11_10.out
    have rd8 := qf7.out.get.1
    have rd21 := qf3.out.get.1
    obtain ⟨_, hg, hk⟩ := qf7.out.get
    have hk : Blk w' ad7 31 #[.bool false, .slice none 0 0, .slice none 0 0] := hk
    obtain ⟨sc0, sf0, sc1, sf1, sc2, sf2⟩ := st3 hk (.bool b5) (.slice B5 m5 d5)
    have hj2 := sn3 hk (.bool b5) (.slice B5 m5 d5) (.slice E5 u5 v5)
    have hBn := bl3 (.bool b5) (.slice B5 m5 d5) (.slice E5 u5 v5) hg hBi.out
    refine wog hO (fun K' hK => ?_)
    go_simp
    exact hK.out _ _ ⟨hBn, true, true, true, true, true, true, true, true, false, b4, B4, m4, d4, E4, u4, v4, b5, B5, m5, d5, E5, u5, v5, b6, B6, m6, d6, E6, u6, v6, ad6, ad7, ad8, by rfl, HKp, hBn, qf1.out.mono fun h => ⟨h.1, zar (h.2) hk zaK (zaI _ _ _ _ _)⟩, qf3.out.mono fun h => ⟨h.1, zar (h.2) hk zaK (zaI _ _ _ _ _)⟩, qf5.out.mono fun h => ⟨h.1, zar (h.2) hk zaK (zaI _ _ _ _ _)⟩, fun hf9 => (fun h => ⟨h.1, h.2.1, Blk.far (p := ⟨ad7, 2, none⟩) (Blk.far (p := ⟨ad7, 1, none⟩) (Blk.far (p := ⟨ad7, 0, none⟩) (h.2.2) (qn6_7.out hf9 rfl) (.bool b5)) (qn6_7.out hf9 rfl) (.slice B5 m5 d5)) (qn6_7.out hf9 rfl) (.slice E5 u5 v5)⟩) (qf6.out hf9), qf7.out.mono fun h => ⟨h.1, h.2.1, hj2⟩, fun hf9 => (fun h => ⟨h.1, h.2.1, Blk.far (p := ⟨ad7, 2, none⟩) (Blk.far (p := ⟨ad7, 1, none⟩) (Blk.far (p := ⟨ad7, 0, none⟩) (h.2.2) (Ne.symm (qn7_8.out rfl hf9)) (.bool b5)) (Ne.symm (qn7_8.out rfl hf9)) (.slice B5 m5 d5)) (Ne.symm (qn7_8.out rfl hf9)) (.slice E5 u5 v5)⟩) (qf8.out hf9), qn6_7, qn6_8, qn7_8, fun _ => rfl, fun _ => rfl, fun _ => rfl, fun _ => rfl, fun _ => rfl, fun _ => rfl, fun _ => rfl, fun _ => rfl, Gd.no, Gd.no, Gd.no⟩
   ·obtain rfl : fl11 = false := zad hi
    obtain rfl : fl1 = true := rdp 1 4 hi hO
    obtain rfl : fl3 = true := rdp 3 6 hi hO
    obtain rfl : fl5 = true := rdp 5 1 hi hO
    obtain rfl : fl6 = true := rdp 6 9 hi hO
    obtain rfl : fl7 = true := rdp 7 10 hi hO
    obtain rfl : fl8 = true := rdp 8 0 hi hO
    obtain rfl : fl9 = true := rdp 9 12 hi hO
    obtain rfl : fl10 = true := rdp 10 2 hi hO
    have rd9 := qf8.out.get.1
    have rd23 := qf5.out.get.1
    obtain ⟨_, hg, hk⟩ := qf8.out.get
    have hk : Blk w' ad8 31 #[.bool false, .slice none 0 0, .slice none 0 0] := hk
    obtain ⟨sc0, sf0, sc1, sf1, sc2, sf2⟩ := st3 hk (.bool b6) (.slice B6 m6 d6)
    have hj2 := sn3 hk (.bool b6) (.slice B6 m6 d6) (.slice E6 u6 v6)
    have hBn := bl3 (.bool b6) (.slice B6 m6 d6) (.slice E6 u6 v6) hg hBi.out
    refine wog hO (fun K' hK => ?_)
    go_simp
    exact hK.out _ _ ⟨hBn, true, true, true, true, true, true, true, true, true, b4, B4, m4, d4, E4, u4, v4, b5, B5, m5, d5, E5, u5, v5, b6, B6, m6, d6, E6, u6, v6, ad6, ad7, ad8, by rfl, HKp, hBn, qf1.out.mono fun h => ⟨h.1, zar (h.2) hk zaK (zaI _ _ _ _ _)⟩, qf3.out.mono fun h => ⟨h.1, zar (h.2) hk zaK (zaI _ _ _ _ _)⟩, qf5.out.mono fun h => ⟨h.1, zar (h.2) hk zaK (zaI _ _ _ _ _)⟩, fun hf9 => (fun h => ⟨h.1, h.2.1, Blk.far (p := ⟨ad8, 2, none⟩) (Blk.far (p := ⟨ad8, 1, none⟩) (Blk.far (p := ⟨ad8, 0, none⟩) (h.2.2) (qn6_8.out hf9 rfl) (.bool b6)) (qn6_8.out hf9 rfl) (.slice B6 m6 d6)) (qn6_8.out hf9 rfl) (.slice E6 u6 v6)⟩) (qf6.out hf9), fun hf9 => (fun h => ⟨h.1, h.2.1, Blk.far (p := ⟨ad8, 2, none⟩) (Blk.far (p := ⟨ad8, 1, none⟩) (Blk.far (p := ⟨ad8, 0, none⟩) (h.2.2) (qn7_8.out hf9 rfl) (.bool b6)) (qn7_8.out hf9 rfl) (.slice B6 m6 d6)) (qn7_8.out hf9 rfl) (.slice E6 u6 v6)⟩) (qf7.out hf9), qf8.out.mono fun h => ⟨h.1, h.2.1, hj2⟩, qn6_7, qn6_8, qn7_8, fun _ => rfl, fun _ => rfl, fun _ => rfl, fun _ => rfl, fun _ => rfl, fun _ => rfl, fun _ => rfl, fun _ => rfl, fun _ => rfl, fun _ => rfl, fun _ => rfl⟩
 rintro a wm3 ⟨fl1, fl3, fl5, fl6, fl7, fl8, fl9, fl10, fl11, b4, B4, m4, d4, E4, u4, v4, b5, B5, m5, d5, E5, u5, v5, b6, B6, m6, d6, E6, u6, v6, ad6, ad7, ad8, hl, HKp, hBi, qf1, qf3, qf5, qf6, qf7, qf8, qn6_7, qn6_8, qn7_8, qd3_1, qd5_3, qd9_1, qd9_5, qd9_6, qd10_3, qd10_7, qd10_9, qd11_5, qd11_8, qd11_10⟩
 have xx1 : fl1 = true := gdl 1 hl
 subst xx1
 have xx3 : fl3 = true := gdl 3 hl
 subst xx3
 have xx5 : fl5 = true := gdl 5 hl
 subst xx5
 have xx6 : fl6 = true := gdl 6 hl
 subst xx6
 have xx7 : fl7 = true := gdl 7 hl
 subst xx7
 have xx8 : fl8 = true := gdl 8 hl
 subst xx8
 have xx9 : fl9 = true := gdl 9 hl
 subst xx9
 have xx10 : fl10 = true := gdl 10 hl
 subst xx10
 have xx11 : fl11 = true := gdl 11 hl
 subst xx11
 obtain ⟨rv1, hw4⟩ := qf1.out.get
 obtain ⟨rv3, hw5⟩ := qf3.out.get
 obtain ⟨rv5, hw6⟩ := qf5.out.get
 obtain ⟨rv6, hg6, hk6⟩ := qf6.out.get
 obtain ⟨rv7, hg7, hk7⟩ := qf7.out.get
 obtain ⟨rv8, hg8, hk8⟩ := qf8.out.get
 obtain rfl := HKp.eq [(19, .agg #[.bool b4, .slice B4 m4 d4, .slice E4 u4 v4]), (21, .agg #[.bool b5, .slice B5 m5 d5, .slice E5 u5 v5]), (23, .agg #[.bool b6, .slice B6 m6 d6, .slice E6 u6 v6]), (7, .pointer (some ⟨ad6, 0, none⟩)), (8, .pointer (some ⟨ad7, 0, none⟩)), (9, .pointer (some ⟨ad8, 0, none⟩))] rfl (by
  intro p hp
  simp only [List.mem_cons, List.not_mem_nil, or_false] at hp
  rcases hp with rfl | rfl | rfl | rfl | rfl | rfl
  ·exact rv1
  ·exact rv3
  ·exact rv5
  ·exact rv6
  ·exact rv7
  ·exact rv8)
 have hBv := hBi.out
 clear hl hBi HKp qf1 qf3 qf5 qf6 qf7 qf8 qn6_7 qn6_8 qn7_8 qd3_1 qd5_3 qd9_1 qd9_5 qd9_6 qd10_3 qd10_7 qd10_9 qd11_5 qd11_8 qd11_10 rv1 rv3 rv5 rv6 rv7 rv8
 have hk6 : Blk wm3 ad6 31 #[.bool b4, .slice B4 m4 d4, .slice E4 u4 v4] := hk6
 have hk7 : Blk wm3 ad7 31 #[.bool b5, .slice B5 m5 d5, .slice E5 u5 v5] := hk7
 have hk8 : Blk wm3 ad8 31 #[.bool b6, .slice B6 m6 d6, .slice E6 u6 v6] := hk8
 rw [show due #[true, true, true, true, true, true, true, true, true, true, true, true] = 0 from rfl]
 simp only [zaR, List.foldl, Act.put, List.setIfInBounds_toArray, List.set_cons_zero, List.set_cons_succ]
 refine wpAnyH_done (by kernel_rfl) ?_ _
 refine NoPanic.normal ?_
 have hB := zab hB hBv
 have g1 := zaa hBv g1
 have e1 := zaa hBv e1
 have i1 := zaa hBv i1
 have g2 := zaa hBv g2
 have e2 := zaa hBv e2
 have i2 := zaa hBv i2
 have g3 := zaa hBv g3
 have e3 := zaa hBv e3
 have i3 := zaa hBv i3
 obtain ⟨ad6_7, hga⟩ : ∃ x, x = ad6 := ⟨_, rfl⟩
 subst hga
 obtain ⟨g7, e7, i7⟩ := hk6.c3
 obtain ⟨ad7_8, hga⟩ : ∃ x, x = ad7 := ⟨_, rfl⟩
 subst hga
 obtain ⟨g8, e8, i8⟩ := hk7.c3
 obtain ⟨ad8_9, hga⟩ : ∃ x, x = ad8 := ⟨_, rfl⟩
 subst hga
 obtain ⟨g9, e9, i9⟩ := hk8.c3
 have HN4 := Lib.hid hw4
 have HN5 := Lib.hid hw5
 have HN6 := Lib.hid hw6
 clear hBv hk6 hg6 hk7 hg7 hk8 hg8 hw4 hw5 hw6 GG
 clear C0 C1 C2
 go_wp2_with fail
 have HZ10 : Hid (SzQ (K + K + 1) (x + y)) := SzQ.add HZ4.out HZ5.out
 have C0 := Lib.hid (fun w' (h : Below wm3.heap.size wm3 w') => HQC.out.add (x) (y) b4 b5 B4 B5 m4 m5 d4 d5 E4 E5 u4 u5 v4 v5 w' (HT.out _ (zab hB h)) (HN4.out.below h) (HN5.out.below h) (SzQ.fit HZ4.out HN4.out (by omega)) (SzQ.fit HZ5.out HN5.out (by omega)))
 have HZ11 : Hid (SzQ (K + K) (x * y)) := SzQ.mul HZ4.out HZ5.out
 have C1 := Lib.hid (fun w' (h : Below wm3.heap.size wm3 w') => HQC.out.mul (x) (y) b4 b5 B4 B5 m4 m5 d4 d5 E4 E5 u4 u5 v4 v5 w' (HT.out _ (zab hB h)) (HN4.out.below h) (HN5.out.below h) (SzQ.fit HZ4.out HN4.out (by omega)) (SzQ.fit HZ5.out HN5.out (by omega)))
 have GG := Lib.hid (fun w' (h : Below wm3.heap.size wm3 w') => (csc (zaa h g7) (csc (zaa h e7) (csc (zaa h i7) (csc (zaa h g8) (csc (zaa h e8) (csc (zaa h i8) csn)))))))
 refine rgB (fun hHeld => ?_)
 refine tl 0 GG.out ?_
 try simp only [sb]
 refine tl 1 GG.out ?_
 try simp only [sb]
 refine tl 3 GG.out ?_
 try simp only [sb]
 refine tl 4 GG.out ?_
 try simp only [sb]
 refine zaw (L := #[true, true, true, true, true, true, true, true, true, true])
  (J := fun a0 l a w' => ∃ (fl2 fl5 fl6 fl7 fl8 fl9 b10 : Bool) (B10 : Option Addr) (m10 d10 : Nat) (E10 : Option Addr) (u10 v10 : Nat) (b11 : Bool) (B11 : Option Addr) (m11 d11 : Nat) (E11 : Option Addr) (u11 v11 ad6 ad7 : Nat), l = #[true, true, fl2, true, true, fl5, fl6, fl7, fl8, fl9] ∧ zaT [26, 29, 10, 11] a0 a ∧ Hid (Below wm3.heap.size wm3 w') ∧
    Hid (Gd fl2 (a.tmps.getD 26 undef = .agg #[.bool b10, .slice B10 m10 d10, .slice E10 u10 v10] ∧ zah w' (x + y) b10 B10 m10 d10 E10 u10 v10)) ∧
    Hid (Gd fl5 (a.tmps.getD 29 undef = .agg #[.bool b11, .slice B11 m11 d11, .slice E11 u11 v11] ∧ zah w' (x * y) b11 B11 m11 d11 E11 u11 v11)) ∧
    Hid (Gd fl6 (a.tmps.getD 10 undef = .pointer (some ⟨ad6, 0, none⟩) ∧ wm3.heap.size ≤ ad6 ∧ Blk w' ad6 31 (bif fl8 then #[.bool b10, .slice B10 m10 d10, .slice E10 u10 v10] else #[.bool false, .slice none 0 0, .slice none 0 0]))) ∧
    Hid (Gd fl7 (a.tmps.getD 11 undef = .pointer (some ⟨ad7, 0, none⟩) ∧ wm3.heap.size ≤ ad7 ∧ Blk w' ad7 31 (bif fl9 then #[.bool b11, .slice B11 m11 d11, .slice E11 u11 v11] else #[.bool false, .slice none 0 0, .slice none 0 0]))) ∧
    Hid (Gd fl6 (Gd fl7 (ad6 ≠ ad7))) ∧
    Hid (Gd fl5 (fl2 = true)) ∧
    Hid (Gd fl8 (fl2 = true)) ∧
    Hid (Gd fl8 (fl5 = true)) ∧
    Hid (Gd fl8 (fl6 = true)) ∧
    Hid (Gd fl9 (fl5 = true)) ∧
    Hid (Gd fl9 (fl7 = true)) ∧
    Hid (Gd fl9 (fl8 = true)))
  (by rfl) ?_ ?_ ?_
 ·exact ⟨false, false, false, false, false, false, false, none, 0, 0, none, 0, 0, false, none, 0, 0, none, 0, 0, 0, 0, by kernel_rfl, zaT.refl _ _, hHeld, Gd.no, Gd.no, Gd.no, Gd.no, Gd.no, Gd.no, Gd.no, Gd.no, Gd.no, Gd.no, Gd.no, Gd.no⟩
 ·intro OPS Ac0 Q0 hO hAs hA
  have RB24 : Ac0.tmps.getD 24 undef = .agg #[.bool b4, .slice B4 m4 d4, .slice E4 u4 v4] := (hA 24 undef).trans (by kernel_rfl)
  have RB25 : Ac0.tmps.getD 25 undef = .agg #[.bool b5, .slice B5 m5 d5, .slice E5 u5 v5] := (hA 25 undef).trans (by kernel_rfl)
  have RB27 : Ac0.tmps.getD 27 undef = .agg #[.bool b4, .slice B4 m4 d4, .slice E4 u4 v4] := (hA 27 undef).trans (by kernel_rfl)
  have RB28 : Ac0.tmps.getD 28 undef = .agg #[.bool b5, .slice B5 m5 d5, .slice E5 u5 v5] := (hA 28 undef).trans (by kernel_rfl)
  have hsz : Ac0.tmps.size = 119 := hAs.trans (by kernel_rfl)
  clear hAs hA
  refine ⟨?_, ?_⟩
  ·rintro l a w' ⟨fl2, fl5, fl6, fl7, fl8, fl9, b10, B10, m10, d10, E10, u10, v10, b11, B11, m11, d11, E11, u11, v11, ad6, ad7, rfl, -⟩ hr
   obtain rfl : fl2 = true := als 2 hr hO
   obtain rfl : fl5 = true := als 5 hr hO
   obtain rfl : fl6 = true := als 6 hr hO
   obtain rfl : fl7 = true := als 7 hr hO
   obtain rfl : fl8 = true := als 8 hr hO
   obtain rfl : fl9 = true := als 9 hr hO
   rfl
  ·rintro l a w' i ⟨fl2, fl5, fl6, fl7, fl8, fl9, b10, B10, m10, d10, E10, u10, v10, b11, B11, m11, d11, E11, u11, v11, ad6, ad7, rfl, HKp, hBi, qf2, qf5, qf6, qf7, qn6_7, qd5_2, qd8_2, qd8_5, qd8_6, qd9_5, qd9_7, qd9_8⟩ hne hi
   have hlt : i < 10 := by have := zaJ hi; rw [hO] at this; exact this
   rcases (show i = 0 ∨ i = 1 ∨ i = 2 ∨ i = 3 ∨ i = 4 ∨ i = 5 ∨ i = 6 ∨ i = 7 ∨ i = 8 ∨ i = 9 by omega) with rfl | rfl | rfl | rfl | rfl | rfl | rfl | rfl | rfl | rfl
   ·cases (zad hi : true = false)
   ·cases (zad hi : true = false)
   ·obtain rfl : fl2 = false := zad hi
    obtain rfl : fl5 = false := Gd.off qd5_2.out
    obtain rfl : fl8 = false := Gd.off qd8_2.out
    obtain rfl : fl9 = false := Gd.off qd9_5.out
    have rd24 := HKp.get 24 (by decide) RB24
    have rd25 := HKp.get 25 (by decide) RB25
    refine wog hO (fun K' hK => ?_)
    go_simp
    refine (C0.out w' hBi.out).mono ?_
    rintro e w2 ⟨nb10, nB10, nm10, nd10, nE10, nu10, nv10, rfl, nhw10, hb⟩
    exact hK.out _ _ ⟨zab hBi.out hb, true, false, fl6, fl7, false, false, nb10, nB10, nm10, nd10, nE10, nu10, nv10, b11, B11, m11, d11, E11, u11, v11, ad6, ad7, by rfl, HKp.put (by decide) _, zab hBi.out hb, Gd.yes ⟨zal (HKp.lt (by rw [hsz]; decide)) _, nhw10⟩, Gd.no, kq qf6.out fun h => ⟨h.1, zac hb h.2⟩, kq qf7.out fun h => ⟨h.1, zac hb h.2⟩, qn6_7, Gd.no, Gd.no, Gd.no, Gd.no, Gd.no, Gd.no, Gd.no⟩
   ·cases (zad hi : true = false)
   ·cases (zad hi : true = false)
   ·obtain rfl : fl5 = false := zad hi
    obtain rfl : fl2 = true := rdp 2 2 hi hO
    obtain rfl : fl8 = false := Gd.off qd8_5.out
    obtain rfl : fl9 = false := Gd.off qd9_5.out
    have rd27 := HKp.get 27 (by decide) RB27
    have rd28 := HKp.get 28 (by decide) RB28
    refine wog hO (fun K' hK => ?_)
    go_simp
    refine (C1.out w' hBi.out).mono ?_
    rintro e w2 ⟨nb11, nB11, nm11, nd11, nE11, nu11, nv11, rfl, nhw11, hb⟩
    exact hK.out _ _ ⟨zab hBi.out hb, true, true, fl6, fl7, false, false, b10, B10, m10, d10, E10, u10, v10, nb11, nB11, nm11, nd11, nE11, nu11, nv11, ad6, ad7, by rfl, HKp.put (by decide) _, zab hBi.out hb, kq qf2.out fun h => (h).below hb, Gd.yes ⟨zal (HKp.lt (by rw [hsz]; decide)) _, nhw11⟩, kq qf6.out fun h => ⟨h.1, zac hb h.2⟩, kq qf7.out fun h => ⟨h.1, zac hb h.2⟩, qn6_7, fun _ => rfl, Gd.no, Gd.no, Gd.no, Gd.no, Gd.no, Gd.no⟩
   ·obtain rfl : fl6 = false := zad hi
    obtain rfl : fl8 = false := Gd.off qd8_6.out
    obtain rfl : fl9 = false := Gd.off qd9_8.out
    refine wog hO (fun K' hK => ?_)
    go_simp
    have hb := zau w' (.cells #[.bool false, .slice none 0 0, .slice none 0 0] 31)
    exact hK.out _ _ ⟨zab hBi.out hb, fl2, fl5, true, fl7, false, false, b10, B10, m10, d10, E10, u10, v10, b11, B11, m11, d11, E11, u11, v11, w'.heap.size, ad7, by rfl, HKp.put (by decide) _, zab hBi.out hb, kq qf2.out fun h => (h).below hb, kq qf5.out fun h => (h).below hb, Gd.yes ⟨zal (HKp.lt (by rw [hsz]; decide)) _, hBi.out.size, Blk.new w' _ _⟩, kq qf7.out fun h => ⟨h.1, zac hb h.2⟩, Gd.yes (qf7.out.mono fun h => by have := Blk.lt h.2.2; omega), qd5_2, Gd.no, Gd.no, Gd.no, Gd.no, Gd.no, Gd.no⟩
   ·obtain rfl : fl7 = false := zad hi
    obtain rfl : fl9 = false := Gd.off qd9_7.out
    refine wog hO (fun K' hK => ?_)
    go_simp
    have hb := zau w' (.cells #[.bool false, .slice none 0 0, .slice none 0 0] 31)
    exact hK.out _ _ ⟨zab hBi.out hb, fl2, fl5, fl6, true, fl8, false, b10, B10, m10, d10, E10, u10, v10, b11, B11, m11, d11, E11, u11, v11, ad6, w'.heap.size, by rfl, HKp.put (by decide) _, zab hBi.out hb, kq qf2.out fun h => (h).below hb, kq qf5.out fun h => (h).below hb, kq qf6.out fun h => ⟨h.1, zac hb h.2⟩, Gd.yes ⟨zal (HKp.lt (by rw [hsz]; decide)) _, hBi.out.size, Blk.new w' _ _⟩, qf6.out.mono fun h => Gd.yes (by have := Blk.lt h.2.2; omega), qd5_2, qd8_2, qd8_5, qd8_6, Gd.no, Gd.no, Gd.no⟩
   ·obtain rfl : fl8 = false := zad hi
    obtain rfl : fl2 = true := rdp 2 1 hi hO
    obtain rfl : fl5 = true := rdp 5 2 hi hO
    obtain rfl : fl6 = true := rdp 6 0 hi hO
    obtain rfl : fl7 = true := rdp 7 10 hi hO
    obtain rfl : fl9 = false := Gd.off qd9_8.out
    have rd10 := qf6.out.get.1
    have rd26 := qf2.out.get.1
    obtain ⟨_, hg, hk⟩ := qf6.out.get
    have hk : Blk w' ad6 31 #[.bool false, .slice none 0 0, .slice none 0 0] := hk
    obtain ⟨sc0, sf0, sc1, sf1, sc2, sf2⟩ := st3 hk (.bool b10) (.slice B10 m10 d10)
    have hj2 := sn3 hk (.bool b10) (.slice B10 m10 d10) (.slice E10 u10 v10)
    have hBn := bl3 (.bool b10) (.slice B10 m10 d10) (.slice E10 u10 v10) hg hBi.out
    refine wog hO (fun K' hK => ?_)
    go_simp
    exact hK.out _ _ ⟨hBn, true, true, true, true, true, false, b10, B10, m10, d10, E10, u10, v10, b11, B11, m11, d11, E11, u11, v11, ad6, ad7, by rfl, HKp, hBn, qf2.out.mono fun h => ⟨h.1, zar (h.2) hk zaK (zaI _ _ _ _ _)⟩, qf5.out.mono fun h => ⟨h.1, zar (h.2) hk zaK (zaI _ _ _ _ _)⟩, qf6.out.mono fun h => ⟨h.1, h.2.1, hj2⟩, fun hf9 => (fun h => ⟨h.1, h.2.1, Blk.far (p := ⟨ad6, 2, none⟩) (Blk.far (p := ⟨ad6, 1, none⟩) (Blk.far (p := ⟨ad6, 0, none⟩) (h.2.2) (Ne.symm (qn6_7.out rfl hf9)) (.bool b10)) (Ne.symm (qn6_7.out rfl hf9)) (.slice B10 m10 d10)) (Ne.symm (qn6_7.out rfl hf9)) (.slice E10 u10 v10)⟩) (qf7.out hf9), qn6_7, fun _ => rfl, fun _ => rfl, fun _ => rfl, fun _ => rfl, Gd.no, Gd.no, Gd.no⟩
   ·obtain rfl : fl9 = false := zad hi
    obtain rfl : fl2 = true := rdp 2 5 hi hO
    obtain rfl : fl5 = true := rdp 5 1 hi hO
    obtain rfl : fl6 = true := rdp 6 9 hi hO
    obtain rfl : fl7 = true := rdp 7 0 hi hO
    obtain rfl : fl8 = true := rdp 8 2 hi hO
    have rd11 := qf7.out.get.1
    have rd29 := qf5.out.get.1
    obtain ⟨_, hg, hk⟩ := qf7.out.get
    have hk : Blk w' ad7 31 #[.bool false, .slice none 0 0, .slice none 0 0] := hk
    obtain ⟨sc0, sf0, sc1, sf1, sc2, sf2⟩ := st3 hk (.bool b11) (.slice B11 m11 d11)
    have hj2 := sn3 hk (.bool b11) (.slice B11 m11 d11) (.slice E11 u11 v11)
    have hBn := bl3 (.bool b11) (.slice B11 m11 d11) (.slice E11 u11 v11) hg hBi.out
    refine wog hO (fun K' hK => ?_)
    go_simp
    exact hK.out _ _ ⟨hBn, true, true, true, true, true, true, b10, B10, m10, d10, E10, u10, v10, b11, B11, m11, d11, E11, u11, v11, ad6, ad7, by rfl, HKp, hBn, qf2.out.mono fun h => ⟨h.1, zar (h.2) hk zaK (zaI _ _ _ _ _)⟩, qf5.out.mono fun h => ⟨h.1, zar (h.2) hk zaK (zaI _ _ _ _ _)⟩, fun hf9 => (fun h => ⟨h.1, h.2.1, Blk.far (p := ⟨ad7, 2, none⟩) (Blk.far (p := ⟨ad7, 1, none⟩) (Blk.far (p := ⟨ad7, 0, none⟩) (h.2.2) (qn6_7.out hf9 rfl) (.bool b11)) (qn6_7.out hf9 rfl) (.slice B11 m11 d11)) (qn6_7.out hf9 rfl) (.slice E11 u11 v11)⟩) (qf6.out hf9), qf7.out.mono fun h => ⟨h.1, h.2.1, hj2⟩, qn6_7, fun _ => rfl, fun _ => rfl, fun _ => rfl, fun _ => rfl, fun _ => rfl, fun _ => rfl, fun _ => rfl⟩
 rintro a wm4 ⟨fl2, fl5, fl6, fl7, fl8, fl9, b10, B10, m10, d10, E10, u10, v10, b11, B11, m11, d11, E11, u11, v11, ad6, ad7, hl, HKp, hBi, qf2, qf5, qf6, qf7, qn6_7, qd5_2, qd8_2, qd8_5, qd8_6, qd9_5, qd9_7, qd9_8⟩
 have xx2 : fl2 = true := gdl 2 hl
 subst xx2
 have xx5 : fl5 = true := gdl 5 hl
 subst xx5
 have xx6 : fl6 = true := gdl 6 hl
 subst xx6
 have xx7 : fl7 = true := gdl 7 hl
 subst xx7
 have xx8 : fl8 = true := gdl 8 hl
 subst xx8
 have xx9 : fl9 = true := gdl 9 hl
 subst xx9
 obtain ⟨rv2, hw10⟩ := qf2.out.get
 obtain ⟨rv5, hw11⟩ := qf5.out.get
 obtain ⟨rv6, hg6, hk6⟩ := qf6.out.get
 obtain ⟨rv7, hg7, hk7⟩ := qf7.out.get
 obtain rfl := HKp.eq [(26, .agg #[.bool b10, .slice B10 m10 d10, .slice E10 u10 v10]), (29, .agg #[.bool b11, .slice B11 m11 d11, .slice E11 u11 v11]), (10, .pointer (some ⟨ad6, 0, none⟩)), (11, .pointer (some ⟨ad7, 0, none⟩))] rfl (by
  intro p hp
  simp only [List.mem_cons, List.not_mem_nil, or_false] at hp
  rcases hp with rfl | rfl | rfl | rfl
  ·exact rv2
  ·exact rv5
  ·exact rv6
  ·exact rv7)
 have hBv := hBi.out
 clear hl hBi HKp qf2 qf5 qf6 qf7 qn6_7 qd5_2 qd8_2 qd8_5 qd8_6 qd9_5 qd9_7 qd9_8 rv2 rv5 rv6 rv7
 have hk6 : Blk wm4 ad6 31 #[.bool b10, .slice B10 m10 d10, .slice E10 u10 v10] := hk6
 have hk7 : Blk wm4 ad7 31 #[.bool b11, .slice B11 m11 d11, .slice E11 u11 v11] := hk7
 rw [show due #[true, true, true, true, true, true, true, true, true, true] = 0 from rfl]
 simp only [zaR, List.foldl, Act.put, List.setIfInBounds_toArray, List.set_cons_zero, List.set_cons_succ]
 refine wpAnyH_done (by kernel_rfl) ?_ _
 refine NoPanic.normal ?_
 have hB := zab hB hBv
 have g1 := zaa hBv g1
 have e1 := zaa hBv e1
 have i1 := zaa hBv i1
 have g2 := zaa hBv g2
 have e2 := zaa hBv e2
 have i2 := zaa hBv i2
 have g3 := zaa hBv g3
 have e3 := zaa hBv e3
 have i3 := zaa hBv i3
 have g7 := zaa hBv g7
 have e7 := zaa hBv e7
 have i7 := zaa hBv i7
 have g8 := zaa hBv g8
 have e8 := zaa hBv e8
 have i8 := zaa hBv i8
 have g9 := zaa hBv g9
 have e9 := zaa hBv e9
 have i9 := zaa hBv i9
 have HN4 := Lib.hid (HN4.out.below hBv)
 have HN5 := Lib.hid (HN5.out.below hBv)
 have HN6 := Lib.hid (HN6.out.below hBv)
 obtain ⟨ad6_12, hga⟩ : ∃ x, x = ad6 := ⟨_, rfl⟩
 subst hga
 obtain ⟨g12, e12, i12⟩ := hk6.c3
 obtain ⟨ad7_13, hga⟩ : ∃ x, x = ad7 := ⟨_, rfl⟩
 subst hga
 obtain ⟨g13, e13, i13⟩ := hk7.c3
 have HN10 := Lib.hid hw10
 have HN11 := Lib.hid hw11
 clear hBv hk6 hg6 hk7 hg7 hw10 hw11 GG
 clear C0 C1
 go_wp2_with fail
 have HZ14 : Hid (SzQ (K + K + 1) (y + x)) := SzQ.add HZ5.out HZ4.out
 have C0 := Lib.hid (fun w' (h : Below wm4.heap.size wm4 w') => HQC.out.add (y) (x) b5 b4 B5 B4 m5 m4 d5 d4 E5 E4 u5 u4 v5 v4 w' (HT.out _ (zab hB h)) (HN5.out.below h) (HN4.out.below h) (SzQ.fit HZ5.out HN5.out (by omega)) (SzQ.fit HZ4.out HN4.out (by omega)))
 have C1 := Lib.hid (fun w' (h : Below wm4.heap.size wm4 w') b14 B14 m14 d14 E14 u14 v14 (hw14 : zah w' (y + x) b14 B14 m14 d14 E14 u14 v14) => zai (decide_eq_true (Rat.add_comm _ _)) (HQC.out.same (y + x) (x + y) b14 b10 B14 B10 m14 m10 d14 d10 E14 E10 u14 u10 v14 v10 w' (HT.out _ (zab hB h)) hw14 (HN10.out.below h) (SzQ.fit HZ14.out hw14 (by omega)) (SzQ.fit HZ10.out HN10.out (by omega))))
 have HZ15 : Hid (SzQ (K + K) (y * x)) := SzQ.mul HZ5.out HZ4.out
 have C2 := Lib.hid (fun w' (h : Below wm4.heap.size wm4 w') => HQC.out.mul (y) (x) b5 b4 B5 B4 m5 m4 d5 d4 E5 E4 u5 u4 v5 v4 w' (HT.out _ (zab hB h)) (HN5.out.below h) (HN4.out.below h) (SzQ.fit HZ5.out HN5.out (by omega)) (SzQ.fit HZ4.out HN4.out (by omega)))
 have C3 := Lib.hid (fun w' (h : Below wm4.heap.size wm4 w') b15 B15 m15 d15 E15 u15 v15 (hw15 : zah w' (y * x) b15 B15 m15 d15 E15 u15 v15) => zai (decide_eq_true (Rat.mul_comm _ _)) (HQC.out.same (y * x) (x * y) b15 b11 B15 B11 m15 m11 d15 d11 E15 E11 u15 u11 v15 v11 w' (HT.out _ (zab hB h)) hw15 (HN11.out.below h) (SzQ.fit HZ15.out hw15 (by omega)) (SzQ.fit HZ11.out HN11.out (by omega))))
 have HZ16 : Hid (SzQ (K + K + 1) (x - x)) := SzQ.sub HZ4.out HZ4.out
 have C4 := Lib.hid (fun w' (h : Below wm4.heap.size wm4 w') => HQC.out.sub (x) (x) b4 b4 B4 B4 m4 m4 d4 d4 E4 E4 u4 u4 v4 v4 w' (HT.out _ (zab hB h)) (HN4.out.below h) (HN4.out.below h) (SzQ.fit HZ4.out HN4.out (by omega)) (SzQ.fit HZ4.out HN4.out (by omega)))
 have C5 := Lib.hid (fun w' (h : Below wm4.heap.size wm4 w') b16 B16 m16 d16 E16 u16 v16 (hw16 : zah w' (x - x) b16 B16 m16 d16 E16 u16 v16) => zai (decide_eq_true Rat.sub_self) (HQC.out.zero (x - x) b16 B16 m16 d16 E16 u16 v16 w' (HT.out _ (zab hB h)) hw16 (SzQ.fit HZ16.out hw16 (by omega))))
 have HZ17 : Hid (SzQ ((K + K + 1) + K + 1) ((x + y) + z)) := SzQ.add HZ10.out HZ6.out
 have C6 := Lib.hid (fun w' (h : Below wm4.heap.size wm4 w') => HQC.out.add (x + y) (z) b10 b6 B10 B6 m10 m6 d10 d6 E10 E6 u10 u6 v10 v6 w' (HT.out _ (zab hB h)) (HN10.out.below h) (HN6.out.below h) (SzQ.fit HZ10.out HN10.out (by omega)) (SzQ.fit HZ6.out HN6.out (by omega)))
 have HZ18 : Hid (SzQ (K + K + 1) (y + z)) := SzQ.add HZ5.out HZ6.out
 have C7 := Lib.hid (fun w' (h : Below wm4.heap.size wm4 w') => HQC.out.add (y) (z) b5 b6 B5 B6 m5 m6 d5 d6 E5 E6 u5 u6 v5 v6 w' (HT.out _ (zab hB h)) (HN5.out.below h) (HN6.out.below h) (SzQ.fit HZ5.out HN5.out (by omega)) (SzQ.fit HZ6.out HN6.out (by omega)))
 have HZ19 : Hid (SzQ (K + (K + K + 1) + 1) (x + (y + z))) := SzQ.add HZ4.out HZ18.out
 have C8 := Lib.hid (fun w' (h : Below wm4.heap.size wm4 w') b18 B18 m18 d18 E18 u18 v18 (hw18 : zah w' (y + z) b18 B18 m18 d18 E18 u18 v18) => HQC.out.add (x) (y + z) b4 b18 B4 B18 m4 m18 d4 d18 E4 E18 u4 u18 v4 v18 w' (HT.out _ (zab hB h)) (HN4.out.below h) hw18 (SzQ.fit HZ4.out HN4.out (by omega)) (SzQ.fit HZ18.out hw18 (by omega)))
 have C9 := Lib.hid (fun w' (h : Below wm4.heap.size wm4 w') b17 B17 m17 d17 E17 u17 v17 (hw17 : zah w' ((x + y) + z) b17 B17 m17 d17 E17 u17 v17) b19 B19 m19 d19 E19 u19 v19 (hw19 : zah w' (x + (y + z)) b19 B19 m19 d19 E19 u19 v19) => zai (decide_eq_true (Rat.add_assoc _ _ _)) (HQC.out.same ((x + y) + z) (x + (y + z)) b17 b19 B17 B19 m17 m19 d17 d19 E17 E19 u17 u19 v17 v19 w' (HT.out _ (zab hB h)) hw17 hw19 (SzQ.fit HZ17.out hw17 (by omega)) (SzQ.fit HZ19.out hw19 (by omega))))
 have hBw := (Below.refl wm4.heap.size wm4).drew
 refine rg (csc g8 (csc e8 (csc i8 (csc g7 (csc e7 (csc i7 (csc g12 (csc e12 (csc i12 (csc g13 (csc e13 (csc i13 (csc g9 (csc e9 (csc i9 csn))))))))))))))) (fun hHeld => ?_)
 refine tk 0 ?_
 try simp only [sb]
 refine tk 1 ?_
 try simp only [sb]
 refine tk 3 ?_
 try simp only [sb]
 refine rc 2 (fun K hK => ?_)
 go_simp
 go_at_call 22; (with_reducible refine (C0.out _ hBw).mono ?_); rintro e wa5 ⟨b14, B14, m14, d14, E14, u14, v14, rfl, hw14, hb⟩; have hBw := zab hBw hb; refine hK.out _ _ (Cs.below hHeld hb) (fun hHeld => ?_); clear hK K hb
 try simp only [sb]
 refine rc 4 (fun K hK => ?_)
 go_simp
 go_at_call 33; (with_reducible refine (C1.out _ hBw _ _ _ _ _ _ _ hw14).mono ?_); rintro e wa6 ⟨rfl, hb⟩; have hBw := zab hBw hb; have hw14 := hw14.below hb; refine hK.out _ _ (Cs.below hHeld hb) (fun hHeld => ?_); clear hK K hb
 try simp only [sb]
 refine tk 5 ?_
 try simp only [sb]
 refine tk 6 ?_
 try simp only [sb]
 refine tk 7 ?_
 try simp only [sb]
 refine tk 8 ?_
 try simp only [sb]
 refine tk 10 ?_
 try simp only [sb]
 refine rc 9 (fun K hK => ?_)
 go_simp
 go_at_call 26; (with_reducible refine (C2.out _ hBw).mono ?_); rintro e wa7 ⟨b15, B15, m15, d15, E15, u15, v15, rfl, hw15, hb⟩; have hBw := zab hBw hb; have hw14 := hw14.below hb; refine hK.out _ _ (Cs.below hHeld hb) (fun hHeld => ?_); clear hK K hb
 try simp only [sb]
 refine rc 11 (fun K hK => ?_)
 go_simp
 go_at_call 33; (with_reducible refine (C3.out _ hBw _ _ _ _ _ _ _ hw15).mono ?_); rintro e wa8 ⟨rfl, hb⟩; have hBw := zab hBw hb; have hw14 := hw14.below hb; have hw15 := hw15.below hb; refine hK.out _ _ (Cs.below hHeld hb) (fun hHeld => ?_); clear hK K hb
 try simp only [sb]
 refine tk 12 ?_
 try simp only [sb]
 refine tk 13 ?_
 try simp only [sb]
 refine tk 14 ?_
 try simp only [sb]
 refine tk 15 ?_
 try simp only [sb]
 refine tk 16 ?_
 try simp only [sb]
 refine rc 17 (fun K hK => ?_)
 go_simp
 go_at_call 24; (with_reducible refine (C4.out _ hBw).mono ?_); rintro e wa9 ⟨b16, B16, m16, d16, E16, u16, v16, rfl, hw16, hb⟩; have hBw := zab hBw hb; have hw14 := hw14.below hb; have hw15 := hw15.below hb; refine hK.out _ _ (Cs.below hHeld hb) (fun hHeld => ?_); clear hK K hb
 try simp only [sb]
 refine rc 18 (fun K hK => ?_)
 go_simp
 go_at_call 13; (with_reducible refine (C5.out _ hBw _ _ _ _ _ _ _ hw16).mono ?_); rintro e wa10 ⟨rfl, hb⟩; have hBw := zab hBw hb; have hw14 := hw14.below hb; have hw15 := hw15.below hb; have hw16 := hw16.below hb; refine hK.out _ _ (Cs.below hHeld hb) (fun hHeld => ?_); clear hK K hb
 try simp only [sb]
 refine tk 19 ?_
 try simp only [sb]
 refine tk 20 ?_
 try simp only [sb]
 refine tk 21 ?_
 try simp only [sb]
 refine tk 22 ?_
 try simp only [sb]
 refine tk 23 ?_
 try simp only [sb]
 refine tk 25 ?_
 try simp only [sb]
 refine tk 26 ?_
 try simp only [sb]
 refine tk 27 ?_
 try simp only [sb]
 refine rc 24 (fun K hK => ?_)
 go_simp
 go_at_call 22; (with_reducible refine (C6.out _ hBw).mono ?_); rintro e wa11 ⟨b17, B17, m17, d17, E17, u17, v17, rfl, hw17, hb⟩; have hBw := zab hBw hb; have hw14 := hw14.below hb; have hw15 := hw15.below hb; have hw16 := hw16.below hb; refine hK.out _ _ (Cs.below hHeld hb) (fun hHeld => ?_); clear hK K hb
 try simp only [sb]
 refine rc 28 (fun K hK => ?_)
 go_simp
 go_at_call 22; (with_reducible refine (C7.out _ hBw).mono ?_); rintro e wa12 ⟨b18, B18, m18, d18, E18, u18, v18, rfl, hw18, hb⟩; have hBw := zab hBw hb; have hw14 := hw14.below hb; have hw15 := hw15.below hb; have hw16 := hw16.below hb; have hw17 := hw17.below hb; refine hK.out _ _ (Cs.below hHeld hb) (fun hHeld => ?_); clear hK K hb
 try simp only [sb]
 refine rc 29 (fun K hK => ?_)
 go_simp
 go_at_call 22; (with_reducible refine (C8.out _ hBw _ _ _ _ _ _ _ hw18).mono ?_); rintro e wa13 ⟨b19, B19, m19, d19, E19, u19, v19, rfl, hw19, hb⟩; have hBw := zab hBw hb; have hw14 := hw14.below hb; have hw15 := hw15.below hb; have hw16 := hw16.below hb; have hw17 := hw17.below hb; have hw18 := hw18.below hb; refine hK.out _ _ (Cs.below hHeld hb) (fun hHeld => ?_); clear hK K hb
 try simp only [sb]
 refine rc 30 (fun K hK => ?_)
 go_simp
 go_at_call 33; (with_reducible refine (C9.out _ hBw _ _ _ _ _ _ _ hw17 _ _ _ _ _ _ _ hw19).mono ?_); rintro e wa14 ⟨rfl, hb⟩; have hBw := zab hBw hb; have hw14 := hw14.below hb; have hw15 := hw15.below hb; have hw16 := hw16.below hb; have hw17 := hw17.below hb; have hw18 := hw18.below hb; have hw19 := hw19.below hb; refine hK.out _ _ (Cs.below hHeld hb) (fun hHeld => ?_); clear hK K hb
 try simp only [sb]
 refine tk 31 ?_
 try simp only [sb]
 refine tk 32 ?_
 try simp only [sb]
 refine rdn ?_
 have hB := zab hB hBw
 have g1 := zaa hBw g1
 have e1 := zaa hBw e1
 have i1 := zaa hBw i1
 have g2 := zaa hBw g2
 have e2 := zaa hBw e2
 have i2 := zaa hBw i2
 have g3 := zaa hBw g3
 have e3 := zaa hBw e3
 have i3 := zaa hBw i3
 have g7 := zaa hBw g7
 have e7 := zaa hBw e7
 have i7 := zaa hBw i7
 have g8 := zaa hBw g8
 have e8 := zaa hBw e8
 have i8 := zaa hBw i8
 have g9 := zaa hBw g9
 have e9 := zaa hBw e9
 have i9 := zaa hBw i9
 have HN4 := Lib.hid (HN4.out.below hBw)
 have HN5 := Lib.hid (HN5.out.below hBw)
 have HN6 := Lib.hid (HN6.out.below hBw)
 have g12 := zaa hBw g12
 have e12 := zaa hBw e12
 have i12 := zaa hBw i12
 have g13 := zaa hBw g13
 have e13 := zaa hBw e13
 have i13 := zaa hBw i13
 have HN10 := Lib.hid (HN10.out.below hBw)
 have HN11 := Lib.hid (HN11.out.below hBw)
 have HN14 := Lib.hid hw14
 have HN15 := Lib.hid hw15
 have HN16 := Lib.hid hw16
 have HN17 := Lib.hid hw17
 have HN18 := Lib.hid hw18
 have HN19 := Lib.hid hw19
 clear hBw hHeld hw14 hw15 hw16 hw17 hw18 hw19 C0 C1 C2 C3 C4 C5 C6 C7 C8 C9
 go_wp2_with fail
 have HZ20 : Hid (SzQ (K + (K + K + 1)) (z * (x + y))) := SzQ.mul HZ6.out HZ10.out
 have C0 := Lib.hid (fun w' (h : Below wa14.heap.size wa14 w') => HQC.out.mul (z) (x + y) b6 b10 B6 B10 m6 m10 d6 d10 E6 E10 u6 u10 v6 v10 w' (HT.out _ (zab hB h)) (HN6.out.below h) (HN10.out.below h) (SzQ.fit HZ6.out HN6.out (by omega)) (SzQ.fit HZ10.out HN10.out (by omega)))
 have HZ21 : Hid (SzQ (K + K) (z * x)) := SzQ.mul HZ6.out HZ4.out
 have C1 := Lib.hid (fun w' (h : Below wa14.heap.size wa14 w') => HQC.out.mul (z) (x) b6 b4 B6 B4 m6 m4 d6 d4 E6 E4 u6 u4 v6 v4 w' (HT.out _ (zab hB h)) (HN6.out.below h) (HN4.out.below h) (SzQ.fit HZ6.out HN6.out (by omega)) (SzQ.fit HZ4.out HN4.out (by omega)))
 have HZ22 : Hid (SzQ (K + K) (z * y)) := SzQ.mul HZ6.out HZ5.out
 have C2 := Lib.hid (fun w' (h : Below wa14.heap.size wa14 w') => HQC.out.mul (z) (y) b6 b5 B6 B5 m6 m5 d6 d5 E6 E5 u6 u5 v6 v5 w' (HT.out _ (zab hB h)) (HN6.out.below h) (HN5.out.below h) (SzQ.fit HZ6.out HN6.out (by omega)) (SzQ.fit HZ5.out HN5.out (by omega)))
 have HZ23 : Hid (SzQ ((K + K) + (K + K) + 1) ((z * x) + (z * y))) := SzQ.add HZ21.out HZ22.out
 have C3 := Lib.hid (fun w' (h : Below wa14.heap.size wa14 w') b21 B21 m21 d21 E21 u21 v21 (hw21 : zah w' (z * x) b21 B21 m21 d21 E21 u21 v21) b22 B22 m22 d22 E22 u22 v22 (hw22 : zah w' (z * y) b22 B22 m22 d22 E22 u22 v22) => HQC.out.add (z * x) (z * y) b21 b22 B21 B22 m21 m22 d21 d22 E21 E22 u21 u22 v21 v22 w' (HT.out _ (zab hB h)) hw21 hw22 (SzQ.fit HZ21.out hw21 (by omega)) (SzQ.fit HZ22.out hw22 (by omega)))
 have C4 := Lib.hid (fun w' (h : Below wa14.heap.size wa14 w') b20 B20 m20 d20 E20 u20 v20 (hw20 : zah w' (z * (x + y)) b20 B20 m20 d20 E20 u20 v20) b23 B23 m23 d23 E23 u23 v23 (hw23 : zah w' ((z * x) + (z * y)) b23 B23 m23 d23 E23 u23 v23) => zai (decide_eq_true (Rat.mul_add _ _ _)) (HQC.out.same (z * (x + y)) ((z * x) + (z * y)) b20 b23 B20 B23 m20 m23 d20 d23 E20 E23 u20 u23 v20 v23 w' (HT.out _ (zab hB h)) hw20 hw23 (SzQ.fit HZ20.out hw20 (by omega)) (SzQ.fit HZ23.out hw23 (by omega))))
 have HZ24 : Hid (SzQ ((K + K) + K) ((x * y) * z)) := SzQ.mul HZ11.out HZ6.out
 have C5 := Lib.hid (fun w' (h : Below wa14.heap.size wa14 w') => HQC.out.mul (x * y) (z) b11 b6 B11 B6 m11 m6 d11 d6 E11 E6 u11 u6 v11 v6 w' (HT.out _ (zab hB h)) (HN11.out.below h) (HN6.out.below h) (SzQ.fit HZ11.out HN11.out (by omega)) (SzQ.fit HZ6.out HN6.out (by omega)))
 have HZ25 : Hid (SzQ (K + K) (y * z)) := SzQ.mul HZ5.out HZ6.out
 have C6 := Lib.hid (fun w' (h : Below wa14.heap.size wa14 w') => HQC.out.mul (y) (z) b5 b6 B5 B6 m5 m6 d5 d6 E5 E6 u5 u6 v5 v6 w' (HT.out _ (zab hB h)) (HN5.out.below h) (HN6.out.below h) (SzQ.fit HZ5.out HN5.out (by omega)) (SzQ.fit HZ6.out HN6.out (by omega)))
 have HZ26 : Hid (SzQ (K + (K + K)) (x * (y * z))) := SzQ.mul HZ4.out HZ25.out
 have C7 := Lib.hid (fun w' (h : Below wa14.heap.size wa14 w') b25 B25 m25 d25 E25 u25 v25 (hw25 : zah w' (y * z) b25 B25 m25 d25 E25 u25 v25) => HQC.out.mul (x) (y * z) b4 b25 B4 B25 m4 m25 d4 d25 E4 E25 u4 u25 v4 v25 w' (HT.out _ (zab hB h)) (HN4.out.below h) hw25 (SzQ.fit HZ4.out HN4.out (by omega)) (SzQ.fit HZ25.out hw25 (by omega)))
 have C8 := Lib.hid (fun w' (h : Below wa14.heap.size wa14 w') b24 B24 m24 d24 E24 u24 v24 (hw24 : zah w' ((x * y) * z) b24 B24 m24 d24 E24 u24 v24) b26 B26 m26 d26 E26 u26 v26 (hw26 : zah w' (x * (y * z)) b26 B26 m26 d26 E26 u26 v26) => zai (decide_eq_true (Rat.mul_assoc _ _ _)) (HQC.out.same ((x * y) * z) (x * (y * z)) b24 b26 B24 B26 m24 m26 d24 d26 E24 E26 u24 u26 v24 v26 w' (HT.out _ (zab hB h)) hw24 hw26 (SzQ.fit HZ24.out hw24 (by omega)) (SzQ.fit HZ26.out hw26 (by omega))))
 have hBw := (Below.refl wa14.heap.size wa14).drew
 refine rg (csc g9 (csc e9 (csc i9 (csc g12 (csc e12 (csc i12 (csc g7 (csc e7 (csc i7 (csc g8 (csc e8 (csc i8 (csc g13 (csc e13 (csc i13 csn))))))))))))))) (fun hHeld => ?_)
 refine tk 0 ?_
 try simp only [sb]
 refine tk 1 ?_
 try simp only [sb]
 refine tk 3 ?_
 try simp only [sb]
 refine tk 4 ?_
 try simp only [sb]
 refine tk 6 ?_
 try simp only [sb]
 refine tk 7 ?_
 try simp only [sb]
 refine rc 2 (fun K hK => ?_)
 go_simp
 go_at_call 26; (with_reducible refine (C0.out _ hBw).mono ?_); rintro e wa15 ⟨b20, B20, m20, d20, E20, u20, v20, rfl, hw20, hb⟩; have hBw := zab hBw hb; refine hK.out _ _ (Cs.below hHeld hb) (fun hHeld => ?_); clear hK K hb
 try simp only [sb]
 refine rc 5 (fun K hK => ?_)
 go_simp
 go_at_call 26; (with_reducible refine (C1.out _ hBw).mono ?_); rintro e wa16 ⟨b21, B21, m21, d21, E21, u21, v21, rfl, hw21, hb⟩; have hBw := zab hBw hb; have hw20 := hw20.below hb; refine hK.out _ _ (Cs.below hHeld hb) (fun hHeld => ?_); clear hK K hb
 try simp only [sb]
 refine rc 8 (fun K hK => ?_)
 go_simp
 go_at_call 26; (with_reducible refine (C2.out _ hBw).mono ?_); rintro e wa17 ⟨b22, B22, m22, d22, E22, u22, v22, rfl, hw22, hb⟩; have hBw := zab hBw hb; have hw20 := hw20.below hb; have hw21 := hw21.below hb; refine hK.out _ _ (Cs.below hHeld hb) (fun hHeld => ?_); clear hK K hb
 try simp only [sb]
 refine rc 9 (fun K hK => ?_)
 go_simp
 go_at_call 22; (with_reducible refine (C3.out _ hBw _ _ _ _ _ _ _ hw21 _ _ _ _ _ _ _ hw22).mono ?_); rintro e wa18 ⟨b23, B23, m23, d23, E23, u23, v23, rfl, hw23, hb⟩; have hBw := zab hBw hb; have hw20 := hw20.below hb; have hw21 := hw21.below hb; have hw22 := hw22.below hb; refine hK.out _ _ (Cs.below hHeld hb) (fun hHeld => ?_); clear hK K hb
 try simp only [sb]
 refine rc 10 (fun K hK => ?_)
 go_simp
 go_at_call 33; (with_reducible refine (C4.out _ hBw _ _ _ _ _ _ _ hw20 _ _ _ _ _ _ _ hw23).mono ?_); rintro e wa19 ⟨rfl, hb⟩; have hBw := zab hBw hb; have hw20 := hw20.below hb; have hw21 := hw21.below hb; have hw22 := hw22.below hb; have hw23 := hw23.below hb; refine hK.out _ _ (Cs.below hHeld hb) (fun hHeld => ?_); clear hK K hb
 try simp only [sb]
 refine tk 11 ?_
 try simp only [sb]
 refine tk 12 ?_
 try simp only [sb]
 refine tk 13 ?_
 try simp only [sb]
 refine tk 14 ?_
 try simp only [sb]
 refine tk 16 ?_
 try simp only [sb]
 refine tk 17 ?_
 try simp only [sb]
 refine tk 18 ?_
 try simp only [sb]
 refine rc 15 (fun K hK => ?_)
 go_simp
 go_at_call 26; (with_reducible refine (C5.out _ hBw).mono ?_); rintro e wa20 ⟨b24, B24, m24, d24, E24, u24, v24, rfl, hw24, hb⟩; have hBw := zab hBw hb; have hw20 := hw20.below hb; have hw21 := hw21.below hb; have hw22 := hw22.below hb; have hw23 := hw23.below hb; refine hK.out _ _ (Cs.below hHeld hb) (fun hHeld => ?_); clear hK K hb
 try simp only [sb]
 refine rc 19 (fun K hK => ?_)
 go_simp
 go_at_call 26; (with_reducible refine (C6.out _ hBw).mono ?_); rintro e wa21 ⟨b25, B25, m25, d25, E25, u25, v25, rfl, hw25, hb⟩; have hBw := zab hBw hb; have hw20 := hw20.below hb; have hw21 := hw21.below hb; have hw22 := hw22.below hb; have hw23 := hw23.below hb; have hw24 := hw24.below hb; refine hK.out _ _ (Cs.below hHeld hb) (fun hHeld => ?_); clear hK K hb
 try simp only [sb]
 refine rc 20 (fun K hK => ?_)
 go_simp
 go_at_call 26; (with_reducible refine (C7.out _ hBw _ _ _ _ _ _ _ hw25).mono ?_); rintro e wa22 ⟨b26, B26, m26, d26, E26, u26, v26, rfl, hw26, hb⟩; have hBw := zab hBw hb; have hw20 := hw20.below hb; have hw21 := hw21.below hb; have hw22 := hw22.below hb; have hw23 := hw23.below hb; have hw24 := hw24.below hb; have hw25 := hw25.below hb; refine hK.out _ _ (Cs.below hHeld hb) (fun hHeld => ?_); clear hK K hb
 try simp only [sb]
 refine rc 21 (fun K hK => ?_)
 go_simp
 go_at_call 33; (with_reducible refine (C8.out _ hBw _ _ _ _ _ _ _ hw24 _ _ _ _ _ _ _ hw26).mono ?_); rintro e wa23 ⟨rfl, hb⟩; have hBw := zab hBw hb; have hw20 := hw20.below hb; have hw21 := hw21.below hb; have hw22 := hw22.below hb; have hw23 := hw23.below hb; have hw24 := hw24.below hb; have hw25 := hw25.below hb; have hw26 := hw26.below hb; refine hK.out _ _ (Cs.below hHeld hb) (fun hHeld => ?_); clear hK K hb
 try simp only [sb]
 refine tk 22 ?_
 try simp only [sb]
 refine tk 23 ?_
 try simp only [sb]
 refine rdn ?_
 have hB := zab hB hBw
 have g1 := zaa hBw g1
 have e1 := zaa hBw e1
 have i1 := zaa hBw i1
 have g2 := zaa hBw g2
 have e2 := zaa hBw e2
 have i2 := zaa hBw i2
 have g3 := zaa hBw g3
 have e3 := zaa hBw e3
 have i3 := zaa hBw i3
 have g7 := zaa hBw g7
 have e7 := zaa hBw e7
 have i7 := zaa hBw i7
 have g8 := zaa hBw g8
 have e8 := zaa hBw e8
 have i8 := zaa hBw i8
 have g9 := zaa hBw g9
 have e9 := zaa hBw e9
 have i9 := zaa hBw i9
 have HN4 := Lib.hid (HN4.out.below hBw)
 have HN5 := Lib.hid (HN5.out.below hBw)
 have HN6 := Lib.hid (HN6.out.below hBw)
 have g12 := zaa hBw g12
 have e12 := zaa hBw e12
 have i12 := zaa hBw i12
 have g13 := zaa hBw g13
 have e13 := zaa hBw e13
 have i13 := zaa hBw i13
 have HN10 := Lib.hid (HN10.out.below hBw)
 have HN11 := Lib.hid (HN11.out.below hBw)
 have HN14 := Lib.hid (HN14.out.below hBw)
 have HN15 := Lib.hid (HN15.out.below hBw)
 have HN16 := Lib.hid (HN16.out.below hBw)
 have HN17 := Lib.hid (HN17.out.below hBw)
 have HN18 := Lib.hid (HN18.out.below hBw)
 have HN19 := Lib.hid (HN19.out.below hBw)
 have HN20 := Lib.hid hw20
 have HN21 := Lib.hid hw21
 have HN22 := Lib.hid hw22
 have HN23 := Lib.hid hw23
 have HN24 := Lib.hid hw24
 have HN25 := Lib.hid hw25
 have HN26 := Lib.hid hw26
 clear hBw hHeld hw20 hw21 hw22 hw23 hw24 hw25 hw26 C0 C1 C2 C3 C4 C5 C6 C7 C8
 go_wp2_with fail
 have HZ27 : Hid (SzQ (K) (x⁻¹)) := SzQ.inv HZ4.out
 (with_reducible refine (HQC.out.inv (x) b4 B4 m4 d4 E4 u4 v4 _ (HT.out _ hB) HN4.out (SzQ.fit HZ4.out HN4.out (by omega)) Hx0.out).mono ?_)
 rintro e wc24 ⟨b27, B27, m27, d27, E27, u27, v27, rfl, hw27, hb⟩
 have hB := zab hB hb
 have g1 := zaa hb g1
 have e1 := zaa hb e1
 have i1 := zaa hb i1
 have g2 := zaa hb g2
 have e2 := zaa hb e2
 have i2 := zaa hb i2
 have g3 := zaa hb g3
 have e3 := zaa hb e3
 have i3 := zaa hb i3
 have g7 := zaa hb g7
 have e7 := zaa hb e7
 have i7 := zaa hb i7
 have g8 := zaa hb g8
 have e8 := zaa hb e8
 have i8 := zaa hb i8
 have g9 := zaa hb g9
 have e9 := zaa hb e9
 have i9 := zaa hb i9
 have HN4 := Lib.hid (HN4.out.below hb)
 have HN5 := Lib.hid (HN5.out.below hb)
 have HN6 := Lib.hid (HN6.out.below hb)
 have g12 := zaa hb g12
 have e12 := zaa hb e12
 have i12 := zaa hb i12
 have g13 := zaa hb g13
 have e13 := zaa hb e13
 have i13 := zaa hb i13
 have HN10 := Lib.hid (HN10.out.below hb)
 have HN11 := Lib.hid (HN11.out.below hb)
 have HN14 := Lib.hid (HN14.out.below hb)
 have HN15 := Lib.hid (HN15.out.below hb)
 have HN16 := Lib.hid (HN16.out.below hb)
 have HN17 := Lib.hid (HN17.out.below hb)
 have HN18 := Lib.hid (HN18.out.below hb)
 have HN19 := Lib.hid (HN19.out.below hb)
 have HN20 := Lib.hid (HN20.out.below hb)
 have HN21 := Lib.hid (HN21.out.below hb)
 have HN22 := Lib.hid (HN22.out.below hb)
 have HN23 := Lib.hid (HN23.out.below hb)
 have HN24 := Lib.hid (HN24.out.below hb)
 have HN25 := Lib.hid (HN25.out.below hb)
 have HN26 := Lib.hid (HN26.out.below hb)
 have HN27 := Lib.hid hw27
 clear hb hw27
 obtain ⟨bx1, bx2, bz⟩ := zaZ wc24 31 #[.bool b27, .slice B27 m27 d27, .slice E27 u27 v27]
 have hB := zab hB bx1
 have g1 := zaa bx1 g1
 have e1 := zaa bx1 e1
 have i1 := zaa bx1 i1
 have g2 := zaa bx1 g2
 have e2 := zaa bx1 e2
 have i2 := zaa bx1 i2
 have g3 := zaa bx1 g3
 have e3 := zaa bx1 e3
 have i3 := zaa bx1 i3
 have g7 := zaa bx1 g7
 have e7 := zaa bx1 e7
 have i7 := zaa bx1 i7
 have g8 := zaa bx1 g8
 have e8 := zaa bx1 e8
 have i8 := zaa bx1 i8
 have g9 := zaa bx1 g9
 have e9 := zaa bx1 e9
 have i9 := zaa bx1 i9
 have HN4 := Lib.hid (HN4.out.below bx1)
 have HN5 := Lib.hid (HN5.out.below bx1)
 have HN6 := Lib.hid (HN6.out.below bx1)
 have g12 := zaa bx1 g12
 have e12 := zaa bx1 e12
 have i12 := zaa bx1 i12
 have g13 := zaa bx1 g13
 have e13 := zaa bx1 e13
 have i13 := zaa bx1 i13
 have HN10 := Lib.hid (HN10.out.below bx1)
 have HN11 := Lib.hid (HN11.out.below bx1)
 have HN14 := Lib.hid (HN14.out.below bx1)
 have HN15 := Lib.hid (HN15.out.below bx1)
 have HN16 := Lib.hid (HN16.out.below bx1)
 have HN17 := Lib.hid (HN17.out.below bx1)
 have HN18 := Lib.hid (HN18.out.below bx1)
 have HN19 := Lib.hid (HN19.out.below bx1)
 have HN20 := Lib.hid (HN20.out.below bx1)
 have HN21 := Lib.hid (HN21.out.below bx1)
 have HN22 := Lib.hid (HN22.out.below bx1)
 have HN23 := Lib.hid (HN23.out.below bx1)
 have HN24 := Lib.hid (HN24.out.below bx1)
 have HN25 := Lib.hid (HN25.out.below bx1)
 have HN26 := Lib.hid (HN26.out.below bx1)
 have HN27 := Lib.hid (HN27.out.below bx1)
 obtain ⟨g28, e28, i28⟩ := bx2.c3
 clear bx1 bx2 bz
 go_wp2_with fail
 generalize wc24.alloc (.cells #[.bool b27, .slice B27 m27 d27, .slice E27 u27 v27] 31) = W25 at *
 generalize wc24.heap.size = q25 at *
 (with_reducible refine (zai (decide_eq_false Hx0.out) (HQC.out.zero (x) b4 B4 m4 d4 E4 u4 v4 _ (HT.out _ hB) HN4.out (SzQ.fit HZ4.out HN4.out (by omega)))).mono ?_)
 rintro e wc26 ⟨rfl, hb⟩
 have hB := zab hB hb
 have g1 := zaa hb g1
 have e1 := zaa hb e1
 have i1 := zaa hb i1
 have g2 := zaa hb g2
 have e2 := zaa hb e2
 have i2 := zaa hb i2
 have g3 := zaa hb g3
 have e3 := zaa hb e3
 have i3 := zaa hb i3
 have g7 := zaa hb g7
 have e7 := zaa hb e7
 have i7 := zaa hb i7
 have g8 := zaa hb g8
 have e8 := zaa hb e8
 have i8 := zaa hb i8
 have g9 := zaa hb g9
 have e9 := zaa hb e9
 have i9 := zaa hb i9
 have HN4 := Lib.hid (HN4.out.below hb)
 have HN5 := Lib.hid (HN5.out.below hb)
 have HN6 := Lib.hid (HN6.out.below hb)
 have g12 := zaa hb g12
 have e12 := zaa hb e12
 have i12 := zaa hb i12
 have g13 := zaa hb g13
 have e13 := zaa hb e13
 have i13 := zaa hb i13
 have HN10 := Lib.hid (HN10.out.below hb)
 have HN11 := Lib.hid (HN11.out.below hb)
 have HN14 := Lib.hid (HN14.out.below hb)
 have HN15 := Lib.hid (HN15.out.below hb)
 have HN16 := Lib.hid (HN16.out.below hb)
 have HN17 := Lib.hid (HN17.out.below hb)
 have HN18 := Lib.hid (HN18.out.below hb)
 have HN19 := Lib.hid (HN19.out.below hb)
 have HN20 := Lib.hid (HN20.out.below hb)
 have HN21 := Lib.hid (HN21.out.below hb)
 have HN22 := Lib.hid (HN22.out.below hb)
 have HN23 := Lib.hid (HN23.out.below hb)
 have HN24 := Lib.hid (HN24.out.below hb)
 have HN25 := Lib.hid (HN25.out.below hb)
 have HN26 := Lib.hid (HN26.out.below hb)
 have HN27 := Lib.hid (HN27.out.below hb)
 have g28 := zaa hb g28
 have e28 := zaa hb e28
 have i28 := zaa hb i28
 clear hb 
 go_wp2_with fail
 have HZ29 : Hid (SzQ (K + K) (y * x)) := SzQ.mul HZ5.out HZ4.out
 have C0 := Lib.hid (fun w' (h : Below wc26.heap.size wc26 w') => HQC.out.mul (y) (x) b5 b4 B5 B4 m5 m4 d5 d4 E5 E4 u5 u4 v5 v4 w' (HT.out _ (zab hB h)) (HN5.out.below h) (HN4.out.below h) (SzQ.fit HZ5.out HN5.out (by omega)) (SzQ.fit HZ4.out HN4.out (by omega)))
 have HZ30 : Hid (SzQ ((K + K) + K) ((y * x) / x)) := SzQ.div HZ29.out HZ4.out
 have C1 := Lib.hid (fun w' (h : Below wc26.heap.size wc26 w') b29 B29 m29 d29 E29 u29 v29 (hw29 : zah w' (y * x) b29 B29 m29 d29 E29 u29 v29) => HQC.out.div (y * x) (x) b29 b4 B29 B4 m29 m4 d29 d4 E29 E4 u29 u4 v29 v4 w' (HT.out _ (zab hB h)) hw29 (HN4.out.below h) (SzQ.fit HZ29.out hw29 (by omega)) (SzQ.fit HZ4.out HN4.out (by omega)) Hx0.out)
 have GG := Lib.hid (fun w' (h : Below wc26.heap.size wc26 w') => (csc (zaa h g8) (csc (zaa h e8) (csc (zaa h i8) (csc (zaa h g7) (csc (zaa h e7) (csc (zaa h i7) csn)))))))
 refine rgB (fun hHeld => ?_)
 refine tl 0 GG.out ?_
 try simp only [sb]
 refine tl 1 GG.out ?_
 try simp only [sb]
 refine tl 3 GG.out ?_
 try simp only [sb]
 refine zaw (L := #[true, true, true, true, true, true, true, true, true, true, true])
  (J := fun a0 l a w' => ∃ (fl2 fl4 fl5 fl6 fl7 fl8 fl9 fl10 b29 : Bool) (B29 : Option Addr) (m29 d29 : Nat) (E29 : Option Addr) (u29 v29 : Nat) (b30 : Bool) (B30 : Option Addr) (m30 d30 : Nat) (E30 : Option Addr) (u30 v30 ad8 : Nat), l = #[true, true, fl2, true, fl4, fl5, fl6, fl7, fl8, fl9, fl10] ∧ zaT [99, 101, 96, 102, 103, 14, 15] a0 a ∧ Hid (Below wc26.heap.size wc26 w') ∧
    Hid (Gd fl2 (a.tmps.getD 99 undef = .agg #[.bool b29, .slice B29 m29 d29, .slice E29 u29 v29] ∧ zah w' (y * x) b29 B29 m29 d29 E29 u29 v29)) ∧
    Hid (Gd fl4 (a.tmps.getD 101 undef = .tuple #[.agg #[.bool b30, .slice B30 m30 d30, .slice E30 u30 v30], .bool true] ∧ zah w' ((y * x) / x) b30 B30 m30 d30 E30 u30 v30)) ∧
    Hid (Gd fl5 (a.tmps.getD 96 undef = .tuple #[.agg #[.bool b30, .slice B30 m30 d30, .slice E30 u30 v30], .bool true])) ∧
    Hid (Gd fl6 (a.tmps.getD 102 undef = .agg #[.bool b30, .slice B30 m30 d30, .slice E30 u30 v30])) ∧
    Hid (Gd fl7 (a.tmps.getD 103 undef = .bool true)) ∧
    Hid (Gd fl10 (a.tmps.getD 15 undef = .bool true)) ∧
    Hid (Gd fl8 (a.tmps.getD 14 undef = .pointer (some ⟨ad8, 0, none⟩) ∧ wc26.heap.size ≤ ad8 ∧ Blk w' ad8 31 (bif fl9 then #[.bool b30, .slice B30 m30 d30, .slice E30 u30 v30] else #[.bool false, .slice none 0 0, .slice none 0 0]))) ∧
    Hid (Gd fl4 (fl2 = true)) ∧
    Hid (Gd fl5 (fl4 = true)) ∧
    Hid (Gd fl6 (fl5 = true)) ∧
    Hid (Gd fl7 (fl5 = true)) ∧
    Hid (Gd fl9 (fl4 = true)) ∧
    Hid (Gd fl9 (fl6 = true)) ∧
    Hid (Gd fl9 (fl8 = true)) ∧
    Hid (Gd fl10 (fl7 = true)) ∧
    Hid (Gd fl10 (fl9 = true)))
  (by rfl) ?_ ?_ ?_
 ·exact ⟨false, false, false, false, false, false, false, false, false, none, 0, 0, none, 0, 0, false, none, 0, 0, none, 0, 0, 0, by kernel_rfl, zaT.refl _ _, hHeld, Gd.no, Gd.no, Gd.no, Gd.no, Gd.no, Gd.no, Gd.no, Gd.no, Gd.no, Gd.no, Gd.no, Gd.no, Gd.no, Gd.no, Gd.no, Gd.no⟩
 ·intro OPS Ac0 Q0 hO hAs hA
  have RB97 : Ac0.tmps.getD 97 undef = .agg #[.bool b5, .slice B5 m5 d5, .slice E5 u5 v5] := (hA 97 undef).trans (by kernel_rfl)
  have RB98 : Ac0.tmps.getD 98 undef = .agg #[.bool b4, .slice B4 m4 d4, .slice E4 u4 v4] := (hA 98 undef).trans (by kernel_rfl)
  have RB100 : Ac0.tmps.getD 100 undef = .agg #[.bool b4, .slice B4 m4 d4, .slice E4 u4 v4] := (hA 100 undef).trans (by kernel_rfl)
  have hsz : Ac0.tmps.size = 119 := hAs.trans (by kernel_rfl)
  clear hAs hA
  refine ⟨?_, ?_⟩
  ·rintro l a w' ⟨fl2, fl4, fl5, fl6, fl7, fl8, fl9, fl10, b29, B29, m29, d29, E29, u29, v29, b30, B30, m30, d30, E30, u30, v30, ad8, rfl, -⟩ hr
   obtain rfl : fl2 = true := als 2 hr hO
   obtain rfl : fl4 = true := als 4 hr hO
   obtain rfl : fl5 = true := als 5 hr hO
   obtain rfl : fl6 = true := als 6 hr hO
   obtain rfl : fl7 = true := als 7 hr hO
   obtain rfl : fl8 = true := als 8 hr hO
   obtain rfl : fl9 = true := als 9 hr hO
   obtain rfl : fl10 = true := als 10 hr hO
   rfl
  ·rintro l a w' i ⟨fl2, fl4, fl5, fl6, fl7, fl8, fl9, fl10, b29, B29, m29, d29, E29, u29, v29, b30, B30, m30, d30, E30, u30, v30, ad8, rfl, HKp, hBi, qf2, qf4, qf5, qf6, qf7, qf10, qf8, qd4_2, qd5_4, qd6_5, qd7_5, qd9_4, qd9_6, qd9_8, qd10_7, qd10_9⟩ hne hi
   have hlt : i < 11 := by have := zaJ hi; rw [hO] at this; exact this
   rcases (show i = 0 ∨ i = 1 ∨ i = 2 ∨ i = 3 ∨ i = 4 ∨ i = 5 ∨ i = 6 ∨ i = 7 ∨ i = 8 ∨ i = 9 ∨ i = 10 by omega) with rfl | rfl | rfl | rfl | rfl | rfl | rfl | rfl | rfl | rfl | rfl
   ·cases (zad hi : true = false)
   ·cases (zad hi : true = false)
   ·obtain rfl : fl2 = false := zad hi
    obtain rfl : fl4 = false := Gd.off qd4_2.out
    obtain rfl : fl5 = false := Gd.off qd5_4.out
    obtain rfl : fl6 = false := Gd.off qd6_5.out
    obtain rfl : fl7 = false := Gd.off qd7_5.out
    obtain rfl : fl9 = false := Gd.off qd9_4.out
    obtain rfl : fl10 = false := Gd.off qd10_7.out
    have rd97 := HKp.get 97 (by decide) RB97
    have rd98 := HKp.get 98 (by decide) RB98
    refine wog hO (fun K' hK => ?_)
    go_simp
    refine (C0.out w' hBi.out).mono ?_
    rintro e w2 ⟨nb29, nB29, nm29, nd29, nE29, nu29, nv29, rfl, nhw29, hb⟩
    exact hK.out _ _ ⟨zab hBi.out hb, true, false, false, false, false, fl8, false, false, nb29, nB29, nm29, nd29, nE29, nu29, nv29, b30, B30, m30, d30, E30, u30, v30, ad8, by rfl, HKp.put (by decide) _, zab hBi.out hb, Gd.yes ⟨zal (HKp.lt (by rw [hsz]; decide)) _, nhw29⟩, Gd.no, Gd.no, Gd.no, Gd.no, Gd.no, kq qf8.out fun h => ⟨h.1, zac hb h.2⟩, Gd.no, Gd.no, Gd.no, Gd.no, Gd.no, Gd.no, Gd.no, Gd.no, Gd.no⟩
   ·cases (zad hi : true = false)
   ·obtain rfl : fl4 = false := zad hi
    obtain rfl : fl2 = true := rdp 2 0 hi hO
    obtain rfl : fl5 = false := Gd.off qd5_4.out
    obtain rfl : fl6 = false := Gd.off qd6_5.out
    obtain rfl : fl7 = false := Gd.off qd7_5.out
    obtain rfl : fl9 = false := Gd.off qd9_4.out
    obtain rfl : fl10 = false := Gd.off qd10_7.out
    have rd99 := qf2.out.get.1
    have rd100 := HKp.get 100 (by decide) RB100
    have hw29 := qf2.out.get.2
    refine wog hO (fun K' hK => ?_)
    go_simp
    refine (C1.out w' hBi.out _ _ _ _ _ _ _ hw29).mono ?_
    rintro e w2 ⟨nb30, nB30, nm30, nd30, nE30, nu30, nv30, rfl, nhw30, hb⟩
    exact hK.out _ _ ⟨zab hBi.out hb, true, true, false, false, false, fl8, false, false, b29, B29, m29, d29, E29, u29, v29, nb30, nB30, nm30, nd30, nE30, nu30, nv30, ad8, by rfl, HKp.put (by decide) _, zab hBi.out hb, kq qf2.out fun h => (h).below hb, Gd.yes ⟨zal (HKp.lt (by rw [hsz]; decide)) _, nhw30⟩, Gd.no, Gd.no, Gd.no, Gd.no, kq qf8.out fun h => ⟨h.1, zac hb h.2⟩, fun _ => rfl, Gd.no, Gd.no, Gd.no, Gd.no, Gd.no, Gd.no, Gd.no, Gd.no⟩
   ·obtain rfl : fl5 = false := zad hi
    obtain rfl : fl4 = true := rdp 4 0 hi hO
    obtain rfl : fl2 = true := qd4_2.out.get
    obtain rfl : fl6 = false := Gd.off qd6_5.out
    obtain rfl : fl7 = false := Gd.off qd7_5.out
    obtain rfl : fl9 = false := Gd.off qd9_6.out
    obtain rfl : fl10 = false := Gd.off qd10_7.out
    have rd101 := qf4.out.get.1
    refine wog hO (fun K' hK => ?_)
    refine zaV (x := 101) (Or.inl rfl) rd101 ?_
    exact hK.out _ _ ⟨hBi.out, true, true, true, false, false, fl8, false, false, b29, B29, m29, d29, E29, u29, v29, b30, B30, m30, d30, E30, u30, v30, ad8, by rfl, HKp.put (by decide) _, hBi.out, kq qf2.out fun h => (h), kq qf4.out fun h => (h), Gd.yes (zal (HKp.lt (by rw [hsz]; decide)) _), Gd.no, Gd.no, Gd.no, kq qf8.out id, fun _ => rfl, fun _ => rfl, Gd.no, Gd.no, Gd.no, Gd.no, Gd.no, Gd.no, Gd.no⟩
   ·obtain rfl : fl6 = false := zad hi
    obtain rfl : fl5 = true := rdp 5 0 hi hO
    obtain rfl : fl4 = true := qd5_4.out.get
    obtain rfl : fl2 = true := qd4_2.out.get
    obtain rfl : fl9 = false := Gd.off qd9_6.out
    obtain rfl : fl10 = false := Gd.off qd10_9.out
    have rd96 := qf5.out.get
    refine wog hO (fun K' hK => ?_)
    refine zaz (x := 96) (k := 0) rfl rd96 rfl ?_
    exact hK.out _ _ ⟨hBi.out, true, true, true, true, fl7, fl8, false, false, b29, B29, m29, d29, E29, u29, v29, b30, B30, m30, d30, E30, u30, v30, ad8, by rfl, HKp.put (by decide) _, hBi.out, kq qf2.out fun h => (h), kq qf4.out fun h => (h), kq0 qf5.out, Gd.yes (zal (HKp.lt (by rw [hsz]; decide)) _), kq0 qf7.out, Gd.no, kq qf8.out id, fun _ => rfl, fun _ => rfl, fun _ => rfl, fun _ => rfl, Gd.no, Gd.no, Gd.no, Gd.no, Gd.no⟩
   ·obtain rfl : fl7 = false := zad hi
    obtain rfl : fl5 = true := rdp 5 0 hi hO
    obtain rfl : fl4 = true := qd5_4.out.get
    obtain rfl : fl2 = true := qd4_2.out.get
    obtain rfl : fl10 = false := Gd.off qd10_7.out
    have rd96 := qf5.out.get
    refine wog hO (fun K' hK => ?_)
    refine zaz (x := 96) (k := 1) rfl rd96 rfl ?_
    exact hK.out _ _ ⟨hBi.out, true, true, true, fl6, true, fl8, fl9, false, b29, B29, m29, d29, E29, u29, v29, b30, B30, m30, d30, E30, u30, v30, ad8, by rfl, HKp.put (by decide) _, hBi.out, kq qf2.out fun h => (h), kq qf4.out fun h => (h), kq0 qf5.out, kq0 qf6.out, Gd.yes (zal (HKp.lt (by rw [hsz]; decide)) _), Gd.no, kq qf8.out id, fun _ => rfl, fun _ => rfl, fun _ => rfl, fun _ => rfl, fun _ => rfl, qd9_6, qd9_8, Gd.no, Gd.no⟩
   ·obtain rfl : fl8 = false := zad hi
    obtain rfl : fl9 = false := Gd.off qd9_8.out
    obtain rfl : fl10 = false := Gd.off qd10_9.out
    refine wog hO (fun K' hK => ?_)
    go_simp
    have hb := zau w' (.cells #[.bool false, .slice none 0 0, .slice none 0 0] 31)
    exact hK.out _ _ ⟨zab hBi.out hb, fl2, fl4, fl5, fl6, fl7, true, false, false, b29, B29, m29, d29, E29, u29, v29, b30, B30, m30, d30, E30, u30, v30, w'.heap.size, by rfl, HKp.put (by decide) _, zab hBi.out hb, kq qf2.out fun h => (h).below hb, kq qf4.out fun h => (h).below hb, kq0 qf5.out, kq0 qf6.out, kq0 qf7.out, Gd.no, Gd.yes ⟨zal (HKp.lt (by rw [hsz]; decide)) _, hBi.out.size, Blk.new w' _ _⟩, qd4_2, qd5_4, qd6_5, qd7_5, Gd.no, Gd.no, Gd.no, Gd.no, Gd.no⟩
   ·obtain rfl : fl9 = false := zad hi
    obtain rfl : fl2 = true := rdp 2 5 hi hO
    obtain rfl : fl4 = true := rdp 4 2 hi hO
    obtain rfl : fl5 = true := rdp 5 8 hi hO
    obtain rfl : fl6 = true := rdp 6 1 hi hO
    obtain rfl : fl8 = true := rdp 8 0 hi hO
    obtain rfl : fl10 = false := Gd.off qd10_9.out
    have rd14 := qf8.out.get.1
    have rd102 := qf6.out.get
    obtain ⟨_, hg, hk⟩ := qf8.out.get
    have hk : Blk w' ad8 31 #[.bool false, .slice none 0 0, .slice none 0 0] := hk
    obtain ⟨sc0, sf0, sc1, sf1, sc2, sf2⟩ := st3 hk (.bool b30) (.slice B30 m30 d30)
    have hj2 := sn3 hk (.bool b30) (.slice B30 m30 d30) (.slice E30 u30 v30)
    have hBn := bl3 (.bool b30) (.slice B30 m30 d30) (.slice E30 u30 v30) hg hBi.out
    refine wog hO (fun K' hK => ?_)
    go_simp
    exact hK.out _ _ ⟨hBn, true, true, true, true, fl7, true, true, false, b29, B29, m29, d29, E29, u29, v29, b30, B30, m30, d30, E30, u30, v30, ad8, by rfl, HKp, hBn, qf2.out.mono fun h => ⟨h.1, zar (h.2) hk zaK (zaI _ _ _ _ _)⟩, qf4.out.mono fun h => ⟨h.1, zar (h.2) hk zaK (zaI _ _ _ _ _)⟩, qf5.out.mono fun h => h, qf6.out.mono fun h => h, qf7.out.mono fun h => h, Gd.no, qf8.out.mono fun h => ⟨h.1, h.2.1, hj2⟩, fun _ => rfl, fun _ => rfl, fun _ => rfl, fun _ => rfl, fun _ => rfl, fun _ => rfl, fun _ => rfl, Gd.no, Gd.no⟩
   ·obtain rfl : fl10 = false := zad hi
    obtain rfl : fl2 = true := rdp 2 4 hi hO
    obtain rfl : fl4 = true := rdp 4 6 hi hO
    obtain rfl : fl5 = true := rdp 5 7 hi hO
    obtain rfl : fl6 = true := rdp 6 8 hi hO
    obtain rfl : fl7 = true := rdp 7 0 hi hO
    obtain rfl : fl8 = true := rdp 8 10 hi hO
    obtain rfl : fl9 = true := rdp 9 1 hi hO
    have rd103 := qf7.out.get
    refine wog hO (fun K' hK => ?_)
    refine zaV (x := 103) (Or.inr rfl) rd103 ?_
    exact hK.out _ _ ⟨hBi.out, true, true, true, true, true, true, true, true, b29, B29, m29, d29, E29, u29, v29, b30, B30, m30, d30, E30, u30, v30, ad8, by rfl, HKp.put (by decide) _, hBi.out, kq qf2.out fun h => (h), kq qf4.out fun h => (h), kq0 qf5.out, kq0 qf6.out, kq0 qf7.out, Gd.yes (zal (HKp.lt (by rw [hsz]; decide)) _), kq qf8.out id, fun _ => rfl, fun _ => rfl, fun _ => rfl, fun _ => rfl, fun _ => rfl, fun _ => rfl, fun _ => rfl, fun _ => rfl, fun _ => rfl⟩
 rintro a wm27 ⟨fl2, fl4, fl5, fl6, fl7, fl8, fl9, fl10, b29, B29, m29, d29, E29, u29, v29, b30, B30, m30, d30, E30, u30, v30, ad8, hl, HKp, hBi, qf2, qf4, qf5, qf6, qf7, qf10, qf8, qd4_2, qd5_4, qd6_5, qd7_5, qd9_4, qd9_6, qd9_8, qd10_7, qd10_9⟩
 have xx2 : fl2 = true := gdl 2 hl
 subst xx2
 have xx4 : fl4 = true := gdl 4 hl
 subst xx4
 have xx5 : fl5 = true := gdl 5 hl
 subst xx5
 have xx6 : fl6 = true := gdl 6 hl
 subst xx6
 have xx7 : fl7 = true := gdl 7 hl
 subst xx7
 have xx8 : fl8 = true := gdl 8 hl
 subst xx8
 have xx9 : fl9 = true := gdl 9 hl
 subst xx9
 have xx10 : fl10 = true := gdl 10 hl
 subst xx10
 obtain ⟨rv2, hw29⟩ := qf2.out.get
 obtain ⟨rv4, hw30⟩ := qf4.out.get
 have rv5 := qf5.out.get
 have rv6 := qf6.out.get
 have rv7 := qf7.out.get
 have rv10 := qf10.out.get
 obtain ⟨rv8, hg8, hk8⟩ := qf8.out.get
 obtain rfl := HKp.eq [(99, .agg #[.bool b29, .slice B29 m29 d29, .slice E29 u29 v29]), (101, .tuple #[.agg #[.bool b30, .slice B30 m30 d30, .slice E30 u30 v30], .bool true]), (96, .tuple #[.agg #[.bool b30, .slice B30 m30 d30, .slice E30 u30 v30], .bool true]), (102, .agg #[.bool b30, .slice B30 m30 d30, .slice E30 u30 v30]), (103, .bool true), (14, .pointer (some ⟨ad8, 0, none⟩)), (15, .bool true)] rfl (by
  intro p hp
  simp only [List.mem_cons, List.not_mem_nil, or_false] at hp
  rcases hp with rfl | rfl | rfl | rfl | rfl | rfl | rfl
  ·exact rv2
  ·exact rv4
  ·exact rv5
  ·exact rv6
  ·exact rv7
  ·exact rv8
  ·exact rv10)
 have hBv := hBi.out
 clear hl hBi HKp qf2 qf4 qf5 qf6 qf7 qf10 qf8 qd4_2 qd5_4 qd6_5 qd7_5 qd9_4 qd9_6 qd9_8 qd10_7 qd10_9 rv2 rv4 rv5 rv6 rv7 rv8 rv10
 have hk8 : Blk wm27 ad8 31 #[.bool b30, .slice B30 m30 d30, .slice E30 u30 v30] := hk8
 rw [show due #[true, true, true, true, true, true, true, true, true, true, true] = 0 from rfl]
 simp only [zaR, List.foldl, Act.put, List.setIfInBounds_toArray, List.set_cons_zero, List.set_cons_succ]
 refine wpAnyH_done (by kernel_rfl) ?_ _
 refine NoPanic.normal ?_
 have hB := zab hB hBv
 have g1 := zaa hBv g1
 have e1 := zaa hBv e1
 have i1 := zaa hBv i1
 have g2 := zaa hBv g2
 have e2 := zaa hBv e2
 have i2 := zaa hBv i2
 have g3 := zaa hBv g3
 have e3 := zaa hBv e3
 have i3 := zaa hBv i3
 have g7 := zaa hBv g7
 have e7 := zaa hBv e7
 have i7 := zaa hBv i7
 have g8 := zaa hBv g8
 have e8 := zaa hBv e8
 have i8 := zaa hBv i8
 have g9 := zaa hBv g9
 have e9 := zaa hBv e9
 have i9 := zaa hBv i9
 have HN4 := Lib.hid (HN4.out.below hBv)
 have HN5 := Lib.hid (HN5.out.below hBv)
 have HN6 := Lib.hid (HN6.out.below hBv)
 have g12 := zaa hBv g12
 have e12 := zaa hBv e12
 have i12 := zaa hBv i12
 have g13 := zaa hBv g13
 have e13 := zaa hBv e13
 have i13 := zaa hBv i13
 have HN10 := Lib.hid (HN10.out.below hBv)
 have HN11 := Lib.hid (HN11.out.below hBv)
 have HN14 := Lib.hid (HN14.out.below hBv)
 have HN15 := Lib.hid (HN15.out.below hBv)
 have HN16 := Lib.hid (HN16.out.below hBv)
 have HN17 := Lib.hid (HN17.out.below hBv)
 have HN18 := Lib.hid (HN18.out.below hBv)
 have HN19 := Lib.hid (HN19.out.below hBv)
 have HN20 := Lib.hid (HN20.out.below hBv)
 have HN21 := Lib.hid (HN21.out.below hBv)
 have HN22 := Lib.hid (HN22.out.below hBv)
 have HN23 := Lib.hid (HN23.out.below hBv)
 have HN24 := Lib.hid (HN24.out.below hBv)
 have HN25 := Lib.hid (HN25.out.below hBv)
 have HN26 := Lib.hid (HN26.out.below hBv)
 have HN27 := Lib.hid (HN27.out.below hBv)
 have g28 := zaa hBv g28
 have e28 := zaa hBv e28
 have i28 := zaa hBv i28
 obtain ⟨ad8_31, hga⟩ : ∃ x, x = ad8 := ⟨_, rfl⟩
 subst hga
 obtain ⟨g31, e31, i31⟩ := hk8.c3
 have HN29 := Lib.hid hw29
 have HN30 := Lib.hid hw30
 clear hBv hk8 hg8 hw29 hw30 GG
 clear C0 C1
 go_wp2_with fail
 have HZ32 : Hid (SzQ (K + K) (x * x⁻¹)) := SzQ.mul HZ4.out HZ27.out
 (with_reducible refine (HQC.out.mul (x) (x⁻¹) b4 b27 B4 B27 m4 m27 d4 d27 E4 E27 u4 u27 v4 v27 _ (HT.out _ hB) HN4.out HN27.out (SzQ.fit HZ4.out HN4.out (by omega)) (SzQ.fit HZ27.out HN27.out (by omega))).mono ?_)
 rintro e wc28 ⟨b32, B32, m32, d32, E32, u32, v32, rfl, hw32, hb⟩
 have hB := zab hB hb
 have g1 := zaa hb g1
 have e1 := zaa hb e1
 have i1 := zaa hb i1
 have g2 := zaa hb g2
 have e2 := zaa hb e2
 have i2 := zaa hb i2
 have g3 := zaa hb g3
 have e3 := zaa hb e3
 have i3 := zaa hb i3
 have g7 := zaa hb g7
 have e7 := zaa hb e7
 have i7 := zaa hb i7
 have g8 := zaa hb g8
 have e8 := zaa hb e8
 have i8 := zaa hb i8
 have g9 := zaa hb g9
 have e9 := zaa hb e9
 have i9 := zaa hb i9
 have HN4 := Lib.hid (HN4.out.below hb)
 have HN5 := Lib.hid (HN5.out.below hb)
 have HN6 := Lib.hid (HN6.out.below hb)
 have g12 := zaa hb g12
 have e12 := zaa hb e12
 have i12 := zaa hb i12
 have g13 := zaa hb g13
 have e13 := zaa hb e13
 have i13 := zaa hb i13
 have HN10 := Lib.hid (HN10.out.below hb)
 have HN11 := Lib.hid (HN11.out.below hb)
 have HN14 := Lib.hid (HN14.out.below hb)
 have HN15 := Lib.hid (HN15.out.below hb)
 have HN16 := Lib.hid (HN16.out.below hb)
 have HN17 := Lib.hid (HN17.out.below hb)
 have HN18 := Lib.hid (HN18.out.below hb)
 have HN19 := Lib.hid (HN19.out.below hb)
 have HN20 := Lib.hid (HN20.out.below hb)
 have HN21 := Lib.hid (HN21.out.below hb)
 have HN22 := Lib.hid (HN22.out.below hb)
 have HN23 := Lib.hid (HN23.out.below hb)
 have HN24 := Lib.hid (HN24.out.below hb)
 have HN25 := Lib.hid (HN25.out.below hb)
 have HN26 := Lib.hid (HN26.out.below hb)
 have HN27 := Lib.hid (HN27.out.below hb)
 have g28 := zaa hb g28
 have e28 := zaa hb e28
 have i28 := zaa hb i28
 have g31 := zaa hb g31
 have e31 := zaa hb e31
 have i31 := zaa hb i31
 have HN29 := Lib.hid (HN29.out.below hb)
 have HN30 := Lib.hid (HN30.out.below hb)
 have HN32 := Lib.hid hw32
 clear hb hw32
 go_wp2_with fail
 (with_reducible refine (ziS hTb HIC.out HQC.out (1) (1) (x * x⁻¹) (K + K) b32 B32 m32 d32 E32 u32 v32 _ (by omega) HZ32.out HN32.out (HT.out _ hB) (by decide) (by decide) (by decide) (by decide) (by decide) (((Rat.mul_inv_cancel _ Hx0.out).trans (Rat.divInt_self' (n := 1) (by decide)).symm))).mono ?_)
 rintro e wc29 ⟨rfl, hb⟩
 have hB := zab hB hb
 have g1 := zaa hb g1
 have e1 := zaa hb e1
 have i1 := zaa hb i1
 have g2 := zaa hb g2
 have e2 := zaa hb e2
 have i2 := zaa hb i2
 have g3 := zaa hb g3
 have e3 := zaa hb e3
 have i3 := zaa hb i3
 have g7 := zaa hb g7
 have e7 := zaa hb e7
 have i7 := zaa hb i7
 have g8 := zaa hb g8
 have e8 := zaa hb e8
 have i8 := zaa hb i8
 have g9 := zaa hb g9
 have e9 := zaa hb e9
 have i9 := zaa hb i9
 have HN4 := Lib.hid (HN4.out.below hb)
 have HN5 := Lib.hid (HN5.out.below hb)
 have HN6 := Lib.hid (HN6.out.below hb)
 have g12 := zaa hb g12
 have e12 := zaa hb e12
 have i12 := zaa hb i12
 have g13 := zaa hb g13
 have e13 := zaa hb e13
 have i13 := zaa hb i13
 have HN10 := Lib.hid (HN10.out.below hb)
 have HN11 := Lib.hid (HN11.out.below hb)
 have HN14 := Lib.hid (HN14.out.below hb)
 have HN15 := Lib.hid (HN15.out.below hb)
 have HN16 := Lib.hid (HN16.out.below hb)
 have HN17 := Lib.hid (HN17.out.below hb)
 have HN18 := Lib.hid (HN18.out.below hb)
 have HN19 := Lib.hid (HN19.out.below hb)
 have HN20 := Lib.hid (HN20.out.below hb)
 have HN21 := Lib.hid (HN21.out.below hb)
 have HN22 := Lib.hid (HN22.out.below hb)
 have HN23 := Lib.hid (HN23.out.below hb)
 have HN24 := Lib.hid (HN24.out.below hb)
 have HN25 := Lib.hid (HN25.out.below hb)
 have HN26 := Lib.hid (HN26.out.below hb)
 have HN27 := Lib.hid (HN27.out.below hb)
 have g28 := zaa hb g28
 have e28 := zaa hb e28
 have i28 := zaa hb i28
 have g31 := zaa hb g31
 have e31 := zaa hb e31
 have i31 := zaa hb i31
 have HN29 := Lib.hid (HN29.out.below hb)
 have HN30 := Lib.hid (HN30.out.below hb)
 have HN32 := Lib.hid (HN32.out.below hb)
 clear hb 
 go_wp2_with fail
 (with_reducible refine (zai (decide_eq_true (Rat.mul_div_cancel Hx0.out)) (HQC.out.same ((y * x) / x) (y) b30 b5 B30 B5 m30 m5 d30 d5 E30 E5 u30 u5 v30 v5 _ (HT.out _ hB) HN30.out HN5.out (SzQ.fit HZ30.out HN30.out (by omega)) (SzQ.fit HZ5.out HN5.out (by omega)))).mono ?_)
 rintro e wc30 ⟨rfl, hb⟩
 have hB := zab hB hb
 have g1 := zaa hb g1
 have e1 := zaa hb e1
 have i1 := zaa hb i1
 have g2 := zaa hb g2
 have e2 := zaa hb e2
 have i2 := zaa hb i2
 have g3 := zaa hb g3
 have e3 := zaa hb e3
 have i3 := zaa hb i3
 have g7 := zaa hb g7
 have e7 := zaa hb e7
 have i7 := zaa hb i7
 have g8 := zaa hb g8
 have e8 := zaa hb e8
 have i8 := zaa hb i8
 have g9 := zaa hb g9
 have e9 := zaa hb e9
 have i9 := zaa hb i9
 have HN4 := Lib.hid (HN4.out.below hb)
 have HN5 := Lib.hid (HN5.out.below hb)
 have HN6 := Lib.hid (HN6.out.below hb)
 have g12 := zaa hb g12
 have e12 := zaa hb e12
 have i12 := zaa hb i12
 have g13 := zaa hb g13
 have e13 := zaa hb e13
 have i13 := zaa hb i13
 have HN10 := Lib.hid (HN10.out.below hb)
 have HN11 := Lib.hid (HN11.out.below hb)
 have HN14 := Lib.hid (HN14.out.below hb)
 have HN15 := Lib.hid (HN15.out.below hb)
 have HN16 := Lib.hid (HN16.out.below hb)
 have HN17 := Lib.hid (HN17.out.below hb)
 have HN18 := Lib.hid (HN18.out.below hb)
 have HN19 := Lib.hid (HN19.out.below hb)
 have HN20 := Lib.hid (HN20.out.below hb)
 have HN21 := Lib.hid (HN21.out.below hb)
 have HN22 := Lib.hid (HN22.out.below hb)
 have HN23 := Lib.hid (HN23.out.below hb)
 have HN24 := Lib.hid (HN24.out.below hb)
 have HN25 := Lib.hid (HN25.out.below hb)
 have HN26 := Lib.hid (HN26.out.below hb)
 have HN27 := Lib.hid (HN27.out.below hb)
 have g28 := zaa hb g28
 have e28 := zaa hb e28
 have i28 := zaa hb i28
 have g31 := zaa hb g31
 have e31 := zaa hb e31
 have i31 := zaa hb i31
 have HN29 := Lib.hid (HN29.out.below hb)
 have HN30 := Lib.hid (HN30.out.below hb)
 have HN32 := Lib.hid (HN32.out.below hb)
 clear hb 
 go_wp2
 go_ret
 exact ⟨by first | rfl | simp, hB⟩
theorem ratField_core {T : World → Prop} (hTb : ∀ w w', T w → Below w.heap.size w w' → T w') (IC : IntC T) (QC : RatC T) (s0 : Bool) (A0 : Option Addr) (n0 c0 : Nat) (l0 : List Nat) (E0 : Option Addr) (u0 v0 : Nat) (e0 : List Nat) (s1 : Bool) (A1 : Option Addr) (n1 c1 : Nat) (l1 : List Nat) (E1 : Option Addr) (u1 v1 : Nat) (e1 : List Nat) (s2 : Bool) (A2 : Option Addr) (n2 c2 : Nat) (l2 : List Nat) (E2 : Option Addr) (u2 v2 : Nat) (e2 : List Nat) (w : World) (h0 : zap w A0 n0 c0 l0) (k0 : zap w E0 u0 v0 e0) (h1 : zap w A1 n1 c1 l1) (k1 : zap w E1 u1 v1 e1) (h2 : zap w A2 n2 c2 l2) (k2 : zap w E2 u2 v2 e2) (hT : T w) :
  Calls Tryz.prog 6 #[.agg #[.bool s0, .slice A0 n0 c0, .slice E0 u0 v0], .agg #[.bool s1, .slice A1 n1 c1, .slice E1 u1 v1], .agg #[.bool s2, .slice A2 n2 c2, .slice E2 u2 v2]] w fun e w' => e = .returned (.bool true) ∧ Below w.heap.size w w' := by
 by_cases x0 : fOf s0 l0 e0 = 0
 ·exact ziu hTb IC QC s0 A0 n0 c0 l0 E0 u0 v0 e0 s1 A1 n1 c1 l1 E1 u1 v1 e1 s2 A2 n2 c2 l2 E2 u2 v2 e2 w h0 k0 h1 k1 h2 k2 x0 hT
 ·exact zif hTb IC QC s0 A0 n0 c0 l0 E0 u0 v0 e0 s1 A1 n1 c1 l1 E1 u1 v1 e1 s2 A2 n2 c2 l2 E2 u2 v2 e2 w h0 k0 h1 k1 h2 k2 x0 hT
end Go.Proofs.YtgigccjiblaefaaGreatDoor
