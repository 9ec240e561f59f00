/- What this claim leans on. -/
import Derived.Test.YtgigccjiblaefaaGreatDoorAW8Awake
import Derived.Test.YtgigccjiblaefaaGreatDoorAW8Make
namespace Go.Proofs.YtgigccjiblaefaaGreatDoor
open Go Go.RowKit
set_option maxRecDepth 100000
set_option linter.unusedVariables false
set_option linter.unusedSimpArgs false
theorem zjn (r : Rat) : 0 ≤ sgnQ r.abs := by
 have h := Rat.num_nonneg.2 (Rat.abs_nonneg (x := r))
 unfold sgnQ zet
 rw [if_neg (by omega)]
 split <;> omega
set_option maxHeartbeats 16000000 in
theorem zhx {T : World → Prop} (hTb : ∀ w w', T w → Below w.heap.size w w' → T w') (IC : IntC T) (QC : RatC T) (s0 : Bool) (A0 : Option Addr) (n0 c0 : Nat) (l0 : List Nat) (E0 : Option Addr) (u0 v0 : Nat) (e0 : List Nat) (w : World) (h0 : zap w A0 n0 c0 l0) (k0 : zap w E0 u0 v0 e0) (d0 : (fOf s0 l0 e0).den = 1) (hT : T w) :
  Calls Tryz.prog 8 #[.agg #[.bool s0, .slice A0 n0 c0, .slice E0 u0 v0]] w fun e w' => e = .returned (.bool true) ∧ Below w.heap.size w w' := by
 have HAW := Lib.hid (fun w' (hb : Below w.heap.size w w') => zbn hTb IC QC w' (hTb w w' hT hb))
 have HIC := Lib.hid IC
 have HQC := Lib.hid QC
 have HT := Lib.hid (fun w' (hb : Below w.heap.size w w') => hTb w w' hT hb)
 obtain ⟨K, hK⟩ : ∃ K, 1048576 = K := ⟨_, rfl⟩
 have hKK : K ≤ 1048576 := by omega
 have hK0 : 0 < K := by omega
 have HM0 := Lib.hid (fun w' (hb : Below w.heap.size w w') => zaL hTb IC QC s0 A0 n0 c0 l0 E0 u0 v0 e0 w' ⟨(h0.reads.below hb).more hb.size, h0.dgs, h0.fits, h0.small⟩ ⟨(k0.reads.below hb).more hb.size, k0.dgs, k0.fits, k0.small⟩ (hTb w w' hT hb))
 have S0 : SzQ 1048576 (fOf s0 l0 e0) := zbp h0 k0
 rw [hK] at S0
 obtain ⟨x, hz0⟩ : ∃ x, fOf s0 l0 e0 = x := ⟨_, rfl⟩
 rw [hz0] at HM0 S0 d0
 have HS0 := Lib.hid S0
 have hd0 := d0
 obtain ⟨c1, hc1⟩ : ∃ c, zbu ((x.floor : Int) : Rat) x = c := ⟨_, rfl⟩
 obtain ⟨c2, hc2⟩ : ∃ c, zbu x (((x.floor : Int) : Rat) + ((1 : Int) : Rat)) = c := ⟨_, rfl⟩
 obtain ⟨sg, hsg⟩ : ∃ c, sgnQ x.abs = c := ⟨_, rfl⟩
 have HC1 := Lib.hid hc1
 have HC2 := Lib.hid hc2
 have HSG := Lib.hid hsg
 have hd1 : decide (c1 ≤ 0) = true := by have := zew x; rw [hc1] at this; simpa using this
 have hd2 : decide (c2 < 0) = true := by have := zex x; rw [show ((1 : Int) : Rat) = 1 from rfl] at hc2; rw [hc2] at this; simpa using this
 have hd3 : decide (0 ≤ sg) = true := by have := zjn x; rw [hsg] at this; simpa using this
 clear hc1 hc2 hsg
 have HG : Hid (((x.ceil : Int) : Rat) = ((x.floor : Int) : Rat) + ((0 : Int) : Rat)) := by show _ = _; rw [zgS, if_pos hd0]; rfl
 clear hd0
 have Hd0 := Lib.hid d0
 clear IC QC hT h0 k0 hz0 S0 d0 hK
 go_enter Tryz.func8, Tryz.ntmps8
 have hB := Below.refl w.heap.size w
 obtain ⟨bx1, bx2, bz⟩ := zaZ w 48 #[.bool s0, .slice A0 n0 c0, .slice E0 u0 v0]
 have hB := zab hB bx1
 obtain ⟨g1, e1, i1⟩ := bx2.c3
 clear bx1 bx2 bz
 go_wp2_with fail
 generalize w.alloc (.cells #[.bool s0, .slice A0 n0 c0, .slice E0 u0 v0] 48) = W1 at *
 (with_reducible refine (HAW.out _ hB).mono ?_)
 rintro e wc2 ⟨rfl, hb⟩
 have hB := zab hB hb
 have g1 := zaa hb g1
 have e1 := zaa hb e1
 have i1 := zaa hb i1
 clear hb 
 go_wp2_with fail
 have HZ2 : Hid (SzQ (K) (x)) := HS0.out
 (with_reducible refine (HM0.out _ hB).mono ?_)
 rintro e wc3 ⟨b2, B2, m2, d2, E2, u2, v2, rfl, hw2, hb⟩
 have hB := zab hB hb
 have g1 := zaa hb g1
 have e1 := zaa hb e1
 have i1 := zaa hb i1
 have HN2 := Lib.hid hw2
 clear hb hw2
 obtain ⟨bx1, bx2, bz⟩ := zaZ wc3 31 #[.bool b2, .slice B2 m2 d2, .slice E2 u2 v2]
 have hB := zab hB bx1
 have g1 := zaa bx1 g1
 have e1 := zaa bx1 e1
 have i1 := zaa bx1 i1
 have HN2 := Lib.hid (HN2.out.below bx1)
 obtain ⟨g3, e3, i3⟩ := bx2.c3
 clear bx1 bx2 bz
 go_wp2_with fail
 generalize wc3.alloc (.cells #[.bool b2, .slice B2 m2 d2, .slice E2 u2 v2] 31) = W4 at *
 generalize wc3.heap.size = q4 at *
 have HZ4 : Hid (Sz (K) (x.floor).natAbs) := SzQ.floor HZ2.out
 have C0 := Lib.hid (fun w' (h : Below W4.heap.size W4 w') => HQC.out.floor (x) b2 B2 m2 d2 E2 u2 v2 w' (HT.out _ (zab hB h)) (HN2.out.below h) (SzQ.fit HZ2.out HN2.out (by omega)))
 have HZ5 : Hid (SzQ (K) (((x.floor : Int) : Rat))) := SzQ.whole HZ4.out (by omega)
 have C1 := Lib.hid (fun w' (h : Below W4.heap.size W4 w') b4 B4 m4 d4 (hw4 : zaq w' (x.floor) b4 B4 m4 d4) => HQC.out.whole (x.floor) b4 B4 m4 d4 w' (HT.out _ (zab hB h)) hw4 (by have := Sz.words HZ4.out hw4.words; omega))
 have HZ6 : Hid (Sz (K) (x.ceil).natAbs) := SzQ.ceil HZ2.out
 have C2 := Lib.hid (fun w' (h : Below W4.heap.size W4 w') => HQC.out.ceil (x) b2 B2 m2 d2 E2 u2 v2 w' (HT.out _ (zab hB h)) (HN2.out.below h) (SzQ.fit HZ2.out HN2.out (by omega)))
 have HZ7 : Hid (SzQ (K) (((x.ceil : Int) : Rat))) := SzQ.whole HZ6.out (by omega)
 have C3 := Lib.hid (fun w' (h : Below W4.heap.size W4 w') b6 B6 m6 d6 (hw6 : zaq w' (x.ceil) b6 B6 m6 d6) => HQC.out.whole (x.ceil) b6 B6 m6 d6 w' (HT.out _ (zab hB h)) hw6 (by have := Sz.words HZ6.out hw6.words; omega))
 have GG := Lib.hid (fun w' (h : Below W4.heap.size W4 w') => (csc (zaa h g3) (csc (zaa h e3) (csc (zaa h i3) csn))))
 refine rgB (fun hHeld => ?_)
 refine tl 0 GG.out ?_
 try simp only [sb]
 refine tl 3 GG.out ?_
 try simp only [sb]
 refine zaw (L := #[true, true, true, true, true, true, true, true, true, true])
  (J := fun a0 l a w' => ∃ (fl1 fl2 fl4 fl5 fl6 fl7 fl8 fl9 b4 : Bool) (B4 : Option Addr) (m4 d4 : Nat) (b5 : Bool) (B5 : Option Addr) (m5 d5 : Nat) (E5 : Option Addr) (u5 v5 : Nat) (b6 : Bool) (B6 : Option Addr) (m6 d6 : Nat) (b7 : Bool) (B7 : Option Addr) (m7 d7 : Nat) (E7 : Option Addr) (u7 v7 ad6 ad7 : Nat), l = #[true, fl1, fl2, true, fl4, fl5, fl6, fl7, fl8, fl9] ∧ zaT [12, 13, 15, 16, 4, 5] a0 a ∧ Hid (Below W4.heap.size W4 w') ∧
    Hid (Gd fl1 (a.tmps.getD 12 undef = .agg #[.bool b4, .slice B4 m4 d4] ∧ zaq w' (x.floor) b4 B4 m4 d4)) ∧
    Hid (Gd fl2 (a.tmps.getD 13 undef = .agg #[.bool b5, .slice B5 m5 d5, .slice E5 u5 v5] ∧ zah w' (((x.floor : Int) : Rat)) b5 B5 m5 d5 E5 u5 v5)) ∧
    Hid (Gd fl4 (a.tmps.getD 15 undef = .agg #[.bool b6, .slice B6 m6 d6] ∧ zaq w' (x.ceil) b6 B6 m6 d6)) ∧
    Hid (Gd fl5 (a.tmps.getD 16 undef = .agg #[.bool b7, .slice B7 m7 d7, .slice E7 u7 v7] ∧ zah w' (((x.ceil : Int) : Rat)) b7 B7 m7 d7 E7 u7 v7)) ∧
    Hid (Gd fl6 (a.tmps.getD 4 undef = .pointer (some ⟨ad6, 0, none⟩) ∧ W4.heap.size ≤ ad6 ∧ Blk w' ad6 31 (bif fl8 then #[.bool b5, .slice B5 m5 d5, .slice E5 u5 v5] else #[.bool false, .slice none 0 0, .slice none 0 0]))) ∧
    Hid (Gd fl7 (a.tmps.getD 5 undef = .pointer (some ⟨ad7, 0, none⟩) ∧ W4.heap.size ≤ ad7 ∧ Blk w' ad7 31 (bif fl9 then #[.bool b7, .slice B7 m7 d7, .slice E7 u7 v7] else #[.bool false, .slice none 0 0, .slice none 0 0]))) ∧
    Hid (Gd fl6 (Gd fl7 (ad6 ≠ ad7))) ∧
    Hid (Gd fl2 (fl1 = true)) ∧
    Hid (Gd fl4 (fl2 = true)) ∧
    Hid (Gd fl5 (fl4 = true)) ∧
    Hid (Gd fl8 (fl2 = true)) ∧
    Hid (Gd fl8 (fl5 = true)) ∧
    Hid (Gd fl8 (fl6 = true)) ∧
    Hid (Gd fl9 (fl5 = true)) ∧
    Hid (Gd fl9 (fl7 = true)) ∧
    Hid (Gd fl9 (fl8 = true)))
  (by rfl) ?_ ?_ ?_
 ·exact ⟨false, false, false, false, false, false, false, false, false, none, 0, 0, false, none, 0, 0, none, 0, 0, false, none, 0, 0, false, none, 0, 0, none, 0, 0, 0, 0, by kernel_rfl, zaT.refl _ _, hHeld, Gd.no, Gd.no, Gd.no, Gd.no, Gd.no, Gd.no, Gd.no, Gd.no, Gd.no, Gd.no, Gd.no, Gd.no, Gd.no, Gd.no, Gd.no, Gd.no⟩
 ·intro OPS Ac0 Q0 hO hAs hA
  have RB11 : Ac0.tmps.getD 11 undef = .agg #[.bool b2, .slice B2 m2 d2, .slice E2 u2 v2] := (hA 11 undef).trans (by kernel_rfl)
  have RB14 : Ac0.tmps.getD 14 undef = .agg #[.bool b2, .slice B2 m2 d2, .slice E2 u2 v2] := (hA 14 undef).trans (by kernel_rfl)
  have hsz : Ac0.tmps.size = 62 := hAs.trans (by kernel_rfl)
  clear hAs hA
  refine ⟨?_, ?_⟩
  ·rintro l a w' ⟨fl1, fl2, fl4, fl5, fl6, fl7, fl8, fl9, b4, B4, m4, d4, b5, B5, m5, d5, E5, u5, v5, b6, B6, m6, d6, b7, B7, m7, d7, E7, u7, v7, ad6, ad7, rfl, -⟩ hr
   obtain rfl : fl1 = true := als 1 hr hO
   obtain rfl : fl2 = true := als 2 hr hO
   obtain rfl : fl4 = true := als 4 hr hO
   obtain rfl : fl5 = true := als 5 hr hO
   obtain rfl : fl6 = true := als 6 hr hO
   obtain rfl : fl7 = true := als 7 hr hO
   obtain rfl : fl8 = true := als 8 hr hO
   obtain rfl : fl9 = true := als 9 hr hO
   rfl
  ·rintro l a w' i ⟨fl1, fl2, fl4, fl5, fl6, fl7, fl8, fl9, b4, B4, m4, d4, b5, B5, m5, d5, E5, u5, v5, b6, B6, m6, d6, b7, B7, m7, d7, E7, u7, v7, ad6, ad7, rfl, HKp, hBi, qf1, qf2, qf4, qf5, qf6, qf7, qn6_7, qd2_1, qd4_2, qd5_4, qd8_2, qd8_5, qd8_6, qd9_5, qd9_7, qd9_8⟩ hne hi
   have hlt : i < 10 := by have := zaJ hi; rw [hO] at this; exact this
   rcases (show i = 0 ∨ i = 1 ∨ i = 2 ∨ i = 3 ∨ i = 4 ∨ i = 5 ∨ i = 6 ∨ i = 7 ∨ i = 8 ∨ i = 9 by omega) with rfl | rfl | rfl | rfl | rfl | rfl | rfl | rfl | rfl | rfl
   ·cases (zad hi : true = false)
   ·obtain rfl : fl1 = false := zad hi
    obtain rfl : fl2 = false := Gd.off qd2_1.out
    obtain rfl : fl4 = false := Gd.off qd4_2.out
    obtain rfl : fl5 = false := Gd.off qd5_4.out
    obtain rfl : fl8 = false := Gd.off qd8_2.out
    obtain rfl : fl9 = false := Gd.off qd9_5.out
    have rd11 := HKp.get 11 (by decide) RB11
    refine wog hO (fun K' hK => ?_)
    go_simp
    refine (C0.out w' hBi.out).mono ?_
    rintro e w2 ⟨nb4, nB4, nm4, nd4, rfl, nhw4, hb⟩
    exact hK.out _ _ ⟨zab hBi.out hb, true, false, false, false, fl6, fl7, false, false, nb4, nB4, nm4, nd4, b5, B5, m5, d5, E5, u5, v5, b6, B6, m6, d6, b7, B7, m7, d7, E7, u7, v7, ad6, ad7, by rfl, HKp.put (by decide) _, zab hBi.out hb, Gd.yes ⟨zal (HKp.lt (by rw [hsz]; decide)) _, nhw4⟩, Gd.no, Gd.no, Gd.no, kq qf6.out fun h => ⟨h.1, zac hb h.2⟩, kq qf7.out fun h => ⟨h.1, zac hb h.2⟩, qn6_7, Gd.no, Gd.no, Gd.no, Gd.no, Gd.no, Gd.no, Gd.no, Gd.no, Gd.no⟩
   ·obtain rfl : fl2 = false := zad hi
    obtain rfl : fl1 = true := rdp 1 0 hi hO
    obtain rfl : fl4 = false := Gd.off qd4_2.out
    obtain rfl : fl5 = false := Gd.off qd5_4.out
    obtain rfl : fl8 = false := Gd.off qd8_2.out
    obtain rfl : fl9 = false := Gd.off qd9_5.out
    have rd12 := qf1.out.get.1
    have hw4 := qf1.out.get.2
    refine wog hO (fun K' hK => ?_)
    go_simp
    refine (C1.out w' hBi.out _ _ _ _ hw4).mono ?_
    rintro e w2 ⟨nb5, nB5, nm5, nd5, nE5, nu5, nv5, rfl, nhw5, hb⟩
    exact hK.out _ _ ⟨zab hBi.out hb, true, true, false, false, fl6, fl7, false, false, b4, B4, m4, d4, nb5, nB5, nm5, nd5, nE5, nu5, nv5, b6, B6, m6, d6, b7, B7, m7, d7, E7, u7, v7, ad6, ad7, by rfl, HKp.put (by decide) _, zab hBi.out hb, kq qf1.out fun h => (h).below hb, Gd.yes ⟨zal (HKp.lt (by rw [hsz]; decide)) _, nhw5⟩, Gd.no, Gd.no, kq qf6.out fun h => ⟨h.1, zac hb h.2⟩, kq qf7.out fun h => ⟨h.1, zac hb h.2⟩, qn6_7, fun _ => rfl, Gd.no, Gd.no, Gd.no, Gd.no, Gd.no, Gd.no, Gd.no, Gd.no⟩
   ·cases (zad hi : true = false)
   ·obtain rfl : fl4 = false := zad hi
    obtain rfl : fl2 = true := rdp 2 1 hi hO
    obtain rfl : fl1 = true := qd2_1.out.get
    obtain rfl : fl5 = false := Gd.off qd5_4.out
    obtain rfl : fl8 = false := Gd.off qd8_5.out
    obtain rfl : fl9 = false := Gd.off qd9_5.out
    have rd14 := HKp.get 14 (by decide) RB14
    refine wog hO (fun K' hK => ?_)
    go_simp
    refine (C2.out w' hBi.out).mono ?_
    rintro e w2 ⟨nb6, nB6, nm6, nd6, rfl, nhw6, hb⟩
    exact hK.out _ _ ⟨zab hBi.out hb, true, true, true, false, fl6, fl7, false, false, b4, B4, m4, d4, b5, B5, m5, d5, E5, u5, v5, nb6, nB6, nm6, nd6, b7, B7, m7, d7, E7, u7, v7, ad6, ad7, by rfl, HKp.put (by decide) _, zab hBi.out hb, kq qf1.out fun h => (h).below hb, kq qf2.out fun h => (h).below hb, Gd.yes ⟨zal (HKp.lt (by rw [hsz]; decide)) _, nhw6⟩, Gd.no, kq qf6.out fun h => ⟨h.1, zac hb h.2⟩, kq qf7.out fun h => ⟨h.1, zac hb h.2⟩, qn6_7, fun _ => rfl, fun _ => rfl, Gd.no, Gd.no, Gd.no, Gd.no, Gd.no, Gd.no, Gd.no⟩
   ·obtain rfl : fl5 = false := zad hi
    obtain rfl : fl4 = true := rdp 4 0 hi hO
    obtain rfl : fl2 = true := qd4_2.out.get
    obtain rfl : fl1 = true := qd2_1.out.get
    obtain rfl : fl8 = false := Gd.off qd8_5.out
    obtain rfl : fl9 = false := Gd.off qd9_5.out
    have rd15 := qf4.out.get.1
    have hw6 := qf4.out.get.2
    refine wog hO (fun K' hK => ?_)
    go_simp
    refine (C3.out w' hBi.out _ _ _ _ hw6).mono ?_
    rintro e w2 ⟨nb7, nB7, nm7, nd7, nE7, nu7, nv7, rfl, nhw7, hb⟩
    exact hK.out _ _ ⟨zab hBi.out hb, true, true, true, true, fl6, fl7, false, false, b4, B4, m4, d4, b5, B5, m5, d5, E5, u5, v5, b6, B6, m6, d6, nb7, nB7, nm7, nd7, nE7, nu7, nv7, ad6, ad7, by rfl, HKp.put (by decide) _, zab hBi.out hb, kq qf1.out fun h => (h).below hb, kq qf2.out fun h => (h).below hb, kq qf4.out fun h => (h).below hb, Gd.yes ⟨zal (HKp.lt (by rw [hsz]; decide)) _, nhw7⟩, kq qf6.out fun h => ⟨h.1, zac hb h.2⟩, kq qf7.out fun h => ⟨h.1, zac hb h.2⟩, qn6_7, fun _ => rfl, fun _ => rfl, fun _ => rfl, Gd.no, Gd.no, Gd.no, Gd.no, Gd.no, Gd.no⟩
   ·obtain rfl : fl6 = false := zad hi
    obtain rfl : fl8 = false := Gd.off qd8_6.out
    obtain rfl : fl9 = false := Gd.off qd9_8.out
    refine wog hO (fun K' hK => ?_)
    go_simp
    have hb := zau w' (.cells #[.bool false, .slice none 0 0, .slice none 0 0] 31)
    exact hK.out _ _ ⟨zab hBi.out hb, fl1, fl2, fl4, fl5, true, fl7, false, false, b4, B4, m4, d4, b5, B5, m5, d5, E5, u5, v5, b6, B6, m6, d6, b7, B7, m7, d7, E7, u7, v7, w'.heap.size, ad7, by rfl, HKp.put (by decide) _, zab hBi.out hb, kq qf1.out fun h => (h).below hb, kq qf2.out fun h => (h).below hb, kq qf4.out fun h => (h).below hb, kq qf5.out fun h => (h).below hb, Gd.yes ⟨zal (HKp.lt (by rw [hsz]; decide)) _, hBi.out.size, Blk.new w' _ _⟩, kq qf7.out fun h => ⟨h.1, zac hb h.2⟩, Gd.yes (qf7.out.mono fun h => by have := Blk.lt h.2.2; omega), qd2_1, qd4_2, qd5_4, Gd.no, Gd.no, Gd.no, Gd.no, Gd.no, Gd.no⟩
   ·obtain rfl : fl7 = false := zad hi
    obtain rfl : fl9 = false := Gd.off qd9_7.out
    refine wog hO (fun K' hK => ?_)
    go_simp
    have hb := zau w' (.cells #[.bool false, .slice none 0 0, .slice none 0 0] 31)
    exact hK.out _ _ ⟨zab hBi.out hb, fl1, fl2, fl4, fl5, fl6, true, fl8, false, b4, B4, m4, d4, b5, B5, m5, d5, E5, u5, v5, b6, B6, m6, d6, b7, B7, m7, d7, E7, u7, v7, ad6, w'.heap.size, by rfl, HKp.put (by decide) _, zab hBi.out hb, kq qf1.out fun h => (h).below hb, kq qf2.out fun h => (h).below hb, kq qf4.out fun h => (h).below hb, kq qf5.out fun h => (h).below hb, kq qf6.out fun h => ⟨h.1, zac hb h.2⟩, Gd.yes ⟨zal (HKp.lt (by rw [hsz]; decide)) _, hBi.out.size, Blk.new w' _ _⟩, qf6.out.mono fun h => Gd.yes (by have := Blk.lt h.2.2; omega), qd2_1, qd4_2, qd5_4, qd8_2, qd8_5, qd8_6, Gd.no, Gd.no, Gd.no⟩
   ·obtain rfl : fl8 = false := zad hi
    obtain rfl : fl1 = true := rdp 1 4 hi hO
    obtain rfl : fl2 = true := rdp 2 1 hi hO
    obtain rfl : fl5 = true := rdp 5 2 hi hO
    obtain rfl : fl6 = true := rdp 6 0 hi hO
    obtain rfl : fl7 = true := rdp 7 10 hi hO
    obtain rfl : fl4 = true := qd5_4.out.get
    obtain rfl : fl9 = false := Gd.off qd9_8.out
    have rd4 := qf6.out.get.1
    have rd13 := qf2.out.get.1
    obtain ⟨_, hg, hk⟩ := qf6.out.get
    have hk : Blk w' ad6 31 #[.bool false, .slice none 0 0, .slice none 0 0] := hk
    obtain ⟨sc0, sf0, sc1, sf1, sc2, sf2⟩ := st3 hk (.bool b5) (.slice B5 m5 d5)
    have hj2 := sn3 hk (.bool b5) (.slice B5 m5 d5) (.slice E5 u5 v5)
    have hBn := bl3 (.bool b5) (.slice B5 m5 d5) (.slice E5 u5 v5) hg hBi.out
    refine wog hO (fun K' hK => ?_)
    go_simp
    exact hK.out _ _ ⟨hBn, true, true, true, true, true, true, true, false, b4, B4, m4, d4, b5, B5, m5, d5, E5, u5, v5, b6, B6, m6, d6, b7, B7, m7, d7, E7, u7, v7, ad6, ad7, by rfl, HKp, hBn, qf1.out.mono fun h => ⟨h.1, zaS (h.2) hk zaK (zaI _ _ _ _ _)⟩, qf2.out.mono fun h => ⟨h.1, zar (h.2) hk zaK (zaI _ _ _ _ _)⟩, qf4.out.mono fun h => ⟨h.1, zaS (h.2) hk zaK (zaI _ _ _ _ _)⟩, qf5.out.mono fun h => ⟨h.1, zar (h.2) hk zaK (zaI _ _ _ _ _)⟩, qf6.out.mono fun h => ⟨h.1, h.2.1, hj2⟩, fun hf9 => (fun h => ⟨h.1, h.2.1, Blk.far (p := ⟨ad6, 2, none⟩) (Blk.far (p := ⟨ad6, 1, none⟩) (Blk.far (p := ⟨ad6, 0, none⟩) (h.2.2) (Ne.symm (qn6_7.out rfl hf9)) (.bool b5)) (Ne.symm (qn6_7.out rfl hf9)) (.slice B5 m5 d5)) (Ne.symm (qn6_7.out rfl hf9)) (.slice E5 u5 v5)⟩) (qf7.out hf9), qn6_7, fun _ => rfl, fun _ => rfl, fun _ => rfl, fun _ => rfl, fun _ => rfl, fun _ => rfl, Gd.no, Gd.no, Gd.no⟩
   ·obtain rfl : fl9 = false := zad hi
    obtain rfl : fl1 = true := rdp 1 4 hi hO
    obtain rfl : fl2 = true := rdp 2 5 hi hO
    obtain rfl : fl4 = true := rdp 4 7 hi hO
    obtain rfl : fl5 = true := rdp 5 1 hi hO
    obtain rfl : fl6 = true := rdp 6 9 hi hO
    obtain rfl : fl7 = true := rdp 7 0 hi hO
    obtain rfl : fl8 = true := rdp 8 2 hi hO
    have rd5 := qf7.out.get.1
    have rd16 := qf5.out.get.1
    obtain ⟨_, hg, hk⟩ := qf7.out.get
    have hk : Blk w' ad7 31 #[.bool false, .slice none 0 0, .slice none 0 0] := hk
    obtain ⟨sc0, sf0, sc1, sf1, sc2, sf2⟩ := st3 hk (.bool b7) (.slice B7 m7 d7)
    have hj2 := sn3 hk (.bool b7) (.slice B7 m7 d7) (.slice E7 u7 v7)
    have hBn := bl3 (.bool b7) (.slice B7 m7 d7) (.slice E7 u7 v7) hg hBi.out
    refine wog hO (fun K' hK => ?_)
    go_simp
    exact hK.out _ _ ⟨hBn, true, true, true, true, true, true, true, true, b4, B4, m4, d4, b5, B5, m5, d5, E5, u5, v5, b6, B6, m6, d6, b7, B7, m7, d7, E7, u7, v7, ad6, ad7, by rfl, HKp, hBn, qf1.out.mono fun h => ⟨h.1, zaS (h.2) hk zaK (zaI _ _ _ _ _)⟩, qf2.out.mono fun h => ⟨h.1, zar (h.2) hk zaK (zaI _ _ _ _ _)⟩, qf4.out.mono fun h => ⟨h.1, zaS (h.2) hk zaK (zaI _ _ _ _ _)⟩, qf5.out.mono fun h => ⟨h.1, zar (h.2) hk zaK (zaI _ _ _ _ _)⟩, fun hf9 => (fun h => ⟨h.1, h.2.1, Blk.far (p := ⟨ad7, 2, none⟩) (Blk.far (p := ⟨ad7, 1, none⟩) (Blk.far (p := ⟨ad7, 0, none⟩) (h.2.2) (qn6_7.out hf9 rfl) (.bool b7)) (qn6_7.out hf9 rfl) (.slice B7 m7 d7)) (qn6_7.out hf9 rfl) (.slice E7 u7 v7)⟩) (qf6.out hf9), qf7.out.mono fun h => ⟨h.1, h.2.1, hj2⟩, qn6_7, fun _ => rfl, fun _ => rfl, fun _ => rfl, fun _ => rfl, fun _ => rfl, fun _ => rfl, fun _ => rfl, fun _ => rfl, fun _ => rfl⟩
 rintro a wm5 ⟨fl1, fl2, fl4, fl5, fl6, fl7, fl8, fl9, b4, B4, m4, d4, b5, B5, m5, d5, E5, u5, v5, b6, B6, m6, d6, b7, B7, m7, d7, E7, u7, v7, ad6, ad7, hl, HKp, hBi, qf1, qf2, qf4, qf5, qf6, qf7, qn6_7, qd2_1, qd4_2, qd5_4, qd8_2, qd8_5, qd8_6, qd9_5, qd9_7, qd9_8⟩
 have xx1 : fl1 = true := gdl 1 hl
 subst xx1
 have xx2 : fl2 = true := gdl 2 hl
 subst xx2
 have xx4 : fl4 = true := gdl 4 hl
 subst xx4
 have xx5 : fl5 = true := gdl 5 hl
 subst xx5
 have xx6 : fl6 = true := gdl 6 hl
 subst xx6
 have xx7 : fl7 = true := gdl 7 hl
 subst xx7
 have xx8 : fl8 = true := gdl 8 hl
 subst xx8
 have xx9 : fl9 = true := gdl 9 hl
 subst xx9
 obtain ⟨rv1, hw4⟩ := qf1.out.get
 obtain ⟨rv2, hw5⟩ := qf2.out.get
 obtain ⟨rv4, hw6⟩ := qf4.out.get
 obtain ⟨rv5, hw7⟩ := qf5.out.get
 obtain ⟨rv6, hg6, hk6⟩ := qf6.out.get
 obtain ⟨rv7, hg7, hk7⟩ := qf7.out.get
 obtain rfl := HKp.eq [(12, .agg #[.bool b4, .slice B4 m4 d4]), (13, .agg #[.bool b5, .slice B5 m5 d5, .slice E5 u5 v5]), (15, .agg #[.bool b6, .slice B6 m6 d6]), (16, .agg #[.bool b7, .slice B7 m7 d7, .slice E7 u7 v7]), (4, .pointer (some ⟨ad6, 0, none⟩)), (5, .pointer (some ⟨ad7, 0, none⟩))] rfl (by
  intro p hp
  simp only [List.mem_cons, List.not_mem_nil, or_false] at hp
  rcases hp with rfl | rfl | rfl | rfl | rfl | rfl
  ·exact rv1
  ·exact rv2
  ·exact rv4
  ·exact rv5
  ·exact rv6
  ·exact rv7)
 have hBv := hBi.out
 clear hl hBi HKp qf1 qf2 qf4 qf5 qf6 qf7 qn6_7 qd2_1 qd4_2 qd5_4 qd8_2 qd8_5 qd8_6 qd9_5 qd9_7 qd9_8 rv1 rv2 rv4 rv5 rv6 rv7
 have hk6 : Blk wm5 ad6 31 #[.bool b5, .slice B5 m5 d5, .slice E5 u5 v5] := hk6
 have hk7 : Blk wm5 ad7 31 #[.bool b7, .slice B7 m7 d7, .slice E7 u7 v7] := hk7
 rw [show due #[true, true, true, true, true, true, true, true, true, true] = 0 from rfl]
 simp only [zaR, List.foldl, Act.put, List.setIfInBounds_toArray, List.set_cons_zero, List.set_cons_succ]
 refine wpAnyH_done (by kernel_rfl) ?_ _
 refine NoPanic.normal ?_
 have hB := zab hB hBv
 have g1 := zaa hBv g1
 have e1 := zaa hBv e1
 have i1 := zaa hBv i1
 have HN2 := Lib.hid (HN2.out.below hBv)
 have g3 := zaa hBv g3
 have e3 := zaa hBv e3
 have i3 := zaa hBv i3
 obtain ⟨ad6_8, hga⟩ : ∃ x, x = ad6 := ⟨_, rfl⟩
 subst hga
 obtain ⟨g8, e8, i8⟩ := hk6.c3
 obtain ⟨ad7_9, hga⟩ : ∃ x, x = ad7 := ⟨_, rfl⟩
 subst hga
 obtain ⟨g9, e9, i9⟩ := hk7.c3
 have HN4 := Lib.hid hw4
 have HN5 := Lib.hid hw5
 have HN6 := Lib.hid hw6
 have HN7 := Lib.hid hw7
 clear hBv hk6 hg6 hk7 hg7 hw4 hw5 hw6 hw7 GG
 clear C0 C1 C2 C3
 go_wp2_with fail
 (with_reducible refine (zai (decide_eq_true Hd0.out) (HQC.out.isInt (x) b2 B2 m2 d2 E2 u2 v2 _ (HT.out _ hB) HN2.out (SzQ.fit HZ2.out HN2.out (by omega)))).mono ?_)
 rintro e wc6 ⟨rfl, hb⟩
 have hB := zab hB hb
 have g1 := zaa hb g1
 have e1 := zaa hb e1
 have i1 := zaa hb i1
 have HN2 := Lib.hid (HN2.out.below hb)
 have g3 := zaa hb g3
 have e3 := zaa hb e3
 have i3 := zaa hb i3
 have g8 := zaa hb g8
 have e8 := zaa hb e8
 have i8 := zaa hb i8
 have g9 := zaa hb g9
 have e9 := zaa hb e9
 have i9 := zaa hb i9
 have HN4 := Lib.hid (HN4.out.below hb)
 have HN5 := Lib.hid (HN5.out.below hb)
 have HN6 := Lib.hid (HN6.out.below hb)
 have HN7 := Lib.hid (HN7.out.below hb)
 clear hb 
 go_wp2_with fail
 have C0 := Lib.hid (fun w' (h : Below wc6.heap.size wc6 w') => zaO (v := c1) (HC1.out) (HQC.out.cmp (((x.floor : Int) : Rat)) (x) b5 b2 B5 B2 m5 m2 d5 d2 E5 E2 u5 u2 v5 v2 w' (HT.out _ (zab hB h)) (HN5.out.below h) (HN2.out.below h) (SzQ.fit HZ5.out HN5.out (by omega)) (SzQ.fit HZ2.out HN2.out (by omega))))
 have HZ10 : Hid (SzQ (1) ((((1) : Int) : Rat))) := SzQ.whole (K := 1) (by show ((1) : Int).natAbs < _; decide) (by decide)
 have C1 := Lib.hid (fun w' (h : Below wc6.heap.size wc6 w') => HQC.out.int (1) w' (HT.out _ (zab hB h)) (by decide) (by decide))
 have HZ11 : Hid (SzQ (K + 1 + 1) ((((x.floor : Int) : Rat)) + ((((1) : Int) : Rat)))) := SzQ.add HZ5.out HZ10.out
 have C2 := Lib.hid (fun w' (h : Below wc6.heap.size wc6 w') b10 B10 m10 d10 E10 u10 v10 (hw10 : zah w' ((((1) : Int) : Rat)) b10 B10 m10 d10 E10 u10 v10) => HQC.out.add (((x.floor : Int) : Rat)) ((((1) : Int) : Rat)) b5 b10 B5 B10 m5 m10 d5 d10 E5 E10 u5 u10 v5 v10 w' (HT.out _ (zab hB h)) (HN5.out.below h) hw10 (SzQ.fit HZ5.out HN5.out (by omega)) (SzQ.fit HZ10.out hw10 (by omega)))
 have C3 := Lib.hid (fun w' (h : Below wc6.heap.size wc6 w') b11 B11 m11 d11 E11 u11 v11 (hw11 : zah w' ((((x.floor : Int) : Rat)) + ((((1) : Int) : Rat))) b11 B11 m11 d11 E11 u11 v11) => zaO (v := c2) (HC2.out) (HQC.out.cmp (x) ((((x.floor : Int) : Rat)) + ((((1) : Int) : Rat))) b2 b11 B2 B11 m2 m11 d2 d11 E2 E11 u2 u11 v2 v11 w' (HT.out _ (zab hB h)) (HN2.out.below h) hw11 (SzQ.fit HZ2.out HN2.out (by omega)) (SzQ.fit HZ11.out hw11 (by omega))))
 have HZ12 : Hid (SzQ (1) ((((0) : Int) : Rat))) := SzQ.whole (K := 1) (by show ((0) : Int).natAbs < _; decide) (by decide)
 have C4 := Lib.hid (fun w' (h : Below wc6.heap.size wc6 w') => HQC.out.int (0) w' (HT.out _ (zab hB h)) (by decide) (by decide))
 have HZ13 : Hid (SzQ (K + 1 + 1) ((((x.floor : Int) : Rat)) + ((((0) : Int) : Rat)))) := SzQ.add HZ5.out HZ12.out
 have C5 := Lib.hid (fun w' (h : Below wc6.heap.size wc6 w') b12 B12 m12 d12 E12 u12 v12 (hw12 : zah w' ((((0) : Int) : Rat)) b12 B12 m12 d12 E12 u12 v12) => HQC.out.add (((x.floor : Int) : Rat)) ((((0) : Int) : Rat)) b5 b12 B5 B12 m5 m12 d5 d12 E5 E12 u5 u12 v5 v12 w' (HT.out _ (zab hB h)) (HN5.out.below h) hw12 (SzQ.fit HZ5.out HN5.out (by omega)) (SzQ.fit HZ12.out hw12 (by omega)))
 have C6 := Lib.hid (fun w' (h : Below wc6.heap.size wc6 w') b13 B13 m13 d13 E13 u13 v13 (hw13 : zah w' ((((x.floor : Int) : Rat)) + ((((0) : Int) : Rat))) b13 B13 m13 d13 E13 u13 v13) => zai (decide_eq_true HG.out) (HQC.out.same (((x.ceil : Int) : Rat)) ((((x.floor : Int) : Rat)) + ((((0) : Int) : Rat))) b7 b13 B7 B13 m7 m13 d7 d13 E7 E13 u7 u13 v7 v13 w' (HT.out _ (zab hB h)) (HN7.out.below h) hw13 (SzQ.fit HZ7.out HN7.out (by omega)) (SzQ.fit HZ13.out hw13 (by omega))))
 have C7 := Lib.hid (fun w' (h : Below wc6.heap.size wc6 w') => zai (decide_eq_true ((zdL x).2 Hd0.out)) (HQC.out.same (((x.floor : Int) : Rat)) (x) b5 b2 B5 B2 m5 m2 d5 d2 E5 E2 u5 u2 v5 v2 w' (HT.out _ (zab hB h)) (HN5.out.below h) (HN2.out.below h) (SzQ.fit HZ5.out HN5.out (by omega)) (SzQ.fit HZ2.out HN2.out (by omega))))
 have C8 := Lib.hid (fun w' (h : Below wc6.heap.size wc6 w') => zai (decide_eq_true Hd0.out) (HQC.out.isInt (x) b2 B2 m2 d2 E2 u2 v2 w' (HT.out _ (zab hB h)) (HN2.out.below h) (SzQ.fit HZ2.out HN2.out (by omega))))
 have HZ14 : Hid (SzQ (K) (x.abs)) := SzQ.abs HZ2.out
 have C9 := Lib.hid (fun w' (h : Below wc6.heap.size wc6 w') => HQC.out.abs (x) b2 B2 m2 d2 E2 u2 v2 w' (HT.out _ (zab hB h)) (HN2.out.below h) (SzQ.fit HZ2.out HN2.out (by omega)))
 have C10 := Lib.hid (fun w' (h : Below wc6.heap.size wc6 w') b14 B14 m14 d14 E14 u14 v14 (hw14 : zah w' (x.abs) b14 B14 m14 d14 E14 u14 v14) => zaO (v := sg) (HSG.out) (HQC.out.sign (x.abs) b14 B14 m14 d14 E14 u14 v14 w' (HT.out _ (zab hB h)) hw14 (SzQ.fit HZ14.out hw14 (by omega))))
 have HZ15 : Hid (SzQ (K) (x.abs)) := SzQ.abs HZ2.out
 have C11 := Lib.hid (fun w' (h : Below wc6.heap.size wc6 w') => HQC.out.abs (x) b2 B2 m2 d2 E2 u2 v2 w' (HT.out _ (zab hB h)) (HN2.out.below h) (SzQ.fit HZ2.out HN2.out (by omega)))
 have HZ16 : Hid (SzQ (K) ((-x))) := SzQ.neg HZ2.out
 have C12 := Lib.hid (fun w' (h : Below wc6.heap.size wc6 w') => HQC.out.neg (x) b2 B2 m2 d2 E2 u2 v2 w' (HT.out _ (zab hB h)) (HN2.out.below h) (SzQ.fit HZ2.out HN2.out (by omega)))
 have HZ17 : Hid (SzQ (K + K) (zdd x (-x))) := SzQ.max HZ2.out HZ16.out
 have C13 := Lib.hid (fun w' (h : Below wc6.heap.size wc6 w') b16 B16 m16 d16 E16 u16 v16 (hw16 : zah w' ((-x)) b16 B16 m16 d16 E16 u16 v16) => HQC.out.max (x) ((-x)) b2 b16 B2 B16 m2 m16 d2 d16 E2 E16 u2 u16 v2 v16 w' (HT.out _ (zab hB h)) (HN2.out.below h) hw16 (SzQ.fit HZ2.out HN2.out (by omega)) (SzQ.fit HZ16.out hw16 (by omega)))
 have C14 := Lib.hid (fun w' (h : Below wc6.heap.size wc6 w') b15 B15 m15 d15 E15 u15 v15 (hw15 : zah w' (x.abs) b15 B15 m15 d15 E15 u15 v15) b17 B17 m17 d17 E17 u17 v17 (hw17 : zah w' (zdd x (-x)) b17 B17 m17 d17 E17 u17 v17) => zai (decide_eq_true (zjc x)) (HQC.out.same (x.abs) (zdd x (-x)) b15 b17 B15 B17 m15 m17 d15 d17 E15 E17 u15 u17 v15 v17 w' (HT.out _ (zab hB h)) hw15 hw17 (SzQ.fit HZ15.out hw15 (by omega)) (SzQ.fit HZ17.out hw17 (by omega))))
 have hBw := (Below.refl wc6.heap.size wc6).drew
 refine rg (csc g8 (csc e8 (csc i8 (csc g3 (csc e3 (csc i3 (csc g9 (csc e9 (csc i9 csn))))))))) (fun hHeld => ?_)
 refine tk 0 ?_
 try simp only [sb]
 refine tk 1 ?_
 try simp only [sb]
 refine rc 2 (fun K hK => ?_)
 go_simp
 go_at_call 32; (with_reducible refine (C0.out _ hBw).mono ?_); rintro e wa7 ⟨rfl, hb⟩; have hBw := zab hBw hb; refine hK.out _ _ (Cs.below hHeld hb) (fun hHeld => ?_); clear hK K hb
 try simp only [sb]
 refine tk 3 ?_
 try simp only [sb]
 refine tk 4 ?_
 try simp only [sb]
 refine tk 5 ?_
 try simp only [sb]
 refine tk 6 ?_
 try simp only [sb]
 refine rc 7 (fun K hK => ?_)
 go_simp
 go_at_call 52; (with_reducible refine (C1.out _ hBw).mono ?_); rintro e wa8 ⟨b10, B10, m10, d10, E10, u10, v10, rfl, hw10, hb⟩; have hBw := zab hBw hb; refine hK.out _ _ (Cs.below hHeld hb) (fun hHeld => ?_); clear hK K hb
 try simp only [sb]
 refine rc 8 (fun K hK => ?_)
 go_simp
 go_at_call 22; (with_reducible refine (C2.out _ hBw _ _ _ _ _ _ _ hw10).mono ?_); rintro e wa9 ⟨b11, B11, m11, d11, E11, u11, v11, rfl, hw11, hb⟩; have hBw := zab hBw hb; have hw10 := hw10.below hb; refine hK.out _ _ (Cs.below hHeld hb) (fun hHeld => ?_); clear hK K hb
 try simp only [sb]
 refine rc 9 (fun K hK => ?_)
 go_simp
 go_at_call 32; (with_reducible refine (C3.out _ hBw _ _ _ _ _ _ _ hw11).mono ?_); rintro e wa10 ⟨rfl, hb⟩; have hBw := zab hBw hb; have hw10 := hw10.below hb; have hw11 := hw11.below hb; refine hK.out _ _ (Cs.below hHeld hb) (fun hHeld => ?_); clear hK K hb
 try simp only [sb]
 refine tk 10 ?_
 try simp only [sb]
 refine tk 11 ?_
 try simp only [sb]
 refine tk 12 ?_
 try simp only [sb]
 refine tk 13 ?_
 try simp only [sb]
 refine tk 14 ?_
 try simp only [sb]
 refine tk 15 ?_
 try simp only [sb]
 refine rc 16 (fun K hK => ?_)
 go_simp
 go_at_call 52; (with_reducible refine (C4.out _ hBw).mono ?_); rintro e wa11 ⟨b12, B12, m12, d12, E12, u12, v12, rfl, hw12, hb⟩; have hBw := zab hBw hb; have hw10 := hw10.below hb; have hw11 := hw11.below hb; refine hK.out _ _ (Cs.below hHeld hb) (fun hHeld => ?_); clear hK K hb
 try simp only [sb]
 refine rc 17 (fun K hK => ?_)
 go_simp
 go_at_call 22; (with_reducible refine (C5.out _ hBw _ _ _ _ _ _ _ hw12).mono ?_); rintro e wa12 ⟨b13, B13, m13, d13, E13, u13, v13, rfl, hw13, hb⟩; have hBw := zab hBw hb; have hw10 := hw10.below hb; have hw11 := hw11.below hb; have hw12 := hw12.below hb; refine hK.out _ _ (Cs.below hHeld hb) (fun hHeld => ?_); clear hK K hb
 try simp only [sb]
 refine rc 18 (fun K hK => ?_)
 go_simp
 go_at_call 33; (with_reducible refine (C6.out _ hBw _ _ _ _ _ _ _ hw13).mono ?_); rintro e wa13 ⟨rfl, hb⟩; have hBw := zab hBw hb; have hw10 := hw10.below hb; have hw11 := hw11.below hb; have hw12 := hw12.below hb; have hw13 := hw13.below hb; refine hK.out _ _ (Cs.below hHeld hb) (fun hHeld => ?_); clear hK K hb
 try simp only [sb]
 refine tk 19 ?_
 try simp only [sb]
 refine tk 20 ?_
 try simp only [sb]
 refine tk 21 ?_
 try simp only [sb]
 refine tk 22 ?_
 try simp only [sb]
 refine tk 24 ?_
 try simp only [sb]
 refine rc 23 (fun K hK => ?_)
 go_simp
 go_at_call 33; (with_reducible refine (C7.out _ hBw).mono ?_); rintro e wa14 ⟨rfl, hb⟩; have hBw := zab hBw hb; have hw10 := hw10.below hb; have hw11 := hw11.below hb; have hw12 := hw12.below hb; have hw13 := hw13.below hb; refine hK.out _ _ (Cs.below hHeld hb) (fun hHeld => ?_); clear hK K hb
 try simp only [sb]
 refine rc 25 (fun K hK => ?_)
 go_simp
 go_at_call 49; (with_reducible refine (C8.out _ hBw).mono ?_); rintro e wa15 ⟨rfl, hb⟩; have hBw := zab hBw hb; have hw10 := hw10.below hb; have hw11 := hw11.below hb; have hw12 := hw12.below hb; have hw13 := hw13.below hb; refine hK.out _ _ (Cs.below hHeld hb) (fun hHeld => ?_); clear hK K hb
 try simp only [sb]
 refine tk 26 ?_
 try simp only [sb]
 refine tk 27 ?_
 try simp only [sb]
 refine tk 28 ?_
 try simp only [sb]
 refine tk 29 ?_
 try simp only [sb]
 refine rc 30 (fun K hK => ?_)
 go_simp
 go_at_call 53; (with_reducible refine (C9.out _ hBw).mono ?_); rintro e wa16 ⟨b14, B14, m14, d14, E14, u14, v14, rfl, hw14, hb⟩; have hBw := zab hBw hb; have hw10 := hw10.below hb; have hw11 := hw11.below hb; have hw12 := hw12.below hb; have hw13 := hw13.below hb; refine hK.out _ _ (Cs.below hHeld hb) (fun hHeld => ?_); clear hK K hb
 try simp only [sb]
 refine rc 31 (fun K hK => ?_)
 go_simp
 go_at_call 16; (with_reducible refine (C10.out _ hBw _ _ _ _ _ _ _ hw14).mono ?_); rintro e wa17 ⟨rfl, hb⟩; have hBw := zab hBw hb; have hw10 := hw10.below hb; have hw11 := hw11.below hb; have hw12 := hw12.below hb; have hw13 := hw13.below hb; have hw14 := hw14.below hb; refine hK.out _ _ (Cs.below hHeld hb) (fun hHeld => ?_); clear hK K hb
 try simp only [sb]
 refine tk 32 ?_
 try simp only [sb]
 refine tk 33 ?_
 try simp only [sb]
 refine tk 34 ?_
 try simp only [sb]
 refine tk 35 ?_
 try simp only [sb]
 refine tk 37 ?_
 try simp only [sb]
 refine tk 38 ?_
 try simp only [sb]
 refine rc 36 (fun K hK => ?_)
 go_simp
 go_at_call 53; (with_reducible refine (C11.out _ hBw).mono ?_); rintro e wa18 ⟨b15, B15, m15, d15, E15, u15, v15, rfl, hw15, hb⟩; have hBw := zab hBw hb; have hw10 := hw10.below hb; have hw11 := hw11.below hb; have hw12 := hw12.below hb; have hw13 := hw13.below hb; have hw14 := hw14.below hb; refine hK.out _ _ (Cs.below hHeld hb) (fun hHeld => ?_); clear hK K hb
 try simp only [sb]
 refine rc 39 (fun K hK => ?_)
 go_simp
 go_at_call 28; (with_reducible refine (C12.out _ hBw).mono ?_); rintro e wa19 ⟨b16, B16, m16, d16, E16, u16, v16, rfl, hw16, hb⟩; have hBw := zab hBw hb; have hw10 := hw10.below hb; have hw11 := hw11.below hb; have hw12 := hw12.below hb; have hw13 := hw13.below hb; have hw14 := hw14.below hb; have hw15 := hw15.below hb; refine hK.out _ _ (Cs.below hHeld hb) (fun hHeld => ?_); clear hK K hb
 try simp only [sb]
 refine rc 40 (fun K hK => ?_)
 go_simp
 go_at_call 40; (with_reducible refine (C13.out _ hBw _ _ _ _ _ _ _ hw16).mono ?_); rintro e wa20 ⟨b17, B17, m17, d17, E17, u17, v17, rfl, hw17, hb⟩; have hBw := zab hBw hb; have hw10 := hw10.below hb; have hw11 := hw11.below hb; have hw12 := hw12.below hb; have hw13 := hw13.below hb; have hw14 := hw14.below hb; have hw15 := hw15.below hb; have hw16 := hw16.below hb; refine hK.out _ _ (Cs.below hHeld hb) (fun hHeld => ?_); clear hK K hb
 try simp only [sb]
 refine rc 41 (fun K hK => ?_)
 go_simp
 go_at_call 33; (with_reducible refine (C14.out _ hBw _ _ _ _ _ _ _ hw15 _ _ _ _ _ _ _ hw17).mono ?_); rintro e wa21 ⟨rfl, hb⟩; have hBw := zab hBw hb; have hw10 := hw10.below hb; have hw11 := hw11.below hb; have hw12 := hw12.below hb; have hw13 := hw13.below hb; have hw14 := hw14.below hb; have hw15 := hw15.below hb; have hw16 := hw16.below hb; have hw17 := hw17.below hb; refine hK.out _ _ (Cs.below hHeld hb) (fun hHeld => ?_); clear hK K hb
 try simp only [sb]
 refine tk 42 ?_
 try simp only [sb]
 refine tk 43 ?_
 try simp only [sb]
 refine rdn ?_
 have hB := zab hB hBw
 have g1 := zaa hBw g1
 have e1 := zaa hBw e1
 have i1 := zaa hBw i1
 have HN2 := Lib.hid (HN2.out.below hBw)
 have g3 := zaa hBw g3
 have e3 := zaa hBw e3
 have i3 := zaa hBw i3
 have g8 := zaa hBw g8
 have e8 := zaa hBw e8
 have i8 := zaa hBw i8
 have g9 := zaa hBw g9
 have e9 := zaa hBw e9
 have i9 := zaa hBw i9
 have HN4 := Lib.hid (HN4.out.below hBw)
 have HN5 := Lib.hid (HN5.out.below hBw)
 have HN6 := Lib.hid (HN6.out.below hBw)
 have HN7 := Lib.hid (HN7.out.below hBw)
 have HN10 := Lib.hid hw10
 have HN11 := Lib.hid hw11
 have HN12 := Lib.hid hw12
 have HN13 := Lib.hid hw13
 have HN14 := Lib.hid hw14
 have HN15 := Lib.hid hw15
 have HN16 := Lib.hid hw16
 have HN17 := Lib.hid hw17
 clear hBw hHeld hw10 hw11 hw12 hw13 hw14 hw15 hw16 hw17 C0 C1 C2 C3 C4 C5 C6 C7 C8 C9 C10 C11 C12 C13 C14
 go_wp2
 go_ret
 exact ⟨by first | rfl | simp, hB⟩
set_option maxHeartbeats 16000000 in
theorem zgI {T : World → Prop} (hTb : ∀ w w', T w → Below w.heap.size w w' → T w') (IC : IntC T) (QC : RatC T) (s0 : Bool) (A0 : Option Addr) (n0 c0 : Nat) (l0 : List Nat) (E0 : Option Addr) (u0 v0 : Nat) (e0 : List Nat) (w : World) (h0 : zap w A0 n0 c0 l0) (k0 : zap w E0 u0 v0 e0) (d0 : (fOf s0 l0 e0).den ≠ 1) (hT : T w) :
  Calls Tryz.prog 8 #[.agg #[.bool s0, .slice A0 n0 c0, .slice E0 u0 v0]] w fun e w' => e = .returned (.bool true) ∧ Below w.heap.size w w' := by
 have HAW := Lib.hid (fun w' (hb : Below w.heap.size w w') => zbn hTb IC QC w' (hTb w w' hT hb))
 have HIC := Lib.hid IC
 have HQC := Lib.hid QC
 have HT := Lib.hid (fun w' (hb : Below w.heap.size w w') => hTb w w' hT hb)
 obtain ⟨K, hK⟩ : ∃ K, 1048576 = K := ⟨_, rfl⟩
 have hKK : K ≤ 1048576 := by omega
 have hK0 : 0 < K := by omega
 have HM0 := Lib.hid (fun w' (hb : Below w.heap.size w w') => zaL hTb IC QC s0 A0 n0 c0 l0 E0 u0 v0 e0 w' ⟨(h0.reads.below hb).more hb.size, h0.dgs, h0.fits, h0.small⟩ ⟨(k0.reads.below hb).more hb.size, k0.dgs, k0.fits, k0.small⟩ (hTb w w' hT hb))
 have S0 : SzQ 1048576 (fOf s0 l0 e0) := zbp h0 k0
 rw [hK] at S0
 obtain ⟨x, hz0⟩ : ∃ x, fOf s0 l0 e0 = x := ⟨_, rfl⟩
 rw [hz0] at HM0 S0 d0
 have HS0 := Lib.hid S0
 have hd0 := d0
 obtain ⟨c1, hc1⟩ : ∃ c, zbu ((x.floor : Int) : Rat) x = c := ⟨_, rfl⟩
 obtain ⟨c2, hc2⟩ : ∃ c, zbu x (((x.floor : Int) : Rat) + ((1 : Int) : Rat)) = c := ⟨_, rfl⟩
 obtain ⟨sg, hsg⟩ : ∃ c, sgnQ x.abs = c := ⟨_, rfl⟩
 have HC1 := Lib.hid hc1
 have HC2 := Lib.hid hc2
 have HSG := Lib.hid hsg
 have hd1 : decide (c1 ≤ 0) = true := by have := zew x; rw [hc1] at this; simpa using this
 have hd2 : decide (c2 < 0) = true := by have := zex x; rw [show ((1 : Int) : Rat) = 1 from rfl] at hc2; rw [hc2] at this; simpa using this
 have hd3 : decide (0 ≤ sg) = true := by have := zjn x; rw [hsg] at this; simpa using this
 clear hc1 hc2 hsg
 have HG : Hid (((x.ceil : Int) : Rat) = ((x.floor : Int) : Rat) + ((1 : Int) : Rat)) := by show _ = _; rw [zgS, if_neg hd0]; rfl
 clear hd0
 have Hd0 := Lib.hid d0
 clear IC QC hT h0 k0 hz0 S0 d0 hK
 go_enter Tryz.func8, Tryz.ntmps8
 have hB := Below.refl w.heap.size w
 obtain ⟨bx1, bx2, bz⟩ := zaZ w 48 #[.bool s0, .slice A0 n0 c0, .slice E0 u0 v0]
 have hB := zab hB bx1
 obtain ⟨g1, e1, i1⟩ := bx2.c3
 clear bx1 bx2 bz
 go_wp2_with fail
 generalize w.alloc (.cells #[.bool s0, .slice A0 n0 c0, .slice E0 u0 v0] 48) = W1 at *
 (with_reducible refine (HAW.out _ hB).mono ?_)
 rintro e wc2 ⟨rfl, hb⟩
 have hB := zab hB hb
 have g1 := zaa hb g1
 have e1 := zaa hb e1
 have i1 := zaa hb i1
 clear hb 
 go_wp2_with fail
 have HZ2 : Hid (SzQ (K) (x)) := HS0.out
 (with_reducible refine (HM0.out _ hB).mono ?_)
 rintro e wc3 ⟨b2, B2, m2, d2, E2, u2, v2, rfl, hw2, hb⟩
 have hB := zab hB hb
 have g1 := zaa hb g1
 have e1 := zaa hb e1
 have i1 := zaa hb i1
 have HN2 := Lib.hid hw2
 clear hb hw2
 obtain ⟨bx1, bx2, bz⟩ := zaZ wc3 31 #[.bool b2, .slice B2 m2 d2, .slice E2 u2 v2]
 have hB := zab hB bx1
 have g1 := zaa bx1 g1
 have e1 := zaa bx1 e1
 have i1 := zaa bx1 i1
 have HN2 := Lib.hid (HN2.out.below bx1)
 obtain ⟨g3, e3, i3⟩ := bx2.c3
 clear bx1 bx2 bz
 go_wp2_with fail
 generalize wc3.alloc (.cells #[.bool b2, .slice B2 m2 d2, .slice E2 u2 v2] 31) = W4 at *
 generalize wc3.heap.size = q4 at *
 have HZ4 : Hid (Sz (K) (x.floor).natAbs) := SzQ.floor HZ2.out
 have C0 := Lib.hid (fun w' (h : Below W4.heap.size W4 w') => HQC.out.floor (x) b2 B2 m2 d2 E2 u2 v2 w' (HT.out _ (zab hB h)) (HN2.out.below h) (SzQ.fit HZ2.out HN2.out (by omega)))
 have HZ5 : Hid (SzQ (K) (((x.floor : Int) : Rat))) := SzQ.whole HZ4.out (by omega)
 have C1 := Lib.hid (fun w' (h : Below W4.heap.size W4 w') b4 B4 m4 d4 (hw4 : zaq w' (x.floor) b4 B4 m4 d4) => HQC.out.whole (x.floor) b4 B4 m4 d4 w' (HT.out _ (zab hB h)) hw4 (by have := Sz.words HZ4.out hw4.words; omega))
 have HZ6 : Hid (Sz (K) (x.ceil).natAbs) := SzQ.ceil HZ2.out
 have C2 := Lib.hid (fun w' (h : Below W4.heap.size W4 w') => HQC.out.ceil (x) b2 B2 m2 d2 E2 u2 v2 w' (HT.out _ (zab hB h)) (HN2.out.below h) (SzQ.fit HZ2.out HN2.out (by omega)))
 have HZ7 : Hid (SzQ (K) (((x.ceil : Int) : Rat))) := SzQ.whole HZ6.out (by omega)
 have C3 := Lib.hid (fun w' (h : Below W4.heap.size W4 w') b6 B6 m6 d6 (hw6 : zaq w' (x.ceil) b6 B6 m6 d6) => HQC.out.whole (x.ceil) b6 B6 m6 d6 w' (HT.out _ (zab hB h)) hw6 (by have := Sz.words HZ6.out hw6.words; omega))
 have GG := Lib.hid (fun w' (h : Below W4.heap.size W4 w') => (csc (zaa h g3) (csc (zaa h e3) (csc (zaa h i3) csn))))
 refine rgB (fun hHeld => ?_)
 refine tl 0 GG.out ?_
 try simp only [sb]
 refine tl 3 GG.out ?_
 try simp only [sb]
 refine zaw (L := #[true, true, true, true, true, true, true, true, true, true])
  (J := fun a0 l a w' => ∃ (fl1 fl2 fl4 fl5 fl6 fl7 fl8 fl9 b4 : Bool) (B4 : Option Addr) (m4 d4 : Nat) (b5 : Bool) (B5 : Option Addr) (m5 d5 : Nat) (E5 : Option Addr) (u5 v5 : Nat) (b6 : Bool) (B6 : Option Addr) (m6 d6 : Nat) (b7 : Bool) (B7 : Option Addr) (m7 d7 : Nat) (E7 : Option Addr) (u7 v7 ad6 ad7 : Nat), l = #[true, fl1, fl2, true, fl4, fl5, fl6, fl7, fl8, fl9] ∧ zaT [12, 13, 15, 16, 4, 5] a0 a ∧ Hid (Below W4.heap.size W4 w') ∧
    Hid (Gd fl1 (a.tmps.getD 12 undef = .agg #[.bool b4, .slice B4 m4 d4] ∧ zaq w' (x.floor) b4 B4 m4 d4)) ∧
    Hid (Gd fl2 (a.tmps.getD 13 undef = .agg #[.bool b5, .slice B5 m5 d5, .slice E5 u5 v5] ∧ zah w' (((x.floor : Int) : Rat)) b5 B5 m5 d5 E5 u5 v5)) ∧
    Hid (Gd fl4 (a.tmps.getD 15 undef = .agg #[.bool b6, .slice B6 m6 d6] ∧ zaq w' (x.ceil) b6 B6 m6 d6)) ∧
    Hid (Gd fl5 (a.tmps.getD 16 undef = .agg #[.bool b7, .slice B7 m7 d7, .slice E7 u7 v7] ∧ zah w' (((x.ceil : Int) : Rat)) b7 B7 m7 d7 E7 u7 v7)) ∧
    Hid (Gd fl6 (a.tmps.getD 4 undef = .pointer (some ⟨ad6, 0, none⟩) ∧ W4.heap.size ≤ ad6 ∧ Blk w' ad6 31 (bif fl8 then #[.bool b5, .slice B5 m5 d5, .slice E5 u5 v5] else #[.bool false, .slice none 0 0, .slice none 0 0]))) ∧
    Hid (Gd fl7 (a.tmps.getD 5 undef = .pointer (some ⟨ad7, 0, none⟩) ∧ W4.heap.size ≤ ad7 ∧ Blk w' ad7 31 (bif fl9 then #[.bool b7, .slice B7 m7 d7, .slice E7 u7 v7] else #[.bool false, .slice none 0 0, .slice none 0 0]))) ∧
    Hid (Gd fl6 (Gd fl7 (ad6 ≠ ad7))) ∧
    Hid (Gd fl2 (fl1 = true)) ∧
    Hid (Gd fl4 (fl2 = true)) ∧
    Hid (Gd fl5 (fl4 = true)) ∧
    Hid (Gd fl8 (fl2 = true)) ∧
    Hid (Gd fl8 (fl5 = true)) ∧
    Hid (Gd fl8 (fl6 = true)) ∧
    Hid (Gd fl9 (fl5 = true)) ∧
    Hid (Gd fl9 (fl7 = true)) ∧
    Hid (Gd fl9 (fl8 = true)))
  (by rfl) ?_ ?_ ?_
 ·exact ⟨false, false, false, false, false, false, false, false, false, none, 0, 0, false, none, 0, 0, none, 0, 0, false, none, 0, 0, false, none, 0, 0, none, 0, 0, 0, 0, by kernel_rfl, zaT.refl _ _, hHeld, Gd.no, Gd.no, Gd.no, Gd.no, Gd.no, Gd.no, Gd.no, Gd.no, Gd.no, Gd.no, Gd.no, Gd.no, Gd.no, Gd.no, Gd.no, Gd.no⟩
 ·intro OPS Ac0 Q0 hO hAs hA
  have RB11 : Ac0.tmps.getD 11 undef = .agg #[.bool b2, .slice B2 m2 d2, .slice E2 u2 v2] := (hA 11 undef).trans (by kernel_rfl)
  have RB14 : Ac0.tmps.getD 14 undef = .agg #[.bool b2, .slice B2 m2 d2, .slice E2 u2 v2] := (hA 14 undef).trans (by kernel_rfl)
  have hsz : Ac0.tmps.size = 62 := hAs.trans (by kernel_rfl)
  clear hAs hA
  refine ⟨?_, ?_⟩
  ·rintro l a w' ⟨fl1, fl2, fl4, fl5, fl6, fl7, fl8, fl9, b4, B4, m4, d4, b5, B5, m5, d5, E5, u5, v5, b6, B6, m6, d6, b7, B7, m7, d7, E7, u7, v7, ad6, ad7, rfl, -⟩ hr
   obtain rfl : fl1 = true := als 1 hr hO
   obtain rfl : fl2 = true := als 2 hr hO
   obtain rfl : fl4 = true := als 4 hr hO
   obtain rfl : fl5 = true := als 5 hr hO
   obtain rfl : fl6 = true := als 6 hr hO
   obtain rfl : fl7 = true := als 7 hr hO
   obtain rfl : fl8 = true := als 8 hr hO
   obtain rfl : fl9 = true := als 9 hr hO
   rfl
  ·rintro l a w' i ⟨fl1, fl2, fl4, fl5, fl6, fl7, fl8, fl9, b4, B4, m4, d4, b5, B5, m5, d5, E5, u5, v5, b6, B6, m6, d6, b7, B7, m7, d7, E7, u7, v7, ad6, ad7, rfl, HKp, hBi, qf1, qf2, qf4, qf5, qf6, qf7, qn6_7, qd2_1, qd4_2, qd5_4, qd8_2, qd8_5, qd8_6, qd9_5, qd9_7, qd9_8⟩ hne hi
   have hlt : i < 10 := by have := zaJ hi; rw [hO] at this; exact this
   rcases (show i = 0 ∨ i = 1 ∨ i = 2 ∨ i = 3 ∨ i = 4 ∨ i = 5 ∨ i = 6 ∨ i = 7 ∨ i = 8 ∨ i = 9 by omega) with rfl | rfl | rfl | rfl | rfl | rfl | rfl | rfl | rfl | rfl
   ·cases (zad hi : true = false)
   ·obtain rfl : fl1 = false := zad hi
    obtain rfl : fl2 = false := Gd.off qd2_1.out
    obtain rfl : fl4 = false := Gd.off qd4_2.out
    obtain rfl : fl5 = false := Gd.off qd5_4.out
    obtain rfl : fl8 = false := Gd.off qd8_2.out
    obtain rfl : fl9 = false := Gd.off qd9_5.out
    have rd11 := HKp.get 11 (by decide) RB11
    refine wog hO (fun K' hK => ?_)
    go_simp
    refine (C0.out w' hBi.out).mono ?_
    rintro e w2 ⟨nb4, nB4, nm4, nd4, rfl, nhw4, hb⟩
    exact hK.out _ _ ⟨zab hBi.out hb, true, false, false, false, fl6, fl7, false, false, nb4, nB4, nm4, nd4, b5, B5, m5, d5, E5, u5, v5, b6, B6, m6, d6, b7, B7, m7, d7, E7, u7, v7, ad6, ad7, by rfl, HKp.put (by decide) _, zab hBi.out hb, Gd.yes ⟨zal (HKp.lt (by rw [hsz]; decide)) _, nhw4⟩, Gd.no, Gd.no, Gd.no, kq qf6.out fun h => ⟨h.1, zac hb h.2⟩, kq qf7.out fun h => ⟨h.1, zac hb h.2⟩, qn6_7, Gd.no, Gd.no, Gd.no, Gd.no, Gd.no, Gd.no, Gd.no, Gd.no, Gd.no⟩
   ·obtain rfl : fl2 = false := zad hi
    obtain rfl : fl1 = true := rdp 1 0 hi hO
    obtain rfl : fl4 = false := Gd.off qd4_2.out
    obtain rfl : fl5 = false := Gd.off qd5_4.out
    obtain rfl : fl8 = false := Gd.off qd8_2.out
    obtain rfl : fl9 = false := Gd.off qd9_5.out
    have rd12 := qf1.out.get.1
    have hw4 := qf1.out.get.2
    refine wog hO (fun K' hK => ?_)
    go_simp
    refine (C1.out w' hBi.out _ _ _ _ hw4).mono ?_
    rintro e w2 ⟨nb5, nB5, nm5, nd5, nE5, nu5, nv5, rfl, nhw5, hb⟩
    exact hK.out _ _ ⟨zab hBi.out hb, true, true, false, false, fl6, fl7, false, false, b4, B4, m4, d4, nb5, nB5, nm5, nd5, nE5, nu5, nv5, b6, B6, m6, d6, b7, B7, m7, d7, E7, u7, v7, ad6, ad7, by rfl, HKp.put (by decide) _, zab hBi.out hb, kq qf1.out fun h => (h).below hb, Gd.yes ⟨zal (HKp.lt (by rw [hsz]; decide)) _, nhw5⟩, Gd.no, Gd.no, kq qf6.out fun h => ⟨h.1, zac hb h.2⟩, kq qf7.out fun h => ⟨h.1, zac hb h.2⟩, qn6_7, fun _ => rfl, Gd.no, Gd.no, Gd.no, Gd.no, Gd.no, Gd.no, Gd.no, Gd.no⟩
   ·cases (zad hi : true = false)
   ·obtain rfl : fl4 = false := zad hi
    obtain rfl : fl2 = true := rdp 2 1 hi hO
    obtain rfl : fl1 = true := qd2_1.out.get
    obtain rfl : fl5 = false := Gd.off qd5_4.out
    obtain rfl : fl8 = false := Gd.off qd8_5.out
    obtain rfl : fl9 = false := Gd.off qd9_5.out
    have rd14 := HKp.get 14 (by decide) RB14
    refine wog hO (fun K' hK => ?_)
    go_simp
    refine (C2.out w' hBi.out).mono ?_
    rintro e w2 ⟨nb6, nB6, nm6, nd6, rfl, nhw6, hb⟩
    exact hK.out _ _ ⟨zab hBi.out hb, true, true, true, false, fl6, fl7, false, false, b4, B4, m4, d4, b5, B5, m5, d5, E5, u5, v5, nb6, nB6, nm6, nd6, b7, B7, m7, d7, E7, u7, v7, ad6, ad7, by rfl, HKp.put (by decide) _, zab hBi.out hb, kq qf1.out fun h => (h).below hb, kq qf2.out fun h => (h).below hb, Gd.yes ⟨zal (HKp.lt (by rw [hsz]; decide)) _, nhw6⟩, Gd.no, kq qf6.out fun h => ⟨h.1, zac hb h.2⟩, kq qf7.out fun h => ⟨h.1, zac hb h.2⟩, qn6_7, fun _ => rfl, fun _ => rfl, Gd.no, Gd.no, Gd.no, Gd.no, Gd.no, Gd.no, Gd.no⟩
   ·obtain rfl : fl5 = false := zad hi
    obtain rfl : fl4 = true := rdp 4 0 hi hO
    obtain rfl : fl2 = true := qd4_2.out.get
    obtain rfl : fl1 = true := qd2_1.out.get
    obtain rfl : fl8 = false := Gd.off qd8_5.out
    obtain rfl : fl9 = false := Gd.off qd9_5.out
    have rd15 := qf4.out.get.1
    have hw6 := qf4.out.get.2
    refine wog hO (fun K' hK => ?_)
    go_simp
    refine (C3.out w' hBi.out _ _ _ _ hw6).mono ?_
    rintro e w2 ⟨nb7, nB7, nm7, nd7, nE7, nu7, nv7, rfl, nhw7, hb⟩
    exact hK.out _ _ ⟨zab hBi.out hb, true, true, true, true, fl6, fl7, false, false, b4, B4, m4, d4, b5, B5, m5, d5, E5, u5, v5, b6, B6, m6, d6, nb7, nB7, nm7, nd7, nE7, nu7, nv7, ad6, ad7, by rfl, HKp.put (by decide) _, zab hBi.out hb, kq qf1.out fun h => (h).below hb, kq qf2.out fun h => (h).below hb, kq qf4.out fun h => (h).below hb, Gd.yes ⟨zal (HKp.lt (by rw [hsz]; decide)) _, nhw7⟩, kq qf6.out fun h => ⟨h.1, zac hb h.2⟩, kq qf7.out fun h => ⟨h.1, zac hb h.2⟩, qn6_7, fun _ => rfl, fun _ => rfl, fun _ => rfl, Gd.no, Gd.no, Gd.no, Gd.no, Gd.no, Gd.no⟩
   ·obtain rfl : fl6 = false := zad hi
    obtain rfl : fl8 = false := Gd.off qd8_6.out
    obtain rfl : fl9 = false := Gd.off qd9_8.out
    refine wog hO (fun K' hK => ?_)
    go_simp
    have hb := zau w' (.cells #[.bool false, .slice none 0 0, .slice none 0 0] 31)
    exact hK.out _ _ ⟨zab hBi.out hb, fl1, fl2, fl4, fl5, true, fl7, false, false, b4, B4, m4, d4, b5, B5, m5, d5, E5, u5, v5, b6, B6, m6, d6, b7, B7, m7, d7, E7, u7, v7, w'.heap.size, ad7, by rfl, HKp.put (by decide) _, zab hBi.out hb, kq qf1.out fun h => (h).below hb, kq qf2.out fun h => (h).below hb, kq qf4.out fun h => (h).below hb, kq qf5.out fun h => (h).below hb, Gd.yes ⟨zal (HKp.lt (by rw [hsz]; decide)) _, hBi.out.size, Blk.new w' _ _⟩, kq qf7.out fun h => ⟨h.1, zac hb h.2⟩, Gd.yes (qf7.out.mono fun h => by have := Blk.lt h.2.2; omega), qd2_1, qd4_2, qd5_4, Gd.no, Gd.no, Gd.no, Gd.no, Gd.no, Gd.no⟩
   ·obtain rfl : fl7 = false := zad hi
    obtain rfl : fl9 = false := Gd.off qd9_7.out
    refine wog hO (fun K' hK => ?_)
    go_simp
    have hb := zau w' (.cells #[.bool false, .slice none 0 0, .slice none 0 0] 31)
    exact hK.out _ _ ⟨zab hBi.out hb, fl1, fl2, fl4, fl5, fl6, true, fl8, false, b4, B4, m4, d4, b5, B5, m5, d5, E5, u5, v5, b6, B6, m6, d6, b7, B7, m7, d7, E7, u7, v7, ad6, w'.heap.size, by rfl, HKp.put (by decide) _, zab hBi.out hb, kq qf1.out fun h => (h).below hb, kq qf2.out fun h => (h).below hb, kq qf4.out fun h => (h).below hb, kq qf5.out fun h => (h).below hb, kq qf6.out fun h => ⟨h.1, zac hb h.2⟩, Gd.yes ⟨zal (HKp.lt (by rw [hsz]; decide)) _, hBi.out.size, Blk.new w' _ _⟩, qf6.out.mono fun h => Gd.yes (by have := Blk.lt h.2.2; omega), qd2_1, qd4_2, qd5_4, qd8_2, qd8_5, qd8_6, Gd.no, Gd.no, Gd.no⟩
   ·obtain rfl : fl8 = false := zad hi
    obtain rfl : fl1 = true := rdp 1 4 hi hO
    obtain rfl : fl2 = true := rdp 2 1 hi hO
    obtain rfl : fl5 = true := rdp 5 2 hi hO
    obtain rfl : fl6 = true := rdp 6 0 hi hO
    obtain rfl : fl7 = true := rdp 7 10 hi hO
    obtain rfl : fl4 = true := qd5_4.out.get
    obtain rfl : fl9 = false := Gd.off qd9_8.out
    have rd4 := qf6.out.get.1
    have rd13 := qf2.out.get.1
    obtain ⟨_, hg, hk⟩ := qf6.out.get
    have hk : Blk w' ad6 31 #[.bool false, .slice none 0 0, .slice none 0 0] := hk
    obtain ⟨sc0, sf0, sc1, sf1, sc2, sf2⟩ := st3 hk (.bool b5) (.slice B5 m5 d5)
    have hj2 := sn3 hk (.bool b5) (.slice B5 m5 d5) (.slice E5 u5 v5)
    have hBn := bl3 (.bool b5) (.slice B5 m5 d5) (.slice E5 u5 v5) hg hBi.out
    refine wog hO (fun K' hK => ?_)
    go_simp
    exact hK.out _ _ ⟨hBn, true, true, true, true, true, true, true, false, b4, B4, m4, d4, b5, B5, m5, d5, E5, u5, v5, b6, B6, m6, d6, b7, B7, m7, d7, E7, u7, v7, ad6, ad7, by rfl, HKp, hBn, qf1.out.mono fun h => ⟨h.1, zaS (h.2) hk zaK (zaI _ _ _ _ _)⟩, qf2.out.mono fun h => ⟨h.1, zar (h.2) hk zaK (zaI _ _ _ _ _)⟩, qf4.out.mono fun h => ⟨h.1, zaS (h.2) hk zaK (zaI _ _ _ _ _)⟩, qf5.out.mono fun h => ⟨h.1, zar (h.2) hk zaK (zaI _ _ _ _ _)⟩, qf6.out.mono fun h => ⟨h.1, h.2.1, hj2⟩, fun hf9 => (fun h => ⟨h.1, h.2.1, Blk.far (p := ⟨ad6, 2, none⟩) (Blk.far (p := ⟨ad6, 1, none⟩) (Blk.far (p := ⟨ad6, 0, none⟩) (h.2.2) (Ne.symm (qn6_7.out rfl hf9)) (.bool b5)) (Ne.symm (qn6_7.out rfl hf9)) (.slice B5 m5 d5)) (Ne.symm (qn6_7.out rfl hf9)) (.slice E5 u5 v5)⟩) (qf7.out hf9), qn6_7, fun _ => rfl, fun _ => rfl, fun _ => rfl, fun _ => rfl, fun _ => rfl, fun _ => rfl, Gd.no, Gd.no, Gd.no⟩
   ·obtain rfl : fl9 = false := zad hi
    obtain rfl : fl1 = true := rdp 1 4 hi hO
    obtain rfl : fl2 = true := rdp 2 5 hi hO
    obtain rfl : fl4 = true := rdp 4 7 hi hO
    obtain rfl : fl5 = true := rdp 5 1 hi hO
    obtain rfl : fl6 = true := rdp 6 9 hi hO
    obtain rfl : fl7 = true := rdp 7 0 hi hO
    obtain rfl : fl8 = true := rdp 8 2 hi hO
    have rd5 := qf7.out.get.1
    have rd16 := qf5.out.get.1
    obtain ⟨_, hg, hk⟩ := qf7.out.get
    have hk : Blk w' ad7 31 #[.bool false, .slice none 0 0, .slice none 0 0] := hk
    obtain ⟨sc0, sf0, sc1, sf1, sc2, sf2⟩ := st3 hk (.bool b7) (.slice B7 m7 d7)
    have hj2 := sn3 hk (.bool b7) (.slice B7 m7 d7) (.slice E7 u7 v7)
    have hBn := bl3 (.bool b7) (.slice B7 m7 d7) (.slice E7 u7 v7) hg hBi.out
    refine wog hO (fun K' hK => ?_)
    go_simp
    exact hK.out _ _ ⟨hBn, true, true, true, true, true, true, true, true, b4, B4, m4, d4, b5, B5, m5, d5, E5, u5, v5, b6, B6, m6, d6, b7, B7, m7, d7, E7, u7, v7, ad6, ad7, by rfl, HKp, hBn, qf1.out.mono fun h => ⟨h.1, zaS (h.2) hk zaK (zaI _ _ _ _ _)⟩, qf2.out.mono fun h => ⟨h.1, zar (h.2) hk zaK (zaI _ _ _ _ _)⟩, qf4.out.mono fun h => ⟨h.1, zaS (h.2) hk zaK (zaI _ _ _ _ _)⟩, qf5.out.mono fun h => ⟨h.1, zar (h.2) hk zaK (zaI _ _ _ _ _)⟩, fun hf9 => (fun h => ⟨h.1, h.2.1, Blk.far (p := ⟨ad7, 2, none⟩) (Blk.far (p := ⟨ad7, 1, none⟩) (Blk.far (p := ⟨ad7, 0, none⟩) (h.2.2) (qn6_7.out hf9 rfl) (.bool b7)) (qn6_7.out hf9 rfl) (.slice B7 m7 d7)) (qn6_7.out hf9 rfl) (.slice E7 u7 v7)⟩) (qf6.out hf9), qf7.out.mono fun h => ⟨h.1, h.2.1, hj2⟩, qn6_7, fun _ => rfl, fun _ => rfl, fun _ => rfl, fun _ => rfl, fun _ => rfl, fun _ => rfl, fun _ => rfl, fun _ => rfl, fun _ => rfl⟩
 rintro a wm5 ⟨fl1, fl2, fl4, fl5, fl6, fl7, fl8, fl9, b4, B4, m4, d4, b5, B5, m5, d5, E5, u5, v5, b6, B6, m6, d6, b7, B7, m7, d7, E7, u7, v7, ad6, ad7, hl, HKp, hBi, qf1, qf2, qf4, qf5, qf6, qf7, qn6_7, qd2_1, qd4_2, qd5_4, qd8_2, qd8_5, qd8_6, qd9_5, qd9_7, qd9_8⟩
 have xx1 : fl1 = true := gdl 1 hl
 subst xx1
 have xx2 : fl2 = true := gdl 2 hl
 subst xx2
 have xx4 : fl4 = true := gdl 4 hl
 subst xx4
 have xx5 : fl5 = true := gdl 5 hl
 subst xx5
 have xx6 : fl6 = true := gdl 6 hl
 subst xx6
 have xx7 : fl7 = true := gdl 7 hl
 subst xx7
 have xx8 : fl8 = true := gdl 8 hl
 subst xx8
 have xx9 : fl9 = true := gdl 9 hl
 subst xx9
 obtain ⟨rv1, hw4⟩ := qf1.out.get
 obtain ⟨rv2, hw5⟩ := qf2.out.get
 obtain ⟨rv4, hw6⟩ := qf4.out.get
 obtain ⟨rv5, hw7⟩ := qf5.out.get
 obtain ⟨rv6, hg6, hk6⟩ := qf6.out.get
 obtain ⟨rv7, hg7, hk7⟩ := qf7.out.get
 obtain rfl := HKp.eq [(12, .agg #[.bool b4, .slice B4 m4 d4]), (13, .agg #[.bool b5, .slice B5 m5 d5, .slice E5 u5 v5]), (15, .agg #[.bool b6, .slice B6 m6 d6]), (16, .agg #[.bool b7, .slice B7 m7 d7, .slice E7 u7 v7]), (4, .pointer (some ⟨ad6, 0, none⟩)), (5, .pointer (some ⟨ad7, 0, none⟩))] rfl (by
  intro p hp
  simp only [List.mem_cons, List.not_mem_nil, or_false] at hp
  rcases hp with rfl | rfl | rfl | rfl | rfl | rfl
  ·exact rv1
  ·exact rv2
  ·exact rv4
  ·exact rv5
  ·exact rv6
  ·exact rv7)
 have hBv := hBi.out
 clear hl hBi HKp qf1 qf2 qf4 qf5 qf6 qf7 qn6_7 qd2_1 qd4_2 qd5_4 qd8_2 qd8_5 qd8_6 qd9_5 qd9_7 qd9_8 rv1 rv2 rv4 rv5 rv6 rv7
 have hk6 : Blk wm5 ad6 31 #[.bool b5, .slice B5 m5 d5, .slice E5 u5 v5] := hk6
 have hk7 : Blk wm5 ad7 31 #[.bool b7, .slice B7 m7 d7, .slice E7 u7 v7] := hk7
 rw [show due #[true, true, true, true, true, true, true, true, true, true] = 0 from rfl]
 simp only [zaR, List.foldl, Act.put, List.setIfInBounds_toArray, List.set_cons_zero, List.set_cons_succ]
 refine wpAnyH_done (by kernel_rfl) ?_ _
 refine NoPanic.normal ?_
 have hB := zab hB hBv
 have g1 := zaa hBv g1
 have e1 := zaa hBv e1
 have i1 := zaa hBv i1
 have HN2 := Lib.hid (HN2.out.below hBv)
 have g3 := zaa hBv g3
 have e3 := zaa hBv e3
 have i3 := zaa hBv i3
 obtain ⟨ad6_8, hga⟩ : ∃ x, x = ad6 := ⟨_, rfl⟩
 subst hga
 obtain ⟨g8, e8, i8⟩ := hk6.c3
 obtain ⟨ad7_9, hga⟩ : ∃ x, x = ad7 := ⟨_, rfl⟩
 subst hga
 obtain ⟨g9, e9, i9⟩ := hk7.c3
 have HN4 := Lib.hid hw4
 have HN5 := Lib.hid hw5
 have HN6 := Lib.hid hw6
 have HN7 := Lib.hid hw7
 clear hBv hk6 hg6 hk7 hg7 hw4 hw5 hw6 hw7 GG
 clear C0 C1 C2 C3
 go_wp2_with fail
 (with_reducible refine (zai (decide_eq_false Hd0.out) (HQC.out.isInt (x) b2 B2 m2 d2 E2 u2 v2 _ (HT.out _ hB) HN2.out (SzQ.fit HZ2.out HN2.out (by omega)))).mono ?_)
 rintro e wc6 ⟨rfl, hb⟩
 have hB := zab hB hb
 have g1 := zaa hb g1
 have e1 := zaa hb e1
 have i1 := zaa hb i1
 have HN2 := Lib.hid (HN2.out.below hb)
 have g3 := zaa hb g3
 have e3 := zaa hb e3
 have i3 := zaa hb i3
 have g8 := zaa hb g8
 have e8 := zaa hb e8
 have i8 := zaa hb i8
 have g9 := zaa hb g9
 have e9 := zaa hb e9
 have i9 := zaa hb i9
 have HN4 := Lib.hid (HN4.out.below hb)
 have HN5 := Lib.hid (HN5.out.below hb)
 have HN6 := Lib.hid (HN6.out.below hb)
 have HN7 := Lib.hid (HN7.out.below hb)
 clear hb 
 go_wp2_with fail
 have C0 := Lib.hid (fun w' (h : Below wc6.heap.size wc6 w') => zaO (v := c1) (HC1.out) (HQC.out.cmp (((x.floor : Int) : Rat)) (x) b5 b2 B5 B2 m5 m2 d5 d2 E5 E2 u5 u2 v5 v2 w' (HT.out _ (zab hB h)) (HN5.out.below h) (HN2.out.below h) (SzQ.fit HZ5.out HN5.out (by omega)) (SzQ.fit HZ2.out HN2.out (by omega))))
 have HZ10 : Hid (SzQ (1) ((((1) : Int) : Rat))) := SzQ.whole (K := 1) (by show ((1) : Int).natAbs < _; decide) (by decide)
 have C1 := Lib.hid (fun w' (h : Below wc6.heap.size wc6 w') => HQC.out.int (1) w' (HT.out _ (zab hB h)) (by decide) (by decide))
 have HZ11 : Hid (SzQ (K + 1 + 1) ((((x.floor : Int) : Rat)) + ((((1) : Int) : Rat)))) := SzQ.add HZ5.out HZ10.out
 have C2 := Lib.hid (fun w' (h : Below wc6.heap.size wc6 w') b10 B10 m10 d10 E10 u10 v10 (hw10 : zah w' ((((1) : Int) : Rat)) b10 B10 m10 d10 E10 u10 v10) => HQC.out.add (((x.floor : Int) : Rat)) ((((1) : Int) : Rat)) b5 b10 B5 B10 m5 m10 d5 d10 E5 E10 u5 u10 v5 v10 w' (HT.out _ (zab hB h)) (HN5.out.below h) hw10 (SzQ.fit HZ5.out HN5.out (by omega)) (SzQ.fit HZ10.out hw10 (by omega)))
 have C3 := Lib.hid (fun w' (h : Below wc6.heap.size wc6 w') b11 B11 m11 d11 E11 u11 v11 (hw11 : zah w' ((((x.floor : Int) : Rat)) + ((((1) : Int) : Rat))) b11 B11 m11 d11 E11 u11 v11) => zaO (v := c2) (HC2.out) (HQC.out.cmp (x) ((((x.floor : Int) : Rat)) + ((((1) : Int) : Rat))) b2 b11 B2 B11 m2 m11 d2 d11 E2 E11 u2 u11 v2 v11 w' (HT.out _ (zab hB h)) (HN2.out.below h) hw11 (SzQ.fit HZ2.out HN2.out (by omega)) (SzQ.fit HZ11.out hw11 (by omega))))
 have HZ12 : Hid (SzQ (1) ((((1) : Int) : Rat))) := SzQ.whole (K := 1) (by show ((1) : Int).natAbs < _; decide) (by decide)
 have C4 := Lib.hid (fun w' (h : Below wc6.heap.size wc6 w') => HQC.out.int (1) w' (HT.out _ (zab hB h)) (by decide) (by decide))
 have HZ13 : Hid (SzQ (K + 1 + 1) ((((x.floor : Int) : Rat)) + ((((1) : Int) : Rat)))) := SzQ.add HZ5.out HZ12.out
 have C5 := Lib.hid (fun w' (h : Below wc6.heap.size wc6 w') b12 B12 m12 d12 E12 u12 v12 (hw12 : zah w' ((((1) : Int) : Rat)) b12 B12 m12 d12 E12 u12 v12) => HQC.out.add (((x.floor : Int) : Rat)) ((((1) : Int) : Rat)) b5 b12 B5 B12 m5 m12 d5 d12 E5 E12 u5 u12 v5 v12 w' (HT.out _ (zab hB h)) (HN5.out.below h) hw12 (SzQ.fit HZ5.out HN5.out (by omega)) (SzQ.fit HZ12.out hw12 (by omega)))
 have C6 := Lib.hid (fun w' (h : Below wc6.heap.size wc6 w') b13 B13 m13 d13 E13 u13 v13 (hw13 : zah w' ((((x.floor : Int) : Rat)) + ((((1) : Int) : Rat))) b13 B13 m13 d13 E13 u13 v13) => zai (decide_eq_true HG.out) (HQC.out.same (((x.ceil : Int) : Rat)) ((((x.floor : Int) : Rat)) + ((((1) : Int) : Rat))) b7 b13 B7 B13 m7 m13 d7 d13 E7 E13 u7 u13 v7 v13 w' (HT.out _ (zab hB h)) (HN7.out.below h) hw13 (SzQ.fit HZ7.out HN7.out (by omega)) (SzQ.fit HZ13.out hw13 (by omega))))
 have C7 := Lib.hid (fun w' (h : Below wc6.heap.size wc6 w') => zai (decide_eq_false (fun h9 => Hd0.out ((zdL x).1 h9))) (HQC.out.same (((x.floor : Int) : Rat)) (x) b5 b2 B5 B2 m5 m2 d5 d2 E5 E2 u5 u2 v5 v2 w' (HT.out _ (zab hB h)) (HN5.out.below h) (HN2.out.below h) (SzQ.fit HZ5.out HN5.out (by omega)) (SzQ.fit HZ2.out HN2.out (by omega))))
 have C8 := Lib.hid (fun w' (h : Below wc6.heap.size wc6 w') => zai (decide_eq_false Hd0.out) (HQC.out.isInt (x) b2 B2 m2 d2 E2 u2 v2 w' (HT.out _ (zab hB h)) (HN2.out.below h) (SzQ.fit HZ2.out HN2.out (by omega))))
 have HZ14 : Hid (SzQ (K) (x.abs)) := SzQ.abs HZ2.out
 have C9 := Lib.hid (fun w' (h : Below wc6.heap.size wc6 w') => HQC.out.abs (x) b2 B2 m2 d2 E2 u2 v2 w' (HT.out _ (zab hB h)) (HN2.out.below h) (SzQ.fit HZ2.out HN2.out (by omega)))
 have C10 := Lib.hid (fun w' (h : Below wc6.heap.size wc6 w') b14 B14 m14 d14 E14 u14 v14 (hw14 : zah w' (x.abs) b14 B14 m14 d14 E14 u14 v14) => zaO (v := sg) (HSG.out) (HQC.out.sign (x.abs) b14 B14 m14 d14 E14 u14 v14 w' (HT.out _ (zab hB h)) hw14 (SzQ.fit HZ14.out hw14 (by omega))))
 have HZ15 : Hid (SzQ (K) (x.abs)) := SzQ.abs HZ2.out
 have C11 := Lib.hid (fun w' (h : Below wc6.heap.size wc6 w') => HQC.out.abs (x) b2 B2 m2 d2 E2 u2 v2 w' (HT.out _ (zab hB h)) (HN2.out.below h) (SzQ.fit HZ2.out HN2.out (by omega)))
 have HZ16 : Hid (SzQ (K) ((-x))) := SzQ.neg HZ2.out
 have C12 := Lib.hid (fun w' (h : Below wc6.heap.size wc6 w') => HQC.out.neg (x) b2 B2 m2 d2 E2 u2 v2 w' (HT.out _ (zab hB h)) (HN2.out.below h) (SzQ.fit HZ2.out HN2.out (by omega)))
 have HZ17 : Hid (SzQ (K + K) (zdd x (-x))) := SzQ.max HZ2.out HZ16.out
 have C13 := Lib.hid (fun w' (h : Below wc6.heap.size wc6 w') b16 B16 m16 d16 E16 u16 v16 (hw16 : zah w' ((-x)) b16 B16 m16 d16 E16 u16 v16) => HQC.out.max (x) ((-x)) b2 b16 B2 B16 m2 m16 d2 d16 E2 E16 u2 u16 v2 v16 w' (HT.out _ (zab hB h)) (HN2.out.below h) hw16 (SzQ.fit HZ2.out HN2.out (by omega)) (SzQ.fit HZ16.out hw16 (by omega)))
 have C14 := Lib.hid (fun w' (h : Below wc6.heap.size wc6 w') b15 B15 m15 d15 E15 u15 v15 (hw15 : zah w' (x.abs) b15 B15 m15 d15 E15 u15 v15) b17 B17 m17 d17 E17 u17 v17 (hw17 : zah w' (zdd x (-x)) b17 B17 m17 d17 E17 u17 v17) => zai (decide_eq_true (zjc x)) (HQC.out.same (x.abs) (zdd x (-x)) b15 b17 B15 B17 m15 m17 d15 d17 E15 E17 u15 u17 v15 v17 w' (HT.out _ (zab hB h)) hw15 hw17 (SzQ.fit HZ15.out hw15 (by omega)) (SzQ.fit HZ17.out hw17 (by omega))))
 have hBw := (Below.refl wc6.heap.size wc6).drew
 refine rg (csc g8 (csc e8 (csc i8 (csc g3 (csc e3 (csc i3 (csc g9 (csc e9 (csc i9 csn))))))))) (fun hHeld => ?_)
 refine tk 0 ?_
 try simp only [sb]
 refine tk 1 ?_
 try simp only [sb]
 refine rc 2 (fun K hK => ?_)
 go_simp
 go_at_call 32; (with_reducible refine (C0.out _ hBw).mono ?_); rintro e wa7 ⟨rfl, hb⟩; have hBw := zab hBw hb; refine hK.out _ _ (Cs.below hHeld hb) (fun hHeld => ?_); clear hK K hb
 try simp only [sb]
 refine tk 3 ?_
 try simp only [sb]
 refine tk 4 ?_
 try simp only [sb]
 refine tk 5 ?_
 try simp only [sb]
 refine tk 6 ?_
 try simp only [sb]
 refine rc 7 (fun K hK => ?_)
 go_simp
 go_at_call 52; (with_reducible refine (C1.out _ hBw).mono ?_); rintro e wa8 ⟨b10, B10, m10, d10, E10, u10, v10, rfl, hw10, hb⟩; have hBw := zab hBw hb; refine hK.out _ _ (Cs.below hHeld hb) (fun hHeld => ?_); clear hK K hb
 try simp only [sb]
 refine rc 8 (fun K hK => ?_)
 go_simp
 go_at_call 22; (with_reducible refine (C2.out _ hBw _ _ _ _ _ _ _ hw10).mono ?_); rintro e wa9 ⟨b11, B11, m11, d11, E11, u11, v11, rfl, hw11, hb⟩; have hBw := zab hBw hb; have hw10 := hw10.below hb; refine hK.out _ _ (Cs.below hHeld hb) (fun hHeld => ?_); clear hK K hb
 try simp only [sb]
 refine rc 9 (fun K hK => ?_)
 go_simp
 go_at_call 32; (with_reducible refine (C3.out _ hBw _ _ _ _ _ _ _ hw11).mono ?_); rintro e wa10 ⟨rfl, hb⟩; have hBw := zab hBw hb; have hw10 := hw10.below hb; have hw11 := hw11.below hb; refine hK.out _ _ (Cs.below hHeld hb) (fun hHeld => ?_); clear hK K hb
 try simp only [sb]
 refine tk 10 ?_
 try simp only [sb]
 refine tk 11 ?_
 try simp only [sb]
 refine tk 12 ?_
 try simp only [sb]
 refine tk 13 ?_
 try simp only [sb]
 refine tk 14 ?_
 try simp only [sb]
 refine tk 15 ?_
 try simp only [sb]
 refine rc 16 (fun K hK => ?_)
 go_simp
 go_at_call 52; (with_reducible refine (C4.out _ hBw).mono ?_); rintro e wa11 ⟨b12, B12, m12, d12, E12, u12, v12, rfl, hw12, hb⟩; have hBw := zab hBw hb; have hw10 := hw10.below hb; have hw11 := hw11.below hb; refine hK.out _ _ (Cs.below hHeld hb) (fun hHeld => ?_); clear hK K hb
 try simp only [sb]
 refine rc 17 (fun K hK => ?_)
 go_simp
 go_at_call 22; (with_reducible refine (C5.out _ hBw _ _ _ _ _ _ _ hw12).mono ?_); rintro e wa12 ⟨b13, B13, m13, d13, E13, u13, v13, rfl, hw13, hb⟩; have hBw := zab hBw hb; have hw10 := hw10.below hb; have hw11 := hw11.below hb; have hw12 := hw12.below hb; refine hK.out _ _ (Cs.below hHeld hb) (fun hHeld => ?_); clear hK K hb
 try simp only [sb]
 refine rc 18 (fun K hK => ?_)
 go_simp
 go_at_call 33; (with_reducible refine (C6.out _ hBw _ _ _ _ _ _ _ hw13).mono ?_); rintro e wa13 ⟨rfl, hb⟩; have hBw := zab hBw hb; have hw10 := hw10.below hb; have hw11 := hw11.below hb; have hw12 := hw12.below hb; have hw13 := hw13.below hb; refine hK.out _ _ (Cs.below hHeld hb) (fun hHeld => ?_); clear hK K hb
 try simp only [sb]
 refine tk 19 ?_
 try simp only [sb]
 refine tk 20 ?_
 try simp only [sb]
 refine tk 21 ?_
 try simp only [sb]
 refine tk 22 ?_
 try simp only [sb]
 refine tk 24 ?_
 try simp only [sb]
 refine rc 23 (fun K hK => ?_)
 go_simp
 go_at_call 33; (with_reducible refine (C7.out _ hBw).mono ?_); rintro e wa14 ⟨rfl, hb⟩; have hBw := zab hBw hb; have hw10 := hw10.below hb; have hw11 := hw11.below hb; have hw12 := hw12.below hb; have hw13 := hw13.below hb; refine hK.out _ _ (Cs.below hHeld hb) (fun hHeld => ?_); clear hK K hb
 try simp only [sb]
 refine rc 25 (fun K hK => ?_)
 go_simp
 go_at_call 49; (with_reducible refine (C8.out _ hBw).mono ?_); rintro e wa15 ⟨rfl, hb⟩; have hBw := zab hBw hb; have hw10 := hw10.below hb; have hw11 := hw11.below hb; have hw12 := hw12.below hb; have hw13 := hw13.below hb; refine hK.out _ _ (Cs.below hHeld hb) (fun hHeld => ?_); clear hK K hb
 try simp only [sb]
 refine tk 26 ?_
 try simp only [sb]
 refine tk 27 ?_
 try simp only [sb]
 refine tk 28 ?_
 try simp only [sb]
 refine tk 29 ?_
 try simp only [sb]
 refine rc 30 (fun K hK => ?_)
 go_simp
 go_at_call 53; (with_reducible refine (C9.out _ hBw).mono ?_); rintro e wa16 ⟨b14, B14, m14, d14, E14, u14, v14, rfl, hw14, hb⟩; have hBw := zab hBw hb; have hw10 := hw10.below hb; have hw11 := hw11.below hb; have hw12 := hw12.below hb; have hw13 := hw13.below hb; refine hK.out _ _ (Cs.below hHeld hb) (fun hHeld => ?_); clear hK K hb
 try simp only [sb]
 refine rc 31 (fun K hK => ?_)
 go_simp
 go_at_call 16; (with_reducible refine (C10.out _ hBw _ _ _ _ _ _ _ hw14).mono ?_); rintro e wa17 ⟨rfl, hb⟩; have hBw := zab hBw hb; have hw10 := hw10.below hb; have hw11 := hw11.below hb; have hw12 := hw12.below hb; have hw13 := hw13.below hb; have hw14 := hw14.below hb; refine hK.out _ _ (Cs.below hHeld hb) (fun hHeld => ?_); clear hK K hb
 try simp only [sb]
 refine tk 32 ?_
 try simp only [sb]
 refine tk 33 ?_
 try simp only [sb]
 refine tk 34 ?_
 try simp only [sb]
 refine tk 35 ?_
 try simp only [sb]
 refine tk 37 ?_
 try simp only [sb]
 refine tk 38 ?_
 try simp only [sb]
 refine rc 36 (fun K hK => ?_)
 go_simp
 go_at_call 53; (with_reducible refine (C11.out _ hBw).mono ?_); rintro e wa18 ⟨b15, B15, m15, d15, E15, u15, v15, rfl, hw15, hb⟩; have hBw := zab hBw hb; have hw10 := hw10.below hb; have hw11 := hw11.below hb; have hw12 := hw12.below hb; have hw13 := hw13.below hb; have hw14 := hw14.below hb; refine hK.out _ _ (Cs.below hHeld hb) (fun hHeld => ?_); clear hK K hb
 try simp only [sb]
 refine rc 39 (fun K hK => ?_)
 go_simp
 go_at_call 28; (with_reducible refine (C12.out _ hBw).mono ?_); rintro e wa19 ⟨b16, B16, m16, d16, E16, u16, v16, rfl, hw16, hb⟩; have hBw := zab hBw hb; have hw10 := hw10.below hb; have hw11 := hw11.below hb; have hw12 := hw12.below hb; have hw13 := hw13.below hb; have hw14 := hw14.below hb; have hw15 := hw15.below hb; refine hK.out _ _ (Cs.below hHeld hb) (fun hHeld => ?_); clear hK K hb
 try simp only [sb]
 refine rc 40 (fun K hK => ?_)
 go_simp
 go_at_call 40; (with_reducible refine (C13.out _ hBw _ _ _ _ _ _ _ hw16).mono ?_); rintro e wa20 ⟨b17, B17, m17, d17, E17, u17, v17, rfl, hw17, hb⟩; have hBw := zab hBw hb; have hw10 := hw10.below hb; have hw11 := hw11.below hb; have hw12 := hw12.below hb; have hw13 := hw13.below hb; have hw14 := hw14.below hb; have hw15 := hw15.below hb; have hw16 := hw16.below hb; refine hK.out _ _ (Cs.below hHeld hb) (fun hHeld => ?_); clear hK K hb
 try simp only [sb]
 refine rc 41 (fun K hK => ?_)
 go_simp
 go_at_call 33; (with_reducible refine (C14.out _ hBw _ _ _ _ _ _ _ hw15 _ _ _ _ _ _ _ hw17).mono ?_); rintro e wa21 ⟨rfl, hb⟩; have hBw := zab hBw hb; have hw10 := hw10.below hb; have hw11 := hw11.below hb; have hw12 := hw12.below hb; have hw13 := hw13.below hb; have hw14 := hw14.below hb; have hw15 := hw15.below hb; have hw16 := hw16.below hb; have hw17 := hw17.below hb; refine hK.out _ _ (Cs.below hHeld hb) (fun hHeld => ?_); clear hK K hb
 try simp only [sb]
 refine tk 42 ?_
 try simp only [sb]
 refine tk 43 ?_
 try simp only [sb]
 refine rdn ?_
 have hB := zab hB hBw
 have g1 := zaa hBw g1
 have e1 := zaa hBw e1
 have i1 := zaa hBw i1
 have HN2 := Lib.hid (HN2.out.below hBw)
 have g3 := zaa hBw g3
 have e3 := zaa hBw e3
 have i3 := zaa hBw i3
 have g8 := zaa hBw g8
 have e8 := zaa hBw e8
 have i8 := zaa hBw i8
 have g9 := zaa hBw g9
 have e9 := zaa hBw e9
 have i9 := zaa hBw i9
 have HN4 := Lib.hid (HN4.out.below hBw)
 have HN5 := Lib.hid (HN5.out.below hBw)
 have HN6 := Lib.hid (HN6.out.below hBw)
 have HN7 := Lib.hid (HN7.out.below hBw)
 have HN10 := Lib.hid hw10
 have HN11 := Lib.hid hw11
 have HN12 := Lib.hid hw12
 have HN13 := Lib.hid hw13
 have HN14 := Lib.hid hw14
 have HN15 := Lib.hid hw15
 have HN16 := Lib.hid hw16
 have HN17 := Lib.hid hw17
 clear hBw hHeld hw10 hw11 hw12 hw13 hw14 hw15 hw16 hw17 C0 C1 C2 C3 C4 C5 C6 C7 C8 C9 C10 C11 C12 C13 C14
 go_wp2
 go_ret
 exact ⟨by first | rfl | simp, hB⟩
theorem ratFloors_core {T : World → Prop} (hTb : ∀ w w', T w → Below w.heap.size w w' → T w') (IC : IntC T) (QC : RatC T) (s0 : Bool) (A0 : Option Addr) (n0 c0 : Nat) (l0 : List Nat) (E0 : Option Addr) (u0 v0 : Nat) (e0 : List Nat) (w : World) (h0 : zap w A0 n0 c0 l0) (k0 : zap w E0 u0 v0 e0) (hT : T w) :
  Calls Tryz.prog 8 #[.agg #[.bool s0, .slice A0 n0 c0, .slice E0 u0 v0]] w fun e w' => e = .returned (.bool true) ∧ Below w.heap.size w w' := by
 by_cases d0 : (fOf s0 l0 e0).den = 1
 ·exact zhx hTb IC QC s0 A0 n0 c0 l0 E0 u0 v0 e0 w h0 k0 d0 hT
 ·exact zgI hTb IC QC s0 A0 n0 c0 l0 E0 u0 v0 e0 w h0 k0 d0 hT
end Go.Proofs.YtgigccjiblaefaaGreatDoor
