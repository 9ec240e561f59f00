/- What this claim leans on. -/
import Derived.Test.YtgigccjiblaefaaGreatDoorAP5C
import Derived.Test.YtgigccjiblaefaaGreatDoorAW8Awake
import Derived.Test.YtgigccjiblaefaaGreatDoorAW8Make
namespace Go.Proofs.YtgigccjiblaefaaGreatDoor
open Go Go.RowKit
set_option maxRecDepth 100000
set_option linter.unusedVariables false
set_option linter.unusedSimpArgs false
set_option maxHeartbeats 16000000 in
theorem zhI {T : World → Prop} (hTb : ∀ w w', T w → Below w.heap.size w w' → T w') (IC : IntC T) (QC : RatC T) (GC : GcdC) (hTT : ∀ w, T w → zan w) (s0 : Bool) (A0 : Option Addr) (n0 c0 : Nat) (l0 : List Nat) (E0 : Option Addr) (u0 v0 : Nat) (e0 : List Nat) (s1 : Bool) (A1 : Option Addr) (n1 c1 : Nat) (l1 : List Nat) (E1 : Option Addr) (u1 v1 : Nat) (e1 : List Nat) (w : World) (h0 : zap w A0 n0 c0 l0) (k0 : zap w E0 u0 v0 e0) (h1 : zap w A1 n1 c1 l1) (k1 : zap w E1 u1 v1 e1) (x0 : fOf s0 l0 e0 ≠ 0) (hn : (fOf s0 l0 e0).num ≠ (fOf s1 l1 e1).num) (hT : T w) :
  Calls Tryz.prog 7 #[.agg #[.bool s0, .slice A0 n0 c0, .slice E0 u0 v0], .agg #[.bool s1, .slice A1 n1 c1, .slice E1 u1 v1]] w fun e w' => e = .returned (.bool true) ∧ Below w.heap.size w w' := by
 have HAW := Lib.hid (fun w' (hb : Below w.heap.size w w') => zbn hTb IC QC w' (hTb w w' hT hb))
 have HIC := Lib.hid IC
 have HQC := Lib.hid QC
 have HT := Lib.hid (fun w' (hb : Below w.heap.size w w') => hTb w w' hT hb)
 have HGC := Lib.hid GC
 have HTB := Lib.hid (fun w' (hb : Below w.heap.size w w') => hTT w' (hTb w w' hT hb))
 obtain ⟨K, hK⟩ : ∃ K, 1048576 = K := ⟨_, rfl⟩
 have hKK : K ≤ 1048576 := by omega
 have hK0 : 0 < K := by omega
 have HM0 := Lib.hid (fun w' (hb : Below w.heap.size w w') => zaL hTb IC QC s0 A0 n0 c0 l0 E0 u0 v0 e0 w' ⟨(h0.reads.below hb).more hb.size, h0.dgs, h0.fits, h0.small⟩ ⟨(k0.reads.below hb).more hb.size, k0.dgs, k0.fits, k0.small⟩ (hTb w w' hT hb))
 have S0 : SzQ 1048576 (fOf s0 l0 e0) := zbp h0 k0
 rw [hK] at S0
 obtain ⟨x, hz0⟩ : ∃ x, fOf s0 l0 e0 = x := ⟨_, rfl⟩
 rw [hz0] at HM0 S0 x0 hn
 have HS0 := Lib.hid S0
 have HM1 := Lib.hid (fun w' (hb : Below w.heap.size w w') => zaL hTb IC QC s1 A1 n1 c1 l1 E1 u1 v1 e1 w' ⟨(h1.reads.below hb).more hb.size, h1.dgs, h1.fits, h1.small⟩ ⟨(k1.reads.below hb).more hb.size, k1.dgs, k1.fits, k1.small⟩ (hTb w w' hT hb))
 have S1 : SzQ 1048576 (fOf s1 l1 e1) := zbp h1 k1
 rw [hK] at S1
 obtain ⟨y, hz1⟩ : ∃ x, fOf s1 l1 e1 = x := ⟨_, rfl⟩
 rw [hz1] at HM1 S1 hn
 have HS1 := Lib.hid S1
 obtain ⟨kc1, hkc1⟩ : ∃ c, zcI x.num y.num = c := ⟨_, rfl⟩
 have HC1 := Lib.hid hkc1
 have kb1 : (kc1 == 0) = false := by rw [beq_eq_false_iff_ne]; intro h9; rw [h9] at hkc1; exact hn ((zdt _ _).1 hkc1)
 clear hkc1
 have Hx0 := Lib.hid x0
 have Hhn := Lib.hid hn
 clear IC QC hT GC h0 k0 hz0 S0 h1 k1 hz1 S1 x0 hn hK
 go_enter Tryz.func7, Tryz.ntmps7
 have hB := Below.refl w.heap.size w
 obtain ⟨bx1, bx2, bx3, bz⟩ := zaW w 48 48 #[.bool s0, .slice A0 n0 c0, .slice E0 u0 v0] #[.bool s1, .slice A1 n1 c1, .slice E1 u1 v1]
 have hB := zab hB bx1
 obtain ⟨g1, e1, i1⟩ := bx2.c3
 obtain ⟨g2, e2, i2⟩ := bx3.c3
 clear bx1 bx2 bx3 bz
 go_wp2_with fail
 generalize (w.alloc (.cells #[.bool s0, .slice A0 n0 c0, .slice E0 u0 v0] 48)).alloc (.cells #[.bool s1, .slice A1 n1 c1, .slice E1 u1 v1] 48) = W1 at *
 (with_reducible refine (HAW.out _ hB).mono ?_)
 rintro e wc2 ⟨rfl, hb⟩
 have hB := zab hB hb
 have g1 := zaa hb g1
 have e1 := zaa hb e1
 have i1 := zaa hb i1
 have g2 := zaa hb g2
 have e2 := zaa hb e2
 have i2 := zaa hb i2
 clear hb 
 go_wp2_with fail
 have HZ3 : Hid (SzQ (K) (x)) := HS0.out
 have C0 := Lib.hid (fun w' (h : Below wc2.heap.size wc2 w') => HM0.out _ (zab hB h))
 have HZ4 : Hid (SzQ (K) (y)) := HS1.out
 have C1 := Lib.hid (fun w' (h : Below wc2.heap.size wc2 w') => HM1.out _ (zab hB h))
 have GG := Lib.hid (fun w' (h : Below wc2.heap.size wc2 w') => (csc (zaa h g1) (csc (zaa h e1) (csc (zaa h i1) (csc (zaa h g2) (csc (zaa h e2) (csc (zaa h i2) csn)))))))
 refine rgB (fun hHeld => ?_)
 refine tl 0 GG.out ?_
 try simp only [sb]
 refine tl 2 GG.out ?_
 try simp only [sb]
 refine zaw (L := #[true, true, true, true, true, true, true, true])
  (J := fun a0 l a w' => ∃ (fl1 fl3 fl4 fl5 fl6 fl7 b3 : Bool) (B3 : Option Addr) (m3 d3 : Nat) (E3 : Option Addr) (u3 v3 : Nat) (b4 : Bool) (B4 : Option Addr) (m4 d4 : Nat) (E4 : Option Addr) (u4 v4 ad4 ad5 : Nat), l = #[true, fl1, true, fl3, fl4, fl5, fl6, fl7] ∧ zaT [11, 13, 5, 6] a0 a ∧ Hid (Below wc2.heap.size wc2 w') ∧
    Hid (Gd fl1 (a.tmps.getD 11 undef = .agg #[.bool b3, .slice B3 m3 d3, .slice E3 u3 v3] ∧ zah w' (x) b3 B3 m3 d3 E3 u3 v3)) ∧
    Hid (Gd fl3 (a.tmps.getD 13 undef = .agg #[.bool b4, .slice B4 m4 d4, .slice E4 u4 v4] ∧ zah w' (y) b4 B4 m4 d4 E4 u4 v4)) ∧
    Hid (Gd fl4 (a.tmps.getD 5 undef = .pointer (some ⟨ad4, 0, none⟩) ∧ wc2.heap.size ≤ ad4 ∧ Blk w' ad4 31 (bif fl6 then #[.bool b3, .slice B3 m3 d3, .slice E3 u3 v3] else #[.bool false, .slice none 0 0, .slice none 0 0]))) ∧
    Hid (Gd fl5 (a.tmps.getD 6 undef = .pointer (some ⟨ad5, 0, none⟩) ∧ wc2.heap.size ≤ ad5 ∧ Blk w' ad5 31 (bif fl7 then #[.bool b4, .slice B4 m4 d4, .slice E4 u4 v4] else #[.bool false, .slice none 0 0, .slice none 0 0]))) ∧
    Hid (Gd fl4 (Gd fl5 (ad4 ≠ ad5))) ∧
    Hid (Gd fl3 (fl1 = true)) ∧
    Hid (Gd fl6 (fl1 = true)) ∧
    Hid (Gd fl6 (fl3 = true)) ∧
    Hid (Gd fl6 (fl4 = true)) ∧
    Hid (Gd fl7 (fl3 = true)) ∧
    Hid (Gd fl7 (fl5 = true)) ∧
    Hid (Gd fl7 (fl6 = true)))
  (by rfl) ?_ ?_ ?_
 ·exact ⟨false, false, false, false, false, false, false, none, 0, 0, none, 0, 0, false, none, 0, 0, none, 0, 0, 0, 0, by kernel_rfl, zaT.refl _ _, hHeld, Gd.no, Gd.no, Gd.no, Gd.no, Gd.no, Gd.no, Gd.no, Gd.no, Gd.no, Gd.no, Gd.no, Gd.no⟩
 ·intro OPS Ac0 Q0 hO hAs hA
  have RB10 : Ac0.tmps.getD 10 undef = .agg #[.bool s0, .slice A0 n0 c0, .slice E0 u0 v0] := (hA 10 undef).trans (by kernel_rfl)
  have RB12 : Ac0.tmps.getD 12 undef = .agg #[.bool s1, .slice A1 n1 c1, .slice E1 u1 v1] := (hA 12 undef).trans (by kernel_rfl)
  have hsz : Ac0.tmps.size = 68 := hAs.trans (by kernel_rfl)
  clear hAs hA
  refine ⟨?_, ?_⟩
  ·rintro l a w' ⟨fl1, fl3, fl4, fl5, fl6, fl7, b3, B3, m3, d3, E3, u3, v3, b4, B4, m4, d4, E4, u4, v4, ad4, ad5, rfl, -⟩ hr
   obtain rfl : fl1 = true := als 1 hr hO
   obtain rfl : fl3 = true := als 3 hr hO
   obtain rfl : fl4 = true := als 4 hr hO
   obtain rfl : fl5 = true := als 5 hr hO
   obtain rfl : fl6 = true := als 6 hr hO
   obtain rfl : fl7 = true := als 7 hr hO
   rfl
  ·rintro l a w' i ⟨fl1, fl3, fl4, fl5, fl6, fl7, b3, B3, m3, d3, E3, u3, v3, b4, B4, m4, d4, E4, u4, v4, ad4, ad5, rfl, HKp, hBi, qf1, qf3, qf4, qf5, qn4_5, qd3_1, qd6_1, qd6_3, qd6_4, qd7_3, qd7_5, qd7_6⟩ hne hi
   have hlt : i < 8 := by have := zaJ hi; rw [hO] at this; exact this
   rcases (show i = 0 ∨ i = 1 ∨ i = 2 ∨ i = 3 ∨ i = 4 ∨ i = 5 ∨ i = 6 ∨ i = 7 by omega) with rfl | rfl | rfl | rfl | rfl | rfl | rfl | rfl
   ·cases (zad hi : true = false)
   ·obtain rfl : fl1 = false := zad hi
    obtain rfl : fl3 = false := Gd.off qd3_1.out
    obtain rfl : fl6 = false := Gd.off qd6_1.out
    obtain rfl : fl7 = false := Gd.off qd7_3.out
    have rd10 := HKp.get 10 (by decide) RB10
    refine wog hO (fun K' hK => ?_)
    go_simp
    refine (C0.out w' hBi.out).mono ?_
    rintro e w2 ⟨nb3, nB3, nm3, nd3, nE3, nu3, nv3, rfl, nhw3, hb⟩
    exact hK.out _ _ ⟨zab hBi.out hb, true, false, fl4, fl5, false, false, nb3, nB3, nm3, nd3, nE3, nu3, nv3, b4, B4, m4, d4, E4, u4, v4, ad4, ad5, by rfl, HKp.put (by decide) _, zab hBi.out hb, Gd.yes ⟨zal (HKp.lt (by rw [hsz]; decide)) _, nhw3⟩, Gd.no, kq qf4.out fun h => ⟨h.1, zac hb h.2⟩, kq qf5.out fun h => ⟨h.1, zac hb h.2⟩, qn4_5, Gd.no, Gd.no, Gd.no, Gd.no, Gd.no, Gd.no, Gd.no⟩
   ·cases (zad hi : true = false)
   ·obtain rfl : fl3 = false := zad hi
    obtain rfl : fl1 = true := rdp 1 1 hi hO
    obtain rfl : fl6 = false := Gd.off qd6_3.out
    obtain rfl : fl7 = false := Gd.off qd7_3.out
    have rd12 := HKp.get 12 (by decide) RB12
    refine wog hO (fun K' hK => ?_)
    go_simp
    refine (C1.out w' hBi.out).mono ?_
    rintro e w2 ⟨nb4, nB4, nm4, nd4, nE4, nu4, nv4, rfl, nhw4, hb⟩
    exact hK.out _ _ ⟨zab hBi.out hb, true, true, fl4, fl5, false, false, b3, B3, m3, d3, E3, u3, v3, nb4, nB4, nm4, nd4, nE4, nu4, nv4, ad4, ad5, by rfl, HKp.put (by decide) _, zab hBi.out hb, kq qf1.out fun h => (h).below hb, Gd.yes ⟨zal (HKp.lt (by rw [hsz]; decide)) _, nhw4⟩, kq qf4.out fun h => ⟨h.1, zac hb h.2⟩, kq qf5.out fun h => ⟨h.1, zac hb h.2⟩, qn4_5, fun _ => rfl, Gd.no, Gd.no, Gd.no, Gd.no, Gd.no, Gd.no⟩
   ·obtain rfl : fl4 = false := zad hi
    obtain rfl : fl6 = false := Gd.off qd6_4.out
    obtain rfl : fl7 = false := Gd.off qd7_6.out
    refine wog hO (fun K' hK => ?_)
    go_simp
    have hb := zau w' (.cells #[.bool false, .slice none 0 0, .slice none 0 0] 31)
    exact hK.out _ _ ⟨zab hBi.out hb, fl1, fl3, true, fl5, false, false, b3, B3, m3, d3, E3, u3, v3, b4, B4, m4, d4, E4, u4, v4, w'.heap.size, ad5, by rfl, HKp.put (by decide) _, zab hBi.out hb, kq qf1.out fun h => (h).below hb, kq qf3.out fun h => (h).below hb, Gd.yes ⟨zal (HKp.lt (by rw [hsz]; decide)) _, hBi.out.size, Blk.new w' _ _⟩, kq qf5.out fun h => ⟨h.1, zac hb h.2⟩, Gd.yes (qf5.out.mono fun h => by have := Blk.lt h.2.2; omega), qd3_1, Gd.no, Gd.no, Gd.no, Gd.no, Gd.no, Gd.no⟩
   ·obtain rfl : fl5 = false := zad hi
    obtain rfl : fl7 = false := Gd.off qd7_5.out
    refine wog hO (fun K' hK => ?_)
    go_simp
    have hb := zau w' (.cells #[.bool false, .slice none 0 0, .slice none 0 0] 31)
    exact hK.out _ _ ⟨zab hBi.out hb, fl1, fl3, fl4, true, fl6, false, b3, B3, m3, d3, E3, u3, v3, b4, B4, m4, d4, E4, u4, v4, ad4, w'.heap.size, by rfl, HKp.put (by decide) _, zab hBi.out hb, kq qf1.out fun h => (h).below hb, kq qf3.out fun h => (h).below hb, kq qf4.out fun h => ⟨h.1, zac hb h.2⟩, Gd.yes ⟨zal (HKp.lt (by rw [hsz]; decide)) _, hBi.out.size, Blk.new w' _ _⟩, qf4.out.mono fun h => Gd.yes (by have := Blk.lt h.2.2; omega), qd3_1, qd6_1, qd6_3, qd6_4, Gd.no, Gd.no, Gd.no⟩
   ·obtain rfl : fl6 = false := zad hi
    obtain rfl : fl1 = true := rdp 1 1 hi hO
    obtain rfl : fl3 = true := rdp 3 2 hi hO
    obtain rfl : fl4 = true := rdp 4 0 hi hO
    obtain rfl : fl5 = true := rdp 5 8 hi hO
    obtain rfl : fl7 = false := Gd.off qd7_6.out
    have rd5 := qf4.out.get.1
    have rd11 := qf1.out.get.1
    obtain ⟨_, hg, hk⟩ := qf4.out.get
    have hk : Blk w' ad4 31 #[.bool false, .slice none 0 0, .slice none 0 0] := hk
    obtain ⟨sc0, sf0, sc1, sf1, sc2, sf2⟩ := st3 hk (.bool b3) (.slice B3 m3 d3)
    have hj2 := sn3 hk (.bool b3) (.slice B3 m3 d3) (.slice E3 u3 v3)
    have hBn := bl3 (.bool b3) (.slice B3 m3 d3) (.slice E3 u3 v3) hg hBi.out
    refine wog hO (fun K' hK => ?_)
    go_simp
    exact hK.out _ _ ⟨hBn, true, true, true, true, true, false, b3, B3, m3, d3, E3, u3, v3, b4, B4, m4, d4, E4, u4, v4, ad4, ad5, by rfl, HKp, hBn, qf1.out.mono fun h => ⟨h.1, zar (h.2) hk zaK (zaI _ _ _ _ _)⟩, qf3.out.mono fun h => ⟨h.1, zar (h.2) hk zaK (zaI _ _ _ _ _)⟩, qf4.out.mono fun h => ⟨h.1, h.2.1, hj2⟩, fun hf9 => (fun h => ⟨h.1, h.2.1, Blk.far (p := ⟨ad4, 2, none⟩) (Blk.far (p := ⟨ad4, 1, none⟩) (Blk.far (p := ⟨ad4, 0, none⟩) (h.2.2) (Ne.symm (qn4_5.out rfl hf9)) (.bool b3)) (Ne.symm (qn4_5.out rfl hf9)) (.slice B3 m3 d3)) (Ne.symm (qn4_5.out rfl hf9)) (.slice E3 u3 v3)⟩) (qf5.out hf9), qn4_5, fun _ => rfl, fun _ => rfl, fun _ => rfl, fun _ => rfl, Gd.no, Gd.no, Gd.no⟩
   ·obtain rfl : fl7 = false := zad hi
    obtain rfl : fl1 = true := rdp 1 4 hi hO
    obtain rfl : fl3 = true := rdp 3 1 hi hO
    obtain rfl : fl4 = true := rdp 4 7 hi hO
    obtain rfl : fl5 = true := rdp 5 0 hi hO
    obtain rfl : fl6 = true := rdp 6 2 hi hO
    have rd6 := qf5.out.get.1
    have rd13 := qf3.out.get.1
    obtain ⟨_, hg, hk⟩ := qf5.out.get
    have hk : Blk w' ad5 31 #[.bool false, .slice none 0 0, .slice none 0 0] := hk
    obtain ⟨sc0, sf0, sc1, sf1, sc2, sf2⟩ := st3 hk (.bool b4) (.slice B4 m4 d4)
    have hj2 := sn3 hk (.bool b4) (.slice B4 m4 d4) (.slice E4 u4 v4)
    have hBn := bl3 (.bool b4) (.slice B4 m4 d4) (.slice E4 u4 v4) hg hBi.out
    refine wog hO (fun K' hK => ?_)
    go_simp
    exact hK.out _ _ ⟨hBn, true, true, true, true, true, true, b3, B3, m3, d3, E3, u3, v3, b4, B4, m4, d4, E4, u4, v4, ad4, ad5, by rfl, HKp, hBn, qf1.out.mono fun h => ⟨h.1, zar (h.2) hk zaK (zaI _ _ _ _ _)⟩, qf3.out.mono fun h => ⟨h.1, zar (h.2) hk zaK (zaI _ _ _ _ _)⟩, fun hf9 => (fun h => ⟨h.1, h.2.1, Blk.far (p := ⟨ad5, 2, none⟩) (Blk.far (p := ⟨ad5, 1, none⟩) (Blk.far (p := ⟨ad5, 0, none⟩) (h.2.2) (qn4_5.out hf9 rfl) (.bool b4)) (qn4_5.out hf9 rfl) (.slice B4 m4 d4)) (qn4_5.out hf9 rfl) (.slice E4 u4 v4)⟩) (qf4.out hf9), qf5.out.mono fun h => ⟨h.1, h.2.1, hj2⟩, qn4_5, fun _ => rfl, fun _ => rfl, fun _ => rfl, fun _ => rfl, fun _ => rfl, fun _ => rfl, fun _ => rfl⟩
 rintro a wm3 ⟨fl1, fl3, fl4, fl5, fl6, fl7, b3, B3, m3, d3, E3, u3, v3, b4, B4, m4, d4, E4, u4, v4, ad4, ad5, hl, HKp, hBi, qf1, qf3, qf4, qf5, qn4_5, qd3_1, qd6_1, qd6_3, qd6_4, qd7_3, qd7_5, qd7_6⟩
 have xx1 : fl1 = true := gdl 1 hl
 subst xx1
 have xx3 : fl3 = true := gdl 3 hl
 subst xx3
 have xx4 : fl4 = true := gdl 4 hl
 subst xx4
 have xx5 : fl5 = true := gdl 5 hl
 subst xx5
 have xx6 : fl6 = true := gdl 6 hl
 subst xx6
 have xx7 : fl7 = true := gdl 7 hl
 subst xx7
 obtain ⟨rv1, hw3⟩ := qf1.out.get
 obtain ⟨rv3, hw4⟩ := qf3.out.get
 obtain ⟨rv4, hg4, hk4⟩ := qf4.out.get
 obtain ⟨rv5, hg5, hk5⟩ := qf5.out.get
 obtain rfl := HKp.eq [(11, .agg #[.bool b3, .slice B3 m3 d3, .slice E3 u3 v3]), (13, .agg #[.bool b4, .slice B4 m4 d4, .slice E4 u4 v4]), (5, .pointer (some ⟨ad4, 0, none⟩)), (6, .pointer (some ⟨ad5, 0, none⟩))] rfl (by
  intro p hp
  simp only [List.mem_cons, List.not_mem_nil, or_false] at hp
  rcases hp with rfl | rfl | rfl | rfl
  ·exact rv1
  ·exact rv3
  ·exact rv4
  ·exact rv5)
 have hBv := hBi.out
 clear hl hBi HKp qf1 qf3 qf4 qf5 qn4_5 qd3_1 qd6_1 qd6_3 qd6_4 qd7_3 qd7_5 qd7_6 rv1 rv3 rv4 rv5
 have hk4 : Blk wm3 ad4 31 #[.bool b3, .slice B3 m3 d3, .slice E3 u3 v3] := hk4
 have hk5 : Blk wm3 ad5 31 #[.bool b4, .slice B4 m4 d4, .slice E4 u4 v4] := hk5
 rw [show due #[true, true, true, true, true, true, true, true] = 0 from rfl]
 simp only [zaR, List.foldl, Act.put, List.setIfInBounds_toArray, List.set_cons_zero, List.set_cons_succ]
 refine wpAnyH_done (by kernel_rfl) ?_ _
 refine NoPanic.normal ?_
 have hB := zab hB hBv
 have g1 := zaa hBv g1
 have e1 := zaa hBv e1
 have i1 := zaa hBv i1
 have g2 := zaa hBv g2
 have e2 := zaa hBv e2
 have i2 := zaa hBv i2
 obtain ⟨ad4_5, hga⟩ : ∃ x, x = ad4 := ⟨_, rfl⟩
 subst hga
 obtain ⟨g5, e5, i5⟩ := hk4.c3
 obtain ⟨ad5_6, hga⟩ : ∃ x, x = ad5 := ⟨_, rfl⟩
 subst hga
 obtain ⟨g6, e6, i6⟩ := hk5.c3
 have HN3 := Lib.hid hw3
 have HN4 := Lib.hid hw4
 clear hBv hk4 hg4 hk5 hg5 hw3 hw4 GG
 clear C0 C1
 go_wp2_with fail
 have HZ7 : Hid (Sz (K) (x.num).natAbs) := SzQ.num HZ3.out
 have C0 := Lib.hid (fun w' (h : Below wm3.heap.size wm3 w') => HQC.out.num (x) b3 B3 m3 d3 E3 u3 v3 w' (HT.out _ (zab hB h)) (HN3.out.below h) (SzQ.fit HZ3.out HN3.out (by omega)))
 have HZ8 : Hid (Sz (K) (y.num).natAbs) := SzQ.num HZ4.out
 have C1 := Lib.hid (fun w' (h : Below wm3.heap.size wm3 w') => HQC.out.num (y) b4 B4 m4 d4 E4 u4 v4 w' (HT.out _ (zab hB h)) (HN4.out.below h) (SzQ.fit HZ4.out HN4.out (by omega)))
 have C2 := Lib.hid (fun w' (h : Below wm3.heap.size wm3 w') b7 B7 m7 d7 (hw7 : zaq w' (x.num) b7 B7 m7 d7) b8 B8 m8 d8 (hw8 : zaq w' (y.num) b8 B8 m8 d8) => zjf (v := kc1) (HC1.out) (HIC.out.cmp (x.num) (y.num) b7 b8 B7 B8 m7 m8 d7 d8 w' (HT.out _ (zab hB h)) hw7 hw8 (by have := Sz.words HZ7.out hw7.words; omega) (by have := Sz.words HZ8.out hw8.words; omega)))
 have hBw := (Below.refl wm3.heap.size wm3).drew
 refine rg (csc g5 (csc e5 (csc i5 (csc g6 (csc e6 (csc i6 csn)))))) (fun hHeld => ?_)
 refine tk 0 ?_
 try simp only [sb]
 refine tk 2 ?_
 try simp only [sb]
 refine rc 1 (fun K hK => ?_)
 go_simp
 go_at_call 17; (with_reducible refine (C0.out _ hBw).mono ?_); rintro e wa4 ⟨b7, B7, m7, d7, rfl, hw7, hb⟩; have hBw := zab hBw hb; refine hK.out _ _ (Cs.below hHeld hb) (fun hHeld => ?_); clear hK K hb
 try simp only [sb]
 refine rc 3 (fun K hK => ?_)
 go_simp
 go_at_call 17; (with_reducible refine (C1.out _ hBw).mono ?_); rintro e wa5 ⟨b8, B8, m8, d8, rfl, hw8, hb⟩; have hBw := zab hBw hb; have hw7 := hw7.below hb; refine hK.out _ _ (Cs.below hHeld hb) (fun hHeld => ?_); clear hK K hb
 try simp only [sb]
 refine rc 4 (fun K hK => ?_)
 go_simp
 go_at_call 43; (with_reducible refine (C2.out _ hBw _ _ _ _ hw7 _ _ _ _ hw8).mono ?_); rintro e wa6 ⟨rfl, hb⟩; have hBw := zab hBw hb; have hw7 := hw7.below hb; have hw8 := hw8.below hb; refine hK.out _ _ (Cs.below hHeld hb) (fun hHeld => ?_); clear hK K hb
 try simp only [sb]
 refine tk 5 ?_
 try simp only [sb]
 refine tk 6 ?_
 try simp only [sb]
 refine tu 7 ?_
 try simp only [sb]
 refine tu 8 ?_
 try simp only [sb]
 refine tu 9 ?_
 try simp only [sb]
 refine tu 10 ?_
 try simp only [sb]
 refine tu 11 ?_
 try simp only [sb]
 refine tu 12 ?_
 try simp only [sb]
 refine tk 13 ?_
 try simp only [sb]
 refine tk 14 ?_
 try simp only [sb]
 refine rdn ?_
 have hB := zab hB hBw
 have g1 := zaa hBw g1
 have e1 := zaa hBw e1
 have i1 := zaa hBw i1
 have g2 := zaa hBw g2
 have e2 := zaa hBw e2
 have i2 := zaa hBw i2
 have g5 := zaa hBw g5
 have e5 := zaa hBw e5
 have i5 := zaa hBw i5
 have g6 := zaa hBw g6
 have e6 := zaa hBw e6
 have i6 := zaa hBw i6
 have HN3 := Lib.hid (HN3.out.below hBw)
 have HN4 := Lib.hid (HN4.out.below hBw)
 have HN7 := Lib.hid hw7
 have HN8 := Lib.hid hw8
 clear hBw hHeld hw7 hw8 C0 C1 C2
 go_wp2_with fail
 have C0 := Lib.hid (fun w' (h : Below wa6.heap.size wa6 w') => zai (decide_eq_false (fun h9 => Hhn.out (by rw [h9]))) (HQC.out.same (x) (y) b3 b4 B3 B4 m3 m4 d3 d4 E3 E4 u3 u4 v3 v4 w' (HT.out _ (zab hB h)) (HN3.out.below h) (HN4.out.below h) (SzQ.fit HZ3.out HN3.out (by omega)) (SzQ.fit HZ4.out HN4.out (by omega))))
 have HZ9 : Hid (Sz (K) (x.num).natAbs) := SzQ.num HZ3.out
 have C1 := Lib.hid (fun w' (h : Below wa6.heap.size wa6 w') => HQC.out.num (x) b3 B3 m3 d3 E3 u3 v3 w' (HT.out _ (zab hB h)) (HN3.out.below h) (SzQ.fit HZ3.out HN3.out (by omega)))
 have HZ10 : Hid (Sz (K) (x.num.natAbs)) := HZ9.out
 have C2 := Lib.hid (fun w' (h : Below wa6.heap.size wa6 w') b9 B9 m9 d9 (hw9 : zaq w' (x.num) b9 B9 m9 d9) => HIC.out.abs (x.num) b9 B9 m9 d9 w' (HT.out _ (zab hB h)) hw9 (by have := Sz.words HZ9.out hw9.words; omega))
 have HZ11 : Hid (Sz (K) (x.den)) := SzQ.den HZ3.out
 have C3 := Lib.hid (fun w' (h : Below wa6.heap.size wa6 w') => HQC.out.den (x) b3 B3 m3 d3 E3 u3 v3 w' (HT.out _ (zab hB h)) (HN3.out.below h) (SzQ.fit HZ3.out HN3.out (by omega)))
 have CP12 : Hid (copB (x.num.natAbs) (x.den) = true) := (decide_eq_true (show Nat.gcd _ _ = 1 from x.reduced))
 have C4 := Lib.hid (fun w' (h : Below wa6.heap.size wa6 w') B10 m10 d10 (hw10 : zae w' (x.num.natAbs) B10 m10 d10) B11 m11 d11 (hw11 : zae w' (x.den) B11 m11 d11) => CP12.out ▸ HGC.out.coprime (x.num.natAbs) (x.den) B10 B11 m10 m11 d10 d11 w' hw10 hw11 (by have := Sz.words HZ10.out hw10; omega) (by have := Sz.words HZ11.out hw11; omega) (HTB.out _ (zab hB h)))
 have HZ13 : Hid (Sz (K) (x.den)) := SzQ.den HZ3.out
 have C5 := Lib.hid (fun w' (h : Below wa6.heap.size wa6 w') => HQC.out.den (x) b3 B3 m3 d3 E3 u3 v3 w' (HT.out _ (zab hB h)) (HN3.out.below h) (SzQ.fit HZ3.out HN3.out (by omega)))
 have C6 := Lib.hid (fun w' (h : Below wa6.heap.size wa6 w') B13 m13 d13 (hw13 : zae w' (x.den) B13 m13 d13) => zbm x.den_nz hw13)
 have C7 := Lib.hid (fun w' (h : Below wa6.heap.size wa6 w') => zai (decide_eq_false Hx0.out) (HQC.out.zero (x) b3 B3 m3 d3 E3 u3 v3 w' (HT.out _ (zab hB h)) (HN3.out.below h) (SzQ.fit HZ3.out HN3.out (by omega))))
 have HZ14 : Hid (Sz (K) (x.den)) := SzQ.den HZ3.out
 have C8 := Lib.hid (fun w' (h : Below wa6.heap.size wa6 w') => HQC.out.den (x) b3 B3 m3 d3 E3 u3 v3 w' (HT.out _ (zab hB h)) (HN3.out.below h) (SzQ.fit HZ3.out HN3.out (by omega)))
 have HZ15 : Hid (Sz (K) (((x.den : Nat) : Int)).natAbs) := (by rw [Int.natAbs_natCast]; exact HZ14.out)
 have C9 := Lib.hid (fun w' (h : Below wa6.heap.size wa6 w') B14 m14 d14 (hw14 : zae w' (x.den) B14 m14 d14) => zbG HIC.out (x.den) B14 m14 d14 w' (HT.out _ (zab hB h)) hw14 (by have := Sz.words HZ14.out hw14; omega))
 have HZ16 : Hid (SzQ (K) (((((x.den : Nat) : Int) : Int) : Rat))) := SzQ.whole HZ15.out (by omega)
 have C10 := Lib.hid (fun w' (h : Below wa6.heap.size wa6 w') b15 B15 m15 d15 (hw15 : zaq w' (((x.den : Nat) : Int)) b15 B15 m15 d15) => HQC.out.whole (((x.den : Nat) : Int)) b15 B15 m15 d15 w' (HT.out _ (zab hB h)) hw15 (by have := Sz.words HZ15.out hw15.words; omega))
 have HZ17 : Hid (SzQ (K + K) (x * (((((x.den : Nat) : Int) : Int) : Rat)))) := SzQ.mul HZ3.out HZ16.out
 have C11 := Lib.hid (fun w' (h : Below wa6.heap.size wa6 w') b16 B16 m16 d16 E16 u16 v16 (hw16 : zah w' (((((x.den : Nat) : Int) : Int) : Rat)) b16 B16 m16 d16 E16 u16 v16) => HQC.out.mul (x) (((((x.den : Nat) : Int) : Int) : Rat)) b3 b16 B3 B16 m3 m16 d3 d16 E3 E16 u3 u16 v3 v16 w' (HT.out _ (zab hB h)) (HN3.out.below h) hw16 (SzQ.fit HZ3.out HN3.out (by omega)) (SzQ.fit HZ16.out hw16 (by omega)))
 have HZ18 : Hid (Sz (K) (x.num).natAbs) := SzQ.num HZ3.out
 have C12 := Lib.hid (fun w' (h : Below wa6.heap.size wa6 w') => HQC.out.num (x) b3 B3 m3 d3 E3 u3 v3 w' (HT.out _ (zab hB h)) (HN3.out.below h) (SzQ.fit HZ3.out HN3.out (by omega)))
 have HZ19 : Hid (SzQ (K) (((x.num : Int) : Rat))) := SzQ.whole HZ18.out (by omega)
 have C13 := Lib.hid (fun w' (h : Below wa6.heap.size wa6 w') b18 B18 m18 d18 (hw18 : zaq w' (x.num) b18 B18 m18 d18) => HQC.out.whole (x.num) b18 B18 m18 d18 w' (HT.out _ (zab hB h)) hw18 (by have := Sz.words HZ18.out hw18.words; omega))
 have C14 := Lib.hid (fun w' (h : Below wa6.heap.size wa6 w') b17 B17 m17 d17 E17 u17 v17 (hw17 : zah w' (x * (((((x.den : Nat) : Int) : Int) : Rat))) b17 B17 m17 d17 E17 u17 v17) b19 B19 m19 d19 E19 u19 v19 (hw19 : zah w' (((x.num : Int) : Rat)) b19 B19 m19 d19 E19 u19 v19) => zai (decide_eq_true (zbL x)) (HQC.out.same (x * (((((x.den : Nat) : Int) : Int) : Rat))) (((x.num : Int) : Rat)) b17 b19 B17 B19 m17 m19 d17 d19 E17 E19 u17 u19 v17 v19 w' (HT.out _ (zab hB h)) hw17 hw19 (SzQ.fit HZ17.out hw17 (by omega)) (SzQ.fit HZ19.out hw19 (by omega))))
 have hBw := (Below.refl wa6.heap.size wa6).drew
 refine rg (csc g5 (csc e5 (csc i5 (csc g6 (csc e6 (csc i6 csn)))))) (fun hHeld => ?_)
 refine tk 0 ?_
 try simp only [sb]
 refine tk 1 ?_
 try simp only [sb]
 refine tk 3 ?_
 try simp only [sb]
 refine rc 2 (fun K hK => ?_)
 go_simp
 go_at_call 33; (with_reducible refine (C0.out _ hBw).mono ?_); rintro e wa7 ⟨rfl, hb⟩; have hBw := zab hBw hb; refine hK.out _ _ (Cs.below hHeld hb) (fun hHeld => ?_); clear hK K hb
 try simp only [sb]
 refine tk 4 ?_
 try simp only [sb]
 refine tk 5 ?_
 try simp only [sb]
 refine tk 6 ?_
 try simp only [sb]
 refine tk 9 ?_
 try simp only [sb]
 refine rc 7 (fun K hK => ?_)
 go_simp
 go_at_call 17; (with_reducible refine (C1.out _ hBw).mono ?_); rintro e wa8 ⟨b9, B9, m9, d9, rfl, hw9, hb⟩; have hBw := zab hBw hb; refine hK.out _ _ (Cs.below hHeld hb) (fun hHeld => ?_); clear hK K hb
 try simp only [sb]
 refine rc 8 (fun K hK => ?_)
 go_simp
 go_at_call 47; (with_reducible refine (C2.out _ hBw _ _ _ _ hw9).mono ?_); rintro e wa9 ⟨B10, m10, d10, rfl, hw10, hb⟩; have hBw := zab hBw hb; have hw9 := hw9.below hb; refine hK.out _ _ (Cs.below hHeld hb) (fun hHeld => ?_); clear hK K hb
 try simp only [sb]
 refine rc 10 (fun K hK => ?_)
 go_simp
 go_at_call 45; (with_reducible refine (C3.out _ hBw).mono ?_); rintro e wa10 ⟨B11, m11, d11, rfl, hw11, hb⟩; have hBw := zab hBw hb; have hw9 := hw9.below hb; have hw10 := hw10.below hb; refine hK.out _ _ (Cs.below hHeld hb) (fun hHeld => ?_); clear hK K hb
 try simp only [sb]
 refine rc 11 (fun K hK => ?_)
 go_simp
 go_at_call 46; (with_reducible refine (C4.out _ hBw _ _ _ hw10 _ _ _ hw11).mono ?_); rintro e wa11 ⟨rfl, hb⟩; have hBw := zab hBw hb; have hw9 := hw9.below hb; have hw10 := hw10.below hb; have hw11 := hw11.below hb; refine hK.out _ _ (Cs.below hHeld hb) (fun hHeld => ?_); clear hK K hb
 try simp only [sb]
 refine tk 12 ?_
 try simp only [sb]
 refine tk 13 ?_
 try simp only [sb]
 refine tk 14 ?_
 try simp only [sb]
 refine rc 15 (fun K hK => ?_)
 go_simp
 go_at_call 45; (with_reducible refine (C5.out _ hBw).mono ?_); rintro e wa12 ⟨B13, m13, d13, rfl, hw13, hb⟩; have hBw := zab hBw hb; have hw9 := hw9.below hb; have hw10 := hw10.below hb; have hw11 := hw11.below hb; refine hK.out _ _ (Cs.below hHeld hb) (fun hHeld => ?_); clear hK K hb
 try simp only [sb]
 refine rc 16 (fun K hK => ?_)
 go_simp
 go_at_call 48; (with_reducible refine (C6.out _ hBw _ _ _ hw13).mono ?_); rintro e wa13 ⟨rfl, hb⟩; have hBw := zab hBw hb; have hw9 := hw9.below hb; have hw10 := hw10.below hb; have hw11 := hw11.below hb; have hw13 := hw13.below hb; refine hK.out _ _ (Cs.below hHeld hb) (fun hHeld => ?_); clear hK K hb
 try simp only [sb]
 refine tk 17 ?_
 try simp only [sb]
 refine tk 18 ?_
 try simp only [sb]
 refine tk 19 ?_
 try simp only [sb]
 refine tk 20 ?_
 try simp only [sb]
 refine rc 21 (fun K hK => ?_)
 go_simp
 go_at_call 13; (with_reducible refine (C7.out _ hBw).mono ?_); rintro e wa14 ⟨rfl, hb⟩; have hBw := zab hBw hb; have hw9 := hw9.below hb; have hw10 := hw10.below hb; have hw11 := hw11.below hb; have hw13 := hw13.below hb; refine hK.out _ _ (Cs.below hHeld hb) (fun hHeld => ?_); clear hK K hb
 try simp only [sb]
 refine tk 22 ?_
 try simp only [sb]
 refine tk 23 ?_
 try simp only [sb]
 refine tu 24 ?_
 try simp only [sb]
 refine tu 25 ?_
 try simp only [sb]
 refine tk 26 ?_
 try simp only [sb]
 refine tk 27 ?_
 try simp only [sb]
 refine tk 28 ?_
 try simp only [sb]
 refine tk 29 ?_
 try simp only [sb]
 refine tk 30 ?_
 try simp only [sb]
 refine tk 35 ?_
 try simp only [sb]
 refine rc 31 (fun K hK => ?_)
 go_simp
 go_at_call 45; (with_reducible refine (C8.out _ hBw).mono ?_); rintro e wa15 ⟨B14, m14, d14, rfl, hw14, hb⟩; have hBw := zab hBw hb; have hw9 := hw9.below hb; have hw10 := hw10.below hb; have hw11 := hw11.below hb; have hw13 := hw13.below hb; refine hK.out _ _ (Cs.below hHeld hb) (fun hHeld => ?_); clear hK K hb
 try simp only [sb]
 refine rc 32 (fun K hK => ?_)
 go_simp
 go_at_call 51; (with_reducible refine (C9.out _ hBw _ _ _ hw14).mono ?_); rintro e wa16 ⟨b15, B15, m15, d15, rfl, hw15, hb⟩; have hBw := zab hBw hb; have hw9 := hw9.below hb; have hw10 := hw10.below hb; have hw11 := hw11.below hb; have hw13 := hw13.below hb; have hw14 := hw14.below hb; refine hK.out _ _ (Cs.below hHeld hb) (fun hHeld => ?_); clear hK K hb
 try simp only [sb]
 refine rc 33 (fun K hK => ?_)
 go_simp
 go_at_call 50; (with_reducible refine (C10.out _ hBw _ _ _ _ hw15).mono ?_); rintro e wa17 ⟨b16, B16, m16, d16, E16, u16, v16, rfl, hw16, hb⟩; have hBw := zab hBw hb; have hw9 := hw9.below hb; have hw10 := hw10.below hb; have hw11 := hw11.below hb; have hw13 := hw13.below hb; have hw14 := hw14.below hb; have hw15 := hw15.below hb; refine hK.out _ _ (Cs.below hHeld hb) (fun hHeld => ?_); clear hK K hb
 try simp only [sb]
 refine rc 34 (fun K hK => ?_)
 go_simp
 go_at_call 26; (with_reducible refine (C11.out _ hBw _ _ _ _ _ _ _ hw16).mono ?_); rintro e wa18 ⟨b17, B17, m17, d17, E17, u17, v17, rfl, hw17, hb⟩; have hBw := zab hBw hb; have hw9 := hw9.below hb; have hw10 := hw10.below hb; have hw11 := hw11.below hb; have hw13 := hw13.below hb; have hw14 := hw14.below hb; have hw15 := hw15.below hb; have hw16 := hw16.below hb; refine hK.out _ _ (Cs.below hHeld hb) (fun hHeld => ?_); clear hK K hb
 try simp only [sb]
 refine rc 36 (fun K hK => ?_)
 go_simp
 go_at_call 17; (with_reducible refine (C12.out _ hBw).mono ?_); rintro e wa19 ⟨b18, B18, m18, d18, rfl, hw18, hb⟩; have hBw := zab hBw hb; have hw9 := hw9.below hb; have hw10 := hw10.below hb; have hw11 := hw11.below hb; have hw13 := hw13.below hb; have hw14 := hw14.below hb; have hw15 := hw15.below hb; have hw16 := hw16.below hb; have hw17 := hw17.below hb; refine hK.out _ _ (Cs.below hHeld hb) (fun hHeld => ?_); clear hK K hb
 try simp only [sb]
 refine rc 37 (fun K hK => ?_)
 go_simp
 go_at_call 50; (with_reducible refine (C13.out _ hBw _ _ _ _ hw18).mono ?_); rintro e wa20 ⟨b19, B19, m19, d19, E19, u19, v19, rfl, hw19, hb⟩; have hBw := zab hBw hb; have hw9 := hw9.below hb; have hw10 := hw10.below hb; have hw11 := hw11.below hb; have hw13 := hw13.below hb; have hw14 := hw14.below hb; have hw15 := hw15.below hb; have hw16 := hw16.below hb; have hw17 := hw17.below hb; have hw18 := hw18.below hb; refine hK.out _ _ (Cs.below hHeld hb) (fun hHeld => ?_); clear hK K hb
 try simp only [sb]
 refine rc 38 (fun K hK => ?_)
 go_simp
 go_at_call 33; (with_reducible refine (C14.out _ hBw _ _ _ _ _ _ _ hw17 _ _ _ _ _ _ _ hw19).mono ?_); rintro e wa21 ⟨rfl, hb⟩; have hBw := zab hBw hb; have hw9 := hw9.below hb; have hw10 := hw10.below hb; have hw11 := hw11.below hb; have hw13 := hw13.below hb; have hw14 := hw14.below hb; have hw15 := hw15.below hb; have hw16 := hw16.below hb; have hw17 := hw17.below hb; have hw18 := hw18.below hb; have hw19 := hw19.below hb; refine hK.out _ _ (Cs.below hHeld hb) (fun hHeld => ?_); clear hK K hb
 try simp only [sb]
 refine tk 39 ?_
 try simp only [sb]
 refine tk 40 ?_
 try simp only [sb]
 refine rdn ?_
 have hB := zab hB hBw
 have g1 := zaa hBw g1
 have e1 := zaa hBw e1
 have i1 := zaa hBw i1
 have g2 := zaa hBw g2
 have e2 := zaa hBw e2
 have i2 := zaa hBw i2
 have g5 := zaa hBw g5
 have e5 := zaa hBw e5
 have i5 := zaa hBw i5
 have g6 := zaa hBw g6
 have e6 := zaa hBw e6
 have i6 := zaa hBw i6
 have HN3 := Lib.hid (HN3.out.below hBw)
 have HN4 := Lib.hid (HN4.out.below hBw)
 have HN7 := Lib.hid (HN7.out.below hBw)
 have HN8 := Lib.hid (HN8.out.below hBw)
 have HN9 := Lib.hid hw9
 have HN10 := Lib.hid hw10
 have HN11 := Lib.hid hw11
 have HN13 := Lib.hid hw13
 have HN14 := Lib.hid hw14
 have HN15 := Lib.hid hw15
 have HN16 := Lib.hid hw16
 have HN17 := Lib.hid hw17
 have HN18 := Lib.hid hw18
 have HN19 := Lib.hid hw19
 clear hBw hHeld hw9 hw10 hw11 hw13 hw14 hw15 hw16 hw17 hw18 hw19 C0 C1 C2 C3 C4 C5 C6 C7 C8 C9 C10 C11 C12 C13 C14
 go_wp2
 go_ret
 exact ⟨by first | rfl | simp, hB⟩
set_option maxHeartbeats 16000000 in
theorem zhL {T : World → Prop} (hTb : ∀ w w', T w → Below w.heap.size w w' → T w') (IC : IntC T) (QC : RatC T) (GC : GcdC) (hTT : ∀ w, T w → zan w) (s0 : Bool) (A0 : Option Addr) (n0 c0 : Nat) (l0 : List Nat) (E0 : Option Addr) (u0 v0 : Nat) (e0 : List Nat) (s1 : Bool) (A1 : Option Addr) (n1 c1 : Nat) (l1 : List Nat) (E1 : Option Addr) (u1 v1 : Nat) (e1 : List Nat) (w : World) (h0 : zap w A0 n0 c0 l0) (k0 : zap w E0 u0 v0 e0) (h1 : zap w A1 n1 c1 l1) (k1 : zap w E1 u1 v1 e1) (x0 : fOf s0 l0 e0 = 0) (hn : (fOf s0 l0 e0).num ≠ (fOf s1 l1 e1).num) (hT : T w) :
  Calls Tryz.prog 7 #[.agg #[.bool s0, .slice A0 n0 c0, .slice E0 u0 v0], .agg #[.bool s1, .slice A1 n1 c1, .slice E1 u1 v1]] w fun e w' => e = .returned (.bool true) ∧ Below w.heap.size w w' := by
 have HAW := Lib.hid (fun w' (hb : Below w.heap.size w w') => zbn hTb IC QC w' (hTb w w' hT hb))
 have HIC := Lib.hid IC
 have HQC := Lib.hid QC
 have HT := Lib.hid (fun w' (hb : Below w.heap.size w w') => hTb w w' hT hb)
 have HGC := Lib.hid GC
 have HTB := Lib.hid (fun w' (hb : Below w.heap.size w w') => hTT w' (hTb w w' hT hb))
 obtain ⟨K, hK⟩ : ∃ K, 1048576 = K := ⟨_, rfl⟩
 have hKK : K ≤ 1048576 := by omega
 have hK0 : 0 < K := by omega
 have HM0 := Lib.hid (fun w' (hb : Below w.heap.size w w') => zaL hTb IC QC s0 A0 n0 c0 l0 E0 u0 v0 e0 w' ⟨(h0.reads.below hb).more hb.size, h0.dgs, h0.fits, h0.small⟩ ⟨(k0.reads.below hb).more hb.size, k0.dgs, k0.fits, k0.small⟩ (hTb w w' hT hb))
 have S0 : SzQ 1048576 (fOf s0 l0 e0) := zbp h0 k0
 rw [hK] at S0
 obtain ⟨x, hz0⟩ : ∃ x, fOf s0 l0 e0 = x := ⟨_, rfl⟩
 rw [hz0] at HM0 S0 x0 hn
 have HS0 := Lib.hid S0
 have HM1 := Lib.hid (fun w' (hb : Below w.heap.size w w') => zaL hTb IC QC s1 A1 n1 c1 l1 E1 u1 v1 e1 w' ⟨(h1.reads.below hb).more hb.size, h1.dgs, h1.fits, h1.small⟩ ⟨(k1.reads.below hb).more hb.size, k1.dgs, k1.fits, k1.small⟩ (hTb w w' hT hb))
 have S1 : SzQ 1048576 (fOf s1 l1 e1) := zbp h1 k1
 rw [hK] at S1
 obtain ⟨y, hz1⟩ : ∃ x, fOf s1 l1 e1 = x := ⟨_, rfl⟩
 rw [hz1] at HM1 S1 hn
 have HS1 := Lib.hid S1
 obtain ⟨kc1, hkc1⟩ : ∃ c, zcI x.num y.num = c := ⟨_, rfl⟩
 have HC1 := Lib.hid hkc1
 have kb1 : (kc1 == 0) = false := by rw [beq_eq_false_iff_ne]; intro h9; rw [h9] at hkc1; exact hn ((zdt _ _).1 hkc1)
 clear hkc1
 have Hx0 := Lib.hid x0
 have Hhn := Lib.hid hn
 clear IC QC hT GC h0 k0 hz0 S0 h1 k1 hz1 S1 x0 hn hK
 go_enter Tryz.func7, Tryz.ntmps7
 have hB := Below.refl w.heap.size w
 obtain ⟨bx1, bx2, bx3, bz⟩ := zaW w 48 48 #[.bool s0, .slice A0 n0 c0, .slice E0 u0 v0] #[.bool s1, .slice A1 n1 c1, .slice E1 u1 v1]
 have hB := zab hB bx1
 obtain ⟨g1, e1, i1⟩ := bx2.c3
 obtain ⟨g2, e2, i2⟩ := bx3.c3
 clear bx1 bx2 bx3 bz
 go_wp2_with fail
 generalize (w.alloc (.cells #[.bool s0, .slice A0 n0 c0, .slice E0 u0 v0] 48)).alloc (.cells #[.bool s1, .slice A1 n1 c1, .slice E1 u1 v1] 48) = W1 at *
 (with_reducible refine (HAW.out _ hB).mono ?_)
 rintro e wc2 ⟨rfl, hb⟩
 have hB := zab hB hb
 have g1 := zaa hb g1
 have e1 := zaa hb e1
 have i1 := zaa hb i1
 have g2 := zaa hb g2
 have e2 := zaa hb e2
 have i2 := zaa hb i2
 clear hb 
 go_wp2_with fail
 have HZ3 : Hid (SzQ (K) (x)) := HS0.out
 have C0 := Lib.hid (fun w' (h : Below wc2.heap.size wc2 w') => HM0.out _ (zab hB h))
 have HZ4 : Hid (SzQ (K) (y)) := HS1.out
 have C1 := Lib.hid (fun w' (h : Below wc2.heap.size wc2 w') => HM1.out _ (zab hB h))
 have GG := Lib.hid (fun w' (h : Below wc2.heap.size wc2 w') => (csc (zaa h g1) (csc (zaa h e1) (csc (zaa h i1) (csc (zaa h g2) (csc (zaa h e2) (csc (zaa h i2) csn)))))))
 refine rgB (fun hHeld => ?_)
 refine tl 0 GG.out ?_
 try simp only [sb]
 refine tl 2 GG.out ?_
 try simp only [sb]
 refine zaw (L := #[true, true, true, true, true, true, true, true])
  (J := fun a0 l a w' => ∃ (fl1 fl3 fl4 fl5 fl6 fl7 b3 : Bool) (B3 : Option Addr) (m3 d3 : Nat) (E3 : Option Addr) (u3 v3 : Nat) (b4 : Bool) (B4 : Option Addr) (m4 d4 : Nat) (E4 : Option Addr) (u4 v4 ad4 ad5 : Nat), l = #[true, fl1, true, fl3, fl4, fl5, fl6, fl7] ∧ zaT [11, 13, 5, 6] a0 a ∧ Hid (Below wc2.heap.size wc2 w') ∧
    Hid (Gd fl1 (a.tmps.getD 11 undef = .agg #[.bool b3, .slice B3 m3 d3, .slice E3 u3 v3] ∧ zah w' (x) b3 B3 m3 d3 E3 u3 v3)) ∧
    Hid (Gd fl3 (a.tmps.getD 13 undef = .agg #[.bool b4, .slice B4 m4 d4, .slice E4 u4 v4] ∧ zah w' (y) b4 B4 m4 d4 E4 u4 v4)) ∧
    Hid (Gd fl4 (a.tmps.getD 5 undef = .pointer (some ⟨ad4, 0, none⟩) ∧ wc2.heap.size ≤ ad4 ∧ Blk w' ad4 31 (bif fl6 then #[.bool b3, .slice B3 m3 d3, .slice E3 u3 v3] else #[.bool false, .slice none 0 0, .slice none 0 0]))) ∧
    Hid (Gd fl5 (a.tmps.getD 6 undef = .pointer (some ⟨ad5, 0, none⟩) ∧ wc2.heap.size ≤ ad5 ∧ Blk w' ad5 31 (bif fl7 then #[.bool b4, .slice B4 m4 d4, .slice E4 u4 v4] else #[.bool false, .slice none 0 0, .slice none 0 0]))) ∧
    Hid (Gd fl4 (Gd fl5 (ad4 ≠ ad5))) ∧
    Hid (Gd fl3 (fl1 = true)) ∧
    Hid (Gd fl6 (fl1 = true)) ∧
    Hid (Gd fl6 (fl3 = true)) ∧
    Hid (Gd fl6 (fl4 = true)) ∧
    Hid (Gd fl7 (fl3 = true)) ∧
    Hid (Gd fl7 (fl5 = true)) ∧
    Hid (Gd fl7 (fl6 = true)))
  (by rfl) ?_ ?_ ?_
 ·exact ⟨false, false, false, false, false, false, false, none, 0, 0, none, 0, 0, false, none, 0, 0, none, 0, 0, 0, 0, by kernel_rfl, zaT.refl _ _, hHeld, Gd.no, Gd.no, Gd.no, Gd.no, Gd.no, Gd.no, Gd.no, Gd.no, Gd.no, Gd.no, Gd.no, Gd.no⟩
 ·intro OPS Ac0 Q0 hO hAs hA
  have RB10 : Ac0.tmps.getD 10 undef = .agg #[.bool s0, .slice A0 n0 c0, .slice E0 u0 v0] := (hA 10 undef).trans (by kernel_rfl)
  have RB12 : Ac0.tmps.getD 12 undef = .agg #[.bool s1, .slice A1 n1 c1, .slice E1 u1 v1] := (hA 12 undef).trans (by kernel_rfl)
  have hsz : Ac0.tmps.size = 68 := hAs.trans (by kernel_rfl)
  clear hAs hA
  refine ⟨?_, ?_⟩
  ·rintro l a w' ⟨fl1, fl3, fl4, fl5, fl6, fl7, b3, B3, m3, d3, E3, u3, v3, b4, B4, m4, d4, E4, u4, v4, ad4, ad5, rfl, -⟩ hr
   obtain rfl : fl1 = true := als 1 hr hO
   obtain rfl : fl3 = true := als 3 hr hO
   obtain rfl : fl4 = true := als 4 hr hO
   obtain rfl : fl5 = true := als 5 hr hO
   obtain rfl : fl6 = true := als 6 hr hO
   obtain rfl : fl7 = true := als 7 hr hO
   rfl
  ·rintro l a w' i ⟨fl1, fl3, fl4, fl5, fl6, fl7, b3, B3, m3, d3, E3, u3, v3, b4, B4, m4, d4, E4, u4, v4, ad4, ad5, rfl, HKp, hBi, qf1, qf3, qf4, qf5, qn4_5, qd3_1, qd6_1, qd6_3, qd6_4, qd7_3, qd7_5, qd7_6⟩ hne hi
   have hlt : i < 8 := by have := zaJ hi; rw [hO] at this; exact this
   rcases (show i = 0 ∨ i = 1 ∨ i = 2 ∨ i = 3 ∨ i = 4 ∨ i = 5 ∨ i = 6 ∨ i = 7 by omega) with rfl | rfl | rfl | rfl | rfl | rfl | rfl | rfl
   ·cases (zad hi : true = false)
   ·obtain rfl : fl1 = false := zad hi
    obtain rfl : fl3 = false := Gd.off qd3_1.out
    obtain rfl : fl6 = false := Gd.off qd6_1.out
    obtain rfl : fl7 = false := Gd.off qd7_3.out
    have rd10 := HKp.get 10 (by decide) RB10
    refine wog hO (fun K' hK => ?_)
    go_simp
    refine (C0.out w' hBi.out).mono ?_
    rintro e w2 ⟨nb3, nB3, nm3, nd3, nE3, nu3, nv3, rfl, nhw3, hb⟩
    exact hK.out _ _ ⟨zab hBi.out hb, true, false, fl4, fl5, false, false, nb3, nB3, nm3, nd3, nE3, nu3, nv3, b4, B4, m4, d4, E4, u4, v4, ad4, ad5, by rfl, HKp.put (by decide) _, zab hBi.out hb, Gd.yes ⟨zal (HKp.lt (by rw [hsz]; decide)) _, nhw3⟩, Gd.no, kq qf4.out fun h => ⟨h.1, zac hb h.2⟩, kq qf5.out fun h => ⟨h.1, zac hb h.2⟩, qn4_5, Gd.no, Gd.no, Gd.no, Gd.no, Gd.no, Gd.no, Gd.no⟩
   ·cases (zad hi : true = false)
   ·obtain rfl : fl3 = false := zad hi
    obtain rfl : fl1 = true := rdp 1 1 hi hO
    obtain rfl : fl6 = false := Gd.off qd6_3.out
    obtain rfl : fl7 = false := Gd.off qd7_3.out
    have rd12 := HKp.get 12 (by decide) RB12
    refine wog hO (fun K' hK => ?_)
    go_simp
    refine (C1.out w' hBi.out).mono ?_
    rintro e w2 ⟨nb4, nB4, nm4, nd4, nE4, nu4, nv4, rfl, nhw4, hb⟩
    exact hK.out _ _ ⟨zab hBi.out hb, true, true, fl4, fl5, false, false, b3, B3, m3, d3, E3, u3, v3, nb4, nB4, nm4, nd4, nE4, nu4, nv4, ad4, ad5, by rfl, HKp.put (by decide) _, zab hBi.out hb, kq qf1.out fun h => (h).below hb, Gd.yes ⟨zal (HKp.lt (by rw [hsz]; decide)) _, nhw4⟩, kq qf4.out fun h => ⟨h.1, zac hb h.2⟩, kq qf5.out fun h => ⟨h.1, zac hb h.2⟩, qn4_5, fun _ => rfl, Gd.no, Gd.no, Gd.no, Gd.no, Gd.no, Gd.no⟩
   ·obtain rfl : fl4 = false := zad hi
    obtain rfl : fl6 = false := Gd.off qd6_4.out
    obtain rfl : fl7 = false := Gd.off qd7_6.out
    refine wog hO (fun K' hK => ?_)
    go_simp
    have hb := zau w' (.cells #[.bool false, .slice none 0 0, .slice none 0 0] 31)
    exact hK.out _ _ ⟨zab hBi.out hb, fl1, fl3, true, fl5, false, false, b3, B3, m3, d3, E3, u3, v3, b4, B4, m4, d4, E4, u4, v4, w'.heap.size, ad5, by rfl, HKp.put (by decide) _, zab hBi.out hb, kq qf1.out fun h => (h).below hb, kq qf3.out fun h => (h).below hb, Gd.yes ⟨zal (HKp.lt (by rw [hsz]; decide)) _, hBi.out.size, Blk.new w' _ _⟩, kq qf5.out fun h => ⟨h.1, zac hb h.2⟩, Gd.yes (qf5.out.mono fun h => by have := Blk.lt h.2.2; omega), qd3_1, Gd.no, Gd.no, Gd.no, Gd.no, Gd.no, Gd.no⟩
   ·obtain rfl : fl5 = false := zad hi
    obtain rfl : fl7 = false := Gd.off qd7_5.out
    refine wog hO (fun K' hK => ?_)
    go_simp
    have hb := zau w' (.cells #[.bool false, .slice none 0 0, .slice none 0 0] 31)
    exact hK.out _ _ ⟨zab hBi.out hb, fl1, fl3, fl4, true, fl6, false, b3, B3, m3, d3, E3, u3, v3, b4, B4, m4, d4, E4, u4, v4, ad4, w'.heap.size, by rfl, HKp.put (by decide) _, zab hBi.out hb, kq qf1.out fun h => (h).below hb, kq qf3.out fun h => (h).below hb, kq qf4.out fun h => ⟨h.1, zac hb h.2⟩, Gd.yes ⟨zal (HKp.lt (by rw [hsz]; decide)) _, hBi.out.size, Blk.new w' _ _⟩, qf4.out.mono fun h => Gd.yes (by have := Blk.lt h.2.2; omega), qd3_1, qd6_1, qd6_3, qd6_4, Gd.no, Gd.no, Gd.no⟩
   ·obtain rfl : fl6 = false := zad hi
    obtain rfl : fl1 = true := rdp 1 1 hi hO
    obtain rfl : fl3 = true := rdp 3 2 hi hO
    obtain rfl : fl4 = true := rdp 4 0 hi hO
    obtain rfl : fl5 = true := rdp 5 8 hi hO
    obtain rfl : fl7 = false := Gd.off qd7_6.out
    have rd5 := qf4.out.get.1
    have rd11 := qf1.out.get.1
    obtain ⟨_, hg, hk⟩ := qf4.out.get
    have hk : Blk w' ad4 31 #[.bool false, .slice none 0 0, .slice none 0 0] := hk
    obtain ⟨sc0, sf0, sc1, sf1, sc2, sf2⟩ := st3 hk (.bool b3) (.slice B3 m3 d3)
    have hj2 := sn3 hk (.bool b3) (.slice B3 m3 d3) (.slice E3 u3 v3)
    have hBn := bl3 (.bool b3) (.slice B3 m3 d3) (.slice E3 u3 v3) hg hBi.out
    refine wog hO (fun K' hK => ?_)
    go_simp
    exact hK.out _ _ ⟨hBn, true, true, true, true, true, false, b3, B3, m3, d3, E3, u3, v3, b4, B4, m4, d4, E4, u4, v4, ad4, ad5, by rfl, HKp, hBn, qf1.out.mono fun h => ⟨h.1, zar (h.2) hk zaK (zaI _ _ _ _ _)⟩, qf3.out.mono fun h => ⟨h.1, zar (h.2) hk zaK (zaI _ _ _ _ _)⟩, qf4.out.mono fun h => ⟨h.1, h.2.1, hj2⟩, fun hf9 => (fun h => ⟨h.1, h.2.1, Blk.far (p := ⟨ad4, 2, none⟩) (Blk.far (p := ⟨ad4, 1, none⟩) (Blk.far (p := ⟨ad4, 0, none⟩) (h.2.2) (Ne.symm (qn4_5.out rfl hf9)) (.bool b3)) (Ne.symm (qn4_5.out rfl hf9)) (.slice B3 m3 d3)) (Ne.symm (qn4_5.out rfl hf9)) (.slice E3 u3 v3)⟩) (qf5.out hf9), qn4_5, fun _ => rfl, fun _ => rfl, fun _ => rfl, fun _ => rfl, Gd.no, Gd.no, Gd.no⟩
   ·obtain rfl : fl7 = false := zad hi
    obtain rfl : fl1 = true := rdp 1 4 hi hO
    obtain rfl : fl3 = true := rdp 3 1 hi hO
    obtain rfl : fl4 = true := rdp 4 7 hi hO
    obtain rfl : fl5 = true := rdp 5 0 hi hO
    obtain rfl : fl6 = true := rdp 6 2 hi hO
    have rd6 := qf5.out.get.1
    have rd13 := qf3.out.get.1
    obtain ⟨_, hg, hk⟩ := qf5.out.get
    have hk : Blk w' ad5 31 #[.bool false, .slice none 0 0, .slice none 0 0] := hk
    obtain ⟨sc0, sf0, sc1, sf1, sc2, sf2⟩ := st3 hk (.bool b4) (.slice B4 m4 d4)
    have hj2 := sn3 hk (.bool b4) (.slice B4 m4 d4) (.slice E4 u4 v4)
    have hBn := bl3 (.bool b4) (.slice B4 m4 d4) (.slice E4 u4 v4) hg hBi.out
    refine wog hO (fun K' hK => ?_)
    go_simp
    exact hK.out _ _ ⟨hBn, true, true, true, true, true, true, b3, B3, m3, d3, E3, u3, v3, b4, B4, m4, d4, E4, u4, v4, ad4, ad5, by rfl, HKp, hBn, qf1.out.mono fun h => ⟨h.1, zar (h.2) hk zaK (zaI _ _ _ _ _)⟩, qf3.out.mono fun h => ⟨h.1, zar (h.2) hk zaK (zaI _ _ _ _ _)⟩, fun hf9 => (fun h => ⟨h.1, h.2.1, Blk.far (p := ⟨ad5, 2, none⟩) (Blk.far (p := ⟨ad5, 1, none⟩) (Blk.far (p := ⟨ad5, 0, none⟩) (h.2.2) (qn4_5.out hf9 rfl) (.bool b4)) (qn4_5.out hf9 rfl) (.slice B4 m4 d4)) (qn4_5.out hf9 rfl) (.slice E4 u4 v4)⟩) (qf4.out hf9), qf5.out.mono fun h => ⟨h.1, h.2.1, hj2⟩, qn4_5, fun _ => rfl, fun _ => rfl, fun _ => rfl, fun _ => rfl, fun _ => rfl, fun _ => rfl, fun _ => rfl⟩
 rintro a wm3 ⟨fl1, fl3, fl4, fl5, fl6, fl7, b3, B3, m3, d3, E3, u3, v3, b4, B4, m4, d4, E4, u4, v4, ad4, ad5, hl, HKp, hBi, qf1, qf3, qf4, qf5, qn4_5, qd3_1, qd6_1, qd6_3, qd6_4, qd7_3, qd7_5, qd7_6⟩
 have xx1 : fl1 = true := gdl 1 hl
 subst xx1
 have xx3 : fl3 = true := gdl 3 hl
 subst xx3
 have xx4 : fl4 = true := gdl 4 hl
 subst xx4
 have xx5 : fl5 = true := gdl 5 hl
 subst xx5
 have xx6 : fl6 = true := gdl 6 hl
 subst xx6
 have xx7 : fl7 = true := gdl 7 hl
 subst xx7
 obtain ⟨rv1, hw3⟩ := qf1.out.get
 obtain ⟨rv3, hw4⟩ := qf3.out.get
 obtain ⟨rv4, hg4, hk4⟩ := qf4.out.get
 obtain ⟨rv5, hg5, hk5⟩ := qf5.out.get
 obtain rfl := HKp.eq [(11, .agg #[.bool b3, .slice B3 m3 d3, .slice E3 u3 v3]), (13, .agg #[.bool b4, .slice B4 m4 d4, .slice E4 u4 v4]), (5, .pointer (some ⟨ad4, 0, none⟩)), (6, .pointer (some ⟨ad5, 0, none⟩))] rfl (by
  intro p hp
  simp only [List.mem_cons, List.not_mem_nil, or_false] at hp
  rcases hp with rfl | rfl | rfl | rfl
  ·exact rv1
  ·exact rv3
  ·exact rv4
  ·exact rv5)
 have hBv := hBi.out
 clear hl hBi HKp qf1 qf3 qf4 qf5 qn4_5 qd3_1 qd6_1 qd6_3 qd6_4 qd7_3 qd7_5 qd7_6 rv1 rv3 rv4 rv5
 have hk4 : Blk wm3 ad4 31 #[.bool b3, .slice B3 m3 d3, .slice E3 u3 v3] := hk4
 have hk5 : Blk wm3 ad5 31 #[.bool b4, .slice B4 m4 d4, .slice E4 u4 v4] := hk5
 rw [show due #[true, true, true, true, true, true, true, true] = 0 from rfl]
 simp only [zaR, List.foldl, Act.put, List.setIfInBounds_toArray, List.set_cons_zero, List.set_cons_succ]
 refine wpAnyH_done (by kernel_rfl) ?_ _
 refine NoPanic.normal ?_
 have hB := zab hB hBv
 have g1 := zaa hBv g1
 have e1 := zaa hBv e1
 have i1 := zaa hBv i1
 have g2 := zaa hBv g2
 have e2 := zaa hBv e2
 have i2 := zaa hBv i2
 obtain ⟨ad4_5, hga⟩ : ∃ x, x = ad4 := ⟨_, rfl⟩
 subst hga
 obtain ⟨g5, e5, i5⟩ := hk4.c3
 obtain ⟨ad5_6, hga⟩ : ∃ x, x = ad5 := ⟨_, rfl⟩
 subst hga
 obtain ⟨g6, e6, i6⟩ := hk5.c3
 have HN3 := Lib.hid hw3
 have HN4 := Lib.hid hw4
 clear hBv hk4 hg4 hk5 hg5 hw3 hw4 GG
 clear C0 C1
 go_wp2_with fail
 have HZ7 : Hid (Sz (K) (x.num).natAbs) := SzQ.num HZ3.out
 have C0 := Lib.hid (fun w' (h : Below wm3.heap.size wm3 w') => HQC.out.num (x) b3 B3 m3 d3 E3 u3 v3 w' (HT.out _ (zab hB h)) (HN3.out.below h) (SzQ.fit HZ3.out HN3.out (by omega)))
 have HZ8 : Hid (Sz (K) (y.num).natAbs) := SzQ.num HZ4.out
 have C1 := Lib.hid (fun w' (h : Below wm3.heap.size wm3 w') => HQC.out.num (y) b4 B4 m4 d4 E4 u4 v4 w' (HT.out _ (zab hB h)) (HN4.out.below h) (SzQ.fit HZ4.out HN4.out (by omega)))
 have C2 := Lib.hid (fun w' (h : Below wm3.heap.size wm3 w') b7 B7 m7 d7 (hw7 : zaq w' (x.num) b7 B7 m7 d7) b8 B8 m8 d8 (hw8 : zaq w' (y.num) b8 B8 m8 d8) => zjf (v := kc1) (HC1.out) (HIC.out.cmp (x.num) (y.num) b7 b8 B7 B8 m7 m8 d7 d8 w' (HT.out _ (zab hB h)) hw7 hw8 (by have := Sz.words HZ7.out hw7.words; omega) (by have := Sz.words HZ8.out hw8.words; omega)))
 have hBw := (Below.refl wm3.heap.size wm3).drew
 refine rg (csc g5 (csc e5 (csc i5 (csc g6 (csc e6 (csc i6 csn)))))) (fun hHeld => ?_)
 refine tk 0 ?_
 try simp only [sb]
 refine tk 2 ?_
 try simp only [sb]
 refine rc 1 (fun K hK => ?_)
 go_simp
 go_at_call 17; (with_reducible refine (C0.out _ hBw).mono ?_); rintro e wa4 ⟨b7, B7, m7, d7, rfl, hw7, hb⟩; have hBw := zab hBw hb; refine hK.out _ _ (Cs.below hHeld hb) (fun hHeld => ?_); clear hK K hb
 try simp only [sb]
 refine rc 3 (fun K hK => ?_)
 go_simp
 go_at_call 17; (with_reducible refine (C1.out _ hBw).mono ?_); rintro e wa5 ⟨b8, B8, m8, d8, rfl, hw8, hb⟩; have hBw := zab hBw hb; have hw7 := hw7.below hb; refine hK.out _ _ (Cs.below hHeld hb) (fun hHeld => ?_); clear hK K hb
 try simp only [sb]
 refine rc 4 (fun K hK => ?_)
 go_simp
 go_at_call 43; (with_reducible refine (C2.out _ hBw _ _ _ _ hw7 _ _ _ _ hw8).mono ?_); rintro e wa6 ⟨rfl, hb⟩; have hBw := zab hBw hb; have hw7 := hw7.below hb; have hw8 := hw8.below hb; refine hK.out _ _ (Cs.below hHeld hb) (fun hHeld => ?_); clear hK K hb
 try simp only [sb]
 refine tk 5 ?_
 try simp only [sb]
 refine tk 6 ?_
 try simp only [sb]
 refine tu 7 ?_
 try simp only [sb]
 refine tu 8 ?_
 try simp only [sb]
 refine tu 9 ?_
 try simp only [sb]
 refine tu 10 ?_
 try simp only [sb]
 refine tu 11 ?_
 try simp only [sb]
 refine tu 12 ?_
 try simp only [sb]
 refine tk 13 ?_
 try simp only [sb]
 refine tk 14 ?_
 try simp only [sb]
 refine rdn ?_
 have hB := zab hB hBw
 have g1 := zaa hBw g1
 have e1 := zaa hBw e1
 have i1 := zaa hBw i1
 have g2 := zaa hBw g2
 have e2 := zaa hBw e2
 have i2 := zaa hBw i2
 have g5 := zaa hBw g5
 have e5 := zaa hBw e5
 have i5 := zaa hBw i5
 have g6 := zaa hBw g6
 have e6 := zaa hBw e6
 have i6 := zaa hBw i6
 have HN3 := Lib.hid (HN3.out.below hBw)
 have HN4 := Lib.hid (HN4.out.below hBw)
 have HN7 := Lib.hid hw7
 have HN8 := Lib.hid hw8
 clear hBw hHeld hw7 hw8 C0 C1 C2
 go_wp2_with fail
 have C0 := Lib.hid (fun w' (h : Below wa6.heap.size wa6 w') => zai (decide_eq_false (fun h9 => Hhn.out (by rw [h9]))) (HQC.out.same (x) (y) b3 b4 B3 B4 m3 m4 d3 d4 E3 E4 u3 u4 v3 v4 w' (HT.out _ (zab hB h)) (HN3.out.below h) (HN4.out.below h) (SzQ.fit HZ3.out HN3.out (by omega)) (SzQ.fit HZ4.out HN4.out (by omega))))
 have HZ9 : Hid (Sz (K) (x.num).natAbs) := SzQ.num HZ3.out
 have C1 := Lib.hid (fun w' (h : Below wa6.heap.size wa6 w') => HQC.out.num (x) b3 B3 m3 d3 E3 u3 v3 w' (HT.out _ (zab hB h)) (HN3.out.below h) (SzQ.fit HZ3.out HN3.out (by omega)))
 have HZ10 : Hid (Sz (K) (x.num.natAbs)) := HZ9.out
 have C2 := Lib.hid (fun w' (h : Below wa6.heap.size wa6 w') b9 B9 m9 d9 (hw9 : zaq w' (x.num) b9 B9 m9 d9) => HIC.out.abs (x.num) b9 B9 m9 d9 w' (HT.out _ (zab hB h)) hw9 (by have := Sz.words HZ9.out hw9.words; omega))
 have HZ11 : Hid (Sz (K) (x.den)) := SzQ.den HZ3.out
 have C3 := Lib.hid (fun w' (h : Below wa6.heap.size wa6 w') => HQC.out.den (x) b3 B3 m3 d3 E3 u3 v3 w' (HT.out _ (zab hB h)) (HN3.out.below h) (SzQ.fit HZ3.out HN3.out (by omega)))
 have CP12 : Hid (copB (x.num.natAbs) (x.den) = true) := (decide_eq_true (show Nat.gcd _ _ = 1 from x.reduced))
 have C4 := Lib.hid (fun w' (h : Below wa6.heap.size wa6 w') B10 m10 d10 (hw10 : zae w' (x.num.natAbs) B10 m10 d10) B11 m11 d11 (hw11 : zae w' (x.den) B11 m11 d11) => CP12.out ▸ HGC.out.coprime (x.num.natAbs) (x.den) B10 B11 m10 m11 d10 d11 w' hw10 hw11 (by have := Sz.words HZ10.out hw10; omega) (by have := Sz.words HZ11.out hw11; omega) (HTB.out _ (zab hB h)))
 have HZ13 : Hid (Sz (K) (x.den)) := SzQ.den HZ3.out
 have C5 := Lib.hid (fun w' (h : Below wa6.heap.size wa6 w') => HQC.out.den (x) b3 B3 m3 d3 E3 u3 v3 w' (HT.out _ (zab hB h)) (HN3.out.below h) (SzQ.fit HZ3.out HN3.out (by omega)))
 have C6 := Lib.hid (fun w' (h : Below wa6.heap.size wa6 w') B13 m13 d13 (hw13 : zae w' (x.den) B13 m13 d13) => zbm x.den_nz hw13)
 have C7 := Lib.hid (fun w' (h : Below wa6.heap.size wa6 w') => zai (decide_eq_true Hx0.out) (HQC.out.zero (x) b3 B3 m3 d3 E3 u3 v3 w' (HT.out _ (zab hB h)) (HN3.out.below h) (SzQ.fit HZ3.out HN3.out (by omega))))
 have C8 := Lib.hid (fun w' (h : Below wa6.heap.size wa6 w') => zai (decide_eq_true (by rw [Hx0.out]; rfl)) (HQC.out.isInt (x) b3 B3 m3 d3 E3 u3 v3 w' (HT.out _ (zab hB h)) (HN3.out.below h) (SzQ.fit HZ3.out HN3.out (by omega))))
 have HZ14 : Hid (Sz (K) (x.den)) := SzQ.den HZ3.out
 have C9 := Lib.hid (fun w' (h : Below wa6.heap.size wa6 w') => HQC.out.den (x) b3 B3 m3 d3 E3 u3 v3 w' (HT.out _ (zab hB h)) (HN3.out.below h) (SzQ.fit HZ3.out HN3.out (by omega)))
 have HZ15 : Hid (Sz (K) (((x.den : Nat) : Int)).natAbs) := (by rw [Int.natAbs_natCast]; exact HZ14.out)
 have C10 := Lib.hid (fun w' (h : Below wa6.heap.size wa6 w') B14 m14 d14 (hw14 : zae w' (x.den) B14 m14 d14) => zbG HIC.out (x.den) B14 m14 d14 w' (HT.out _ (zab hB h)) hw14 (by have := Sz.words HZ14.out hw14; omega))
 have HZ16 : Hid (SzQ (K) (((((x.den : Nat) : Int) : Int) : Rat))) := SzQ.whole HZ15.out (by omega)
 have C11 := Lib.hid (fun w' (h : Below wa6.heap.size wa6 w') b15 B15 m15 d15 (hw15 : zaq w' (((x.den : Nat) : Int)) b15 B15 m15 d15) => HQC.out.whole (((x.den : Nat) : Int)) b15 B15 m15 d15 w' (HT.out _ (zab hB h)) hw15 (by have := Sz.words HZ15.out hw15.words; omega))
 have HZ17 : Hid (SzQ (K + K) (x * (((((x.den : Nat) : Int) : Int) : Rat)))) := SzQ.mul HZ3.out HZ16.out
 have C12 := Lib.hid (fun w' (h : Below wa6.heap.size wa6 w') b16 B16 m16 d16 E16 u16 v16 (hw16 : zah w' (((((x.den : Nat) : Int) : Int) : Rat)) b16 B16 m16 d16 E16 u16 v16) => HQC.out.mul (x) (((((x.den : Nat) : Int) : Int) : Rat)) b3 b16 B3 B16 m3 m16 d3 d16 E3 E16 u3 u16 v3 v16 w' (HT.out _ (zab hB h)) (HN3.out.below h) hw16 (SzQ.fit HZ3.out HN3.out (by omega)) (SzQ.fit HZ16.out hw16 (by omega)))
 have HZ18 : Hid (Sz (K) (x.num).natAbs) := SzQ.num HZ3.out
 have C13 := Lib.hid (fun w' (h : Below wa6.heap.size wa6 w') => HQC.out.num (x) b3 B3 m3 d3 E3 u3 v3 w' (HT.out _ (zab hB h)) (HN3.out.below h) (SzQ.fit HZ3.out HN3.out (by omega)))
 have HZ19 : Hid (SzQ (K) (((x.num : Int) : Rat))) := SzQ.whole HZ18.out (by omega)
 have C14 := Lib.hid (fun w' (h : Below wa6.heap.size wa6 w') b18 B18 m18 d18 (hw18 : zaq w' (x.num) b18 B18 m18 d18) => HQC.out.whole (x.num) b18 B18 m18 d18 w' (HT.out _ (zab hB h)) hw18 (by have := Sz.words HZ18.out hw18.words; omega))
 have C15 := Lib.hid (fun w' (h : Below wa6.heap.size wa6 w') b17 B17 m17 d17 E17 u17 v17 (hw17 : zah w' (x * (((((x.den : Nat) : Int) : Int) : Rat))) b17 B17 m17 d17 E17 u17 v17) b19 B19 m19 d19 E19 u19 v19 (hw19 : zah w' (((x.num : Int) : Rat)) b19 B19 m19 d19 E19 u19 v19) => zai (decide_eq_true (zbL x)) (HQC.out.same (x * (((((x.den : Nat) : Int) : Int) : Rat))) (((x.num : Int) : Rat)) b17 b19 B17 B19 m17 m19 d17 d19 E17 E19 u17 u19 v17 v19 w' (HT.out _ (zab hB h)) hw17 hw19 (SzQ.fit HZ17.out hw17 (by omega)) (SzQ.fit HZ19.out hw19 (by omega))))
 have hBw := (Below.refl wa6.heap.size wa6).drew
 refine rg (csc g5 (csc e5 (csc i5 (csc g6 (csc e6 (csc i6 csn)))))) (fun hHeld => ?_)
 refine tk 0 ?_
 try simp only [sb]
 refine tk 1 ?_
 try simp only [sb]
 refine tk 3 ?_
 try simp only [sb]
 refine rc 2 (fun K hK => ?_)
 go_simp
 go_at_call 33; (with_reducible refine (C0.out _ hBw).mono ?_); rintro e wa7 ⟨rfl, hb⟩; have hBw := zab hBw hb; refine hK.out _ _ (Cs.below hHeld hb) (fun hHeld => ?_); clear hK K hb
 try simp only [sb]
 refine tk 4 ?_
 try simp only [sb]
 refine tk 5 ?_
 try simp only [sb]
 refine tk 6 ?_
 try simp only [sb]
 refine tk 9 ?_
 try simp only [sb]
 refine rc 7 (fun K hK => ?_)
 go_simp
 go_at_call 17; (with_reducible refine (C1.out _ hBw).mono ?_); rintro e wa8 ⟨b9, B9, m9, d9, rfl, hw9, hb⟩; have hBw := zab hBw hb; refine hK.out _ _ (Cs.below hHeld hb) (fun hHeld => ?_); clear hK K hb
 try simp only [sb]
 refine rc 8 (fun K hK => ?_)
 go_simp
 go_at_call 47; (with_reducible refine (C2.out _ hBw _ _ _ _ hw9).mono ?_); rintro e wa9 ⟨B10, m10, d10, rfl, hw10, hb⟩; have hBw := zab hBw hb; have hw9 := hw9.below hb; refine hK.out _ _ (Cs.below hHeld hb) (fun hHeld => ?_); clear hK K hb
 try simp only [sb]
 refine rc 10 (fun K hK => ?_)
 go_simp
 go_at_call 45; (with_reducible refine (C3.out _ hBw).mono ?_); rintro e wa10 ⟨B11, m11, d11, rfl, hw11, hb⟩; have hBw := zab hBw hb; have hw9 := hw9.below hb; have hw10 := hw10.below hb; refine hK.out _ _ (Cs.below hHeld hb) (fun hHeld => ?_); clear hK K hb
 try simp only [sb]
 refine rc 11 (fun K hK => ?_)
 go_simp
 go_at_call 46; (with_reducible refine (C4.out _ hBw _ _ _ hw10 _ _ _ hw11).mono ?_); rintro e wa11 ⟨rfl, hb⟩; have hBw := zab hBw hb; have hw9 := hw9.below hb; have hw10 := hw10.below hb; have hw11 := hw11.below hb; refine hK.out _ _ (Cs.below hHeld hb) (fun hHeld => ?_); clear hK K hb
 try simp only [sb]
 refine tk 12 ?_
 try simp only [sb]
 refine tk 13 ?_
 try simp only [sb]
 refine tk 14 ?_
 try simp only [sb]
 refine rc 15 (fun K hK => ?_)
 go_simp
 go_at_call 45; (with_reducible refine (C5.out _ hBw).mono ?_); rintro e wa12 ⟨B13, m13, d13, rfl, hw13, hb⟩; have hBw := zab hBw hb; have hw9 := hw9.below hb; have hw10 := hw10.below hb; have hw11 := hw11.below hb; refine hK.out _ _ (Cs.below hHeld hb) (fun hHeld => ?_); clear hK K hb
 try simp only [sb]
 refine rc 16 (fun K hK => ?_)
 go_simp
 go_at_call 48; (with_reducible refine (C6.out _ hBw _ _ _ hw13).mono ?_); rintro e wa13 ⟨rfl, hb⟩; have hBw := zab hBw hb; have hw9 := hw9.below hb; have hw10 := hw10.below hb; have hw11 := hw11.below hb; have hw13 := hw13.below hb; refine hK.out _ _ (Cs.below hHeld hb) (fun hHeld => ?_); clear hK K hb
 try simp only [sb]
 refine tk 17 ?_
 try simp only [sb]
 refine tk 18 ?_
 try simp only [sb]
 refine tk 19 ?_
 try simp only [sb]
 refine tk 20 ?_
 try simp only [sb]
 refine rc 21 (fun K hK => ?_)
 go_simp
 go_at_call 13; (with_reducible refine (C7.out _ hBw).mono ?_); rintro e wa14 ⟨rfl, hb⟩; have hBw := zab hBw hb; have hw9 := hw9.below hb; have hw10 := hw10.below hb; have hw11 := hw11.below hb; have hw13 := hw13.below hb; refine hK.out _ _ (Cs.below hHeld hb) (fun hHeld => ?_); clear hK K hb
 try simp only [sb]
 refine tk 22 ?_
 try simp only [sb]
 refine tk 23 ?_
 try simp only [sb]
 refine tk 24 ?_
 try simp only [sb]
 refine rc 25 (fun K hK => ?_)
 go_simp
 go_at_call 49; (with_reducible refine (C8.out _ hBw).mono ?_); rintro e wa15 ⟨rfl, hb⟩; have hBw := zab hBw hb; have hw9 := hw9.below hb; have hw10 := hw10.below hb; have hw11 := hw11.below hb; have hw13 := hw13.below hb; refine hK.out _ _ (Cs.below hHeld hb) (fun hHeld => ?_); clear hK K hb
 try simp only [sb]
 refine tk 26 ?_
 try simp only [sb]
 refine tk 27 ?_
 try simp only [sb]
 refine tk 28 ?_
 try simp only [sb]
 refine tk 29 ?_
 try simp only [sb]
 refine tk 30 ?_
 try simp only [sb]
 refine tk 35 ?_
 try simp only [sb]
 refine rc 31 (fun K hK => ?_)
 go_simp
 go_at_call 45; (with_reducible refine (C9.out _ hBw).mono ?_); rintro e wa16 ⟨B14, m14, d14, rfl, hw14, hb⟩; have hBw := zab hBw hb; have hw9 := hw9.below hb; have hw10 := hw10.below hb; have hw11 := hw11.below hb; have hw13 := hw13.below hb; refine hK.out _ _ (Cs.below hHeld hb) (fun hHeld => ?_); clear hK K hb
 try simp only [sb]
 refine rc 32 (fun K hK => ?_)
 go_simp
 go_at_call 51; (with_reducible refine (C10.out _ hBw _ _ _ hw14).mono ?_); rintro e wa17 ⟨b15, B15, m15, d15, rfl, hw15, hb⟩; have hBw := zab hBw hb; have hw9 := hw9.below hb; have hw10 := hw10.below hb; have hw11 := hw11.below hb; have hw13 := hw13.below hb; have hw14 := hw14.below hb; refine hK.out _ _ (Cs.below hHeld hb) (fun hHeld => ?_); clear hK K hb
 try simp only [sb]
 refine rc 33 (fun K hK => ?_)
 go_simp
 go_at_call 50; (with_reducible refine (C11.out _ hBw _ _ _ _ hw15).mono ?_); rintro e wa18 ⟨b16, B16, m16, d16, E16, u16, v16, rfl, hw16, hb⟩; have hBw := zab hBw hb; have hw9 := hw9.below hb; have hw10 := hw10.below hb; have hw11 := hw11.below hb; have hw13 := hw13.below hb; have hw14 := hw14.below hb; have hw15 := hw15.below hb; refine hK.out _ _ (Cs.below hHeld hb) (fun hHeld => ?_); clear hK K hb
 try simp only [sb]
 refine rc 34 (fun K hK => ?_)
 go_simp
 go_at_call 26; (with_reducible refine (C12.out _ hBw _ _ _ _ _ _ _ hw16).mono ?_); rintro e wa19 ⟨b17, B17, m17, d17, E17, u17, v17, rfl, hw17, hb⟩; have hBw := zab hBw hb; have hw9 := hw9.below hb; have hw10 := hw10.below hb; have hw11 := hw11.below hb; have hw13 := hw13.below hb; have hw14 := hw14.below hb; have hw15 := hw15.below hb; have hw16 := hw16.below hb; refine hK.out _ _ (Cs.below hHeld hb) (fun hHeld => ?_); clear hK K hb
 try simp only [sb]
 refine rc 36 (fun K hK => ?_)
 go_simp
 go_at_call 17; (with_reducible refine (C13.out _ hBw).mono ?_); rintro e wa20 ⟨b18, B18, m18, d18, rfl, hw18, hb⟩; have hBw := zab hBw hb; have hw9 := hw9.below hb; have hw10 := hw10.below hb; have hw11 := hw11.below hb; have hw13 := hw13.below hb; have hw14 := hw14.below hb; have hw15 := hw15.below hb; have hw16 := hw16.below hb; have hw17 := hw17.below hb; refine hK.out _ _ (Cs.below hHeld hb) (fun hHeld => ?_); clear hK K hb
 try simp only [sb]
 refine rc 37 (fun K hK => ?_)
 go_simp
 go_at_call 50; (with_reducible refine (C14.out _ hBw _ _ _ _ hw18).mono ?_); rintro e wa21 ⟨b19, B19, m19, d19, E19, u19, v19, rfl, hw19, hb⟩; have hBw := zab hBw hb; have hw9 := hw9.below hb; have hw10 := hw10.below hb; have hw11 := hw11.below hb; have hw13 := hw13.below hb; have hw14 := hw14.below hb; have hw15 := hw15.below hb; have hw16 := hw16.below hb; have hw17 := hw17.below hb; have hw18 := hw18.below hb; refine hK.out _ _ (Cs.below hHeld hb) (fun hHeld => ?_); clear hK K hb
 try simp only [sb]
 refine rc 38 (fun K hK => ?_)
 go_simp
 go_at_call 33; (with_reducible refine (C15.out _ hBw _ _ _ _ _ _ _ hw17 _ _ _ _ _ _ _ hw19).mono ?_); rintro e wa22 ⟨rfl, hb⟩; have hBw := zab hBw hb; have hw9 := hw9.below hb; have hw10 := hw10.below hb; have hw11 := hw11.below hb; have hw13 := hw13.below hb; have hw14 := hw14.below hb; have hw15 := hw15.below hb; have hw16 := hw16.below hb; have hw17 := hw17.below hb; have hw18 := hw18.below hb; have hw19 := hw19.below hb; refine hK.out _ _ (Cs.below hHeld hb) (fun hHeld => ?_); clear hK K hb
 try simp only [sb]
 refine tk 39 ?_
 try simp only [sb]
 refine tk 40 ?_
 try simp only [sb]
 refine rdn ?_
 have hB := zab hB hBw
 have g1 := zaa hBw g1
 have e1 := zaa hBw e1
 have i1 := zaa hBw i1
 have g2 := zaa hBw g2
 have e2 := zaa hBw e2
 have i2 := zaa hBw i2
 have g5 := zaa hBw g5
 have e5 := zaa hBw e5
 have i5 := zaa hBw i5
 have g6 := zaa hBw g6
 have e6 := zaa hBw e6
 have i6 := zaa hBw i6
 have HN3 := Lib.hid (HN3.out.below hBw)
 have HN4 := Lib.hid (HN4.out.below hBw)
 have HN7 := Lib.hid (HN7.out.below hBw)
 have HN8 := Lib.hid (HN8.out.below hBw)
 have HN9 := Lib.hid hw9
 have HN10 := Lib.hid hw10
 have HN11 := Lib.hid hw11
 have HN13 := Lib.hid hw13
 have HN14 := Lib.hid hw14
 have HN15 := Lib.hid hw15
 have HN16 := Lib.hid hw16
 have HN17 := Lib.hid hw17
 have HN18 := Lib.hid hw18
 have HN19 := Lib.hid hw19
 clear hBw hHeld hw9 hw10 hw11 hw13 hw14 hw15 hw16 hw17 hw18 hw19 C0 C1 C2 C3 C4 C5 C6 C7 C8 C9 C10 C11 C12 C13 C14 C15
 go_wp2
 go_ret
 exact ⟨by first | rfl | simp, hB⟩
set_option maxHeartbeats 16000000 in
theorem zhN {T : World → Prop} (hTb : ∀ w w', T w → Below w.heap.size w w' → T w') (IC : IntC T) (QC : RatC T) (GC : GcdC) (hTT : ∀ w, T w → zan w) (s0 : Bool) (A0 : Option Addr) (n0 c0 : Nat) (l0 : List Nat) (E0 : Option Addr) (u0 v0 : Nat) (e0 : List Nat) (s1 : Bool) (A1 : Option Addr) (n1 c1 : Nat) (l1 : List Nat) (E1 : Option Addr) (u1 v1 : Nat) (e1 : List Nat) (w : World) (h0 : zap w A0 n0 c0 l0) (k0 : zap w E0 u0 v0 e0) (h1 : zap w A1 n1 c1 l1) (k1 : zap w E1 u1 v1 e1) (x0 : fOf s0 l0 e0 ≠ 0) (hn : (fOf s0 l0 e0).num = (fOf s1 l1 e1).num) (hd : (fOf s0 l0 e0).den ≠ (fOf s1 l1 e1).den) (hT : T w) :
  Calls Tryz.prog 7 #[.agg #[.bool s0, .slice A0 n0 c0, .slice E0 u0 v0], .agg #[.bool s1, .slice A1 n1 c1, .slice E1 u1 v1]] w fun e w' => e = .returned (.bool true) ∧ Below w.heap.size w w' := by
 have HAW := Lib.hid (fun w' (hb : Below w.heap.size w w') => zbn hTb IC QC w' (hTb w w' hT hb))
 have HIC := Lib.hid IC
 have HQC := Lib.hid QC
 have HT := Lib.hid (fun w' (hb : Below w.heap.size w w') => hTb w w' hT hb)
 have HGC := Lib.hid GC
 have HTB := Lib.hid (fun w' (hb : Below w.heap.size w w') => hTT w' (hTb w w' hT hb))
 obtain ⟨K, hK⟩ : ∃ K, 1048576 = K := ⟨_, rfl⟩
 have hKK : K ≤ 1048576 := by omega
 have hK0 : 0 < K := by omega
 have HM0 := Lib.hid (fun w' (hb : Below w.heap.size w w') => zaL hTb IC QC s0 A0 n0 c0 l0 E0 u0 v0 e0 w' ⟨(h0.reads.below hb).more hb.size, h0.dgs, h0.fits, h0.small⟩ ⟨(k0.reads.below hb).more hb.size, k0.dgs, k0.fits, k0.small⟩ (hTb w w' hT hb))
 have S0 : SzQ 1048576 (fOf s0 l0 e0) := zbp h0 k0
 rw [hK] at S0
 obtain ⟨x, hz0⟩ : ∃ x, fOf s0 l0 e0 = x := ⟨_, rfl⟩
 rw [hz0] at HM0 S0 x0 hn hd
 have HS0 := Lib.hid S0
 have HM1 := Lib.hid (fun w' (hb : Below w.heap.size w w') => zaL hTb IC QC s1 A1 n1 c1 l1 E1 u1 v1 e1 w' ⟨(h1.reads.below hb).more hb.size, h1.dgs, h1.fits, h1.small⟩ ⟨(k1.reads.below hb).more hb.size, k1.dgs, k1.fits, k1.small⟩ (hTb w w' hT hb))
 have S1 : SzQ 1048576 (fOf s1 l1 e1) := zbp h1 k1
 rw [hK] at S1
 obtain ⟨y, hz1⟩ : ∃ x, fOf s1 l1 e1 = x := ⟨_, rfl⟩
 rw [hz1] at HM1 S1 hn hd
 have HS1 := Lib.hid S1
 obtain ⟨kc1, hkc1⟩ : ∃ c, zbx x.den y.den = c := ⟨_, rfl⟩
 have HC1 := Lib.hid hkc1
 have kb1 : (kc1 == 0) = false := by
  rw [beq_eq_false_iff_ne]
  intro h9
  rw [h9] at hkc1
  rcases Nat.lt_trichotomy x.den y.den with h8 | h8 | h8
  ·rw [zbZ h8] at hkc1; omega
  ·exact hd h8
  ·rw [zcm h8] at hkc1; omega
 clear hkc1
 have Hx0 := Lib.hid x0
 have Hhn := Lib.hid hn
 have Hhd := Lib.hid hd
 clear IC QC hT GC h0 k0 hz0 S0 h1 k1 hz1 S1 x0 hn hd hK
 go_enter Tryz.func7, Tryz.ntmps7
 have hB := Below.refl w.heap.size w
 obtain ⟨bx1, bx2, bx3, bz⟩ := zaW w 48 48 #[.bool s0, .slice A0 n0 c0, .slice E0 u0 v0] #[.bool s1, .slice A1 n1 c1, .slice E1 u1 v1]
 have hB := zab hB bx1
 obtain ⟨g1, e1, i1⟩ := bx2.c3
 obtain ⟨g2, e2, i2⟩ := bx3.c3
 clear bx1 bx2 bx3 bz
 go_wp2_with fail
 generalize (w.alloc (.cells #[.bool s0, .slice A0 n0 c0, .slice E0 u0 v0] 48)).alloc (.cells #[.bool s1, .slice A1 n1 c1, .slice E1 u1 v1] 48) = W1 at *
 (with_reducible refine (HAW.out _ hB).mono ?_)
 rintro e wc2 ⟨rfl, hb⟩
 have hB := zab hB hb
 have g1 := zaa hb g1
 have e1 := zaa hb e1
 have i1 := zaa hb i1
 have g2 := zaa hb g2
 have e2 := zaa hb e2
 have i2 := zaa hb i2
 clear hb 
 go_wp2_with fail
 have HZ3 : Hid (SzQ (K) (x)) := HS0.out
 have C0 := Lib.hid (fun w' (h : Below wc2.heap.size wc2 w') => HM0.out _ (zab hB h))
 have HZ4 : Hid (SzQ (K) (y)) := HS1.out
 have C1 := Lib.hid (fun w' (h : Below wc2.heap.size wc2 w') => HM1.out _ (zab hB h))
 have GG := Lib.hid (fun w' (h : Below wc2.heap.size wc2 w') => (csc (zaa h g1) (csc (zaa h e1) (csc (zaa h i1) (csc (zaa h g2) (csc (zaa h e2) (csc (zaa h i2) csn)))))))
 refine rgB (fun hHeld => ?_)
 refine tl 0 GG.out ?_
 try simp only [sb]
 refine tl 2 GG.out ?_
 try simp only [sb]
 refine zaw (L := #[true, true, true, true, true, true, true, true])
  (J := fun a0 l a w' => ∃ (fl1 fl3 fl4 fl5 fl6 fl7 b3 : Bool) (B3 : Option Addr) (m3 d3 : Nat) (E3 : Option Addr) (u3 v3 : Nat) (b4 : Bool) (B4 : Option Addr) (m4 d4 : Nat) (E4 : Option Addr) (u4 v4 ad4 ad5 : Nat), l = #[true, fl1, true, fl3, fl4, fl5, fl6, fl7] ∧ zaT [11, 13, 5, 6] a0 a ∧ Hid (Below wc2.heap.size wc2 w') ∧
    Hid (Gd fl1 (a.tmps.getD 11 undef = .agg #[.bool b3, .slice B3 m3 d3, .slice E3 u3 v3] ∧ zah w' (x) b3 B3 m3 d3 E3 u3 v3)) ∧
    Hid (Gd fl3 (a.tmps.getD 13 undef = .agg #[.bool b4, .slice B4 m4 d4, .slice E4 u4 v4] ∧ zah w' (y) b4 B4 m4 d4 E4 u4 v4)) ∧
    Hid (Gd fl4 (a.tmps.getD 5 undef = .pointer (some ⟨ad4, 0, none⟩) ∧ wc2.heap.size ≤ ad4 ∧ Blk w' ad4 31 (bif fl6 then #[.bool b3, .slice B3 m3 d3, .slice E3 u3 v3] else #[.bool false, .slice none 0 0, .slice none 0 0]))) ∧
    Hid (Gd fl5 (a.tmps.getD 6 undef = .pointer (some ⟨ad5, 0, none⟩) ∧ wc2.heap.size ≤ ad5 ∧ Blk w' ad5 31 (bif fl7 then #[.bool b4, .slice B4 m4 d4, .slice E4 u4 v4] else #[.bool false, .slice none 0 0, .slice none 0 0]))) ∧
    Hid (Gd fl4 (Gd fl5 (ad4 ≠ ad5))) ∧
    Hid (Gd fl3 (fl1 = true)) ∧
    Hid (Gd fl6 (fl1 = true)) ∧
    Hid (Gd fl6 (fl3 = true)) ∧
    Hid (Gd fl6 (fl4 = true)) ∧
    Hid (Gd fl7 (fl3 = true)) ∧
    Hid (Gd fl7 (fl5 = true)) ∧
    Hid (Gd fl7 (fl6 = true)))
  (by rfl) ?_ ?_ ?_
 ·exact ⟨false, false, false, false, false, false, false, none, 0, 0, none, 0, 0, false, none, 0, 0, none, 0, 0, 0, 0, by kernel_rfl, zaT.refl _ _, hHeld, Gd.no, Gd.no, Gd.no, Gd.no, Gd.no, Gd.no, Gd.no, Gd.no, Gd.no, Gd.no, Gd.no, Gd.no⟩
 ·intro OPS Ac0 Q0 hO hAs hA
  have RB10 : Ac0.tmps.getD 10 undef = .agg #[.bool s0, .slice A0 n0 c0, .slice E0 u0 v0] := (hA 10 undef).trans (by kernel_rfl)
  have RB12 : Ac0.tmps.getD 12 undef = .agg #[.bool s1, .slice A1 n1 c1, .slice E1 u1 v1] := (hA 12 undef).trans (by kernel_rfl)
  have hsz : Ac0.tmps.size = 68 := hAs.trans (by kernel_rfl)
  clear hAs hA
  refine ⟨?_, ?_⟩
  ·rintro l a w' ⟨fl1, fl3, fl4, fl5, fl6, fl7, b3, B3, m3, d3, E3, u3, v3, b4, B4, m4, d4, E4, u4, v4, ad4, ad5, rfl, -⟩ hr
   obtain rfl : fl1 = true := als 1 hr hO
   obtain rfl : fl3 = true := als 3 hr hO
   obtain rfl : fl4 = true := als 4 hr hO
   obtain rfl : fl5 = true := als 5 hr hO
   obtain rfl : fl6 = true := als 6 hr hO
   obtain rfl : fl7 = true := als 7 hr hO
   rfl
  ·rintro l a w' i ⟨fl1, fl3, fl4, fl5, fl6, fl7, b3, B3, m3, d3, E3, u3, v3, b4, B4, m4, d4, E4, u4, v4, ad4, ad5, rfl, HKp, hBi, qf1, qf3, qf4, qf5, qn4_5, qd3_1, qd6_1, qd6_3, qd6_4, qd7_3, qd7_5, qd7_6⟩ hne hi
   have hlt : i < 8 := by have := zaJ hi; rw [hO] at this; exact this
   rcases (show i = 0 ∨ i = 1 ∨ i = 2 ∨ i = 3 ∨ i = 4 ∨ i = 5 ∨ i = 6 ∨ i = 7 by omega) with rfl | rfl | rfl | rfl | rfl | rfl | rfl | rfl
   ·cases (zad hi : true = false)
   ·obtain rfl : fl1 = false := zad hi
    obtain rfl : fl3 = false := Gd.off qd3_1.out
    obtain rfl : fl6 = false := Gd.off qd6_1.out
    obtain rfl : fl7 = false := Gd.off qd7_3.out
    have rd10 := HKp.get 10 (by decide) RB10
    refine wog hO (fun K' hK => ?_)
    go_simp
    refine (C0.out w' hBi.out).mono ?_
    rintro e w2 ⟨nb3, nB3, nm3, nd3, nE3, nu3, nv3, rfl, nhw3, hb⟩
    exact hK.out _ _ ⟨zab hBi.out hb, true, false, fl4, fl5, false, false, nb3, nB3, nm3, nd3, nE3, nu3, nv3, b4, B4, m4, d4, E4, u4, v4, ad4, ad5, by rfl, HKp.put (by decide) _, zab hBi.out hb, Gd.yes ⟨zal (HKp.lt (by rw [hsz]; decide)) _, nhw3⟩, Gd.no, kq qf4.out fun h => ⟨h.1, zac hb h.2⟩, kq qf5.out fun h => ⟨h.1, zac hb h.2⟩, qn4_5, Gd.no, Gd.no, Gd.no, Gd.no, Gd.no, Gd.no, Gd.no⟩
   ·cases (zad hi : true = false)
   ·obtain rfl : fl3 = false := zad hi
    obtain rfl : fl1 = true := rdp 1 1 hi hO
    obtain rfl : fl6 = false := Gd.off qd6_3.out
    obtain rfl : fl7 = false := Gd.off qd7_3.out
    have rd12 := HKp.get 12 (by decide) RB12
    refine wog hO (fun K' hK => ?_)
    go_simp
    refine (C1.out w' hBi.out).mono ?_
    rintro e w2 ⟨nb4, nB4, nm4, nd4, nE4, nu4, nv4, rfl, nhw4, hb⟩
    exact hK.out _ _ ⟨zab hBi.out hb, true, true, fl4, fl5, false, false, b3, B3, m3, d3, E3, u3, v3, nb4, nB4, nm4, nd4, nE4, nu4, nv4, ad4, ad5, by rfl, HKp.put (by decide) _, zab hBi.out hb, kq qf1.out fun h => (h).below hb, Gd.yes ⟨zal (HKp.lt (by rw [hsz]; decide)) _, nhw4⟩, kq qf4.out fun h => ⟨h.1, zac hb h.2⟩, kq qf5.out fun h => ⟨h.1, zac hb h.2⟩, qn4_5, fun _ => rfl, Gd.no, Gd.no, Gd.no, Gd.no, Gd.no, Gd.no⟩
   ·obtain rfl : fl4 = false := zad hi
    obtain rfl : fl6 = false := Gd.off qd6_4.out
    obtain rfl : fl7 = false := Gd.off qd7_6.out
    refine wog hO (fun K' hK => ?_)
    go_simp
    have hb := zau w' (.cells #[.bool false, .slice none 0 0, .slice none 0 0] 31)
    exact hK.out _ _ ⟨zab hBi.out hb, fl1, fl3, true, fl5, false, false, b3, B3, m3, d3, E3, u3, v3, b4, B4, m4, d4, E4, u4, v4, w'.heap.size, ad5, by rfl, HKp.put (by decide) _, zab hBi.out hb, kq qf1.out fun h => (h).below hb, kq qf3.out fun h => (h).below hb, Gd.yes ⟨zal (HKp.lt (by rw [hsz]; decide)) _, hBi.out.size, Blk.new w' _ _⟩, kq qf5.out fun h => ⟨h.1, zac hb h.2⟩, Gd.yes (qf5.out.mono fun h => by have := Blk.lt h.2.2; omega), qd3_1, Gd.no, Gd.no, Gd.no, Gd.no, Gd.no, Gd.no⟩
   ·obtain rfl : fl5 = false := zad hi
    obtain rfl : fl7 = false := Gd.off qd7_5.out
    refine wog hO (fun K' hK => ?_)
    go_simp
    have hb := zau w' (.cells #[.bool false, .slice none 0 0, .slice none 0 0] 31)
    exact hK.out _ _ ⟨zab hBi.out hb, fl1, fl3, fl4, true, fl6, false, b3, B3, m3, d3, E3, u3, v3, b4, B4, m4, d4, E4, u4, v4, ad4, w'.heap.size, by rfl, HKp.put (by decide) _, zab hBi.out hb, kq qf1.out fun h => (h).below hb, kq qf3.out fun h => (h).below hb, kq qf4.out fun h => ⟨h.1, zac hb h.2⟩, Gd.yes ⟨zal (HKp.lt (by rw [hsz]; decide)) _, hBi.out.size, Blk.new w' _ _⟩, qf4.out.mono fun h => Gd.yes (by have := Blk.lt h.2.2; omega), qd3_1, qd6_1, qd6_3, qd6_4, Gd.no, Gd.no, Gd.no⟩
   ·obtain rfl : fl6 = false := zad hi
    obtain rfl : fl1 = true := rdp 1 1 hi hO
    obtain rfl : fl3 = true := rdp 3 2 hi hO
    obtain rfl : fl4 = true := rdp 4 0 hi hO
    obtain rfl : fl5 = true := rdp 5 8 hi hO
    obtain rfl : fl7 = false := Gd.off qd7_6.out
    have rd5 := qf4.out.get.1
    have rd11 := qf1.out.get.1
    obtain ⟨_, hg, hk⟩ := qf4.out.get
    have hk : Blk w' ad4 31 #[.bool false, .slice none 0 0, .slice none 0 0] := hk
    obtain ⟨sc0, sf0, sc1, sf1, sc2, sf2⟩ := st3 hk (.bool b3) (.slice B3 m3 d3)
    have hj2 := sn3 hk (.bool b3) (.slice B3 m3 d3) (.slice E3 u3 v3)
    have hBn := bl3 (.bool b3) (.slice B3 m3 d3) (.slice E3 u3 v3) hg hBi.out
    refine wog hO (fun K' hK => ?_)
    go_simp
    exact hK.out _ _ ⟨hBn, true, true, true, true, true, false, b3, B3, m3, d3, E3, u3, v3, b4, B4, m4, d4, E4, u4, v4, ad4, ad5, by rfl, HKp, hBn, qf1.out.mono fun h => ⟨h.1, zar (h.2) hk zaK (zaI _ _ _ _ _)⟩, qf3.out.mono fun h => ⟨h.1, zar (h.2) hk zaK (zaI _ _ _ _ _)⟩, qf4.out.mono fun h => ⟨h.1, h.2.1, hj2⟩, fun hf9 => (fun h => ⟨h.1, h.2.1, Blk.far (p := ⟨ad4, 2, none⟩) (Blk.far (p := ⟨ad4, 1, none⟩) (Blk.far (p := ⟨ad4, 0, none⟩) (h.2.2) (Ne.symm (qn4_5.out rfl hf9)) (.bool b3)) (Ne.symm (qn4_5.out rfl hf9)) (.slice B3 m3 d3)) (Ne.symm (qn4_5.out rfl hf9)) (.slice E3 u3 v3)⟩) (qf5.out hf9), qn4_5, fun _ => rfl, fun _ => rfl, fun _ => rfl, fun _ => rfl, Gd.no, Gd.no, Gd.no⟩
   ·obtain rfl : fl7 = false := zad hi
    obtain rfl : fl1 = true := rdp 1 4 hi hO
    obtain rfl : fl3 = true := rdp 3 1 hi hO
    obtain rfl : fl4 = true := rdp 4 7 hi hO
    obtain rfl : fl5 = true := rdp 5 0 hi hO
    obtain rfl : fl6 = true := rdp 6 2 hi hO
    have rd6 := qf5.out.get.1
    have rd13 := qf3.out.get.1
    obtain ⟨_, hg, hk⟩ := qf5.out.get
    have hk : Blk w' ad5 31 #[.bool false, .slice none 0 0, .slice none 0 0] := hk
    obtain ⟨sc0, sf0, sc1, sf1, sc2, sf2⟩ := st3 hk (.bool b4) (.slice B4 m4 d4)
    have hj2 := sn3 hk (.bool b4) (.slice B4 m4 d4) (.slice E4 u4 v4)
    have hBn := bl3 (.bool b4) (.slice B4 m4 d4) (.slice E4 u4 v4) hg hBi.out
    refine wog hO (fun K' hK => ?_)
    go_simp
    exact hK.out _ _ ⟨hBn, true, true, true, true, true, true, b3, B3, m3, d3, E3, u3, v3, b4, B4, m4, d4, E4, u4, v4, ad4, ad5, by rfl, HKp, hBn, qf1.out.mono fun h => ⟨h.1, zar (h.2) hk zaK (zaI _ _ _ _ _)⟩, qf3.out.mono fun h => ⟨h.1, zar (h.2) hk zaK (zaI _ _ _ _ _)⟩, fun hf9 => (fun h => ⟨h.1, h.2.1, Blk.far (p := ⟨ad5, 2, none⟩) (Blk.far (p := ⟨ad5, 1, none⟩) (Blk.far (p := ⟨ad5, 0, none⟩) (h.2.2) (qn4_5.out hf9 rfl) (.bool b4)) (qn4_5.out hf9 rfl) (.slice B4 m4 d4)) (qn4_5.out hf9 rfl) (.slice E4 u4 v4)⟩) (qf4.out hf9), qf5.out.mono fun h => ⟨h.1, h.2.1, hj2⟩, qn4_5, fun _ => rfl, fun _ => rfl, fun _ => rfl, fun _ => rfl, fun _ => rfl, fun _ => rfl, fun _ => rfl⟩
 rintro a wm3 ⟨fl1, fl3, fl4, fl5, fl6, fl7, b3, B3, m3, d3, E3, u3, v3, b4, B4, m4, d4, E4, u4, v4, ad4, ad5, hl, HKp, hBi, qf1, qf3, qf4, qf5, qn4_5, qd3_1, qd6_1, qd6_3, qd6_4, qd7_3, qd7_5, qd7_6⟩
 have xx1 : fl1 = true := gdl 1 hl
 subst xx1
 have xx3 : fl3 = true := gdl 3 hl
 subst xx3
 have xx4 : fl4 = true := gdl 4 hl
 subst xx4
 have xx5 : fl5 = true := gdl 5 hl
 subst xx5
 have xx6 : fl6 = true := gdl 6 hl
 subst xx6
 have xx7 : fl7 = true := gdl 7 hl
 subst xx7
 obtain ⟨rv1, hw3⟩ := qf1.out.get
 obtain ⟨rv3, hw4⟩ := qf3.out.get
 obtain ⟨rv4, hg4, hk4⟩ := qf4.out.get
 obtain ⟨rv5, hg5, hk5⟩ := qf5.out.get
 obtain rfl := HKp.eq [(11, .agg #[.bool b3, .slice B3 m3 d3, .slice E3 u3 v3]), (13, .agg #[.bool b4, .slice B4 m4 d4, .slice E4 u4 v4]), (5, .pointer (some ⟨ad4, 0, none⟩)), (6, .pointer (some ⟨ad5, 0, none⟩))] rfl (by
  intro p hp
  simp only [List.mem_cons, List.not_mem_nil, or_false] at hp
  rcases hp with rfl | rfl | rfl | rfl
  ·exact rv1
  ·exact rv3
  ·exact rv4
  ·exact rv5)
 have hBv := hBi.out
 clear hl hBi HKp qf1 qf3 qf4 qf5 qn4_5 qd3_1 qd6_1 qd6_3 qd6_4 qd7_3 qd7_5 qd7_6 rv1 rv3 rv4 rv5
 have hk4 : Blk wm3 ad4 31 #[.bool b3, .slice B3 m3 d3, .slice E3 u3 v3] := hk4
 have hk5 : Blk wm3 ad5 31 #[.bool b4, .slice B4 m4 d4, .slice E4 u4 v4] := hk5
 rw [show due #[true, true, true, true, true, true, true, true] = 0 from rfl]
 simp only [zaR, List.foldl, Act.put, List.setIfInBounds_toArray, List.set_cons_zero, List.set_cons_succ]
 refine wpAnyH_done (by kernel_rfl) ?_ _
 refine NoPanic.normal ?_
 have hB := zab hB hBv
 have g1 := zaa hBv g1
 have e1 := zaa hBv e1
 have i1 := zaa hBv i1
 have g2 := zaa hBv g2
 have e2 := zaa hBv e2
 have i2 := zaa hBv i2
 obtain ⟨ad4_5, hga⟩ : ∃ x, x = ad4 := ⟨_, rfl⟩
 subst hga
 obtain ⟨g5, e5, i5⟩ := hk4.c3
 obtain ⟨ad5_6, hga⟩ : ∃ x, x = ad5 := ⟨_, rfl⟩
 subst hga
 obtain ⟨g6, e6, i6⟩ := hk5.c3
 have HN3 := Lib.hid hw3
 have HN4 := Lib.hid hw4
 clear hBv hk4 hg4 hk5 hg5 hw3 hw4 GG
 clear C0 C1
 go_wp2_with fail
 have HZ7 : Hid (Sz (K) (x.num).natAbs) := SzQ.num HZ3.out
 have C0 := Lib.hid (fun w' (h : Below wm3.heap.size wm3 w') => HQC.out.num (x) b3 B3 m3 d3 E3 u3 v3 w' (HT.out _ (zab hB h)) (HN3.out.below h) (SzQ.fit HZ3.out HN3.out (by omega)))
 have HZ8 : Hid (Sz (K) (y.num).natAbs) := SzQ.num HZ4.out
 have C1 := Lib.hid (fun w' (h : Below wm3.heap.size wm3 w') => HQC.out.num (y) b4 B4 m4 d4 E4 u4 v4 w' (HT.out _ (zab hB h)) (HN4.out.below h) (SzQ.fit HZ4.out HN4.out (by omega)))
 have C2 := Lib.hid (fun w' (h : Below wm3.heap.size wm3 w') b7 B7 m7 d7 (hw7 : zaq w' (x.num) b7 B7 m7 d7) b8 B8 m8 d8 (hw8 : zaq w' (y.num) b8 B8 m8 d8) => zcl (Hhn.out) (HIC.out.cmp (x.num) (y.num) b7 b8 B7 B8 m7 m8 d7 d8 w' (HT.out _ (zab hB h)) hw7 hw8 (by have := Sz.words HZ7.out hw7.words; omega) (by have := Sz.words HZ8.out hw8.words; omega)))
 have HZ9 : Hid (Sz (K) (x.den)) := SzQ.den HZ3.out
 have C3 := Lib.hid (fun w' (h : Below wm3.heap.size wm3 w') => HQC.out.den (x) b3 B3 m3 d3 E3 u3 v3 w' (HT.out _ (zab hB h)) (HN3.out.below h) (SzQ.fit HZ3.out HN3.out (by omega)))
 have HZ10 : Hid (Sz (K) (y.den)) := SzQ.den HZ4.out
 have C4 := Lib.hid (fun w' (h : Below wm3.heap.size wm3 w') => HQC.out.den (y) b4 B4 m4 d4 E4 u4 v4 w' (HT.out _ (zab hB h)) (HN4.out.below h) (SzQ.fit HZ4.out HN4.out (by omega)))
 have C5 := Lib.hid (fun w' (h : Below wm3.heap.size wm3 w') B9 m9 d9 (hw9 : zae w' (x.den) B9 m9 d9) B10 m10 d10 (hw10 : zae w' (y.den) B10 m10 d10) => zaO (v := kc1) (HC1.out) (zcn (x.den) (y.den) B9 B10 m9 m10 d9 d10 w' hw9 hw10 (by have := Sz.words HZ9.out hw9; omega) (by have := Sz.words HZ10.out hw10; omega)))
 have hBw := (Below.refl wm3.heap.size wm3).drew
 refine rg (csc g5 (csc e5 (csc i5 (csc g6 (csc e6 (csc i6 csn)))))) (fun hHeld => ?_)
 refine tk 0 ?_
 try simp only [sb]
 refine tk 2 ?_
 try simp only [sb]
 refine rc 1 (fun K hK => ?_)
 go_simp
 go_at_call 17; (with_reducible refine (C0.out _ hBw).mono ?_); rintro e wa4 ⟨b7, B7, m7, d7, rfl, hw7, hb⟩; have hBw := zab hBw hb; refine hK.out _ _ (Cs.below hHeld hb) (fun hHeld => ?_); clear hK K hb
 try simp only [sb]
 refine rc 3 (fun K hK => ?_)
 go_simp
 go_at_call 17; (with_reducible refine (C1.out _ hBw).mono ?_); rintro e wa5 ⟨b8, B8, m8, d8, rfl, hw8, hb⟩; have hBw := zab hBw hb; have hw7 := hw7.below hb; refine hK.out _ _ (Cs.below hHeld hb) (fun hHeld => ?_); clear hK K hb
 try simp only [sb]
 refine rc 4 (fun K hK => ?_)
 go_simp
 go_at_call 43; (with_reducible refine (C2.out _ hBw _ _ _ _ hw7 _ _ _ _ hw8).mono ?_); rintro e wa6 ⟨rfl, hb⟩; have hBw := zab hBw hb; have hw7 := hw7.below hb; have hw8 := hw8.below hb; refine hK.out _ _ (Cs.below hHeld hb) (fun hHeld => ?_); clear hK K hb
 try simp only [sb]
 refine tk 5 ?_
 try simp only [sb]
 refine tk 6 ?_
 try simp only [sb]
 refine tk 7 ?_
 try simp only [sb]
 refine tk 9 ?_
 try simp only [sb]
 refine rc 8 (fun K hK => ?_)
 go_simp
 go_at_call 45; (with_reducible refine (C3.out _ hBw).mono ?_); rintro e wa7 ⟨B9, m9, d9, rfl, hw9, hb⟩; have hBw := zab hBw hb; have hw7 := hw7.below hb; have hw8 := hw8.below hb; refine hK.out _ _ (Cs.below hHeld hb) (fun hHeld => ?_); clear hK K hb
 try simp only [sb]
 refine rc 10 (fun K hK => ?_)
 go_simp
 go_at_call 45; (with_reducible refine (C4.out _ hBw).mono ?_); rintro e wa8 ⟨B10, m10, d10, rfl, hw10, hb⟩; have hBw := zab hBw hb; have hw7 := hw7.below hb; have hw8 := hw8.below hb; have hw9 := hw9.below hb; refine hK.out _ _ (Cs.below hHeld hb) (fun hHeld => ?_); clear hK K hb
 try simp only [sb]
 refine rc 11 (fun K hK => ?_)
 go_simp
 go_at_call 44; (with_reducible refine (C5.out _ hBw _ _ _ hw9 _ _ _ hw10).mono ?_); rintro e wa9 ⟨rfl, hb⟩; have hBw := zab hBw hb; have hw7 := hw7.below hb; have hw8 := hw8.below hb; have hw9 := hw9.below hb; have hw10 := hw10.below hb; refine hK.out _ _ (Cs.below hHeld hb) (fun hHeld => ?_); clear hK K hb
 try simp only [sb]
 refine tk 12 ?_
 try simp only [sb]
 refine tk 13 ?_
 try simp only [sb]
 refine tk 14 ?_
 try simp only [sb]
 refine rdn ?_
 have hB := zab hB hBw
 have g1 := zaa hBw g1
 have e1 := zaa hBw e1
 have i1 := zaa hBw i1
 have g2 := zaa hBw g2
 have e2 := zaa hBw e2
 have i2 := zaa hBw i2
 have g5 := zaa hBw g5
 have e5 := zaa hBw e5
 have i5 := zaa hBw i5
 have g6 := zaa hBw g6
 have e6 := zaa hBw e6
 have i6 := zaa hBw i6
 have HN3 := Lib.hid (HN3.out.below hBw)
 have HN4 := Lib.hid (HN4.out.below hBw)
 have HN7 := Lib.hid hw7
 have HN8 := Lib.hid hw8
 have HN9 := Lib.hid hw9
 have HN10 := Lib.hid hw10
 clear hBw hHeld hw7 hw8 hw9 hw10 C0 C1 C2 C3 C4 C5
 go_wp2_with fail
 have C0 := Lib.hid (fun w' (h : Below wa9.heap.size wa9 w') => zai (decide_eq_false (fun h9 => Hhd.out (by rw [h9]))) (HQC.out.same (x) (y) b3 b4 B3 B4 m3 m4 d3 d4 E3 E4 u3 u4 v3 v4 w' (HT.out _ (zab hB h)) (HN3.out.below h) (HN4.out.below h) (SzQ.fit HZ3.out HN3.out (by omega)) (SzQ.fit HZ4.out HN4.out (by omega))))
 have HZ11 : Hid (Sz (K) (x.num).natAbs) := SzQ.num HZ3.out
 have C1 := Lib.hid (fun w' (h : Below wa9.heap.size wa9 w') => HQC.out.num (x) b3 B3 m3 d3 E3 u3 v3 w' (HT.out _ (zab hB h)) (HN3.out.below h) (SzQ.fit HZ3.out HN3.out (by omega)))
 have HZ12 : Hid (Sz (K) (x.num.natAbs)) := HZ11.out
 have C2 := Lib.hid (fun w' (h : Below wa9.heap.size wa9 w') b11 B11 m11 d11 (hw11 : zaq w' (x.num) b11 B11 m11 d11) => HIC.out.abs (x.num) b11 B11 m11 d11 w' (HT.out _ (zab hB h)) hw11 (by have := Sz.words HZ11.out hw11.words; omega))
 have HZ13 : Hid (Sz (K) (x.den)) := SzQ.den HZ3.out
 have C3 := Lib.hid (fun w' (h : Below wa9.heap.size wa9 w') => HQC.out.den (x) b3 B3 m3 d3 E3 u3 v3 w' (HT.out _ (zab hB h)) (HN3.out.below h) (SzQ.fit HZ3.out HN3.out (by omega)))
 have CP14 : Hid (copB (x.num.natAbs) (x.den) = true) := (decide_eq_true (show Nat.gcd _ _ = 1 from x.reduced))
 have C4 := Lib.hid (fun w' (h : Below wa9.heap.size wa9 w') B12 m12 d12 (hw12 : zae w' (x.num.natAbs) B12 m12 d12) B13 m13 d13 (hw13 : zae w' (x.den) B13 m13 d13) => CP14.out ▸ HGC.out.coprime (x.num.natAbs) (x.den) B12 B13 m12 m13 d12 d13 w' hw12 hw13 (by have := Sz.words HZ12.out hw12; omega) (by have := Sz.words HZ13.out hw13; omega) (HTB.out _ (zab hB h)))
 have HZ15 : Hid (Sz (K) (x.den)) := SzQ.den HZ3.out
 have C5 := Lib.hid (fun w' (h : Below wa9.heap.size wa9 w') => HQC.out.den (x) b3 B3 m3 d3 E3 u3 v3 w' (HT.out _ (zab hB h)) (HN3.out.below h) (SzQ.fit HZ3.out HN3.out (by omega)))
 have C6 := Lib.hid (fun w' (h : Below wa9.heap.size wa9 w') B15 m15 d15 (hw15 : zae w' (x.den) B15 m15 d15) => zbm x.den_nz hw15)
 have C7 := Lib.hid (fun w' (h : Below wa9.heap.size wa9 w') => zai (decide_eq_false Hx0.out) (HQC.out.zero (x) b3 B3 m3 d3 E3 u3 v3 w' (HT.out _ (zab hB h)) (HN3.out.below h) (SzQ.fit HZ3.out HN3.out (by omega))))
 have HZ16 : Hid (Sz (K) (x.den)) := SzQ.den HZ3.out
 have C8 := Lib.hid (fun w' (h : Below wa9.heap.size wa9 w') => HQC.out.den (x) b3 B3 m3 d3 E3 u3 v3 w' (HT.out _ (zab hB h)) (HN3.out.below h) (SzQ.fit HZ3.out HN3.out (by omega)))
 have HZ17 : Hid (Sz (K) (((x.den : Nat) : Int)).natAbs) := (by rw [Int.natAbs_natCast]; exact HZ16.out)
 have C9 := Lib.hid (fun w' (h : Below wa9.heap.size wa9 w') B16 m16 d16 (hw16 : zae w' (x.den) B16 m16 d16) => zbG HIC.out (x.den) B16 m16 d16 w' (HT.out _ (zab hB h)) hw16 (by have := Sz.words HZ16.out hw16; omega))
 have HZ18 : Hid (SzQ (K) (((((x.den : Nat) : Int) : Int) : Rat))) := SzQ.whole HZ17.out (by omega)
 have C10 := Lib.hid (fun w' (h : Below wa9.heap.size wa9 w') b17 B17 m17 d17 (hw17 : zaq w' (((x.den : Nat) : Int)) b17 B17 m17 d17) => HQC.out.whole (((x.den : Nat) : Int)) b17 B17 m17 d17 w' (HT.out _ (zab hB h)) hw17 (by have := Sz.words HZ17.out hw17.words; omega))
 have HZ19 : Hid (SzQ (K + K) (x * (((((x.den : Nat) : Int) : Int) : Rat)))) := SzQ.mul HZ3.out HZ18.out
 have C11 := Lib.hid (fun w' (h : Below wa9.heap.size wa9 w') b18 B18 m18 d18 E18 u18 v18 (hw18 : zah w' (((((x.den : Nat) : Int) : Int) : Rat)) b18 B18 m18 d18 E18 u18 v18) => HQC.out.mul (x) (((((x.den : Nat) : Int) : Int) : Rat)) b3 b18 B3 B18 m3 m18 d3 d18 E3 E18 u3 u18 v3 v18 w' (HT.out _ (zab hB h)) (HN3.out.below h) hw18 (SzQ.fit HZ3.out HN3.out (by omega)) (SzQ.fit HZ18.out hw18 (by omega)))
 have HZ20 : Hid (Sz (K) (x.num).natAbs) := SzQ.num HZ3.out
 have C12 := Lib.hid (fun w' (h : Below wa9.heap.size wa9 w') => HQC.out.num (x) b3 B3 m3 d3 E3 u3 v3 w' (HT.out _ (zab hB h)) (HN3.out.below h) (SzQ.fit HZ3.out HN3.out (by omega)))
 have HZ21 : Hid (SzQ (K) (((x.num : Int) : Rat))) := SzQ.whole HZ20.out (by omega)
 have C13 := Lib.hid (fun w' (h : Below wa9.heap.size wa9 w') b20 B20 m20 d20 (hw20 : zaq w' (x.num) b20 B20 m20 d20) => HQC.out.whole (x.num) b20 B20 m20 d20 w' (HT.out _ (zab hB h)) hw20 (by have := Sz.words HZ20.out hw20.words; omega))
 have C14 := Lib.hid (fun w' (h : Below wa9.heap.size wa9 w') b19 B19 m19 d19 E19 u19 v19 (hw19 : zah w' (x * (((((x.den : Nat) : Int) : Int) : Rat))) b19 B19 m19 d19 E19 u19 v19) b21 B21 m21 d21 E21 u21 v21 (hw21 : zah w' (((x.num : Int) : Rat)) b21 B21 m21 d21 E21 u21 v21) => zai (decide_eq_true (zbL x)) (HQC.out.same (x * (((((x.den : Nat) : Int) : Int) : Rat))) (((x.num : Int) : Rat)) b19 b21 B19 B21 m19 m21 d19 d21 E19 E21 u19 u21 v19 v21 w' (HT.out _ (zab hB h)) hw19 hw21 (SzQ.fit HZ19.out hw19 (by omega)) (SzQ.fit HZ21.out hw21 (by omega))))
 have hBw := (Below.refl wa9.heap.size wa9).drew
 refine rg (csc g5 (csc e5 (csc i5 (csc g6 (csc e6 (csc i6 csn)))))) (fun hHeld => ?_)
 refine tk 0 ?_
 try simp only [sb]
 refine tk 1 ?_
 try simp only [sb]
 refine tk 3 ?_
 try simp only [sb]
 refine rc 2 (fun K hK => ?_)
 go_simp
 go_at_call 33; (with_reducible refine (C0.out _ hBw).mono ?_); rintro e wa10 ⟨rfl, hb⟩; have hBw := zab hBw hb; refine hK.out _ _ (Cs.below hHeld hb) (fun hHeld => ?_); clear hK K hb
 try simp only [sb]
 refine tk 4 ?_
 try simp only [sb]
 refine tk 5 ?_
 try simp only [sb]
 refine tk 6 ?_
 try simp only [sb]
 refine tk 9 ?_
 try simp only [sb]
 refine rc 7 (fun K hK => ?_)
 go_simp
 go_at_call 17; (with_reducible refine (C1.out _ hBw).mono ?_); rintro e wa11 ⟨b11, B11, m11, d11, rfl, hw11, hb⟩; have hBw := zab hBw hb; refine hK.out _ _ (Cs.below hHeld hb) (fun hHeld => ?_); clear hK K hb
 try simp only [sb]
 refine rc 8 (fun K hK => ?_)
 go_simp
 go_at_call 47; (with_reducible refine (C2.out _ hBw _ _ _ _ hw11).mono ?_); rintro e wa12 ⟨B12, m12, d12, rfl, hw12, hb⟩; have hBw := zab hBw hb; have hw11 := hw11.below hb; refine hK.out _ _ (Cs.below hHeld hb) (fun hHeld => ?_); clear hK K hb
 try simp only [sb]
 refine rc 10 (fun K hK => ?_)
 go_simp
 go_at_call 45; (with_reducible refine (C3.out _ hBw).mono ?_); rintro e wa13 ⟨B13, m13, d13, rfl, hw13, hb⟩; have hBw := zab hBw hb; have hw11 := hw11.below hb; have hw12 := hw12.below hb; refine hK.out _ _ (Cs.below hHeld hb) (fun hHeld => ?_); clear hK K hb
 try simp only [sb]
 refine rc 11 (fun K hK => ?_)
 go_simp
 go_at_call 46; (with_reducible refine (C4.out _ hBw _ _ _ hw12 _ _ _ hw13).mono ?_); rintro e wa14 ⟨rfl, hb⟩; have hBw := zab hBw hb; have hw11 := hw11.below hb; have hw12 := hw12.below hb; have hw13 := hw13.below hb; refine hK.out _ _ (Cs.below hHeld hb) (fun hHeld => ?_); clear hK K hb
 try simp only [sb]
 refine tk 12 ?_
 try simp only [sb]
 refine tk 13 ?_
 try simp only [sb]
 refine tk 14 ?_
 try simp only [sb]
 refine rc 15 (fun K hK => ?_)
 go_simp
 go_at_call 45; (with_reducible refine (C5.out _ hBw).mono ?_); rintro e wa15 ⟨B15, m15, d15, rfl, hw15, hb⟩; have hBw := zab hBw hb; have hw11 := hw11.below hb; have hw12 := hw12.below hb; have hw13 := hw13.below hb; refine hK.out _ _ (Cs.below hHeld hb) (fun hHeld => ?_); clear hK K hb
 try simp only [sb]
 refine rc 16 (fun K hK => ?_)
 go_simp
 go_at_call 48; (with_reducible refine (C6.out _ hBw _ _ _ hw15).mono ?_); rintro e wa16 ⟨rfl, hb⟩; have hBw := zab hBw hb; have hw11 := hw11.below hb; have hw12 := hw12.below hb; have hw13 := hw13.below hb; have hw15 := hw15.below hb; refine hK.out _ _ (Cs.below hHeld hb) (fun hHeld => ?_); clear hK K hb
 try simp only [sb]
 refine tk 17 ?_
 try simp only [sb]
 refine tk 18 ?_
 try simp only [sb]
 refine tk 19 ?_
 try simp only [sb]
 refine tk 20 ?_
 try simp only [sb]
 refine rc 21 (fun K hK => ?_)
 go_simp
 go_at_call 13; (with_reducible refine (C7.out _ hBw).mono ?_); rintro e wa17 ⟨rfl, hb⟩; have hBw := zab hBw hb; have hw11 := hw11.below hb; have hw12 := hw12.below hb; have hw13 := hw13.below hb; have hw15 := hw15.below hb; refine hK.out _ _ (Cs.below hHeld hb) (fun hHeld => ?_); clear hK K hb
 try simp only [sb]
 refine tk 22 ?_
 try simp only [sb]
 refine tk 23 ?_
 try simp only [sb]
 refine tu 24 ?_
 try simp only [sb]
 refine tu 25 ?_
 try simp only [sb]
 refine tk 26 ?_
 try simp only [sb]
 refine tk 27 ?_
 try simp only [sb]
 refine tk 28 ?_
 try simp only [sb]
 refine tk 29 ?_
 try simp only [sb]
 refine tk 30 ?_
 try simp only [sb]
 refine tk 35 ?_
 try simp only [sb]
 refine rc 31 (fun K hK => ?_)
 go_simp
 go_at_call 45; (with_reducible refine (C8.out _ hBw).mono ?_); rintro e wa18 ⟨B16, m16, d16, rfl, hw16, hb⟩; have hBw := zab hBw hb; have hw11 := hw11.below hb; have hw12 := hw12.below hb; have hw13 := hw13.below hb; have hw15 := hw15.below hb; refine hK.out _ _ (Cs.below hHeld hb) (fun hHeld => ?_); clear hK K hb
 try simp only [sb]
 refine rc 32 (fun K hK => ?_)
 go_simp
 go_at_call 51; (with_reducible refine (C9.out _ hBw _ _ _ hw16).mono ?_); rintro e wa19 ⟨b17, B17, m17, d17, rfl, hw17, hb⟩; have hBw := zab hBw hb; have hw11 := hw11.below hb; have hw12 := hw12.below hb; have hw13 := hw13.below hb; have hw15 := hw15.below hb; have hw16 := hw16.below hb; refine hK.out _ _ (Cs.below hHeld hb) (fun hHeld => ?_); clear hK K hb
 try simp only [sb]
 refine rc 33 (fun K hK => ?_)
 go_simp
 go_at_call 50; (with_reducible refine (C10.out _ hBw _ _ _ _ hw17).mono ?_); rintro e wa20 ⟨b18, B18, m18, d18, E18, u18, v18, rfl, hw18, hb⟩; have hBw := zab hBw hb; have hw11 := hw11.below hb; have hw12 := hw12.below hb; have hw13 := hw13.below hb; have hw15 := hw15.below hb; have hw16 := hw16.below hb; have hw17 := hw17.below hb; refine hK.out _ _ (Cs.below hHeld hb) (fun hHeld => ?_); clear hK K hb
 try simp only [sb]
 refine rc 34 (fun K hK => ?_)
 go_simp
 go_at_call 26; (with_reducible refine (C11.out _ hBw _ _ _ _ _ _ _ hw18).mono ?_); rintro e wa21 ⟨b19, B19, m19, d19, E19, u19, v19, rfl, hw19, hb⟩; have hBw := zab hBw hb; have hw11 := hw11.below hb; have hw12 := hw12.below hb; have hw13 := hw13.below hb; have hw15 := hw15.below hb; have hw16 := hw16.below hb; have hw17 := hw17.below hb; have hw18 := hw18.below hb; refine hK.out _ _ (Cs.below hHeld hb) (fun hHeld => ?_); clear hK K hb
 try simp only [sb]
 refine rc 36 (fun K hK => ?_)
 go_simp
 go_at_call 17; (with_reducible refine (C12.out _ hBw).mono ?_); rintro e wa22 ⟨b20, B20, m20, d20, rfl, hw20, hb⟩; have hBw := zab hBw hb; have hw11 := hw11.below hb; have hw12 := hw12.below hb; have hw13 := hw13.below hb; have hw15 := hw15.below hb; have hw16 := hw16.below hb; have hw17 := hw17.below hb; have hw18 := hw18.below hb; have hw19 := hw19.below hb; refine hK.out _ _ (Cs.below hHeld hb) (fun hHeld => ?_); clear hK K hb
 try simp only [sb]
 refine rc 37 (fun K hK => ?_)
 go_simp
 go_at_call 50; (with_reducible refine (C13.out _ hBw _ _ _ _ hw20).mono ?_); rintro e wa23 ⟨b21, B21, m21, d21, E21, u21, v21, rfl, hw21, hb⟩; have hBw := zab hBw hb; have hw11 := hw11.below hb; have hw12 := hw12.below hb; have hw13 := hw13.below hb; have hw15 := hw15.below hb; have hw16 := hw16.below hb; have hw17 := hw17.below hb; have hw18 := hw18.below hb; have hw19 := hw19.below hb; have hw20 := hw20.below hb; refine hK.out _ _ (Cs.below hHeld hb) (fun hHeld => ?_); clear hK K hb
 try simp only [sb]
 refine rc 38 (fun K hK => ?_)
 go_simp
 go_at_call 33; (with_reducible refine (C14.out _ hBw _ _ _ _ _ _ _ hw19 _ _ _ _ _ _ _ hw21).mono ?_); rintro e wa24 ⟨rfl, hb⟩; have hBw := zab hBw hb; have hw11 := hw11.below hb; have hw12 := hw12.below hb; have hw13 := hw13.below hb; have hw15 := hw15.below hb; have hw16 := hw16.below hb; have hw17 := hw17.below hb; have hw18 := hw18.below hb; have hw19 := hw19.below hb; have hw20 := hw20.below hb; have hw21 := hw21.below hb; refine hK.out _ _ (Cs.below hHeld hb) (fun hHeld => ?_); clear hK K hb
 try simp only [sb]
 refine tk 39 ?_
 try simp only [sb]
 refine tk 40 ?_
 try simp only [sb]
 refine rdn ?_
 have hB := zab hB hBw
 have g1 := zaa hBw g1
 have e1 := zaa hBw e1
 have i1 := zaa hBw i1
 have g2 := zaa hBw g2
 have e2 := zaa hBw e2
 have i2 := zaa hBw i2
 have g5 := zaa hBw g5
 have e5 := zaa hBw e5
 have i5 := zaa hBw i5
 have g6 := zaa hBw g6
 have e6 := zaa hBw e6
 have i6 := zaa hBw i6
 have HN3 := Lib.hid (HN3.out.below hBw)
 have HN4 := Lib.hid (HN4.out.below hBw)
 have HN7 := Lib.hid (HN7.out.below hBw)
 have HN8 := Lib.hid (HN8.out.below hBw)
 have HN9 := Lib.hid (HN9.out.below hBw)
 have HN10 := Lib.hid (HN10.out.below hBw)
 have HN11 := Lib.hid hw11
 have HN12 := Lib.hid hw12
 have HN13 := Lib.hid hw13
 have HN15 := Lib.hid hw15
 have HN16 := Lib.hid hw16
 have HN17 := Lib.hid hw17
 have HN18 := Lib.hid hw18
 have HN19 := Lib.hid hw19
 have HN20 := Lib.hid hw20
 have HN21 := Lib.hid hw21
 clear hBw hHeld hw11 hw12 hw13 hw15 hw16 hw17 hw18 hw19 hw20 hw21 C0 C1 C2 C3 C4 C5 C6 C7 C8 C9 C10 C11 C12 C13 C14
 go_wp2
 go_ret
 exact ⟨by first | rfl | simp, hB⟩
set_option maxHeartbeats 16000000 in
theorem zgY {T : World → Prop} (hTb : ∀ w w', T w → Below w.heap.size w w' → T w') (IC : IntC T) (QC : RatC T) (GC : GcdC) (hTT : ∀ w, T w → zan w) (s0 : Bool) (A0 : Option Addr) (n0 c0 : Nat) (l0 : List Nat) (E0 : Option Addr) (u0 v0 : Nat) (e0 : List Nat) (s1 : Bool) (A1 : Option Addr) (n1 c1 : Nat) (l1 : List Nat) (E1 : Option Addr) (u1 v1 : Nat) (e1 : List Nat) (w : World) (h0 : zap w A0 n0 c0 l0) (k0 : zap w E0 u0 v0 e0) (h1 : zap w A1 n1 c1 l1) (k1 : zap w E1 u1 v1 e1) (x0 : fOf s0 l0 e0 = 0) (hn : (fOf s0 l0 e0).num = (fOf s1 l1 e1).num) (hd : (fOf s0 l0 e0).den ≠ (fOf s1 l1 e1).den) (hT : T w) :
  Calls Tryz.prog 7 #[.agg #[.bool s0, .slice A0 n0 c0, .slice E0 u0 v0], .agg #[.bool s1, .slice A1 n1 c1, .slice E1 u1 v1]] w fun e w' => e = .returned (.bool true) ∧ Below w.heap.size w w' := by
 have HAW := Lib.hid (fun w' (hb : Below w.heap.size w w') => zbn hTb IC QC w' (hTb w w' hT hb))
 have HIC := Lib.hid IC
 have HQC := Lib.hid QC
 have HT := Lib.hid (fun w' (hb : Below w.heap.size w w') => hTb w w' hT hb)
 have HGC := Lib.hid GC
 have HTB := Lib.hid (fun w' (hb : Below w.heap.size w w') => hTT w' (hTb w w' hT hb))
 obtain ⟨K, hK⟩ : ∃ K, 1048576 = K := ⟨_, rfl⟩
 have hKK : K ≤ 1048576 := by omega
 have hK0 : 0 < K := by omega
 have HM0 := Lib.hid (fun w' (hb : Below w.heap.size w w') => zaL hTb IC QC s0 A0 n0 c0 l0 E0 u0 v0 e0 w' ⟨(h0.reads.below hb).more hb.size, h0.dgs, h0.fits, h0.small⟩ ⟨(k0.reads.below hb).more hb.size, k0.dgs, k0.fits, k0.small⟩ (hTb w w' hT hb))
 have S0 : SzQ 1048576 (fOf s0 l0 e0) := zbp h0 k0
 rw [hK] at S0
 obtain ⟨x, hz0⟩ : ∃ x, fOf s0 l0 e0 = x := ⟨_, rfl⟩
 rw [hz0] at HM0 S0 x0 hn hd
 have HS0 := Lib.hid S0
 have HM1 := Lib.hid (fun w' (hb : Below w.heap.size w w') => zaL hTb IC QC s1 A1 n1 c1 l1 E1 u1 v1 e1 w' ⟨(h1.reads.below hb).more hb.size, h1.dgs, h1.fits, h1.small⟩ ⟨(k1.reads.below hb).more hb.size, k1.dgs, k1.fits, k1.small⟩ (hTb w w' hT hb))
 have S1 : SzQ 1048576 (fOf s1 l1 e1) := zbp h1 k1
 rw [hK] at S1
 obtain ⟨y, hz1⟩ : ∃ x, fOf s1 l1 e1 = x := ⟨_, rfl⟩
 rw [hz1] at HM1 S1 hn hd
 have HS1 := Lib.hid S1
 obtain ⟨kc1, hkc1⟩ : ∃ c, zbx x.den y.den = c := ⟨_, rfl⟩
 have HC1 := Lib.hid hkc1
 have kb1 : (kc1 == 0) = false := by
  rw [beq_eq_false_iff_ne]
  intro h9
  rw [h9] at hkc1
  rcases Nat.lt_trichotomy x.den y.den with h8 | h8 | h8
  ·rw [zbZ h8] at hkc1; omega
  ·exact hd h8
  ·rw [zcm h8] at hkc1; omega
 clear hkc1
 have Hx0 := Lib.hid x0
 have Hhn := Lib.hid hn
 have Hhd := Lib.hid hd
 clear IC QC hT GC h0 k0 hz0 S0 h1 k1 hz1 S1 x0 hn hd hK
 go_enter Tryz.func7, Tryz.ntmps7
 have hB := Below.refl w.heap.size w
 obtain ⟨bx1, bx2, bx3, bz⟩ := zaW w 48 48 #[.bool s0, .slice A0 n0 c0, .slice E0 u0 v0] #[.bool s1, .slice A1 n1 c1, .slice E1 u1 v1]
 have hB := zab hB bx1
 obtain ⟨g1, e1, i1⟩ := bx2.c3
 obtain ⟨g2, e2, i2⟩ := bx3.c3
 clear bx1 bx2 bx3 bz
 go_wp2_with fail
 generalize (w.alloc (.cells #[.bool s0, .slice A0 n0 c0, .slice E0 u0 v0] 48)).alloc (.cells #[.bool s1, .slice A1 n1 c1, .slice E1 u1 v1] 48) = W1 at *
 (with_reducible refine (HAW.out _ hB).mono ?_)
 rintro e wc2 ⟨rfl, hb⟩
 have hB := zab hB hb
 have g1 := zaa hb g1
 have e1 := zaa hb e1
 have i1 := zaa hb i1
 have g2 := zaa hb g2
 have e2 := zaa hb e2
 have i2 := zaa hb i2
 clear hb 
 go_wp2_with fail
 have HZ3 : Hid (SzQ (K) (x)) := HS0.out
 have C0 := Lib.hid (fun w' (h : Below wc2.heap.size wc2 w') => HM0.out _ (zab hB h))
 have HZ4 : Hid (SzQ (K) (y)) := HS1.out
 have C1 := Lib.hid (fun w' (h : Below wc2.heap.size wc2 w') => HM1.out _ (zab hB h))
 have GG := Lib.hid (fun w' (h : Below wc2.heap.size wc2 w') => (csc (zaa h g1) (csc (zaa h e1) (csc (zaa h i1) (csc (zaa h g2) (csc (zaa h e2) (csc (zaa h i2) csn)))))))
 refine rgB (fun hHeld => ?_)
 refine tl 0 GG.out ?_
 try simp only [sb]
 refine tl 2 GG.out ?_
 try simp only [sb]
 refine zaw (L := #[true, true, true, true, true, true, true, true])
  (J := fun a0 l a w' => ∃ (fl1 fl3 fl4 fl5 fl6 fl7 b3 : Bool) (B3 : Option Addr) (m3 d3 : Nat) (E3 : Option Addr) (u3 v3 : Nat) (b4 : Bool) (B4 : Option Addr) (m4 d4 : Nat) (E4 : Option Addr) (u4 v4 ad4 ad5 : Nat), l = #[true, fl1, true, fl3, fl4, fl5, fl6, fl7] ∧ zaT [11, 13, 5, 6] a0 a ∧ Hid (Below wc2.heap.size wc2 w') ∧
    Hid (Gd fl1 (a.tmps.getD 11 undef = .agg #[.bool b3, .slice B3 m3 d3, .slice E3 u3 v3] ∧ zah w' (x) b3 B3 m3 d3 E3 u3 v3)) ∧
    Hid (Gd fl3 (a.tmps.getD 13 undef = .agg #[.bool b4, .slice B4 m4 d4, .slice E4 u4 v4] ∧ zah w' (y) b4 B4 m4 d4 E4 u4 v4)) ∧
    Hid (Gd fl4 (a.tmps.getD 5 undef = .pointer (some ⟨ad4, 0, none⟩) ∧ wc2.heap.size ≤ ad4 ∧ Blk w' ad4 31 (bif fl6 then #[.bool b3, .slice B3 m3 d3, .slice E3 u3 v3] else #[.bool false, .slice none 0 0, .slice none 0 0]))) ∧
    Hid (Gd fl5 (a.tmps.getD 6 undef = .pointer (some ⟨ad5, 0, none⟩) ∧ wc2.heap.size ≤ ad5 ∧ Blk w' ad5 31 (bif fl7 then #[.bool b4, .slice B4 m4 d4, .slice E4 u4 v4] else #[.bool false, .slice none 0 0, .slice none 0 0]))) ∧
    Hid (Gd fl4 (Gd fl5 (ad4 ≠ ad5))) ∧
    Hid (Gd fl3 (fl1 = true)) ∧
    Hid (Gd fl6 (fl1 = true)) ∧
    Hid (Gd fl6 (fl3 = true)) ∧
    Hid (Gd fl6 (fl4 = true)) ∧
    Hid (Gd fl7 (fl3 = true)) ∧
    Hid (Gd fl7 (fl5 = true)) ∧
    Hid (Gd fl7 (fl6 = true)))
  (by rfl) ?_ ?_ ?_
 ·exact ⟨false, false, false, false, false, false, false, none, 0, 0, none, 0, 0, false, none, 0, 0, none, 0, 0, 0, 0, by kernel_rfl, zaT.refl _ _, hHeld, Gd.no, Gd.no, Gd.no, Gd.no, Gd.no, Gd.no, Gd.no, Gd.no, Gd.no, Gd.no, Gd.no, Gd.no⟩
 ·intro OPS Ac0 Q0 hO hAs hA
  have RB10 : Ac0.tmps.getD 10 undef = .agg #[.bool s0, .slice A0 n0 c0, .slice E0 u0 v0] := (hA 10 undef).trans (by kernel_rfl)
  have RB12 : Ac0.tmps.getD 12 undef = .agg #[.bool s1, .slice A1 n1 c1, .slice E1 u1 v1] := (hA 12 undef).trans (by kernel_rfl)
  have hsz : Ac0.tmps.size = 68 := hAs.trans (by kernel_rfl)
  clear hAs hA
  refine ⟨?_, ?_⟩
  ·rintro l a w' ⟨fl1, fl3, fl4, fl5, fl6, fl7, b3, B3, m3, d3, E3, u3, v3, b4, B4, m4, d4, E4, u4, v4, ad4, ad5, rfl, -⟩ hr
   obtain rfl : fl1 = true := als 1 hr hO
   obtain rfl : fl3 = true := als 3 hr hO
   obtain rfl : fl4 = true := als 4 hr hO
   obtain rfl : fl5 = true := als 5 hr hO
   obtain rfl : fl6 = true := als 6 hr hO
   obtain rfl : fl7 = true := als 7 hr hO
   rfl
  ·rintro l a w' i ⟨fl1, fl3, fl4, fl5, fl6, fl7, b3, B3, m3, d3, E3, u3, v3, b4, B4, m4, d4, E4, u4, v4, ad4, ad5, rfl, HKp, hBi, qf1, qf3, qf4, qf5, qn4_5, qd3_1, qd6_1, qd6_3, qd6_4, qd7_3, qd7_5, qd7_6⟩ hne hi
   have hlt : i < 8 := by have := zaJ hi; rw [hO] at this; exact this
   rcases (show i = 0 ∨ i = 1 ∨ i = 2 ∨ i = 3 ∨ i = 4 ∨ i = 5 ∨ i = 6 ∨ i = 7 by omega) with rfl | rfl | rfl | rfl | rfl | rfl | rfl | rfl
   ·cases (zad hi : true = false)
   ·obtain rfl : fl1 = false := zad hi
    obtain rfl : fl3 = false := Gd.off qd3_1.out
    obtain rfl : fl6 = false := Gd.off qd6_1.out
    obtain rfl : fl7 = false := Gd.off qd7_3.out
    have rd10 := HKp.get 10 (by decide) RB10
    refine wog hO (fun K' hK => ?_)
    go_simp
    refine (C0.out w' hBi.out).mono ?_
    rintro e w2 ⟨nb3, nB3, nm3, nd3, nE3, nu3, nv3, rfl, nhw3, hb⟩
    exact hK.out _ _ ⟨zab hBi.out hb, true, false, fl4, fl5, false, false, nb3, nB3, nm3, nd3, nE3, nu3, nv3, b4, B4, m4, d4, E4, u4, v4, ad4, ad5, by rfl, HKp.put (by decide) _, zab hBi.out hb, Gd.yes ⟨zal (HKp.lt (by rw [hsz]; decide)) _, nhw3⟩, Gd.no, kq qf4.out fun h => ⟨h.1, zac hb h.2⟩, kq qf5.out fun h => ⟨h.1, zac hb h.2⟩, qn4_5, Gd.no, Gd.no, Gd.no, Gd.no, Gd.no, Gd.no, Gd.no⟩
   ·cases (zad hi : true = false)
   ·obtain rfl : fl3 = false := zad hi
    obtain rfl : fl1 = true := rdp 1 1 hi hO
    obtain rfl : fl6 = false := Gd.off qd6_3.out
    obtain rfl : fl7 = false := Gd.off qd7_3.out
    have rd12 := HKp.get 12 (by decide) RB12
    refine wog hO (fun K' hK => ?_)
    go_simp
    refine (C1.out w' hBi.out).mono ?_
    rintro e w2 ⟨nb4, nB4, nm4, nd4, nE4, nu4, nv4, rfl, nhw4, hb⟩
    exact hK.out _ _ ⟨zab hBi.out hb, true, true, fl4, fl5, false, false, b3, B3, m3, d3, E3, u3, v3, nb4, nB4, nm4, nd4, nE4, nu4, nv4, ad4, ad5, by rfl, HKp.put (by decide) _, zab hBi.out hb, kq qf1.out fun h => (h).below hb, Gd.yes ⟨zal (HKp.lt (by rw [hsz]; decide)) _, nhw4⟩, kq qf4.out fun h => ⟨h.1, zac hb h.2⟩, kq qf5.out fun h => ⟨h.1, zac hb h.2⟩, qn4_5, fun _ => rfl, Gd.no, Gd.no, Gd.no, Gd.no, Gd.no, Gd.no⟩
   ·obtain rfl : fl4 = false := zad hi
    obtain rfl : fl6 = false := Gd.off qd6_4.out
    obtain rfl : fl7 = false := Gd.off qd7_6.out
    refine wog hO (fun K' hK => ?_)
    go_simp
    have hb := zau w' (.cells #[.bool false, .slice none 0 0, .slice none 0 0] 31)
    exact hK.out _ _ ⟨zab hBi.out hb, fl1, fl3, true, fl5, false, false, b3, B3, m3, d3, E3, u3, v3, b4, B4, m4, d4, E4, u4, v4, w'.heap.size, ad5, by rfl, HKp.put (by decide) _, zab hBi.out hb, kq qf1.out fun h => (h).below hb, kq qf3.out fun h => (h).below hb, Gd.yes ⟨zal (HKp.lt (by rw [hsz]; decide)) _, hBi.out.size, Blk.new w' _ _⟩, kq qf5.out fun h => ⟨h.1, zac hb h.2⟩, Gd.yes (qf5.out.mono fun h => by have := Blk.lt h.2.2; omega), qd3_1, Gd.no, Gd.no, Gd.no, Gd.no, Gd.no, Gd.no⟩
   ·obtain rfl : fl5 = false := zad hi
    obtain rfl : fl7 = false := Gd.off qd7_5.out
    refine wog hO (fun K' hK => ?_)
    go_simp
    have hb := zau w' (.cells #[.bool false, .slice none 0 0, .slice none 0 0] 31)
    exact hK.out _ _ ⟨zab hBi.out hb, fl1, fl3, fl4, true, fl6, false, b3, B3, m3, d3, E3, u3, v3, b4, B4, m4, d4, E4, u4, v4, ad4, w'.heap.size, by rfl, HKp.put (by decide) _, zab hBi.out hb, kq qf1.out fun h => (h).below hb, kq qf3.out fun h => (h).below hb, kq qf4.out fun h => ⟨h.1, zac hb h.2⟩, Gd.yes ⟨zal (HKp.lt (by rw [hsz]; decide)) _, hBi.out.size, Blk.new w' _ _⟩, qf4.out.mono fun h => Gd.yes (by have := Blk.lt h.2.2; omega), qd3_1, qd6_1, qd6_3, qd6_4, Gd.no, Gd.no, Gd.no⟩
   ·obtain rfl : fl6 = false := zad hi
    obtain rfl : fl1 = true := rdp 1 1 hi hO
    obtain rfl : fl3 = true := rdp 3 2 hi hO
    obtain rfl : fl4 = true := rdp 4 0 hi hO
    obtain rfl : fl5 = true := rdp 5 8 hi hO
    obtain rfl : fl7 = false := Gd.off qd7_6.out
    have rd5 := qf4.out.get.1
    have rd11 := qf1.out.get.1
    obtain ⟨_, hg, hk⟩ := qf4.out.get
    have hk : Blk w' ad4 31 #[.bool false, .slice none 0 0, .slice none 0 0] := hk
    obtain ⟨sc0, sf0, sc1, sf1, sc2, sf2⟩ := st3 hk (.bool b3) (.slice B3 m3 d3)
    have hj2 := sn3 hk (.bool b3) (.slice B3 m3 d3) (.slice E3 u3 v3)
    have hBn := bl3 (.bool b3) (.slice B3 m3 d3) (.slice E3 u3 v3) hg hBi.out
    refine wog hO (fun K' hK => ?_)
    go_simp
    exact hK.out _ _ ⟨hBn, true, true, true, true, true, false, b3, B3, m3, d3, E3, u3, v3, b4, B4, m4, d4, E4, u4, v4, ad4, ad5, by rfl, HKp, hBn, qf1.out.mono fun h => ⟨h.1, zar (h.2) hk zaK (zaI _ _ _ _ _)⟩, qf3.out.mono fun h => ⟨h.1, zar (h.2) hk zaK (zaI _ _ _ _ _)⟩, qf4.out.mono fun h => ⟨h.1, h.2.1, hj2⟩, fun hf9 => (fun h => ⟨h.1, h.2.1, Blk.far (p := ⟨ad4, 2, none⟩) (Blk.far (p := ⟨ad4, 1, none⟩) (Blk.far (p := ⟨ad4, 0, none⟩) (h.2.2) (Ne.symm (qn4_5.out rfl hf9)) (.bool b3)) (Ne.symm (qn4_5.out rfl hf9)) (.slice B3 m3 d3)) (Ne.symm (qn4_5.out rfl hf9)) (.slice E3 u3 v3)⟩) (qf5.out hf9), qn4_5, fun _ => rfl, fun _ => rfl, fun _ => rfl, fun _ => rfl, Gd.no, Gd.no, Gd.no⟩
   ·obtain rfl : fl7 = false := zad hi
    obtain rfl : fl1 = true := rdp 1 4 hi hO
    obtain rfl : fl3 = true := rdp 3 1 hi hO
    obtain rfl : fl4 = true := rdp 4 7 hi hO
    obtain rfl : fl5 = true := rdp 5 0 hi hO
    obtain rfl : fl6 = true := rdp 6 2 hi hO
    have rd6 := qf5.out.get.1
    have rd13 := qf3.out.get.1
    obtain ⟨_, hg, hk⟩ := qf5.out.get
    have hk : Blk w' ad5 31 #[.bool false, .slice none 0 0, .slice none 0 0] := hk
    obtain ⟨sc0, sf0, sc1, sf1, sc2, sf2⟩ := st3 hk (.bool b4) (.slice B4 m4 d4)
    have hj2 := sn3 hk (.bool b4) (.slice B4 m4 d4) (.slice E4 u4 v4)
    have hBn := bl3 (.bool b4) (.slice B4 m4 d4) (.slice E4 u4 v4) hg hBi.out
    refine wog hO (fun K' hK => ?_)
    go_simp
    exact hK.out _ _ ⟨hBn, true, true, true, true, true, true, b3, B3, m3, d3, E3, u3, v3, b4, B4, m4, d4, E4, u4, v4, ad4, ad5, by rfl, HKp, hBn, qf1.out.mono fun h => ⟨h.1, zar (h.2) hk zaK (zaI _ _ _ _ _)⟩, qf3.out.mono fun h => ⟨h.1, zar (h.2) hk zaK (zaI _ _ _ _ _)⟩, fun hf9 => (fun h => ⟨h.1, h.2.1, Blk.far (p := ⟨ad5, 2, none⟩) (Blk.far (p := ⟨ad5, 1, none⟩) (Blk.far (p := ⟨ad5, 0, none⟩) (h.2.2) (qn4_5.out hf9 rfl) (.bool b4)) (qn4_5.out hf9 rfl) (.slice B4 m4 d4)) (qn4_5.out hf9 rfl) (.slice E4 u4 v4)⟩) (qf4.out hf9), qf5.out.mono fun h => ⟨h.1, h.2.1, hj2⟩, qn4_5, fun _ => rfl, fun _ => rfl, fun _ => rfl, fun _ => rfl, fun _ => rfl, fun _ => rfl, fun _ => rfl⟩
 rintro a wm3 ⟨fl1, fl3, fl4, fl5, fl6, fl7, b3, B3, m3, d3, E3, u3, v3, b4, B4, m4, d4, E4, u4, v4, ad4, ad5, hl, HKp, hBi, qf1, qf3, qf4, qf5, qn4_5, qd3_1, qd6_1, qd6_3, qd6_4, qd7_3, qd7_5, qd7_6⟩
 have xx1 : fl1 = true := gdl 1 hl
 subst xx1
 have xx3 : fl3 = true := gdl 3 hl
 subst xx3
 have xx4 : fl4 = true := gdl 4 hl
 subst xx4
 have xx5 : fl5 = true := gdl 5 hl
 subst xx5
 have xx6 : fl6 = true := gdl 6 hl
 subst xx6
 have xx7 : fl7 = true := gdl 7 hl
 subst xx7
 obtain ⟨rv1, hw3⟩ := qf1.out.get
 obtain ⟨rv3, hw4⟩ := qf3.out.get
 obtain ⟨rv4, hg4, hk4⟩ := qf4.out.get
 obtain ⟨rv5, hg5, hk5⟩ := qf5.out.get
 obtain rfl := HKp.eq [(11, .agg #[.bool b3, .slice B3 m3 d3, .slice E3 u3 v3]), (13, .agg #[.bool b4, .slice B4 m4 d4, .slice E4 u4 v4]), (5, .pointer (some ⟨ad4, 0, none⟩)), (6, .pointer (some ⟨ad5, 0, none⟩))] rfl (by
  intro p hp
  simp only [List.mem_cons, List.not_mem_nil, or_false] at hp
  rcases hp with rfl | rfl | rfl | rfl
  ·exact rv1
  ·exact rv3
  ·exact rv4
  ·exact rv5)
 have hBv := hBi.out
 clear hl hBi HKp qf1 qf3 qf4 qf5 qn4_5 qd3_1 qd6_1 qd6_3 qd6_4 qd7_3 qd7_5 qd7_6 rv1 rv3 rv4 rv5
 have hk4 : Blk wm3 ad4 31 #[.bool b3, .slice B3 m3 d3, .slice E3 u3 v3] := hk4
 have hk5 : Blk wm3 ad5 31 #[.bool b4, .slice B4 m4 d4, .slice E4 u4 v4] := hk5
 rw [show due #[true, true, true, true, true, true, true, true] = 0 from rfl]
 simp only [zaR, List.foldl, Act.put, List.setIfInBounds_toArray, List.set_cons_zero, List.set_cons_succ]
 refine wpAnyH_done (by kernel_rfl) ?_ _
 refine NoPanic.normal ?_
 have hB := zab hB hBv
 have g1 := zaa hBv g1
 have e1 := zaa hBv e1
 have i1 := zaa hBv i1
 have g2 := zaa hBv g2
 have e2 := zaa hBv e2
 have i2 := zaa hBv i2
 obtain ⟨ad4_5, hga⟩ : ∃ x, x = ad4 := ⟨_, rfl⟩
 subst hga
 obtain ⟨g5, e5, i5⟩ := hk4.c3
 obtain ⟨ad5_6, hga⟩ : ∃ x, x = ad5 := ⟨_, rfl⟩
 subst hga
 obtain ⟨g6, e6, i6⟩ := hk5.c3
 have HN3 := Lib.hid hw3
 have HN4 := Lib.hid hw4
 clear hBv hk4 hg4 hk5 hg5 hw3 hw4 GG
 clear C0 C1
 go_wp2_with fail
 have HZ7 : Hid (Sz (K) (x.num).natAbs) := SzQ.num HZ3.out
 have C0 := Lib.hid (fun w' (h : Below wm3.heap.size wm3 w') => HQC.out.num (x) b3 B3 m3 d3 E3 u3 v3 w' (HT.out _ (zab hB h)) (HN3.out.below h) (SzQ.fit HZ3.out HN3.out (by omega)))
 have HZ8 : Hid (Sz (K) (y.num).natAbs) := SzQ.num HZ4.out
 have C1 := Lib.hid (fun w' (h : Below wm3.heap.size wm3 w') => HQC.out.num (y) b4 B4 m4 d4 E4 u4 v4 w' (HT.out _ (zab hB h)) (HN4.out.below h) (SzQ.fit HZ4.out HN4.out (by omega)))
 have C2 := Lib.hid (fun w' (h : Below wm3.heap.size wm3 w') b7 B7 m7 d7 (hw7 : zaq w' (x.num) b7 B7 m7 d7) b8 B8 m8 d8 (hw8 : zaq w' (y.num) b8 B8 m8 d8) => zcl (Hhn.out) (HIC.out.cmp (x.num) (y.num) b7 b8 B7 B8 m7 m8 d7 d8 w' (HT.out _ (zab hB h)) hw7 hw8 (by have := Sz.words HZ7.out hw7.words; omega) (by have := Sz.words HZ8.out hw8.words; omega)))
 have HZ9 : Hid (Sz (K) (x.den)) := SzQ.den HZ3.out
 have C3 := Lib.hid (fun w' (h : Below wm3.heap.size wm3 w') => HQC.out.den (x) b3 B3 m3 d3 E3 u3 v3 w' (HT.out _ (zab hB h)) (HN3.out.below h) (SzQ.fit HZ3.out HN3.out (by omega)))
 have HZ10 : Hid (Sz (K) (y.den)) := SzQ.den HZ4.out
 have C4 := Lib.hid (fun w' (h : Below wm3.heap.size wm3 w') => HQC.out.den (y) b4 B4 m4 d4 E4 u4 v4 w' (HT.out _ (zab hB h)) (HN4.out.below h) (SzQ.fit HZ4.out HN4.out (by omega)))
 have C5 := Lib.hid (fun w' (h : Below wm3.heap.size wm3 w') B9 m9 d9 (hw9 : zae w' (x.den) B9 m9 d9) B10 m10 d10 (hw10 : zae w' (y.den) B10 m10 d10) => zaO (v := kc1) (HC1.out) (zcn (x.den) (y.den) B9 B10 m9 m10 d9 d10 w' hw9 hw10 (by have := Sz.words HZ9.out hw9; omega) (by have := Sz.words HZ10.out hw10; omega)))
 have hBw := (Below.refl wm3.heap.size wm3).drew
 refine rg (csc g5 (csc e5 (csc i5 (csc g6 (csc e6 (csc i6 csn)))))) (fun hHeld => ?_)
 refine tk 0 ?_
 try simp only [sb]
 refine tk 2 ?_
 try simp only [sb]
 refine rc 1 (fun K hK => ?_)
 go_simp
 go_at_call 17; (with_reducible refine (C0.out _ hBw).mono ?_); rintro e wa4 ⟨b7, B7, m7, d7, rfl, hw7, hb⟩; have hBw := zab hBw hb; refine hK.out _ _ (Cs.below hHeld hb) (fun hHeld => ?_); clear hK K hb
 try simp only [sb]
 refine rc 3 (fun K hK => ?_)
 go_simp
 go_at_call 17; (with_reducible refine (C1.out _ hBw).mono ?_); rintro e wa5 ⟨b8, B8, m8, d8, rfl, hw8, hb⟩; have hBw := zab hBw hb; have hw7 := hw7.below hb; refine hK.out _ _ (Cs.below hHeld hb) (fun hHeld => ?_); clear hK K hb
 try simp only [sb]
 refine rc 4 (fun K hK => ?_)
 go_simp
 go_at_call 43; (with_reducible refine (C2.out _ hBw _ _ _ _ hw7 _ _ _ _ hw8).mono ?_); rintro e wa6 ⟨rfl, hb⟩; have hBw := zab hBw hb; have hw7 := hw7.below hb; have hw8 := hw8.below hb; refine hK.out _ _ (Cs.below hHeld hb) (fun hHeld => ?_); clear hK K hb
 try simp only [sb]
 refine tk 5 ?_
 try simp only [sb]
 refine tk 6 ?_
 try simp only [sb]
 refine tk 7 ?_
 try simp only [sb]
 refine tk 9 ?_
 try simp only [sb]
 refine rc 8 (fun K hK => ?_)
 go_simp
 go_at_call 45; (with_reducible refine (C3.out _ hBw).mono ?_); rintro e wa7 ⟨B9, m9, d9, rfl, hw9, hb⟩; have hBw := zab hBw hb; have hw7 := hw7.below hb; have hw8 := hw8.below hb; refine hK.out _ _ (Cs.below hHeld hb) (fun hHeld => ?_); clear hK K hb
 try simp only [sb]
 refine rc 10 (fun K hK => ?_)
 go_simp
 go_at_call 45; (with_reducible refine (C4.out _ hBw).mono ?_); rintro e wa8 ⟨B10, m10, d10, rfl, hw10, hb⟩; have hBw := zab hBw hb; have hw7 := hw7.below hb; have hw8 := hw8.below hb; have hw9 := hw9.below hb; refine hK.out _ _ (Cs.below hHeld hb) (fun hHeld => ?_); clear hK K hb
 try simp only [sb]
 refine rc 11 (fun K hK => ?_)
 go_simp
 go_at_call 44; (with_reducible refine (C5.out _ hBw _ _ _ hw9 _ _ _ hw10).mono ?_); rintro e wa9 ⟨rfl, hb⟩; have hBw := zab hBw hb; have hw7 := hw7.below hb; have hw8 := hw8.below hb; have hw9 := hw9.below hb; have hw10 := hw10.below hb; refine hK.out _ _ (Cs.below hHeld hb) (fun hHeld => ?_); clear hK K hb
 try simp only [sb]
 refine tk 12 ?_
 try simp only [sb]
 refine tk 13 ?_
 try simp only [sb]
 refine tk 14 ?_
 try simp only [sb]
 refine rdn ?_
 have hB := zab hB hBw
 have g1 := zaa hBw g1
 have e1 := zaa hBw e1
 have i1 := zaa hBw i1
 have g2 := zaa hBw g2
 have e2 := zaa hBw e2
 have i2 := zaa hBw i2
 have g5 := zaa hBw g5
 have e5 := zaa hBw e5
 have i5 := zaa hBw i5
 have g6 := zaa hBw g6
 have e6 := zaa hBw e6
 have i6 := zaa hBw i6
 have HN3 := Lib.hid (HN3.out.below hBw)
 have HN4 := Lib.hid (HN4.out.below hBw)
 have HN7 := Lib.hid hw7
 have HN8 := Lib.hid hw8
 have HN9 := Lib.hid hw9
 have HN10 := Lib.hid hw10
 clear hBw hHeld hw7 hw8 hw9 hw10 C0 C1 C2 C3 C4 C5
 go_wp2_with fail
 have C0 := Lib.hid (fun w' (h : Below wa9.heap.size wa9 w') => zai (decide_eq_false (fun h9 => Hhd.out (by rw [h9]))) (HQC.out.same (x) (y) b3 b4 B3 B4 m3 m4 d3 d4 E3 E4 u3 u4 v3 v4 w' (HT.out _ (zab hB h)) (HN3.out.below h) (HN4.out.below h) (SzQ.fit HZ3.out HN3.out (by omega)) (SzQ.fit HZ4.out HN4.out (by omega))))
 have HZ11 : Hid (Sz (K) (x.num).natAbs) := SzQ.num HZ3.out
 have C1 := Lib.hid (fun w' (h : Below wa9.heap.size wa9 w') => HQC.out.num (x) b3 B3 m3 d3 E3 u3 v3 w' (HT.out _ (zab hB h)) (HN3.out.below h) (SzQ.fit HZ3.out HN3.out (by omega)))
 have HZ12 : Hid (Sz (K) (x.num.natAbs)) := HZ11.out
 have C2 := Lib.hid (fun w' (h : Below wa9.heap.size wa9 w') b11 B11 m11 d11 (hw11 : zaq w' (x.num) b11 B11 m11 d11) => HIC.out.abs (x.num) b11 B11 m11 d11 w' (HT.out _ (zab hB h)) hw11 (by have := Sz.words HZ11.out hw11.words; omega))
 have HZ13 : Hid (Sz (K) (x.den)) := SzQ.den HZ3.out
 have C3 := Lib.hid (fun w' (h : Below wa9.heap.size wa9 w') => HQC.out.den (x) b3 B3 m3 d3 E3 u3 v3 w' (HT.out _ (zab hB h)) (HN3.out.below h) (SzQ.fit HZ3.out HN3.out (by omega)))
 have CP14 : Hid (copB (x.num.natAbs) (x.den) = true) := (decide_eq_true (show Nat.gcd _ _ = 1 from x.reduced))
 have C4 := Lib.hid (fun w' (h : Below wa9.heap.size wa9 w') B12 m12 d12 (hw12 : zae w' (x.num.natAbs) B12 m12 d12) B13 m13 d13 (hw13 : zae w' (x.den) B13 m13 d13) => CP14.out ▸ HGC.out.coprime (x.num.natAbs) (x.den) B12 B13 m12 m13 d12 d13 w' hw12 hw13 (by have := Sz.words HZ12.out hw12; omega) (by have := Sz.words HZ13.out hw13; omega) (HTB.out _ (zab hB h)))
 have HZ15 : Hid (Sz (K) (x.den)) := SzQ.den HZ3.out
 have C5 := Lib.hid (fun w' (h : Below wa9.heap.size wa9 w') => HQC.out.den (x) b3 B3 m3 d3 E3 u3 v3 w' (HT.out _ (zab hB h)) (HN3.out.below h) (SzQ.fit HZ3.out HN3.out (by omega)))
 have C6 := Lib.hid (fun w' (h : Below wa9.heap.size wa9 w') B15 m15 d15 (hw15 : zae w' (x.den) B15 m15 d15) => zbm x.den_nz hw15)
 have C7 := Lib.hid (fun w' (h : Below wa9.heap.size wa9 w') => zai (decide_eq_true Hx0.out) (HQC.out.zero (x) b3 B3 m3 d3 E3 u3 v3 w' (HT.out _ (zab hB h)) (HN3.out.below h) (SzQ.fit HZ3.out HN3.out (by omega))))
 have C8 := Lib.hid (fun w' (h : Below wa9.heap.size wa9 w') => zai (decide_eq_true (by rw [Hx0.out]; rfl)) (HQC.out.isInt (x) b3 B3 m3 d3 E3 u3 v3 w' (HT.out _ (zab hB h)) (HN3.out.below h) (SzQ.fit HZ3.out HN3.out (by omega))))
 have HZ16 : Hid (Sz (K) (x.den)) := SzQ.den HZ3.out
 have C9 := Lib.hid (fun w' (h : Below wa9.heap.size wa9 w') => HQC.out.den (x) b3 B3 m3 d3 E3 u3 v3 w' (HT.out _ (zab hB h)) (HN3.out.below h) (SzQ.fit HZ3.out HN3.out (by omega)))
 have HZ17 : Hid (Sz (K) (((x.den : Nat) : Int)).natAbs) := (by rw [Int.natAbs_natCast]; exact HZ16.out)
 have C10 := Lib.hid (fun w' (h : Below wa9.heap.size wa9 w') B16 m16 d16 (hw16 : zae w' (x.den) B16 m16 d16) => zbG HIC.out (x.den) B16 m16 d16 w' (HT.out _ (zab hB h)) hw16 (by have := Sz.words HZ16.out hw16; omega))
 have HZ18 : Hid (SzQ (K) (((((x.den : Nat) : Int) : Int) : Rat))) := SzQ.whole HZ17.out (by omega)
 have C11 := Lib.hid (fun w' (h : Below wa9.heap.size wa9 w') b17 B17 m17 d17 (hw17 : zaq w' (((x.den : Nat) : Int)) b17 B17 m17 d17) => HQC.out.whole (((x.den : Nat) : Int)) b17 B17 m17 d17 w' (HT.out _ (zab hB h)) hw17 (by have := Sz.words HZ17.out hw17.words; omega))
 have HZ19 : Hid (SzQ (K + K) (x * (((((x.den : Nat) : Int) : Int) : Rat)))) := SzQ.mul HZ3.out HZ18.out
 have C12 := Lib.hid (fun w' (h : Below wa9.heap.size wa9 w') b18 B18 m18 d18 E18 u18 v18 (hw18 : zah w' (((((x.den : Nat) : Int) : Int) : Rat)) b18 B18 m18 d18 E18 u18 v18) => HQC.out.mul (x) (((((x.den : Nat) : Int) : Int) : Rat)) b3 b18 B3 B18 m3 m18 d3 d18 E3 E18 u3 u18 v3 v18 w' (HT.out _ (zab hB h)) (HN3.out.below h) hw18 (SzQ.fit HZ3.out HN3.out (by omega)) (SzQ.fit HZ18.out hw18 (by omega)))
 have HZ20 : Hid (Sz (K) (x.num).natAbs) := SzQ.num HZ3.out
 have C13 := Lib.hid (fun w' (h : Below wa9.heap.size wa9 w') => HQC.out.num (x) b3 B3 m3 d3 E3 u3 v3 w' (HT.out _ (zab hB h)) (HN3.out.below h) (SzQ.fit HZ3.out HN3.out (by omega)))
 have HZ21 : Hid (SzQ (K) (((x.num : Int) : Rat))) := SzQ.whole HZ20.out (by omega)
 have C14 := Lib.hid (fun w' (h : Below wa9.heap.size wa9 w') b20 B20 m20 d20 (hw20 : zaq w' (x.num) b20 B20 m20 d20) => HQC.out.whole (x.num) b20 B20 m20 d20 w' (HT.out _ (zab hB h)) hw20 (by have := Sz.words HZ20.out hw20.words; omega))
 have C15 := Lib.hid (fun w' (h : Below wa9.heap.size wa9 w') b19 B19 m19 d19 E19 u19 v19 (hw19 : zah w' (x * (((((x.den : Nat) : Int) : Int) : Rat))) b19 B19 m19 d19 E19 u19 v19) b21 B21 m21 d21 E21 u21 v21 (hw21 : zah w' (((x.num : Int) : Rat)) b21 B21 m21 d21 E21 u21 v21) => zai (decide_eq_true (zbL x)) (HQC.out.same (x * (((((x.den : Nat) : Int) : Int) : Rat))) (((x.num : Int) : Rat)) b19 b21 B19 B21 m19 m21 d19 d21 E19 E21 u19 u21 v19 v21 w' (HT.out _ (zab hB h)) hw19 hw21 (SzQ.fit HZ19.out hw19 (by omega)) (SzQ.fit HZ21.out hw21 (by omega))))
 have hBw := (Below.refl wa9.heap.size wa9).drew
 refine rg (csc g5 (csc e5 (csc i5 (csc g6 (csc e6 (csc i6 csn)))))) (fun hHeld => ?_)
 refine tk 0 ?_
 try simp only [sb]
 refine tk 1 ?_
 try simp only [sb]
 refine tk 3 ?_
 try simp only [sb]
 refine rc 2 (fun K hK => ?_)
 go_simp
 go_at_call 33; (with_reducible refine (C0.out _ hBw).mono ?_); rintro e wa10 ⟨rfl, hb⟩; have hBw := zab hBw hb; refine hK.out _ _ (Cs.below hHeld hb) (fun hHeld => ?_); clear hK K hb
 try simp only [sb]
 refine tk 4 ?_
 try simp only [sb]
 refine tk 5 ?_
 try simp only [sb]
 refine tk 6 ?_
 try simp only [sb]
 refine tk 9 ?_
 try simp only [sb]
 refine rc 7 (fun K hK => ?_)
 go_simp
 go_at_call 17; (with_reducible refine (C1.out _ hBw).mono ?_); rintro e wa11 ⟨b11, B11, m11, d11, rfl, hw11, hb⟩; have hBw := zab hBw hb; refine hK.out _ _ (Cs.below hHeld hb) (fun hHeld => ?_); clear hK K hb
 try simp only [sb]
 refine rc 8 (fun K hK => ?_)
 go_simp
 go_at_call 47; (with_reducible refine (C2.out _ hBw _ _ _ _ hw11).mono ?_); rintro e wa12 ⟨B12, m12, d12, rfl, hw12, hb⟩; have hBw := zab hBw hb; have hw11 := hw11.below hb; refine hK.out _ _ (Cs.below hHeld hb) (fun hHeld => ?_); clear hK K hb
 try simp only [sb]
 refine rc 10 (fun K hK => ?_)
 go_simp
 go_at_call 45; (with_reducible refine (C3.out _ hBw).mono ?_); rintro e wa13 ⟨B13, m13, d13, rfl, hw13, hb⟩; have hBw := zab hBw hb; have hw11 := hw11.below hb; have hw12 := hw12.below hb; refine hK.out _ _ (Cs.below hHeld hb) (fun hHeld => ?_); clear hK K hb
 try simp only [sb]
 refine rc 11 (fun K hK => ?_)
 go_simp
 go_at_call 46; (with_reducible refine (C4.out _ hBw _ _ _ hw12 _ _ _ hw13).mono ?_); rintro e wa14 ⟨rfl, hb⟩; have hBw := zab hBw hb; have hw11 := hw11.below hb; have hw12 := hw12.below hb; have hw13 := hw13.below hb; refine hK.out _ _ (Cs.below hHeld hb) (fun hHeld => ?_); clear hK K hb
 try simp only [sb]
 refine tk 12 ?_
 try simp only [sb]
 refine tk 13 ?_
 try simp only [sb]
 refine tk 14 ?_
 try simp only [sb]
 refine rc 15 (fun K hK => ?_)
 go_simp
 go_at_call 45; (with_reducible refine (C5.out _ hBw).mono ?_); rintro e wa15 ⟨B15, m15, d15, rfl, hw15, hb⟩; have hBw := zab hBw hb; have hw11 := hw11.below hb; have hw12 := hw12.below hb; have hw13 := hw13.below hb; refine hK.out _ _ (Cs.below hHeld hb) (fun hHeld => ?_); clear hK K hb
 try simp only [sb]
 refine rc 16 (fun K hK => ?_)
 go_simp
 go_at_call 48; (with_reducible refine (C6.out _ hBw _ _ _ hw15).mono ?_); rintro e wa16 ⟨rfl, hb⟩; have hBw := zab hBw hb; have hw11 := hw11.below hb; have hw12 := hw12.below hb; have hw13 := hw13.below hb; have hw15 := hw15.below hb; refine hK.out _ _ (Cs.below hHeld hb) (fun hHeld => ?_); clear hK K hb
 try simp only [sb]
 refine tk 17 ?_
 try simp only [sb]
 refine tk 18 ?_
 try simp only [sb]
 refine tk 19 ?_
 try simp only [sb]
 refine tk 20 ?_
 try simp only [sb]
 refine rc 21 (fun K hK => ?_)
 go_simp
 go_at_call 13; (with_reducible refine (C7.out _ hBw).mono ?_); rintro e wa17 ⟨rfl, hb⟩; have hBw := zab hBw hb; have hw11 := hw11.below hb; have hw12 := hw12.below hb; have hw13 := hw13.below hb; have hw15 := hw15.below hb; refine hK.out _ _ (Cs.below hHeld hb) (fun hHeld => ?_); clear hK K hb
 try simp only [sb]
 refine tk 22 ?_
 try simp only [sb]
 refine tk 23 ?_
 try simp only [sb]
 refine tk 24 ?_
 try simp only [sb]
 refine rc 25 (fun K hK => ?_)
 go_simp
 go_at_call 49; (with_reducible refine (C8.out _ hBw).mono ?_); rintro e wa18 ⟨rfl, hb⟩; have hBw := zab hBw hb; have hw11 := hw11.below hb; have hw12 := hw12.below hb; have hw13 := hw13.below hb; have hw15 := hw15.below hb; refine hK.out _ _ (Cs.below hHeld hb) (fun hHeld => ?_); clear hK K hb
 try simp only [sb]
 refine tk 26 ?_
 try simp only [sb]
 refine tk 27 ?_
 try simp only [sb]
 refine tk 28 ?_
 try simp only [sb]
 refine tk 29 ?_
 try simp only [sb]
 refine tk 30 ?_
 try simp only [sb]
 refine tk 35 ?_
 try simp only [sb]
 refine rc 31 (fun K hK => ?_)
 go_simp
 go_at_call 45; (with_reducible refine (C9.out _ hBw).mono ?_); rintro e wa19 ⟨B16, m16, d16, rfl, hw16, hb⟩; have hBw := zab hBw hb; have hw11 := hw11.below hb; have hw12 := hw12.below hb; have hw13 := hw13.below hb; have hw15 := hw15.below hb; refine hK.out _ _ (Cs.below hHeld hb) (fun hHeld => ?_); clear hK K hb
 try simp only [sb]
 refine rc 32 (fun K hK => ?_)
 go_simp
 go_at_call 51; (with_reducible refine (C10.out _ hBw _ _ _ hw16).mono ?_); rintro e wa20 ⟨b17, B17, m17, d17, rfl, hw17, hb⟩; have hBw := zab hBw hb; have hw11 := hw11.below hb; have hw12 := hw12.below hb; have hw13 := hw13.below hb; have hw15 := hw15.below hb; have hw16 := hw16.below hb; refine hK.out _ _ (Cs.below hHeld hb) (fun hHeld => ?_); clear hK K hb
 try simp only [sb]
 refine rc 33 (fun K hK => ?_)
 go_simp
 go_at_call 50; (with_reducible refine (C11.out _ hBw _ _ _ _ hw17).mono ?_); rintro e wa21 ⟨b18, B18, m18, d18, E18, u18, v18, rfl, hw18, hb⟩; have hBw := zab hBw hb; have hw11 := hw11.below hb; have hw12 := hw12.below hb; have hw13 := hw13.below hb; have hw15 := hw15.below hb; have hw16 := hw16.below hb; have hw17 := hw17.below hb; refine hK.out _ _ (Cs.below hHeld hb) (fun hHeld => ?_); clear hK K hb
 try simp only [sb]
 refine rc 34 (fun K hK => ?_)
 go_simp
 go_at_call 26; (with_reducible refine (C12.out _ hBw _ _ _ _ _ _ _ hw18).mono ?_); rintro e wa22 ⟨b19, B19, m19, d19, E19, u19, v19, rfl, hw19, hb⟩; have hBw := zab hBw hb; have hw11 := hw11.below hb; have hw12 := hw12.below hb; have hw13 := hw13.below hb; have hw15 := hw15.below hb; have hw16 := hw16.below hb; have hw17 := hw17.below hb; have hw18 := hw18.below hb; refine hK.out _ _ (Cs.below hHeld hb) (fun hHeld => ?_); clear hK K hb
 try simp only [sb]
 refine rc 36 (fun K hK => ?_)
 go_simp
 go_at_call 17; (with_reducible refine (C13.out _ hBw).mono ?_); rintro e wa23 ⟨b20, B20, m20, d20, rfl, hw20, hb⟩; have hBw := zab hBw hb; have hw11 := hw11.below hb; have hw12 := hw12.below hb; have hw13 := hw13.below hb; have hw15 := hw15.below hb; have hw16 := hw16.below hb; have hw17 := hw17.below hb; have hw18 := hw18.below hb; have hw19 := hw19.below hb; refine hK.out _ _ (Cs.below hHeld hb) (fun hHeld => ?_); clear hK K hb
 try simp only [sb]
 refine rc 37 (fun K hK => ?_)
 go_simp
 go_at_call 50; (with_reducible refine (C14.out _ hBw _ _ _ _ hw20).mono ?_); rintro e wa24 ⟨b21, B21, m21, d21, E21, u21, v21, rfl, hw21, hb⟩; have hBw := zab hBw hb; have hw11 := hw11.below hb; have hw12 := hw12.below hb; have hw13 := hw13.below hb; have hw15 := hw15.below hb; have hw16 := hw16.below hb; have hw17 := hw17.below hb; have hw18 := hw18.below hb; have hw19 := hw19.below hb; have hw20 := hw20.below hb; refine hK.out _ _ (Cs.below hHeld hb) (fun hHeld => ?_); clear hK K hb
 try simp only [sb]
 refine rc 38 (fun K hK => ?_)
 go_simp
 go_at_call 33; (with_reducible refine (C15.out _ hBw _ _ _ _ _ _ _ hw19 _ _ _ _ _ _ _ hw21).mono ?_); rintro e wa25 ⟨rfl, hb⟩; have hBw := zab hBw hb; have hw11 := hw11.below hb; have hw12 := hw12.below hb; have hw13 := hw13.below hb; have hw15 := hw15.below hb; have hw16 := hw16.below hb; have hw17 := hw17.below hb; have hw18 := hw18.below hb; have hw19 := hw19.below hb; have hw20 := hw20.below hb; have hw21 := hw21.below hb; refine hK.out _ _ (Cs.below hHeld hb) (fun hHeld => ?_); clear hK K hb
 try simp only [sb]
 refine tk 39 ?_
 try simp only [sb]
 refine tk 40 ?_
 try simp only [sb]
 refine rdn ?_
 have hB := zab hB hBw
 have g1 := zaa hBw g1
 have e1 := zaa hBw e1
 have i1 := zaa hBw i1
 have g2 := zaa hBw g2
 have e2 := zaa hBw e2
 have i2 := zaa hBw i2
 have g5 := zaa hBw g5
 have e5 := zaa hBw e5
 have i5 := zaa hBw i5
 have g6 := zaa hBw g6
 have e6 := zaa hBw e6
 have i6 := zaa hBw i6
 have HN3 := Lib.hid (HN3.out.below hBw)
 have HN4 := Lib.hid (HN4.out.below hBw)
 have HN7 := Lib.hid (HN7.out.below hBw)
 have HN8 := Lib.hid (HN8.out.below hBw)
 have HN9 := Lib.hid (HN9.out.below hBw)
 have HN10 := Lib.hid (HN10.out.below hBw)
 have HN11 := Lib.hid hw11
 have HN12 := Lib.hid hw12
 have HN13 := Lib.hid hw13
 have HN15 := Lib.hid hw15
 have HN16 := Lib.hid hw16
 have HN17 := Lib.hid hw17
 have HN18 := Lib.hid hw18
 have HN19 := Lib.hid hw19
 have HN20 := Lib.hid hw20
 have HN21 := Lib.hid hw21
 clear hBw hHeld hw11 hw12 hw13 hw15 hw16 hw17 hw18 hw19 hw20 hw21 C0 C1 C2 C3 C4 C5 C6 C7 C8 C9 C10 C11 C12 C13 C14 C15
 go_wp2
 go_ret
 exact ⟨by first | rfl | simp, hB⟩
set_option maxHeartbeats 16000000 in
theorem zhd {T : World → Prop} (hTb : ∀ w w', T w → Below w.heap.size w w' → T w') (IC : IntC T) (QC : RatC T) (GC : GcdC) (hTT : ∀ w, T w → zan w) (s0 : Bool) (A0 : Option Addr) (n0 c0 : Nat) (l0 : List Nat) (E0 : Option Addr) (u0 v0 : Nat) (e0 : List Nat) (s1 : Bool) (A1 : Option Addr) (n1 c1 : Nat) (l1 : List Nat) (E1 : Option Addr) (u1 v1 : Nat) (e1 : List Nat) (w : World) (h0 : zap w A0 n0 c0 l0) (k0 : zap w E0 u0 v0 e0) (h1 : zap w A1 n1 c1 l1) (k1 : zap w E1 u1 v1 e1) (x0 : fOf s0 l0 e0 ≠ 0) (hs : fOf s0 l0 e0 = fOf s1 l1 e1) (hT : T w) :
  Calls Tryz.prog 7 #[.agg #[.bool s0, .slice A0 n0 c0, .slice E0 u0 v0], .agg #[.bool s1, .slice A1 n1 c1, .slice E1 u1 v1]] w fun e w' => e = .returned (.bool true) ∧ Below w.heap.size w w' := by
 have HAW := Lib.hid (fun w' (hb : Below w.heap.size w w') => zbn hTb IC QC w' (hTb w w' hT hb))
 have HIC := Lib.hid IC
 have HQC := Lib.hid QC
 have HT := Lib.hid (fun w' (hb : Below w.heap.size w w') => hTb w w' hT hb)
 have HGC := Lib.hid GC
 have HTB := Lib.hid (fun w' (hb : Below w.heap.size w w') => hTT w' (hTb w w' hT hb))
 obtain ⟨K, hK⟩ : ∃ K, 1048576 = K := ⟨_, rfl⟩
 have hKK : K ≤ 1048576 := by omega
 have hK0 : 0 < K := by omega
 have HM0 := Lib.hid (fun w' (hb : Below w.heap.size w w') => zaL hTb IC QC s0 A0 n0 c0 l0 E0 u0 v0 e0 w' ⟨(h0.reads.below hb).more hb.size, h0.dgs, h0.fits, h0.small⟩ ⟨(k0.reads.below hb).more hb.size, k0.dgs, k0.fits, k0.small⟩ (hTb w w' hT hb))
 have S0 : SzQ 1048576 (fOf s0 l0 e0) := zbp h0 k0
 rw [hK] at S0
 obtain ⟨x, hz0⟩ : ∃ x, fOf s0 l0 e0 = x := ⟨_, rfl⟩
 rw [hz0] at HM0 S0 x0 hs
 have HS0 := Lib.hid S0
 have HM1 := Lib.hid (fun w' (hb : Below w.heap.size w w') => zaL hTb IC QC s1 A1 n1 c1 l1 E1 u1 v1 e1 w' ⟨(h1.reads.below hb).more hb.size, h1.dgs, h1.fits, h1.small⟩ ⟨(k1.reads.below hb).more hb.size, k1.dgs, k1.fits, k1.small⟩ (hTb w w' hT hb))
 have S1 : SzQ 1048576 (fOf s1 l1 e1) := zbp h1 k1
 rw [hK] at S1
 obtain ⟨y, hz1⟩ : ∃ x, fOf s1 l1 e1 = x := ⟨_, rfl⟩
 rw [hz1] at HM1 S1 hs
 have HS1 := Lib.hid S1
 have Hx0 := Lib.hid x0
 have Hhs := Lib.hid hs
 clear IC QC hT GC h0 k0 hz0 S0 h1 k1 hz1 S1 x0 hs hK
 go_enter Tryz.func7, Tryz.ntmps7
 have hB := Below.refl w.heap.size w
 obtain ⟨bx1, bx2, bx3, bz⟩ := zaW w 48 48 #[.bool s0, .slice A0 n0 c0, .slice E0 u0 v0] #[.bool s1, .slice A1 n1 c1, .slice E1 u1 v1]
 have hB := zab hB bx1
 obtain ⟨g1, e1, i1⟩ := bx2.c3
 obtain ⟨g2, e2, i2⟩ := bx3.c3
 clear bx1 bx2 bx3 bz
 go_wp2_with fail
 generalize (w.alloc (.cells #[.bool s0, .slice A0 n0 c0, .slice E0 u0 v0] 48)).alloc (.cells #[.bool s1, .slice A1 n1 c1, .slice E1 u1 v1] 48) = W1 at *
 (with_reducible refine (HAW.out _ hB).mono ?_)
 rintro e wc2 ⟨rfl, hb⟩
 have hB := zab hB hb
 have g1 := zaa hb g1
 have e1 := zaa hb e1
 have i1 := zaa hb i1
 have g2 := zaa hb g2
 have e2 := zaa hb e2
 have i2 := zaa hb i2
 clear hb 
 go_wp2_with fail
 have HZ3 : Hid (SzQ (K) (x)) := HS0.out
 have C0 := Lib.hid (fun w' (h : Below wc2.heap.size wc2 w') => HM0.out _ (zab hB h))
 have HZ4 : Hid (SzQ (K) (y)) := HS1.out
 have C1 := Lib.hid (fun w' (h : Below wc2.heap.size wc2 w') => HM1.out _ (zab hB h))
 have GG := Lib.hid (fun w' (h : Below wc2.heap.size wc2 w') => (csc (zaa h g1) (csc (zaa h e1) (csc (zaa h i1) (csc (zaa h g2) (csc (zaa h e2) (csc (zaa h i2) csn)))))))
 refine rgB (fun hHeld => ?_)
 refine tl 0 GG.out ?_
 try simp only [sb]
 refine tl 2 GG.out ?_
 try simp only [sb]
 refine zaw (L := #[true, true, true, true, true, true, true, true])
  (J := fun a0 l a w' => ∃ (fl1 fl3 fl4 fl5 fl6 fl7 b3 : Bool) (B3 : Option Addr) (m3 d3 : Nat) (E3 : Option Addr) (u3 v3 : Nat) (b4 : Bool) (B4 : Option Addr) (m4 d4 : Nat) (E4 : Option Addr) (u4 v4 ad4 ad5 : Nat), l = #[true, fl1, true, fl3, fl4, fl5, fl6, fl7] ∧ zaT [11, 13, 5, 6] a0 a ∧ Hid (Below wc2.heap.size wc2 w') ∧
    Hid (Gd fl1 (a.tmps.getD 11 undef = .agg #[.bool b3, .slice B3 m3 d3, .slice E3 u3 v3] ∧ zah w' (x) b3 B3 m3 d3 E3 u3 v3)) ∧
    Hid (Gd fl3 (a.tmps.getD 13 undef = .agg #[.bool b4, .slice B4 m4 d4, .slice E4 u4 v4] ∧ zah w' (y) b4 B4 m4 d4 E4 u4 v4)) ∧
    Hid (Gd fl4 (a.tmps.getD 5 undef = .pointer (some ⟨ad4, 0, none⟩) ∧ wc2.heap.size ≤ ad4 ∧ Blk w' ad4 31 (bif fl6 then #[.bool b3, .slice B3 m3 d3, .slice E3 u3 v3] else #[.bool false, .slice none 0 0, .slice none 0 0]))) ∧
    Hid (Gd fl5 (a.tmps.getD 6 undef = .pointer (some ⟨ad5, 0, none⟩) ∧ wc2.heap.size ≤ ad5 ∧ Blk w' ad5 31 (bif fl7 then #[.bool b4, .slice B4 m4 d4, .slice E4 u4 v4] else #[.bool false, .slice none 0 0, .slice none 0 0]))) ∧
    Hid (Gd fl4 (Gd fl5 (ad4 ≠ ad5))) ∧
    Hid (Gd fl3 (fl1 = true)) ∧
    Hid (Gd fl6 (fl1 = true)) ∧
    Hid (Gd fl6 (fl3 = true)) ∧
    Hid (Gd fl6 (fl4 = true)) ∧
    Hid (Gd fl7 (fl3 = true)) ∧
    Hid (Gd fl7 (fl5 = true)) ∧
    Hid (Gd fl7 (fl6 = true)))
  (by rfl) ?_ ?_ ?_
 ·exact ⟨false, false, false, false, false, false, false, none, 0, 0, none, 0, 0, false, none, 0, 0, none, 0, 0, 0, 0, by kernel_rfl, zaT.refl _ _, hHeld, Gd.no, Gd.no, Gd.no, Gd.no, Gd.no, Gd.no, Gd.no, Gd.no, Gd.no, Gd.no, Gd.no, Gd.no⟩
 ·intro OPS Ac0 Q0 hO hAs hA
  have RB10 : Ac0.tmps.getD 10 undef = .agg #[.bool s0, .slice A0 n0 c0, .slice E0 u0 v0] := (hA 10 undef).trans (by kernel_rfl)
  have RB12 : Ac0.tmps.getD 12 undef = .agg #[.bool s1, .slice A1 n1 c1, .slice E1 u1 v1] := (hA 12 undef).trans (by kernel_rfl)
  have hsz : Ac0.tmps.size = 68 := hAs.trans (by kernel_rfl)
  clear hAs hA
  refine ⟨?_, ?_⟩
  ·rintro l a w' ⟨fl1, fl3, fl4, fl5, fl6, fl7, b3, B3, m3, d3, E3, u3, v3, b4, B4, m4, d4, E4, u4, v4, ad4, ad5, rfl, -⟩ hr
   obtain rfl : fl1 = true := als 1 hr hO
   obtain rfl : fl3 = true := als 3 hr hO
   obtain rfl : fl4 = true := als 4 hr hO
   obtain rfl : fl5 = true := als 5 hr hO
   obtain rfl : fl6 = true := als 6 hr hO
   obtain rfl : fl7 = true := als 7 hr hO
   rfl
  ·rintro l a w' i ⟨fl1, fl3, fl4, fl5, fl6, fl7, b3, B3, m3, d3, E3, u3, v3, b4, B4, m4, d4, E4, u4, v4, ad4, ad5, rfl, HKp, hBi, qf1, qf3, qf4, qf5, qn4_5, qd3_1, qd6_1, qd6_3, qd6_4, qd7_3, qd7_5, qd7_6⟩ hne hi
   have hlt : i < 8 := by have := zaJ hi; rw [hO] at this; exact this
   rcases (show i = 0 ∨ i = 1 ∨ i = 2 ∨ i = 3 ∨ i = 4 ∨ i = 5 ∨ i = 6 ∨ i = 7 by omega) with rfl | rfl | rfl | rfl | rfl | rfl | rfl | rfl
   ·cases (zad hi : true = false)
   ·obtain rfl : fl1 = false := zad hi
    obtain rfl : fl3 = false := Gd.off qd3_1.out
    obtain rfl : fl6 = false := Gd.off qd6_1.out
    obtain rfl : fl7 = false := Gd.off qd7_3.out
    have rd10 := HKp.get 10 (by decide) RB10
    refine wog hO (fun K' hK => ?_)
    go_simp
    refine (C0.out w' hBi.out).mono ?_
    rintro e w2 ⟨nb3, nB3, nm3, nd3, nE3, nu3, nv3, rfl, nhw3, hb⟩
    exact hK.out _ _ ⟨zab hBi.out hb, true, false, fl4, fl5, false, false, nb3, nB3, nm3, nd3, nE3, nu3, nv3, b4, B4, m4, d4, E4, u4, v4, ad4, ad5, by rfl, HKp.put (by decide) _, zab hBi.out hb, Gd.yes ⟨zal (HKp.lt (by rw [hsz]; decide)) _, nhw3⟩, Gd.no, kq qf4.out fun h => ⟨h.1, zac hb h.2⟩, kq qf5.out fun h => ⟨h.1, zac hb h.2⟩, qn4_5, Gd.no, Gd.no, Gd.no, Gd.no, Gd.no, Gd.no, Gd.no⟩
   ·cases (zad hi : true = false)
   ·obtain rfl : fl3 = false := zad hi
    obtain rfl : fl1 = true := rdp 1 1 hi hO
    obtain rfl : fl6 = false := Gd.off qd6_3.out
    obtain rfl : fl7 = false := Gd.off qd7_3.out
    have rd12 := HKp.get 12 (by decide) RB12
    refine wog hO (fun K' hK => ?_)
    go_simp
    refine (C1.out w' hBi.out).mono ?_
    rintro e w2 ⟨nb4, nB4, nm4, nd4, nE4, nu4, nv4, rfl, nhw4, hb⟩
    exact hK.out _ _ ⟨zab hBi.out hb, true, true, fl4, fl5, false, false, b3, B3, m3, d3, E3, u3, v3, nb4, nB4, nm4, nd4, nE4, nu4, nv4, ad4, ad5, by rfl, HKp.put (by decide) _, zab hBi.out hb, kq qf1.out fun h => (h).below hb, Gd.yes ⟨zal (HKp.lt (by rw [hsz]; decide)) _, nhw4⟩, kq qf4.out fun h => ⟨h.1, zac hb h.2⟩, kq qf5.out fun h => ⟨h.1, zac hb h.2⟩, qn4_5, fun _ => rfl, Gd.no, Gd.no, Gd.no, Gd.no, Gd.no, Gd.no⟩
   ·obtain rfl : fl4 = false := zad hi
    obtain rfl : fl6 = false := Gd.off qd6_4.out
    obtain rfl : fl7 = false := Gd.off qd7_6.out
    refine wog hO (fun K' hK => ?_)
    go_simp
    have hb := zau w' (.cells #[.bool false, .slice none 0 0, .slice none 0 0] 31)
    exact hK.out _ _ ⟨zab hBi.out hb, fl1, fl3, true, fl5, false, false, b3, B3, m3, d3, E3, u3, v3, b4, B4, m4, d4, E4, u4, v4, w'.heap.size, ad5, by rfl, HKp.put (by decide) _, zab hBi.out hb, kq qf1.out fun h => (h).below hb, kq qf3.out fun h => (h).below hb, Gd.yes ⟨zal (HKp.lt (by rw [hsz]; decide)) _, hBi.out.size, Blk.new w' _ _⟩, kq qf5.out fun h => ⟨h.1, zac hb h.2⟩, Gd.yes (qf5.out.mono fun h => by have := Blk.lt h.2.2; omega), qd3_1, Gd.no, Gd.no, Gd.no, Gd.no, Gd.no, Gd.no⟩
   ·obtain rfl : fl5 = false := zad hi
    obtain rfl : fl7 = false := Gd.off qd7_5.out
    refine wog hO (fun K' hK => ?_)
    go_simp
    have hb := zau w' (.cells #[.bool false, .slice none 0 0, .slice none 0 0] 31)
    exact hK.out _ _ ⟨zab hBi.out hb, fl1, fl3, fl4, true, fl6, false, b3, B3, m3, d3, E3, u3, v3, b4, B4, m4, d4, E4, u4, v4, ad4, w'.heap.size, by rfl, HKp.put (by decide) _, zab hBi.out hb, kq qf1.out fun h => (h).below hb, kq qf3.out fun h => (h).below hb, kq qf4.out fun h => ⟨h.1, zac hb h.2⟩, Gd.yes ⟨zal (HKp.lt (by rw [hsz]; decide)) _, hBi.out.size, Blk.new w' _ _⟩, qf4.out.mono fun h => Gd.yes (by have := Blk.lt h.2.2; omega), qd3_1, qd6_1, qd6_3, qd6_4, Gd.no, Gd.no, Gd.no⟩
   ·obtain rfl : fl6 = false := zad hi
    obtain rfl : fl1 = true := rdp 1 1 hi hO
    obtain rfl : fl3 = true := rdp 3 2 hi hO
    obtain rfl : fl4 = true := rdp 4 0 hi hO
    obtain rfl : fl5 = true := rdp 5 8 hi hO
    obtain rfl : fl7 = false := Gd.off qd7_6.out
    have rd5 := qf4.out.get.1
    have rd11 := qf1.out.get.1
    obtain ⟨_, hg, hk⟩ := qf4.out.get
    have hk : Blk w' ad4 31 #[.bool false, .slice none 0 0, .slice none 0 0] := hk
    obtain ⟨sc0, sf0, sc1, sf1, sc2, sf2⟩ := st3 hk (.bool b3) (.slice B3 m3 d3)
    have hj2 := sn3 hk (.bool b3) (.slice B3 m3 d3) (.slice E3 u3 v3)
    have hBn := bl3 (.bool b3) (.slice B3 m3 d3) (.slice E3 u3 v3) hg hBi.out
    refine wog hO (fun K' hK => ?_)
    go_simp
    exact hK.out _ _ ⟨hBn, true, true, true, true, true, false, b3, B3, m3, d3, E3, u3, v3, b4, B4, m4, d4, E4, u4, v4, ad4, ad5, by rfl, HKp, hBn, qf1.out.mono fun h => ⟨h.1, zar (h.2) hk zaK (zaI _ _ _ _ _)⟩, qf3.out.mono fun h => ⟨h.1, zar (h.2) hk zaK (zaI _ _ _ _ _)⟩, qf4.out.mono fun h => ⟨h.1, h.2.1, hj2⟩, fun hf9 => (fun h => ⟨h.1, h.2.1, Blk.far (p := ⟨ad4, 2, none⟩) (Blk.far (p := ⟨ad4, 1, none⟩) (Blk.far (p := ⟨ad4, 0, none⟩) (h.2.2) (Ne.symm (qn4_5.out rfl hf9)) (.bool b3)) (Ne.symm (qn4_5.out rfl hf9)) (.slice B3 m3 d3)) (Ne.symm (qn4_5.out rfl hf9)) (.slice E3 u3 v3)⟩) (qf5.out hf9), qn4_5, fun _ => rfl, fun _ => rfl, fun _ => rfl, fun _ => rfl, Gd.no, Gd.no, Gd.no⟩
   ·obtain rfl : fl7 = false := zad hi
    obtain rfl : fl1 = true := rdp 1 4 hi hO
    obtain rfl : fl3 = true := rdp 3 1 hi hO
    obtain rfl : fl4 = true := rdp 4 7 hi hO
    obtain rfl : fl5 = true := rdp 5 0 hi hO
    obtain rfl : fl6 = true := rdp 6 2 hi hO
    have rd6 := qf5.out.get.1
    have rd13 := qf3.out.get.1
    obtain ⟨_, hg, hk⟩ := qf5.out.get
    have hk : Blk w' ad5 31 #[.bool false, .slice none 0 0, .slice none 0 0] := hk
    obtain ⟨sc0, sf0, sc1, sf1, sc2, sf2⟩ := st3 hk (.bool b4) (.slice B4 m4 d4)
    have hj2 := sn3 hk (.bool b4) (.slice B4 m4 d4) (.slice E4 u4 v4)
    have hBn := bl3 (.bool b4) (.slice B4 m4 d4) (.slice E4 u4 v4) hg hBi.out
    refine wog hO (fun K' hK => ?_)
    go_simp
    exact hK.out _ _ ⟨hBn, true, true, true, true, true, true, b3, B3, m3, d3, E3, u3, v3, b4, B4, m4, d4, E4, u4, v4, ad4, ad5, by rfl, HKp, hBn, qf1.out.mono fun h => ⟨h.1, zar (h.2) hk zaK (zaI _ _ _ _ _)⟩, qf3.out.mono fun h => ⟨h.1, zar (h.2) hk zaK (zaI _ _ _ _ _)⟩, fun hf9 => (fun h => ⟨h.1, h.2.1, Blk.far (p := ⟨ad5, 2, none⟩) (Blk.far (p := ⟨ad5, 1, none⟩) (Blk.far (p := ⟨ad5, 0, none⟩) (h.2.2) (qn4_5.out hf9 rfl) (.bool b4)) (qn4_5.out hf9 rfl) (.slice B4 m4 d4)) (qn4_5.out hf9 rfl) (.slice E4 u4 v4)⟩) (qf4.out hf9), qf5.out.mono fun h => ⟨h.1, h.2.1, hj2⟩, qn4_5, fun _ => rfl, fun _ => rfl, fun _ => rfl, fun _ => rfl, fun _ => rfl, fun _ => rfl, fun _ => rfl⟩
 rintro a wm3 ⟨fl1, fl3, fl4, fl5, fl6, fl7, b3, B3, m3, d3, E3, u3, v3, b4, B4, m4, d4, E4, u4, v4, ad4, ad5, hl, HKp, hBi, qf1, qf3, qf4, qf5, qn4_5, qd3_1, qd6_1, qd6_3, qd6_4, qd7_3, qd7_5, qd7_6⟩
 have xx1 : fl1 = true := gdl 1 hl
 subst xx1
 have xx3 : fl3 = true := gdl 3 hl
 subst xx3
 have xx4 : fl4 = true := gdl 4 hl
 subst xx4
 have xx5 : fl5 = true := gdl 5 hl
 subst xx5
 have xx6 : fl6 = true := gdl 6 hl
 subst xx6
 have xx7 : fl7 = true := gdl 7 hl
 subst xx7
 obtain ⟨rv1, hw3⟩ := qf1.out.get
 obtain ⟨rv3, hw4⟩ := qf3.out.get
 obtain ⟨rv4, hg4, hk4⟩ := qf4.out.get
 obtain ⟨rv5, hg5, hk5⟩ := qf5.out.get
 obtain rfl := HKp.eq [(11, .agg #[.bool b3, .slice B3 m3 d3, .slice E3 u3 v3]), (13, .agg #[.bool b4, .slice B4 m4 d4, .slice E4 u4 v4]), (5, .pointer (some ⟨ad4, 0, none⟩)), (6, .pointer (some ⟨ad5, 0, none⟩))] rfl (by
  intro p hp
  simp only [List.mem_cons, List.not_mem_nil, or_false] at hp
  rcases hp with rfl | rfl | rfl | rfl
  ·exact rv1
  ·exact rv3
  ·exact rv4
  ·exact rv5)
 have hBv := hBi.out
 clear hl hBi HKp qf1 qf3 qf4 qf5 qn4_5 qd3_1 qd6_1 qd6_3 qd6_4 qd7_3 qd7_5 qd7_6 rv1 rv3 rv4 rv5
 have hk4 : Blk wm3 ad4 31 #[.bool b3, .slice B3 m3 d3, .slice E3 u3 v3] := hk4
 have hk5 : Blk wm3 ad5 31 #[.bool b4, .slice B4 m4 d4, .slice E4 u4 v4] := hk5
 rw [show due #[true, true, true, true, true, true, true, true] = 0 from rfl]
 simp only [zaR, List.foldl, Act.put, List.setIfInBounds_toArray, List.set_cons_zero, List.set_cons_succ]
 refine wpAnyH_done (by kernel_rfl) ?_ _
 refine NoPanic.normal ?_
 have hB := zab hB hBv
 have g1 := zaa hBv g1
 have e1 := zaa hBv e1
 have i1 := zaa hBv i1
 have g2 := zaa hBv g2
 have e2 := zaa hBv e2
 have i2 := zaa hBv i2
 obtain ⟨ad4_5, hga⟩ : ∃ x, x = ad4 := ⟨_, rfl⟩
 subst hga
 obtain ⟨g5, e5, i5⟩ := hk4.c3
 obtain ⟨ad5_6, hga⟩ : ∃ x, x = ad5 := ⟨_, rfl⟩
 subst hga
 obtain ⟨g6, e6, i6⟩ := hk5.c3
 have HN3 := Lib.hid hw3
 have HN4 := Lib.hid hw4
 clear hBv hk4 hg4 hk5 hg5 hw3 hw4 GG
 clear C0 C1
 go_wp2_with fail
 have HZ7 : Hid (Sz (K) (x.num).natAbs) := SzQ.num HZ3.out
 have C0 := Lib.hid (fun w' (h : Below wm3.heap.size wm3 w') => HQC.out.num (x) b3 B3 m3 d3 E3 u3 v3 w' (HT.out _ (zab hB h)) (HN3.out.below h) (SzQ.fit HZ3.out HN3.out (by omega)))
 have HZ8 : Hid (Sz (K) (y.num).natAbs) := SzQ.num HZ4.out
 have C1 := Lib.hid (fun w' (h : Below wm3.heap.size wm3 w') => HQC.out.num (y) b4 B4 m4 d4 E4 u4 v4 w' (HT.out _ (zab hB h)) (HN4.out.below h) (SzQ.fit HZ4.out HN4.out (by omega)))
 have C2 := Lib.hid (fun w' (h : Below wm3.heap.size wm3 w') b7 B7 m7 d7 (hw7 : zaq w' (x.num) b7 B7 m7 d7) b8 B8 m8 d8 (hw8 : zaq w' (y.num) b8 B8 m8 d8) => zcl (by rw [Hhs.out]) (HIC.out.cmp (x.num) (y.num) b7 b8 B7 B8 m7 m8 d7 d8 w' (HT.out _ (zab hB h)) hw7 hw8 (by have := Sz.words HZ7.out hw7.words; omega) (by have := Sz.words HZ8.out hw8.words; omega)))
 have HZ9 : Hid (Sz (K) (x.den)) := SzQ.den HZ3.out
 have C3 := Lib.hid (fun w' (h : Below wm3.heap.size wm3 w') => HQC.out.den (x) b3 B3 m3 d3 E3 u3 v3 w' (HT.out _ (zab hB h)) (HN3.out.below h) (SzQ.fit HZ3.out HN3.out (by omega)))
 have HZ10 : Hid (Sz (K) (y.den)) := SzQ.den HZ4.out
 have C4 := Lib.hid (fun w' (h : Below wm3.heap.size wm3 w') => HQC.out.den (y) b4 B4 m4 d4 E4 u4 v4 w' (HT.out _ (zab hB h)) (HN4.out.below h) (SzQ.fit HZ4.out HN4.out (by omega)))
 have C5 := Lib.hid (fun w' (h : Below wm3.heap.size wm3 w') B9 m9 d9 (hw9 : zae w' (x.den) B9 m9 d9) B10 m10 d10 (hw10 : zae w' (y.den) B10 m10 d10) => cmpEq (x := x.den) (y := y.den) (by rw [Hhs.out]) hw9 hw10 (by have := Sz.words HZ9.out hw9; omega) (by have := Sz.words HZ10.out hw10; omega))
 have hBw := (Below.refl wm3.heap.size wm3).drew
 refine rg (csc g5 (csc e5 (csc i5 (csc g6 (csc e6 (csc i6 csn)))))) (fun hHeld => ?_)
 refine tk 0 ?_
 try simp only [sb]
 refine tk 2 ?_
 try simp only [sb]
 refine rc 1 (fun K hK => ?_)
 go_simp
 go_at_call 17; (with_reducible refine (C0.out _ hBw).mono ?_); rintro e wa4 ⟨b7, B7, m7, d7, rfl, hw7, hb⟩; have hBw := zab hBw hb; refine hK.out _ _ (Cs.below hHeld hb) (fun hHeld => ?_); clear hK K hb
 try simp only [sb]
 refine rc 3 (fun K hK => ?_)
 go_simp
 go_at_call 17; (with_reducible refine (C1.out _ hBw).mono ?_); rintro e wa5 ⟨b8, B8, m8, d8, rfl, hw8, hb⟩; have hBw := zab hBw hb; have hw7 := hw7.below hb; refine hK.out _ _ (Cs.below hHeld hb) (fun hHeld => ?_); clear hK K hb
 try simp only [sb]
 refine rc 4 (fun K hK => ?_)
 go_simp
 go_at_call 43; (with_reducible refine (C2.out _ hBw _ _ _ _ hw7 _ _ _ _ hw8).mono ?_); rintro e wa6 ⟨rfl, hb⟩; have hBw := zab hBw hb; have hw7 := hw7.below hb; have hw8 := hw8.below hb; refine hK.out _ _ (Cs.below hHeld hb) (fun hHeld => ?_); clear hK K hb
 try simp only [sb]
 refine tk 5 ?_
 try simp only [sb]
 refine tk 6 ?_
 try simp only [sb]
 refine tk 7 ?_
 try simp only [sb]
 refine tk 9 ?_
 try simp only [sb]
 refine rc 8 (fun K hK => ?_)
 go_simp
 go_at_call 45; (with_reducible refine (C3.out _ hBw).mono ?_); rintro e wa7 ⟨B9, m9, d9, rfl, hw9, hb⟩; have hBw := zab hBw hb; have hw7 := hw7.below hb; have hw8 := hw8.below hb; refine hK.out _ _ (Cs.below hHeld hb) (fun hHeld => ?_); clear hK K hb
 try simp only [sb]
 refine rc 10 (fun K hK => ?_)
 go_simp
 go_at_call 45; (with_reducible refine (C4.out _ hBw).mono ?_); rintro e wa8 ⟨B10, m10, d10, rfl, hw10, hb⟩; have hBw := zab hBw hb; have hw7 := hw7.below hb; have hw8 := hw8.below hb; have hw9 := hw9.below hb; refine hK.out _ _ (Cs.below hHeld hb) (fun hHeld => ?_); clear hK K hb
 try simp only [sb]
 refine rc 11 (fun K hK => ?_)
 go_simp
 go_at_call 44; (with_reducible refine (C5.out _ hBw _ _ _ hw9 _ _ _ hw10).mono ?_); rintro e wa9 ⟨rfl, hb⟩; have hBw := zab hBw hb; have hw7 := hw7.below hb; have hw8 := hw8.below hb; have hw9 := hw9.below hb; have hw10 := hw10.below hb; refine hK.out _ _ (Cs.below hHeld hb) (fun hHeld => ?_); clear hK K hb
 try simp only [sb]
 refine tk 12 ?_
 try simp only [sb]
 refine tk 13 ?_
 try simp only [sb]
 refine tk 14 ?_
 try simp only [sb]
 refine rdn ?_
 have hB := zab hB hBw
 have g1 := zaa hBw g1
 have e1 := zaa hBw e1
 have i1 := zaa hBw i1
 have g2 := zaa hBw g2
 have e2 := zaa hBw e2
 have i2 := zaa hBw i2
 have g5 := zaa hBw g5
 have e5 := zaa hBw e5
 have i5 := zaa hBw i5
 have g6 := zaa hBw g6
 have e6 := zaa hBw e6
 have i6 := zaa hBw i6
 have HN3 := Lib.hid (HN3.out.below hBw)
 have HN4 := Lib.hid (HN4.out.below hBw)
 have HN7 := Lib.hid hw7
 have HN8 := Lib.hid hw8
 have HN9 := Lib.hid hw9
 have HN10 := Lib.hid hw10
 clear hBw hHeld hw7 hw8 hw9 hw10 C0 C1 C2 C3 C4 C5
 go_wp2_with fail
 have C0 := Lib.hid (fun w' (h : Below wa9.heap.size wa9 w') => zai (decide_eq_true Hhs.out) (HQC.out.same (x) (y) b3 b4 B3 B4 m3 m4 d3 d4 E3 E4 u3 u4 v3 v4 w' (HT.out _ (zab hB h)) (HN3.out.below h) (HN4.out.below h) (SzQ.fit HZ3.out HN3.out (by omega)) (SzQ.fit HZ4.out HN4.out (by omega))))
 have HZ11 : Hid (Sz (K) (x.num).natAbs) := SzQ.num HZ3.out
 have C1 := Lib.hid (fun w' (h : Below wa9.heap.size wa9 w') => HQC.out.num (x) b3 B3 m3 d3 E3 u3 v3 w' (HT.out _ (zab hB h)) (HN3.out.below h) (SzQ.fit HZ3.out HN3.out (by omega)))
 have HZ12 : Hid (Sz (K) (x.num.natAbs)) := HZ11.out
 have C2 := Lib.hid (fun w' (h : Below wa9.heap.size wa9 w') b11 B11 m11 d11 (hw11 : zaq w' (x.num) b11 B11 m11 d11) => HIC.out.abs (x.num) b11 B11 m11 d11 w' (HT.out _ (zab hB h)) hw11 (by have := Sz.words HZ11.out hw11.words; omega))
 have HZ13 : Hid (Sz (K) (x.den)) := SzQ.den HZ3.out
 have C3 := Lib.hid (fun w' (h : Below wa9.heap.size wa9 w') => HQC.out.den (x) b3 B3 m3 d3 E3 u3 v3 w' (HT.out _ (zab hB h)) (HN3.out.below h) (SzQ.fit HZ3.out HN3.out (by omega)))
 have CP14 : Hid (copB (x.num.natAbs) (x.den) = true) := (decide_eq_true (show Nat.gcd _ _ = 1 from x.reduced))
 have C4 := Lib.hid (fun w' (h : Below wa9.heap.size wa9 w') B12 m12 d12 (hw12 : zae w' (x.num.natAbs) B12 m12 d12) B13 m13 d13 (hw13 : zae w' (x.den) B13 m13 d13) => CP14.out ▸ HGC.out.coprime (x.num.natAbs) (x.den) B12 B13 m12 m13 d12 d13 w' hw12 hw13 (by have := Sz.words HZ12.out hw12; omega) (by have := Sz.words HZ13.out hw13; omega) (HTB.out _ (zab hB h)))
 have HZ15 : Hid (Sz (K) (x.den)) := SzQ.den HZ3.out
 have C5 := Lib.hid (fun w' (h : Below wa9.heap.size wa9 w') => HQC.out.den (x) b3 B3 m3 d3 E3 u3 v3 w' (HT.out _ (zab hB h)) (HN3.out.below h) (SzQ.fit HZ3.out HN3.out (by omega)))
 have C6 := Lib.hid (fun w' (h : Below wa9.heap.size wa9 w') B15 m15 d15 (hw15 : zae w' (x.den) B15 m15 d15) => zbm x.den_nz hw15)
 have C7 := Lib.hid (fun w' (h : Below wa9.heap.size wa9 w') => zai (decide_eq_false Hx0.out) (HQC.out.zero (x) b3 B3 m3 d3 E3 u3 v3 w' (HT.out _ (zab hB h)) (HN3.out.below h) (SzQ.fit HZ3.out HN3.out (by omega))))
 have HZ16 : Hid (Sz (K) (x.den)) := SzQ.den HZ3.out
 have C8 := Lib.hid (fun w' (h : Below wa9.heap.size wa9 w') => HQC.out.den (x) b3 B3 m3 d3 E3 u3 v3 w' (HT.out _ (zab hB h)) (HN3.out.below h) (SzQ.fit HZ3.out HN3.out (by omega)))
 have HZ17 : Hid (Sz (K) (((x.den : Nat) : Int)).natAbs) := (by rw [Int.natAbs_natCast]; exact HZ16.out)
 have C9 := Lib.hid (fun w' (h : Below wa9.heap.size wa9 w') B16 m16 d16 (hw16 : zae w' (x.den) B16 m16 d16) => zbG HIC.out (x.den) B16 m16 d16 w' (HT.out _ (zab hB h)) hw16 (by have := Sz.words HZ16.out hw16; omega))
 have HZ18 : Hid (SzQ (K) (((((x.den : Nat) : Int) : Int) : Rat))) := SzQ.whole HZ17.out (by omega)
 have C10 := Lib.hid (fun w' (h : Below wa9.heap.size wa9 w') b17 B17 m17 d17 (hw17 : zaq w' (((x.den : Nat) : Int)) b17 B17 m17 d17) => HQC.out.whole (((x.den : Nat) : Int)) b17 B17 m17 d17 w' (HT.out _ (zab hB h)) hw17 (by have := Sz.words HZ17.out hw17.words; omega))
 have HZ19 : Hid (SzQ (K + K) (x * (((((x.den : Nat) : Int) : Int) : Rat)))) := SzQ.mul HZ3.out HZ18.out
 have C11 := Lib.hid (fun w' (h : Below wa9.heap.size wa9 w') b18 B18 m18 d18 E18 u18 v18 (hw18 : zah w' (((((x.den : Nat) : Int) : Int) : Rat)) b18 B18 m18 d18 E18 u18 v18) => HQC.out.mul (x) (((((x.den : Nat) : Int) : Int) : Rat)) b3 b18 B3 B18 m3 m18 d3 d18 E3 E18 u3 u18 v3 v18 w' (HT.out _ (zab hB h)) (HN3.out.below h) hw18 (SzQ.fit HZ3.out HN3.out (by omega)) (SzQ.fit HZ18.out hw18 (by omega)))
 have HZ20 : Hid (Sz (K) (x.num).natAbs) := SzQ.num HZ3.out
 have C12 := Lib.hid (fun w' (h : Below wa9.heap.size wa9 w') => HQC.out.num (x) b3 B3 m3 d3 E3 u3 v3 w' (HT.out _ (zab hB h)) (HN3.out.below h) (SzQ.fit HZ3.out HN3.out (by omega)))
 have HZ21 : Hid (SzQ (K) (((x.num : Int) : Rat))) := SzQ.whole HZ20.out (by omega)
 have C13 := Lib.hid (fun w' (h : Below wa9.heap.size wa9 w') b20 B20 m20 d20 (hw20 : zaq w' (x.num) b20 B20 m20 d20) => HQC.out.whole (x.num) b20 B20 m20 d20 w' (HT.out _ (zab hB h)) hw20 (by have := Sz.words HZ20.out hw20.words; omega))
 have C14 := Lib.hid (fun w' (h : Below wa9.heap.size wa9 w') b19 B19 m19 d19 E19 u19 v19 (hw19 : zah w' (x * (((((x.den : Nat) : Int) : Int) : Rat))) b19 B19 m19 d19 E19 u19 v19) b21 B21 m21 d21 E21 u21 v21 (hw21 : zah w' (((x.num : Int) : Rat)) b21 B21 m21 d21 E21 u21 v21) => zai (decide_eq_true (zbL x)) (HQC.out.same (x * (((((x.den : Nat) : Int) : Int) : Rat))) (((x.num : Int) : Rat)) b19 b21 B19 B21 m19 m21 d19 d21 E19 E21 u19 u21 v19 v21 w' (HT.out _ (zab hB h)) hw19 hw21 (SzQ.fit HZ19.out hw19 (by omega)) (SzQ.fit HZ21.out hw21 (by omega))))
 have hBw := (Below.refl wa9.heap.size wa9).drew
 refine rg (csc g5 (csc e5 (csc i5 (csc g6 (csc e6 (csc i6 csn)))))) (fun hHeld => ?_)
 refine tk 0 ?_
 try simp only [sb]
 refine tk 1 ?_
 try simp only [sb]
 refine tk 3 ?_
 try simp only [sb]
 refine rc 2 (fun K hK => ?_)
 go_simp
 go_at_call 33; (with_reducible refine (C0.out _ hBw).mono ?_); rintro e wa10 ⟨rfl, hb⟩; have hBw := zab hBw hb; refine hK.out _ _ (Cs.below hHeld hb) (fun hHeld => ?_); clear hK K hb
 try simp only [sb]
 refine tk 4 ?_
 try simp only [sb]
 refine tk 5 ?_
 try simp only [sb]
 refine tk 6 ?_
 try simp only [sb]
 refine tk 9 ?_
 try simp only [sb]
 refine rc 7 (fun K hK => ?_)
 go_simp
 go_at_call 17; (with_reducible refine (C1.out _ hBw).mono ?_); rintro e wa11 ⟨b11, B11, m11, d11, rfl, hw11, hb⟩; have hBw := zab hBw hb; refine hK.out _ _ (Cs.below hHeld hb) (fun hHeld => ?_); clear hK K hb
 try simp only [sb]
 refine rc 8 (fun K hK => ?_)
 go_simp
 go_at_call 47; (with_reducible refine (C2.out _ hBw _ _ _ _ hw11).mono ?_); rintro e wa12 ⟨B12, m12, d12, rfl, hw12, hb⟩; have hBw := zab hBw hb; have hw11 := hw11.below hb; refine hK.out _ _ (Cs.below hHeld hb) (fun hHeld => ?_); clear hK K hb
 try simp only [sb]
 refine rc 10 (fun K hK => ?_)
 go_simp
 go_at_call 45; (with_reducible refine (C3.out _ hBw).mono ?_); rintro e wa13 ⟨B13, m13, d13, rfl, hw13, hb⟩; have hBw := zab hBw hb; have hw11 := hw11.below hb; have hw12 := hw12.below hb; refine hK.out _ _ (Cs.below hHeld hb) (fun hHeld => ?_); clear hK K hb
 try simp only [sb]
 refine rc 11 (fun K hK => ?_)
 go_simp
 go_at_call 46; (with_reducible refine (C4.out _ hBw _ _ _ hw12 _ _ _ hw13).mono ?_); rintro e wa14 ⟨rfl, hb⟩; have hBw := zab hBw hb; have hw11 := hw11.below hb; have hw12 := hw12.below hb; have hw13 := hw13.below hb; refine hK.out _ _ (Cs.below hHeld hb) (fun hHeld => ?_); clear hK K hb
 try simp only [sb]
 refine tk 12 ?_
 try simp only [sb]
 refine tk 13 ?_
 try simp only [sb]
 refine tk 14 ?_
 try simp only [sb]
 refine rc 15 (fun K hK => ?_)
 go_simp
 go_at_call 45; (with_reducible refine (C5.out _ hBw).mono ?_); rintro e wa15 ⟨B15, m15, d15, rfl, hw15, hb⟩; have hBw := zab hBw hb; have hw11 := hw11.below hb; have hw12 := hw12.below hb; have hw13 := hw13.below hb; refine hK.out _ _ (Cs.below hHeld hb) (fun hHeld => ?_); clear hK K hb
 try simp only [sb]
 refine rc 16 (fun K hK => ?_)
 go_simp
 go_at_call 48; (with_reducible refine (C6.out _ hBw _ _ _ hw15).mono ?_); rintro e wa16 ⟨rfl, hb⟩; have hBw := zab hBw hb; have hw11 := hw11.below hb; have hw12 := hw12.below hb; have hw13 := hw13.below hb; have hw15 := hw15.below hb; refine hK.out _ _ (Cs.below hHeld hb) (fun hHeld => ?_); clear hK K hb
 try simp only [sb]
 refine tk 17 ?_
 try simp only [sb]
 refine tk 18 ?_
 try simp only [sb]
 refine tk 19 ?_
 try simp only [sb]
 refine tk 20 ?_
 try simp only [sb]
 refine rc 21 (fun K hK => ?_)
 go_simp
 go_at_call 13; (with_reducible refine (C7.out _ hBw).mono ?_); rintro e wa17 ⟨rfl, hb⟩; have hBw := zab hBw hb; have hw11 := hw11.below hb; have hw12 := hw12.below hb; have hw13 := hw13.below hb; have hw15 := hw15.below hb; refine hK.out _ _ (Cs.below hHeld hb) (fun hHeld => ?_); clear hK K hb
 try simp only [sb]
 refine tk 22 ?_
 try simp only [sb]
 refine tk 23 ?_
 try simp only [sb]
 refine tu 24 ?_
 try simp only [sb]
 refine tu 25 ?_
 try simp only [sb]
 refine tk 26 ?_
 try simp only [sb]
 refine tk 27 ?_
 try simp only [sb]
 refine tk 28 ?_
 try simp only [sb]
 refine tk 29 ?_
 try simp only [sb]
 refine tk 30 ?_
 try simp only [sb]
 refine tk 35 ?_
 try simp only [sb]
 refine rc 31 (fun K hK => ?_)
 go_simp
 go_at_call 45; (with_reducible refine (C8.out _ hBw).mono ?_); rintro e wa18 ⟨B16, m16, d16, rfl, hw16, hb⟩; have hBw := zab hBw hb; have hw11 := hw11.below hb; have hw12 := hw12.below hb; have hw13 := hw13.below hb; have hw15 := hw15.below hb; refine hK.out _ _ (Cs.below hHeld hb) (fun hHeld => ?_); clear hK K hb
 try simp only [sb]
 refine rc 32 (fun K hK => ?_)
 go_simp
 go_at_call 51; (with_reducible refine (C9.out _ hBw _ _ _ hw16).mono ?_); rintro e wa19 ⟨b17, B17, m17, d17, rfl, hw17, hb⟩; have hBw := zab hBw hb; have hw11 := hw11.below hb; have hw12 := hw12.below hb; have hw13 := hw13.below hb; have hw15 := hw15.below hb; have hw16 := hw16.below hb; refine hK.out _ _ (Cs.below hHeld hb) (fun hHeld => ?_); clear hK K hb
 try simp only [sb]
 refine rc 33 (fun K hK => ?_)
 go_simp
 go_at_call 50; (with_reducible refine (C10.out _ hBw _ _ _ _ hw17).mono ?_); rintro e wa20 ⟨b18, B18, m18, d18, E18, u18, v18, rfl, hw18, hb⟩; have hBw := zab hBw hb; have hw11 := hw11.below hb; have hw12 := hw12.below hb; have hw13 := hw13.below hb; have hw15 := hw15.below hb; have hw16 := hw16.below hb; have hw17 := hw17.below hb; refine hK.out _ _ (Cs.below hHeld hb) (fun hHeld => ?_); clear hK K hb
 try simp only [sb]
 refine rc 34 (fun K hK => ?_)
 go_simp
 go_at_call 26; (with_reducible refine (C11.out _ hBw _ _ _ _ _ _ _ hw18).mono ?_); rintro e wa21 ⟨b19, B19, m19, d19, E19, u19, v19, rfl, hw19, hb⟩; have hBw := zab hBw hb; have hw11 := hw11.below hb; have hw12 := hw12.below hb; have hw13 := hw13.below hb; have hw15 := hw15.below hb; have hw16 := hw16.below hb; have hw17 := hw17.below hb; have hw18 := hw18.below hb; refine hK.out _ _ (Cs.below hHeld hb) (fun hHeld => ?_); clear hK K hb
 try simp only [sb]
 refine rc 36 (fun K hK => ?_)
 go_simp
 go_at_call 17; (with_reducible refine (C12.out _ hBw).mono ?_); rintro e wa22 ⟨b20, B20, m20, d20, rfl, hw20, hb⟩; have hBw := zab hBw hb; have hw11 := hw11.below hb; have hw12 := hw12.below hb; have hw13 := hw13.below hb; have hw15 := hw15.below hb; have hw16 := hw16.below hb; have hw17 := hw17.below hb; have hw18 := hw18.below hb; have hw19 := hw19.below hb; refine hK.out _ _ (Cs.below hHeld hb) (fun hHeld => ?_); clear hK K hb
 try simp only [sb]
 refine rc 37 (fun K hK => ?_)
 go_simp
 go_at_call 50; (with_reducible refine (C13.out _ hBw _ _ _ _ hw20).mono ?_); rintro e wa23 ⟨b21, B21, m21, d21, E21, u21, v21, rfl, hw21, hb⟩; have hBw := zab hBw hb; have hw11 := hw11.below hb; have hw12 := hw12.below hb; have hw13 := hw13.below hb; have hw15 := hw15.below hb; have hw16 := hw16.below hb; have hw17 := hw17.below hb; have hw18 := hw18.below hb; have hw19 := hw19.below hb; have hw20 := hw20.below hb; refine hK.out _ _ (Cs.below hHeld hb) (fun hHeld => ?_); clear hK K hb
 try simp only [sb]
 refine rc 38 (fun K hK => ?_)
 go_simp
 go_at_call 33; (with_reducible refine (C14.out _ hBw _ _ _ _ _ _ _ hw19 _ _ _ _ _ _ _ hw21).mono ?_); rintro e wa24 ⟨rfl, hb⟩; have hBw := zab hBw hb; have hw11 := hw11.below hb; have hw12 := hw12.below hb; have hw13 := hw13.below hb; have hw15 := hw15.below hb; have hw16 := hw16.below hb; have hw17 := hw17.below hb; have hw18 := hw18.below hb; have hw19 := hw19.below hb; have hw20 := hw20.below hb; have hw21 := hw21.below hb; refine hK.out _ _ (Cs.below hHeld hb) (fun hHeld => ?_); clear hK K hb
 try simp only [sb]
 refine tk 39 ?_
 try simp only [sb]
 refine tk 40 ?_
 try simp only [sb]
 refine rdn ?_
 have hB := zab hB hBw
 have g1 := zaa hBw g1
 have e1 := zaa hBw e1
 have i1 := zaa hBw i1
 have g2 := zaa hBw g2
 have e2 := zaa hBw e2
 have i2 := zaa hBw i2
 have g5 := zaa hBw g5
 have e5 := zaa hBw e5
 have i5 := zaa hBw i5
 have g6 := zaa hBw g6
 have e6 := zaa hBw e6
 have i6 := zaa hBw i6
 have HN3 := Lib.hid (HN3.out.below hBw)
 have HN4 := Lib.hid (HN4.out.below hBw)
 have HN7 := Lib.hid (HN7.out.below hBw)
 have HN8 := Lib.hid (HN8.out.below hBw)
 have HN9 := Lib.hid (HN9.out.below hBw)
 have HN10 := Lib.hid (HN10.out.below hBw)
 have HN11 := Lib.hid hw11
 have HN12 := Lib.hid hw12
 have HN13 := Lib.hid hw13
 have HN15 := Lib.hid hw15
 have HN16 := Lib.hid hw16
 have HN17 := Lib.hid hw17
 have HN18 := Lib.hid hw18
 have HN19 := Lib.hid hw19
 have HN20 := Lib.hid hw20
 have HN21 := Lib.hid hw21
 clear hBw hHeld hw11 hw12 hw13 hw15 hw16 hw17 hw18 hw19 hw20 hw21 C0 C1 C2 C3 C4 C5 C6 C7 C8 C9 C10 C11 C12 C13 C14
 go_wp2
 go_ret
 exact ⟨by first | rfl | simp, hB⟩
set_option maxHeartbeats 16000000 in
theorem zgP {T : World → Prop} (hTb : ∀ w w', T w → Below w.heap.size w w' → T w') (IC : IntC T) (QC : RatC T) (GC : GcdC) (hTT : ∀ w, T w → zan w) (s0 : Bool) (A0 : Option Addr) (n0 c0 : Nat) (l0 : List Nat) (E0 : Option Addr) (u0 v0 : Nat) (e0 : List Nat) (s1 : Bool) (A1 : Option Addr) (n1 c1 : Nat) (l1 : List Nat) (E1 : Option Addr) (u1 v1 : Nat) (e1 : List Nat) (w : World) (h0 : zap w A0 n0 c0 l0) (k0 : zap w E0 u0 v0 e0) (h1 : zap w A1 n1 c1 l1) (k1 : zap w E1 u1 v1 e1) (x0 : fOf s0 l0 e0 = 0) (hs : fOf s0 l0 e0 = fOf s1 l1 e1) (hT : T w) :
  Calls Tryz.prog 7 #[.agg #[.bool s0, .slice A0 n0 c0, .slice E0 u0 v0], .agg #[.bool s1, .slice A1 n1 c1, .slice E1 u1 v1]] w fun e w' => e = .returned (.bool true) ∧ Below w.heap.size w w' := by
 have HAW := Lib.hid (fun w' (hb : Below w.heap.size w w') => zbn hTb IC QC w' (hTb w w' hT hb))
 have HIC := Lib.hid IC
 have HQC := Lib.hid QC
 have HT := Lib.hid (fun w' (hb : Below w.heap.size w w') => hTb w w' hT hb)
 have HGC := Lib.hid GC
 have HTB := Lib.hid (fun w' (hb : Below w.heap.size w w') => hTT w' (hTb w w' hT hb))
 obtain ⟨K, hK⟩ : ∃ K, 1048576 = K := ⟨_, rfl⟩
 have hKK : K ≤ 1048576 := by omega
 have hK0 : 0 < K := by omega
 have HM0 := Lib.hid (fun w' (hb : Below w.heap.size w w') => zaL hTb IC QC s0 A0 n0 c0 l0 E0 u0 v0 e0 w' ⟨(h0.reads.below hb).more hb.size, h0.dgs, h0.fits, h0.small⟩ ⟨(k0.reads.below hb).more hb.size, k0.dgs, k0.fits, k0.small⟩ (hTb w w' hT hb))
 have S0 : SzQ 1048576 (fOf s0 l0 e0) := zbp h0 k0
 rw [hK] at S0
 obtain ⟨x, hz0⟩ : ∃ x, fOf s0 l0 e0 = x := ⟨_, rfl⟩
 rw [hz0] at HM0 S0 x0 hs
 have HS0 := Lib.hid S0
 have HM1 := Lib.hid (fun w' (hb : Below w.heap.size w w') => zaL hTb IC QC s1 A1 n1 c1 l1 E1 u1 v1 e1 w' ⟨(h1.reads.below hb).more hb.size, h1.dgs, h1.fits, h1.small⟩ ⟨(k1.reads.below hb).more hb.size, k1.dgs, k1.fits, k1.small⟩ (hTb w w' hT hb))
 have S1 : SzQ 1048576 (fOf s1 l1 e1) := zbp h1 k1
 rw [hK] at S1
 obtain ⟨y, hz1⟩ : ∃ x, fOf s1 l1 e1 = x := ⟨_, rfl⟩
 rw [hz1] at HM1 S1 hs
 have HS1 := Lib.hid S1
 have Hx0 := Lib.hid x0
 have Hhs := Lib.hid hs
 clear IC QC hT GC h0 k0 hz0 S0 h1 k1 hz1 S1 x0 hs hK
 go_enter Tryz.func7, Tryz.ntmps7
 have hB := Below.refl w.heap.size w
 obtain ⟨bx1, bx2, bx3, bz⟩ := zaW w 48 48 #[.bool s0, .slice A0 n0 c0, .slice E0 u0 v0] #[.bool s1, .slice A1 n1 c1, .slice E1 u1 v1]
 have hB := zab hB bx1
 obtain ⟨g1, e1, i1⟩ := bx2.c3
 obtain ⟨g2, e2, i2⟩ := bx3.c3
 clear bx1 bx2 bx3 bz
 go_wp2_with fail
 generalize (w.alloc (.cells #[.bool s0, .slice A0 n0 c0, .slice E0 u0 v0] 48)).alloc (.cells #[.bool s1, .slice A1 n1 c1, .slice E1 u1 v1] 48) = W1 at *
 (with_reducible refine (HAW.out _ hB).mono ?_)
 rintro e wc2 ⟨rfl, hb⟩
 have hB := zab hB hb
 have g1 := zaa hb g1
 have e1 := zaa hb e1
 have i1 := zaa hb i1
 have g2 := zaa hb g2
 have e2 := zaa hb e2
 have i2 := zaa hb i2
 clear hb 
 go_wp2_with fail
 have HZ3 : Hid (SzQ (K) (x)) := HS0.out
 have C0 := Lib.hid (fun w' (h : Below wc2.heap.size wc2 w') => HM0.out _ (zab hB h))
 have HZ4 : Hid (SzQ (K) (y)) := HS1.out
 have C1 := Lib.hid (fun w' (h : Below wc2.heap.size wc2 w') => HM1.out _ (zab hB h))
 have GG := Lib.hid (fun w' (h : Below wc2.heap.size wc2 w') => (csc (zaa h g1) (csc (zaa h e1) (csc (zaa h i1) (csc (zaa h g2) (csc (zaa h e2) (csc (zaa h i2) csn)))))))
 refine rgB (fun hHeld => ?_)
 refine tl 0 GG.out ?_
 try simp only [sb]
 refine tl 2 GG.out ?_
 try simp only [sb]
 refine zaw (L := #[true, true, true, true, true, true, true, true])
  (J := fun a0 l a w' => ∃ (fl1 fl3 fl4 fl5 fl6 fl7 b3 : Bool) (B3 : Option Addr) (m3 d3 : Nat) (E3 : Option Addr) (u3 v3 : Nat) (b4 : Bool) (B4 : Option Addr) (m4 d4 : Nat) (E4 : Option Addr) (u4 v4 ad4 ad5 : Nat), l = #[true, fl1, true, fl3, fl4, fl5, fl6, fl7] ∧ zaT [11, 13, 5, 6] a0 a ∧ Hid (Below wc2.heap.size wc2 w') ∧
    Hid (Gd fl1 (a.tmps.getD 11 undef = .agg #[.bool b3, .slice B3 m3 d3, .slice E3 u3 v3] ∧ zah w' (x) b3 B3 m3 d3 E3 u3 v3)) ∧
    Hid (Gd fl3 (a.tmps.getD 13 undef = .agg #[.bool b4, .slice B4 m4 d4, .slice E4 u4 v4] ∧ zah w' (y) b4 B4 m4 d4 E4 u4 v4)) ∧
    Hid (Gd fl4 (a.tmps.getD 5 undef = .pointer (some ⟨ad4, 0, none⟩) ∧ wc2.heap.size ≤ ad4 ∧ Blk w' ad4 31 (bif fl6 then #[.bool b3, .slice B3 m3 d3, .slice E3 u3 v3] else #[.bool false, .slice none 0 0, .slice none 0 0]))) ∧
    Hid (Gd fl5 (a.tmps.getD 6 undef = .pointer (some ⟨ad5, 0, none⟩) ∧ wc2.heap.size ≤ ad5 ∧ Blk w' ad5 31 (bif fl7 then #[.bool b4, .slice B4 m4 d4, .slice E4 u4 v4] else #[.bool false, .slice none 0 0, .slice none 0 0]))) ∧
    Hid (Gd fl4 (Gd fl5 (ad4 ≠ ad5))) ∧
    Hid (Gd fl3 (fl1 = true)) ∧
    Hid (Gd fl6 (fl1 = true)) ∧
    Hid (Gd fl6 (fl3 = true)) ∧
    Hid (Gd fl6 (fl4 = true)) ∧
    Hid (Gd fl7 (fl3 = true)) ∧
    Hid (Gd fl7 (fl5 = true)) ∧
    Hid (Gd fl7 (fl6 = true)))
  (by rfl) ?_ ?_ ?_
 ·exact ⟨false, false, false, false, false, false, false, none, 0, 0, none, 0, 0, false, none, 0, 0, none, 0, 0, 0, 0, by kernel_rfl, zaT.refl _ _, hHeld, Gd.no, Gd.no, Gd.no, Gd.no, Gd.no, Gd.no, Gd.no, Gd.no, Gd.no, Gd.no, Gd.no, Gd.no⟩
 ·intro OPS Ac0 Q0 hO hAs hA
  have RB10 : Ac0.tmps.getD 10 undef = .agg #[.bool s0, .slice A0 n0 c0, .slice E0 u0 v0] := (hA 10 undef).trans (by kernel_rfl)
  have RB12 : Ac0.tmps.getD 12 undef = .agg #[.bool s1, .slice A1 n1 c1, .slice E1 u1 v1] := (hA 12 undef).trans (by kernel_rfl)
  have hsz : Ac0.tmps.size = 68 := hAs.trans (by kernel_rfl)
  clear hAs hA
  refine ⟨?_, ?_⟩
  ·rintro l a w' ⟨fl1, fl3, fl4, fl5, fl6, fl7, b3, B3, m3, d3, E3, u3, v3, b4, B4, m4, d4, E4, u4, v4, ad4, ad5, rfl, -⟩ hr
   obtain rfl : fl1 = true := als 1 hr hO
   obtain rfl : fl3 = true := als 3 hr hO
   obtain rfl : fl4 = true := als 4 hr hO
   obtain rfl : fl5 = true := als 5 hr hO
   obtain rfl : fl6 = true := als 6 hr hO
   obtain rfl : fl7 = true := als 7 hr hO
   rfl
  ·rintro l a w' i ⟨fl1, fl3, fl4, fl5, fl6, fl7, b3, B3, m3, d3, E3, u3, v3, b4, B4, m4, d4, E4, u4, v4, ad4, ad5, rfl, HKp, hBi, qf1, qf3, qf4, qf5, qn4_5, qd3_1, qd6_1, qd6_3, qd6_4, qd7_3, qd7_5, qd7_6⟩ hne hi
   have hlt : i < 8 := by have := zaJ hi; rw [hO] at this; exact this
   rcases (show i = 0 ∨ i = 1 ∨ i = 2 ∨ i = 3 ∨ i = 4 ∨ i = 5 ∨ i = 6 ∨ i = 7 by omega) with rfl | rfl | rfl | rfl | rfl | rfl | rfl | rfl
   ·cases (zad hi : true = false)
   ·obtain rfl : fl1 = false := zad hi
    obtain rfl : fl3 = false := Gd.off qd3_1.out
    obtain rfl : fl6 = false := Gd.off qd6_1.out
    obtain rfl : fl7 = false := Gd.off qd7_3.out
    have rd10 := HKp.get 10 (by decide) RB10
    refine wog hO (fun K' hK => ?_)
    go_simp
    refine (C0.out w' hBi.out).mono ?_
    rintro e w2 ⟨nb3, nB3, nm3, nd3, nE3, nu3, nv3, rfl, nhw3, hb⟩
    exact hK.out _ _ ⟨zab hBi.out hb, true, false, fl4, fl5, false, false, nb3, nB3, nm3, nd3, nE3, nu3, nv3, b4, B4, m4, d4, E4, u4, v4, ad4, ad5, by rfl, HKp.put (by decide) _, zab hBi.out hb, Gd.yes ⟨zal (HKp.lt (by rw [hsz]; decide)) _, nhw3⟩, Gd.no, kq qf4.out fun h => ⟨h.1, zac hb h.2⟩, kq qf5.out fun h => ⟨h.1, zac hb h.2⟩, qn4_5, Gd.no, Gd.no, Gd.no, Gd.no, Gd.no, Gd.no, Gd.no⟩
   ·cases (zad hi : true = false)
   ·obtain rfl : fl3 = false := zad hi
    obtain rfl : fl1 = true := rdp 1 1 hi hO
    obtain rfl : fl6 = false := Gd.off qd6_3.out
    obtain rfl : fl7 = false := Gd.off qd7_3.out
    have rd12 := HKp.get 12 (by decide) RB12
    refine wog hO (fun K' hK => ?_)
    go_simp
    refine (C1.out w' hBi.out).mono ?_
    rintro e w2 ⟨nb4, nB4, nm4, nd4, nE4, nu4, nv4, rfl, nhw4, hb⟩
    exact hK.out _ _ ⟨zab hBi.out hb, true, true, fl4, fl5, false, false, b3, B3, m3, d3, E3, u3, v3, nb4, nB4, nm4, nd4, nE4, nu4, nv4, ad4, ad5, by rfl, HKp.put (by decide) _, zab hBi.out hb, kq qf1.out fun h => (h).below hb, Gd.yes ⟨zal (HKp.lt (by rw [hsz]; decide)) _, nhw4⟩, kq qf4.out fun h => ⟨h.1, zac hb h.2⟩, kq qf5.out fun h => ⟨h.1, zac hb h.2⟩, qn4_5, fun _ => rfl, Gd.no, Gd.no, Gd.no, Gd.no, Gd.no, Gd.no⟩
   ·obtain rfl : fl4 = false := zad hi
    obtain rfl : fl6 = false := Gd.off qd6_4.out
    obtain rfl : fl7 = false := Gd.off qd7_6.out
    refine wog hO (fun K' hK => ?_)
    go_simp
    have hb := zau w' (.cells #[.bool false, .slice none 0 0, .slice none 0 0] 31)
    exact hK.out _ _ ⟨zab hBi.out hb, fl1, fl3, true, fl5, false, false, b3, B3, m3, d3, E3, u3, v3, b4, B4, m4, d4, E4, u4, v4, w'.heap.size, ad5, by rfl, HKp.put (by decide) _, zab hBi.out hb, kq qf1.out fun h => (h).below hb, kq qf3.out fun h => (h).below hb, Gd.yes ⟨zal (HKp.lt (by rw [hsz]; decide)) _, hBi.out.size, Blk.new w' _ _⟩, kq qf5.out fun h => ⟨h.1, zac hb h.2⟩, Gd.yes (qf5.out.mono fun h => by have := Blk.lt h.2.2; omega), qd3_1, Gd.no, Gd.no, Gd.no, Gd.no, Gd.no, Gd.no⟩
   ·obtain rfl : fl5 = false := zad hi
    obtain rfl : fl7 = false := Gd.off qd7_5.out
    refine wog hO (fun K' hK => ?_)
    go_simp
    have hb := zau w' (.cells #[.bool false, .slice none 0 0, .slice none 0 0] 31)
    exact hK.out _ _ ⟨zab hBi.out hb, fl1, fl3, fl4, true, fl6, false, b3, B3, m3, d3, E3, u3, v3, b4, B4, m4, d4, E4, u4, v4, ad4, w'.heap.size, by rfl, HKp.put (by decide) _, zab hBi.out hb, kq qf1.out fun h => (h).below hb, kq qf3.out fun h => (h).below hb, kq qf4.out fun h => ⟨h.1, zac hb h.2⟩, Gd.yes ⟨zal (HKp.lt (by rw [hsz]; decide)) _, hBi.out.size, Blk.new w' _ _⟩, qf4.out.mono fun h => Gd.yes (by have := Blk.lt h.2.2; omega), qd3_1, qd6_1, qd6_3, qd6_4, Gd.no, Gd.no, Gd.no⟩
   ·obtain rfl : fl6 = false := zad hi
    obtain rfl : fl1 = true := rdp 1 1 hi hO
    obtain rfl : fl3 = true := rdp 3 2 hi hO
    obtain rfl : fl4 = true := rdp 4 0 hi hO
    obtain rfl : fl5 = true := rdp 5 8 hi hO
    obtain rfl : fl7 = false := Gd.off qd7_6.out
    have rd5 := qf4.out.get.1
    have rd11 := qf1.out.get.1
    obtain ⟨_, hg, hk⟩ := qf4.out.get
    have hk : Blk w' ad4 31 #[.bool false, .slice none 0 0, .slice none 0 0] := hk
    obtain ⟨sc0, sf0, sc1, sf1, sc2, sf2⟩ := st3 hk (.bool b3) (.slice B3 m3 d3)
    have hj2 := sn3 hk (.bool b3) (.slice B3 m3 d3) (.slice E3 u3 v3)
    have hBn := bl3 (.bool b3) (.slice B3 m3 d3) (.slice E3 u3 v3) hg hBi.out
    refine wog hO (fun K' hK => ?_)
    go_simp
    exact hK.out _ _ ⟨hBn, true, true, true, true, true, false, b3, B3, m3, d3, E3, u3, v3, b4, B4, m4, d4, E4, u4, v4, ad4, ad5, by rfl, HKp, hBn, qf1.out.mono fun h => ⟨h.1, zar (h.2) hk zaK (zaI _ _ _ _ _)⟩, qf3.out.mono fun h => ⟨h.1, zar (h.2) hk zaK (zaI _ _ _ _ _)⟩, qf4.out.mono fun h => ⟨h.1, h.2.1, hj2⟩, fun hf9 => (fun h => ⟨h.1, h.2.1, Blk.far (p := ⟨ad4, 2, none⟩) (Blk.far (p := ⟨ad4, 1, none⟩) (Blk.far (p := ⟨ad4, 0, none⟩) (h.2.2) (Ne.symm (qn4_5.out rfl hf9)) (.bool b3)) (Ne.symm (qn4_5.out rfl hf9)) (.slice B3 m3 d3)) (Ne.symm (qn4_5.out rfl hf9)) (.slice E3 u3 v3)⟩) (qf5.out hf9), qn4_5, fun _ => rfl, fun _ => rfl, fun _ => rfl, fun _ => rfl, Gd.no, Gd.no, Gd.no⟩
   ·obtain rfl : fl7 = false := zad hi
    obtain rfl : fl1 = true := rdp 1 4 hi hO
    obtain rfl : fl3 = true := rdp 3 1 hi hO
    obtain rfl : fl4 = true := rdp 4 7 hi hO
    obtain rfl : fl5 = true := rdp 5 0 hi hO
    obtain rfl : fl6 = true := rdp 6 2 hi hO
    have rd6 := qf5.out.get.1
    have rd13 := qf3.out.get.1
    obtain ⟨_, hg, hk⟩ := qf5.out.get
    have hk : Blk w' ad5 31 #[.bool false, .slice none 0 0, .slice none 0 0] := hk
    obtain ⟨sc0, sf0, sc1, sf1, sc2, sf2⟩ := st3 hk (.bool b4) (.slice B4 m4 d4)
    have hj2 := sn3 hk (.bool b4) (.slice B4 m4 d4) (.slice E4 u4 v4)
    have hBn := bl3 (.bool b4) (.slice B4 m4 d4) (.slice E4 u4 v4) hg hBi.out
    refine wog hO (fun K' hK => ?_)
    go_simp
    exact hK.out _ _ ⟨hBn, true, true, true, true, true, true, b3, B3, m3, d3, E3, u3, v3, b4, B4, m4, d4, E4, u4, v4, ad4, ad5, by rfl, HKp, hBn, qf1.out.mono fun h => ⟨h.1, zar (h.2) hk zaK (zaI _ _ _ _ _)⟩, qf3.out.mono fun h => ⟨h.1, zar (h.2) hk zaK (zaI _ _ _ _ _)⟩, fun hf9 => (fun h => ⟨h.1, h.2.1, Blk.far (p := ⟨ad5, 2, none⟩) (Blk.far (p := ⟨ad5, 1, none⟩) (Blk.far (p := ⟨ad5, 0, none⟩) (h.2.2) (qn4_5.out hf9 rfl) (.bool b4)) (qn4_5.out hf9 rfl) (.slice B4 m4 d4)) (qn4_5.out hf9 rfl) (.slice E4 u4 v4)⟩) (qf4.out hf9), qf5.out.mono fun h => ⟨h.1, h.2.1, hj2⟩, qn4_5, fun _ => rfl, fun _ => rfl, fun _ => rfl, fun _ => rfl, fun _ => rfl, fun _ => rfl, fun _ => rfl⟩
 rintro a wm3 ⟨fl1, fl3, fl4, fl5, fl6, fl7, b3, B3, m3, d3, E3, u3, v3, b4, B4, m4, d4, E4, u4, v4, ad4, ad5, hl, HKp, hBi, qf1, qf3, qf4, qf5, qn4_5, qd3_1, qd6_1, qd6_3, qd6_4, qd7_3, qd7_5, qd7_6⟩
 have xx1 : fl1 = true := gdl 1 hl
 subst xx1
 have xx3 : fl3 = true := gdl 3 hl
 subst xx3
 have xx4 : fl4 = true := gdl 4 hl
 subst xx4
 have xx5 : fl5 = true := gdl 5 hl
 subst xx5
 have xx6 : fl6 = true := gdl 6 hl
 subst xx6
 have xx7 : fl7 = true := gdl 7 hl
 subst xx7
 obtain ⟨rv1, hw3⟩ := qf1.out.get
 obtain ⟨rv3, hw4⟩ := qf3.out.get
 obtain ⟨rv4, hg4, hk4⟩ := qf4.out.get
 obtain ⟨rv5, hg5, hk5⟩ := qf5.out.get
 obtain rfl := HKp.eq [(11, .agg #[.bool b3, .slice B3 m3 d3, .slice E3 u3 v3]), (13, .agg #[.bool b4, .slice B4 m4 d4, .slice E4 u4 v4]), (5, .pointer (some ⟨ad4, 0, none⟩)), (6, .pointer (some ⟨ad5, 0, none⟩))] rfl (by
  intro p hp
  simp only [List.mem_cons, List.not_mem_nil, or_false] at hp
  rcases hp with rfl | rfl | rfl | rfl
  ·exact rv1
  ·exact rv3
  ·exact rv4
  ·exact rv5)
 have hBv := hBi.out
 clear hl hBi HKp qf1 qf3 qf4 qf5 qn4_5 qd3_1 qd6_1 qd6_3 qd6_4 qd7_3 qd7_5 qd7_6 rv1 rv3 rv4 rv5
 have hk4 : Blk wm3 ad4 31 #[.bool b3, .slice B3 m3 d3, .slice E3 u3 v3] := hk4
 have hk5 : Blk wm3 ad5 31 #[.bool b4, .slice B4 m4 d4, .slice E4 u4 v4] := hk5
 rw [show due #[true, true, true, true, true, true, true, true] = 0 from rfl]
 simp only [zaR, List.foldl, Act.put, List.setIfInBounds_toArray, List.set_cons_zero, List.set_cons_succ]
 refine wpAnyH_done (by kernel_rfl) ?_ _
 refine NoPanic.normal ?_
 have hB := zab hB hBv
 have g1 := zaa hBv g1
 have e1 := zaa hBv e1
 have i1 := zaa hBv i1
 have g2 := zaa hBv g2
 have e2 := zaa hBv e2
 have i2 := zaa hBv i2
 obtain ⟨ad4_5, hga⟩ : ∃ x, x = ad4 := ⟨_, rfl⟩
 subst hga
 obtain ⟨g5, e5, i5⟩ := hk4.c3
 obtain ⟨ad5_6, hga⟩ : ∃ x, x = ad5 := ⟨_, rfl⟩
 subst hga
 obtain ⟨g6, e6, i6⟩ := hk5.c3
 have HN3 := Lib.hid hw3
 have HN4 := Lib.hid hw4
 clear hBv hk4 hg4 hk5 hg5 hw3 hw4 GG
 clear C0 C1
 go_wp2_with fail
 have HZ7 : Hid (Sz (K) (x.num).natAbs) := SzQ.num HZ3.out
 have C0 := Lib.hid (fun w' (h : Below wm3.heap.size wm3 w') => HQC.out.num (x) b3 B3 m3 d3 E3 u3 v3 w' (HT.out _ (zab hB h)) (HN3.out.below h) (SzQ.fit HZ3.out HN3.out (by omega)))
 have HZ8 : Hid (Sz (K) (y.num).natAbs) := SzQ.num HZ4.out
 have C1 := Lib.hid (fun w' (h : Below wm3.heap.size wm3 w') => HQC.out.num (y) b4 B4 m4 d4 E4 u4 v4 w' (HT.out _ (zab hB h)) (HN4.out.below h) (SzQ.fit HZ4.out HN4.out (by omega)))
 have C2 := Lib.hid (fun w' (h : Below wm3.heap.size wm3 w') b7 B7 m7 d7 (hw7 : zaq w' (x.num) b7 B7 m7 d7) b8 B8 m8 d8 (hw8 : zaq w' (y.num) b8 B8 m8 d8) => zcl (by rw [Hhs.out]) (HIC.out.cmp (x.num) (y.num) b7 b8 B7 B8 m7 m8 d7 d8 w' (HT.out _ (zab hB h)) hw7 hw8 (by have := Sz.words HZ7.out hw7.words; omega) (by have := Sz.words HZ8.out hw8.words; omega)))
 have HZ9 : Hid (Sz (K) (x.den)) := SzQ.den HZ3.out
 have C3 := Lib.hid (fun w' (h : Below wm3.heap.size wm3 w') => HQC.out.den (x) b3 B3 m3 d3 E3 u3 v3 w' (HT.out _ (zab hB h)) (HN3.out.below h) (SzQ.fit HZ3.out HN3.out (by omega)))
 have HZ10 : Hid (Sz (K) (y.den)) := SzQ.den HZ4.out
 have C4 := Lib.hid (fun w' (h : Below wm3.heap.size wm3 w') => HQC.out.den (y) b4 B4 m4 d4 E4 u4 v4 w' (HT.out _ (zab hB h)) (HN4.out.below h) (SzQ.fit HZ4.out HN4.out (by omega)))
 have C5 := Lib.hid (fun w' (h : Below wm3.heap.size wm3 w') B9 m9 d9 (hw9 : zae w' (x.den) B9 m9 d9) B10 m10 d10 (hw10 : zae w' (y.den) B10 m10 d10) => cmpEq (x := x.den) (y := y.den) (by rw [Hhs.out]) hw9 hw10 (by have := Sz.words HZ9.out hw9; omega) (by have := Sz.words HZ10.out hw10; omega))
 have hBw := (Below.refl wm3.heap.size wm3).drew
 refine rg (csc g5 (csc e5 (csc i5 (csc g6 (csc e6 (csc i6 csn)))))) (fun hHeld => ?_)
 refine tk 0 ?_
 try simp only [sb]
 refine tk 2 ?_
 try simp only [sb]
 refine rc 1 (fun K hK => ?_)
 go_simp
 go_at_call 17; (with_reducible refine (C0.out _ hBw).mono ?_); rintro e wa4 ⟨b7, B7, m7, d7, rfl, hw7, hb⟩; have hBw := zab hBw hb; refine hK.out _ _ (Cs.below hHeld hb) (fun hHeld => ?_); clear hK K hb
 try simp only [sb]
 refine rc 3 (fun K hK => ?_)
 go_simp
 go_at_call 17; (with_reducible refine (C1.out _ hBw).mono ?_); rintro e wa5 ⟨b8, B8, m8, d8, rfl, hw8, hb⟩; have hBw := zab hBw hb; have hw7 := hw7.below hb; refine hK.out _ _ (Cs.below hHeld hb) (fun hHeld => ?_); clear hK K hb
 try simp only [sb]
 refine rc 4 (fun K hK => ?_)
 go_simp
 go_at_call 43; (with_reducible refine (C2.out _ hBw _ _ _ _ hw7 _ _ _ _ hw8).mono ?_); rintro e wa6 ⟨rfl, hb⟩; have hBw := zab hBw hb; have hw7 := hw7.below hb; have hw8 := hw8.below hb; refine hK.out _ _ (Cs.below hHeld hb) (fun hHeld => ?_); clear hK K hb
 try simp only [sb]
 refine tk 5 ?_
 try simp only [sb]
 refine tk 6 ?_
 try simp only [sb]
 refine tk 7 ?_
 try simp only [sb]
 refine tk 9 ?_
 try simp only [sb]
 refine rc 8 (fun K hK => ?_)
 go_simp
 go_at_call 45; (with_reducible refine (C3.out _ hBw).mono ?_); rintro e wa7 ⟨B9, m9, d9, rfl, hw9, hb⟩; have hBw := zab hBw hb; have hw7 := hw7.below hb; have hw8 := hw8.below hb; refine hK.out _ _ (Cs.below hHeld hb) (fun hHeld => ?_); clear hK K hb
 try simp only [sb]
 refine rc 10 (fun K hK => ?_)
 go_simp
 go_at_call 45; (with_reducible refine (C4.out _ hBw).mono ?_); rintro e wa8 ⟨B10, m10, d10, rfl, hw10, hb⟩; have hBw := zab hBw hb; have hw7 := hw7.below hb; have hw8 := hw8.below hb; have hw9 := hw9.below hb; refine hK.out _ _ (Cs.below hHeld hb) (fun hHeld => ?_); clear hK K hb
 try simp only [sb]
 refine rc 11 (fun K hK => ?_)
 go_simp
 go_at_call 44; (with_reducible refine (C5.out _ hBw _ _ _ hw9 _ _ _ hw10).mono ?_); rintro e wa9 ⟨rfl, hb⟩; have hBw := zab hBw hb; have hw7 := hw7.below hb; have hw8 := hw8.below hb; have hw9 := hw9.below hb; have hw10 := hw10.below hb; refine hK.out _ _ (Cs.below hHeld hb) (fun hHeld => ?_); clear hK K hb
 try simp only [sb]
 refine tk 12 ?_
 try simp only [sb]
 refine tk 13 ?_
 try simp only [sb]
 refine tk 14 ?_
 try simp only [sb]
 refine rdn ?_
 have hB := zab hB hBw
 have g1 := zaa hBw g1
 have e1 := zaa hBw e1
 have i1 := zaa hBw i1
 have g2 := zaa hBw g2
 have e2 := zaa hBw e2
 have i2 := zaa hBw i2
 have g5 := zaa hBw g5
 have e5 := zaa hBw e5
 have i5 := zaa hBw i5
 have g6 := zaa hBw g6
 have e6 := zaa hBw e6
 have i6 := zaa hBw i6
 have HN3 := Lib.hid (HN3.out.below hBw)
 have HN4 := Lib.hid (HN4.out.below hBw)
 have HN7 := Lib.hid hw7
 have HN8 := Lib.hid hw8
 have HN9 := Lib.hid hw9
 have HN10 := Lib.hid hw10
 clear hBw hHeld hw7 hw8 hw9 hw10 C0 C1 C2 C3 C4 C5
 go_wp2_with fail
 have C0 := Lib.hid (fun w' (h : Below wa9.heap.size wa9 w') => zai (decide_eq_true Hhs.out) (HQC.out.same (x) (y) b3 b4 B3 B4 m3 m4 d3 d4 E3 E4 u3 u4 v3 v4 w' (HT.out _ (zab hB h)) (HN3.out.below h) (HN4.out.below h) (SzQ.fit HZ3.out HN3.out (by omega)) (SzQ.fit HZ4.out HN4.out (by omega))))
 have HZ11 : Hid (Sz (K) (x.num).natAbs) := SzQ.num HZ3.out
 have C1 := Lib.hid (fun w' (h : Below wa9.heap.size wa9 w') => HQC.out.num (x) b3 B3 m3 d3 E3 u3 v3 w' (HT.out _ (zab hB h)) (HN3.out.below h) (SzQ.fit HZ3.out HN3.out (by omega)))
 have HZ12 : Hid (Sz (K) (x.num.natAbs)) := HZ11.out
 have C2 := Lib.hid (fun w' (h : Below wa9.heap.size wa9 w') b11 B11 m11 d11 (hw11 : zaq w' (x.num) b11 B11 m11 d11) => HIC.out.abs (x.num) b11 B11 m11 d11 w' (HT.out _ (zab hB h)) hw11 (by have := Sz.words HZ11.out hw11.words; omega))
 have HZ13 : Hid (Sz (K) (x.den)) := SzQ.den HZ3.out
 have C3 := Lib.hid (fun w' (h : Below wa9.heap.size wa9 w') => HQC.out.den (x) b3 B3 m3 d3 E3 u3 v3 w' (HT.out _ (zab hB h)) (HN3.out.below h) (SzQ.fit HZ3.out HN3.out (by omega)))
 have CP14 : Hid (copB (x.num.natAbs) (x.den) = true) := (decide_eq_true (show Nat.gcd _ _ = 1 from x.reduced))
 have C4 := Lib.hid (fun w' (h : Below wa9.heap.size wa9 w') B12 m12 d12 (hw12 : zae w' (x.num.natAbs) B12 m12 d12) B13 m13 d13 (hw13 : zae w' (x.den) B13 m13 d13) => CP14.out ▸ HGC.out.coprime (x.num.natAbs) (x.den) B12 B13 m12 m13 d12 d13 w' hw12 hw13 (by have := Sz.words HZ12.out hw12; omega) (by have := Sz.words HZ13.out hw13; omega) (HTB.out _ (zab hB h)))
 have HZ15 : Hid (Sz (K) (x.den)) := SzQ.den HZ3.out
 have C5 := Lib.hid (fun w' (h : Below wa9.heap.size wa9 w') => HQC.out.den (x) b3 B3 m3 d3 E3 u3 v3 w' (HT.out _ (zab hB h)) (HN3.out.below h) (SzQ.fit HZ3.out HN3.out (by omega)))
 have C6 := Lib.hid (fun w' (h : Below wa9.heap.size wa9 w') B15 m15 d15 (hw15 : zae w' (x.den) B15 m15 d15) => zbm x.den_nz hw15)
 have C7 := Lib.hid (fun w' (h : Below wa9.heap.size wa9 w') => zai (decide_eq_true Hx0.out) (HQC.out.zero (x) b3 B3 m3 d3 E3 u3 v3 w' (HT.out _ (zab hB h)) (HN3.out.below h) (SzQ.fit HZ3.out HN3.out (by omega))))
 have C8 := Lib.hid (fun w' (h : Below wa9.heap.size wa9 w') => zai (decide_eq_true (by rw [Hx0.out]; rfl)) (HQC.out.isInt (x) b3 B3 m3 d3 E3 u3 v3 w' (HT.out _ (zab hB h)) (HN3.out.below h) (SzQ.fit HZ3.out HN3.out (by omega))))
 have HZ16 : Hid (Sz (K) (x.den)) := SzQ.den HZ3.out
 have C9 := Lib.hid (fun w' (h : Below wa9.heap.size wa9 w') => HQC.out.den (x) b3 B3 m3 d3 E3 u3 v3 w' (HT.out _ (zab hB h)) (HN3.out.below h) (SzQ.fit HZ3.out HN3.out (by omega)))
 have HZ17 : Hid (Sz (K) (((x.den : Nat) : Int)).natAbs) := (by rw [Int.natAbs_natCast]; exact HZ16.out)
 have C10 := Lib.hid (fun w' (h : Below wa9.heap.size wa9 w') B16 m16 d16 (hw16 : zae w' (x.den) B16 m16 d16) => zbG HIC.out (x.den) B16 m16 d16 w' (HT.out _ (zab hB h)) hw16 (by have := Sz.words HZ16.out hw16; omega))
 have HZ18 : Hid (SzQ (K) (((((x.den : Nat) : Int) : Int) : Rat))) := SzQ.whole HZ17.out (by omega)
 have C11 := Lib.hid (fun w' (h : Below wa9.heap.size wa9 w') b17 B17 m17 d17 (hw17 : zaq w' (((x.den : Nat) : Int)) b17 B17 m17 d17) => HQC.out.whole (((x.den : Nat) : Int)) b17 B17 m17 d17 w' (HT.out _ (zab hB h)) hw17 (by have := Sz.words HZ17.out hw17.words; omega))
 have HZ19 : Hid (SzQ (K + K) (x * (((((x.den : Nat) : Int) : Int) : Rat)))) := SzQ.mul HZ3.out HZ18.out
 have C12 := Lib.hid (fun w' (h : Below wa9.heap.size wa9 w') b18 B18 m18 d18 E18 u18 v18 (hw18 : zah w' (((((x.den : Nat) : Int) : Int) : Rat)) b18 B18 m18 d18 E18 u18 v18) => HQC.out.mul (x) (((((x.den : Nat) : Int) : Int) : Rat)) b3 b18 B3 B18 m3 m18 d3 d18 E3 E18 u3 u18 v3 v18 w' (HT.out _ (zab hB h)) (HN3.out.below h) hw18 (SzQ.fit HZ3.out HN3.out (by omega)) (SzQ.fit HZ18.out hw18 (by omega)))
 have HZ20 : Hid (Sz (K) (x.num).natAbs) := SzQ.num HZ3.out
 have C13 := Lib.hid (fun w' (h : Below wa9.heap.size wa9 w') => HQC.out.num (x) b3 B3 m3 d3 E3 u3 v3 w' (HT.out _ (zab hB h)) (HN3.out.below h) (SzQ.fit HZ3.out HN3.out (by omega)))
 have HZ21 : Hid (SzQ (K) (((x.num : Int) : Rat))) := SzQ.whole HZ20.out (by omega)
 have C14 := Lib.hid (fun w' (h : Below wa9.heap.size wa9 w') b20 B20 m20 d20 (hw20 : zaq w' (x.num) b20 B20 m20 d20) => HQC.out.whole (x.num) b20 B20 m20 d20 w' (HT.out _ (zab hB h)) hw20 (by have := Sz.words HZ20.out hw20.words; omega))
 have C15 := Lib.hid (fun w' (h : Below wa9.heap.size wa9 w') b19 B19 m19 d19 E19 u19 v19 (hw19 : zah w' (x * (((((x.den : Nat) : Int) : Int) : Rat))) b19 B19 m19 d19 E19 u19 v19) b21 B21 m21 d21 E21 u21 v21 (hw21 : zah w' (((x.num : Int) : Rat)) b21 B21 m21 d21 E21 u21 v21) => zai (decide_eq_true (zbL x)) (HQC.out.same (x * (((((x.den : Nat) : Int) : Int) : Rat))) (((x.num : Int) : Rat)) b19 b21 B19 B21 m19 m21 d19 d21 E19 E21 u19 u21 v19 v21 w' (HT.out _ (zab hB h)) hw19 hw21 (SzQ.fit HZ19.out hw19 (by omega)) (SzQ.fit HZ21.out hw21 (by omega))))
 have hBw := (Below.refl wa9.heap.size wa9).drew
 refine rg (csc g5 (csc e5 (csc i5 (csc g6 (csc e6 (csc i6 csn)))))) (fun hHeld => ?_)
 refine tk 0 ?_
 try simp only [sb]
 refine tk 1 ?_
 try simp only [sb]
 refine tk 3 ?_
 try simp only [sb]
 refine rc 2 (fun K hK => ?_)
 go_simp
 go_at_call 33; (with_reducible refine (C0.out _ hBw).mono ?_); rintro e wa10 ⟨rfl, hb⟩; have hBw := zab hBw hb; refine hK.out _ _ (Cs.below hHeld hb) (fun hHeld => ?_); clear hK K hb
 try simp only [sb]
 refine tk 4 ?_
 try simp only [sb]
 refine tk 5 ?_
 try simp only [sb]
 refine tk 6 ?_
 try simp only [sb]
 refine tk 9 ?_
 try simp only [sb]
 refine rc 7 (fun K hK => ?_)
 go_simp
 go_at_call 17; (with_reducible refine (C1.out _ hBw).mono ?_); rintro e wa11 ⟨b11, B11, m11, d11, rfl, hw11, hb⟩; have hBw := zab hBw hb; refine hK.out _ _ (Cs.below hHeld hb) (fun hHeld => ?_); clear hK K hb
 try simp only [sb]
 refine rc 8 (fun K hK => ?_)
 go_simp
 go_at_call 47; (with_reducible refine (C2.out _ hBw _ _ _ _ hw11).mono ?_); rintro e wa12 ⟨B12, m12, d12, rfl, hw12, hb⟩; have hBw := zab hBw hb; have hw11 := hw11.below hb; refine hK.out _ _ (Cs.below hHeld hb) (fun hHeld => ?_); clear hK K hb
 try simp only [sb]
 refine rc 10 (fun K hK => ?_)
 go_simp
 go_at_call 45; (with_reducible refine (C3.out _ hBw).mono ?_); rintro e wa13 ⟨B13, m13, d13, rfl, hw13, hb⟩; have hBw := zab hBw hb; have hw11 := hw11.below hb; have hw12 := hw12.below hb; refine hK.out _ _ (Cs.below hHeld hb) (fun hHeld => ?_); clear hK K hb
 try simp only [sb]
 refine rc 11 (fun K hK => ?_)
 go_simp
 go_at_call 46; (with_reducible refine (C4.out _ hBw _ _ _ hw12 _ _ _ hw13).mono ?_); rintro e wa14 ⟨rfl, hb⟩; have hBw := zab hBw hb; have hw11 := hw11.below hb; have hw12 := hw12.below hb; have hw13 := hw13.below hb; refine hK.out _ _ (Cs.below hHeld hb) (fun hHeld => ?_); clear hK K hb
 try simp only [sb]
 refine tk 12 ?_
 try simp only [sb]
 refine tk 13 ?_
 try simp only [sb]
 refine tk 14 ?_
 try simp only [sb]
 refine rc 15 (fun K hK => ?_)
 go_simp
 go_at_call 45; (with_reducible refine (C5.out _ hBw).mono ?_); rintro e wa15 ⟨B15, m15, d15, rfl, hw15, hb⟩; have hBw := zab hBw hb; have hw11 := hw11.below hb; have hw12 := hw12.below hb; have hw13 := hw13.below hb; refine hK.out _ _ (Cs.below hHeld hb) (fun hHeld => ?_); clear hK K hb
 try simp only [sb]
 refine rc 16 (fun K hK => ?_)
 go_simp
 go_at_call 48; (with_reducible refine (C6.out _ hBw _ _ _ hw15).mono ?_); rintro e wa16 ⟨rfl, hb⟩; have hBw := zab hBw hb; have hw11 := hw11.below hb; have hw12 := hw12.below hb; have hw13 := hw13.below hb; have hw15 := hw15.below hb; refine hK.out _ _ (Cs.below hHeld hb) (fun hHeld => ?_); clear hK K hb
 try simp only [sb]
 refine tk 17 ?_
 try simp only [sb]
 refine tk 18 ?_
 try simp only [sb]
 refine tk 19 ?_
 try simp only [sb]
 refine tk 20 ?_
 try simp only [sb]
 refine rc 21 (fun K hK => ?_)
 go_simp
 go_at_call 13; (with_reducible refine (C7.out _ hBw).mono ?_); rintro e wa17 ⟨rfl, hb⟩; have hBw := zab hBw hb; have hw11 := hw11.below hb; have hw12 := hw12.below hb; have hw13 := hw13.below hb; have hw15 := hw15.below hb; refine hK.out _ _ (Cs.below hHeld hb) (fun hHeld => ?_); clear hK K hb
 try simp only [sb]
 refine tk 22 ?_
 try simp only [sb]
 refine tk 23 ?_
 try simp only [sb]
 refine tk 24 ?_
 try simp only [sb]
 refine rc 25 (fun K hK => ?_)
 go_simp
 go_at_call 49; (with_reducible refine (C8.out _ hBw).mono ?_); rintro e wa18 ⟨rfl, hb⟩; have hBw := zab hBw hb; have hw11 := hw11.below hb; have hw12 := hw12.below hb; have hw13 := hw13.below hb; have hw15 := hw15.below hb; refine hK.out _ _ (Cs.below hHeld hb) (fun hHeld => ?_); clear hK K hb
 try simp only [sb]
 refine tk 26 ?_
 try simp only [sb]
 refine tk 27 ?_
 try simp only [sb]
 refine tk 28 ?_
 try simp only [sb]
 refine tk 29 ?_
 try simp only [sb]
 refine tk 30 ?_
 try simp only [sb]
 refine tk 35 ?_
 try simp only [sb]
 refine rc 31 (fun K hK => ?_)
 go_simp
 go_at_call 45; (with_reducible refine (C9.out _ hBw).mono ?_); rintro e wa19 ⟨B16, m16, d16, rfl, hw16, hb⟩; have hBw := zab hBw hb; have hw11 := hw11.below hb; have hw12 := hw12.below hb; have hw13 := hw13.below hb; have hw15 := hw15.below hb; refine hK.out _ _ (Cs.below hHeld hb) (fun hHeld => ?_); clear hK K hb
 try simp only [sb]
 refine rc 32 (fun K hK => ?_)
 go_simp
 go_at_call 51; (with_reducible refine (C10.out _ hBw _ _ _ hw16).mono ?_); rintro e wa20 ⟨b17, B17, m17, d17, rfl, hw17, hb⟩; have hBw := zab hBw hb; have hw11 := hw11.below hb; have hw12 := hw12.below hb; have hw13 := hw13.below hb; have hw15 := hw15.below hb; have hw16 := hw16.below hb; refine hK.out _ _ (Cs.below hHeld hb) (fun hHeld => ?_); clear hK K hb
 try simp only [sb]
 refine rc 33 (fun K hK => ?_)
 go_simp
 go_at_call 50; (with_reducible refine (C11.out _ hBw _ _ _ _ hw17).mono ?_); rintro e wa21 ⟨b18, B18, m18, d18, E18, u18, v18, rfl, hw18, hb⟩; have hBw := zab hBw hb; have hw11 := hw11.below hb; have hw12 := hw12.below hb; have hw13 := hw13.below hb; have hw15 := hw15.below hb; have hw16 := hw16.below hb; have hw17 := hw17.below hb; refine hK.out _ _ (Cs.below hHeld hb) (fun hHeld => ?_); clear hK K hb
 try simp only [sb]
 refine rc 34 (fun K hK => ?_)
 go_simp
 go_at_call 26; (with_reducible refine (C12.out _ hBw _ _ _ _ _ _ _ hw18).mono ?_); rintro e wa22 ⟨b19, B19, m19, d19, E19, u19, v19, rfl, hw19, hb⟩; have hBw := zab hBw hb; have hw11 := hw11.below hb; have hw12 := hw12.below hb; have hw13 := hw13.below hb; have hw15 := hw15.below hb; have hw16 := hw16.below hb; have hw17 := hw17.below hb; have hw18 := hw18.below hb; refine hK.out _ _ (Cs.below hHeld hb) (fun hHeld => ?_); clear hK K hb
 try simp only [sb]
 refine rc 36 (fun K hK => ?_)
 go_simp
 go_at_call 17; (with_reducible refine (C13.out _ hBw).mono ?_); rintro e wa23 ⟨b20, B20, m20, d20, rfl, hw20, hb⟩; have hBw := zab hBw hb; have hw11 := hw11.below hb; have hw12 := hw12.below hb; have hw13 := hw13.below hb; have hw15 := hw15.below hb; have hw16 := hw16.below hb; have hw17 := hw17.below hb; have hw18 := hw18.below hb; have hw19 := hw19.below hb; refine hK.out _ _ (Cs.below hHeld hb) (fun hHeld => ?_); clear hK K hb
 try simp only [sb]
 refine rc 37 (fun K hK => ?_)
 go_simp
 go_at_call 50; (with_reducible refine (C14.out _ hBw _ _ _ _ hw20).mono ?_); rintro e wa24 ⟨b21, B21, m21, d21, E21, u21, v21, rfl, hw21, hb⟩; have hBw := zab hBw hb; have hw11 := hw11.below hb; have hw12 := hw12.below hb; have hw13 := hw13.below hb; have hw15 := hw15.below hb; have hw16 := hw16.below hb; have hw17 := hw17.below hb; have hw18 := hw18.below hb; have hw19 := hw19.below hb; have hw20 := hw20.below hb; refine hK.out _ _ (Cs.below hHeld hb) (fun hHeld => ?_); clear hK K hb
 try simp only [sb]
 refine rc 38 (fun K hK => ?_)
 go_simp
 go_at_call 33; (with_reducible refine (C15.out _ hBw _ _ _ _ _ _ _ hw19 _ _ _ _ _ _ _ hw21).mono ?_); rintro e wa25 ⟨rfl, hb⟩; have hBw := zab hBw hb; have hw11 := hw11.below hb; have hw12 := hw12.below hb; have hw13 := hw13.below hb; have hw15 := hw15.below hb; have hw16 := hw16.below hb; have hw17 := hw17.below hb; have hw18 := hw18.below hb; have hw19 := hw19.below hb; have hw20 := hw20.below hb; have hw21 := hw21.below hb; refine hK.out _ _ (Cs.below hHeld hb) (fun hHeld => ?_); clear hK K hb
 try simp only [sb]
 refine tk 39 ?_
 try simp only [sb]
 refine tk 40 ?_
 try simp only [sb]
 refine rdn ?_
 have hB := zab hB hBw
 have g1 := zaa hBw g1
 have e1 := zaa hBw e1
 have i1 := zaa hBw i1
 have g2 := zaa hBw g2
 have e2 := zaa hBw e2
 have i2 := zaa hBw i2
 have g5 := zaa hBw g5
 have e5 := zaa hBw e5
 have i5 := zaa hBw i5
 have g6 := zaa hBw g6
 have e6 := zaa hBw e6
 have i6 := zaa hBw i6
 have HN3 := Lib.hid (HN3.out.below hBw)
 have HN4 := Lib.hid (HN4.out.below hBw)
 have HN7 := Lib.hid (HN7.out.below hBw)
 have HN8 := Lib.hid (HN8.out.below hBw)
 have HN9 := Lib.hid (HN9.out.below hBw)
 have HN10 := Lib.hid (HN10.out.below hBw)
 have HN11 := Lib.hid hw11
 have HN12 := Lib.hid hw12
 have HN13 := Lib.hid hw13
 have HN15 := Lib.hid hw15
 have HN16 := Lib.hid hw16
 have HN17 := Lib.hid hw17
 have HN18 := Lib.hid hw18
 have HN19 := Lib.hid hw19
 have HN20 := Lib.hid hw20
 have HN21 := Lib.hid hw21
 clear hBw hHeld hw11 hw12 hw13 hw15 hw16 hw17 hw18 hw19 hw20 hw21 C0 C1 C2 C3 C4 C5 C6 C7 C8 C9 C10 C11 C12 C13 C14 C15
 go_wp2
 go_ret
 exact ⟨by first | rfl | simp, hB⟩
theorem ratPlain_core {T : World → Prop} (hTb : ∀ w w', T w → Below w.heap.size w w' → T w') (IC : IntC T) (QC : RatC T) (GC : GcdC) (hTT : ∀ w, T w → zan w) (s0 : Bool) (A0 : Option Addr) (n0 c0 : Nat) (l0 : List Nat) (E0 : Option Addr) (u0 v0 : Nat) (e0 : List Nat) (s1 : Bool) (A1 : Option Addr) (n1 c1 : Nat) (l1 : List Nat) (E1 : Option Addr) (u1 v1 : Nat) (e1 : List Nat) (w : World) (h0 : zap w A0 n0 c0 l0) (k0 : zap w E0 u0 v0 e0) (h1 : zap w A1 n1 c1 l1) (k1 : zap w E1 u1 v1 e1) (hT : T w) :
  Calls Tryz.prog 7 #[.agg #[.bool s0, .slice A0 n0 c0, .slice E0 u0 v0], .agg #[.bool s1, .slice A1 n1 c1, .slice E1 u1 v1]] w fun e w' => e = .returned (.bool true) ∧ Below w.heap.size w w' := by
 by_cases x0 : fOf s0 l0 e0 = 0
 ·
  by_cases hn : (fOf s0 l0 e0).num = (fOf s1 l1 e1).num
  ·by_cases hd : (fOf s0 l0 e0).den = (fOf s1 l1 e1).den
   ·exact zgP hTb IC QC GC hTT s0 A0 n0 c0 l0 E0 u0 v0 e0 s1 A1 n1 c1 l1 E1 u1 v1 e1 w h0 k0 h1 k1 x0 (Rat.ext hn hd) hT
   ·exact zgY hTb IC QC GC hTT s0 A0 n0 c0 l0 E0 u0 v0 e0 s1 A1 n1 c1 l1 E1 u1 v1 e1 w h0 k0 h1 k1 x0 hn hd hT
  ·exact zhL hTb IC QC GC hTT s0 A0 n0 c0 l0 E0 u0 v0 e0 s1 A1 n1 c1 l1 E1 u1 v1 e1 w h0 k0 h1 k1 x0 hn hT
 ·
  by_cases hn : (fOf s0 l0 e0).num = (fOf s1 l1 e1).num
  ·by_cases hd : (fOf s0 l0 e0).den = (fOf s1 l1 e1).den
   ·exact zhd hTb IC QC GC hTT s0 A0 n0 c0 l0 E0 u0 v0 e0 s1 A1 n1 c1 l1 E1 u1 v1 e1 w h0 k0 h1 k1 x0 (Rat.ext hn hd) hT
   ·exact zhN hTb IC QC GC hTT s0 A0 n0 c0 l0 E0 u0 v0 e0 s1 A1 n1 c1 l1 E1 u1 v1 e1 w h0 k0 h1 k1 x0 hn hd hT
  ·exact zhI hTb IC QC GC hTT s0 A0 n0 c0 l0 E0 u0 v0 e0 s1 A1 n1 c1 l1 E1 u1 v1 e1 w h0 k0 h1 k1 x0 hn hT
end Go.Proofs.YtgigccjiblaefaaGreatDoor
