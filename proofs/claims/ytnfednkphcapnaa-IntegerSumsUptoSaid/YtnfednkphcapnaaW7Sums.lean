/-
  The walk of the law IntegerSums. Conditions: the words that came in are at most 1048576; integer's functions do as IntC says.
-/
import Derived.Test.YtnfednkphcapnaaRows
import Derived.Test.YtnfednkphcapnaaBunB
import Derived.Test.YtnfednkphcapnaaW7Like
import Derived.WalkKit
import Derived.Lib.Hide
import Derived.Outline
import Derived.IntWalk
import Derived.Deep.RegionHeld3
namespace Go.Proofs.Ytnfednkphcapnaa
open Go Go.RowKit
set_option maxRecDepth 100000
set_option linter.unusedVariables false
set_option linter.unusedSimpArgs false
set_option maxHeartbeats 16000000 in
theorem integerSums_core {T : World → Prop} (hTb : ∀ w w', T w → Below w.heap.size w w' → T w') (IC : IntC T) (s0 : Bool) (A0 : Option Addr) (n0 c0 : Nat) (l0 : List Nat) (s1 : Bool) (A1 : Option Addr) (n1 c1 : Nat) (l1 : List Nat) (w : World) (h0 : ArgWords w A0 n0 c0 l0) (h1 : ArgWords w A1 n1 c1 l1) (hT : T w) :
    Calls Try.prog 3 #[.agg #[.bool s0, .slice A0 n0 c0], .agg #[.bool s1, .slice A1 n1 c1]] w fun e w' => e = .returned (.bool true) ∧ Below w.heap.size w w' := by
  have HAW := Lib.hid (fun w' (hb : Below w.heap.size w w') => law7_awake hTb IC w' (hTb w w' hT hb))
  have HIC := Lib.hid IC
  have HT := Lib.hid (fun w' (hb : Below w.heap.size w w') => hTb w w' hT hb)
  obtain ⟨K, hK⟩ : ∃ K, 1048576 = K := ⟨_, rfl⟩
  have hKK : K ≤ 1048576 := by omega
  have HM0 := Lib.hid (fun w' (hb : Below w.heap.size w w') => law7_make hTb IC s0 A0 n0 c0 l0 w' ⟨(h0.reads.below hb).more hb.size, h0.dgs, h0.fits, h0.small⟩ (hTb w w' hT hb))
  have HRF0 := Lib.hid (fun w' (hb : Below w.heap.size w w') => law7_ref s0 A0 n0 c0 l0 w' ⟨(h0.reads.below hb).more hb.size, h0.dgs, h0.fits, h0.small⟩)
  have S0 : Sz 1048576 (zOf s0 l0).natAbs := by rw [zOf_abs]; exact arg_sz h0
  rw [hK] at S0
  obtain ⟨x, hz0⟩ : ∃ x, zOf s0 l0 = x := ⟨_, rfl⟩
  rw [hz0] at HM0 S0 HRF0
  have HS0 := Lib.hid S0
  have HM1 := Lib.hid (fun w' (hb : Below w.heap.size w w') => law7_make hTb IC s1 A1 n1 c1 l1 w' ⟨(h1.reads.below hb).more hb.size, h1.dgs, h1.fits, h1.small⟩ (hTb w w' hT hb))
  have HRF1 := Lib.hid (fun w' (hb : Below w.heap.size w w') => law7_ref s1 A1 n1 c1 l1 w' ⟨(h1.reads.below hb).more hb.size, h1.dgs, h1.fits, h1.small⟩)
  have S1 : Sz 1048576 (zOf s1 l1).natAbs := by rw [zOf_abs]; exact arg_sz h1
  rw [hK] at S1
  obtain ⟨y, hz1⟩ : ∃ x, zOf s1 l1 = x := ⟨_, rfl⟩
  rw [hz1] at HM1 S1 HRF1
  have HS1 := Lib.hid S1
  obtain ⟨KR, hKR1, hKR⟩ : ∃ q, 4 * K + 8 ≤ q ∧ q ≤ 16777216 := ⟨4 * K + 8, Nat.le_refl _, by omega⟩
  obtain ⟨c, hc⟩ : ∃ q, cmpZ x y = q := ⟨_, rfl⟩
  have HC := Lib.hid hc
  clear hc
  clear IC hT h0 hz0 S0 h1 hz1 S1 hK
  go_enter Try.func3, Try.ntmps3
  have hB := Below.refl w.heap.size w
  obtain ⟨bx1, bx2, bx3, bz⟩ := box2 w 24 24 #[.bool s0, .slice A0 n0 c0] #[.bool s1, .slice A1 n1 c1]
  have hB := keep_below hB bx1
  have g1 : ((w.alloc (.cells #[.bool s0, .slice A0 n0 c0] 24)).alloc (.cells #[.bool s1, .slice A1 n1 c1] 24)).cell? ⟨w.heap.size, 0, none⟩ = some (.bool s0) := bx2.cell 0
  have e1 : ((w.alloc (.cells #[.bool s0, .slice A0 n0 c0] 24)).alloc (.cells #[.bool s1, .slice A1 n1 c1] 24)).cell? ⟨w.heap.size, 1, none⟩ = some (.slice A0 n0 c0) := bx2.cell 1
  have g2 : ((w.alloc (.cells #[.bool s0, .slice A0 n0 c0] 24)).alloc (.cells #[.bool s1, .slice A1 n1 c1] 24)).cell? ⟨w.heap.size + 1, 0, none⟩ = some (.bool s1) := bx3.cell 0
  have e2 : ((w.alloc (.cells #[.bool s0, .slice A0 n0 c0] 24)).alloc (.cells #[.bool s1, .slice A1 n1 c1] 24)).cell? ⟨w.heap.size + 1, 1, none⟩ = some (.slice A1 n1 c1) := bx3.cell 1
  clear bx1 bx2 bx3 bz
  go_wp2_with fail
  generalize (w.alloc (.cells #[.bool s0, .slice A0 n0 c0] 24)).alloc (.cells #[.bool s1, .slice A1 n1 c1] 24) = W1 at *
  (with_reducible refine (HAW.out _ hB).mono ?_)
  rintro e wc2 ⟨rfl, hb⟩
  have hB := keep_below hB hb
  have g1 := keep_cell hb g1
  have e1 := keep_cell hb e1
  have g2 := keep_cell hb g2
  have e2 := keep_cell hb e2
  clear hb 
  go_wp2_with fail
  have HZ3 : Hid (Sz (K) (x).natAbs) := HS0.out
  have C0 := Lib.hid (fun w' (h : Below wc2.heap.size wc2 w') => HM0.out _ (keep_below hB h))
  have HZ4 : Hid (Sz (K) (y).natAbs) := HS1.out
  have C1 := Lib.hid (fun w' (h : Below wc2.heap.size wc2 w') => HM1.out _ (keep_below hB h))
  have HZ5 : Hid (Sz (K) (x).natAbs) := HS0.out
  have C2 := Lib.hid (fun w' (h : Below wc2.heap.size wc2 w') => HRF0.out _ (keep_below hB h))
  have HZ6 : Hid (Sz (K) (y).natAbs) := HS1.out
  have C3 := Lib.hid (fun w' (h : Below wc2.heap.size wc2 w') => HRF1.out _ (keep_below hB h))
  have G0 := Lib.hid (fun w' (h : Below wc2.heap.size wc2 w') => (⟨keep_cell h g1, keep_cell h e1⟩ : w'.cell? ⟨w.heap.size, 0, none⟩ = some (.bool s0) ∧ w'.cell? ⟨w.heap.size, 1, none⟩ = some (.slice A0 n0 c0)))
  have G1 := Lib.hid (fun w' (h : Below wc2.heap.size wc2 w') => (⟨keep_cell h g2, keep_cell h e2⟩ : w'.cell? ⟨w.heap.size + 1, 0, none⟩ = some (.bool s1) ∧ w'.cell? ⟨w.heap.size + 1, 1, none⟩ = some (.slice A1 n1 c1)))
  refine wp_region_noPanic ?_
  refine wp_region_held_drew (S := (fun w' => Below wc2.heap.size wc2 w')) (by kernel_rfl) ?_ (fun hHeld => ?_)
  · exact (Below.refl _ wc2).drew
  refine wpAnyH_take (i := 0) (oi := ?_) (v := ?_) (by simp only [List.getElem?_toArray, List.getElem?_cons_succ, List.getElem?_cons_zero]; rfl) (by kernel_rfl) (by kernel_rfl) (by kernel_rfl) (fun _ _ _ h => h) (Or.inl ⟨by rfl, ?_⟩) (by with_reducible assumption) ?_
  rotate_left
  focus ((intro wz hSw; (try dsimp only at hSw); obtain ⟨z0, z1⟩ := G0.out wz hSw; go_simp); (try with_reducible rfl))
  try simp only [Act.put, List.setIfInBounds_toArray, List.set_cons_zero, List.set_cons_succ]
  refine wpAnyH_take (i := 2) (oi := ?_) (v := ?_) (by simp only [List.getElem?_toArray, List.getElem?_cons_succ, List.getElem?_cons_zero]; rfl) (by kernel_rfl) (by kernel_rfl) (by kernel_rfl) (fun _ _ _ h => h) (Or.inl ⟨by rfl, ?_⟩) (by with_reducible assumption) ?_
  rotate_left
  focus ((intro wz hSw; (try dsimp only at hSw); obtain ⟨z0, z1⟩ := G1.out wz hSw; go_simp); (try with_reducible rfl))
  try simp only [Act.put, List.setIfInBounds_toArray, List.set_cons_zero, List.set_cons_succ]
  refine wpAnyH_take (i := 4) (oi := ?_) (v := ?_) (by simp only [List.getElem?_toArray, List.getElem?_cons_succ, List.getElem?_cons_zero]; rfl) (by kernel_rfl) (by kernel_rfl) (by kernel_rfl) (fun _ _ _ h => h) (Or.inl ⟨by rfl, ?_⟩) (by with_reducible assumption) ?_
  rotate_left
  focus ((intro wz hSw; (try dsimp only at hSw); obtain ⟨z0, z1⟩ := G0.out wz hSw; go_simp); (try with_reducible rfl))
  try simp only [Act.put, List.setIfInBounds_toArray, List.set_cons_zero, List.set_cons_succ]
  refine wpAnyH_take (i := 6) (oi := ?_) (v := ?_) (by simp only [List.getElem?_toArray, List.getElem?_cons_succ, List.getElem?_cons_zero]; rfl) (by kernel_rfl) (by kernel_rfl) (by kernel_rfl) (fun _ _ _ h => h) (Or.inl ⟨by rfl, ?_⟩) (by with_reducible assumption) ?_
  rotate_left
  focus ((intro wz hSw; (try dsimp only at hSw); obtain ⟨z0, z1⟩ := G1.out wz hSw; go_simp); (try with_reducible rfl))
  try simp only [Act.put, List.setIfInBounds_toArray, List.set_cons_zero, List.set_cons_succ]
  refine wpAnyH_meet (L := #[true, true, true, true, true, true, true, true, true, true, true, true, false, false, false, false])
    (J := fun a0 l a w' => ∃ (fl1 fl3 fl5 fl7 fl8 fl9 fl10 fl11 : Bool) (vl12 vl14 vl16 vl18 vl5 vl6 vl7 vl8 : Value) (b3 : Bool) (B3 : Option Addr) (m3 d3 : Nat) (b4 : Bool) (B4 : Option Addr) (m4 d4 : Nat) (b5 : Bool) (B5 : Option Addr) (m5 d5 : Nat) (b6 : Bool) (B6 : Option Addr) (m6 d6 ad8 ad9 ad10 ad11 : Nat), l = #[true, fl1, true, fl3, true, fl5, true, fl7, fl8, fl9, fl10, fl11, false, false, false, false] ∧ a = (((((((a0.put (some 12) vl12).put (some 14) vl14).put (some 16) vl16).put (some 18) vl18).put (some 5) vl5).put (some 6) vl6).put (some 7) vl7).put (some 8) vl8 ∧ Hid (Below wc2.heap.size wc2 w') ∧
      Hid (Gd fl1 (vl12 = .agg #[.bool b3, .slice B3 m3 d3] ∧ IntIn w' (x) b3 B3 m3 d3)) ∧
      Hid (Gd fl3 (vl14 = .agg #[.bool b4, .slice B4 m4 d4] ∧ IntIn w' (y) b4 B4 m4 d4)) ∧
      Hid (Gd fl5 (vl16 = .agg #[.bool b5, .slice B5 m5 d5] ∧ RefIn w' (x) b5 B5 m5 d5)) ∧
      Hid (Gd fl7 (vl18 = .agg #[.bool b6, .slice B6 m6 d6] ∧ RefIn w' (y) b6 B6 m6 d6)) ∧
      Hid (Gd fl8 (Made wc2.heap.size w' ad8 29 #[.bool false, .slice none 0 0] vl5)) ∧
      Hid (Gd fl9 (Made wc2.heap.size w' ad9 29 #[.bool false, .slice none 0 0] vl6)) ∧
      Hid (Gd fl10 (Made wc2.heap.size w' ad10 34 #[.bool false, .slice none 0 0] vl7)) ∧
      Hid (Gd fl11 (Made wc2.heap.size w' ad11 34 #[.bool false, .slice none 0 0] vl8)) ∧
      Hid (Gd fl8 (Gd fl9 (ad8 ≠ ad9))) ∧
      Hid (Gd fl8 (Gd fl10 (ad8 ≠ ad10))) ∧
      Hid (Gd fl8 (Gd fl11 (ad8 ≠ ad11))) ∧
      Hid (Gd fl9 (Gd fl10 (ad9 ≠ ad10))) ∧
      Hid (Gd fl9 (Gd fl11 (ad9 ≠ ad11))) ∧
      Hid (Gd fl10 (Gd fl11 (ad10 ≠ ad11))) ∧
      Hid (Gd fl3 (fl1 = true)) ∧
      Hid (Gd fl5 (fl3 = true)) ∧
      Hid (Gd fl7 (fl5 = true)))
    (by rfl) ?_ ?_ ?_ ?_
  · exact ⟨false, false, false, false, false, false, false, false, _, _, _, _, _, _, _, _, false, none, 0, 0, false, none, 0, 0, false, none, 0, 0, false, none, 0, 0, 0, 0, 0, 0, by kernel_rfl, by rfl, hHeld, Gd.no, Gd.no, Gd.no, Gd.no, Gd.no, Gd.no, Gd.no, Gd.no, Gd.no, Gd.no, Gd.no, Gd.no, Gd.no, Gd.no, Gd.no, Gd.no, Gd.no⟩
  · rintro l a w' ⟨fl1, fl3, fl5, fl7, fl8, fl9, fl10, fl11, vl12, vl14, vl16, vl18, vl5, vl6, vl7, vl8, b3, B3, m3, d3, b4, B4, m4, d4, b5, B5, m5, d5, b6, B6, m6, d6, ad8, ad9, ad10, ad11, rfl, rfl, -⟩ hr
    have xx1 : fl1 = true := by refine all_listed (i := 1) (o := ?_) hr (by simp only [List.getElem?_toArray, List.getElem?_cons_succ, List.getElem?_cons_zero]; rfl) ?_; rfl
    subst xx1
    have xx3 : fl3 = true := by refine all_listed (i := 3) (o := ?_) hr (by simp only [List.getElem?_toArray, List.getElem?_cons_succ, List.getElem?_cons_zero]; rfl) ?_; rfl
    subst xx3
    have xx5 : fl5 = true := by refine all_listed (i := 5) (o := ?_) hr (by simp only [List.getElem?_toArray, List.getElem?_cons_succ, List.getElem?_cons_zero]; rfl) ?_; rfl
    subst xx5
    have xx7 : fl7 = true := by refine all_listed (i := 7) (o := ?_) hr (by simp only [List.getElem?_toArray, List.getElem?_cons_succ, List.getElem?_cons_zero]; rfl) ?_; rfl
    subst xx7
    have xx8 : fl8 = true := by refine all_listed (i := 8) (o := ?_) hr (by simp only [List.getElem?_toArray, List.getElem?_cons_succ, List.getElem?_cons_zero]; rfl) ?_; rfl
    subst xx8
    have xx9 : fl9 = true := by refine all_listed (i := 9) (o := ?_) hr (by simp only [List.getElem?_toArray, List.getElem?_cons_succ, List.getElem?_cons_zero]; rfl) ?_; rfl
    subst xx9
    have xx10 : fl10 = true := by refine all_listed (i := 10) (o := ?_) hr (by simp only [List.getElem?_toArray, List.getElem?_cons_succ, List.getElem?_cons_zero]; rfl) ?_; rfl
    subst xx10
    have xx11 : fl11 = true := by refine all_listed (i := 11) (o := ?_) hr (by simp only [List.getElem?_toArray, List.getElem?_cons_succ, List.getElem?_cons_zero]; rfl) ?_; rfl
    subst xx11
    rfl
  · rintro l a w' i ⟨fl1, fl3, fl5, fl7, fl8, fl9, fl10, fl11, vl12, vl14, vl16, vl18, vl5, vl6, vl7, vl8, b3, B3, m3, d3, b4, B4, m4, d4, b5, B5, m5, d5, b6, B6, m6, d6, ad8, ad9, ad10, ad11, rfl, rfl, hBi, qf1, qf3, qf5, qf7, qf8, qf9, qf10, qf11, qn8_9, qn8_10, qn8_11, qn9_10, qn9_11, qn10_11, qd3_1, qd5_3, qd7_5⟩ hne hi
    have hlt : i < 16 := ready_lt hi
    rcases (show i = 0 ∨ i = 1 ∨ i = 2 ∨ i = 3 ∨ i = 4 ∨ i = 5 ∨ i = 6 ∨ i = 7 ∨ i = 8 ∨ i = 9 ∨ i = 10 ∨ i = 11 ∨ i = 12 ∨ i = 13 ∨ i = 14 ∨ i = 15 by omega) with rfl | rfl | rfl | rfl | rfl | rfl | rfl | rfl | rfl | rfl | rfl | rfl | rfl | rfl | rfl | rfl
    · have u : true = false := ready_un hi
      cases u
    · have u : fl1 = false := ready_un hi
      subst u
      refine wpOp_shut (by simp only [List.getElem?_toArray, List.getElem?_cons_succ, List.getElem?_cons_zero]; rfl) (fun K' hK => ?_)
      try simp only [Act.put, List.setIfInBounds_toArray, List.set_cons_zero, List.set_cons_succ]
      go_simp
      refine (C0.out w' hBi.out).mono ?_
      rintro e w2 ⟨nb3, nB3, nm3, nd3, rfl, nhw3, hb⟩
      exact hK.out _ _ ⟨keep_below hBi.out hb, true, fl3, fl5, fl7, fl8, fl9, fl10, fl11, _, vl14, vl16, vl18, vl5, vl6, vl7, vl8, nb3, nB3, nm3, nd3, b4, B4, m4, d4, b5, B5, m5, d5, b6, B6, m6, d6, ad8, ad9, ad10, ad11, by rfl, by rfl, keep_below hBi.out hb, Gd.yes ⟨rfl, nhw3⟩, qf3.out.mono fun h => ⟨h.1, h.2.below hb⟩, qf5.out.mono fun h => ⟨h.1, h.2.below hb⟩, qf7.out.mono fun h => ⟨h.1, h.2.below hb⟩, qf8.out.mono fun h => h.keep hb, qf9.out.mono fun h => h.keep hb, qf10.out.mono fun h => h.keep hb, qf11.out.mono fun h => h.keep hb, qn8_9, qn8_10, qn8_11, qn9_10, qn9_11, qn10_11, fun _ => rfl, qd5_3, qd7_5⟩
    · have u : true = false := ready_un hi
      cases u
    · have u : fl3 = false := ready_un hi
      subst u
      have yy1 : fl1 = true := by refine ready_dep (k := 1) (o := ?_) hi (by simp only [List.getElem?_toArray, List.getElem?_cons_succ, List.getElem?_cons_zero]; rfl) rfl rfl
      subst yy1
      refine wpOp_shut (by simp only [List.getElem?_toArray, List.getElem?_cons_succ, List.getElem?_cons_zero]; rfl) (fun K' hK => ?_)
      try simp only [Act.put, List.setIfInBounds_toArray, List.set_cons_zero, List.set_cons_succ]
      go_simp
      refine (C1.out w' hBi.out).mono ?_
      rintro e w2 ⟨nb4, nB4, nm4, nd4, rfl, nhw4, hb⟩
      exact hK.out _ _ ⟨keep_below hBi.out hb, true, true, fl5, fl7, fl8, fl9, fl10, fl11, vl12, _, vl16, vl18, vl5, vl6, vl7, vl8, b3, B3, m3, d3, nb4, nB4, nm4, nd4, b5, B5, m5, d5, b6, B6, m6, d6, ad8, ad9, ad10, ad11, by rfl, by rfl, keep_below hBi.out hb, qf1.out.mono fun h => ⟨h.1, h.2.below hb⟩, Gd.yes ⟨rfl, nhw4⟩, qf5.out.mono fun h => ⟨h.1, h.2.below hb⟩, qf7.out.mono fun h => ⟨h.1, h.2.below hb⟩, qf8.out.mono fun h => h.keep hb, qf9.out.mono fun h => h.keep hb, qf10.out.mono fun h => h.keep hb, qf11.out.mono fun h => h.keep hb, qn8_9, qn8_10, qn8_11, qn9_10, qn9_11, qn10_11, Gd.yes rfl, fun _ => rfl, qd7_5⟩
    · have u : true = false := ready_un hi
      cases u
    · have u : fl5 = false := ready_un hi
      subst u
      have yy3 : fl3 = true := by refine ready_dep (k := 1) (o := ?_) hi (by simp only [List.getElem?_toArray, List.getElem?_cons_succ, List.getElem?_cons_zero]; rfl) rfl rfl
      subst yy3
      refine wpOp_shut (by simp only [List.getElem?_toArray, List.getElem?_cons_succ, List.getElem?_cons_zero]; rfl) (fun K' hK => ?_)
      try simp only [Act.put, List.setIfInBounds_toArray, List.set_cons_zero, List.set_cons_succ]
      go_simp
      refine (C2.out w' hBi.out).mono ?_
      rintro e w2 ⟨nb5, nB5, nm5, nd5, rfl, nhw5, hb⟩
      exact hK.out _ _ ⟨keep_below hBi.out hb, fl1, true, true, fl7, fl8, fl9, fl10, fl11, vl12, vl14, _, vl18, vl5, vl6, vl7, vl8, b3, B3, m3, d3, b4, B4, m4, d4, nb5, nB5, nm5, nd5, b6, B6, m6, d6, ad8, ad9, ad10, ad11, by rfl, by rfl, keep_below hBi.out hb, qf1.out.mono fun h => ⟨h.1, h.2.below hb⟩, qf3.out.mono fun h => ⟨h.1, h.2.below hb⟩, Gd.yes ⟨rfl, nhw5⟩, qf7.out.mono fun h => ⟨h.1, h.2.below hb⟩, qf8.out.mono fun h => h.keep hb, qf9.out.mono fun h => h.keep hb, qf10.out.mono fun h => h.keep hb, qf11.out.mono fun h => h.keep hb, qn8_9, qn8_10, qn8_11, qn9_10, qn9_11, qn10_11, qd3_1, Gd.yes rfl, fun _ => rfl⟩
    · have u : true = false := ready_un hi
      cases u
    · have u : fl7 = false := ready_un hi
      subst u
      have yy5 : fl5 = true := by refine ready_dep (k := 1) (o := ?_) hi (by simp only [List.getElem?_toArray, List.getElem?_cons_succ, List.getElem?_cons_zero]; rfl) rfl rfl
      subst yy5
      refine wpOp_shut (by simp only [List.getElem?_toArray, List.getElem?_cons_succ, List.getElem?_cons_zero]; rfl) (fun K' hK => ?_)
      try simp only [Act.put, List.setIfInBounds_toArray, List.set_cons_zero, List.set_cons_succ]
      go_simp
      refine (C3.out w' hBi.out).mono ?_
      rintro e w2 ⟨nb6, nB6, nm6, nd6, rfl, nhw6, hb⟩
      exact hK.out _ _ ⟨keep_below hBi.out hb, fl1, fl3, true, true, fl8, fl9, fl10, fl11, vl12, vl14, vl16, _, vl5, vl6, vl7, vl8, b3, B3, m3, d3, b4, B4, m4, d4, b5, B5, m5, d5, nb6, nB6, nm6, nd6, ad8, ad9, ad10, ad11, by rfl, by rfl, keep_below hBi.out hb, qf1.out.mono fun h => ⟨h.1, h.2.below hb⟩, qf3.out.mono fun h => ⟨h.1, h.2.below hb⟩, qf5.out.mono fun h => ⟨h.1, h.2.below hb⟩, Gd.yes ⟨rfl, nhw6⟩, qf8.out.mono fun h => h.keep hb, qf9.out.mono fun h => h.keep hb, qf10.out.mono fun h => h.keep hb, qf11.out.mono fun h => h.keep hb, qn8_9, qn8_10, qn8_11, qn9_10, qn9_11, qn10_11, qd3_1, qd5_3, Gd.yes rfl⟩
    · have u : fl8 = false := ready_un hi
      subst u
      refine wpOp_shut (by simp only [List.getElem?_toArray, List.getElem?_cons_succ, List.getElem?_cons_zero]; rfl) (fun K' hK => ?_)
      try simp only [Act.put, List.setIfInBounds_toArray, List.set_cons_zero, List.set_cons_succ]
      go_simp
      have hb := up_alloc w' (.cells #[.bool false, .slice none 0 0] 29)
      exact hK.out _ _ ⟨keep_below hBi.out hb, fl1, fl3, fl5, fl7, true, fl9, fl10, fl11, vl12, vl14, vl16, vl18, _, vl6, vl7, vl8, b3, B3, m3, d3, b4, B4, m4, d4, b5, B5, m5, d5, b6, B6, m6, d6, _, ad9, ad10, ad11, by rfl, by rfl, keep_below hBi.out hb, qf1.out.mono fun h => ⟨h.1, h.2.below hb⟩, qf3.out.mono fun h => ⟨h.1, h.2.below hb⟩, qf5.out.mono fun h => ⟨h.1, h.2.below hb⟩, qf7.out.mono fun h => ⟨h.1, h.2.below hb⟩, Gd.yes (Made.new _ _ _ _ hBi.out.size), qf9.out.mono fun h => h.keep hb, qf10.out.mono fun h => h.keep hb, qf11.out.mono fun h => h.keep hb, Gd.yes (qf9.out.mono fun h => by have := h.lt; omega), Gd.yes (qf10.out.mono fun h => by have := h.lt; omega), Gd.yes (qf11.out.mono fun h => by have := h.lt; omega), qn9_10, qn9_11, qn10_11, qd3_1, qd5_3, qd7_5⟩
    · have u : fl9 = false := ready_un hi
      subst u
      refine wpOp_shut (by simp only [List.getElem?_toArray, List.getElem?_cons_succ, List.getElem?_cons_zero]; rfl) (fun K' hK => ?_)
      try simp only [Act.put, List.setIfInBounds_toArray, List.set_cons_zero, List.set_cons_succ]
      go_simp
      have hb := up_alloc w' (.cells #[.bool false, .slice none 0 0] 29)
      exact hK.out _ _ ⟨keep_below hBi.out hb, fl1, fl3, fl5, fl7, fl8, true, fl10, fl11, vl12, vl14, vl16, vl18, vl5, _, vl7, vl8, b3, B3, m3, d3, b4, B4, m4, d4, b5, B5, m5, d5, b6, B6, m6, d6, ad8, _, ad10, ad11, by rfl, by rfl, keep_below hBi.out hb, qf1.out.mono fun h => ⟨h.1, h.2.below hb⟩, qf3.out.mono fun h => ⟨h.1, h.2.below hb⟩, qf5.out.mono fun h => ⟨h.1, h.2.below hb⟩, qf7.out.mono fun h => ⟨h.1, h.2.below hb⟩, qf8.out.mono fun h => h.keep hb, Gd.yes (Made.new _ _ _ _ hBi.out.size), qf10.out.mono fun h => h.keep hb, qf11.out.mono fun h => h.keep hb, qf8.out.mono fun h => Gd.yes (by have := h.lt; omega), qn8_10, qn8_11, Gd.yes (qf10.out.mono fun h => by have := h.lt; omega), Gd.yes (qf11.out.mono fun h => by have := h.lt; omega), qn10_11, qd3_1, qd5_3, qd7_5⟩
    · have u : fl10 = false := ready_un hi
      subst u
      refine wpOp_shut (by simp only [List.getElem?_toArray, List.getElem?_cons_succ, List.getElem?_cons_zero]; rfl) (fun K' hK => ?_)
      try simp only [Act.put, List.setIfInBounds_toArray, List.set_cons_zero, List.set_cons_succ]
      go_simp
      have hb := up_alloc w' (.cells #[.bool false, .slice none 0 0] 34)
      exact hK.out _ _ ⟨keep_below hBi.out hb, fl1, fl3, fl5, fl7, fl8, fl9, true, fl11, vl12, vl14, vl16, vl18, vl5, vl6, _, vl8, b3, B3, m3, d3, b4, B4, m4, d4, b5, B5, m5, d5, b6, B6, m6, d6, ad8, ad9, _, ad11, by rfl, by rfl, keep_below hBi.out hb, qf1.out.mono fun h => ⟨h.1, h.2.below hb⟩, qf3.out.mono fun h => ⟨h.1, h.2.below hb⟩, qf5.out.mono fun h => ⟨h.1, h.2.below hb⟩, qf7.out.mono fun h => ⟨h.1, h.2.below hb⟩, qf8.out.mono fun h => h.keep hb, qf9.out.mono fun h => h.keep hb, Gd.yes (Made.new _ _ _ _ hBi.out.size), qf11.out.mono fun h => h.keep hb, qn8_9, qf8.out.mono fun h => Gd.yes (by have := h.lt; omega), qn8_11, qf9.out.mono fun h => Gd.yes (by have := h.lt; omega), qn9_11, Gd.yes (qf11.out.mono fun h => by have := h.lt; omega), qd3_1, qd5_3, qd7_5⟩
    · have u : fl11 = false := ready_un hi
      subst u
      refine wpOp_shut (by simp only [List.getElem?_toArray, List.getElem?_cons_succ, List.getElem?_cons_zero]; rfl) (fun K' hK => ?_)
      try simp only [Act.put, List.setIfInBounds_toArray, List.set_cons_zero, List.set_cons_succ]
      go_simp
      have hb := up_alloc w' (.cells #[.bool false, .slice none 0 0] 34)
      exact hK.out _ _ ⟨keep_below hBi.out hb, fl1, fl3, fl5, fl7, fl8, fl9, fl10, true, vl12, vl14, vl16, vl18, vl5, vl6, vl7, _, b3, B3, m3, d3, b4, B4, m4, d4, b5, B5, m5, d5, b6, B6, m6, d6, ad8, ad9, ad10, _, by rfl, by rfl, keep_below hBi.out hb, qf1.out.mono fun h => ⟨h.1, h.2.below hb⟩, qf3.out.mono fun h => ⟨h.1, h.2.below hb⟩, qf5.out.mono fun h => ⟨h.1, h.2.below hb⟩, qf7.out.mono fun h => ⟨h.1, h.2.below hb⟩, qf8.out.mono fun h => h.keep hb, qf9.out.mono fun h => h.keep hb, qf10.out.mono fun h => h.keep hb, Gd.yes (Made.new _ _ _ _ hBi.out.size), qn8_9, qn8_10, qf8.out.mono fun h => Gd.yes (by have := h.lt; omega), qn9_10, qf9.out.mono fun h => Gd.yes (by have := h.lt; omega), qf10.out.mono fun h => Gd.yes (by have := h.lt; omega), qd3_1, qd5_3, qd7_5⟩
    · have yy1 : fl1 = true := by refine ready_dep (k := 1) (o := ?_) hi (by simp only [List.getElem?_toArray, List.getElem?_cons_succ, List.getElem?_cons_zero]; rfl) rfl rfl
      subst yy1
      have yy7 : fl7 = true := by refine ready_dep (k := 2) (o := ?_) hi (by simp only [List.getElem?_toArray, List.getElem?_cons_succ, List.getElem?_cons_zero]; rfl) rfl rfl
      subst yy7
      have yy8 : fl8 = true := by refine ready_dep (k := 0) (o := ?_) hi (by simp only [List.getElem?_toArray, List.getElem?_cons_succ, List.getElem?_cons_zero]; rfl) rfl rfl
      subst yy8
      have yy9 : fl9 = true := by refine ready_dep (k := 12) (o := ?_) hi (by simp only [List.getElem?_toArray, List.getElem?_cons_succ, List.getElem?_cons_zero]; rfl) rfl rfl
      subst yy9
      have yy10 : fl10 = true := by refine ready_dep (k := 13) (o := ?_) hi (by simp only [List.getElem?_toArray, List.getElem?_cons_succ, List.getElem?_cons_zero]; rfl) rfl rfl
      subst yy10
      have yy11 : fl11 = true := by refine ready_dep (k := 14) (o := ?_) hi (by simp only [List.getElem?_toArray, List.getElem?_cons_succ, List.getElem?_cons_zero]; rfl) rfl rfl
      subst yy11
      have yy5 : fl5 = true := qd7_5.out.get
      subst yy5
      have yy3 : fl3 = true := qd5_3.out.get
      subst yy3
      exact absurd rfl hne
    · have u : false = true := by refine ready_dep (k := 2) (o := ?_) hi (by simp only [List.getElem?_toArray, List.getElem?_cons_succ, List.getElem?_cons_zero]; rfl) rfl rfl
      cases u
    · have u : false = true := by refine ready_dep (k := 15) (o := ?_) hi (by simp only [List.getElem?_toArray, List.getElem?_cons_succ, List.getElem?_cons_zero]; rfl) rfl rfl
      cases u
    · have u : false = true := by refine ready_dep (k := 15) (o := ?_) hi (by simp only [List.getElem?_toArray, List.getElem?_cons_succ, List.getElem?_cons_zero]; rfl) rfl rfl
      cases u
  rintro a wm3 ⟨fl1, fl3, fl5, fl7, fl8, fl9, fl10, fl11, vl12, vl14, vl16, vl18, vl5, vl6, vl7, vl8, b3, B3, m3, d3, b4, B4, m4, d4, b5, B5, m5, d5, b6, B6, m6, d6, ad8, ad9, ad10, ad11, hl, rfl, hBi, qf1, qf3, qf5, qf7, qf8, qf9, qf10, qf11, qn8_9, qn8_10, qn8_11, qn9_10, qn9_11, qn10_11, qd3_1, qd5_3, qd7_5⟩
  have xx1 : fl1 = true := by have h := congrArg (fun l : Array Bool => l.getD 1 false) hl; exact h.symm
  subst xx1
  have xx3 : fl3 = true := by have h := congrArg (fun l : Array Bool => l.getD 3 false) hl; exact h.symm
  subst xx3
  have xx5 : fl5 = true := by have h := congrArg (fun l : Array Bool => l.getD 5 false) hl; exact h.symm
  subst xx5
  have xx7 : fl7 = true := by have h := congrArg (fun l : Array Bool => l.getD 7 false) hl; exact h.symm
  subst xx7
  have xx8 : fl8 = true := by have h := congrArg (fun l : Array Bool => l.getD 8 false) hl; exact h.symm
  subst xx8
  have xx9 : fl9 = true := by have h := congrArg (fun l : Array Bool => l.getD 9 false) hl; exact h.symm
  subst xx9
  have xx10 : fl10 = true := by have h := congrArg (fun l : Array Bool => l.getD 10 false) hl; exact h.symm
  subst xx10
  have xx11 : fl11 = true := by have h := congrArg (fun l : Array Bool => l.getD 11 false) hl; exact h.symm
  subst xx11
  obtain ⟨rfl, hw3⟩ := qf1.out.get
  obtain ⟨rfl, hw4⟩ := qf3.out.get
  obtain ⟨rfl, hw5⟩ := qf5.out.get
  obtain ⟨rfl, hw6⟩ := qf7.out.get
  obtain ⟨rfl, hg8, hk8⟩ := qf8.out.get
  obtain ⟨rfl, hg9, hk9⟩ := qf9.out.get
  obtain ⟨rfl, hg10, hk10⟩ := qf10.out.get
  obtain ⟨rfl, hg11, hk11⟩ := qf11.out.get
  have n8_9 := qn8_9.out.get.get
  have n8_10 := qn8_10.out.get.get
  have n8_11 := qn8_11.out.get.get
  have n9_10 := qn9_10.out.get.get
  have n9_11 := qn9_11.out.get.get
  have n10_11 := qn10_11.out.get.get
  have hBv := hBi.out
  clear hl hBi qf1 qf3 qf5 qf7 qf8 qf9 qf10 qf11 qn8_9 qn8_10 qn8_11 qn9_10 qn9_11 qn10_11 qd3_1 qd5_3 qd7_5
  have hk8 : Blk wm3 ad8 29 #[.bool false, .slice none 0 0] := hk8
  have hk9 : Blk wm3 ad9 29 #[.bool false, .slice none 0 0] := hk9
  have hk10 : Blk wm3 ad10 34 #[.bool false, .slice none 0 0] := hk10
  have hk11 : Blk wm3 ad11 34 #[.bool false, .slice none 0 0] := hk11
  rw [show due #[true, true, true, true, true, true, true, true, true, true, true, true, false, false, false, false] = 4 from rfl]
  try simp only [Act.put, List.setIfInBounds_toArray, List.set_cons_zero, List.set_cons_succ]
  refine wpAnyH_ready (rs := [12]) (by kernel_rfl) (by simp) ?_
  refine AllReadyH.cons (o := ?_) (by simp only [List.getElem?_toArray, List.getElem?_cons_succ, List.getElem?_cons_zero]; rfl) (fun K hK => ?_) AllReadyH.nil
  have sc0 : (wm3).cell? ⟨ad8, 0, none⟩ = some (.bool false) := hk8.cell 0
  have sf0 : (wm3).frozen? ⟨ad8, 0, none⟩ = false := hk8.frozen 0
  have hj0 : Blk (wm3.setCell ⟨ad8, 0, none⟩ (.bool b3)) ad8 29 #[.bool b3, .slice none 0 0] := hk8.set_ 0 (.bool b3)
  have sc1 : (wm3.setCell ⟨ad8, 0, none⟩ (.bool b3)).cell? ⟨ad8, 1, none⟩ = some (.slice none 0 0) := hj0.cell 1
  have sf1 : (wm3.setCell ⟨ad8, 0, none⟩ (.bool b3)).frozen? ⟨ad8, 1, none⟩ = false := hj0.frozen 1
  have hj1 : Blk ((wm3.setCell ⟨ad8, 0, none⟩ (.bool b3)).setCell ⟨ad8, 1, none⟩ (.slice B3 m3 d3)) ad8 29 #[.bool b3, .slice B3 m3 d3] := hj0.set_ 1 (.slice B3 m3 d3)
  go_simp
  have hBv := keep_below_set (p := ⟨ad8, 1, none⟩) (.slice B3 m3 d3) hg8 (keep_below_set (p := ⟨ad8, 0, none⟩) (.bool b3) hg8 (hBv))
  have hk9 := Blk.far (Blk.far (hk9) (p := ⟨ad8, 0, none⟩) (show ad9 ≠ ad8 from n8_9.symm) (.bool b3)) (p := ⟨ad8, 1, none⟩) (show ad9 ≠ ad8 from n8_9.symm) (.slice B3 m3 d3)
  have hk10 := Blk.far (Blk.far (hk10) (p := ⟨ad8, 0, none⟩) (show ad10 ≠ ad8 from n8_10.symm) (.bool b3)) (p := ⟨ad8, 1, none⟩) (show ad10 ≠ ad8 from n8_10.symm) (.slice B3 m3 d3)
  have hk11 := Blk.far (Blk.far (hk11) (p := ⟨ad8, 0, none⟩) (show ad11 ≠ ad8 from n8_11.symm) (.bool b3)) (p := ⟨ad8, 1, none⟩) (show ad11 ≠ ad8 from n8_11.symm) (.slice B3 m3 d3)
  have hw3 := int_set2 hw3 hk8 b3 B3 m3 d3
  have hw4 := int_set2 hw4 hk8 b3 B3 m3 d3
  have hw5 := ref_set2 hw5 hk8 b3 B3 m3 d3
  have hw6 := ref_set2 hw6 hk8 b3 B3 m3 d3
  have hk8 := hj1
  clear sc0 sf0 sc1 sf1 hj0 hj1
  refine hK.out _ _ ?_ (fun hHeld => ?_)
  · ((try dsimp only); exact hBv)
  clear hK K hHeld
  try simp only [Act.put, List.setIfInBounds_toArray, List.set_cons_zero, List.set_cons_succ]
  generalize (wm3.setCell ⟨ad8, 0, none⟩ (.bool b3)).setCell ⟨ad8, 1, none⟩ (.slice B3 m3 d3) = wm4 at *
  refine wpAnyH_ready (rs := [13]) (by kernel_rfl) (by simp) ?_
  refine AllReadyH.cons (o := ?_) (by simp only [List.getElem?_toArray, List.getElem?_cons_succ, List.getElem?_cons_zero]; rfl) (fun K hK => ?_) AllReadyH.nil
  have sc0 : (wm4).cell? ⟨ad9, 0, none⟩ = some (.bool false) := hk9.cell 0
  have sf0 : (wm4).frozen? ⟨ad9, 0, none⟩ = false := hk9.frozen 0
  have hj0 : Blk (wm4.setCell ⟨ad9, 0, none⟩ (.bool b4)) ad9 29 #[.bool b4, .slice none 0 0] := hk9.set_ 0 (.bool b4)
  have sc1 : (wm4.setCell ⟨ad9, 0, none⟩ (.bool b4)).cell? ⟨ad9, 1, none⟩ = some (.slice none 0 0) := hj0.cell 1
  have sf1 : (wm4.setCell ⟨ad9, 0, none⟩ (.bool b4)).frozen? ⟨ad9, 1, none⟩ = false := hj0.frozen 1
  have hj1 : Blk ((wm4.setCell ⟨ad9, 0, none⟩ (.bool b4)).setCell ⟨ad9, 1, none⟩ (.slice B4 m4 d4)) ad9 29 #[.bool b4, .slice B4 m4 d4] := hj0.set_ 1 (.slice B4 m4 d4)
  go_simp
  have hBv := keep_below_set (p := ⟨ad9, 1, none⟩) (.slice B4 m4 d4) hg9 (keep_below_set (p := ⟨ad9, 0, none⟩) (.bool b4) hg9 (hBv))
  have hk8 := Blk.far (Blk.far (hk8) (p := ⟨ad9, 0, none⟩) (show ad8 ≠ ad9 from n8_9) (.bool b4)) (p := ⟨ad9, 1, none⟩) (show ad8 ≠ ad9 from n8_9) (.slice B4 m4 d4)
  have hk10 := Blk.far (Blk.far (hk10) (p := ⟨ad9, 0, none⟩) (show ad10 ≠ ad9 from n9_10.symm) (.bool b4)) (p := ⟨ad9, 1, none⟩) (show ad10 ≠ ad9 from n9_10.symm) (.slice B4 m4 d4)
  have hk11 := Blk.far (Blk.far (hk11) (p := ⟨ad9, 0, none⟩) (show ad11 ≠ ad9 from n9_11.symm) (.bool b4)) (p := ⟨ad9, 1, none⟩) (show ad11 ≠ ad9 from n9_11.symm) (.slice B4 m4 d4)
  have hw3 := int_set2 hw3 hk9 b4 B4 m4 d4
  have hw4 := int_set2 hw4 hk9 b4 B4 m4 d4
  have hw5 := ref_set2 hw5 hk9 b4 B4 m4 d4
  have hw6 := ref_set2 hw6 hk9 b4 B4 m4 d4
  have hk9 := hj1
  clear sc0 sf0 sc1 sf1 hj0 hj1
  refine hK.out _ _ ?_ (fun hHeld => ?_)
  · ((try dsimp only); exact hBv)
  clear hK K hHeld
  try simp only [Act.put, List.setIfInBounds_toArray, List.set_cons_zero, List.set_cons_succ]
  generalize (wm4.setCell ⟨ad9, 0, none⟩ (.bool b4)).setCell ⟨ad9, 1, none⟩ (.slice B4 m4 d4) = wm5 at *
  refine wpAnyH_ready (rs := [14]) (by kernel_rfl) (by simp) ?_
  refine AllReadyH.cons (o := ?_) (by simp only [List.getElem?_toArray, List.getElem?_cons_succ, List.getElem?_cons_zero]; rfl) (fun K hK => ?_) AllReadyH.nil
  have sc0 : (wm5).cell? ⟨ad10, 0, none⟩ = some (.bool false) := hk10.cell 0
  have sf0 : (wm5).frozen? ⟨ad10, 0, none⟩ = false := hk10.frozen 0
  have hj0 : Blk (wm5.setCell ⟨ad10, 0, none⟩ (.bool b5)) ad10 34 #[.bool b5, .slice none 0 0] := hk10.set_ 0 (.bool b5)
  have sc1 : (wm5.setCell ⟨ad10, 0, none⟩ (.bool b5)).cell? ⟨ad10, 1, none⟩ = some (.slice none 0 0) := hj0.cell 1
  have sf1 : (wm5.setCell ⟨ad10, 0, none⟩ (.bool b5)).frozen? ⟨ad10, 1, none⟩ = false := hj0.frozen 1
  have hj1 : Blk ((wm5.setCell ⟨ad10, 0, none⟩ (.bool b5)).setCell ⟨ad10, 1, none⟩ (.slice B5 m5 d5)) ad10 34 #[.bool b5, .slice B5 m5 d5] := hj0.set_ 1 (.slice B5 m5 d5)
  go_simp
  have hBv := keep_below_set (p := ⟨ad10, 1, none⟩) (.slice B5 m5 d5) hg10 (keep_below_set (p := ⟨ad10, 0, none⟩) (.bool b5) hg10 (hBv))
  have hk8 := Blk.far (Blk.far (hk8) (p := ⟨ad10, 0, none⟩) (show ad8 ≠ ad10 from n8_10) (.bool b5)) (p := ⟨ad10, 1, none⟩) (show ad8 ≠ ad10 from n8_10) (.slice B5 m5 d5)
  have hk9 := Blk.far (Blk.far (hk9) (p := ⟨ad10, 0, none⟩) (show ad9 ≠ ad10 from n9_10) (.bool b5)) (p := ⟨ad10, 1, none⟩) (show ad9 ≠ ad10 from n9_10) (.slice B5 m5 d5)
  have hk11 := Blk.far (Blk.far (hk11) (p := ⟨ad10, 0, none⟩) (show ad11 ≠ ad10 from n10_11.symm) (.bool b5)) (p := ⟨ad10, 1, none⟩) (show ad11 ≠ ad10 from n10_11.symm) (.slice B5 m5 d5)
  have hw3 := int_set2 hw3 hk10 b5 B5 m5 d5
  have hw4 := int_set2 hw4 hk10 b5 B5 m5 d5
  have hw5 := ref_set2 hw5 hk10 b5 B5 m5 d5
  have hw6 := ref_set2 hw6 hk10 b5 B5 m5 d5
  have hk10 := hj1
  clear sc0 sf0 sc1 sf1 hj0 hj1
  refine hK.out _ _ ?_ (fun hHeld => ?_)
  · ((try dsimp only); exact hBv)
  clear hK K hHeld
  try simp only [Act.put, List.setIfInBounds_toArray, List.set_cons_zero, List.set_cons_succ]
  generalize (wm5.setCell ⟨ad10, 0, none⟩ (.bool b5)).setCell ⟨ad10, 1, none⟩ (.slice B5 m5 d5) = wm6 at *
  refine wpAnyH_ready (rs := [15]) (by kernel_rfl) (by simp) ?_
  refine AllReadyH.cons (o := ?_) (by simp only [List.getElem?_toArray, List.getElem?_cons_succ, List.getElem?_cons_zero]; rfl) (fun K hK => ?_) AllReadyH.nil
  have sc0 : (wm6).cell? ⟨ad11, 0, none⟩ = some (.bool false) := hk11.cell 0
  have sf0 : (wm6).frozen? ⟨ad11, 0, none⟩ = false := hk11.frozen 0
  have hj0 : Blk (wm6.setCell ⟨ad11, 0, none⟩ (.bool b6)) ad11 34 #[.bool b6, .slice none 0 0] := hk11.set_ 0 (.bool b6)
  have sc1 : (wm6.setCell ⟨ad11, 0, none⟩ (.bool b6)).cell? ⟨ad11, 1, none⟩ = some (.slice none 0 0) := hj0.cell 1
  have sf1 : (wm6.setCell ⟨ad11, 0, none⟩ (.bool b6)).frozen? ⟨ad11, 1, none⟩ = false := hj0.frozen 1
  have hj1 : Blk ((wm6.setCell ⟨ad11, 0, none⟩ (.bool b6)).setCell ⟨ad11, 1, none⟩ (.slice B6 m6 d6)) ad11 34 #[.bool b6, .slice B6 m6 d6] := hj0.set_ 1 (.slice B6 m6 d6)
  go_simp
  have hBv := keep_below_set (p := ⟨ad11, 1, none⟩) (.slice B6 m6 d6) hg11 (keep_below_set (p := ⟨ad11, 0, none⟩) (.bool b6) hg11 (hBv))
  have hk8 := Blk.far (Blk.far (hk8) (p := ⟨ad11, 0, none⟩) (show ad8 ≠ ad11 from n8_11) (.bool b6)) (p := ⟨ad11, 1, none⟩) (show ad8 ≠ ad11 from n8_11) (.slice B6 m6 d6)
  have hk9 := Blk.far (Blk.far (hk9) (p := ⟨ad11, 0, none⟩) (show ad9 ≠ ad11 from n9_11) (.bool b6)) (p := ⟨ad11, 1, none⟩) (show ad9 ≠ ad11 from n9_11) (.slice B6 m6 d6)
  have hk10 := Blk.far (Blk.far (hk10) (p := ⟨ad11, 0, none⟩) (show ad10 ≠ ad11 from n10_11) (.bool b6)) (p := ⟨ad11, 1, none⟩) (show ad10 ≠ ad11 from n10_11) (.slice B6 m6 d6)
  have hw3 := int_set2 hw3 hk11 b6 B6 m6 d6
  have hw4 := int_set2 hw4 hk11 b6 B6 m6 d6
  have hw5 := ref_set2 hw5 hk11 b6 B6 m6 d6
  have hw6 := ref_set2 hw6 hk11 b6 B6 m6 d6
  have hk11 := hj1
  clear sc0 sf0 sc1 sf1 hj0 hj1
  refine hK.out _ _ ?_ (fun hHeld => ?_)
  · ((try dsimp only); exact hBv)
  clear hK K hHeld
  try simp only [Act.put, List.setIfInBounds_toArray, List.set_cons_zero, List.set_cons_succ]
  generalize (wm6.setCell ⟨ad11, 0, none⟩ (.bool b6)).setCell ⟨ad11, 1, none⟩ (.slice B6 m6 d6) = wm7 at *
  refine wpAnyH_done (by kernel_rfl) ?_ _
  refine NoPanic.normal ?_
  have hB := keep_below hB hBv
  have g1 := keep_cell hBv g1
  have e1 := keep_cell hBv e1
  have g2 := keep_cell hBv g2
  have e2 := keep_cell hBv e2
  obtain ⟨ad8_7, hga⟩ : ∃ x, x = ad8 := ⟨_, rfl⟩
  subst hga
  have g7 : wm7.cell? ⟨ad8_7, 0, none⟩ = some (.bool b3) := hk8.cell 0
  have e7 : wm7.cell? ⟨ad8_7, 1, none⟩ = some (.slice B3 m3 d3) := hk8.cell 1
  obtain ⟨ad9_8, hga⟩ : ∃ x, x = ad9 := ⟨_, rfl⟩
  subst hga
  have g8 : wm7.cell? ⟨ad9_8, 0, none⟩ = some (.bool b4) := hk9.cell 0
  have e8 : wm7.cell? ⟨ad9_8, 1, none⟩ = some (.slice B4 m4 d4) := hk9.cell 1
  obtain ⟨ad10_9, hga⟩ : ∃ x, x = ad10 := ⟨_, rfl⟩
  subst hga
  have g9 : wm7.cell? ⟨ad10_9, 0, none⟩ = some (.bool b5) := hk10.cell 0
  have e9 : wm7.cell? ⟨ad10_9, 1, none⟩ = some (.slice B5 m5 d5) := hk10.cell 1
  obtain ⟨ad11_10, hga⟩ : ∃ x, x = ad11 := ⟨_, rfl⟩
  subst hga
  have g10 : wm7.cell? ⟨ad11_10, 0, none⟩ = some (.bool b6) := hk11.cell 0
  have e10 : wm7.cell? ⟨ad11_10, 1, none⟩ = some (.slice B6 m6 d6) := hk11.cell 1
  have HN3 := Lib.hid hw3
  have HN4 := Lib.hid hw4
  have HN5 := Lib.hid hw5
  have HN6 := Lib.hid hw6
  clear hBv hk8 hg8 hk9 hg9 hk10 hg10 hk11 hg11 hw3 hw4 hw5 hw6 G0 G1 n8_9 n8_10 n8_11 n9_10 n9_11 n10_11
  clear C0 C1 C2 C3
  go_wp2_with fail
  have C0 := Lib.hid (fun w' (h : Below wm7.heap.size wm7 w') => law7_like hTb HIC.out (x) b3 B3 m3 d3 b5 B5 m5 d5 KR hKR w' (HZ3.out.up (by omega)) (HN3.out.below h) (HN5.out.below h) (HT.out _ (keep_below hB h)))
  have HZ11 : Hid (Sz (K) (-x).natAbs) := SzI.neg HZ3.out
  have C1 := Lib.hid (fun w' (h : Below wm7.heap.size wm7 w') => HIC.out.neg (x) b3 B3 m3 d3 w' (HT.out _ (keep_below hB h)) (HN3.out.below h) (by have := Sz.words HZ3.out HN3.out.words; omega))
  have HZ12 : Hid (Sz (K) (-x).natAbs) := SzI.neg HZ5.out
  have C2 := Lib.hid (fun w' (h : Below wm7.heap.size wm7 w') => ref7_neg (x) b5 B5 m5 d5 w' (HN5.out.below h) (by have := Sz.holds' HZ5.out HN5.out.holds; omega))
  have C3 := Lib.hid (fun w' (h : Below wm7.heap.size wm7 w') (b11 : Bool) (B11 : Option Addr) (m11 : Nat) (d11 : Nat) (hw11 : IntIn w' (-x) b11 B11 m11 d11) (b12 : Bool) (B12 : Option Addr) (m12 : Nat) (d12 : Nat) (hw12 : RefIn w' (-x) b12 B12 m12 d12) => law7_like hTb HIC.out (-x) b11 B11 m11 d11 b12 B12 m12 d12 KR hKR w' (HZ11.out.up (by omega)) hw11 hw12 (HT.out _ (keep_below hB h)))
  have HZ13 : Hid (Sz (K + K + 1) (x + y).natAbs) := SzI.add HZ3.out HZ4.out
  have C4 := Lib.hid (fun w' (h : Below wm7.heap.size wm7 w') => HIC.out.add (x) (y) b3 b4 B3 B4 m3 m4 d3 d4 w' (HT.out _ (keep_below hB h)) (HN3.out.below h) (HN4.out.below h) (by have := Sz.words HZ3.out HN3.out.words; omega) (by have := Sz.words HZ4.out HN4.out.words; omega))
  have HZ14 : Hid (Sz (K + K + 1) (x + y).natAbs) := SzI.add HZ5.out HZ6.out
  have C5 := Lib.hid (fun w' (h : Below wm7.heap.size wm7 w') => ref7_add (x) (y) b5 b6 B5 B6 m5 m6 d5 d6 w' (HN5.out.below h) (HN6.out.below h) (by have := Sz.holds' HZ5.out HN5.out.holds; omega) (by have := Sz.holds' HZ6.out HN6.out.holds; omega) )
  have C6 := Lib.hid (fun w' (h : Below wm7.heap.size wm7 w') (b13 : Bool) (B13 : Option Addr) (m13 : Nat) (d13 : Nat) (hw13 : IntIn w' (x + y) b13 B13 m13 d13) (b14 : Bool) (B14 : Option Addr) (m14 : Nat) (d14 : Nat) (hw14 : RefIn w' (x + y) b14 B14 m14 d14) => law7_like hTb HIC.out (x + y) b13 B13 m13 d13 b14 B14 m14 d14 KR hKR w' (HZ13.out.up (by omega)) hw13 hw14 (HT.out _ (keep_below hB h)))
  have HZ15 : Hid (Sz (K + K + 1) (x - y).natAbs) := SzI.sub HZ3.out HZ4.out
  have C7 := Lib.hid (fun w' (h : Below wm7.heap.size wm7 w') => HIC.out.sub (x) (y) b3 b4 B3 B4 m3 m4 d3 d4 w' (HT.out _ (keep_below hB h)) (HN3.out.below h) (HN4.out.below h) (by have := Sz.words HZ3.out HN3.out.words; omega) (by have := Sz.words HZ4.out HN4.out.words; omega))
  have HZ16 : Hid (Sz (K) (-y).natAbs) := SzI.neg HZ6.out
  have C8 := Lib.hid (fun w' (h : Below wm7.heap.size wm7 w') => ref7_neg (y) b6 B6 m6 d6 w' (HN6.out.below h) (by have := Sz.holds' HZ6.out HN6.out.holds; omega))
  have HZ17 : Hid (Sz (K + K + 1) (x + -y).natAbs) := SzI.add HZ5.out HZ16.out
  have C9 := Lib.hid (fun w' (h : Below wm7.heap.size wm7 w') (b16 : Bool) (B16 : Option Addr) (m16 : Nat) (d16 : Nat) (hw16 : RefIn w' (-y) b16 B16 m16 d16) => ref7_add (x) (-y) b5 b16 B5 B16 m5 m16 d5 d16 w' (HN5.out.below h) hw16 (by have := Sz.holds' HZ5.out HN5.out.holds; omega) (by have := Sz.holds' HZ16.out hw16.holds; omega) )
  have C10 := Lib.hid (fun w' (h : Below wm7.heap.size wm7 w') (b15 : Bool) (B15 : Option Addr) (m15 : Nat) (d15 : Nat) (hw15 : IntIn w' (x - y) b15 B15 m15 d15) (b17 : Bool) (B17 : Option Addr) (m17 : Nat) (d17 : Nat) (hw17 : RefIn w' (x + -y) b17 B17 m17 d17) => law7_like hTb HIC.out (x - y) b15 B15 m15 d15 b17 B17 m17 d17 KR hKR w' (HZ15.out.up (by omega)) hw15 (RefIn.to (Int.sub_eq_add_neg.symm) hw17) (HT.out _ (keep_below hB h)))
  have HZ18 : Hid (Sz (K + K) (x * y).natAbs) := SzI.mul HZ3.out HZ4.out
  have C11 := Lib.hid (fun w' (h : Below wm7.heap.size wm7 w') => HIC.out.mul (x) (y) b3 b4 B3 B4 m3 m4 d3 d4 w' (HT.out _ (keep_below hB h)) (HN3.out.below h) (HN4.out.below h) (by have := Sz.words HZ3.out HN3.out.words; omega) (by have := Sz.words HZ4.out HN4.out.words; omega))
  have HZ19 : Hid (Sz (K + K) (x * y).natAbs) := SzI.mul HZ5.out HZ6.out
  have C12 := Lib.hid (fun w' (h : Below wm7.heap.size wm7 w') => ref7_mul (x) (y) b5 b6 B5 B6 m5 m6 d5 d6 w' (HN5.out.below h) (HN6.out.below h) (by have := Sz.holds' HZ5.out HN5.out.holds; omega) (by have := Sz.holds' HZ6.out HN6.out.holds; omega) )
  have C13 := Lib.hid (fun w' (h : Below wm7.heap.size wm7 w') (b18 : Bool) (B18 : Option Addr) (m18 : Nat) (d18 : Nat) (hw18 : IntIn w' (x * y) b18 B18 m18 d18) (b19 : Bool) (B19 : Option Addr) (m19 : Nat) (d19 : Nat) (hw19 : RefIn w' (x * y) b19 B19 m19 d19) => law7_like hTb HIC.out (x * y) b18 B18 m18 d18 b19 B19 m19 d19 KR hKR w' (HZ18.out.up (by omega)) hw18 hw19 (HT.out _ (keep_below hB h)))
  have C14 := Lib.hid (fun w' (h : Below wm7.heap.size wm7 w') => icmp_of (v := c) (HC.out) (HIC.out.cmp (x) (y) b3 b4 B3 B4 m3 m4 d3 d4 w' (HT.out _ (keep_below hB h)) (HN3.out.below h) (HN4.out.below h) (by have := Sz.words HZ3.out HN3.out.words; omega) (by have := Sz.words HZ4.out HN4.out.words; omega)))
  have C15 := Lib.hid (fun w' (h : Below wm7.heap.size wm7 w') => icmp_of (v := c) (HC.out) (ref7_cmp (x) (y) b5 b6 B5 B6 m5 m6 d5 d6 KR hKR w' (HZ5.out.up (by omega)) (HZ6.out.up (by omega)) (HN5.out.below h) (HN6.out.below h)))
  have hb0 : Below wm7.heap.size wm7 wm7.drew := (Below.refl _ wm7).drew
  have j0 : wm7.drew.cell? ⟨ad8_7, 0, none⟩ = some (.bool b3) := g7
  have j1 : wm7.drew.cell? ⟨ad8_7, 1, none⟩ = some (.slice B3 m3 d3) := e7
  have j2 : wm7.drew.cell? ⟨ad10_9, 0, none⟩ = some (.bool b5) := g9
  have j3 : wm7.drew.cell? ⟨ad10_9, 1, none⟩ = some (.slice B5 m5 d5) := e9
  have j4 : wm7.drew.cell? ⟨ad9_8, 0, none⟩ = some (.bool b4) := g8
  have j5 : wm7.drew.cell? ⟨ad9_8, 1, none⟩ = some (.slice B4 m4 d4) := e8
  have j6 : wm7.drew.cell? ⟨ad11_10, 0, none⟩ = some (.bool b6) := g10
  have j7 : wm7.drew.cell? ⟨ad11_10, 1, none⟩ = some (.slice B6 m6 d6) := e10
  refine wp_region_noPanic ?_
  refine wp_region_held_drew (S := (fun w' => Below wm7.heap.size wm7 w' ∧ w'.cell? ⟨ad8_7, 0, none⟩ = some (.bool b3) ∧ w'.cell? ⟨ad8_7, 1, none⟩ = some (.slice B3 m3 d3) ∧ w'.cell? ⟨ad10_9, 0, none⟩ = some (.bool b5) ∧ w'.cell? ⟨ad10_9, 1, none⟩ = some (.slice B5 m5 d5) ∧ w'.cell? ⟨ad9_8, 0, none⟩ = some (.bool b4) ∧ w'.cell? ⟨ad9_8, 1, none⟩ = some (.slice B4 m4 d4) ∧ w'.cell? ⟨ad11_10, 0, none⟩ = some (.bool b6) ∧ w'.cell? ⟨ad11_10, 1, none⟩ = some (.slice B6 m6 d6))) (by kernel_rfl) ?_ (fun hHeld => ?_)
  · exact ⟨hb0, j0, j1, j2, j3, j4, j5, j6, j7⟩
  refine wpAnyH_take (i := 0) (oi := ?_) (v := ?_) (by simp only [List.getElem?_toArray, List.getElem?_cons_succ, List.getElem?_cons_zero]; rfl) (by kernel_rfl) (by kernel_rfl) (by kernel_rfl) (fun _ _ _ h => h) (Or.inl ⟨by rfl, ?_⟩) (by with_reducible assumption) ?_
  rotate_left
  focus ((intro w hSw; (try dsimp only at hSw); go_simp); (try with_reducible rfl))
  try simp only [Act.put, List.setIfInBounds_toArray, List.set_cons_zero, List.set_cons_succ]
  refine wpAnyH_take (i := 1) (oi := ?_) (v := ?_) (by simp only [List.getElem?_toArray, List.getElem?_cons_succ, List.getElem?_cons_zero]; rfl) (by kernel_rfl) (by kernel_rfl) (by kernel_rfl) (fun _ _ _ h => h) (Or.inl ⟨by rfl, ?_⟩) (by with_reducible assumption) ?_
  rotate_left
  focus ((intro w hSw; (try dsimp only at hSw); go_simp); (try with_reducible rfl))
  try simp only [Act.put, List.setIfInBounds_toArray, List.set_cons_zero, List.set_cons_succ]
  refine wpAnyH_ready (rs := [2]) (by kernel_rfl) (by simp) ?_
  refine AllReadyH.cons (o := ?_) (by simp only [List.getElem?_toArray, List.getElem?_cons_succ, List.getElem?_cons_zero]; rfl) (fun K hK => ?_) AllReadyH.nil
  go_simp
  (go_at_call 14; (with_reducible refine (C0.out _ (by first | with_reducible assumption | exact And.left (by with_reducible assumption))).mono ?_); rintro e wa8 ⟨rfl, hb⟩; go_split_ands; have hBw : Below wm7.heap.size wm7 wa8 := keep_below (by with_reducible assumption) hb; have gw0 : wa8.cell? ⟨ad8_7, 0, none⟩ = some (.bool b3) := keep_cell hb (by with_reducible assumption); have gw1 : wa8.cell? ⟨ad8_7, 1, none⟩ = some (.slice B3 m3 d3) := keep_cell hb (by with_reducible assumption); have gw2 : wa8.cell? ⟨ad10_9, 0, none⟩ = some (.bool b5) := keep_cell hb (by with_reducible assumption); have gw3 : wa8.cell? ⟨ad10_9, 1, none⟩ = some (.slice B5 m5 d5) := keep_cell hb (by with_reducible assumption); have gw4 : wa8.cell? ⟨ad9_8, 0, none⟩ = some (.bool b4) := keep_cell hb (by with_reducible assumption); have gw5 : wa8.cell? ⟨ad9_8, 1, none⟩ = some (.slice B4 m4 d4) := keep_cell hb (by with_reducible assumption); have gw6 : wa8.cell? ⟨ad11_10, 0, none⟩ = some (.bool b6) := keep_cell hb (by with_reducible assumption); have gw7 : wa8.cell? ⟨ad11_10, 1, none⟩ = some (.slice B6 m6 d6) := keep_cell hb (by with_reducible assumption))
  refine hK.out _ _ ?_ (fun hHeld => ?_)
  · ((try dsimp only); (first | (with_reducible exact ⟨hb0, j0, j1, j2, j3, j4, j5, j6, j7⟩) | (go_split_ands; (repeat' apply And.intro); all_goals (first | with_reducible assumption | with_reducible exact keep_below (by with_reducible assumption) hb | with_reducible exact keep_cell hb (by with_reducible assumption)))))
  clear hK K
  try simp only [Act.put, List.setIfInBounds_toArray, List.set_cons_zero, List.set_cons_succ]
  refine wpAnyH_take (i := 3) (oi := ?_) (v := ?_) (by simp only [List.getElem?_toArray, List.getElem?_cons_succ, List.getElem?_cons_zero]; rfl) (by kernel_rfl) (by kernel_rfl) (by kernel_rfl) (fun _ _ _ h => h) (Or.inl ⟨by rfl, ?_⟩) (by with_reducible assumption) ?_
  rotate_left
  focus ((intro w hSw; (try dsimp only at hSw); go_simp); (try with_reducible rfl))
  try simp only [Act.put, List.setIfInBounds_toArray, List.set_cons_zero, List.set_cons_succ]
  refine wpAnyH_take (i := 4) (oi := ?_) (v := ?_) (by simp only [List.getElem?_toArray, List.getElem?_cons_succ, List.getElem?_cons_zero]; rfl) (by kernel_rfl) (by kernel_rfl) (by kernel_rfl) (fun _ _ _ h => h) (Or.inl ⟨by rfl, ?_⟩) (by with_reducible assumption) ?_
  rotate_left
  focus ((intro w hSw; (try dsimp only at hSw); go_simp); (try with_reducible rfl))
  try simp only [Act.put, List.setIfInBounds_toArray, List.set_cons_zero, List.set_cons_succ]
  refine wpAnyH_take (i := 6) (oi := ?_) (v := ?_) (by simp only [List.getElem?_toArray, List.getElem?_cons_succ, List.getElem?_cons_zero]; rfl) (by kernel_rfl) (by kernel_rfl) (by kernel_rfl) (fun _ _ _ h => h) (Or.inl ⟨by rfl, ?_⟩) (by with_reducible assumption) ?_
  rotate_left
  focus ((intro w hSw; (try dsimp only at hSw); go_simp); (try with_reducible rfl))
  try simp only [Act.put, List.setIfInBounds_toArray, List.set_cons_zero, List.set_cons_succ]
  refine wpAnyH_ready (rs := [5]) (by kernel_rfl) (by simp) ?_
  refine AllReadyH.cons (o := ?_) (by simp only [List.getElem?_toArray, List.getElem?_cons_succ, List.getElem?_cons_zero]; rfl) (fun K hK => ?_) AllReadyH.nil
  go_simp
  (go_at_call 15; (with_reducible refine (C1.out _ (by first | with_reducible assumption | exact And.left (by with_reducible assumption))).mono ?_); rintro e wa9 ⟨b11, B11, m11, d11, rfl, hw11, hb⟩; go_split_ands; have hBw : Below wm7.heap.size wm7 wa9 := keep_below (by with_reducible assumption) hb; have gw0 : wa9.cell? ⟨ad8_7, 0, none⟩ = some (.bool b3) := keep_cell hb (by with_reducible assumption); have gw1 : wa9.cell? ⟨ad8_7, 1, none⟩ = some (.slice B3 m3 d3) := keep_cell hb (by with_reducible assumption); have gw2 : wa9.cell? ⟨ad10_9, 0, none⟩ = some (.bool b5) := keep_cell hb (by with_reducible assumption); have gw3 : wa9.cell? ⟨ad10_9, 1, none⟩ = some (.slice B5 m5 d5) := keep_cell hb (by with_reducible assumption); have gw4 : wa9.cell? ⟨ad9_8, 0, none⟩ = some (.bool b4) := keep_cell hb (by with_reducible assumption); have gw5 : wa9.cell? ⟨ad9_8, 1, none⟩ = some (.slice B4 m4 d4) := keep_cell hb (by with_reducible assumption); have gw6 : wa9.cell? ⟨ad11_10, 0, none⟩ = some (.bool b6) := keep_cell hb (by with_reducible assumption); have gw7 : wa9.cell? ⟨ad11_10, 1, none⟩ = some (.slice B6 m6 d6) := keep_cell hb (by with_reducible assumption))
  refine hK.out _ _ ?_ (fun hHeld => ?_)
  · ((try dsimp only); (first | (with_reducible exact ⟨hb0, j0, j1, j2, j3, j4, j5, j6, j7⟩) | (go_split_ands; (repeat' apply And.intro); all_goals (first | with_reducible assumption | with_reducible exact keep_below (by with_reducible assumption) hb | with_reducible exact keep_cell hb (by with_reducible assumption)))))
  clear hK K
  try simp only [Act.put, List.setIfInBounds_toArray, List.set_cons_zero, List.set_cons_succ]
  refine wpAnyH_ready (rs := [7]) (by kernel_rfl) (by simp) ?_
  refine AllReadyH.cons (o := ?_) (by simp only [List.getElem?_toArray, List.getElem?_cons_succ, List.getElem?_cons_zero]; rfl) (fun K hK => ?_) AllReadyH.nil
  go_simp
  (go_at_call 16; (with_reducible refine (C2.out _ (by first | with_reducible assumption | exact And.left (by with_reducible assumption))).mono ?_); rintro e wa10 ⟨b12, B12, m12, d12, rfl, hw12, hb⟩; go_split_ands; have hBw : Below wm7.heap.size wm7 wa10 := keep_below (by with_reducible assumption) hb; have gw0 : wa10.cell? ⟨ad8_7, 0, none⟩ = some (.bool b3) := keep_cell hb (by with_reducible assumption); have gw1 : wa10.cell? ⟨ad8_7, 1, none⟩ = some (.slice B3 m3 d3) := keep_cell hb (by with_reducible assumption); have gw2 : wa10.cell? ⟨ad10_9, 0, none⟩ = some (.bool b5) := keep_cell hb (by with_reducible assumption); have gw3 : wa10.cell? ⟨ad10_9, 1, none⟩ = some (.slice B5 m5 d5) := keep_cell hb (by with_reducible assumption); have gw4 : wa10.cell? ⟨ad9_8, 0, none⟩ = some (.bool b4) := keep_cell hb (by with_reducible assumption); have gw5 : wa10.cell? ⟨ad9_8, 1, none⟩ = some (.slice B4 m4 d4) := keep_cell hb (by with_reducible assumption); have gw6 : wa10.cell? ⟨ad11_10, 0, none⟩ = some (.bool b6) := keep_cell hb (by with_reducible assumption); have gw7 : wa10.cell? ⟨ad11_10, 1, none⟩ = some (.slice B6 m6 d6) := keep_cell hb (by with_reducible assumption); (with_reducible have hw11 := hw11.below hb))
  refine hK.out _ _ ?_ (fun hHeld => ?_)
  · ((try dsimp only); (first | (with_reducible exact ⟨hb0, j0, j1, j2, j3, j4, j5, j6, j7⟩) | (go_split_ands; (repeat' apply And.intro); all_goals (first | with_reducible assumption | with_reducible exact keep_below (by with_reducible assumption) hb | with_reducible exact keep_cell hb (by with_reducible assumption)))))
  clear hK K
  try simp only [Act.put, List.setIfInBounds_toArray, List.set_cons_zero, List.set_cons_succ]
  refine wpAnyH_ready (rs := [8]) (by kernel_rfl) (by simp) ?_
  refine AllReadyH.cons (o := ?_) (by simp only [List.getElem?_toArray, List.getElem?_cons_succ, List.getElem?_cons_zero]; rfl) (fun K hK => ?_) AllReadyH.nil
  go_simp
  (go_at_call 14; (with_reducible refine (C3.out _ (by first | with_reducible assumption | exact And.left (by with_reducible assumption)) _ _ _ _ hw11 _ _ _ _ hw12).mono ?_); rintro e wa11 ⟨rfl, hb⟩; go_split_ands; have hBw : Below wm7.heap.size wm7 wa11 := keep_below (by with_reducible assumption) hb; have gw0 : wa11.cell? ⟨ad8_7, 0, none⟩ = some (.bool b3) := keep_cell hb (by with_reducible assumption); have gw1 : wa11.cell? ⟨ad8_7, 1, none⟩ = some (.slice B3 m3 d3) := keep_cell hb (by with_reducible assumption); have gw2 : wa11.cell? ⟨ad10_9, 0, none⟩ = some (.bool b5) := keep_cell hb (by with_reducible assumption); have gw3 : wa11.cell? ⟨ad10_9, 1, none⟩ = some (.slice B5 m5 d5) := keep_cell hb (by with_reducible assumption); have gw4 : wa11.cell? ⟨ad9_8, 0, none⟩ = some (.bool b4) := keep_cell hb (by with_reducible assumption); have gw5 : wa11.cell? ⟨ad9_8, 1, none⟩ = some (.slice B4 m4 d4) := keep_cell hb (by with_reducible assumption); have gw6 : wa11.cell? ⟨ad11_10, 0, none⟩ = some (.bool b6) := keep_cell hb (by with_reducible assumption); have gw7 : wa11.cell? ⟨ad11_10, 1, none⟩ = some (.slice B6 m6 d6) := keep_cell hb (by with_reducible assumption); (with_reducible have hw11 := hw11.below hb); (with_reducible have hw12 := hw12.below hb))
  refine hK.out _ _ ?_ (fun hHeld => ?_)
  · ((try dsimp only); (first | (with_reducible exact ⟨hb0, j0, j1, j2, j3, j4, j5, j6, j7⟩) | (go_split_ands; (repeat' apply And.intro); all_goals (first | with_reducible assumption | with_reducible exact keep_below (by with_reducible assumption) hb | with_reducible exact keep_cell hb (by with_reducible assumption)))))
  clear hK K
  try simp only [Act.put, List.setIfInBounds_toArray, List.set_cons_zero, List.set_cons_succ]
  refine wpAnyH_take (i := 9) (oi := ?_) (v := ?_) (by simp only [List.getElem?_toArray, List.getElem?_cons_succ, List.getElem?_cons_zero]; rfl) (by kernel_rfl) (by kernel_rfl) (by kernel_rfl) (fun _ _ _ h => h) (Or.inl ⟨by rfl, ?_⟩) (by with_reducible assumption) ?_
  rotate_left
  focus ((intro w hSw; (try dsimp only at hSw); go_simp); (try with_reducible rfl))
  try simp only [Act.put, List.setIfInBounds_toArray, List.set_cons_zero, List.set_cons_succ]
  refine wpAnyH_take (i := 10) (oi := ?_) (v := ?_) (by simp only [List.getElem?_toArray, List.getElem?_cons_succ, List.getElem?_cons_zero]; rfl) (by kernel_rfl) (by kernel_rfl) (by kernel_rfl) (fun _ _ _ h => h) (Or.inl ⟨by rfl, ?_⟩) (by with_reducible assumption) ?_
  rotate_left
  focus ((intro w hSw; (try dsimp only at hSw); go_simp); (try with_reducible rfl))
  try simp only [Act.put, List.setIfInBounds_toArray, List.set_cons_zero, List.set_cons_succ]
  refine wpAnyH_take (i := 11) (oi := ?_) (v := ?_) (by simp only [List.getElem?_toArray, List.getElem?_cons_succ, List.getElem?_cons_zero]; rfl) (by kernel_rfl) (by kernel_rfl) (by kernel_rfl) (fun _ _ _ h => h) (Or.inl ⟨by rfl, ?_⟩) (by with_reducible assumption) ?_
  rotate_left
  focus ((intro w hSw; (try dsimp only at hSw); go_simp); (try with_reducible rfl))
  try simp only [Act.put, List.setIfInBounds_toArray, List.set_cons_zero, List.set_cons_succ]
  refine wpAnyH_take (i := 12) (oi := ?_) (v := ?_) (by simp only [List.getElem?_toArray, List.getElem?_cons_succ, List.getElem?_cons_zero]; rfl) (by kernel_rfl) (by kernel_rfl) (by kernel_rfl) (fun _ _ _ h => h) (Or.inl ⟨by rfl, ?_⟩) (by with_reducible assumption) ?_
  rotate_left
  focus ((intro w hSw; (try dsimp only at hSw); go_simp); (try with_reducible rfl))
  try simp only [Act.put, List.setIfInBounds_toArray, List.set_cons_zero, List.set_cons_succ]
  refine wpAnyH_take (i := 14) (oi := ?_) (v := ?_) (by simp only [List.getElem?_toArray, List.getElem?_cons_succ, List.getElem?_cons_zero]; rfl) (by kernel_rfl) (by kernel_rfl) (by kernel_rfl) (fun _ _ _ h => h) (Or.inl ⟨by rfl, ?_⟩) (by with_reducible assumption) ?_
  rotate_left
  focus ((intro w hSw; (try dsimp only at hSw); go_simp); (try with_reducible rfl))
  try simp only [Act.put, List.setIfInBounds_toArray, List.set_cons_zero, List.set_cons_succ]
  refine wpAnyH_take (i := 15) (oi := ?_) (v := ?_) (by simp only [List.getElem?_toArray, List.getElem?_cons_succ, List.getElem?_cons_zero]; rfl) (by kernel_rfl) (by kernel_rfl) (by kernel_rfl) (fun _ _ _ h => h) (Or.inl ⟨by rfl, ?_⟩) (by with_reducible assumption) ?_
  rotate_left
  focus ((intro w hSw; (try dsimp only at hSw); go_simp); (try with_reducible rfl))
  try simp only [Act.put, List.setIfInBounds_toArray, List.set_cons_zero, List.set_cons_succ]
  refine wpAnyH_ready (rs := [13]) (by kernel_rfl) (by simp) ?_
  refine AllReadyH.cons (o := ?_) (by simp only [List.getElem?_toArray, List.getElem?_cons_succ, List.getElem?_cons_zero]; rfl) (fun K hK => ?_) AllReadyH.nil
  go_simp
  (go_at_call 17; (with_reducible refine (C4.out _ (by first | with_reducible assumption | exact And.left (by with_reducible assumption))).mono ?_); rintro e wa12 ⟨b13, B13, m13, d13, rfl, hw13, hb⟩; go_split_ands; have hBw : Below wm7.heap.size wm7 wa12 := keep_below (by with_reducible assumption) hb; have gw0 : wa12.cell? ⟨ad8_7, 0, none⟩ = some (.bool b3) := keep_cell hb (by with_reducible assumption); have gw1 : wa12.cell? ⟨ad8_7, 1, none⟩ = some (.slice B3 m3 d3) := keep_cell hb (by with_reducible assumption); have gw2 : wa12.cell? ⟨ad10_9, 0, none⟩ = some (.bool b5) := keep_cell hb (by with_reducible assumption); have gw3 : wa12.cell? ⟨ad10_9, 1, none⟩ = some (.slice B5 m5 d5) := keep_cell hb (by with_reducible assumption); have gw4 : wa12.cell? ⟨ad9_8, 0, none⟩ = some (.bool b4) := keep_cell hb (by with_reducible assumption); have gw5 : wa12.cell? ⟨ad9_8, 1, none⟩ = some (.slice B4 m4 d4) := keep_cell hb (by with_reducible assumption); have gw6 : wa12.cell? ⟨ad11_10, 0, none⟩ = some (.bool b6) := keep_cell hb (by with_reducible assumption); have gw7 : wa12.cell? ⟨ad11_10, 1, none⟩ = some (.slice B6 m6 d6) := keep_cell hb (by with_reducible assumption); (with_reducible have hw11 := hw11.below hb); (with_reducible have hw12 := hw12.below hb))
  refine hK.out _ _ ?_ (fun hHeld => ?_)
  · ((try dsimp only); (first | (with_reducible exact ⟨hb0, j0, j1, j2, j3, j4, j5, j6, j7⟩) | (go_split_ands; (repeat' apply And.intro); all_goals (first | with_reducible assumption | with_reducible exact keep_below (by with_reducible assumption) hb | with_reducible exact keep_cell hb (by with_reducible assumption)))))
  clear hK K
  try simp only [Act.put, List.setIfInBounds_toArray, List.set_cons_zero, List.set_cons_succ]
  refine wpAnyH_ready (rs := [16]) (by kernel_rfl) (by simp) ?_
  refine AllReadyH.cons (o := ?_) (by simp only [List.getElem?_toArray, List.getElem?_cons_succ, List.getElem?_cons_zero]; rfl) (fun K hK => ?_) AllReadyH.nil
  go_simp
  (go_at_call 18; (with_reducible refine (C5.out _ (by first | with_reducible assumption | exact And.left (by with_reducible assumption))).mono ?_); rintro e wa13 ⟨b14, B14, m14, d14, rfl, hw14, hb⟩; go_split_ands; have hBw : Below wm7.heap.size wm7 wa13 := keep_below (by with_reducible assumption) hb; have gw0 : wa13.cell? ⟨ad8_7, 0, none⟩ = some (.bool b3) := keep_cell hb (by with_reducible assumption); have gw1 : wa13.cell? ⟨ad8_7, 1, none⟩ = some (.slice B3 m3 d3) := keep_cell hb (by with_reducible assumption); have gw2 : wa13.cell? ⟨ad10_9, 0, none⟩ = some (.bool b5) := keep_cell hb (by with_reducible assumption); have gw3 : wa13.cell? ⟨ad10_9, 1, none⟩ = some (.slice B5 m5 d5) := keep_cell hb (by with_reducible assumption); have gw4 : wa13.cell? ⟨ad9_8, 0, none⟩ = some (.bool b4) := keep_cell hb (by with_reducible assumption); have gw5 : wa13.cell? ⟨ad9_8, 1, none⟩ = some (.slice B4 m4 d4) := keep_cell hb (by with_reducible assumption); have gw6 : wa13.cell? ⟨ad11_10, 0, none⟩ = some (.bool b6) := keep_cell hb (by with_reducible assumption); have gw7 : wa13.cell? ⟨ad11_10, 1, none⟩ = some (.slice B6 m6 d6) := keep_cell hb (by with_reducible assumption); (with_reducible have hw11 := hw11.below hb); (with_reducible have hw12 := hw12.below hb); (with_reducible have hw13 := hw13.below hb))
  refine hK.out _ _ ?_ (fun hHeld => ?_)
  · ((try dsimp only); (first | (with_reducible exact ⟨hb0, j0, j1, j2, j3, j4, j5, j6, j7⟩) | (go_split_ands; (repeat' apply And.intro); all_goals (first | with_reducible assumption | with_reducible exact keep_below (by with_reducible assumption) hb | with_reducible exact keep_cell hb (by with_reducible assumption)))))
  clear hK K
  try simp only [Act.put, List.setIfInBounds_toArray, List.set_cons_zero, List.set_cons_succ]
  refine wpAnyH_ready (rs := [17]) (by kernel_rfl) (by simp) ?_
  refine AllReadyH.cons (o := ?_) (by simp only [List.getElem?_toArray, List.getElem?_cons_succ, List.getElem?_cons_zero]; rfl) (fun K hK => ?_) AllReadyH.nil
  go_simp
  (go_at_call 14; (with_reducible refine (C6.out _ (by first | with_reducible assumption | exact And.left (by with_reducible assumption)) _ _ _ _ hw13 _ _ _ _ hw14).mono ?_); rintro e wa14 ⟨rfl, hb⟩; go_split_ands; have hBw : Below wm7.heap.size wm7 wa14 := keep_below (by with_reducible assumption) hb; have gw0 : wa14.cell? ⟨ad8_7, 0, none⟩ = some (.bool b3) := keep_cell hb (by with_reducible assumption); have gw1 : wa14.cell? ⟨ad8_7, 1, none⟩ = some (.slice B3 m3 d3) := keep_cell hb (by with_reducible assumption); have gw2 : wa14.cell? ⟨ad10_9, 0, none⟩ = some (.bool b5) := keep_cell hb (by with_reducible assumption); have gw3 : wa14.cell? ⟨ad10_9, 1, none⟩ = some (.slice B5 m5 d5) := keep_cell hb (by with_reducible assumption); have gw4 : wa14.cell? ⟨ad9_8, 0, none⟩ = some (.bool b4) := keep_cell hb (by with_reducible assumption); have gw5 : wa14.cell? ⟨ad9_8, 1, none⟩ = some (.slice B4 m4 d4) := keep_cell hb (by with_reducible assumption); have gw6 : wa14.cell? ⟨ad11_10, 0, none⟩ = some (.bool b6) := keep_cell hb (by with_reducible assumption); have gw7 : wa14.cell? ⟨ad11_10, 1, none⟩ = some (.slice B6 m6 d6) := keep_cell hb (by with_reducible assumption); (with_reducible have hw11 := hw11.below hb); (with_reducible have hw12 := hw12.below hb); (with_reducible have hw13 := hw13.below hb); (with_reducible have hw14 := hw14.below hb))
  refine hK.out _ _ ?_ (fun hHeld => ?_)
  · ((try dsimp only); (first | (with_reducible exact ⟨hb0, j0, j1, j2, j3, j4, j5, j6, j7⟩) | (go_split_ands; (repeat' apply And.intro); all_goals (first | with_reducible assumption | with_reducible exact keep_below (by with_reducible assumption) hb | with_reducible exact keep_cell hb (by with_reducible assumption)))))
  clear hK K
  try simp only [Act.put, List.setIfInBounds_toArray, List.set_cons_zero, List.set_cons_succ]
  refine wpAnyH_take (i := 18) (oi := ?_) (v := ?_) (by simp only [List.getElem?_toArray, List.getElem?_cons_succ, List.getElem?_cons_zero]; rfl) (by kernel_rfl) (by kernel_rfl) (by kernel_rfl) (fun _ _ _ h => h) (Or.inl ⟨by rfl, ?_⟩) (by with_reducible assumption) ?_
  rotate_left
  focus ((intro w hSw; (try dsimp only at hSw); go_simp); (try with_reducible rfl))
  try simp only [Act.put, List.setIfInBounds_toArray, List.set_cons_zero, List.set_cons_succ]
  refine wpAnyH_take (i := 19) (oi := ?_) (v := ?_) (by simp only [List.getElem?_toArray, List.getElem?_cons_succ, List.getElem?_cons_zero]; rfl) (by kernel_rfl) (by kernel_rfl) (by kernel_rfl) (fun _ _ _ h => h) (Or.inl ⟨by rfl, ?_⟩) (by with_reducible assumption) ?_
  rotate_left
  focus ((intro w hSw; (try dsimp only at hSw); go_simp); (try with_reducible rfl))
  try simp only [Act.put, List.setIfInBounds_toArray, List.set_cons_zero, List.set_cons_succ]
  refine wpAnyH_take (i := 20) (oi := ?_) (v := ?_) (by simp only [List.getElem?_toArray, List.getElem?_cons_succ, List.getElem?_cons_zero]; rfl) (by kernel_rfl) (by kernel_rfl) (by kernel_rfl) (fun _ _ _ h => h) (Or.inl ⟨by rfl, ?_⟩) (by with_reducible assumption) ?_
  rotate_left
  focus ((intro w hSw; (try dsimp only at hSw); go_simp); (try with_reducible rfl))
  try simp only [Act.put, List.setIfInBounds_toArray, List.set_cons_zero, List.set_cons_succ]
  refine wpAnyH_take (i := 21) (oi := ?_) (v := ?_) (by simp only [List.getElem?_toArray, List.getElem?_cons_succ, List.getElem?_cons_zero]; rfl) (by kernel_rfl) (by kernel_rfl) (by kernel_rfl) (fun _ _ _ h => h) (Or.inl ⟨by rfl, ?_⟩) (by with_reducible assumption) ?_
  rotate_left
  focus ((intro w hSw; (try dsimp only at hSw); go_simp); (try with_reducible rfl))
  try simp only [Act.put, List.setIfInBounds_toArray, List.set_cons_zero, List.set_cons_succ]
  refine wpAnyH_take (i := 23) (oi := ?_) (v := ?_) (by simp only [List.getElem?_toArray, List.getElem?_cons_succ, List.getElem?_cons_zero]; rfl) (by kernel_rfl) (by kernel_rfl) (by kernel_rfl) (fun _ _ _ h => h) (Or.inl ⟨by rfl, ?_⟩) (by with_reducible assumption) ?_
  rotate_left
  focus ((intro w hSw; (try dsimp only at hSw); go_simp); (try with_reducible rfl))
  try simp only [Act.put, List.setIfInBounds_toArray, List.set_cons_zero, List.set_cons_succ]
  refine wpAnyH_take (i := 24) (oi := ?_) (v := ?_) (by simp only [List.getElem?_toArray, List.getElem?_cons_succ, List.getElem?_cons_zero]; rfl) (by kernel_rfl) (by kernel_rfl) (by kernel_rfl) (fun _ _ _ h => h) (Or.inl ⟨by rfl, ?_⟩) (by with_reducible assumption) ?_
  rotate_left
  focus ((intro w hSw; (try dsimp only at hSw); go_simp); (try with_reducible rfl))
  try simp only [Act.put, List.setIfInBounds_toArray, List.set_cons_zero, List.set_cons_succ]
  refine wpAnyH_ready (rs := [22]) (by kernel_rfl) (by simp) ?_
  refine AllReadyH.cons (o := ?_) (by simp only [List.getElem?_toArray, List.getElem?_cons_succ, List.getElem?_cons_zero]; rfl) (fun K hK => ?_) AllReadyH.nil
  go_simp
  (go_at_call 19; (with_reducible refine (C7.out _ (by first | with_reducible assumption | exact And.left (by with_reducible assumption))).mono ?_); rintro e wa15 ⟨b15, B15, m15, d15, rfl, hw15, hb⟩; go_split_ands; have hBw : Below wm7.heap.size wm7 wa15 := keep_below (by with_reducible assumption) hb; have gw0 : wa15.cell? ⟨ad8_7, 0, none⟩ = some (.bool b3) := keep_cell hb (by with_reducible assumption); have gw1 : wa15.cell? ⟨ad8_7, 1, none⟩ = some (.slice B3 m3 d3) := keep_cell hb (by with_reducible assumption); have gw2 : wa15.cell? ⟨ad10_9, 0, none⟩ = some (.bool b5) := keep_cell hb (by with_reducible assumption); have gw3 : wa15.cell? ⟨ad10_9, 1, none⟩ = some (.slice B5 m5 d5) := keep_cell hb (by with_reducible assumption); have gw4 : wa15.cell? ⟨ad9_8, 0, none⟩ = some (.bool b4) := keep_cell hb (by with_reducible assumption); have gw5 : wa15.cell? ⟨ad9_8, 1, none⟩ = some (.slice B4 m4 d4) := keep_cell hb (by with_reducible assumption); have gw6 : wa15.cell? ⟨ad11_10, 0, none⟩ = some (.bool b6) := keep_cell hb (by with_reducible assumption); have gw7 : wa15.cell? ⟨ad11_10, 1, none⟩ = some (.slice B6 m6 d6) := keep_cell hb (by with_reducible assumption); (with_reducible have hw11 := hw11.below hb); (with_reducible have hw12 := hw12.below hb); (with_reducible have hw13 := hw13.below hb); (with_reducible have hw14 := hw14.below hb))
  refine hK.out _ _ ?_ (fun hHeld => ?_)
  · ((try dsimp only); (first | (with_reducible exact ⟨hb0, j0, j1, j2, j3, j4, j5, j6, j7⟩) | (go_split_ands; (repeat' apply And.intro); all_goals (first | with_reducible assumption | with_reducible exact keep_below (by with_reducible assumption) hb | with_reducible exact keep_cell hb (by with_reducible assumption)))))
  clear hK K
  try simp only [Act.put, List.setIfInBounds_toArray, List.set_cons_zero, List.set_cons_succ]
  refine wpAnyH_ready (rs := [25]) (by kernel_rfl) (by simp) ?_
  refine AllReadyH.cons (o := ?_) (by simp only [List.getElem?_toArray, List.getElem?_cons_succ, List.getElem?_cons_zero]; rfl) (fun K hK => ?_) AllReadyH.nil
  go_simp
  (go_at_call 16; (with_reducible refine (C8.out _ (by first | with_reducible assumption | exact And.left (by with_reducible assumption))).mono ?_); rintro e wa16 ⟨b16, B16, m16, d16, rfl, hw16, hb⟩; go_split_ands; have hBw : Below wm7.heap.size wm7 wa16 := keep_below (by with_reducible assumption) hb; have gw0 : wa16.cell? ⟨ad8_7, 0, none⟩ = some (.bool b3) := keep_cell hb (by with_reducible assumption); have gw1 : wa16.cell? ⟨ad8_7, 1, none⟩ = some (.slice B3 m3 d3) := keep_cell hb (by with_reducible assumption); have gw2 : wa16.cell? ⟨ad10_9, 0, none⟩ = some (.bool b5) := keep_cell hb (by with_reducible assumption); have gw3 : wa16.cell? ⟨ad10_9, 1, none⟩ = some (.slice B5 m5 d5) := keep_cell hb (by with_reducible assumption); have gw4 : wa16.cell? ⟨ad9_8, 0, none⟩ = some (.bool b4) := keep_cell hb (by with_reducible assumption); have gw5 : wa16.cell? ⟨ad9_8, 1, none⟩ = some (.slice B4 m4 d4) := keep_cell hb (by with_reducible assumption); have gw6 : wa16.cell? ⟨ad11_10, 0, none⟩ = some (.bool b6) := keep_cell hb (by with_reducible assumption); have gw7 : wa16.cell? ⟨ad11_10, 1, none⟩ = some (.slice B6 m6 d6) := keep_cell hb (by with_reducible assumption); (with_reducible have hw11 := hw11.below hb); (with_reducible have hw12 := hw12.below hb); (with_reducible have hw13 := hw13.below hb); (with_reducible have hw14 := hw14.below hb); (with_reducible have hw15 := hw15.below hb))
  refine hK.out _ _ ?_ (fun hHeld => ?_)
  · ((try dsimp only); (first | (with_reducible exact ⟨hb0, j0, j1, j2, j3, j4, j5, j6, j7⟩) | (go_split_ands; (repeat' apply And.intro); all_goals (first | with_reducible assumption | with_reducible exact keep_below (by with_reducible assumption) hb | with_reducible exact keep_cell hb (by with_reducible assumption)))))
  clear hK K
  try simp only [Act.put, List.setIfInBounds_toArray, List.set_cons_zero, List.set_cons_succ]
  refine wpAnyH_ready (rs := [26]) (by kernel_rfl) (by simp) ?_
  refine AllReadyH.cons (o := ?_) (by simp only [List.getElem?_toArray, List.getElem?_cons_succ, List.getElem?_cons_zero]; rfl) (fun K hK => ?_) AllReadyH.nil
  go_simp
  (go_at_call 18; (with_reducible refine (C9.out _ (by first | with_reducible assumption | exact And.left (by with_reducible assumption)) _ _ _ _ hw16).mono ?_); rintro e wa17 ⟨b17, B17, m17, d17, rfl, hw17, hb⟩; go_split_ands; have hBw : Below wm7.heap.size wm7 wa17 := keep_below (by with_reducible assumption) hb; have gw0 : wa17.cell? ⟨ad8_7, 0, none⟩ = some (.bool b3) := keep_cell hb (by with_reducible assumption); have gw1 : wa17.cell? ⟨ad8_7, 1, none⟩ = some (.slice B3 m3 d3) := keep_cell hb (by with_reducible assumption); have gw2 : wa17.cell? ⟨ad10_9, 0, none⟩ = some (.bool b5) := keep_cell hb (by with_reducible assumption); have gw3 : wa17.cell? ⟨ad10_9, 1, none⟩ = some (.slice B5 m5 d5) := keep_cell hb (by with_reducible assumption); have gw4 : wa17.cell? ⟨ad9_8, 0, none⟩ = some (.bool b4) := keep_cell hb (by with_reducible assumption); have gw5 : wa17.cell? ⟨ad9_8, 1, none⟩ = some (.slice B4 m4 d4) := keep_cell hb (by with_reducible assumption); have gw6 : wa17.cell? ⟨ad11_10, 0, none⟩ = some (.bool b6) := keep_cell hb (by with_reducible assumption); have gw7 : wa17.cell? ⟨ad11_10, 1, none⟩ = some (.slice B6 m6 d6) := keep_cell hb (by with_reducible assumption); (with_reducible have hw11 := hw11.below hb); (with_reducible have hw12 := hw12.below hb); (with_reducible have hw13 := hw13.below hb); (with_reducible have hw14 := hw14.below hb); (with_reducible have hw15 := hw15.below hb); (with_reducible have hw16 := hw16.below hb))
  refine hK.out _ _ ?_ (fun hHeld => ?_)
  · ((try dsimp only); (first | (with_reducible exact ⟨hb0, j0, j1, j2, j3, j4, j5, j6, j7⟩) | (go_split_ands; (repeat' apply And.intro); all_goals (first | with_reducible assumption | with_reducible exact keep_below (by with_reducible assumption) hb | with_reducible exact keep_cell hb (by with_reducible assumption)))))
  clear hK K
  try simp only [Act.put, List.setIfInBounds_toArray, List.set_cons_zero, List.set_cons_succ]
  refine wpAnyH_ready (rs := [27]) (by kernel_rfl) (by simp) ?_
  refine AllReadyH.cons (o := ?_) (by simp only [List.getElem?_toArray, List.getElem?_cons_succ, List.getElem?_cons_zero]; rfl) (fun K hK => ?_) AllReadyH.nil
  go_simp
  (go_at_call 14; (with_reducible refine (C10.out _ (by first | with_reducible assumption | exact And.left (by with_reducible assumption)) _ _ _ _ hw15 _ _ _ _ hw17).mono ?_); rintro e wa18 ⟨rfl, hb⟩; go_split_ands; have hBw : Below wm7.heap.size wm7 wa18 := keep_below (by with_reducible assumption) hb; have gw0 : wa18.cell? ⟨ad8_7, 0, none⟩ = some (.bool b3) := keep_cell hb (by with_reducible assumption); have gw1 : wa18.cell? ⟨ad8_7, 1, none⟩ = some (.slice B3 m3 d3) := keep_cell hb (by with_reducible assumption); have gw2 : wa18.cell? ⟨ad10_9, 0, none⟩ = some (.bool b5) := keep_cell hb (by with_reducible assumption); have gw3 : wa18.cell? ⟨ad10_9, 1, none⟩ = some (.slice B5 m5 d5) := keep_cell hb (by with_reducible assumption); have gw4 : wa18.cell? ⟨ad9_8, 0, none⟩ = some (.bool b4) := keep_cell hb (by with_reducible assumption); have gw5 : wa18.cell? ⟨ad9_8, 1, none⟩ = some (.slice B4 m4 d4) := keep_cell hb (by with_reducible assumption); have gw6 : wa18.cell? ⟨ad11_10, 0, none⟩ = some (.bool b6) := keep_cell hb (by with_reducible assumption); have gw7 : wa18.cell? ⟨ad11_10, 1, none⟩ = some (.slice B6 m6 d6) := keep_cell hb (by with_reducible assumption); (with_reducible have hw11 := hw11.below hb); (with_reducible have hw12 := hw12.below hb); (with_reducible have hw13 := hw13.below hb); (with_reducible have hw14 := hw14.below hb); (with_reducible have hw15 := hw15.below hb); (with_reducible have hw16 := hw16.below hb); (with_reducible have hw17 := hw17.below hb))
  refine hK.out _ _ ?_ (fun hHeld => ?_)
  · ((try dsimp only); (first | (with_reducible exact ⟨hb0, j0, j1, j2, j3, j4, j5, j6, j7⟩) | (go_split_ands; (repeat' apply And.intro); all_goals (first | with_reducible assumption | with_reducible exact keep_below (by with_reducible assumption) hb | with_reducible exact keep_cell hb (by with_reducible assumption)))))
  clear hK K
  try simp only [Act.put, List.setIfInBounds_toArray, List.set_cons_zero, List.set_cons_succ]
  refine wpAnyH_take (i := 28) (oi := ?_) (v := ?_) (by simp only [List.getElem?_toArray, List.getElem?_cons_succ, List.getElem?_cons_zero]; rfl) (by kernel_rfl) (by kernel_rfl) (by kernel_rfl) (fun _ _ _ h => h) (Or.inl ⟨by rfl, ?_⟩) (by with_reducible assumption) ?_
  rotate_left
  focus ((intro w hSw; (try dsimp only at hSw); go_simp); (try with_reducible rfl))
  try simp only [Act.put, List.setIfInBounds_toArray, List.set_cons_zero, List.set_cons_succ]
  refine wpAnyH_take (i := 29) (oi := ?_) (v := ?_) (by simp only [List.getElem?_toArray, List.getElem?_cons_succ, List.getElem?_cons_zero]; rfl) (by kernel_rfl) (by kernel_rfl) (by kernel_rfl) (fun _ _ _ h => h) (Or.inl ⟨by rfl, ?_⟩) (by with_reducible assumption) ?_
  rotate_left
  focus ((intro w hSw; (try dsimp only at hSw); go_simp); (try with_reducible rfl))
  try simp only [Act.put, List.setIfInBounds_toArray, List.set_cons_zero, List.set_cons_succ]
  refine wpAnyH_take (i := 30) (oi := ?_) (v := ?_) (by simp only [List.getElem?_toArray, List.getElem?_cons_succ, List.getElem?_cons_zero]; rfl) (by kernel_rfl) (by kernel_rfl) (by kernel_rfl) (fun _ _ _ h => h) (Or.inl ⟨by rfl, ?_⟩) (by with_reducible assumption) ?_
  rotate_left
  focus ((intro w hSw; (try dsimp only at hSw); go_simp); (try with_reducible rfl))
  try simp only [Act.put, List.setIfInBounds_toArray, List.set_cons_zero, List.set_cons_succ]
  refine wpAnyH_take (i := 31) (oi := ?_) (v := ?_) (by simp only [List.getElem?_toArray, List.getElem?_cons_succ, List.getElem?_cons_zero]; rfl) (by kernel_rfl) (by kernel_rfl) (by kernel_rfl) (fun _ _ _ h => h) (Or.inl ⟨by rfl, ?_⟩) (by with_reducible assumption) ?_
  rotate_left
  focus ((intro w hSw; (try dsimp only at hSw); go_simp); (try with_reducible rfl))
  try simp only [Act.put, List.setIfInBounds_toArray, List.set_cons_zero, List.set_cons_succ]
  refine wpAnyH_take (i := 33) (oi := ?_) (v := ?_) (by simp only [List.getElem?_toArray, List.getElem?_cons_succ, List.getElem?_cons_zero]; rfl) (by kernel_rfl) (by kernel_rfl) (by kernel_rfl) (fun _ _ _ h => h) (Or.inl ⟨by rfl, ?_⟩) (by with_reducible assumption) ?_
  rotate_left
  focus ((intro w hSw; (try dsimp only at hSw); go_simp); (try with_reducible rfl))
  try simp only [Act.put, List.setIfInBounds_toArray, List.set_cons_zero, List.set_cons_succ]
  refine wpAnyH_take (i := 34) (oi := ?_) (v := ?_) (by simp only [List.getElem?_toArray, List.getElem?_cons_succ, List.getElem?_cons_zero]; rfl) (by kernel_rfl) (by kernel_rfl) (by kernel_rfl) (fun _ _ _ h => h) (Or.inl ⟨by rfl, ?_⟩) (by with_reducible assumption) ?_
  rotate_left
  focus ((intro w hSw; (try dsimp only at hSw); go_simp); (try with_reducible rfl))
  try simp only [Act.put, List.setIfInBounds_toArray, List.set_cons_zero, List.set_cons_succ]
  refine wpAnyH_ready (rs := [32]) (by kernel_rfl) (by simp) ?_
  refine AllReadyH.cons (o := ?_) (by simp only [List.getElem?_toArray, List.getElem?_cons_succ, List.getElem?_cons_zero]; rfl) (fun K hK => ?_) AllReadyH.nil
  go_simp
  (go_at_call 20; (with_reducible refine (C11.out _ (by first | with_reducible assumption | exact And.left (by with_reducible assumption))).mono ?_); rintro e wa19 ⟨b18, B18, m18, d18, rfl, hw18, hb⟩; go_split_ands; have hBw : Below wm7.heap.size wm7 wa19 := keep_below (by with_reducible assumption) hb; have gw0 : wa19.cell? ⟨ad8_7, 0, none⟩ = some (.bool b3) := keep_cell hb (by with_reducible assumption); have gw1 : wa19.cell? ⟨ad8_7, 1, none⟩ = some (.slice B3 m3 d3) := keep_cell hb (by with_reducible assumption); have gw2 : wa19.cell? ⟨ad10_9, 0, none⟩ = some (.bool b5) := keep_cell hb (by with_reducible assumption); have gw3 : wa19.cell? ⟨ad10_9, 1, none⟩ = some (.slice B5 m5 d5) := keep_cell hb (by with_reducible assumption); have gw4 : wa19.cell? ⟨ad9_8, 0, none⟩ = some (.bool b4) := keep_cell hb (by with_reducible assumption); have gw5 : wa19.cell? ⟨ad9_8, 1, none⟩ = some (.slice B4 m4 d4) := keep_cell hb (by with_reducible assumption); have gw6 : wa19.cell? ⟨ad11_10, 0, none⟩ = some (.bool b6) := keep_cell hb (by with_reducible assumption); have gw7 : wa19.cell? ⟨ad11_10, 1, none⟩ = some (.slice B6 m6 d6) := keep_cell hb (by with_reducible assumption); (with_reducible have hw11 := hw11.below hb); (with_reducible have hw12 := hw12.below hb); (with_reducible have hw13 := hw13.below hb); (with_reducible have hw14 := hw14.below hb); (with_reducible have hw15 := hw15.below hb); (with_reducible have hw16 := hw16.below hb); (with_reducible have hw17 := hw17.below hb))
  refine hK.out _ _ ?_ (fun hHeld => ?_)
  · ((try dsimp only); (first | (with_reducible exact ⟨hb0, j0, j1, j2, j3, j4, j5, j6, j7⟩) | (go_split_ands; (repeat' apply And.intro); all_goals (first | with_reducible assumption | with_reducible exact keep_below (by with_reducible assumption) hb | with_reducible exact keep_cell hb (by with_reducible assumption)))))
  clear hK K
  try simp only [Act.put, List.setIfInBounds_toArray, List.set_cons_zero, List.set_cons_succ]
  refine wpAnyH_ready (rs := [35]) (by kernel_rfl) (by simp) ?_
  refine AllReadyH.cons (o := ?_) (by simp only [List.getElem?_toArray, List.getElem?_cons_succ, List.getElem?_cons_zero]; rfl) (fun K hK => ?_) AllReadyH.nil
  go_simp
  (go_at_call 21; (with_reducible refine (C12.out _ (by first | with_reducible assumption | exact And.left (by with_reducible assumption))).mono ?_); rintro e wa20 ⟨b19, B19, m19, d19, rfl, hw19, hb⟩; go_split_ands; have hBw : Below wm7.heap.size wm7 wa20 := keep_below (by with_reducible assumption) hb; have gw0 : wa20.cell? ⟨ad8_7, 0, none⟩ = some (.bool b3) := keep_cell hb (by with_reducible assumption); have gw1 : wa20.cell? ⟨ad8_7, 1, none⟩ = some (.slice B3 m3 d3) := keep_cell hb (by with_reducible assumption); have gw2 : wa20.cell? ⟨ad10_9, 0, none⟩ = some (.bool b5) := keep_cell hb (by with_reducible assumption); have gw3 : wa20.cell? ⟨ad10_9, 1, none⟩ = some (.slice B5 m5 d5) := keep_cell hb (by with_reducible assumption); have gw4 : wa20.cell? ⟨ad9_8, 0, none⟩ = some (.bool b4) := keep_cell hb (by with_reducible assumption); have gw5 : wa20.cell? ⟨ad9_8, 1, none⟩ = some (.slice B4 m4 d4) := keep_cell hb (by with_reducible assumption); have gw6 : wa20.cell? ⟨ad11_10, 0, none⟩ = some (.bool b6) := keep_cell hb (by with_reducible assumption); have gw7 : wa20.cell? ⟨ad11_10, 1, none⟩ = some (.slice B6 m6 d6) := keep_cell hb (by with_reducible assumption); (with_reducible have hw11 := hw11.below hb); (with_reducible have hw12 := hw12.below hb); (with_reducible have hw13 := hw13.below hb); (with_reducible have hw14 := hw14.below hb); (with_reducible have hw15 := hw15.below hb); (with_reducible have hw16 := hw16.below hb); (with_reducible have hw17 := hw17.below hb); (with_reducible have hw18 := hw18.below hb))
  refine hK.out _ _ ?_ (fun hHeld => ?_)
  · ((try dsimp only); (first | (with_reducible exact ⟨hb0, j0, j1, j2, j3, j4, j5, j6, j7⟩) | (go_split_ands; (repeat' apply And.intro); all_goals (first | with_reducible assumption | with_reducible exact keep_below (by with_reducible assumption) hb | with_reducible exact keep_cell hb (by with_reducible assumption)))))
  clear hK K
  try simp only [Act.put, List.setIfInBounds_toArray, List.set_cons_zero, List.set_cons_succ]
  refine wpAnyH_ready (rs := [36]) (by kernel_rfl) (by simp) ?_
  refine AllReadyH.cons (o := ?_) (by simp only [List.getElem?_toArray, List.getElem?_cons_succ, List.getElem?_cons_zero]; rfl) (fun K hK => ?_) AllReadyH.nil
  go_simp
  (go_at_call 14; (with_reducible refine (C13.out _ (by first | with_reducible assumption | exact And.left (by with_reducible assumption)) _ _ _ _ hw18 _ _ _ _ hw19).mono ?_); rintro e wa21 ⟨rfl, hb⟩; go_split_ands; have hBw : Below wm7.heap.size wm7 wa21 := keep_below (by with_reducible assumption) hb; have gw0 : wa21.cell? ⟨ad8_7, 0, none⟩ = some (.bool b3) := keep_cell hb (by with_reducible assumption); have gw1 : wa21.cell? ⟨ad8_7, 1, none⟩ = some (.slice B3 m3 d3) := keep_cell hb (by with_reducible assumption); have gw2 : wa21.cell? ⟨ad10_9, 0, none⟩ = some (.bool b5) := keep_cell hb (by with_reducible assumption); have gw3 : wa21.cell? ⟨ad10_9, 1, none⟩ = some (.slice B5 m5 d5) := keep_cell hb (by with_reducible assumption); have gw4 : wa21.cell? ⟨ad9_8, 0, none⟩ = some (.bool b4) := keep_cell hb (by with_reducible assumption); have gw5 : wa21.cell? ⟨ad9_8, 1, none⟩ = some (.slice B4 m4 d4) := keep_cell hb (by with_reducible assumption); have gw6 : wa21.cell? ⟨ad11_10, 0, none⟩ = some (.bool b6) := keep_cell hb (by with_reducible assumption); have gw7 : wa21.cell? ⟨ad11_10, 1, none⟩ = some (.slice B6 m6 d6) := keep_cell hb (by with_reducible assumption); (with_reducible have hw11 := hw11.below hb); (with_reducible have hw12 := hw12.below hb); (with_reducible have hw13 := hw13.below hb); (with_reducible have hw14 := hw14.below hb); (with_reducible have hw15 := hw15.below hb); (with_reducible have hw16 := hw16.below hb); (with_reducible have hw17 := hw17.below hb); (with_reducible have hw18 := hw18.below hb); (with_reducible have hw19 := hw19.below hb))
  refine hK.out _ _ ?_ (fun hHeld => ?_)
  · ((try dsimp only); (first | (with_reducible exact ⟨hb0, j0, j1, j2, j3, j4, j5, j6, j7⟩) | (go_split_ands; (repeat' apply And.intro); all_goals (first | with_reducible assumption | with_reducible exact keep_below (by with_reducible assumption) hb | with_reducible exact keep_cell hb (by with_reducible assumption)))))
  clear hK K
  try simp only [Act.put, List.setIfInBounds_toArray, List.set_cons_zero, List.set_cons_succ]
  refine wpAnyH_take (i := 37) (oi := ?_) (v := ?_) (by simp only [List.getElem?_toArray, List.getElem?_cons_succ, List.getElem?_cons_zero]; rfl) (by kernel_rfl) (by kernel_rfl) (by kernel_rfl) (fun _ _ _ h => h) (Or.inl ⟨by rfl, ?_⟩) (by with_reducible assumption) ?_
  rotate_left
  focus ((intro w hSw; (try dsimp only at hSw); go_simp); (try with_reducible rfl))
  try simp only [Act.put, List.setIfInBounds_toArray, List.set_cons_zero, List.set_cons_succ]
  refine wpAnyH_take (i := 38) (oi := ?_) (v := ?_) (by simp only [List.getElem?_toArray, List.getElem?_cons_succ, List.getElem?_cons_zero]; rfl) (by kernel_rfl) (by kernel_rfl) (by kernel_rfl) (fun _ _ _ h => h) (Or.inl ⟨by rfl, ?_⟩) (by with_reducible assumption) ?_
  rotate_left
  focus ((intro w hSw; (try dsimp only at hSw); go_simp); (try with_reducible rfl))
  try simp only [Act.put, List.setIfInBounds_toArray, List.set_cons_zero, List.set_cons_succ]
  refine wpAnyH_take (i := 39) (oi := ?_) (v := ?_) (by simp only [List.getElem?_toArray, List.getElem?_cons_succ, List.getElem?_cons_zero]; rfl) (by kernel_rfl) (by kernel_rfl) (by kernel_rfl) (fun _ _ _ h => h) (Or.inl ⟨by rfl, ?_⟩) (by with_reducible assumption) ?_
  rotate_left
  focus ((intro w hSw; (try dsimp only at hSw); go_simp); (try with_reducible rfl))
  try simp only [Act.put, List.setIfInBounds_toArray, List.set_cons_zero, List.set_cons_succ]
  refine wpAnyH_take (i := 40) (oi := ?_) (v := ?_) (by simp only [List.getElem?_toArray, List.getElem?_cons_succ, List.getElem?_cons_zero]; rfl) (by kernel_rfl) (by kernel_rfl) (by kernel_rfl) (fun _ _ _ h => h) (Or.inl ⟨by rfl, ?_⟩) (by with_reducible assumption) ?_
  rotate_left
  focus ((intro w hSw; (try dsimp only at hSw); go_simp); (try with_reducible rfl))
  try simp only [Act.put, List.setIfInBounds_toArray, List.set_cons_zero, List.set_cons_succ]
  refine wpAnyH_take (i := 42) (oi := ?_) (v := ?_) (by simp only [List.getElem?_toArray, List.getElem?_cons_succ, List.getElem?_cons_zero]; rfl) (by kernel_rfl) (by kernel_rfl) (by kernel_rfl) (fun _ _ _ h => h) (Or.inl ⟨by rfl, ?_⟩) (by with_reducible assumption) ?_
  rotate_left
  focus ((intro w hSw; (try dsimp only at hSw); go_simp); (try with_reducible rfl))
  try simp only [Act.put, List.setIfInBounds_toArray, List.set_cons_zero, List.set_cons_succ]
  refine wpAnyH_take (i := 43) (oi := ?_) (v := ?_) (by simp only [List.getElem?_toArray, List.getElem?_cons_succ, List.getElem?_cons_zero]; rfl) (by kernel_rfl) (by kernel_rfl) (by kernel_rfl) (fun _ _ _ h => h) (Or.inl ⟨by rfl, ?_⟩) (by with_reducible assumption) ?_
  rotate_left
  focus ((intro w hSw; (try dsimp only at hSw); go_simp); (try with_reducible rfl))
  try simp only [Act.put, List.setIfInBounds_toArray, List.set_cons_zero, List.set_cons_succ]
  refine wpAnyH_ready (rs := [41]) (by kernel_rfl) (by simp) ?_
  refine AllReadyH.cons (o := ?_) (by simp only [List.getElem?_toArray, List.getElem?_cons_succ, List.getElem?_cons_zero]; rfl) (fun K hK => ?_) AllReadyH.nil
  go_simp
  (go_at_call 22; (with_reducible refine (C14.out _ (by first | with_reducible assumption | exact And.left (by with_reducible assumption))).mono ?_); rintro e wa22 ⟨rfl, hb⟩; go_split_ands; have hBw : Below wm7.heap.size wm7 wa22 := keep_below (by with_reducible assumption) hb; have gw0 : wa22.cell? ⟨ad8_7, 0, none⟩ = some (.bool b3) := keep_cell hb (by with_reducible assumption); have gw1 : wa22.cell? ⟨ad8_7, 1, none⟩ = some (.slice B3 m3 d3) := keep_cell hb (by with_reducible assumption); have gw2 : wa22.cell? ⟨ad10_9, 0, none⟩ = some (.bool b5) := keep_cell hb (by with_reducible assumption); have gw3 : wa22.cell? ⟨ad10_9, 1, none⟩ = some (.slice B5 m5 d5) := keep_cell hb (by with_reducible assumption); have gw4 : wa22.cell? ⟨ad9_8, 0, none⟩ = some (.bool b4) := keep_cell hb (by with_reducible assumption); have gw5 : wa22.cell? ⟨ad9_8, 1, none⟩ = some (.slice B4 m4 d4) := keep_cell hb (by with_reducible assumption); have gw6 : wa22.cell? ⟨ad11_10, 0, none⟩ = some (.bool b6) := keep_cell hb (by with_reducible assumption); have gw7 : wa22.cell? ⟨ad11_10, 1, none⟩ = some (.slice B6 m6 d6) := keep_cell hb (by with_reducible assumption); (with_reducible have hw11 := hw11.below hb); (with_reducible have hw12 := hw12.below hb); (with_reducible have hw13 := hw13.below hb); (with_reducible have hw14 := hw14.below hb); (with_reducible have hw15 := hw15.below hb); (with_reducible have hw16 := hw16.below hb); (with_reducible have hw17 := hw17.below hb); (with_reducible have hw18 := hw18.below hb); (with_reducible have hw19 := hw19.below hb))
  refine hK.out _ _ ?_ (fun hHeld => ?_)
  · ((try dsimp only); (first | (with_reducible exact ⟨hb0, j0, j1, j2, j3, j4, j5, j6, j7⟩) | (go_split_ands; (repeat' apply And.intro); all_goals (first | with_reducible assumption | with_reducible exact keep_below (by with_reducible assumption) hb | with_reducible exact keep_cell hb (by with_reducible assumption)))))
  clear hK K
  try simp only [Act.put, List.setIfInBounds_toArray, List.set_cons_zero, List.set_cons_succ]
  refine wpAnyH_ready (rs := [44]) (by kernel_rfl) (by simp) ?_
  refine AllReadyH.cons (o := ?_) (by simp only [List.getElem?_toArray, List.getElem?_cons_succ, List.getElem?_cons_zero]; rfl) (fun K hK => ?_) AllReadyH.nil
  go_simp
  (go_at_call 23; (with_reducible refine (C15.out _ (by first | with_reducible assumption | exact And.left (by with_reducible assumption))).mono ?_); rintro e wa23 ⟨rfl, hb⟩; go_split_ands; have hBw : Below wm7.heap.size wm7 wa23 := keep_below (by with_reducible assumption) hb; have gw0 : wa23.cell? ⟨ad8_7, 0, none⟩ = some (.bool b3) := keep_cell hb (by with_reducible assumption); have gw1 : wa23.cell? ⟨ad8_7, 1, none⟩ = some (.slice B3 m3 d3) := keep_cell hb (by with_reducible assumption); have gw2 : wa23.cell? ⟨ad10_9, 0, none⟩ = some (.bool b5) := keep_cell hb (by with_reducible assumption); have gw3 : wa23.cell? ⟨ad10_9, 1, none⟩ = some (.slice B5 m5 d5) := keep_cell hb (by with_reducible assumption); have gw4 : wa23.cell? ⟨ad9_8, 0, none⟩ = some (.bool b4) := keep_cell hb (by with_reducible assumption); have gw5 : wa23.cell? ⟨ad9_8, 1, none⟩ = some (.slice B4 m4 d4) := keep_cell hb (by with_reducible assumption); have gw6 : wa23.cell? ⟨ad11_10, 0, none⟩ = some (.bool b6) := keep_cell hb (by with_reducible assumption); have gw7 : wa23.cell? ⟨ad11_10, 1, none⟩ = some (.slice B6 m6 d6) := keep_cell hb (by with_reducible assumption); (with_reducible have hw11 := hw11.below hb); (with_reducible have hw12 := hw12.below hb); (with_reducible have hw13 := hw13.below hb); (with_reducible have hw14 := hw14.below hb); (with_reducible have hw15 := hw15.below hb); (with_reducible have hw16 := hw16.below hb); (with_reducible have hw17 := hw17.below hb); (with_reducible have hw18 := hw18.below hb); (with_reducible have hw19 := hw19.below hb))
  refine hK.out _ _ ?_ (fun hHeld => ?_)
  · ((try dsimp only); (first | (with_reducible exact ⟨hb0, j0, j1, j2, j3, j4, j5, j6, j7⟩) | (go_split_ands; (repeat' apply And.intro); all_goals (first | with_reducible assumption | with_reducible exact keep_below (by with_reducible assumption) hb | with_reducible exact keep_cell hb (by with_reducible assumption)))))
  clear hK K
  try simp only [Act.put, List.setIfInBounds_toArray, List.set_cons_zero, List.set_cons_succ]
  refine wpAnyH_take (i := 45) (oi := ?_) (v := ?_) (by simp only [List.getElem?_toArray, List.getElem?_cons_succ, List.getElem?_cons_zero]; rfl) (by kernel_rfl) (by kernel_rfl) (by kernel_rfl) (fun _ _ _ h => h) (Or.inl ⟨by rfl, ?_⟩) (by with_reducible assumption) ?_
  rotate_left
  focus ((intro w hSw; (try dsimp only at hSw); go_simp); (try with_reducible rfl))
  try simp only [Act.put, List.setIfInBounds_toArray, List.set_cons_zero, List.set_cons_succ]
  refine wpAnyH_take (i := 46) (oi := ?_) (v := ?_) (by simp only [List.getElem?_toArray, List.getElem?_cons_succ, List.getElem?_cons_zero]; rfl) (by kernel_rfl) (by kernel_rfl) (by kernel_rfl) (fun _ _ _ h => h) (Or.inl ⟨by rfl, ?_⟩) (by with_reducible assumption) ?_
  rotate_left
  focus ((intro w hSw; (try dsimp only at hSw); go_simp); (try with_reducible rfl))
  try simp only [Act.put, List.setIfInBounds_toArray, List.set_cons_zero, List.set_cons_succ]
  refine wpAnyH_take (i := 47) (oi := ?_) (v := ?_) (by simp only [List.getElem?_toArray, List.getElem?_cons_succ, List.getElem?_cons_zero]; rfl) (by kernel_rfl) (by kernel_rfl) (by kernel_rfl) (fun _ _ _ h => h) (Or.inl ⟨by rfl, ?_⟩) (by with_reducible assumption) ?_
  rotate_left
  focus ((intro w hSw; (try dsimp only at hSw); go_simp); (try with_reducible rfl))
  try simp only [Act.put, List.setIfInBounds_toArray, List.set_cons_zero, List.set_cons_succ]
  refine wpAnyH_done (by kernel_rfl) ?_ _
  refine NoPanic.normal ?_
  clear hb
  have hB := keep_below hB hBw
  have g1 := keep_cell hBw g1
  have e1 := keep_cell hBw e1
  have g2 := keep_cell hBw g2
  have e2 := keep_cell hBw e2
  have g7 := keep_cell hBw g7
  have e7 := keep_cell hBw e7
  have g8 := keep_cell hBw g8
  have e8 := keep_cell hBw e8
  have g9 := keep_cell hBw g9
  have e9 := keep_cell hBw e9
  have g10 := keep_cell hBw g10
  have e10 := keep_cell hBw e10
  have HN3 := Lib.hid (HN3.out.below hBw)
  have HN4 := Lib.hid (HN4.out.below hBw)
  have HN5 := Lib.hid (HN5.out.below hBw)
  have HN6 := Lib.hid (HN6.out.below hBw)
  have HN11 := Lib.hid hw11
  have HN12 := Lib.hid hw12
  have HN13 := Lib.hid hw13
  have HN14 := Lib.hid hw14
  have HN15 := Lib.hid hw15
  have HN16 := Lib.hid hw16
  have HN17 := Lib.hid hw17
  have HN18 := Lib.hid hw18
  have HN19 := Lib.hid hw19
  clear hb0 hBw gw0 gw1 gw2 gw3 gw4 gw5 gw6 gw7 hw11 hw12 hw13 hw14 hw15 hw16 hw17 hw18 hw19
  clear j0
  clear j1
  clear j2
  clear j3
  clear j4
  clear j5
  clear j6
  clear j7
  clear C0 C1 C2 C3 C4 C5 C6 C7 C8 C9 C10 C11 C12 C13 C14 C15
  go_wp2
  go_ret
  exact ⟨by first | rfl | simp, hB⟩
end Go.Proofs.Ytnfednkphcapnaa
