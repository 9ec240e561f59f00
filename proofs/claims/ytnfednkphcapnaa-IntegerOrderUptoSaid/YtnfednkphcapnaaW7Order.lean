/-
  The walk of the law IntegerOrder. Conditions: the words that came in are at most 1048576; integer's functions do as IntC says.
-/
import Derived.Test.YtnfednkphcapnaaRows
import Derived.Test.YtnfednkphcapnaaBunB
import Derived.WalkKit
import Derived.Lib.Hide
import Derived.Outline
import Derived.IntWalk
import Derived.Deep.RegionHeld3
namespace Go.Proofs.Ytnfednkphcapnaa
open Go Go.RowKit
set_option maxRecDepth 100000
set_option linter.unusedVariables false
set_option linter.unusedSimpArgs false
set_option maxHeartbeats 16000000 in
theorem integerOrder_1 {T : World → Prop} (hTb : ∀ w w', T w → Below w.heap.size w w' → T w') (IC : IntC T) (s0 : Bool) (A0 : Option Addr) (n0 c0 : Nat) (l0 : List Nat) (s1 : Bool) (A1 : Option Addr) (n1 c1 : Nat) (l1 : List Nat) (s2 : Bool) (A2 : Option Addr) (n2 c2 : Nat) (l2 : List Nat) (w : World) (h0 : ArgWords w A0 n0 c0 l0) (h1 : ArgWords w A1 n1 c1 l1) (h2 : ArgWords w A2 n2 c2 l2) (hp : 0 < cmpZ (zOf s0 l0) (zOf s1 l1)) (hT : T w) :
    Calls Try.prog 9 #[.agg #[.bool s0, .slice A0 n0 c0], .agg #[.bool s1, .slice A1 n1 c1], .agg #[.bool s2, .slice A2 n2 c2]] w fun e w' => e = .returned (.bool true) ∧ Below w.heap.size w w' := by
  have HAW := Lib.hid (fun w' (hb : Below w.heap.size w w') => law7_awake hTb IC w' (hTb w w' hT hb))
  have HIC := Lib.hid IC
  have HT := Lib.hid (fun w' (hb : Below w.heap.size w w') => hTb w w' hT hb)
  obtain ⟨K, hK⟩ : ∃ K, 1048576 = K := ⟨_, rfl⟩
  have hKK : K ≤ 1048576 := by omega
  have HM0 := Lib.hid (fun w' (hb : Below w.heap.size w w') => law7_make hTb IC s0 A0 n0 c0 l0 w' ⟨(h0.reads.below hb).more hb.size, h0.dgs, h0.fits, h0.small⟩ (hTb w w' hT hb))
  have S0 : Sz 1048576 (zOf s0 l0).natAbs := by rw [zOf_abs]; exact arg_sz h0
  rw [hK] at S0
  obtain ⟨x, hz0⟩ : ∃ x, zOf s0 l0 = x := ⟨_, rfl⟩
  rw [hz0] at HM0 S0 hp
  have HS0 := Lib.hid S0
  have HM1 := Lib.hid (fun w' (hb : Below w.heap.size w w') => law7_make hTb IC s1 A1 n1 c1 l1 w' ⟨(h1.reads.below hb).more hb.size, h1.dgs, h1.fits, h1.small⟩ (hTb w w' hT hb))
  have S1 : Sz 1048576 (zOf s1 l1).natAbs := by rw [zOf_abs]; exact arg_sz h1
  rw [hK] at S1
  obtain ⟨y, hz1⟩ : ∃ x, zOf s1 l1 = x := ⟨_, rfl⟩
  rw [hz1] at HM1 S1 hp
  have HS1 := Lib.hid S1
  have HM2 := Lib.hid (fun w' (hb : Below w.heap.size w w') => law7_make hTb IC s2 A2 n2 c2 l2 w' ⟨(h2.reads.below hb).more hb.size, h2.dgs, h2.fits, h2.small⟩ (hTb w w' hT hb))
  have S2 : Sz 1048576 (zOf s2 l2).natAbs := by rw [zOf_abs]; exact arg_sz h2
  rw [hK] at S2
  obtain ⟨z, hz2⟩ : ∃ x, zOf s2 l2 = x := ⟨_, rfl⟩
  rw [hz2] at HM2 S2
  have HS2 := Lib.hid S2
  have hk1 := cmpZ_bd x y
  have HZN : Hid (cmpZ y x = -cmpZ x y) := cmpZ_neg x y
  have HAD : Hid (cmpZ (x + z) (y + z) = cmpZ x y) := cmpZ_add x y z
  have HOP : Hid (cmpZ (-x) (-y) = -cmpZ x y) := cmpZ_opp x y
  obtain ⟨k, hk⟩ : ∃ k, cmpZ x y = k := ⟨_, rfl⟩
  rw [hk] at hk1 HZN HAD HOP hp
  have HK := Lib.hid hk
  clear hk
  have kw1 : IntKind.i64.wrap (-(-k)) = k := by rw [Int.neg_neg]; exact IntWalk.i64_in _ (by omega)
  have kw2 : IntKind.i64.wrap (-k) = -k := IntWalk.i64_in _ (by omega)
  have kb1 : (k != k) = false := by simp
  have kb2 : decide (k ≤ 0) = false := by simp; omega
  have Hhp := Lib.hid hp
  clear IC hT h0 hz0 S0 h1 hz1 S1 h2 hz2 S2 hp hK
  go_enter Try.func9, Try.ntmps9
  have hB := Below.refl w.heap.size w
  obtain ⟨bx1, bx2, bx3, bx4, bz⟩ := box3 w 24 24 24 #[.bool s0, .slice A0 n0 c0] #[.bool s1, .slice A1 n1 c1] #[.bool s2, .slice A2 n2 c2]
  have hB := keep_below hB bx1
  have g1 : (((w.alloc (.cells #[.bool s0, .slice A0 n0 c0] 24)).alloc (.cells #[.bool s1, .slice A1 n1 c1] 24)).alloc (.cells #[.bool s2, .slice A2 n2 c2] 24)).cell? ⟨w.heap.size, 0, none⟩ = some (.bool s0) := bx2.cell 0
  have e1 : (((w.alloc (.cells #[.bool s0, .slice A0 n0 c0] 24)).alloc (.cells #[.bool s1, .slice A1 n1 c1] 24)).alloc (.cells #[.bool s2, .slice A2 n2 c2] 24)).cell? ⟨w.heap.size, 1, none⟩ = some (.slice A0 n0 c0) := bx2.cell 1
  have g2 : (((w.alloc (.cells #[.bool s0, .slice A0 n0 c0] 24)).alloc (.cells #[.bool s1, .slice A1 n1 c1] 24)).alloc (.cells #[.bool s2, .slice A2 n2 c2] 24)).cell? ⟨w.heap.size + 1, 0, none⟩ = some (.bool s1) := bx3.cell 0
  have e2 : (((w.alloc (.cells #[.bool s0, .slice A0 n0 c0] 24)).alloc (.cells #[.bool s1, .slice A1 n1 c1] 24)).alloc (.cells #[.bool s2, .slice A2 n2 c2] 24)).cell? ⟨w.heap.size + 1, 1, none⟩ = some (.slice A1 n1 c1) := bx3.cell 1
  have g3 : (((w.alloc (.cells #[.bool s0, .slice A0 n0 c0] 24)).alloc (.cells #[.bool s1, .slice A1 n1 c1] 24)).alloc (.cells #[.bool s2, .slice A2 n2 c2] 24)).cell? ⟨w.heap.size + 1 + 1, 0, none⟩ = some (.bool s2) := bx4.cell 0
  have e3 : (((w.alloc (.cells #[.bool s0, .slice A0 n0 c0] 24)).alloc (.cells #[.bool s1, .slice A1 n1 c1] 24)).alloc (.cells #[.bool s2, .slice A2 n2 c2] 24)).cell? ⟨w.heap.size + 1 + 1, 1, none⟩ = some (.slice A2 n2 c2) := bx4.cell 1
  clear bx1 bx2 bx3 bx4 bz
  go_wp2_with fail
  generalize ((w.alloc (.cells #[.bool s0, .slice A0 n0 c0] 24)).alloc (.cells #[.bool s1, .slice A1 n1 c1] 24)).alloc (.cells #[.bool s2, .slice A2 n2 c2] 24) = W1 at *
  (with_reducible refine (HAW.out _ hB).mono ?_)
  rintro e wc2 ⟨rfl, hb⟩
  have hB := keep_below hB hb
  have g1 := keep_cell hb g1
  have e1 := keep_cell hb e1
  have g2 := keep_cell hb g2
  have e2 := keep_cell hb e2
  have g3 := keep_cell hb g3
  have e3 := keep_cell hb e3
  clear hb 
  go_wp2_with fail
  have HZ4 : Hid (Sz (K) (x).natAbs) := HS0.out
  have C0 := Lib.hid (fun w' (h : Below wc2.heap.size wc2 w') => HM0.out _ (keep_below hB h))
  have HZ5 : Hid (Sz (K) (y).natAbs) := HS1.out
  have C1 := Lib.hid (fun w' (h : Below wc2.heap.size wc2 w') => HM1.out _ (keep_below hB h))
  have HZ6 : Hid (Sz (K) (z).natAbs) := HS2.out
  have C2 := Lib.hid (fun w' (h : Below wc2.heap.size wc2 w') => HM2.out _ (keep_below hB h))
  have G0 := Lib.hid (fun w' (h : Below wc2.heap.size wc2 w') => (⟨keep_cell h g1, keep_cell h e1⟩ : w'.cell? ⟨w.heap.size, 0, none⟩ = some (.bool s0) ∧ w'.cell? ⟨w.heap.size, 1, none⟩ = some (.slice A0 n0 c0)))
  have G1 := Lib.hid (fun w' (h : Below wc2.heap.size wc2 w') => (⟨keep_cell h g2, keep_cell h e2⟩ : w'.cell? ⟨w.heap.size + 1, 0, none⟩ = some (.bool s1) ∧ w'.cell? ⟨w.heap.size + 1, 1, none⟩ = some (.slice A1 n1 c1)))
  have G2 := Lib.hid (fun w' (h : Below wc2.heap.size wc2 w') => (⟨keep_cell h g3, keep_cell h e3⟩ : w'.cell? ⟨w.heap.size + 1 + 1, 0, none⟩ = some (.bool s2) ∧ w'.cell? ⟨w.heap.size + 1 + 1, 1, none⟩ = some (.slice A2 n2 c2)))
  refine wp_region_noPanic ?_
  refine wp_region_held_drew (S := (fun w' => Below wc2.heap.size wc2 w')) (by kernel_rfl) ?_ (fun hHeld => ?_)
  · exact (Below.refl _ wc2).drew
  refine wpAnyH_take (i := 0) (oi := ?_) (v := ?_) (by simp only [List.getElem?_toArray, List.getElem?_cons_succ, List.getElem?_cons_zero]; rfl) (by kernel_rfl) (by kernel_rfl) (by kernel_rfl) (fun _ _ _ h => h) (Or.inl ⟨by rfl, ?_⟩) (by with_reducible assumption) ?_
  rotate_left
  focus ((intro wz hSw; (try dsimp only at hSw); obtain ⟨z0, z1⟩ := G0.out wz hSw; go_simp); (try with_reducible rfl))
  try simp only [Act.put, List.setIfInBounds_toArray, List.set_cons_zero, List.set_cons_succ]
  refine wpAnyH_take (i := 2) (oi := ?_) (v := ?_) (by simp only [List.getElem?_toArray, List.getElem?_cons_succ, List.getElem?_cons_zero]; rfl) (by kernel_rfl) (by kernel_rfl) (by kernel_rfl) (fun _ _ _ h => h) (Or.inl ⟨by rfl, ?_⟩) (by with_reducible assumption) ?_
  rotate_left
  focus ((intro wz hSw; (try dsimp only at hSw); obtain ⟨z0, z1⟩ := G1.out wz hSw; go_simp); (try with_reducible rfl))
  try simp only [Act.put, List.setIfInBounds_toArray, List.set_cons_zero, List.set_cons_succ]
  refine wpAnyH_take (i := 4) (oi := ?_) (v := ?_) (by simp only [List.getElem?_toArray, List.getElem?_cons_succ, List.getElem?_cons_zero]; rfl) (by kernel_rfl) (by kernel_rfl) (by kernel_rfl) (fun _ _ _ h => h) (Or.inl ⟨by rfl, ?_⟩) (by with_reducible assumption) ?_
  rotate_left
  focus ((intro wz hSw; (try dsimp only at hSw); obtain ⟨z0, z1⟩ := G2.out wz hSw; go_simp); (try with_reducible rfl))
  try simp only [Act.put, List.setIfInBounds_toArray, List.set_cons_zero, List.set_cons_succ]
  refine wpAnyH_meet (L := #[true, true, true, true, true, true, true, true, true, false, false, false])
    (J := fun a0 l a w' => ∃ (fl1 fl3 fl5 fl6 fl7 fl8 : Bool) (vl14 vl16 vl18 vl7 vl8 vl9 : Value) (b4 : Bool) (B4 : Option Addr) (m4 d4 : Nat) (b5 : Bool) (B5 : Option Addr) (m5 d5 : Nat) (b6 : Bool) (B6 : Option Addr) (m6 d6 ad6 ad7 ad8 : Nat), l = #[true, fl1, true, fl3, true, fl5, fl6, fl7, fl8, false, false, false] ∧ a = (((((a0.put (some 14) vl14).put (some 16) vl16).put (some 18) vl18).put (some 7) vl7).put (some 8) vl8).put (some 9) vl9 ∧ Hid (Below wc2.heap.size wc2 w') ∧
      Hid (Gd fl1 (vl14 = .agg #[.bool b4, .slice B4 m4 d4] ∧ IntIn w' (x) b4 B4 m4 d4)) ∧
      Hid (Gd fl3 (vl16 = .agg #[.bool b5, .slice B5 m5 d5] ∧ IntIn w' (y) b5 B5 m5 d5)) ∧
      Hid (Gd fl5 (vl18 = .agg #[.bool b6, .slice B6 m6 d6] ∧ IntIn w' (z) b6 B6 m6 d6)) ∧
      Hid (Gd fl6 (Made wc2.heap.size w' ad6 29 #[.bool false, .slice none 0 0] vl7)) ∧
      Hid (Gd fl7 (Made wc2.heap.size w' ad7 29 #[.bool false, .slice none 0 0] vl8)) ∧
      Hid (Gd fl8 (Made wc2.heap.size w' ad8 29 #[.bool false, .slice none 0 0] vl9)) ∧
      Hid (Gd fl6 (Gd fl7 (ad6 ≠ ad7))) ∧
      Hid (Gd fl6 (Gd fl8 (ad6 ≠ ad8))) ∧
      Hid (Gd fl7 (Gd fl8 (ad7 ≠ ad8))) ∧
      Hid (Gd fl3 (fl1 = true)) ∧
      Hid (Gd fl5 (fl3 = true)))
    (by rfl) ?_ ?_ ?_ ?_
  · exact ⟨false, false, false, false, false, false, _, _, _, _, _, _, false, none, 0, 0, false, none, 0, 0, false, none, 0, 0, 0, 0, 0, by kernel_rfl, by rfl, hHeld, Gd.no, Gd.no, Gd.no, Gd.no, Gd.no, Gd.no, Gd.no, Gd.no, Gd.no, Gd.no, Gd.no⟩
  · rintro l a w' ⟨fl1, fl3, fl5, fl6, fl7, fl8, vl14, vl16, vl18, vl7, vl8, vl9, b4, B4, m4, d4, b5, B5, m5, d5, b6, B6, m6, d6, ad6, ad7, ad8, rfl, rfl, -⟩ hr
    have xx1 : fl1 = true := by refine all_listed (i := 1) (o := ?_) hr (by simp only [List.getElem?_toArray, List.getElem?_cons_succ, List.getElem?_cons_zero]; rfl) ?_; rfl
    subst xx1
    have xx3 : fl3 = true := by refine all_listed (i := 3) (o := ?_) hr (by simp only [List.getElem?_toArray, List.getElem?_cons_succ, List.getElem?_cons_zero]; rfl) ?_; rfl
    subst xx3
    have xx5 : fl5 = true := by refine all_listed (i := 5) (o := ?_) hr (by simp only [List.getElem?_toArray, List.getElem?_cons_succ, List.getElem?_cons_zero]; rfl) ?_; rfl
    subst xx5
    have xx6 : fl6 = true := by refine all_listed (i := 6) (o := ?_) hr (by simp only [List.getElem?_toArray, List.getElem?_cons_succ, List.getElem?_cons_zero]; rfl) ?_; rfl
    subst xx6
    have xx7 : fl7 = true := by refine all_listed (i := 7) (o := ?_) hr (by simp only [List.getElem?_toArray, List.getElem?_cons_succ, List.getElem?_cons_zero]; rfl) ?_; rfl
    subst xx7
    have xx8 : fl8 = true := by refine all_listed (i := 8) (o := ?_) hr (by simp only [List.getElem?_toArray, List.getElem?_cons_succ, List.getElem?_cons_zero]; rfl) ?_; rfl
    subst xx8
    rfl
  · rintro l a w' i ⟨fl1, fl3, fl5, fl6, fl7, fl8, vl14, vl16, vl18, vl7, vl8, vl9, b4, B4, m4, d4, b5, B5, m5, d5, b6, B6, m6, d6, ad6, ad7, ad8, rfl, rfl, hBi, qf1, qf3, qf5, qf6, qf7, qf8, qn6_7, qn6_8, qn7_8, qd3_1, qd5_3⟩ hne hi
    have hlt : i < 12 := ready_lt hi
    rcases (show i = 0 ∨ i = 1 ∨ i = 2 ∨ i = 3 ∨ i = 4 ∨ i = 5 ∨ i = 6 ∨ i = 7 ∨ i = 8 ∨ i = 9 ∨ i = 10 ∨ i = 11 by omega) with rfl | rfl | rfl | rfl | rfl | rfl | rfl | rfl | rfl | rfl | rfl | rfl
    · have u : true = false := ready_un hi
      cases u
    · have u : fl1 = false := ready_un hi
      subst u
      refine wpOp_shut (by simp only [List.getElem?_toArray, List.getElem?_cons_succ, List.getElem?_cons_zero]; rfl) (fun K' hK => ?_)
      try simp only [Act.put, List.setIfInBounds_toArray, List.set_cons_zero, List.set_cons_succ]
      go_simp
      refine (C0.out w' hBi.out).mono ?_
      rintro e w2 ⟨nb4, nB4, nm4, nd4, rfl, nhw4, hb⟩
      exact hK.out _ _ ⟨keep_below hBi.out hb, true, fl3, fl5, fl6, fl7, fl8, _, vl16, vl18, vl7, vl8, vl9, nb4, nB4, nm4, nd4, b5, B5, m5, d5, b6, B6, m6, d6, ad6, ad7, ad8, by rfl, by rfl, keep_below hBi.out hb, Gd.yes ⟨rfl, nhw4⟩, qf3.out.mono fun h => ⟨h.1, h.2.below hb⟩, qf5.out.mono fun h => ⟨h.1, h.2.below hb⟩, qf6.out.mono fun h => h.keep hb, qf7.out.mono fun h => h.keep hb, qf8.out.mono fun h => h.keep hb, qn6_7, qn6_8, qn7_8, fun _ => rfl, qd5_3⟩
    · have u : true = false := ready_un hi
      cases u
    · have u : fl3 = false := ready_un hi
      subst u
      have yy1 : fl1 = true := by refine ready_dep (k := 1) (o := ?_) hi (by simp only [List.getElem?_toArray, List.getElem?_cons_succ, List.getElem?_cons_zero]; rfl) rfl rfl
      subst yy1
      refine wpOp_shut (by simp only [List.getElem?_toArray, List.getElem?_cons_succ, List.getElem?_cons_zero]; rfl) (fun K' hK => ?_)
      try simp only [Act.put, List.setIfInBounds_toArray, List.set_cons_zero, List.set_cons_succ]
      go_simp
      refine (C1.out w' hBi.out).mono ?_
      rintro e w2 ⟨nb5, nB5, nm5, nd5, rfl, nhw5, hb⟩
      exact hK.out _ _ ⟨keep_below hBi.out hb, true, true, fl5, fl6, fl7, fl8, vl14, _, vl18, vl7, vl8, vl9, b4, B4, m4, d4, nb5, nB5, nm5, nd5, b6, B6, m6, d6, ad6, ad7, ad8, by rfl, by rfl, keep_below hBi.out hb, qf1.out.mono fun h => ⟨h.1, h.2.below hb⟩, Gd.yes ⟨rfl, nhw5⟩, qf5.out.mono fun h => ⟨h.1, h.2.below hb⟩, qf6.out.mono fun h => h.keep hb, qf7.out.mono fun h => h.keep hb, qf8.out.mono fun h => h.keep hb, qn6_7, qn6_8, qn7_8, Gd.yes rfl, fun _ => rfl⟩
    · have u : true = false := ready_un hi
      cases u
    · have u : fl5 = false := ready_un hi
      subst u
      have yy3 : fl3 = true := by refine ready_dep (k := 1) (o := ?_) hi (by simp only [List.getElem?_toArray, List.getElem?_cons_succ, List.getElem?_cons_zero]; rfl) rfl rfl
      subst yy3
      refine wpOp_shut (by simp only [List.getElem?_toArray, List.getElem?_cons_succ, List.getElem?_cons_zero]; rfl) (fun K' hK => ?_)
      try simp only [Act.put, List.setIfInBounds_toArray, List.set_cons_zero, List.set_cons_succ]
      go_simp
      refine (C2.out w' hBi.out).mono ?_
      rintro e w2 ⟨nb6, nB6, nm6, nd6, rfl, nhw6, hb⟩
      exact hK.out _ _ ⟨keep_below hBi.out hb, fl1, true, true, fl6, fl7, fl8, vl14, vl16, _, vl7, vl8, vl9, b4, B4, m4, d4, b5, B5, m5, d5, nb6, nB6, nm6, nd6, ad6, ad7, ad8, by rfl, by rfl, keep_below hBi.out hb, qf1.out.mono fun h => ⟨h.1, h.2.below hb⟩, qf3.out.mono fun h => ⟨h.1, h.2.below hb⟩, Gd.yes ⟨rfl, nhw6⟩, qf6.out.mono fun h => h.keep hb, qf7.out.mono fun h => h.keep hb, qf8.out.mono fun h => h.keep hb, qn6_7, qn6_8, qn7_8, qd3_1, Gd.yes rfl⟩
    · have u : fl6 = false := ready_un hi
      subst u
      refine wpOp_shut (by simp only [List.getElem?_toArray, List.getElem?_cons_succ, List.getElem?_cons_zero]; rfl) (fun K' hK => ?_)
      try simp only [Act.put, List.setIfInBounds_toArray, List.set_cons_zero, List.set_cons_succ]
      go_simp
      have hb := up_alloc w' (.cells #[.bool false, .slice none 0 0] 29)
      exact hK.out _ _ ⟨keep_below hBi.out hb, fl1, fl3, fl5, true, fl7, fl8, vl14, vl16, vl18, _, vl8, vl9, b4, B4, m4, d4, b5, B5, m5, d5, b6, B6, m6, d6, _, ad7, ad8, by rfl, by rfl, keep_below hBi.out hb, qf1.out.mono fun h => ⟨h.1, h.2.below hb⟩, qf3.out.mono fun h => ⟨h.1, h.2.below hb⟩, qf5.out.mono fun h => ⟨h.1, h.2.below hb⟩, Gd.yes (Made.new _ _ _ _ hBi.out.size), qf7.out.mono fun h => h.keep hb, qf8.out.mono fun h => h.keep hb, Gd.yes (qf7.out.mono fun h => by have := h.lt; omega), Gd.yes (qf8.out.mono fun h => by have := h.lt; omega), qn7_8, qd3_1, qd5_3⟩
    · have u : fl7 = false := ready_un hi
      subst u
      refine wpOp_shut (by simp only [List.getElem?_toArray, List.getElem?_cons_succ, List.getElem?_cons_zero]; rfl) (fun K' hK => ?_)
      try simp only [Act.put, List.setIfInBounds_toArray, List.set_cons_zero, List.set_cons_succ]
      go_simp
      have hb := up_alloc w' (.cells #[.bool false, .slice none 0 0] 29)
      exact hK.out _ _ ⟨keep_below hBi.out hb, fl1, fl3, fl5, fl6, true, fl8, vl14, vl16, vl18, vl7, _, vl9, b4, B4, m4, d4, b5, B5, m5, d5, b6, B6, m6, d6, ad6, _, ad8, by rfl, by rfl, keep_below hBi.out hb, qf1.out.mono fun h => ⟨h.1, h.2.below hb⟩, qf3.out.mono fun h => ⟨h.1, h.2.below hb⟩, qf5.out.mono fun h => ⟨h.1, h.2.below hb⟩, qf6.out.mono fun h => h.keep hb, Gd.yes (Made.new _ _ _ _ hBi.out.size), qf8.out.mono fun h => h.keep hb, qf6.out.mono fun h => Gd.yes (by have := h.lt; omega), qn6_8, Gd.yes (qf8.out.mono fun h => by have := h.lt; omega), qd3_1, qd5_3⟩
    · have u : fl8 = false := ready_un hi
      subst u
      refine wpOp_shut (by simp only [List.getElem?_toArray, List.getElem?_cons_succ, List.getElem?_cons_zero]; rfl) (fun K' hK => ?_)
      try simp only [Act.put, List.setIfInBounds_toArray, List.set_cons_zero, List.set_cons_succ]
      go_simp
      have hb := up_alloc w' (.cells #[.bool false, .slice none 0 0] 29)
      exact hK.out _ _ ⟨keep_below hBi.out hb, fl1, fl3, fl5, fl6, fl7, true, vl14, vl16, vl18, vl7, vl8, _, b4, B4, m4, d4, b5, B5, m5, d5, b6, B6, m6, d6, ad6, ad7, _, by rfl, by rfl, keep_below hBi.out hb, qf1.out.mono fun h => ⟨h.1, h.2.below hb⟩, qf3.out.mono fun h => ⟨h.1, h.2.below hb⟩, qf5.out.mono fun h => ⟨h.1, h.2.below hb⟩, qf6.out.mono fun h => h.keep hb, qf7.out.mono fun h => h.keep hb, Gd.yes (Made.new _ _ _ _ hBi.out.size), qn6_7, qf6.out.mono fun h => Gd.yes (by have := h.lt; omega), qf7.out.mono fun h => Gd.yes (by have := h.lt; omega), qd3_1, qd5_3⟩
    · have yy1 : fl1 = true := by refine ready_dep (k := 1) (o := ?_) hi (by simp only [List.getElem?_toArray, List.getElem?_cons_succ, List.getElem?_cons_zero]; rfl) rfl rfl
      subst yy1
      have yy5 : fl5 = true := by refine ready_dep (k := 2) (o := ?_) hi (by simp only [List.getElem?_toArray, List.getElem?_cons_succ, List.getElem?_cons_zero]; rfl) rfl rfl
      subst yy5
      have yy6 : fl6 = true := by refine ready_dep (k := 0) (o := ?_) hi (by simp only [List.getElem?_toArray, List.getElem?_cons_succ, List.getElem?_cons_zero]; rfl) rfl rfl
      subst yy6
      have yy7 : fl7 = true := by refine ready_dep (k := 10) (o := ?_) hi (by simp only [List.getElem?_toArray, List.getElem?_cons_succ, List.getElem?_cons_zero]; rfl) rfl rfl
      subst yy7
      have yy8 : fl8 = true := by refine ready_dep (k := 11) (o := ?_) hi (by simp only [List.getElem?_toArray, List.getElem?_cons_succ, List.getElem?_cons_zero]; rfl) rfl rfl
      subst yy8
      have yy3 : fl3 = true := qd5_3.out.get
      subst yy3
      exact absurd rfl hne
    · have u : false = true := by refine ready_dep (k := 2) (o := ?_) hi (by simp only [List.getElem?_toArray, List.getElem?_cons_succ, List.getElem?_cons_zero]; rfl) rfl rfl
      cases u
    · have u : false = true := by refine ready_dep (k := 12) (o := ?_) hi (by simp only [List.getElem?_toArray, List.getElem?_cons_succ, List.getElem?_cons_zero]; rfl) rfl rfl
      cases u
  rintro a wm3 ⟨fl1, fl3, fl5, fl6, fl7, fl8, vl14, vl16, vl18, vl7, vl8, vl9, b4, B4, m4, d4, b5, B5, m5, d5, b6, B6, m6, d6, ad6, ad7, ad8, hl, rfl, hBi, qf1, qf3, qf5, qf6, qf7, qf8, qn6_7, qn6_8, qn7_8, qd3_1, qd5_3⟩
  have xx1 : fl1 = true := by have h := congrArg (fun l : Array Bool => l.getD 1 false) hl; exact h.symm
  subst xx1
  have xx3 : fl3 = true := by have h := congrArg (fun l : Array Bool => l.getD 3 false) hl; exact h.symm
  subst xx3
  have xx5 : fl5 = true := by have h := congrArg (fun l : Array Bool => l.getD 5 false) hl; exact h.symm
  subst xx5
  have xx6 : fl6 = true := by have h := congrArg (fun l : Array Bool => l.getD 6 false) hl; exact h.symm
  subst xx6
  have xx7 : fl7 = true := by have h := congrArg (fun l : Array Bool => l.getD 7 false) hl; exact h.symm
  subst xx7
  have xx8 : fl8 = true := by have h := congrArg (fun l : Array Bool => l.getD 8 false) hl; exact h.symm
  subst xx8
  obtain ⟨rfl, hw4⟩ := qf1.out.get
  obtain ⟨rfl, hw5⟩ := qf3.out.get
  obtain ⟨rfl, hw6⟩ := qf5.out.get
  obtain ⟨rfl, hg6, hk6⟩ := qf6.out.get
  obtain ⟨rfl, hg7, hk7⟩ := qf7.out.get
  obtain ⟨rfl, hg8, hk8⟩ := qf8.out.get
  have n6_7 := qn6_7.out.get.get
  have n6_8 := qn6_8.out.get.get
  have n7_8 := qn7_8.out.get.get
  have hBv := hBi.out
  clear hl hBi qf1 qf3 qf5 qf6 qf7 qf8 qn6_7 qn6_8 qn7_8 qd3_1 qd5_3
  have hk6 : Blk wm3 ad6 29 #[.bool false, .slice none 0 0] := hk6
  have hk7 : Blk wm3 ad7 29 #[.bool false, .slice none 0 0] := hk7
  have hk8 : Blk wm3 ad8 29 #[.bool false, .slice none 0 0] := hk8
  rw [show due #[true, true, true, true, true, true, true, true, true, false, false, false] = 3 from rfl]
  try simp only [Act.put, List.setIfInBounds_toArray, List.set_cons_zero, List.set_cons_succ]
  refine wpAnyH_ready (rs := [9]) (by kernel_rfl) (by simp) ?_
  refine AllReadyH.cons (o := ?_) (by simp only [List.getElem?_toArray, List.getElem?_cons_succ, List.getElem?_cons_zero]; rfl) (fun K hK => ?_) AllReadyH.nil
  have sc0 : (wm3).cell? ⟨ad6, 0, none⟩ = some (.bool false) := hk6.cell 0
  have sf0 : (wm3).frozen? ⟨ad6, 0, none⟩ = false := hk6.frozen 0
  have hj0 : Blk (wm3.setCell ⟨ad6, 0, none⟩ (.bool b4)) ad6 29 #[.bool b4, .slice none 0 0] := hk6.set_ 0 (.bool b4)
  have sc1 : (wm3.setCell ⟨ad6, 0, none⟩ (.bool b4)).cell? ⟨ad6, 1, none⟩ = some (.slice none 0 0) := hj0.cell 1
  have sf1 : (wm3.setCell ⟨ad6, 0, none⟩ (.bool b4)).frozen? ⟨ad6, 1, none⟩ = false := hj0.frozen 1
  have hj1 : Blk ((wm3.setCell ⟨ad6, 0, none⟩ (.bool b4)).setCell ⟨ad6, 1, none⟩ (.slice B4 m4 d4)) ad6 29 #[.bool b4, .slice B4 m4 d4] := hj0.set_ 1 (.slice B4 m4 d4)
  go_simp
  have hBv := keep_below_set (p := ⟨ad6, 1, none⟩) (.slice B4 m4 d4) hg6 (keep_below_set (p := ⟨ad6, 0, none⟩) (.bool b4) hg6 (hBv))
  have hk7 := Blk.far (Blk.far (hk7) (p := ⟨ad6, 0, none⟩) (show ad7 ≠ ad6 from n6_7.symm) (.bool b4)) (p := ⟨ad6, 1, none⟩) (show ad7 ≠ ad6 from n6_7.symm) (.slice B4 m4 d4)
  have hk8 := Blk.far (Blk.far (hk8) (p := ⟨ad6, 0, none⟩) (show ad8 ≠ ad6 from n6_8.symm) (.bool b4)) (p := ⟨ad6, 1, none⟩) (show ad8 ≠ ad6 from n6_8.symm) (.slice B4 m4 d4)
  have hw4 := int_set2 hw4 hk6 b4 B4 m4 d4
  have hw5 := int_set2 hw5 hk6 b4 B4 m4 d4
  have hw6 := int_set2 hw6 hk6 b4 B4 m4 d4
  have hk6 := hj1
  clear sc0 sf0 sc1 sf1 hj0 hj1
  refine hK.out _ _ ?_ (fun hHeld => ?_)
  · ((try dsimp only); exact hBv)
  clear hK K hHeld
  try simp only [Act.put, List.setIfInBounds_toArray, List.set_cons_zero, List.set_cons_succ]
  generalize (wm3.setCell ⟨ad6, 0, none⟩ (.bool b4)).setCell ⟨ad6, 1, none⟩ (.slice B4 m4 d4) = wm4 at *
  refine wpAnyH_ready (rs := [10]) (by kernel_rfl) (by simp) ?_
  refine AllReadyH.cons (o := ?_) (by simp only [List.getElem?_toArray, List.getElem?_cons_succ, List.getElem?_cons_zero]; rfl) (fun K hK => ?_) AllReadyH.nil
  have sc0 : (wm4).cell? ⟨ad7, 0, none⟩ = some (.bool false) := hk7.cell 0
  have sf0 : (wm4).frozen? ⟨ad7, 0, none⟩ = false := hk7.frozen 0
  have hj0 : Blk (wm4.setCell ⟨ad7, 0, none⟩ (.bool b5)) ad7 29 #[.bool b5, .slice none 0 0] := hk7.set_ 0 (.bool b5)
  have sc1 : (wm4.setCell ⟨ad7, 0, none⟩ (.bool b5)).cell? ⟨ad7, 1, none⟩ = some (.slice none 0 0) := hj0.cell 1
  have sf1 : (wm4.setCell ⟨ad7, 0, none⟩ (.bool b5)).frozen? ⟨ad7, 1, none⟩ = false := hj0.frozen 1
  have hj1 : Blk ((wm4.setCell ⟨ad7, 0, none⟩ (.bool b5)).setCell ⟨ad7, 1, none⟩ (.slice B5 m5 d5)) ad7 29 #[.bool b5, .slice B5 m5 d5] := hj0.set_ 1 (.slice B5 m5 d5)
  go_simp
  have hBv := keep_below_set (p := ⟨ad7, 1, none⟩) (.slice B5 m5 d5) hg7 (keep_below_set (p := ⟨ad7, 0, none⟩) (.bool b5) hg7 (hBv))
  have hk6 := Blk.far (Blk.far (hk6) (p := ⟨ad7, 0, none⟩) (show ad6 ≠ ad7 from n6_7) (.bool b5)) (p := ⟨ad7, 1, none⟩) (show ad6 ≠ ad7 from n6_7) (.slice B5 m5 d5)
  have hk8 := Blk.far (Blk.far (hk8) (p := ⟨ad7, 0, none⟩) (show ad8 ≠ ad7 from n7_8.symm) (.bool b5)) (p := ⟨ad7, 1, none⟩) (show ad8 ≠ ad7 from n7_8.symm) (.slice B5 m5 d5)
  have hw4 := int_set2 hw4 hk7 b5 B5 m5 d5
  have hw5 := int_set2 hw5 hk7 b5 B5 m5 d5
  have hw6 := int_set2 hw6 hk7 b5 B5 m5 d5
  have hk7 := hj1
  clear sc0 sf0 sc1 sf1 hj0 hj1
  refine hK.out _ _ ?_ (fun hHeld => ?_)
  · ((try dsimp only); exact hBv)
  clear hK K hHeld
  try simp only [Act.put, List.setIfInBounds_toArray, List.set_cons_zero, List.set_cons_succ]
  generalize (wm4.setCell ⟨ad7, 0, none⟩ (.bool b5)).setCell ⟨ad7, 1, none⟩ (.slice B5 m5 d5) = wm5 at *
  refine wpAnyH_ready (rs := [11]) (by kernel_rfl) (by simp) ?_
  refine AllReadyH.cons (o := ?_) (by simp only [List.getElem?_toArray, List.getElem?_cons_succ, List.getElem?_cons_zero]; rfl) (fun K hK => ?_) AllReadyH.nil
  have sc0 : (wm5).cell? ⟨ad8, 0, none⟩ = some (.bool false) := hk8.cell 0
  have sf0 : (wm5).frozen? ⟨ad8, 0, none⟩ = false := hk8.frozen 0
  have hj0 : Blk (wm5.setCell ⟨ad8, 0, none⟩ (.bool b6)) ad8 29 #[.bool b6, .slice none 0 0] := hk8.set_ 0 (.bool b6)
  have sc1 : (wm5.setCell ⟨ad8, 0, none⟩ (.bool b6)).cell? ⟨ad8, 1, none⟩ = some (.slice none 0 0) := hj0.cell 1
  have sf1 : (wm5.setCell ⟨ad8, 0, none⟩ (.bool b6)).frozen? ⟨ad8, 1, none⟩ = false := hj0.frozen 1
  have hj1 : Blk ((wm5.setCell ⟨ad8, 0, none⟩ (.bool b6)).setCell ⟨ad8, 1, none⟩ (.slice B6 m6 d6)) ad8 29 #[.bool b6, .slice B6 m6 d6] := hj0.set_ 1 (.slice B6 m6 d6)
  go_simp
  have hBv := keep_below_set (p := ⟨ad8, 1, none⟩) (.slice B6 m6 d6) hg8 (keep_below_set (p := ⟨ad8, 0, none⟩) (.bool b6) hg8 (hBv))
  have hk6 := Blk.far (Blk.far (hk6) (p := ⟨ad8, 0, none⟩) (show ad6 ≠ ad8 from n6_8) (.bool b6)) (p := ⟨ad8, 1, none⟩) (show ad6 ≠ ad8 from n6_8) (.slice B6 m6 d6)
  have hk7 := Blk.far (Blk.far (hk7) (p := ⟨ad8, 0, none⟩) (show ad7 ≠ ad8 from n7_8) (.bool b6)) (p := ⟨ad8, 1, none⟩) (show ad7 ≠ ad8 from n7_8) (.slice B6 m6 d6)
  have hw4 := int_set2 hw4 hk8 b6 B6 m6 d6
  have hw5 := int_set2 hw5 hk8 b6 B6 m6 d6
  have hw6 := int_set2 hw6 hk8 b6 B6 m6 d6
  have hk8 := hj1
  clear sc0 sf0 sc1 sf1 hj0 hj1
  refine hK.out _ _ ?_ (fun hHeld => ?_)
  · ((try dsimp only); exact hBv)
  clear hK K hHeld
  try simp only [Act.put, List.setIfInBounds_toArray, List.set_cons_zero, List.set_cons_succ]
  generalize (wm5.setCell ⟨ad8, 0, none⟩ (.bool b6)).setCell ⟨ad8, 1, none⟩ (.slice B6 m6 d6) = wm6 at *
  refine wpAnyH_done (by kernel_rfl) ?_ _
  refine NoPanic.normal ?_
  have hB := keep_below hB hBv
  have g1 := keep_cell hBv g1
  have e1 := keep_cell hBv e1
  have g2 := keep_cell hBv g2
  have e2 := keep_cell hBv e2
  have g3 := keep_cell hBv g3
  have e3 := keep_cell hBv e3
  obtain ⟨ad6_7, hga⟩ : ∃ x, x = ad6 := ⟨_, rfl⟩
  subst hga
  have g7 : wm6.cell? ⟨ad6_7, 0, none⟩ = some (.bool b4) := hk6.cell 0
  have e7 : wm6.cell? ⟨ad6_7, 1, none⟩ = some (.slice B4 m4 d4) := hk6.cell 1
  obtain ⟨ad7_8, hga⟩ : ∃ x, x = ad7 := ⟨_, rfl⟩
  subst hga
  have g8 : wm6.cell? ⟨ad7_8, 0, none⟩ = some (.bool b5) := hk7.cell 0
  have e8 : wm6.cell? ⟨ad7_8, 1, none⟩ = some (.slice B5 m5 d5) := hk7.cell 1
  obtain ⟨ad8_9, hga⟩ : ∃ x, x = ad8 := ⟨_, rfl⟩
  subst hga
  have g9 : wm6.cell? ⟨ad8_9, 0, none⟩ = some (.bool b6) := hk8.cell 0
  have e9 : wm6.cell? ⟨ad8_9, 1, none⟩ = some (.slice B6 m6 d6) := hk8.cell 1
  have HN4 := Lib.hid hw4
  have HN5 := Lib.hid hw5
  have HN6 := Lib.hid hw6
  clear hBv hk6 hg6 hk7 hg7 hk8 hg8 hw4 hw5 hw6 G0 G1 G2 n6_7 n6_8 n7_8
  clear C0 C1 C2
  go_wp2_with fail
  (with_reducible refine (icmp_of (v := k) (HK.out) (HIC.out.cmp (x) (y) b4 b5 B4 B5 m4 m5 d4 d5 _ (HT.out _ hB) HN4.out HN5.out (by have := Sz.words HZ4.out HN4.out.words; omega) (by have := Sz.words HZ5.out HN5.out.words; omega))).mono ?_)
  rintro e wc7 ⟨rfl, hb⟩
  have hB := keep_below hB hb
  have g1 := keep_cell hb g1
  have e1 := keep_cell hb e1
  have g2 := keep_cell hb g2
  have e2 := keep_cell hb e2
  have g3 := keep_cell hb g3
  have e3 := keep_cell hb e3
  have g7 := keep_cell hb g7
  have e7 := keep_cell hb e7
  have g8 := keep_cell hb g8
  have e8 := keep_cell hb e8
  have g9 := keep_cell hb g9
  have e9 := keep_cell hb e9
  have HN4 := Lib.hid (HN4.out.below hb)
  have HN5 := Lib.hid (HN5.out.below hb)
  have HN6 := Lib.hid (HN6.out.below hb)
  clear hb 
  go_wp2_with fail
  (with_reducible refine (icmp_of (v := (-k)) (HZN.out) (HIC.out.cmp (y) (x) b5 b4 B5 B4 m5 m4 d5 d4 _ (HT.out _ hB) HN5.out HN4.out (by have := Sz.words HZ5.out HN5.out.words; omega) (by have := Sz.words HZ4.out HN4.out.words; omega))).mono ?_)
  rintro e wc8 ⟨rfl, hb⟩
  have hB := keep_below hB hb
  have g1 := keep_cell hb g1
  have e1 := keep_cell hb e1
  have g2 := keep_cell hb g2
  have e2 := keep_cell hb e2
  have g3 := keep_cell hb g3
  have e3 := keep_cell hb e3
  have g7 := keep_cell hb g7
  have e7 := keep_cell hb e7
  have g8 := keep_cell hb g8
  have e8 := keep_cell hb e8
  have g9 := keep_cell hb g9
  have e9 := keep_cell hb e9
  have HN4 := Lib.hid (HN4.out.below hb)
  have HN5 := Lib.hid (HN5.out.below hb)
  have HN6 := Lib.hid (HN6.out.below hb)
  clear hb 
  go_wp2_with fail
  have HZ10 : Hid (Sz (K + K + 1) (x + z).natAbs) := SzI.add HZ4.out HZ6.out
  have C0 := Lib.hid (fun w' (h : Below wc8.heap.size wc8 w') => HIC.out.add (x) (z) b4 b6 B4 B6 m4 m6 d4 d6 w' (HT.out _ (keep_below hB h)) (HN4.out.below h) (HN6.out.below h) (by have := Sz.words HZ4.out HN4.out.words; omega) (by have := Sz.words HZ6.out HN6.out.words; omega))
  have HZ11 : Hid (Sz (K + K + 1) (y + z).natAbs) := SzI.add HZ5.out HZ6.out
  have C1 := Lib.hid (fun w' (h : Below wc8.heap.size wc8 w') => HIC.out.add (y) (z) b5 b6 B5 B6 m5 m6 d5 d6 w' (HT.out _ (keep_below hB h)) (HN5.out.below h) (HN6.out.below h) (by have := Sz.words HZ5.out HN5.out.words; omega) (by have := Sz.words HZ6.out HN6.out.words; omega))
  have C2 := Lib.hid (fun w' (h : Below wc8.heap.size wc8 w') (b10 : Bool) (B10 : Option Addr) (m10 : Nat) (d10 : Nat) (hw10 : IntIn w' (x + z) b10 B10 m10 d10) (b11 : Bool) (B11 : Option Addr) (m11 : Nat) (d11 : Nat) (hw11 : IntIn w' (y + z) b11 B11 m11 d11) => icmp_of (v := k) (HAD.out) (HIC.out.cmp (x + z) (y + z) b10 b11 B10 B11 m10 m11 d10 d11 w' (HT.out _ (keep_below hB h)) hw10 hw11 (by have := Sz.words HZ10.out hw10.words; omega) (by have := Sz.words HZ11.out hw11.words; omega)))
  have HZ12 : Hid (Sz (K) (-x).natAbs) := SzI.neg HZ4.out
  have C3 := Lib.hid (fun w' (h : Below wc8.heap.size wc8 w') => HIC.out.neg (x) b4 B4 m4 d4 w' (HT.out _ (keep_below hB h)) (HN4.out.below h) (by have := Sz.words HZ4.out HN4.out.words; omega))
  have HZ13 : Hid (Sz (K) (-y).natAbs) := SzI.neg HZ5.out
  have C4 := Lib.hid (fun w' (h : Below wc8.heap.size wc8 w') => HIC.out.neg (y) b5 B5 m5 d5 w' (HT.out _ (keep_below hB h)) (HN5.out.below h) (by have := Sz.words HZ5.out HN5.out.words; omega))
  have C5 := Lib.hid (fun w' (h : Below wc8.heap.size wc8 w') (b12 : Bool) (B12 : Option Addr) (m12 : Nat) (d12 : Nat) (hw12 : IntIn w' (-x) b12 B12 m12 d12) (b13 : Bool) (B13 : Option Addr) (m13 : Nat) (d13 : Nat) (hw13 : IntIn w' (-y) b13 B13 m13 d13) => icmp_of (v := (-k)) (HOP.out) (HIC.out.cmp (-x) (-y) b12 b13 B12 B13 m12 m13 d12 d13 w' (HT.out _ (keep_below hB h)) hw12 hw13 (by have := Sz.words HZ12.out hw12.words; omega) (by have := Sz.words HZ13.out hw13.words; omega)))
  have hb0 : Below wc8.heap.size wc8 wc8.drew := (Below.refl _ wc8).drew
  have j0 : wc8.drew.cell? ⟨ad6_7, 0, none⟩ = some (.bool b4) := g7
  have j1 : wc8.drew.cell? ⟨ad6_7, 1, none⟩ = some (.slice B4 m4 d4) := e7
  have j2 : wc8.drew.cell? ⟨ad8_9, 0, none⟩ = some (.bool b6) := g9
  have j3 : wc8.drew.cell? ⟨ad8_9, 1, none⟩ = some (.slice B6 m6 d6) := e9
  have j4 : wc8.drew.cell? ⟨ad7_8, 0, none⟩ = some (.bool b5) := g8
  have j5 : wc8.drew.cell? ⟨ad7_8, 1, none⟩ = some (.slice B5 m5 d5) := e8
  refine wp_region_noPanic ?_
  refine wp_region_held_drew (S := (fun w' => Below wc8.heap.size wc8 w' ∧ w'.cell? ⟨ad6_7, 0, none⟩ = some (.bool b4) ∧ w'.cell? ⟨ad6_7, 1, none⟩ = some (.slice B4 m4 d4) ∧ w'.cell? ⟨ad8_9, 0, none⟩ = some (.bool b6) ∧ w'.cell? ⟨ad8_9, 1, none⟩ = some (.slice B6 m6 d6) ∧ w'.cell? ⟨ad7_8, 0, none⟩ = some (.bool b5) ∧ w'.cell? ⟨ad7_8, 1, none⟩ = some (.slice B5 m5 d5))) (by kernel_rfl) ?_ (fun hHeld => ?_)
  · exact ⟨hb0, j0, j1, j2, j3, j4, j5⟩
  refine wpAnyH_take (i := 0) (oi := ?_) (v := ?_) (by simp only [List.getElem?_toArray, List.getElem?_cons_succ, List.getElem?_cons_zero]; rfl) (by kernel_rfl) (by kernel_rfl) (by kernel_rfl) (fun _ _ _ h => h) (Or.inl ⟨by rfl, ?_⟩) (by with_reducible assumption) ?_
  rotate_left
  focus ((intro w hSw; (try dsimp only at hSw); go_simp); (try with_reducible rfl))
  try simp only [Act.put, List.setIfInBounds_toArray, List.set_cons_zero, List.set_cons_succ]
  refine wpAnyH_take (i := 1) (oi := ?_) (v := ?_) (by simp only [List.getElem?_toArray, List.getElem?_cons_succ, List.getElem?_cons_zero]; rfl) (by kernel_rfl) (by kernel_rfl) (by kernel_rfl) (fun _ _ _ h => h) (Or.inl ⟨by rfl, ?_⟩) (by with_reducible assumption) ?_
  rotate_left
  focus ((intro w hSw; (try dsimp only at hSw); go_simp); (try with_reducible rfl))
  try simp only [Act.put, List.setIfInBounds_toArray, List.set_cons_zero, List.set_cons_succ]
  refine wpAnyH_take (i := 3) (oi := ?_) (v := ?_) (by simp only [List.getElem?_toArray, List.getElem?_cons_succ, List.getElem?_cons_zero]; rfl) (by kernel_rfl) (by kernel_rfl) (by kernel_rfl) (fun _ _ _ h => h) (Or.inl ⟨by rfl, ?_⟩) (by with_reducible assumption) ?_
  rotate_left
  focus ((intro w hSw; (try dsimp only at hSw); go_simp); (try with_reducible rfl))
  try simp only [Act.put, List.setIfInBounds_toArray, List.set_cons_zero, List.set_cons_succ]
  refine wpAnyH_take (i := 4) (oi := ?_) (v := ?_) (by simp only [List.getElem?_toArray, List.getElem?_cons_succ, List.getElem?_cons_zero]; rfl) (by kernel_rfl) (by kernel_rfl) (by kernel_rfl) (fun _ _ _ h => h) (Or.inl ⟨by rfl, ?_⟩) (by with_reducible assumption) ?_
  rotate_left
  focus ((intro w hSw; (try dsimp only at hSw); go_simp); (try with_reducible rfl))
  try simp only [Act.put, List.setIfInBounds_toArray, List.set_cons_zero, List.set_cons_succ]
  refine wpAnyH_take (i := 7) (oi := ?_) (v := ?_) (by simp only [List.getElem?_toArray, List.getElem?_cons_succ, List.getElem?_cons_zero]; rfl) (by kernel_rfl) (by kernel_rfl) (by kernel_rfl) (fun _ _ _ h => h) (Or.inl ⟨by rfl, ?_⟩) (by with_reducible assumption) ?_
  rotate_left
  focus ((intro w hSw; (try dsimp only at hSw); go_simp); (try with_reducible rfl))
  try simp only [Act.put, List.setIfInBounds_toArray, List.set_cons_zero, List.set_cons_succ]
  refine wpAnyH_ready (rs := [2]) (by kernel_rfl) (by simp) ?_
  refine AllReadyH.cons (o := ?_) (by simp only [List.getElem?_toArray, List.getElem?_cons_succ, List.getElem?_cons_zero]; rfl) (fun K hK => ?_) AllReadyH.nil
  go_simp
  (go_at_call 17; (with_reducible refine (C0.out _ (by first | with_reducible assumption | exact And.left (by with_reducible assumption))).mono ?_); rintro e wa9 ⟨b10, B10, m10, d10, rfl, hw10, hb⟩; go_split_ands; have hBw : Below wc8.heap.size wc8 wa9 := keep_below (by with_reducible assumption) hb; have gw0 : wa9.cell? ⟨ad6_7, 0, none⟩ = some (.bool b4) := keep_cell hb (by with_reducible assumption); have gw1 : wa9.cell? ⟨ad6_7, 1, none⟩ = some (.slice B4 m4 d4) := keep_cell hb (by with_reducible assumption); have gw2 : wa9.cell? ⟨ad8_9, 0, none⟩ = some (.bool b6) := keep_cell hb (by with_reducible assumption); have gw3 : wa9.cell? ⟨ad8_9, 1, none⟩ = some (.slice B6 m6 d6) := keep_cell hb (by with_reducible assumption); have gw4 : wa9.cell? ⟨ad7_8, 0, none⟩ = some (.bool b5) := keep_cell hb (by with_reducible assumption); have gw5 : wa9.cell? ⟨ad7_8, 1, none⟩ = some (.slice B5 m5 d5) := keep_cell hb (by with_reducible assumption))
  refine hK.out _ _ ?_ (fun hHeld => ?_)
  · ((try dsimp only); (first | (with_reducible exact ⟨hb0, j0, j1, j2, j3, j4, j5⟩) | (go_split_ands; (repeat' apply And.intro); all_goals (first | with_reducible assumption | with_reducible exact keep_below (by with_reducible assumption) hb | with_reducible exact keep_cell hb (by with_reducible assumption)))))
  clear hK K
  try simp only [Act.put, List.setIfInBounds_toArray, List.set_cons_zero, List.set_cons_succ]
  refine wpAnyH_ready (rs := [5]) (by kernel_rfl) (by simp) ?_
  refine AllReadyH.cons (o := ?_) (by simp only [List.getElem?_toArray, List.getElem?_cons_succ, List.getElem?_cons_zero]; rfl) (fun K hK => ?_) AllReadyH.nil
  go_simp
  (go_at_call 17; (with_reducible refine (C1.out _ (by first | with_reducible assumption | exact And.left (by with_reducible assumption))).mono ?_); rintro e wa10 ⟨b11, B11, m11, d11, rfl, hw11, hb⟩; go_split_ands; have hBw : Below wc8.heap.size wc8 wa10 := keep_below (by with_reducible assumption) hb; have gw0 : wa10.cell? ⟨ad6_7, 0, none⟩ = some (.bool b4) := keep_cell hb (by with_reducible assumption); have gw1 : wa10.cell? ⟨ad6_7, 1, none⟩ = some (.slice B4 m4 d4) := keep_cell hb (by with_reducible assumption); have gw2 : wa10.cell? ⟨ad8_9, 0, none⟩ = some (.bool b6) := keep_cell hb (by with_reducible assumption); have gw3 : wa10.cell? ⟨ad8_9, 1, none⟩ = some (.slice B6 m6 d6) := keep_cell hb (by with_reducible assumption); have gw4 : wa10.cell? ⟨ad7_8, 0, none⟩ = some (.bool b5) := keep_cell hb (by with_reducible assumption); have gw5 : wa10.cell? ⟨ad7_8, 1, none⟩ = some (.slice B5 m5 d5) := keep_cell hb (by with_reducible assumption); (with_reducible have hw10 := hw10.below hb))
  refine hK.out _ _ ?_ (fun hHeld => ?_)
  · ((try dsimp only); (first | (with_reducible exact ⟨hb0, j0, j1, j2, j3, j4, j5⟩) | (go_split_ands; (repeat' apply And.intro); all_goals (first | with_reducible assumption | with_reducible exact keep_below (by with_reducible assumption) hb | with_reducible exact keep_cell hb (by with_reducible assumption)))))
  clear hK K
  try simp only [Act.put, List.setIfInBounds_toArray, List.set_cons_zero, List.set_cons_succ]
  refine wpAnyH_ready (rs := [6]) (by kernel_rfl) (by simp) ?_
  refine AllReadyH.cons (o := ?_) (by simp only [List.getElem?_toArray, List.getElem?_cons_succ, List.getElem?_cons_zero]; rfl) (fun K hK => ?_) AllReadyH.nil
  go_simp
  (go_at_call 22; (with_reducible refine (C2.out _ (by first | with_reducible assumption | exact And.left (by with_reducible assumption)) _ _ _ _ hw10 _ _ _ _ hw11).mono ?_); rintro e wa11 ⟨rfl, hb⟩; go_split_ands; have hBw : Below wc8.heap.size wc8 wa11 := keep_below (by with_reducible assumption) hb; have gw0 : wa11.cell? ⟨ad6_7, 0, none⟩ = some (.bool b4) := keep_cell hb (by with_reducible assumption); have gw1 : wa11.cell? ⟨ad6_7, 1, none⟩ = some (.slice B4 m4 d4) := keep_cell hb (by with_reducible assumption); have gw2 : wa11.cell? ⟨ad8_9, 0, none⟩ = some (.bool b6) := keep_cell hb (by with_reducible assumption); have gw3 : wa11.cell? ⟨ad8_9, 1, none⟩ = some (.slice B6 m6 d6) := keep_cell hb (by with_reducible assumption); have gw4 : wa11.cell? ⟨ad7_8, 0, none⟩ = some (.bool b5) := keep_cell hb (by with_reducible assumption); have gw5 : wa11.cell? ⟨ad7_8, 1, none⟩ = some (.slice B5 m5 d5) := keep_cell hb (by with_reducible assumption); (with_reducible have hw10 := hw10.below hb); (with_reducible have hw11 := hw11.below hb))
  refine hK.out _ _ ?_ (fun hHeld => ?_)
  · ((try dsimp only); (first | (with_reducible exact ⟨hb0, j0, j1, j2, j3, j4, j5⟩) | (go_split_ands; (repeat' apply And.intro); all_goals (first | with_reducible assumption | with_reducible exact keep_below (by with_reducible assumption) hb | with_reducible exact keep_cell hb (by with_reducible assumption)))))
  clear hK K
  try simp only [Act.put, List.setIfInBounds_toArray, List.set_cons_zero, List.set_cons_succ]
  refine wpAnyH_take (i := 8) (oi := ?_) (v := ?_) (by simp only [List.getElem?_toArray, List.getElem?_cons_succ, List.getElem?_cons_zero]; rfl) (by kernel_rfl) (by kernel_rfl) (by kernel_rfl) (fun _ _ _ h => h) (Or.inl ⟨by rfl, ?_⟩) (by with_reducible assumption) ?_
  rotate_left
  focus ((intro w hSw; (try dsimp only at hSw); go_simp); (try with_reducible rfl))
  try simp only [Act.put, List.setIfInBounds_toArray, List.set_cons_zero, List.set_cons_succ]
  refine wpAnyH_take (i := 9) (oi := ?_) (v := ?_) (by simp only [List.getElem?_toArray, List.getElem?_cons_succ, List.getElem?_cons_zero]; rfl) (by kernel_rfl) (by kernel_rfl) (by kernel_rfl) (fun _ _ _ h => h) (Or.inl ⟨by rfl, ?_⟩) (by with_reducible assumption) ?_
  rotate_left
  focus ((intro w hSw; (try dsimp only at hSw); go_simp); (try with_reducible rfl))
  try simp only [Act.put, List.setIfInBounds_toArray, List.set_cons_zero, List.set_cons_succ]
  refine wpAnyH_take (i := 10) (oi := ?_) (v := ?_) (by simp only [List.getElem?_toArray, List.getElem?_cons_succ, List.getElem?_cons_zero]; rfl) (by kernel_rfl) (by kernel_rfl) (by kernel_rfl) (fun _ _ _ h => h) (Or.inl ⟨by rfl, ?_⟩) (by with_reducible assumption) ?_
  rotate_left
  focus ((intro w hSw; (try dsimp only at hSw); go_simp); (try with_reducible rfl))
  try simp only [Act.put, List.setIfInBounds_toArray, List.set_cons_zero, List.set_cons_succ]
  refine wpAnyH_take (i := 12) (oi := ?_) (v := ?_) (by simp only [List.getElem?_toArray, List.getElem?_cons_succ, List.getElem?_cons_zero]; rfl) (by kernel_rfl) (by kernel_rfl) (by kernel_rfl) (fun _ _ _ h => h) (Or.inl ⟨by rfl, ?_⟩) (by with_reducible assumption) ?_
  rotate_left
  focus ((intro w hSw; (try dsimp only at hSw); go_simp); (try with_reducible rfl))
  try simp only [Act.put, List.setIfInBounds_toArray, List.set_cons_zero, List.set_cons_succ]
  refine wpAnyH_take (i := 15) (oi := ?_) (v := ?_) (by simp only [List.getElem?_toArray, List.getElem?_cons_succ, List.getElem?_cons_zero]; rfl) (by kernel_rfl) (by kernel_rfl) (by kernel_rfl) (fun _ _ _ h => h) (Or.inl ⟨by rfl, ?_⟩) (by with_reducible assumption) ?_
  rotate_left
  focus ((intro w hSw; (try dsimp only at hSw); go_simp); (try with_reducible rfl))
  try simp only [Act.put, List.setIfInBounds_toArray, List.set_cons_zero, List.set_cons_succ]
  refine wpAnyH_take (i := 16) (oi := ?_) (v := ?_) (by simp only [List.getElem?_toArray, List.getElem?_cons_succ, List.getElem?_cons_zero]; rfl) (by kernel_rfl) (by kernel_rfl) (by kernel_rfl) (fun _ _ _ h => h) (Or.inl ⟨by rfl, ?_⟩) (by with_reducible assumption) ?_
  rotate_left
  focus ((intro w hSw; (try dsimp only at hSw); go_simp); (try with_reducible rfl))
  try simp only [Act.put, List.setIfInBounds_toArray, List.set_cons_zero, List.set_cons_succ]
  refine wpAnyH_ready (rs := [11]) (by kernel_rfl) (by simp) ?_
  refine AllReadyH.cons (o := ?_) (by simp only [List.getElem?_toArray, List.getElem?_cons_succ, List.getElem?_cons_zero]; rfl) (fun K hK => ?_) AllReadyH.nil
  go_simp
  (go_at_call 15; (with_reducible refine (C3.out _ (by first | with_reducible assumption | exact And.left (by with_reducible assumption))).mono ?_); rintro e wa12 ⟨b12, B12, m12, d12, rfl, hw12, hb⟩; go_split_ands; have hBw : Below wc8.heap.size wc8 wa12 := keep_below (by with_reducible assumption) hb; have gw0 : wa12.cell? ⟨ad6_7, 0, none⟩ = some (.bool b4) := keep_cell hb (by with_reducible assumption); have gw1 : wa12.cell? ⟨ad6_7, 1, none⟩ = some (.slice B4 m4 d4) := keep_cell hb (by with_reducible assumption); have gw2 : wa12.cell? ⟨ad8_9, 0, none⟩ = some (.bool b6) := keep_cell hb (by with_reducible assumption); have gw3 : wa12.cell? ⟨ad8_9, 1, none⟩ = some (.slice B6 m6 d6) := keep_cell hb (by with_reducible assumption); have gw4 : wa12.cell? ⟨ad7_8, 0, none⟩ = some (.bool b5) := keep_cell hb (by with_reducible assumption); have gw5 : wa12.cell? ⟨ad7_8, 1, none⟩ = some (.slice B5 m5 d5) := keep_cell hb (by with_reducible assumption); (with_reducible have hw10 := hw10.below hb); (with_reducible have hw11 := hw11.below hb))
  refine hK.out _ _ ?_ (fun hHeld => ?_)
  · ((try dsimp only); (first | (with_reducible exact ⟨hb0, j0, j1, j2, j3, j4, j5⟩) | (go_split_ands; (repeat' apply And.intro); all_goals (first | with_reducible assumption | with_reducible exact keep_below (by with_reducible assumption) hb | with_reducible exact keep_cell hb (by with_reducible assumption)))))
  clear hK K
  try simp only [Act.put, List.setIfInBounds_toArray, List.set_cons_zero, List.set_cons_succ]
  refine wpAnyH_ready (rs := [13]) (by kernel_rfl) (by simp) ?_
  refine AllReadyH.cons (o := ?_) (by simp only [List.getElem?_toArray, List.getElem?_cons_succ, List.getElem?_cons_zero]; rfl) (fun K hK => ?_) AllReadyH.nil
  go_simp
  (go_at_call 15; (with_reducible refine (C4.out _ (by first | with_reducible assumption | exact And.left (by with_reducible assumption))).mono ?_); rintro e wa13 ⟨b13, B13, m13, d13, rfl, hw13, hb⟩; go_split_ands; have hBw : Below wc8.heap.size wc8 wa13 := keep_below (by with_reducible assumption) hb; have gw0 : wa13.cell? ⟨ad6_7, 0, none⟩ = some (.bool b4) := keep_cell hb (by with_reducible assumption); have gw1 : wa13.cell? ⟨ad6_7, 1, none⟩ = some (.slice B4 m4 d4) := keep_cell hb (by with_reducible assumption); have gw2 : wa13.cell? ⟨ad8_9, 0, none⟩ = some (.bool b6) := keep_cell hb (by with_reducible assumption); have gw3 : wa13.cell? ⟨ad8_9, 1, none⟩ = some (.slice B6 m6 d6) := keep_cell hb (by with_reducible assumption); have gw4 : wa13.cell? ⟨ad7_8, 0, none⟩ = some (.bool b5) := keep_cell hb (by with_reducible assumption); have gw5 : wa13.cell? ⟨ad7_8, 1, none⟩ = some (.slice B5 m5 d5) := keep_cell hb (by with_reducible assumption); (with_reducible have hw10 := hw10.below hb); (with_reducible have hw11 := hw11.below hb); (with_reducible have hw12 := hw12.below hb))
  refine hK.out _ _ ?_ (fun hHeld => ?_)
  · ((try dsimp only); (first | (with_reducible exact ⟨hb0, j0, j1, j2, j3, j4, j5⟩) | (go_split_ands; (repeat' apply And.intro); all_goals (first | with_reducible assumption | with_reducible exact keep_below (by with_reducible assumption) hb | with_reducible exact keep_cell hb (by with_reducible assumption)))))
  clear hK K
  try simp only [Act.put, List.setIfInBounds_toArray, List.set_cons_zero, List.set_cons_succ]
  refine wpAnyH_ready (rs := [14]) (by kernel_rfl) (by simp) ?_
  refine AllReadyH.cons (o := ?_) (by simp only [List.getElem?_toArray, List.getElem?_cons_succ, List.getElem?_cons_zero]; rfl) (fun K hK => ?_) AllReadyH.nil
  go_simp
  (go_at_call 22; (with_reducible refine (C5.out _ (by first | with_reducible assumption | exact And.left (by with_reducible assumption)) _ _ _ _ hw12 _ _ _ _ hw13).mono ?_); rintro e wa14 ⟨rfl, hb⟩; go_split_ands; have hBw : Below wc8.heap.size wc8 wa14 := keep_below (by with_reducible assumption) hb; have gw0 : wa14.cell? ⟨ad6_7, 0, none⟩ = some (.bool b4) := keep_cell hb (by with_reducible assumption); have gw1 : wa14.cell? ⟨ad6_7, 1, none⟩ = some (.slice B4 m4 d4) := keep_cell hb (by with_reducible assumption); have gw2 : wa14.cell? ⟨ad8_9, 0, none⟩ = some (.bool b6) := keep_cell hb (by with_reducible assumption); have gw3 : wa14.cell? ⟨ad8_9, 1, none⟩ = some (.slice B6 m6 d6) := keep_cell hb (by with_reducible assumption); have gw4 : wa14.cell? ⟨ad7_8, 0, none⟩ = some (.bool b5) := keep_cell hb (by with_reducible assumption); have gw5 : wa14.cell? ⟨ad7_8, 1, none⟩ = some (.slice B5 m5 d5) := keep_cell hb (by with_reducible assumption); (with_reducible have hw10 := hw10.below hb); (with_reducible have hw11 := hw11.below hb); (with_reducible have hw12 := hw12.below hb); (with_reducible have hw13 := hw13.below hb))
  refine hK.out _ _ ?_ (fun hHeld => ?_)
  · ((try dsimp only); (first | (with_reducible exact ⟨hb0, j0, j1, j2, j3, j4, j5⟩) | (go_split_ands; (repeat' apply And.intro); all_goals (first | with_reducible assumption | with_reducible exact keep_below (by with_reducible assumption) hb | with_reducible exact keep_cell hb (by with_reducible assumption)))))
  clear hK K
  try simp only [Act.put, List.setIfInBounds_toArray, List.set_cons_zero, List.set_cons_succ]
  refine wpAnyH_take (i := 17) (oi := ?_) (v := ?_) (by simp only [List.getElem?_toArray, List.getElem?_cons_succ, List.getElem?_cons_zero]; rfl) (by kernel_rfl) (by kernel_rfl) (by kernel_rfl) (fun _ _ _ h => h) (Or.inl ⟨by rfl, ?_⟩) (by with_reducible assumption) ?_
  rotate_left
  focus ((intro w hSw; (try dsimp only at hSw); go_simp); (try with_reducible rfl))
  try simp only [Act.put, List.setIfInBounds_toArray, List.set_cons_zero, List.set_cons_succ]
  refine wpAnyH_take (i := 18) (oi := ?_) (v := ?_) (by simp only [List.getElem?_toArray, List.getElem?_cons_succ, List.getElem?_cons_zero]; rfl) (by kernel_rfl) (by kernel_rfl) (by kernel_rfl) (fun _ _ _ h => h) (Or.inl ⟨by rfl, ?_⟩) (by with_reducible assumption) ?_
  rotate_left
  focus ((intro w hSw; (try dsimp only at hSw); go_simp); (try with_reducible rfl))
  try simp only [Act.put, List.setIfInBounds_toArray, List.set_cons_zero, List.set_cons_succ]
  refine wpAnyH_take (i := 19) (oi := ?_) (v := ?_) (by simp only [List.getElem?_toArray, List.getElem?_cons_succ, List.getElem?_cons_zero]; rfl) (by kernel_rfl) (by kernel_rfl) (by kernel_rfl) (fun _ _ _ h => h) (Or.inl ⟨by rfl, ?_⟩) (by with_reducible assumption) ?_
  rotate_left
  focus ((intro w hSw; (try dsimp only at hSw); go_simp); (try with_reducible rfl))
  try simp only [Act.put, List.setIfInBounds_toArray, List.set_cons_zero, List.set_cons_succ]
  refine wpAnyH_done (by kernel_rfl) ?_ _
  refine NoPanic.normal ?_
  clear hb
  have hB := keep_below hB hBw
  have g1 := keep_cell hBw g1
  have e1 := keep_cell hBw e1
  have g2 := keep_cell hBw g2
  have e2 := keep_cell hBw e2
  have g3 := keep_cell hBw g3
  have e3 := keep_cell hBw e3
  have g7 := keep_cell hBw g7
  have e7 := keep_cell hBw e7
  have g8 := keep_cell hBw g8
  have e8 := keep_cell hBw e8
  have g9 := keep_cell hBw g9
  have e9 := keep_cell hBw e9
  have HN4 := Lib.hid (HN4.out.below hBw)
  have HN5 := Lib.hid (HN5.out.below hBw)
  have HN6 := Lib.hid (HN6.out.below hBw)
  have HN10 := Lib.hid hw10
  have HN11 := Lib.hid hw11
  have HN12 := Lib.hid hw12
  have HN13 := Lib.hid hw13
  clear hb0 hBw gw0 gw1 gw2 gw3 gw4 gw5 hw10 hw11 hw12 hw13
  clear j0
  clear j1
  clear j2
  clear j3
  clear j4
  clear j5
  clear C0 C1 C2 C3 C4 C5
  go_wp2
  go_ret
  exact ⟨by first | rfl | simp, hB⟩
set_option maxHeartbeats 16000000 in
theorem integerOrder_2 {T : World → Prop} (hTb : ∀ w w', T w → Below w.heap.size w w' → T w') (IC : IntC T) (s0 : Bool) (A0 : Option Addr) (n0 c0 : Nat) (l0 : List Nat) (s1 : Bool) (A1 : Option Addr) (n1 c1 : Nat) (l1 : List Nat) (s2 : Bool) (A2 : Option Addr) (n2 c2 : Nat) (l2 : List Nat) (w : World) (h0 : ArgWords w A0 n0 c0 l0) (h1 : ArgWords w A1 n1 c1 l1) (h2 : ArgWords w A2 n2 c2 l2) (hp : cmpZ (zOf s0 l0) (zOf s1 l1) ≤ 0) (hq : 0 < cmpZ (zOf s1 l1) (zOf s2 l2)) (hT : T w) :
    Calls Try.prog 9 #[.agg #[.bool s0, .slice A0 n0 c0], .agg #[.bool s1, .slice A1 n1 c1], .agg #[.bool s2, .slice A2 n2 c2]] w fun e w' => e = .returned (.bool true) ∧ Below w.heap.size w w' := by
  have HAW := Lib.hid (fun w' (hb : Below w.heap.size w w') => law7_awake hTb IC w' (hTb w w' hT hb))
  have HIC := Lib.hid IC
  have HT := Lib.hid (fun w' (hb : Below w.heap.size w w') => hTb w w' hT hb)
  obtain ⟨K, hK⟩ : ∃ K, 1048576 = K := ⟨_, rfl⟩
  have hKK : K ≤ 1048576 := by omega
  have HM0 := Lib.hid (fun w' (hb : Below w.heap.size w w') => law7_make hTb IC s0 A0 n0 c0 l0 w' ⟨(h0.reads.below hb).more hb.size, h0.dgs, h0.fits, h0.small⟩ (hTb w w' hT hb))
  have S0 : Sz 1048576 (zOf s0 l0).natAbs := by rw [zOf_abs]; exact arg_sz h0
  rw [hK] at S0
  obtain ⟨x, hz0⟩ : ∃ x, zOf s0 l0 = x := ⟨_, rfl⟩
  rw [hz0] at HM0 S0 hp
  have HS0 := Lib.hid S0
  have HM1 := Lib.hid (fun w' (hb : Below w.heap.size w w') => law7_make hTb IC s1 A1 n1 c1 l1 w' ⟨(h1.reads.below hb).more hb.size, h1.dgs, h1.fits, h1.small⟩ (hTb w w' hT hb))
  have S1 : Sz 1048576 (zOf s1 l1).natAbs := by rw [zOf_abs]; exact arg_sz h1
  rw [hK] at S1
  obtain ⟨y, hz1⟩ : ∃ x, zOf s1 l1 = x := ⟨_, rfl⟩
  rw [hz1] at HM1 S1 hp hq
  have HS1 := Lib.hid S1
  have HM2 := Lib.hid (fun w' (hb : Below w.heap.size w w') => law7_make hTb IC s2 A2 n2 c2 l2 w' ⟨(h2.reads.below hb).more hb.size, h2.dgs, h2.fits, h2.small⟩ (hTb w w' hT hb))
  have S2 : Sz 1048576 (zOf s2 l2).natAbs := by rw [zOf_abs]; exact arg_sz h2
  rw [hK] at S2
  obtain ⟨z, hz2⟩ : ∃ x, zOf s2 l2 = x := ⟨_, rfl⟩
  rw [hz2] at HM2 S2 hq
  have HS2 := Lib.hid S2
  have hk1 := cmpZ_bd x y
  have HZN : Hid (cmpZ y x = -cmpZ x y) := cmpZ_neg x y
  have HAD : Hid (cmpZ (x + z) (y + z) = cmpZ x y) := cmpZ_add x y z
  have HOP : Hid (cmpZ (-x) (-y) = -cmpZ x y) := cmpZ_opp x y
  obtain ⟨k, hk⟩ : ∃ k, cmpZ x y = k := ⟨_, rfl⟩
  rw [hk] at hk1 HZN HAD HOP hp
  have HK := Lib.hid hk
  clear hk
  have kw1 : IntKind.i64.wrap (-(-k)) = k := by rw [Int.neg_neg]; exact IntWalk.i64_in _ (by omega)
  have kw2 : IntKind.i64.wrap (-k) = -k := IntWalk.i64_in _ (by omega)
  have kb1 : (k != k) = false := by simp
  have kb2 : decide (k ≤ 0) = true := by simp; omega
  obtain ⟨m, hm⟩ : ∃ k, cmpZ y z = k := ⟨_, rfl⟩
  rw [hm] at hq
  have HE2 := Lib.hid hm
  clear hm
  have kb3 : decide (m ≤ 0) = false := by simp; omega
  have Hhp := Lib.hid hp
  have Hhq := Lib.hid hq
  clear IC hT h0 hz0 S0 h1 hz1 S1 h2 hz2 S2 hp hq hK
  go_enter Try.func9, Try.ntmps9
  have hB := Below.refl w.heap.size w
  obtain ⟨bx1, bx2, bx3, bx4, bz⟩ := box3 w 24 24 24 #[.bool s0, .slice A0 n0 c0] #[.bool s1, .slice A1 n1 c1] #[.bool s2, .slice A2 n2 c2]
  have hB := keep_below hB bx1
  have g1 : (((w.alloc (.cells #[.bool s0, .slice A0 n0 c0] 24)).alloc (.cells #[.bool s1, .slice A1 n1 c1] 24)).alloc (.cells #[.bool s2, .slice A2 n2 c2] 24)).cell? ⟨w.heap.size, 0, none⟩ = some (.bool s0) := bx2.cell 0
  have e1 : (((w.alloc (.cells #[.bool s0, .slice A0 n0 c0] 24)).alloc (.cells #[.bool s1, .slice A1 n1 c1] 24)).alloc (.cells #[.bool s2, .slice A2 n2 c2] 24)).cell? ⟨w.heap.size, 1, none⟩ = some (.slice A0 n0 c0) := bx2.cell 1
  have g2 : (((w.alloc (.cells #[.bool s0, .slice A0 n0 c0] 24)).alloc (.cells #[.bool s1, .slice A1 n1 c1] 24)).alloc (.cells #[.bool s2, .slice A2 n2 c2] 24)).cell? ⟨w.heap.size + 1, 0, none⟩ = some (.bool s1) := bx3.cell 0
  have e2 : (((w.alloc (.cells #[.bool s0, .slice A0 n0 c0] 24)).alloc (.cells #[.bool s1, .slice A1 n1 c1] 24)).alloc (.cells #[.bool s2, .slice A2 n2 c2] 24)).cell? ⟨w.heap.size + 1, 1, none⟩ = some (.slice A1 n1 c1) := bx3.cell 1
  have g3 : (((w.alloc (.cells #[.bool s0, .slice A0 n0 c0] 24)).alloc (.cells #[.bool s1, .slice A1 n1 c1] 24)).alloc (.cells #[.bool s2, .slice A2 n2 c2] 24)).cell? ⟨w.heap.size + 1 + 1, 0, none⟩ = some (.bool s2) := bx4.cell 0
  have e3 : (((w.alloc (.cells #[.bool s0, .slice A0 n0 c0] 24)).alloc (.cells #[.bool s1, .slice A1 n1 c1] 24)).alloc (.cells #[.bool s2, .slice A2 n2 c2] 24)).cell? ⟨w.heap.size + 1 + 1, 1, none⟩ = some (.slice A2 n2 c2) := bx4.cell 1
  clear bx1 bx2 bx3 bx4 bz
  go_wp2_with fail
  generalize ((w.alloc (.cells #[.bool s0, .slice A0 n0 c0] 24)).alloc (.cells #[.bool s1, .slice A1 n1 c1] 24)).alloc (.cells #[.bool s2, .slice A2 n2 c2] 24) = W1 at *
  (with_reducible refine (HAW.out _ hB).mono ?_)
  rintro e wc2 ⟨rfl, hb⟩
  have hB := keep_below hB hb
  have g1 := keep_cell hb g1
  have e1 := keep_cell hb e1
  have g2 := keep_cell hb g2
  have e2 := keep_cell hb e2
  have g3 := keep_cell hb g3
  have e3 := keep_cell hb e3
  clear hb 
  go_wp2_with fail
  have HZ4 : Hid (Sz (K) (x).natAbs) := HS0.out
  have C0 := Lib.hid (fun w' (h : Below wc2.heap.size wc2 w') => HM0.out _ (keep_below hB h))
  have HZ5 : Hid (Sz (K) (y).natAbs) := HS1.out
  have C1 := Lib.hid (fun w' (h : Below wc2.heap.size wc2 w') => HM1.out _ (keep_below hB h))
  have HZ6 : Hid (Sz (K) (z).natAbs) := HS2.out
  have C2 := Lib.hid (fun w' (h : Below wc2.heap.size wc2 w') => HM2.out _ (keep_below hB h))
  have G0 := Lib.hid (fun w' (h : Below wc2.heap.size wc2 w') => (⟨keep_cell h g1, keep_cell h e1⟩ : w'.cell? ⟨w.heap.size, 0, none⟩ = some (.bool s0) ∧ w'.cell? ⟨w.heap.size, 1, none⟩ = some (.slice A0 n0 c0)))
  have G1 := Lib.hid (fun w' (h : Below wc2.heap.size wc2 w') => (⟨keep_cell h g2, keep_cell h e2⟩ : w'.cell? ⟨w.heap.size + 1, 0, none⟩ = some (.bool s1) ∧ w'.cell? ⟨w.heap.size + 1, 1, none⟩ = some (.slice A1 n1 c1)))
  have G2 := Lib.hid (fun w' (h : Below wc2.heap.size wc2 w') => (⟨keep_cell h g3, keep_cell h e3⟩ : w'.cell? ⟨w.heap.size + 1 + 1, 0, none⟩ = some (.bool s2) ∧ w'.cell? ⟨w.heap.size + 1 + 1, 1, none⟩ = some (.slice A2 n2 c2)))
  refine wp_region_noPanic ?_
  refine wp_region_held_drew (S := (fun w' => Below wc2.heap.size wc2 w')) (by kernel_rfl) ?_ (fun hHeld => ?_)
  · exact (Below.refl _ wc2).drew
  refine wpAnyH_take (i := 0) (oi := ?_) (v := ?_) (by simp only [List.getElem?_toArray, List.getElem?_cons_succ, List.getElem?_cons_zero]; rfl) (by kernel_rfl) (by kernel_rfl) (by kernel_rfl) (fun _ _ _ h => h) (Or.inl ⟨by rfl, ?_⟩) (by with_reducible assumption) ?_
  rotate_left
  focus ((intro wz hSw; (try dsimp only at hSw); obtain ⟨z0, z1⟩ := G0.out wz hSw; go_simp); (try with_reducible rfl))
  try simp only [Act.put, List.setIfInBounds_toArray, List.set_cons_zero, List.set_cons_succ]
  refine wpAnyH_take (i := 2) (oi := ?_) (v := ?_) (by simp only [List.getElem?_toArray, List.getElem?_cons_succ, List.getElem?_cons_zero]; rfl) (by kernel_rfl) (by kernel_rfl) (by kernel_rfl) (fun _ _ _ h => h) (Or.inl ⟨by rfl, ?_⟩) (by with_reducible assumption) ?_
  rotate_left
  focus ((intro wz hSw; (try dsimp only at hSw); obtain ⟨z0, z1⟩ := G1.out wz hSw; go_simp); (try with_reducible rfl))
  try simp only [Act.put, List.setIfInBounds_toArray, List.set_cons_zero, List.set_cons_succ]
  refine wpAnyH_take (i := 4) (oi := ?_) (v := ?_) (by simp only [List.getElem?_toArray, List.getElem?_cons_succ, List.getElem?_cons_zero]; rfl) (by kernel_rfl) (by kernel_rfl) (by kernel_rfl) (fun _ _ _ h => h) (Or.inl ⟨by rfl, ?_⟩) (by with_reducible assumption) ?_
  rotate_left
  focus ((intro wz hSw; (try dsimp only at hSw); obtain ⟨z0, z1⟩ := G2.out wz hSw; go_simp); (try with_reducible rfl))
  try simp only [Act.put, List.setIfInBounds_toArray, List.set_cons_zero, List.set_cons_succ]
  refine wpAnyH_meet (L := #[true, true, true, true, true, true, true, true, true, false, false, false])
    (J := fun a0 l a w' => ∃ (fl1 fl3 fl5 fl6 fl7 fl8 : Bool) (vl14 vl16 vl18 vl7 vl8 vl9 : Value) (b4 : Bool) (B4 : Option Addr) (m4 d4 : Nat) (b5 : Bool) (B5 : Option Addr) (m5 d5 : Nat) (b6 : Bool) (B6 : Option Addr) (m6 d6 ad6 ad7 ad8 : Nat), l = #[true, fl1, true, fl3, true, fl5, fl6, fl7, fl8, false, false, false] ∧ a = (((((a0.put (some 14) vl14).put (some 16) vl16).put (some 18) vl18).put (some 7) vl7).put (some 8) vl8).put (some 9) vl9 ∧ Hid (Below wc2.heap.size wc2 w') ∧
      Hid (Gd fl1 (vl14 = .agg #[.bool b4, .slice B4 m4 d4] ∧ IntIn w' (x) b4 B4 m4 d4)) ∧
      Hid (Gd fl3 (vl16 = .agg #[.bool b5, .slice B5 m5 d5] ∧ IntIn w' (y) b5 B5 m5 d5)) ∧
      Hid (Gd fl5 (vl18 = .agg #[.bool b6, .slice B6 m6 d6] ∧ IntIn w' (z) b6 B6 m6 d6)) ∧
      Hid (Gd fl6 (Made wc2.heap.size w' ad6 29 #[.bool false, .slice none 0 0] vl7)) ∧
      Hid (Gd fl7 (Made wc2.heap.size w' ad7 29 #[.bool false, .slice none 0 0] vl8)) ∧
      Hid (Gd fl8 (Made wc2.heap.size w' ad8 29 #[.bool false, .slice none 0 0] vl9)) ∧
      Hid (Gd fl6 (Gd fl7 (ad6 ≠ ad7))) ∧
      Hid (Gd fl6 (Gd fl8 (ad6 ≠ ad8))) ∧
      Hid (Gd fl7 (Gd fl8 (ad7 ≠ ad8))) ∧
      Hid (Gd fl3 (fl1 = true)) ∧
      Hid (Gd fl5 (fl3 = true)))
    (by rfl) ?_ ?_ ?_ ?_
  · exact ⟨false, false, false, false, false, false, _, _, _, _, _, _, false, none, 0, 0, false, none, 0, 0, false, none, 0, 0, 0, 0, 0, by kernel_rfl, by rfl, hHeld, Gd.no, Gd.no, Gd.no, Gd.no, Gd.no, Gd.no, Gd.no, Gd.no, Gd.no, Gd.no, Gd.no⟩
  · rintro l a w' ⟨fl1, fl3, fl5, fl6, fl7, fl8, vl14, vl16, vl18, vl7, vl8, vl9, b4, B4, m4, d4, b5, B5, m5, d5, b6, B6, m6, d6, ad6, ad7, ad8, rfl, rfl, -⟩ hr
    have xx1 : fl1 = true := by refine all_listed (i := 1) (o := ?_) hr (by simp only [List.getElem?_toArray, List.getElem?_cons_succ, List.getElem?_cons_zero]; rfl) ?_; rfl
    subst xx1
    have xx3 : fl3 = true := by refine all_listed (i := 3) (o := ?_) hr (by simp only [List.getElem?_toArray, List.getElem?_cons_succ, List.getElem?_cons_zero]; rfl) ?_; rfl
    subst xx3
    have xx5 : fl5 = true := by refine all_listed (i := 5) (o := ?_) hr (by simp only [List.getElem?_toArray, List.getElem?_cons_succ, List.getElem?_cons_zero]; rfl) ?_; rfl
    subst xx5
    have xx6 : fl6 = true := by refine all_listed (i := 6) (o := ?_) hr (by simp only [List.getElem?_toArray, List.getElem?_cons_succ, List.getElem?_cons_zero]; rfl) ?_; rfl
    subst xx6
    have xx7 : fl7 = true := by refine all_listed (i := 7) (o := ?_) hr (by simp only [List.getElem?_toArray, List.getElem?_cons_succ, List.getElem?_cons_zero]; rfl) ?_; rfl
    subst xx7
    have xx8 : fl8 = true := by refine all_listed (i := 8) (o := ?_) hr (by simp only [List.getElem?_toArray, List.getElem?_cons_succ, List.getElem?_cons_zero]; rfl) ?_; rfl
    subst xx8
    rfl
  · rintro l a w' i ⟨fl1, fl3, fl5, fl6, fl7, fl8, vl14, vl16, vl18, vl7, vl8, vl9, b4, B4, m4, d4, b5, B5, m5, d5, b6, B6, m6, d6, ad6, ad7, ad8, rfl, rfl, hBi, qf1, qf3, qf5, qf6, qf7, qf8, qn6_7, qn6_8, qn7_8, qd3_1, qd5_3⟩ hne hi
    have hlt : i < 12 := ready_lt hi
    rcases (show i = 0 ∨ i = 1 ∨ i = 2 ∨ i = 3 ∨ i = 4 ∨ i = 5 ∨ i = 6 ∨ i = 7 ∨ i = 8 ∨ i = 9 ∨ i = 10 ∨ i = 11 by omega) with rfl | rfl | rfl | rfl | rfl | rfl | rfl | rfl | rfl | rfl | rfl | rfl
    · have u : true = false := ready_un hi
      cases u
    · have u : fl1 = false := ready_un hi
      subst u
      refine wpOp_shut (by simp only [List.getElem?_toArray, List.getElem?_cons_succ, List.getElem?_cons_zero]; rfl) (fun K' hK => ?_)
      try simp only [Act.put, List.setIfInBounds_toArray, List.set_cons_zero, List.set_cons_succ]
      go_simp
      refine (C0.out w' hBi.out).mono ?_
      rintro e w2 ⟨nb4, nB4, nm4, nd4, rfl, nhw4, hb⟩
      exact hK.out _ _ ⟨keep_below hBi.out hb, true, fl3, fl5, fl6, fl7, fl8, _, vl16, vl18, vl7, vl8, vl9, nb4, nB4, nm4, nd4, b5, B5, m5, d5, b6, B6, m6, d6, ad6, ad7, ad8, by rfl, by rfl, keep_below hBi.out hb, Gd.yes ⟨rfl, nhw4⟩, qf3.out.mono fun h => ⟨h.1, h.2.below hb⟩, qf5.out.mono fun h => ⟨h.1, h.2.below hb⟩, qf6.out.mono fun h => h.keep hb, qf7.out.mono fun h => h.keep hb, qf8.out.mono fun h => h.keep hb, qn6_7, qn6_8, qn7_8, fun _ => rfl, qd5_3⟩
    · have u : true = false := ready_un hi
      cases u
    · have u : fl3 = false := ready_un hi
      subst u
      have yy1 : fl1 = true := by refine ready_dep (k := 1) (o := ?_) hi (by simp only [List.getElem?_toArray, List.getElem?_cons_succ, List.getElem?_cons_zero]; rfl) rfl rfl
      subst yy1
      refine wpOp_shut (by simp only [List.getElem?_toArray, List.getElem?_cons_succ, List.getElem?_cons_zero]; rfl) (fun K' hK => ?_)
      try simp only [Act.put, List.setIfInBounds_toArray, List.set_cons_zero, List.set_cons_succ]
      go_simp
      refine (C1.out w' hBi.out).mono ?_
      rintro e w2 ⟨nb5, nB5, nm5, nd5, rfl, nhw5, hb⟩
      exact hK.out _ _ ⟨keep_below hBi.out hb, true, true, fl5, fl6, fl7, fl8, vl14, _, vl18, vl7, vl8, vl9, b4, B4, m4, d4, nb5, nB5, nm5, nd5, b6, B6, m6, d6, ad6, ad7, ad8, by rfl, by rfl, keep_below hBi.out hb, qf1.out.mono fun h => ⟨h.1, h.2.below hb⟩, Gd.yes ⟨rfl, nhw5⟩, qf5.out.mono fun h => ⟨h.1, h.2.below hb⟩, qf6.out.mono fun h => h.keep hb, qf7.out.mono fun h => h.keep hb, qf8.out.mono fun h => h.keep hb, qn6_7, qn6_8, qn7_8, Gd.yes rfl, fun _ => rfl⟩
    · have u : true = false := ready_un hi
      cases u
    · have u : fl5 = false := ready_un hi
      subst u
      have yy3 : fl3 = true := by refine ready_dep (k := 1) (o := ?_) hi (by simp only [List.getElem?_toArray, List.getElem?_cons_succ, List.getElem?_cons_zero]; rfl) rfl rfl
      subst yy3
      refine wpOp_shut (by simp only [List.getElem?_toArray, List.getElem?_cons_succ, List.getElem?_cons_zero]; rfl) (fun K' hK => ?_)
      try simp only [Act.put, List.setIfInBounds_toArray, List.set_cons_zero, List.set_cons_succ]
      go_simp
      refine (C2.out w' hBi.out).mono ?_
      rintro e w2 ⟨nb6, nB6, nm6, nd6, rfl, nhw6, hb⟩
      exact hK.out _ _ ⟨keep_below hBi.out hb, fl1, true, true, fl6, fl7, fl8, vl14, vl16, _, vl7, vl8, vl9, b4, B4, m4, d4, b5, B5, m5, d5, nb6, nB6, nm6, nd6, ad6, ad7, ad8, by rfl, by rfl, keep_below hBi.out hb, qf1.out.mono fun h => ⟨h.1, h.2.below hb⟩, qf3.out.mono fun h => ⟨h.1, h.2.below hb⟩, Gd.yes ⟨rfl, nhw6⟩, qf6.out.mono fun h => h.keep hb, qf7.out.mono fun h => h.keep hb, qf8.out.mono fun h => h.keep hb, qn6_7, qn6_8, qn7_8, qd3_1, Gd.yes rfl⟩
    · have u : fl6 = false := ready_un hi
      subst u
      refine wpOp_shut (by simp only [List.getElem?_toArray, List.getElem?_cons_succ, List.getElem?_cons_zero]; rfl) (fun K' hK => ?_)
      try simp only [Act.put, List.setIfInBounds_toArray, List.set_cons_zero, List.set_cons_succ]
      go_simp
      have hb := up_alloc w' (.cells #[.bool false, .slice none 0 0] 29)
      exact hK.out _ _ ⟨keep_below hBi.out hb, fl1, fl3, fl5, true, fl7, fl8, vl14, vl16, vl18, _, vl8, vl9, b4, B4, m4, d4, b5, B5, m5, d5, b6, B6, m6, d6, _, ad7, ad8, by rfl, by rfl, keep_below hBi.out hb, qf1.out.mono fun h => ⟨h.1, h.2.below hb⟩, qf3.out.mono fun h => ⟨h.1, h.2.below hb⟩, qf5.out.mono fun h => ⟨h.1, h.2.below hb⟩, Gd.yes (Made.new _ _ _ _ hBi.out.size), qf7.out.mono fun h => h.keep hb, qf8.out.mono fun h => h.keep hb, Gd.yes (qf7.out.mono fun h => by have := h.lt; omega), Gd.yes (qf8.out.mono fun h => by have := h.lt; omega), qn7_8, qd3_1, qd5_3⟩
    · have u : fl7 = false := ready_un hi
      subst u
      refine wpOp_shut (by simp only [List.getElem?_toArray, List.getElem?_cons_succ, List.getElem?_cons_zero]; rfl) (fun K' hK => ?_)
      try simp only [Act.put, List.setIfInBounds_toArray, List.set_cons_zero, List.set_cons_succ]
      go_simp
      have hb := up_alloc w' (.cells #[.bool false, .slice none 0 0] 29)
      exact hK.out _ _ ⟨keep_below hBi.out hb, fl1, fl3, fl5, fl6, true, fl8, vl14, vl16, vl18, vl7, _, vl9, b4, B4, m4, d4, b5, B5, m5, d5, b6, B6, m6, d6, ad6, _, ad8, by rfl, by rfl, keep_below hBi.out hb, qf1.out.mono fun h => ⟨h.1, h.2.below hb⟩, qf3.out.mono fun h => ⟨h.1, h.2.below hb⟩, qf5.out.mono fun h => ⟨h.1, h.2.below hb⟩, qf6.out.mono fun h => h.keep hb, Gd.yes (Made.new _ _ _ _ hBi.out.size), qf8.out.mono fun h => h.keep hb, qf6.out.mono fun h => Gd.yes (by have := h.lt; omega), qn6_8, Gd.yes (qf8.out.mono fun h => by have := h.lt; omega), qd3_1, qd5_3⟩
    · have u : fl8 = false := ready_un hi
      subst u
      refine wpOp_shut (by simp only [List.getElem?_toArray, List.getElem?_cons_succ, List.getElem?_cons_zero]; rfl) (fun K' hK => ?_)
      try simp only [Act.put, List.setIfInBounds_toArray, List.set_cons_zero, List.set_cons_succ]
      go_simp
      have hb := up_alloc w' (.cells #[.bool false, .slice none 0 0] 29)
      exact hK.out _ _ ⟨keep_below hBi.out hb, fl1, fl3, fl5, fl6, fl7, true, vl14, vl16, vl18, vl7, vl8, _, b4, B4, m4, d4, b5, B5, m5, d5, b6, B6, m6, d6, ad6, ad7, _, by rfl, by rfl, keep_below hBi.out hb, qf1.out.mono fun h => ⟨h.1, h.2.below hb⟩, qf3.out.mono fun h => ⟨h.1, h.2.below hb⟩, qf5.out.mono fun h => ⟨h.1, h.2.below hb⟩, qf6.out.mono fun h => h.keep hb, qf7.out.mono fun h => h.keep hb, Gd.yes (Made.new _ _ _ _ hBi.out.size), qn6_7, qf6.out.mono fun h => Gd.yes (by have := h.lt; omega), qf7.out.mono fun h => Gd.yes (by have := h.lt; omega), qd3_1, qd5_3⟩
    · have yy1 : fl1 = true := by refine ready_dep (k := 1) (o := ?_) hi (by simp only [List.getElem?_toArray, List.getElem?_cons_succ, List.getElem?_cons_zero]; rfl) rfl rfl
      subst yy1
      have yy5 : fl5 = true := by refine ready_dep (k := 2) (o := ?_) hi (by simp only [List.getElem?_toArray, List.getElem?_cons_succ, List.getElem?_cons_zero]; rfl) rfl rfl
      subst yy5
      have yy6 : fl6 = true := by refine ready_dep (k := 0) (o := ?_) hi (by simp only [List.getElem?_toArray, List.getElem?_cons_succ, List.getElem?_cons_zero]; rfl) rfl rfl
      subst yy6
      have yy7 : fl7 = true := by refine ready_dep (k := 10) (o := ?_) hi (by simp only [List.getElem?_toArray, List.getElem?_cons_succ, List.getElem?_cons_zero]; rfl) rfl rfl
      subst yy7
      have yy8 : fl8 = true := by refine ready_dep (k := 11) (o := ?_) hi (by simp only [List.getElem?_toArray, List.getElem?_cons_succ, List.getElem?_cons_zero]; rfl) rfl rfl
      subst yy8
      have yy3 : fl3 = true := qd5_3.out.get
      subst yy3
      exact absurd rfl hne
    · have u : false = true := by refine ready_dep (k := 2) (o := ?_) hi (by simp only [List.getElem?_toArray, List.getElem?_cons_succ, List.getElem?_cons_zero]; rfl) rfl rfl
      cases u
    · have u : false = true := by refine ready_dep (k := 12) (o := ?_) hi (by simp only [List.getElem?_toArray, List.getElem?_cons_succ, List.getElem?_cons_zero]; rfl) rfl rfl
      cases u
  rintro a wm3 ⟨fl1, fl3, fl5, fl6, fl7, fl8, vl14, vl16, vl18, vl7, vl8, vl9, b4, B4, m4, d4, b5, B5, m5, d5, b6, B6, m6, d6, ad6, ad7, ad8, hl, rfl, hBi, qf1, qf3, qf5, qf6, qf7, qf8, qn6_7, qn6_8, qn7_8, qd3_1, qd5_3⟩
  have xx1 : fl1 = true := by have h := congrArg (fun l : Array Bool => l.getD 1 false) hl; exact h.symm
  subst xx1
  have xx3 : fl3 = true := by have h := congrArg (fun l : Array Bool => l.getD 3 false) hl; exact h.symm
  subst xx3
  have xx5 : fl5 = true := by have h := congrArg (fun l : Array Bool => l.getD 5 false) hl; exact h.symm
  subst xx5
  have xx6 : fl6 = true := by have h := congrArg (fun l : Array Bool => l.getD 6 false) hl; exact h.symm
  subst xx6
  have xx7 : fl7 = true := by have h := congrArg (fun l : Array Bool => l.getD 7 false) hl; exact h.symm
  subst xx7
  have xx8 : fl8 = true := by have h := congrArg (fun l : Array Bool => l.getD 8 false) hl; exact h.symm
  subst xx8
  obtain ⟨rfl, hw4⟩ := qf1.out.get
  obtain ⟨rfl, hw5⟩ := qf3.out.get
  obtain ⟨rfl, hw6⟩ := qf5.out.get
  obtain ⟨rfl, hg6, hk6⟩ := qf6.out.get
  obtain ⟨rfl, hg7, hk7⟩ := qf7.out.get
  obtain ⟨rfl, hg8, hk8⟩ := qf8.out.get
  have n6_7 := qn6_7.out.get.get
  have n6_8 := qn6_8.out.get.get
  have n7_8 := qn7_8.out.get.get
  have hBv := hBi.out
  clear hl hBi qf1 qf3 qf5 qf6 qf7 qf8 qn6_7 qn6_8 qn7_8 qd3_1 qd5_3
  have hk6 : Blk wm3 ad6 29 #[.bool false, .slice none 0 0] := hk6
  have hk7 : Blk wm3 ad7 29 #[.bool false, .slice none 0 0] := hk7
  have hk8 : Blk wm3 ad8 29 #[.bool false, .slice none 0 0] := hk8
  rw [show due #[true, true, true, true, true, true, true, true, true, false, false, false] = 3 from rfl]
  try simp only [Act.put, List.setIfInBounds_toArray, List.set_cons_zero, List.set_cons_succ]
  refine wpAnyH_ready (rs := [9]) (by kernel_rfl) (by simp) ?_
  refine AllReadyH.cons (o := ?_) (by simp only [List.getElem?_toArray, List.getElem?_cons_succ, List.getElem?_cons_zero]; rfl) (fun K hK => ?_) AllReadyH.nil
  have sc0 : (wm3).cell? ⟨ad6, 0, none⟩ = some (.bool false) := hk6.cell 0
  have sf0 : (wm3).frozen? ⟨ad6, 0, none⟩ = false := hk6.frozen 0
  have hj0 : Blk (wm3.setCell ⟨ad6, 0, none⟩ (.bool b4)) ad6 29 #[.bool b4, .slice none 0 0] := hk6.set_ 0 (.bool b4)
  have sc1 : (wm3.setCell ⟨ad6, 0, none⟩ (.bool b4)).cell? ⟨ad6, 1, none⟩ = some (.slice none 0 0) := hj0.cell 1
  have sf1 : (wm3.setCell ⟨ad6, 0, none⟩ (.bool b4)).frozen? ⟨ad6, 1, none⟩ = false := hj0.frozen 1
  have hj1 : Blk ((wm3.setCell ⟨ad6, 0, none⟩ (.bool b4)).setCell ⟨ad6, 1, none⟩ (.slice B4 m4 d4)) ad6 29 #[.bool b4, .slice B4 m4 d4] := hj0.set_ 1 (.slice B4 m4 d4)
  go_simp
  have hBv := keep_below_set (p := ⟨ad6, 1, none⟩) (.slice B4 m4 d4) hg6 (keep_below_set (p := ⟨ad6, 0, none⟩) (.bool b4) hg6 (hBv))
  have hk7 := Blk.far (Blk.far (hk7) (p := ⟨ad6, 0, none⟩) (show ad7 ≠ ad6 from n6_7.symm) (.bool b4)) (p := ⟨ad6, 1, none⟩) (show ad7 ≠ ad6 from n6_7.symm) (.slice B4 m4 d4)
  have hk8 := Blk.far (Blk.far (hk8) (p := ⟨ad6, 0, none⟩) (show ad8 ≠ ad6 from n6_8.symm) (.bool b4)) (p := ⟨ad6, 1, none⟩) (show ad8 ≠ ad6 from n6_8.symm) (.slice B4 m4 d4)
  have hw4 := int_set2 hw4 hk6 b4 B4 m4 d4
  have hw5 := int_set2 hw5 hk6 b4 B4 m4 d4
  have hw6 := int_set2 hw6 hk6 b4 B4 m4 d4
  have hk6 := hj1
  clear sc0 sf0 sc1 sf1 hj0 hj1
  refine hK.out _ _ ?_ (fun hHeld => ?_)
  · ((try dsimp only); exact hBv)
  clear hK K hHeld
  try simp only [Act.put, List.setIfInBounds_toArray, List.set_cons_zero, List.set_cons_succ]
  generalize (wm3.setCell ⟨ad6, 0, none⟩ (.bool b4)).setCell ⟨ad6, 1, none⟩ (.slice B4 m4 d4) = wm4 at *
  refine wpAnyH_ready (rs := [10]) (by kernel_rfl) (by simp) ?_
  refine AllReadyH.cons (o := ?_) (by simp only [List.getElem?_toArray, List.getElem?_cons_succ, List.getElem?_cons_zero]; rfl) (fun K hK => ?_) AllReadyH.nil
  have sc0 : (wm4).cell? ⟨ad7, 0, none⟩ = some (.bool false) := hk7.cell 0
  have sf0 : (wm4).frozen? ⟨ad7, 0, none⟩ = false := hk7.frozen 0
  have hj0 : Blk (wm4.setCell ⟨ad7, 0, none⟩ (.bool b5)) ad7 29 #[.bool b5, .slice none 0 0] := hk7.set_ 0 (.bool b5)
  have sc1 : (wm4.setCell ⟨ad7, 0, none⟩ (.bool b5)).cell? ⟨ad7, 1, none⟩ = some (.slice none 0 0) := hj0.cell 1
  have sf1 : (wm4.setCell ⟨ad7, 0, none⟩ (.bool b5)).frozen? ⟨ad7, 1, none⟩ = false := hj0.frozen 1
  have hj1 : Blk ((wm4.setCell ⟨ad7, 0, none⟩ (.bool b5)).setCell ⟨ad7, 1, none⟩ (.slice B5 m5 d5)) ad7 29 #[.bool b5, .slice B5 m5 d5] := hj0.set_ 1 (.slice B5 m5 d5)
  go_simp
  have hBv := keep_below_set (p := ⟨ad7, 1, none⟩) (.slice B5 m5 d5) hg7 (keep_below_set (p := ⟨ad7, 0, none⟩) (.bool b5) hg7 (hBv))
  have hk6 := Blk.far (Blk.far (hk6) (p := ⟨ad7, 0, none⟩) (show ad6 ≠ ad7 from n6_7) (.bool b5)) (p := ⟨ad7, 1, none⟩) (show ad6 ≠ ad7 from n6_7) (.slice B5 m5 d5)
  have hk8 := Blk.far (Blk.far (hk8) (p := ⟨ad7, 0, none⟩) (show ad8 ≠ ad7 from n7_8.symm) (.bool b5)) (p := ⟨ad7, 1, none⟩) (show ad8 ≠ ad7 from n7_8.symm) (.slice B5 m5 d5)
  have hw4 := int_set2 hw4 hk7 b5 B5 m5 d5
  have hw5 := int_set2 hw5 hk7 b5 B5 m5 d5
  have hw6 := int_set2 hw6 hk7 b5 B5 m5 d5
  have hk7 := hj1
  clear sc0 sf0 sc1 sf1 hj0 hj1
  refine hK.out _ _ ?_ (fun hHeld => ?_)
  · ((try dsimp only); exact hBv)
  clear hK K hHeld
  try simp only [Act.put, List.setIfInBounds_toArray, List.set_cons_zero, List.set_cons_succ]
  generalize (wm4.setCell ⟨ad7, 0, none⟩ (.bool b5)).setCell ⟨ad7, 1, none⟩ (.slice B5 m5 d5) = wm5 at *
  refine wpAnyH_ready (rs := [11]) (by kernel_rfl) (by simp) ?_
  refine AllReadyH.cons (o := ?_) (by simp only [List.getElem?_toArray, List.getElem?_cons_succ, List.getElem?_cons_zero]; rfl) (fun K hK => ?_) AllReadyH.nil
  have sc0 : (wm5).cell? ⟨ad8, 0, none⟩ = some (.bool false) := hk8.cell 0
  have sf0 : (wm5).frozen? ⟨ad8, 0, none⟩ = false := hk8.frozen 0
  have hj0 : Blk (wm5.setCell ⟨ad8, 0, none⟩ (.bool b6)) ad8 29 #[.bool b6, .slice none 0 0] := hk8.set_ 0 (.bool b6)
  have sc1 : (wm5.setCell ⟨ad8, 0, none⟩ (.bool b6)).cell? ⟨ad8, 1, none⟩ = some (.slice none 0 0) := hj0.cell 1
  have sf1 : (wm5.setCell ⟨ad8, 0, none⟩ (.bool b6)).frozen? ⟨ad8, 1, none⟩ = false := hj0.frozen 1
  have hj1 : Blk ((wm5.setCell ⟨ad8, 0, none⟩ (.bool b6)).setCell ⟨ad8, 1, none⟩ (.slice B6 m6 d6)) ad8 29 #[.bool b6, .slice B6 m6 d6] := hj0.set_ 1 (.slice B6 m6 d6)
  go_simp
  have hBv := keep_below_set (p := ⟨ad8, 1, none⟩) (.slice B6 m6 d6) hg8 (keep_below_set (p := ⟨ad8, 0, none⟩) (.bool b6) hg8 (hBv))
  have hk6 := Blk.far (Blk.far (hk6) (p := ⟨ad8, 0, none⟩) (show ad6 ≠ ad8 from n6_8) (.bool b6)) (p := ⟨ad8, 1, none⟩) (show ad6 ≠ ad8 from n6_8) (.slice B6 m6 d6)
  have hk7 := Blk.far (Blk.far (hk7) (p := ⟨ad8, 0, none⟩) (show ad7 ≠ ad8 from n7_8) (.bool b6)) (p := ⟨ad8, 1, none⟩) (show ad7 ≠ ad8 from n7_8) (.slice B6 m6 d6)
  have hw4 := int_set2 hw4 hk8 b6 B6 m6 d6
  have hw5 := int_set2 hw5 hk8 b6 B6 m6 d6
  have hw6 := int_set2 hw6 hk8 b6 B6 m6 d6
  have hk8 := hj1
  clear sc0 sf0 sc1 sf1 hj0 hj1
  refine hK.out _ _ ?_ (fun hHeld => ?_)
  · ((try dsimp only); exact hBv)
  clear hK K hHeld
  try simp only [Act.put, List.setIfInBounds_toArray, List.set_cons_zero, List.set_cons_succ]
  generalize (wm5.setCell ⟨ad8, 0, none⟩ (.bool b6)).setCell ⟨ad8, 1, none⟩ (.slice B6 m6 d6) = wm6 at *
  refine wpAnyH_done (by kernel_rfl) ?_ _
  refine NoPanic.normal ?_
  have hB := keep_below hB hBv
  have g1 := keep_cell hBv g1
  have e1 := keep_cell hBv e1
  have g2 := keep_cell hBv g2
  have e2 := keep_cell hBv e2
  have g3 := keep_cell hBv g3
  have e3 := keep_cell hBv e3
  obtain ⟨ad6_7, hga⟩ : ∃ x, x = ad6 := ⟨_, rfl⟩
  subst hga
  have g7 : wm6.cell? ⟨ad6_7, 0, none⟩ = some (.bool b4) := hk6.cell 0
  have e7 : wm6.cell? ⟨ad6_7, 1, none⟩ = some (.slice B4 m4 d4) := hk6.cell 1
  obtain ⟨ad7_8, hga⟩ : ∃ x, x = ad7 := ⟨_, rfl⟩
  subst hga
  have g8 : wm6.cell? ⟨ad7_8, 0, none⟩ = some (.bool b5) := hk7.cell 0
  have e8 : wm6.cell? ⟨ad7_8, 1, none⟩ = some (.slice B5 m5 d5) := hk7.cell 1
  obtain ⟨ad8_9, hga⟩ : ∃ x, x = ad8 := ⟨_, rfl⟩
  subst hga
  have g9 : wm6.cell? ⟨ad8_9, 0, none⟩ = some (.bool b6) := hk8.cell 0
  have e9 : wm6.cell? ⟨ad8_9, 1, none⟩ = some (.slice B6 m6 d6) := hk8.cell 1
  have HN4 := Lib.hid hw4
  have HN5 := Lib.hid hw5
  have HN6 := Lib.hid hw6
  clear hBv hk6 hg6 hk7 hg7 hk8 hg8 hw4 hw5 hw6 G0 G1 G2 n6_7 n6_8 n7_8
  clear C0 C1 C2
  go_wp2_with fail
  (with_reducible refine (icmp_of (v := k) (HK.out) (HIC.out.cmp (x) (y) b4 b5 B4 B5 m4 m5 d4 d5 _ (HT.out _ hB) HN4.out HN5.out (by have := Sz.words HZ4.out HN4.out.words; omega) (by have := Sz.words HZ5.out HN5.out.words; omega))).mono ?_)
  rintro e wc7 ⟨rfl, hb⟩
  have hB := keep_below hB hb
  have g1 := keep_cell hb g1
  have e1 := keep_cell hb e1
  have g2 := keep_cell hb g2
  have e2 := keep_cell hb e2
  have g3 := keep_cell hb g3
  have e3 := keep_cell hb e3
  have g7 := keep_cell hb g7
  have e7 := keep_cell hb e7
  have g8 := keep_cell hb g8
  have e8 := keep_cell hb e8
  have g9 := keep_cell hb g9
  have e9 := keep_cell hb e9
  have HN4 := Lib.hid (HN4.out.below hb)
  have HN5 := Lib.hid (HN5.out.below hb)
  have HN6 := Lib.hid (HN6.out.below hb)
  clear hb 
  go_wp2_with fail
  (with_reducible refine (icmp_of (v := (-k)) (HZN.out) (HIC.out.cmp (y) (x) b5 b4 B5 B4 m5 m4 d5 d4 _ (HT.out _ hB) HN5.out HN4.out (by have := Sz.words HZ5.out HN5.out.words; omega) (by have := Sz.words HZ4.out HN4.out.words; omega))).mono ?_)
  rintro e wc8 ⟨rfl, hb⟩
  have hB := keep_below hB hb
  have g1 := keep_cell hb g1
  have e1 := keep_cell hb e1
  have g2 := keep_cell hb g2
  have e2 := keep_cell hb e2
  have g3 := keep_cell hb g3
  have e3 := keep_cell hb e3
  have g7 := keep_cell hb g7
  have e7 := keep_cell hb e7
  have g8 := keep_cell hb g8
  have e8 := keep_cell hb e8
  have g9 := keep_cell hb g9
  have e9 := keep_cell hb e9
  have HN4 := Lib.hid (HN4.out.below hb)
  have HN5 := Lib.hid (HN5.out.below hb)
  have HN6 := Lib.hid (HN6.out.below hb)
  clear hb 
  go_wp2_with fail
  (with_reducible refine (icmp_of (v := m) (HE2.out) (HIC.out.cmp (y) (z) b5 b6 B5 B6 m5 m6 d5 d6 _ (HT.out _ hB) HN5.out HN6.out (by have := Sz.words HZ5.out HN5.out.words; omega) (by have := Sz.words HZ6.out HN6.out.words; omega))).mono ?_)
  rintro e wc9 ⟨rfl, hb⟩
  have hB := keep_below hB hb
  have g1 := keep_cell hb g1
  have e1 := keep_cell hb e1
  have g2 := keep_cell hb g2
  have e2 := keep_cell hb e2
  have g3 := keep_cell hb g3
  have e3 := keep_cell hb e3
  have g7 := keep_cell hb g7
  have e7 := keep_cell hb e7
  have g8 := keep_cell hb g8
  have e8 := keep_cell hb e8
  have g9 := keep_cell hb g9
  have e9 := keep_cell hb e9
  have HN4 := Lib.hid (HN4.out.below hb)
  have HN5 := Lib.hid (HN5.out.below hb)
  have HN6 := Lib.hid (HN6.out.below hb)
  clear hb 
  go_wp2_with fail
  have HZ10 : Hid (Sz (K + K + 1) (x + z).natAbs) := SzI.add HZ4.out HZ6.out
  have C0 := Lib.hid (fun w' (h : Below wc9.heap.size wc9 w') => HIC.out.add (x) (z) b4 b6 B4 B6 m4 m6 d4 d6 w' (HT.out _ (keep_below hB h)) (HN4.out.below h) (HN6.out.below h) (by have := Sz.words HZ4.out HN4.out.words; omega) (by have := Sz.words HZ6.out HN6.out.words; omega))
  have HZ11 : Hid (Sz (K + K + 1) (y + z).natAbs) := SzI.add HZ5.out HZ6.out
  have C1 := Lib.hid (fun w' (h : Below wc9.heap.size wc9 w') => HIC.out.add (y) (z) b5 b6 B5 B6 m5 m6 d5 d6 w' (HT.out _ (keep_below hB h)) (HN5.out.below h) (HN6.out.below h) (by have := Sz.words HZ5.out HN5.out.words; omega) (by have := Sz.words HZ6.out HN6.out.words; omega))
  have C2 := Lib.hid (fun w' (h : Below wc9.heap.size wc9 w') (b10 : Bool) (B10 : Option Addr) (m10 : Nat) (d10 : Nat) (hw10 : IntIn w' (x + z) b10 B10 m10 d10) (b11 : Bool) (B11 : Option Addr) (m11 : Nat) (d11 : Nat) (hw11 : IntIn w' (y + z) b11 B11 m11 d11) => icmp_of (v := k) (HAD.out) (HIC.out.cmp (x + z) (y + z) b10 b11 B10 B11 m10 m11 d10 d11 w' (HT.out _ (keep_below hB h)) hw10 hw11 (by have := Sz.words HZ10.out hw10.words; omega) (by have := Sz.words HZ11.out hw11.words; omega)))
  have HZ12 : Hid (Sz (K) (-x).natAbs) := SzI.neg HZ4.out
  have C3 := Lib.hid (fun w' (h : Below wc9.heap.size wc9 w') => HIC.out.neg (x) b4 B4 m4 d4 w' (HT.out _ (keep_below hB h)) (HN4.out.below h) (by have := Sz.words HZ4.out HN4.out.words; omega))
  have HZ13 : Hid (Sz (K) (-y).natAbs) := SzI.neg HZ5.out
  have C4 := Lib.hid (fun w' (h : Below wc9.heap.size wc9 w') => HIC.out.neg (y) b5 B5 m5 d5 w' (HT.out _ (keep_below hB h)) (HN5.out.below h) (by have := Sz.words HZ5.out HN5.out.words; omega))
  have C5 := Lib.hid (fun w' (h : Below wc9.heap.size wc9 w') (b12 : Bool) (B12 : Option Addr) (m12 : Nat) (d12 : Nat) (hw12 : IntIn w' (-x) b12 B12 m12 d12) (b13 : Bool) (B13 : Option Addr) (m13 : Nat) (d13 : Nat) (hw13 : IntIn w' (-y) b13 B13 m13 d13) => icmp_of (v := (-k)) (HOP.out) (HIC.out.cmp (-x) (-y) b12 b13 B12 B13 m12 m13 d12 d13 w' (HT.out _ (keep_below hB h)) hw12 hw13 (by have := Sz.words HZ12.out hw12.words; omega) (by have := Sz.words HZ13.out hw13.words; omega)))
  have hb0 : Below wc9.heap.size wc9 wc9.drew := (Below.refl _ wc9).drew
  have j0 : wc9.drew.cell? ⟨ad6_7, 0, none⟩ = some (.bool b4) := g7
  have j1 : wc9.drew.cell? ⟨ad6_7, 1, none⟩ = some (.slice B4 m4 d4) := e7
  have j2 : wc9.drew.cell? ⟨ad8_9, 0, none⟩ = some (.bool b6) := g9
  have j3 : wc9.drew.cell? ⟨ad8_9, 1, none⟩ = some (.slice B6 m6 d6) := e9
  have j4 : wc9.drew.cell? ⟨ad7_8, 0, none⟩ = some (.bool b5) := g8
  have j5 : wc9.drew.cell? ⟨ad7_8, 1, none⟩ = some (.slice B5 m5 d5) := e8
  refine wp_region_noPanic ?_
  refine wp_region_held_drew (S := (fun w' => Below wc9.heap.size wc9 w' ∧ w'.cell? ⟨ad6_7, 0, none⟩ = some (.bool b4) ∧ w'.cell? ⟨ad6_7, 1, none⟩ = some (.slice B4 m4 d4) ∧ w'.cell? ⟨ad8_9, 0, none⟩ = some (.bool b6) ∧ w'.cell? ⟨ad8_9, 1, none⟩ = some (.slice B6 m6 d6) ∧ w'.cell? ⟨ad7_8, 0, none⟩ = some (.bool b5) ∧ w'.cell? ⟨ad7_8, 1, none⟩ = some (.slice B5 m5 d5))) (by kernel_rfl) ?_ (fun hHeld => ?_)
  · exact ⟨hb0, j0, j1, j2, j3, j4, j5⟩
  refine wpAnyH_take (i := 0) (oi := ?_) (v := ?_) (by simp only [List.getElem?_toArray, List.getElem?_cons_succ, List.getElem?_cons_zero]; rfl) (by kernel_rfl) (by kernel_rfl) (by kernel_rfl) (fun _ _ _ h => h) (Or.inl ⟨by rfl, ?_⟩) (by with_reducible assumption) ?_
  rotate_left
  focus ((intro w hSw; (try dsimp only at hSw); go_simp); (try with_reducible rfl))
  try simp only [Act.put, List.setIfInBounds_toArray, List.set_cons_zero, List.set_cons_succ]
  refine wpAnyH_take (i := 1) (oi := ?_) (v := ?_) (by simp only [List.getElem?_toArray, List.getElem?_cons_succ, List.getElem?_cons_zero]; rfl) (by kernel_rfl) (by kernel_rfl) (by kernel_rfl) (fun _ _ _ h => h) (Or.inl ⟨by rfl, ?_⟩) (by with_reducible assumption) ?_
  rotate_left
  focus ((intro w hSw; (try dsimp only at hSw); go_simp); (try with_reducible rfl))
  try simp only [Act.put, List.setIfInBounds_toArray, List.set_cons_zero, List.set_cons_succ]
  refine wpAnyH_take (i := 3) (oi := ?_) (v := ?_) (by simp only [List.getElem?_toArray, List.getElem?_cons_succ, List.getElem?_cons_zero]; rfl) (by kernel_rfl) (by kernel_rfl) (by kernel_rfl) (fun _ _ _ h => h) (Or.inl ⟨by rfl, ?_⟩) (by with_reducible assumption) ?_
  rotate_left
  focus ((intro w hSw; (try dsimp only at hSw); go_simp); (try with_reducible rfl))
  try simp only [Act.put, List.setIfInBounds_toArray, List.set_cons_zero, List.set_cons_succ]
  refine wpAnyH_take (i := 4) (oi := ?_) (v := ?_) (by simp only [List.getElem?_toArray, List.getElem?_cons_succ, List.getElem?_cons_zero]; rfl) (by kernel_rfl) (by kernel_rfl) (by kernel_rfl) (fun _ _ _ h => h) (Or.inl ⟨by rfl, ?_⟩) (by with_reducible assumption) ?_
  rotate_left
  focus ((intro w hSw; (try dsimp only at hSw); go_simp); (try with_reducible rfl))
  try simp only [Act.put, List.setIfInBounds_toArray, List.set_cons_zero, List.set_cons_succ]
  refine wpAnyH_take (i := 7) (oi := ?_) (v := ?_) (by simp only [List.getElem?_toArray, List.getElem?_cons_succ, List.getElem?_cons_zero]; rfl) (by kernel_rfl) (by kernel_rfl) (by kernel_rfl) (fun _ _ _ h => h) (Or.inl ⟨by rfl, ?_⟩) (by with_reducible assumption) ?_
  rotate_left
  focus ((intro w hSw; (try dsimp only at hSw); go_simp); (try with_reducible rfl))
  try simp only [Act.put, List.setIfInBounds_toArray, List.set_cons_zero, List.set_cons_succ]
  refine wpAnyH_ready (rs := [2]) (by kernel_rfl) (by simp) ?_
  refine AllReadyH.cons (o := ?_) (by simp only [List.getElem?_toArray, List.getElem?_cons_succ, List.getElem?_cons_zero]; rfl) (fun K hK => ?_) AllReadyH.nil
  go_simp
  (go_at_call 17; (with_reducible refine (C0.out _ (by first | with_reducible assumption | exact And.left (by with_reducible assumption))).mono ?_); rintro e wa10 ⟨b10, B10, m10, d10, rfl, hw10, hb⟩; go_split_ands; have hBw : Below wc9.heap.size wc9 wa10 := keep_below (by with_reducible assumption) hb; have gw0 : wa10.cell? ⟨ad6_7, 0, none⟩ = some (.bool b4) := keep_cell hb (by with_reducible assumption); have gw1 : wa10.cell? ⟨ad6_7, 1, none⟩ = some (.slice B4 m4 d4) := keep_cell hb (by with_reducible assumption); have gw2 : wa10.cell? ⟨ad8_9, 0, none⟩ = some (.bool b6) := keep_cell hb (by with_reducible assumption); have gw3 : wa10.cell? ⟨ad8_9, 1, none⟩ = some (.slice B6 m6 d6) := keep_cell hb (by with_reducible assumption); have gw4 : wa10.cell? ⟨ad7_8, 0, none⟩ = some (.bool b5) := keep_cell hb (by with_reducible assumption); have gw5 : wa10.cell? ⟨ad7_8, 1, none⟩ = some (.slice B5 m5 d5) := keep_cell hb (by with_reducible assumption))
  refine hK.out _ _ ?_ (fun hHeld => ?_)
  · ((try dsimp only); (first | (with_reducible exact ⟨hb0, j0, j1, j2, j3, j4, j5⟩) | (go_split_ands; (repeat' apply And.intro); all_goals (first | with_reducible assumption | with_reducible exact keep_below (by with_reducible assumption) hb | with_reducible exact keep_cell hb (by with_reducible assumption)))))
  clear hK K
  try simp only [Act.put, List.setIfInBounds_toArray, List.set_cons_zero, List.set_cons_succ]
  refine wpAnyH_ready (rs := [5]) (by kernel_rfl) (by simp) ?_
  refine AllReadyH.cons (o := ?_) (by simp only [List.getElem?_toArray, List.getElem?_cons_succ, List.getElem?_cons_zero]; rfl) (fun K hK => ?_) AllReadyH.nil
  go_simp
  (go_at_call 17; (with_reducible refine (C1.out _ (by first | with_reducible assumption | exact And.left (by with_reducible assumption))).mono ?_); rintro e wa11 ⟨b11, B11, m11, d11, rfl, hw11, hb⟩; go_split_ands; have hBw : Below wc9.heap.size wc9 wa11 := keep_below (by with_reducible assumption) hb; have gw0 : wa11.cell? ⟨ad6_7, 0, none⟩ = some (.bool b4) := keep_cell hb (by with_reducible assumption); have gw1 : wa11.cell? ⟨ad6_7, 1, none⟩ = some (.slice B4 m4 d4) := keep_cell hb (by with_reducible assumption); have gw2 : wa11.cell? ⟨ad8_9, 0, none⟩ = some (.bool b6) := keep_cell hb (by with_reducible assumption); have gw3 : wa11.cell? ⟨ad8_9, 1, none⟩ = some (.slice B6 m6 d6) := keep_cell hb (by with_reducible assumption); have gw4 : wa11.cell? ⟨ad7_8, 0, none⟩ = some (.bool b5) := keep_cell hb (by with_reducible assumption); have gw5 : wa11.cell? ⟨ad7_8, 1, none⟩ = some (.slice B5 m5 d5) := keep_cell hb (by with_reducible assumption); (with_reducible have hw10 := hw10.below hb))
  refine hK.out _ _ ?_ (fun hHeld => ?_)
  · ((try dsimp only); (first | (with_reducible exact ⟨hb0, j0, j1, j2, j3, j4, j5⟩) | (go_split_ands; (repeat' apply And.intro); all_goals (first | with_reducible assumption | with_reducible exact keep_below (by with_reducible assumption) hb | with_reducible exact keep_cell hb (by with_reducible assumption)))))
  clear hK K
  try simp only [Act.put, List.setIfInBounds_toArray, List.set_cons_zero, List.set_cons_succ]
  refine wpAnyH_ready (rs := [6]) (by kernel_rfl) (by simp) ?_
  refine AllReadyH.cons (o := ?_) (by simp only [List.getElem?_toArray, List.getElem?_cons_succ, List.getElem?_cons_zero]; rfl) (fun K hK => ?_) AllReadyH.nil
  go_simp
  (go_at_call 22; (with_reducible refine (C2.out _ (by first | with_reducible assumption | exact And.left (by with_reducible assumption)) _ _ _ _ hw10 _ _ _ _ hw11).mono ?_); rintro e wa12 ⟨rfl, hb⟩; go_split_ands; have hBw : Below wc9.heap.size wc9 wa12 := keep_below (by with_reducible assumption) hb; have gw0 : wa12.cell? ⟨ad6_7, 0, none⟩ = some (.bool b4) := keep_cell hb (by with_reducible assumption); have gw1 : wa12.cell? ⟨ad6_7, 1, none⟩ = some (.slice B4 m4 d4) := keep_cell hb (by with_reducible assumption); have gw2 : wa12.cell? ⟨ad8_9, 0, none⟩ = some (.bool b6) := keep_cell hb (by with_reducible assumption); have gw3 : wa12.cell? ⟨ad8_9, 1, none⟩ = some (.slice B6 m6 d6) := keep_cell hb (by with_reducible assumption); have gw4 : wa12.cell? ⟨ad7_8, 0, none⟩ = some (.bool b5) := keep_cell hb (by with_reducible assumption); have gw5 : wa12.cell? ⟨ad7_8, 1, none⟩ = some (.slice B5 m5 d5) := keep_cell hb (by with_reducible assumption); (with_reducible have hw10 := hw10.below hb); (with_reducible have hw11 := hw11.below hb))
  refine hK.out _ _ ?_ (fun hHeld => ?_)
  · ((try dsimp only); (first | (with_reducible exact ⟨hb0, j0, j1, j2, j3, j4, j5⟩) | (go_split_ands; (repeat' apply And.intro); all_goals (first | with_reducible assumption | with_reducible exact keep_below (by with_reducible assumption) hb | with_reducible exact keep_cell hb (by with_reducible assumption)))))
  clear hK K
  try simp only [Act.put, List.setIfInBounds_toArray, List.set_cons_zero, List.set_cons_succ]
  refine wpAnyH_take (i := 8) (oi := ?_) (v := ?_) (by simp only [List.getElem?_toArray, List.getElem?_cons_succ, List.getElem?_cons_zero]; rfl) (by kernel_rfl) (by kernel_rfl) (by kernel_rfl) (fun _ _ _ h => h) (Or.inl ⟨by rfl, ?_⟩) (by with_reducible assumption) ?_
  rotate_left
  focus ((intro w hSw; (try dsimp only at hSw); go_simp); (try with_reducible rfl))
  try simp only [Act.put, List.setIfInBounds_toArray, List.set_cons_zero, List.set_cons_succ]
  refine wpAnyH_take (i := 9) (oi := ?_) (v := ?_) (by simp only [List.getElem?_toArray, List.getElem?_cons_succ, List.getElem?_cons_zero]; rfl) (by kernel_rfl) (by kernel_rfl) (by kernel_rfl) (fun _ _ _ h => h) (Or.inl ⟨by rfl, ?_⟩) (by with_reducible assumption) ?_
  rotate_left
  focus ((intro w hSw; (try dsimp only at hSw); go_simp); (try with_reducible rfl))
  try simp only [Act.put, List.setIfInBounds_toArray, List.set_cons_zero, List.set_cons_succ]
  refine wpAnyH_take (i := 10) (oi := ?_) (v := ?_) (by simp only [List.getElem?_toArray, List.getElem?_cons_succ, List.getElem?_cons_zero]; rfl) (by kernel_rfl) (by kernel_rfl) (by kernel_rfl) (fun _ _ _ h => h) (Or.inl ⟨by rfl, ?_⟩) (by with_reducible assumption) ?_
  rotate_left
  focus ((intro w hSw; (try dsimp only at hSw); go_simp); (try with_reducible rfl))
  try simp only [Act.put, List.setIfInBounds_toArray, List.set_cons_zero, List.set_cons_succ]
  refine wpAnyH_take (i := 12) (oi := ?_) (v := ?_) (by simp only [List.getElem?_toArray, List.getElem?_cons_succ, List.getElem?_cons_zero]; rfl) (by kernel_rfl) (by kernel_rfl) (by kernel_rfl) (fun _ _ _ h => h) (Or.inl ⟨by rfl, ?_⟩) (by with_reducible assumption) ?_
  rotate_left
  focus ((intro w hSw; (try dsimp only at hSw); go_simp); (try with_reducible rfl))
  try simp only [Act.put, List.setIfInBounds_toArray, List.set_cons_zero, List.set_cons_succ]
  refine wpAnyH_take (i := 15) (oi := ?_) (v := ?_) (by simp only [List.getElem?_toArray, List.getElem?_cons_succ, List.getElem?_cons_zero]; rfl) (by kernel_rfl) (by kernel_rfl) (by kernel_rfl) (fun _ _ _ h => h) (Or.inl ⟨by rfl, ?_⟩) (by with_reducible assumption) ?_
  rotate_left
  focus ((intro w hSw; (try dsimp only at hSw); go_simp); (try with_reducible rfl))
  try simp only [Act.put, List.setIfInBounds_toArray, List.set_cons_zero, List.set_cons_succ]
  refine wpAnyH_take (i := 16) (oi := ?_) (v := ?_) (by simp only [List.getElem?_toArray, List.getElem?_cons_succ, List.getElem?_cons_zero]; rfl) (by kernel_rfl) (by kernel_rfl) (by kernel_rfl) (fun _ _ _ h => h) (Or.inl ⟨by rfl, ?_⟩) (by with_reducible assumption) ?_
  rotate_left
  focus ((intro w hSw; (try dsimp only at hSw); go_simp); (try with_reducible rfl))
  try simp only [Act.put, List.setIfInBounds_toArray, List.set_cons_zero, List.set_cons_succ]
  refine wpAnyH_ready (rs := [11]) (by kernel_rfl) (by simp) ?_
  refine AllReadyH.cons (o := ?_) (by simp only [List.getElem?_toArray, List.getElem?_cons_succ, List.getElem?_cons_zero]; rfl) (fun K hK => ?_) AllReadyH.nil
  go_simp
  (go_at_call 15; (with_reducible refine (C3.out _ (by first | with_reducible assumption | exact And.left (by with_reducible assumption))).mono ?_); rintro e wa13 ⟨b12, B12, m12, d12, rfl, hw12, hb⟩; go_split_ands; have hBw : Below wc9.heap.size wc9 wa13 := keep_below (by with_reducible assumption) hb; have gw0 : wa13.cell? ⟨ad6_7, 0, none⟩ = some (.bool b4) := keep_cell hb (by with_reducible assumption); have gw1 : wa13.cell? ⟨ad6_7, 1, none⟩ = some (.slice B4 m4 d4) := keep_cell hb (by with_reducible assumption); have gw2 : wa13.cell? ⟨ad8_9, 0, none⟩ = some (.bool b6) := keep_cell hb (by with_reducible assumption); have gw3 : wa13.cell? ⟨ad8_9, 1, none⟩ = some (.slice B6 m6 d6) := keep_cell hb (by with_reducible assumption); have gw4 : wa13.cell? ⟨ad7_8, 0, none⟩ = some (.bool b5) := keep_cell hb (by with_reducible assumption); have gw5 : wa13.cell? ⟨ad7_8, 1, none⟩ = some (.slice B5 m5 d5) := keep_cell hb (by with_reducible assumption); (with_reducible have hw10 := hw10.below hb); (with_reducible have hw11 := hw11.below hb))
  refine hK.out _ _ ?_ (fun hHeld => ?_)
  · ((try dsimp only); (first | (with_reducible exact ⟨hb0, j0, j1, j2, j3, j4, j5⟩) | (go_split_ands; (repeat' apply And.intro); all_goals (first | with_reducible assumption | with_reducible exact keep_below (by with_reducible assumption) hb | with_reducible exact keep_cell hb (by with_reducible assumption)))))
  clear hK K
  try simp only [Act.put, List.setIfInBounds_toArray, List.set_cons_zero, List.set_cons_succ]
  refine wpAnyH_ready (rs := [13]) (by kernel_rfl) (by simp) ?_
  refine AllReadyH.cons (o := ?_) (by simp only [List.getElem?_toArray, List.getElem?_cons_succ, List.getElem?_cons_zero]; rfl) (fun K hK => ?_) AllReadyH.nil
  go_simp
  (go_at_call 15; (with_reducible refine (C4.out _ (by first | with_reducible assumption | exact And.left (by with_reducible assumption))).mono ?_); rintro e wa14 ⟨b13, B13, m13, d13, rfl, hw13, hb⟩; go_split_ands; have hBw : Below wc9.heap.size wc9 wa14 := keep_below (by with_reducible assumption) hb; have gw0 : wa14.cell? ⟨ad6_7, 0, none⟩ = some (.bool b4) := keep_cell hb (by with_reducible assumption); have gw1 : wa14.cell? ⟨ad6_7, 1, none⟩ = some (.slice B4 m4 d4) := keep_cell hb (by with_reducible assumption); have gw2 : wa14.cell? ⟨ad8_9, 0, none⟩ = some (.bool b6) := keep_cell hb (by with_reducible assumption); have gw3 : wa14.cell? ⟨ad8_9, 1, none⟩ = some (.slice B6 m6 d6) := keep_cell hb (by with_reducible assumption); have gw4 : wa14.cell? ⟨ad7_8, 0, none⟩ = some (.bool b5) := keep_cell hb (by with_reducible assumption); have gw5 : wa14.cell? ⟨ad7_8, 1, none⟩ = some (.slice B5 m5 d5) := keep_cell hb (by with_reducible assumption); (with_reducible have hw10 := hw10.below hb); (with_reducible have hw11 := hw11.below hb); (with_reducible have hw12 := hw12.below hb))
  refine hK.out _ _ ?_ (fun hHeld => ?_)
  · ((try dsimp only); (first | (with_reducible exact ⟨hb0, j0, j1, j2, j3, j4, j5⟩) | (go_split_ands; (repeat' apply And.intro); all_goals (first | with_reducible assumption | with_reducible exact keep_below (by with_reducible assumption) hb | with_reducible exact keep_cell hb (by with_reducible assumption)))))
  clear hK K
  try simp only [Act.put, List.setIfInBounds_toArray, List.set_cons_zero, List.set_cons_succ]
  refine wpAnyH_ready (rs := [14]) (by kernel_rfl) (by simp) ?_
  refine AllReadyH.cons (o := ?_) (by simp only [List.getElem?_toArray, List.getElem?_cons_succ, List.getElem?_cons_zero]; rfl) (fun K hK => ?_) AllReadyH.nil
  go_simp
  (go_at_call 22; (with_reducible refine (C5.out _ (by first | with_reducible assumption | exact And.left (by with_reducible assumption)) _ _ _ _ hw12 _ _ _ _ hw13).mono ?_); rintro e wa15 ⟨rfl, hb⟩; go_split_ands; have hBw : Below wc9.heap.size wc9 wa15 := keep_below (by with_reducible assumption) hb; have gw0 : wa15.cell? ⟨ad6_7, 0, none⟩ = some (.bool b4) := keep_cell hb (by with_reducible assumption); have gw1 : wa15.cell? ⟨ad6_7, 1, none⟩ = some (.slice B4 m4 d4) := keep_cell hb (by with_reducible assumption); have gw2 : wa15.cell? ⟨ad8_9, 0, none⟩ = some (.bool b6) := keep_cell hb (by with_reducible assumption); have gw3 : wa15.cell? ⟨ad8_9, 1, none⟩ = some (.slice B6 m6 d6) := keep_cell hb (by with_reducible assumption); have gw4 : wa15.cell? ⟨ad7_8, 0, none⟩ = some (.bool b5) := keep_cell hb (by with_reducible assumption); have gw5 : wa15.cell? ⟨ad7_8, 1, none⟩ = some (.slice B5 m5 d5) := keep_cell hb (by with_reducible assumption); (with_reducible have hw10 := hw10.below hb); (with_reducible have hw11 := hw11.below hb); (with_reducible have hw12 := hw12.below hb); (with_reducible have hw13 := hw13.below hb))
  refine hK.out _ _ ?_ (fun hHeld => ?_)
  · ((try dsimp only); (first | (with_reducible exact ⟨hb0, j0, j1, j2, j3, j4, j5⟩) | (go_split_ands; (repeat' apply And.intro); all_goals (first | with_reducible assumption | with_reducible exact keep_below (by with_reducible assumption) hb | with_reducible exact keep_cell hb (by with_reducible assumption)))))
  clear hK K
  try simp only [Act.put, List.setIfInBounds_toArray, List.set_cons_zero, List.set_cons_succ]
  refine wpAnyH_take (i := 17) (oi := ?_) (v := ?_) (by simp only [List.getElem?_toArray, List.getElem?_cons_succ, List.getElem?_cons_zero]; rfl) (by kernel_rfl) (by kernel_rfl) (by kernel_rfl) (fun _ _ _ h => h) (Or.inl ⟨by rfl, ?_⟩) (by with_reducible assumption) ?_
  rotate_left
  focus ((intro w hSw; (try dsimp only at hSw); go_simp); (try with_reducible rfl))
  try simp only [Act.put, List.setIfInBounds_toArray, List.set_cons_zero, List.set_cons_succ]
  refine wpAnyH_take (i := 18) (oi := ?_) (v := ?_) (by simp only [List.getElem?_toArray, List.getElem?_cons_succ, List.getElem?_cons_zero]; rfl) (by kernel_rfl) (by kernel_rfl) (by kernel_rfl) (fun _ _ _ h => h) (Or.inl ⟨by rfl, ?_⟩) (by with_reducible assumption) ?_
  rotate_left
  focus ((intro w hSw; (try dsimp only at hSw); go_simp); (try with_reducible rfl))
  try simp only [Act.put, List.setIfInBounds_toArray, List.set_cons_zero, List.set_cons_succ]
  refine wpAnyH_take (i := 19) (oi := ?_) (v := ?_) (by simp only [List.getElem?_toArray, List.getElem?_cons_succ, List.getElem?_cons_zero]; rfl) (by kernel_rfl) (by kernel_rfl) (by kernel_rfl) (fun _ _ _ h => h) (Or.inl ⟨by rfl, ?_⟩) (by with_reducible assumption) ?_
  rotate_left
  focus ((intro w hSw; (try dsimp only at hSw); go_simp); (try with_reducible rfl))
  try simp only [Act.put, List.setIfInBounds_toArray, List.set_cons_zero, List.set_cons_succ]
  refine wpAnyH_done (by kernel_rfl) ?_ _
  refine NoPanic.normal ?_
  clear hb
  have hB := keep_below hB hBw
  have g1 := keep_cell hBw g1
  have e1 := keep_cell hBw e1
  have g2 := keep_cell hBw g2
  have e2 := keep_cell hBw e2
  have g3 := keep_cell hBw g3
  have e3 := keep_cell hBw e3
  have g7 := keep_cell hBw g7
  have e7 := keep_cell hBw e7
  have g8 := keep_cell hBw g8
  have e8 := keep_cell hBw e8
  have g9 := keep_cell hBw g9
  have e9 := keep_cell hBw e9
  have HN4 := Lib.hid (HN4.out.below hBw)
  have HN5 := Lib.hid (HN5.out.below hBw)
  have HN6 := Lib.hid (HN6.out.below hBw)
  have HN10 := Lib.hid hw10
  have HN11 := Lib.hid hw11
  have HN12 := Lib.hid hw12
  have HN13 := Lib.hid hw13
  clear hb0 hBw gw0 gw1 gw2 gw3 gw4 gw5 hw10 hw11 hw12 hw13
  clear j0
  clear j1
  clear j2
  clear j3
  clear j4
  clear j5
  clear C0 C1 C2 C3 C4 C5
  go_wp2
  go_ret
  exact ⟨by first | rfl | simp, hB⟩
set_option maxHeartbeats 16000000 in
theorem integerOrder_3 {T : World → Prop} (hTb : ∀ w w', T w → Below w.heap.size w w' → T w') (IC : IntC T) (s0 : Bool) (A0 : Option Addr) (n0 c0 : Nat) (l0 : List Nat) (s1 : Bool) (A1 : Option Addr) (n1 c1 : Nat) (l1 : List Nat) (s2 : Bool) (A2 : Option Addr) (n2 c2 : Nat) (l2 : List Nat) (w : World) (h0 : ArgWords w A0 n0 c0 l0) (h1 : ArgWords w A1 n1 c1 l1) (h2 : ArgWords w A2 n2 c2 l2) (hp : cmpZ (zOf s0 l0) (zOf s1 l1) ≤ 0) (hq : cmpZ (zOf s1 l1) (zOf s2 l2) ≤ 0) (hT : T w) :
    Calls Try.prog 9 #[.agg #[.bool s0, .slice A0 n0 c0], .agg #[.bool s1, .slice A1 n1 c1], .agg #[.bool s2, .slice A2 n2 c2]] w fun e w' => e = .returned (.bool true) ∧ Below w.heap.size w w' := by
  have HAW := Lib.hid (fun w' (hb : Below w.heap.size w w') => law7_awake hTb IC w' (hTb w w' hT hb))
  have HIC := Lib.hid IC
  have HT := Lib.hid (fun w' (hb : Below w.heap.size w w') => hTb w w' hT hb)
  obtain ⟨K, hK⟩ : ∃ K, 1048576 = K := ⟨_, rfl⟩
  have hKK : K ≤ 1048576 := by omega
  have HM0 := Lib.hid (fun w' (hb : Below w.heap.size w w') => law7_make hTb IC s0 A0 n0 c0 l0 w' ⟨(h0.reads.below hb).more hb.size, h0.dgs, h0.fits, h0.small⟩ (hTb w w' hT hb))
  have S0 : Sz 1048576 (zOf s0 l0).natAbs := by rw [zOf_abs]; exact arg_sz h0
  rw [hK] at S0
  obtain ⟨x, hz0⟩ : ∃ x, zOf s0 l0 = x := ⟨_, rfl⟩
  rw [hz0] at HM0 S0 hp
  have HS0 := Lib.hid S0
  have HM1 := Lib.hid (fun w' (hb : Below w.heap.size w w') => law7_make hTb IC s1 A1 n1 c1 l1 w' ⟨(h1.reads.below hb).more hb.size, h1.dgs, h1.fits, h1.small⟩ (hTb w w' hT hb))
  have S1 : Sz 1048576 (zOf s1 l1).natAbs := by rw [zOf_abs]; exact arg_sz h1
  rw [hK] at S1
  obtain ⟨y, hz1⟩ : ∃ x, zOf s1 l1 = x := ⟨_, rfl⟩
  rw [hz1] at HM1 S1 hp hq
  have HS1 := Lib.hid S1
  have HM2 := Lib.hid (fun w' (hb : Below w.heap.size w w') => law7_make hTb IC s2 A2 n2 c2 l2 w' ⟨(h2.reads.below hb).more hb.size, h2.dgs, h2.fits, h2.small⟩ (hTb w w' hT hb))
  have S2 : Sz 1048576 (zOf s2 l2).natAbs := by rw [zOf_abs]; exact arg_sz h2
  rw [hK] at S2
  obtain ⟨z, hz2⟩ : ∃ x, zOf s2 l2 = x := ⟨_, rfl⟩
  rw [hz2] at HM2 S2 hq
  have HS2 := Lib.hid S2
  have hv1 : cmpZ x z ≤ 0 := cmpZ_le hp hq
  have hk1 := cmpZ_bd x y
  have HZN : Hid (cmpZ y x = -cmpZ x y) := cmpZ_neg x y
  have HAD : Hid (cmpZ (x + z) (y + z) = cmpZ x y) := cmpZ_add x y z
  have HOP : Hid (cmpZ (-x) (-y) = -cmpZ x y) := cmpZ_opp x y
  obtain ⟨k, hk⟩ : ∃ k, cmpZ x y = k := ⟨_, rfl⟩
  rw [hk] at hk1 HZN HAD HOP hp
  have HK := Lib.hid hk
  clear hk
  have kw1 : IntKind.i64.wrap (-(-k)) = k := by rw [Int.neg_neg]; exact IntWalk.i64_in _ (by omega)
  have kw2 : IntKind.i64.wrap (-k) = -k := IntWalk.i64_in _ (by omega)
  have kb1 : (k != k) = false := by simp
  have kb2 : decide (k ≤ 0) = true := by simp; omega
  obtain ⟨m, hm⟩ : ∃ k, cmpZ y z = k := ⟨_, rfl⟩
  rw [hm] at hq
  have HE2 := Lib.hid hm
  clear hm
  have kb3 : decide (m ≤ 0) = true := by simp; omega
  obtain ⟨v, hv⟩ : ∃ k, cmpZ x z = k := ⟨_, rfl⟩
  rw [hv] at hv1
  have HE3 := Lib.hid hv
  clear hv
  have kb4 : decide (v > 0) = false := by simp; omega
  have kb5 : decide (0 < v) = false := by simp; omega
  have Hhp := Lib.hid hp
  have Hhq := Lib.hid hq
  clear IC hT h0 hz0 S0 h1 hz1 S1 h2 hz2 S2 hp hq hK
  go_enter Try.func9, Try.ntmps9
  have hB := Below.refl w.heap.size w
  obtain ⟨bx1, bx2, bx3, bx4, bz⟩ := box3 w 24 24 24 #[.bool s0, .slice A0 n0 c0] #[.bool s1, .slice A1 n1 c1] #[.bool s2, .slice A2 n2 c2]
  have hB := keep_below hB bx1
  have g1 : (((w.alloc (.cells #[.bool s0, .slice A0 n0 c0] 24)).alloc (.cells #[.bool s1, .slice A1 n1 c1] 24)).alloc (.cells #[.bool s2, .slice A2 n2 c2] 24)).cell? ⟨w.heap.size, 0, none⟩ = some (.bool s0) := bx2.cell 0
  have e1 : (((w.alloc (.cells #[.bool s0, .slice A0 n0 c0] 24)).alloc (.cells #[.bool s1, .slice A1 n1 c1] 24)).alloc (.cells #[.bool s2, .slice A2 n2 c2] 24)).cell? ⟨w.heap.size, 1, none⟩ = some (.slice A0 n0 c0) := bx2.cell 1
  have g2 : (((w.alloc (.cells #[.bool s0, .slice A0 n0 c0] 24)).alloc (.cells #[.bool s1, .slice A1 n1 c1] 24)).alloc (.cells #[.bool s2, .slice A2 n2 c2] 24)).cell? ⟨w.heap.size + 1, 0, none⟩ = some (.bool s1) := bx3.cell 0
  have e2 : (((w.alloc (.cells #[.bool s0, .slice A0 n0 c0] 24)).alloc (.cells #[.bool s1, .slice A1 n1 c1] 24)).alloc (.cells #[.bool s2, .slice A2 n2 c2] 24)).cell? ⟨w.heap.size + 1, 1, none⟩ = some (.slice A1 n1 c1) := bx3.cell 1
  have g3 : (((w.alloc (.cells #[.bool s0, .slice A0 n0 c0] 24)).alloc (.cells #[.bool s1, .slice A1 n1 c1] 24)).alloc (.cells #[.bool s2, .slice A2 n2 c2] 24)).cell? ⟨w.heap.size + 1 + 1, 0, none⟩ = some (.bool s2) := bx4.cell 0
  have e3 : (((w.alloc (.cells #[.bool s0, .slice A0 n0 c0] 24)).alloc (.cells #[.bool s1, .slice A1 n1 c1] 24)).alloc (.cells #[.bool s2, .slice A2 n2 c2] 24)).cell? ⟨w.heap.size + 1 + 1, 1, none⟩ = some (.slice A2 n2 c2) := bx4.cell 1
  clear bx1 bx2 bx3 bx4 bz
  go_wp2_with fail
  generalize ((w.alloc (.cells #[.bool s0, .slice A0 n0 c0] 24)).alloc (.cells #[.bool s1, .slice A1 n1 c1] 24)).alloc (.cells #[.bool s2, .slice A2 n2 c2] 24) = W1 at *
  (with_reducible refine (HAW.out _ hB).mono ?_)
  rintro e wc2 ⟨rfl, hb⟩
  have hB := keep_below hB hb
  have g1 := keep_cell hb g1
  have e1 := keep_cell hb e1
  have g2 := keep_cell hb g2
  have e2 := keep_cell hb e2
  have g3 := keep_cell hb g3
  have e3 := keep_cell hb e3
  clear hb 
  go_wp2_with fail
  have HZ4 : Hid (Sz (K) (x).natAbs) := HS0.out
  have C0 := Lib.hid (fun w' (h : Below wc2.heap.size wc2 w') => HM0.out _ (keep_below hB h))
  have HZ5 : Hid (Sz (K) (y).natAbs) := HS1.out
  have C1 := Lib.hid (fun w' (h : Below wc2.heap.size wc2 w') => HM1.out _ (keep_below hB h))
  have HZ6 : Hid (Sz (K) (z).natAbs) := HS2.out
  have C2 := Lib.hid (fun w' (h : Below wc2.heap.size wc2 w') => HM2.out _ (keep_below hB h))
  have G0 := Lib.hid (fun w' (h : Below wc2.heap.size wc2 w') => (⟨keep_cell h g1, keep_cell h e1⟩ : w'.cell? ⟨w.heap.size, 0, none⟩ = some (.bool s0) ∧ w'.cell? ⟨w.heap.size, 1, none⟩ = some (.slice A0 n0 c0)))
  have G1 := Lib.hid (fun w' (h : Below wc2.heap.size wc2 w') => (⟨keep_cell h g2, keep_cell h e2⟩ : w'.cell? ⟨w.heap.size + 1, 0, none⟩ = some (.bool s1) ∧ w'.cell? ⟨w.heap.size + 1, 1, none⟩ = some (.slice A1 n1 c1)))
  have G2 := Lib.hid (fun w' (h : Below wc2.heap.size wc2 w') => (⟨keep_cell h g3, keep_cell h e3⟩ : w'.cell? ⟨w.heap.size + 1 + 1, 0, none⟩ = some (.bool s2) ∧ w'.cell? ⟨w.heap.size + 1 + 1, 1, none⟩ = some (.slice A2 n2 c2)))
  refine wp_region_noPanic ?_
  refine wp_region_held_drew (S := (fun w' => Below wc2.heap.size wc2 w')) (by kernel_rfl) ?_ (fun hHeld => ?_)
  · exact (Below.refl _ wc2).drew
  refine wpAnyH_take (i := 0) (oi := ?_) (v := ?_) (by simp only [List.getElem?_toArray, List.getElem?_cons_succ, List.getElem?_cons_zero]; rfl) (by kernel_rfl) (by kernel_rfl) (by kernel_rfl) (fun _ _ _ h => h) (Or.inl ⟨by rfl, ?_⟩) (by with_reducible assumption) ?_
  rotate_left
  focus ((intro wz hSw; (try dsimp only at hSw); obtain ⟨z0, z1⟩ := G0.out wz hSw; go_simp); (try with_reducible rfl))
  try simp only [Act.put, List.setIfInBounds_toArray, List.set_cons_zero, List.set_cons_succ]
  refine wpAnyH_take (i := 2) (oi := ?_) (v := ?_) (by simp only [List.getElem?_toArray, List.getElem?_cons_succ, List.getElem?_cons_zero]; rfl) (by kernel_rfl) (by kernel_rfl) (by kernel_rfl) (fun _ _ _ h => h) (Or.inl ⟨by rfl, ?_⟩) (by with_reducible assumption) ?_
  rotate_left
  focus ((intro wz hSw; (try dsimp only at hSw); obtain ⟨z0, z1⟩ := G1.out wz hSw; go_simp); (try with_reducible rfl))
  try simp only [Act.put, List.setIfInBounds_toArray, List.set_cons_zero, List.set_cons_succ]
  refine wpAnyH_take (i := 4) (oi := ?_) (v := ?_) (by simp only [List.getElem?_toArray, List.getElem?_cons_succ, List.getElem?_cons_zero]; rfl) (by kernel_rfl) (by kernel_rfl) (by kernel_rfl) (fun _ _ _ h => h) (Or.inl ⟨by rfl, ?_⟩) (by with_reducible assumption) ?_
  rotate_left
  focus ((intro wz hSw; (try dsimp only at hSw); obtain ⟨z0, z1⟩ := G2.out wz hSw; go_simp); (try with_reducible rfl))
  try simp only [Act.put, List.setIfInBounds_toArray, List.set_cons_zero, List.set_cons_succ]
  refine wpAnyH_meet (L := #[true, true, true, true, true, true, true, true, true, false, false, false])
    (J := fun a0 l a w' => ∃ (fl1 fl3 fl5 fl6 fl7 fl8 : Bool) (vl14 vl16 vl18 vl7 vl8 vl9 : Value) (b4 : Bool) (B4 : Option Addr) (m4 d4 : Nat) (b5 : Bool) (B5 : Option Addr) (m5 d5 : Nat) (b6 : Bool) (B6 : Option Addr) (m6 d6 ad6 ad7 ad8 : Nat), l = #[true, fl1, true, fl3, true, fl5, fl6, fl7, fl8, false, false, false] ∧ a = (((((a0.put (some 14) vl14).put (some 16) vl16).put (some 18) vl18).put (some 7) vl7).put (some 8) vl8).put (some 9) vl9 ∧ Hid (Below wc2.heap.size wc2 w') ∧
      Hid (Gd fl1 (vl14 = .agg #[.bool b4, .slice B4 m4 d4] ∧ IntIn w' (x) b4 B4 m4 d4)) ∧
      Hid (Gd fl3 (vl16 = .agg #[.bool b5, .slice B5 m5 d5] ∧ IntIn w' (y) b5 B5 m5 d5)) ∧
      Hid (Gd fl5 (vl18 = .agg #[.bool b6, .slice B6 m6 d6] ∧ IntIn w' (z) b6 B6 m6 d6)) ∧
      Hid (Gd fl6 (Made wc2.heap.size w' ad6 29 #[.bool false, .slice none 0 0] vl7)) ∧
      Hid (Gd fl7 (Made wc2.heap.size w' ad7 29 #[.bool false, .slice none 0 0] vl8)) ∧
      Hid (Gd fl8 (Made wc2.heap.size w' ad8 29 #[.bool false, .slice none 0 0] vl9)) ∧
      Hid (Gd fl6 (Gd fl7 (ad6 ≠ ad7))) ∧
      Hid (Gd fl6 (Gd fl8 (ad6 ≠ ad8))) ∧
      Hid (Gd fl7 (Gd fl8 (ad7 ≠ ad8))) ∧
      Hid (Gd fl3 (fl1 = true)) ∧
      Hid (Gd fl5 (fl3 = true)))
    (by rfl) ?_ ?_ ?_ ?_
  · exact ⟨false, false, false, false, false, false, _, _, _, _, _, _, false, none, 0, 0, false, none, 0, 0, false, none, 0, 0, 0, 0, 0, by kernel_rfl, by rfl, hHeld, Gd.no, Gd.no, Gd.no, Gd.no, Gd.no, Gd.no, Gd.no, Gd.no, Gd.no, Gd.no, Gd.no⟩
  · rintro l a w' ⟨fl1, fl3, fl5, fl6, fl7, fl8, vl14, vl16, vl18, vl7, vl8, vl9, b4, B4, m4, d4, b5, B5, m5, d5, b6, B6, m6, d6, ad6, ad7, ad8, rfl, rfl, -⟩ hr
    have xx1 : fl1 = true := by refine all_listed (i := 1) (o := ?_) hr (by simp only [List.getElem?_toArray, List.getElem?_cons_succ, List.getElem?_cons_zero]; rfl) ?_; rfl
    subst xx1
    have xx3 : fl3 = true := by refine all_listed (i := 3) (o := ?_) hr (by simp only [List.getElem?_toArray, List.getElem?_cons_succ, List.getElem?_cons_zero]; rfl) ?_; rfl
    subst xx3
    have xx5 : fl5 = true := by refine all_listed (i := 5) (o := ?_) hr (by simp only [List.getElem?_toArray, List.getElem?_cons_succ, List.getElem?_cons_zero]; rfl) ?_; rfl
    subst xx5
    have xx6 : fl6 = true := by refine all_listed (i := 6) (o := ?_) hr (by simp only [List.getElem?_toArray, List.getElem?_cons_succ, List.getElem?_cons_zero]; rfl) ?_; rfl
    subst xx6
    have xx7 : fl7 = true := by refine all_listed (i := 7) (o := ?_) hr (by simp only [List.getElem?_toArray, List.getElem?_cons_succ, List.getElem?_cons_zero]; rfl) ?_; rfl
    subst xx7
    have xx8 : fl8 = true := by refine all_listed (i := 8) (o := ?_) hr (by simp only [List.getElem?_toArray, List.getElem?_cons_succ, List.getElem?_cons_zero]; rfl) ?_; rfl
    subst xx8
    rfl
  · rintro l a w' i ⟨fl1, fl3, fl5, fl6, fl7, fl8, vl14, vl16, vl18, vl7, vl8, vl9, b4, B4, m4, d4, b5, B5, m5, d5, b6, B6, m6, d6, ad6, ad7, ad8, rfl, rfl, hBi, qf1, qf3, qf5, qf6, qf7, qf8, qn6_7, qn6_8, qn7_8, qd3_1, qd5_3⟩ hne hi
    have hlt : i < 12 := ready_lt hi
    rcases (show i = 0 ∨ i = 1 ∨ i = 2 ∨ i = 3 ∨ i = 4 ∨ i = 5 ∨ i = 6 ∨ i = 7 ∨ i = 8 ∨ i = 9 ∨ i = 10 ∨ i = 11 by omega) with rfl | rfl | rfl | rfl | rfl | rfl | rfl | rfl | rfl | rfl | rfl | rfl
    · have u : true = false := ready_un hi
      cases u
    · have u : fl1 = false := ready_un hi
      subst u
      refine wpOp_shut (by simp only [List.getElem?_toArray, List.getElem?_cons_succ, List.getElem?_cons_zero]; rfl) (fun K' hK => ?_)
      try simp only [Act.put, List.setIfInBounds_toArray, List.set_cons_zero, List.set_cons_succ]
      go_simp
      refine (C0.out w' hBi.out).mono ?_
      rintro e w2 ⟨nb4, nB4, nm4, nd4, rfl, nhw4, hb⟩
      exact hK.out _ _ ⟨keep_below hBi.out hb, true, fl3, fl5, fl6, fl7, fl8, _, vl16, vl18, vl7, vl8, vl9, nb4, nB4, nm4, nd4, b5, B5, m5, d5, b6, B6, m6, d6, ad6, ad7, ad8, by rfl, by rfl, keep_below hBi.out hb, Gd.yes ⟨rfl, nhw4⟩, qf3.out.mono fun h => ⟨h.1, h.2.below hb⟩, qf5.out.mono fun h => ⟨h.1, h.2.below hb⟩, qf6.out.mono fun h => h.keep hb, qf7.out.mono fun h => h.keep hb, qf8.out.mono fun h => h.keep hb, qn6_7, qn6_8, qn7_8, fun _ => rfl, qd5_3⟩
    · have u : true = false := ready_un hi
      cases u
    · have u : fl3 = false := ready_un hi
      subst u
      have yy1 : fl1 = true := by refine ready_dep (k := 1) (o := ?_) hi (by simp only [List.getElem?_toArray, List.getElem?_cons_succ, List.getElem?_cons_zero]; rfl) rfl rfl
      subst yy1
      refine wpOp_shut (by simp only [List.getElem?_toArray, List.getElem?_cons_succ, List.getElem?_cons_zero]; rfl) (fun K' hK => ?_)
      try simp only [Act.put, List.setIfInBounds_toArray, List.set_cons_zero, List.set_cons_succ]
      go_simp
      refine (C1.out w' hBi.out).mono ?_
      rintro e w2 ⟨nb5, nB5, nm5, nd5, rfl, nhw5, hb⟩
      exact hK.out _ _ ⟨keep_below hBi.out hb, true, true, fl5, fl6, fl7, fl8, vl14, _, vl18, vl7, vl8, vl9, b4, B4, m4, d4, nb5, nB5, nm5, nd5, b6, B6, m6, d6, ad6, ad7, ad8, by rfl, by rfl, keep_below hBi.out hb, qf1.out.mono fun h => ⟨h.1, h.2.below hb⟩, Gd.yes ⟨rfl, nhw5⟩, qf5.out.mono fun h => ⟨h.1, h.2.below hb⟩, qf6.out.mono fun h => h.keep hb, qf7.out.mono fun h => h.keep hb, qf8.out.mono fun h => h.keep hb, qn6_7, qn6_8, qn7_8, Gd.yes rfl, fun _ => rfl⟩
    · have u : true = false := ready_un hi
      cases u
    · have u : fl5 = false := ready_un hi
      subst u
      have yy3 : fl3 = true := by refine ready_dep (k := 1) (o := ?_) hi (by simp only [List.getElem?_toArray, List.getElem?_cons_succ, List.getElem?_cons_zero]; rfl) rfl rfl
      subst yy3
      refine wpOp_shut (by simp only [List.getElem?_toArray, List.getElem?_cons_succ, List.getElem?_cons_zero]; rfl) (fun K' hK => ?_)
      try simp only [Act.put, List.setIfInBounds_toArray, List.set_cons_zero, List.set_cons_succ]
      go_simp
      refine (C2.out w' hBi.out).mono ?_
      rintro e w2 ⟨nb6, nB6, nm6, nd6, rfl, nhw6, hb⟩
      exact hK.out _ _ ⟨keep_below hBi.out hb, fl1, true, true, fl6, fl7, fl8, vl14, vl16, _, vl7, vl8, vl9, b4, B4, m4, d4, b5, B5, m5, d5, nb6, nB6, nm6, nd6, ad6, ad7, ad8, by rfl, by rfl, keep_below hBi.out hb, qf1.out.mono fun h => ⟨h.1, h.2.below hb⟩, qf3.out.mono fun h => ⟨h.1, h.2.below hb⟩, Gd.yes ⟨rfl, nhw6⟩, qf6.out.mono fun h => h.keep hb, qf7.out.mono fun h => h.keep hb, qf8.out.mono fun h => h.keep hb, qn6_7, qn6_8, qn7_8, qd3_1, Gd.yes rfl⟩
    · have u : fl6 = false := ready_un hi
      subst u
      refine wpOp_shut (by simp only [List.getElem?_toArray, List.getElem?_cons_succ, List.getElem?_cons_zero]; rfl) (fun K' hK => ?_)
      try simp only [Act.put, List.setIfInBounds_toArray, List.set_cons_zero, List.set_cons_succ]
      go_simp
      have hb := up_alloc w' (.cells #[.bool false, .slice none 0 0] 29)
      exact hK.out _ _ ⟨keep_below hBi.out hb, fl1, fl3, fl5, true, fl7, fl8, vl14, vl16, vl18, _, vl8, vl9, b4, B4, m4, d4, b5, B5, m5, d5, b6, B6, m6, d6, _, ad7, ad8, by rfl, by rfl, keep_below hBi.out hb, qf1.out.mono fun h => ⟨h.1, h.2.below hb⟩, qf3.out.mono fun h => ⟨h.1, h.2.below hb⟩, qf5.out.mono fun h => ⟨h.1, h.2.below hb⟩, Gd.yes (Made.new _ _ _ _ hBi.out.size), qf7.out.mono fun h => h.keep hb, qf8.out.mono fun h => h.keep hb, Gd.yes (qf7.out.mono fun h => by have := h.lt; omega), Gd.yes (qf8.out.mono fun h => by have := h.lt; omega), qn7_8, qd3_1, qd5_3⟩
    · have u : fl7 = false := ready_un hi
      subst u
      refine wpOp_shut (by simp only [List.getElem?_toArray, List.getElem?_cons_succ, List.getElem?_cons_zero]; rfl) (fun K' hK => ?_)
      try simp only [Act.put, List.setIfInBounds_toArray, List.set_cons_zero, List.set_cons_succ]
      go_simp
      have hb := up_alloc w' (.cells #[.bool false, .slice none 0 0] 29)
      exact hK.out _ _ ⟨keep_below hBi.out hb, fl1, fl3, fl5, fl6, true, fl8, vl14, vl16, vl18, vl7, _, vl9, b4, B4, m4, d4, b5, B5, m5, d5, b6, B6, m6, d6, ad6, _, ad8, by rfl, by rfl, keep_below hBi.out hb, qf1.out.mono fun h => ⟨h.1, h.2.below hb⟩, qf3.out.mono fun h => ⟨h.1, h.2.below hb⟩, qf5.out.mono fun h => ⟨h.1, h.2.below hb⟩, qf6.out.mono fun h => h.keep hb, Gd.yes (Made.new _ _ _ _ hBi.out.size), qf8.out.mono fun h => h.keep hb, qf6.out.mono fun h => Gd.yes (by have := h.lt; omega), qn6_8, Gd.yes (qf8.out.mono fun h => by have := h.lt; omega), qd3_1, qd5_3⟩
    · have u : fl8 = false := ready_un hi
      subst u
      refine wpOp_shut (by simp only [List.getElem?_toArray, List.getElem?_cons_succ, List.getElem?_cons_zero]; rfl) (fun K' hK => ?_)
      try simp only [Act.put, List.setIfInBounds_toArray, List.set_cons_zero, List.set_cons_succ]
      go_simp
      have hb := up_alloc w' (.cells #[.bool false, .slice none 0 0] 29)
      exact hK.out _ _ ⟨keep_below hBi.out hb, fl1, fl3, fl5, fl6, fl7, true, vl14, vl16, vl18, vl7, vl8, _, b4, B4, m4, d4, b5, B5, m5, d5, b6, B6, m6, d6, ad6, ad7, _, by rfl, by rfl, keep_below hBi.out hb, qf1.out.mono fun h => ⟨h.1, h.2.below hb⟩, qf3.out.mono fun h => ⟨h.1, h.2.below hb⟩, qf5.out.mono fun h => ⟨h.1, h.2.below hb⟩, qf6.out.mono fun h => h.keep hb, qf7.out.mono fun h => h.keep hb, Gd.yes (Made.new _ _ _ _ hBi.out.size), qn6_7, qf6.out.mono fun h => Gd.yes (by have := h.lt; omega), qf7.out.mono fun h => Gd.yes (by have := h.lt; omega), qd3_1, qd5_3⟩
    · have yy1 : fl1 = true := by refine ready_dep (k := 1) (o := ?_) hi (by simp only [List.getElem?_toArray, List.getElem?_cons_succ, List.getElem?_cons_zero]; rfl) rfl rfl
      subst yy1
      have yy5 : fl5 = true := by refine ready_dep (k := 2) (o := ?_) hi (by simp only [List.getElem?_toArray, List.getElem?_cons_succ, List.getElem?_cons_zero]; rfl) rfl rfl
      subst yy5
      have yy6 : fl6 = true := by refine ready_dep (k := 0) (o := ?_) hi (by simp only [List.getElem?_toArray, List.getElem?_cons_succ, List.getElem?_cons_zero]; rfl) rfl rfl
      subst yy6
      have yy7 : fl7 = true := by refine ready_dep (k := 10) (o := ?_) hi (by simp only [List.getElem?_toArray, List.getElem?_cons_succ, List.getElem?_cons_zero]; rfl) rfl rfl
      subst yy7
      have yy8 : fl8 = true := by refine ready_dep (k := 11) (o := ?_) hi (by simp only [List.getElem?_toArray, List.getElem?_cons_succ, List.getElem?_cons_zero]; rfl) rfl rfl
      subst yy8
      have yy3 : fl3 = true := qd5_3.out.get
      subst yy3
      exact absurd rfl hne
    · have u : false = true := by refine ready_dep (k := 2) (o := ?_) hi (by simp only [List.getElem?_toArray, List.getElem?_cons_succ, List.getElem?_cons_zero]; rfl) rfl rfl
      cases u
    · have u : false = true := by refine ready_dep (k := 12) (o := ?_) hi (by simp only [List.getElem?_toArray, List.getElem?_cons_succ, List.getElem?_cons_zero]; rfl) rfl rfl
      cases u
  rintro a wm3 ⟨fl1, fl3, fl5, fl6, fl7, fl8, vl14, vl16, vl18, vl7, vl8, vl9, b4, B4, m4, d4, b5, B5, m5, d5, b6, B6, m6, d6, ad6, ad7, ad8, hl, rfl, hBi, qf1, qf3, qf5, qf6, qf7, qf8, qn6_7, qn6_8, qn7_8, qd3_1, qd5_3⟩
  have xx1 : fl1 = true := by have h := congrArg (fun l : Array Bool => l.getD 1 false) hl; exact h.symm
  subst xx1
  have xx3 : fl3 = true := by have h := congrArg (fun l : Array Bool => l.getD 3 false) hl; exact h.symm
  subst xx3
  have xx5 : fl5 = true := by have h := congrArg (fun l : Array Bool => l.getD 5 false) hl; exact h.symm
  subst xx5
  have xx6 : fl6 = true := by have h := congrArg (fun l : Array Bool => l.getD 6 false) hl; exact h.symm
  subst xx6
  have xx7 : fl7 = true := by have h := congrArg (fun l : Array Bool => l.getD 7 false) hl; exact h.symm
  subst xx7
  have xx8 : fl8 = true := by have h := congrArg (fun l : Array Bool => l.getD 8 false) hl; exact h.symm
  subst xx8
  obtain ⟨rfl, hw4⟩ := qf1.out.get
  obtain ⟨rfl, hw5⟩ := qf3.out.get
  obtain ⟨rfl, hw6⟩ := qf5.out.get
  obtain ⟨rfl, hg6, hk6⟩ := qf6.out.get
  obtain ⟨rfl, hg7, hk7⟩ := qf7.out.get
  obtain ⟨rfl, hg8, hk8⟩ := qf8.out.get
  have n6_7 := qn6_7.out.get.get
  have n6_8 := qn6_8.out.get.get
  have n7_8 := qn7_8.out.get.get
  have hBv := hBi.out
  clear hl hBi qf1 qf3 qf5 qf6 qf7 qf8 qn6_7 qn6_8 qn7_8 qd3_1 qd5_3
  have hk6 : Blk wm3 ad6 29 #[.bool false, .slice none 0 0] := hk6
  have hk7 : Blk wm3 ad7 29 #[.bool false, .slice none 0 0] := hk7
  have hk8 : Blk wm3 ad8 29 #[.bool false, .slice none 0 0] := hk8
  rw [show due #[true, true, true, true, true, true, true, true, true, false, false, false] = 3 from rfl]
  try simp only [Act.put, List.setIfInBounds_toArray, List.set_cons_zero, List.set_cons_succ]
  refine wpAnyH_ready (rs := [9]) (by kernel_rfl) (by simp) ?_
  refine AllReadyH.cons (o := ?_) (by simp only [List.getElem?_toArray, List.getElem?_cons_succ, List.getElem?_cons_zero]; rfl) (fun K hK => ?_) AllReadyH.nil
  have sc0 : (wm3).cell? ⟨ad6, 0, none⟩ = some (.bool false) := hk6.cell 0
  have sf0 : (wm3).frozen? ⟨ad6, 0, none⟩ = false := hk6.frozen 0
  have hj0 : Blk (wm3.setCell ⟨ad6, 0, none⟩ (.bool b4)) ad6 29 #[.bool b4, .slice none 0 0] := hk6.set_ 0 (.bool b4)
  have sc1 : (wm3.setCell ⟨ad6, 0, none⟩ (.bool b4)).cell? ⟨ad6, 1, none⟩ = some (.slice none 0 0) := hj0.cell 1
  have sf1 : (wm3.setCell ⟨ad6, 0, none⟩ (.bool b4)).frozen? ⟨ad6, 1, none⟩ = false := hj0.frozen 1
  have hj1 : Blk ((wm3.setCell ⟨ad6, 0, none⟩ (.bool b4)).setCell ⟨ad6, 1, none⟩ (.slice B4 m4 d4)) ad6 29 #[.bool b4, .slice B4 m4 d4] := hj0.set_ 1 (.slice B4 m4 d4)
  go_simp
  have hBv := keep_below_set (p := ⟨ad6, 1, none⟩) (.slice B4 m4 d4) hg6 (keep_below_set (p := ⟨ad6, 0, none⟩) (.bool b4) hg6 (hBv))
  have hk7 := Blk.far (Blk.far (hk7) (p := ⟨ad6, 0, none⟩) (show ad7 ≠ ad6 from n6_7.symm) (.bool b4)) (p := ⟨ad6, 1, none⟩) (show ad7 ≠ ad6 from n6_7.symm) (.slice B4 m4 d4)
  have hk8 := Blk.far (Blk.far (hk8) (p := ⟨ad6, 0, none⟩) (show ad8 ≠ ad6 from n6_8.symm) (.bool b4)) (p := ⟨ad6, 1, none⟩) (show ad8 ≠ ad6 from n6_8.symm) (.slice B4 m4 d4)
  have hw4 := int_set2 hw4 hk6 b4 B4 m4 d4
  have hw5 := int_set2 hw5 hk6 b4 B4 m4 d4
  have hw6 := int_set2 hw6 hk6 b4 B4 m4 d4
  have hk6 := hj1
  clear sc0 sf0 sc1 sf1 hj0 hj1
  refine hK.out _ _ ?_ (fun hHeld => ?_)
  · ((try dsimp only); exact hBv)
  clear hK K hHeld
  try simp only [Act.put, List.setIfInBounds_toArray, List.set_cons_zero, List.set_cons_succ]
  generalize (wm3.setCell ⟨ad6, 0, none⟩ (.bool b4)).setCell ⟨ad6, 1, none⟩ (.slice B4 m4 d4) = wm4 at *
  refine wpAnyH_ready (rs := [10]) (by kernel_rfl) (by simp) ?_
  refine AllReadyH.cons (o := ?_) (by simp only [List.getElem?_toArray, List.getElem?_cons_succ, List.getElem?_cons_zero]; rfl) (fun K hK => ?_) AllReadyH.nil
  have sc0 : (wm4).cell? ⟨ad7, 0, none⟩ = some (.bool false) := hk7.cell 0
  have sf0 : (wm4).frozen? ⟨ad7, 0, none⟩ = false := hk7.frozen 0
  have hj0 : Blk (wm4.setCell ⟨ad7, 0, none⟩ (.bool b5)) ad7 29 #[.bool b5, .slice none 0 0] := hk7.set_ 0 (.bool b5)
  have sc1 : (wm4.setCell ⟨ad7, 0, none⟩ (.bool b5)).cell? ⟨ad7, 1, none⟩ = some (.slice none 0 0) := hj0.cell 1
  have sf1 : (wm4.setCell ⟨ad7, 0, none⟩ (.bool b5)).frozen? ⟨ad7, 1, none⟩ = false := hj0.frozen 1
  have hj1 : Blk ((wm4.setCell ⟨ad7, 0, none⟩ (.bool b5)).setCell ⟨ad7, 1, none⟩ (.slice B5 m5 d5)) ad7 29 #[.bool b5, .slice B5 m5 d5] := hj0.set_ 1 (.slice B5 m5 d5)
  go_simp
  have hBv := keep_below_set (p := ⟨ad7, 1, none⟩) (.slice B5 m5 d5) hg7 (keep_below_set (p := ⟨ad7, 0, none⟩) (.bool b5) hg7 (hBv))
  have hk6 := Blk.far (Blk.far (hk6) (p := ⟨ad7, 0, none⟩) (show ad6 ≠ ad7 from n6_7) (.bool b5)) (p := ⟨ad7, 1, none⟩) (show ad6 ≠ ad7 from n6_7) (.slice B5 m5 d5)
  have hk8 := Blk.far (Blk.far (hk8) (p := ⟨ad7, 0, none⟩) (show ad8 ≠ ad7 from n7_8.symm) (.bool b5)) (p := ⟨ad7, 1, none⟩) (show ad8 ≠ ad7 from n7_8.symm) (.slice B5 m5 d5)
  have hw4 := int_set2 hw4 hk7 b5 B5 m5 d5
  have hw5 := int_set2 hw5 hk7 b5 B5 m5 d5
  have hw6 := int_set2 hw6 hk7 b5 B5 m5 d5
  have hk7 := hj1
  clear sc0 sf0 sc1 sf1 hj0 hj1
  refine hK.out _ _ ?_ (fun hHeld => ?_)
  · ((try dsimp only); exact hBv)
  clear hK K hHeld
  try simp only [Act.put, List.setIfInBounds_toArray, List.set_cons_zero, List.set_cons_succ]
  generalize (wm4.setCell ⟨ad7, 0, none⟩ (.bool b5)).setCell ⟨ad7, 1, none⟩ (.slice B5 m5 d5) = wm5 at *
  refine wpAnyH_ready (rs := [11]) (by kernel_rfl) (by simp) ?_
  refine AllReadyH.cons (o := ?_) (by simp only [List.getElem?_toArray, List.getElem?_cons_succ, List.getElem?_cons_zero]; rfl) (fun K hK => ?_) AllReadyH.nil
  have sc0 : (wm5).cell? ⟨ad8, 0, none⟩ = some (.bool false) := hk8.cell 0
  have sf0 : (wm5).frozen? ⟨ad8, 0, none⟩ = false := hk8.frozen 0
  have hj0 : Blk (wm5.setCell ⟨ad8, 0, none⟩ (.bool b6)) ad8 29 #[.bool b6, .slice none 0 0] := hk8.set_ 0 (.bool b6)
  have sc1 : (wm5.setCell ⟨ad8, 0, none⟩ (.bool b6)).cell? ⟨ad8, 1, none⟩ = some (.slice none 0 0) := hj0.cell 1
  have sf1 : (wm5.setCell ⟨ad8, 0, none⟩ (.bool b6)).frozen? ⟨ad8, 1, none⟩ = false := hj0.frozen 1
  have hj1 : Blk ((wm5.setCell ⟨ad8, 0, none⟩ (.bool b6)).setCell ⟨ad8, 1, none⟩ (.slice B6 m6 d6)) ad8 29 #[.bool b6, .slice B6 m6 d6] := hj0.set_ 1 (.slice B6 m6 d6)
  go_simp
  have hBv := keep_below_set (p := ⟨ad8, 1, none⟩) (.slice B6 m6 d6) hg8 (keep_below_set (p := ⟨ad8, 0, none⟩) (.bool b6) hg8 (hBv))
  have hk6 := Blk.far (Blk.far (hk6) (p := ⟨ad8, 0, none⟩) (show ad6 ≠ ad8 from n6_8) (.bool b6)) (p := ⟨ad8, 1, none⟩) (show ad6 ≠ ad8 from n6_8) (.slice B6 m6 d6)
  have hk7 := Blk.far (Blk.far (hk7) (p := ⟨ad8, 0, none⟩) (show ad7 ≠ ad8 from n7_8) (.bool b6)) (p := ⟨ad8, 1, none⟩) (show ad7 ≠ ad8 from n7_8) (.slice B6 m6 d6)
  have hw4 := int_set2 hw4 hk8 b6 B6 m6 d6
  have hw5 := int_set2 hw5 hk8 b6 B6 m6 d6
  have hw6 := int_set2 hw6 hk8 b6 B6 m6 d6
  have hk8 := hj1
  clear sc0 sf0 sc1 sf1 hj0 hj1
  refine hK.out _ _ ?_ (fun hHeld => ?_)
  · ((try dsimp only); exact hBv)
  clear hK K hHeld
  try simp only [Act.put, List.setIfInBounds_toArray, List.set_cons_zero, List.set_cons_succ]
  generalize (wm5.setCell ⟨ad8, 0, none⟩ (.bool b6)).setCell ⟨ad8, 1, none⟩ (.slice B6 m6 d6) = wm6 at *
  refine wpAnyH_done (by kernel_rfl) ?_ _
  refine NoPanic.normal ?_
  have hB := keep_below hB hBv
  have g1 := keep_cell hBv g1
  have e1 := keep_cell hBv e1
  have g2 := keep_cell hBv g2
  have e2 := keep_cell hBv e2
  have g3 := keep_cell hBv g3
  have e3 := keep_cell hBv e3
  obtain ⟨ad6_7, hga⟩ : ∃ x, x = ad6 := ⟨_, rfl⟩
  subst hga
  have g7 : wm6.cell? ⟨ad6_7, 0, none⟩ = some (.bool b4) := hk6.cell 0
  have e7 : wm6.cell? ⟨ad6_7, 1, none⟩ = some (.slice B4 m4 d4) := hk6.cell 1
  obtain ⟨ad7_8, hga⟩ : ∃ x, x = ad7 := ⟨_, rfl⟩
  subst hga
  have g8 : wm6.cell? ⟨ad7_8, 0, none⟩ = some (.bool b5) := hk7.cell 0
  have e8 : wm6.cell? ⟨ad7_8, 1, none⟩ = some (.slice B5 m5 d5) := hk7.cell 1
  obtain ⟨ad8_9, hga⟩ : ∃ x, x = ad8 := ⟨_, rfl⟩
  subst hga
  have g9 : wm6.cell? ⟨ad8_9, 0, none⟩ = some (.bool b6) := hk8.cell 0
  have e9 : wm6.cell? ⟨ad8_9, 1, none⟩ = some (.slice B6 m6 d6) := hk8.cell 1
  have HN4 := Lib.hid hw4
  have HN5 := Lib.hid hw5
  have HN6 := Lib.hid hw6
  clear hBv hk6 hg6 hk7 hg7 hk8 hg8 hw4 hw5 hw6 G0 G1 G2 n6_7 n6_8 n7_8
  clear C0 C1 C2
  go_wp2_with fail
  (with_reducible refine (icmp_of (v := k) (HK.out) (HIC.out.cmp (x) (y) b4 b5 B4 B5 m4 m5 d4 d5 _ (HT.out _ hB) HN4.out HN5.out (by have := Sz.words HZ4.out HN4.out.words; omega) (by have := Sz.words HZ5.out HN5.out.words; omega))).mono ?_)
  rintro e wc7 ⟨rfl, hb⟩
  have hB := keep_below hB hb
  have g1 := keep_cell hb g1
  have e1 := keep_cell hb e1
  have g2 := keep_cell hb g2
  have e2 := keep_cell hb e2
  have g3 := keep_cell hb g3
  have e3 := keep_cell hb e3
  have g7 := keep_cell hb g7
  have e7 := keep_cell hb e7
  have g8 := keep_cell hb g8
  have e8 := keep_cell hb e8
  have g9 := keep_cell hb g9
  have e9 := keep_cell hb e9
  have HN4 := Lib.hid (HN4.out.below hb)
  have HN5 := Lib.hid (HN5.out.below hb)
  have HN6 := Lib.hid (HN6.out.below hb)
  clear hb 
  go_wp2_with fail
  (with_reducible refine (icmp_of (v := (-k)) (HZN.out) (HIC.out.cmp (y) (x) b5 b4 B5 B4 m5 m4 d5 d4 _ (HT.out _ hB) HN5.out HN4.out (by have := Sz.words HZ5.out HN5.out.words; omega) (by have := Sz.words HZ4.out HN4.out.words; omega))).mono ?_)
  rintro e wc8 ⟨rfl, hb⟩
  have hB := keep_below hB hb
  have g1 := keep_cell hb g1
  have e1 := keep_cell hb e1
  have g2 := keep_cell hb g2
  have e2 := keep_cell hb e2
  have g3 := keep_cell hb g3
  have e3 := keep_cell hb e3
  have g7 := keep_cell hb g7
  have e7 := keep_cell hb e7
  have g8 := keep_cell hb g8
  have e8 := keep_cell hb e8
  have g9 := keep_cell hb g9
  have e9 := keep_cell hb e9
  have HN4 := Lib.hid (HN4.out.below hb)
  have HN5 := Lib.hid (HN5.out.below hb)
  have HN6 := Lib.hid (HN6.out.below hb)
  clear hb 
  go_wp2_with fail
  (with_reducible refine (icmp_of (v := m) (HE2.out) (HIC.out.cmp (y) (z) b5 b6 B5 B6 m5 m6 d5 d6 _ (HT.out _ hB) HN5.out HN6.out (by have := Sz.words HZ5.out HN5.out.words; omega) (by have := Sz.words HZ6.out HN6.out.words; omega))).mono ?_)
  rintro e wc9 ⟨rfl, hb⟩
  have hB := keep_below hB hb
  have g1 := keep_cell hb g1
  have e1 := keep_cell hb e1
  have g2 := keep_cell hb g2
  have e2 := keep_cell hb e2
  have g3 := keep_cell hb g3
  have e3 := keep_cell hb e3
  have g7 := keep_cell hb g7
  have e7 := keep_cell hb e7
  have g8 := keep_cell hb g8
  have e8 := keep_cell hb e8
  have g9 := keep_cell hb g9
  have e9 := keep_cell hb e9
  have HN4 := Lib.hid (HN4.out.below hb)
  have HN5 := Lib.hid (HN5.out.below hb)
  have HN6 := Lib.hid (HN6.out.below hb)
  clear hb 
  go_wp2_with fail
  (with_reducible refine (icmp_of (v := v) (HE3.out) (HIC.out.cmp (x) (z) b4 b6 B4 B6 m4 m6 d4 d6 _ (HT.out _ hB) HN4.out HN6.out (by have := Sz.words HZ4.out HN4.out.words; omega) (by have := Sz.words HZ6.out HN6.out.words; omega))).mono ?_)
  rintro e wc10 ⟨rfl, hb⟩
  have hB := keep_below hB hb
  have g1 := keep_cell hb g1
  have e1 := keep_cell hb e1
  have g2 := keep_cell hb g2
  have e2 := keep_cell hb e2
  have g3 := keep_cell hb g3
  have e3 := keep_cell hb e3
  have g7 := keep_cell hb g7
  have e7 := keep_cell hb e7
  have g8 := keep_cell hb g8
  have e8 := keep_cell hb e8
  have g9 := keep_cell hb g9
  have e9 := keep_cell hb e9
  have HN4 := Lib.hid (HN4.out.below hb)
  have HN5 := Lib.hid (HN5.out.below hb)
  have HN6 := Lib.hid (HN6.out.below hb)
  clear hb 
  go_wp2_with fail
  have HZ10 : Hid (Sz (K + K + 1) (x + z).natAbs) := SzI.add HZ4.out HZ6.out
  have C0 := Lib.hid (fun w' (h : Below wc10.heap.size wc10 w') => HIC.out.add (x) (z) b4 b6 B4 B6 m4 m6 d4 d6 w' (HT.out _ (keep_below hB h)) (HN4.out.below h) (HN6.out.below h) (by have := Sz.words HZ4.out HN4.out.words; omega) (by have := Sz.words HZ6.out HN6.out.words; omega))
  have HZ11 : Hid (Sz (K + K + 1) (y + z).natAbs) := SzI.add HZ5.out HZ6.out
  have C1 := Lib.hid (fun w' (h : Below wc10.heap.size wc10 w') => HIC.out.add (y) (z) b5 b6 B5 B6 m5 m6 d5 d6 w' (HT.out _ (keep_below hB h)) (HN5.out.below h) (HN6.out.below h) (by have := Sz.words HZ5.out HN5.out.words; omega) (by have := Sz.words HZ6.out HN6.out.words; omega))
  have C2 := Lib.hid (fun w' (h : Below wc10.heap.size wc10 w') (b10 : Bool) (B10 : Option Addr) (m10 : Nat) (d10 : Nat) (hw10 : IntIn w' (x + z) b10 B10 m10 d10) (b11 : Bool) (B11 : Option Addr) (m11 : Nat) (d11 : Nat) (hw11 : IntIn w' (y + z) b11 B11 m11 d11) => icmp_of (v := k) (HAD.out) (HIC.out.cmp (x + z) (y + z) b10 b11 B10 B11 m10 m11 d10 d11 w' (HT.out _ (keep_below hB h)) hw10 hw11 (by have := Sz.words HZ10.out hw10.words; omega) (by have := Sz.words HZ11.out hw11.words; omega)))
  have HZ12 : Hid (Sz (K) (-x).natAbs) := SzI.neg HZ4.out
  have C3 := Lib.hid (fun w' (h : Below wc10.heap.size wc10 w') => HIC.out.neg (x) b4 B4 m4 d4 w' (HT.out _ (keep_below hB h)) (HN4.out.below h) (by have := Sz.words HZ4.out HN4.out.words; omega))
  have HZ13 : Hid (Sz (K) (-y).natAbs) := SzI.neg HZ5.out
  have C4 := Lib.hid (fun w' (h : Below wc10.heap.size wc10 w') => HIC.out.neg (y) b5 B5 m5 d5 w' (HT.out _ (keep_below hB h)) (HN5.out.below h) (by have := Sz.words HZ5.out HN5.out.words; omega))
  have C5 := Lib.hid (fun w' (h : Below wc10.heap.size wc10 w') (b12 : Bool) (B12 : Option Addr) (m12 : Nat) (d12 : Nat) (hw12 : IntIn w' (-x) b12 B12 m12 d12) (b13 : Bool) (B13 : Option Addr) (m13 : Nat) (d13 : Nat) (hw13 : IntIn w' (-y) b13 B13 m13 d13) => icmp_of (v := (-k)) (HOP.out) (HIC.out.cmp (-x) (-y) b12 b13 B12 B13 m12 m13 d12 d13 w' (HT.out _ (keep_below hB h)) hw12 hw13 (by have := Sz.words HZ12.out hw12.words; omega) (by have := Sz.words HZ13.out hw13.words; omega)))
  have hb0 : Below wc10.heap.size wc10 wc10.drew := (Below.refl _ wc10).drew
  have j0 : wc10.drew.cell? ⟨ad6_7, 0, none⟩ = some (.bool b4) := g7
  have j1 : wc10.drew.cell? ⟨ad6_7, 1, none⟩ = some (.slice B4 m4 d4) := e7
  have j2 : wc10.drew.cell? ⟨ad8_9, 0, none⟩ = some (.bool b6) := g9
  have j3 : wc10.drew.cell? ⟨ad8_9, 1, none⟩ = some (.slice B6 m6 d6) := e9
  have j4 : wc10.drew.cell? ⟨ad7_8, 0, none⟩ = some (.bool b5) := g8
  have j5 : wc10.drew.cell? ⟨ad7_8, 1, none⟩ = some (.slice B5 m5 d5) := e8
  refine wp_region_noPanic ?_
  refine wp_region_held_drew (S := (fun w' => Below wc10.heap.size wc10 w' ∧ w'.cell? ⟨ad6_7, 0, none⟩ = some (.bool b4) ∧ w'.cell? ⟨ad6_7, 1, none⟩ = some (.slice B4 m4 d4) ∧ w'.cell? ⟨ad8_9, 0, none⟩ = some (.bool b6) ∧ w'.cell? ⟨ad8_9, 1, none⟩ = some (.slice B6 m6 d6) ∧ w'.cell? ⟨ad7_8, 0, none⟩ = some (.bool b5) ∧ w'.cell? ⟨ad7_8, 1, none⟩ = some (.slice B5 m5 d5))) (by kernel_rfl) ?_ (fun hHeld => ?_)
  · exact ⟨hb0, j0, j1, j2, j3, j4, j5⟩
  refine wpAnyH_take (i := 0) (oi := ?_) (v := ?_) (by simp only [List.getElem?_toArray, List.getElem?_cons_succ, List.getElem?_cons_zero]; rfl) (by kernel_rfl) (by kernel_rfl) (by kernel_rfl) (fun _ _ _ h => h) (Or.inl ⟨by rfl, ?_⟩) (by with_reducible assumption) ?_
  rotate_left
  focus ((intro w hSw; (try dsimp only at hSw); go_simp); (try with_reducible rfl))
  try simp only [Act.put, List.setIfInBounds_toArray, List.set_cons_zero, List.set_cons_succ]
  refine wpAnyH_take (i := 1) (oi := ?_) (v := ?_) (by simp only [List.getElem?_toArray, List.getElem?_cons_succ, List.getElem?_cons_zero]; rfl) (by kernel_rfl) (by kernel_rfl) (by kernel_rfl) (fun _ _ _ h => h) (Or.inl ⟨by rfl, ?_⟩) (by with_reducible assumption) ?_
  rotate_left
  focus ((intro w hSw; (try dsimp only at hSw); go_simp); (try with_reducible rfl))
  try simp only [Act.put, List.setIfInBounds_toArray, List.set_cons_zero, List.set_cons_succ]
  refine wpAnyH_take (i := 3) (oi := ?_) (v := ?_) (by simp only [List.getElem?_toArray, List.getElem?_cons_succ, List.getElem?_cons_zero]; rfl) (by kernel_rfl) (by kernel_rfl) (by kernel_rfl) (fun _ _ _ h => h) (Or.inl ⟨by rfl, ?_⟩) (by with_reducible assumption) ?_
  rotate_left
  focus ((intro w hSw; (try dsimp only at hSw); go_simp); (try with_reducible rfl))
  try simp only [Act.put, List.setIfInBounds_toArray, List.set_cons_zero, List.set_cons_succ]
  refine wpAnyH_take (i := 4) (oi := ?_) (v := ?_) (by simp only [List.getElem?_toArray, List.getElem?_cons_succ, List.getElem?_cons_zero]; rfl) (by kernel_rfl) (by kernel_rfl) (by kernel_rfl) (fun _ _ _ h => h) (Or.inl ⟨by rfl, ?_⟩) (by with_reducible assumption) ?_
  rotate_left
  focus ((intro w hSw; (try dsimp only at hSw); go_simp); (try with_reducible rfl))
  try simp only [Act.put, List.setIfInBounds_toArray, List.set_cons_zero, List.set_cons_succ]
  refine wpAnyH_take (i := 7) (oi := ?_) (v := ?_) (by simp only [List.getElem?_toArray, List.getElem?_cons_succ, List.getElem?_cons_zero]; rfl) (by kernel_rfl) (by kernel_rfl) (by kernel_rfl) (fun _ _ _ h => h) (Or.inl ⟨by rfl, ?_⟩) (by with_reducible assumption) ?_
  rotate_left
  focus ((intro w hSw; (try dsimp only at hSw); go_simp); (try with_reducible rfl))
  try simp only [Act.put, List.setIfInBounds_toArray, List.set_cons_zero, List.set_cons_succ]
  refine wpAnyH_ready (rs := [2]) (by kernel_rfl) (by simp) ?_
  refine AllReadyH.cons (o := ?_) (by simp only [List.getElem?_toArray, List.getElem?_cons_succ, List.getElem?_cons_zero]; rfl) (fun K hK => ?_) AllReadyH.nil
  go_simp
  (go_at_call 17; (with_reducible refine (C0.out _ (by first | with_reducible assumption | exact And.left (by with_reducible assumption))).mono ?_); rintro e wa11 ⟨b10, B10, m10, d10, rfl, hw10, hb⟩; go_split_ands; have hBw : Below wc10.heap.size wc10 wa11 := keep_below (by with_reducible assumption) hb; have gw0 : wa11.cell? ⟨ad6_7, 0, none⟩ = some (.bool b4) := keep_cell hb (by with_reducible assumption); have gw1 : wa11.cell? ⟨ad6_7, 1, none⟩ = some (.slice B4 m4 d4) := keep_cell hb (by with_reducible assumption); have gw2 : wa11.cell? ⟨ad8_9, 0, none⟩ = some (.bool b6) := keep_cell hb (by with_reducible assumption); have gw3 : wa11.cell? ⟨ad8_9, 1, none⟩ = some (.slice B6 m6 d6) := keep_cell hb (by with_reducible assumption); have gw4 : wa11.cell? ⟨ad7_8, 0, none⟩ = some (.bool b5) := keep_cell hb (by with_reducible assumption); have gw5 : wa11.cell? ⟨ad7_8, 1, none⟩ = some (.slice B5 m5 d5) := keep_cell hb (by with_reducible assumption))
  refine hK.out _ _ ?_ (fun hHeld => ?_)
  · ((try dsimp only); (first | (with_reducible exact ⟨hb0, j0, j1, j2, j3, j4, j5⟩) | (go_split_ands; (repeat' apply And.intro); all_goals (first | with_reducible assumption | with_reducible exact keep_below (by with_reducible assumption) hb | with_reducible exact keep_cell hb (by with_reducible assumption)))))
  clear hK K
  try simp only [Act.put, List.setIfInBounds_toArray, List.set_cons_zero, List.set_cons_succ]
  refine wpAnyH_ready (rs := [5]) (by kernel_rfl) (by simp) ?_
  refine AllReadyH.cons (o := ?_) (by simp only [List.getElem?_toArray, List.getElem?_cons_succ, List.getElem?_cons_zero]; rfl) (fun K hK => ?_) AllReadyH.nil
  go_simp
  (go_at_call 17; (with_reducible refine (C1.out _ (by first | with_reducible assumption | exact And.left (by with_reducible assumption))).mono ?_); rintro e wa12 ⟨b11, B11, m11, d11, rfl, hw11, hb⟩; go_split_ands; have hBw : Below wc10.heap.size wc10 wa12 := keep_below (by with_reducible assumption) hb; have gw0 : wa12.cell? ⟨ad6_7, 0, none⟩ = some (.bool b4) := keep_cell hb (by with_reducible assumption); have gw1 : wa12.cell? ⟨ad6_7, 1, none⟩ = some (.slice B4 m4 d4) := keep_cell hb (by with_reducible assumption); have gw2 : wa12.cell? ⟨ad8_9, 0, none⟩ = some (.bool b6) := keep_cell hb (by with_reducible assumption); have gw3 : wa12.cell? ⟨ad8_9, 1, none⟩ = some (.slice B6 m6 d6) := keep_cell hb (by with_reducible assumption); have gw4 : wa12.cell? ⟨ad7_8, 0, none⟩ = some (.bool b5) := keep_cell hb (by with_reducible assumption); have gw5 : wa12.cell? ⟨ad7_8, 1, none⟩ = some (.slice B5 m5 d5) := keep_cell hb (by with_reducible assumption); (with_reducible have hw10 := hw10.below hb))
  refine hK.out _ _ ?_ (fun hHeld => ?_)
  · ((try dsimp only); (first | (with_reducible exact ⟨hb0, j0, j1, j2, j3, j4, j5⟩) | (go_split_ands; (repeat' apply And.intro); all_goals (first | with_reducible assumption | with_reducible exact keep_below (by with_reducible assumption) hb | with_reducible exact keep_cell hb (by with_reducible assumption)))))
  clear hK K
  try simp only [Act.put, List.setIfInBounds_toArray, List.set_cons_zero, List.set_cons_succ]
  refine wpAnyH_ready (rs := [6]) (by kernel_rfl) (by simp) ?_
  refine AllReadyH.cons (o := ?_) (by simp only [List.getElem?_toArray, List.getElem?_cons_succ, List.getElem?_cons_zero]; rfl) (fun K hK => ?_) AllReadyH.nil
  go_simp
  (go_at_call 22; (with_reducible refine (C2.out _ (by first | with_reducible assumption | exact And.left (by with_reducible assumption)) _ _ _ _ hw10 _ _ _ _ hw11).mono ?_); rintro e wa13 ⟨rfl, hb⟩; go_split_ands; have hBw : Below wc10.heap.size wc10 wa13 := keep_below (by with_reducible assumption) hb; have gw0 : wa13.cell? ⟨ad6_7, 0, none⟩ = some (.bool b4) := keep_cell hb (by with_reducible assumption); have gw1 : wa13.cell? ⟨ad6_7, 1, none⟩ = some (.slice B4 m4 d4) := keep_cell hb (by with_reducible assumption); have gw2 : wa13.cell? ⟨ad8_9, 0, none⟩ = some (.bool b6) := keep_cell hb (by with_reducible assumption); have gw3 : wa13.cell? ⟨ad8_9, 1, none⟩ = some (.slice B6 m6 d6) := keep_cell hb (by with_reducible assumption); have gw4 : wa13.cell? ⟨ad7_8, 0, none⟩ = some (.bool b5) := keep_cell hb (by with_reducible assumption); have gw5 : wa13.cell? ⟨ad7_8, 1, none⟩ = some (.slice B5 m5 d5) := keep_cell hb (by with_reducible assumption); (with_reducible have hw10 := hw10.below hb); (with_reducible have hw11 := hw11.below hb))
  refine hK.out _ _ ?_ (fun hHeld => ?_)
  · ((try dsimp only); (first | (with_reducible exact ⟨hb0, j0, j1, j2, j3, j4, j5⟩) | (go_split_ands; (repeat' apply And.intro); all_goals (first | with_reducible assumption | with_reducible exact keep_below (by with_reducible assumption) hb | with_reducible exact keep_cell hb (by with_reducible assumption)))))
  clear hK K
  try simp only [Act.put, List.setIfInBounds_toArray, List.set_cons_zero, List.set_cons_succ]
  refine wpAnyH_take (i := 8) (oi := ?_) (v := ?_) (by simp only [List.getElem?_toArray, List.getElem?_cons_succ, List.getElem?_cons_zero]; rfl) (by kernel_rfl) (by kernel_rfl) (by kernel_rfl) (fun _ _ _ h => h) (Or.inl ⟨by rfl, ?_⟩) (by with_reducible assumption) ?_
  rotate_left
  focus ((intro w hSw; (try dsimp only at hSw); go_simp); (try with_reducible rfl))
  try simp only [Act.put, List.setIfInBounds_toArray, List.set_cons_zero, List.set_cons_succ]
  refine wpAnyH_take (i := 9) (oi := ?_) (v := ?_) (by simp only [List.getElem?_toArray, List.getElem?_cons_succ, List.getElem?_cons_zero]; rfl) (by kernel_rfl) (by kernel_rfl) (by kernel_rfl) (fun _ _ _ h => h) (Or.inl ⟨by rfl, ?_⟩) (by with_reducible assumption) ?_
  rotate_left
  focus ((intro w hSw; (try dsimp only at hSw); go_simp); (try with_reducible rfl))
  try simp only [Act.put, List.setIfInBounds_toArray, List.set_cons_zero, List.set_cons_succ]
  refine wpAnyH_take (i := 10) (oi := ?_) (v := ?_) (by simp only [List.getElem?_toArray, List.getElem?_cons_succ, List.getElem?_cons_zero]; rfl) (by kernel_rfl) (by kernel_rfl) (by kernel_rfl) (fun _ _ _ h => h) (Or.inl ⟨by rfl, ?_⟩) (by with_reducible assumption) ?_
  rotate_left
  focus ((intro w hSw; (try dsimp only at hSw); go_simp); (try with_reducible rfl))
  try simp only [Act.put, List.setIfInBounds_toArray, List.set_cons_zero, List.set_cons_succ]
  refine wpAnyH_take (i := 12) (oi := ?_) (v := ?_) (by simp only [List.getElem?_toArray, List.getElem?_cons_succ, List.getElem?_cons_zero]; rfl) (by kernel_rfl) (by kernel_rfl) (by kernel_rfl) (fun _ _ _ h => h) (Or.inl ⟨by rfl, ?_⟩) (by with_reducible assumption) ?_
  rotate_left
  focus ((intro w hSw; (try dsimp only at hSw); go_simp); (try with_reducible rfl))
  try simp only [Act.put, List.setIfInBounds_toArray, List.set_cons_zero, List.set_cons_succ]
  refine wpAnyH_take (i := 15) (oi := ?_) (v := ?_) (by simp only [List.getElem?_toArray, List.getElem?_cons_succ, List.getElem?_cons_zero]; rfl) (by kernel_rfl) (by kernel_rfl) (by kernel_rfl) (fun _ _ _ h => h) (Or.inl ⟨by rfl, ?_⟩) (by with_reducible assumption) ?_
  rotate_left
  focus ((intro w hSw; (try dsimp only at hSw); go_simp); (try with_reducible rfl))
  try simp only [Act.put, List.setIfInBounds_toArray, List.set_cons_zero, List.set_cons_succ]
  refine wpAnyH_take (i := 16) (oi := ?_) (v := ?_) (by simp only [List.getElem?_toArray, List.getElem?_cons_succ, List.getElem?_cons_zero]; rfl) (by kernel_rfl) (by kernel_rfl) (by kernel_rfl) (fun _ _ _ h => h) (Or.inl ⟨by rfl, ?_⟩) (by with_reducible assumption) ?_
  rotate_left
  focus ((intro w hSw; (try dsimp only at hSw); go_simp); (try with_reducible rfl))
  try simp only [Act.put, List.setIfInBounds_toArray, List.set_cons_zero, List.set_cons_succ]
  refine wpAnyH_ready (rs := [11]) (by kernel_rfl) (by simp) ?_
  refine AllReadyH.cons (o := ?_) (by simp only [List.getElem?_toArray, List.getElem?_cons_succ, List.getElem?_cons_zero]; rfl) (fun K hK => ?_) AllReadyH.nil
  go_simp
  (go_at_call 15; (with_reducible refine (C3.out _ (by first | with_reducible assumption | exact And.left (by with_reducible assumption))).mono ?_); rintro e wa14 ⟨b12, B12, m12, d12, rfl, hw12, hb⟩; go_split_ands; have hBw : Below wc10.heap.size wc10 wa14 := keep_below (by with_reducible assumption) hb; have gw0 : wa14.cell? ⟨ad6_7, 0, none⟩ = some (.bool b4) := keep_cell hb (by with_reducible assumption); have gw1 : wa14.cell? ⟨ad6_7, 1, none⟩ = some (.slice B4 m4 d4) := keep_cell hb (by with_reducible assumption); have gw2 : wa14.cell? ⟨ad8_9, 0, none⟩ = some (.bool b6) := keep_cell hb (by with_reducible assumption); have gw3 : wa14.cell? ⟨ad8_9, 1, none⟩ = some (.slice B6 m6 d6) := keep_cell hb (by with_reducible assumption); have gw4 : wa14.cell? ⟨ad7_8, 0, none⟩ = some (.bool b5) := keep_cell hb (by with_reducible assumption); have gw5 : wa14.cell? ⟨ad7_8, 1, none⟩ = some (.slice B5 m5 d5) := keep_cell hb (by with_reducible assumption); (with_reducible have hw10 := hw10.below hb); (with_reducible have hw11 := hw11.below hb))
  refine hK.out _ _ ?_ (fun hHeld => ?_)
  · ((try dsimp only); (first | (with_reducible exact ⟨hb0, j0, j1, j2, j3, j4, j5⟩) | (go_split_ands; (repeat' apply And.intro); all_goals (first | with_reducible assumption | with_reducible exact keep_below (by with_reducible assumption) hb | with_reducible exact keep_cell hb (by with_reducible assumption)))))
  clear hK K
  try simp only [Act.put, List.setIfInBounds_toArray, List.set_cons_zero, List.set_cons_succ]
  refine wpAnyH_ready (rs := [13]) (by kernel_rfl) (by simp) ?_
  refine AllReadyH.cons (o := ?_) (by simp only [List.getElem?_toArray, List.getElem?_cons_succ, List.getElem?_cons_zero]; rfl) (fun K hK => ?_) AllReadyH.nil
  go_simp
  (go_at_call 15; (with_reducible refine (C4.out _ (by first | with_reducible assumption | exact And.left (by with_reducible assumption))).mono ?_); rintro e wa15 ⟨b13, B13, m13, d13, rfl, hw13, hb⟩; go_split_ands; have hBw : Below wc10.heap.size wc10 wa15 := keep_below (by with_reducible assumption) hb; have gw0 : wa15.cell? ⟨ad6_7, 0, none⟩ = some (.bool b4) := keep_cell hb (by with_reducible assumption); have gw1 : wa15.cell? ⟨ad6_7, 1, none⟩ = some (.slice B4 m4 d4) := keep_cell hb (by with_reducible assumption); have gw2 : wa15.cell? ⟨ad8_9, 0, none⟩ = some (.bool b6) := keep_cell hb (by with_reducible assumption); have gw3 : wa15.cell? ⟨ad8_9, 1, none⟩ = some (.slice B6 m6 d6) := keep_cell hb (by with_reducible assumption); have gw4 : wa15.cell? ⟨ad7_8, 0, none⟩ = some (.bool b5) := keep_cell hb (by with_reducible assumption); have gw5 : wa15.cell? ⟨ad7_8, 1, none⟩ = some (.slice B5 m5 d5) := keep_cell hb (by with_reducible assumption); (with_reducible have hw10 := hw10.below hb); (with_reducible have hw11 := hw11.below hb); (with_reducible have hw12 := hw12.below hb))
  refine hK.out _ _ ?_ (fun hHeld => ?_)
  · ((try dsimp only); (first | (with_reducible exact ⟨hb0, j0, j1, j2, j3, j4, j5⟩) | (go_split_ands; (repeat' apply And.intro); all_goals (first | with_reducible assumption | with_reducible exact keep_below (by with_reducible assumption) hb | with_reducible exact keep_cell hb (by with_reducible assumption)))))
  clear hK K
  try simp only [Act.put, List.setIfInBounds_toArray, List.set_cons_zero, List.set_cons_succ]
  refine wpAnyH_ready (rs := [14]) (by kernel_rfl) (by simp) ?_
  refine AllReadyH.cons (o := ?_) (by simp only [List.getElem?_toArray, List.getElem?_cons_succ, List.getElem?_cons_zero]; rfl) (fun K hK => ?_) AllReadyH.nil
  go_simp
  (go_at_call 22; (with_reducible refine (C5.out _ (by first | with_reducible assumption | exact And.left (by with_reducible assumption)) _ _ _ _ hw12 _ _ _ _ hw13).mono ?_); rintro e wa16 ⟨rfl, hb⟩; go_split_ands; have hBw : Below wc10.heap.size wc10 wa16 := keep_below (by with_reducible assumption) hb; have gw0 : wa16.cell? ⟨ad6_7, 0, none⟩ = some (.bool b4) := keep_cell hb (by with_reducible assumption); have gw1 : wa16.cell? ⟨ad6_7, 1, none⟩ = some (.slice B4 m4 d4) := keep_cell hb (by with_reducible assumption); have gw2 : wa16.cell? ⟨ad8_9, 0, none⟩ = some (.bool b6) := keep_cell hb (by with_reducible assumption); have gw3 : wa16.cell? ⟨ad8_9, 1, none⟩ = some (.slice B6 m6 d6) := keep_cell hb (by with_reducible assumption); have gw4 : wa16.cell? ⟨ad7_8, 0, none⟩ = some (.bool b5) := keep_cell hb (by with_reducible assumption); have gw5 : wa16.cell? ⟨ad7_8, 1, none⟩ = some (.slice B5 m5 d5) := keep_cell hb (by with_reducible assumption); (with_reducible have hw10 := hw10.below hb); (with_reducible have hw11 := hw11.below hb); (with_reducible have hw12 := hw12.below hb); (with_reducible have hw13 := hw13.below hb))
  refine hK.out _ _ ?_ (fun hHeld => ?_)
  · ((try dsimp only); (first | (with_reducible exact ⟨hb0, j0, j1, j2, j3, j4, j5⟩) | (go_split_ands; (repeat' apply And.intro); all_goals (first | with_reducible assumption | with_reducible exact keep_below (by with_reducible assumption) hb | with_reducible exact keep_cell hb (by with_reducible assumption)))))
  clear hK K
  try simp only [Act.put, List.setIfInBounds_toArray, List.set_cons_zero, List.set_cons_succ]
  refine wpAnyH_take (i := 17) (oi := ?_) (v := ?_) (by simp only [List.getElem?_toArray, List.getElem?_cons_succ, List.getElem?_cons_zero]; rfl) (by kernel_rfl) (by kernel_rfl) (by kernel_rfl) (fun _ _ _ h => h) (Or.inl ⟨by rfl, ?_⟩) (by with_reducible assumption) ?_
  rotate_left
  focus ((intro w hSw; (try dsimp only at hSw); go_simp); (try with_reducible rfl))
  try simp only [Act.put, List.setIfInBounds_toArray, List.set_cons_zero, List.set_cons_succ]
  refine wpAnyH_take (i := 18) (oi := ?_) (v := ?_) (by simp only [List.getElem?_toArray, List.getElem?_cons_succ, List.getElem?_cons_zero]; rfl) (by kernel_rfl) (by kernel_rfl) (by kernel_rfl) (fun _ _ _ h => h) (Or.inl ⟨by rfl, ?_⟩) (by with_reducible assumption) ?_
  rotate_left
  focus ((intro w hSw; (try dsimp only at hSw); go_simp); (try with_reducible rfl))
  try simp only [Act.put, List.setIfInBounds_toArray, List.set_cons_zero, List.set_cons_succ]
  refine wpAnyH_take (i := 19) (oi := ?_) (v := ?_) (by simp only [List.getElem?_toArray, List.getElem?_cons_succ, List.getElem?_cons_zero]; rfl) (by kernel_rfl) (by kernel_rfl) (by kernel_rfl) (fun _ _ _ h => h) (Or.inl ⟨by rfl, ?_⟩) (by with_reducible assumption) ?_
  rotate_left
  focus ((intro w hSw; (try dsimp only at hSw); go_simp); (try with_reducible rfl))
  try simp only [Act.put, List.setIfInBounds_toArray, List.set_cons_zero, List.set_cons_succ]
  refine wpAnyH_done (by kernel_rfl) ?_ _
  refine NoPanic.normal ?_
  clear hb
  have hB := keep_below hB hBw
  have g1 := keep_cell hBw g1
  have e1 := keep_cell hBw e1
  have g2 := keep_cell hBw g2
  have e2 := keep_cell hBw e2
  have g3 := keep_cell hBw g3
  have e3 := keep_cell hBw e3
  have g7 := keep_cell hBw g7
  have e7 := keep_cell hBw e7
  have g8 := keep_cell hBw g8
  have e8 := keep_cell hBw e8
  have g9 := keep_cell hBw g9
  have e9 := keep_cell hBw e9
  have HN4 := Lib.hid (HN4.out.below hBw)
  have HN5 := Lib.hid (HN5.out.below hBw)
  have HN6 := Lib.hid (HN6.out.below hBw)
  have HN10 := Lib.hid hw10
  have HN11 := Lib.hid hw11
  have HN12 := Lib.hid hw12
  have HN13 := Lib.hid hw13
  clear hb0 hBw gw0 gw1 gw2 gw3 gw4 gw5 hw10 hw11 hw12 hw13
  clear j0
  clear j1
  clear j2
  clear j3
  clear j4
  clear j5
  clear C0 C1 C2 C3 C4 C5
  go_wp2
  go_ret
  exact ⟨by first | rfl | simp, hB⟩
theorem integerOrder_core {T : World → Prop} (hTb : ∀ w w', T w → Below w.heap.size w w' → T w') (IC : IntC T) (s0 : Bool) (A0 : Option Addr) (n0 c0 : Nat) (l0 : List Nat) (s1 : Bool) (A1 : Option Addr) (n1 c1 : Nat) (l1 : List Nat) (s2 : Bool) (A2 : Option Addr) (n2 c2 : Nat) (l2 : List Nat) (w : World) (h0 : ArgWords w A0 n0 c0 l0) (h1 : ArgWords w A1 n1 c1 l1) (h2 : ArgWords w A2 n2 c2 l2) (hT : T w) :
    Calls Try.prog 9 #[.agg #[.bool s0, .slice A0 n0 c0], .agg #[.bool s1, .slice A1 n1 c1], .agg #[.bool s2, .slice A2 n2 c2]] w fun e w' => e = .returned (.bool true) ∧ Below w.heap.size w w' := by
  by_cases hp : 0 < cmpZ (zOf s0 l0) (zOf s1 l1)
  · exact integerOrder_1 hTb IC s0 A0 n0 c0 l0 s1 A1 n1 c1 l1 s2 A2 n2 c2 l2 w h0 h1 h2 hp hT
  · by_cases hq : 0 < cmpZ (zOf s1 l1) (zOf s2 l2)
    · exact integerOrder_2 hTb IC s0 A0 n0 c0 l0 s1 A1 n1 c1 l1 s2 A2 n2 c2 l2 w h0 h1 h2 (by omega) hq hT
    · exact integerOrder_3 hTb IC s0 A0 n0 c0 l0 s1 A1 n1 c1 l1 s2 A2 n2 c2 l2 w h0 h1 h2 (by omega) (by omega) hT
end Go.Proofs.Ytnfednkphcapnaa
