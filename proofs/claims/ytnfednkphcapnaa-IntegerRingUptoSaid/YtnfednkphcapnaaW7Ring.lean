/-
  The walk of the law IntegerRing. Conditions: the words that came in are at most 1048576; integer's functions do as IntC says.
-/
import Derived.Test.YtnfednkphcapnaaRows
import Derived.Test.YtnfednkphcapnaaBunB
import Derived.WalkKit
import Derived.Lib.Hide
import Derived.Outline
import Derived.IntWalk
import Derived.Deep.RegionHeld3
namespace Go.Proofs.Ytnfednkphcapnaa
open Go Go.RowKit
set_option maxRecDepth 100000
set_option linter.unusedVariables false
set_option linter.unusedSimpArgs false
set_option maxHeartbeats 16000000 in
theorem integerRing_core {T : World → Prop} (hTb : ∀ w w', T w → Below w.heap.size w w' → T w') (IC : IntC T) (s0 : Bool) (A0 : Option Addr) (n0 c0 : Nat) (l0 : List Nat) (s1 : Bool) (A1 : Option Addr) (n1 c1 : Nat) (l1 : List Nat) (s2 : Bool) (A2 : Option Addr) (n2 c2 : Nat) (l2 : List Nat) (w : World) (h0 : ArgWords w A0 n0 c0 l0) (h1 : ArgWords w A1 n1 c1 l1) (h2 : ArgWords w A2 n2 c2 l2) (hT : T w) :
    Calls Try.prog 7 #[.agg #[.bool s0, .slice A0 n0 c0], .agg #[.bool s1, .slice A1 n1 c1], .agg #[.bool s2, .slice A2 n2 c2]] w fun e w' => e = .returned (.bool true) ∧ Below w.heap.size w w' := by
  have HAW := Lib.hid (fun w' (hb : Below w.heap.size w w') => law7_awake hTb IC w' (hTb w w' hT hb))
  have HIC := Lib.hid IC
  have HT := Lib.hid (fun w' (hb : Below w.heap.size w w') => hTb w w' hT hb)
  obtain ⟨K, hK⟩ : ∃ K, 1048576 = K := ⟨_, rfl⟩
  have hKK : K ≤ 1048576 := by omega
  have HM0 := Lib.hid (fun w' (hb : Below w.heap.size w w') => law7_make hTb IC s0 A0 n0 c0 l0 w' ⟨(h0.reads.below hb).more hb.size, h0.dgs, h0.fits, h0.small⟩ (hTb w w' hT hb))
  have S0 : Sz 1048576 (zOf s0 l0).natAbs := by rw [zOf_abs]; exact arg_sz h0
  rw [hK] at S0
  obtain ⟨x, hz0⟩ : ∃ x, zOf s0 l0 = x := ⟨_, rfl⟩
  rw [hz0] at HM0 S0
  have HS0 := Lib.hid S0
  have HM1 := Lib.hid (fun w' (hb : Below w.heap.size w w') => law7_make hTb IC s1 A1 n1 c1 l1 w' ⟨(h1.reads.below hb).more hb.size, h1.dgs, h1.fits, h1.small⟩ (hTb w w' hT hb))
  have S1 : Sz 1048576 (zOf s1 l1).natAbs := by rw [zOf_abs]; exact arg_sz h1
  rw [hK] at S1
  obtain ⟨y, hz1⟩ : ∃ x, zOf s1 l1 = x := ⟨_, rfl⟩
  rw [hz1] at HM1 S1
  have HS1 := Lib.hid S1
  have HM2 := Lib.hid (fun w' (hb : Below w.heap.size w w') => law7_make hTb IC s2 A2 n2 c2 l2 w' ⟨(h2.reads.below hb).more hb.size, h2.dgs, h2.fits, h2.small⟩ (hTb w w' hT hb))
  have S2 : Sz 1048576 (zOf s2 l2).natAbs := by rw [zOf_abs]; exact arg_sz h2
  rw [hK] at S2
  obtain ⟨z, hz2⟩ : ∃ x, zOf s2 l2 = x := ⟨_, rfl⟩
  rw [hz2] at HM2 S2
  have HS2 := Lib.hid S2
  clear IC hT h0 hz0 S0 h1 hz1 S1 h2 hz2 S2 hK
  go_enter Try.func7, Try.ntmps7
  have hB := Below.refl w.heap.size w
  obtain ⟨bx1, bx2, bx3, bx4, bz⟩ := box3 w 24 24 24 #[.bool s0, .slice A0 n0 c0] #[.bool s1, .slice A1 n1 c1] #[.bool s2, .slice A2 n2 c2]
  have hB := keep_below hB bx1
  have g1 : (((w.alloc (.cells #[.bool s0, .slice A0 n0 c0] 24)).alloc (.cells #[.bool s1, .slice A1 n1 c1] 24)).alloc (.cells #[.bool s2, .slice A2 n2 c2] 24)).cell? ⟨w.heap.size, 0, none⟩ = some (.bool s0) := bx2.cell 0
  have e1 : (((w.alloc (.cells #[.bool s0, .slice A0 n0 c0] 24)).alloc (.cells #[.bool s1, .slice A1 n1 c1] 24)).alloc (.cells #[.bool s2, .slice A2 n2 c2] 24)).cell? ⟨w.heap.size, 1, none⟩ = some (.slice A0 n0 c0) := bx2.cell 1
  have g2 : (((w.alloc (.cells #[.bool s0, .slice A0 n0 c0] 24)).alloc (.cells #[.bool s1, .slice A1 n1 c1] 24)).alloc (.cells #[.bool s2, .slice A2 n2 c2] 24)).cell? ⟨w.heap.size + 1, 0, none⟩ = some (.bool s1) := bx3.cell 0
  have e2 : (((w.alloc (.cells #[.bool s0, .slice A0 n0 c0] 24)).alloc (.cells #[.bool s1, .slice A1 n1 c1] 24)).alloc (.cells #[.bool s2, .slice A2 n2 c2] 24)).cell? ⟨w.heap.size + 1, 1, none⟩ = some (.slice A1 n1 c1) := bx3.cell 1
  have g3 : (((w.alloc (.cells #[.bool s0, .slice A0 n0 c0] 24)).alloc (.cells #[.bool s1, .slice A1 n1 c1] 24)).alloc (.cells #[.bool s2, .slice A2 n2 c2] 24)).cell? ⟨w.heap.size + 1 + 1, 0, none⟩ = some (.bool s2) := bx4.cell 0
  have e3 : (((w.alloc (.cells #[.bool s0, .slice A0 n0 c0] 24)).alloc (.cells #[.bool s1, .slice A1 n1 c1] 24)).alloc (.cells #[.bool s2, .slice A2 n2 c2] 24)).cell? ⟨w.heap.size + 1 + 1, 1, none⟩ = some (.slice A2 n2 c2) := bx4.cell 1
  clear bx1 bx2 bx3 bx4 bz
  go_wp2_with fail
  generalize ((w.alloc (.cells #[.bool s0, .slice A0 n0 c0] 24)).alloc (.cells #[.bool s1, .slice A1 n1 c1] 24)).alloc (.cells #[.bool s2, .slice A2 n2 c2] 24) = W1 at *
  (with_reducible refine (HAW.out _ hB).mono ?_)
  rintro e wc2 ⟨rfl, hb⟩
  have hB := keep_below hB hb
  have g1 := keep_cell hb g1
  have e1 := keep_cell hb e1
  have g2 := keep_cell hb g2
  have e2 := keep_cell hb e2
  have g3 := keep_cell hb g3
  have e3 := keep_cell hb e3
  clear hb 
  go_wp2_with fail
  have HZ4 : Hid (Sz (K) (x).natAbs) := HS0.out
  have C0 := Lib.hid (fun w' (h : Below wc2.heap.size wc2 w') => HM0.out _ (keep_below hB h))
  have HZ5 : Hid (Sz (K) (y).natAbs) := HS1.out
  have C1 := Lib.hid (fun w' (h : Below wc2.heap.size wc2 w') => HM1.out _ (keep_below hB h))
  have HZ6 : Hid (Sz (K) (z).natAbs) := HS2.out
  have C2 := Lib.hid (fun w' (h : Below wc2.heap.size wc2 w') => HM2.out _ (keep_below hB h))
  have G0 := Lib.hid (fun w' (h : Below wc2.heap.size wc2 w') => (⟨keep_cell h g1, keep_cell h e1⟩ : w'.cell? ⟨w.heap.size, 0, none⟩ = some (.bool s0) ∧ w'.cell? ⟨w.heap.size, 1, none⟩ = some (.slice A0 n0 c0)))
  have G1 := Lib.hid (fun w' (h : Below wc2.heap.size wc2 w') => (⟨keep_cell h g2, keep_cell h e2⟩ : w'.cell? ⟨w.heap.size + 1, 0, none⟩ = some (.bool s1) ∧ w'.cell? ⟨w.heap.size + 1, 1, none⟩ = some (.slice A1 n1 c1)))
  have G2 := Lib.hid (fun w' (h : Below wc2.heap.size wc2 w') => (⟨keep_cell h g3, keep_cell h e3⟩ : w'.cell? ⟨w.heap.size + 1 + 1, 0, none⟩ = some (.bool s2) ∧ w'.cell? ⟨w.heap.size + 1 + 1, 1, none⟩ = some (.slice A2 n2 c2)))
  refine wp_region_noPanic ?_
  refine wp_region_held_drew (S := (fun w' => Below wc2.heap.size wc2 w')) (by kernel_rfl) ?_ (fun hHeld => ?_)
  · exact (Below.refl _ wc2).drew
  refine wpAnyH_take (i := 0) (oi := ?_) (v := ?_) (by simp only [List.getElem?_toArray, List.getElem?_cons_succ, List.getElem?_cons_zero]; rfl) (by kernel_rfl) (by kernel_rfl) (by kernel_rfl) (fun _ _ _ h => h) (Or.inl ⟨by rfl, ?_⟩) (by with_reducible assumption) ?_
  rotate_left
  focus ((intro wz hSw; (try dsimp only at hSw); obtain ⟨z0, z1⟩ := G0.out wz hSw; go_simp); (try with_reducible rfl))
  try simp only [Act.put, List.setIfInBounds_toArray, List.set_cons_zero, List.set_cons_succ]
  refine wpAnyH_take (i := 2) (oi := ?_) (v := ?_) (by simp only [List.getElem?_toArray, List.getElem?_cons_succ, List.getElem?_cons_zero]; rfl) (by kernel_rfl) (by kernel_rfl) (by kernel_rfl) (fun _ _ _ h => h) (Or.inl ⟨by rfl, ?_⟩) (by with_reducible assumption) ?_
  rotate_left
  focus ((intro wz hSw; (try dsimp only at hSw); obtain ⟨z0, z1⟩ := G1.out wz hSw; go_simp); (try with_reducible rfl))
  try simp only [Act.put, List.setIfInBounds_toArray, List.set_cons_zero, List.set_cons_succ]
  refine wpAnyH_take (i := 4) (oi := ?_) (v := ?_) (by simp only [List.getElem?_toArray, List.getElem?_cons_succ, List.getElem?_cons_zero]; rfl) (by kernel_rfl) (by kernel_rfl) (by kernel_rfl) (fun _ _ _ h => h) (Or.inl ⟨by rfl, ?_⟩) (by with_reducible assumption) ?_
  rotate_left
  focus ((intro wz hSw; (try dsimp only at hSw); obtain ⟨z0, z1⟩ := G2.out wz hSw; go_simp); (try with_reducible rfl))
  try simp only [Act.put, List.setIfInBounds_toArray, List.set_cons_zero, List.set_cons_succ]
  refine wpAnyH_meet (L := #[true, true, true, true, true, true, true, true, true, false, false, false])
    (J := fun a0 l a w' => ∃ (fl1 fl3 fl5 fl6 fl7 fl8 : Bool) (vl15 vl17 vl19 vl7 vl8 vl9 : Value) (b4 : Bool) (B4 : Option Addr) (m4 d4 : Nat) (b5 : Bool) (B5 : Option Addr) (m5 d5 : Nat) (b6 : Bool) (B6 : Option Addr) (m6 d6 ad6 ad7 ad8 : Nat), l = #[true, fl1, true, fl3, true, fl5, fl6, fl7, fl8, false, false, false] ∧ a = (((((a0.put (some 15) vl15).put (some 17) vl17).put (some 19) vl19).put (some 7) vl7).put (some 8) vl8).put (some 9) vl9 ∧ Hid (Below wc2.heap.size wc2 w') ∧
      Hid (Gd fl1 (vl15 = .agg #[.bool b4, .slice B4 m4 d4] ∧ IntIn w' (x) b4 B4 m4 d4)) ∧
      Hid (Gd fl3 (vl17 = .agg #[.bool b5, .slice B5 m5 d5] ∧ IntIn w' (y) b5 B5 m5 d5)) ∧
      Hid (Gd fl5 (vl19 = .agg #[.bool b6, .slice B6 m6 d6] ∧ IntIn w' (z) b6 B6 m6 d6)) ∧
      Hid (Gd fl6 (Made wc2.heap.size w' ad6 29 #[.bool false, .slice none 0 0] vl7)) ∧
      Hid (Gd fl7 (Made wc2.heap.size w' ad7 29 #[.bool false, .slice none 0 0] vl8)) ∧
      Hid (Gd fl8 (Made wc2.heap.size w' ad8 29 #[.bool false, .slice none 0 0] vl9)) ∧
      Hid (Gd fl6 (Gd fl7 (ad6 ≠ ad7))) ∧
      Hid (Gd fl6 (Gd fl8 (ad6 ≠ ad8))) ∧
      Hid (Gd fl7 (Gd fl8 (ad7 ≠ ad8))) ∧
      Hid (Gd fl3 (fl1 = true)) ∧
      Hid (Gd fl5 (fl3 = true)))
    (by rfl) ?_ ?_ ?_ ?_
  · exact ⟨false, false, false, false, false, false, _, _, _, _, _, _, false, none, 0, 0, false, none, 0, 0, false, none, 0, 0, 0, 0, 0, by kernel_rfl, by rfl, hHeld, Gd.no, Gd.no, Gd.no, Gd.no, Gd.no, Gd.no, Gd.no, Gd.no, Gd.no, Gd.no, Gd.no⟩
  · rintro l a w' ⟨fl1, fl3, fl5, fl6, fl7, fl8, vl15, vl17, vl19, vl7, vl8, vl9, b4, B4, m4, d4, b5, B5, m5, d5, b6, B6, m6, d6, ad6, ad7, ad8, rfl, rfl, -⟩ hr
    have xx1 : fl1 = true := by refine all_listed (i := 1) (o := ?_) hr (by simp only [List.getElem?_toArray, List.getElem?_cons_succ, List.getElem?_cons_zero]; rfl) ?_; rfl
    subst xx1
    have xx3 : fl3 = true := by refine all_listed (i := 3) (o := ?_) hr (by simp only [List.getElem?_toArray, List.getElem?_cons_succ, List.getElem?_cons_zero]; rfl) ?_; rfl
    subst xx3
    have xx5 : fl5 = true := by refine all_listed (i := 5) (o := ?_) hr (by simp only [List.getElem?_toArray, List.getElem?_cons_succ, List.getElem?_cons_zero]; rfl) ?_; rfl
    subst xx5
    have xx6 : fl6 = true := by refine all_listed (i := 6) (o := ?_) hr (by simp only [List.getElem?_toArray, List.getElem?_cons_succ, List.getElem?_cons_zero]; rfl) ?_; rfl
    subst xx6
    have xx7 : fl7 = true := by refine all_listed (i := 7) (o := ?_) hr (by simp only [List.getElem?_toArray, List.getElem?_cons_succ, List.getElem?_cons_zero]; rfl) ?_; rfl
    subst xx7
    have xx8 : fl8 = true := by refine all_listed (i := 8) (o := ?_) hr (by simp only [List.getElem?_toArray, List.getElem?_cons_succ, List.getElem?_cons_zero]; rfl) ?_; rfl
    subst xx8
    rfl
  · rintro l a w' i ⟨fl1, fl3, fl5, fl6, fl7, fl8, vl15, vl17, vl19, vl7, vl8, vl9, b4, B4, m4, d4, b5, B5, m5, d5, b6, B6, m6, d6, ad6, ad7, ad8, rfl, rfl, hBi, qf1, qf3, qf5, qf6, qf7, qf8, qn6_7, qn6_8, qn7_8, qd3_1, qd5_3⟩ hne hi
    have hlt : i < 12 := ready_lt hi
    rcases (show i = 0 ∨ i = 1 ∨ i = 2 ∨ i = 3 ∨ i = 4 ∨ i = 5 ∨ i = 6 ∨ i = 7 ∨ i = 8 ∨ i = 9 ∨ i = 10 ∨ i = 11 by omega) with rfl | rfl | rfl | rfl | rfl | rfl | rfl | rfl | rfl | rfl | rfl | rfl
    · have u : true = false := ready_un hi
      cases u
    · have u : fl1 = false := ready_un hi
      subst u
      refine wpOp_shut (by simp only [List.getElem?_toArray, List.getElem?_cons_succ, List.getElem?_cons_zero]; rfl) (fun K' hK => ?_)
      try simp only [Act.put, List.setIfInBounds_toArray, List.set_cons_zero, List.set_cons_succ]
      go_simp
      refine (C0.out w' hBi.out).mono ?_
      rintro e w2 ⟨nb4, nB4, nm4, nd4, rfl, nhw4, hb⟩
      exact hK.out _ _ ⟨keep_below hBi.out hb, true, fl3, fl5, fl6, fl7, fl8, _, vl17, vl19, vl7, vl8, vl9, nb4, nB4, nm4, nd4, b5, B5, m5, d5, b6, B6, m6, d6, ad6, ad7, ad8, by rfl, by rfl, keep_below hBi.out hb, Gd.yes ⟨rfl, nhw4⟩, qf3.out.mono fun h => ⟨h.1, h.2.below hb⟩, qf5.out.mono fun h => ⟨h.1, h.2.below hb⟩, qf6.out.mono fun h => h.keep hb, qf7.out.mono fun h => h.keep hb, qf8.out.mono fun h => h.keep hb, qn6_7, qn6_8, qn7_8, fun _ => rfl, qd5_3⟩
    · have u : true = false := ready_un hi
      cases u
    · have u : fl3 = false := ready_un hi
      subst u
      have yy1 : fl1 = true := by refine ready_dep (k := 1) (o := ?_) hi (by simp only [List.getElem?_toArray, List.getElem?_cons_succ, List.getElem?_cons_zero]; rfl) rfl rfl
      subst yy1
      refine wpOp_shut (by simp only [List.getElem?_toArray, List.getElem?_cons_succ, List.getElem?_cons_zero]; rfl) (fun K' hK => ?_)
      try simp only [Act.put, List.setIfInBounds_toArray, List.set_cons_zero, List.set_cons_succ]
      go_simp
      refine (C1.out w' hBi.out).mono ?_
      rintro e w2 ⟨nb5, nB5, nm5, nd5, rfl, nhw5, hb⟩
      exact hK.out _ _ ⟨keep_below hBi.out hb, true, true, fl5, fl6, fl7, fl8, vl15, _, vl19, vl7, vl8, vl9, b4, B4, m4, d4, nb5, nB5, nm5, nd5, b6, B6, m6, d6, ad6, ad7, ad8, by rfl, by rfl, keep_below hBi.out hb, qf1.out.mono fun h => ⟨h.1, h.2.below hb⟩, Gd.yes ⟨rfl, nhw5⟩, qf5.out.mono fun h => ⟨h.1, h.2.below hb⟩, qf6.out.mono fun h => h.keep hb, qf7.out.mono fun h => h.keep hb, qf8.out.mono fun h => h.keep hb, qn6_7, qn6_8, qn7_8, Gd.yes rfl, fun _ => rfl⟩
    · have u : true = false := ready_un hi
      cases u
    · have u : fl5 = false := ready_un hi
      subst u
      have yy3 : fl3 = true := by refine ready_dep (k := 1) (o := ?_) hi (by simp only [List.getElem?_toArray, List.getElem?_cons_succ, List.getElem?_cons_zero]; rfl) rfl rfl
      subst yy3
      refine wpOp_shut (by simp only [List.getElem?_toArray, List.getElem?_cons_succ, List.getElem?_cons_zero]; rfl) (fun K' hK => ?_)
      try simp only [Act.put, List.setIfInBounds_toArray, List.set_cons_zero, List.set_cons_succ]
      go_simp
      refine (C2.out w' hBi.out).mono ?_
      rintro e w2 ⟨nb6, nB6, nm6, nd6, rfl, nhw6, hb⟩
      exact hK.out _ _ ⟨keep_below hBi.out hb, fl1, true, true, fl6, fl7, fl8, vl15, vl17, _, vl7, vl8, vl9, b4, B4, m4, d4, b5, B5, m5, d5, nb6, nB6, nm6, nd6, ad6, ad7, ad8, by rfl, by rfl, keep_below hBi.out hb, qf1.out.mono fun h => ⟨h.1, h.2.below hb⟩, qf3.out.mono fun h => ⟨h.1, h.2.below hb⟩, Gd.yes ⟨rfl, nhw6⟩, qf6.out.mono fun h => h.keep hb, qf7.out.mono fun h => h.keep hb, qf8.out.mono fun h => h.keep hb, qn6_7, qn6_8, qn7_8, qd3_1, Gd.yes rfl⟩
    · have u : fl6 = false := ready_un hi
      subst u
      refine wpOp_shut (by simp only [List.getElem?_toArray, List.getElem?_cons_succ, List.getElem?_cons_zero]; rfl) (fun K' hK => ?_)
      try simp only [Act.put, List.setIfInBounds_toArray, List.set_cons_zero, List.set_cons_succ]
      go_simp
      have hb := up_alloc w' (.cells #[.bool false, .slice none 0 0] 29)
      exact hK.out _ _ ⟨keep_below hBi.out hb, fl1, fl3, fl5, true, fl7, fl8, vl15, vl17, vl19, _, vl8, vl9, b4, B4, m4, d4, b5, B5, m5, d5, b6, B6, m6, d6, _, ad7, ad8, by rfl, by rfl, keep_below hBi.out hb, qf1.out.mono fun h => ⟨h.1, h.2.below hb⟩, qf3.out.mono fun h => ⟨h.1, h.2.below hb⟩, qf5.out.mono fun h => ⟨h.1, h.2.below hb⟩, Gd.yes (Made.new _ _ _ _ hBi.out.size), qf7.out.mono fun h => h.keep hb, qf8.out.mono fun h => h.keep hb, Gd.yes (qf7.out.mono fun h => by have := h.lt; omega), Gd.yes (qf8.out.mono fun h => by have := h.lt; omega), qn7_8, qd3_1, qd5_3⟩
    · have u : fl7 = false := ready_un hi
      subst u
      refine wpOp_shut (by simp only [List.getElem?_toArray, List.getElem?_cons_succ, List.getElem?_cons_zero]; rfl) (fun K' hK => ?_)
      try simp only [Act.put, List.setIfInBounds_toArray, List.set_cons_zero, List.set_cons_succ]
      go_simp
      have hb := up_alloc w' (.cells #[.bool false, .slice none 0 0] 29)
      exact hK.out _ _ ⟨keep_below hBi.out hb, fl1, fl3, fl5, fl6, true, fl8, vl15, vl17, vl19, vl7, _, vl9, b4, B4, m4, d4, b5, B5, m5, d5, b6, B6, m6, d6, ad6, _, ad8, by rfl, by rfl, keep_below hBi.out hb, qf1.out.mono fun h => ⟨h.1, h.2.below hb⟩, qf3.out.mono fun h => ⟨h.1, h.2.below hb⟩, qf5.out.mono fun h => ⟨h.1, h.2.below hb⟩, qf6.out.mono fun h => h.keep hb, Gd.yes (Made.new _ _ _ _ hBi.out.size), qf8.out.mono fun h => h.keep hb, qf6.out.mono fun h => Gd.yes (by have := h.lt; omega), qn6_8, Gd.yes (qf8.out.mono fun h => by have := h.lt; omega), qd3_1, qd5_3⟩
    · have u : fl8 = false := ready_un hi
      subst u
      refine wpOp_shut (by simp only [List.getElem?_toArray, List.getElem?_cons_succ, List.getElem?_cons_zero]; rfl) (fun K' hK => ?_)
      try simp only [Act.put, List.setIfInBounds_toArray, List.set_cons_zero, List.set_cons_succ]
      go_simp
      have hb := up_alloc w' (.cells #[.bool false, .slice none 0 0] 29)
      exact hK.out _ _ ⟨keep_below hBi.out hb, fl1, fl3, fl5, fl6, fl7, true, vl15, vl17, vl19, vl7, vl8, _, b4, B4, m4, d4, b5, B5, m5, d5, b6, B6, m6, d6, ad6, ad7, _, by rfl, by rfl, keep_below hBi.out hb, qf1.out.mono fun h => ⟨h.1, h.2.below hb⟩, qf3.out.mono fun h => ⟨h.1, h.2.below hb⟩, qf5.out.mono fun h => ⟨h.1, h.2.below hb⟩, qf6.out.mono fun h => h.keep hb, qf7.out.mono fun h => h.keep hb, Gd.yes (Made.new _ _ _ _ hBi.out.size), qn6_7, qf6.out.mono fun h => Gd.yes (by have := h.lt; omega), qf7.out.mono fun h => Gd.yes (by have := h.lt; omega), qd3_1, qd5_3⟩
    · have yy1 : fl1 = true := by refine ready_dep (k := 1) (o := ?_) hi (by simp only [List.getElem?_toArray, List.getElem?_cons_succ, List.getElem?_cons_zero]; rfl) rfl rfl
      subst yy1
      have yy5 : fl5 = true := by refine ready_dep (k := 2) (o := ?_) hi (by simp only [List.getElem?_toArray, List.getElem?_cons_succ, List.getElem?_cons_zero]; rfl) rfl rfl
      subst yy5
      have yy6 : fl6 = true := by refine ready_dep (k := 0) (o := ?_) hi (by simp only [List.getElem?_toArray, List.getElem?_cons_succ, List.getElem?_cons_zero]; rfl) rfl rfl
      subst yy6
      have yy7 : fl7 = true := by refine ready_dep (k := 10) (o := ?_) hi (by simp only [List.getElem?_toArray, List.getElem?_cons_succ, List.getElem?_cons_zero]; rfl) rfl rfl
      subst yy7
      have yy8 : fl8 = true := by refine ready_dep (k := 11) (o := ?_) hi (by simp only [List.getElem?_toArray, List.getElem?_cons_succ, List.getElem?_cons_zero]; rfl) rfl rfl
      subst yy8
      have yy3 : fl3 = true := qd5_3.out.get
      subst yy3
      exact absurd rfl hne
    · have u : false = true := by refine ready_dep (k := 2) (o := ?_) hi (by simp only [List.getElem?_toArray, List.getElem?_cons_succ, List.getElem?_cons_zero]; rfl) rfl rfl
      cases u
    · have u : false = true := by refine ready_dep (k := 12) (o := ?_) hi (by simp only [List.getElem?_toArray, List.getElem?_cons_succ, List.getElem?_cons_zero]; rfl) rfl rfl
      cases u
  rintro a wm3 ⟨fl1, fl3, fl5, fl6, fl7, fl8, vl15, vl17, vl19, vl7, vl8, vl9, b4, B4, m4, d4, b5, B5, m5, d5, b6, B6, m6, d6, ad6, ad7, ad8, hl, rfl, hBi, qf1, qf3, qf5, qf6, qf7, qf8, qn6_7, qn6_8, qn7_8, qd3_1, qd5_3⟩
  have xx1 : fl1 = true := by have h := congrArg (fun l : Array Bool => l.getD 1 false) hl; exact h.symm
  subst xx1
  have xx3 : fl3 = true := by have h := congrArg (fun l : Array Bool => l.getD 3 false) hl; exact h.symm
  subst xx3
  have xx5 : fl5 = true := by have h := congrArg (fun l : Array Bool => l.getD 5 false) hl; exact h.symm
  subst xx5
  have xx6 : fl6 = true := by have h := congrArg (fun l : Array Bool => l.getD 6 false) hl; exact h.symm
  subst xx6
  have xx7 : fl7 = true := by have h := congrArg (fun l : Array Bool => l.getD 7 false) hl; exact h.symm
  subst xx7
  have xx8 : fl8 = true := by have h := congrArg (fun l : Array Bool => l.getD 8 false) hl; exact h.symm
  subst xx8
  obtain ⟨rfl, hw4⟩ := qf1.out.get
  obtain ⟨rfl, hw5⟩ := qf3.out.get
  obtain ⟨rfl, hw6⟩ := qf5.out.get
  obtain ⟨rfl, hg6, hk6⟩ := qf6.out.get
  obtain ⟨rfl, hg7, hk7⟩ := qf7.out.get
  obtain ⟨rfl, hg8, hk8⟩ := qf8.out.get
  have n6_7 := qn6_7.out.get.get
  have n6_8 := qn6_8.out.get.get
  have n7_8 := qn7_8.out.get.get
  have hBv := hBi.out
  clear hl hBi qf1 qf3 qf5 qf6 qf7 qf8 qn6_7 qn6_8 qn7_8 qd3_1 qd5_3
  have hk6 : Blk wm3 ad6 29 #[.bool false, .slice none 0 0] := hk6
  have hk7 : Blk wm3 ad7 29 #[.bool false, .slice none 0 0] := hk7
  have hk8 : Blk wm3 ad8 29 #[.bool false, .slice none 0 0] := hk8
  rw [show due #[true, true, true, true, true, true, true, true, true, false, false, false] = 3 from rfl]
  try simp only [Act.put, List.setIfInBounds_toArray, List.set_cons_zero, List.set_cons_succ]
  refine wpAnyH_ready (rs := [9]) (by kernel_rfl) (by simp) ?_
  refine AllReadyH.cons (o := ?_) (by simp only [List.getElem?_toArray, List.getElem?_cons_succ, List.getElem?_cons_zero]; rfl) (fun K hK => ?_) AllReadyH.nil
  have sc0 : (wm3).cell? ⟨ad6, 0, none⟩ = some (.bool false) := hk6.cell 0
  have sf0 : (wm3).frozen? ⟨ad6, 0, none⟩ = false := hk6.frozen 0
  have hj0 : Blk (wm3.setCell ⟨ad6, 0, none⟩ (.bool b4)) ad6 29 #[.bool b4, .slice none 0 0] := hk6.set_ 0 (.bool b4)
  have sc1 : (wm3.setCell ⟨ad6, 0, none⟩ (.bool b4)).cell? ⟨ad6, 1, none⟩ = some (.slice none 0 0) := hj0.cell 1
  have sf1 : (wm3.setCell ⟨ad6, 0, none⟩ (.bool b4)).frozen? ⟨ad6, 1, none⟩ = false := hj0.frozen 1
  have hj1 : Blk ((wm3.setCell ⟨ad6, 0, none⟩ (.bool b4)).setCell ⟨ad6, 1, none⟩ (.slice B4 m4 d4)) ad6 29 #[.bool b4, .slice B4 m4 d4] := hj0.set_ 1 (.slice B4 m4 d4)
  go_simp
  have hBv := keep_below_set (p := ⟨ad6, 1, none⟩) (.slice B4 m4 d4) hg6 (keep_below_set (p := ⟨ad6, 0, none⟩) (.bool b4) hg6 (hBv))
  have hk7 := Blk.far (Blk.far (hk7) (p := ⟨ad6, 0, none⟩) (show ad7 ≠ ad6 from n6_7.symm) (.bool b4)) (p := ⟨ad6, 1, none⟩) (show ad7 ≠ ad6 from n6_7.symm) (.slice B4 m4 d4)
  have hk8 := Blk.far (Blk.far (hk8) (p := ⟨ad6, 0, none⟩) (show ad8 ≠ ad6 from n6_8.symm) (.bool b4)) (p := ⟨ad6, 1, none⟩) (show ad8 ≠ ad6 from n6_8.symm) (.slice B4 m4 d4)
  have hw4 := int_set2 hw4 hk6 b4 B4 m4 d4
  have hw5 := int_set2 hw5 hk6 b4 B4 m4 d4
  have hw6 := int_set2 hw6 hk6 b4 B4 m4 d4
  have hk6 := hj1
  clear sc0 sf0 sc1 sf1 hj0 hj1
  refine hK.out _ _ ?_ (fun hHeld => ?_)
  · ((try dsimp only); exact hBv)
  clear hK K hHeld
  try simp only [Act.put, List.setIfInBounds_toArray, List.set_cons_zero, List.set_cons_succ]
  generalize (wm3.setCell ⟨ad6, 0, none⟩ (.bool b4)).setCell ⟨ad6, 1, none⟩ (.slice B4 m4 d4) = wm4 at *
  refine wpAnyH_ready (rs := [10]) (by kernel_rfl) (by simp) ?_
  refine AllReadyH.cons (o := ?_) (by simp only [List.getElem?_toArray, List.getElem?_cons_succ, List.getElem?_cons_zero]; rfl) (fun K hK => ?_) AllReadyH.nil
  have sc0 : (wm4).cell? ⟨ad7, 0, none⟩ = some (.bool false) := hk7.cell 0
  have sf0 : (wm4).frozen? ⟨ad7, 0, none⟩ = false := hk7.frozen 0
  have hj0 : Blk (wm4.setCell ⟨ad7, 0, none⟩ (.bool b5)) ad7 29 #[.bool b5, .slice none 0 0] := hk7.set_ 0 (.bool b5)
  have sc1 : (wm4.setCell ⟨ad7, 0, none⟩ (.bool b5)).cell? ⟨ad7, 1, none⟩ = some (.slice none 0 0) := hj0.cell 1
  have sf1 : (wm4.setCell ⟨ad7, 0, none⟩ (.bool b5)).frozen? ⟨ad7, 1, none⟩ = false := hj0.frozen 1
  have hj1 : Blk ((wm4.setCell ⟨ad7, 0, none⟩ (.bool b5)).setCell ⟨ad7, 1, none⟩ (.slice B5 m5 d5)) ad7 29 #[.bool b5, .slice B5 m5 d5] := hj0.set_ 1 (.slice B5 m5 d5)
  go_simp
  have hBv := keep_below_set (p := ⟨ad7, 1, none⟩) (.slice B5 m5 d5) hg7 (keep_below_set (p := ⟨ad7, 0, none⟩) (.bool b5) hg7 (hBv))
  have hk6 := Blk.far (Blk.far (hk6) (p := ⟨ad7, 0, none⟩) (show ad6 ≠ ad7 from n6_7) (.bool b5)) (p := ⟨ad7, 1, none⟩) (show ad6 ≠ ad7 from n6_7) (.slice B5 m5 d5)
  have hk8 := Blk.far (Blk.far (hk8) (p := ⟨ad7, 0, none⟩) (show ad8 ≠ ad7 from n7_8.symm) (.bool b5)) (p := ⟨ad7, 1, none⟩) (show ad8 ≠ ad7 from n7_8.symm) (.slice B5 m5 d5)
  have hw4 := int_set2 hw4 hk7 b5 B5 m5 d5
  have hw5 := int_set2 hw5 hk7 b5 B5 m5 d5
  have hw6 := int_set2 hw6 hk7 b5 B5 m5 d5
  have hk7 := hj1
  clear sc0 sf0 sc1 sf1 hj0 hj1
  refine hK.out _ _ ?_ (fun hHeld => ?_)
  · ((try dsimp only); exact hBv)
  clear hK K hHeld
  try simp only [Act.put, List.setIfInBounds_toArray, List.set_cons_zero, List.set_cons_succ]
  generalize (wm4.setCell ⟨ad7, 0, none⟩ (.bool b5)).setCell ⟨ad7, 1, none⟩ (.slice B5 m5 d5) = wm5 at *
  refine wpAnyH_ready (rs := [11]) (by kernel_rfl) (by simp) ?_
  refine AllReadyH.cons (o := ?_) (by simp only [List.getElem?_toArray, List.getElem?_cons_succ, List.getElem?_cons_zero]; rfl) (fun K hK => ?_) AllReadyH.nil
  have sc0 : (wm5).cell? ⟨ad8, 0, none⟩ = some (.bool false) := hk8.cell 0
  have sf0 : (wm5).frozen? ⟨ad8, 0, none⟩ = false := hk8.frozen 0
  have hj0 : Blk (wm5.setCell ⟨ad8, 0, none⟩ (.bool b6)) ad8 29 #[.bool b6, .slice none 0 0] := hk8.set_ 0 (.bool b6)
  have sc1 : (wm5.setCell ⟨ad8, 0, none⟩ (.bool b6)).cell? ⟨ad8, 1, none⟩ = some (.slice none 0 0) := hj0.cell 1
  have sf1 : (wm5.setCell ⟨ad8, 0, none⟩ (.bool b6)).frozen? ⟨ad8, 1, none⟩ = false := hj0.frozen 1
  have hj1 : Blk ((wm5.setCell ⟨ad8, 0, none⟩ (.bool b6)).setCell ⟨ad8, 1, none⟩ (.slice B6 m6 d6)) ad8 29 #[.bool b6, .slice B6 m6 d6] := hj0.set_ 1 (.slice B6 m6 d6)
  go_simp
  have hBv := keep_below_set (p := ⟨ad8, 1, none⟩) (.slice B6 m6 d6) hg8 (keep_below_set (p := ⟨ad8, 0, none⟩) (.bool b6) hg8 (hBv))
  have hk6 := Blk.far (Blk.far (hk6) (p := ⟨ad8, 0, none⟩) (show ad6 ≠ ad8 from n6_8) (.bool b6)) (p := ⟨ad8, 1, none⟩) (show ad6 ≠ ad8 from n6_8) (.slice B6 m6 d6)
  have hk7 := Blk.far (Blk.far (hk7) (p := ⟨ad8, 0, none⟩) (show ad7 ≠ ad8 from n7_8) (.bool b6)) (p := ⟨ad8, 1, none⟩) (show ad7 ≠ ad8 from n7_8) (.slice B6 m6 d6)
  have hw4 := int_set2 hw4 hk8 b6 B6 m6 d6
  have hw5 := int_set2 hw5 hk8 b6 B6 m6 d6
  have hw6 := int_set2 hw6 hk8 b6 B6 m6 d6
  have hk8 := hj1
  clear sc0 sf0 sc1 sf1 hj0 hj1
  refine hK.out _ _ ?_ (fun hHeld => ?_)
  · ((try dsimp only); exact hBv)
  clear hK K hHeld
  try simp only [Act.put, List.setIfInBounds_toArray, List.set_cons_zero, List.set_cons_succ]
  generalize (wm5.setCell ⟨ad8, 0, none⟩ (.bool b6)).setCell ⟨ad8, 1, none⟩ (.slice B6 m6 d6) = wm6 at *
  refine wpAnyH_done (by kernel_rfl) ?_ _
  refine NoPanic.normal ?_
  have hB := keep_below hB hBv
  have g1 := keep_cell hBv g1
  have e1 := keep_cell hBv e1
  have g2 := keep_cell hBv g2
  have e2 := keep_cell hBv e2
  have g3 := keep_cell hBv g3
  have e3 := keep_cell hBv e3
  obtain ⟨ad6_7, hga⟩ : ∃ x, x = ad6 := ⟨_, rfl⟩
  subst hga
  have g7 : wm6.cell? ⟨ad6_7, 0, none⟩ = some (.bool b4) := hk6.cell 0
  have e7 : wm6.cell? ⟨ad6_7, 1, none⟩ = some (.slice B4 m4 d4) := hk6.cell 1
  obtain ⟨ad7_8, hga⟩ : ∃ x, x = ad7 := ⟨_, rfl⟩
  subst hga
  have g8 : wm6.cell? ⟨ad7_8, 0, none⟩ = some (.bool b5) := hk7.cell 0
  have e8 : wm6.cell? ⟨ad7_8, 1, none⟩ = some (.slice B5 m5 d5) := hk7.cell 1
  obtain ⟨ad8_9, hga⟩ : ∃ x, x = ad8 := ⟨_, rfl⟩
  subst hga
  have g9 : wm6.cell? ⟨ad8_9, 0, none⟩ = some (.bool b6) := hk8.cell 0
  have e9 : wm6.cell? ⟨ad8_9, 1, none⟩ = some (.slice B6 m6 d6) := hk8.cell 1
  have HN4 := Lib.hid hw4
  have HN5 := Lib.hid hw5
  have HN6 := Lib.hid hw6
  clear hBv hk6 hg6 hk7 hg7 hk8 hg8 hw4 hw5 hw6 G0 G1 G2 n6_7 n6_8 n7_8
  clear C0 C1 C2
  go_wp2_with fail
  have HZ10 : Hid (Sz (K + K + 1) (x + y).natAbs) := SzI.add HZ4.out HZ5.out
  have C0 := Lib.hid (fun w' (h : Below wm6.heap.size wm6 w') => HIC.out.add (x) (y) b4 b5 B4 B5 m4 m5 d4 d5 w' (HT.out _ (keep_below hB h)) (HN4.out.below h) (HN5.out.below h) (by have := Sz.words HZ4.out HN4.out.words; omega) (by have := Sz.words HZ5.out HN5.out.words; omega))
  have HZ11 : Hid (Sz (K + K) (x * y).natAbs) := SzI.mul HZ4.out HZ5.out
  have C1 := Lib.hid (fun w' (h : Below wm6.heap.size wm6 w') => HIC.out.mul (x) (y) b4 b5 B4 B5 m4 m5 d4 d5 w' (HT.out _ (keep_below hB h)) (HN4.out.below h) (HN5.out.below h) (by have := Sz.words HZ4.out HN4.out.words; omega) (by have := Sz.words HZ5.out HN5.out.words; omega))
  have G0 := Lib.hid (fun w' (h : Below wm6.heap.size wm6 w') => (⟨keep_cell h g7, keep_cell h e7⟩ : w'.cell? ⟨ad6_7, 0, none⟩ = some (.bool b4) ∧ w'.cell? ⟨ad6_7, 1, none⟩ = some (.slice B4 m4 d4)))
  have G1 := Lib.hid (fun w' (h : Below wm6.heap.size wm6 w') => (⟨keep_cell h g8, keep_cell h e8⟩ : w'.cell? ⟨ad7_8, 0, none⟩ = some (.bool b5) ∧ w'.cell? ⟨ad7_8, 1, none⟩ = some (.slice B5 m5 d5)))
  refine wp_region_noPanic ?_
  refine wp_region_held_drew (S := (fun w' => Below wm6.heap.size wm6 w')) (by kernel_rfl) ?_ (fun hHeld => ?_)
  · exact (Below.refl _ wm6).drew
  refine wpAnyH_take (i := 0) (oi := ?_) (v := ?_) (by simp only [List.getElem?_toArray, List.getElem?_cons_succ, List.getElem?_cons_zero]; rfl) (by kernel_rfl) (by kernel_rfl) (by kernel_rfl) (fun _ _ _ h => h) (Or.inl ⟨by rfl, ?_⟩) (by with_reducible assumption) ?_
  rotate_left
  focus ((intro wz hSw; (try dsimp only at hSw); obtain ⟨z0, z1⟩ := G0.out wz hSw; go_simp); (try with_reducible rfl))
  try simp only [Act.put, List.setIfInBounds_toArray, List.set_cons_zero, List.set_cons_succ]
  refine wpAnyH_take (i := 1) (oi := ?_) (v := ?_) (by simp only [List.getElem?_toArray, List.getElem?_cons_succ, List.getElem?_cons_zero]; rfl) (by kernel_rfl) (by kernel_rfl) (by kernel_rfl) (fun _ _ _ h => h) (Or.inl ⟨by rfl, ?_⟩) (by with_reducible assumption) ?_
  rotate_left
  focus ((intro wz hSw; (try dsimp only at hSw); obtain ⟨z0, z1⟩ := G1.out wz hSw; go_simp); (try with_reducible rfl))
  try simp only [Act.put, List.setIfInBounds_toArray, List.set_cons_zero, List.set_cons_succ]
  refine wpAnyH_take (i := 3) (oi := ?_) (v := ?_) (by simp only [List.getElem?_toArray, List.getElem?_cons_succ, List.getElem?_cons_zero]; rfl) (by kernel_rfl) (by kernel_rfl) (by kernel_rfl) (fun _ _ _ h => h) (Or.inl ⟨by rfl, ?_⟩) (by with_reducible assumption) ?_
  rotate_left
  focus ((intro wz hSw; (try dsimp only at hSw); obtain ⟨z0, z1⟩ := G0.out wz hSw; go_simp); (try with_reducible rfl))
  try simp only [Act.put, List.setIfInBounds_toArray, List.set_cons_zero, List.set_cons_succ]
  refine wpAnyH_take (i := 4) (oi := ?_) (v := ?_) (by simp only [List.getElem?_toArray, List.getElem?_cons_succ, List.getElem?_cons_zero]; rfl) (by kernel_rfl) (by kernel_rfl) (by kernel_rfl) (fun _ _ _ h => h) (Or.inl ⟨by rfl, ?_⟩) (by with_reducible assumption) ?_
  rotate_left
  focus ((intro wz hSw; (try dsimp only at hSw); obtain ⟨z0, z1⟩ := G1.out wz hSw; go_simp); (try with_reducible rfl))
  try simp only [Act.put, List.setIfInBounds_toArray, List.set_cons_zero, List.set_cons_succ]
  refine wpAnyH_meet (L := #[true, true, true, true, true, true, true, true, false, false])
    (J := fun a0 l a w' => ∃ (fl2 fl5 fl6 fl7 : Bool) (vl22 vl25 vl10 vl11 : Value) (b10 : Bool) (B10 : Option Addr) (m10 d10 : Nat) (b11 : Bool) (B11 : Option Addr) (m11 d11 ad6 ad7 : Nat), l = #[true, true, fl2, true, true, fl5, fl6, fl7, false, false] ∧ a = (((a0.put (some 22) vl22).put (some 25) vl25).put (some 10) vl10).put (some 11) vl11 ∧ Hid (Below wm6.heap.size wm6 w') ∧
      Hid (Gd fl2 (vl22 = .agg #[.bool b10, .slice B10 m10 d10] ∧ IntIn w' (x + y) b10 B10 m10 d10)) ∧
      Hid (Gd fl5 (vl25 = .agg #[.bool b11, .slice B11 m11 d11] ∧ IntIn w' (x * y) b11 B11 m11 d11)) ∧
      Hid (Gd fl6 (Made wm6.heap.size w' ad6 29 #[.bool false, .slice none 0 0] vl10)) ∧
      Hid (Gd fl7 (Made wm6.heap.size w' ad7 29 #[.bool false, .slice none 0 0] vl11)) ∧
      Hid (Gd fl6 (Gd fl7 (ad6 ≠ ad7))) ∧
      Hid (Gd fl5 (fl2 = true)))
    (by rfl) ?_ ?_ ?_ ?_
  · exact ⟨false, false, false, false, _, _, _, _, false, none, 0, 0, false, none, 0, 0, 0, 0, by kernel_rfl, by rfl, hHeld, Gd.no, Gd.no, Gd.no, Gd.no, Gd.no, Gd.no⟩
  · rintro l a w' ⟨fl2, fl5, fl6, fl7, vl22, vl25, vl10, vl11, b10, B10, m10, d10, b11, B11, m11, d11, ad6, ad7, rfl, rfl, -⟩ hr
    have xx2 : fl2 = true := by refine all_listed (i := 2) (o := ?_) hr (by simp only [List.getElem?_toArray, List.getElem?_cons_succ, List.getElem?_cons_zero]; rfl) ?_; rfl
    subst xx2
    have xx5 : fl5 = true := by refine all_listed (i := 5) (o := ?_) hr (by simp only [List.getElem?_toArray, List.getElem?_cons_succ, List.getElem?_cons_zero]; rfl) ?_; rfl
    subst xx5
    have xx6 : fl6 = true := by refine all_listed (i := 6) (o := ?_) hr (by simp only [List.getElem?_toArray, List.getElem?_cons_succ, List.getElem?_cons_zero]; rfl) ?_; rfl
    subst xx6
    have xx7 : fl7 = true := by refine all_listed (i := 7) (o := ?_) hr (by simp only [List.getElem?_toArray, List.getElem?_cons_succ, List.getElem?_cons_zero]; rfl) ?_; rfl
    subst xx7
    rfl
  · rintro l a w' i ⟨fl2, fl5, fl6, fl7, vl22, vl25, vl10, vl11, b10, B10, m10, d10, b11, B11, m11, d11, ad6, ad7, rfl, rfl, hBi, qf2, qf5, qf6, qf7, qn6_7, qd5_2⟩ hne hi
    have hlt : i < 10 := ready_lt hi
    rcases (show i = 0 ∨ i = 1 ∨ i = 2 ∨ i = 3 ∨ i = 4 ∨ i = 5 ∨ i = 6 ∨ i = 7 ∨ i = 8 ∨ i = 9 by omega) with rfl | rfl | rfl | rfl | rfl | rfl | rfl | rfl | rfl | rfl
    · have u : true = false := ready_un hi
      cases u
    · have u : true = false := ready_un hi
      cases u
    · have u : fl2 = false := ready_un hi
      subst u
      refine wpOp_shut (by simp only [List.getElem?_toArray, List.getElem?_cons_succ, List.getElem?_cons_zero]; rfl) (fun K' hK => ?_)
      try simp only [Act.put, List.setIfInBounds_toArray, List.set_cons_zero, List.set_cons_succ]
      go_simp
      refine (C0.out w' hBi.out).mono ?_
      rintro e w2 ⟨nb10, nB10, nm10, nd10, rfl, nhw10, hb⟩
      exact hK.out _ _ ⟨keep_below hBi.out hb, true, fl5, fl6, fl7, _, vl25, vl10, vl11, nb10, nB10, nm10, nd10, b11, B11, m11, d11, ad6, ad7, by rfl, by rfl, keep_below hBi.out hb, Gd.yes ⟨rfl, nhw10⟩, qf5.out.mono fun h => ⟨h.1, h.2.below hb⟩, qf6.out.mono fun h => h.keep hb, qf7.out.mono fun h => h.keep hb, qn6_7, fun _ => rfl⟩
    · have u : true = false := ready_un hi
      cases u
    · have u : true = false := ready_un hi
      cases u
    · have u : fl5 = false := ready_un hi
      subst u
      have yy2 : fl2 = true := by refine ready_dep (k := 2) (o := ?_) hi (by simp only [List.getElem?_toArray, List.getElem?_cons_succ, List.getElem?_cons_zero]; rfl) rfl rfl
      subst yy2
      refine wpOp_shut (by simp only [List.getElem?_toArray, List.getElem?_cons_succ, List.getElem?_cons_zero]; rfl) (fun K' hK => ?_)
      try simp only [Act.put, List.setIfInBounds_toArray, List.set_cons_zero, List.set_cons_succ]
      go_simp
      refine (C1.out w' hBi.out).mono ?_
      rintro e w2 ⟨nb11, nB11, nm11, nd11, rfl, nhw11, hb⟩
      exact hK.out _ _ ⟨keep_below hBi.out hb, true, true, fl6, fl7, vl22, _, vl10, vl11, b10, B10, m10, d10, nb11, nB11, nm11, nd11, ad6, ad7, by rfl, by rfl, keep_below hBi.out hb, qf2.out.mono fun h => ⟨h.1, h.2.below hb⟩, Gd.yes ⟨rfl, nhw11⟩, qf6.out.mono fun h => h.keep hb, qf7.out.mono fun h => h.keep hb, qn6_7, Gd.yes rfl⟩
    · have u : fl6 = false := ready_un hi
      subst u
      refine wpOp_shut (by simp only [List.getElem?_toArray, List.getElem?_cons_succ, List.getElem?_cons_zero]; rfl) (fun K' hK => ?_)
      try simp only [Act.put, List.setIfInBounds_toArray, List.set_cons_zero, List.set_cons_succ]
      go_simp
      have hb := up_alloc w' (.cells #[.bool false, .slice none 0 0] 29)
      exact hK.out _ _ ⟨keep_below hBi.out hb, fl2, fl5, true, fl7, vl22, vl25, _, vl11, b10, B10, m10, d10, b11, B11, m11, d11, _, ad7, by rfl, by rfl, keep_below hBi.out hb, qf2.out.mono fun h => ⟨h.1, h.2.below hb⟩, qf5.out.mono fun h => ⟨h.1, h.2.below hb⟩, Gd.yes (Made.new _ _ _ _ hBi.out.size), qf7.out.mono fun h => h.keep hb, Gd.yes (qf7.out.mono fun h => by have := h.lt; omega), qd5_2⟩
    · have u : fl7 = false := ready_un hi
      subst u
      refine wpOp_shut (by simp only [List.getElem?_toArray, List.getElem?_cons_succ, List.getElem?_cons_zero]; rfl) (fun K' hK => ?_)
      try simp only [Act.put, List.setIfInBounds_toArray, List.set_cons_zero, List.set_cons_succ]
      go_simp
      have hb := up_alloc w' (.cells #[.bool false, .slice none 0 0] 29)
      exact hK.out _ _ ⟨keep_below hBi.out hb, fl2, fl5, fl6, true, vl22, vl25, vl10, _, b10, B10, m10, d10, b11, B11, m11, d11, ad6, _, by rfl, by rfl, keep_below hBi.out hb, qf2.out.mono fun h => ⟨h.1, h.2.below hb⟩, qf5.out.mono fun h => ⟨h.1, h.2.below hb⟩, qf6.out.mono fun h => h.keep hb, Gd.yes (Made.new _ _ _ _ hBi.out.size), qf6.out.mono fun h => Gd.yes (by have := h.lt; omega), qd5_2⟩
    · have yy2 : fl2 = true := by refine ready_dep (k := 1) (o := ?_) hi (by simp only [List.getElem?_toArray, List.getElem?_cons_succ, List.getElem?_cons_zero]; rfl) rfl rfl
      subst yy2
      have yy5 : fl5 = true := by refine ready_dep (k := 2) (o := ?_) hi (by simp only [List.getElem?_toArray, List.getElem?_cons_succ, List.getElem?_cons_zero]; rfl) rfl rfl
      subst yy5
      have yy6 : fl6 = true := by refine ready_dep (k := 0) (o := ?_) hi (by simp only [List.getElem?_toArray, List.getElem?_cons_succ, List.getElem?_cons_zero]; rfl) rfl rfl
      subst yy6
      have yy7 : fl7 = true := by refine ready_dep (k := 10) (o := ?_) hi (by simp only [List.getElem?_toArray, List.getElem?_cons_succ, List.getElem?_cons_zero]; rfl) rfl rfl
      subst yy7
      exact absurd rfl hne
    · have u : false = true := by refine ready_dep (k := 2) (o := ?_) hi (by simp only [List.getElem?_toArray, List.getElem?_cons_succ, List.getElem?_cons_zero]; rfl) rfl rfl
      cases u
  rintro a wm7 ⟨fl2, fl5, fl6, fl7, vl22, vl25, vl10, vl11, b10, B10, m10, d10, b11, B11, m11, d11, ad6, ad7, hl, rfl, hBi, qf2, qf5, qf6, qf7, qn6_7, qd5_2⟩
  have xx2 : fl2 = true := by have h := congrArg (fun l : Array Bool => l.getD 2 false) hl; exact h.symm
  subst xx2
  have xx5 : fl5 = true := by have h := congrArg (fun l : Array Bool => l.getD 5 false) hl; exact h.symm
  subst xx5
  have xx6 : fl6 = true := by have h := congrArg (fun l : Array Bool => l.getD 6 false) hl; exact h.symm
  subst xx6
  have xx7 : fl7 = true := by have h := congrArg (fun l : Array Bool => l.getD 7 false) hl; exact h.symm
  subst xx7
  obtain ⟨rfl, hw10⟩ := qf2.out.get
  obtain ⟨rfl, hw11⟩ := qf5.out.get
  obtain ⟨rfl, hg6, hk6⟩ := qf6.out.get
  obtain ⟨rfl, hg7, hk7⟩ := qf7.out.get
  have n6_7 := qn6_7.out.get.get
  have hBv := hBi.out
  clear hl hBi qf2 qf5 qf6 qf7 qn6_7 qd5_2
  have hk6 : Blk wm7 ad6 29 #[.bool false, .slice none 0 0] := hk6
  have hk7 : Blk wm7 ad7 29 #[.bool false, .slice none 0 0] := hk7
  rw [show due #[true, true, true, true, true, true, true, true, false, false] = 2 from rfl]
  try simp only [Act.put, List.setIfInBounds_toArray, List.set_cons_zero, List.set_cons_succ]
  refine wpAnyH_ready (rs := [8]) (by kernel_rfl) (by simp) ?_
  refine AllReadyH.cons (o := ?_) (by simp only [List.getElem?_toArray, List.getElem?_cons_succ, List.getElem?_cons_zero]; rfl) (fun K hK => ?_) AllReadyH.nil
  have sc0 : (wm7).cell? ⟨ad6, 0, none⟩ = some (.bool false) := hk6.cell 0
  have sf0 : (wm7).frozen? ⟨ad6, 0, none⟩ = false := hk6.frozen 0
  have hj0 : Blk (wm7.setCell ⟨ad6, 0, none⟩ (.bool b10)) ad6 29 #[.bool b10, .slice none 0 0] := hk6.set_ 0 (.bool b10)
  have sc1 : (wm7.setCell ⟨ad6, 0, none⟩ (.bool b10)).cell? ⟨ad6, 1, none⟩ = some (.slice none 0 0) := hj0.cell 1
  have sf1 : (wm7.setCell ⟨ad6, 0, none⟩ (.bool b10)).frozen? ⟨ad6, 1, none⟩ = false := hj0.frozen 1
  have hj1 : Blk ((wm7.setCell ⟨ad6, 0, none⟩ (.bool b10)).setCell ⟨ad6, 1, none⟩ (.slice B10 m10 d10)) ad6 29 #[.bool b10, .slice B10 m10 d10] := hj0.set_ 1 (.slice B10 m10 d10)
  go_simp
  have hBv := keep_below_set (p := ⟨ad6, 1, none⟩) (.slice B10 m10 d10) hg6 (keep_below_set (p := ⟨ad6, 0, none⟩) (.bool b10) hg6 (hBv))
  have hk7 := Blk.far (Blk.far (hk7) (p := ⟨ad6, 0, none⟩) (show ad7 ≠ ad6 from n6_7.symm) (.bool b10)) (p := ⟨ad6, 1, none⟩) (show ad7 ≠ ad6 from n6_7.symm) (.slice B10 m10 d10)
  have hw10 := int_set2 hw10 hk6 b10 B10 m10 d10
  have hw11 := int_set2 hw11 hk6 b10 B10 m10 d10
  have hk6 := hj1
  clear sc0 sf0 sc1 sf1 hj0 hj1
  refine hK.out _ _ ?_ (fun hHeld => ?_)
  · ((try dsimp only); exact hBv)
  clear hK K hHeld
  try simp only [Act.put, List.setIfInBounds_toArray, List.set_cons_zero, List.set_cons_succ]
  generalize (wm7.setCell ⟨ad6, 0, none⟩ (.bool b10)).setCell ⟨ad6, 1, none⟩ (.slice B10 m10 d10) = wm8 at *
  refine wpAnyH_ready (rs := [9]) (by kernel_rfl) (by simp) ?_
  refine AllReadyH.cons (o := ?_) (by simp only [List.getElem?_toArray, List.getElem?_cons_succ, List.getElem?_cons_zero]; rfl) (fun K hK => ?_) AllReadyH.nil
  have sc0 : (wm8).cell? ⟨ad7, 0, none⟩ = some (.bool false) := hk7.cell 0
  have sf0 : (wm8).frozen? ⟨ad7, 0, none⟩ = false := hk7.frozen 0
  have hj0 : Blk (wm8.setCell ⟨ad7, 0, none⟩ (.bool b11)) ad7 29 #[.bool b11, .slice none 0 0] := hk7.set_ 0 (.bool b11)
  have sc1 : (wm8.setCell ⟨ad7, 0, none⟩ (.bool b11)).cell? ⟨ad7, 1, none⟩ = some (.slice none 0 0) := hj0.cell 1
  have sf1 : (wm8.setCell ⟨ad7, 0, none⟩ (.bool b11)).frozen? ⟨ad7, 1, none⟩ = false := hj0.frozen 1
  have hj1 : Blk ((wm8.setCell ⟨ad7, 0, none⟩ (.bool b11)).setCell ⟨ad7, 1, none⟩ (.slice B11 m11 d11)) ad7 29 #[.bool b11, .slice B11 m11 d11] := hj0.set_ 1 (.slice B11 m11 d11)
  go_simp
  have hBv := keep_below_set (p := ⟨ad7, 1, none⟩) (.slice B11 m11 d11) hg7 (keep_below_set (p := ⟨ad7, 0, none⟩) (.bool b11) hg7 (hBv))
  have hk6 := Blk.far (Blk.far (hk6) (p := ⟨ad7, 0, none⟩) (show ad6 ≠ ad7 from n6_7) (.bool b11)) (p := ⟨ad7, 1, none⟩) (show ad6 ≠ ad7 from n6_7) (.slice B11 m11 d11)
  have hw10 := int_set2 hw10 hk7 b11 B11 m11 d11
  have hw11 := int_set2 hw11 hk7 b11 B11 m11 d11
  have hk7 := hj1
  clear sc0 sf0 sc1 sf1 hj0 hj1
  refine hK.out _ _ ?_ (fun hHeld => ?_)
  · ((try dsimp only); exact hBv)
  clear hK K hHeld
  try simp only [Act.put, List.setIfInBounds_toArray, List.set_cons_zero, List.set_cons_succ]
  generalize (wm8.setCell ⟨ad7, 0, none⟩ (.bool b11)).setCell ⟨ad7, 1, none⟩ (.slice B11 m11 d11) = wm9 at *
  refine wpAnyH_done (by kernel_rfl) ?_ _
  refine NoPanic.normal ?_
  have hB := keep_below hB hBv
  have g1 := keep_cell hBv g1
  have e1 := keep_cell hBv e1
  have g2 := keep_cell hBv g2
  have e2 := keep_cell hBv e2
  have g3 := keep_cell hBv g3
  have e3 := keep_cell hBv e3
  have g7 := keep_cell hBv g7
  have e7 := keep_cell hBv e7
  have g8 := keep_cell hBv g8
  have e8 := keep_cell hBv e8
  have g9 := keep_cell hBv g9
  have e9 := keep_cell hBv e9
  have HN4 := Lib.hid (HN4.out.below hBv)
  have HN5 := Lib.hid (HN5.out.below hBv)
  have HN6 := Lib.hid (HN6.out.below hBv)
  obtain ⟨ad6_12, hga⟩ : ∃ x, x = ad6 := ⟨_, rfl⟩
  subst hga
  have g12 : wm9.cell? ⟨ad6_12, 0, none⟩ = some (.bool b10) := hk6.cell 0
  have e12 : wm9.cell? ⟨ad6_12, 1, none⟩ = some (.slice B10 m10 d10) := hk6.cell 1
  obtain ⟨ad7_13, hga⟩ : ∃ x, x = ad7 := ⟨_, rfl⟩
  subst hga
  have g13 : wm9.cell? ⟨ad7_13, 0, none⟩ = some (.bool b11) := hk7.cell 0
  have e13 : wm9.cell? ⟨ad7_13, 1, none⟩ = some (.slice B11 m11 d11) := hk7.cell 1
  have HN10 := Lib.hid hw10
  have HN11 := Lib.hid hw11
  clear hBv hk6 hg6 hk7 hg7 hw10 hw11 G0 G1 n6_7
  clear C0 C1
  go_wp2_with fail
  have HZ14 : Hid (Sz (K + K + 1) (y + x).natAbs) := SzI.add HZ5.out HZ4.out
  have C0 := Lib.hid (fun w' (h : Below wm9.heap.size wm9 w') => HIC.out.add (y) (x) b5 b4 B5 B4 m5 m4 d5 d4 w' (HT.out _ (keep_below hB h)) (HN5.out.below h) (HN4.out.below h) (by have := Sz.words HZ5.out HN5.out.words; omega) (by have := Sz.words HZ4.out HN4.out.words; omega))
  have C1 := Lib.hid (fun w' (h : Below wm9.heap.size wm9 w') (b14 : Bool) (B14 : Option Addr) (m14 : Nat) (d14 : Nat) (hw14 : IntIn w' (y + x) b14 B14 m14 d14) => icmp_eq (Int.add_comm _ _) (HIC.out.cmp (y + x) (x + y) b14 b10 B14 B10 m14 m10 d14 d10 w' (HT.out _ (keep_below hB h)) hw14 (HN10.out.below h) (by have := Sz.words HZ14.out hw14.words; omega) (by have := Sz.words HZ10.out HN10.out.words; omega)))
  have HZ15 : Hid (Sz (K + K) (y * x).natAbs) := SzI.mul HZ5.out HZ4.out
  have C2 := Lib.hid (fun w' (h : Below wm9.heap.size wm9 w') => HIC.out.mul (y) (x) b5 b4 B5 B4 m5 m4 d5 d4 w' (HT.out _ (keep_below hB h)) (HN5.out.below h) (HN4.out.below h) (by have := Sz.words HZ5.out HN5.out.words; omega) (by have := Sz.words HZ4.out HN4.out.words; omega))
  have C3 := Lib.hid (fun w' (h : Below wm9.heap.size wm9 w') (b15 : Bool) (B15 : Option Addr) (m15 : Nat) (d15 : Nat) (hw15 : IntIn w' (y * x) b15 B15 m15 d15) => icmp_eq (Int.mul_comm _ _) (HIC.out.cmp (y * x) (x * y) b15 b11 B15 B11 m15 m11 d15 d11 w' (HT.out _ (keep_below hB h)) hw15 (HN11.out.below h) (by have := Sz.words HZ15.out hw15.words; omega) (by have := Sz.words HZ11.out HN11.out.words; omega)))
  have HZ16 : Hid (Sz (K) (-x).natAbs) := SzI.neg HZ4.out
  have C4 := Lib.hid (fun w' (h : Below wm9.heap.size wm9 w') => HIC.out.neg (x) b4 B4 m4 d4 w' (HT.out _ (keep_below hB h)) (HN4.out.below h) (by have := Sz.words HZ4.out HN4.out.words; omega))
  have HZ17 : Hid (Sz (K + K + 1) (x + -x).natAbs) := SzI.add HZ4.out HZ16.out
  have C5 := Lib.hid (fun w' (h : Below wm9.heap.size wm9 w') (b16 : Bool) (B16 : Option Addr) (m16 : Nat) (d16 : Nat) (hw16 : IntIn w' (-x) b16 B16 m16 d16) => HIC.out.add (x) (-x) b4 b16 B4 B16 m4 m16 d4 d16 w' (HT.out _ (keep_below hB h)) (HN4.out.below h) hw16 (by have := Sz.words HZ4.out HN4.out.words; omega) (by have := Sz.words HZ16.out hw16.words; omega))
  have C6 := Lib.hid (fun w' (h : Below wm9.heap.size wm9 w') (b17 : Bool) (B17 : Option Addr) (m17 : Nat) (d17 : Nat) (hw17 : IntIn w' (x + -x) b17 B17 m17 d17) => isgn_of (v := 0) ((by rw [Int.add_right_neg]; rfl)) (HIC.out.sign (x + -x) b17 B17 m17 d17 w' (HT.out _ (keep_below hB h)) hw17 (by have := Sz.words HZ17.out hw17.words; omega)))
  have hb0 : Below wm9.heap.size wm9 wm9.drew := (Below.refl _ wm9).drew
  have j0 : wm9.drew.cell? ⟨ad7_8, 0, none⟩ = some (.bool b5) := g8
  have j1 : wm9.drew.cell? ⟨ad7_8, 1, none⟩ = some (.slice B5 m5 d5) := e8
  have j2 : wm9.drew.cell? ⟨ad6_7, 0, none⟩ = some (.bool b4) := g7
  have j3 : wm9.drew.cell? ⟨ad6_7, 1, none⟩ = some (.slice B4 m4 d4) := e7
  have j4 : wm9.drew.cell? ⟨ad6_12, 0, none⟩ = some (.bool b10) := g12
  have j5 : wm9.drew.cell? ⟨ad6_12, 1, none⟩ = some (.slice B10 m10 d10) := e12
  have j6 : wm9.drew.cell? ⟨ad7_13, 0, none⟩ = some (.bool b11) := g13
  have j7 : wm9.drew.cell? ⟨ad7_13, 1, none⟩ = some (.slice B11 m11 d11) := e13
  refine wp_region_noPanic ?_
  refine wp_region_held_drew (S := (fun w' => Below wm9.heap.size wm9 w' ∧ w'.cell? ⟨ad7_8, 0, none⟩ = some (.bool b5) ∧ w'.cell? ⟨ad7_8, 1, none⟩ = some (.slice B5 m5 d5) ∧ w'.cell? ⟨ad6_7, 0, none⟩ = some (.bool b4) ∧ w'.cell? ⟨ad6_7, 1, none⟩ = some (.slice B4 m4 d4) ∧ w'.cell? ⟨ad6_12, 0, none⟩ = some (.bool b10) ∧ w'.cell? ⟨ad6_12, 1, none⟩ = some (.slice B10 m10 d10) ∧ w'.cell? ⟨ad7_13, 0, none⟩ = some (.bool b11) ∧ w'.cell? ⟨ad7_13, 1, none⟩ = some (.slice B11 m11 d11))) (by kernel_rfl) ?_ (fun hHeld => ?_)
  · exact ⟨hb0, j0, j1, j2, j3, j4, j5, j6, j7⟩
  refine wpAnyH_take (i := 0) (oi := ?_) (v := ?_) (by simp only [List.getElem?_toArray, List.getElem?_cons_succ, List.getElem?_cons_zero]; rfl) (by kernel_rfl) (by kernel_rfl) (by kernel_rfl) (fun _ _ _ h => h) (Or.inl ⟨by rfl, ?_⟩) (by with_reducible assumption) ?_
  rotate_left
  focus ((intro w hSw; (try dsimp only at hSw); go_simp); (try with_reducible rfl))
  try simp only [Act.put, List.setIfInBounds_toArray, List.set_cons_zero, List.set_cons_succ]
  refine wpAnyH_take (i := 1) (oi := ?_) (v := ?_) (by simp only [List.getElem?_toArray, List.getElem?_cons_succ, List.getElem?_cons_zero]; rfl) (by kernel_rfl) (by kernel_rfl) (by kernel_rfl) (fun _ _ _ h => h) (Or.inl ⟨by rfl, ?_⟩) (by with_reducible assumption) ?_
  rotate_left
  focus ((intro w hSw; (try dsimp only at hSw); go_simp); (try with_reducible rfl))
  try simp only [Act.put, List.setIfInBounds_toArray, List.set_cons_zero, List.set_cons_succ]
  refine wpAnyH_take (i := 3) (oi := ?_) (v := ?_) (by simp only [List.getElem?_toArray, List.getElem?_cons_succ, List.getElem?_cons_zero]; rfl) (by kernel_rfl) (by kernel_rfl) (by kernel_rfl) (fun _ _ _ h => h) (Or.inl ⟨by rfl, ?_⟩) (by with_reducible assumption) ?_
  rotate_left
  focus ((intro w hSw; (try dsimp only at hSw); go_simp); (try with_reducible rfl))
  try simp only [Act.put, List.setIfInBounds_toArray, List.set_cons_zero, List.set_cons_succ]
  refine wpAnyH_ready (rs := [2]) (by kernel_rfl) (by simp) ?_
  refine AllReadyH.cons (o := ?_) (by simp only [List.getElem?_toArray, List.getElem?_cons_succ, List.getElem?_cons_zero]; rfl) (fun K hK => ?_) AllReadyH.nil
  go_simp
  (go_at_call 17; (with_reducible refine (C0.out _ (by first | with_reducible assumption | exact And.left (by with_reducible assumption))).mono ?_); rintro e wa10 ⟨b14, B14, m14, d14, rfl, hw14, hb⟩; go_split_ands; have hBw : Below wm9.heap.size wm9 wa10 := keep_below (by with_reducible assumption) hb; have gw0 : wa10.cell? ⟨ad7_8, 0, none⟩ = some (.bool b5) := keep_cell hb (by with_reducible assumption); have gw1 : wa10.cell? ⟨ad7_8, 1, none⟩ = some (.slice B5 m5 d5) := keep_cell hb (by with_reducible assumption); have gw2 : wa10.cell? ⟨ad6_7, 0, none⟩ = some (.bool b4) := keep_cell hb (by with_reducible assumption); have gw3 : wa10.cell? ⟨ad6_7, 1, none⟩ = some (.slice B4 m4 d4) := keep_cell hb (by with_reducible assumption); have gw4 : wa10.cell? ⟨ad6_12, 0, none⟩ = some (.bool b10) := keep_cell hb (by with_reducible assumption); have gw5 : wa10.cell? ⟨ad6_12, 1, none⟩ = some (.slice B10 m10 d10) := keep_cell hb (by with_reducible assumption); have gw6 : wa10.cell? ⟨ad7_13, 0, none⟩ = some (.bool b11) := keep_cell hb (by with_reducible assumption); have gw7 : wa10.cell? ⟨ad7_13, 1, none⟩ = some (.slice B11 m11 d11) := keep_cell hb (by with_reducible assumption))
  refine hK.out _ _ ?_ (fun hHeld => ?_)
  · ((try dsimp only); (first | (with_reducible exact ⟨hb0, j0, j1, j2, j3, j4, j5, j6, j7⟩) | (go_split_ands; (repeat' apply And.intro); all_goals (first | with_reducible assumption | with_reducible exact keep_below (by with_reducible assumption) hb | with_reducible exact keep_cell hb (by with_reducible assumption)))))
  clear hK K
  try simp only [Act.put, List.setIfInBounds_toArray, List.set_cons_zero, List.set_cons_succ]
  refine wpAnyH_ready (rs := [4]) (by kernel_rfl) (by simp) ?_
  refine AllReadyH.cons (o := ?_) (by simp only [List.getElem?_toArray, List.getElem?_cons_succ, List.getElem?_cons_zero]; rfl) (fun K hK => ?_) AllReadyH.nil
  go_simp
  (go_at_call 22; (with_reducible refine (C1.out _ (by first | with_reducible assumption | exact And.left (by with_reducible assumption)) _ _ _ _ hw14).mono ?_); rintro e wa11 ⟨rfl, hb⟩; go_split_ands; have hBw : Below wm9.heap.size wm9 wa11 := keep_below (by with_reducible assumption) hb; have gw0 : wa11.cell? ⟨ad7_8, 0, none⟩ = some (.bool b5) := keep_cell hb (by with_reducible assumption); have gw1 : wa11.cell? ⟨ad7_8, 1, none⟩ = some (.slice B5 m5 d5) := keep_cell hb (by with_reducible assumption); have gw2 : wa11.cell? ⟨ad6_7, 0, none⟩ = some (.bool b4) := keep_cell hb (by with_reducible assumption); have gw3 : wa11.cell? ⟨ad6_7, 1, none⟩ = some (.slice B4 m4 d4) := keep_cell hb (by with_reducible assumption); have gw4 : wa11.cell? ⟨ad6_12, 0, none⟩ = some (.bool b10) := keep_cell hb (by with_reducible assumption); have gw5 : wa11.cell? ⟨ad6_12, 1, none⟩ = some (.slice B10 m10 d10) := keep_cell hb (by with_reducible assumption); have gw6 : wa11.cell? ⟨ad7_13, 0, none⟩ = some (.bool b11) := keep_cell hb (by with_reducible assumption); have gw7 : wa11.cell? ⟨ad7_13, 1, none⟩ = some (.slice B11 m11 d11) := keep_cell hb (by with_reducible assumption); (with_reducible have hw14 := hw14.below hb))
  refine hK.out _ _ ?_ (fun hHeld => ?_)
  · ((try dsimp only); (first | (with_reducible exact ⟨hb0, j0, j1, j2, j3, j4, j5, j6, j7⟩) | (go_split_ands; (repeat' apply And.intro); all_goals (first | with_reducible assumption | with_reducible exact keep_below (by with_reducible assumption) hb | with_reducible exact keep_cell hb (by with_reducible assumption)))))
  clear hK K
  try simp only [Act.put, List.setIfInBounds_toArray, List.set_cons_zero, List.set_cons_succ]
  refine wpAnyH_take (i := 5) (oi := ?_) (v := ?_) (by simp only [List.getElem?_toArray, List.getElem?_cons_succ, List.getElem?_cons_zero]; rfl) (by kernel_rfl) (by kernel_rfl) (by kernel_rfl) (fun _ _ _ h => h) (Or.inl ⟨by rfl, ?_⟩) (by with_reducible assumption) ?_
  rotate_left
  focus ((intro w hSw; (try dsimp only at hSw); go_simp); (try with_reducible rfl))
  try simp only [Act.put, List.setIfInBounds_toArray, List.set_cons_zero, List.set_cons_succ]
  refine wpAnyH_take (i := 6) (oi := ?_) (v := ?_) (by simp only [List.getElem?_toArray, List.getElem?_cons_succ, List.getElem?_cons_zero]; rfl) (by kernel_rfl) (by kernel_rfl) (by kernel_rfl) (fun _ _ _ h => h) (Or.inl ⟨by rfl, ?_⟩) (by with_reducible assumption) ?_
  rotate_left
  focus ((intro w hSw; (try dsimp only at hSw); go_simp); (try with_reducible rfl))
  try simp only [Act.put, List.setIfInBounds_toArray, List.set_cons_zero, List.set_cons_succ]
  refine wpAnyH_take (i := 7) (oi := ?_) (v := ?_) (by simp only [List.getElem?_toArray, List.getElem?_cons_succ, List.getElem?_cons_zero]; rfl) (by kernel_rfl) (by kernel_rfl) (by kernel_rfl) (fun _ _ _ h => h) (Or.inl ⟨by rfl, ?_⟩) (by with_reducible assumption) ?_
  rotate_left
  focus ((intro w hSw; (try dsimp only at hSw); go_simp); (try with_reducible rfl))
  try simp only [Act.put, List.setIfInBounds_toArray, List.set_cons_zero, List.set_cons_succ]
  refine wpAnyH_take (i := 8) (oi := ?_) (v := ?_) (by simp only [List.getElem?_toArray, List.getElem?_cons_succ, List.getElem?_cons_zero]; rfl) (by kernel_rfl) (by kernel_rfl) (by kernel_rfl) (fun _ _ _ h => h) (Or.inl ⟨by rfl, ?_⟩) (by with_reducible assumption) ?_
  rotate_left
  focus ((intro w hSw; (try dsimp only at hSw); go_simp); (try with_reducible rfl))
  try simp only [Act.put, List.setIfInBounds_toArray, List.set_cons_zero, List.set_cons_succ]
  refine wpAnyH_take (i := 10) (oi := ?_) (v := ?_) (by simp only [List.getElem?_toArray, List.getElem?_cons_succ, List.getElem?_cons_zero]; rfl) (by kernel_rfl) (by kernel_rfl) (by kernel_rfl) (fun _ _ _ h => h) (Or.inl ⟨by rfl, ?_⟩) (by with_reducible assumption) ?_
  rotate_left
  focus ((intro w hSw; (try dsimp only at hSw); go_simp); (try with_reducible rfl))
  try simp only [Act.put, List.setIfInBounds_toArray, List.set_cons_zero, List.set_cons_succ]
  refine wpAnyH_ready (rs := [9]) (by kernel_rfl) (by simp) ?_
  refine AllReadyH.cons (o := ?_) (by simp only [List.getElem?_toArray, List.getElem?_cons_succ, List.getElem?_cons_zero]; rfl) (fun K hK => ?_) AllReadyH.nil
  go_simp
  (go_at_call 20; (with_reducible refine (C2.out _ (by first | with_reducible assumption | exact And.left (by with_reducible assumption))).mono ?_); rintro e wa12 ⟨b15, B15, m15, d15, rfl, hw15, hb⟩; go_split_ands; have hBw : Below wm9.heap.size wm9 wa12 := keep_below (by with_reducible assumption) hb; have gw0 : wa12.cell? ⟨ad7_8, 0, none⟩ = some (.bool b5) := keep_cell hb (by with_reducible assumption); have gw1 : wa12.cell? ⟨ad7_8, 1, none⟩ = some (.slice B5 m5 d5) := keep_cell hb (by with_reducible assumption); have gw2 : wa12.cell? ⟨ad6_7, 0, none⟩ = some (.bool b4) := keep_cell hb (by with_reducible assumption); have gw3 : wa12.cell? ⟨ad6_7, 1, none⟩ = some (.slice B4 m4 d4) := keep_cell hb (by with_reducible assumption); have gw4 : wa12.cell? ⟨ad6_12, 0, none⟩ = some (.bool b10) := keep_cell hb (by with_reducible assumption); have gw5 : wa12.cell? ⟨ad6_12, 1, none⟩ = some (.slice B10 m10 d10) := keep_cell hb (by with_reducible assumption); have gw6 : wa12.cell? ⟨ad7_13, 0, none⟩ = some (.bool b11) := keep_cell hb (by with_reducible assumption); have gw7 : wa12.cell? ⟨ad7_13, 1, none⟩ = some (.slice B11 m11 d11) := keep_cell hb (by with_reducible assumption); (with_reducible have hw14 := hw14.below hb))
  refine hK.out _ _ ?_ (fun hHeld => ?_)
  · ((try dsimp only); (first | (with_reducible exact ⟨hb0, j0, j1, j2, j3, j4, j5, j6, j7⟩) | (go_split_ands; (repeat' apply And.intro); all_goals (first | with_reducible assumption | with_reducible exact keep_below (by with_reducible assumption) hb | with_reducible exact keep_cell hb (by with_reducible assumption)))))
  clear hK K
  try simp only [Act.put, List.setIfInBounds_toArray, List.set_cons_zero, List.set_cons_succ]
  refine wpAnyH_ready (rs := [11]) (by kernel_rfl) (by simp) ?_
  refine AllReadyH.cons (o := ?_) (by simp only [List.getElem?_toArray, List.getElem?_cons_succ, List.getElem?_cons_zero]; rfl) (fun K hK => ?_) AllReadyH.nil
  go_simp
  (go_at_call 22; (with_reducible refine (C3.out _ (by first | with_reducible assumption | exact And.left (by with_reducible assumption)) _ _ _ _ hw15).mono ?_); rintro e wa13 ⟨rfl, hb⟩; go_split_ands; have hBw : Below wm9.heap.size wm9 wa13 := keep_below (by with_reducible assumption) hb; have gw0 : wa13.cell? ⟨ad7_8, 0, none⟩ = some (.bool b5) := keep_cell hb (by with_reducible assumption); have gw1 : wa13.cell? ⟨ad7_8, 1, none⟩ = some (.slice B5 m5 d5) := keep_cell hb (by with_reducible assumption); have gw2 : wa13.cell? ⟨ad6_7, 0, none⟩ = some (.bool b4) := keep_cell hb (by with_reducible assumption); have gw3 : wa13.cell? ⟨ad6_7, 1, none⟩ = some (.slice B4 m4 d4) := keep_cell hb (by with_reducible assumption); have gw4 : wa13.cell? ⟨ad6_12, 0, none⟩ = some (.bool b10) := keep_cell hb (by with_reducible assumption); have gw5 : wa13.cell? ⟨ad6_12, 1, none⟩ = some (.slice B10 m10 d10) := keep_cell hb (by with_reducible assumption); have gw6 : wa13.cell? ⟨ad7_13, 0, none⟩ = some (.bool b11) := keep_cell hb (by with_reducible assumption); have gw7 : wa13.cell? ⟨ad7_13, 1, none⟩ = some (.slice B11 m11 d11) := keep_cell hb (by with_reducible assumption); (with_reducible have hw14 := hw14.below hb); (with_reducible have hw15 := hw15.below hb))
  refine hK.out _ _ ?_ (fun hHeld => ?_)
  · ((try dsimp only); (first | (with_reducible exact ⟨hb0, j0, j1, j2, j3, j4, j5, j6, j7⟩) | (go_split_ands; (repeat' apply And.intro); all_goals (first | with_reducible assumption | with_reducible exact keep_below (by with_reducible assumption) hb | with_reducible exact keep_cell hb (by with_reducible assumption)))))
  clear hK K
  try simp only [Act.put, List.setIfInBounds_toArray, List.set_cons_zero, List.set_cons_succ]
  refine wpAnyH_take (i := 12) (oi := ?_) (v := ?_) (by simp only [List.getElem?_toArray, List.getElem?_cons_succ, List.getElem?_cons_zero]; rfl) (by kernel_rfl) (by kernel_rfl) (by kernel_rfl) (fun _ _ _ h => h) (Or.inl ⟨by rfl, ?_⟩) (by with_reducible assumption) ?_
  rotate_left
  focus ((intro w hSw; (try dsimp only at hSw); go_simp); (try with_reducible rfl))
  try simp only [Act.put, List.setIfInBounds_toArray, List.set_cons_zero, List.set_cons_succ]
  refine wpAnyH_take (i := 13) (oi := ?_) (v := ?_) (by simp only [List.getElem?_toArray, List.getElem?_cons_succ, List.getElem?_cons_zero]; rfl) (by kernel_rfl) (by kernel_rfl) (by kernel_rfl) (fun _ _ _ h => h) (Or.inl ⟨by rfl, ?_⟩) (by with_reducible assumption) ?_
  rotate_left
  focus ((intro w hSw; (try dsimp only at hSw); go_simp); (try with_reducible rfl))
  try simp only [Act.put, List.setIfInBounds_toArray, List.set_cons_zero, List.set_cons_succ]
  refine wpAnyH_take (i := 14) (oi := ?_) (v := ?_) (by simp only [List.getElem?_toArray, List.getElem?_cons_succ, List.getElem?_cons_zero]; rfl) (by kernel_rfl) (by kernel_rfl) (by kernel_rfl) (fun _ _ _ h => h) (Or.inl ⟨by rfl, ?_⟩) (by with_reducible assumption) ?_
  rotate_left
  focus ((intro w hSw; (try dsimp only at hSw); go_simp); (try with_reducible rfl))
  try simp only [Act.put, List.setIfInBounds_toArray, List.set_cons_zero, List.set_cons_succ]
  refine wpAnyH_take (i := 15) (oi := ?_) (v := ?_) (by simp only [List.getElem?_toArray, List.getElem?_cons_succ, List.getElem?_cons_zero]; rfl) (by kernel_rfl) (by kernel_rfl) (by kernel_rfl) (fun _ _ _ h => h) (Or.inl ⟨by rfl, ?_⟩) (by with_reducible assumption) ?_
  rotate_left
  focus ((intro w hSw; (try dsimp only at hSw); go_simp); (try with_reducible rfl))
  try simp only [Act.put, List.setIfInBounds_toArray, List.set_cons_zero, List.set_cons_succ]
  refine wpAnyH_take (i := 16) (oi := ?_) (v := ?_) (by simp only [List.getElem?_toArray, List.getElem?_cons_succ, List.getElem?_cons_zero]; rfl) (by kernel_rfl) (by kernel_rfl) (by kernel_rfl) (fun _ _ _ h => h) (Or.inl ⟨by rfl, ?_⟩) (by with_reducible assumption) ?_
  rotate_left
  focus ((intro w hSw; (try dsimp only at hSw); go_simp); (try with_reducible rfl))
  try simp only [Act.put, List.setIfInBounds_toArray, List.set_cons_zero, List.set_cons_succ]
  refine wpAnyH_ready (rs := [17]) (by kernel_rfl) (by simp) ?_
  refine AllReadyH.cons (o := ?_) (by simp only [List.getElem?_toArray, List.getElem?_cons_succ, List.getElem?_cons_zero]; rfl) (fun K hK => ?_) AllReadyH.nil
  go_simp
  (go_at_call 15; (with_reducible refine (C4.out _ (by first | with_reducible assumption | exact And.left (by with_reducible assumption))).mono ?_); rintro e wa14 ⟨b16, B16, m16, d16, rfl, hw16, hb⟩; go_split_ands; have hBw : Below wm9.heap.size wm9 wa14 := keep_below (by with_reducible assumption) hb; have gw0 : wa14.cell? ⟨ad7_8, 0, none⟩ = some (.bool b5) := keep_cell hb (by with_reducible assumption); have gw1 : wa14.cell? ⟨ad7_8, 1, none⟩ = some (.slice B5 m5 d5) := keep_cell hb (by with_reducible assumption); have gw2 : wa14.cell? ⟨ad6_7, 0, none⟩ = some (.bool b4) := keep_cell hb (by with_reducible assumption); have gw3 : wa14.cell? ⟨ad6_7, 1, none⟩ = some (.slice B4 m4 d4) := keep_cell hb (by with_reducible assumption); have gw4 : wa14.cell? ⟨ad6_12, 0, none⟩ = some (.bool b10) := keep_cell hb (by with_reducible assumption); have gw5 : wa14.cell? ⟨ad6_12, 1, none⟩ = some (.slice B10 m10 d10) := keep_cell hb (by with_reducible assumption); have gw6 : wa14.cell? ⟨ad7_13, 0, none⟩ = some (.bool b11) := keep_cell hb (by with_reducible assumption); have gw7 : wa14.cell? ⟨ad7_13, 1, none⟩ = some (.slice B11 m11 d11) := keep_cell hb (by with_reducible assumption); (with_reducible have hw14 := hw14.below hb); (with_reducible have hw15 := hw15.below hb))
  refine hK.out _ _ ?_ (fun hHeld => ?_)
  · ((try dsimp only); (first | (with_reducible exact ⟨hb0, j0, j1, j2, j3, j4, j5, j6, j7⟩) | (go_split_ands; (repeat' apply And.intro); all_goals (first | with_reducible assumption | with_reducible exact keep_below (by with_reducible assumption) hb | with_reducible exact keep_cell hb (by with_reducible assumption)))))
  clear hK K
  try simp only [Act.put, List.setIfInBounds_toArray, List.set_cons_zero, List.set_cons_succ]
  refine wpAnyH_ready (rs := [18]) (by kernel_rfl) (by simp) ?_
  refine AllReadyH.cons (o := ?_) (by simp only [List.getElem?_toArray, List.getElem?_cons_succ, List.getElem?_cons_zero]; rfl) (fun K hK => ?_) AllReadyH.nil
  go_simp
  (go_at_call 17; (with_reducible refine (C5.out _ (by first | with_reducible assumption | exact And.left (by with_reducible assumption)) _ _ _ _ hw16).mono ?_); rintro e wa15 ⟨b17, B17, m17, d17, rfl, hw17, hb⟩; go_split_ands; have hBw : Below wm9.heap.size wm9 wa15 := keep_below (by with_reducible assumption) hb; have gw0 : wa15.cell? ⟨ad7_8, 0, none⟩ = some (.bool b5) := keep_cell hb (by with_reducible assumption); have gw1 : wa15.cell? ⟨ad7_8, 1, none⟩ = some (.slice B5 m5 d5) := keep_cell hb (by with_reducible assumption); have gw2 : wa15.cell? ⟨ad6_7, 0, none⟩ = some (.bool b4) := keep_cell hb (by with_reducible assumption); have gw3 : wa15.cell? ⟨ad6_7, 1, none⟩ = some (.slice B4 m4 d4) := keep_cell hb (by with_reducible assumption); have gw4 : wa15.cell? ⟨ad6_12, 0, none⟩ = some (.bool b10) := keep_cell hb (by with_reducible assumption); have gw5 : wa15.cell? ⟨ad6_12, 1, none⟩ = some (.slice B10 m10 d10) := keep_cell hb (by with_reducible assumption); have gw6 : wa15.cell? ⟨ad7_13, 0, none⟩ = some (.bool b11) := keep_cell hb (by with_reducible assumption); have gw7 : wa15.cell? ⟨ad7_13, 1, none⟩ = some (.slice B11 m11 d11) := keep_cell hb (by with_reducible assumption); (with_reducible have hw14 := hw14.below hb); (with_reducible have hw15 := hw15.below hb); (with_reducible have hw16 := hw16.below hb))
  refine hK.out _ _ ?_ (fun hHeld => ?_)
  · ((try dsimp only); (first | (with_reducible exact ⟨hb0, j0, j1, j2, j3, j4, j5, j6, j7⟩) | (go_split_ands; (repeat' apply And.intro); all_goals (first | with_reducible assumption | with_reducible exact keep_below (by with_reducible assumption) hb | with_reducible exact keep_cell hb (by with_reducible assumption)))))
  clear hK K
  try simp only [Act.put, List.setIfInBounds_toArray, List.set_cons_zero, List.set_cons_succ]
  refine wpAnyH_ready (rs := [19]) (by kernel_rfl) (by simp) ?_
  refine AllReadyH.cons (o := ?_) (by simp only [List.getElem?_toArray, List.getElem?_cons_succ, List.getElem?_cons_zero]; rfl) (fun K hK => ?_) AllReadyH.nil
  go_simp
  (go_at_call 25; (with_reducible refine (C6.out _ (by first | with_reducible assumption | exact And.left (by with_reducible assumption)) _ _ _ _ hw17).mono ?_); rintro e wa16 ⟨rfl, hb⟩; go_split_ands; have hBw : Below wm9.heap.size wm9 wa16 := keep_below (by with_reducible assumption) hb; have gw0 : wa16.cell? ⟨ad7_8, 0, none⟩ = some (.bool b5) := keep_cell hb (by with_reducible assumption); have gw1 : wa16.cell? ⟨ad7_8, 1, none⟩ = some (.slice B5 m5 d5) := keep_cell hb (by with_reducible assumption); have gw2 : wa16.cell? ⟨ad6_7, 0, none⟩ = some (.bool b4) := keep_cell hb (by with_reducible assumption); have gw3 : wa16.cell? ⟨ad6_7, 1, none⟩ = some (.slice B4 m4 d4) := keep_cell hb (by with_reducible assumption); have gw4 : wa16.cell? ⟨ad6_12, 0, none⟩ = some (.bool b10) := keep_cell hb (by with_reducible assumption); have gw5 : wa16.cell? ⟨ad6_12, 1, none⟩ = some (.slice B10 m10 d10) := keep_cell hb (by with_reducible assumption); have gw6 : wa16.cell? ⟨ad7_13, 0, none⟩ = some (.bool b11) := keep_cell hb (by with_reducible assumption); have gw7 : wa16.cell? ⟨ad7_13, 1, none⟩ = some (.slice B11 m11 d11) := keep_cell hb (by with_reducible assumption); (with_reducible have hw14 := hw14.below hb); (with_reducible have hw15 := hw15.below hb); (with_reducible have hw16 := hw16.below hb); (with_reducible have hw17 := hw17.below hb))
  refine hK.out _ _ ?_ (fun hHeld => ?_)
  · ((try dsimp only); (first | (with_reducible exact ⟨hb0, j0, j1, j2, j3, j4, j5, j6, j7⟩) | (go_split_ands; (repeat' apply And.intro); all_goals (first | with_reducible assumption | with_reducible exact keep_below (by with_reducible assumption) hb | with_reducible exact keep_cell hb (by with_reducible assumption)))))
  clear hK K
  try simp only [Act.put, List.setIfInBounds_toArray, List.set_cons_zero, List.set_cons_succ]
  refine wpAnyH_take (i := 20) (oi := ?_) (v := ?_) (by simp only [List.getElem?_toArray, List.getElem?_cons_succ, List.getElem?_cons_zero]; rfl) (by kernel_rfl) (by kernel_rfl) (by kernel_rfl) (fun _ _ _ h => h) (Or.inl ⟨by rfl, ?_⟩) (by with_reducible assumption) ?_
  rotate_left
  focus ((intro w hSw; (try dsimp only at hSw); go_simp); (try with_reducible rfl))
  try simp only [Act.put, List.setIfInBounds_toArray, List.set_cons_zero, List.set_cons_succ]
  refine wpAnyH_take (i := 21) (oi := ?_) (v := ?_) (by simp only [List.getElem?_toArray, List.getElem?_cons_succ, List.getElem?_cons_zero]; rfl) (by kernel_rfl) (by kernel_rfl) (by kernel_rfl) (fun _ _ _ h => h) (Or.inl ⟨by rfl, ?_⟩) (by with_reducible assumption) ?_
  rotate_left
  focus ((intro w hSw; (try dsimp only at hSw); go_simp); (try with_reducible rfl))
  try simp only [Act.put, List.setIfInBounds_toArray, List.set_cons_zero, List.set_cons_succ]
  refine wpAnyH_done (by kernel_rfl) ?_ _
  refine NoPanic.normal ?_
  clear hb
  have hB := keep_below hB hBw
  have g1 := keep_cell hBw g1
  have e1 := keep_cell hBw e1
  have g2 := keep_cell hBw g2
  have e2 := keep_cell hBw e2
  have g3 := keep_cell hBw g3
  have e3 := keep_cell hBw e3
  have g7 := keep_cell hBw g7
  have e7 := keep_cell hBw e7
  have g8 := keep_cell hBw g8
  have e8 := keep_cell hBw e8
  have g9 := keep_cell hBw g9
  have e9 := keep_cell hBw e9
  have HN4 := Lib.hid (HN4.out.below hBw)
  have HN5 := Lib.hid (HN5.out.below hBw)
  have HN6 := Lib.hid (HN6.out.below hBw)
  have g12 := keep_cell hBw g12
  have e12 := keep_cell hBw e12
  have g13 := keep_cell hBw g13
  have e13 := keep_cell hBw e13
  have HN10 := Lib.hid (HN10.out.below hBw)
  have HN11 := Lib.hid (HN11.out.below hBw)
  have HN14 := Lib.hid hw14
  have HN15 := Lib.hid hw15
  have HN16 := Lib.hid hw16
  have HN17 := Lib.hid hw17
  clear hb0 hBw gw0 gw1 gw2 gw3 gw4 gw5 gw6 gw7 hw14 hw15 hw16 hw17
  clear j0
  clear j1
  clear j2
  clear j3
  clear j4
  clear j5
  clear j6
  clear j7
  clear C0 C1 C2 C3 C4 C5 C6
  go_wp2_with fail
  have HZ18 : Hid (Sz ((K + K + 1) + K + 1) ((x + y) + z).natAbs) := SzI.add HZ10.out HZ6.out
  have C0 := Lib.hid (fun w' (h : Below wa16.heap.size wa16 w') => HIC.out.add (x + y) (z) b10 b6 B10 B6 m10 m6 d10 d6 w' (HT.out _ (keep_below hB h)) (HN10.out.below h) (HN6.out.below h) (by have := Sz.words HZ10.out HN10.out.words; omega) (by have := Sz.words HZ6.out HN6.out.words; omega))
  have HZ19 : Hid (Sz (K + K + 1) (y + z).natAbs) := SzI.add HZ5.out HZ6.out
  have C1 := Lib.hid (fun w' (h : Below wa16.heap.size wa16 w') => HIC.out.add (y) (z) b5 b6 B5 B6 m5 m6 d5 d6 w' (HT.out _ (keep_below hB h)) (HN5.out.below h) (HN6.out.below h) (by have := Sz.words HZ5.out HN5.out.words; omega) (by have := Sz.words HZ6.out HN6.out.words; omega))
  have HZ20 : Hid (Sz (K + (K + K + 1) + 1) (x + (y + z)).natAbs) := SzI.add HZ4.out HZ19.out
  have C2 := Lib.hid (fun w' (h : Below wa16.heap.size wa16 w') (b19 : Bool) (B19 : Option Addr) (m19 : Nat) (d19 : Nat) (hw19 : IntIn w' (y + z) b19 B19 m19 d19) => HIC.out.add (x) (y + z) b4 b19 B4 B19 m4 m19 d4 d19 w' (HT.out _ (keep_below hB h)) (HN4.out.below h) hw19 (by have := Sz.words HZ4.out HN4.out.words; omega) (by have := Sz.words HZ19.out hw19.words; omega))
  have C3 := Lib.hid (fun w' (h : Below wa16.heap.size wa16 w') (b18 : Bool) (B18 : Option Addr) (m18 : Nat) (d18 : Nat) (hw18 : IntIn w' ((x + y) + z) b18 B18 m18 d18) (b20 : Bool) (B20 : Option Addr) (m20 : Nat) (d20 : Nat) (hw20 : IntIn w' (x + (y + z)) b20 B20 m20 d20) => icmp_eq (Int.add_assoc _ _ _) (HIC.out.cmp ((x + y) + z) (x + (y + z)) b18 b20 B18 B20 m18 m20 d18 d20 w' (HT.out _ (keep_below hB h)) hw18 hw20 (by have := Sz.words HZ18.out hw18.words; omega) (by have := Sz.words HZ20.out hw20.words; omega)))
  have HZ21 : Hid (Sz (K + (K + K + 1)) (z * (x + y)).natAbs) := SzI.mul HZ6.out HZ10.out
  have C4 := Lib.hid (fun w' (h : Below wa16.heap.size wa16 w') => HIC.out.mul (z) (x + y) b6 b10 B6 B10 m6 m10 d6 d10 w' (HT.out _ (keep_below hB h)) (HN6.out.below h) (HN10.out.below h) (by have := Sz.words HZ6.out HN6.out.words; omega) (by have := Sz.words HZ10.out HN10.out.words; omega))
  have HZ22 : Hid (Sz (K + K) (z * x).natAbs) := SzI.mul HZ6.out HZ4.out
  have C5 := Lib.hid (fun w' (h : Below wa16.heap.size wa16 w') => HIC.out.mul (z) (x) b6 b4 B6 B4 m6 m4 d6 d4 w' (HT.out _ (keep_below hB h)) (HN6.out.below h) (HN4.out.below h) (by have := Sz.words HZ6.out HN6.out.words; omega) (by have := Sz.words HZ4.out HN4.out.words; omega))
  have HZ23 : Hid (Sz (K + K) (z * y).natAbs) := SzI.mul HZ6.out HZ5.out
  have C6 := Lib.hid (fun w' (h : Below wa16.heap.size wa16 w') => HIC.out.mul (z) (y) b6 b5 B6 B5 m6 m5 d6 d5 w' (HT.out _ (keep_below hB h)) (HN6.out.below h) (HN5.out.below h) (by have := Sz.words HZ6.out HN6.out.words; omega) (by have := Sz.words HZ5.out HN5.out.words; omega))
  have HZ24 : Hid (Sz ((K + K) + (K + K) + 1) ((z * x) + (z * y)).natAbs) := SzI.add HZ22.out HZ23.out
  have C7 := Lib.hid (fun w' (h : Below wa16.heap.size wa16 w') (b22 : Bool) (B22 : Option Addr) (m22 : Nat) (d22 : Nat) (hw22 : IntIn w' (z * x) b22 B22 m22 d22) (b23 : Bool) (B23 : Option Addr) (m23 : Nat) (d23 : Nat) (hw23 : IntIn w' (z * y) b23 B23 m23 d23) => HIC.out.add (z * x) (z * y) b22 b23 B22 B23 m22 m23 d22 d23 w' (HT.out _ (keep_below hB h)) hw22 hw23 (by have := Sz.words HZ22.out hw22.words; omega) (by have := Sz.words HZ23.out hw23.words; omega))
  have C8 := Lib.hid (fun w' (h : Below wa16.heap.size wa16 w') (b21 : Bool) (B21 : Option Addr) (m21 : Nat) (d21 : Nat) (hw21 : IntIn w' (z * (x + y)) b21 B21 m21 d21) (b24 : Bool) (B24 : Option Addr) (m24 : Nat) (d24 : Nat) (hw24 : IntIn w' ((z * x) + (z * y)) b24 B24 m24 d24) => icmp_eq (Int.mul_add _ _ _) (HIC.out.cmp (z * (x + y)) ((z * x) + (z * y)) b21 b24 B21 B24 m21 m24 d21 d24 w' (HT.out _ (keep_below hB h)) hw21 hw24 (by have := Sz.words HZ21.out hw21.words; omega) (by have := Sz.words HZ24.out hw24.words; omega)))
  have HZ25 : Hid (Sz ((K + K + 1) + K + 1) ((x + y) - y).natAbs) := SzI.sub HZ10.out HZ5.out
  have C9 := Lib.hid (fun w' (h : Below wa16.heap.size wa16 w') => HIC.out.sub (x + y) (y) b10 b5 B10 B5 m10 m5 d10 d5 w' (HT.out _ (keep_below hB h)) (HN10.out.below h) (HN5.out.below h) (by have := Sz.words HZ10.out HN10.out.words; omega) (by have := Sz.words HZ5.out HN5.out.words; omega))
  have C10 := Lib.hid (fun w' (h : Below wa16.heap.size wa16 w') (b25 : Bool) (B25 : Option Addr) (m25 : Nat) (d25 : Nat) (hw25 : IntIn w' ((x + y) - y) b25 B25 m25 d25) => icmp_eq (Int.add_sub_cancel _ _) (HIC.out.cmp ((x + y) - y) (x) b25 b4 B25 B4 m25 m4 d25 d4 w' (HT.out _ (keep_below hB h)) hw25 (HN4.out.below h) (by have := Sz.words HZ25.out hw25.words; omega) (by have := Sz.words HZ4.out HN4.out.words; omega)))
  have hb0 : Below wa16.heap.size wa16 wa16.drew := (Below.refl _ wa16).drew
  have j0 : wa16.drew.cell? ⟨ad6_12, 0, none⟩ = some (.bool b10) := g12
  have j1 : wa16.drew.cell? ⟨ad6_12, 1, none⟩ = some (.slice B10 m10 d10) := e12
  have j2 : wa16.drew.cell? ⟨ad8_9, 0, none⟩ = some (.bool b6) := g9
  have j3 : wa16.drew.cell? ⟨ad8_9, 1, none⟩ = some (.slice B6 m6 d6) := e9
  have j4 : wa16.drew.cell? ⟨ad6_7, 0, none⟩ = some (.bool b4) := g7
  have j5 : wa16.drew.cell? ⟨ad6_7, 1, none⟩ = some (.slice B4 m4 d4) := e7
  have j6 : wa16.drew.cell? ⟨ad7_8, 0, none⟩ = some (.bool b5) := g8
  have j7 : wa16.drew.cell? ⟨ad7_8, 1, none⟩ = some (.slice B5 m5 d5) := e8
  refine wp_region_noPanic ?_
  refine wp_region_held_drew (S := (fun w' => Below wa16.heap.size wa16 w' ∧ w'.cell? ⟨ad6_12, 0, none⟩ = some (.bool b10) ∧ w'.cell? ⟨ad6_12, 1, none⟩ = some (.slice B10 m10 d10) ∧ w'.cell? ⟨ad8_9, 0, none⟩ = some (.bool b6) ∧ w'.cell? ⟨ad8_9, 1, none⟩ = some (.slice B6 m6 d6) ∧ w'.cell? ⟨ad6_7, 0, none⟩ = some (.bool b4) ∧ w'.cell? ⟨ad6_7, 1, none⟩ = some (.slice B4 m4 d4) ∧ w'.cell? ⟨ad7_8, 0, none⟩ = some (.bool b5) ∧ w'.cell? ⟨ad7_8, 1, none⟩ = some (.slice B5 m5 d5))) (by kernel_rfl) ?_ (fun hHeld => ?_)
  · exact ⟨hb0, j0, j1, j2, j3, j4, j5, j6, j7⟩
  refine wpAnyH_take (i := 0) (oi := ?_) (v := ?_) (by simp only [List.getElem?_toArray, List.getElem?_cons_succ, List.getElem?_cons_zero]; rfl) (by kernel_rfl) (by kernel_rfl) (by kernel_rfl) (fun _ _ _ h => h) (Or.inl ⟨by rfl, ?_⟩) (by with_reducible assumption) ?_
  rotate_left
  focus ((intro w hSw; (try dsimp only at hSw); go_simp); (try with_reducible rfl))
  try simp only [Act.put, List.setIfInBounds_toArray, List.set_cons_zero, List.set_cons_succ]
  refine wpAnyH_take (i := 1) (oi := ?_) (v := ?_) (by simp only [List.getElem?_toArray, List.getElem?_cons_succ, List.getElem?_cons_zero]; rfl) (by kernel_rfl) (by kernel_rfl) (by kernel_rfl) (fun _ _ _ h => h) (Or.inl ⟨by rfl, ?_⟩) (by with_reducible assumption) ?_
  rotate_left
  focus ((intro w hSw; (try dsimp only at hSw); go_simp); (try with_reducible rfl))
  try simp only [Act.put, List.setIfInBounds_toArray, List.set_cons_zero, List.set_cons_succ]
  refine wpAnyH_take (i := 3) (oi := ?_) (v := ?_) (by simp only [List.getElem?_toArray, List.getElem?_cons_succ, List.getElem?_cons_zero]; rfl) (by kernel_rfl) (by kernel_rfl) (by kernel_rfl) (fun _ _ _ h => h) (Or.inl ⟨by rfl, ?_⟩) (by with_reducible assumption) ?_
  rotate_left
  focus ((intro w hSw; (try dsimp only at hSw); go_simp); (try with_reducible rfl))
  try simp only [Act.put, List.setIfInBounds_toArray, List.set_cons_zero, List.set_cons_succ]
  refine wpAnyH_take (i := 4) (oi := ?_) (v := ?_) (by simp only [List.getElem?_toArray, List.getElem?_cons_succ, List.getElem?_cons_zero]; rfl) (by kernel_rfl) (by kernel_rfl) (by kernel_rfl) (fun _ _ _ h => h) (Or.inl ⟨by rfl, ?_⟩) (by with_reducible assumption) ?_
  rotate_left
  focus ((intro w hSw; (try dsimp only at hSw); go_simp); (try with_reducible rfl))
  try simp only [Act.put, List.setIfInBounds_toArray, List.set_cons_zero, List.set_cons_succ]
  refine wpAnyH_take (i := 5) (oi := ?_) (v := ?_) (by simp only [List.getElem?_toArray, List.getElem?_cons_succ, List.getElem?_cons_zero]; rfl) (by kernel_rfl) (by kernel_rfl) (by kernel_rfl) (fun _ _ _ h => h) (Or.inl ⟨by rfl, ?_⟩) (by with_reducible assumption) ?_
  rotate_left
  focus ((intro w hSw; (try dsimp only at hSw); go_simp); (try with_reducible rfl))
  try simp only [Act.put, List.setIfInBounds_toArray, List.set_cons_zero, List.set_cons_succ]
  refine wpAnyH_ready (rs := [2]) (by kernel_rfl) (by simp) ?_
  refine AllReadyH.cons (o := ?_) (by simp only [List.getElem?_toArray, List.getElem?_cons_succ, List.getElem?_cons_zero]; rfl) (fun K hK => ?_) AllReadyH.nil
  go_simp
  (go_at_call 17; (with_reducible refine (C0.out _ (by first | with_reducible assumption | exact And.left (by with_reducible assumption))).mono ?_); rintro e wa17 ⟨b18, B18, m18, d18, rfl, hw18, hb⟩; go_split_ands; have hBw : Below wa16.heap.size wa16 wa17 := keep_below (by with_reducible assumption) hb; have gw0 : wa17.cell? ⟨ad6_12, 0, none⟩ = some (.bool b10) := keep_cell hb (by with_reducible assumption); have gw1 : wa17.cell? ⟨ad6_12, 1, none⟩ = some (.slice B10 m10 d10) := keep_cell hb (by with_reducible assumption); have gw2 : wa17.cell? ⟨ad8_9, 0, none⟩ = some (.bool b6) := keep_cell hb (by with_reducible assumption); have gw3 : wa17.cell? ⟨ad8_9, 1, none⟩ = some (.slice B6 m6 d6) := keep_cell hb (by with_reducible assumption); have gw4 : wa17.cell? ⟨ad6_7, 0, none⟩ = some (.bool b4) := keep_cell hb (by with_reducible assumption); have gw5 : wa17.cell? ⟨ad6_7, 1, none⟩ = some (.slice B4 m4 d4) := keep_cell hb (by with_reducible assumption); have gw6 : wa17.cell? ⟨ad7_8, 0, none⟩ = some (.bool b5) := keep_cell hb (by with_reducible assumption); have gw7 : wa17.cell? ⟨ad7_8, 1, none⟩ = some (.slice B5 m5 d5) := keep_cell hb (by with_reducible assumption))
  refine hK.out _ _ ?_ (fun hHeld => ?_)
  · ((try dsimp only); (first | (with_reducible exact ⟨hb0, j0, j1, j2, j3, j4, j5, j6, j7⟩) | (go_split_ands; (repeat' apply And.intro); all_goals (first | with_reducible assumption | with_reducible exact keep_below (by with_reducible assumption) hb | with_reducible exact keep_cell hb (by with_reducible assumption)))))
  clear hK K
  try simp only [Act.put, List.setIfInBounds_toArray, List.set_cons_zero, List.set_cons_succ]
  refine wpAnyH_ready (rs := [6]) (by kernel_rfl) (by simp) ?_
  refine AllReadyH.cons (o := ?_) (by simp only [List.getElem?_toArray, List.getElem?_cons_succ, List.getElem?_cons_zero]; rfl) (fun K hK => ?_) AllReadyH.nil
  go_simp
  (go_at_call 17; (with_reducible refine (C1.out _ (by first | with_reducible assumption | exact And.left (by with_reducible assumption))).mono ?_); rintro e wa18 ⟨b19, B19, m19, d19, rfl, hw19, hb⟩; go_split_ands; have hBw : Below wa16.heap.size wa16 wa18 := keep_below (by with_reducible assumption) hb; have gw0 : wa18.cell? ⟨ad6_12, 0, none⟩ = some (.bool b10) := keep_cell hb (by with_reducible assumption); have gw1 : wa18.cell? ⟨ad6_12, 1, none⟩ = some (.slice B10 m10 d10) := keep_cell hb (by with_reducible assumption); have gw2 : wa18.cell? ⟨ad8_9, 0, none⟩ = some (.bool b6) := keep_cell hb (by with_reducible assumption); have gw3 : wa18.cell? ⟨ad8_9, 1, none⟩ = some (.slice B6 m6 d6) := keep_cell hb (by with_reducible assumption); have gw4 : wa18.cell? ⟨ad6_7, 0, none⟩ = some (.bool b4) := keep_cell hb (by with_reducible assumption); have gw5 : wa18.cell? ⟨ad6_7, 1, none⟩ = some (.slice B4 m4 d4) := keep_cell hb (by with_reducible assumption); have gw6 : wa18.cell? ⟨ad7_8, 0, none⟩ = some (.bool b5) := keep_cell hb (by with_reducible assumption); have gw7 : wa18.cell? ⟨ad7_8, 1, none⟩ = some (.slice B5 m5 d5) := keep_cell hb (by with_reducible assumption); (with_reducible have hw18 := hw18.below hb))
  refine hK.out _ _ ?_ (fun hHeld => ?_)
  · ((try dsimp only); (first | (with_reducible exact ⟨hb0, j0, j1, j2, j3, j4, j5, j6, j7⟩) | (go_split_ands; (repeat' apply And.intro); all_goals (first | with_reducible assumption | with_reducible exact keep_below (by with_reducible assumption) hb | with_reducible exact keep_cell hb (by with_reducible assumption)))))
  clear hK K
  try simp only [Act.put, List.setIfInBounds_toArray, List.set_cons_zero, List.set_cons_succ]
  refine wpAnyH_ready (rs := [7]) (by kernel_rfl) (by simp) ?_
  refine AllReadyH.cons (o := ?_) (by simp only [List.getElem?_toArray, List.getElem?_cons_succ, List.getElem?_cons_zero]; rfl) (fun K hK => ?_) AllReadyH.nil
  go_simp
  (go_at_call 17; (with_reducible refine (C2.out _ (by first | with_reducible assumption | exact And.left (by with_reducible assumption)) _ _ _ _ hw19).mono ?_); rintro e wa19 ⟨b20, B20, m20, d20, rfl, hw20, hb⟩; go_split_ands; have hBw : Below wa16.heap.size wa16 wa19 := keep_below (by with_reducible assumption) hb; have gw0 : wa19.cell? ⟨ad6_12, 0, none⟩ = some (.bool b10) := keep_cell hb (by with_reducible assumption); have gw1 : wa19.cell? ⟨ad6_12, 1, none⟩ = some (.slice B10 m10 d10) := keep_cell hb (by with_reducible assumption); have gw2 : wa19.cell? ⟨ad8_9, 0, none⟩ = some (.bool b6) := keep_cell hb (by with_reducible assumption); have gw3 : wa19.cell? ⟨ad8_9, 1, none⟩ = some (.slice B6 m6 d6) := keep_cell hb (by with_reducible assumption); have gw4 : wa19.cell? ⟨ad6_7, 0, none⟩ = some (.bool b4) := keep_cell hb (by with_reducible assumption); have gw5 : wa19.cell? ⟨ad6_7, 1, none⟩ = some (.slice B4 m4 d4) := keep_cell hb (by with_reducible assumption); have gw6 : wa19.cell? ⟨ad7_8, 0, none⟩ = some (.bool b5) := keep_cell hb (by with_reducible assumption); have gw7 : wa19.cell? ⟨ad7_8, 1, none⟩ = some (.slice B5 m5 d5) := keep_cell hb (by with_reducible assumption); (with_reducible have hw18 := hw18.below hb); (with_reducible have hw19 := hw19.below hb))
  refine hK.out _ _ ?_ (fun hHeld => ?_)
  · ((try dsimp only); (first | (with_reducible exact ⟨hb0, j0, j1, j2, j3, j4, j5, j6, j7⟩) | (go_split_ands; (repeat' apply And.intro); all_goals (first | with_reducible assumption | with_reducible exact keep_below (by with_reducible assumption) hb | with_reducible exact keep_cell hb (by with_reducible assumption)))))
  clear hK K
  try simp only [Act.put, List.setIfInBounds_toArray, List.set_cons_zero, List.set_cons_succ]
  refine wpAnyH_ready (rs := [8]) (by kernel_rfl) (by simp) ?_
  refine AllReadyH.cons (o := ?_) (by simp only [List.getElem?_toArray, List.getElem?_cons_succ, List.getElem?_cons_zero]; rfl) (fun K hK => ?_) AllReadyH.nil
  go_simp
  (go_at_call 22; (with_reducible refine (C3.out _ (by first | with_reducible assumption | exact And.left (by with_reducible assumption)) _ _ _ _ hw18 _ _ _ _ hw20).mono ?_); rintro e wa20 ⟨rfl, hb⟩; go_split_ands; have hBw : Below wa16.heap.size wa16 wa20 := keep_below (by with_reducible assumption) hb; have gw0 : wa20.cell? ⟨ad6_12, 0, none⟩ = some (.bool b10) := keep_cell hb (by with_reducible assumption); have gw1 : wa20.cell? ⟨ad6_12, 1, none⟩ = some (.slice B10 m10 d10) := keep_cell hb (by with_reducible assumption); have gw2 : wa20.cell? ⟨ad8_9, 0, none⟩ = some (.bool b6) := keep_cell hb (by with_reducible assumption); have gw3 : wa20.cell? ⟨ad8_9, 1, none⟩ = some (.slice B6 m6 d6) := keep_cell hb (by with_reducible assumption); have gw4 : wa20.cell? ⟨ad6_7, 0, none⟩ = some (.bool b4) := keep_cell hb (by with_reducible assumption); have gw5 : wa20.cell? ⟨ad6_7, 1, none⟩ = some (.slice B4 m4 d4) := keep_cell hb (by with_reducible assumption); have gw6 : wa20.cell? ⟨ad7_8, 0, none⟩ = some (.bool b5) := keep_cell hb (by with_reducible assumption); have gw7 : wa20.cell? ⟨ad7_8, 1, none⟩ = some (.slice B5 m5 d5) := keep_cell hb (by with_reducible assumption); (with_reducible have hw18 := hw18.below hb); (with_reducible have hw19 := hw19.below hb); (with_reducible have hw20 := hw20.below hb))
  refine hK.out _ _ ?_ (fun hHeld => ?_)
  · ((try dsimp only); (first | (with_reducible exact ⟨hb0, j0, j1, j2, j3, j4, j5, j6, j7⟩) | (go_split_ands; (repeat' apply And.intro); all_goals (first | with_reducible assumption | with_reducible exact keep_below (by with_reducible assumption) hb | with_reducible exact keep_cell hb (by with_reducible assumption)))))
  clear hK K
  try simp only [Act.put, List.setIfInBounds_toArray, List.set_cons_zero, List.set_cons_succ]
  refine wpAnyH_take (i := 9) (oi := ?_) (v := ?_) (by simp only [List.getElem?_toArray, List.getElem?_cons_succ, List.getElem?_cons_zero]; rfl) (by kernel_rfl) (by kernel_rfl) (by kernel_rfl) (fun _ _ _ h => h) (Or.inl ⟨by rfl, ?_⟩) (by with_reducible assumption) ?_
  rotate_left
  focus ((intro w hSw; (try dsimp only at hSw); go_simp); (try with_reducible rfl))
  try simp only [Act.put, List.setIfInBounds_toArray, List.set_cons_zero, List.set_cons_succ]
  refine wpAnyH_take (i := 10) (oi := ?_) (v := ?_) (by simp only [List.getElem?_toArray, List.getElem?_cons_succ, List.getElem?_cons_zero]; rfl) (by kernel_rfl) (by kernel_rfl) (by kernel_rfl) (fun _ _ _ h => h) (Or.inl ⟨by rfl, ?_⟩) (by with_reducible assumption) ?_
  rotate_left
  focus ((intro w hSw; (try dsimp only at hSw); go_simp); (try with_reducible rfl))
  try simp only [Act.put, List.setIfInBounds_toArray, List.set_cons_zero, List.set_cons_succ]
  refine wpAnyH_take (i := 11) (oi := ?_) (v := ?_) (by simp only [List.getElem?_toArray, List.getElem?_cons_succ, List.getElem?_cons_zero]; rfl) (by kernel_rfl) (by kernel_rfl) (by kernel_rfl) (fun _ _ _ h => h) (Or.inl ⟨by rfl, ?_⟩) (by with_reducible assumption) ?_
  rotate_left
  focus ((intro w hSw; (try dsimp only at hSw); go_simp); (try with_reducible rfl))
  try simp only [Act.put, List.setIfInBounds_toArray, List.set_cons_zero, List.set_cons_succ]
  refine wpAnyH_take (i := 12) (oi := ?_) (v := ?_) (by simp only [List.getElem?_toArray, List.getElem?_cons_succ, List.getElem?_cons_zero]; rfl) (by kernel_rfl) (by kernel_rfl) (by kernel_rfl) (fun _ _ _ h => h) (Or.inl ⟨by rfl, ?_⟩) (by with_reducible assumption) ?_
  rotate_left
  focus ((intro w hSw; (try dsimp only at hSw); go_simp); (try with_reducible rfl))
  try simp only [Act.put, List.setIfInBounds_toArray, List.set_cons_zero, List.set_cons_succ]
  refine wpAnyH_take (i := 14) (oi := ?_) (v := ?_) (by simp only [List.getElem?_toArray, List.getElem?_cons_succ, List.getElem?_cons_zero]; rfl) (by kernel_rfl) (by kernel_rfl) (by kernel_rfl) (fun _ _ _ h => h) (Or.inl ⟨by rfl, ?_⟩) (by with_reducible assumption) ?_
  rotate_left
  focus ((intro w hSw; (try dsimp only at hSw); go_simp); (try with_reducible rfl))
  try simp only [Act.put, List.setIfInBounds_toArray, List.set_cons_zero, List.set_cons_succ]
  refine wpAnyH_take (i := 15) (oi := ?_) (v := ?_) (by simp only [List.getElem?_toArray, List.getElem?_cons_succ, List.getElem?_cons_zero]; rfl) (by kernel_rfl) (by kernel_rfl) (by kernel_rfl) (fun _ _ _ h => h) (Or.inl ⟨by rfl, ?_⟩) (by with_reducible assumption) ?_
  rotate_left
  focus ((intro w hSw; (try dsimp only at hSw); go_simp); (try with_reducible rfl))
  try simp only [Act.put, List.setIfInBounds_toArray, List.set_cons_zero, List.set_cons_succ]
  refine wpAnyH_take (i := 17) (oi := ?_) (v := ?_) (by simp only [List.getElem?_toArray, List.getElem?_cons_succ, List.getElem?_cons_zero]; rfl) (by kernel_rfl) (by kernel_rfl) (by kernel_rfl) (fun _ _ _ h => h) (Or.inl ⟨by rfl, ?_⟩) (by with_reducible assumption) ?_
  rotate_left
  focus ((intro w hSw; (try dsimp only at hSw); go_simp); (try with_reducible rfl))
  try simp only [Act.put, List.setIfInBounds_toArray, List.set_cons_zero, List.set_cons_succ]
  refine wpAnyH_take (i := 18) (oi := ?_) (v := ?_) (by simp only [List.getElem?_toArray, List.getElem?_cons_succ, List.getElem?_cons_zero]; rfl) (by kernel_rfl) (by kernel_rfl) (by kernel_rfl) (fun _ _ _ h => h) (Or.inl ⟨by rfl, ?_⟩) (by with_reducible assumption) ?_
  rotate_left
  focus ((intro w hSw; (try dsimp only at hSw); go_simp); (try with_reducible rfl))
  try simp only [Act.put, List.setIfInBounds_toArray, List.set_cons_zero, List.set_cons_succ]
  refine wpAnyH_ready (rs := [13]) (by kernel_rfl) (by simp) ?_
  refine AllReadyH.cons (o := ?_) (by simp only [List.getElem?_toArray, List.getElem?_cons_succ, List.getElem?_cons_zero]; rfl) (fun K hK => ?_) AllReadyH.nil
  go_simp
  (go_at_call 20; (with_reducible refine (C4.out _ (by first | with_reducible assumption | exact And.left (by with_reducible assumption))).mono ?_); rintro e wa21 ⟨b21, B21, m21, d21, rfl, hw21, hb⟩; go_split_ands; have hBw : Below wa16.heap.size wa16 wa21 := keep_below (by with_reducible assumption) hb; have gw0 : wa21.cell? ⟨ad6_12, 0, none⟩ = some (.bool b10) := keep_cell hb (by with_reducible assumption); have gw1 : wa21.cell? ⟨ad6_12, 1, none⟩ = some (.slice B10 m10 d10) := keep_cell hb (by with_reducible assumption); have gw2 : wa21.cell? ⟨ad8_9, 0, none⟩ = some (.bool b6) := keep_cell hb (by with_reducible assumption); have gw3 : wa21.cell? ⟨ad8_9, 1, none⟩ = some (.slice B6 m6 d6) := keep_cell hb (by with_reducible assumption); have gw4 : wa21.cell? ⟨ad6_7, 0, none⟩ = some (.bool b4) := keep_cell hb (by with_reducible assumption); have gw5 : wa21.cell? ⟨ad6_7, 1, none⟩ = some (.slice B4 m4 d4) := keep_cell hb (by with_reducible assumption); have gw6 : wa21.cell? ⟨ad7_8, 0, none⟩ = some (.bool b5) := keep_cell hb (by with_reducible assumption); have gw7 : wa21.cell? ⟨ad7_8, 1, none⟩ = some (.slice B5 m5 d5) := keep_cell hb (by with_reducible assumption); (with_reducible have hw18 := hw18.below hb); (with_reducible have hw19 := hw19.below hb); (with_reducible have hw20 := hw20.below hb))
  refine hK.out _ _ ?_ (fun hHeld => ?_)
  · ((try dsimp only); (first | (with_reducible exact ⟨hb0, j0, j1, j2, j3, j4, j5, j6, j7⟩) | (go_split_ands; (repeat' apply And.intro); all_goals (first | with_reducible assumption | with_reducible exact keep_below (by with_reducible assumption) hb | with_reducible exact keep_cell hb (by with_reducible assumption)))))
  clear hK K
  try simp only [Act.put, List.setIfInBounds_toArray, List.set_cons_zero, List.set_cons_succ]
  refine wpAnyH_ready (rs := [16]) (by kernel_rfl) (by simp) ?_
  refine AllReadyH.cons (o := ?_) (by simp only [List.getElem?_toArray, List.getElem?_cons_succ, List.getElem?_cons_zero]; rfl) (fun K hK => ?_) AllReadyH.nil
  go_simp
  (go_at_call 20; (with_reducible refine (C5.out _ (by first | with_reducible assumption | exact And.left (by with_reducible assumption))).mono ?_); rintro e wa22 ⟨b22, B22, m22, d22, rfl, hw22, hb⟩; go_split_ands; have hBw : Below wa16.heap.size wa16 wa22 := keep_below (by with_reducible assumption) hb; have gw0 : wa22.cell? ⟨ad6_12, 0, none⟩ = some (.bool b10) := keep_cell hb (by with_reducible assumption); have gw1 : wa22.cell? ⟨ad6_12, 1, none⟩ = some (.slice B10 m10 d10) := keep_cell hb (by with_reducible assumption); have gw2 : wa22.cell? ⟨ad8_9, 0, none⟩ = some (.bool b6) := keep_cell hb (by with_reducible assumption); have gw3 : wa22.cell? ⟨ad8_9, 1, none⟩ = some (.slice B6 m6 d6) := keep_cell hb (by with_reducible assumption); have gw4 : wa22.cell? ⟨ad6_7, 0, none⟩ = some (.bool b4) := keep_cell hb (by with_reducible assumption); have gw5 : wa22.cell? ⟨ad6_7, 1, none⟩ = some (.slice B4 m4 d4) := keep_cell hb (by with_reducible assumption); have gw6 : wa22.cell? ⟨ad7_8, 0, none⟩ = some (.bool b5) := keep_cell hb (by with_reducible assumption); have gw7 : wa22.cell? ⟨ad7_8, 1, none⟩ = some (.slice B5 m5 d5) := keep_cell hb (by with_reducible assumption); (with_reducible have hw18 := hw18.below hb); (with_reducible have hw19 := hw19.below hb); (with_reducible have hw20 := hw20.below hb); (with_reducible have hw21 := hw21.below hb))
  refine hK.out _ _ ?_ (fun hHeld => ?_)
  · ((try dsimp only); (first | (with_reducible exact ⟨hb0, j0, j1, j2, j3, j4, j5, j6, j7⟩) | (go_split_ands; (repeat' apply And.intro); all_goals (first | with_reducible assumption | with_reducible exact keep_below (by with_reducible assumption) hb | with_reducible exact keep_cell hb (by with_reducible assumption)))))
  clear hK K
  try simp only [Act.put, List.setIfInBounds_toArray, List.set_cons_zero, List.set_cons_succ]
  refine wpAnyH_ready (rs := [19]) (by kernel_rfl) (by simp) ?_
  refine AllReadyH.cons (o := ?_) (by simp only [List.getElem?_toArray, List.getElem?_cons_succ, List.getElem?_cons_zero]; rfl) (fun K hK => ?_) AllReadyH.nil
  go_simp
  (go_at_call 20; (with_reducible refine (C6.out _ (by first | with_reducible assumption | exact And.left (by with_reducible assumption))).mono ?_); rintro e wa23 ⟨b23, B23, m23, d23, rfl, hw23, hb⟩; go_split_ands; have hBw : Below wa16.heap.size wa16 wa23 := keep_below (by with_reducible assumption) hb; have gw0 : wa23.cell? ⟨ad6_12, 0, none⟩ = some (.bool b10) := keep_cell hb (by with_reducible assumption); have gw1 : wa23.cell? ⟨ad6_12, 1, none⟩ = some (.slice B10 m10 d10) := keep_cell hb (by with_reducible assumption); have gw2 : wa23.cell? ⟨ad8_9, 0, none⟩ = some (.bool b6) := keep_cell hb (by with_reducible assumption); have gw3 : wa23.cell? ⟨ad8_9, 1, none⟩ = some (.slice B6 m6 d6) := keep_cell hb (by with_reducible assumption); have gw4 : wa23.cell? ⟨ad6_7, 0, none⟩ = some (.bool b4) := keep_cell hb (by with_reducible assumption); have gw5 : wa23.cell? ⟨ad6_7, 1, none⟩ = some (.slice B4 m4 d4) := keep_cell hb (by with_reducible assumption); have gw6 : wa23.cell? ⟨ad7_8, 0, none⟩ = some (.bool b5) := keep_cell hb (by with_reducible assumption); have gw7 : wa23.cell? ⟨ad7_8, 1, none⟩ = some (.slice B5 m5 d5) := keep_cell hb (by with_reducible assumption); (with_reducible have hw18 := hw18.below hb); (with_reducible have hw19 := hw19.below hb); (with_reducible have hw20 := hw20.below hb); (with_reducible have hw21 := hw21.below hb); (with_reducible have hw22 := hw22.below hb))
  refine hK.out _ _ ?_ (fun hHeld => ?_)
  · ((try dsimp only); (first | (with_reducible exact ⟨hb0, j0, j1, j2, j3, j4, j5, j6, j7⟩) | (go_split_ands; (repeat' apply And.intro); all_goals (first | with_reducible assumption | with_reducible exact keep_below (by with_reducible assumption) hb | with_reducible exact keep_cell hb (by with_reducible assumption)))))
  clear hK K
  try simp only [Act.put, List.setIfInBounds_toArray, List.set_cons_zero, List.set_cons_succ]
  refine wpAnyH_ready (rs := [20]) (by kernel_rfl) (by simp) ?_
  refine AllReadyH.cons (o := ?_) (by simp only [List.getElem?_toArray, List.getElem?_cons_succ, List.getElem?_cons_zero]; rfl) (fun K hK => ?_) AllReadyH.nil
  go_simp
  (go_at_call 17; (with_reducible refine (C7.out _ (by first | with_reducible assumption | exact And.left (by with_reducible assumption)) _ _ _ _ hw22 _ _ _ _ hw23).mono ?_); rintro e wa24 ⟨b24, B24, m24, d24, rfl, hw24, hb⟩; go_split_ands; have hBw : Below wa16.heap.size wa16 wa24 := keep_below (by with_reducible assumption) hb; have gw0 : wa24.cell? ⟨ad6_12, 0, none⟩ = some (.bool b10) := keep_cell hb (by with_reducible assumption); have gw1 : wa24.cell? ⟨ad6_12, 1, none⟩ = some (.slice B10 m10 d10) := keep_cell hb (by with_reducible assumption); have gw2 : wa24.cell? ⟨ad8_9, 0, none⟩ = some (.bool b6) := keep_cell hb (by with_reducible assumption); have gw3 : wa24.cell? ⟨ad8_9, 1, none⟩ = some (.slice B6 m6 d6) := keep_cell hb (by with_reducible assumption); have gw4 : wa24.cell? ⟨ad6_7, 0, none⟩ = some (.bool b4) := keep_cell hb (by with_reducible assumption); have gw5 : wa24.cell? ⟨ad6_7, 1, none⟩ = some (.slice B4 m4 d4) := keep_cell hb (by with_reducible assumption); have gw6 : wa24.cell? ⟨ad7_8, 0, none⟩ = some (.bool b5) := keep_cell hb (by with_reducible assumption); have gw7 : wa24.cell? ⟨ad7_8, 1, none⟩ = some (.slice B5 m5 d5) := keep_cell hb (by with_reducible assumption); (with_reducible have hw18 := hw18.below hb); (with_reducible have hw19 := hw19.below hb); (with_reducible have hw20 := hw20.below hb); (with_reducible have hw21 := hw21.below hb); (with_reducible have hw22 := hw22.below hb); (with_reducible have hw23 := hw23.below hb))
  refine hK.out _ _ ?_ (fun hHeld => ?_)
  · ((try dsimp only); (first | (with_reducible exact ⟨hb0, j0, j1, j2, j3, j4, j5, j6, j7⟩) | (go_split_ands; (repeat' apply And.intro); all_goals (first | with_reducible assumption | with_reducible exact keep_below (by with_reducible assumption) hb | with_reducible exact keep_cell hb (by with_reducible assumption)))))
  clear hK K
  try simp only [Act.put, List.setIfInBounds_toArray, List.set_cons_zero, List.set_cons_succ]
  refine wpAnyH_ready (rs := [21]) (by kernel_rfl) (by simp) ?_
  refine AllReadyH.cons (o := ?_) (by simp only [List.getElem?_toArray, List.getElem?_cons_succ, List.getElem?_cons_zero]; rfl) (fun K hK => ?_) AllReadyH.nil
  go_simp
  (go_at_call 22; (with_reducible refine (C8.out _ (by first | with_reducible assumption | exact And.left (by with_reducible assumption)) _ _ _ _ hw21 _ _ _ _ hw24).mono ?_); rintro e wa25 ⟨rfl, hb⟩; go_split_ands; have hBw : Below wa16.heap.size wa16 wa25 := keep_below (by with_reducible assumption) hb; have gw0 : wa25.cell? ⟨ad6_12, 0, none⟩ = some (.bool b10) := keep_cell hb (by with_reducible assumption); have gw1 : wa25.cell? ⟨ad6_12, 1, none⟩ = some (.slice B10 m10 d10) := keep_cell hb (by with_reducible assumption); have gw2 : wa25.cell? ⟨ad8_9, 0, none⟩ = some (.bool b6) := keep_cell hb (by with_reducible assumption); have gw3 : wa25.cell? ⟨ad8_9, 1, none⟩ = some (.slice B6 m6 d6) := keep_cell hb (by with_reducible assumption); have gw4 : wa25.cell? ⟨ad6_7, 0, none⟩ = some (.bool b4) := keep_cell hb (by with_reducible assumption); have gw5 : wa25.cell? ⟨ad6_7, 1, none⟩ = some (.slice B4 m4 d4) := keep_cell hb (by with_reducible assumption); have gw6 : wa25.cell? ⟨ad7_8, 0, none⟩ = some (.bool b5) := keep_cell hb (by with_reducible assumption); have gw7 : wa25.cell? ⟨ad7_8, 1, none⟩ = some (.slice B5 m5 d5) := keep_cell hb (by with_reducible assumption); (with_reducible have hw18 := hw18.below hb); (with_reducible have hw19 := hw19.below hb); (with_reducible have hw20 := hw20.below hb); (with_reducible have hw21 := hw21.below hb); (with_reducible have hw22 := hw22.below hb); (with_reducible have hw23 := hw23.below hb); (with_reducible have hw24 := hw24.below hb))
  refine hK.out _ _ ?_ (fun hHeld => ?_)
  · ((try dsimp only); (first | (with_reducible exact ⟨hb0, j0, j1, j2, j3, j4, j5, j6, j7⟩) | (go_split_ands; (repeat' apply And.intro); all_goals (first | with_reducible assumption | with_reducible exact keep_below (by with_reducible assumption) hb | with_reducible exact keep_cell hb (by with_reducible assumption)))))
  clear hK K
  try simp only [Act.put, List.setIfInBounds_toArray, List.set_cons_zero, List.set_cons_succ]
  refine wpAnyH_take (i := 22) (oi := ?_) (v := ?_) (by simp only [List.getElem?_toArray, List.getElem?_cons_succ, List.getElem?_cons_zero]; rfl) (by kernel_rfl) (by kernel_rfl) (by kernel_rfl) (fun _ _ _ h => h) (Or.inl ⟨by rfl, ?_⟩) (by with_reducible assumption) ?_
  rotate_left
  focus ((intro w hSw; (try dsimp only at hSw); go_simp); (try with_reducible rfl))
  try simp only [Act.put, List.setIfInBounds_toArray, List.set_cons_zero, List.set_cons_succ]
  refine wpAnyH_take (i := 23) (oi := ?_) (v := ?_) (by simp only [List.getElem?_toArray, List.getElem?_cons_succ, List.getElem?_cons_zero]; rfl) (by kernel_rfl) (by kernel_rfl) (by kernel_rfl) (fun _ _ _ h => h) (Or.inl ⟨by rfl, ?_⟩) (by with_reducible assumption) ?_
  rotate_left
  focus ((intro w hSw; (try dsimp only at hSw); go_simp); (try with_reducible rfl))
  try simp only [Act.put, List.setIfInBounds_toArray, List.set_cons_zero, List.set_cons_succ]
  refine wpAnyH_take (i := 24) (oi := ?_) (v := ?_) (by simp only [List.getElem?_toArray, List.getElem?_cons_succ, List.getElem?_cons_zero]; rfl) (by kernel_rfl) (by kernel_rfl) (by kernel_rfl) (fun _ _ _ h => h) (Or.inl ⟨by rfl, ?_⟩) (by with_reducible assumption) ?_
  rotate_left
  focus ((intro w hSw; (try dsimp only at hSw); go_simp); (try with_reducible rfl))
  try simp only [Act.put, List.setIfInBounds_toArray, List.set_cons_zero, List.set_cons_succ]
  refine wpAnyH_take (i := 25) (oi := ?_) (v := ?_) (by simp only [List.getElem?_toArray, List.getElem?_cons_succ, List.getElem?_cons_zero]; rfl) (by kernel_rfl) (by kernel_rfl) (by kernel_rfl) (fun _ _ _ h => h) (Or.inl ⟨by rfl, ?_⟩) (by with_reducible assumption) ?_
  rotate_left
  focus ((intro w hSw; (try dsimp only at hSw); go_simp); (try with_reducible rfl))
  try simp only [Act.put, List.setIfInBounds_toArray, List.set_cons_zero, List.set_cons_succ]
  refine wpAnyH_take (i := 26) (oi := ?_) (v := ?_) (by simp only [List.getElem?_toArray, List.getElem?_cons_succ, List.getElem?_cons_zero]; rfl) (by kernel_rfl) (by kernel_rfl) (by kernel_rfl) (fun _ _ _ h => h) (Or.inl ⟨by rfl, ?_⟩) (by with_reducible assumption) ?_
  rotate_left
  focus ((intro w hSw; (try dsimp only at hSw); go_simp); (try with_reducible rfl))
  try simp only [Act.put, List.setIfInBounds_toArray, List.set_cons_zero, List.set_cons_succ]
  refine wpAnyH_take (i := 28) (oi := ?_) (v := ?_) (by simp only [List.getElem?_toArray, List.getElem?_cons_succ, List.getElem?_cons_zero]; rfl) (by kernel_rfl) (by kernel_rfl) (by kernel_rfl) (fun _ _ _ h => h) (Or.inl ⟨by rfl, ?_⟩) (by with_reducible assumption) ?_
  rotate_left
  focus ((intro w hSw; (try dsimp only at hSw); go_simp); (try with_reducible rfl))
  try simp only [Act.put, List.setIfInBounds_toArray, List.set_cons_zero, List.set_cons_succ]
  refine wpAnyH_ready (rs := [27]) (by kernel_rfl) (by simp) ?_
  refine AllReadyH.cons (o := ?_) (by simp only [List.getElem?_toArray, List.getElem?_cons_succ, List.getElem?_cons_zero]; rfl) (fun K hK => ?_) AllReadyH.nil
  go_simp
  (go_at_call 19; (with_reducible refine (C9.out _ (by first | with_reducible assumption | exact And.left (by with_reducible assumption))).mono ?_); rintro e wa26 ⟨b25, B25, m25, d25, rfl, hw25, hb⟩; go_split_ands; have hBw : Below wa16.heap.size wa16 wa26 := keep_below (by with_reducible assumption) hb; have gw0 : wa26.cell? ⟨ad6_12, 0, none⟩ = some (.bool b10) := keep_cell hb (by with_reducible assumption); have gw1 : wa26.cell? ⟨ad6_12, 1, none⟩ = some (.slice B10 m10 d10) := keep_cell hb (by with_reducible assumption); have gw2 : wa26.cell? ⟨ad8_9, 0, none⟩ = some (.bool b6) := keep_cell hb (by with_reducible assumption); have gw3 : wa26.cell? ⟨ad8_9, 1, none⟩ = some (.slice B6 m6 d6) := keep_cell hb (by with_reducible assumption); have gw4 : wa26.cell? ⟨ad6_7, 0, none⟩ = some (.bool b4) := keep_cell hb (by with_reducible assumption); have gw5 : wa26.cell? ⟨ad6_7, 1, none⟩ = some (.slice B4 m4 d4) := keep_cell hb (by with_reducible assumption); have gw6 : wa26.cell? ⟨ad7_8, 0, none⟩ = some (.bool b5) := keep_cell hb (by with_reducible assumption); have gw7 : wa26.cell? ⟨ad7_8, 1, none⟩ = some (.slice B5 m5 d5) := keep_cell hb (by with_reducible assumption); (with_reducible have hw18 := hw18.below hb); (with_reducible have hw19 := hw19.below hb); (with_reducible have hw20 := hw20.below hb); (with_reducible have hw21 := hw21.below hb); (with_reducible have hw22 := hw22.below hb); (with_reducible have hw23 := hw23.below hb); (with_reducible have hw24 := hw24.below hb))
  refine hK.out _ _ ?_ (fun hHeld => ?_)
  · ((try dsimp only); (first | (with_reducible exact ⟨hb0, j0, j1, j2, j3, j4, j5, j6, j7⟩) | (go_split_ands; (repeat' apply And.intro); all_goals (first | with_reducible assumption | with_reducible exact keep_below (by with_reducible assumption) hb | with_reducible exact keep_cell hb (by with_reducible assumption)))))
  clear hK K
  try simp only [Act.put, List.setIfInBounds_toArray, List.set_cons_zero, List.set_cons_succ]
  refine wpAnyH_ready (rs := [29]) (by kernel_rfl) (by simp) ?_
  refine AllReadyH.cons (o := ?_) (by simp only [List.getElem?_toArray, List.getElem?_cons_succ, List.getElem?_cons_zero]; rfl) (fun K hK => ?_) AllReadyH.nil
  go_simp
  (go_at_call 22; (with_reducible refine (C10.out _ (by first | with_reducible assumption | exact And.left (by with_reducible assumption)) _ _ _ _ hw25).mono ?_); rintro e wa27 ⟨rfl, hb⟩; go_split_ands; have hBw : Below wa16.heap.size wa16 wa27 := keep_below (by with_reducible assumption) hb; have gw0 : wa27.cell? ⟨ad6_12, 0, none⟩ = some (.bool b10) := keep_cell hb (by with_reducible assumption); have gw1 : wa27.cell? ⟨ad6_12, 1, none⟩ = some (.slice B10 m10 d10) := keep_cell hb (by with_reducible assumption); have gw2 : wa27.cell? ⟨ad8_9, 0, none⟩ = some (.bool b6) := keep_cell hb (by with_reducible assumption); have gw3 : wa27.cell? ⟨ad8_9, 1, none⟩ = some (.slice B6 m6 d6) := keep_cell hb (by with_reducible assumption); have gw4 : wa27.cell? ⟨ad6_7, 0, none⟩ = some (.bool b4) := keep_cell hb (by with_reducible assumption); have gw5 : wa27.cell? ⟨ad6_7, 1, none⟩ = some (.slice B4 m4 d4) := keep_cell hb (by with_reducible assumption); have gw6 : wa27.cell? ⟨ad7_8, 0, none⟩ = some (.bool b5) := keep_cell hb (by with_reducible assumption); have gw7 : wa27.cell? ⟨ad7_8, 1, none⟩ = some (.slice B5 m5 d5) := keep_cell hb (by with_reducible assumption); (with_reducible have hw18 := hw18.below hb); (with_reducible have hw19 := hw19.below hb); (with_reducible have hw20 := hw20.below hb); (with_reducible have hw21 := hw21.below hb); (with_reducible have hw22 := hw22.below hb); (with_reducible have hw23 := hw23.below hb); (with_reducible have hw24 := hw24.below hb); (with_reducible have hw25 := hw25.below hb))
  refine hK.out _ _ ?_ (fun hHeld => ?_)
  · ((try dsimp only); (first | (with_reducible exact ⟨hb0, j0, j1, j2, j3, j4, j5, j6, j7⟩) | (go_split_ands; (repeat' apply And.intro); all_goals (first | with_reducible assumption | with_reducible exact keep_below (by with_reducible assumption) hb | with_reducible exact keep_cell hb (by with_reducible assumption)))))
  clear hK K
  try simp only [Act.put, List.setIfInBounds_toArray, List.set_cons_zero, List.set_cons_succ]
  refine wpAnyH_take (i := 30) (oi := ?_) (v := ?_) (by simp only [List.getElem?_toArray, List.getElem?_cons_succ, List.getElem?_cons_zero]; rfl) (by kernel_rfl) (by kernel_rfl) (by kernel_rfl) (fun _ _ _ h => h) (Or.inl ⟨by rfl, ?_⟩) (by with_reducible assumption) ?_
  rotate_left
  focus ((intro w hSw; (try dsimp only at hSw); go_simp); (try with_reducible rfl))
  try simp only [Act.put, List.setIfInBounds_toArray, List.set_cons_zero, List.set_cons_succ]
  refine wpAnyH_take (i := 31) (oi := ?_) (v := ?_) (by simp only [List.getElem?_toArray, List.getElem?_cons_succ, List.getElem?_cons_zero]; rfl) (by kernel_rfl) (by kernel_rfl) (by kernel_rfl) (fun _ _ _ h => h) (Or.inl ⟨by rfl, ?_⟩) (by with_reducible assumption) ?_
  rotate_left
  focus ((intro w hSw; (try dsimp only at hSw); go_simp); (try with_reducible rfl))
  try simp only [Act.put, List.setIfInBounds_toArray, List.set_cons_zero, List.set_cons_succ]
  refine wpAnyH_take (i := 32) (oi := ?_) (v := ?_) (by simp only [List.getElem?_toArray, List.getElem?_cons_succ, List.getElem?_cons_zero]; rfl) (by kernel_rfl) (by kernel_rfl) (by kernel_rfl) (fun _ _ _ h => h) (Or.inl ⟨by rfl, ?_⟩) (by with_reducible assumption) ?_
  rotate_left
  focus ((intro w hSw; (try dsimp only at hSw); go_simp); (try with_reducible rfl))
  try simp only [Act.put, List.setIfInBounds_toArray, List.set_cons_zero, List.set_cons_succ]
  refine wpAnyH_done (by kernel_rfl) ?_ _
  refine NoPanic.normal ?_
  clear hb
  have hB := keep_below hB hBw
  have g1 := keep_cell hBw g1
  have e1 := keep_cell hBw e1
  have g2 := keep_cell hBw g2
  have e2 := keep_cell hBw e2
  have g3 := keep_cell hBw g3
  have e3 := keep_cell hBw e3
  have g7 := keep_cell hBw g7
  have e7 := keep_cell hBw e7
  have g8 := keep_cell hBw g8
  have e8 := keep_cell hBw e8
  have g9 := keep_cell hBw g9
  have e9 := keep_cell hBw e9
  have HN4 := Lib.hid (HN4.out.below hBw)
  have HN5 := Lib.hid (HN5.out.below hBw)
  have HN6 := Lib.hid (HN6.out.below hBw)
  have g12 := keep_cell hBw g12
  have e12 := keep_cell hBw e12
  have g13 := keep_cell hBw g13
  have e13 := keep_cell hBw e13
  have HN10 := Lib.hid (HN10.out.below hBw)
  have HN11 := Lib.hid (HN11.out.below hBw)
  have HN14 := Lib.hid (HN14.out.below hBw)
  have HN15 := Lib.hid (HN15.out.below hBw)
  have HN16 := Lib.hid (HN16.out.below hBw)
  have HN17 := Lib.hid (HN17.out.below hBw)
  have HN18 := Lib.hid hw18
  have HN19 := Lib.hid hw19
  have HN20 := Lib.hid hw20
  have HN21 := Lib.hid hw21
  have HN22 := Lib.hid hw22
  have HN23 := Lib.hid hw23
  have HN24 := Lib.hid hw24
  have HN25 := Lib.hid hw25
  clear hb0 hBw gw0 gw1 gw2 gw3 gw4 gw5 gw6 gw7 hw18 hw19 hw20 hw21 hw22 hw23 hw24 hw25
  clear j0
  clear j1
  clear j2
  clear j3
  clear j4
  clear j5
  clear j6
  clear j7
  clear C0 C1 C2 C3 C4 C5 C6 C7 C8 C9 C10
  go_wp2
  go_ret
  exact ⟨by first | rfl | simp, hB⟩
end Go.Proofs.Ytnfednkphcapnaa
