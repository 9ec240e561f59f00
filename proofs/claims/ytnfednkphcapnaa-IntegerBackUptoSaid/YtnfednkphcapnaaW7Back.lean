/-
  The walk of the law IntegerBack. Conditions: the words that came in are at most 1048576; integer's functions do as IntC says.
-/
import Derived.Test.YtnfednkphcapnaaRows
import Derived.Test.YtnfednkphcapnaaBunB
import Derived.WalkKit
import Derived.Lib.Hide
import Derived.Outline
import Derived.IntWalk
import Derived.Deep.RegionHeld3
namespace Go.Proofs.Ytnfednkphcapnaa
open Go Go.RowKit
set_option maxRecDepth 100000
set_option linter.unusedVariables false
set_option linter.unusedSimpArgs false
set_option maxHeartbeats 16000000 in
theorem integerBack_no {T : World → Prop} (hTb : ∀ w w', T w → Below w.heap.size w w' → T w') (IC : IntC T) (s0 : Bool) (A0 : Option Addr) (n0 c0 : Nat) (l0 : List Nat) (s1 : Bool) (A1 : Option Addr) (n1 c1 : Nat) (l1 : List Nat) (w : World) (h0 : ArgWords w A0 n0 c0 l0) (h1 : ArgWords w A1 n1 c1 l1) (hy : zOf s1 l1 = 0) (hT : T w) :
    Calls Try.prog 8 #[.agg #[.bool s0, .slice A0 n0 c0], .agg #[.bool s1, .slice A1 n1 c1]] w fun e w' => e = .returned (.bool true) ∧ Below w.heap.size w w' := by
  have HAW := Lib.hid (fun w' (hb : Below w.heap.size w w') => law7_awake hTb IC w' (hTb w w' hT hb))
  have HIC := Lib.hid IC
  have HT := Lib.hid (fun w' (hb : Below w.heap.size w w') => hTb w w' hT hb)
  obtain ⟨K, hK⟩ : ∃ K, 1048576 = K := ⟨_, rfl⟩
  have hKK : K ≤ 1048576 := by omega
  have HM0 := Lib.hid (fun w' (hb : Below w.heap.size w w') => law7_make hTb IC s0 A0 n0 c0 l0 w' ⟨(h0.reads.below hb).more hb.size, h0.dgs, h0.fits, h0.small⟩ (hTb w w' hT hb))
  have S0 : Sz 1048576 (zOf s0 l0).natAbs := by rw [zOf_abs]; exact arg_sz h0
  rw [hK] at S0
  obtain ⟨x, hz0⟩ : ∃ x, zOf s0 l0 = x := ⟨_, rfl⟩
  rw [hz0] at HM0 S0
  have HS0 := Lib.hid S0
  have HM1 := Lib.hid (fun w' (hb : Below w.heap.size w w') => law7_make hTb IC s1 A1 n1 c1 l1 w' ⟨(h1.reads.below hb).more hb.size, h1.dgs, h1.fits, h1.small⟩ (hTb w w' hT hb))
  have S1 : Sz 1048576 (zOf s1 l1).natAbs := by rw [zOf_abs]; exact arg_sz h1
  rw [hK] at S1
  obtain ⟨y, hz1⟩ : ∃ x, zOf s1 l1 = x := ⟨_, rfl⟩
  rw [hz1] at HM1 S1 hy
  have HS1 := Lib.hid S1
  have Hhy := Lib.hid hy
  clear IC hT h0 hz0 S0 h1 hz1 S1 hy hK
  go_enter Try.func8, Try.ntmps8
  have hB := Below.refl w.heap.size w
  obtain ⟨bx1, bx2, bx3, bz⟩ := box2 w 24 24 #[.bool s0, .slice A0 n0 c0] #[.bool s1, .slice A1 n1 c1]
  have hB := keep_below hB bx1
  have g1 : ((w.alloc (.cells #[.bool s0, .slice A0 n0 c0] 24)).alloc (.cells #[.bool s1, .slice A1 n1 c1] 24)).cell? ⟨w.heap.size, 0, none⟩ = some (.bool s0) := bx2.cell 0
  have e1 : ((w.alloc (.cells #[.bool s0, .slice A0 n0 c0] 24)).alloc (.cells #[.bool s1, .slice A1 n1 c1] 24)).cell? ⟨w.heap.size, 1, none⟩ = some (.slice A0 n0 c0) := bx2.cell 1
  have g2 : ((w.alloc (.cells #[.bool s0, .slice A0 n0 c0] 24)).alloc (.cells #[.bool s1, .slice A1 n1 c1] 24)).cell? ⟨w.heap.size + 1, 0, none⟩ = some (.bool s1) := bx3.cell 0
  have e2 : ((w.alloc (.cells #[.bool s0, .slice A0 n0 c0] 24)).alloc (.cells #[.bool s1, .slice A1 n1 c1] 24)).cell? ⟨w.heap.size + 1, 1, none⟩ = some (.slice A1 n1 c1) := bx3.cell 1
  clear bx1 bx2 bx3 bz
  go_wp2_with fail
  generalize (w.alloc (.cells #[.bool s0, .slice A0 n0 c0] 24)).alloc (.cells #[.bool s1, .slice A1 n1 c1] 24) = W1 at *
  (with_reducible refine (HAW.out _ hB).mono ?_)
  rintro e wc2 ⟨rfl, hb⟩
  have hB := keep_below hB hb
  have g1 := keep_cell hb g1
  have e1 := keep_cell hb e1
  have g2 := keep_cell hb g2
  have e2 := keep_cell hb e2
  clear hb 
  go_wp2_with fail
  have HZ3 : Hid (Sz (K) (x).natAbs) := HS0.out
  have C0 := Lib.hid (fun w' (h : Below wc2.heap.size wc2 w') => HM0.out _ (keep_below hB h))
  have HZ4 : Hid (Sz (K) (y).natAbs) := HS1.out
  have C1 := Lib.hid (fun w' (h : Below wc2.heap.size wc2 w') => HM1.out _ (keep_below hB h))
  have G0 := Lib.hid (fun w' (h : Below wc2.heap.size wc2 w') => (⟨keep_cell h g1, keep_cell h e1⟩ : w'.cell? ⟨w.heap.size, 0, none⟩ = some (.bool s0) ∧ w'.cell? ⟨w.heap.size, 1, none⟩ = some (.slice A0 n0 c0)))
  have G1 := Lib.hid (fun w' (h : Below wc2.heap.size wc2 w') => (⟨keep_cell h g2, keep_cell h e2⟩ : w'.cell? ⟨w.heap.size + 1, 0, none⟩ = some (.bool s1) ∧ w'.cell? ⟨w.heap.size + 1, 1, none⟩ = some (.slice A1 n1 c1)))
  refine wp_region_noPanic ?_
  refine wp_region_held_drew (S := (fun w' => Below wc2.heap.size wc2 w')) (by kernel_rfl) ?_ (fun hHeld => ?_)
  · exact (Below.refl _ wc2).drew
  refine wpAnyH_take (i := 0) (oi := ?_) (v := ?_) (by simp only [List.getElem?_toArray, List.getElem?_cons_succ, List.getElem?_cons_zero]; rfl) (by kernel_rfl) (by kernel_rfl) (by kernel_rfl) (fun _ _ _ h => h) (Or.inl ⟨by rfl, ?_⟩) (by with_reducible assumption) ?_
  rotate_left
  focus ((intro wz hSw; (try dsimp only at hSw); obtain ⟨z0, z1⟩ := G0.out wz hSw; go_simp); (try with_reducible rfl))
  try simp only [Act.put, List.setIfInBounds_toArray, List.set_cons_zero, List.set_cons_succ]
  refine wpAnyH_take (i := 2) (oi := ?_) (v := ?_) (by simp only [List.getElem?_toArray, List.getElem?_cons_succ, List.getElem?_cons_zero]; rfl) (by kernel_rfl) (by kernel_rfl) (by kernel_rfl) (fun _ _ _ h => h) (Or.inl ⟨by rfl, ?_⟩) (by with_reducible assumption) ?_
  rotate_left
  focus ((intro wz hSw; (try dsimp only at hSw); obtain ⟨z0, z1⟩ := G1.out wz hSw; go_simp); (try with_reducible rfl))
  try simp only [Act.put, List.setIfInBounds_toArray, List.set_cons_zero, List.set_cons_succ]
  refine wpAnyH_meet (L := #[true, true, true, true, true, true, false, false])
    (J := fun a0 l a w' => ∃ (fl1 fl3 fl4 fl5 : Bool) (vl13 vl15 vl5 vl6 : Value) (b3 : Bool) (B3 : Option Addr) (m3 d3 : Nat) (b4 : Bool) (B4 : Option Addr) (m4 d4 ad4 ad5 : Nat), l = #[true, fl1, true, fl3, fl4, fl5, false, false] ∧ a = (((a0.put (some 13) vl13).put (some 15) vl15).put (some 5) vl5).put (some 6) vl6 ∧ Hid (Below wc2.heap.size wc2 w') ∧
      Hid (Gd fl1 (vl13 = .agg #[.bool b3, .slice B3 m3 d3] ∧ IntIn w' (x) b3 B3 m3 d3)) ∧
      Hid (Gd fl3 (vl15 = .agg #[.bool b4, .slice B4 m4 d4] ∧ IntIn w' (y) b4 B4 m4 d4)) ∧
      Hid (Gd fl4 (Made wc2.heap.size w' ad4 29 #[.bool false, .slice none 0 0] vl5)) ∧
      Hid (Gd fl5 (Made wc2.heap.size w' ad5 29 #[.bool false, .slice none 0 0] vl6)) ∧
      Hid (Gd fl4 (Gd fl5 (ad4 ≠ ad5))) ∧
      Hid (Gd fl3 (fl1 = true)))
    (by rfl) ?_ ?_ ?_ ?_
  · exact ⟨false, false, false, false, _, _, _, _, false, none, 0, 0, false, none, 0, 0, 0, 0, by kernel_rfl, by rfl, hHeld, Gd.no, Gd.no, Gd.no, Gd.no, Gd.no, Gd.no⟩
  · rintro l a w' ⟨fl1, fl3, fl4, fl5, vl13, vl15, vl5, vl6, b3, B3, m3, d3, b4, B4, m4, d4, ad4, ad5, rfl, rfl, -⟩ hr
    have xx1 : fl1 = true := by refine all_listed (i := 1) (o := ?_) hr (by simp only [List.getElem?_toArray, List.getElem?_cons_succ, List.getElem?_cons_zero]; rfl) ?_; rfl
    subst xx1
    have xx3 : fl3 = true := by refine all_listed (i := 3) (o := ?_) hr (by simp only [List.getElem?_toArray, List.getElem?_cons_succ, List.getElem?_cons_zero]; rfl) ?_; rfl
    subst xx3
    have xx4 : fl4 = true := by refine all_listed (i := 4) (o := ?_) hr (by simp only [List.getElem?_toArray, List.getElem?_cons_succ, List.getElem?_cons_zero]; rfl) ?_; rfl
    subst xx4
    have xx5 : fl5 = true := by refine all_listed (i := 5) (o := ?_) hr (by simp only [List.getElem?_toArray, List.getElem?_cons_succ, List.getElem?_cons_zero]; rfl) ?_; rfl
    subst xx5
    rfl
  · rintro l a w' i ⟨fl1, fl3, fl4, fl5, vl13, vl15, vl5, vl6, b3, B3, m3, d3, b4, B4, m4, d4, ad4, ad5, rfl, rfl, hBi, qf1, qf3, qf4, qf5, qn4_5, qd3_1⟩ hne hi
    have hlt : i < 8 := ready_lt hi
    rcases (show i = 0 ∨ i = 1 ∨ i = 2 ∨ i = 3 ∨ i = 4 ∨ i = 5 ∨ i = 6 ∨ i = 7 by omega) with rfl | rfl | rfl | rfl | rfl | rfl | rfl | rfl
    · have u : true = false := ready_un hi
      cases u
    · have u : fl1 = false := ready_un hi
      subst u
      refine wpOp_shut (by simp only [List.getElem?_toArray, List.getElem?_cons_succ, List.getElem?_cons_zero]; rfl) (fun K' hK => ?_)
      try simp only [Act.put, List.setIfInBounds_toArray, List.set_cons_zero, List.set_cons_succ]
      go_simp
      refine (C0.out w' hBi.out).mono ?_
      rintro e w2 ⟨nb3, nB3, nm3, nd3, rfl, nhw3, hb⟩
      exact hK.out _ _ ⟨keep_below hBi.out hb, true, fl3, fl4, fl5, _, vl15, vl5, vl6, nb3, nB3, nm3, nd3, b4, B4, m4, d4, ad4, ad5, by rfl, by rfl, keep_below hBi.out hb, Gd.yes ⟨rfl, nhw3⟩, qf3.out.mono fun h => ⟨h.1, h.2.below hb⟩, qf4.out.mono fun h => h.keep hb, qf5.out.mono fun h => h.keep hb, qn4_5, fun _ => rfl⟩
    · have u : true = false := ready_un hi
      cases u
    · have u : fl3 = false := ready_un hi
      subst u
      have yy1 : fl1 = true := by refine ready_dep (k := 1) (o := ?_) hi (by simp only [List.getElem?_toArray, List.getElem?_cons_succ, List.getElem?_cons_zero]; rfl) rfl rfl
      subst yy1
      refine wpOp_shut (by simp only [List.getElem?_toArray, List.getElem?_cons_succ, List.getElem?_cons_zero]; rfl) (fun K' hK => ?_)
      try simp only [Act.put, List.setIfInBounds_toArray, List.set_cons_zero, List.set_cons_succ]
      go_simp
      refine (C1.out w' hBi.out).mono ?_
      rintro e w2 ⟨nb4, nB4, nm4, nd4, rfl, nhw4, hb⟩
      exact hK.out _ _ ⟨keep_below hBi.out hb, true, true, fl4, fl5, vl13, _, vl5, vl6, b3, B3, m3, d3, nb4, nB4, nm4, nd4, ad4, ad5, by rfl, by rfl, keep_below hBi.out hb, qf1.out.mono fun h => ⟨h.1, h.2.below hb⟩, Gd.yes ⟨rfl, nhw4⟩, qf4.out.mono fun h => h.keep hb, qf5.out.mono fun h => h.keep hb, qn4_5, Gd.yes rfl⟩
    · have u : fl4 = false := ready_un hi
      subst u
      refine wpOp_shut (by simp only [List.getElem?_toArray, List.getElem?_cons_succ, List.getElem?_cons_zero]; rfl) (fun K' hK => ?_)
      try simp only [Act.put, List.setIfInBounds_toArray, List.set_cons_zero, List.set_cons_succ]
      go_simp
      have hb := up_alloc w' (.cells #[.bool false, .slice none 0 0] 29)
      exact hK.out _ _ ⟨keep_below hBi.out hb, fl1, fl3, true, fl5, vl13, vl15, _, vl6, b3, B3, m3, d3, b4, B4, m4, d4, _, ad5, by rfl, by rfl, keep_below hBi.out hb, qf1.out.mono fun h => ⟨h.1, h.2.below hb⟩, qf3.out.mono fun h => ⟨h.1, h.2.below hb⟩, Gd.yes (Made.new _ _ _ _ hBi.out.size), qf5.out.mono fun h => h.keep hb, Gd.yes (qf5.out.mono fun h => by have := h.lt; omega), qd3_1⟩
    · have u : fl5 = false := ready_un hi
      subst u
      refine wpOp_shut (by simp only [List.getElem?_toArray, List.getElem?_cons_succ, List.getElem?_cons_zero]; rfl) (fun K' hK => ?_)
      try simp only [Act.put, List.setIfInBounds_toArray, List.set_cons_zero, List.set_cons_succ]
      go_simp
      have hb := up_alloc w' (.cells #[.bool false, .slice none 0 0] 29)
      exact hK.out _ _ ⟨keep_below hBi.out hb, fl1, fl3, fl4, true, vl13, vl15, vl5, _, b3, B3, m3, d3, b4, B4, m4, d4, ad4, _, by rfl, by rfl, keep_below hBi.out hb, qf1.out.mono fun h => ⟨h.1, h.2.below hb⟩, qf3.out.mono fun h => ⟨h.1, h.2.below hb⟩, qf4.out.mono fun h => h.keep hb, Gd.yes (Made.new _ _ _ _ hBi.out.size), qf4.out.mono fun h => Gd.yes (by have := h.lt; omega), qd3_1⟩
    · have yy1 : fl1 = true := by refine ready_dep (k := 1) (o := ?_) hi (by simp only [List.getElem?_toArray, List.getElem?_cons_succ, List.getElem?_cons_zero]; rfl) rfl rfl
      subst yy1
      have yy3 : fl3 = true := by refine ready_dep (k := 2) (o := ?_) hi (by simp only [List.getElem?_toArray, List.getElem?_cons_succ, List.getElem?_cons_zero]; rfl) rfl rfl
      subst yy3
      have yy4 : fl4 = true := by refine ready_dep (k := 0) (o := ?_) hi (by simp only [List.getElem?_toArray, List.getElem?_cons_succ, List.getElem?_cons_zero]; rfl) rfl rfl
      subst yy4
      have yy5 : fl5 = true := by refine ready_dep (k := 8) (o := ?_) hi (by simp only [List.getElem?_toArray, List.getElem?_cons_succ, List.getElem?_cons_zero]; rfl) rfl rfl
      subst yy5
      exact absurd rfl hne
    · have u : false = true := by refine ready_dep (k := 2) (o := ?_) hi (by simp only [List.getElem?_toArray, List.getElem?_cons_succ, List.getElem?_cons_zero]; rfl) rfl rfl
      cases u
  rintro a wm3 ⟨fl1, fl3, fl4, fl5, vl13, vl15, vl5, vl6, b3, B3, m3, d3, b4, B4, m4, d4, ad4, ad5, hl, rfl, hBi, qf1, qf3, qf4, qf5, qn4_5, qd3_1⟩
  have xx1 : fl1 = true := by have h := congrArg (fun l : Array Bool => l.getD 1 false) hl; exact h.symm
  subst xx1
  have xx3 : fl3 = true := by have h := congrArg (fun l : Array Bool => l.getD 3 false) hl; exact h.symm
  subst xx3
  have xx4 : fl4 = true := by have h := congrArg (fun l : Array Bool => l.getD 4 false) hl; exact h.symm
  subst xx4
  have xx5 : fl5 = true := by have h := congrArg (fun l : Array Bool => l.getD 5 false) hl; exact h.symm
  subst xx5
  obtain ⟨rfl, hw3⟩ := qf1.out.get
  obtain ⟨rfl, hw4⟩ := qf3.out.get
  obtain ⟨rfl, hg4, hk4⟩ := qf4.out.get
  obtain ⟨rfl, hg5, hk5⟩ := qf5.out.get
  have n4_5 := qn4_5.out.get.get
  have hBv := hBi.out
  clear hl hBi qf1 qf3 qf4 qf5 qn4_5 qd3_1
  have hk4 : Blk wm3 ad4 29 #[.bool false, .slice none 0 0] := hk4
  have hk5 : Blk wm3 ad5 29 #[.bool false, .slice none 0 0] := hk5
  rw [show due #[true, true, true, true, true, true, false, false] = 2 from rfl]
  try simp only [Act.put, List.setIfInBounds_toArray, List.set_cons_zero, List.set_cons_succ]
  refine wpAnyH_ready (rs := [6]) (by kernel_rfl) (by simp) ?_
  refine AllReadyH.cons (o := ?_) (by simp only [List.getElem?_toArray, List.getElem?_cons_succ, List.getElem?_cons_zero]; rfl) (fun K hK => ?_) AllReadyH.nil
  have sc0 : (wm3).cell? ⟨ad4, 0, none⟩ = some (.bool false) := hk4.cell 0
  have sf0 : (wm3).frozen? ⟨ad4, 0, none⟩ = false := hk4.frozen 0
  have hj0 : Blk (wm3.setCell ⟨ad4, 0, none⟩ (.bool b3)) ad4 29 #[.bool b3, .slice none 0 0] := hk4.set_ 0 (.bool b3)
  have sc1 : (wm3.setCell ⟨ad4, 0, none⟩ (.bool b3)).cell? ⟨ad4, 1, none⟩ = some (.slice none 0 0) := hj0.cell 1
  have sf1 : (wm3.setCell ⟨ad4, 0, none⟩ (.bool b3)).frozen? ⟨ad4, 1, none⟩ = false := hj0.frozen 1
  have hj1 : Blk ((wm3.setCell ⟨ad4, 0, none⟩ (.bool b3)).setCell ⟨ad4, 1, none⟩ (.slice B3 m3 d3)) ad4 29 #[.bool b3, .slice B3 m3 d3] := hj0.set_ 1 (.slice B3 m3 d3)
  go_simp
  have hBv := keep_below_set (p := ⟨ad4, 1, none⟩) (.slice B3 m3 d3) hg4 (keep_below_set (p := ⟨ad4, 0, none⟩) (.bool b3) hg4 (hBv))
  have hk5 := Blk.far (Blk.far (hk5) (p := ⟨ad4, 0, none⟩) (show ad5 ≠ ad4 from n4_5.symm) (.bool b3)) (p := ⟨ad4, 1, none⟩) (show ad5 ≠ ad4 from n4_5.symm) (.slice B3 m3 d3)
  have hw3 := int_set2 hw3 hk4 b3 B3 m3 d3
  have hw4 := int_set2 hw4 hk4 b3 B3 m3 d3
  have hk4 := hj1
  clear sc0 sf0 sc1 sf1 hj0 hj1
  refine hK.out _ _ ?_ (fun hHeld => ?_)
  · ((try dsimp only); exact hBv)
  clear hK K hHeld
  try simp only [Act.put, List.setIfInBounds_toArray, List.set_cons_zero, List.set_cons_succ]
  generalize (wm3.setCell ⟨ad4, 0, none⟩ (.bool b3)).setCell ⟨ad4, 1, none⟩ (.slice B3 m3 d3) = wm4 at *
  refine wpAnyH_ready (rs := [7]) (by kernel_rfl) (by simp) ?_
  refine AllReadyH.cons (o := ?_) (by simp only [List.getElem?_toArray, List.getElem?_cons_succ, List.getElem?_cons_zero]; rfl) (fun K hK => ?_) AllReadyH.nil
  have sc0 : (wm4).cell? ⟨ad5, 0, none⟩ = some (.bool false) := hk5.cell 0
  have sf0 : (wm4).frozen? ⟨ad5, 0, none⟩ = false := hk5.frozen 0
  have hj0 : Blk (wm4.setCell ⟨ad5, 0, none⟩ (.bool b4)) ad5 29 #[.bool b4, .slice none 0 0] := hk5.set_ 0 (.bool b4)
  have sc1 : (wm4.setCell ⟨ad5, 0, none⟩ (.bool b4)).cell? ⟨ad5, 1, none⟩ = some (.slice none 0 0) := hj0.cell 1
  have sf1 : (wm4.setCell ⟨ad5, 0, none⟩ (.bool b4)).frozen? ⟨ad5, 1, none⟩ = false := hj0.frozen 1
  have hj1 : Blk ((wm4.setCell ⟨ad5, 0, none⟩ (.bool b4)).setCell ⟨ad5, 1, none⟩ (.slice B4 m4 d4)) ad5 29 #[.bool b4, .slice B4 m4 d4] := hj0.set_ 1 (.slice B4 m4 d4)
  go_simp
  have hBv := keep_below_set (p := ⟨ad5, 1, none⟩) (.slice B4 m4 d4) hg5 (keep_below_set (p := ⟨ad5, 0, none⟩) (.bool b4) hg5 (hBv))
  have hk4 := Blk.far (Blk.far (hk4) (p := ⟨ad5, 0, none⟩) (show ad4 ≠ ad5 from n4_5) (.bool b4)) (p := ⟨ad5, 1, none⟩) (show ad4 ≠ ad5 from n4_5) (.slice B4 m4 d4)
  have hw3 := int_set2 hw3 hk5 b4 B4 m4 d4
  have hw4 := int_set2 hw4 hk5 b4 B4 m4 d4
  have hk5 := hj1
  clear sc0 sf0 sc1 sf1 hj0 hj1
  refine hK.out _ _ ?_ (fun hHeld => ?_)
  · ((try dsimp only); exact hBv)
  clear hK K hHeld
  try simp only [Act.put, List.setIfInBounds_toArray, List.set_cons_zero, List.set_cons_succ]
  generalize (wm4.setCell ⟨ad5, 0, none⟩ (.bool b4)).setCell ⟨ad5, 1, none⟩ (.slice B4 m4 d4) = wm5 at *
  refine wpAnyH_done (by kernel_rfl) ?_ _
  refine NoPanic.normal ?_
  have hB := keep_below hB hBv
  have g1 := keep_cell hBv g1
  have e1 := keep_cell hBv e1
  have g2 := keep_cell hBv g2
  have e2 := keep_cell hBv e2
  obtain ⟨ad4_5, hga⟩ : ∃ x, x = ad4 := ⟨_, rfl⟩
  subst hga
  have g5 : wm5.cell? ⟨ad4_5, 0, none⟩ = some (.bool b3) := hk4.cell 0
  have e5 : wm5.cell? ⟨ad4_5, 1, none⟩ = some (.slice B3 m3 d3) := hk4.cell 1
  obtain ⟨ad5_6, hga⟩ : ∃ x, x = ad5 := ⟨_, rfl⟩
  subst hga
  have g6 : wm5.cell? ⟨ad5_6, 0, none⟩ = some (.bool b4) := hk5.cell 0
  have e6 : wm5.cell? ⟨ad5_6, 1, none⟩ = some (.slice B4 m4 d4) := hk5.cell 1
  have HN3 := Lib.hid hw3
  have HN4 := Lib.hid hw4
  clear hBv hk4 hg4 hk5 hg5 hw3 hw4 G0 G1 n4_5
  clear C0 C1
  go_wp2_with fail
  have HZ7 : Hid (Sz (1) ((0 : Int)).natAbs) := (by show (0 : Nat) < _; decide)
  have HZ8 : Hid (Sz (1) ((0 : Int)).natAbs) := (by show (0 : Nat) < _; decide)
  (with_reducible refine (HIC.out.divNo (x) (y) b3 b4 B3 B4 m3 m4 d3 d4 _ (HT.out _ hB) HN3.out HN4.out (by have := Sz.words HZ3.out HN3.out.words; omega) (by have := Sz.words HZ4.out HN4.out.words; omega) Hhy.out).mono ?_)
  rintro e wc6 ⟨b7, B7, m7, d7, b8, B8, m8, d8, rfl, hw7, hw8, hb⟩
  have hB := keep_below hB hb
  have g1 := keep_cell hb g1
  have e1 := keep_cell hb e1
  have g2 := keep_cell hb g2
  have e2 := keep_cell hb e2
  have g5 := keep_cell hb g5
  have e5 := keep_cell hb e5
  have g6 := keep_cell hb g6
  have e6 := keep_cell hb e6
  have HN3 := Lib.hid (HN3.out.below hb)
  have HN4 := Lib.hid (HN4.out.below hb)
  have HN7 := Lib.hid hw7
  have HN8 := Lib.hid hw8
  clear hb hw7 hw8
  have gm6_2_0 : ((wc6.alloc (.cells #[.bool b7, .slice B7 m7 d7] 29)).alloc (.cells #[.bool b8, .slice B8 m8 d8] 29)).cell? ⟨ad5_6, 0, none⟩ = some (.bool b4) := keep_cell_alloc _ (keep_cell_alloc _ (g6))
  have gm6_2_1 : ((wc6.alloc (.cells #[.bool b7, .slice B7 m7 d7] 29)).alloc (.cells #[.bool b8, .slice B8 m8 d8] 29)).cell? ⟨ad5_6, 1, none⟩ = some (.slice B4 m4 d4) := keep_cell_alloc _ (keep_cell_alloc _ (e6))
  obtain ⟨bx1, bx2, bx3, bz⟩ := box2 wc6 29 29 #[.bool b7, .slice B7 m7 d7] #[.bool b8, .slice B8 m8 d8]
  have hB := keep_below hB bx1
  have g1 := keep_cell bx1 g1
  have e1 := keep_cell bx1 e1
  have g2 := keep_cell bx1 g2
  have e2 := keep_cell bx1 e2
  have g5 := keep_cell bx1 g5
  have e5 := keep_cell bx1 e5
  have g6 := keep_cell bx1 g6
  have e6 := keep_cell bx1 e6
  have HN3 := Lib.hid (HN3.out.below bx1)
  have HN4 := Lib.hid (HN4.out.below bx1)
  have HN7 := Lib.hid (HN7.out.below bx1)
  have HN8 := Lib.hid (HN8.out.below bx1)
  have g9 : ((wc6.alloc (.cells #[.bool b7, .slice B7 m7 d7] 29)).alloc (.cells #[.bool b8, .slice B8 m8 d8] 29)).cell? ⟨wc6.heap.size, 0, none⟩ = some (.bool b7) := bx2.cell 0
  have e9 : ((wc6.alloc (.cells #[.bool b7, .slice B7 m7 d7] 29)).alloc (.cells #[.bool b8, .slice B8 m8 d8] 29)).cell? ⟨wc6.heap.size, 1, none⟩ = some (.slice B7 m7 d7) := bx2.cell 1
  have g10 : ((wc6.alloc (.cells #[.bool b7, .slice B7 m7 d7] 29)).alloc (.cells #[.bool b8, .slice B8 m8 d8] 29)).cell? ⟨wc6.heap.size + 1, 0, none⟩ = some (.bool b8) := bx3.cell 0
  have e10 : ((wc6.alloc (.cells #[.bool b7, .slice B7 m7 d7] 29)).alloc (.cells #[.bool b8, .slice B8 m8 d8] 29)).cell? ⟨wc6.heap.size + 1, 1, none⟩ = some (.slice B8 m8 d8) := bx3.cell 1
  clear bx1 bx2 bx3 bz
  go_wp2_with fail
  clear gm6_2_0 gm6_2_1
  generalize (wc6.alloc (.cells #[.bool b7, .slice B7 m7 d7] 29)).alloc (.cells #[.bool b8, .slice B8 m8 d8] 29) = W7 at *
  generalize wc6.heap.size = q7 at *
  (with_reducible refine (isgn_of (v := 0) (((sgnZ_eq _).2 Hhy.out)) (HIC.out.sign (y) b4 B4 m4 d4 _ (HT.out _ hB) HN4.out (by have := Sz.words HZ4.out HN4.out.words; omega))).mono ?_)
  rintro e wc8 ⟨rfl, hb⟩
  have hB := keep_below hB hb
  have g1 := keep_cell hb g1
  have e1 := keep_cell hb e1
  have g2 := keep_cell hb g2
  have e2 := keep_cell hb e2
  have g5 := keep_cell hb g5
  have e5 := keep_cell hb e5
  have g6 := keep_cell hb g6
  have e6 := keep_cell hb e6
  have HN3 := Lib.hid (HN3.out.below hb)
  have HN4 := Lib.hid (HN4.out.below hb)
  have HN7 := Lib.hid (HN7.out.below hb)
  have HN8 := Lib.hid (HN8.out.below hb)
  have g9 := keep_cell hb g9
  have e9 := keep_cell hb e9
  have g10 := keep_cell hb g10
  have e10 := keep_cell hb e10
  clear hb 
  go_wp2
  go_ret
  exact ⟨by first | rfl | simp, hB⟩
set_option maxHeartbeats 16000000 in
theorem integerBack_0 {T : World → Prop} (hTb : ∀ w w', T w → Below w.heap.size w w' → T w') (IC : IntC T) (s0 : Bool) (A0 : Option Addr) (n0 c0 : Nat) (l0 : List Nat) (s1 : Bool) (A1 : Option Addr) (n1 c1 : Nat) (l1 : List Nat) (w : World) (h0 : ArgWords w A0 n0 c0 l0) (h1 : ArgWords w A1 n1 c1 l1) (hy : zOf s1 l1 ≠ 0) (hr : rI (zOf s0 l0) (zOf s1 l1) = 0) (hT : T w) :
    Calls Try.prog 8 #[.agg #[.bool s0, .slice A0 n0 c0], .agg #[.bool s1, .slice A1 n1 c1]] w fun e w' => e = .returned (.bool true) ∧ Below w.heap.size w w' := by
  have HAW := Lib.hid (fun w' (hb : Below w.heap.size w w') => law7_awake hTb IC w' (hTb w w' hT hb))
  have HIC := Lib.hid IC
  have HT := Lib.hid (fun w' (hb : Below w.heap.size w w') => hTb w w' hT hb)
  obtain ⟨K, hK⟩ : ∃ K, 1048576 = K := ⟨_, rfl⟩
  have hKK : K ≤ 1048576 := by omega
  have HM0 := Lib.hid (fun w' (hb : Below w.heap.size w w') => law7_make hTb IC s0 A0 n0 c0 l0 w' ⟨(h0.reads.below hb).more hb.size, h0.dgs, h0.fits, h0.small⟩ (hTb w w' hT hb))
  have S0 : Sz 1048576 (zOf s0 l0).natAbs := by rw [zOf_abs]; exact arg_sz h0
  rw [hK] at S0
  obtain ⟨x, hz0⟩ : ∃ x, zOf s0 l0 = x := ⟨_, rfl⟩
  rw [hz0] at HM0 S0 hr
  have HS0 := Lib.hid S0
  have HM1 := Lib.hid (fun w' (hb : Below w.heap.size w w') => law7_make hTb IC s1 A1 n1 c1 l1 w' ⟨(h1.reads.below hb).more hb.size, h1.dgs, h1.fits, h1.small⟩ (hTb w w' hT hb))
  have S1 : Sz 1048576 (zOf s1 l1).natAbs := by rw [zOf_abs]; exact arg_sz h1
  rw [hK] at S1
  obtain ⟨y, hz1⟩ : ∃ x, zOf s1 l1 = x := ⟨_, rfl⟩
  rw [hz1] at HM1 S1 hy hr
  have HS1 := Lib.hid S1
  have Hhy := Lib.hid hy
  have Hhr := Lib.hid hr
  clear IC hT h0 hz0 S0 h1 hz1 S1 hy hr hK
  go_enter Try.func8, Try.ntmps8
  have hB := Below.refl w.heap.size w
  obtain ⟨bx1, bx2, bx3, bz⟩ := box2 w 24 24 #[.bool s0, .slice A0 n0 c0] #[.bool s1, .slice A1 n1 c1]
  have hB := keep_below hB bx1
  have g1 : ((w.alloc (.cells #[.bool s0, .slice A0 n0 c0] 24)).alloc (.cells #[.bool s1, .slice A1 n1 c1] 24)).cell? ⟨w.heap.size, 0, none⟩ = some (.bool s0) := bx2.cell 0
  have e1 : ((w.alloc (.cells #[.bool s0, .slice A0 n0 c0] 24)).alloc (.cells #[.bool s1, .slice A1 n1 c1] 24)).cell? ⟨w.heap.size, 1, none⟩ = some (.slice A0 n0 c0) := bx2.cell 1
  have g2 : ((w.alloc (.cells #[.bool s0, .slice A0 n0 c0] 24)).alloc (.cells #[.bool s1, .slice A1 n1 c1] 24)).cell? ⟨w.heap.size + 1, 0, none⟩ = some (.bool s1) := bx3.cell 0
  have e2 : ((w.alloc (.cells #[.bool s0, .slice A0 n0 c0] 24)).alloc (.cells #[.bool s1, .slice A1 n1 c1] 24)).cell? ⟨w.heap.size + 1, 1, none⟩ = some (.slice A1 n1 c1) := bx3.cell 1
  clear bx1 bx2 bx3 bz
  go_wp2_with fail
  generalize (w.alloc (.cells #[.bool s0, .slice A0 n0 c0] 24)).alloc (.cells #[.bool s1, .slice A1 n1 c1] 24) = W1 at *
  (with_reducible refine (HAW.out _ hB).mono ?_)
  rintro e wc2 ⟨rfl, hb⟩
  have hB := keep_below hB hb
  have g1 := keep_cell hb g1
  have e1 := keep_cell hb e1
  have g2 := keep_cell hb g2
  have e2 := keep_cell hb e2
  clear hb 
  go_wp2_with fail
  have HZ3 : Hid (Sz (K) (x).natAbs) := HS0.out
  have C0 := Lib.hid (fun w' (h : Below wc2.heap.size wc2 w') => HM0.out _ (keep_below hB h))
  have HZ4 : Hid (Sz (K) (y).natAbs) := HS1.out
  have C1 := Lib.hid (fun w' (h : Below wc2.heap.size wc2 w') => HM1.out _ (keep_below hB h))
  have G0 := Lib.hid (fun w' (h : Below wc2.heap.size wc2 w') => (⟨keep_cell h g1, keep_cell h e1⟩ : w'.cell? ⟨w.heap.size, 0, none⟩ = some (.bool s0) ∧ w'.cell? ⟨w.heap.size, 1, none⟩ = some (.slice A0 n0 c0)))
  have G1 := Lib.hid (fun w' (h : Below wc2.heap.size wc2 w') => (⟨keep_cell h g2, keep_cell h e2⟩ : w'.cell? ⟨w.heap.size + 1, 0, none⟩ = some (.bool s1) ∧ w'.cell? ⟨w.heap.size + 1, 1, none⟩ = some (.slice A1 n1 c1)))
  refine wp_region_noPanic ?_
  refine wp_region_held_drew (S := (fun w' => Below wc2.heap.size wc2 w')) (by kernel_rfl) ?_ (fun hHeld => ?_)
  · exact (Below.refl _ wc2).drew
  refine wpAnyH_take (i := 0) (oi := ?_) (v := ?_) (by simp only [List.getElem?_toArray, List.getElem?_cons_succ, List.getElem?_cons_zero]; rfl) (by kernel_rfl) (by kernel_rfl) (by kernel_rfl) (fun _ _ _ h => h) (Or.inl ⟨by rfl, ?_⟩) (by with_reducible assumption) ?_
  rotate_left
  focus ((intro wz hSw; (try dsimp only at hSw); obtain ⟨z0, z1⟩ := G0.out wz hSw; go_simp); (try with_reducible rfl))
  try simp only [Act.put, List.setIfInBounds_toArray, List.set_cons_zero, List.set_cons_succ]
  refine wpAnyH_take (i := 2) (oi := ?_) (v := ?_) (by simp only [List.getElem?_toArray, List.getElem?_cons_succ, List.getElem?_cons_zero]; rfl) (by kernel_rfl) (by kernel_rfl) (by kernel_rfl) (fun _ _ _ h => h) (Or.inl ⟨by rfl, ?_⟩) (by with_reducible assumption) ?_
  rotate_left
  focus ((intro wz hSw; (try dsimp only at hSw); obtain ⟨z0, z1⟩ := G1.out wz hSw; go_simp); (try with_reducible rfl))
  try simp only [Act.put, List.setIfInBounds_toArray, List.set_cons_zero, List.set_cons_succ]
  refine wpAnyH_meet (L := #[true, true, true, true, true, true, false, false])
    (J := fun a0 l a w' => ∃ (fl1 fl3 fl4 fl5 : Bool) (vl13 vl15 vl5 vl6 : Value) (b3 : Bool) (B3 : Option Addr) (m3 d3 : Nat) (b4 : Bool) (B4 : Option Addr) (m4 d4 ad4 ad5 : Nat), l = #[true, fl1, true, fl3, fl4, fl5, false, false] ∧ a = (((a0.put (some 13) vl13).put (some 15) vl15).put (some 5) vl5).put (some 6) vl6 ∧ Hid (Below wc2.heap.size wc2 w') ∧
      Hid (Gd fl1 (vl13 = .agg #[.bool b3, .slice B3 m3 d3] ∧ IntIn w' (x) b3 B3 m3 d3)) ∧
      Hid (Gd fl3 (vl15 = .agg #[.bool b4, .slice B4 m4 d4] ∧ IntIn w' (y) b4 B4 m4 d4)) ∧
      Hid (Gd fl4 (Made wc2.heap.size w' ad4 29 #[.bool false, .slice none 0 0] vl5)) ∧
      Hid (Gd fl5 (Made wc2.heap.size w' ad5 29 #[.bool false, .slice none 0 0] vl6)) ∧
      Hid (Gd fl4 (Gd fl5 (ad4 ≠ ad5))) ∧
      Hid (Gd fl3 (fl1 = true)))
    (by rfl) ?_ ?_ ?_ ?_
  · exact ⟨false, false, false, false, _, _, _, _, false, none, 0, 0, false, none, 0, 0, 0, 0, by kernel_rfl, by rfl, hHeld, Gd.no, Gd.no, Gd.no, Gd.no, Gd.no, Gd.no⟩
  · rintro l a w' ⟨fl1, fl3, fl4, fl5, vl13, vl15, vl5, vl6, b3, B3, m3, d3, b4, B4, m4, d4, ad4, ad5, rfl, rfl, -⟩ hr
    have xx1 : fl1 = true := by refine all_listed (i := 1) (o := ?_) hr (by simp only [List.getElem?_toArray, List.getElem?_cons_succ, List.getElem?_cons_zero]; rfl) ?_; rfl
    subst xx1
    have xx3 : fl3 = true := by refine all_listed (i := 3) (o := ?_) hr (by simp only [List.getElem?_toArray, List.getElem?_cons_succ, List.getElem?_cons_zero]; rfl) ?_; rfl
    subst xx3
    have xx4 : fl4 = true := by refine all_listed (i := 4) (o := ?_) hr (by simp only [List.getElem?_toArray, List.getElem?_cons_succ, List.getElem?_cons_zero]; rfl) ?_; rfl
    subst xx4
    have xx5 : fl5 = true := by refine all_listed (i := 5) (o := ?_) hr (by simp only [List.getElem?_toArray, List.getElem?_cons_succ, List.getElem?_cons_zero]; rfl) ?_; rfl
    subst xx5
    rfl
  · rintro l a w' i ⟨fl1, fl3, fl4, fl5, vl13, vl15, vl5, vl6, b3, B3, m3, d3, b4, B4, m4, d4, ad4, ad5, rfl, rfl, hBi, qf1, qf3, qf4, qf5, qn4_5, qd3_1⟩ hne hi
    have hlt : i < 8 := ready_lt hi
    rcases (show i = 0 ∨ i = 1 ∨ i = 2 ∨ i = 3 ∨ i = 4 ∨ i = 5 ∨ i = 6 ∨ i = 7 by omega) with rfl | rfl | rfl | rfl | rfl | rfl | rfl | rfl
    · have u : true = false := ready_un hi
      cases u
    · have u : fl1 = false := ready_un hi
      subst u
      refine wpOp_shut (by simp only [List.getElem?_toArray, List.getElem?_cons_succ, List.getElem?_cons_zero]; rfl) (fun K' hK => ?_)
      try simp only [Act.put, List.setIfInBounds_toArray, List.set_cons_zero, List.set_cons_succ]
      go_simp
      refine (C0.out w' hBi.out).mono ?_
      rintro e w2 ⟨nb3, nB3, nm3, nd3, rfl, nhw3, hb⟩
      exact hK.out _ _ ⟨keep_below hBi.out hb, true, fl3, fl4, fl5, _, vl15, vl5, vl6, nb3, nB3, nm3, nd3, b4, B4, m4, d4, ad4, ad5, by rfl, by rfl, keep_below hBi.out hb, Gd.yes ⟨rfl, nhw3⟩, qf3.out.mono fun h => ⟨h.1, h.2.below hb⟩, qf4.out.mono fun h => h.keep hb, qf5.out.mono fun h => h.keep hb, qn4_5, fun _ => rfl⟩
    · have u : true = false := ready_un hi
      cases u
    · have u : fl3 = false := ready_un hi
      subst u
      have yy1 : fl1 = true := by refine ready_dep (k := 1) (o := ?_) hi (by simp only [List.getElem?_toArray, List.getElem?_cons_succ, List.getElem?_cons_zero]; rfl) rfl rfl
      subst yy1
      refine wpOp_shut (by simp only [List.getElem?_toArray, List.getElem?_cons_succ, List.getElem?_cons_zero]; rfl) (fun K' hK => ?_)
      try simp only [Act.put, List.setIfInBounds_toArray, List.set_cons_zero, List.set_cons_succ]
      go_simp
      refine (C1.out w' hBi.out).mono ?_
      rintro e w2 ⟨nb4, nB4, nm4, nd4, rfl, nhw4, hb⟩
      exact hK.out _ _ ⟨keep_below hBi.out hb, true, true, fl4, fl5, vl13, _, vl5, vl6, b3, B3, m3, d3, nb4, nB4, nm4, nd4, ad4, ad5, by rfl, by rfl, keep_below hBi.out hb, qf1.out.mono fun h => ⟨h.1, h.2.below hb⟩, Gd.yes ⟨rfl, nhw4⟩, qf4.out.mono fun h => h.keep hb, qf5.out.mono fun h => h.keep hb, qn4_5, Gd.yes rfl⟩
    · have u : fl4 = false := ready_un hi
      subst u
      refine wpOp_shut (by simp only [List.getElem?_toArray, List.getElem?_cons_succ, List.getElem?_cons_zero]; rfl) (fun K' hK => ?_)
      try simp only [Act.put, List.setIfInBounds_toArray, List.set_cons_zero, List.set_cons_succ]
      go_simp
      have hb := up_alloc w' (.cells #[.bool false, .slice none 0 0] 29)
      exact hK.out _ _ ⟨keep_below hBi.out hb, fl1, fl3, true, fl5, vl13, vl15, _, vl6, b3, B3, m3, d3, b4, B4, m4, d4, _, ad5, by rfl, by rfl, keep_below hBi.out hb, qf1.out.mono fun h => ⟨h.1, h.2.below hb⟩, qf3.out.mono fun h => ⟨h.1, h.2.below hb⟩, Gd.yes (Made.new _ _ _ _ hBi.out.size), qf5.out.mono fun h => h.keep hb, Gd.yes (qf5.out.mono fun h => by have := h.lt; omega), qd3_1⟩
    · have u : fl5 = false := ready_un hi
      subst u
      refine wpOp_shut (by simp only [List.getElem?_toArray, List.getElem?_cons_succ, List.getElem?_cons_zero]; rfl) (fun K' hK => ?_)
      try simp only [Act.put, List.setIfInBounds_toArray, List.set_cons_zero, List.set_cons_succ]
      go_simp
      have hb := up_alloc w' (.cells #[.bool false, .slice none 0 0] 29)
      exact hK.out _ _ ⟨keep_below hBi.out hb, fl1, fl3, fl4, true, vl13, vl15, vl5, _, b3, B3, m3, d3, b4, B4, m4, d4, ad4, _, by rfl, by rfl, keep_below hBi.out hb, qf1.out.mono fun h => ⟨h.1, h.2.below hb⟩, qf3.out.mono fun h => ⟨h.1, h.2.below hb⟩, qf4.out.mono fun h => h.keep hb, Gd.yes (Made.new _ _ _ _ hBi.out.size), qf4.out.mono fun h => Gd.yes (by have := h.lt; omega), qd3_1⟩
    · have yy1 : fl1 = true := by refine ready_dep (k := 1) (o := ?_) hi (by simp only [List.getElem?_toArray, List.getElem?_cons_succ, List.getElem?_cons_zero]; rfl) rfl rfl
      subst yy1
      have yy3 : fl3 = true := by refine ready_dep (k := 2) (o := ?_) hi (by simp only [List.getElem?_toArray, List.getElem?_cons_succ, List.getElem?_cons_zero]; rfl) rfl rfl
      subst yy3
      have yy4 : fl4 = true := by refine ready_dep (k := 0) (o := ?_) hi (by simp only [List.getElem?_toArray, List.getElem?_cons_succ, List.getElem?_cons_zero]; rfl) rfl rfl
      subst yy4
      have yy5 : fl5 = true := by refine ready_dep (k := 8) (o := ?_) hi (by simp only [List.getElem?_toArray, List.getElem?_cons_succ, List.getElem?_cons_zero]; rfl) rfl rfl
      subst yy5
      exact absurd rfl hne
    · have u : false = true := by refine ready_dep (k := 2) (o := ?_) hi (by simp only [List.getElem?_toArray, List.getElem?_cons_succ, List.getElem?_cons_zero]; rfl) rfl rfl
      cases u
  rintro a wm3 ⟨fl1, fl3, fl4, fl5, vl13, vl15, vl5, vl6, b3, B3, m3, d3, b4, B4, m4, d4, ad4, ad5, hl, rfl, hBi, qf1, qf3, qf4, qf5, qn4_5, qd3_1⟩
  have xx1 : fl1 = true := by have h := congrArg (fun l : Array Bool => l.getD 1 false) hl; exact h.symm
  subst xx1
  have xx3 : fl3 = true := by have h := congrArg (fun l : Array Bool => l.getD 3 false) hl; exact h.symm
  subst xx3
  have xx4 : fl4 = true := by have h := congrArg (fun l : Array Bool => l.getD 4 false) hl; exact h.symm
  subst xx4
  have xx5 : fl5 = true := by have h := congrArg (fun l : Array Bool => l.getD 5 false) hl; exact h.symm
  subst xx5
  obtain ⟨rfl, hw3⟩ := qf1.out.get
  obtain ⟨rfl, hw4⟩ := qf3.out.get
  obtain ⟨rfl, hg4, hk4⟩ := qf4.out.get
  obtain ⟨rfl, hg5, hk5⟩ := qf5.out.get
  have n4_5 := qn4_5.out.get.get
  have hBv := hBi.out
  clear hl hBi qf1 qf3 qf4 qf5 qn4_5 qd3_1
  have hk4 : Blk wm3 ad4 29 #[.bool false, .slice none 0 0] := hk4
  have hk5 : Blk wm3 ad5 29 #[.bool false, .slice none 0 0] := hk5
  rw [show due #[true, true, true, true, true, true, false, false] = 2 from rfl]
  try simp only [Act.put, List.setIfInBounds_toArray, List.set_cons_zero, List.set_cons_succ]
  refine wpAnyH_ready (rs := [6]) (by kernel_rfl) (by simp) ?_
  refine AllReadyH.cons (o := ?_) (by simp only [List.getElem?_toArray, List.getElem?_cons_succ, List.getElem?_cons_zero]; rfl) (fun K hK => ?_) AllReadyH.nil
  have sc0 : (wm3).cell? ⟨ad4, 0, none⟩ = some (.bool false) := hk4.cell 0
  have sf0 : (wm3).frozen? ⟨ad4, 0, none⟩ = false := hk4.frozen 0
  have hj0 : Blk (wm3.setCell ⟨ad4, 0, none⟩ (.bool b3)) ad4 29 #[.bool b3, .slice none 0 0] := hk4.set_ 0 (.bool b3)
  have sc1 : (wm3.setCell ⟨ad4, 0, none⟩ (.bool b3)).cell? ⟨ad4, 1, none⟩ = some (.slice none 0 0) := hj0.cell 1
  have sf1 : (wm3.setCell ⟨ad4, 0, none⟩ (.bool b3)).frozen? ⟨ad4, 1, none⟩ = false := hj0.frozen 1
  have hj1 : Blk ((wm3.setCell ⟨ad4, 0, none⟩ (.bool b3)).setCell ⟨ad4, 1, none⟩ (.slice B3 m3 d3)) ad4 29 #[.bool b3, .slice B3 m3 d3] := hj0.set_ 1 (.slice B3 m3 d3)
  go_simp
  have hBv := keep_below_set (p := ⟨ad4, 1, none⟩) (.slice B3 m3 d3) hg4 (keep_below_set (p := ⟨ad4, 0, none⟩) (.bool b3) hg4 (hBv))
  have hk5 := Blk.far (Blk.far (hk5) (p := ⟨ad4, 0, none⟩) (show ad5 ≠ ad4 from n4_5.symm) (.bool b3)) (p := ⟨ad4, 1, none⟩) (show ad5 ≠ ad4 from n4_5.symm) (.slice B3 m3 d3)
  have hw3 := int_set2 hw3 hk4 b3 B3 m3 d3
  have hw4 := int_set2 hw4 hk4 b3 B3 m3 d3
  have hk4 := hj1
  clear sc0 sf0 sc1 sf1 hj0 hj1
  refine hK.out _ _ ?_ (fun hHeld => ?_)
  · ((try dsimp only); exact hBv)
  clear hK K hHeld
  try simp only [Act.put, List.setIfInBounds_toArray, List.set_cons_zero, List.set_cons_succ]
  generalize (wm3.setCell ⟨ad4, 0, none⟩ (.bool b3)).setCell ⟨ad4, 1, none⟩ (.slice B3 m3 d3) = wm4 at *
  refine wpAnyH_ready (rs := [7]) (by kernel_rfl) (by simp) ?_
  refine AllReadyH.cons (o := ?_) (by simp only [List.getElem?_toArray, List.getElem?_cons_succ, List.getElem?_cons_zero]; rfl) (fun K hK => ?_) AllReadyH.nil
  have sc0 : (wm4).cell? ⟨ad5, 0, none⟩ = some (.bool false) := hk5.cell 0
  have sf0 : (wm4).frozen? ⟨ad5, 0, none⟩ = false := hk5.frozen 0
  have hj0 : Blk (wm4.setCell ⟨ad5, 0, none⟩ (.bool b4)) ad5 29 #[.bool b4, .slice none 0 0] := hk5.set_ 0 (.bool b4)
  have sc1 : (wm4.setCell ⟨ad5, 0, none⟩ (.bool b4)).cell? ⟨ad5, 1, none⟩ = some (.slice none 0 0) := hj0.cell 1
  have sf1 : (wm4.setCell ⟨ad5, 0, none⟩ (.bool b4)).frozen? ⟨ad5, 1, none⟩ = false := hj0.frozen 1
  have hj1 : Blk ((wm4.setCell ⟨ad5, 0, none⟩ (.bool b4)).setCell ⟨ad5, 1, none⟩ (.slice B4 m4 d4)) ad5 29 #[.bool b4, .slice B4 m4 d4] := hj0.set_ 1 (.slice B4 m4 d4)
  go_simp
  have hBv := keep_below_set (p := ⟨ad5, 1, none⟩) (.slice B4 m4 d4) hg5 (keep_below_set (p := ⟨ad5, 0, none⟩) (.bool b4) hg5 (hBv))
  have hk4 := Blk.far (Blk.far (hk4) (p := ⟨ad5, 0, none⟩) (show ad4 ≠ ad5 from n4_5) (.bool b4)) (p := ⟨ad5, 1, none⟩) (show ad4 ≠ ad5 from n4_5) (.slice B4 m4 d4)
  have hw3 := int_set2 hw3 hk5 b4 B4 m4 d4
  have hw4 := int_set2 hw4 hk5 b4 B4 m4 d4
  have hk5 := hj1
  clear sc0 sf0 sc1 sf1 hj0 hj1
  refine hK.out _ _ ?_ (fun hHeld => ?_)
  · ((try dsimp only); exact hBv)
  clear hK K hHeld
  try simp only [Act.put, List.setIfInBounds_toArray, List.set_cons_zero, List.set_cons_succ]
  generalize (wm4.setCell ⟨ad5, 0, none⟩ (.bool b4)).setCell ⟨ad5, 1, none⟩ (.slice B4 m4 d4) = wm5 at *
  refine wpAnyH_done (by kernel_rfl) ?_ _
  refine NoPanic.normal ?_
  have hB := keep_below hB hBv
  have g1 := keep_cell hBv g1
  have e1 := keep_cell hBv e1
  have g2 := keep_cell hBv g2
  have e2 := keep_cell hBv e2
  obtain ⟨ad4_5, hga⟩ : ∃ x, x = ad4 := ⟨_, rfl⟩
  subst hga
  have g5 : wm5.cell? ⟨ad4_5, 0, none⟩ = some (.bool b3) := hk4.cell 0
  have e5 : wm5.cell? ⟨ad4_5, 1, none⟩ = some (.slice B3 m3 d3) := hk4.cell 1
  obtain ⟨ad5_6, hga⟩ : ∃ x, x = ad5 := ⟨_, rfl⟩
  subst hga
  have g6 : wm5.cell? ⟨ad5_6, 0, none⟩ = some (.bool b4) := hk5.cell 0
  have e6 : wm5.cell? ⟨ad5_6, 1, none⟩ = some (.slice B4 m4 d4) := hk5.cell 1
  have HN3 := Lib.hid hw3
  have HN4 := Lib.hid hw4
  clear hBv hk4 hg4 hk5 hg5 hw3 hw4 G0 G1 n4_5
  clear C0 C1
  go_wp2_with fail
  have HZ7 : Hid (Sz (K) (qI x y).natAbs) := SzI.q _ HZ3.out
  have HZ8 : Hid (Sz (K) (rI x y).natAbs) := SzI.r _ Hhy.out HZ4.out
  (with_reducible refine (HIC.out.div (x) (y) b3 b4 B3 B4 m3 m4 d3 d4 _ (HT.out _ hB) HN3.out HN4.out (by have := Sz.words HZ3.out HN3.out.words; omega) (by have := Sz.words HZ4.out HN4.out.words; omega) Hhy.out).mono ?_)
  rintro e wc6 ⟨b7, B7, m7, d7, b8, B8, m8, d8, rfl, hw7, hw8, hb⟩
  have hB := keep_below hB hb
  have g1 := keep_cell hb g1
  have e1 := keep_cell hb e1
  have g2 := keep_cell hb g2
  have e2 := keep_cell hb e2
  have g5 := keep_cell hb g5
  have e5 := keep_cell hb e5
  have g6 := keep_cell hb g6
  have e6 := keep_cell hb e6
  have HN3 := Lib.hid (HN3.out.below hb)
  have HN4 := Lib.hid (HN4.out.below hb)
  have HN7 := Lib.hid hw7
  have HN8 := Lib.hid hw8
  clear hb hw7 hw8
  obtain ⟨bx1, bx2, bx3, bz⟩ := box2 wc6 29 29 #[.bool b7, .slice B7 m7 d7] #[.bool b8, .slice B8 m8 d8]
  have hB := keep_below hB bx1
  have g1 := keep_cell bx1 g1
  have e1 := keep_cell bx1 e1
  have g2 := keep_cell bx1 g2
  have e2 := keep_cell bx1 e2
  have g5 := keep_cell bx1 g5
  have e5 := keep_cell bx1 e5
  have g6 := keep_cell bx1 g6
  have e6 := keep_cell bx1 e6
  have HN3 := Lib.hid (HN3.out.below bx1)
  have HN4 := Lib.hid (HN4.out.below bx1)
  have HN7 := Lib.hid (HN7.out.below bx1)
  have HN8 := Lib.hid (HN8.out.below bx1)
  have g9 : ((wc6.alloc (.cells #[.bool b7, .slice B7 m7 d7] 29)).alloc (.cells #[.bool b8, .slice B8 m8 d8] 29)).cell? ⟨wc6.heap.size, 0, none⟩ = some (.bool b7) := bx2.cell 0
  have e9 : ((wc6.alloc (.cells #[.bool b7, .slice B7 m7 d7] 29)).alloc (.cells #[.bool b8, .slice B8 m8 d8] 29)).cell? ⟨wc6.heap.size, 1, none⟩ = some (.slice B7 m7 d7) := bx2.cell 1
  have g10 : ((wc6.alloc (.cells #[.bool b7, .slice B7 m7 d7] 29)).alloc (.cells #[.bool b8, .slice B8 m8 d8] 29)).cell? ⟨wc6.heap.size + 1, 0, none⟩ = some (.bool b8) := bx3.cell 0
  have e10 : ((wc6.alloc (.cells #[.bool b7, .slice B7 m7 d7] 29)).alloc (.cells #[.bool b8, .slice B8 m8 d8] 29)).cell? ⟨wc6.heap.size + 1, 1, none⟩ = some (.slice B8 m8 d8) := bx3.cell 1
  clear bx1 bx2 bx3 bz
  go_wp2_with fail
  generalize (wc6.alloc (.cells #[.bool b7, .slice B7 m7 d7] 29)).alloc (.cells #[.bool b8, .slice B8 m8 d8] 29) = W7 at *
  generalize wc6.heap.size = q7 at *
  have HZ11 : Hid (Sz (K + K) ((qI x y) * y).natAbs) := SzI.mul HZ7.out HZ4.out
  have C0 := Lib.hid (fun w' (h : Below W7.heap.size W7 w') => HIC.out.mul (qI x y) (y) b7 b4 B7 B4 m7 m4 d7 d4 w' (HT.out _ (keep_below hB h)) (HN7.out.below h) (HN4.out.below h) (by have := Sz.words HZ7.out HN7.out.words; omega) (by have := Sz.words HZ4.out HN4.out.words; omega))
  have HZ12 : Hid (Sz ((K + K) + K + 1) (((qI x y) * y) + (rI x y)).natAbs) := SzI.add HZ11.out HZ8.out
  have C1 := Lib.hid (fun w' (h : Below W7.heap.size W7 w') (b11 : Bool) (B11 : Option Addr) (m11 : Nat) (d11 : Nat) (hw11 : IntIn w' ((qI x y) * y) b11 B11 m11 d11) => HIC.out.add ((qI x y) * y) (rI x y) b11 b8 B11 B8 m11 m8 d11 d8 w' (HT.out _ (keep_below hB h)) hw11 (HN8.out.below h) (by have := Sz.words HZ11.out hw11.words; omega) (by have := Sz.words HZ8.out HN8.out.words; omega))
  have C2 := Lib.hid (fun w' (h : Below W7.heap.size W7 w') (b12 : Bool) (B12 : Option Addr) (m12 : Nat) (d12 : Nat) (hw12 : IntIn w' (((qI x y) * y) + (rI x y)) b12 B12 m12 d12) => icmp_eq (qI_rI _ _) (HIC.out.cmp (((qI x y) * y) + (rI x y)) (x) b12 b3 B12 B3 m12 m3 d12 d3 w' (HT.out _ (keep_below hB h)) hw12 (HN3.out.below h) (by have := Sz.words HZ12.out hw12.words; omega) (by have := Sz.words HZ3.out HN3.out.words; omega)))
  have C3 := Lib.hid (fun w' (h : Below W7.heap.size W7 w') => isgn_of (v := 0) (((sgnZ_eq _).2 Hhr.out)) (HIC.out.sign (rI x y) b8 B8 m8 d8 w' (HT.out _ (keep_below hB h)) (HN8.out.below h) (by have := Sz.words HZ8.out HN8.out.words; omega)))
  have HZ13 : Hid (Sz (K) ((rI x y).natAbs)) := HZ8.out
  have C4 := Lib.hid (fun w' (h : Below W7.heap.size W7 w') => HIC.out.abs (rI x y) b8 B8 m8 d8 w' (HT.out _ (keep_below hB h)) (HN8.out.below h) (by have := Sz.words HZ8.out HN8.out.words; omega))
  have HZ14 : Hid (Sz (K) (y.natAbs)) := HZ4.out
  have C5 := Lib.hid (fun w' (h : Below W7.heap.size W7 w') => HIC.out.abs (y) b4 B4 m4 d4 w' (HT.out _ (keep_below hB h)) (HN4.out.below h) (by have := Sz.words HZ4.out HN4.out.words; omega))
  have C6 := Lib.hid (fun w' (h : Below W7.heap.size W7 w') (B13 : Option Addr) (m13 : Nat) (d13 : Nat) (hw13 : WordsIn w' ((rI x y).natAbs) B13 m13 d13) (B14 : Option Addr) (m14 : Nat) (d14 : Nat) (hw14 : WordsIn w' (y.natAbs) B14 m14 d14) => cmpLt (x := (rI x y).natAbs) (y := y.natAbs) (rI_abs Hhy.out) hw13 hw14 (by have := Sz.words HZ13.out hw13; omega) (by have := Sz.words HZ14.out hw14; omega))
  have hb0 : Below W7.heap.size W7 W7.drew := (Below.refl _ W7).drew
  have j0 : W7.drew.cell? ⟨q7, 0, none⟩ = some (.bool b7) := g9
  have j1 : W7.drew.cell? ⟨q7, 1, none⟩ = some (.slice B7 m7 d7) := e9
  have j2 : W7.drew.cell? ⟨ad5_6, 0, none⟩ = some (.bool b4) := g6
  have j3 : W7.drew.cell? ⟨ad5_6, 1, none⟩ = some (.slice B4 m4 d4) := e6
  have j4 : W7.drew.cell? ⟨q7 + 1, 0, none⟩ = some (.bool b8) := g10
  have j5 : W7.drew.cell? ⟨q7 + 1, 1, none⟩ = some (.slice B8 m8 d8) := e10
  have j6 : W7.drew.cell? ⟨ad4_5, 0, none⟩ = some (.bool b3) := g5
  have j7 : W7.drew.cell? ⟨ad4_5, 1, none⟩ = some (.slice B3 m3 d3) := e5
  refine wp_region_noPanic ?_
  refine wp_region_held_drew (S := (fun w' => Below W7.heap.size W7 w' ∧ w'.cell? ⟨q7, 0, none⟩ = some (.bool b7) ∧ w'.cell? ⟨q7, 1, none⟩ = some (.slice B7 m7 d7) ∧ w'.cell? ⟨ad5_6, 0, none⟩ = some (.bool b4) ∧ w'.cell? ⟨ad5_6, 1, none⟩ = some (.slice B4 m4 d4) ∧ w'.cell? ⟨q7 + 1, 0, none⟩ = some (.bool b8) ∧ w'.cell? ⟨q7 + 1, 1, none⟩ = some (.slice B8 m8 d8) ∧ w'.cell? ⟨ad4_5, 0, none⟩ = some (.bool b3) ∧ w'.cell? ⟨ad4_5, 1, none⟩ = some (.slice B3 m3 d3))) (by kernel_rfl) ?_ (fun hHeld => ?_)
  · exact ⟨hb0, j0, j1, j2, j3, j4, j5, j6, j7⟩
  refine wpAnyH_take (i := 0) (oi := ?_) (v := ?_) (by simp only [List.getElem?_toArray, List.getElem?_cons_succ, List.getElem?_cons_zero]; rfl) (by kernel_rfl) (by kernel_rfl) (by kernel_rfl) (fun _ _ _ h => h) (Or.inl ⟨by rfl, ?_⟩) (by with_reducible assumption) ?_
  rotate_left
  focus ((intro w hSw; (try dsimp only at hSw); go_simp); (try with_reducible rfl))
  try simp only [Act.put, List.setIfInBounds_toArray, List.set_cons_zero, List.set_cons_succ]
  refine wpAnyH_take (i := 1) (oi := ?_) (v := ?_) (by simp only [List.getElem?_toArray, List.getElem?_cons_succ, List.getElem?_cons_zero]; rfl) (by kernel_rfl) (by kernel_rfl) (by kernel_rfl) (fun _ _ _ h => h) (Or.inl ⟨by rfl, ?_⟩) (by with_reducible assumption) ?_
  rotate_left
  focus ((intro w hSw; (try dsimp only at hSw); go_simp); (try with_reducible rfl))
  try simp only [Act.put, List.setIfInBounds_toArray, List.set_cons_zero, List.set_cons_succ]
  refine wpAnyH_take (i := 3) (oi := ?_) (v := ?_) (by simp only [List.getElem?_toArray, List.getElem?_cons_succ, List.getElem?_cons_zero]; rfl) (by kernel_rfl) (by kernel_rfl) (by kernel_rfl) (fun _ _ _ h => h) (Or.inl ⟨by rfl, ?_⟩) (by with_reducible assumption) ?_
  rotate_left
  focus ((intro w hSw; (try dsimp only at hSw); go_simp); (try with_reducible rfl))
  try simp only [Act.put, List.setIfInBounds_toArray, List.set_cons_zero, List.set_cons_succ]
  refine wpAnyH_take (i := 5) (oi := ?_) (v := ?_) (by simp only [List.getElem?_toArray, List.getElem?_cons_succ, List.getElem?_cons_zero]; rfl) (by kernel_rfl) (by kernel_rfl) (by kernel_rfl) (fun _ _ _ h => h) (Or.inl ⟨by rfl, ?_⟩) (by with_reducible assumption) ?_
  rotate_left
  focus ((intro w hSw; (try dsimp only at hSw); go_simp); (try with_reducible rfl))
  try simp only [Act.put, List.setIfInBounds_toArray, List.set_cons_zero, List.set_cons_succ]
  refine wpAnyH_ready (rs := [2]) (by kernel_rfl) (by simp) ?_
  refine AllReadyH.cons (o := ?_) (by simp only [List.getElem?_toArray, List.getElem?_cons_succ, List.getElem?_cons_zero]; rfl) (fun K hK => ?_) AllReadyH.nil
  go_simp
  (go_at_call 20; (with_reducible refine (C0.out _ (by first | with_reducible assumption | exact And.left (by with_reducible assumption))).mono ?_); rintro e wa8 ⟨b11, B11, m11, d11, rfl, hw11, hb⟩; go_split_ands; have hBw : Below W7.heap.size W7 wa8 := keep_below (by with_reducible assumption) hb; have gw0 : wa8.cell? ⟨q7, 0, none⟩ = some (.bool b7) := keep_cell hb (by with_reducible assumption); have gw1 : wa8.cell? ⟨q7, 1, none⟩ = some (.slice B7 m7 d7) := keep_cell hb (by with_reducible assumption); have gw2 : wa8.cell? ⟨ad5_6, 0, none⟩ = some (.bool b4) := keep_cell hb (by with_reducible assumption); have gw3 : wa8.cell? ⟨ad5_6, 1, none⟩ = some (.slice B4 m4 d4) := keep_cell hb (by with_reducible assumption); have gw4 : wa8.cell? ⟨q7 + 1, 0, none⟩ = some (.bool b8) := keep_cell hb (by with_reducible assumption); have gw5 : wa8.cell? ⟨q7 + 1, 1, none⟩ = some (.slice B8 m8 d8) := keep_cell hb (by with_reducible assumption); have gw6 : wa8.cell? ⟨ad4_5, 0, none⟩ = some (.bool b3) := keep_cell hb (by with_reducible assumption); have gw7 : wa8.cell? ⟨ad4_5, 1, none⟩ = some (.slice B3 m3 d3) := keep_cell hb (by with_reducible assumption))
  refine hK.out _ _ ?_ (fun hHeld => ?_)
  · ((try dsimp only); (first | (with_reducible exact ⟨hb0, j0, j1, j2, j3, j4, j5, j6, j7⟩) | (go_split_ands; (repeat' apply And.intro); all_goals (first | with_reducible assumption | with_reducible exact keep_below (by with_reducible assumption) hb | with_reducible exact keep_cell hb (by with_reducible assumption)))))
  clear hK K
  try simp only [Act.put, List.setIfInBounds_toArray, List.set_cons_zero, List.set_cons_succ]
  refine wpAnyH_ready (rs := [4]) (by kernel_rfl) (by simp) ?_
  refine AllReadyH.cons (o := ?_) (by simp only [List.getElem?_toArray, List.getElem?_cons_succ, List.getElem?_cons_zero]; rfl) (fun K hK => ?_) AllReadyH.nil
  go_simp
  (go_at_call 17; (with_reducible refine (C1.out _ (by first | with_reducible assumption | exact And.left (by with_reducible assumption)) _ _ _ _ hw11).mono ?_); rintro e wa9 ⟨b12, B12, m12, d12, rfl, hw12, hb⟩; go_split_ands; have hBw : Below W7.heap.size W7 wa9 := keep_below (by with_reducible assumption) hb; have gw0 : wa9.cell? ⟨q7, 0, none⟩ = some (.bool b7) := keep_cell hb (by with_reducible assumption); have gw1 : wa9.cell? ⟨q7, 1, none⟩ = some (.slice B7 m7 d7) := keep_cell hb (by with_reducible assumption); have gw2 : wa9.cell? ⟨ad5_6, 0, none⟩ = some (.bool b4) := keep_cell hb (by with_reducible assumption); have gw3 : wa9.cell? ⟨ad5_6, 1, none⟩ = some (.slice B4 m4 d4) := keep_cell hb (by with_reducible assumption); have gw4 : wa9.cell? ⟨q7 + 1, 0, none⟩ = some (.bool b8) := keep_cell hb (by with_reducible assumption); have gw5 : wa9.cell? ⟨q7 + 1, 1, none⟩ = some (.slice B8 m8 d8) := keep_cell hb (by with_reducible assumption); have gw6 : wa9.cell? ⟨ad4_5, 0, none⟩ = some (.bool b3) := keep_cell hb (by with_reducible assumption); have gw7 : wa9.cell? ⟨ad4_5, 1, none⟩ = some (.slice B3 m3 d3) := keep_cell hb (by with_reducible assumption); (with_reducible have hw11 := hw11.below hb))
  refine hK.out _ _ ?_ (fun hHeld => ?_)
  · ((try dsimp only); (first | (with_reducible exact ⟨hb0, j0, j1, j2, j3, j4, j5, j6, j7⟩) | (go_split_ands; (repeat' apply And.intro); all_goals (first | with_reducible assumption | with_reducible exact keep_below (by with_reducible assumption) hb | with_reducible exact keep_cell hb (by with_reducible assumption)))))
  clear hK K
  try simp only [Act.put, List.setIfInBounds_toArray, List.set_cons_zero, List.set_cons_succ]
  refine wpAnyH_ready (rs := [6]) (by kernel_rfl) (by simp) ?_
  refine AllReadyH.cons (o := ?_) (by simp only [List.getElem?_toArray, List.getElem?_cons_succ, List.getElem?_cons_zero]; rfl) (fun K hK => ?_) AllReadyH.nil
  go_simp
  (go_at_call 22; (with_reducible refine (C2.out _ (by first | with_reducible assumption | exact And.left (by with_reducible assumption)) _ _ _ _ hw12).mono ?_); rintro e wa10 ⟨rfl, hb⟩; go_split_ands; have hBw : Below W7.heap.size W7 wa10 := keep_below (by with_reducible assumption) hb; have gw0 : wa10.cell? ⟨q7, 0, none⟩ = some (.bool b7) := keep_cell hb (by with_reducible assumption); have gw1 : wa10.cell? ⟨q7, 1, none⟩ = some (.slice B7 m7 d7) := keep_cell hb (by with_reducible assumption); have gw2 : wa10.cell? ⟨ad5_6, 0, none⟩ = some (.bool b4) := keep_cell hb (by with_reducible assumption); have gw3 : wa10.cell? ⟨ad5_6, 1, none⟩ = some (.slice B4 m4 d4) := keep_cell hb (by with_reducible assumption); have gw4 : wa10.cell? ⟨q7 + 1, 0, none⟩ = some (.bool b8) := keep_cell hb (by with_reducible assumption); have gw5 : wa10.cell? ⟨q7 + 1, 1, none⟩ = some (.slice B8 m8 d8) := keep_cell hb (by with_reducible assumption); have gw6 : wa10.cell? ⟨ad4_5, 0, none⟩ = some (.bool b3) := keep_cell hb (by with_reducible assumption); have gw7 : wa10.cell? ⟨ad4_5, 1, none⟩ = some (.slice B3 m3 d3) := keep_cell hb (by with_reducible assumption); (with_reducible have hw11 := hw11.below hb); (with_reducible have hw12 := hw12.below hb))
  refine hK.out _ _ ?_ (fun hHeld => ?_)
  · ((try dsimp only); (first | (with_reducible exact ⟨hb0, j0, j1, j2, j3, j4, j5, j6, j7⟩) | (go_split_ands; (repeat' apply And.intro); all_goals (first | with_reducible assumption | with_reducible exact keep_below (by with_reducible assumption) hb | with_reducible exact keep_cell hb (by with_reducible assumption)))))
  clear hK K
  try simp only [Act.put, List.setIfInBounds_toArray, List.set_cons_zero, List.set_cons_succ]
  refine wpAnyH_take (i := 7) (oi := ?_) (v := ?_) (by simp only [List.getElem?_toArray, List.getElem?_cons_succ, List.getElem?_cons_zero]; rfl) (by kernel_rfl) (by kernel_rfl) (by kernel_rfl) (fun _ _ _ h => h) (Or.inl ⟨by rfl, ?_⟩) (by with_reducible assumption) ?_
  rotate_left
  focus ((intro w hSw; (try dsimp only at hSw); go_simp); (try with_reducible rfl))
  try simp only [Act.put, List.setIfInBounds_toArray, List.set_cons_zero, List.set_cons_succ]
  refine wpAnyH_take (i := 8) (oi := ?_) (v := ?_) (by simp only [List.getElem?_toArray, List.getElem?_cons_succ, List.getElem?_cons_zero]; rfl) (by kernel_rfl) (by kernel_rfl) (by kernel_rfl) (fun _ _ _ h => h) (Or.inl ⟨by rfl, ?_⟩) (by with_reducible assumption) ?_
  rotate_left
  focus ((intro w hSw; (try dsimp only at hSw); go_simp); (try with_reducible rfl))
  try simp only [Act.put, List.setIfInBounds_toArray, List.set_cons_zero, List.set_cons_succ]
  refine wpAnyH_take (i := 9) (oi := ?_) (v := ?_) (by simp only [List.getElem?_toArray, List.getElem?_cons_succ, List.getElem?_cons_zero]; rfl) (by kernel_rfl) (by kernel_rfl) (by kernel_rfl) (fun _ _ _ h => h) (Or.inl ⟨by rfl, ?_⟩) (by with_reducible assumption) ?_
  rotate_left
  focus ((intro w hSw; (try dsimp only at hSw); go_simp); (try with_reducible rfl))
  try simp only [Act.put, List.setIfInBounds_toArray, List.set_cons_zero, List.set_cons_succ]
  refine wpAnyH_ready (rs := [10]) (by kernel_rfl) (by simp) ?_
  refine AllReadyH.cons (o := ?_) (by simp only [List.getElem?_toArray, List.getElem?_cons_succ, List.getElem?_cons_zero]; rfl) (fun K hK => ?_) AllReadyH.nil
  go_simp
  (go_at_call 25; (with_reducible refine (C3.out _ (by first | with_reducible assumption | exact And.left (by with_reducible assumption))).mono ?_); rintro e wa11 ⟨rfl, hb⟩; go_split_ands; have hBw : Below W7.heap.size W7 wa11 := keep_below (by with_reducible assumption) hb; have gw0 : wa11.cell? ⟨q7, 0, none⟩ = some (.bool b7) := keep_cell hb (by with_reducible assumption); have gw1 : wa11.cell? ⟨q7, 1, none⟩ = some (.slice B7 m7 d7) := keep_cell hb (by with_reducible assumption); have gw2 : wa11.cell? ⟨ad5_6, 0, none⟩ = some (.bool b4) := keep_cell hb (by with_reducible assumption); have gw3 : wa11.cell? ⟨ad5_6, 1, none⟩ = some (.slice B4 m4 d4) := keep_cell hb (by with_reducible assumption); have gw4 : wa11.cell? ⟨q7 + 1, 0, none⟩ = some (.bool b8) := keep_cell hb (by with_reducible assumption); have gw5 : wa11.cell? ⟨q7 + 1, 1, none⟩ = some (.slice B8 m8 d8) := keep_cell hb (by with_reducible assumption); have gw6 : wa11.cell? ⟨ad4_5, 0, none⟩ = some (.bool b3) := keep_cell hb (by with_reducible assumption); have gw7 : wa11.cell? ⟨ad4_5, 1, none⟩ = some (.slice B3 m3 d3) := keep_cell hb (by with_reducible assumption); (with_reducible have hw11 := hw11.below hb); (with_reducible have hw12 := hw12.below hb))
  refine hK.out _ _ ?_ (fun hHeld => ?_)
  · ((try dsimp only); (first | (with_reducible exact ⟨hb0, j0, j1, j2, j3, j4, j5, j6, j7⟩) | (go_split_ands; (repeat' apply And.intro); all_goals (first | with_reducible assumption | with_reducible exact keep_below (by with_reducible assumption) hb | with_reducible exact keep_cell hb (by with_reducible assumption)))))
  clear hK K
  try simp only [Act.put, List.setIfInBounds_toArray, List.set_cons_zero, List.set_cons_succ]
  refine wpAnyH_take (i := 11) (oi := ?_) (v := ?_) (by simp only [List.getElem?_toArray, List.getElem?_cons_succ, List.getElem?_cons_zero]; rfl) (by kernel_rfl) (by kernel_rfl) (by kernel_rfl) (fun _ _ _ h => h) (Or.inl ⟨by rfl, ?_⟩) (by with_reducible assumption) ?_
  rotate_left
  focus ((intro w hSw; (try dsimp only at hSw); go_simp); (try with_reducible rfl))
  try simp only [Act.put, List.setIfInBounds_toArray, List.set_cons_zero, List.set_cons_succ]
  refine wpAnyH_take (i := 12) (oi := ?_) (v := ?_) (by simp only [List.getElem?_toArray, List.getElem?_cons_succ, List.getElem?_cons_zero]; rfl) (by kernel_rfl) (by kernel_rfl) (by kernel_rfl) (fun _ _ _ h => h) (Or.inl ⟨by rfl, ?_⟩) (by with_reducible assumption) ?_
  rotate_left
  focus ((intro w hSw; (try dsimp only at hSw); go_simp); (try with_reducible rfl))
  try simp only [Act.put, List.setIfInBounds_toArray, List.set_cons_zero, List.set_cons_succ]
  refine wpAnyH_take (i := 13) (oi := ?_) (v := undef) (by simp only [List.getElem?_toArray, List.getElem?_cons_succ, List.getElem?_cons_zero]; rfl) (by kernel_rfl) (by kernel_rfl) (by kernel_rfl) (fun _ _ _ h => h) (Or.inr ⟨by rfl, rfl⟩) (by with_reducible assumption) ?_
  try simp only [Act.put, List.setIfInBounds_toArray, List.set_cons_zero, List.set_cons_succ]
  refine wpAnyH_take (i := 14) (oi := ?_) (v := undef) (by simp only [List.getElem?_toArray, List.getElem?_cons_succ, List.getElem?_cons_zero]; rfl) (by kernel_rfl) (by kernel_rfl) (by kernel_rfl) (fun _ _ _ h => h) (Or.inr ⟨by rfl, rfl⟩) (by with_reducible assumption) ?_
  try simp only [Act.put, List.setIfInBounds_toArray, List.set_cons_zero, List.set_cons_succ]
  refine wpAnyH_take (i := 15) (oi := ?_) (v := undef) (by simp only [List.getElem?_toArray, List.getElem?_cons_succ, List.getElem?_cons_zero]; rfl) (by kernel_rfl) (by kernel_rfl) (by kernel_rfl) (fun _ _ _ h => h) (Or.inr ⟨by rfl, rfl⟩) (by with_reducible assumption) ?_
  try simp only [Act.put, List.setIfInBounds_toArray, List.set_cons_zero, List.set_cons_succ]
  refine wpAnyH_take (i := 16) (oi := ?_) (v := undef) (by simp only [List.getElem?_toArray, List.getElem?_cons_succ, List.getElem?_cons_zero]; rfl) (by kernel_rfl) (by kernel_rfl) (by kernel_rfl) (fun _ _ _ h => h) (Or.inr ⟨by rfl, rfl⟩) (by with_reducible assumption) ?_
  try simp only [Act.put, List.setIfInBounds_toArray, List.set_cons_zero, List.set_cons_succ]
  refine wpAnyH_take (i := 17) (oi := ?_) (v := undef) (by simp only [List.getElem?_toArray, List.getElem?_cons_succ, List.getElem?_cons_zero]; rfl) (by kernel_rfl) (by kernel_rfl) (by kernel_rfl) (fun _ _ _ h => h) (Or.inr ⟨by rfl, rfl⟩) (by with_reducible assumption) ?_
  try simp only [Act.put, List.setIfInBounds_toArray, List.set_cons_zero, List.set_cons_succ]
  refine wpAnyH_take (i := 18) (oi := ?_) (v := ?_) (by simp only [List.getElem?_toArray, List.getElem?_cons_succ, List.getElem?_cons_zero]; rfl) (by kernel_rfl) (by kernel_rfl) (by kernel_rfl) (fun _ _ _ h => h) (Or.inl ⟨by rfl, ?_⟩) (by with_reducible assumption) ?_
  rotate_left
  focus ((intro w hSw; (try dsimp only at hSw); go_simp); (try with_reducible rfl))
  try simp only [Act.put, List.setIfInBounds_toArray, List.set_cons_zero, List.set_cons_succ]
  refine wpAnyH_take (i := 19) (oi := ?_) (v := ?_) (by simp only [List.getElem?_toArray, List.getElem?_cons_succ, List.getElem?_cons_zero]; rfl) (by kernel_rfl) (by kernel_rfl) (by kernel_rfl) (fun _ _ _ h => h) (Or.inl ⟨by rfl, ?_⟩) (by with_reducible assumption) ?_
  rotate_left
  focus ((intro w hSw; (try dsimp only at hSw); go_simp); (try with_reducible rfl))
  try simp only [Act.put, List.setIfInBounds_toArray, List.set_cons_zero, List.set_cons_succ]
  refine wpAnyH_take (i := 20) (oi := ?_) (v := ?_) (by simp only [List.getElem?_toArray, List.getElem?_cons_succ, List.getElem?_cons_zero]; rfl) (by kernel_rfl) (by kernel_rfl) (by kernel_rfl) (fun _ _ _ h => h) (Or.inl ⟨by rfl, ?_⟩) (by with_reducible assumption) ?_
  rotate_left
  focus ((intro w hSw; (try dsimp only at hSw); go_simp); (try with_reducible rfl))
  try simp only [Act.put, List.setIfInBounds_toArray, List.set_cons_zero, List.set_cons_succ]
  refine wpAnyH_take (i := 21) (oi := ?_) (v := ?_) (by simp only [List.getElem?_toArray, List.getElem?_cons_succ, List.getElem?_cons_zero]; rfl) (by kernel_rfl) (by kernel_rfl) (by kernel_rfl) (fun _ _ _ h => h) (Or.inl ⟨by rfl, ?_⟩) (by with_reducible assumption) ?_
  rotate_left
  focus ((intro w hSw; (try dsimp only at hSw); go_simp); (try with_reducible rfl))
  try simp only [Act.put, List.setIfInBounds_toArray, List.set_cons_zero, List.set_cons_succ]
  refine wpAnyH_take (i := 23) (oi := ?_) (v := ?_) (by simp only [List.getElem?_toArray, List.getElem?_cons_succ, List.getElem?_cons_zero]; rfl) (by kernel_rfl) (by kernel_rfl) (by kernel_rfl) (fun _ _ _ h => h) (Or.inl ⟨by rfl, ?_⟩) (by with_reducible assumption) ?_
  rotate_left
  focus ((intro w hSw; (try dsimp only at hSw); go_simp); (try with_reducible rfl))
  try simp only [Act.put, List.setIfInBounds_toArray, List.set_cons_zero, List.set_cons_succ]
  refine wpAnyH_ready (rs := [22]) (by kernel_rfl) (by simp) ?_
  refine AllReadyH.cons (o := ?_) (by simp only [List.getElem?_toArray, List.getElem?_cons_succ, List.getElem?_cons_zero]; rfl) (fun K hK => ?_) AllReadyH.nil
  go_simp
  (go_at_call 35; (with_reducible refine (C4.out _ (by first | with_reducible assumption | exact And.left (by with_reducible assumption))).mono ?_); rintro e wa12 ⟨B13, m13, d13, rfl, hw13, hb⟩; go_split_ands; have hBw : Below W7.heap.size W7 wa12 := keep_below (by with_reducible assumption) hb; have gw0 : wa12.cell? ⟨q7, 0, none⟩ = some (.bool b7) := keep_cell hb (by with_reducible assumption); have gw1 : wa12.cell? ⟨q7, 1, none⟩ = some (.slice B7 m7 d7) := keep_cell hb (by with_reducible assumption); have gw2 : wa12.cell? ⟨ad5_6, 0, none⟩ = some (.bool b4) := keep_cell hb (by with_reducible assumption); have gw3 : wa12.cell? ⟨ad5_6, 1, none⟩ = some (.slice B4 m4 d4) := keep_cell hb (by with_reducible assumption); have gw4 : wa12.cell? ⟨q7 + 1, 0, none⟩ = some (.bool b8) := keep_cell hb (by with_reducible assumption); have gw5 : wa12.cell? ⟨q7 + 1, 1, none⟩ = some (.slice B8 m8 d8) := keep_cell hb (by with_reducible assumption); have gw6 : wa12.cell? ⟨ad4_5, 0, none⟩ = some (.bool b3) := keep_cell hb (by with_reducible assumption); have gw7 : wa12.cell? ⟨ad4_5, 1, none⟩ = some (.slice B3 m3 d3) := keep_cell hb (by with_reducible assumption); (with_reducible have hw11 := hw11.below hb); (with_reducible have hw12 := hw12.below hb))
  refine hK.out _ _ ?_ (fun hHeld => ?_)
  · ((try dsimp only); (first | (with_reducible exact ⟨hb0, j0, j1, j2, j3, j4, j5, j6, j7⟩) | (go_split_ands; (repeat' apply And.intro); all_goals (first | with_reducible assumption | with_reducible exact keep_below (by with_reducible assumption) hb | with_reducible exact keep_cell hb (by with_reducible assumption)))))
  clear hK K
  try simp only [Act.put, List.setIfInBounds_toArray, List.set_cons_zero, List.set_cons_succ]
  refine wpAnyH_ready (rs := [24]) (by kernel_rfl) (by simp) ?_
  refine AllReadyH.cons (o := ?_) (by simp only [List.getElem?_toArray, List.getElem?_cons_succ, List.getElem?_cons_zero]; rfl) (fun K hK => ?_) AllReadyH.nil
  go_simp
  (go_at_call 35; (with_reducible refine (C5.out _ (by first | with_reducible assumption | exact And.left (by with_reducible assumption))).mono ?_); rintro e wa13 ⟨B14, m14, d14, rfl, hw14, hb⟩; go_split_ands; have hBw : Below W7.heap.size W7 wa13 := keep_below (by with_reducible assumption) hb; have gw0 : wa13.cell? ⟨q7, 0, none⟩ = some (.bool b7) := keep_cell hb (by with_reducible assumption); have gw1 : wa13.cell? ⟨q7, 1, none⟩ = some (.slice B7 m7 d7) := keep_cell hb (by with_reducible assumption); have gw2 : wa13.cell? ⟨ad5_6, 0, none⟩ = some (.bool b4) := keep_cell hb (by with_reducible assumption); have gw3 : wa13.cell? ⟨ad5_6, 1, none⟩ = some (.slice B4 m4 d4) := keep_cell hb (by with_reducible assumption); have gw4 : wa13.cell? ⟨q7 + 1, 0, none⟩ = some (.bool b8) := keep_cell hb (by with_reducible assumption); have gw5 : wa13.cell? ⟨q7 + 1, 1, none⟩ = some (.slice B8 m8 d8) := keep_cell hb (by with_reducible assumption); have gw6 : wa13.cell? ⟨ad4_5, 0, none⟩ = some (.bool b3) := keep_cell hb (by with_reducible assumption); have gw7 : wa13.cell? ⟨ad4_5, 1, none⟩ = some (.slice B3 m3 d3) := keep_cell hb (by with_reducible assumption); (with_reducible have hw11 := hw11.below hb); (with_reducible have hw12 := hw12.below hb); (with_reducible have hw13 := hw13.below hb))
  refine hK.out _ _ ?_ (fun hHeld => ?_)
  · ((try dsimp only); (first | (with_reducible exact ⟨hb0, j0, j1, j2, j3, j4, j5, j6, j7⟩) | (go_split_ands; (repeat' apply And.intro); all_goals (first | with_reducible assumption | with_reducible exact keep_below (by with_reducible assumption) hb | with_reducible exact keep_cell hb (by with_reducible assumption)))))
  clear hK K
  try simp only [Act.put, List.setIfInBounds_toArray, List.set_cons_zero, List.set_cons_succ]
  refine wpAnyH_ready (rs := [25]) (by kernel_rfl) (by simp) ?_
  refine AllReadyH.cons (o := ?_) (by simp only [List.getElem?_toArray, List.getElem?_cons_succ, List.getElem?_cons_zero]; rfl) (fun K hK => ?_) AllReadyH.nil
  go_simp
  (go_at_call 34; (with_reducible refine (C6.out _ (by first | with_reducible assumption | exact And.left (by with_reducible assumption)) _ _ _ hw13 _ _ _ hw14).mono ?_); rintro e wa14 ⟨rfl, hb⟩; go_split_ands; have hBw : Below W7.heap.size W7 wa14 := keep_below (by with_reducible assumption) hb; have gw0 : wa14.cell? ⟨q7, 0, none⟩ = some (.bool b7) := keep_cell hb (by with_reducible assumption); have gw1 : wa14.cell? ⟨q7, 1, none⟩ = some (.slice B7 m7 d7) := keep_cell hb (by with_reducible assumption); have gw2 : wa14.cell? ⟨ad5_6, 0, none⟩ = some (.bool b4) := keep_cell hb (by with_reducible assumption); have gw3 : wa14.cell? ⟨ad5_6, 1, none⟩ = some (.slice B4 m4 d4) := keep_cell hb (by with_reducible assumption); have gw4 : wa14.cell? ⟨q7 + 1, 0, none⟩ = some (.bool b8) := keep_cell hb (by with_reducible assumption); have gw5 : wa14.cell? ⟨q7 + 1, 1, none⟩ = some (.slice B8 m8 d8) := keep_cell hb (by with_reducible assumption); have gw6 : wa14.cell? ⟨ad4_5, 0, none⟩ = some (.bool b3) := keep_cell hb (by with_reducible assumption); have gw7 : wa14.cell? ⟨ad4_5, 1, none⟩ = some (.slice B3 m3 d3) := keep_cell hb (by with_reducible assumption); (with_reducible have hw11 := hw11.below hb); (with_reducible have hw12 := hw12.below hb); (with_reducible have hw13 := hw13.below hb); (with_reducible have hw14 := hw14.below hb))
  refine hK.out _ _ ?_ (fun hHeld => ?_)
  · ((try dsimp only); (first | (with_reducible exact ⟨hb0, j0, j1, j2, j3, j4, j5, j6, j7⟩) | (go_split_ands; (repeat' apply And.intro); all_goals (first | with_reducible assumption | with_reducible exact keep_below (by with_reducible assumption) hb | with_reducible exact keep_cell hb (by with_reducible assumption)))))
  clear hK K
  try simp only [Act.put, List.setIfInBounds_toArray, List.set_cons_zero, List.set_cons_succ]
  refine wpAnyH_take (i := 26) (oi := ?_) (v := ?_) (by simp only [List.getElem?_toArray, List.getElem?_cons_succ, List.getElem?_cons_zero]; rfl) (by kernel_rfl) (by kernel_rfl) (by kernel_rfl) (fun _ _ _ h => h) (Or.inl ⟨by rfl, ?_⟩) (by with_reducible assumption) ?_
  rotate_left
  focus ((intro w hSw; (try dsimp only at hSw); go_simp); (try with_reducible rfl))
  try simp only [Act.put, List.setIfInBounds_toArray, List.set_cons_zero, List.set_cons_succ]
  refine wpAnyH_take (i := 27) (oi := ?_) (v := ?_) (by simp only [List.getElem?_toArray, List.getElem?_cons_succ, List.getElem?_cons_zero]; rfl) (by kernel_rfl) (by kernel_rfl) (by kernel_rfl) (fun _ _ _ h => h) (Or.inl ⟨by rfl, ?_⟩) (by with_reducible assumption) ?_
  rotate_left
  focus ((intro w hSw; (try dsimp only at hSw); go_simp); (try with_reducible rfl))
  try simp only [Act.put, List.setIfInBounds_toArray, List.set_cons_zero, List.set_cons_succ]
  refine wpAnyH_take (i := 28) (oi := ?_) (v := ?_) (by simp only [List.getElem?_toArray, List.getElem?_cons_succ, List.getElem?_cons_zero]; rfl) (by kernel_rfl) (by kernel_rfl) (by kernel_rfl) (fun _ _ _ h => h) (Or.inl ⟨by rfl, ?_⟩) (by with_reducible assumption) ?_
  rotate_left
  focus ((intro w hSw; (try dsimp only at hSw); go_simp); (try with_reducible rfl))
  try simp only [Act.put, List.setIfInBounds_toArray, List.set_cons_zero, List.set_cons_succ]
  refine wpAnyH_done (by kernel_rfl) ?_ _
  refine NoPanic.normal ?_
  clear hb
  have hB := keep_below hB hBw
  have g1 := keep_cell hBw g1
  have e1 := keep_cell hBw e1
  have g2 := keep_cell hBw g2
  have e2 := keep_cell hBw e2
  have g5 := keep_cell hBw g5
  have e5 := keep_cell hBw e5
  have g6 := keep_cell hBw g6
  have e6 := keep_cell hBw e6
  have HN3 := Lib.hid (HN3.out.below hBw)
  have HN4 := Lib.hid (HN4.out.below hBw)
  have HN7 := Lib.hid (HN7.out.below hBw)
  have HN8 := Lib.hid (HN8.out.below hBw)
  have g9 := keep_cell hBw g9
  have e9 := keep_cell hBw e9
  have g10 := keep_cell hBw g10
  have e10 := keep_cell hBw e10
  have HN11 := Lib.hid hw11
  have HN12 := Lib.hid hw12
  have HN13 := Lib.hid hw13
  have HN14 := Lib.hid hw14
  clear hb0 hBw gw0 gw1 gw2 gw3 gw4 gw5 gw6 gw7 hw11 hw12 hw13 hw14
  clear j0
  clear j1
  clear j2
  clear j3
  clear j4
  clear j5
  clear j6
  clear j7
  clear C0 C1 C2 C3 C4 C5 C6
  go_wp2
  go_ret
  exact ⟨by first | rfl | simp, hB⟩
set_option maxHeartbeats 16000000 in
theorem integerBack_1 {T : World → Prop} (hTb : ∀ w w', T w → Below w.heap.size w w' → T w') (IC : IntC T) (s0 : Bool) (A0 : Option Addr) (n0 c0 : Nat) (l0 : List Nat) (s1 : Bool) (A1 : Option Addr) (n1 c1 : Nat) (l1 : List Nat) (w : World) (h0 : ArgWords w A0 n0 c0 l0) (h1 : ArgWords w A1 n1 c1 l1) (hy : zOf s1 l1 ≠ 0) (hr : 0 < rI (zOf s0 l0) (zOf s1 l1)) (hs : 0 < zOf s1 l1) (hT : T w) :
    Calls Try.prog 8 #[.agg #[.bool s0, .slice A0 n0 c0], .agg #[.bool s1, .slice A1 n1 c1]] w fun e w' => e = .returned (.bool true) ∧ Below w.heap.size w w' := by
  have HAW := Lib.hid (fun w' (hb : Below w.heap.size w w') => law7_awake hTb IC w' (hTb w w' hT hb))
  have HIC := Lib.hid IC
  have HT := Lib.hid (fun w' (hb : Below w.heap.size w w') => hTb w w' hT hb)
  obtain ⟨K, hK⟩ : ∃ K, 1048576 = K := ⟨_, rfl⟩
  have hKK : K ≤ 1048576 := by omega
  have HM0 := Lib.hid (fun w' (hb : Below w.heap.size w w') => law7_make hTb IC s0 A0 n0 c0 l0 w' ⟨(h0.reads.below hb).more hb.size, h0.dgs, h0.fits, h0.small⟩ (hTb w w' hT hb))
  have S0 : Sz 1048576 (zOf s0 l0).natAbs := by rw [zOf_abs]; exact arg_sz h0
  rw [hK] at S0
  obtain ⟨x, hz0⟩ : ∃ x, zOf s0 l0 = x := ⟨_, rfl⟩
  rw [hz0] at HM0 S0 hr
  have HS0 := Lib.hid S0
  have HM1 := Lib.hid (fun w' (hb : Below w.heap.size w w') => law7_make hTb IC s1 A1 n1 c1 l1 w' ⟨(h1.reads.below hb).more hb.size, h1.dgs, h1.fits, h1.small⟩ (hTb w w' hT hb))
  have S1 : Sz 1048576 (zOf s1 l1).natAbs := by rw [zOf_abs]; exact arg_sz h1
  rw [hK] at S1
  obtain ⟨y, hz1⟩ : ∃ x, zOf s1 l1 = x := ⟨_, rfl⟩
  rw [hz1] at HM1 S1 hy hr hs
  have HS1 := Lib.hid S1
  have Hhy := Lib.hid hy
  have Hhr := Lib.hid hr
  have Hhs := Lib.hid hs
  clear IC hT h0 hz0 S0 h1 hz1 S1 hy hr hs hK
  go_enter Try.func8, Try.ntmps8
  have hB := Below.refl w.heap.size w
  obtain ⟨bx1, bx2, bx3, bz⟩ := box2 w 24 24 #[.bool s0, .slice A0 n0 c0] #[.bool s1, .slice A1 n1 c1]
  have hB := keep_below hB bx1
  have g1 : ((w.alloc (.cells #[.bool s0, .slice A0 n0 c0] 24)).alloc (.cells #[.bool s1, .slice A1 n1 c1] 24)).cell? ⟨w.heap.size, 0, none⟩ = some (.bool s0) := bx2.cell 0
  have e1 : ((w.alloc (.cells #[.bool s0, .slice A0 n0 c0] 24)).alloc (.cells #[.bool s1, .slice A1 n1 c1] 24)).cell? ⟨w.heap.size, 1, none⟩ = some (.slice A0 n0 c0) := bx2.cell 1
  have g2 : ((w.alloc (.cells #[.bool s0, .slice A0 n0 c0] 24)).alloc (.cells #[.bool s1, .slice A1 n1 c1] 24)).cell? ⟨w.heap.size + 1, 0, none⟩ = some (.bool s1) := bx3.cell 0
  have e2 : ((w.alloc (.cells #[.bool s0, .slice A0 n0 c0] 24)).alloc (.cells #[.bool s1, .slice A1 n1 c1] 24)).cell? ⟨w.heap.size + 1, 1, none⟩ = some (.slice A1 n1 c1) := bx3.cell 1
  clear bx1 bx2 bx3 bz
  go_wp2_with fail
  generalize (w.alloc (.cells #[.bool s0, .slice A0 n0 c0] 24)).alloc (.cells #[.bool s1, .slice A1 n1 c1] 24) = W1 at *
  (with_reducible refine (HAW.out _ hB).mono ?_)
  rintro e wc2 ⟨rfl, hb⟩
  have hB := keep_below hB hb
  have g1 := keep_cell hb g1
  have e1 := keep_cell hb e1
  have g2 := keep_cell hb g2
  have e2 := keep_cell hb e2
  clear hb 
  go_wp2_with fail
  have HZ3 : Hid (Sz (K) (x).natAbs) := HS0.out
  have C0 := Lib.hid (fun w' (h : Below wc2.heap.size wc2 w') => HM0.out _ (keep_below hB h))
  have HZ4 : Hid (Sz (K) (y).natAbs) := HS1.out
  have C1 := Lib.hid (fun w' (h : Below wc2.heap.size wc2 w') => HM1.out _ (keep_below hB h))
  have G0 := Lib.hid (fun w' (h : Below wc2.heap.size wc2 w') => (⟨keep_cell h g1, keep_cell h e1⟩ : w'.cell? ⟨w.heap.size, 0, none⟩ = some (.bool s0) ∧ w'.cell? ⟨w.heap.size, 1, none⟩ = some (.slice A0 n0 c0)))
  have G1 := Lib.hid (fun w' (h : Below wc2.heap.size wc2 w') => (⟨keep_cell h g2, keep_cell h e2⟩ : w'.cell? ⟨w.heap.size + 1, 0, none⟩ = some (.bool s1) ∧ w'.cell? ⟨w.heap.size + 1, 1, none⟩ = some (.slice A1 n1 c1)))
  refine wp_region_noPanic ?_
  refine wp_region_held_drew (S := (fun w' => Below wc2.heap.size wc2 w')) (by kernel_rfl) ?_ (fun hHeld => ?_)
  · exact (Below.refl _ wc2).drew
  refine wpAnyH_take (i := 0) (oi := ?_) (v := ?_) (by simp only [List.getElem?_toArray, List.getElem?_cons_succ, List.getElem?_cons_zero]; rfl) (by kernel_rfl) (by kernel_rfl) (by kernel_rfl) (fun _ _ _ h => h) (Or.inl ⟨by rfl, ?_⟩) (by with_reducible assumption) ?_
  rotate_left
  focus ((intro wz hSw; (try dsimp only at hSw); obtain ⟨z0, z1⟩ := G0.out wz hSw; go_simp); (try with_reducible rfl))
  try simp only [Act.put, List.setIfInBounds_toArray, List.set_cons_zero, List.set_cons_succ]
  refine wpAnyH_take (i := 2) (oi := ?_) (v := ?_) (by simp only [List.getElem?_toArray, List.getElem?_cons_succ, List.getElem?_cons_zero]; rfl) (by kernel_rfl) (by kernel_rfl) (by kernel_rfl) (fun _ _ _ h => h) (Or.inl ⟨by rfl, ?_⟩) (by with_reducible assumption) ?_
  rotate_left
  focus ((intro wz hSw; (try dsimp only at hSw); obtain ⟨z0, z1⟩ := G1.out wz hSw; go_simp); (try with_reducible rfl))
  try simp only [Act.put, List.setIfInBounds_toArray, List.set_cons_zero, List.set_cons_succ]
  refine wpAnyH_meet (L := #[true, true, true, true, true, true, false, false])
    (J := fun a0 l a w' => ∃ (fl1 fl3 fl4 fl5 : Bool) (vl13 vl15 vl5 vl6 : Value) (b3 : Bool) (B3 : Option Addr) (m3 d3 : Nat) (b4 : Bool) (B4 : Option Addr) (m4 d4 ad4 ad5 : Nat), l = #[true, fl1, true, fl3, fl4, fl5, false, false] ∧ a = (((a0.put (some 13) vl13).put (some 15) vl15).put (some 5) vl5).put (some 6) vl6 ∧ Hid (Below wc2.heap.size wc2 w') ∧
      Hid (Gd fl1 (vl13 = .agg #[.bool b3, .slice B3 m3 d3] ∧ IntIn w' (x) b3 B3 m3 d3)) ∧
      Hid (Gd fl3 (vl15 = .agg #[.bool b4, .slice B4 m4 d4] ∧ IntIn w' (y) b4 B4 m4 d4)) ∧
      Hid (Gd fl4 (Made wc2.heap.size w' ad4 29 #[.bool false, .slice none 0 0] vl5)) ∧
      Hid (Gd fl5 (Made wc2.heap.size w' ad5 29 #[.bool false, .slice none 0 0] vl6)) ∧
      Hid (Gd fl4 (Gd fl5 (ad4 ≠ ad5))) ∧
      Hid (Gd fl3 (fl1 = true)))
    (by rfl) ?_ ?_ ?_ ?_
  · exact ⟨false, false, false, false, _, _, _, _, false, none, 0, 0, false, none, 0, 0, 0, 0, by kernel_rfl, by rfl, hHeld, Gd.no, Gd.no, Gd.no, Gd.no, Gd.no, Gd.no⟩
  · rintro l a w' ⟨fl1, fl3, fl4, fl5, vl13, vl15, vl5, vl6, b3, B3, m3, d3, b4, B4, m4, d4, ad4, ad5, rfl, rfl, -⟩ hr
    have xx1 : fl1 = true := by refine all_listed (i := 1) (o := ?_) hr (by simp only [List.getElem?_toArray, List.getElem?_cons_succ, List.getElem?_cons_zero]; rfl) ?_; rfl
    subst xx1
    have xx3 : fl3 = true := by refine all_listed (i := 3) (o := ?_) hr (by simp only [List.getElem?_toArray, List.getElem?_cons_succ, List.getElem?_cons_zero]; rfl) ?_; rfl
    subst xx3
    have xx4 : fl4 = true := by refine all_listed (i := 4) (o := ?_) hr (by simp only [List.getElem?_toArray, List.getElem?_cons_succ, List.getElem?_cons_zero]; rfl) ?_; rfl
    subst xx4
    have xx5 : fl5 = true := by refine all_listed (i := 5) (o := ?_) hr (by simp only [List.getElem?_toArray, List.getElem?_cons_succ, List.getElem?_cons_zero]; rfl) ?_; rfl
    subst xx5
    rfl
  · rintro l a w' i ⟨fl1, fl3, fl4, fl5, vl13, vl15, vl5, vl6, b3, B3, m3, d3, b4, B4, m4, d4, ad4, ad5, rfl, rfl, hBi, qf1, qf3, qf4, qf5, qn4_5, qd3_1⟩ hne hi
    have hlt : i < 8 := ready_lt hi
    rcases (show i = 0 ∨ i = 1 ∨ i = 2 ∨ i = 3 ∨ i = 4 ∨ i = 5 ∨ i = 6 ∨ i = 7 by omega) with rfl | rfl | rfl | rfl | rfl | rfl | rfl | rfl
    · have u : true = false := ready_un hi
      cases u
    · have u : fl1 = false := ready_un hi
      subst u
      refine wpOp_shut (by simp only [List.getElem?_toArray, List.getElem?_cons_succ, List.getElem?_cons_zero]; rfl) (fun K' hK => ?_)
      try simp only [Act.put, List.setIfInBounds_toArray, List.set_cons_zero, List.set_cons_succ]
      go_simp
      refine (C0.out w' hBi.out).mono ?_
      rintro e w2 ⟨nb3, nB3, nm3, nd3, rfl, nhw3, hb⟩
      exact hK.out _ _ ⟨keep_below hBi.out hb, true, fl3, fl4, fl5, _, vl15, vl5, vl6, nb3, nB3, nm3, nd3, b4, B4, m4, d4, ad4, ad5, by rfl, by rfl, keep_below hBi.out hb, Gd.yes ⟨rfl, nhw3⟩, qf3.out.mono fun h => ⟨h.1, h.2.below hb⟩, qf4.out.mono fun h => h.keep hb, qf5.out.mono fun h => h.keep hb, qn4_5, fun _ => rfl⟩
    · have u : true = false := ready_un hi
      cases u
    · have u : fl3 = false := ready_un hi
      subst u
      have yy1 : fl1 = true := by refine ready_dep (k := 1) (o := ?_) hi (by simp only [List.getElem?_toArray, List.getElem?_cons_succ, List.getElem?_cons_zero]; rfl) rfl rfl
      subst yy1
      refine wpOp_shut (by simp only [List.getElem?_toArray, List.getElem?_cons_succ, List.getElem?_cons_zero]; rfl) (fun K' hK => ?_)
      try simp only [Act.put, List.setIfInBounds_toArray, List.set_cons_zero, List.set_cons_succ]
      go_simp
      refine (C1.out w' hBi.out).mono ?_
      rintro e w2 ⟨nb4, nB4, nm4, nd4, rfl, nhw4, hb⟩
      exact hK.out _ _ ⟨keep_below hBi.out hb, true, true, fl4, fl5, vl13, _, vl5, vl6, b3, B3, m3, d3, nb4, nB4, nm4, nd4, ad4, ad5, by rfl, by rfl, keep_below hBi.out hb, qf1.out.mono fun h => ⟨h.1, h.2.below hb⟩, Gd.yes ⟨rfl, nhw4⟩, qf4.out.mono fun h => h.keep hb, qf5.out.mono fun h => h.keep hb, qn4_5, Gd.yes rfl⟩
    · have u : fl4 = false := ready_un hi
      subst u
      refine wpOp_shut (by simp only [List.getElem?_toArray, List.getElem?_cons_succ, List.getElem?_cons_zero]; rfl) (fun K' hK => ?_)
      try simp only [Act.put, List.setIfInBounds_toArray, List.set_cons_zero, List.set_cons_succ]
      go_simp
      have hb := up_alloc w' (.cells #[.bool false, .slice none 0 0] 29)
      exact hK.out _ _ ⟨keep_below hBi.out hb, fl1, fl3, true, fl5, vl13, vl15, _, vl6, b3, B3, m3, d3, b4, B4, m4, d4, _, ad5, by rfl, by rfl, keep_below hBi.out hb, qf1.out.mono fun h => ⟨h.1, h.2.below hb⟩, qf3.out.mono fun h => ⟨h.1, h.2.below hb⟩, Gd.yes (Made.new _ _ _ _ hBi.out.size), qf5.out.mono fun h => h.keep hb, Gd.yes (qf5.out.mono fun h => by have := h.lt; omega), qd3_1⟩
    · have u : fl5 = false := ready_un hi
      subst u
      refine wpOp_shut (by simp only [List.getElem?_toArray, List.getElem?_cons_succ, List.getElem?_cons_zero]; rfl) (fun K' hK => ?_)
      try simp only [Act.put, List.setIfInBounds_toArray, List.set_cons_zero, List.set_cons_succ]
      go_simp
      have hb := up_alloc w' (.cells #[.bool false, .slice none 0 0] 29)
      exact hK.out _ _ ⟨keep_below hBi.out hb, fl1, fl3, fl4, true, vl13, vl15, vl5, _, b3, B3, m3, d3, b4, B4, m4, d4, ad4, _, by rfl, by rfl, keep_below hBi.out hb, qf1.out.mono fun h => ⟨h.1, h.2.below hb⟩, qf3.out.mono fun h => ⟨h.1, h.2.below hb⟩, qf4.out.mono fun h => h.keep hb, Gd.yes (Made.new _ _ _ _ hBi.out.size), qf4.out.mono fun h => Gd.yes (by have := h.lt; omega), qd3_1⟩
    · have yy1 : fl1 = true := by refine ready_dep (k := 1) (o := ?_) hi (by simp only [List.getElem?_toArray, List.getElem?_cons_succ, List.getElem?_cons_zero]; rfl) rfl rfl
      subst yy1
      have yy3 : fl3 = true := by refine ready_dep (k := 2) (o := ?_) hi (by simp only [List.getElem?_toArray, List.getElem?_cons_succ, List.getElem?_cons_zero]; rfl) rfl rfl
      subst yy3
      have yy4 : fl4 = true := by refine ready_dep (k := 0) (o := ?_) hi (by simp only [List.getElem?_toArray, List.getElem?_cons_succ, List.getElem?_cons_zero]; rfl) rfl rfl
      subst yy4
      have yy5 : fl5 = true := by refine ready_dep (k := 8) (o := ?_) hi (by simp only [List.getElem?_toArray, List.getElem?_cons_succ, List.getElem?_cons_zero]; rfl) rfl rfl
      subst yy5
      exact absurd rfl hne
    · have u : false = true := by refine ready_dep (k := 2) (o := ?_) hi (by simp only [List.getElem?_toArray, List.getElem?_cons_succ, List.getElem?_cons_zero]; rfl) rfl rfl
      cases u
  rintro a wm3 ⟨fl1, fl3, fl4, fl5, vl13, vl15, vl5, vl6, b3, B3, m3, d3, b4, B4, m4, d4, ad4, ad5, hl, rfl, hBi, qf1, qf3, qf4, qf5, qn4_5, qd3_1⟩
  have xx1 : fl1 = true := by have h := congrArg (fun l : Array Bool => l.getD 1 false) hl; exact h.symm
  subst xx1
  have xx3 : fl3 = true := by have h := congrArg (fun l : Array Bool => l.getD 3 false) hl; exact h.symm
  subst xx3
  have xx4 : fl4 = true := by have h := congrArg (fun l : Array Bool => l.getD 4 false) hl; exact h.symm
  subst xx4
  have xx5 : fl5 = true := by have h := congrArg (fun l : Array Bool => l.getD 5 false) hl; exact h.symm
  subst xx5
  obtain ⟨rfl, hw3⟩ := qf1.out.get
  obtain ⟨rfl, hw4⟩ := qf3.out.get
  obtain ⟨rfl, hg4, hk4⟩ := qf4.out.get
  obtain ⟨rfl, hg5, hk5⟩ := qf5.out.get
  have n4_5 := qn4_5.out.get.get
  have hBv := hBi.out
  clear hl hBi qf1 qf3 qf4 qf5 qn4_5 qd3_1
  have hk4 : Blk wm3 ad4 29 #[.bool false, .slice none 0 0] := hk4
  have hk5 : Blk wm3 ad5 29 #[.bool false, .slice none 0 0] := hk5
  rw [show due #[true, true, true, true, true, true, false, false] = 2 from rfl]
  try simp only [Act.put, List.setIfInBounds_toArray, List.set_cons_zero, List.set_cons_succ]
  refine wpAnyH_ready (rs := [6]) (by kernel_rfl) (by simp) ?_
  refine AllReadyH.cons (o := ?_) (by simp only [List.getElem?_toArray, List.getElem?_cons_succ, List.getElem?_cons_zero]; rfl) (fun K hK => ?_) AllReadyH.nil
  have sc0 : (wm3).cell? ⟨ad4, 0, none⟩ = some (.bool false) := hk4.cell 0
  have sf0 : (wm3).frozen? ⟨ad4, 0, none⟩ = false := hk4.frozen 0
  have hj0 : Blk (wm3.setCell ⟨ad4, 0, none⟩ (.bool b3)) ad4 29 #[.bool b3, .slice none 0 0] := hk4.set_ 0 (.bool b3)
  have sc1 : (wm3.setCell ⟨ad4, 0, none⟩ (.bool b3)).cell? ⟨ad4, 1, none⟩ = some (.slice none 0 0) := hj0.cell 1
  have sf1 : (wm3.setCell ⟨ad4, 0, none⟩ (.bool b3)).frozen? ⟨ad4, 1, none⟩ = false := hj0.frozen 1
  have hj1 : Blk ((wm3.setCell ⟨ad4, 0, none⟩ (.bool b3)).setCell ⟨ad4, 1, none⟩ (.slice B3 m3 d3)) ad4 29 #[.bool b3, .slice B3 m3 d3] := hj0.set_ 1 (.slice B3 m3 d3)
  go_simp
  have hBv := keep_below_set (p := ⟨ad4, 1, none⟩) (.slice B3 m3 d3) hg4 (keep_below_set (p := ⟨ad4, 0, none⟩) (.bool b3) hg4 (hBv))
  have hk5 := Blk.far (Blk.far (hk5) (p := ⟨ad4, 0, none⟩) (show ad5 ≠ ad4 from n4_5.symm) (.bool b3)) (p := ⟨ad4, 1, none⟩) (show ad5 ≠ ad4 from n4_5.symm) (.slice B3 m3 d3)
  have hw3 := int_set2 hw3 hk4 b3 B3 m3 d3
  have hw4 := int_set2 hw4 hk4 b3 B3 m3 d3
  have hk4 := hj1
  clear sc0 sf0 sc1 sf1 hj0 hj1
  refine hK.out _ _ ?_ (fun hHeld => ?_)
  · ((try dsimp only); exact hBv)
  clear hK K hHeld
  try simp only [Act.put, List.setIfInBounds_toArray, List.set_cons_zero, List.set_cons_succ]
  generalize (wm3.setCell ⟨ad4, 0, none⟩ (.bool b3)).setCell ⟨ad4, 1, none⟩ (.slice B3 m3 d3) = wm4 at *
  refine wpAnyH_ready (rs := [7]) (by kernel_rfl) (by simp) ?_
  refine AllReadyH.cons (o := ?_) (by simp only [List.getElem?_toArray, List.getElem?_cons_succ, List.getElem?_cons_zero]; rfl) (fun K hK => ?_) AllReadyH.nil
  have sc0 : (wm4).cell? ⟨ad5, 0, none⟩ = some (.bool false) := hk5.cell 0
  have sf0 : (wm4).frozen? ⟨ad5, 0, none⟩ = false := hk5.frozen 0
  have hj0 : Blk (wm4.setCell ⟨ad5, 0, none⟩ (.bool b4)) ad5 29 #[.bool b4, .slice none 0 0] := hk5.set_ 0 (.bool b4)
  have sc1 : (wm4.setCell ⟨ad5, 0, none⟩ (.bool b4)).cell? ⟨ad5, 1, none⟩ = some (.slice none 0 0) := hj0.cell 1
  have sf1 : (wm4.setCell ⟨ad5, 0, none⟩ (.bool b4)).frozen? ⟨ad5, 1, none⟩ = false := hj0.frozen 1
  have hj1 : Blk ((wm4.setCell ⟨ad5, 0, none⟩ (.bool b4)).setCell ⟨ad5, 1, none⟩ (.slice B4 m4 d4)) ad5 29 #[.bool b4, .slice B4 m4 d4] := hj0.set_ 1 (.slice B4 m4 d4)
  go_simp
  have hBv := keep_below_set (p := ⟨ad5, 1, none⟩) (.slice B4 m4 d4) hg5 (keep_below_set (p := ⟨ad5, 0, none⟩) (.bool b4) hg5 (hBv))
  have hk4 := Blk.far (Blk.far (hk4) (p := ⟨ad5, 0, none⟩) (show ad4 ≠ ad5 from n4_5) (.bool b4)) (p := ⟨ad5, 1, none⟩) (show ad4 ≠ ad5 from n4_5) (.slice B4 m4 d4)
  have hw3 := int_set2 hw3 hk5 b4 B4 m4 d4
  have hw4 := int_set2 hw4 hk5 b4 B4 m4 d4
  have hk5 := hj1
  clear sc0 sf0 sc1 sf1 hj0 hj1
  refine hK.out _ _ ?_ (fun hHeld => ?_)
  · ((try dsimp only); exact hBv)
  clear hK K hHeld
  try simp only [Act.put, List.setIfInBounds_toArray, List.set_cons_zero, List.set_cons_succ]
  generalize (wm4.setCell ⟨ad5, 0, none⟩ (.bool b4)).setCell ⟨ad5, 1, none⟩ (.slice B4 m4 d4) = wm5 at *
  refine wpAnyH_done (by kernel_rfl) ?_ _
  refine NoPanic.normal ?_
  have hB := keep_below hB hBv
  have g1 := keep_cell hBv g1
  have e1 := keep_cell hBv e1
  have g2 := keep_cell hBv g2
  have e2 := keep_cell hBv e2
  obtain ⟨ad4_5, hga⟩ : ∃ x, x = ad4 := ⟨_, rfl⟩
  subst hga
  have g5 : wm5.cell? ⟨ad4_5, 0, none⟩ = some (.bool b3) := hk4.cell 0
  have e5 : wm5.cell? ⟨ad4_5, 1, none⟩ = some (.slice B3 m3 d3) := hk4.cell 1
  obtain ⟨ad5_6, hga⟩ : ∃ x, x = ad5 := ⟨_, rfl⟩
  subst hga
  have g6 : wm5.cell? ⟨ad5_6, 0, none⟩ = some (.bool b4) := hk5.cell 0
  have e6 : wm5.cell? ⟨ad5_6, 1, none⟩ = some (.slice B4 m4 d4) := hk5.cell 1
  have HN3 := Lib.hid hw3
  have HN4 := Lib.hid hw4
  clear hBv hk4 hg4 hk5 hg5 hw3 hw4 G0 G1 n4_5
  clear C0 C1
  go_wp2_with fail
  have HZ7 : Hid (Sz (K) (qI x y).natAbs) := SzI.q _ HZ3.out
  have HZ8 : Hid (Sz (K) (rI x y).natAbs) := SzI.r _ Hhy.out HZ4.out
  (with_reducible refine (HIC.out.div (x) (y) b3 b4 B3 B4 m3 m4 d3 d4 _ (HT.out _ hB) HN3.out HN4.out (by have := Sz.words HZ3.out HN3.out.words; omega) (by have := Sz.words HZ4.out HN4.out.words; omega) Hhy.out).mono ?_)
  rintro e wc6 ⟨b7, B7, m7, d7, b8, B8, m8, d8, rfl, hw7, hw8, hb⟩
  have hB := keep_below hB hb
  have g1 := keep_cell hb g1
  have e1 := keep_cell hb e1
  have g2 := keep_cell hb g2
  have e2 := keep_cell hb e2
  have g5 := keep_cell hb g5
  have e5 := keep_cell hb e5
  have g6 := keep_cell hb g6
  have e6 := keep_cell hb e6
  have HN3 := Lib.hid (HN3.out.below hb)
  have HN4 := Lib.hid (HN4.out.below hb)
  have HN7 := Lib.hid hw7
  have HN8 := Lib.hid hw8
  clear hb hw7 hw8
  obtain ⟨bx1, bx2, bx3, bz⟩ := box2 wc6 29 29 #[.bool b7, .slice B7 m7 d7] #[.bool b8, .slice B8 m8 d8]
  have hB := keep_below hB bx1
  have g1 := keep_cell bx1 g1
  have e1 := keep_cell bx1 e1
  have g2 := keep_cell bx1 g2
  have e2 := keep_cell bx1 e2
  have g5 := keep_cell bx1 g5
  have e5 := keep_cell bx1 e5
  have g6 := keep_cell bx1 g6
  have e6 := keep_cell bx1 e6
  have HN3 := Lib.hid (HN3.out.below bx1)
  have HN4 := Lib.hid (HN4.out.below bx1)
  have HN7 := Lib.hid (HN7.out.below bx1)
  have HN8 := Lib.hid (HN8.out.below bx1)
  have g9 : ((wc6.alloc (.cells #[.bool b7, .slice B7 m7 d7] 29)).alloc (.cells #[.bool b8, .slice B8 m8 d8] 29)).cell? ⟨wc6.heap.size, 0, none⟩ = some (.bool b7) := bx2.cell 0
  have e9 : ((wc6.alloc (.cells #[.bool b7, .slice B7 m7 d7] 29)).alloc (.cells #[.bool b8, .slice B8 m8 d8] 29)).cell? ⟨wc6.heap.size, 1, none⟩ = some (.slice B7 m7 d7) := bx2.cell 1
  have g10 : ((wc6.alloc (.cells #[.bool b7, .slice B7 m7 d7] 29)).alloc (.cells #[.bool b8, .slice B8 m8 d8] 29)).cell? ⟨wc6.heap.size + 1, 0, none⟩ = some (.bool b8) := bx3.cell 0
  have e10 : ((wc6.alloc (.cells #[.bool b7, .slice B7 m7 d7] 29)).alloc (.cells #[.bool b8, .slice B8 m8 d8] 29)).cell? ⟨wc6.heap.size + 1, 1, none⟩ = some (.slice B8 m8 d8) := bx3.cell 1
  clear bx1 bx2 bx3 bz
  go_wp2_with fail
  generalize (wc6.alloc (.cells #[.bool b7, .slice B7 m7 d7] 29)).alloc (.cells #[.bool b8, .slice B8 m8 d8] 29) = W7 at *
  generalize wc6.heap.size = q7 at *
  have HZ11 : Hid (Sz (K + K) ((qI x y) * y).natAbs) := SzI.mul HZ7.out HZ4.out
  have C0 := Lib.hid (fun w' (h : Below W7.heap.size W7 w') => HIC.out.mul (qI x y) (y) b7 b4 B7 B4 m7 m4 d7 d4 w' (HT.out _ (keep_below hB h)) (HN7.out.below h) (HN4.out.below h) (by have := Sz.words HZ7.out HN7.out.words; omega) (by have := Sz.words HZ4.out HN4.out.words; omega))
  have HZ12 : Hid (Sz ((K + K) + K + 1) (((qI x y) * y) + (rI x y)).natAbs) := SzI.add HZ11.out HZ8.out
  have C1 := Lib.hid (fun w' (h : Below W7.heap.size W7 w') (b11 : Bool) (B11 : Option Addr) (m11 : Nat) (d11 : Nat) (hw11 : IntIn w' ((qI x y) * y) b11 B11 m11 d11) => HIC.out.add ((qI x y) * y) (rI x y) b11 b8 B11 B8 m11 m8 d11 d8 w' (HT.out _ (keep_below hB h)) hw11 (HN8.out.below h) (by have := Sz.words HZ11.out hw11.words; omega) (by have := Sz.words HZ8.out HN8.out.words; omega))
  have C2 := Lib.hid (fun w' (h : Below W7.heap.size W7 w') (b12 : Bool) (B12 : Option Addr) (m12 : Nat) (d12 : Nat) (hw12 : IntIn w' (((qI x y) * y) + (rI x y)) b12 B12 m12 d12) => icmp_eq (qI_rI _ _) (HIC.out.cmp (((qI x y) * y) + (rI x y)) (x) b12 b3 B12 B3 m12 m3 d12 d3 w' (HT.out _ (keep_below hB h)) hw12 (HN3.out.below h) (by have := Sz.words HZ12.out hw12.words; omega) (by have := Sz.words HZ3.out HN3.out.words; omega)))
  have C3 := Lib.hid (fun w' (h : Below W7.heap.size W7 w') => isgn_of (v := 1) ((sgn_pos Hhr.out)) (HIC.out.sign (rI x y) b8 B8 m8 d8 w' (HT.out _ (keep_below hB h)) (HN8.out.below h) (by have := Sz.words HZ8.out HN8.out.words; omega)))
  have C4 := Lib.hid (fun w' (h : Below W7.heap.size W7 w') => isgn_of (v := 1) ((sgn_pos Hhr.out)) (HIC.out.sign (rI x y) b8 B8 m8 d8 w' (HT.out _ (keep_below hB h)) (HN8.out.below h) (by have := Sz.words HZ8.out HN8.out.words; omega)))
  have C5 := Lib.hid (fun w' (h : Below W7.heap.size W7 w') => isgn_of (v := 1) ((sgn_pos Hhs.out)) (HIC.out.sign (y) b4 B4 m4 d4 w' (HT.out _ (keep_below hB h)) (HN4.out.below h) (by have := Sz.words HZ4.out HN4.out.words; omega)))
  have HZ13 : Hid (Sz (K) ((rI x y).natAbs)) := HZ8.out
  have C6 := Lib.hid (fun w' (h : Below W7.heap.size W7 w') => HIC.out.abs (rI x y) b8 B8 m8 d8 w' (HT.out _ (keep_below hB h)) (HN8.out.below h) (by have := Sz.words HZ8.out HN8.out.words; omega))
  have HZ14 : Hid (Sz (K) (y.natAbs)) := HZ4.out
  have C7 := Lib.hid (fun w' (h : Below W7.heap.size W7 w') => HIC.out.abs (y) b4 B4 m4 d4 w' (HT.out _ (keep_below hB h)) (HN4.out.below h) (by have := Sz.words HZ4.out HN4.out.words; omega))
  have C8 := Lib.hid (fun w' (h : Below W7.heap.size W7 w') (B13 : Option Addr) (m13 : Nat) (d13 : Nat) (hw13 : WordsIn w' ((rI x y).natAbs) B13 m13 d13) (B14 : Option Addr) (m14 : Nat) (d14 : Nat) (hw14 : WordsIn w' (y.natAbs) B14 m14 d14) => cmpLt (x := (rI x y).natAbs) (y := y.natAbs) (rI_abs Hhy.out) hw13 hw14 (by have := Sz.words HZ13.out hw13; omega) (by have := Sz.words HZ14.out hw14; omega))
  have hb0 : Below W7.heap.size W7 W7.drew := (Below.refl _ W7).drew
  have j0 : W7.drew.cell? ⟨q7, 0, none⟩ = some (.bool b7) := g9
  have j1 : W7.drew.cell? ⟨q7, 1, none⟩ = some (.slice B7 m7 d7) := e9
  have j2 : W7.drew.cell? ⟨ad5_6, 0, none⟩ = some (.bool b4) := g6
  have j3 : W7.drew.cell? ⟨ad5_6, 1, none⟩ = some (.slice B4 m4 d4) := e6
  have j4 : W7.drew.cell? ⟨q7 + 1, 0, none⟩ = some (.bool b8) := g10
  have j5 : W7.drew.cell? ⟨q7 + 1, 1, none⟩ = some (.slice B8 m8 d8) := e10
  have j6 : W7.drew.cell? ⟨ad4_5, 0, none⟩ = some (.bool b3) := g5
  have j7 : W7.drew.cell? ⟨ad4_5, 1, none⟩ = some (.slice B3 m3 d3) := e5
  refine wp_region_noPanic ?_
  refine wp_region_held_drew (S := (fun w' => Below W7.heap.size W7 w' ∧ w'.cell? ⟨q7, 0, none⟩ = some (.bool b7) ∧ w'.cell? ⟨q7, 1, none⟩ = some (.slice B7 m7 d7) ∧ w'.cell? ⟨ad5_6, 0, none⟩ = some (.bool b4) ∧ w'.cell? ⟨ad5_6, 1, none⟩ = some (.slice B4 m4 d4) ∧ w'.cell? ⟨q7 + 1, 0, none⟩ = some (.bool b8) ∧ w'.cell? ⟨q7 + 1, 1, none⟩ = some (.slice B8 m8 d8) ∧ w'.cell? ⟨ad4_5, 0, none⟩ = some (.bool b3) ∧ w'.cell? ⟨ad4_5, 1, none⟩ = some (.slice B3 m3 d3))) (by kernel_rfl) ?_ (fun hHeld => ?_)
  · exact ⟨hb0, j0, j1, j2, j3, j4, j5, j6, j7⟩
  refine wpAnyH_take (i := 0) (oi := ?_) (v := ?_) (by simp only [List.getElem?_toArray, List.getElem?_cons_succ, List.getElem?_cons_zero]; rfl) (by kernel_rfl) (by kernel_rfl) (by kernel_rfl) (fun _ _ _ h => h) (Or.inl ⟨by rfl, ?_⟩) (by with_reducible assumption) ?_
  rotate_left
  focus ((intro w hSw; (try dsimp only at hSw); go_simp); (try with_reducible rfl))
  try simp only [Act.put, List.setIfInBounds_toArray, List.set_cons_zero, List.set_cons_succ]
  refine wpAnyH_take (i := 1) (oi := ?_) (v := ?_) (by simp only [List.getElem?_toArray, List.getElem?_cons_succ, List.getElem?_cons_zero]; rfl) (by kernel_rfl) (by kernel_rfl) (by kernel_rfl) (fun _ _ _ h => h) (Or.inl ⟨by rfl, ?_⟩) (by with_reducible assumption) ?_
  rotate_left
  focus ((intro w hSw; (try dsimp only at hSw); go_simp); (try with_reducible rfl))
  try simp only [Act.put, List.setIfInBounds_toArray, List.set_cons_zero, List.set_cons_succ]
  refine wpAnyH_take (i := 3) (oi := ?_) (v := ?_) (by simp only [List.getElem?_toArray, List.getElem?_cons_succ, List.getElem?_cons_zero]; rfl) (by kernel_rfl) (by kernel_rfl) (by kernel_rfl) (fun _ _ _ h => h) (Or.inl ⟨by rfl, ?_⟩) (by with_reducible assumption) ?_
  rotate_left
  focus ((intro w hSw; (try dsimp only at hSw); go_simp); (try with_reducible rfl))
  try simp only [Act.put, List.setIfInBounds_toArray, List.set_cons_zero, List.set_cons_succ]
  refine wpAnyH_take (i := 5) (oi := ?_) (v := ?_) (by simp only [List.getElem?_toArray, List.getElem?_cons_succ, List.getElem?_cons_zero]; rfl) (by kernel_rfl) (by kernel_rfl) (by kernel_rfl) (fun _ _ _ h => h) (Or.inl ⟨by rfl, ?_⟩) (by with_reducible assumption) ?_
  rotate_left
  focus ((intro w hSw; (try dsimp only at hSw); go_simp); (try with_reducible rfl))
  try simp only [Act.put, List.setIfInBounds_toArray, List.set_cons_zero, List.set_cons_succ]
  refine wpAnyH_ready (rs := [2]) (by kernel_rfl) (by simp) ?_
  refine AllReadyH.cons (o := ?_) (by simp only [List.getElem?_toArray, List.getElem?_cons_succ, List.getElem?_cons_zero]; rfl) (fun K hK => ?_) AllReadyH.nil
  go_simp
  (go_at_call 20; (with_reducible refine (C0.out _ (by first | with_reducible assumption | exact And.left (by with_reducible assumption))).mono ?_); rintro e wa8 ⟨b11, B11, m11, d11, rfl, hw11, hb⟩; go_split_ands; have hBw : Below W7.heap.size W7 wa8 := keep_below (by with_reducible assumption) hb; have gw0 : wa8.cell? ⟨q7, 0, none⟩ = some (.bool b7) := keep_cell hb (by with_reducible assumption); have gw1 : wa8.cell? ⟨q7, 1, none⟩ = some (.slice B7 m7 d7) := keep_cell hb (by with_reducible assumption); have gw2 : wa8.cell? ⟨ad5_6, 0, none⟩ = some (.bool b4) := keep_cell hb (by with_reducible assumption); have gw3 : wa8.cell? ⟨ad5_6, 1, none⟩ = some (.slice B4 m4 d4) := keep_cell hb (by with_reducible assumption); have gw4 : wa8.cell? ⟨q7 + 1, 0, none⟩ = some (.bool b8) := keep_cell hb (by with_reducible assumption); have gw5 : wa8.cell? ⟨q7 + 1, 1, none⟩ = some (.slice B8 m8 d8) := keep_cell hb (by with_reducible assumption); have gw6 : wa8.cell? ⟨ad4_5, 0, none⟩ = some (.bool b3) := keep_cell hb (by with_reducible assumption); have gw7 : wa8.cell? ⟨ad4_5, 1, none⟩ = some (.slice B3 m3 d3) := keep_cell hb (by with_reducible assumption))
  refine hK.out _ _ ?_ (fun hHeld => ?_)
  · ((try dsimp only); (first | (with_reducible exact ⟨hb0, j0, j1, j2, j3, j4, j5, j6, j7⟩) | (go_split_ands; (repeat' apply And.intro); all_goals (first | with_reducible assumption | with_reducible exact keep_below (by with_reducible assumption) hb | with_reducible exact keep_cell hb (by with_reducible assumption)))))
  clear hK K
  try simp only [Act.put, List.setIfInBounds_toArray, List.set_cons_zero, List.set_cons_succ]
  refine wpAnyH_ready (rs := [4]) (by kernel_rfl) (by simp) ?_
  refine AllReadyH.cons (o := ?_) (by simp only [List.getElem?_toArray, List.getElem?_cons_succ, List.getElem?_cons_zero]; rfl) (fun K hK => ?_) AllReadyH.nil
  go_simp
  (go_at_call 17; (with_reducible refine (C1.out _ (by first | with_reducible assumption | exact And.left (by with_reducible assumption)) _ _ _ _ hw11).mono ?_); rintro e wa9 ⟨b12, B12, m12, d12, rfl, hw12, hb⟩; go_split_ands; have hBw : Below W7.heap.size W7 wa9 := keep_below (by with_reducible assumption) hb; have gw0 : wa9.cell? ⟨q7, 0, none⟩ = some (.bool b7) := keep_cell hb (by with_reducible assumption); have gw1 : wa9.cell? ⟨q7, 1, none⟩ = some (.slice B7 m7 d7) := keep_cell hb (by with_reducible assumption); have gw2 : wa9.cell? ⟨ad5_6, 0, none⟩ = some (.bool b4) := keep_cell hb (by with_reducible assumption); have gw3 : wa9.cell? ⟨ad5_6, 1, none⟩ = some (.slice B4 m4 d4) := keep_cell hb (by with_reducible assumption); have gw4 : wa9.cell? ⟨q7 + 1, 0, none⟩ = some (.bool b8) := keep_cell hb (by with_reducible assumption); have gw5 : wa9.cell? ⟨q7 + 1, 1, none⟩ = some (.slice B8 m8 d8) := keep_cell hb (by with_reducible assumption); have gw6 : wa9.cell? ⟨ad4_5, 0, none⟩ = some (.bool b3) := keep_cell hb (by with_reducible assumption); have gw7 : wa9.cell? ⟨ad4_5, 1, none⟩ = some (.slice B3 m3 d3) := keep_cell hb (by with_reducible assumption); (with_reducible have hw11 := hw11.below hb))
  refine hK.out _ _ ?_ (fun hHeld => ?_)
  · ((try dsimp only); (first | (with_reducible exact ⟨hb0, j0, j1, j2, j3, j4, j5, j6, j7⟩) | (go_split_ands; (repeat' apply And.intro); all_goals (first | with_reducible assumption | with_reducible exact keep_below (by with_reducible assumption) hb | with_reducible exact keep_cell hb (by with_reducible assumption)))))
  clear hK K
  try simp only [Act.put, List.setIfInBounds_toArray, List.set_cons_zero, List.set_cons_succ]
  refine wpAnyH_ready (rs := [6]) (by kernel_rfl) (by simp) ?_
  refine AllReadyH.cons (o := ?_) (by simp only [List.getElem?_toArray, List.getElem?_cons_succ, List.getElem?_cons_zero]; rfl) (fun K hK => ?_) AllReadyH.nil
  go_simp
  (go_at_call 22; (with_reducible refine (C2.out _ (by first | with_reducible assumption | exact And.left (by with_reducible assumption)) _ _ _ _ hw12).mono ?_); rintro e wa10 ⟨rfl, hb⟩; go_split_ands; have hBw : Below W7.heap.size W7 wa10 := keep_below (by with_reducible assumption) hb; have gw0 : wa10.cell? ⟨q7, 0, none⟩ = some (.bool b7) := keep_cell hb (by with_reducible assumption); have gw1 : wa10.cell? ⟨q7, 1, none⟩ = some (.slice B7 m7 d7) := keep_cell hb (by with_reducible assumption); have gw2 : wa10.cell? ⟨ad5_6, 0, none⟩ = some (.bool b4) := keep_cell hb (by with_reducible assumption); have gw3 : wa10.cell? ⟨ad5_6, 1, none⟩ = some (.slice B4 m4 d4) := keep_cell hb (by with_reducible assumption); have gw4 : wa10.cell? ⟨q7 + 1, 0, none⟩ = some (.bool b8) := keep_cell hb (by with_reducible assumption); have gw5 : wa10.cell? ⟨q7 + 1, 1, none⟩ = some (.slice B8 m8 d8) := keep_cell hb (by with_reducible assumption); have gw6 : wa10.cell? ⟨ad4_5, 0, none⟩ = some (.bool b3) := keep_cell hb (by with_reducible assumption); have gw7 : wa10.cell? ⟨ad4_5, 1, none⟩ = some (.slice B3 m3 d3) := keep_cell hb (by with_reducible assumption); (with_reducible have hw11 := hw11.below hb); (with_reducible have hw12 := hw12.below hb))
  refine hK.out _ _ ?_ (fun hHeld => ?_)
  · ((try dsimp only); (first | (with_reducible exact ⟨hb0, j0, j1, j2, j3, j4, j5, j6, j7⟩) | (go_split_ands; (repeat' apply And.intro); all_goals (first | with_reducible assumption | with_reducible exact keep_below (by with_reducible assumption) hb | with_reducible exact keep_cell hb (by with_reducible assumption)))))
  clear hK K
  try simp only [Act.put, List.setIfInBounds_toArray, List.set_cons_zero, List.set_cons_succ]
  refine wpAnyH_take (i := 7) (oi := ?_) (v := ?_) (by simp only [List.getElem?_toArray, List.getElem?_cons_succ, List.getElem?_cons_zero]; rfl) (by kernel_rfl) (by kernel_rfl) (by kernel_rfl) (fun _ _ _ h => h) (Or.inl ⟨by rfl, ?_⟩) (by with_reducible assumption) ?_
  rotate_left
  focus ((intro w hSw; (try dsimp only at hSw); go_simp); (try with_reducible rfl))
  try simp only [Act.put, List.setIfInBounds_toArray, List.set_cons_zero, List.set_cons_succ]
  refine wpAnyH_take (i := 8) (oi := ?_) (v := ?_) (by simp only [List.getElem?_toArray, List.getElem?_cons_succ, List.getElem?_cons_zero]; rfl) (by kernel_rfl) (by kernel_rfl) (by kernel_rfl) (fun _ _ _ h => h) (Or.inl ⟨by rfl, ?_⟩) (by with_reducible assumption) ?_
  rotate_left
  focus ((intro w hSw; (try dsimp only at hSw); go_simp); (try with_reducible rfl))
  try simp only [Act.put, List.setIfInBounds_toArray, List.set_cons_zero, List.set_cons_succ]
  refine wpAnyH_take (i := 9) (oi := ?_) (v := ?_) (by simp only [List.getElem?_toArray, List.getElem?_cons_succ, List.getElem?_cons_zero]; rfl) (by kernel_rfl) (by kernel_rfl) (by kernel_rfl) (fun _ _ _ h => h) (Or.inl ⟨by rfl, ?_⟩) (by with_reducible assumption) ?_
  rotate_left
  focus ((intro w hSw; (try dsimp only at hSw); go_simp); (try with_reducible rfl))
  try simp only [Act.put, List.setIfInBounds_toArray, List.set_cons_zero, List.set_cons_succ]
  refine wpAnyH_ready (rs := [10]) (by kernel_rfl) (by simp) ?_
  refine AllReadyH.cons (o := ?_) (by simp only [List.getElem?_toArray, List.getElem?_cons_succ, List.getElem?_cons_zero]; rfl) (fun K hK => ?_) AllReadyH.nil
  go_simp
  (go_at_call 25; (with_reducible refine (C3.out _ (by first | with_reducible assumption | exact And.left (by with_reducible assumption))).mono ?_); rintro e wa11 ⟨rfl, hb⟩; go_split_ands; have hBw : Below W7.heap.size W7 wa11 := keep_below (by with_reducible assumption) hb; have gw0 : wa11.cell? ⟨q7, 0, none⟩ = some (.bool b7) := keep_cell hb (by with_reducible assumption); have gw1 : wa11.cell? ⟨q7, 1, none⟩ = some (.slice B7 m7 d7) := keep_cell hb (by with_reducible assumption); have gw2 : wa11.cell? ⟨ad5_6, 0, none⟩ = some (.bool b4) := keep_cell hb (by with_reducible assumption); have gw3 : wa11.cell? ⟨ad5_6, 1, none⟩ = some (.slice B4 m4 d4) := keep_cell hb (by with_reducible assumption); have gw4 : wa11.cell? ⟨q7 + 1, 0, none⟩ = some (.bool b8) := keep_cell hb (by with_reducible assumption); have gw5 : wa11.cell? ⟨q7 + 1, 1, none⟩ = some (.slice B8 m8 d8) := keep_cell hb (by with_reducible assumption); have gw6 : wa11.cell? ⟨ad4_5, 0, none⟩ = some (.bool b3) := keep_cell hb (by with_reducible assumption); have gw7 : wa11.cell? ⟨ad4_5, 1, none⟩ = some (.slice B3 m3 d3) := keep_cell hb (by with_reducible assumption); (with_reducible have hw11 := hw11.below hb); (with_reducible have hw12 := hw12.below hb))
  refine hK.out _ _ ?_ (fun hHeld => ?_)
  · ((try dsimp only); (first | (with_reducible exact ⟨hb0, j0, j1, j2, j3, j4, j5, j6, j7⟩) | (go_split_ands; (repeat' apply And.intro); all_goals (first | with_reducible assumption | with_reducible exact keep_below (by with_reducible assumption) hb | with_reducible exact keep_cell hb (by with_reducible assumption)))))
  clear hK K
  try simp only [Act.put, List.setIfInBounds_toArray, List.set_cons_zero, List.set_cons_succ]
  refine wpAnyH_take (i := 11) (oi := ?_) (v := ?_) (by simp only [List.getElem?_toArray, List.getElem?_cons_succ, List.getElem?_cons_zero]; rfl) (by kernel_rfl) (by kernel_rfl) (by kernel_rfl) (fun _ _ _ h => h) (Or.inl ⟨by rfl, ?_⟩) (by with_reducible assumption) ?_
  rotate_left
  focus ((intro w hSw; (try dsimp only at hSw); go_simp); (try with_reducible rfl))
  try simp only [Act.put, List.setIfInBounds_toArray, List.set_cons_zero, List.set_cons_succ]
  refine wpAnyH_take (i := 12) (oi := ?_) (v := ?_) (by simp only [List.getElem?_toArray, List.getElem?_cons_succ, List.getElem?_cons_zero]; rfl) (by kernel_rfl) (by kernel_rfl) (by kernel_rfl) (fun _ _ _ h => h) (Or.inl ⟨by rfl, ?_⟩) (by with_reducible assumption) ?_
  rotate_left
  focus ((intro w hSw; (try dsimp only at hSw); go_simp); (try with_reducible rfl))
  try simp only [Act.put, List.setIfInBounds_toArray, List.set_cons_zero, List.set_cons_succ]
  refine wpAnyH_take (i := 13) (oi := ?_) (v := ?_) (by simp only [List.getElem?_toArray, List.getElem?_cons_succ, List.getElem?_cons_zero]; rfl) (by kernel_rfl) (by kernel_rfl) (by kernel_rfl) (fun _ _ _ h => h) (Or.inl ⟨by rfl, ?_⟩) (by with_reducible assumption) ?_
  rotate_left
  focus ((intro w hSw; (try dsimp only at hSw); go_simp); (try with_reducible rfl))
  try simp only [Act.put, List.setIfInBounds_toArray, List.set_cons_zero, List.set_cons_succ]
  refine wpAnyH_take (i := 15) (oi := ?_) (v := ?_) (by simp only [List.getElem?_toArray, List.getElem?_cons_succ, List.getElem?_cons_zero]; rfl) (by kernel_rfl) (by kernel_rfl) (by kernel_rfl) (fun _ _ _ h => h) (Or.inl ⟨by rfl, ?_⟩) (by with_reducible assumption) ?_
  rotate_left
  focus ((intro w hSw; (try dsimp only at hSw); go_simp); (try with_reducible rfl))
  try simp only [Act.put, List.setIfInBounds_toArray, List.set_cons_zero, List.set_cons_succ]
  refine wpAnyH_ready (rs := [14]) (by kernel_rfl) (by simp) ?_
  refine AllReadyH.cons (o := ?_) (by simp only [List.getElem?_toArray, List.getElem?_cons_succ, List.getElem?_cons_zero]; rfl) (fun K hK => ?_) AllReadyH.nil
  go_simp
  (go_at_call 25; (with_reducible refine (C4.out _ (by first | with_reducible assumption | exact And.left (by with_reducible assumption))).mono ?_); rintro e wa12 ⟨rfl, hb⟩; go_split_ands; have hBw : Below W7.heap.size W7 wa12 := keep_below (by with_reducible assumption) hb; have gw0 : wa12.cell? ⟨q7, 0, none⟩ = some (.bool b7) := keep_cell hb (by with_reducible assumption); have gw1 : wa12.cell? ⟨q7, 1, none⟩ = some (.slice B7 m7 d7) := keep_cell hb (by with_reducible assumption); have gw2 : wa12.cell? ⟨ad5_6, 0, none⟩ = some (.bool b4) := keep_cell hb (by with_reducible assumption); have gw3 : wa12.cell? ⟨ad5_6, 1, none⟩ = some (.slice B4 m4 d4) := keep_cell hb (by with_reducible assumption); have gw4 : wa12.cell? ⟨q7 + 1, 0, none⟩ = some (.bool b8) := keep_cell hb (by with_reducible assumption); have gw5 : wa12.cell? ⟨q7 + 1, 1, none⟩ = some (.slice B8 m8 d8) := keep_cell hb (by with_reducible assumption); have gw6 : wa12.cell? ⟨ad4_5, 0, none⟩ = some (.bool b3) := keep_cell hb (by with_reducible assumption); have gw7 : wa12.cell? ⟨ad4_5, 1, none⟩ = some (.slice B3 m3 d3) := keep_cell hb (by with_reducible assumption); (with_reducible have hw11 := hw11.below hb); (with_reducible have hw12 := hw12.below hb))
  refine hK.out _ _ ?_ (fun hHeld => ?_)
  · ((try dsimp only); (first | (with_reducible exact ⟨hb0, j0, j1, j2, j3, j4, j5, j6, j7⟩) | (go_split_ands; (repeat' apply And.intro); all_goals (first | with_reducible assumption | with_reducible exact keep_below (by with_reducible assumption) hb | with_reducible exact keep_cell hb (by with_reducible assumption)))))
  clear hK K
  try simp only [Act.put, List.setIfInBounds_toArray, List.set_cons_zero, List.set_cons_succ]
  refine wpAnyH_ready (rs := [16]) (by kernel_rfl) (by simp) ?_
  refine AllReadyH.cons (o := ?_) (by simp only [List.getElem?_toArray, List.getElem?_cons_succ, List.getElem?_cons_zero]; rfl) (fun K hK => ?_) AllReadyH.nil
  go_simp
  (go_at_call 25; (with_reducible refine (C5.out _ (by first | with_reducible assumption | exact And.left (by with_reducible assumption))).mono ?_); rintro e wa13 ⟨rfl, hb⟩; go_split_ands; have hBw : Below W7.heap.size W7 wa13 := keep_below (by with_reducible assumption) hb; have gw0 : wa13.cell? ⟨q7, 0, none⟩ = some (.bool b7) := keep_cell hb (by with_reducible assumption); have gw1 : wa13.cell? ⟨q7, 1, none⟩ = some (.slice B7 m7 d7) := keep_cell hb (by with_reducible assumption); have gw2 : wa13.cell? ⟨ad5_6, 0, none⟩ = some (.bool b4) := keep_cell hb (by with_reducible assumption); have gw3 : wa13.cell? ⟨ad5_6, 1, none⟩ = some (.slice B4 m4 d4) := keep_cell hb (by with_reducible assumption); have gw4 : wa13.cell? ⟨q7 + 1, 0, none⟩ = some (.bool b8) := keep_cell hb (by with_reducible assumption); have gw5 : wa13.cell? ⟨q7 + 1, 1, none⟩ = some (.slice B8 m8 d8) := keep_cell hb (by with_reducible assumption); have gw6 : wa13.cell? ⟨ad4_5, 0, none⟩ = some (.bool b3) := keep_cell hb (by with_reducible assumption); have gw7 : wa13.cell? ⟨ad4_5, 1, none⟩ = some (.slice B3 m3 d3) := keep_cell hb (by with_reducible assumption); (with_reducible have hw11 := hw11.below hb); (with_reducible have hw12 := hw12.below hb))
  refine hK.out _ _ ?_ (fun hHeld => ?_)
  · ((try dsimp only); (first | (with_reducible exact ⟨hb0, j0, j1, j2, j3, j4, j5, j6, j7⟩) | (go_split_ands; (repeat' apply And.intro); all_goals (first | with_reducible assumption | with_reducible exact keep_below (by with_reducible assumption) hb | with_reducible exact keep_cell hb (by with_reducible assumption)))))
  clear hK K
  try simp only [Act.put, List.setIfInBounds_toArray, List.set_cons_zero, List.set_cons_succ]
  refine wpAnyH_take (i := 17) (oi := ?_) (v := ?_) (by simp only [List.getElem?_toArray, List.getElem?_cons_succ, List.getElem?_cons_zero]; rfl) (by kernel_rfl) (by kernel_rfl) (by kernel_rfl) (fun _ _ _ h => h) (Or.inl ⟨by rfl, ?_⟩) (by with_reducible assumption) ?_
  rotate_left
  focus ((intro w hSw; (try dsimp only at hSw); go_simp); (try with_reducible rfl))
  try simp only [Act.put, List.setIfInBounds_toArray, List.set_cons_zero, List.set_cons_succ]
  refine wpAnyH_take (i := 18) (oi := ?_) (v := ?_) (by simp only [List.getElem?_toArray, List.getElem?_cons_succ, List.getElem?_cons_zero]; rfl) (by kernel_rfl) (by kernel_rfl) (by kernel_rfl) (fun _ _ _ h => h) (Or.inl ⟨by rfl, ?_⟩) (by with_reducible assumption) ?_
  rotate_left
  focus ((intro w hSw; (try dsimp only at hSw); go_simp); (try with_reducible rfl))
  try simp only [Act.put, List.setIfInBounds_toArray, List.set_cons_zero, List.set_cons_succ]
  refine wpAnyH_take (i := 19) (oi := ?_) (v := ?_) (by simp only [List.getElem?_toArray, List.getElem?_cons_succ, List.getElem?_cons_zero]; rfl) (by kernel_rfl) (by kernel_rfl) (by kernel_rfl) (fun _ _ _ h => h) (Or.inl ⟨by rfl, ?_⟩) (by with_reducible assumption) ?_
  rotate_left
  focus ((intro w hSw; (try dsimp only at hSw); go_simp); (try with_reducible rfl))
  try simp only [Act.put, List.setIfInBounds_toArray, List.set_cons_zero, List.set_cons_succ]
  refine wpAnyH_take (i := 20) (oi := ?_) (v := ?_) (by simp only [List.getElem?_toArray, List.getElem?_cons_succ, List.getElem?_cons_zero]; rfl) (by kernel_rfl) (by kernel_rfl) (by kernel_rfl) (fun _ _ _ h => h) (Or.inl ⟨by rfl, ?_⟩) (by with_reducible assumption) ?_
  rotate_left
  focus ((intro w hSw; (try dsimp only at hSw); go_simp); (try with_reducible rfl))
  try simp only [Act.put, List.setIfInBounds_toArray, List.set_cons_zero, List.set_cons_succ]
  refine wpAnyH_take (i := 21) (oi := ?_) (v := ?_) (by simp only [List.getElem?_toArray, List.getElem?_cons_succ, List.getElem?_cons_zero]; rfl) (by kernel_rfl) (by kernel_rfl) (by kernel_rfl) (fun _ _ _ h => h) (Or.inl ⟨by rfl, ?_⟩) (by with_reducible assumption) ?_
  rotate_left
  focus ((intro w hSw; (try dsimp only at hSw); go_simp); (try with_reducible rfl))
  try simp only [Act.put, List.setIfInBounds_toArray, List.set_cons_zero, List.set_cons_succ]
  refine wpAnyH_take (i := 23) (oi := ?_) (v := ?_) (by simp only [List.getElem?_toArray, List.getElem?_cons_succ, List.getElem?_cons_zero]; rfl) (by kernel_rfl) (by kernel_rfl) (by kernel_rfl) (fun _ _ _ h => h) (Or.inl ⟨by rfl, ?_⟩) (by with_reducible assumption) ?_
  rotate_left
  focus ((intro w hSw; (try dsimp only at hSw); go_simp); (try with_reducible rfl))
  try simp only [Act.put, List.setIfInBounds_toArray, List.set_cons_zero, List.set_cons_succ]
  refine wpAnyH_ready (rs := [22]) (by kernel_rfl) (by simp) ?_
  refine AllReadyH.cons (o := ?_) (by simp only [List.getElem?_toArray, List.getElem?_cons_succ, List.getElem?_cons_zero]; rfl) (fun K hK => ?_) AllReadyH.nil
  go_simp
  (go_at_call 35; (with_reducible refine (C6.out _ (by first | with_reducible assumption | exact And.left (by with_reducible assumption))).mono ?_); rintro e wa14 ⟨B13, m13, d13, rfl, hw13, hb⟩; go_split_ands; have hBw : Below W7.heap.size W7 wa14 := keep_below (by with_reducible assumption) hb; have gw0 : wa14.cell? ⟨q7, 0, none⟩ = some (.bool b7) := keep_cell hb (by with_reducible assumption); have gw1 : wa14.cell? ⟨q7, 1, none⟩ = some (.slice B7 m7 d7) := keep_cell hb (by with_reducible assumption); have gw2 : wa14.cell? ⟨ad5_6, 0, none⟩ = some (.bool b4) := keep_cell hb (by with_reducible assumption); have gw3 : wa14.cell? ⟨ad5_6, 1, none⟩ = some (.slice B4 m4 d4) := keep_cell hb (by with_reducible assumption); have gw4 : wa14.cell? ⟨q7 + 1, 0, none⟩ = some (.bool b8) := keep_cell hb (by with_reducible assumption); have gw5 : wa14.cell? ⟨q7 + 1, 1, none⟩ = some (.slice B8 m8 d8) := keep_cell hb (by with_reducible assumption); have gw6 : wa14.cell? ⟨ad4_5, 0, none⟩ = some (.bool b3) := keep_cell hb (by with_reducible assumption); have gw7 : wa14.cell? ⟨ad4_5, 1, none⟩ = some (.slice B3 m3 d3) := keep_cell hb (by with_reducible assumption); (with_reducible have hw11 := hw11.below hb); (with_reducible have hw12 := hw12.below hb))
  refine hK.out _ _ ?_ (fun hHeld => ?_)
  · ((try dsimp only); (first | (with_reducible exact ⟨hb0, j0, j1, j2, j3, j4, j5, j6, j7⟩) | (go_split_ands; (repeat' apply And.intro); all_goals (first | with_reducible assumption | with_reducible exact keep_below (by with_reducible assumption) hb | with_reducible exact keep_cell hb (by with_reducible assumption)))))
  clear hK K
  try simp only [Act.put, List.setIfInBounds_toArray, List.set_cons_zero, List.set_cons_succ]
  refine wpAnyH_ready (rs := [24]) (by kernel_rfl) (by simp) ?_
  refine AllReadyH.cons (o := ?_) (by simp only [List.getElem?_toArray, List.getElem?_cons_succ, List.getElem?_cons_zero]; rfl) (fun K hK => ?_) AllReadyH.nil
  go_simp
  (go_at_call 35; (with_reducible refine (C7.out _ (by first | with_reducible assumption | exact And.left (by with_reducible assumption))).mono ?_); rintro e wa15 ⟨B14, m14, d14, rfl, hw14, hb⟩; go_split_ands; have hBw : Below W7.heap.size W7 wa15 := keep_below (by with_reducible assumption) hb; have gw0 : wa15.cell? ⟨q7, 0, none⟩ = some (.bool b7) := keep_cell hb (by with_reducible assumption); have gw1 : wa15.cell? ⟨q7, 1, none⟩ = some (.slice B7 m7 d7) := keep_cell hb (by with_reducible assumption); have gw2 : wa15.cell? ⟨ad5_6, 0, none⟩ = some (.bool b4) := keep_cell hb (by with_reducible assumption); have gw3 : wa15.cell? ⟨ad5_6, 1, none⟩ = some (.slice B4 m4 d4) := keep_cell hb (by with_reducible assumption); have gw4 : wa15.cell? ⟨q7 + 1, 0, none⟩ = some (.bool b8) := keep_cell hb (by with_reducible assumption); have gw5 : wa15.cell? ⟨q7 + 1, 1, none⟩ = some (.slice B8 m8 d8) := keep_cell hb (by with_reducible assumption); have gw6 : wa15.cell? ⟨ad4_5, 0, none⟩ = some (.bool b3) := keep_cell hb (by with_reducible assumption); have gw7 : wa15.cell? ⟨ad4_5, 1, none⟩ = some (.slice B3 m3 d3) := keep_cell hb (by with_reducible assumption); (with_reducible have hw11 := hw11.below hb); (with_reducible have hw12 := hw12.below hb); (with_reducible have hw13 := hw13.below hb))
  refine hK.out _ _ ?_ (fun hHeld => ?_)
  · ((try dsimp only); (first | (with_reducible exact ⟨hb0, j0, j1, j2, j3, j4, j5, j6, j7⟩) | (go_split_ands; (repeat' apply And.intro); all_goals (first | with_reducible assumption | with_reducible exact keep_below (by with_reducible assumption) hb | with_reducible exact keep_cell hb (by with_reducible assumption)))))
  clear hK K
  try simp only [Act.put, List.setIfInBounds_toArray, List.set_cons_zero, List.set_cons_succ]
  refine wpAnyH_ready (rs := [25]) (by kernel_rfl) (by simp) ?_
  refine AllReadyH.cons (o := ?_) (by simp only [List.getElem?_toArray, List.getElem?_cons_succ, List.getElem?_cons_zero]; rfl) (fun K hK => ?_) AllReadyH.nil
  go_simp
  (go_at_call 34; (with_reducible refine (C8.out _ (by first | with_reducible assumption | exact And.left (by with_reducible assumption)) _ _ _ hw13 _ _ _ hw14).mono ?_); rintro e wa16 ⟨rfl, hb⟩; go_split_ands; have hBw : Below W7.heap.size W7 wa16 := keep_below (by with_reducible assumption) hb; have gw0 : wa16.cell? ⟨q7, 0, none⟩ = some (.bool b7) := keep_cell hb (by with_reducible assumption); have gw1 : wa16.cell? ⟨q7, 1, none⟩ = some (.slice B7 m7 d7) := keep_cell hb (by with_reducible assumption); have gw2 : wa16.cell? ⟨ad5_6, 0, none⟩ = some (.bool b4) := keep_cell hb (by with_reducible assumption); have gw3 : wa16.cell? ⟨ad5_6, 1, none⟩ = some (.slice B4 m4 d4) := keep_cell hb (by with_reducible assumption); have gw4 : wa16.cell? ⟨q7 + 1, 0, none⟩ = some (.bool b8) := keep_cell hb (by with_reducible assumption); have gw5 : wa16.cell? ⟨q7 + 1, 1, none⟩ = some (.slice B8 m8 d8) := keep_cell hb (by with_reducible assumption); have gw6 : wa16.cell? ⟨ad4_5, 0, none⟩ = some (.bool b3) := keep_cell hb (by with_reducible assumption); have gw7 : wa16.cell? ⟨ad4_5, 1, none⟩ = some (.slice B3 m3 d3) := keep_cell hb (by with_reducible assumption); (with_reducible have hw11 := hw11.below hb); (with_reducible have hw12 := hw12.below hb); (with_reducible have hw13 := hw13.below hb); (with_reducible have hw14 := hw14.below hb))
  refine hK.out _ _ ?_ (fun hHeld => ?_)
  · ((try dsimp only); (first | (with_reducible exact ⟨hb0, j0, j1, j2, j3, j4, j5, j6, j7⟩) | (go_split_ands; (repeat' apply And.intro); all_goals (first | with_reducible assumption | with_reducible exact keep_below (by with_reducible assumption) hb | with_reducible exact keep_cell hb (by with_reducible assumption)))))
  clear hK K
  try simp only [Act.put, List.setIfInBounds_toArray, List.set_cons_zero, List.set_cons_succ]
  refine wpAnyH_take (i := 26) (oi := ?_) (v := ?_) (by simp only [List.getElem?_toArray, List.getElem?_cons_succ, List.getElem?_cons_zero]; rfl) (by kernel_rfl) (by kernel_rfl) (by kernel_rfl) (fun _ _ _ h => h) (Or.inl ⟨by rfl, ?_⟩) (by with_reducible assumption) ?_
  rotate_left
  focus ((intro w hSw; (try dsimp only at hSw); go_simp); (try with_reducible rfl))
  try simp only [Act.put, List.setIfInBounds_toArray, List.set_cons_zero, List.set_cons_succ]
  refine wpAnyH_take (i := 27) (oi := ?_) (v := ?_) (by simp only [List.getElem?_toArray, List.getElem?_cons_succ, List.getElem?_cons_zero]; rfl) (by kernel_rfl) (by kernel_rfl) (by kernel_rfl) (fun _ _ _ h => h) (Or.inl ⟨by rfl, ?_⟩) (by with_reducible assumption) ?_
  rotate_left
  focus ((intro w hSw; (try dsimp only at hSw); go_simp); (try with_reducible rfl))
  try simp only [Act.put, List.setIfInBounds_toArray, List.set_cons_zero, List.set_cons_succ]
  refine wpAnyH_take (i := 28) (oi := ?_) (v := ?_) (by simp only [List.getElem?_toArray, List.getElem?_cons_succ, List.getElem?_cons_zero]; rfl) (by kernel_rfl) (by kernel_rfl) (by kernel_rfl) (fun _ _ _ h => h) (Or.inl ⟨by rfl, ?_⟩) (by with_reducible assumption) ?_
  rotate_left
  focus ((intro w hSw; (try dsimp only at hSw); go_simp); (try with_reducible rfl))
  try simp only [Act.put, List.setIfInBounds_toArray, List.set_cons_zero, List.set_cons_succ]
  refine wpAnyH_done (by kernel_rfl) ?_ _
  refine NoPanic.normal ?_
  clear hb
  have hB := keep_below hB hBw
  have g1 := keep_cell hBw g1
  have e1 := keep_cell hBw e1
  have g2 := keep_cell hBw g2
  have e2 := keep_cell hBw e2
  have g5 := keep_cell hBw g5
  have e5 := keep_cell hBw e5
  have g6 := keep_cell hBw g6
  have e6 := keep_cell hBw e6
  have HN3 := Lib.hid (HN3.out.below hBw)
  have HN4 := Lib.hid (HN4.out.below hBw)
  have HN7 := Lib.hid (HN7.out.below hBw)
  have HN8 := Lib.hid (HN8.out.below hBw)
  have g9 := keep_cell hBw g9
  have e9 := keep_cell hBw e9
  have g10 := keep_cell hBw g10
  have e10 := keep_cell hBw e10
  have HN11 := Lib.hid hw11
  have HN12 := Lib.hid hw12
  have HN13 := Lib.hid hw13
  have HN14 := Lib.hid hw14
  clear hb0 hBw gw0 gw1 gw2 gw3 gw4 gw5 gw6 gw7 hw11 hw12 hw13 hw14
  clear j0
  clear j1
  clear j2
  clear j3
  clear j4
  clear j5
  clear j6
  clear j7
  clear C0 C1 C2 C3 C4 C5 C6 C7 C8
  go_wp2
  go_ret
  exact ⟨by first | rfl | simp, hB⟩
set_option maxHeartbeats 16000000 in
theorem integerBack_2 {T : World → Prop} (hTb : ∀ w w', T w → Below w.heap.size w w' → T w') (IC : IntC T) (s0 : Bool) (A0 : Option Addr) (n0 c0 : Nat) (l0 : List Nat) (s1 : Bool) (A1 : Option Addr) (n1 c1 : Nat) (l1 : List Nat) (w : World) (h0 : ArgWords w A0 n0 c0 l0) (h1 : ArgWords w A1 n1 c1 l1) (hy : zOf s1 l1 ≠ 0) (hr : rI (zOf s0 l0) (zOf s1 l1) < 0) (hs : zOf s1 l1 < 0) (hT : T w) :
    Calls Try.prog 8 #[.agg #[.bool s0, .slice A0 n0 c0], .agg #[.bool s1, .slice A1 n1 c1]] w fun e w' => e = .returned (.bool true) ∧ Below w.heap.size w w' := by
  have HAW := Lib.hid (fun w' (hb : Below w.heap.size w w') => law7_awake hTb IC w' (hTb w w' hT hb))
  have HIC := Lib.hid IC
  have HT := Lib.hid (fun w' (hb : Below w.heap.size w w') => hTb w w' hT hb)
  obtain ⟨K, hK⟩ : ∃ K, 1048576 = K := ⟨_, rfl⟩
  have hKK : K ≤ 1048576 := by omega
  have HM0 := Lib.hid (fun w' (hb : Below w.heap.size w w') => law7_make hTb IC s0 A0 n0 c0 l0 w' ⟨(h0.reads.below hb).more hb.size, h0.dgs, h0.fits, h0.small⟩ (hTb w w' hT hb))
  have S0 : Sz 1048576 (zOf s0 l0).natAbs := by rw [zOf_abs]; exact arg_sz h0
  rw [hK] at S0
  obtain ⟨x, hz0⟩ : ∃ x, zOf s0 l0 = x := ⟨_, rfl⟩
  rw [hz0] at HM0 S0 hr
  have HS0 := Lib.hid S0
  have HM1 := Lib.hid (fun w' (hb : Below w.heap.size w w') => law7_make hTb IC s1 A1 n1 c1 l1 w' ⟨(h1.reads.below hb).more hb.size, h1.dgs, h1.fits, h1.small⟩ (hTb w w' hT hb))
  have S1 : Sz 1048576 (zOf s1 l1).natAbs := by rw [zOf_abs]; exact arg_sz h1
  rw [hK] at S1
  obtain ⟨y, hz1⟩ : ∃ x, zOf s1 l1 = x := ⟨_, rfl⟩
  rw [hz1] at HM1 S1 hy hr hs
  have HS1 := Lib.hid S1
  have Hhy := Lib.hid hy
  have Hhr := Lib.hid hr
  have Hhs := Lib.hid hs
  clear IC hT h0 hz0 S0 h1 hz1 S1 hy hr hs hK
  go_enter Try.func8, Try.ntmps8
  have hB := Below.refl w.heap.size w
  obtain ⟨bx1, bx2, bx3, bz⟩ := box2 w 24 24 #[.bool s0, .slice A0 n0 c0] #[.bool s1, .slice A1 n1 c1]
  have hB := keep_below hB bx1
  have g1 : ((w.alloc (.cells #[.bool s0, .slice A0 n0 c0] 24)).alloc (.cells #[.bool s1, .slice A1 n1 c1] 24)).cell? ⟨w.heap.size, 0, none⟩ = some (.bool s0) := bx2.cell 0
  have e1 : ((w.alloc (.cells #[.bool s0, .slice A0 n0 c0] 24)).alloc (.cells #[.bool s1, .slice A1 n1 c1] 24)).cell? ⟨w.heap.size, 1, none⟩ = some (.slice A0 n0 c0) := bx2.cell 1
  have g2 : ((w.alloc (.cells #[.bool s0, .slice A0 n0 c0] 24)).alloc (.cells #[.bool s1, .slice A1 n1 c1] 24)).cell? ⟨w.heap.size + 1, 0, none⟩ = some (.bool s1) := bx3.cell 0
  have e2 : ((w.alloc (.cells #[.bool s0, .slice A0 n0 c0] 24)).alloc (.cells #[.bool s1, .slice A1 n1 c1] 24)).cell? ⟨w.heap.size + 1, 1, none⟩ = some (.slice A1 n1 c1) := bx3.cell 1
  clear bx1 bx2 bx3 bz
  go_wp2_with fail
  generalize (w.alloc (.cells #[.bool s0, .slice A0 n0 c0] 24)).alloc (.cells #[.bool s1, .slice A1 n1 c1] 24) = W1 at *
  (with_reducible refine (HAW.out _ hB).mono ?_)
  rintro e wc2 ⟨rfl, hb⟩
  have hB := keep_below hB hb
  have g1 := keep_cell hb g1
  have e1 := keep_cell hb e1
  have g2 := keep_cell hb g2
  have e2 := keep_cell hb e2
  clear hb 
  go_wp2_with fail
  have HZ3 : Hid (Sz (K) (x).natAbs) := HS0.out
  have C0 := Lib.hid (fun w' (h : Below wc2.heap.size wc2 w') => HM0.out _ (keep_below hB h))
  have HZ4 : Hid (Sz (K) (y).natAbs) := HS1.out
  have C1 := Lib.hid (fun w' (h : Below wc2.heap.size wc2 w') => HM1.out _ (keep_below hB h))
  have G0 := Lib.hid (fun w' (h : Below wc2.heap.size wc2 w') => (⟨keep_cell h g1, keep_cell h e1⟩ : w'.cell? ⟨w.heap.size, 0, none⟩ = some (.bool s0) ∧ w'.cell? ⟨w.heap.size, 1, none⟩ = some (.slice A0 n0 c0)))
  have G1 := Lib.hid (fun w' (h : Below wc2.heap.size wc2 w') => (⟨keep_cell h g2, keep_cell h e2⟩ : w'.cell? ⟨w.heap.size + 1, 0, none⟩ = some (.bool s1) ∧ w'.cell? ⟨w.heap.size + 1, 1, none⟩ = some (.slice A1 n1 c1)))
  refine wp_region_noPanic ?_
  refine wp_region_held_drew (S := (fun w' => Below wc2.heap.size wc2 w')) (by kernel_rfl) ?_ (fun hHeld => ?_)
  · exact (Below.refl _ wc2).drew
  refine wpAnyH_take (i := 0) (oi := ?_) (v := ?_) (by simp only [List.getElem?_toArray, List.getElem?_cons_succ, List.getElem?_cons_zero]; rfl) (by kernel_rfl) (by kernel_rfl) (by kernel_rfl) (fun _ _ _ h => h) (Or.inl ⟨by rfl, ?_⟩) (by with_reducible assumption) ?_
  rotate_left
  focus ((intro wz hSw; (try dsimp only at hSw); obtain ⟨z0, z1⟩ := G0.out wz hSw; go_simp); (try with_reducible rfl))
  try simp only [Act.put, List.setIfInBounds_toArray, List.set_cons_zero, List.set_cons_succ]
  refine wpAnyH_take (i := 2) (oi := ?_) (v := ?_) (by simp only [List.getElem?_toArray, List.getElem?_cons_succ, List.getElem?_cons_zero]; rfl) (by kernel_rfl) (by kernel_rfl) (by kernel_rfl) (fun _ _ _ h => h) (Or.inl ⟨by rfl, ?_⟩) (by with_reducible assumption) ?_
  rotate_left
  focus ((intro wz hSw; (try dsimp only at hSw); obtain ⟨z0, z1⟩ := G1.out wz hSw; go_simp); (try with_reducible rfl))
  try simp only [Act.put, List.setIfInBounds_toArray, List.set_cons_zero, List.set_cons_succ]
  refine wpAnyH_meet (L := #[true, true, true, true, true, true, false, false])
    (J := fun a0 l a w' => ∃ (fl1 fl3 fl4 fl5 : Bool) (vl13 vl15 vl5 vl6 : Value) (b3 : Bool) (B3 : Option Addr) (m3 d3 : Nat) (b4 : Bool) (B4 : Option Addr) (m4 d4 ad4 ad5 : Nat), l = #[true, fl1, true, fl3, fl4, fl5, false, false] ∧ a = (((a0.put (some 13) vl13).put (some 15) vl15).put (some 5) vl5).put (some 6) vl6 ∧ Hid (Below wc2.heap.size wc2 w') ∧
      Hid (Gd fl1 (vl13 = .agg #[.bool b3, .slice B3 m3 d3] ∧ IntIn w' (x) b3 B3 m3 d3)) ∧
      Hid (Gd fl3 (vl15 = .agg #[.bool b4, .slice B4 m4 d4] ∧ IntIn w' (y) b4 B4 m4 d4)) ∧
      Hid (Gd fl4 (Made wc2.heap.size w' ad4 29 #[.bool false, .slice none 0 0] vl5)) ∧
      Hid (Gd fl5 (Made wc2.heap.size w' ad5 29 #[.bool false, .slice none 0 0] vl6)) ∧
      Hid (Gd fl4 (Gd fl5 (ad4 ≠ ad5))) ∧
      Hid (Gd fl3 (fl1 = true)))
    (by rfl) ?_ ?_ ?_ ?_
  · exact ⟨false, false, false, false, _, _, _, _, false, none, 0, 0, false, none, 0, 0, 0, 0, by kernel_rfl, by rfl, hHeld, Gd.no, Gd.no, Gd.no, Gd.no, Gd.no, Gd.no⟩
  · rintro l a w' ⟨fl1, fl3, fl4, fl5, vl13, vl15, vl5, vl6, b3, B3, m3, d3, b4, B4, m4, d4, ad4, ad5, rfl, rfl, -⟩ hr
    have xx1 : fl1 = true := by refine all_listed (i := 1) (o := ?_) hr (by simp only [List.getElem?_toArray, List.getElem?_cons_succ, List.getElem?_cons_zero]; rfl) ?_; rfl
    subst xx1
    have xx3 : fl3 = true := by refine all_listed (i := 3) (o := ?_) hr (by simp only [List.getElem?_toArray, List.getElem?_cons_succ, List.getElem?_cons_zero]; rfl) ?_; rfl
    subst xx3
    have xx4 : fl4 = true := by refine all_listed (i := 4) (o := ?_) hr (by simp only [List.getElem?_toArray, List.getElem?_cons_succ, List.getElem?_cons_zero]; rfl) ?_; rfl
    subst xx4
    have xx5 : fl5 = true := by refine all_listed (i := 5) (o := ?_) hr (by simp only [List.getElem?_toArray, List.getElem?_cons_succ, List.getElem?_cons_zero]; rfl) ?_; rfl
    subst xx5
    rfl
  · rintro l a w' i ⟨fl1, fl3, fl4, fl5, vl13, vl15, vl5, vl6, b3, B3, m3, d3, b4, B4, m4, d4, ad4, ad5, rfl, rfl, hBi, qf1, qf3, qf4, qf5, qn4_5, qd3_1⟩ hne hi
    have hlt : i < 8 := ready_lt hi
    rcases (show i = 0 ∨ i = 1 ∨ i = 2 ∨ i = 3 ∨ i = 4 ∨ i = 5 ∨ i = 6 ∨ i = 7 by omega) with rfl | rfl | rfl | rfl | rfl | rfl | rfl | rfl
    · have u : true = false := ready_un hi
      cases u
    · have u : fl1 = false := ready_un hi
      subst u
      refine wpOp_shut (by simp only [List.getElem?_toArray, List.getElem?_cons_succ, List.getElem?_cons_zero]; rfl) (fun K' hK => ?_)
      try simp only [Act.put, List.setIfInBounds_toArray, List.set_cons_zero, List.set_cons_succ]
      go_simp
      refine (C0.out w' hBi.out).mono ?_
      rintro e w2 ⟨nb3, nB3, nm3, nd3, rfl, nhw3, hb⟩
      exact hK.out _ _ ⟨keep_below hBi.out hb, true, fl3, fl4, fl5, _, vl15, vl5, vl6, nb3, nB3, nm3, nd3, b4, B4, m4, d4, ad4, ad5, by rfl, by rfl, keep_below hBi.out hb, Gd.yes ⟨rfl, nhw3⟩, qf3.out.mono fun h => ⟨h.1, h.2.below hb⟩, qf4.out.mono fun h => h.keep hb, qf5.out.mono fun h => h.keep hb, qn4_5, fun _ => rfl⟩
    · have u : true = false := ready_un hi
      cases u
    · have u : fl3 = false := ready_un hi
      subst u
      have yy1 : fl1 = true := by refine ready_dep (k := 1) (o := ?_) hi (by simp only [List.getElem?_toArray, List.getElem?_cons_succ, List.getElem?_cons_zero]; rfl) rfl rfl
      subst yy1
      refine wpOp_shut (by simp only [List.getElem?_toArray, List.getElem?_cons_succ, List.getElem?_cons_zero]; rfl) (fun K' hK => ?_)
      try simp only [Act.put, List.setIfInBounds_toArray, List.set_cons_zero, List.set_cons_succ]
      go_simp
      refine (C1.out w' hBi.out).mono ?_
      rintro e w2 ⟨nb4, nB4, nm4, nd4, rfl, nhw4, hb⟩
      exact hK.out _ _ ⟨keep_below hBi.out hb, true, true, fl4, fl5, vl13, _, vl5, vl6, b3, B3, m3, d3, nb4, nB4, nm4, nd4, ad4, ad5, by rfl, by rfl, keep_below hBi.out hb, qf1.out.mono fun h => ⟨h.1, h.2.below hb⟩, Gd.yes ⟨rfl, nhw4⟩, qf4.out.mono fun h => h.keep hb, qf5.out.mono fun h => h.keep hb, qn4_5, Gd.yes rfl⟩
    · have u : fl4 = false := ready_un hi
      subst u
      refine wpOp_shut (by simp only [List.getElem?_toArray, List.getElem?_cons_succ, List.getElem?_cons_zero]; rfl) (fun K' hK => ?_)
      try simp only [Act.put, List.setIfInBounds_toArray, List.set_cons_zero, List.set_cons_succ]
      go_simp
      have hb := up_alloc w' (.cells #[.bool false, .slice none 0 0] 29)
      exact hK.out _ _ ⟨keep_below hBi.out hb, fl1, fl3, true, fl5, vl13, vl15, _, vl6, b3, B3, m3, d3, b4, B4, m4, d4, _, ad5, by rfl, by rfl, keep_below hBi.out hb, qf1.out.mono fun h => ⟨h.1, h.2.below hb⟩, qf3.out.mono fun h => ⟨h.1, h.2.below hb⟩, Gd.yes (Made.new _ _ _ _ hBi.out.size), qf5.out.mono fun h => h.keep hb, Gd.yes (qf5.out.mono fun h => by have := h.lt; omega), qd3_1⟩
    · have u : fl5 = false := ready_un hi
      subst u
      refine wpOp_shut (by simp only [List.getElem?_toArray, List.getElem?_cons_succ, List.getElem?_cons_zero]; rfl) (fun K' hK => ?_)
      try simp only [Act.put, List.setIfInBounds_toArray, List.set_cons_zero, List.set_cons_succ]
      go_simp
      have hb := up_alloc w' (.cells #[.bool false, .slice none 0 0] 29)
      exact hK.out _ _ ⟨keep_below hBi.out hb, fl1, fl3, fl4, true, vl13, vl15, vl5, _, b3, B3, m3, d3, b4, B4, m4, d4, ad4, _, by rfl, by rfl, keep_below hBi.out hb, qf1.out.mono fun h => ⟨h.1, h.2.below hb⟩, qf3.out.mono fun h => ⟨h.1, h.2.below hb⟩, qf4.out.mono fun h => h.keep hb, Gd.yes (Made.new _ _ _ _ hBi.out.size), qf4.out.mono fun h => Gd.yes (by have := h.lt; omega), qd3_1⟩
    · have yy1 : fl1 = true := by refine ready_dep (k := 1) (o := ?_) hi (by simp only [List.getElem?_toArray, List.getElem?_cons_succ, List.getElem?_cons_zero]; rfl) rfl rfl
      subst yy1
      have yy3 : fl3 = true := by refine ready_dep (k := 2) (o := ?_) hi (by simp only [List.getElem?_toArray, List.getElem?_cons_succ, List.getElem?_cons_zero]; rfl) rfl rfl
      subst yy3
      have yy4 : fl4 = true := by refine ready_dep (k := 0) (o := ?_) hi (by simp only [List.getElem?_toArray, List.getElem?_cons_succ, List.getElem?_cons_zero]; rfl) rfl rfl
      subst yy4
      have yy5 : fl5 = true := by refine ready_dep (k := 8) (o := ?_) hi (by simp only [List.getElem?_toArray, List.getElem?_cons_succ, List.getElem?_cons_zero]; rfl) rfl rfl
      subst yy5
      exact absurd rfl hne
    · have u : false = true := by refine ready_dep (k := 2) (o := ?_) hi (by simp only [List.getElem?_toArray, List.getElem?_cons_succ, List.getElem?_cons_zero]; rfl) rfl rfl
      cases u
  rintro a wm3 ⟨fl1, fl3, fl4, fl5, vl13, vl15, vl5, vl6, b3, B3, m3, d3, b4, B4, m4, d4, ad4, ad5, hl, rfl, hBi, qf1, qf3, qf4, qf5, qn4_5, qd3_1⟩
  have xx1 : fl1 = true := by have h := congrArg (fun l : Array Bool => l.getD 1 false) hl; exact h.symm
  subst xx1
  have xx3 : fl3 = true := by have h := congrArg (fun l : Array Bool => l.getD 3 false) hl; exact h.symm
  subst xx3
  have xx4 : fl4 = true := by have h := congrArg (fun l : Array Bool => l.getD 4 false) hl; exact h.symm
  subst xx4
  have xx5 : fl5 = true := by have h := congrArg (fun l : Array Bool => l.getD 5 false) hl; exact h.symm
  subst xx5
  obtain ⟨rfl, hw3⟩ := qf1.out.get
  obtain ⟨rfl, hw4⟩ := qf3.out.get
  obtain ⟨rfl, hg4, hk4⟩ := qf4.out.get
  obtain ⟨rfl, hg5, hk5⟩ := qf5.out.get
  have n4_5 := qn4_5.out.get.get
  have hBv := hBi.out
  clear hl hBi qf1 qf3 qf4 qf5 qn4_5 qd3_1
  have hk4 : Blk wm3 ad4 29 #[.bool false, .slice none 0 0] := hk4
  have hk5 : Blk wm3 ad5 29 #[.bool false, .slice none 0 0] := hk5
  rw [show due #[true, true, true, true, true, true, false, false] = 2 from rfl]
  try simp only [Act.put, List.setIfInBounds_toArray, List.set_cons_zero, List.set_cons_succ]
  refine wpAnyH_ready (rs := [6]) (by kernel_rfl) (by simp) ?_
  refine AllReadyH.cons (o := ?_) (by simp only [List.getElem?_toArray, List.getElem?_cons_succ, List.getElem?_cons_zero]; rfl) (fun K hK => ?_) AllReadyH.nil
  have sc0 : (wm3).cell? ⟨ad4, 0, none⟩ = some (.bool false) := hk4.cell 0
  have sf0 : (wm3).frozen? ⟨ad4, 0, none⟩ = false := hk4.frozen 0
  have hj0 : Blk (wm3.setCell ⟨ad4, 0, none⟩ (.bool b3)) ad4 29 #[.bool b3, .slice none 0 0] := hk4.set_ 0 (.bool b3)
  have sc1 : (wm3.setCell ⟨ad4, 0, none⟩ (.bool b3)).cell? ⟨ad4, 1, none⟩ = some (.slice none 0 0) := hj0.cell 1
  have sf1 : (wm3.setCell ⟨ad4, 0, none⟩ (.bool b3)).frozen? ⟨ad4, 1, none⟩ = false := hj0.frozen 1
  have hj1 : Blk ((wm3.setCell ⟨ad4, 0, none⟩ (.bool b3)).setCell ⟨ad4, 1, none⟩ (.slice B3 m3 d3)) ad4 29 #[.bool b3, .slice B3 m3 d3] := hj0.set_ 1 (.slice B3 m3 d3)
  go_simp
  have hBv := keep_below_set (p := ⟨ad4, 1, none⟩) (.slice B3 m3 d3) hg4 (keep_below_set (p := ⟨ad4, 0, none⟩) (.bool b3) hg4 (hBv))
  have hk5 := Blk.far (Blk.far (hk5) (p := ⟨ad4, 0, none⟩) (show ad5 ≠ ad4 from n4_5.symm) (.bool b3)) (p := ⟨ad4, 1, none⟩) (show ad5 ≠ ad4 from n4_5.symm) (.slice B3 m3 d3)
  have hw3 := int_set2 hw3 hk4 b3 B3 m3 d3
  have hw4 := int_set2 hw4 hk4 b3 B3 m3 d3
  have hk4 := hj1
  clear sc0 sf0 sc1 sf1 hj0 hj1
  refine hK.out _ _ ?_ (fun hHeld => ?_)
  · ((try dsimp only); exact hBv)
  clear hK K hHeld
  try simp only [Act.put, List.setIfInBounds_toArray, List.set_cons_zero, List.set_cons_succ]
  generalize (wm3.setCell ⟨ad4, 0, none⟩ (.bool b3)).setCell ⟨ad4, 1, none⟩ (.slice B3 m3 d3) = wm4 at *
  refine wpAnyH_ready (rs := [7]) (by kernel_rfl) (by simp) ?_
  refine AllReadyH.cons (o := ?_) (by simp only [List.getElem?_toArray, List.getElem?_cons_succ, List.getElem?_cons_zero]; rfl) (fun K hK => ?_) AllReadyH.nil
  have sc0 : (wm4).cell? ⟨ad5, 0, none⟩ = some (.bool false) := hk5.cell 0
  have sf0 : (wm4).frozen? ⟨ad5, 0, none⟩ = false := hk5.frozen 0
  have hj0 : Blk (wm4.setCell ⟨ad5, 0, none⟩ (.bool b4)) ad5 29 #[.bool b4, .slice none 0 0] := hk5.set_ 0 (.bool b4)
  have sc1 : (wm4.setCell ⟨ad5, 0, none⟩ (.bool b4)).cell? ⟨ad5, 1, none⟩ = some (.slice none 0 0) := hj0.cell 1
  have sf1 : (wm4.setCell ⟨ad5, 0, none⟩ (.bool b4)).frozen? ⟨ad5, 1, none⟩ = false := hj0.frozen 1
  have hj1 : Blk ((wm4.setCell ⟨ad5, 0, none⟩ (.bool b4)).setCell ⟨ad5, 1, none⟩ (.slice B4 m4 d4)) ad5 29 #[.bool b4, .slice B4 m4 d4] := hj0.set_ 1 (.slice B4 m4 d4)
  go_simp
  have hBv := keep_below_set (p := ⟨ad5, 1, none⟩) (.slice B4 m4 d4) hg5 (keep_below_set (p := ⟨ad5, 0, none⟩) (.bool b4) hg5 (hBv))
  have hk4 := Blk.far (Blk.far (hk4) (p := ⟨ad5, 0, none⟩) (show ad4 ≠ ad5 from n4_5) (.bool b4)) (p := ⟨ad5, 1, none⟩) (show ad4 ≠ ad5 from n4_5) (.slice B4 m4 d4)
  have hw3 := int_set2 hw3 hk5 b4 B4 m4 d4
  have hw4 := int_set2 hw4 hk5 b4 B4 m4 d4
  have hk5 := hj1
  clear sc0 sf0 sc1 sf1 hj0 hj1
  refine hK.out _ _ ?_ (fun hHeld => ?_)
  · ((try dsimp only); exact hBv)
  clear hK K hHeld
  try simp only [Act.put, List.setIfInBounds_toArray, List.set_cons_zero, List.set_cons_succ]
  generalize (wm4.setCell ⟨ad5, 0, none⟩ (.bool b4)).setCell ⟨ad5, 1, none⟩ (.slice B4 m4 d4) = wm5 at *
  refine wpAnyH_done (by kernel_rfl) ?_ _
  refine NoPanic.normal ?_
  have hB := keep_below hB hBv
  have g1 := keep_cell hBv g1
  have e1 := keep_cell hBv e1
  have g2 := keep_cell hBv g2
  have e2 := keep_cell hBv e2
  obtain ⟨ad4_5, hga⟩ : ∃ x, x = ad4 := ⟨_, rfl⟩
  subst hga
  have g5 : wm5.cell? ⟨ad4_5, 0, none⟩ = some (.bool b3) := hk4.cell 0
  have e5 : wm5.cell? ⟨ad4_5, 1, none⟩ = some (.slice B3 m3 d3) := hk4.cell 1
  obtain ⟨ad5_6, hga⟩ : ∃ x, x = ad5 := ⟨_, rfl⟩
  subst hga
  have g6 : wm5.cell? ⟨ad5_6, 0, none⟩ = some (.bool b4) := hk5.cell 0
  have e6 : wm5.cell? ⟨ad5_6, 1, none⟩ = some (.slice B4 m4 d4) := hk5.cell 1
  have HN3 := Lib.hid hw3
  have HN4 := Lib.hid hw4
  clear hBv hk4 hg4 hk5 hg5 hw3 hw4 G0 G1 n4_5
  clear C0 C1
  go_wp2_with fail
  have HZ7 : Hid (Sz (K) (qI x y).natAbs) := SzI.q _ HZ3.out
  have HZ8 : Hid (Sz (K) (rI x y).natAbs) := SzI.r _ Hhy.out HZ4.out
  (with_reducible refine (HIC.out.div (x) (y) b3 b4 B3 B4 m3 m4 d3 d4 _ (HT.out _ hB) HN3.out HN4.out (by have := Sz.words HZ3.out HN3.out.words; omega) (by have := Sz.words HZ4.out HN4.out.words; omega) Hhy.out).mono ?_)
  rintro e wc6 ⟨b7, B7, m7, d7, b8, B8, m8, d8, rfl, hw7, hw8, hb⟩
  have hB := keep_below hB hb
  have g1 := keep_cell hb g1
  have e1 := keep_cell hb e1
  have g2 := keep_cell hb g2
  have e2 := keep_cell hb e2
  have g5 := keep_cell hb g5
  have e5 := keep_cell hb e5
  have g6 := keep_cell hb g6
  have e6 := keep_cell hb e6
  have HN3 := Lib.hid (HN3.out.below hb)
  have HN4 := Lib.hid (HN4.out.below hb)
  have HN7 := Lib.hid hw7
  have HN8 := Lib.hid hw8
  clear hb hw7 hw8
  obtain ⟨bx1, bx2, bx3, bz⟩ := box2 wc6 29 29 #[.bool b7, .slice B7 m7 d7] #[.bool b8, .slice B8 m8 d8]
  have hB := keep_below hB bx1
  have g1 := keep_cell bx1 g1
  have e1 := keep_cell bx1 e1
  have g2 := keep_cell bx1 g2
  have e2 := keep_cell bx1 e2
  have g5 := keep_cell bx1 g5
  have e5 := keep_cell bx1 e5
  have g6 := keep_cell bx1 g6
  have e6 := keep_cell bx1 e6
  have HN3 := Lib.hid (HN3.out.below bx1)
  have HN4 := Lib.hid (HN4.out.below bx1)
  have HN7 := Lib.hid (HN7.out.below bx1)
  have HN8 := Lib.hid (HN8.out.below bx1)
  have g9 : ((wc6.alloc (.cells #[.bool b7, .slice B7 m7 d7] 29)).alloc (.cells #[.bool b8, .slice B8 m8 d8] 29)).cell? ⟨wc6.heap.size, 0, none⟩ = some (.bool b7) := bx2.cell 0
  have e9 : ((wc6.alloc (.cells #[.bool b7, .slice B7 m7 d7] 29)).alloc (.cells #[.bool b8, .slice B8 m8 d8] 29)).cell? ⟨wc6.heap.size, 1, none⟩ = some (.slice B7 m7 d7) := bx2.cell 1
  have g10 : ((wc6.alloc (.cells #[.bool b7, .slice B7 m7 d7] 29)).alloc (.cells #[.bool b8, .slice B8 m8 d8] 29)).cell? ⟨wc6.heap.size + 1, 0, none⟩ = some (.bool b8) := bx3.cell 0
  have e10 : ((wc6.alloc (.cells #[.bool b7, .slice B7 m7 d7] 29)).alloc (.cells #[.bool b8, .slice B8 m8 d8] 29)).cell? ⟨wc6.heap.size + 1, 1, none⟩ = some (.slice B8 m8 d8) := bx3.cell 1
  clear bx1 bx2 bx3 bz
  go_wp2_with fail
  generalize (wc6.alloc (.cells #[.bool b7, .slice B7 m7 d7] 29)).alloc (.cells #[.bool b8, .slice B8 m8 d8] 29) = W7 at *
  generalize wc6.heap.size = q7 at *
  have HZ11 : Hid (Sz (K + K) ((qI x y) * y).natAbs) := SzI.mul HZ7.out HZ4.out
  have C0 := Lib.hid (fun w' (h : Below W7.heap.size W7 w') => HIC.out.mul (qI x y) (y) b7 b4 B7 B4 m7 m4 d7 d4 w' (HT.out _ (keep_below hB h)) (HN7.out.below h) (HN4.out.below h) (by have := Sz.words HZ7.out HN7.out.words; omega) (by have := Sz.words HZ4.out HN4.out.words; omega))
  have HZ12 : Hid (Sz ((K + K) + K + 1) (((qI x y) * y) + (rI x y)).natAbs) := SzI.add HZ11.out HZ8.out
  have C1 := Lib.hid (fun w' (h : Below W7.heap.size W7 w') (b11 : Bool) (B11 : Option Addr) (m11 : Nat) (d11 : Nat) (hw11 : IntIn w' ((qI x y) * y) b11 B11 m11 d11) => HIC.out.add ((qI x y) * y) (rI x y) b11 b8 B11 B8 m11 m8 d11 d8 w' (HT.out _ (keep_below hB h)) hw11 (HN8.out.below h) (by have := Sz.words HZ11.out hw11.words; omega) (by have := Sz.words HZ8.out HN8.out.words; omega))
  have C2 := Lib.hid (fun w' (h : Below W7.heap.size W7 w') (b12 : Bool) (B12 : Option Addr) (m12 : Nat) (d12 : Nat) (hw12 : IntIn w' (((qI x y) * y) + (rI x y)) b12 B12 m12 d12) => icmp_eq (qI_rI _ _) (HIC.out.cmp (((qI x y) * y) + (rI x y)) (x) b12 b3 B12 B3 m12 m3 d12 d3 w' (HT.out _ (keep_below hB h)) hw12 (HN3.out.below h) (by have := Sz.words HZ12.out hw12.words; omega) (by have := Sz.words HZ3.out HN3.out.words; omega)))
  have C3 := Lib.hid (fun w' (h : Below W7.heap.size W7 w') => isgn_of (v := -1) ((sgn_neg Hhr.out)) (HIC.out.sign (rI x y) b8 B8 m8 d8 w' (HT.out _ (keep_below hB h)) (HN8.out.below h) (by have := Sz.words HZ8.out HN8.out.words; omega)))
  have C4 := Lib.hid (fun w' (h : Below W7.heap.size W7 w') => isgn_of (v := -1) ((sgn_neg Hhr.out)) (HIC.out.sign (rI x y) b8 B8 m8 d8 w' (HT.out _ (keep_below hB h)) (HN8.out.below h) (by have := Sz.words HZ8.out HN8.out.words; omega)))
  have C5 := Lib.hid (fun w' (h : Below W7.heap.size W7 w') => isgn_of (v := -1) ((sgn_neg Hhs.out)) (HIC.out.sign (y) b4 B4 m4 d4 w' (HT.out _ (keep_below hB h)) (HN4.out.below h) (by have := Sz.words HZ4.out HN4.out.words; omega)))
  have HZ13 : Hid (Sz (K) ((rI x y).natAbs)) := HZ8.out
  have C6 := Lib.hid (fun w' (h : Below W7.heap.size W7 w') => HIC.out.abs (rI x y) b8 B8 m8 d8 w' (HT.out _ (keep_below hB h)) (HN8.out.below h) (by have := Sz.words HZ8.out HN8.out.words; omega))
  have HZ14 : Hid (Sz (K) (y.natAbs)) := HZ4.out
  have C7 := Lib.hid (fun w' (h : Below W7.heap.size W7 w') => HIC.out.abs (y) b4 B4 m4 d4 w' (HT.out _ (keep_below hB h)) (HN4.out.below h) (by have := Sz.words HZ4.out HN4.out.words; omega))
  have C8 := Lib.hid (fun w' (h : Below W7.heap.size W7 w') (B13 : Option Addr) (m13 : Nat) (d13 : Nat) (hw13 : WordsIn w' ((rI x y).natAbs) B13 m13 d13) (B14 : Option Addr) (m14 : Nat) (d14 : Nat) (hw14 : WordsIn w' (y.natAbs) B14 m14 d14) => cmpLt (x := (rI x y).natAbs) (y := y.natAbs) (rI_abs Hhy.out) hw13 hw14 (by have := Sz.words HZ13.out hw13; omega) (by have := Sz.words HZ14.out hw14; omega))
  have hb0 : Below W7.heap.size W7 W7.drew := (Below.refl _ W7).drew
  have j0 : W7.drew.cell? ⟨q7, 0, none⟩ = some (.bool b7) := g9
  have j1 : W7.drew.cell? ⟨q7, 1, none⟩ = some (.slice B7 m7 d7) := e9
  have j2 : W7.drew.cell? ⟨ad5_6, 0, none⟩ = some (.bool b4) := g6
  have j3 : W7.drew.cell? ⟨ad5_6, 1, none⟩ = some (.slice B4 m4 d4) := e6
  have j4 : W7.drew.cell? ⟨q7 + 1, 0, none⟩ = some (.bool b8) := g10
  have j5 : W7.drew.cell? ⟨q7 + 1, 1, none⟩ = some (.slice B8 m8 d8) := e10
  have j6 : W7.drew.cell? ⟨ad4_5, 0, none⟩ = some (.bool b3) := g5
  have j7 : W7.drew.cell? ⟨ad4_5, 1, none⟩ = some (.slice B3 m3 d3) := e5
  refine wp_region_noPanic ?_
  refine wp_region_held_drew (S := (fun w' => Below W7.heap.size W7 w' ∧ w'.cell? ⟨q7, 0, none⟩ = some (.bool b7) ∧ w'.cell? ⟨q7, 1, none⟩ = some (.slice B7 m7 d7) ∧ w'.cell? ⟨ad5_6, 0, none⟩ = some (.bool b4) ∧ w'.cell? ⟨ad5_6, 1, none⟩ = some (.slice B4 m4 d4) ∧ w'.cell? ⟨q7 + 1, 0, none⟩ = some (.bool b8) ∧ w'.cell? ⟨q7 + 1, 1, none⟩ = some (.slice B8 m8 d8) ∧ w'.cell? ⟨ad4_5, 0, none⟩ = some (.bool b3) ∧ w'.cell? ⟨ad4_5, 1, none⟩ = some (.slice B3 m3 d3))) (by kernel_rfl) ?_ (fun hHeld => ?_)
  · exact ⟨hb0, j0, j1, j2, j3, j4, j5, j6, j7⟩
  refine wpAnyH_take (i := 0) (oi := ?_) (v := ?_) (by simp only [List.getElem?_toArray, List.getElem?_cons_succ, List.getElem?_cons_zero]; rfl) (by kernel_rfl) (by kernel_rfl) (by kernel_rfl) (fun _ _ _ h => h) (Or.inl ⟨by rfl, ?_⟩) (by with_reducible assumption) ?_
  rotate_left
  focus ((intro w hSw; (try dsimp only at hSw); go_simp); (try with_reducible rfl))
  try simp only [Act.put, List.setIfInBounds_toArray, List.set_cons_zero, List.set_cons_succ]
  refine wpAnyH_take (i := 1) (oi := ?_) (v := ?_) (by simp only [List.getElem?_toArray, List.getElem?_cons_succ, List.getElem?_cons_zero]; rfl) (by kernel_rfl) (by kernel_rfl) (by kernel_rfl) (fun _ _ _ h => h) (Or.inl ⟨by rfl, ?_⟩) (by with_reducible assumption) ?_
  rotate_left
  focus ((intro w hSw; (try dsimp only at hSw); go_simp); (try with_reducible rfl))
  try simp only [Act.put, List.setIfInBounds_toArray, List.set_cons_zero, List.set_cons_succ]
  refine wpAnyH_take (i := 3) (oi := ?_) (v := ?_) (by simp only [List.getElem?_toArray, List.getElem?_cons_succ, List.getElem?_cons_zero]; rfl) (by kernel_rfl) (by kernel_rfl) (by kernel_rfl) (fun _ _ _ h => h) (Or.inl ⟨by rfl, ?_⟩) (by with_reducible assumption) ?_
  rotate_left
  focus ((intro w hSw; (try dsimp only at hSw); go_simp); (try with_reducible rfl))
  try simp only [Act.put, List.setIfInBounds_toArray, List.set_cons_zero, List.set_cons_succ]
  refine wpAnyH_take (i := 5) (oi := ?_) (v := ?_) (by simp only [List.getElem?_toArray, List.getElem?_cons_succ, List.getElem?_cons_zero]; rfl) (by kernel_rfl) (by kernel_rfl) (by kernel_rfl) (fun _ _ _ h => h) (Or.inl ⟨by rfl, ?_⟩) (by with_reducible assumption) ?_
  rotate_left
  focus ((intro w hSw; (try dsimp only at hSw); go_simp); (try with_reducible rfl))
  try simp only [Act.put, List.setIfInBounds_toArray, List.set_cons_zero, List.set_cons_succ]
  refine wpAnyH_ready (rs := [2]) (by kernel_rfl) (by simp) ?_
  refine AllReadyH.cons (o := ?_) (by simp only [List.getElem?_toArray, List.getElem?_cons_succ, List.getElem?_cons_zero]; rfl) (fun K hK => ?_) AllReadyH.nil
  go_simp
  (go_at_call 20; (with_reducible refine (C0.out _ (by first | with_reducible assumption | exact And.left (by with_reducible assumption))).mono ?_); rintro e wa8 ⟨b11, B11, m11, d11, rfl, hw11, hb⟩; go_split_ands; have hBw : Below W7.heap.size W7 wa8 := keep_below (by with_reducible assumption) hb; have gw0 : wa8.cell? ⟨q7, 0, none⟩ = some (.bool b7) := keep_cell hb (by with_reducible assumption); have gw1 : wa8.cell? ⟨q7, 1, none⟩ = some (.slice B7 m7 d7) := keep_cell hb (by with_reducible assumption); have gw2 : wa8.cell? ⟨ad5_6, 0, none⟩ = some (.bool b4) := keep_cell hb (by with_reducible assumption); have gw3 : wa8.cell? ⟨ad5_6, 1, none⟩ = some (.slice B4 m4 d4) := keep_cell hb (by with_reducible assumption); have gw4 : wa8.cell? ⟨q7 + 1, 0, none⟩ = some (.bool b8) := keep_cell hb (by with_reducible assumption); have gw5 : wa8.cell? ⟨q7 + 1, 1, none⟩ = some (.slice B8 m8 d8) := keep_cell hb (by with_reducible assumption); have gw6 : wa8.cell? ⟨ad4_5, 0, none⟩ = some (.bool b3) := keep_cell hb (by with_reducible assumption); have gw7 : wa8.cell? ⟨ad4_5, 1, none⟩ = some (.slice B3 m3 d3) := keep_cell hb (by with_reducible assumption))
  refine hK.out _ _ ?_ (fun hHeld => ?_)
  · ((try dsimp only); (first | (with_reducible exact ⟨hb0, j0, j1, j2, j3, j4, j5, j6, j7⟩) | (go_split_ands; (repeat' apply And.intro); all_goals (first | with_reducible assumption | with_reducible exact keep_below (by with_reducible assumption) hb | with_reducible exact keep_cell hb (by with_reducible assumption)))))
  clear hK K
  try simp only [Act.put, List.setIfInBounds_toArray, List.set_cons_zero, List.set_cons_succ]
  refine wpAnyH_ready (rs := [4]) (by kernel_rfl) (by simp) ?_
  refine AllReadyH.cons (o := ?_) (by simp only [List.getElem?_toArray, List.getElem?_cons_succ, List.getElem?_cons_zero]; rfl) (fun K hK => ?_) AllReadyH.nil
  go_simp
  (go_at_call 17; (with_reducible refine (C1.out _ (by first | with_reducible assumption | exact And.left (by with_reducible assumption)) _ _ _ _ hw11).mono ?_); rintro e wa9 ⟨b12, B12, m12, d12, rfl, hw12, hb⟩; go_split_ands; have hBw : Below W7.heap.size W7 wa9 := keep_below (by with_reducible assumption) hb; have gw0 : wa9.cell? ⟨q7, 0, none⟩ = some (.bool b7) := keep_cell hb (by with_reducible assumption); have gw1 : wa9.cell? ⟨q7, 1, none⟩ = some (.slice B7 m7 d7) := keep_cell hb (by with_reducible assumption); have gw2 : wa9.cell? ⟨ad5_6, 0, none⟩ = some (.bool b4) := keep_cell hb (by with_reducible assumption); have gw3 : wa9.cell? ⟨ad5_6, 1, none⟩ = some (.slice B4 m4 d4) := keep_cell hb (by with_reducible assumption); have gw4 : wa9.cell? ⟨q7 + 1, 0, none⟩ = some (.bool b8) := keep_cell hb (by with_reducible assumption); have gw5 : wa9.cell? ⟨q7 + 1, 1, none⟩ = some (.slice B8 m8 d8) := keep_cell hb (by with_reducible assumption); have gw6 : wa9.cell? ⟨ad4_5, 0, none⟩ = some (.bool b3) := keep_cell hb (by with_reducible assumption); have gw7 : wa9.cell? ⟨ad4_5, 1, none⟩ = some (.slice B3 m3 d3) := keep_cell hb (by with_reducible assumption); (with_reducible have hw11 := hw11.below hb))
  refine hK.out _ _ ?_ (fun hHeld => ?_)
  · ((try dsimp only); (first | (with_reducible exact ⟨hb0, j0, j1, j2, j3, j4, j5, j6, j7⟩) | (go_split_ands; (repeat' apply And.intro); all_goals (first | with_reducible assumption | with_reducible exact keep_below (by with_reducible assumption) hb | with_reducible exact keep_cell hb (by with_reducible assumption)))))
  clear hK K
  try simp only [Act.put, List.setIfInBounds_toArray, List.set_cons_zero, List.set_cons_succ]
  refine wpAnyH_ready (rs := [6]) (by kernel_rfl) (by simp) ?_
  refine AllReadyH.cons (o := ?_) (by simp only [List.getElem?_toArray, List.getElem?_cons_succ, List.getElem?_cons_zero]; rfl) (fun K hK => ?_) AllReadyH.nil
  go_simp
  (go_at_call 22; (with_reducible refine (C2.out _ (by first | with_reducible assumption | exact And.left (by with_reducible assumption)) _ _ _ _ hw12).mono ?_); rintro e wa10 ⟨rfl, hb⟩; go_split_ands; have hBw : Below W7.heap.size W7 wa10 := keep_below (by with_reducible assumption) hb; have gw0 : wa10.cell? ⟨q7, 0, none⟩ = some (.bool b7) := keep_cell hb (by with_reducible assumption); have gw1 : wa10.cell? ⟨q7, 1, none⟩ = some (.slice B7 m7 d7) := keep_cell hb (by with_reducible assumption); have gw2 : wa10.cell? ⟨ad5_6, 0, none⟩ = some (.bool b4) := keep_cell hb (by with_reducible assumption); have gw3 : wa10.cell? ⟨ad5_6, 1, none⟩ = some (.slice B4 m4 d4) := keep_cell hb (by with_reducible assumption); have gw4 : wa10.cell? ⟨q7 + 1, 0, none⟩ = some (.bool b8) := keep_cell hb (by with_reducible assumption); have gw5 : wa10.cell? ⟨q7 + 1, 1, none⟩ = some (.slice B8 m8 d8) := keep_cell hb (by with_reducible assumption); have gw6 : wa10.cell? ⟨ad4_5, 0, none⟩ = some (.bool b3) := keep_cell hb (by with_reducible assumption); have gw7 : wa10.cell? ⟨ad4_5, 1, none⟩ = some (.slice B3 m3 d3) := keep_cell hb (by with_reducible assumption); (with_reducible have hw11 := hw11.below hb); (with_reducible have hw12 := hw12.below hb))
  refine hK.out _ _ ?_ (fun hHeld => ?_)
  · ((try dsimp only); (first | (with_reducible exact ⟨hb0, j0, j1, j2, j3, j4, j5, j6, j7⟩) | (go_split_ands; (repeat' apply And.intro); all_goals (first | with_reducible assumption | with_reducible exact keep_below (by with_reducible assumption) hb | with_reducible exact keep_cell hb (by with_reducible assumption)))))
  clear hK K
  try simp only [Act.put, List.setIfInBounds_toArray, List.set_cons_zero, List.set_cons_succ]
  refine wpAnyH_take (i := 7) (oi := ?_) (v := ?_) (by simp only [List.getElem?_toArray, List.getElem?_cons_succ, List.getElem?_cons_zero]; rfl) (by kernel_rfl) (by kernel_rfl) (by kernel_rfl) (fun _ _ _ h => h) (Or.inl ⟨by rfl, ?_⟩) (by with_reducible assumption) ?_
  rotate_left
  focus ((intro w hSw; (try dsimp only at hSw); go_simp); (try with_reducible rfl))
  try simp only [Act.put, List.setIfInBounds_toArray, List.set_cons_zero, List.set_cons_succ]
  refine wpAnyH_take (i := 8) (oi := ?_) (v := ?_) (by simp only [List.getElem?_toArray, List.getElem?_cons_succ, List.getElem?_cons_zero]; rfl) (by kernel_rfl) (by kernel_rfl) (by kernel_rfl) (fun _ _ _ h => h) (Or.inl ⟨by rfl, ?_⟩) (by with_reducible assumption) ?_
  rotate_left
  focus ((intro w hSw; (try dsimp only at hSw); go_simp); (try with_reducible rfl))
  try simp only [Act.put, List.setIfInBounds_toArray, List.set_cons_zero, List.set_cons_succ]
  refine wpAnyH_take (i := 9) (oi := ?_) (v := ?_) (by simp only [List.getElem?_toArray, List.getElem?_cons_succ, List.getElem?_cons_zero]; rfl) (by kernel_rfl) (by kernel_rfl) (by kernel_rfl) (fun _ _ _ h => h) (Or.inl ⟨by rfl, ?_⟩) (by with_reducible assumption) ?_
  rotate_left
  focus ((intro w hSw; (try dsimp only at hSw); go_simp); (try with_reducible rfl))
  try simp only [Act.put, List.setIfInBounds_toArray, List.set_cons_zero, List.set_cons_succ]
  refine wpAnyH_ready (rs := [10]) (by kernel_rfl) (by simp) ?_
  refine AllReadyH.cons (o := ?_) (by simp only [List.getElem?_toArray, List.getElem?_cons_succ, List.getElem?_cons_zero]; rfl) (fun K hK => ?_) AllReadyH.nil
  go_simp
  (go_at_call 25; (with_reducible refine (C3.out _ (by first | with_reducible assumption | exact And.left (by with_reducible assumption))).mono ?_); rintro e wa11 ⟨rfl, hb⟩; go_split_ands; have hBw : Below W7.heap.size W7 wa11 := keep_below (by with_reducible assumption) hb; have gw0 : wa11.cell? ⟨q7, 0, none⟩ = some (.bool b7) := keep_cell hb (by with_reducible assumption); have gw1 : wa11.cell? ⟨q7, 1, none⟩ = some (.slice B7 m7 d7) := keep_cell hb (by with_reducible assumption); have gw2 : wa11.cell? ⟨ad5_6, 0, none⟩ = some (.bool b4) := keep_cell hb (by with_reducible assumption); have gw3 : wa11.cell? ⟨ad5_6, 1, none⟩ = some (.slice B4 m4 d4) := keep_cell hb (by with_reducible assumption); have gw4 : wa11.cell? ⟨q7 + 1, 0, none⟩ = some (.bool b8) := keep_cell hb (by with_reducible assumption); have gw5 : wa11.cell? ⟨q7 + 1, 1, none⟩ = some (.slice B8 m8 d8) := keep_cell hb (by with_reducible assumption); have gw6 : wa11.cell? ⟨ad4_5, 0, none⟩ = some (.bool b3) := keep_cell hb (by with_reducible assumption); have gw7 : wa11.cell? ⟨ad4_5, 1, none⟩ = some (.slice B3 m3 d3) := keep_cell hb (by with_reducible assumption); (with_reducible have hw11 := hw11.below hb); (with_reducible have hw12 := hw12.below hb))
  refine hK.out _ _ ?_ (fun hHeld => ?_)
  · ((try dsimp only); (first | (with_reducible exact ⟨hb0, j0, j1, j2, j3, j4, j5, j6, j7⟩) | (go_split_ands; (repeat' apply And.intro); all_goals (first | with_reducible assumption | with_reducible exact keep_below (by with_reducible assumption) hb | with_reducible exact keep_cell hb (by with_reducible assumption)))))
  clear hK K
  try simp only [Act.put, List.setIfInBounds_toArray, List.set_cons_zero, List.set_cons_succ]
  refine wpAnyH_take (i := 11) (oi := ?_) (v := ?_) (by simp only [List.getElem?_toArray, List.getElem?_cons_succ, List.getElem?_cons_zero]; rfl) (by kernel_rfl) (by kernel_rfl) (by kernel_rfl) (fun _ _ _ h => h) (Or.inl ⟨by rfl, ?_⟩) (by with_reducible assumption) ?_
  rotate_left
  focus ((intro w hSw; (try dsimp only at hSw); go_simp); (try with_reducible rfl))
  try simp only [Act.put, List.setIfInBounds_toArray, List.set_cons_zero, List.set_cons_succ]
  refine wpAnyH_take (i := 12) (oi := ?_) (v := ?_) (by simp only [List.getElem?_toArray, List.getElem?_cons_succ, List.getElem?_cons_zero]; rfl) (by kernel_rfl) (by kernel_rfl) (by kernel_rfl) (fun _ _ _ h => h) (Or.inl ⟨by rfl, ?_⟩) (by with_reducible assumption) ?_
  rotate_left
  focus ((intro w hSw; (try dsimp only at hSw); go_simp); (try with_reducible rfl))
  try simp only [Act.put, List.setIfInBounds_toArray, List.set_cons_zero, List.set_cons_succ]
  refine wpAnyH_take (i := 13) (oi := ?_) (v := ?_) (by simp only [List.getElem?_toArray, List.getElem?_cons_succ, List.getElem?_cons_zero]; rfl) (by kernel_rfl) (by kernel_rfl) (by kernel_rfl) (fun _ _ _ h => h) (Or.inl ⟨by rfl, ?_⟩) (by with_reducible assumption) ?_
  rotate_left
  focus ((intro w hSw; (try dsimp only at hSw); go_simp); (try with_reducible rfl))
  try simp only [Act.put, List.setIfInBounds_toArray, List.set_cons_zero, List.set_cons_succ]
  refine wpAnyH_take (i := 15) (oi := ?_) (v := ?_) (by simp only [List.getElem?_toArray, List.getElem?_cons_succ, List.getElem?_cons_zero]; rfl) (by kernel_rfl) (by kernel_rfl) (by kernel_rfl) (fun _ _ _ h => h) (Or.inl ⟨by rfl, ?_⟩) (by with_reducible assumption) ?_
  rotate_left
  focus ((intro w hSw; (try dsimp only at hSw); go_simp); (try with_reducible rfl))
  try simp only [Act.put, List.setIfInBounds_toArray, List.set_cons_zero, List.set_cons_succ]
  refine wpAnyH_ready (rs := [14]) (by kernel_rfl) (by simp) ?_
  refine AllReadyH.cons (o := ?_) (by simp only [List.getElem?_toArray, List.getElem?_cons_succ, List.getElem?_cons_zero]; rfl) (fun K hK => ?_) AllReadyH.nil
  go_simp
  (go_at_call 25; (with_reducible refine (C4.out _ (by first | with_reducible assumption | exact And.left (by with_reducible assumption))).mono ?_); rintro e wa12 ⟨rfl, hb⟩; go_split_ands; have hBw : Below W7.heap.size W7 wa12 := keep_below (by with_reducible assumption) hb; have gw0 : wa12.cell? ⟨q7, 0, none⟩ = some (.bool b7) := keep_cell hb (by with_reducible assumption); have gw1 : wa12.cell? ⟨q7, 1, none⟩ = some (.slice B7 m7 d7) := keep_cell hb (by with_reducible assumption); have gw2 : wa12.cell? ⟨ad5_6, 0, none⟩ = some (.bool b4) := keep_cell hb (by with_reducible assumption); have gw3 : wa12.cell? ⟨ad5_6, 1, none⟩ = some (.slice B4 m4 d4) := keep_cell hb (by with_reducible assumption); have gw4 : wa12.cell? ⟨q7 + 1, 0, none⟩ = some (.bool b8) := keep_cell hb (by with_reducible assumption); have gw5 : wa12.cell? ⟨q7 + 1, 1, none⟩ = some (.slice B8 m8 d8) := keep_cell hb (by with_reducible assumption); have gw6 : wa12.cell? ⟨ad4_5, 0, none⟩ = some (.bool b3) := keep_cell hb (by with_reducible assumption); have gw7 : wa12.cell? ⟨ad4_5, 1, none⟩ = some (.slice B3 m3 d3) := keep_cell hb (by with_reducible assumption); (with_reducible have hw11 := hw11.below hb); (with_reducible have hw12 := hw12.below hb))
  refine hK.out _ _ ?_ (fun hHeld => ?_)
  · ((try dsimp only); (first | (with_reducible exact ⟨hb0, j0, j1, j2, j3, j4, j5, j6, j7⟩) | (go_split_ands; (repeat' apply And.intro); all_goals (first | with_reducible assumption | with_reducible exact keep_below (by with_reducible assumption) hb | with_reducible exact keep_cell hb (by with_reducible assumption)))))
  clear hK K
  try simp only [Act.put, List.setIfInBounds_toArray, List.set_cons_zero, List.set_cons_succ]
  refine wpAnyH_ready (rs := [16]) (by kernel_rfl) (by simp) ?_
  refine AllReadyH.cons (o := ?_) (by simp only [List.getElem?_toArray, List.getElem?_cons_succ, List.getElem?_cons_zero]; rfl) (fun K hK => ?_) AllReadyH.nil
  go_simp
  (go_at_call 25; (with_reducible refine (C5.out _ (by first | with_reducible assumption | exact And.left (by with_reducible assumption))).mono ?_); rintro e wa13 ⟨rfl, hb⟩; go_split_ands; have hBw : Below W7.heap.size W7 wa13 := keep_below (by with_reducible assumption) hb; have gw0 : wa13.cell? ⟨q7, 0, none⟩ = some (.bool b7) := keep_cell hb (by with_reducible assumption); have gw1 : wa13.cell? ⟨q7, 1, none⟩ = some (.slice B7 m7 d7) := keep_cell hb (by with_reducible assumption); have gw2 : wa13.cell? ⟨ad5_6, 0, none⟩ = some (.bool b4) := keep_cell hb (by with_reducible assumption); have gw3 : wa13.cell? ⟨ad5_6, 1, none⟩ = some (.slice B4 m4 d4) := keep_cell hb (by with_reducible assumption); have gw4 : wa13.cell? ⟨q7 + 1, 0, none⟩ = some (.bool b8) := keep_cell hb (by with_reducible assumption); have gw5 : wa13.cell? ⟨q7 + 1, 1, none⟩ = some (.slice B8 m8 d8) := keep_cell hb (by with_reducible assumption); have gw6 : wa13.cell? ⟨ad4_5, 0, none⟩ = some (.bool b3) := keep_cell hb (by with_reducible assumption); have gw7 : wa13.cell? ⟨ad4_5, 1, none⟩ = some (.slice B3 m3 d3) := keep_cell hb (by with_reducible assumption); (with_reducible have hw11 := hw11.below hb); (with_reducible have hw12 := hw12.below hb))
  refine hK.out _ _ ?_ (fun hHeld => ?_)
  · ((try dsimp only); (first | (with_reducible exact ⟨hb0, j0, j1, j2, j3, j4, j5, j6, j7⟩) | (go_split_ands; (repeat' apply And.intro); all_goals (first | with_reducible assumption | with_reducible exact keep_below (by with_reducible assumption) hb | with_reducible exact keep_cell hb (by with_reducible assumption)))))
  clear hK K
  try simp only [Act.put, List.setIfInBounds_toArray, List.set_cons_zero, List.set_cons_succ]
  refine wpAnyH_take (i := 17) (oi := ?_) (v := ?_) (by simp only [List.getElem?_toArray, List.getElem?_cons_succ, List.getElem?_cons_zero]; rfl) (by kernel_rfl) (by kernel_rfl) (by kernel_rfl) (fun _ _ _ h => h) (Or.inl ⟨by rfl, ?_⟩) (by with_reducible assumption) ?_
  rotate_left
  focus ((intro w hSw; (try dsimp only at hSw); go_simp); (try with_reducible rfl))
  try simp only [Act.put, List.setIfInBounds_toArray, List.set_cons_zero, List.set_cons_succ]
  refine wpAnyH_take (i := 18) (oi := ?_) (v := ?_) (by simp only [List.getElem?_toArray, List.getElem?_cons_succ, List.getElem?_cons_zero]; rfl) (by kernel_rfl) (by kernel_rfl) (by kernel_rfl) (fun _ _ _ h => h) (Or.inl ⟨by rfl, ?_⟩) (by with_reducible assumption) ?_
  rotate_left
  focus ((intro w hSw; (try dsimp only at hSw); go_simp); (try with_reducible rfl))
  try simp only [Act.put, List.setIfInBounds_toArray, List.set_cons_zero, List.set_cons_succ]
  refine wpAnyH_take (i := 19) (oi := ?_) (v := ?_) (by simp only [List.getElem?_toArray, List.getElem?_cons_succ, List.getElem?_cons_zero]; rfl) (by kernel_rfl) (by kernel_rfl) (by kernel_rfl) (fun _ _ _ h => h) (Or.inl ⟨by rfl, ?_⟩) (by with_reducible assumption) ?_
  rotate_left
  focus ((intro w hSw; (try dsimp only at hSw); go_simp); (try with_reducible rfl))
  try simp only [Act.put, List.setIfInBounds_toArray, List.set_cons_zero, List.set_cons_succ]
  refine wpAnyH_take (i := 20) (oi := ?_) (v := ?_) (by simp only [List.getElem?_toArray, List.getElem?_cons_succ, List.getElem?_cons_zero]; rfl) (by kernel_rfl) (by kernel_rfl) (by kernel_rfl) (fun _ _ _ h => h) (Or.inl ⟨by rfl, ?_⟩) (by with_reducible assumption) ?_
  rotate_left
  focus ((intro w hSw; (try dsimp only at hSw); go_simp); (try with_reducible rfl))
  try simp only [Act.put, List.setIfInBounds_toArray, List.set_cons_zero, List.set_cons_succ]
  refine wpAnyH_take (i := 21) (oi := ?_) (v := ?_) (by simp only [List.getElem?_toArray, List.getElem?_cons_succ, List.getElem?_cons_zero]; rfl) (by kernel_rfl) (by kernel_rfl) (by kernel_rfl) (fun _ _ _ h => h) (Or.inl ⟨by rfl, ?_⟩) (by with_reducible assumption) ?_
  rotate_left
  focus ((intro w hSw; (try dsimp only at hSw); go_simp); (try with_reducible rfl))
  try simp only [Act.put, List.setIfInBounds_toArray, List.set_cons_zero, List.set_cons_succ]
  refine wpAnyH_take (i := 23) (oi := ?_) (v := ?_) (by simp only [List.getElem?_toArray, List.getElem?_cons_succ, List.getElem?_cons_zero]; rfl) (by kernel_rfl) (by kernel_rfl) (by kernel_rfl) (fun _ _ _ h => h) (Or.inl ⟨by rfl, ?_⟩) (by with_reducible assumption) ?_
  rotate_left
  focus ((intro w hSw; (try dsimp only at hSw); go_simp); (try with_reducible rfl))
  try simp only [Act.put, List.setIfInBounds_toArray, List.set_cons_zero, List.set_cons_succ]
  refine wpAnyH_ready (rs := [22]) (by kernel_rfl) (by simp) ?_
  refine AllReadyH.cons (o := ?_) (by simp only [List.getElem?_toArray, List.getElem?_cons_succ, List.getElem?_cons_zero]; rfl) (fun K hK => ?_) AllReadyH.nil
  go_simp
  (go_at_call 35; (with_reducible refine (C6.out _ (by first | with_reducible assumption | exact And.left (by with_reducible assumption))).mono ?_); rintro e wa14 ⟨B13, m13, d13, rfl, hw13, hb⟩; go_split_ands; have hBw : Below W7.heap.size W7 wa14 := keep_below (by with_reducible assumption) hb; have gw0 : wa14.cell? ⟨q7, 0, none⟩ = some (.bool b7) := keep_cell hb (by with_reducible assumption); have gw1 : wa14.cell? ⟨q7, 1, none⟩ = some (.slice B7 m7 d7) := keep_cell hb (by with_reducible assumption); have gw2 : wa14.cell? ⟨ad5_6, 0, none⟩ = some (.bool b4) := keep_cell hb (by with_reducible assumption); have gw3 : wa14.cell? ⟨ad5_6, 1, none⟩ = some (.slice B4 m4 d4) := keep_cell hb (by with_reducible assumption); have gw4 : wa14.cell? ⟨q7 + 1, 0, none⟩ = some (.bool b8) := keep_cell hb (by with_reducible assumption); have gw5 : wa14.cell? ⟨q7 + 1, 1, none⟩ = some (.slice B8 m8 d8) := keep_cell hb (by with_reducible assumption); have gw6 : wa14.cell? ⟨ad4_5, 0, none⟩ = some (.bool b3) := keep_cell hb (by with_reducible assumption); have gw7 : wa14.cell? ⟨ad4_5, 1, none⟩ = some (.slice B3 m3 d3) := keep_cell hb (by with_reducible assumption); (with_reducible have hw11 := hw11.below hb); (with_reducible have hw12 := hw12.below hb))
  refine hK.out _ _ ?_ (fun hHeld => ?_)
  · ((try dsimp only); (first | (with_reducible exact ⟨hb0, j0, j1, j2, j3, j4, j5, j6, j7⟩) | (go_split_ands; (repeat' apply And.intro); all_goals (first | with_reducible assumption | with_reducible exact keep_below (by with_reducible assumption) hb | with_reducible exact keep_cell hb (by with_reducible assumption)))))
  clear hK K
  try simp only [Act.put, List.setIfInBounds_toArray, List.set_cons_zero, List.set_cons_succ]
  refine wpAnyH_ready (rs := [24]) (by kernel_rfl) (by simp) ?_
  refine AllReadyH.cons (o := ?_) (by simp only [List.getElem?_toArray, List.getElem?_cons_succ, List.getElem?_cons_zero]; rfl) (fun K hK => ?_) AllReadyH.nil
  go_simp
  (go_at_call 35; (with_reducible refine (C7.out _ (by first | with_reducible assumption | exact And.left (by with_reducible assumption))).mono ?_); rintro e wa15 ⟨B14, m14, d14, rfl, hw14, hb⟩; go_split_ands; have hBw : Below W7.heap.size W7 wa15 := keep_below (by with_reducible assumption) hb; have gw0 : wa15.cell? ⟨q7, 0, none⟩ = some (.bool b7) := keep_cell hb (by with_reducible assumption); have gw1 : wa15.cell? ⟨q7, 1, none⟩ = some (.slice B7 m7 d7) := keep_cell hb (by with_reducible assumption); have gw2 : wa15.cell? ⟨ad5_6, 0, none⟩ = some (.bool b4) := keep_cell hb (by with_reducible assumption); have gw3 : wa15.cell? ⟨ad5_6, 1, none⟩ = some (.slice B4 m4 d4) := keep_cell hb (by with_reducible assumption); have gw4 : wa15.cell? ⟨q7 + 1, 0, none⟩ = some (.bool b8) := keep_cell hb (by with_reducible assumption); have gw5 : wa15.cell? ⟨q7 + 1, 1, none⟩ = some (.slice B8 m8 d8) := keep_cell hb (by with_reducible assumption); have gw6 : wa15.cell? ⟨ad4_5, 0, none⟩ = some (.bool b3) := keep_cell hb (by with_reducible assumption); have gw7 : wa15.cell? ⟨ad4_5, 1, none⟩ = some (.slice B3 m3 d3) := keep_cell hb (by with_reducible assumption); (with_reducible have hw11 := hw11.below hb); (with_reducible have hw12 := hw12.below hb); (with_reducible have hw13 := hw13.below hb))
  refine hK.out _ _ ?_ (fun hHeld => ?_)
  · ((try dsimp only); (first | (with_reducible exact ⟨hb0, j0, j1, j2, j3, j4, j5, j6, j7⟩) | (go_split_ands; (repeat' apply And.intro); all_goals (first | with_reducible assumption | with_reducible exact keep_below (by with_reducible assumption) hb | with_reducible exact keep_cell hb (by with_reducible assumption)))))
  clear hK K
  try simp only [Act.put, List.setIfInBounds_toArray, List.set_cons_zero, List.set_cons_succ]
  refine wpAnyH_ready (rs := [25]) (by kernel_rfl) (by simp) ?_
  refine AllReadyH.cons (o := ?_) (by simp only [List.getElem?_toArray, List.getElem?_cons_succ, List.getElem?_cons_zero]; rfl) (fun K hK => ?_) AllReadyH.nil
  go_simp
  (go_at_call 34; (with_reducible refine (C8.out _ (by first | with_reducible assumption | exact And.left (by with_reducible assumption)) _ _ _ hw13 _ _ _ hw14).mono ?_); rintro e wa16 ⟨rfl, hb⟩; go_split_ands; have hBw : Below W7.heap.size W7 wa16 := keep_below (by with_reducible assumption) hb; have gw0 : wa16.cell? ⟨q7, 0, none⟩ = some (.bool b7) := keep_cell hb (by with_reducible assumption); have gw1 : wa16.cell? ⟨q7, 1, none⟩ = some (.slice B7 m7 d7) := keep_cell hb (by with_reducible assumption); have gw2 : wa16.cell? ⟨ad5_6, 0, none⟩ = some (.bool b4) := keep_cell hb (by with_reducible assumption); have gw3 : wa16.cell? ⟨ad5_6, 1, none⟩ = some (.slice B4 m4 d4) := keep_cell hb (by with_reducible assumption); have gw4 : wa16.cell? ⟨q7 + 1, 0, none⟩ = some (.bool b8) := keep_cell hb (by with_reducible assumption); have gw5 : wa16.cell? ⟨q7 + 1, 1, none⟩ = some (.slice B8 m8 d8) := keep_cell hb (by with_reducible assumption); have gw6 : wa16.cell? ⟨ad4_5, 0, none⟩ = some (.bool b3) := keep_cell hb (by with_reducible assumption); have gw7 : wa16.cell? ⟨ad4_5, 1, none⟩ = some (.slice B3 m3 d3) := keep_cell hb (by with_reducible assumption); (with_reducible have hw11 := hw11.below hb); (with_reducible have hw12 := hw12.below hb); (with_reducible have hw13 := hw13.below hb); (with_reducible have hw14 := hw14.below hb))
  refine hK.out _ _ ?_ (fun hHeld => ?_)
  · ((try dsimp only); (first | (with_reducible exact ⟨hb0, j0, j1, j2, j3, j4, j5, j6, j7⟩) | (go_split_ands; (repeat' apply And.intro); all_goals (first | with_reducible assumption | with_reducible exact keep_below (by with_reducible assumption) hb | with_reducible exact keep_cell hb (by with_reducible assumption)))))
  clear hK K
  try simp only [Act.put, List.setIfInBounds_toArray, List.set_cons_zero, List.set_cons_succ]
  refine wpAnyH_take (i := 26) (oi := ?_) (v := ?_) (by simp only [List.getElem?_toArray, List.getElem?_cons_succ, List.getElem?_cons_zero]; rfl) (by kernel_rfl) (by kernel_rfl) (by kernel_rfl) (fun _ _ _ h => h) (Or.inl ⟨by rfl, ?_⟩) (by with_reducible assumption) ?_
  rotate_left
  focus ((intro w hSw; (try dsimp only at hSw); go_simp); (try with_reducible rfl))
  try simp only [Act.put, List.setIfInBounds_toArray, List.set_cons_zero, List.set_cons_succ]
  refine wpAnyH_take (i := 27) (oi := ?_) (v := ?_) (by simp only [List.getElem?_toArray, List.getElem?_cons_succ, List.getElem?_cons_zero]; rfl) (by kernel_rfl) (by kernel_rfl) (by kernel_rfl) (fun _ _ _ h => h) (Or.inl ⟨by rfl, ?_⟩) (by with_reducible assumption) ?_
  rotate_left
  focus ((intro w hSw; (try dsimp only at hSw); go_simp); (try with_reducible rfl))
  try simp only [Act.put, List.setIfInBounds_toArray, List.set_cons_zero, List.set_cons_succ]
  refine wpAnyH_take (i := 28) (oi := ?_) (v := ?_) (by simp only [List.getElem?_toArray, List.getElem?_cons_succ, List.getElem?_cons_zero]; rfl) (by kernel_rfl) (by kernel_rfl) (by kernel_rfl) (fun _ _ _ h => h) (Or.inl ⟨by rfl, ?_⟩) (by with_reducible assumption) ?_
  rotate_left
  focus ((intro w hSw; (try dsimp only at hSw); go_simp); (try with_reducible rfl))
  try simp only [Act.put, List.setIfInBounds_toArray, List.set_cons_zero, List.set_cons_succ]
  refine wpAnyH_done (by kernel_rfl) ?_ _
  refine NoPanic.normal ?_
  clear hb
  have hB := keep_below hB hBw
  have g1 := keep_cell hBw g1
  have e1 := keep_cell hBw e1
  have g2 := keep_cell hBw g2
  have e2 := keep_cell hBw e2
  have g5 := keep_cell hBw g5
  have e5 := keep_cell hBw e5
  have g6 := keep_cell hBw g6
  have e6 := keep_cell hBw e6
  have HN3 := Lib.hid (HN3.out.below hBw)
  have HN4 := Lib.hid (HN4.out.below hBw)
  have HN7 := Lib.hid (HN7.out.below hBw)
  have HN8 := Lib.hid (HN8.out.below hBw)
  have g9 := keep_cell hBw g9
  have e9 := keep_cell hBw e9
  have g10 := keep_cell hBw g10
  have e10 := keep_cell hBw e10
  have HN11 := Lib.hid hw11
  have HN12 := Lib.hid hw12
  have HN13 := Lib.hid hw13
  have HN14 := Lib.hid hw14
  clear hb0 hBw gw0 gw1 gw2 gw3 gw4 gw5 gw6 gw7 hw11 hw12 hw13 hw14
  clear j0
  clear j1
  clear j2
  clear j3
  clear j4
  clear j5
  clear j6
  clear j7
  clear C0 C1 C2 C3 C4 C5 C6 C7 C8
  go_wp2
  go_ret
  exact ⟨by first | rfl | simp, hB⟩
theorem integerBack_core {T : World → Prop} (hTb : ∀ w w', T w → Below w.heap.size w w' → T w') (IC : IntC T) (s0 : Bool) (A0 : Option Addr) (n0 c0 : Nat) (l0 : List Nat) (s1 : Bool) (A1 : Option Addr) (n1 c1 : Nat) (l1 : List Nat) (w : World) (h0 : ArgWords w A0 n0 c0 l0) (h1 : ArgWords w A1 n1 c1 l1) (hT : T w) :
    Calls Try.prog 8 #[.agg #[.bool s0, .slice A0 n0 c0], .agg #[.bool s1, .slice A1 n1 c1]] w fun e w' => e = .returned (.bool true) ∧ Below w.heap.size w w' := by
  by_cases hy : zOf s1 l1 = 0
  · exact integerBack_no hTb IC s0 A0 n0 c0 l0 s1 A1 n1 c1 l1 w h0 h1 hy hT
  · rcases rI_side (x := zOf s0 l0) hy with hr | ⟨hr, hs⟩ | ⟨hr, hs⟩
    · exact integerBack_0 hTb IC s0 A0 n0 c0 l0 s1 A1 n1 c1 l1 w h0 h1 hy hr hT
    · exact integerBack_1 hTb IC s0 A0 n0 c0 l0 s1 A1 n1 c1 l1 w h0 h1 hy hr hs hT
    · exact integerBack_2 hTb IC s0 A0 n0 c0 l0 s1 A1 n1 c1 l1 w h0 h1 hy hr hs hT
end Go.Proofs.Ytnfednkphcapnaa
