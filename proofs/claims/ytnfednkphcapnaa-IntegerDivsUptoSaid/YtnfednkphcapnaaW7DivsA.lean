/-
  The walk of the law IntegerDivs, where there is nothing to divide by. Conditions: the words that came in are at most 1048576; integer's functions do as IntC says.
-/
import Derived.Test.YtnfednkphcapnaaRows
import Derived.Test.YtnfednkphcapnaaBunB
import Derived.Test.YtnfednkphcapnaaW7Like
import Derived.Test.YtnfednkphcapnaaR7Div
import Derived.WalkKit
import Derived.Lib.Hide
import Derived.Outline
import Derived.IntWalk
import Derived.Deep.RegionHeld3
namespace Go.Proofs.Ytnfednkphcapnaa
open Go Go.RowKit
set_option maxRecDepth 100000
set_option linter.unusedVariables false
set_option linter.unusedSimpArgs false
set_option maxHeartbeats 16000000 in
theorem integerDivs_l0 {T : World → Prop} (hTb : ∀ w w', T w → Below w.heap.size w w' → T w') (IC : IntC T) (s0 : Bool) (A0 : Option Addr) (n0 c0 : Nat) (l0 : List Nat) (s1 : Bool) (A1 : Option Addr) (n1 c1 : Nat) (l1 : List Nat) (w : World) (h0 : ArgWords w A0 n0 c0 l0) (h1 : ArgWords w A1 n1 c1 l1) (k0 : 20 < n0) (hT : T w) :
    Calls Try.prog 4 #[.agg #[.bool s0, .slice A0 n0 c0], .agg #[.bool s1, .slice A1 n1 c1]] w fun e w' => e = .returned (.bool true) ∧ Below w.heap.size w w' := by
  have HAW := Lib.hid (fun w' (hb : Below w.heap.size w w') => law7_awake hTb IC w' (hTb w w' hT hb))
  have HIC := Lib.hid IC
  have HT := Lib.hid (fun w' (hb : Below w.heap.size w w') => hTb w w' hT hb)
  obtain ⟨K, hK⟩ : ∃ K, 1048576 = K := ⟨_, rfl⟩
  have hKK : K ≤ 1048576 := by omega
  have HM0 := Lib.hid (fun w' (hb : Below w.heap.size w w') => law7_make hTb IC s0 A0 n0 c0 l0 w' ⟨(h0.reads.below hb).more hb.size, h0.dgs, h0.fits, h0.small⟩ (hTb w w' hT hb))
  have S0 : Sz 1048576 (zOf s0 l0).natAbs := by rw [zOf_abs]; exact arg_sz h0
  rw [hK] at S0
  obtain ⟨x, hz0⟩ : ∃ x, zOf s0 l0 = x := ⟨_, rfl⟩
  rw [hz0] at HM0 S0
  have HS0 := Lib.hid S0
  have HM1 := Lib.hid (fun w' (hb : Below w.heap.size w w') => law7_make hTb IC s1 A1 n1 c1 l1 w' ⟨(h1.reads.below hb).more hb.size, h1.dgs, h1.fits, h1.small⟩ (hTb w w' hT hb))
  have S1 : Sz 1048576 (zOf s1 l1).natAbs := by rw [zOf_abs]; exact arg_sz h1
  rw [hK] at S1
  obtain ⟨y, hz1⟩ : ∃ x, zOf s1 l1 = x := ⟨_, rfl⟩
  rw [hz1] at HM1 S1
  have HS1 := Lib.hid S1
  have kl0 : decide ((n0 : Int) > 20) = true := by simp; omega
  have km0 : decide ((20 : Int) < (n0 : Int)) = true := by simp; omega
  have Hk0 := Lib.hid k0
  clear IC hT h0 hz0 S0 h1 hz1 S1 k0 hK
  go_enter Try.func4, Try.ntmps4
  have hB := Below.refl w.heap.size w
  obtain ⟨bx1, bx2, bx3, bz⟩ := box2 w 24 24 #[.bool s0, .slice A0 n0 c0] #[.bool s1, .slice A1 n1 c1]
  have hB := keep_below hB bx1
  have g1 : ((w.alloc (.cells #[.bool s0, .slice A0 n0 c0] 24)).alloc (.cells #[.bool s1, .slice A1 n1 c1] 24)).cell? ⟨w.heap.size, 0, none⟩ = some (.bool s0) := bx2.cell 0
  have e1 : ((w.alloc (.cells #[.bool s0, .slice A0 n0 c0] 24)).alloc (.cells #[.bool s1, .slice A1 n1 c1] 24)).cell? ⟨w.heap.size, 1, none⟩ = some (.slice A0 n0 c0) := bx2.cell 1
  have g2 : ((w.alloc (.cells #[.bool s0, .slice A0 n0 c0] 24)).alloc (.cells #[.bool s1, .slice A1 n1 c1] 24)).cell? ⟨w.heap.size + 1, 0, none⟩ = some (.bool s1) := bx3.cell 0
  have e2 : ((w.alloc (.cells #[.bool s0, .slice A0 n0 c0] 24)).alloc (.cells #[.bool s1, .slice A1 n1 c1] 24)).cell? ⟨w.heap.size + 1, 1, none⟩ = some (.slice A1 n1 c1) := bx3.cell 1
  clear bx1 bx2 bx3 bz
  go_wp2_with fail
  generalize (w.alloc (.cells #[.bool s0, .slice A0 n0 c0] 24)).alloc (.cells #[.bool s1, .slice A1 n1 c1] 24) = W1 at *
  (with_reducible refine (HAW.out _ hB).mono ?_)
  rintro e wc2 ⟨rfl, hb⟩
  have hB := keep_below hB hb
  have g1 := keep_cell hb g1
  have e1 := keep_cell hb e1
  have g2 := keep_cell hb g2
  have e2 := keep_cell hb e2
  clear hb 
  go_wp2
  go_ret
  exact ⟨by first | rfl | simp, hB⟩
set_option maxHeartbeats 16000000 in
theorem integerDivs_l1 {T : World → Prop} (hTb : ∀ w w', T w → Below w.heap.size w w' → T w') (IC : IntC T) (s0 : Bool) (A0 : Option Addr) (n0 c0 : Nat) (l0 : List Nat) (s1 : Bool) (A1 : Option Addr) (n1 c1 : Nat) (l1 : List Nat) (w : World) (h0 : ArgWords w A0 n0 c0 l0) (h1 : ArgWords w A1 n1 c1 l1) (k0 : n0 ≤ 20) (k1 : 20 < n1) (hT : T w) :
    Calls Try.prog 4 #[.agg #[.bool s0, .slice A0 n0 c0], .agg #[.bool s1, .slice A1 n1 c1]] w fun e w' => e = .returned (.bool true) ∧ Below w.heap.size w w' := by
  have HAW := Lib.hid (fun w' (hb : Below w.heap.size w w') => law7_awake hTb IC w' (hTb w w' hT hb))
  have HIC := Lib.hid IC
  have HT := Lib.hid (fun w' (hb : Below w.heap.size w w') => hTb w w' hT hb)
  obtain ⟨K, hK⟩ : ∃ K, 1048576 = K := ⟨_, rfl⟩
  have hKK : K ≤ 1048576 := by omega
  have HM0 := Lib.hid (fun w' (hb : Below w.heap.size w w') => law7_make hTb IC s0 A0 n0 c0 l0 w' ⟨(h0.reads.below hb).more hb.size, h0.dgs, h0.fits, h0.small⟩ (hTb w w' hT hb))
  have S0 : Sz 1048576 (zOf s0 l0).natAbs := by rw [zOf_abs]; exact arg_sz h0
  rw [hK] at S0
  obtain ⟨x, hz0⟩ : ∃ x, zOf s0 l0 = x := ⟨_, rfl⟩
  rw [hz0] at HM0 S0
  have HS0 := Lib.hid S0
  have HM1 := Lib.hid (fun w' (hb : Below w.heap.size w w') => law7_make hTb IC s1 A1 n1 c1 l1 w' ⟨(h1.reads.below hb).more hb.size, h1.dgs, h1.fits, h1.small⟩ (hTb w w' hT hb))
  have S1 : Sz 1048576 (zOf s1 l1).natAbs := by rw [zOf_abs]; exact arg_sz h1
  rw [hK] at S1
  obtain ⟨y, hz1⟩ : ∃ x, zOf s1 l1 = x := ⟨_, rfl⟩
  rw [hz1] at HM1 S1
  have HS1 := Lib.hid S1
  have kl0 : decide ((n0 : Int) > 20) = false := by simp; omega
  have km0 : decide ((20 : Int) < (n0 : Int)) = false := by simp; omega
  have kl1 : decide ((n1 : Int) > 20) = true := by simp; omega
  have km1 : decide ((20 : Int) < (n1 : Int)) = true := by simp; omega
  have Hk0 := Lib.hid k0
  have Hk1 := Lib.hid k1
  clear IC hT h0 hz0 S0 h1 hz1 S1 k0 k1 hK
  go_enter Try.func4, Try.ntmps4
  have hB := Below.refl w.heap.size w
  obtain ⟨bx1, bx2, bx3, bz⟩ := box2 w 24 24 #[.bool s0, .slice A0 n0 c0] #[.bool s1, .slice A1 n1 c1]
  have hB := keep_below hB bx1
  have g1 : ((w.alloc (.cells #[.bool s0, .slice A0 n0 c0] 24)).alloc (.cells #[.bool s1, .slice A1 n1 c1] 24)).cell? ⟨w.heap.size, 0, none⟩ = some (.bool s0) := bx2.cell 0
  have e1 : ((w.alloc (.cells #[.bool s0, .slice A0 n0 c0] 24)).alloc (.cells #[.bool s1, .slice A1 n1 c1] 24)).cell? ⟨w.heap.size, 1, none⟩ = some (.slice A0 n0 c0) := bx2.cell 1
  have g2 : ((w.alloc (.cells #[.bool s0, .slice A0 n0 c0] 24)).alloc (.cells #[.bool s1, .slice A1 n1 c1] 24)).cell? ⟨w.heap.size + 1, 0, none⟩ = some (.bool s1) := bx3.cell 0
  have e2 : ((w.alloc (.cells #[.bool s0, .slice A0 n0 c0] 24)).alloc (.cells #[.bool s1, .slice A1 n1 c1] 24)).cell? ⟨w.heap.size + 1, 1, none⟩ = some (.slice A1 n1 c1) := bx3.cell 1
  clear bx1 bx2 bx3 bz
  go_wp2_with fail
  generalize (w.alloc (.cells #[.bool s0, .slice A0 n0 c0] 24)).alloc (.cells #[.bool s1, .slice A1 n1 c1] 24) = W1 at *
  (with_reducible refine (HAW.out _ hB).mono ?_)
  rintro e wc2 ⟨rfl, hb⟩
  have hB := keep_below hB hb
  have g1 := keep_cell hb g1
  have e1 := keep_cell hb e1
  have g2 := keep_cell hb g2
  have e2 := keep_cell hb e2
  clear hb 
  go_wp2
  go_ret
  exact ⟨by first | rfl | simp, hB⟩
set_option maxHeartbeats 16000000 in
theorem integerDivs_0 {T : World → Prop} (hTb : ∀ w w', T w → Below w.heap.size w w' → T w') (IC : IntC T) (s0 : Bool) (A0 : Option Addr) (n0 c0 : Nat) (l0 : List Nat) (s1 : Bool) (A1 : Option Addr) (n1 c1 : Nat) (l1 : List Nat) (w : World) (h0 : ArgWords w A0 n0 c0 l0) (h1 : ArgWords w A1 n1 c1 l1) (k0 : n0 ≤ 20) (k1 : n1 ≤ 20) (hy : zOf s1 l1 = 0) (hT : T w) :
    Calls Try.prog 4 #[.agg #[.bool s0, .slice A0 n0 c0], .agg #[.bool s1, .slice A1 n1 c1]] w fun e w' => e = .returned (.bool true) ∧ Below w.heap.size w w' := by
  have HAW := Lib.hid (fun w' (hb : Below w.heap.size w w') => law7_awake hTb IC w' (hTb w w' hT hb))
  have HIC := Lib.hid IC
  have HT := Lib.hid (fun w' (hb : Below w.heap.size w w') => hTb w w' hT hb)
  obtain ⟨K, hK⟩ : ∃ K, 1048576 = K := ⟨_, rfl⟩
  have hKK : K ≤ 1048576 := by omega
  have HM0 := Lib.hid (fun w' (hb : Below w.heap.size w w') => law7_make hTb IC s0 A0 n0 c0 l0 w' ⟨(h0.reads.below hb).more hb.size, h0.dgs, h0.fits, h0.small⟩ (hTb w w' hT hb))
  have HRF0 := Lib.hid (fun w' (hb : Below w.heap.size w w') => law7_ref s0 A0 n0 c0 l0 w' ⟨(h0.reads.below hb).more hb.size, h0.dgs, h0.fits, h0.small⟩)
  have S0 : Sz 1048576 (zOf s0 l0).natAbs := by rw [zOf_abs]; exact arg_sz h0
  rw [hK] at S0
  obtain ⟨x, hz0⟩ : ∃ x, zOf s0 l0 = x := ⟨_, rfl⟩
  rw [hz0] at HM0 S0 HRF0
  have HS0 := Lib.hid S0
  have HM1 := Lib.hid (fun w' (hb : Below w.heap.size w w') => law7_make hTb IC s1 A1 n1 c1 l1 w' ⟨(h1.reads.below hb).more hb.size, h1.dgs, h1.fits, h1.small⟩ (hTb w w' hT hb))
  have HRF1 := Lib.hid (fun w' (hb : Below w.heap.size w w') => law7_ref s1 A1 n1 c1 l1 w' ⟨(h1.reads.below hb).more hb.size, h1.dgs, h1.fits, h1.small⟩)
  have S1 : Sz 1048576 (zOf s1 l1).natAbs := by rw [zOf_abs]; exact arg_sz h1
  rw [hK] at S1
  obtain ⟨y, hz1⟩ : ∃ x, zOf s1 l1 = x := ⟨_, rfl⟩
  rw [hz1] at HM1 S1 HRF1 hy
  have HS1 := Lib.hid S1
  obtain ⟨KR, hKR1, hKR⟩ : ∃ q, 4 * K + 8 ≤ q ∧ q ≤ 16777216 := ⟨4 * K + 8, Nat.le_refl _, by omega⟩
  have kl0 : decide ((n0 : Int) > 20) = false := by simp; omega
  have km0 : decide ((20 : Int) < (n0 : Int)) = false := by simp; omega
  have kl1 : decide ((n1 : Int) > 20) = false := by simp; omega
  have km1 : decide ((20 : Int) < (n1 : Int)) = false := by simp; omega
  have Hk0 := Lib.hid k0
  have Hk1 := Lib.hid k1
  have Hhy := Lib.hid hy
  clear IC hT h0 hz0 S0 h1 hz1 S1 k0 k1 hy hK
  go_enter Try.func4, Try.ntmps4
  have hB := Below.refl w.heap.size w
  obtain ⟨bx1, bx2, bx3, bz⟩ := box2 w 24 24 #[.bool s0, .slice A0 n0 c0] #[.bool s1, .slice A1 n1 c1]
  have hB := keep_below hB bx1
  have g1 : ((w.alloc (.cells #[.bool s0, .slice A0 n0 c0] 24)).alloc (.cells #[.bool s1, .slice A1 n1 c1] 24)).cell? ⟨w.heap.size, 0, none⟩ = some (.bool s0) := bx2.cell 0
  have e1 : ((w.alloc (.cells #[.bool s0, .slice A0 n0 c0] 24)).alloc (.cells #[.bool s1, .slice A1 n1 c1] 24)).cell? ⟨w.heap.size, 1, none⟩ = some (.slice A0 n0 c0) := bx2.cell 1
  have g2 : ((w.alloc (.cells #[.bool s0, .slice A0 n0 c0] 24)).alloc (.cells #[.bool s1, .slice A1 n1 c1] 24)).cell? ⟨w.heap.size + 1, 0, none⟩ = some (.bool s1) := bx3.cell 0
  have e2 : ((w.alloc (.cells #[.bool s0, .slice A0 n0 c0] 24)).alloc (.cells #[.bool s1, .slice A1 n1 c1] 24)).cell? ⟨w.heap.size + 1, 1, none⟩ = some (.slice A1 n1 c1) := bx3.cell 1
  clear bx1 bx2 bx3 bz
  go_wp2_with fail
  generalize (w.alloc (.cells #[.bool s0, .slice A0 n0 c0] 24)).alloc (.cells #[.bool s1, .slice A1 n1 c1] 24) = W1 at *
  (with_reducible refine (HAW.out _ hB).mono ?_)
  rintro e wc2 ⟨rfl, hb⟩
  have hB := keep_below hB hb
  have g1 := keep_cell hb g1
  have e1 := keep_cell hb e1
  have g2 := keep_cell hb g2
  have e2 := keep_cell hb e2
  clear hb 
  go_wp2_with fail
  have HZ3 : Hid (Sz (K) (x).natAbs) := HS0.out
  have C0 := Lib.hid (fun w' (h : Below wc2.heap.size wc2 w') => HM0.out _ (keep_below hB h))
  have HZ4 : Hid (Sz (K) (y).natAbs) := HS1.out
  have C1 := Lib.hid (fun w' (h : Below wc2.heap.size wc2 w') => HM1.out _ (keep_below hB h))
  have HZ5 : Hid (Sz (K) (x).natAbs) := HS0.out
  have C2 := Lib.hid (fun w' (h : Below wc2.heap.size wc2 w') => HRF0.out _ (keep_below hB h))
  have HZ6 : Hid (Sz (K) (y).natAbs) := HS1.out
  have C3 := Lib.hid (fun w' (h : Below wc2.heap.size wc2 w') => HRF1.out _ (keep_below hB h))
  have G0 := Lib.hid (fun w' (h : Below wc2.heap.size wc2 w') => (⟨keep_cell h g1, keep_cell h e1⟩ : w'.cell? ⟨w.heap.size, 0, none⟩ = some (.bool s0) ∧ w'.cell? ⟨w.heap.size, 1, none⟩ = some (.slice A0 n0 c0)))
  have G1 := Lib.hid (fun w' (h : Below wc2.heap.size wc2 w') => (⟨keep_cell h g2, keep_cell h e2⟩ : w'.cell? ⟨w.heap.size + 1, 0, none⟩ = some (.bool s1) ∧ w'.cell? ⟨w.heap.size + 1, 1, none⟩ = some (.slice A1 n1 c1)))
  refine wp_region_noPanic ?_
  refine wp_region_held_drew (S := (fun w' => Below wc2.heap.size wc2 w')) (by kernel_rfl) ?_ (fun hHeld => ?_)
  · exact (Below.refl _ wc2).drew
  refine wpAnyH_take (i := 0) (oi := ?_) (v := ?_) (by simp only [List.getElem?_toArray, List.getElem?_cons_succ, List.getElem?_cons_zero]; rfl) (by kernel_rfl) (by kernel_rfl) (by kernel_rfl) (fun _ _ _ h => h) (Or.inl ⟨by rfl, ?_⟩) (by with_reducible assumption) ?_
  rotate_left
  focus ((intro wz hSw; (try dsimp only at hSw); obtain ⟨z0, z1⟩ := G0.out wz hSw; go_simp); (try with_reducible rfl))
  try simp only [Act.put, List.setIfInBounds_toArray, List.set_cons_zero, List.set_cons_succ]
  refine wpAnyH_take (i := 2) (oi := ?_) (v := ?_) (by simp only [List.getElem?_toArray, List.getElem?_cons_succ, List.getElem?_cons_zero]; rfl) (by kernel_rfl) (by kernel_rfl) (by kernel_rfl) (fun _ _ _ h => h) (Or.inl ⟨by rfl, ?_⟩) (by with_reducible assumption) ?_
  rotate_left
  focus ((intro wz hSw; (try dsimp only at hSw); obtain ⟨z0, z1⟩ := G1.out wz hSw; go_simp); (try with_reducible rfl))
  try simp only [Act.put, List.setIfInBounds_toArray, List.set_cons_zero, List.set_cons_succ]
  refine wpAnyH_take (i := 4) (oi := ?_) (v := ?_) (by simp only [List.getElem?_toArray, List.getElem?_cons_succ, List.getElem?_cons_zero]; rfl) (by kernel_rfl) (by kernel_rfl) (by kernel_rfl) (fun _ _ _ h => h) (Or.inl ⟨by rfl, ?_⟩) (by with_reducible assumption) ?_
  rotate_left
  focus ((intro wz hSw; (try dsimp only at hSw); obtain ⟨z0, z1⟩ := G0.out wz hSw; go_simp); (try with_reducible rfl))
  try simp only [Act.put, List.setIfInBounds_toArray, List.set_cons_zero, List.set_cons_succ]
  refine wpAnyH_take (i := 6) (oi := ?_) (v := ?_) (by simp only [List.getElem?_toArray, List.getElem?_cons_succ, List.getElem?_cons_zero]; rfl) (by kernel_rfl) (by kernel_rfl) (by kernel_rfl) (fun _ _ _ h => h) (Or.inl ⟨by rfl, ?_⟩) (by with_reducible assumption) ?_
  rotate_left
  focus ((intro wz hSw; (try dsimp only at hSw); obtain ⟨z0, z1⟩ := G1.out wz hSw; go_simp); (try with_reducible rfl))
  try simp only [Act.put, List.setIfInBounds_toArray, List.set_cons_zero, List.set_cons_succ]
  refine wpAnyH_meet (L := #[true, true, true, true, true, true, true, true, true, true, true, true, false, false, false, false])
    (J := fun a0 l a w' => ∃ (fl1 fl3 fl5 fl7 fl8 fl9 fl10 fl11 : Bool) (vl27 vl29 vl31 vl33 vl5 vl6 vl7 vl8 : Value) (b3 : Bool) (B3 : Option Addr) (m3 d3 : Nat) (b4 : Bool) (B4 : Option Addr) (m4 d4 : Nat) (b5 : Bool) (B5 : Option Addr) (m5 d5 : Nat) (b6 : Bool) (B6 : Option Addr) (m6 d6 ad8 ad9 ad10 ad11 : Nat), l = #[true, fl1, true, fl3, true, fl5, true, fl7, fl8, fl9, fl10, fl11, false, false, false, false] ∧ a = (((((((a0.put (some 27) vl27).put (some 29) vl29).put (some 31) vl31).put (some 33) vl33).put (some 5) vl5).put (some 6) vl6).put (some 7) vl7).put (some 8) vl8 ∧ Hid (Below wc2.heap.size wc2 w') ∧
      Hid (Gd fl1 (vl27 = .agg #[.bool b3, .slice B3 m3 d3] ∧ IntIn w' (x) b3 B3 m3 d3)) ∧
      Hid (Gd fl3 (vl29 = .agg #[.bool b4, .slice B4 m4 d4] ∧ IntIn w' (y) b4 B4 m4 d4)) ∧
      Hid (Gd fl5 (vl31 = .agg #[.bool b5, .slice B5 m5 d5] ∧ RefIn w' (x) b5 B5 m5 d5)) ∧
      Hid (Gd fl7 (vl33 = .agg #[.bool b6, .slice B6 m6 d6] ∧ RefIn w' (y) b6 B6 m6 d6)) ∧
      Hid (Gd fl8 (Made wc2.heap.size w' ad8 29 #[.bool false, .slice none 0 0] vl5)) ∧
      Hid (Gd fl9 (Made wc2.heap.size w' ad9 29 #[.bool false, .slice none 0 0] vl6)) ∧
      Hid (Gd fl10 (Made wc2.heap.size w' ad10 34 #[.bool false, .slice none 0 0] vl7)) ∧
      Hid (Gd fl11 (Made wc2.heap.size w' ad11 34 #[.bool false, .slice none 0 0] vl8)) ∧
      Hid (Gd fl8 (Gd fl9 (ad8 ≠ ad9))) ∧
      Hid (Gd fl8 (Gd fl10 (ad8 ≠ ad10))) ∧
      Hid (Gd fl8 (Gd fl11 (ad8 ≠ ad11))) ∧
      Hid (Gd fl9 (Gd fl10 (ad9 ≠ ad10))) ∧
      Hid (Gd fl9 (Gd fl11 (ad9 ≠ ad11))) ∧
      Hid (Gd fl10 (Gd fl11 (ad10 ≠ ad11))) ∧
      Hid (Gd fl3 (fl1 = true)) ∧
      Hid (Gd fl5 (fl3 = true)) ∧
      Hid (Gd fl7 (fl5 = true)))
    (by rfl) ?_ ?_ ?_ ?_
  · exact ⟨false, false, false, false, false, false, false, false, _, _, _, _, _, _, _, _, false, none, 0, 0, false, none, 0, 0, false, none, 0, 0, false, none, 0, 0, 0, 0, 0, 0, by kernel_rfl, by rfl, hHeld, Gd.no, Gd.no, Gd.no, Gd.no, Gd.no, Gd.no, Gd.no, Gd.no, Gd.no, Gd.no, Gd.no, Gd.no, Gd.no, Gd.no, Gd.no, Gd.no, Gd.no⟩
  · rintro l a w' ⟨fl1, fl3, fl5, fl7, fl8, fl9, fl10, fl11, vl27, vl29, vl31, vl33, vl5, vl6, vl7, vl8, b3, B3, m3, d3, b4, B4, m4, d4, b5, B5, m5, d5, b6, B6, m6, d6, ad8, ad9, ad10, ad11, rfl, rfl, -⟩ hr
    have xx1 : fl1 = true := by refine all_listed (i := 1) (o := ?_) hr (by simp only [List.getElem?_toArray, List.getElem?_cons_succ, List.getElem?_cons_zero]; rfl) ?_; rfl
    subst xx1
    have xx3 : fl3 = true := by refine all_listed (i := 3) (o := ?_) hr (by simp only [List.getElem?_toArray, List.getElem?_cons_succ, List.getElem?_cons_zero]; rfl) ?_; rfl
    subst xx3
    have xx5 : fl5 = true := by refine all_listed (i := 5) (o := ?_) hr (by simp only [List.getElem?_toArray, List.getElem?_cons_succ, List.getElem?_cons_zero]; rfl) ?_; rfl
    subst xx5
    have xx7 : fl7 = true := by refine all_listed (i := 7) (o := ?_) hr (by simp only [List.getElem?_toArray, List.getElem?_cons_succ, List.getElem?_cons_zero]; rfl) ?_; rfl
    subst xx7
    have xx8 : fl8 = true := by refine all_listed (i := 8) (o := ?_) hr (by simp only [List.getElem?_toArray, List.getElem?_cons_succ, List.getElem?_cons_zero]; rfl) ?_; rfl
    subst xx8
    have xx9 : fl9 = true := by refine all_listed (i := 9) (o := ?_) hr (by simp only [List.getElem?_toArray, List.getElem?_cons_succ, List.getElem?_cons_zero]; rfl) ?_; rfl
    subst xx9
    have xx10 : fl10 = true := by refine all_listed (i := 10) (o := ?_) hr (by simp only [List.getElem?_toArray, List.getElem?_cons_succ, List.getElem?_cons_zero]; rfl) ?_; rfl
    subst xx10
    have xx11 : fl11 = true := by refine all_listed (i := 11) (o := ?_) hr (by simp only [List.getElem?_toArray, List.getElem?_cons_succ, List.getElem?_cons_zero]; rfl) ?_; rfl
    subst xx11
    rfl
  · rintro l a w' i ⟨fl1, fl3, fl5, fl7, fl8, fl9, fl10, fl11, vl27, vl29, vl31, vl33, vl5, vl6, vl7, vl8, b3, B3, m3, d3, b4, B4, m4, d4, b5, B5, m5, d5, b6, B6, m6, d6, ad8, ad9, ad10, ad11, rfl, rfl, hBi, qf1, qf3, qf5, qf7, qf8, qf9, qf10, qf11, qn8_9, qn8_10, qn8_11, qn9_10, qn9_11, qn10_11, qd3_1, qd5_3, qd7_5⟩ hne hi
    have hlt : i < 16 := ready_lt hi
    rcases (show i = 0 ∨ i = 1 ∨ i = 2 ∨ i = 3 ∨ i = 4 ∨ i = 5 ∨ i = 6 ∨ i = 7 ∨ i = 8 ∨ i = 9 ∨ i = 10 ∨ i = 11 ∨ i = 12 ∨ i = 13 ∨ i = 14 ∨ i = 15 by omega) with rfl | rfl | rfl | rfl | rfl | rfl | rfl | rfl | rfl | rfl | rfl | rfl | rfl | rfl | rfl | rfl
    · have u : true = false := ready_un hi
      cases u
    · have u : fl1 = false := ready_un hi
      subst u
      refine wpOp_shut (by simp only [List.getElem?_toArray, List.getElem?_cons_succ, List.getElem?_cons_zero]; rfl) (fun K' hK => ?_)
      try simp only [Act.put, List.setIfInBounds_toArray, List.set_cons_zero, List.set_cons_succ]
      go_simp
      refine (C0.out w' hBi.out).mono ?_
      rintro e w2 ⟨nb3, nB3, nm3, nd3, rfl, nhw3, hb⟩
      exact hK.out _ _ ⟨keep_below hBi.out hb, true, fl3, fl5, fl7, fl8, fl9, fl10, fl11, _, vl29, vl31, vl33, vl5, vl6, vl7, vl8, nb3, nB3, nm3, nd3, b4, B4, m4, d4, b5, B5, m5, d5, b6, B6, m6, d6, ad8, ad9, ad10, ad11, by rfl, by rfl, keep_below hBi.out hb, Gd.yes ⟨rfl, nhw3⟩, qf3.out.mono fun h => ⟨h.1, h.2.below hb⟩, qf5.out.mono fun h => ⟨h.1, h.2.below hb⟩, qf7.out.mono fun h => ⟨h.1, h.2.below hb⟩, qf8.out.mono fun h => h.keep hb, qf9.out.mono fun h => h.keep hb, qf10.out.mono fun h => h.keep hb, qf11.out.mono fun h => h.keep hb, qn8_9, qn8_10, qn8_11, qn9_10, qn9_11, qn10_11, fun _ => rfl, qd5_3, qd7_5⟩
    · have u : true = false := ready_un hi
      cases u
    · have u : fl3 = false := ready_un hi
      subst u
      have yy1 : fl1 = true := by refine ready_dep (k := 1) (o := ?_) hi (by simp only [List.getElem?_toArray, List.getElem?_cons_succ, List.getElem?_cons_zero]; rfl) rfl rfl
      subst yy1
      refine wpOp_shut (by simp only [List.getElem?_toArray, List.getElem?_cons_succ, List.getElem?_cons_zero]; rfl) (fun K' hK => ?_)
      try simp only [Act.put, List.setIfInBounds_toArray, List.set_cons_zero, List.set_cons_succ]
      go_simp
      refine (C1.out w' hBi.out).mono ?_
      rintro e w2 ⟨nb4, nB4, nm4, nd4, rfl, nhw4, hb⟩
      exact hK.out _ _ ⟨keep_below hBi.out hb, true, true, fl5, fl7, fl8, fl9, fl10, fl11, vl27, _, vl31, vl33, vl5, vl6, vl7, vl8, b3, B3, m3, d3, nb4, nB4, nm4, nd4, b5, B5, m5, d5, b6, B6, m6, d6, ad8, ad9, ad10, ad11, by rfl, by rfl, keep_below hBi.out hb, qf1.out.mono fun h => ⟨h.1, h.2.below hb⟩, Gd.yes ⟨rfl, nhw4⟩, qf5.out.mono fun h => ⟨h.1, h.2.below hb⟩, qf7.out.mono fun h => ⟨h.1, h.2.below hb⟩, qf8.out.mono fun h => h.keep hb, qf9.out.mono fun h => h.keep hb, qf10.out.mono fun h => h.keep hb, qf11.out.mono fun h => h.keep hb, qn8_9, qn8_10, qn8_11, qn9_10, qn9_11, qn10_11, Gd.yes rfl, fun _ => rfl, qd7_5⟩
    · have u : true = false := ready_un hi
      cases u
    · have u : fl5 = false := ready_un hi
      subst u
      have yy3 : fl3 = true := by refine ready_dep (k := 1) (o := ?_) hi (by simp only [List.getElem?_toArray, List.getElem?_cons_succ, List.getElem?_cons_zero]; rfl) rfl rfl
      subst yy3
      refine wpOp_shut (by simp only [List.getElem?_toArray, List.getElem?_cons_succ, List.getElem?_cons_zero]; rfl) (fun K' hK => ?_)
      try simp only [Act.put, List.setIfInBounds_toArray, List.set_cons_zero, List.set_cons_succ]
      go_simp
      refine (C2.out w' hBi.out).mono ?_
      rintro e w2 ⟨nb5, nB5, nm5, nd5, rfl, nhw5, hb⟩
      exact hK.out _ _ ⟨keep_below hBi.out hb, fl1, true, true, fl7, fl8, fl9, fl10, fl11, vl27, vl29, _, vl33, vl5, vl6, vl7, vl8, b3, B3, m3, d3, b4, B4, m4, d4, nb5, nB5, nm5, nd5, b6, B6, m6, d6, ad8, ad9, ad10, ad11, by rfl, by rfl, keep_below hBi.out hb, qf1.out.mono fun h => ⟨h.1, h.2.below hb⟩, qf3.out.mono fun h => ⟨h.1, h.2.below hb⟩, Gd.yes ⟨rfl, nhw5⟩, qf7.out.mono fun h => ⟨h.1, h.2.below hb⟩, qf8.out.mono fun h => h.keep hb, qf9.out.mono fun h => h.keep hb, qf10.out.mono fun h => h.keep hb, qf11.out.mono fun h => h.keep hb, qn8_9, qn8_10, qn8_11, qn9_10, qn9_11, qn10_11, qd3_1, Gd.yes rfl, fun _ => rfl⟩
    · have u : true = false := ready_un hi
      cases u
    · have u : fl7 = false := ready_un hi
      subst u
      have yy5 : fl5 = true := by refine ready_dep (k := 1) (o := ?_) hi (by simp only [List.getElem?_toArray, List.getElem?_cons_succ, List.getElem?_cons_zero]; rfl) rfl rfl
      subst yy5
      refine wpOp_shut (by simp only [List.getElem?_toArray, List.getElem?_cons_succ, List.getElem?_cons_zero]; rfl) (fun K' hK => ?_)
      try simp only [Act.put, List.setIfInBounds_toArray, List.set_cons_zero, List.set_cons_succ]
      go_simp
      refine (C3.out w' hBi.out).mono ?_
      rintro e w2 ⟨nb6, nB6, nm6, nd6, rfl, nhw6, hb⟩
      exact hK.out _ _ ⟨keep_below hBi.out hb, fl1, fl3, true, true, fl8, fl9, fl10, fl11, vl27, vl29, vl31, _, vl5, vl6, vl7, vl8, b3, B3, m3, d3, b4, B4, m4, d4, b5, B5, m5, d5, nb6, nB6, nm6, nd6, ad8, ad9, ad10, ad11, by rfl, by rfl, keep_below hBi.out hb, qf1.out.mono fun h => ⟨h.1, h.2.below hb⟩, qf3.out.mono fun h => ⟨h.1, h.2.below hb⟩, qf5.out.mono fun h => ⟨h.1, h.2.below hb⟩, Gd.yes ⟨rfl, nhw6⟩, qf8.out.mono fun h => h.keep hb, qf9.out.mono fun h => h.keep hb, qf10.out.mono fun h => h.keep hb, qf11.out.mono fun h => h.keep hb, qn8_9, qn8_10, qn8_11, qn9_10, qn9_11, qn10_11, qd3_1, qd5_3, Gd.yes rfl⟩
    · have u : fl8 = false := ready_un hi
      subst u
      refine wpOp_shut (by simp only [List.getElem?_toArray, List.getElem?_cons_succ, List.getElem?_cons_zero]; rfl) (fun K' hK => ?_)
      try simp only [Act.put, List.setIfInBounds_toArray, List.set_cons_zero, List.set_cons_succ]
      go_simp
      have hb := up_alloc w' (.cells #[.bool false, .slice none 0 0] 29)
      exact hK.out _ _ ⟨keep_below hBi.out hb, fl1, fl3, fl5, fl7, true, fl9, fl10, fl11, vl27, vl29, vl31, vl33, _, vl6, vl7, vl8, b3, B3, m3, d3, b4, B4, m4, d4, b5, B5, m5, d5, b6, B6, m6, d6, _, ad9, ad10, ad11, by rfl, by rfl, keep_below hBi.out hb, qf1.out.mono fun h => ⟨h.1, h.2.below hb⟩, qf3.out.mono fun h => ⟨h.1, h.2.below hb⟩, qf5.out.mono fun h => ⟨h.1, h.2.below hb⟩, qf7.out.mono fun h => ⟨h.1, h.2.below hb⟩, Gd.yes (Made.new _ _ _ _ hBi.out.size), qf9.out.mono fun h => h.keep hb, qf10.out.mono fun h => h.keep hb, qf11.out.mono fun h => h.keep hb, Gd.yes (qf9.out.mono fun h => by have := h.lt; omega), Gd.yes (qf10.out.mono fun h => by have := h.lt; omega), Gd.yes (qf11.out.mono fun h => by have := h.lt; omega), qn9_10, qn9_11, qn10_11, qd3_1, qd5_3, qd7_5⟩
    · have u : fl9 = false := ready_un hi
      subst u
      refine wpOp_shut (by simp only [List.getElem?_toArray, List.getElem?_cons_succ, List.getElem?_cons_zero]; rfl) (fun K' hK => ?_)
      try simp only [Act.put, List.setIfInBounds_toArray, List.set_cons_zero, List.set_cons_succ]
      go_simp
      have hb := up_alloc w' (.cells #[.bool false, .slice none 0 0] 29)
      exact hK.out _ _ ⟨keep_below hBi.out hb, fl1, fl3, fl5, fl7, fl8, true, fl10, fl11, vl27, vl29, vl31, vl33, vl5, _, vl7, vl8, b3, B3, m3, d3, b4, B4, m4, d4, b5, B5, m5, d5, b6, B6, m6, d6, ad8, _, ad10, ad11, by rfl, by rfl, keep_below hBi.out hb, qf1.out.mono fun h => ⟨h.1, h.2.below hb⟩, qf3.out.mono fun h => ⟨h.1, h.2.below hb⟩, qf5.out.mono fun h => ⟨h.1, h.2.below hb⟩, qf7.out.mono fun h => ⟨h.1, h.2.below hb⟩, qf8.out.mono fun h => h.keep hb, Gd.yes (Made.new _ _ _ _ hBi.out.size), qf10.out.mono fun h => h.keep hb, qf11.out.mono fun h => h.keep hb, qf8.out.mono fun h => Gd.yes (by have := h.lt; omega), qn8_10, qn8_11, Gd.yes (qf10.out.mono fun h => by have := h.lt; omega), Gd.yes (qf11.out.mono fun h => by have := h.lt; omega), qn10_11, qd3_1, qd5_3, qd7_5⟩
    · have u : fl10 = false := ready_un hi
      subst u
      refine wpOp_shut (by simp only [List.getElem?_toArray, List.getElem?_cons_succ, List.getElem?_cons_zero]; rfl) (fun K' hK => ?_)
      try simp only [Act.put, List.setIfInBounds_toArray, List.set_cons_zero, List.set_cons_succ]
      go_simp
      have hb := up_alloc w' (.cells #[.bool false, .slice none 0 0] 34)
      exact hK.out _ _ ⟨keep_below hBi.out hb, fl1, fl3, fl5, fl7, fl8, fl9, true, fl11, vl27, vl29, vl31, vl33, vl5, vl6, _, vl8, b3, B3, m3, d3, b4, B4, m4, d4, b5, B5, m5, d5, b6, B6, m6, d6, ad8, ad9, _, ad11, by rfl, by rfl, keep_below hBi.out hb, qf1.out.mono fun h => ⟨h.1, h.2.below hb⟩, qf3.out.mono fun h => ⟨h.1, h.2.below hb⟩, qf5.out.mono fun h => ⟨h.1, h.2.below hb⟩, qf7.out.mono fun h => ⟨h.1, h.2.below hb⟩, qf8.out.mono fun h => h.keep hb, qf9.out.mono fun h => h.keep hb, Gd.yes (Made.new _ _ _ _ hBi.out.size), qf11.out.mono fun h => h.keep hb, qn8_9, qf8.out.mono fun h => Gd.yes (by have := h.lt; omega), qn8_11, qf9.out.mono fun h => Gd.yes (by have := h.lt; omega), qn9_11, Gd.yes (qf11.out.mono fun h => by have := h.lt; omega), qd3_1, qd5_3, qd7_5⟩
    · have u : fl11 = false := ready_un hi
      subst u
      refine wpOp_shut (by simp only [List.getElem?_toArray, List.getElem?_cons_succ, List.getElem?_cons_zero]; rfl) (fun K' hK => ?_)
      try simp only [Act.put, List.setIfInBounds_toArray, List.set_cons_zero, List.set_cons_succ]
      go_simp
      have hb := up_alloc w' (.cells #[.bool false, .slice none 0 0] 34)
      exact hK.out _ _ ⟨keep_below hBi.out hb, fl1, fl3, fl5, fl7, fl8, fl9, fl10, true, vl27, vl29, vl31, vl33, vl5, vl6, vl7, _, b3, B3, m3, d3, b4, B4, m4, d4, b5, B5, m5, d5, b6, B6, m6, d6, ad8, ad9, ad10, _, by rfl, by rfl, keep_below hBi.out hb, qf1.out.mono fun h => ⟨h.1, h.2.below hb⟩, qf3.out.mono fun h => ⟨h.1, h.2.below hb⟩, qf5.out.mono fun h => ⟨h.1, h.2.below hb⟩, qf7.out.mono fun h => ⟨h.1, h.2.below hb⟩, qf8.out.mono fun h => h.keep hb, qf9.out.mono fun h => h.keep hb, qf10.out.mono fun h => h.keep hb, Gd.yes (Made.new _ _ _ _ hBi.out.size), qn8_9, qn8_10, qf8.out.mono fun h => Gd.yes (by have := h.lt; omega), qn9_10, qf9.out.mono fun h => Gd.yes (by have := h.lt; omega), qf10.out.mono fun h => Gd.yes (by have := h.lt; omega), qd3_1, qd5_3, qd7_5⟩
    · have yy1 : fl1 = true := by refine ready_dep (k := 1) (o := ?_) hi (by simp only [List.getElem?_toArray, List.getElem?_cons_succ, List.getElem?_cons_zero]; rfl) rfl rfl
      subst yy1
      have yy7 : fl7 = true := by refine ready_dep (k := 2) (o := ?_) hi (by simp only [List.getElem?_toArray, List.getElem?_cons_succ, List.getElem?_cons_zero]; rfl) rfl rfl
      subst yy7
      have yy8 : fl8 = true := by refine ready_dep (k := 0) (o := ?_) hi (by simp only [List.getElem?_toArray, List.getElem?_cons_succ, List.getElem?_cons_zero]; rfl) rfl rfl
      subst yy8
      have yy9 : fl9 = true := by refine ready_dep (k := 12) (o := ?_) hi (by simp only [List.getElem?_toArray, List.getElem?_cons_succ, List.getElem?_cons_zero]; rfl) rfl rfl
      subst yy9
      have yy10 : fl10 = true := by refine ready_dep (k := 13) (o := ?_) hi (by simp only [List.getElem?_toArray, List.getElem?_cons_succ, List.getElem?_cons_zero]; rfl) rfl rfl
      subst yy10
      have yy11 : fl11 = true := by refine ready_dep (k := 14) (o := ?_) hi (by simp only [List.getElem?_toArray, List.getElem?_cons_succ, List.getElem?_cons_zero]; rfl) rfl rfl
      subst yy11
      have yy5 : fl5 = true := qd7_5.out.get
      subst yy5
      have yy3 : fl3 = true := qd5_3.out.get
      subst yy3
      exact absurd rfl hne
    · have u : false = true := by refine ready_dep (k := 2) (o := ?_) hi (by simp only [List.getElem?_toArray, List.getElem?_cons_succ, List.getElem?_cons_zero]; rfl) rfl rfl
      cases u
    · have u : false = true := by refine ready_dep (k := 15) (o := ?_) hi (by simp only [List.getElem?_toArray, List.getElem?_cons_succ, List.getElem?_cons_zero]; rfl) rfl rfl
      cases u
    · have u : false = true := by refine ready_dep (k := 15) (o := ?_) hi (by simp only [List.getElem?_toArray, List.getElem?_cons_succ, List.getElem?_cons_zero]; rfl) rfl rfl
      cases u
  rintro a wm3 ⟨fl1, fl3, fl5, fl7, fl8, fl9, fl10, fl11, vl27, vl29, vl31, vl33, vl5, vl6, vl7, vl8, b3, B3, m3, d3, b4, B4, m4, d4, b5, B5, m5, d5, b6, B6, m6, d6, ad8, ad9, ad10, ad11, hl, rfl, hBi, qf1, qf3, qf5, qf7, qf8, qf9, qf10, qf11, qn8_9, qn8_10, qn8_11, qn9_10, qn9_11, qn10_11, qd3_1, qd5_3, qd7_5⟩
  have xx1 : fl1 = true := by have h := congrArg (fun l : Array Bool => l.getD 1 false) hl; exact h.symm
  subst xx1
  have xx3 : fl3 = true := by have h := congrArg (fun l : Array Bool => l.getD 3 false) hl; exact h.symm
  subst xx3
  have xx5 : fl5 = true := by have h := congrArg (fun l : Array Bool => l.getD 5 false) hl; exact h.symm
  subst xx5
  have xx7 : fl7 = true := by have h := congrArg (fun l : Array Bool => l.getD 7 false) hl; exact h.symm
  subst xx7
  have xx8 : fl8 = true := by have h := congrArg (fun l : Array Bool => l.getD 8 false) hl; exact h.symm
  subst xx8
  have xx9 : fl9 = true := by have h := congrArg (fun l : Array Bool => l.getD 9 false) hl; exact h.symm
  subst xx9
  have xx10 : fl10 = true := by have h := congrArg (fun l : Array Bool => l.getD 10 false) hl; exact h.symm
  subst xx10
  have xx11 : fl11 = true := by have h := congrArg (fun l : Array Bool => l.getD 11 false) hl; exact h.symm
  subst xx11
  obtain ⟨rfl, hw3⟩ := qf1.out.get
  obtain ⟨rfl, hw4⟩ := qf3.out.get
  obtain ⟨rfl, hw5⟩ := qf5.out.get
  obtain ⟨rfl, hw6⟩ := qf7.out.get
  obtain ⟨rfl, hg8, hk8⟩ := qf8.out.get
  obtain ⟨rfl, hg9, hk9⟩ := qf9.out.get
  obtain ⟨rfl, hg10, hk10⟩ := qf10.out.get
  obtain ⟨rfl, hg11, hk11⟩ := qf11.out.get
  have n8_9 := qn8_9.out.get.get
  have n8_10 := qn8_10.out.get.get
  have n8_11 := qn8_11.out.get.get
  have n9_10 := qn9_10.out.get.get
  have n9_11 := qn9_11.out.get.get
  have n10_11 := qn10_11.out.get.get
  have hBv := hBi.out
  clear hl hBi qf1 qf3 qf5 qf7 qf8 qf9 qf10 qf11 qn8_9 qn8_10 qn8_11 qn9_10 qn9_11 qn10_11 qd3_1 qd5_3 qd7_5
  have hk8 : Blk wm3 ad8 29 #[.bool false, .slice none 0 0] := hk8
  have hk9 : Blk wm3 ad9 29 #[.bool false, .slice none 0 0] := hk9
  have hk10 : Blk wm3 ad10 34 #[.bool false, .slice none 0 0] := hk10
  have hk11 : Blk wm3 ad11 34 #[.bool false, .slice none 0 0] := hk11
  rw [show due #[true, true, true, true, true, true, true, true, true, true, true, true, false, false, false, false] = 4 from rfl]
  try simp only [Act.put, List.setIfInBounds_toArray, List.set_cons_zero, List.set_cons_succ]
  refine wpAnyH_ready (rs := [12]) (by kernel_rfl) (by simp) ?_
  refine AllReadyH.cons (o := ?_) (by simp only [List.getElem?_toArray, List.getElem?_cons_succ, List.getElem?_cons_zero]; rfl) (fun K hK => ?_) AllReadyH.nil
  have sc0 : (wm3).cell? ⟨ad8, 0, none⟩ = some (.bool false) := hk8.cell 0
  have sf0 : (wm3).frozen? ⟨ad8, 0, none⟩ = false := hk8.frozen 0
  have hj0 : Blk (wm3.setCell ⟨ad8, 0, none⟩ (.bool b3)) ad8 29 #[.bool b3, .slice none 0 0] := hk8.set_ 0 (.bool b3)
  have sc1 : (wm3.setCell ⟨ad8, 0, none⟩ (.bool b3)).cell? ⟨ad8, 1, none⟩ = some (.slice none 0 0) := hj0.cell 1
  have sf1 : (wm3.setCell ⟨ad8, 0, none⟩ (.bool b3)).frozen? ⟨ad8, 1, none⟩ = false := hj0.frozen 1
  have hj1 : Blk ((wm3.setCell ⟨ad8, 0, none⟩ (.bool b3)).setCell ⟨ad8, 1, none⟩ (.slice B3 m3 d3)) ad8 29 #[.bool b3, .slice B3 m3 d3] := hj0.set_ 1 (.slice B3 m3 d3)
  go_simp
  have hBv := keep_below_set (p := ⟨ad8, 1, none⟩) (.slice B3 m3 d3) hg8 (keep_below_set (p := ⟨ad8, 0, none⟩) (.bool b3) hg8 (hBv))
  have hk9 := Blk.far (Blk.far (hk9) (p := ⟨ad8, 0, none⟩) (show ad9 ≠ ad8 from n8_9.symm) (.bool b3)) (p := ⟨ad8, 1, none⟩) (show ad9 ≠ ad8 from n8_9.symm) (.slice B3 m3 d3)
  have hk10 := Blk.far (Blk.far (hk10) (p := ⟨ad8, 0, none⟩) (show ad10 ≠ ad8 from n8_10.symm) (.bool b3)) (p := ⟨ad8, 1, none⟩) (show ad10 ≠ ad8 from n8_10.symm) (.slice B3 m3 d3)
  have hk11 := Blk.far (Blk.far (hk11) (p := ⟨ad8, 0, none⟩) (show ad11 ≠ ad8 from n8_11.symm) (.bool b3)) (p := ⟨ad8, 1, none⟩) (show ad11 ≠ ad8 from n8_11.symm) (.slice B3 m3 d3)
  have hw3 := int_set2 hw3 hk8 b3 B3 m3 d3
  have hw4 := int_set2 hw4 hk8 b3 B3 m3 d3
  have hw5 := ref_set2 hw5 hk8 b3 B3 m3 d3
  have hw6 := ref_set2 hw6 hk8 b3 B3 m3 d3
  have hk8 := hj1
  clear sc0 sf0 sc1 sf1 hj0 hj1
  refine hK.out _ _ ?_ (fun hHeld => ?_)
  · ((try dsimp only); exact hBv)
  clear hK K hHeld
  try simp only [Act.put, List.setIfInBounds_toArray, List.set_cons_zero, List.set_cons_succ]
  generalize (wm3.setCell ⟨ad8, 0, none⟩ (.bool b3)).setCell ⟨ad8, 1, none⟩ (.slice B3 m3 d3) = wm4 at *
  refine wpAnyH_ready (rs := [13]) (by kernel_rfl) (by simp) ?_
  refine AllReadyH.cons (o := ?_) (by simp only [List.getElem?_toArray, List.getElem?_cons_succ, List.getElem?_cons_zero]; rfl) (fun K hK => ?_) AllReadyH.nil
  have sc0 : (wm4).cell? ⟨ad9, 0, none⟩ = some (.bool false) := hk9.cell 0
  have sf0 : (wm4).frozen? ⟨ad9, 0, none⟩ = false := hk9.frozen 0
  have hj0 : Blk (wm4.setCell ⟨ad9, 0, none⟩ (.bool b4)) ad9 29 #[.bool b4, .slice none 0 0] := hk9.set_ 0 (.bool b4)
  have sc1 : (wm4.setCell ⟨ad9, 0, none⟩ (.bool b4)).cell? ⟨ad9, 1, none⟩ = some (.slice none 0 0) := hj0.cell 1
  have sf1 : (wm4.setCell ⟨ad9, 0, none⟩ (.bool b4)).frozen? ⟨ad9, 1, none⟩ = false := hj0.frozen 1
  have hj1 : Blk ((wm4.setCell ⟨ad9, 0, none⟩ (.bool b4)).setCell ⟨ad9, 1, none⟩ (.slice B4 m4 d4)) ad9 29 #[.bool b4, .slice B4 m4 d4] := hj0.set_ 1 (.slice B4 m4 d4)
  go_simp
  have hBv := keep_below_set (p := ⟨ad9, 1, none⟩) (.slice B4 m4 d4) hg9 (keep_below_set (p := ⟨ad9, 0, none⟩) (.bool b4) hg9 (hBv))
  have hk8 := Blk.far (Blk.far (hk8) (p := ⟨ad9, 0, none⟩) (show ad8 ≠ ad9 from n8_9) (.bool b4)) (p := ⟨ad9, 1, none⟩) (show ad8 ≠ ad9 from n8_9) (.slice B4 m4 d4)
  have hk10 := Blk.far (Blk.far (hk10) (p := ⟨ad9, 0, none⟩) (show ad10 ≠ ad9 from n9_10.symm) (.bool b4)) (p := ⟨ad9, 1, none⟩) (show ad10 ≠ ad9 from n9_10.symm) (.slice B4 m4 d4)
  have hk11 := Blk.far (Blk.far (hk11) (p := ⟨ad9, 0, none⟩) (show ad11 ≠ ad9 from n9_11.symm) (.bool b4)) (p := ⟨ad9, 1, none⟩) (show ad11 ≠ ad9 from n9_11.symm) (.slice B4 m4 d4)
  have hw3 := int_set2 hw3 hk9 b4 B4 m4 d4
  have hw4 := int_set2 hw4 hk9 b4 B4 m4 d4
  have hw5 := ref_set2 hw5 hk9 b4 B4 m4 d4
  have hw6 := ref_set2 hw6 hk9 b4 B4 m4 d4
  have hk9 := hj1
  clear sc0 sf0 sc1 sf1 hj0 hj1
  refine hK.out _ _ ?_ (fun hHeld => ?_)
  · ((try dsimp only); exact hBv)
  clear hK K hHeld
  try simp only [Act.put, List.setIfInBounds_toArray, List.set_cons_zero, List.set_cons_succ]
  generalize (wm4.setCell ⟨ad9, 0, none⟩ (.bool b4)).setCell ⟨ad9, 1, none⟩ (.slice B4 m4 d4) = wm5 at *
  refine wpAnyH_ready (rs := [14]) (by kernel_rfl) (by simp) ?_
  refine AllReadyH.cons (o := ?_) (by simp only [List.getElem?_toArray, List.getElem?_cons_succ, List.getElem?_cons_zero]; rfl) (fun K hK => ?_) AllReadyH.nil
  have sc0 : (wm5).cell? ⟨ad10, 0, none⟩ = some (.bool false) := hk10.cell 0
  have sf0 : (wm5).frozen? ⟨ad10, 0, none⟩ = false := hk10.frozen 0
  have hj0 : Blk (wm5.setCell ⟨ad10, 0, none⟩ (.bool b5)) ad10 34 #[.bool b5, .slice none 0 0] := hk10.set_ 0 (.bool b5)
  have sc1 : (wm5.setCell ⟨ad10, 0, none⟩ (.bool b5)).cell? ⟨ad10, 1, none⟩ = some (.slice none 0 0) := hj0.cell 1
  have sf1 : (wm5.setCell ⟨ad10, 0, none⟩ (.bool b5)).frozen? ⟨ad10, 1, none⟩ = false := hj0.frozen 1
  have hj1 : Blk ((wm5.setCell ⟨ad10, 0, none⟩ (.bool b5)).setCell ⟨ad10, 1, none⟩ (.slice B5 m5 d5)) ad10 34 #[.bool b5, .slice B5 m5 d5] := hj0.set_ 1 (.slice B5 m5 d5)
  go_simp
  have hBv := keep_below_set (p := ⟨ad10, 1, none⟩) (.slice B5 m5 d5) hg10 (keep_below_set (p := ⟨ad10, 0, none⟩) (.bool b5) hg10 (hBv))
  have hk8 := Blk.far (Blk.far (hk8) (p := ⟨ad10, 0, none⟩) (show ad8 ≠ ad10 from n8_10) (.bool b5)) (p := ⟨ad10, 1, none⟩) (show ad8 ≠ ad10 from n8_10) (.slice B5 m5 d5)
  have hk9 := Blk.far (Blk.far (hk9) (p := ⟨ad10, 0, none⟩) (show ad9 ≠ ad10 from n9_10) (.bool b5)) (p := ⟨ad10, 1, none⟩) (show ad9 ≠ ad10 from n9_10) (.slice B5 m5 d5)
  have hk11 := Blk.far (Blk.far (hk11) (p := ⟨ad10, 0, none⟩) (show ad11 ≠ ad10 from n10_11.symm) (.bool b5)) (p := ⟨ad10, 1, none⟩) (show ad11 ≠ ad10 from n10_11.symm) (.slice B5 m5 d5)
  have hw3 := int_set2 hw3 hk10 b5 B5 m5 d5
  have hw4 := int_set2 hw4 hk10 b5 B5 m5 d5
  have hw5 := ref_set2 hw5 hk10 b5 B5 m5 d5
  have hw6 := ref_set2 hw6 hk10 b5 B5 m5 d5
  have hk10 := hj1
  clear sc0 sf0 sc1 sf1 hj0 hj1
  refine hK.out _ _ ?_ (fun hHeld => ?_)
  · ((try dsimp only); exact hBv)
  clear hK K hHeld
  try simp only [Act.put, List.setIfInBounds_toArray, List.set_cons_zero, List.set_cons_succ]
  generalize (wm5.setCell ⟨ad10, 0, none⟩ (.bool b5)).setCell ⟨ad10, 1, none⟩ (.slice B5 m5 d5) = wm6 at *
  refine wpAnyH_ready (rs := [15]) (by kernel_rfl) (by simp) ?_
  refine AllReadyH.cons (o := ?_) (by simp only [List.getElem?_toArray, List.getElem?_cons_succ, List.getElem?_cons_zero]; rfl) (fun K hK => ?_) AllReadyH.nil
  have sc0 : (wm6).cell? ⟨ad11, 0, none⟩ = some (.bool false) := hk11.cell 0
  have sf0 : (wm6).frozen? ⟨ad11, 0, none⟩ = false := hk11.frozen 0
  have hj0 : Blk (wm6.setCell ⟨ad11, 0, none⟩ (.bool b6)) ad11 34 #[.bool b6, .slice none 0 0] := hk11.set_ 0 (.bool b6)
  have sc1 : (wm6.setCell ⟨ad11, 0, none⟩ (.bool b6)).cell? ⟨ad11, 1, none⟩ = some (.slice none 0 0) := hj0.cell 1
  have sf1 : (wm6.setCell ⟨ad11, 0, none⟩ (.bool b6)).frozen? ⟨ad11, 1, none⟩ = false := hj0.frozen 1
  have hj1 : Blk ((wm6.setCell ⟨ad11, 0, none⟩ (.bool b6)).setCell ⟨ad11, 1, none⟩ (.slice B6 m6 d6)) ad11 34 #[.bool b6, .slice B6 m6 d6] := hj0.set_ 1 (.slice B6 m6 d6)
  go_simp
  have hBv := keep_below_set (p := ⟨ad11, 1, none⟩) (.slice B6 m6 d6) hg11 (keep_below_set (p := ⟨ad11, 0, none⟩) (.bool b6) hg11 (hBv))
  have hk8 := Blk.far (Blk.far (hk8) (p := ⟨ad11, 0, none⟩) (show ad8 ≠ ad11 from n8_11) (.bool b6)) (p := ⟨ad11, 1, none⟩) (show ad8 ≠ ad11 from n8_11) (.slice B6 m6 d6)
  have hk9 := Blk.far (Blk.far (hk9) (p := ⟨ad11, 0, none⟩) (show ad9 ≠ ad11 from n9_11) (.bool b6)) (p := ⟨ad11, 1, none⟩) (show ad9 ≠ ad11 from n9_11) (.slice B6 m6 d6)
  have hk10 := Blk.far (Blk.far (hk10) (p := ⟨ad11, 0, none⟩) (show ad10 ≠ ad11 from n10_11) (.bool b6)) (p := ⟨ad11, 1, none⟩) (show ad10 ≠ ad11 from n10_11) (.slice B6 m6 d6)
  have hw3 := int_set2 hw3 hk11 b6 B6 m6 d6
  have hw4 := int_set2 hw4 hk11 b6 B6 m6 d6
  have hw5 := ref_set2 hw5 hk11 b6 B6 m6 d6
  have hw6 := ref_set2 hw6 hk11 b6 B6 m6 d6
  have hk11 := hj1
  clear sc0 sf0 sc1 sf1 hj0 hj1
  refine hK.out _ _ ?_ (fun hHeld => ?_)
  · ((try dsimp only); exact hBv)
  clear hK K hHeld
  try simp only [Act.put, List.setIfInBounds_toArray, List.set_cons_zero, List.set_cons_succ]
  generalize (wm6.setCell ⟨ad11, 0, none⟩ (.bool b6)).setCell ⟨ad11, 1, none⟩ (.slice B6 m6 d6) = wm7 at *
  refine wpAnyH_done (by kernel_rfl) ?_ _
  refine NoPanic.normal ?_
  have hB := keep_below hB hBv
  have g1 := keep_cell hBv g1
  have e1 := keep_cell hBv e1
  have g2 := keep_cell hBv g2
  have e2 := keep_cell hBv e2
  obtain ⟨ad8_7, hga⟩ : ∃ x, x = ad8 := ⟨_, rfl⟩
  subst hga
  have g7 : wm7.cell? ⟨ad8_7, 0, none⟩ = some (.bool b3) := hk8.cell 0
  have e7 : wm7.cell? ⟨ad8_7, 1, none⟩ = some (.slice B3 m3 d3) := hk8.cell 1
  obtain ⟨ad9_8, hga⟩ : ∃ x, x = ad9 := ⟨_, rfl⟩
  subst hga
  have g8 : wm7.cell? ⟨ad9_8, 0, none⟩ = some (.bool b4) := hk9.cell 0
  have e8 : wm7.cell? ⟨ad9_8, 1, none⟩ = some (.slice B4 m4 d4) := hk9.cell 1
  obtain ⟨ad10_9, hga⟩ : ∃ x, x = ad10 := ⟨_, rfl⟩
  subst hga
  have g9 : wm7.cell? ⟨ad10_9, 0, none⟩ = some (.bool b5) := hk10.cell 0
  have e9 : wm7.cell? ⟨ad10_9, 1, none⟩ = some (.slice B5 m5 d5) := hk10.cell 1
  obtain ⟨ad11_10, hga⟩ : ∃ x, x = ad11 := ⟨_, rfl⟩
  subst hga
  have g10 : wm7.cell? ⟨ad11_10, 0, none⟩ = some (.bool b6) := hk11.cell 0
  have e10 : wm7.cell? ⟨ad11_10, 1, none⟩ = some (.slice B6 m6 d6) := hk11.cell 1
  have HN3 := Lib.hid hw3
  have HN4 := Lib.hid hw4
  have HN5 := Lib.hid hw5
  have HN6 := Lib.hid hw6
  clear hBv hk8 hg8 hk9 hg9 hk10 hg10 hk11 hg11 hw3 hw4 hw5 hw6 G0 G1 n8_9 n8_10 n8_11 n9_10 n9_11 n10_11
  clear C0 C1 C2 C3
  go_wp2_with fail
  have HZ11 : Hid (Sz (1) ((0 : Int)).natAbs) := (by show (0 : Nat) < _; decide)
  have HZ12 : Hid (Sz (1) ((0 : Int)).natAbs) := (by show (0 : Nat) < _; decide)
  (with_reducible refine (HIC.out.divNo (x) (y) b3 b4 B3 B4 m3 m4 d3 d4 _ (HT.out _ hB) HN3.out HN4.out (by have := Sz.words HZ3.out HN3.out.words; omega) (by have := Sz.words HZ4.out HN4.out.words; omega) Hhy.out).mono ?_)
  rintro e wc8 ⟨b11, B11, m11, d11, b12, B12, m12, d12, rfl, hw11, hw12, hb⟩
  have hB := keep_below hB hb
  have g1 := keep_cell hb g1
  have e1 := keep_cell hb e1
  have g2 := keep_cell hb g2
  have e2 := keep_cell hb e2
  have g7 := keep_cell hb g7
  have e7 := keep_cell hb e7
  have g8 := keep_cell hb g8
  have e8 := keep_cell hb e8
  have g9 := keep_cell hb g9
  have e9 := keep_cell hb e9
  have g10 := keep_cell hb g10
  have e10 := keep_cell hb e10
  have HN3 := Lib.hid (HN3.out.below hb)
  have HN4 := Lib.hid (HN4.out.below hb)
  have HN5 := Lib.hid (HN5.out.below hb)
  have HN6 := Lib.hid (HN6.out.below hb)
  have HN11 := Lib.hid hw11
  have HN12 := Lib.hid hw12
  clear hb hw11 hw12
  have hq6 := h16_zero HN6.out.2 (by rw [Hhy.out]; rfl)
  have hr6 : ((m6 : Int) == 0) = true := by rw [beq_iff_eq]; omega
  clear hq6
  have gm10_2_0 : ((wc8.alloc (.cells #[.bool b11, .slice B11 m11 d11] 29)).alloc (.cells #[.bool b12, .slice B12 m12 d12] 29)).cell? ⟨ad11_10, 0, none⟩ = some (.bool b6) := keep_cell_alloc _ (keep_cell_alloc _ (g10))
  have gm10_2_1 : ((wc8.alloc (.cells #[.bool b11, .slice B11 m11 d11] 29)).alloc (.cells #[.bool b12, .slice B12 m12 d12] 29)).cell? ⟨ad11_10, 1, none⟩ = some (.slice B6 m6 d6) := keep_cell_alloc _ (keep_cell_alloc _ (e10))
  have gm13_2_0 : ((wc8.alloc (.cells #[.bool b11, .slice B11 m11 d11] 29)).alloc (.cells #[.bool b12, .slice B12 m12 d12] 29)).cell? ⟨wc8.heap.size, 0, none⟩ = some (.bool b11) := by
    obtain ⟨c1, c2, c3, _⟩ := box2 wc8 29 29 #[.bool b11, .slice B11 m11 d11] #[.bool b12, .slice B12 m12 d12]
    exact c2.cell 0
  have gm13_2_1 : ((wc8.alloc (.cells #[.bool b11, .slice B11 m11 d11] 29)).alloc (.cells #[.bool b12, .slice B12 m12 d12] 29)).cell? ⟨wc8.heap.size, 1, none⟩ = some (.slice B11 m11 d11) := by
    obtain ⟨c1, c2, c3, _⟩ := box2 wc8 29 29 #[.bool b11, .slice B11 m11 d11] #[.bool b12, .slice B12 m12 d12]
    exact c2.cell 1
  obtain ⟨bx1, bx2, bx3, bz⟩ := box2 wc8 29 29 #[.bool b11, .slice B11 m11 d11] #[.bool b12, .slice B12 m12 d12]
  have hB := keep_below hB bx1
  have g1 := keep_cell bx1 g1
  have e1 := keep_cell bx1 e1
  have g2 := keep_cell bx1 g2
  have e2 := keep_cell bx1 e2
  have g7 := keep_cell bx1 g7
  have e7 := keep_cell bx1 e7
  have g8 := keep_cell bx1 g8
  have e8 := keep_cell bx1 e8
  have g9 := keep_cell bx1 g9
  have e9 := keep_cell bx1 e9
  have g10 := keep_cell bx1 g10
  have e10 := keep_cell bx1 e10
  have HN3 := Lib.hid (HN3.out.below bx1)
  have HN4 := Lib.hid (HN4.out.below bx1)
  have HN5 := Lib.hid (HN5.out.below bx1)
  have HN6 := Lib.hid (HN6.out.below bx1)
  have HN11 := Lib.hid (HN11.out.below bx1)
  have HN12 := Lib.hid (HN12.out.below bx1)
  have g13 : ((wc8.alloc (.cells #[.bool b11, .slice B11 m11 d11] 29)).alloc (.cells #[.bool b12, .slice B12 m12 d12] 29)).cell? ⟨wc8.heap.size, 0, none⟩ = some (.bool b11) := bx2.cell 0
  have e13 : ((wc8.alloc (.cells #[.bool b11, .slice B11 m11 d11] 29)).alloc (.cells #[.bool b12, .slice B12 m12 d12] 29)).cell? ⟨wc8.heap.size, 1, none⟩ = some (.slice B11 m11 d11) := bx2.cell 1
  have g14 : ((wc8.alloc (.cells #[.bool b11, .slice B11 m11 d11] 29)).alloc (.cells #[.bool b12, .slice B12 m12 d12] 29)).cell? ⟨wc8.heap.size + 1, 0, none⟩ = some (.bool b12) := bx3.cell 0
  have e14 : ((wc8.alloc (.cells #[.bool b11, .slice B11 m11 d11] 29)).alloc (.cells #[.bool b12, .slice B12 m12 d12] 29)).cell? ⟨wc8.heap.size + 1, 1, none⟩ = some (.slice B12 m12 d12) := bx3.cell 1
  clear bx1 bx2 bx3 bz
  go_wp2_with fail
  clear gm10_2_0 gm10_2_1 gm13_2_0 gm13_2_1
  generalize (wc8.alloc (.cells #[.bool b11, .slice B11 m11 d11] 29)).alloc (.cells #[.bool b12, .slice B12 m12 d12] 29) = W9 at *
  generalize wc8.heap.size = q9 at *
  (with_reducible refine (isgn_of (v := 0) (((sgnZ_eq _).2 rfl)) (HIC.out.sign ((0 : Int)) b11 B11 m11 d11 _ (HT.out _ hB) HN11.out (by have := Sz.words HZ11.out HN11.out.words; omega))).mono ?_)
  rintro e wc10 ⟨rfl, hb⟩
  have hB := keep_below hB hb
  have g1 := keep_cell hb g1
  have e1 := keep_cell hb e1
  have g2 := keep_cell hb g2
  have e2 := keep_cell hb e2
  have g7 := keep_cell hb g7
  have e7 := keep_cell hb e7
  have g8 := keep_cell hb g8
  have e8 := keep_cell hb e8
  have g9 := keep_cell hb g9
  have e9 := keep_cell hb e9
  have g10 := keep_cell hb g10
  have e10 := keep_cell hb e10
  have HN3 := Lib.hid (HN3.out.below hb)
  have HN4 := Lib.hid (HN4.out.below hb)
  have HN5 := Lib.hid (HN5.out.below hb)
  have HN6 := Lib.hid (HN6.out.below hb)
  have HN11 := Lib.hid (HN11.out.below hb)
  have HN12 := Lib.hid (HN12.out.below hb)
  have g13 := keep_cell hb g13
  have e13 := keep_cell hb e13
  have g14 := keep_cell hb g14
  have e14 := keep_cell hb e14
  clear hb 
  go_wp2_with fail
  (with_reducible refine (isgn_of (v := 0) (((sgnZ_eq _).2 rfl)) (HIC.out.sign ((0 : Int)) b12 B12 m12 d12 _ (HT.out _ hB) HN12.out (by have := Sz.words HZ12.out HN12.out.words; omega))).mono ?_)
  rintro e wc11 ⟨rfl, hb⟩
  have hB := keep_below hB hb
  have g1 := keep_cell hb g1
  have e1 := keep_cell hb e1
  have g2 := keep_cell hb g2
  have e2 := keep_cell hb e2
  have g7 := keep_cell hb g7
  have e7 := keep_cell hb e7
  have g8 := keep_cell hb g8
  have e8 := keep_cell hb e8
  have g9 := keep_cell hb g9
  have e9 := keep_cell hb e9
  have g10 := keep_cell hb g10
  have e10 := keep_cell hb e10
  have HN3 := Lib.hid (HN3.out.below hb)
  have HN4 := Lib.hid (HN4.out.below hb)
  have HN5 := Lib.hid (HN5.out.below hb)
  have HN6 := Lib.hid (HN6.out.below hb)
  have HN11 := Lib.hid (HN11.out.below hb)
  have HN12 := Lib.hid (HN12.out.below hb)
  have g13 := keep_cell hb g13
  have e13 := keep_cell hb e13
  have g14 := keep_cell hb g14
  have e14 := keep_cell hb e14
  clear hb 
  go_wp2
  go_ret
  exact ⟨by first | rfl | simp, hB⟩
end Go.Proofs.Ytnfednkphcapnaa
