/-
  The contracts of the reference's Cmp (actuaryref07) and of the law's Like. Conditions: sizes as each says; integer's functions do as IntC says.
-/
import Derived.Test.YtnfednkphcapnaaRows
import Derived.Test.YtnfednkphcapnaaBunB
import Derived.Test.YtnfednkphcapnaaR7Ref
import Derived.Test.YtnfednkphcapnaaBunP
import Derived.WalkKit
import Derived.Lib.Hide
import Derived.Outline
import Derived.IntWalk
import Derived.Deep.RegionHeld3
namespace Go.Proofs.Ytnfednkphcapnaa
open Go Go.RowKit
set_option maxRecDepth 100000
set_option linter.unusedVariables false
set_option linter.unusedSimpArgs false
set_option maxHeartbeats 16000000 in
theorem ref7_cmp_lt (x y : Int) (bp bq : Bool) (Bp Bq : Option Addr) (mp mq dp dq : Nat) (K : Nat) (hKK : K ≤ 16777216) (w : World) (sx : Sz K x.natAbs) (sy : Sz K y.natAbs) (hp : RefIn w x bp Bp mp dp) (hq : RefIn w y bq Bq mq dq) (h : x < y) :
    Calls Try.prog 23 #[.agg #[.bool bp, .slice Bp mp dp], .agg #[.bool bq, .slice Bq mq dq]] w fun e w' => e = .returned (.int .i64 (-1)) ∧ Below w.heap.size w w' := by
  have HNp := Lib.hid hp
  have HNq := Lib.hid hq
  have HZp := Lib.hid sx
  have HZq := Lib.hid sy
  have Hh := Lib.hid h
  clear hp hq sx sy h
  go_enter Try.func23, Try.ntmps23
  have hB := Below.refl w.heap.size w
  obtain ⟨bx1, bx2, bx3, bz⟩ := box2 w 34 34 #[.bool bp, .slice Bp mp dp] #[.bool bq, .slice Bq mq dq]
  have hB := keep_below hB bx1
  have HNp := Lib.hid (HNp.out.below bx1)
  have HNq := Lib.hid (HNq.out.below bx1)
  have g1 : ((w.alloc (.cells #[.bool bp, .slice Bp mp dp] 34)).alloc (.cells #[.bool bq, .slice Bq mq dq] 34)).cell? ⟨w.heap.size, 0, none⟩ = some (.bool bp) := bx2.cell 0
  have e1 : ((w.alloc (.cells #[.bool bp, .slice Bp mp dp] 34)).alloc (.cells #[.bool bq, .slice Bq mq dq] 34)).cell? ⟨w.heap.size, 1, none⟩ = some (.slice Bp mp dp) := bx2.cell 1
  have g2 : ((w.alloc (.cells #[.bool bp, .slice Bp mp dp] 34)).alloc (.cells #[.bool bq, .slice Bq mq dq] 34)).cell? ⟨w.heap.size + 1, 0, none⟩ = some (.bool bq) := bx3.cell 0
  have e2 : ((w.alloc (.cells #[.bool bp, .slice Bp mp dp] 34)).alloc (.cells #[.bool bq, .slice Bq mq dq] 34)).cell? ⟨w.heap.size + 1, 1, none⟩ = some (.slice Bq mq dq) := bx3.cell 1
  clear bx1 bx2 bx3 bz
  go_wp2_with fail
  generalize (w.alloc (.cells #[.bool bp, .slice Bp mp dp] 34)).alloc (.cells #[.bool bq, .slice Bq mq dq] 34) = W1 at *
  have HZ3 : Hid (Sz (K) (-y).natAbs) := SzI.neg HZq.out
  have C0 := Lib.hid (fun w' (h : Below W1.heap.size W1 w') => ref7_neg (y) bq Bq mq dq w' (HNq.out.below h) (by have := Sz.holds' HZq.out HNq.out.holds; omega))
  have HZ4 : Hid (Sz (K + K + 1) (x + -y).natAbs) := SzI.add HZp.out HZ3.out
  have C1 := Lib.hid (fun w' (h : Below W1.heap.size W1 w') (b3 : Bool) (B3 : Option Addr) (m3 : Nat) (d3 : Nat) (hw3 : RefIn w' (-y) b3 B3 m3 d3) => ref7_add (x) (-y) bp b3 Bp B3 mp m3 dp d3 w' (HNp.out.below h) hw3 (by have := Sz.holds' HZp.out HNp.out.holds; omega) (by have := Sz.holds' HZ3.out hw3.holds; omega) )
  have G0 := Lib.hid (fun w' (h : Below W1.heap.size W1 w') => (⟨keep_cell h g1, keep_cell h e1⟩ : w'.cell? ⟨w.heap.size, 0, none⟩ = some (.bool bp) ∧ w'.cell? ⟨w.heap.size, 1, none⟩ = some (.slice Bp mp dp)))
  have G1 := Lib.hid (fun w' (h : Below W1.heap.size W1 w') => (⟨keep_cell h g2, keep_cell h e2⟩ : w'.cell? ⟨w.heap.size + 1, 0, none⟩ = some (.bool bq) ∧ w'.cell? ⟨w.heap.size + 1, 1, none⟩ = some (.slice Bq mq dq)))
  refine wp_region_noPanic ?_
  refine wp_region_held_drew (S := (fun w' => Below W1.heap.size W1 w')) (by kernel_rfl) ?_ (fun hHeld => ?_)
  · exact (Below.refl _ W1).drew
  refine wpAnyH_take (i := 0) (oi := ?_) (v := ?_) (by simp only [List.getElem?_toArray, List.getElem?_cons_succ, List.getElem?_cons_zero]; rfl) (by kernel_rfl) (by kernel_rfl) (by kernel_rfl) (fun _ _ _ h => h) (Or.inl ⟨by rfl, ?_⟩) (by with_reducible assumption) ?_
  rotate_left
  focus ((intro wz hSw; (try dsimp only at hSw); obtain ⟨z0, z1⟩ := G0.out wz hSw; go_simp); (try with_reducible rfl))
  try simp only [Act.put, List.setIfInBounds_toArray, List.set_cons_zero, List.set_cons_succ]
  refine wpAnyH_take (i := 1) (oi := ?_) (v := ?_) (by simp only [List.getElem?_toArray, List.getElem?_cons_succ, List.getElem?_cons_zero]; rfl) (by kernel_rfl) (by kernel_rfl) (by kernel_rfl) (fun _ _ _ h => h) (Or.inl ⟨by rfl, ?_⟩) (by with_reducible assumption) ?_
  rotate_left
  focus ((intro wz hSw; (try dsimp only at hSw); obtain ⟨z0, z1⟩ := G1.out wz hSw; go_simp); (try with_reducible rfl))
  try simp only [Act.put, List.setIfInBounds_toArray, List.set_cons_zero, List.set_cons_succ]
  refine wpAnyH_meet (L := #[true, true, true, true, true, false])
    (J := fun a0 l a w' => ∃ (fl2 fl3 fl4 : Bool) (vl8 vl9 vl5 : Value) (b3 : Bool) (B3 : Option Addr) (m3 d3 : Nat) (b4 : Bool) (B4 : Option Addr) (m4 d4 ad4 : Nat), l = #[true, true, fl2, fl3, fl4, false] ∧ a = ((a0.put (some 8) vl8).put (some 9) vl9).put (some 5) vl5 ∧ Hid (Below W1.heap.size W1 w') ∧
      Hid (Gd fl2 (vl8 = .agg #[.bool b3, .slice B3 m3 d3] ∧ RefIn w' (-y) b3 B3 m3 d3)) ∧
      Hid (Gd fl3 (vl9 = .agg #[.bool b4, .slice B4 m4 d4] ∧ RefIn w' (x + -y) b4 B4 m4 d4)) ∧
      Hid (Gd fl4 (Made W1.heap.size w' ad4 34 #[.bool false, .slice none 0 0] vl5)) ∧
      Hid (Gd fl3 (fl2 = true)))
    (by rfl) ?_ ?_ ?_ ?_
  · exact ⟨false, false, false, _, _, _, false, none, 0, 0, false, none, 0, 0, 0, by kernel_rfl, by rfl, hHeld, Gd.no, Gd.no, Gd.no, Gd.no⟩
  · rintro l a w' ⟨fl2, fl3, fl4, vl8, vl9, vl5, b3, B3, m3, d3, b4, B4, m4, d4, ad4, rfl, rfl, -⟩ hr
    have xx2 : fl2 = true := by refine all_listed (i := 2) (o := ?_) hr (by simp only [List.getElem?_toArray, List.getElem?_cons_succ, List.getElem?_cons_zero]; rfl) ?_; rfl
    subst xx2
    have xx3 : fl3 = true := by refine all_listed (i := 3) (o := ?_) hr (by simp only [List.getElem?_toArray, List.getElem?_cons_succ, List.getElem?_cons_zero]; rfl) ?_; rfl
    subst xx3
    have xx4 : fl4 = true := by refine all_listed (i := 4) (o := ?_) hr (by simp only [List.getElem?_toArray, List.getElem?_cons_succ, List.getElem?_cons_zero]; rfl) ?_; rfl
    subst xx4
    rfl
  · rintro l a w' i ⟨fl2, fl3, fl4, vl8, vl9, vl5, b3, B3, m3, d3, b4, B4, m4, d4, ad4, rfl, rfl, hBi, qf2, qf3, qf4, qd3_2⟩ hne hi
    have hlt : i < 6 := ready_lt hi
    rcases (show i = 0 ∨ i = 1 ∨ i = 2 ∨ i = 3 ∨ i = 4 ∨ i = 5 by omega) with rfl | rfl | rfl | rfl | rfl | rfl
    · have u : true = false := ready_un hi
      cases u
    · have u : true = false := ready_un hi
      cases u
    · have u : fl2 = false := ready_un hi
      subst u
      refine wpOp_shut (by simp only [List.getElem?_toArray, List.getElem?_cons_succ, List.getElem?_cons_zero]; rfl) (fun K' hK => ?_)
      try simp only [Act.put, List.setIfInBounds_toArray, List.set_cons_zero, List.set_cons_succ]
      go_simp
      refine (C0.out w' hBi.out).mono ?_
      rintro e w2 ⟨nb3, nB3, nm3, nd3, rfl, nhw3, hb⟩
      exact hK.out _ _ ⟨keep_below hBi.out hb, true, fl3, fl4, _, vl9, vl5, nb3, nB3, nm3, nd3, b4, B4, m4, d4, ad4, by rfl, by rfl, keep_below hBi.out hb, Gd.yes ⟨rfl, nhw3⟩, qf3.out.mono fun h => ⟨h.1, h.2.below hb⟩, qf4.out.mono fun h => h.keep hb, fun _ => rfl⟩
    · have u : fl3 = false := ready_un hi
      subst u
      have yy2 : fl2 = true := by refine ready_dep (k := 1) (o := ?_) hi (by simp only [List.getElem?_toArray, List.getElem?_cons_succ, List.getElem?_cons_zero]; rfl) rfl rfl
      subst yy2
      obtain ⟨rfl, hw3⟩ := qf2.out.get
      refine wpOp_shut (by simp only [List.getElem?_toArray, List.getElem?_cons_succ, List.getElem?_cons_zero]; rfl) (fun K' hK => ?_)
      try simp only [Act.put, List.setIfInBounds_toArray, List.set_cons_zero, List.set_cons_succ]
      go_simp
      refine (C1.out w' hBi.out _ _ _ _ hw3).mono ?_
      rintro e w2 ⟨nb4, nB4, nm4, nd4, rfl, nhw4, hb⟩
      exact hK.out _ _ ⟨keep_below hBi.out hb, true, true, fl4, _, _, vl5, b3, B3, m3, d3, nb4, nB4, nm4, nd4, ad4, by rfl, by rfl, keep_below hBi.out hb, Gd.yes ⟨rfl, hw3.below hb⟩, Gd.yes ⟨rfl, nhw4⟩, qf4.out.mono fun h => h.keep hb, Gd.yes rfl⟩
    · have u : fl4 = false := ready_un hi
      subst u
      refine wpOp_shut (by simp only [List.getElem?_toArray, List.getElem?_cons_succ, List.getElem?_cons_zero]; rfl) (fun K' hK => ?_)
      try simp only [Act.put, List.setIfInBounds_toArray, List.set_cons_zero, List.set_cons_succ]
      go_simp
      have hb := up_alloc w' (.cells #[.bool false, .slice none 0 0] 34)
      exact hK.out _ _ ⟨keep_below hBi.out hb, fl2, fl3, true, vl8, vl9, _, b3, B3, m3, d3, b4, B4, m4, d4, _, by rfl, by rfl, keep_below hBi.out hb, qf2.out.mono fun h => ⟨h.1, h.2.below hb⟩, qf3.out.mono fun h => ⟨h.1, h.2.below hb⟩, Gd.yes (Made.new _ _ _ _ hBi.out.size), qd3_2⟩
    · have yy2 : fl2 = true := by refine ready_dep (k := 5) (o := ?_) hi (by simp only [List.getElem?_toArray, List.getElem?_cons_succ, List.getElem?_cons_zero]; rfl) rfl rfl
      subst yy2
      have yy3 : fl3 = true := by refine ready_dep (k := 1) (o := ?_) hi (by simp only [List.getElem?_toArray, List.getElem?_cons_succ, List.getElem?_cons_zero]; rfl) rfl rfl
      subst yy3
      have yy4 : fl4 = true := by refine ready_dep (k := 0) (o := ?_) hi (by simp only [List.getElem?_toArray, List.getElem?_cons_succ, List.getElem?_cons_zero]; rfl) rfl rfl
      subst yy4
      exact absurd rfl hne
  rintro a wm2 ⟨fl2, fl3, fl4, vl8, vl9, vl5, b3, B3, m3, d3, b4, B4, m4, d4, ad4, hl, rfl, hBi, qf2, qf3, qf4, qd3_2⟩
  have xx2 : fl2 = true := by have h := congrArg (fun l : Array Bool => l.getD 2 false) hl; exact h.symm
  subst xx2
  have xx3 : fl3 = true := by have h := congrArg (fun l : Array Bool => l.getD 3 false) hl; exact h.symm
  subst xx3
  have xx4 : fl4 = true := by have h := congrArg (fun l : Array Bool => l.getD 4 false) hl; exact h.symm
  subst xx4
  obtain ⟨rfl, hw3⟩ := qf2.out.get
  obtain ⟨rfl, hw4⟩ := qf3.out.get
  obtain ⟨rfl, hg4, hk4⟩ := qf4.out.get
  have hBv := hBi.out
  clear hl hBi qf2 qf3 qf4 qd3_2
  have hk4 : Blk wm2 ad4 34 #[.bool false, .slice none 0 0] := hk4
  rw [show due #[true, true, true, true, true, false] = 1 from rfl]
  try simp only [Act.put, List.setIfInBounds_toArray, List.set_cons_zero, List.set_cons_succ]
  refine wpAnyH_ready (rs := [5]) (by kernel_rfl) (by simp) ?_
  refine AllReadyH.cons (o := ?_) (by simp only [List.getElem?_toArray, List.getElem?_cons_succ, List.getElem?_cons_zero]; rfl) (fun K hK => ?_) AllReadyH.nil
  have sc0 : (wm2).cell? ⟨ad4, 0, none⟩ = some (.bool false) := hk4.cell 0
  have sf0 : (wm2).frozen? ⟨ad4, 0, none⟩ = false := hk4.frozen 0
  have hj0 : Blk (wm2.setCell ⟨ad4, 0, none⟩ (.bool b4)) ad4 34 #[.bool b4, .slice none 0 0] := hk4.set_ 0 (.bool b4)
  have sc1 : (wm2.setCell ⟨ad4, 0, none⟩ (.bool b4)).cell? ⟨ad4, 1, none⟩ = some (.slice none 0 0) := hj0.cell 1
  have sf1 : (wm2.setCell ⟨ad4, 0, none⟩ (.bool b4)).frozen? ⟨ad4, 1, none⟩ = false := hj0.frozen 1
  have hj1 : Blk ((wm2.setCell ⟨ad4, 0, none⟩ (.bool b4)).setCell ⟨ad4, 1, none⟩ (.slice B4 m4 d4)) ad4 34 #[.bool b4, .slice B4 m4 d4] := hj0.set_ 1 (.slice B4 m4 d4)
  go_simp
  have hBv := keep_below_set (p := ⟨ad4, 1, none⟩) (.slice B4 m4 d4) hg4 (keep_below_set (p := ⟨ad4, 0, none⟩) (.bool b4) hg4 (hBv))
  have hw3 := ref_set2 hw3 hk4 b4 B4 m4 d4
  have hw4 := ref_set2 hw4 hk4 b4 B4 m4 d4
  have hk4 := hj1
  clear sc0 sf0 sc1 sf1 hj0 hj1
  refine hK.out _ _ ?_ (fun hHeld => ?_)
  · ((try dsimp only); exact hBv)
  clear hK K hHeld
  try simp only [Act.put, List.setIfInBounds_toArray, List.set_cons_zero, List.set_cons_succ]
  generalize (wm2.setCell ⟨ad4, 0, none⟩ (.bool b4)).setCell ⟨ad4, 1, none⟩ (.slice B4 m4 d4) = wm3 at *
  refine wpAnyH_done (by kernel_rfl) ?_ _
  refine NoPanic.normal ?_
  have hB := keep_below hB hBv
  have HNp := Lib.hid (HNp.out.below hBv)
  have HNq := Lib.hid (HNq.out.below hBv)
  have g1 := keep_cell hBv g1
  have e1 := keep_cell hBv e1
  have g2 := keep_cell hBv g2
  have e2 := keep_cell hBv e2
  obtain ⟨ad4_5, hga⟩ : ∃ x, x = ad4 := ⟨_, rfl⟩
  subst hga
  have g5 : wm3.cell? ⟨ad4_5, 0, none⟩ = some (.bool b4) := hk4.cell 0
  have e5 : wm3.cell? ⟨ad4_5, 1, none⟩ = some (.slice B4 m4 d4) := hk4.cell 1
  have HN3 := Lib.hid hw3
  have HN4 := Lib.hid hw4
  clear hBv hk4 hg4 hw3 hw4 G0 G1
  clear C0 C1
  obtain rfl : b4 = true := HN4.out.1.trans (decide_eq_true (by have := Hh.out; omega))
  go_wp2
  go_ret
  exact ⟨by first | rfl | simp, hB⟩
set_option maxHeartbeats 16000000 in
theorem ref7_cmp_eq (x y : Int) (bp bq : Bool) (Bp Bq : Option Addr) (mp mq dp dq : Nat) (K : Nat) (hKK : K ≤ 16777216) (w : World) (sx : Sz K x.natAbs) (sy : Sz K y.natAbs) (hp : RefIn w x bp Bp mp dp) (hq : RefIn w y bq Bq mq dq) (h : x = y) :
    Calls Try.prog 23 #[.agg #[.bool bp, .slice Bp mp dp], .agg #[.bool bq, .slice Bq mq dq]] w fun e w' => e = .returned (.int .i64 0) ∧ Below w.heap.size w w' := by
  have HNp := Lib.hid hp
  have HNq := Lib.hid hq
  have HZp := Lib.hid sx
  have HZq := Lib.hid sy
  have Hh := Lib.hid h
  clear hp hq sx sy h
  go_enter Try.func23, Try.ntmps23
  have hB := Below.refl w.heap.size w
  obtain ⟨bx1, bx2, bx3, bz⟩ := box2 w 34 34 #[.bool bp, .slice Bp mp dp] #[.bool bq, .slice Bq mq dq]
  have hB := keep_below hB bx1
  have HNp := Lib.hid (HNp.out.below bx1)
  have HNq := Lib.hid (HNq.out.below bx1)
  have g1 : ((w.alloc (.cells #[.bool bp, .slice Bp mp dp] 34)).alloc (.cells #[.bool bq, .slice Bq mq dq] 34)).cell? ⟨w.heap.size, 0, none⟩ = some (.bool bp) := bx2.cell 0
  have e1 : ((w.alloc (.cells #[.bool bp, .slice Bp mp dp] 34)).alloc (.cells #[.bool bq, .slice Bq mq dq] 34)).cell? ⟨w.heap.size, 1, none⟩ = some (.slice Bp mp dp) := bx2.cell 1
  have g2 : ((w.alloc (.cells #[.bool bp, .slice Bp mp dp] 34)).alloc (.cells #[.bool bq, .slice Bq mq dq] 34)).cell? ⟨w.heap.size + 1, 0, none⟩ = some (.bool bq) := bx3.cell 0
  have e2 : ((w.alloc (.cells #[.bool bp, .slice Bp mp dp] 34)).alloc (.cells #[.bool bq, .slice Bq mq dq] 34)).cell? ⟨w.heap.size + 1, 1, none⟩ = some (.slice Bq mq dq) := bx3.cell 1
  clear bx1 bx2 bx3 bz
  go_wp2_with fail
  generalize (w.alloc (.cells #[.bool bp, .slice Bp mp dp] 34)).alloc (.cells #[.bool bq, .slice Bq mq dq] 34) = W1 at *
  have HZ3 : Hid (Sz (K) (-y).natAbs) := SzI.neg HZq.out
  have C0 := Lib.hid (fun w' (h : Below W1.heap.size W1 w') => ref7_neg (y) bq Bq mq dq w' (HNq.out.below h) (by have := Sz.holds' HZq.out HNq.out.holds; omega))
  have HZ4 : Hid (Sz (K + K + 1) (x + -y).natAbs) := SzI.add HZp.out HZ3.out
  have C1 := Lib.hid (fun w' (h : Below W1.heap.size W1 w') (b3 : Bool) (B3 : Option Addr) (m3 : Nat) (d3 : Nat) (hw3 : RefIn w' (-y) b3 B3 m3 d3) => ref7_add (x) (-y) bp b3 Bp B3 mp m3 dp d3 w' (HNp.out.below h) hw3 (by have := Sz.holds' HZp.out HNp.out.holds; omega) (by have := Sz.holds' HZ3.out hw3.holds; omega) )
  have G0 := Lib.hid (fun w' (h : Below W1.heap.size W1 w') => (⟨keep_cell h g1, keep_cell h e1⟩ : w'.cell? ⟨w.heap.size, 0, none⟩ = some (.bool bp) ∧ w'.cell? ⟨w.heap.size, 1, none⟩ = some (.slice Bp mp dp)))
  have G1 := Lib.hid (fun w' (h : Below W1.heap.size W1 w') => (⟨keep_cell h g2, keep_cell h e2⟩ : w'.cell? ⟨w.heap.size + 1, 0, none⟩ = some (.bool bq) ∧ w'.cell? ⟨w.heap.size + 1, 1, none⟩ = some (.slice Bq mq dq)))
  refine wp_region_noPanic ?_
  refine wp_region_held_drew (S := (fun w' => Below W1.heap.size W1 w')) (by kernel_rfl) ?_ (fun hHeld => ?_)
  · exact (Below.refl _ W1).drew
  refine wpAnyH_take (i := 0) (oi := ?_) (v := ?_) (by simp only [List.getElem?_toArray, List.getElem?_cons_succ, List.getElem?_cons_zero]; rfl) (by kernel_rfl) (by kernel_rfl) (by kernel_rfl) (fun _ _ _ h => h) (Or.inl ⟨by rfl, ?_⟩) (by with_reducible assumption) ?_
  rotate_left
  focus ((intro wz hSw; (try dsimp only at hSw); obtain ⟨z0, z1⟩ := G0.out wz hSw; go_simp); (try with_reducible rfl))
  try simp only [Act.put, List.setIfInBounds_toArray, List.set_cons_zero, List.set_cons_succ]
  refine wpAnyH_take (i := 1) (oi := ?_) (v := ?_) (by simp only [List.getElem?_toArray, List.getElem?_cons_succ, List.getElem?_cons_zero]; rfl) (by kernel_rfl) (by kernel_rfl) (by kernel_rfl) (fun _ _ _ h => h) (Or.inl ⟨by rfl, ?_⟩) (by with_reducible assumption) ?_
  rotate_left
  focus ((intro wz hSw; (try dsimp only at hSw); obtain ⟨z0, z1⟩ := G1.out wz hSw; go_simp); (try with_reducible rfl))
  try simp only [Act.put, List.setIfInBounds_toArray, List.set_cons_zero, List.set_cons_succ]
  refine wpAnyH_meet (L := #[true, true, true, true, true, false])
    (J := fun a0 l a w' => ∃ (fl2 fl3 fl4 : Bool) (vl8 vl9 vl5 : Value) (b3 : Bool) (B3 : Option Addr) (m3 d3 : Nat) (b4 : Bool) (B4 : Option Addr) (m4 d4 ad4 : Nat), l = #[true, true, fl2, fl3, fl4, false] ∧ a = ((a0.put (some 8) vl8).put (some 9) vl9).put (some 5) vl5 ∧ Hid (Below W1.heap.size W1 w') ∧
      Hid (Gd fl2 (vl8 = .agg #[.bool b3, .slice B3 m3 d3] ∧ RefIn w' (-y) b3 B3 m3 d3)) ∧
      Hid (Gd fl3 (vl9 = .agg #[.bool b4, .slice B4 m4 d4] ∧ RefIn w' (x + -y) b4 B4 m4 d4)) ∧
      Hid (Gd fl4 (Made W1.heap.size w' ad4 34 #[.bool false, .slice none 0 0] vl5)) ∧
      Hid (Gd fl3 (fl2 = true)))
    (by rfl) ?_ ?_ ?_ ?_
  · exact ⟨false, false, false, _, _, _, false, none, 0, 0, false, none, 0, 0, 0, by kernel_rfl, by rfl, hHeld, Gd.no, Gd.no, Gd.no, Gd.no⟩
  · rintro l a w' ⟨fl2, fl3, fl4, vl8, vl9, vl5, b3, B3, m3, d3, b4, B4, m4, d4, ad4, rfl, rfl, -⟩ hr
    have xx2 : fl2 = true := by refine all_listed (i := 2) (o := ?_) hr (by simp only [List.getElem?_toArray, List.getElem?_cons_succ, List.getElem?_cons_zero]; rfl) ?_; rfl
    subst xx2
    have xx3 : fl3 = true := by refine all_listed (i := 3) (o := ?_) hr (by simp only [List.getElem?_toArray, List.getElem?_cons_succ, List.getElem?_cons_zero]; rfl) ?_; rfl
    subst xx3
    have xx4 : fl4 = true := by refine all_listed (i := 4) (o := ?_) hr (by simp only [List.getElem?_toArray, List.getElem?_cons_succ, List.getElem?_cons_zero]; rfl) ?_; rfl
    subst xx4
    rfl
  · rintro l a w' i ⟨fl2, fl3, fl4, vl8, vl9, vl5, b3, B3, m3, d3, b4, B4, m4, d4, ad4, rfl, rfl, hBi, qf2, qf3, qf4, qd3_2⟩ hne hi
    have hlt : i < 6 := ready_lt hi
    rcases (show i = 0 ∨ i = 1 ∨ i = 2 ∨ i = 3 ∨ i = 4 ∨ i = 5 by omega) with rfl | rfl | rfl | rfl | rfl | rfl
    · have u : true = false := ready_un hi
      cases u
    · have u : true = false := ready_un hi
      cases u
    · have u : fl2 = false := ready_un hi
      subst u
      refine wpOp_shut (by simp only [List.getElem?_toArray, List.getElem?_cons_succ, List.getElem?_cons_zero]; rfl) (fun K' hK => ?_)
      try simp only [Act.put, List.setIfInBounds_toArray, List.set_cons_zero, List.set_cons_succ]
      go_simp
      refine (C0.out w' hBi.out).mono ?_
      rintro e w2 ⟨nb3, nB3, nm3, nd3, rfl, nhw3, hb⟩
      exact hK.out _ _ ⟨keep_below hBi.out hb, true, fl3, fl4, _, vl9, vl5, nb3, nB3, nm3, nd3, b4, B4, m4, d4, ad4, by rfl, by rfl, keep_below hBi.out hb, Gd.yes ⟨rfl, nhw3⟩, qf3.out.mono fun h => ⟨h.1, h.2.below hb⟩, qf4.out.mono fun h => h.keep hb, fun _ => rfl⟩
    · have u : fl3 = false := ready_un hi
      subst u
      have yy2 : fl2 = true := by refine ready_dep (k := 1) (o := ?_) hi (by simp only [List.getElem?_toArray, List.getElem?_cons_succ, List.getElem?_cons_zero]; rfl) rfl rfl
      subst yy2
      obtain ⟨rfl, hw3⟩ := qf2.out.get
      refine wpOp_shut (by simp only [List.getElem?_toArray, List.getElem?_cons_succ, List.getElem?_cons_zero]; rfl) (fun K' hK => ?_)
      try simp only [Act.put, List.setIfInBounds_toArray, List.set_cons_zero, List.set_cons_succ]
      go_simp
      refine (C1.out w' hBi.out _ _ _ _ hw3).mono ?_
      rintro e w2 ⟨nb4, nB4, nm4, nd4, rfl, nhw4, hb⟩
      exact hK.out _ _ ⟨keep_below hBi.out hb, true, true, fl4, _, _, vl5, b3, B3, m3, d3, nb4, nB4, nm4, nd4, ad4, by rfl, by rfl, keep_below hBi.out hb, Gd.yes ⟨rfl, hw3.below hb⟩, Gd.yes ⟨rfl, nhw4⟩, qf4.out.mono fun h => h.keep hb, Gd.yes rfl⟩
    · have u : fl4 = false := ready_un hi
      subst u
      refine wpOp_shut (by simp only [List.getElem?_toArray, List.getElem?_cons_succ, List.getElem?_cons_zero]; rfl) (fun K' hK => ?_)
      try simp only [Act.put, List.setIfInBounds_toArray, List.set_cons_zero, List.set_cons_succ]
      go_simp
      have hb := up_alloc w' (.cells #[.bool false, .slice none 0 0] 34)
      exact hK.out _ _ ⟨keep_below hBi.out hb, fl2, fl3, true, vl8, vl9, _, b3, B3, m3, d3, b4, B4, m4, d4, _, by rfl, by rfl, keep_below hBi.out hb, qf2.out.mono fun h => ⟨h.1, h.2.below hb⟩, qf3.out.mono fun h => ⟨h.1, h.2.below hb⟩, Gd.yes (Made.new _ _ _ _ hBi.out.size), qd3_2⟩
    · have yy2 : fl2 = true := by refine ready_dep (k := 5) (o := ?_) hi (by simp only [List.getElem?_toArray, List.getElem?_cons_succ, List.getElem?_cons_zero]; rfl) rfl rfl
      subst yy2
      have yy3 : fl3 = true := by refine ready_dep (k := 1) (o := ?_) hi (by simp only [List.getElem?_toArray, List.getElem?_cons_succ, List.getElem?_cons_zero]; rfl) rfl rfl
      subst yy3
      have yy4 : fl4 = true := by refine ready_dep (k := 0) (o := ?_) hi (by simp only [List.getElem?_toArray, List.getElem?_cons_succ, List.getElem?_cons_zero]; rfl) rfl rfl
      subst yy4
      exact absurd rfl hne
  rintro a wm2 ⟨fl2, fl3, fl4, vl8, vl9, vl5, b3, B3, m3, d3, b4, B4, m4, d4, ad4, hl, rfl, hBi, qf2, qf3, qf4, qd3_2⟩
  have xx2 : fl2 = true := by have h := congrArg (fun l : Array Bool => l.getD 2 false) hl; exact h.symm
  subst xx2
  have xx3 : fl3 = true := by have h := congrArg (fun l : Array Bool => l.getD 3 false) hl; exact h.symm
  subst xx3
  have xx4 : fl4 = true := by have h := congrArg (fun l : Array Bool => l.getD 4 false) hl; exact h.symm
  subst xx4
  obtain ⟨rfl, hw3⟩ := qf2.out.get
  obtain ⟨rfl, hw4⟩ := qf3.out.get
  obtain ⟨rfl, hg4, hk4⟩ := qf4.out.get
  have hBv := hBi.out
  clear hl hBi qf2 qf3 qf4 qd3_2
  have hk4 : Blk wm2 ad4 34 #[.bool false, .slice none 0 0] := hk4
  rw [show due #[true, true, true, true, true, false] = 1 from rfl]
  try simp only [Act.put, List.setIfInBounds_toArray, List.set_cons_zero, List.set_cons_succ]
  refine wpAnyH_ready (rs := [5]) (by kernel_rfl) (by simp) ?_
  refine AllReadyH.cons (o := ?_) (by simp only [List.getElem?_toArray, List.getElem?_cons_succ, List.getElem?_cons_zero]; rfl) (fun K hK => ?_) AllReadyH.nil
  have sc0 : (wm2).cell? ⟨ad4, 0, none⟩ = some (.bool false) := hk4.cell 0
  have sf0 : (wm2).frozen? ⟨ad4, 0, none⟩ = false := hk4.frozen 0
  have hj0 : Blk (wm2.setCell ⟨ad4, 0, none⟩ (.bool b4)) ad4 34 #[.bool b4, .slice none 0 0] := hk4.set_ 0 (.bool b4)
  have sc1 : (wm2.setCell ⟨ad4, 0, none⟩ (.bool b4)).cell? ⟨ad4, 1, none⟩ = some (.slice none 0 0) := hj0.cell 1
  have sf1 : (wm2.setCell ⟨ad4, 0, none⟩ (.bool b4)).frozen? ⟨ad4, 1, none⟩ = false := hj0.frozen 1
  have hj1 : Blk ((wm2.setCell ⟨ad4, 0, none⟩ (.bool b4)).setCell ⟨ad4, 1, none⟩ (.slice B4 m4 d4)) ad4 34 #[.bool b4, .slice B4 m4 d4] := hj0.set_ 1 (.slice B4 m4 d4)
  go_simp
  have hBv := keep_below_set (p := ⟨ad4, 1, none⟩) (.slice B4 m4 d4) hg4 (keep_below_set (p := ⟨ad4, 0, none⟩) (.bool b4) hg4 (hBv))
  have hw3 := ref_set2 hw3 hk4 b4 B4 m4 d4
  have hw4 := ref_set2 hw4 hk4 b4 B4 m4 d4
  have hk4 := hj1
  clear sc0 sf0 sc1 sf1 hj0 hj1
  refine hK.out _ _ ?_ (fun hHeld => ?_)
  · ((try dsimp only); exact hBv)
  clear hK K hHeld
  try simp only [Act.put, List.setIfInBounds_toArray, List.set_cons_zero, List.set_cons_succ]
  generalize (wm2.setCell ⟨ad4, 0, none⟩ (.bool b4)).setCell ⟨ad4, 1, none⟩ (.slice B4 m4 d4) = wm3 at *
  refine wpAnyH_done (by kernel_rfl) ?_ _
  refine NoPanic.normal ?_
  have hB := keep_below hB hBv
  have HNp := Lib.hid (HNp.out.below hBv)
  have HNq := Lib.hid (HNq.out.below hBv)
  have g1 := keep_cell hBv g1
  have e1 := keep_cell hBv e1
  have g2 := keep_cell hBv g2
  have e2 := keep_cell hBv e2
  obtain ⟨ad4_5, hga⟩ : ∃ x, x = ad4 := ⟨_, rfl⟩
  subst hga
  have g5 : wm3.cell? ⟨ad4_5, 0, none⟩ = some (.bool b4) := hk4.cell 0
  have e5 : wm3.cell? ⟨ad4_5, 1, none⟩ = some (.slice B4 m4 d4) := hk4.cell 1
  have HN3 := Lib.hid hw3
  have HN4 := Lib.hid hw4
  clear hBv hk4 hg4 hw3 hw4 G0 G1
  clear C0 C1
  obtain rfl : b4 = false := HN4.out.1.trans (decide_eq_false (by have := Hh.out; omega))
  have hq4 := h16_zero HN4.out.2 (by have := Hh.out; omega)
  have hr4 : ((m4 : Int) == 0) = true := by rw [beq_iff_eq]; omega
  clear hq4
  go_wp2
  go_ret
  exact ⟨by first | rfl | simp, hB⟩
set_option maxHeartbeats 16000000 in
theorem ref7_cmp_gt (x y : Int) (bp bq : Bool) (Bp Bq : Option Addr) (mp mq dp dq : Nat) (K : Nat) (hKK : K ≤ 16777216) (w : World) (sx : Sz K x.natAbs) (sy : Sz K y.natAbs) (hp : RefIn w x bp Bp mp dp) (hq : RefIn w y bq Bq mq dq) (h : y < x) :
    Calls Try.prog 23 #[.agg #[.bool bp, .slice Bp mp dp], .agg #[.bool bq, .slice Bq mq dq]] w fun e w' => e = .returned (.int .i64 1) ∧ Below w.heap.size w w' := by
  have HNp := Lib.hid hp
  have HNq := Lib.hid hq
  have HZp := Lib.hid sx
  have HZq := Lib.hid sy
  have Hh := Lib.hid h
  clear hp hq sx sy h
  go_enter Try.func23, Try.ntmps23
  have hB := Below.refl w.heap.size w
  obtain ⟨bx1, bx2, bx3, bz⟩ := box2 w 34 34 #[.bool bp, .slice Bp mp dp] #[.bool bq, .slice Bq mq dq]
  have hB := keep_below hB bx1
  have HNp := Lib.hid (HNp.out.below bx1)
  have HNq := Lib.hid (HNq.out.below bx1)
  have g1 : ((w.alloc (.cells #[.bool bp, .slice Bp mp dp] 34)).alloc (.cells #[.bool bq, .slice Bq mq dq] 34)).cell? ⟨w.heap.size, 0, none⟩ = some (.bool bp) := bx2.cell 0
  have e1 : ((w.alloc (.cells #[.bool bp, .slice Bp mp dp] 34)).alloc (.cells #[.bool bq, .slice Bq mq dq] 34)).cell? ⟨w.heap.size, 1, none⟩ = some (.slice Bp mp dp) := bx2.cell 1
  have g2 : ((w.alloc (.cells #[.bool bp, .slice Bp mp dp] 34)).alloc (.cells #[.bool bq, .slice Bq mq dq] 34)).cell? ⟨w.heap.size + 1, 0, none⟩ = some (.bool bq) := bx3.cell 0
  have e2 : ((w.alloc (.cells #[.bool bp, .slice Bp mp dp] 34)).alloc (.cells #[.bool bq, .slice Bq mq dq] 34)).cell? ⟨w.heap.size + 1, 1, none⟩ = some (.slice Bq mq dq) := bx3.cell 1
  clear bx1 bx2 bx3 bz
  go_wp2_with fail
  generalize (w.alloc (.cells #[.bool bp, .slice Bp mp dp] 34)).alloc (.cells #[.bool bq, .slice Bq mq dq] 34) = W1 at *
  have HZ3 : Hid (Sz (K) (-y).natAbs) := SzI.neg HZq.out
  have C0 := Lib.hid (fun w' (h : Below W1.heap.size W1 w') => ref7_neg (y) bq Bq mq dq w' (HNq.out.below h) (by have := Sz.holds' HZq.out HNq.out.holds; omega))
  have HZ4 : Hid (Sz (K + K + 1) (x + -y).natAbs) := SzI.add HZp.out HZ3.out
  have C1 := Lib.hid (fun w' (h : Below W1.heap.size W1 w') (b3 : Bool) (B3 : Option Addr) (m3 : Nat) (d3 : Nat) (hw3 : RefIn w' (-y) b3 B3 m3 d3) => ref7_add (x) (-y) bp b3 Bp B3 mp m3 dp d3 w' (HNp.out.below h) hw3 (by have := Sz.holds' HZp.out HNp.out.holds; omega) (by have := Sz.holds' HZ3.out hw3.holds; omega) )
  have G0 := Lib.hid (fun w' (h : Below W1.heap.size W1 w') => (⟨keep_cell h g1, keep_cell h e1⟩ : w'.cell? ⟨w.heap.size, 0, none⟩ = some (.bool bp) ∧ w'.cell? ⟨w.heap.size, 1, none⟩ = some (.slice Bp mp dp)))
  have G1 := Lib.hid (fun w' (h : Below W1.heap.size W1 w') => (⟨keep_cell h g2, keep_cell h e2⟩ : w'.cell? ⟨w.heap.size + 1, 0, none⟩ = some (.bool bq) ∧ w'.cell? ⟨w.heap.size + 1, 1, none⟩ = some (.slice Bq mq dq)))
  refine wp_region_noPanic ?_
  refine wp_region_held_drew (S := (fun w' => Below W1.heap.size W1 w')) (by kernel_rfl) ?_ (fun hHeld => ?_)
  · exact (Below.refl _ W1).drew
  refine wpAnyH_take (i := 0) (oi := ?_) (v := ?_) (by simp only [List.getElem?_toArray, List.getElem?_cons_succ, List.getElem?_cons_zero]; rfl) (by kernel_rfl) (by kernel_rfl) (by kernel_rfl) (fun _ _ _ h => h) (Or.inl ⟨by rfl, ?_⟩) (by with_reducible assumption) ?_
  rotate_left
  focus ((intro wz hSw; (try dsimp only at hSw); obtain ⟨z0, z1⟩ := G0.out wz hSw; go_simp); (try with_reducible rfl))
  try simp only [Act.put, List.setIfInBounds_toArray, List.set_cons_zero, List.set_cons_succ]
  refine wpAnyH_take (i := 1) (oi := ?_) (v := ?_) (by simp only [List.getElem?_toArray, List.getElem?_cons_succ, List.getElem?_cons_zero]; rfl) (by kernel_rfl) (by kernel_rfl) (by kernel_rfl) (fun _ _ _ h => h) (Or.inl ⟨by rfl, ?_⟩) (by with_reducible assumption) ?_
  rotate_left
  focus ((intro wz hSw; (try dsimp only at hSw); obtain ⟨z0, z1⟩ := G1.out wz hSw; go_simp); (try with_reducible rfl))
  try simp only [Act.put, List.setIfInBounds_toArray, List.set_cons_zero, List.set_cons_succ]
  refine wpAnyH_meet (L := #[true, true, true, true, true, false])
    (J := fun a0 l a w' => ∃ (fl2 fl3 fl4 : Bool) (vl8 vl9 vl5 : Value) (b3 : Bool) (B3 : Option Addr) (m3 d3 : Nat) (b4 : Bool) (B4 : Option Addr) (m4 d4 ad4 : Nat), l = #[true, true, fl2, fl3, fl4, false] ∧ a = ((a0.put (some 8) vl8).put (some 9) vl9).put (some 5) vl5 ∧ Hid (Below W1.heap.size W1 w') ∧
      Hid (Gd fl2 (vl8 = .agg #[.bool b3, .slice B3 m3 d3] ∧ RefIn w' (-y) b3 B3 m3 d3)) ∧
      Hid (Gd fl3 (vl9 = .agg #[.bool b4, .slice B4 m4 d4] ∧ RefIn w' (x + -y) b4 B4 m4 d4)) ∧
      Hid (Gd fl4 (Made W1.heap.size w' ad4 34 #[.bool false, .slice none 0 0] vl5)) ∧
      Hid (Gd fl3 (fl2 = true)))
    (by rfl) ?_ ?_ ?_ ?_
  · exact ⟨false, false, false, _, _, _, false, none, 0, 0, false, none, 0, 0, 0, by kernel_rfl, by rfl, hHeld, Gd.no, Gd.no, Gd.no, Gd.no⟩
  · rintro l a w' ⟨fl2, fl3, fl4, vl8, vl9, vl5, b3, B3, m3, d3, b4, B4, m4, d4, ad4, rfl, rfl, -⟩ hr
    have xx2 : fl2 = true := by refine all_listed (i := 2) (o := ?_) hr (by simp only [List.getElem?_toArray, List.getElem?_cons_succ, List.getElem?_cons_zero]; rfl) ?_; rfl
    subst xx2
    have xx3 : fl3 = true := by refine all_listed (i := 3) (o := ?_) hr (by simp only [List.getElem?_toArray, List.getElem?_cons_succ, List.getElem?_cons_zero]; rfl) ?_; rfl
    subst xx3
    have xx4 : fl4 = true := by refine all_listed (i := 4) (o := ?_) hr (by simp only [List.getElem?_toArray, List.getElem?_cons_succ, List.getElem?_cons_zero]; rfl) ?_; rfl
    subst xx4
    rfl
  · rintro l a w' i ⟨fl2, fl3, fl4, vl8, vl9, vl5, b3, B3, m3, d3, b4, B4, m4, d4, ad4, rfl, rfl, hBi, qf2, qf3, qf4, qd3_2⟩ hne hi
    have hlt : i < 6 := ready_lt hi
    rcases (show i = 0 ∨ i = 1 ∨ i = 2 ∨ i = 3 ∨ i = 4 ∨ i = 5 by omega) with rfl | rfl | rfl | rfl | rfl | rfl
    · have u : true = false := ready_un hi
      cases u
    · have u : true = false := ready_un hi
      cases u
    · have u : fl2 = false := ready_un hi
      subst u
      refine wpOp_shut (by simp only [List.getElem?_toArray, List.getElem?_cons_succ, List.getElem?_cons_zero]; rfl) (fun K' hK => ?_)
      try simp only [Act.put, List.setIfInBounds_toArray, List.set_cons_zero, List.set_cons_succ]
      go_simp
      refine (C0.out w' hBi.out).mono ?_
      rintro e w2 ⟨nb3, nB3, nm3, nd3, rfl, nhw3, hb⟩
      exact hK.out _ _ ⟨keep_below hBi.out hb, true, fl3, fl4, _, vl9, vl5, nb3, nB3, nm3, nd3, b4, B4, m4, d4, ad4, by rfl, by rfl, keep_below hBi.out hb, Gd.yes ⟨rfl, nhw3⟩, qf3.out.mono fun h => ⟨h.1, h.2.below hb⟩, qf4.out.mono fun h => h.keep hb, fun _ => rfl⟩
    · have u : fl3 = false := ready_un hi
      subst u
      have yy2 : fl2 = true := by refine ready_dep (k := 1) (o := ?_) hi (by simp only [List.getElem?_toArray, List.getElem?_cons_succ, List.getElem?_cons_zero]; rfl) rfl rfl
      subst yy2
      obtain ⟨rfl, hw3⟩ := qf2.out.get
      refine wpOp_shut (by simp only [List.getElem?_toArray, List.getElem?_cons_succ, List.getElem?_cons_zero]; rfl) (fun K' hK => ?_)
      try simp only [Act.put, List.setIfInBounds_toArray, List.set_cons_zero, List.set_cons_succ]
      go_simp
      refine (C1.out w' hBi.out _ _ _ _ hw3).mono ?_
      rintro e w2 ⟨nb4, nB4, nm4, nd4, rfl, nhw4, hb⟩
      exact hK.out _ _ ⟨keep_below hBi.out hb, true, true, fl4, _, _, vl5, b3, B3, m3, d3, nb4, nB4, nm4, nd4, ad4, by rfl, by rfl, keep_below hBi.out hb, Gd.yes ⟨rfl, hw3.below hb⟩, Gd.yes ⟨rfl, nhw4⟩, qf4.out.mono fun h => h.keep hb, Gd.yes rfl⟩
    · have u : fl4 = false := ready_un hi
      subst u
      refine wpOp_shut (by simp only [List.getElem?_toArray, List.getElem?_cons_succ, List.getElem?_cons_zero]; rfl) (fun K' hK => ?_)
      try simp only [Act.put, List.setIfInBounds_toArray, List.set_cons_zero, List.set_cons_succ]
      go_simp
      have hb := up_alloc w' (.cells #[.bool false, .slice none 0 0] 34)
      exact hK.out _ _ ⟨keep_below hBi.out hb, fl2, fl3, true, vl8, vl9, _, b3, B3, m3, d3, b4, B4, m4, d4, _, by rfl, by rfl, keep_below hBi.out hb, qf2.out.mono fun h => ⟨h.1, h.2.below hb⟩, qf3.out.mono fun h => ⟨h.1, h.2.below hb⟩, Gd.yes (Made.new _ _ _ _ hBi.out.size), qd3_2⟩
    · have yy2 : fl2 = true := by refine ready_dep (k := 5) (o := ?_) hi (by simp only [List.getElem?_toArray, List.getElem?_cons_succ, List.getElem?_cons_zero]; rfl) rfl rfl
      subst yy2
      have yy3 : fl3 = true := by refine ready_dep (k := 1) (o := ?_) hi (by simp only [List.getElem?_toArray, List.getElem?_cons_succ, List.getElem?_cons_zero]; rfl) rfl rfl
      subst yy3
      have yy4 : fl4 = true := by refine ready_dep (k := 0) (o := ?_) hi (by simp only [List.getElem?_toArray, List.getElem?_cons_succ, List.getElem?_cons_zero]; rfl) rfl rfl
      subst yy4
      exact absurd rfl hne
  rintro a wm2 ⟨fl2, fl3, fl4, vl8, vl9, vl5, b3, B3, m3, d3, b4, B4, m4, d4, ad4, hl, rfl, hBi, qf2, qf3, qf4, qd3_2⟩
  have xx2 : fl2 = true := by have h := congrArg (fun l : Array Bool => l.getD 2 false) hl; exact h.symm
  subst xx2
  have xx3 : fl3 = true := by have h := congrArg (fun l : Array Bool => l.getD 3 false) hl; exact h.symm
  subst xx3
  have xx4 : fl4 = true := by have h := congrArg (fun l : Array Bool => l.getD 4 false) hl; exact h.symm
  subst xx4
  obtain ⟨rfl, hw3⟩ := qf2.out.get
  obtain ⟨rfl, hw4⟩ := qf3.out.get
  obtain ⟨rfl, hg4, hk4⟩ := qf4.out.get
  have hBv := hBi.out
  clear hl hBi qf2 qf3 qf4 qd3_2
  have hk4 : Blk wm2 ad4 34 #[.bool false, .slice none 0 0] := hk4
  rw [show due #[true, true, true, true, true, false] = 1 from rfl]
  try simp only [Act.put, List.setIfInBounds_toArray, List.set_cons_zero, List.set_cons_succ]
  refine wpAnyH_ready (rs := [5]) (by kernel_rfl) (by simp) ?_
  refine AllReadyH.cons (o := ?_) (by simp only [List.getElem?_toArray, List.getElem?_cons_succ, List.getElem?_cons_zero]; rfl) (fun K hK => ?_) AllReadyH.nil
  have sc0 : (wm2).cell? ⟨ad4, 0, none⟩ = some (.bool false) := hk4.cell 0
  have sf0 : (wm2).frozen? ⟨ad4, 0, none⟩ = false := hk4.frozen 0
  have hj0 : Blk (wm2.setCell ⟨ad4, 0, none⟩ (.bool b4)) ad4 34 #[.bool b4, .slice none 0 0] := hk4.set_ 0 (.bool b4)
  have sc1 : (wm2.setCell ⟨ad4, 0, none⟩ (.bool b4)).cell? ⟨ad4, 1, none⟩ = some (.slice none 0 0) := hj0.cell 1
  have sf1 : (wm2.setCell ⟨ad4, 0, none⟩ (.bool b4)).frozen? ⟨ad4, 1, none⟩ = false := hj0.frozen 1
  have hj1 : Blk ((wm2.setCell ⟨ad4, 0, none⟩ (.bool b4)).setCell ⟨ad4, 1, none⟩ (.slice B4 m4 d4)) ad4 34 #[.bool b4, .slice B4 m4 d4] := hj0.set_ 1 (.slice B4 m4 d4)
  go_simp
  have hBv := keep_below_set (p := ⟨ad4, 1, none⟩) (.slice B4 m4 d4) hg4 (keep_below_set (p := ⟨ad4, 0, none⟩) (.bool b4) hg4 (hBv))
  have hw3 := ref_set2 hw3 hk4 b4 B4 m4 d4
  have hw4 := ref_set2 hw4 hk4 b4 B4 m4 d4
  have hk4 := hj1
  clear sc0 sf0 sc1 sf1 hj0 hj1
  refine hK.out _ _ ?_ (fun hHeld => ?_)
  · ((try dsimp only); exact hBv)
  clear hK K hHeld
  try simp only [Act.put, List.setIfInBounds_toArray, List.set_cons_zero, List.set_cons_succ]
  generalize (wm2.setCell ⟨ad4, 0, none⟩ (.bool b4)).setCell ⟨ad4, 1, none⟩ (.slice B4 m4 d4) = wm3 at *
  refine wpAnyH_done (by kernel_rfl) ?_ _
  refine NoPanic.normal ?_
  have hB := keep_below hB hBv
  have HNp := Lib.hid (HNp.out.below hBv)
  have HNq := Lib.hid (HNq.out.below hBv)
  have g1 := keep_cell hBv g1
  have e1 := keep_cell hBv e1
  have g2 := keep_cell hBv g2
  have e2 := keep_cell hBv e2
  obtain ⟨ad4_5, hga⟩ : ∃ x, x = ad4 := ⟨_, rfl⟩
  subst hga
  have g5 : wm3.cell? ⟨ad4_5, 0, none⟩ = some (.bool b4) := hk4.cell 0
  have e5 : wm3.cell? ⟨ad4_5, 1, none⟩ = some (.slice B4 m4 d4) := hk4.cell 1
  have HN3 := Lib.hid hw3
  have HN4 := Lib.hid hw4
  clear hBv hk4 hg4 hw3 hw4 G0 G1
  clear C0 C1
  obtain rfl : b4 = false := HN4.out.1.trans (decide_eq_false (by have := Hh.out; omega))
  have hq4 := h16_pos HN4.out.2 (by have := Hh.out; omega)
  have hr4 : ((m4 : Int) == 0) = false := by rw [beq_eq_false_iff_ne]; omega
  clear hq4
  go_wp2
  go_ret
  exact ⟨by first | rfl | simp, hB⟩
theorem ref7_cmp (x y : Int) (bp bq : Bool) (Bp Bq : Option Addr) (mp mq dp dq : Nat) (K : Nat) (hKK : K ≤ 16777216) (w : World) (sx : Sz K x.natAbs) (sy : Sz K y.natAbs) (hp : RefIn w x bp Bp mp dp) (hq : RefIn w y bq Bq mq dq) :
    Calls Try.prog 23 #[.agg #[.bool bp, .slice Bp mp dp], .agg #[.bool bq, .slice Bq mq dq]] w (SaysI w (cmpZ x y)) := by
  rcases Int.lt_trichotomy x y with h | h | h
  · rw [show cmpZ x y = -1 from if_pos h]
    exact ref7_cmp_lt x y bp bq Bp Bq mp mq dp dq K hKK w sx sy hp hq h
  · rw [(cmpZ_eq x y).2 h]
    exact ref7_cmp_eq x y bp bq Bp Bq mp mq dp dq K hKK w sx sy hp hq h
  · rw [show cmpZ x y = 1 by unfold cmpZ; rw [if_neg (by omega), if_neg (by omega)]]
    exact ref7_cmp_gt x y bp bq Bp Bq mp mq dp dq K hKK w sx sy hp hq h
set_option maxHeartbeats 16000000 in
theorem law7_like_lt {T : World → Prop} (hTb : ∀ w w', T w → Below w.heap.size w w' → T w') (IC : IntC T) (z : Int) (bp : Bool) (Bp : Option Addr) (mp dp : Nat) (bq : Bool) (Bq : Option Addr) (mq dq : Nat) (K : Nat) (hKK : K ≤ 16777216) (w : World) (sz : Sz K z.natAbs) (hp : IntIn w z bp Bp mp dp) (hq : RefIn w z bq Bq mq dq) (hT : T w) (h : z < 0) :
    Calls Try.prog 14 #[.agg #[.bool bp, .slice Bp mp dp], .agg #[.bool bq, .slice Bq mq dq]] w fun e w' => e = .returned (.bool true) ∧ Below w.heap.size w w' := by
  have HIC := Lib.hid IC
  have HT := Lib.hid (fun w' (hb : Below w.heap.size w w') => hTb w w' hT hb)
  have HNp := Lib.hid hp
  have HNq := Lib.hid hq
  have HZp := Lib.hid sz
  have HZq := Lib.hid sz
  have Hh := Lib.hid h
  clear IC hT hp hq sz h
  go_enter Try.func14, Try.ntmps14
  have hB := Below.refl w.heap.size w
  obtain rfl : bq = true := HNq.out.1.trans (decide_eq_true (by have := Hh.out; omega))
  have gm2_2_0 : ((w.alloc (.cells #[.bool bp, .slice Bp mp dp] 29)).alloc (.cells #[.bool true, .slice Bq mq dq] 34)).cell? ⟨w.heap.size + 1, 0, none⟩ = some (.bool true) := by
    obtain ⟨c1, c2, c3, _⟩ := box2 w 29 34 #[.bool bp, .slice Bp mp dp] #[.bool true, .slice Bq mq dq]
    exact c3.cell 0
  have gm2_2_1 : ((w.alloc (.cells #[.bool bp, .slice Bp mp dp] 29)).alloc (.cells #[.bool true, .slice Bq mq dq] 34)).cell? ⟨w.heap.size + 1, 1, none⟩ = some (.slice Bq mq dq) := by
    obtain ⟨c1, c2, c3, _⟩ := box2 w 29 34 #[.bool bp, .slice Bp mp dp] #[.bool true, .slice Bq mq dq]
    exact c3.cell 1
  obtain ⟨bx1, bx2, bx3, bz⟩ := box2 w 29 34 #[.bool bp, .slice Bp mp dp] #[.bool true, .slice Bq mq dq]
  have hB := keep_below hB bx1
  have HNp := Lib.hid (HNp.out.below bx1)
  have HNq := Lib.hid (HNq.out.below bx1)
  have g1 : ((w.alloc (.cells #[.bool bp, .slice Bp mp dp] 29)).alloc (.cells #[.bool true, .slice Bq mq dq] 34)).cell? ⟨w.heap.size, 0, none⟩ = some (.bool bp) := bx2.cell 0
  have e1 : ((w.alloc (.cells #[.bool bp, .slice Bp mp dp] 29)).alloc (.cells #[.bool true, .slice Bq mq dq] 34)).cell? ⟨w.heap.size, 1, none⟩ = some (.slice Bp mp dp) := bx2.cell 1
  have g2 : ((w.alloc (.cells #[.bool bp, .slice Bp mp dp] 29)).alloc (.cells #[.bool true, .slice Bq mq dq] 34)).cell? ⟨w.heap.size + 1, 0, none⟩ = some (.bool true) := bx3.cell 0
  have e2 : ((w.alloc (.cells #[.bool bp, .slice Bp mp dp] 29)).alloc (.cells #[.bool true, .slice Bq mq dq] 34)).cell? ⟨w.heap.size + 1, 1, none⟩ = some (.slice Bq mq dq) := bx3.cell 1
  clear bx1 bx2 bx3 bz
  go_wp2_with fail
  clear gm2_2_0 gm2_2_1
  generalize (w.alloc (.cells #[.bool bp, .slice Bp mp dp] 29)).alloc (.cells #[.bool true, .slice Bq mq dq] 34) = W1 at *
  have C0 := Lib.hid (fun w' (h : Below W1.heap.size W1 w') => ibelow_of (b := true) (decide_eq_true (by have := Hh.out; omega)) (HIC.out.belowI (z) bp Bp mp dp w' (HT.out _ (keep_below hB h)) (HNp.out.below h) (by have := Sz.words HZp.out HNp.out.words; omega)))
  have C1 := Lib.hid (fun w' (h : Below W1.heap.size W1 w') => isgn_of (v := -1) ((sgn_neg Hh.out)) (HIC.out.sign (z) bp Bp mp dp w' (HT.out _ (keep_below hB h)) (HNp.out.below h) (by have := Sz.words HZp.out HNp.out.words; omega)))
  have HZ3 : Hid (Sz (K) (z.natAbs)) := HZp.out
  have C2 := Lib.hid (fun w' (h : Below W1.heap.size W1 w') => HIC.out.abs (z) bp Bp mp dp w' (HT.out _ (keep_below hB h)) (HNp.out.below h) (by have := Sz.words HZp.out HNp.out.words; omega))
  have C3 := Lib.hid (fun w' (h : Below W1.heap.size W1 w') (B3 : Option Addr) (m3 : Nat) (d3 : Nat) (hw3 : WordsIn w' (z.natAbs) B3 m3 d3) => law2_like (z.natAbs) B3 Bq m3 d3 mq dq w' hw3 (HNq.out.below h).2 (by have := Sz.words HZ3.out hw3; omega) (by have := Sz.holds' HZq.out HNq.out.2; omega))
  have hb0 : Below W1.heap.size W1 W1.drew := (Below.refl _ W1).drew
  have j0 : W1.drew.cell? ⟨w.heap.size, 0, none⟩ = some (.bool bp) := g1
  have j1 : W1.drew.cell? ⟨w.heap.size, 1, none⟩ = some (.slice Bp mp dp) := e1
  have j2 : W1.drew.cell? ⟨w.heap.size + 1, 0, none⟩ = some (.bool true) := g2
  have j3 : W1.drew.cell? ⟨w.heap.size + 1, 1, none⟩ = some (.slice Bq mq dq) := e2
  refine wp_region_noPanic ?_
  refine wp_region_held_drew (S := (fun w' => Below W1.heap.size W1 w' ∧ w'.cell? ⟨w.heap.size, 0, none⟩ = some (.bool bp) ∧ w'.cell? ⟨w.heap.size, 1, none⟩ = some (.slice Bp mp dp) ∧ w'.cell? ⟨w.heap.size + 1, 0, none⟩ = some (.bool true) ∧ w'.cell? ⟨w.heap.size + 1, 1, none⟩ = some (.slice Bq mq dq))) (by kernel_rfl) ?_ (fun hHeld => ?_)
  · exact ⟨hb0, j0, j1, j2, j3⟩
  refine wpAnyH_take (i := 0) (oi := ?_) (v := ?_) (by simp only [List.getElem?_toArray, List.getElem?_cons_succ, List.getElem?_cons_zero]; rfl) (by kernel_rfl) (by kernel_rfl) (by kernel_rfl) (fun _ _ _ h => h) (Or.inl ⟨by rfl, ?_⟩) (by with_reducible assumption) ?_
  rotate_left
  focus ((intro w hSw; (try dsimp only at hSw); go_simp); (try with_reducible rfl))
  try simp only [Act.put, List.setIfInBounds_toArray, List.set_cons_zero, List.set_cons_succ]
  refine wpAnyH_take (i := 2) (oi := ?_) (v := ?_) (by simp only [List.getElem?_toArray, List.getElem?_cons_succ, List.getElem?_cons_zero]; rfl) (by kernel_rfl) (by kernel_rfl) (by kernel_rfl) (fun _ _ _ h => h) (Or.inl ⟨by rfl, ?_⟩) (by with_reducible assumption) ?_
  rotate_left
  focus ((intro w hSw; (try dsimp only at hSw); go_simp); (try with_reducible rfl))
  try simp only [Act.put, List.setIfInBounds_toArray, List.set_cons_zero, List.set_cons_succ]
  refine wpAnyH_take (i := 3) (oi := ?_) (v := ?_) (by simp only [List.getElem?_toArray, List.getElem?_cons_succ, List.getElem?_cons_zero]; rfl) (by kernel_rfl) (by kernel_rfl) (by kernel_rfl) (fun _ _ _ h => h) (Or.inl ⟨by rfl, ?_⟩) (by with_reducible assumption) ?_
  rotate_left
  focus ((intro w hSw; (try dsimp only at hSw); go_simp); (try with_reducible rfl))
  try simp only [Act.put, List.setIfInBounds_toArray, List.set_cons_zero, List.set_cons_succ]
  refine wpAnyH_ready (rs := [1]) (by kernel_rfl) (by simp) ?_
  refine AllReadyH.cons (o := ?_) (by simp only [List.getElem?_toArray, List.getElem?_cons_succ, List.getElem?_cons_zero]; rfl) (fun K hK => ?_) AllReadyH.nil
  go_simp
  (go_at_call 40; (with_reducible refine (C0.out _ (by first | with_reducible assumption | exact And.left (by with_reducible assumption))).mono ?_); rintro e wa2 ⟨rfl, hb⟩; go_split_ands; have hBw : Below W1.heap.size W1 wa2 := keep_below (by with_reducible assumption) hb; have gw0 : wa2.cell? ⟨w.heap.size, 0, none⟩ = some (.bool bp) := keep_cell hb (by with_reducible assumption); have gw1 : wa2.cell? ⟨w.heap.size, 1, none⟩ = some (.slice Bp mp dp) := keep_cell hb (by with_reducible assumption); have gw2 : wa2.cell? ⟨w.heap.size + 1, 0, none⟩ = some (.bool true) := keep_cell hb (by with_reducible assumption); have gw3 : wa2.cell? ⟨w.heap.size + 1, 1, none⟩ = some (.slice Bq mq dq) := keep_cell hb (by with_reducible assumption))
  refine hK.out _ _ ?_ (fun hHeld => ?_)
  · ((try dsimp only); (first | (with_reducible exact ⟨hb0, j0, j1, j2, j3⟩) | (go_split_ands; (repeat' apply And.intro); all_goals (first | with_reducible assumption | with_reducible exact keep_below (by with_reducible assumption) hb | with_reducible exact keep_cell hb (by with_reducible assumption)))))
  clear hK K
  try simp only [Act.put, List.setIfInBounds_toArray, List.set_cons_zero, List.set_cons_succ]
  refine wpAnyH_take (i := 4) (oi := ?_) (v := ?_) (by simp only [List.getElem?_toArray, List.getElem?_cons_succ, List.getElem?_cons_zero]; rfl) (by kernel_rfl) (by kernel_rfl) (by kernel_rfl) (fun _ _ _ h => h) (Or.inl ⟨by rfl, ?_⟩) (by with_reducible assumption) ?_
  rotate_left
  focus ((intro w hSw; (try dsimp only at hSw); go_simp); (try with_reducible rfl))
  try simp only [Act.put, List.setIfInBounds_toArray, List.set_cons_zero, List.set_cons_succ]
  refine wpAnyH_take (i := 5) (oi := ?_) (v := ?_) (by simp only [List.getElem?_toArray, List.getElem?_cons_succ, List.getElem?_cons_zero]; rfl) (by kernel_rfl) (by kernel_rfl) (by kernel_rfl) (fun _ _ _ h => h) (Or.inl ⟨by rfl, ?_⟩) (by with_reducible assumption) ?_
  rotate_left
  focus ((intro w hSw; (try dsimp only at hSw); go_simp); (try with_reducible rfl))
  try simp only [Act.put, List.setIfInBounds_toArray, List.set_cons_zero, List.set_cons_succ]
  refine wpAnyH_take (i := 6) (oi := ?_) (v := ?_) (by simp only [List.getElem?_toArray, List.getElem?_cons_succ, List.getElem?_cons_zero]; rfl) (by kernel_rfl) (by kernel_rfl) (by kernel_rfl) (fun _ _ _ h => h) (Or.inl ⟨by rfl, ?_⟩) (by with_reducible assumption) ?_
  rotate_left
  focus ((intro w hSw; (try dsimp only at hSw); go_simp); (try with_reducible rfl))
  try simp only [Act.put, List.setIfInBounds_toArray, List.set_cons_zero, List.set_cons_succ]
  refine wpAnyH_take (i := 8) (oi := ?_) (v := ?_) (by simp only [List.getElem?_toArray, List.getElem?_cons_succ, List.getElem?_cons_zero]; rfl) (by kernel_rfl) (by kernel_rfl) (by kernel_rfl) (fun _ _ _ h => h) (Or.inl ⟨by rfl, ?_⟩) (by with_reducible assumption) ?_
  rotate_left
  focus ((intro w hSw; (try dsimp only at hSw); go_simp); (try with_reducible rfl))
  try simp only [Act.put, List.setIfInBounds_toArray, List.set_cons_zero, List.set_cons_succ]
  refine wpAnyH_ready (rs := [7]) (by kernel_rfl) (by simp) ?_
  refine AllReadyH.cons (o := ?_) (by simp only [List.getElem?_toArray, List.getElem?_cons_succ, List.getElem?_cons_zero]; rfl) (fun K hK => ?_) AllReadyH.nil
  go_simp
  (go_at_call 25; (with_reducible refine (C1.out _ (by first | with_reducible assumption | exact And.left (by with_reducible assumption))).mono ?_); rintro e wa3 ⟨rfl, hb⟩; go_split_ands; have hBw : Below W1.heap.size W1 wa3 := keep_below (by with_reducible assumption) hb; have gw0 : wa3.cell? ⟨w.heap.size, 0, none⟩ = some (.bool bp) := keep_cell hb (by with_reducible assumption); have gw1 : wa3.cell? ⟨w.heap.size, 1, none⟩ = some (.slice Bp mp dp) := keep_cell hb (by with_reducible assumption); have gw2 : wa3.cell? ⟨w.heap.size + 1, 0, none⟩ = some (.bool true) := keep_cell hb (by with_reducible assumption); have gw3 : wa3.cell? ⟨w.heap.size + 1, 1, none⟩ = some (.slice Bq mq dq) := keep_cell hb (by with_reducible assumption))
  refine hK.out _ _ ?_ (fun hHeld => ?_)
  · ((try dsimp only); (first | (with_reducible exact ⟨hb0, j0, j1, j2, j3⟩) | (go_split_ands; (repeat' apply And.intro); all_goals (first | with_reducible assumption | with_reducible exact keep_below (by with_reducible assumption) hb | with_reducible exact keep_cell hb (by with_reducible assumption)))))
  clear hK K
  try simp only [Act.put, List.setIfInBounds_toArray, List.set_cons_zero, List.set_cons_succ]
  refine wpAnyH_take (i := 9) (oi := ?_) (v := ?_) (by simp only [List.getElem?_toArray, List.getElem?_cons_succ, List.getElem?_cons_zero]; rfl) (by kernel_rfl) (by kernel_rfl) (by kernel_rfl) (fun _ _ _ h => h) (Or.inl ⟨by rfl, ?_⟩) (by with_reducible assumption) ?_
  rotate_left
  focus ((intro w hSw; (try dsimp only at hSw); go_simp); (try with_reducible rfl))
  try simp only [Act.put, List.setIfInBounds_toArray, List.set_cons_zero, List.set_cons_succ]
  refine wpAnyH_take (i := 10) (oi := ?_) (v := ?_) (by simp only [List.getElem?_toArray, List.getElem?_cons_succ, List.getElem?_cons_zero]; rfl) (by kernel_rfl) (by kernel_rfl) (by kernel_rfl) (fun _ _ _ h => h) (Or.inl ⟨by rfl, ?_⟩) (by with_reducible assumption) ?_
  rotate_left
  focus ((intro w hSw; (try dsimp only at hSw); go_simp); (try with_reducible rfl))
  try simp only [Act.put, List.setIfInBounds_toArray, List.set_cons_zero, List.set_cons_succ]
  refine wpAnyH_take (i := 11) (oi := ?_) (v := ?_) (by simp only [List.getElem?_toArray, List.getElem?_cons_succ, List.getElem?_cons_zero]; rfl) (by kernel_rfl) (by kernel_rfl) (by kernel_rfl) (fun _ _ _ h => h) (Or.inl ⟨by rfl, ?_⟩) (by with_reducible assumption) ?_
  rotate_left
  focus ((intro w hSw; (try dsimp only at hSw); go_simp); (try with_reducible rfl))
  try simp only [Act.put, List.setIfInBounds_toArray, List.set_cons_zero, List.set_cons_succ]
  refine wpAnyH_take (i := 12) (oi := ?_) (v := ?_) (by simp only [List.getElem?_toArray, List.getElem?_cons_succ, List.getElem?_cons_zero]; rfl) (by kernel_rfl) (by kernel_rfl) (by kernel_rfl) (fun _ _ _ h => h) (Or.inl ⟨by rfl, ?_⟩) (by with_reducible assumption) ?_
  rotate_left
  focus ((intro w hSw; (try dsimp only at hSw); go_simp); (try with_reducible rfl))
  try simp only [Act.put, List.setIfInBounds_toArray, List.set_cons_zero, List.set_cons_succ]
  refine wpAnyH_take (i := 14) (oi := ?_) (v := ?_) (by simp only [List.getElem?_toArray, List.getElem?_cons_succ, List.getElem?_cons_zero]; rfl) (by kernel_rfl) (by kernel_rfl) (by kernel_rfl) (fun _ _ _ h => h) (Or.inl ⟨by rfl, ?_⟩) (by with_reducible assumption) ?_
  rotate_left
  focus ((intro w hSw; (try dsimp only at hSw); go_simp); (try with_reducible rfl))
  try simp only [Act.put, List.setIfInBounds_toArray, List.set_cons_zero, List.set_cons_succ]
  refine wpAnyH_take (i := 15) (oi := ?_) (v := ?_) (by simp only [List.getElem?_toArray, List.getElem?_cons_succ, List.getElem?_cons_zero]; rfl) (by kernel_rfl) (by kernel_rfl) (by kernel_rfl) (fun _ _ _ h => h) (Or.inl ⟨by rfl, ?_⟩) (by with_reducible assumption) ?_
  rotate_left
  focus ((intro w hSw; (try dsimp only at hSw); go_simp); (try with_reducible rfl))
  try simp only [Act.put, List.setIfInBounds_toArray, List.set_cons_zero, List.set_cons_succ]
  refine wpAnyH_ready (rs := [13]) (by kernel_rfl) (by simp) ?_
  refine AllReadyH.cons (o := ?_) (by simp only [List.getElem?_toArray, List.getElem?_cons_succ, List.getElem?_cons_zero]; rfl) (fun K hK => ?_) AllReadyH.nil
  go_simp
  (go_at_call 35; (with_reducible refine (C2.out _ (by first | with_reducible assumption | exact And.left (by with_reducible assumption))).mono ?_); rintro e wa4 ⟨B3, m3, d3, rfl, hw3, hb⟩; go_split_ands; have hBw : Below W1.heap.size W1 wa4 := keep_below (by with_reducible assumption) hb; have gw0 : wa4.cell? ⟨w.heap.size, 0, none⟩ = some (.bool bp) := keep_cell hb (by with_reducible assumption); have gw1 : wa4.cell? ⟨w.heap.size, 1, none⟩ = some (.slice Bp mp dp) := keep_cell hb (by with_reducible assumption); have gw2 : wa4.cell? ⟨w.heap.size + 1, 0, none⟩ = some (.bool true) := keep_cell hb (by with_reducible assumption); have gw3 : wa4.cell? ⟨w.heap.size + 1, 1, none⟩ = some (.slice Bq mq dq) := keep_cell hb (by with_reducible assumption))
  refine hK.out _ _ ?_ (fun hHeld => ?_)
  · ((try dsimp only); (first | (with_reducible exact ⟨hb0, j0, j1, j2, j3⟩) | (go_split_ands; (repeat' apply And.intro); all_goals (first | with_reducible assumption | with_reducible exact keep_below (by with_reducible assumption) hb | with_reducible exact keep_cell hb (by with_reducible assumption)))))
  clear hK K
  try simp only [Act.put, List.setIfInBounds_toArray, List.set_cons_zero, List.set_cons_succ]
  refine wpAnyH_ready (rs := [16]) (by kernel_rfl) (by simp) ?_
  refine AllReadyH.cons (o := ?_) (by simp only [List.getElem?_toArray, List.getElem?_cons_succ, List.getElem?_cons_zero]; rfl) (fun K hK => ?_) AllReadyH.nil
  go_simp
  (go_at_call 41; (with_reducible refine (C3.out _ (by first | with_reducible assumption | exact And.left (by with_reducible assumption)) _ _ _ hw3).mono ?_); rintro e wa5 ⟨rfl, hb⟩; go_split_ands; have hBw : Below W1.heap.size W1 wa5 := keep_below (by with_reducible assumption) hb; have gw0 : wa5.cell? ⟨w.heap.size, 0, none⟩ = some (.bool bp) := keep_cell hb (by with_reducible assumption); have gw1 : wa5.cell? ⟨w.heap.size, 1, none⟩ = some (.slice Bp mp dp) := keep_cell hb (by with_reducible assumption); have gw2 : wa5.cell? ⟨w.heap.size + 1, 0, none⟩ = some (.bool true) := keep_cell hb (by with_reducible assumption); have gw3 : wa5.cell? ⟨w.heap.size + 1, 1, none⟩ = some (.slice Bq mq dq) := keep_cell hb (by with_reducible assumption); (with_reducible have hw3 := hw3.below hb))
  refine hK.out _ _ ?_ (fun hHeld => ?_)
  · ((try dsimp only); (first | (with_reducible exact ⟨hb0, j0, j1, j2, j3⟩) | (go_split_ands; (repeat' apply And.intro); all_goals (first | with_reducible assumption | with_reducible exact keep_below (by with_reducible assumption) hb | with_reducible exact keep_cell hb (by with_reducible assumption)))))
  clear hK K
  try simp only [Act.put, List.setIfInBounds_toArray, List.set_cons_zero, List.set_cons_succ]
  refine wpAnyH_take (i := 17) (oi := ?_) (v := ?_) (by simp only [List.getElem?_toArray, List.getElem?_cons_succ, List.getElem?_cons_zero]; rfl) (by kernel_rfl) (by kernel_rfl) (by kernel_rfl) (fun _ _ _ h => h) (Or.inl ⟨by rfl, ?_⟩) (by with_reducible assumption) ?_
  rotate_left
  focus ((intro w hSw; (try dsimp only at hSw); go_simp); (try with_reducible rfl))
  try simp only [Act.put, List.setIfInBounds_toArray, List.set_cons_zero, List.set_cons_succ]
  refine wpAnyH_take (i := 18) (oi := ?_) (v := ?_) (by simp only [List.getElem?_toArray, List.getElem?_cons_succ, List.getElem?_cons_zero]; rfl) (by kernel_rfl) (by kernel_rfl) (by kernel_rfl) (fun _ _ _ h => h) (Or.inl ⟨by rfl, ?_⟩) (by with_reducible assumption) ?_
  rotate_left
  focus ((intro w hSw; (try dsimp only at hSw); go_simp); (try with_reducible rfl))
  try simp only [Act.put, List.setIfInBounds_toArray, List.set_cons_zero, List.set_cons_succ]
  refine wpAnyH_done (by kernel_rfl) ?_ _
  refine NoPanic.normal ?_
  clear hb
  have hB := keep_below hB hBw
  have HNp := Lib.hid (HNp.out.below hBw)
  have HNq := Lib.hid (HNq.out.below hBw)
  have g1 := keep_cell hBw g1
  have e1 := keep_cell hBw e1
  have g2 := keep_cell hBw g2
  have e2 := keep_cell hBw e2
  have HN3 := Lib.hid hw3
  clear hb0 hBw gw0 gw1 gw2 gw3 hw3
  clear j0
  clear j1
  clear j2
  clear j3
  clear C0 C1 C2 C3
  go_wp2
  go_ret
  exact ⟨by first | rfl | simp, hB⟩
set_option maxHeartbeats 16000000 in
theorem law7_like_eq {T : World → Prop} (hTb : ∀ w w', T w → Below w.heap.size w w' → T w') (IC : IntC T) (z : Int) (bp : Bool) (Bp : Option Addr) (mp dp : Nat) (bq : Bool) (Bq : Option Addr) (mq dq : Nat) (K : Nat) (hKK : K ≤ 16777216) (w : World) (sz : Sz K z.natAbs) (hp : IntIn w z bp Bp mp dp) (hq : RefIn w z bq Bq mq dq) (hT : T w) (h : z = 0) :
    Calls Try.prog 14 #[.agg #[.bool bp, .slice Bp mp dp], .agg #[.bool bq, .slice Bq mq dq]] w fun e w' => e = .returned (.bool true) ∧ Below w.heap.size w w' := by
  have HIC := Lib.hid IC
  have HT := Lib.hid (fun w' (hb : Below w.heap.size w w') => hTb w w' hT hb)
  have HNp := Lib.hid hp
  have HNq := Lib.hid hq
  have HZp := Lib.hid sz
  have HZq := Lib.hid sz
  have Hh := Lib.hid h
  clear IC hT hp hq sz h
  go_enter Try.func14, Try.ntmps14
  have hB := Below.refl w.heap.size w
  obtain rfl : bq = false := HNq.out.1.trans (decide_eq_false (by have := Hh.out; omega))
  have hqq := h16_zero HNq.out.2 (by have := Hh.out; omega)
  have hrq : ((mq : Int) == 0) = true := by rw [beq_iff_eq]; omega
  clear hqq
  have gm2_2_0 : ((w.alloc (.cells #[.bool bp, .slice Bp mp dp] 29)).alloc (.cells #[.bool false, .slice Bq mq dq] 34)).cell? ⟨w.heap.size + 1, 0, none⟩ = some (.bool false) := by
    obtain ⟨c1, c2, c3, _⟩ := box2 w 29 34 #[.bool bp, .slice Bp mp dp] #[.bool false, .slice Bq mq dq]
    exact c3.cell 0
  have gm2_2_1 : ((w.alloc (.cells #[.bool bp, .slice Bp mp dp] 29)).alloc (.cells #[.bool false, .slice Bq mq dq] 34)).cell? ⟨w.heap.size + 1, 1, none⟩ = some (.slice Bq mq dq) := by
    obtain ⟨c1, c2, c3, _⟩ := box2 w 29 34 #[.bool bp, .slice Bp mp dp] #[.bool false, .slice Bq mq dq]
    exact c3.cell 1
  obtain ⟨bx1, bx2, bx3, bz⟩ := box2 w 29 34 #[.bool bp, .slice Bp mp dp] #[.bool false, .slice Bq mq dq]
  have hB := keep_below hB bx1
  have HNp := Lib.hid (HNp.out.below bx1)
  have HNq := Lib.hid (HNq.out.below bx1)
  have g1 : ((w.alloc (.cells #[.bool bp, .slice Bp mp dp] 29)).alloc (.cells #[.bool false, .slice Bq mq dq] 34)).cell? ⟨w.heap.size, 0, none⟩ = some (.bool bp) := bx2.cell 0
  have e1 : ((w.alloc (.cells #[.bool bp, .slice Bp mp dp] 29)).alloc (.cells #[.bool false, .slice Bq mq dq] 34)).cell? ⟨w.heap.size, 1, none⟩ = some (.slice Bp mp dp) := bx2.cell 1
  have g2 : ((w.alloc (.cells #[.bool bp, .slice Bp mp dp] 29)).alloc (.cells #[.bool false, .slice Bq mq dq] 34)).cell? ⟨w.heap.size + 1, 0, none⟩ = some (.bool false) := bx3.cell 0
  have e2 : ((w.alloc (.cells #[.bool bp, .slice Bp mp dp] 29)).alloc (.cells #[.bool false, .slice Bq mq dq] 34)).cell? ⟨w.heap.size + 1, 1, none⟩ = some (.slice Bq mq dq) := bx3.cell 1
  clear bx1 bx2 bx3 bz
  go_wp2_with fail
  clear gm2_2_0 gm2_2_1
  generalize (w.alloc (.cells #[.bool bp, .slice Bp mp dp] 29)).alloc (.cells #[.bool false, .slice Bq mq dq] 34) = W1 at *
  have C0 := Lib.hid (fun w' (h : Below W1.heap.size W1 w') => ibelow_of (b := false) (decide_eq_false (by have := Hh.out; omega)) (HIC.out.belowI (z) bp Bp mp dp w' (HT.out _ (keep_below hB h)) (HNp.out.below h) (by have := Sz.words HZp.out HNp.out.words; omega)))
  have C1 := Lib.hid (fun w' (h : Below W1.heap.size W1 w') => isgn_of (v := 0) (((sgnZ_eq _).2 Hh.out)) (HIC.out.sign (z) bp Bp mp dp w' (HT.out _ (keep_below hB h)) (HNp.out.below h) (by have := Sz.words HZp.out HNp.out.words; omega)))
  have HZ3 : Hid (Sz (K) (z.natAbs)) := HZp.out
  have C2 := Lib.hid (fun w' (h : Below W1.heap.size W1 w') => HIC.out.abs (z) bp Bp mp dp w' (HT.out _ (keep_below hB h)) (HNp.out.below h) (by have := Sz.words HZp.out HNp.out.words; omega))
  have C3 := Lib.hid (fun w' (h : Below W1.heap.size W1 w') (B3 : Option Addr) (m3 : Nat) (d3 : Nat) (hw3 : WordsIn w' (z.natAbs) B3 m3 d3) => law2_like (z.natAbs) B3 Bq m3 d3 mq dq w' hw3 (HNq.out.below h).2 (by have := Sz.words HZ3.out hw3; omega) (by have := Sz.holds' HZq.out HNq.out.2; omega))
  have hb0 : Below W1.heap.size W1 W1.drew := (Below.refl _ W1).drew
  have j0 : W1.drew.cell? ⟨w.heap.size, 0, none⟩ = some (.bool bp) := g1
  have j1 : W1.drew.cell? ⟨w.heap.size, 1, none⟩ = some (.slice Bp mp dp) := e1
  have j2 : W1.drew.cell? ⟨w.heap.size + 1, 0, none⟩ = some (.bool false) := g2
  have j3 : W1.drew.cell? ⟨w.heap.size + 1, 1, none⟩ = some (.slice Bq mq dq) := e2
  refine wp_region_noPanic ?_
  refine wp_region_held_drew (S := (fun w' => Below W1.heap.size W1 w' ∧ w'.cell? ⟨w.heap.size, 0, none⟩ = some (.bool bp) ∧ w'.cell? ⟨w.heap.size, 1, none⟩ = some (.slice Bp mp dp) ∧ w'.cell? ⟨w.heap.size + 1, 0, none⟩ = some (.bool false) ∧ w'.cell? ⟨w.heap.size + 1, 1, none⟩ = some (.slice Bq mq dq))) (by kernel_rfl) ?_ (fun hHeld => ?_)
  · exact ⟨hb0, j0, j1, j2, j3⟩
  refine wpAnyH_take (i := 0) (oi := ?_) (v := ?_) (by simp only [List.getElem?_toArray, List.getElem?_cons_succ, List.getElem?_cons_zero]; rfl) (by kernel_rfl) (by kernel_rfl) (by kernel_rfl) (fun _ _ _ h => h) (Or.inl ⟨by rfl, ?_⟩) (by with_reducible assumption) ?_
  rotate_left
  focus ((intro w hSw; (try dsimp only at hSw); go_simp); (try with_reducible rfl))
  try simp only [Act.put, List.setIfInBounds_toArray, List.set_cons_zero, List.set_cons_succ]
  refine wpAnyH_take (i := 2) (oi := ?_) (v := ?_) (by simp only [List.getElem?_toArray, List.getElem?_cons_succ, List.getElem?_cons_zero]; rfl) (by kernel_rfl) (by kernel_rfl) (by kernel_rfl) (fun _ _ _ h => h) (Or.inl ⟨by rfl, ?_⟩) (by with_reducible assumption) ?_
  rotate_left
  focus ((intro w hSw; (try dsimp only at hSw); go_simp); (try with_reducible rfl))
  try simp only [Act.put, List.setIfInBounds_toArray, List.set_cons_zero, List.set_cons_succ]
  refine wpAnyH_take (i := 3) (oi := ?_) (v := ?_) (by simp only [List.getElem?_toArray, List.getElem?_cons_succ, List.getElem?_cons_zero]; rfl) (by kernel_rfl) (by kernel_rfl) (by kernel_rfl) (fun _ _ _ h => h) (Or.inl ⟨by rfl, ?_⟩) (by with_reducible assumption) ?_
  rotate_left
  focus ((intro w hSw; (try dsimp only at hSw); go_simp); (try with_reducible rfl))
  try simp only [Act.put, List.setIfInBounds_toArray, List.set_cons_zero, List.set_cons_succ]
  refine wpAnyH_ready (rs := [1]) (by kernel_rfl) (by simp) ?_
  refine AllReadyH.cons (o := ?_) (by simp only [List.getElem?_toArray, List.getElem?_cons_succ, List.getElem?_cons_zero]; rfl) (fun K hK => ?_) AllReadyH.nil
  go_simp
  (go_at_call 40; (with_reducible refine (C0.out _ (by first | with_reducible assumption | exact And.left (by with_reducible assumption))).mono ?_); rintro e wa2 ⟨rfl, hb⟩; go_split_ands; have hBw : Below W1.heap.size W1 wa2 := keep_below (by with_reducible assumption) hb; have gw0 : wa2.cell? ⟨w.heap.size, 0, none⟩ = some (.bool bp) := keep_cell hb (by with_reducible assumption); have gw1 : wa2.cell? ⟨w.heap.size, 1, none⟩ = some (.slice Bp mp dp) := keep_cell hb (by with_reducible assumption); have gw2 : wa2.cell? ⟨w.heap.size + 1, 0, none⟩ = some (.bool false) := keep_cell hb (by with_reducible assumption); have gw3 : wa2.cell? ⟨w.heap.size + 1, 1, none⟩ = some (.slice Bq mq dq) := keep_cell hb (by with_reducible assumption))
  refine hK.out _ _ ?_ (fun hHeld => ?_)
  · ((try dsimp only); (first | (with_reducible exact ⟨hb0, j0, j1, j2, j3⟩) | (go_split_ands; (repeat' apply And.intro); all_goals (first | with_reducible assumption | with_reducible exact keep_below (by with_reducible assumption) hb | with_reducible exact keep_cell hb (by with_reducible assumption)))))
  clear hK K
  try simp only [Act.put, List.setIfInBounds_toArray, List.set_cons_zero, List.set_cons_succ]
  refine wpAnyH_take (i := 4) (oi := ?_) (v := ?_) (by simp only [List.getElem?_toArray, List.getElem?_cons_succ, List.getElem?_cons_zero]; rfl) (by kernel_rfl) (by kernel_rfl) (by kernel_rfl) (fun _ _ _ h => h) (Or.inl ⟨by rfl, ?_⟩) (by with_reducible assumption) ?_
  rotate_left
  focus ((intro w hSw; (try dsimp only at hSw); go_simp); (try with_reducible rfl))
  try simp only [Act.put, List.setIfInBounds_toArray, List.set_cons_zero, List.set_cons_succ]
  refine wpAnyH_take (i := 5) (oi := ?_) (v := ?_) (by simp only [List.getElem?_toArray, List.getElem?_cons_succ, List.getElem?_cons_zero]; rfl) (by kernel_rfl) (by kernel_rfl) (by kernel_rfl) (fun _ _ _ h => h) (Or.inl ⟨by rfl, ?_⟩) (by with_reducible assumption) ?_
  rotate_left
  focus ((intro w hSw; (try dsimp only at hSw); go_simp); (try with_reducible rfl))
  try simp only [Act.put, List.setIfInBounds_toArray, List.set_cons_zero, List.set_cons_succ]
  refine wpAnyH_take (i := 6) (oi := ?_) (v := ?_) (by simp only [List.getElem?_toArray, List.getElem?_cons_succ, List.getElem?_cons_zero]; rfl) (by kernel_rfl) (by kernel_rfl) (by kernel_rfl) (fun _ _ _ h => h) (Or.inl ⟨by rfl, ?_⟩) (by with_reducible assumption) ?_
  rotate_left
  focus ((intro w hSw; (try dsimp only at hSw); go_simp); (try with_reducible rfl))
  try simp only [Act.put, List.setIfInBounds_toArray, List.set_cons_zero, List.set_cons_succ]
  refine wpAnyH_take (i := 8) (oi := ?_) (v := ?_) (by simp only [List.getElem?_toArray, List.getElem?_cons_succ, List.getElem?_cons_zero]; rfl) (by kernel_rfl) (by kernel_rfl) (by kernel_rfl) (fun _ _ _ h => h) (Or.inl ⟨by rfl, ?_⟩) (by with_reducible assumption) ?_
  rotate_left
  focus ((intro w hSw; (try dsimp only at hSw); go_simp); (try with_reducible rfl))
  try simp only [Act.put, List.setIfInBounds_toArray, List.set_cons_zero, List.set_cons_succ]
  refine wpAnyH_ready (rs := [7]) (by kernel_rfl) (by simp) ?_
  refine AllReadyH.cons (o := ?_) (by simp only [List.getElem?_toArray, List.getElem?_cons_succ, List.getElem?_cons_zero]; rfl) (fun K hK => ?_) AllReadyH.nil
  go_simp
  (go_at_call 25; (with_reducible refine (C1.out _ (by first | with_reducible assumption | exact And.left (by with_reducible assumption))).mono ?_); rintro e wa3 ⟨rfl, hb⟩; go_split_ands; have hBw : Below W1.heap.size W1 wa3 := keep_below (by with_reducible assumption) hb; have gw0 : wa3.cell? ⟨w.heap.size, 0, none⟩ = some (.bool bp) := keep_cell hb (by with_reducible assumption); have gw1 : wa3.cell? ⟨w.heap.size, 1, none⟩ = some (.slice Bp mp dp) := keep_cell hb (by with_reducible assumption); have gw2 : wa3.cell? ⟨w.heap.size + 1, 0, none⟩ = some (.bool false) := keep_cell hb (by with_reducible assumption); have gw3 : wa3.cell? ⟨w.heap.size + 1, 1, none⟩ = some (.slice Bq mq dq) := keep_cell hb (by with_reducible assumption))
  refine hK.out _ _ ?_ (fun hHeld => ?_)
  · ((try dsimp only); (first | (with_reducible exact ⟨hb0, j0, j1, j2, j3⟩) | (go_split_ands; (repeat' apply And.intro); all_goals (first | with_reducible assumption | with_reducible exact keep_below (by with_reducible assumption) hb | with_reducible exact keep_cell hb (by with_reducible assumption)))))
  clear hK K
  try simp only [Act.put, List.setIfInBounds_toArray, List.set_cons_zero, List.set_cons_succ]
  refine wpAnyH_take (i := 9) (oi := ?_) (v := ?_) (by simp only [List.getElem?_toArray, List.getElem?_cons_succ, List.getElem?_cons_zero]; rfl) (by kernel_rfl) (by kernel_rfl) (by kernel_rfl) (fun _ _ _ h => h) (Or.inl ⟨by rfl, ?_⟩) (by with_reducible assumption) ?_
  rotate_left
  focus ((intro w hSw; (try dsimp only at hSw); go_simp); (try with_reducible rfl))
  try simp only [Act.put, List.setIfInBounds_toArray, List.set_cons_zero, List.set_cons_succ]
  refine wpAnyH_take (i := 10) (oi := ?_) (v := ?_) (by simp only [List.getElem?_toArray, List.getElem?_cons_succ, List.getElem?_cons_zero]; rfl) (by kernel_rfl) (by kernel_rfl) (by kernel_rfl) (fun _ _ _ h => h) (Or.inl ⟨by rfl, ?_⟩) (by with_reducible assumption) ?_
  rotate_left
  focus ((intro w hSw; (try dsimp only at hSw); go_simp); (try with_reducible rfl))
  try simp only [Act.put, List.setIfInBounds_toArray, List.set_cons_zero, List.set_cons_succ]
  refine wpAnyH_take (i := 11) (oi := ?_) (v := ?_) (by simp only [List.getElem?_toArray, List.getElem?_cons_succ, List.getElem?_cons_zero]; rfl) (by kernel_rfl) (by kernel_rfl) (by kernel_rfl) (fun _ _ _ h => h) (Or.inl ⟨by rfl, ?_⟩) (by with_reducible assumption) ?_
  rotate_left
  focus ((intro w hSw; (try dsimp only at hSw); go_simp); (try with_reducible rfl))
  try simp only [Act.put, List.setIfInBounds_toArray, List.set_cons_zero, List.set_cons_succ]
  refine wpAnyH_take (i := 12) (oi := ?_) (v := ?_) (by simp only [List.getElem?_toArray, List.getElem?_cons_succ, List.getElem?_cons_zero]; rfl) (by kernel_rfl) (by kernel_rfl) (by kernel_rfl) (fun _ _ _ h => h) (Or.inl ⟨by rfl, ?_⟩) (by with_reducible assumption) ?_
  rotate_left
  focus ((intro w hSw; (try dsimp only at hSw); go_simp); (try with_reducible rfl))
  try simp only [Act.put, List.setIfInBounds_toArray, List.set_cons_zero, List.set_cons_succ]
  refine wpAnyH_take (i := 14) (oi := ?_) (v := ?_) (by simp only [List.getElem?_toArray, List.getElem?_cons_succ, List.getElem?_cons_zero]; rfl) (by kernel_rfl) (by kernel_rfl) (by kernel_rfl) (fun _ _ _ h => h) (Or.inl ⟨by rfl, ?_⟩) (by with_reducible assumption) ?_
  rotate_left
  focus ((intro w hSw; (try dsimp only at hSw); go_simp); (try with_reducible rfl))
  try simp only [Act.put, List.setIfInBounds_toArray, List.set_cons_zero, List.set_cons_succ]
  refine wpAnyH_take (i := 15) (oi := ?_) (v := ?_) (by simp only [List.getElem?_toArray, List.getElem?_cons_succ, List.getElem?_cons_zero]; rfl) (by kernel_rfl) (by kernel_rfl) (by kernel_rfl) (fun _ _ _ h => h) (Or.inl ⟨by rfl, ?_⟩) (by with_reducible assumption) ?_
  rotate_left
  focus ((intro w hSw; (try dsimp only at hSw); go_simp); (try with_reducible rfl))
  try simp only [Act.put, List.setIfInBounds_toArray, List.set_cons_zero, List.set_cons_succ]
  refine wpAnyH_ready (rs := [13]) (by kernel_rfl) (by simp) ?_
  refine AllReadyH.cons (o := ?_) (by simp only [List.getElem?_toArray, List.getElem?_cons_succ, List.getElem?_cons_zero]; rfl) (fun K hK => ?_) AllReadyH.nil
  go_simp
  (go_at_call 35; (with_reducible refine (C2.out _ (by first | with_reducible assumption | exact And.left (by with_reducible assumption))).mono ?_); rintro e wa4 ⟨B3, m3, d3, rfl, hw3, hb⟩; go_split_ands; have hBw : Below W1.heap.size W1 wa4 := keep_below (by with_reducible assumption) hb; have gw0 : wa4.cell? ⟨w.heap.size, 0, none⟩ = some (.bool bp) := keep_cell hb (by with_reducible assumption); have gw1 : wa4.cell? ⟨w.heap.size, 1, none⟩ = some (.slice Bp mp dp) := keep_cell hb (by with_reducible assumption); have gw2 : wa4.cell? ⟨w.heap.size + 1, 0, none⟩ = some (.bool false) := keep_cell hb (by with_reducible assumption); have gw3 : wa4.cell? ⟨w.heap.size + 1, 1, none⟩ = some (.slice Bq mq dq) := keep_cell hb (by with_reducible assumption))
  refine hK.out _ _ ?_ (fun hHeld => ?_)
  · ((try dsimp only); (first | (with_reducible exact ⟨hb0, j0, j1, j2, j3⟩) | (go_split_ands; (repeat' apply And.intro); all_goals (first | with_reducible assumption | with_reducible exact keep_below (by with_reducible assumption) hb | with_reducible exact keep_cell hb (by with_reducible assumption)))))
  clear hK K
  try simp only [Act.put, List.setIfInBounds_toArray, List.set_cons_zero, List.set_cons_succ]
  refine wpAnyH_ready (rs := [16]) (by kernel_rfl) (by simp) ?_
  refine AllReadyH.cons (o := ?_) (by simp only [List.getElem?_toArray, List.getElem?_cons_succ, List.getElem?_cons_zero]; rfl) (fun K hK => ?_) AllReadyH.nil
  go_simp
  (go_at_call 41; (with_reducible refine (C3.out _ (by first | with_reducible assumption | exact And.left (by with_reducible assumption)) _ _ _ hw3).mono ?_); rintro e wa5 ⟨rfl, hb⟩; go_split_ands; have hBw : Below W1.heap.size W1 wa5 := keep_below (by with_reducible assumption) hb; have gw0 : wa5.cell? ⟨w.heap.size, 0, none⟩ = some (.bool bp) := keep_cell hb (by with_reducible assumption); have gw1 : wa5.cell? ⟨w.heap.size, 1, none⟩ = some (.slice Bp mp dp) := keep_cell hb (by with_reducible assumption); have gw2 : wa5.cell? ⟨w.heap.size + 1, 0, none⟩ = some (.bool false) := keep_cell hb (by with_reducible assumption); have gw3 : wa5.cell? ⟨w.heap.size + 1, 1, none⟩ = some (.slice Bq mq dq) := keep_cell hb (by with_reducible assumption); (with_reducible have hw3 := hw3.below hb))
  refine hK.out _ _ ?_ (fun hHeld => ?_)
  · ((try dsimp only); (first | (with_reducible exact ⟨hb0, j0, j1, j2, j3⟩) | (go_split_ands; (repeat' apply And.intro); all_goals (first | with_reducible assumption | with_reducible exact keep_below (by with_reducible assumption) hb | with_reducible exact keep_cell hb (by with_reducible assumption)))))
  clear hK K
  try simp only [Act.put, List.setIfInBounds_toArray, List.set_cons_zero, List.set_cons_succ]
  refine wpAnyH_take (i := 17) (oi := ?_) (v := ?_) (by simp only [List.getElem?_toArray, List.getElem?_cons_succ, List.getElem?_cons_zero]; rfl) (by kernel_rfl) (by kernel_rfl) (by kernel_rfl) (fun _ _ _ h => h) (Or.inl ⟨by rfl, ?_⟩) (by with_reducible assumption) ?_
  rotate_left
  focus ((intro w hSw; (try dsimp only at hSw); go_simp); (try with_reducible rfl))
  try simp only [Act.put, List.setIfInBounds_toArray, List.set_cons_zero, List.set_cons_succ]
  refine wpAnyH_take (i := 18) (oi := ?_) (v := ?_) (by simp only [List.getElem?_toArray, List.getElem?_cons_succ, List.getElem?_cons_zero]; rfl) (by kernel_rfl) (by kernel_rfl) (by kernel_rfl) (fun _ _ _ h => h) (Or.inl ⟨by rfl, ?_⟩) (by with_reducible assumption) ?_
  rotate_left
  focus ((intro w hSw; (try dsimp only at hSw); go_simp); (try with_reducible rfl))
  try simp only [Act.put, List.setIfInBounds_toArray, List.set_cons_zero, List.set_cons_succ]
  refine wpAnyH_done (by kernel_rfl) ?_ _
  refine NoPanic.normal ?_
  clear hb
  have hB := keep_below hB hBw
  have HNp := Lib.hid (HNp.out.below hBw)
  have HNq := Lib.hid (HNq.out.below hBw)
  have g1 := keep_cell hBw g1
  have e1 := keep_cell hBw e1
  have g2 := keep_cell hBw g2
  have e2 := keep_cell hBw e2
  have HN3 := Lib.hid hw3
  clear hb0 hBw gw0 gw1 gw2 gw3 hw3
  clear j0
  clear j1
  clear j2
  clear j3
  clear C0 C1 C2 C3
  go_wp2
  go_ret
  exact ⟨by first | rfl | simp, hB⟩
set_option maxHeartbeats 16000000 in
theorem law7_like_gt {T : World → Prop} (hTb : ∀ w w', T w → Below w.heap.size w w' → T w') (IC : IntC T) (z : Int) (bp : Bool) (Bp : Option Addr) (mp dp : Nat) (bq : Bool) (Bq : Option Addr) (mq dq : Nat) (K : Nat) (hKK : K ≤ 16777216) (w : World) (sz : Sz K z.natAbs) (hp : IntIn w z bp Bp mp dp) (hq : RefIn w z bq Bq mq dq) (hT : T w) (h : 0 < z) :
    Calls Try.prog 14 #[.agg #[.bool bp, .slice Bp mp dp], .agg #[.bool bq, .slice Bq mq dq]] w fun e w' => e = .returned (.bool true) ∧ Below w.heap.size w w' := by
  have HIC := Lib.hid IC
  have HT := Lib.hid (fun w' (hb : Below w.heap.size w w') => hTb w w' hT hb)
  have HNp := Lib.hid hp
  have HNq := Lib.hid hq
  have HZp := Lib.hid sz
  have HZq := Lib.hid sz
  have Hh := Lib.hid h
  clear IC hT hp hq sz h
  go_enter Try.func14, Try.ntmps14
  have hB := Below.refl w.heap.size w
  obtain rfl : bq = false := HNq.out.1.trans (decide_eq_false (by have := Hh.out; omega))
  have hqq := h16_pos HNq.out.2 (by have := Hh.out; omega)
  have hrq : ((mq : Int) == 0) = false := by rw [beq_eq_false_iff_ne]; omega
  clear hqq
  have gm2_2_0 : ((w.alloc (.cells #[.bool bp, .slice Bp mp dp] 29)).alloc (.cells #[.bool false, .slice Bq mq dq] 34)).cell? ⟨w.heap.size + 1, 0, none⟩ = some (.bool false) := by
    obtain ⟨c1, c2, c3, _⟩ := box2 w 29 34 #[.bool bp, .slice Bp mp dp] #[.bool false, .slice Bq mq dq]
    exact c3.cell 0
  have gm2_2_1 : ((w.alloc (.cells #[.bool bp, .slice Bp mp dp] 29)).alloc (.cells #[.bool false, .slice Bq mq dq] 34)).cell? ⟨w.heap.size + 1, 1, none⟩ = some (.slice Bq mq dq) := by
    obtain ⟨c1, c2, c3, _⟩ := box2 w 29 34 #[.bool bp, .slice Bp mp dp] #[.bool false, .slice Bq mq dq]
    exact c3.cell 1
  obtain ⟨bx1, bx2, bx3, bz⟩ := box2 w 29 34 #[.bool bp, .slice Bp mp dp] #[.bool false, .slice Bq mq dq]
  have hB := keep_below hB bx1
  have HNp := Lib.hid (HNp.out.below bx1)
  have HNq := Lib.hid (HNq.out.below bx1)
  have g1 : ((w.alloc (.cells #[.bool bp, .slice Bp mp dp] 29)).alloc (.cells #[.bool false, .slice Bq mq dq] 34)).cell? ⟨w.heap.size, 0, none⟩ = some (.bool bp) := bx2.cell 0
  have e1 : ((w.alloc (.cells #[.bool bp, .slice Bp mp dp] 29)).alloc (.cells #[.bool false, .slice Bq mq dq] 34)).cell? ⟨w.heap.size, 1, none⟩ = some (.slice Bp mp dp) := bx2.cell 1
  have g2 : ((w.alloc (.cells #[.bool bp, .slice Bp mp dp] 29)).alloc (.cells #[.bool false, .slice Bq mq dq] 34)).cell? ⟨w.heap.size + 1, 0, none⟩ = some (.bool false) := bx3.cell 0
  have e2 : ((w.alloc (.cells #[.bool bp, .slice Bp mp dp] 29)).alloc (.cells #[.bool false, .slice Bq mq dq] 34)).cell? ⟨w.heap.size + 1, 1, none⟩ = some (.slice Bq mq dq) := bx3.cell 1
  clear bx1 bx2 bx3 bz
  go_wp2_with fail
  clear gm2_2_0 gm2_2_1
  generalize (w.alloc (.cells #[.bool bp, .slice Bp mp dp] 29)).alloc (.cells #[.bool false, .slice Bq mq dq] 34) = W1 at *
  have C0 := Lib.hid (fun w' (h : Below W1.heap.size W1 w') => ibelow_of (b := false) (decide_eq_false (by have := Hh.out; omega)) (HIC.out.belowI (z) bp Bp mp dp w' (HT.out _ (keep_below hB h)) (HNp.out.below h) (by have := Sz.words HZp.out HNp.out.words; omega)))
  have C1 := Lib.hid (fun w' (h : Below W1.heap.size W1 w') => isgn_of (v := 1) ((sgn_pos Hh.out)) (HIC.out.sign (z) bp Bp mp dp w' (HT.out _ (keep_below hB h)) (HNp.out.below h) (by have := Sz.words HZp.out HNp.out.words; omega)))
  have HZ3 : Hid (Sz (K) (z.natAbs)) := HZp.out
  have C2 := Lib.hid (fun w' (h : Below W1.heap.size W1 w') => HIC.out.abs (z) bp Bp mp dp w' (HT.out _ (keep_below hB h)) (HNp.out.below h) (by have := Sz.words HZp.out HNp.out.words; omega))
  have C3 := Lib.hid (fun w' (h : Below W1.heap.size W1 w') (B3 : Option Addr) (m3 : Nat) (d3 : Nat) (hw3 : WordsIn w' (z.natAbs) B3 m3 d3) => law2_like (z.natAbs) B3 Bq m3 d3 mq dq w' hw3 (HNq.out.below h).2 (by have := Sz.words HZ3.out hw3; omega) (by have := Sz.holds' HZq.out HNq.out.2; omega))
  have hb0 : Below W1.heap.size W1 W1.drew := (Below.refl _ W1).drew
  have j0 : W1.drew.cell? ⟨w.heap.size, 0, none⟩ = some (.bool bp) := g1
  have j1 : W1.drew.cell? ⟨w.heap.size, 1, none⟩ = some (.slice Bp mp dp) := e1
  have j2 : W1.drew.cell? ⟨w.heap.size + 1, 0, none⟩ = some (.bool false) := g2
  have j3 : W1.drew.cell? ⟨w.heap.size + 1, 1, none⟩ = some (.slice Bq mq dq) := e2
  refine wp_region_noPanic ?_
  refine wp_region_held_drew (S := (fun w' => Below W1.heap.size W1 w' ∧ w'.cell? ⟨w.heap.size, 0, none⟩ = some (.bool bp) ∧ w'.cell? ⟨w.heap.size, 1, none⟩ = some (.slice Bp mp dp) ∧ w'.cell? ⟨w.heap.size + 1, 0, none⟩ = some (.bool false) ∧ w'.cell? ⟨w.heap.size + 1, 1, none⟩ = some (.slice Bq mq dq))) (by kernel_rfl) ?_ (fun hHeld => ?_)
  · exact ⟨hb0, j0, j1, j2, j3⟩
  refine wpAnyH_take (i := 0) (oi := ?_) (v := ?_) (by simp only [List.getElem?_toArray, List.getElem?_cons_succ, List.getElem?_cons_zero]; rfl) (by kernel_rfl) (by kernel_rfl) (by kernel_rfl) (fun _ _ _ h => h) (Or.inl ⟨by rfl, ?_⟩) (by with_reducible assumption) ?_
  rotate_left
  focus ((intro w hSw; (try dsimp only at hSw); go_simp); (try with_reducible rfl))
  try simp only [Act.put, List.setIfInBounds_toArray, List.set_cons_zero, List.set_cons_succ]
  refine wpAnyH_take (i := 2) (oi := ?_) (v := ?_) (by simp only [List.getElem?_toArray, List.getElem?_cons_succ, List.getElem?_cons_zero]; rfl) (by kernel_rfl) (by kernel_rfl) (by kernel_rfl) (fun _ _ _ h => h) (Or.inl ⟨by rfl, ?_⟩) (by with_reducible assumption) ?_
  rotate_left
  focus ((intro w hSw; (try dsimp only at hSw); go_simp); (try with_reducible rfl))
  try simp only [Act.put, List.setIfInBounds_toArray, List.set_cons_zero, List.set_cons_succ]
  refine wpAnyH_take (i := 3) (oi := ?_) (v := ?_) (by simp only [List.getElem?_toArray, List.getElem?_cons_succ, List.getElem?_cons_zero]; rfl) (by kernel_rfl) (by kernel_rfl) (by kernel_rfl) (fun _ _ _ h => h) (Or.inl ⟨by rfl, ?_⟩) (by with_reducible assumption) ?_
  rotate_left
  focus ((intro w hSw; (try dsimp only at hSw); go_simp); (try with_reducible rfl))
  try simp only [Act.put, List.setIfInBounds_toArray, List.set_cons_zero, List.set_cons_succ]
  refine wpAnyH_ready (rs := [1]) (by kernel_rfl) (by simp) ?_
  refine AllReadyH.cons (o := ?_) (by simp only [List.getElem?_toArray, List.getElem?_cons_succ, List.getElem?_cons_zero]; rfl) (fun K hK => ?_) AllReadyH.nil
  go_simp
  (go_at_call 40; (with_reducible refine (C0.out _ (by first | with_reducible assumption | exact And.left (by with_reducible assumption))).mono ?_); rintro e wa2 ⟨rfl, hb⟩; go_split_ands; have hBw : Below W1.heap.size W1 wa2 := keep_below (by with_reducible assumption) hb; have gw0 : wa2.cell? ⟨w.heap.size, 0, none⟩ = some (.bool bp) := keep_cell hb (by with_reducible assumption); have gw1 : wa2.cell? ⟨w.heap.size, 1, none⟩ = some (.slice Bp mp dp) := keep_cell hb (by with_reducible assumption); have gw2 : wa2.cell? ⟨w.heap.size + 1, 0, none⟩ = some (.bool false) := keep_cell hb (by with_reducible assumption); have gw3 : wa2.cell? ⟨w.heap.size + 1, 1, none⟩ = some (.slice Bq mq dq) := keep_cell hb (by with_reducible assumption))
  refine hK.out _ _ ?_ (fun hHeld => ?_)
  · ((try dsimp only); (first | (with_reducible exact ⟨hb0, j0, j1, j2, j3⟩) | (go_split_ands; (repeat' apply And.intro); all_goals (first | with_reducible assumption | with_reducible exact keep_below (by with_reducible assumption) hb | with_reducible exact keep_cell hb (by with_reducible assumption)))))
  clear hK K
  try simp only [Act.put, List.setIfInBounds_toArray, List.set_cons_zero, List.set_cons_succ]
  refine wpAnyH_take (i := 4) (oi := ?_) (v := ?_) (by simp only [List.getElem?_toArray, List.getElem?_cons_succ, List.getElem?_cons_zero]; rfl) (by kernel_rfl) (by kernel_rfl) (by kernel_rfl) (fun _ _ _ h => h) (Or.inl ⟨by rfl, ?_⟩) (by with_reducible assumption) ?_
  rotate_left
  focus ((intro w hSw; (try dsimp only at hSw); go_simp); (try with_reducible rfl))
  try simp only [Act.put, List.setIfInBounds_toArray, List.set_cons_zero, List.set_cons_succ]
  refine wpAnyH_take (i := 5) (oi := ?_) (v := ?_) (by simp only [List.getElem?_toArray, List.getElem?_cons_succ, List.getElem?_cons_zero]; rfl) (by kernel_rfl) (by kernel_rfl) (by kernel_rfl) (fun _ _ _ h => h) (Or.inl ⟨by rfl, ?_⟩) (by with_reducible assumption) ?_
  rotate_left
  focus ((intro w hSw; (try dsimp only at hSw); go_simp); (try with_reducible rfl))
  try simp only [Act.put, List.setIfInBounds_toArray, List.set_cons_zero, List.set_cons_succ]
  refine wpAnyH_take (i := 6) (oi := ?_) (v := ?_) (by simp only [List.getElem?_toArray, List.getElem?_cons_succ, List.getElem?_cons_zero]; rfl) (by kernel_rfl) (by kernel_rfl) (by kernel_rfl) (fun _ _ _ h => h) (Or.inl ⟨by rfl, ?_⟩) (by with_reducible assumption) ?_
  rotate_left
  focus ((intro w hSw; (try dsimp only at hSw); go_simp); (try with_reducible rfl))
  try simp only [Act.put, List.setIfInBounds_toArray, List.set_cons_zero, List.set_cons_succ]
  refine wpAnyH_take (i := 8) (oi := ?_) (v := ?_) (by simp only [List.getElem?_toArray, List.getElem?_cons_succ, List.getElem?_cons_zero]; rfl) (by kernel_rfl) (by kernel_rfl) (by kernel_rfl) (fun _ _ _ h => h) (Or.inl ⟨by rfl, ?_⟩) (by with_reducible assumption) ?_
  rotate_left
  focus ((intro w hSw; (try dsimp only at hSw); go_simp); (try with_reducible rfl))
  try simp only [Act.put, List.setIfInBounds_toArray, List.set_cons_zero, List.set_cons_succ]
  refine wpAnyH_ready (rs := [7]) (by kernel_rfl) (by simp) ?_
  refine AllReadyH.cons (o := ?_) (by simp only [List.getElem?_toArray, List.getElem?_cons_succ, List.getElem?_cons_zero]; rfl) (fun K hK => ?_) AllReadyH.nil
  go_simp
  (go_at_call 25; (with_reducible refine (C1.out _ (by first | with_reducible assumption | exact And.left (by with_reducible assumption))).mono ?_); rintro e wa3 ⟨rfl, hb⟩; go_split_ands; have hBw : Below W1.heap.size W1 wa3 := keep_below (by with_reducible assumption) hb; have gw0 : wa3.cell? ⟨w.heap.size, 0, none⟩ = some (.bool bp) := keep_cell hb (by with_reducible assumption); have gw1 : wa3.cell? ⟨w.heap.size, 1, none⟩ = some (.slice Bp mp dp) := keep_cell hb (by with_reducible assumption); have gw2 : wa3.cell? ⟨w.heap.size + 1, 0, none⟩ = some (.bool false) := keep_cell hb (by with_reducible assumption); have gw3 : wa3.cell? ⟨w.heap.size + 1, 1, none⟩ = some (.slice Bq mq dq) := keep_cell hb (by with_reducible assumption))
  refine hK.out _ _ ?_ (fun hHeld => ?_)
  · ((try dsimp only); (first | (with_reducible exact ⟨hb0, j0, j1, j2, j3⟩) | (go_split_ands; (repeat' apply And.intro); all_goals (first | with_reducible assumption | with_reducible exact keep_below (by with_reducible assumption) hb | with_reducible exact keep_cell hb (by with_reducible assumption)))))
  clear hK K
  try simp only [Act.put, List.setIfInBounds_toArray, List.set_cons_zero, List.set_cons_succ]
  refine wpAnyH_take (i := 9) (oi := ?_) (v := ?_) (by simp only [List.getElem?_toArray, List.getElem?_cons_succ, List.getElem?_cons_zero]; rfl) (by kernel_rfl) (by kernel_rfl) (by kernel_rfl) (fun _ _ _ h => h) (Or.inl ⟨by rfl, ?_⟩) (by with_reducible assumption) ?_
  rotate_left
  focus ((intro w hSw; (try dsimp only at hSw); go_simp); (try with_reducible rfl))
  try simp only [Act.put, List.setIfInBounds_toArray, List.set_cons_zero, List.set_cons_succ]
  refine wpAnyH_take (i := 10) (oi := ?_) (v := ?_) (by simp only [List.getElem?_toArray, List.getElem?_cons_succ, List.getElem?_cons_zero]; rfl) (by kernel_rfl) (by kernel_rfl) (by kernel_rfl) (fun _ _ _ h => h) (Or.inl ⟨by rfl, ?_⟩) (by with_reducible assumption) ?_
  rotate_left
  focus ((intro w hSw; (try dsimp only at hSw); go_simp); (try with_reducible rfl))
  try simp only [Act.put, List.setIfInBounds_toArray, List.set_cons_zero, List.set_cons_succ]
  refine wpAnyH_take (i := 11) (oi := ?_) (v := ?_) (by simp only [List.getElem?_toArray, List.getElem?_cons_succ, List.getElem?_cons_zero]; rfl) (by kernel_rfl) (by kernel_rfl) (by kernel_rfl) (fun _ _ _ h => h) (Or.inl ⟨by rfl, ?_⟩) (by with_reducible assumption) ?_
  rotate_left
  focus ((intro w hSw; (try dsimp only at hSw); go_simp); (try with_reducible rfl))
  try simp only [Act.put, List.setIfInBounds_toArray, List.set_cons_zero, List.set_cons_succ]
  refine wpAnyH_take (i := 12) (oi := ?_) (v := ?_) (by simp only [List.getElem?_toArray, List.getElem?_cons_succ, List.getElem?_cons_zero]; rfl) (by kernel_rfl) (by kernel_rfl) (by kernel_rfl) (fun _ _ _ h => h) (Or.inl ⟨by rfl, ?_⟩) (by with_reducible assumption) ?_
  rotate_left
  focus ((intro w hSw; (try dsimp only at hSw); go_simp); (try with_reducible rfl))
  try simp only [Act.put, List.setIfInBounds_toArray, List.set_cons_zero, List.set_cons_succ]
  refine wpAnyH_take (i := 14) (oi := ?_) (v := ?_) (by simp only [List.getElem?_toArray, List.getElem?_cons_succ, List.getElem?_cons_zero]; rfl) (by kernel_rfl) (by kernel_rfl) (by kernel_rfl) (fun _ _ _ h => h) (Or.inl ⟨by rfl, ?_⟩) (by with_reducible assumption) ?_
  rotate_left
  focus ((intro w hSw; (try dsimp only at hSw); go_simp); (try with_reducible rfl))
  try simp only [Act.put, List.setIfInBounds_toArray, List.set_cons_zero, List.set_cons_succ]
  refine wpAnyH_take (i := 15) (oi := ?_) (v := ?_) (by simp only [List.getElem?_toArray, List.getElem?_cons_succ, List.getElem?_cons_zero]; rfl) (by kernel_rfl) (by kernel_rfl) (by kernel_rfl) (fun _ _ _ h => h) (Or.inl ⟨by rfl, ?_⟩) (by with_reducible assumption) ?_
  rotate_left
  focus ((intro w hSw; (try dsimp only at hSw); go_simp); (try with_reducible rfl))
  try simp only [Act.put, List.setIfInBounds_toArray, List.set_cons_zero, List.set_cons_succ]
  refine wpAnyH_ready (rs := [13]) (by kernel_rfl) (by simp) ?_
  refine AllReadyH.cons (o := ?_) (by simp only [List.getElem?_toArray, List.getElem?_cons_succ, List.getElem?_cons_zero]; rfl) (fun K hK => ?_) AllReadyH.nil
  go_simp
  (go_at_call 35; (with_reducible refine (C2.out _ (by first | with_reducible assumption | exact And.left (by with_reducible assumption))).mono ?_); rintro e wa4 ⟨B3, m3, d3, rfl, hw3, hb⟩; go_split_ands; have hBw : Below W1.heap.size W1 wa4 := keep_below (by with_reducible assumption) hb; have gw0 : wa4.cell? ⟨w.heap.size, 0, none⟩ = some (.bool bp) := keep_cell hb (by with_reducible assumption); have gw1 : wa4.cell? ⟨w.heap.size, 1, none⟩ = some (.slice Bp mp dp) := keep_cell hb (by with_reducible assumption); have gw2 : wa4.cell? ⟨w.heap.size + 1, 0, none⟩ = some (.bool false) := keep_cell hb (by with_reducible assumption); have gw3 : wa4.cell? ⟨w.heap.size + 1, 1, none⟩ = some (.slice Bq mq dq) := keep_cell hb (by with_reducible assumption))
  refine hK.out _ _ ?_ (fun hHeld => ?_)
  · ((try dsimp only); (first | (with_reducible exact ⟨hb0, j0, j1, j2, j3⟩) | (go_split_ands; (repeat' apply And.intro); all_goals (first | with_reducible assumption | with_reducible exact keep_below (by with_reducible assumption) hb | with_reducible exact keep_cell hb (by with_reducible assumption)))))
  clear hK K
  try simp only [Act.put, List.setIfInBounds_toArray, List.set_cons_zero, List.set_cons_succ]
  refine wpAnyH_ready (rs := [16]) (by kernel_rfl) (by simp) ?_
  refine AllReadyH.cons (o := ?_) (by simp only [List.getElem?_toArray, List.getElem?_cons_succ, List.getElem?_cons_zero]; rfl) (fun K hK => ?_) AllReadyH.nil
  go_simp
  (go_at_call 41; (with_reducible refine (C3.out _ (by first | with_reducible assumption | exact And.left (by with_reducible assumption)) _ _ _ hw3).mono ?_); rintro e wa5 ⟨rfl, hb⟩; go_split_ands; have hBw : Below W1.heap.size W1 wa5 := keep_below (by with_reducible assumption) hb; have gw0 : wa5.cell? ⟨w.heap.size, 0, none⟩ = some (.bool bp) := keep_cell hb (by with_reducible assumption); have gw1 : wa5.cell? ⟨w.heap.size, 1, none⟩ = some (.slice Bp mp dp) := keep_cell hb (by with_reducible assumption); have gw2 : wa5.cell? ⟨w.heap.size + 1, 0, none⟩ = some (.bool false) := keep_cell hb (by with_reducible assumption); have gw3 : wa5.cell? ⟨w.heap.size + 1, 1, none⟩ = some (.slice Bq mq dq) := keep_cell hb (by with_reducible assumption); (with_reducible have hw3 := hw3.below hb))
  refine hK.out _ _ ?_ (fun hHeld => ?_)
  · ((try dsimp only); (first | (with_reducible exact ⟨hb0, j0, j1, j2, j3⟩) | (go_split_ands; (repeat' apply And.intro); all_goals (first | with_reducible assumption | with_reducible exact keep_below (by with_reducible assumption) hb | with_reducible exact keep_cell hb (by with_reducible assumption)))))
  clear hK K
  try simp only [Act.put, List.setIfInBounds_toArray, List.set_cons_zero, List.set_cons_succ]
  refine wpAnyH_take (i := 17) (oi := ?_) (v := ?_) (by simp only [List.getElem?_toArray, List.getElem?_cons_succ, List.getElem?_cons_zero]; rfl) (by kernel_rfl) (by kernel_rfl) (by kernel_rfl) (fun _ _ _ h => h) (Or.inl ⟨by rfl, ?_⟩) (by with_reducible assumption) ?_
  rotate_left
  focus ((intro w hSw; (try dsimp only at hSw); go_simp); (try with_reducible rfl))
  try simp only [Act.put, List.setIfInBounds_toArray, List.set_cons_zero, List.set_cons_succ]
  refine wpAnyH_take (i := 18) (oi := ?_) (v := ?_) (by simp only [List.getElem?_toArray, List.getElem?_cons_succ, List.getElem?_cons_zero]; rfl) (by kernel_rfl) (by kernel_rfl) (by kernel_rfl) (fun _ _ _ h => h) (Or.inl ⟨by rfl, ?_⟩) (by with_reducible assumption) ?_
  rotate_left
  focus ((intro w hSw; (try dsimp only at hSw); go_simp); (try with_reducible rfl))
  try simp only [Act.put, List.setIfInBounds_toArray, List.set_cons_zero, List.set_cons_succ]
  refine wpAnyH_done (by kernel_rfl) ?_ _
  refine NoPanic.normal ?_
  clear hb
  have hB := keep_below hB hBw
  have HNp := Lib.hid (HNp.out.below hBw)
  have HNq := Lib.hid (HNq.out.below hBw)
  have g1 := keep_cell hBw g1
  have e1 := keep_cell hBw e1
  have g2 := keep_cell hBw g2
  have e2 := keep_cell hBw e2
  have HN3 := Lib.hid hw3
  clear hb0 hBw gw0 gw1 gw2 gw3 hw3
  clear j0
  clear j1
  clear j2
  clear j3
  clear C0 C1 C2 C3
  go_wp2
  go_ret
  exact ⟨by first | rfl | simp, hB⟩
theorem law7_like {T : World → Prop} (hTb : ∀ w w', T w → Below w.heap.size w w' → T w') (IC : IntC T) (z : Int) (bp : Bool) (Bp : Option Addr) (mp dp : Nat) (bq : Bool) (Bq : Option Addr) (mq dq : Nat) (K : Nat) (hKK : K ≤ 16777216) (w : World) (sz : Sz K z.natAbs) (hp : IntIn w z bp Bp mp dp) (hq : RefIn w z bq Bq mq dq) (hT : T w) :
    Calls Try.prog 14 #[.agg #[.bool bp, .slice Bp mp dp], .agg #[.bool bq, .slice Bq mq dq]] w fun e w' => e = .returned (.bool true) ∧ Below w.heap.size w w' := by
  rcases Int.lt_trichotomy z 0 with h | h | h
  · exact law7_like_lt hTb IC z bp Bp mp dp bq Bq mq dq K hKK w sz hp hq hT h
  · exact law7_like_eq hTb IC z bp Bp mp dp bq Bq mq dq K hKK w sz hp hq hT h
  · exact law7_like_gt hTb IC z bp Bp mp dp bq Bq mq dq K hKK w sz hp hq hT h
end Go.Proofs.Ytnfednkphcapnaa
