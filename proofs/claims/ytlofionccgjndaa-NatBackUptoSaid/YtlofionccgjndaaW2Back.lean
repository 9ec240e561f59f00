/-
  The walk of the law NatBack. Conditions: the words that came in are words, at most 1048576 of each.
-/
import Derived.Test.YtlofionccgjndaaRows
import Derived.Test.YtlofionccgjndaaN2Args
import Derived.Test.YtlofionccgjndaaNAdd
import Derived.Test.YtlofionccgjndaaNSub
import Derived.WalkKit
import Derived.Lib.Hide
import Derived.Outline
import Derived.Deep.RegionHeld3
namespace Go.Proofs.Ytlofionccgjndaa
open Go Go.RowKit
set_option maxRecDepth 100000
set_option linter.unusedVariables false
set_option maxHeartbeats 8000000 in
theorem natBack_walk (A0 : Option Addr) (n0 c0 : Nat) (l0 : List Nat) (A1 : Option Addr) (n1 c1 : Nat) (l1 : List Nat) (A2 : Option Addr) (n2 c2 : Nat) (l2 : List Nat) (w : World) (h0 : ArgWords w A0 n0 c0 l0) (h1 : ArgWords w A1 n1 c1 l1) (h2 : ArgWords w A2 n2 c2 l2) :
    Calls Try.prog 5 #[.slice A0 n0 c0, .slice A1 n1 c1, .slice A2 n2 c2] w fun e w' => e = .returned (.bool true) ∧ Below w.heap.size w w' := by
  obtain ⟨K, hK⟩ : ∃ K, 1048576 = K := ⟨_, rfl⟩
  have O0 := arg_of h0
  have O1 := arg_of h1
  have O2 := arg_of h2
  have S0 := arg_sz h0
  have S1 := arg_sz h1
  have S2 := arg_sz h2
  rw [hK] at S0 S1 S2
  have hK2 : K ≤ 1048576 := by omega
  obtain ⟨x, hx⟩ : ∃ x, dv 18446744073709551616 l0 = x := ⟨_, rfl⟩
  obtain ⟨y, hy⟩ : ∃ x, dv 18446744073709551616 l1 = x := ⟨_, rfl⟩
  obtain ⟨z, hz⟩ : ∃ x, dv 18446744073709551616 l2 = x := ⟨_, rfl⟩
  rw [hx] at O0 S0
  rw [hy] at O1 S1
  rw [hz] at O2 S2
  have HO0 := Lib.hid O0
  have HO1 := Lib.hid O1
  have HO2 := Lib.hid O2
  have HS0 := Lib.hid S0
  have HS1 := Lib.hid S1
  have HS2 := Lib.hid S2
  clear O0 O1 O2 S0 S1 S2 h0 h1 h2 hx hy hz hK
  go_enter Try.func5, Try.ntmps5
  go_wp2_with fail
  refine (law2_awake _).mono ?_
  rintro e w1 ⟨rfl, hB⟩
  go_wp2_with fail
  refine (HO0.out _ hB).mono ?_
  rintro e w2 ⟨B0, m0, d0, rfl, hw0, hb, _⟩
  have hB := keep_below hB hb
  have HX := Lib.hid hw0
  clear hb hw0
  go_wp2_with fail
  refine (HO1.out _ hB).mono ?_
  rintro e w3 ⟨B1, m1, d1, rfl, hw1, hb, _⟩
  have hB := keep_below hB hb
  have HX := Lib.hid (HX.out.below hb)
  have HY := Lib.hid hw1
  clear hb hw1
  go_wp2_with fail
  refine (HO2.out _ hB).mono ?_
  rintro e w4 ⟨B2, m2, d2, rfl, hw2, hb, _⟩
  have hB := keep_below hB hb
  have HX := Lib.hid (HX.out.below hb)
  have HY := Lib.hid (HY.out.below hb)
  have HZ := Lib.hid hw2
  clear hb hw2
  go_wp2_with fail
  generalize hW : ((w4.alloc (.cells #[.slice B0 m0 d0] 25)).alloc (.cells #[.slice B1 m1 d1] 25)).alloc (.cells #[.slice B2 m2 d2] 25) = W4
  obtain ⟨b1, b2, b3, b4, b5⟩ := box3 w4 25 25 25 #[.slice B0 m0 d0] #[.slice B1 m1 d1] #[.slice B2 m2 d2]
  rw [hW] at b1 b2 b3 b4 b5
  have hB := keep_below hB b1
  have HX := Lib.hid (HX.out.below b1)
  have HY := Lib.hid (HY.out.below b1)
  have HZ := Lib.hid (HZ.out.below b1)
  have g7 : W4.cell? ⟨w4.heap.size, 0, none⟩ = some (.slice B0 m0 d0) := b2.cell 0
  have g8 : W4.cell? ⟨w4.heap.size + 1, 0, none⟩ = some (.slice B1 m1 d1) := b3.cell 0
  have g9 : W4.cell? ⟨w4.heap.size + 1 + 1, 0, none⟩ = some (.slice B2 m2 d2) := b4.cell 0
  clear hW b1 b2 b3 b4 b5
  generalize w4.heap.size = p at *
  -- s = x + y
  refine (nat_add x y B0 B1 m0 m1 d0 d1 W4 HX.out HY.out (by have := HS0.out.words HX.out; omega) (by have := HS1.out.words HY.out; omega)).mono ?_
  rintro e w5 ⟨B3, m3, d3, rfl, hw3, hb, _⟩
  have HSS : Hid (Sz (K + 1) (x + y)) := HS0.out.add HS1.out
  have hb := keep_below hb (up_alloc w5 (.cells #[.slice B3 m3 d3] 25))
  have hB := keep_below hB hb
  have HX := Lib.hid (HX.out.below hb)
  have HY := Lib.hid (HY.out.below hb)
  have HZ := Lib.hid (HZ.out.below hb)
  have HS := Lib.hid (hw3.below (up_alloc w5 (.cells #[.slice B3 m3 d3] 25)))
  have g7 := keep_cell hb g7
  have g8 := keep_cell hb g8
  have g9 := keep_cell hb g9
  have g10 : (w5.alloc (.cells #[.slice B3 m3 d3] 25)).cell? ⟨w5.heap.size, 0, none⟩ = some (.slice B3 m3 d3) := (Blk.new w5 _ _).cell 0
  clear hb hw3
  go_wp2_with fail
  generalize w5.alloc (.cells #[.slice B3 m3 d3] 25) = W5 at *
  generalize w5.heap.size = q at *
  -- d = s - y
  refine (nat_sub (x + y) y B3 B1 m3 m1 d3 d1 W5 HS.out HY.out (by have := HSS.out.words HS.out; omega) (by have := HS1.out.words HY.out; omega) (by omega)).mono ?_
  rintro e w6 ⟨B4, m4, d4, rfl, hw4, hb, _⟩
  rw [Nat.add_sub_cancel] at hw4
  have hb := keep_below hb (up_alloc w6 (.cells #[.slice B4 m4 d4] 25))
  have hB := keep_below hB hb
  have HX := Lib.hid (HX.out.below hb)
  have HY := Lib.hid (HY.out.below hb)
  have HZ := Lib.hid (HZ.out.below hb)
  have HS := Lib.hid (HS.out.below hb)
  have HD := Lib.hid (hw4.below (up_alloc w6 (.cells #[.slice B4 m4 d4] 25)))
  have g7 := keep_cell hb g7
  have g8 := keep_cell hb g8
  have g9 := keep_cell hb g9
  have g10 := keep_cell hb g10
  have g11 : (w6.alloc (.cells #[.slice B4 m4 d4] 25)).cell? ⟨w6.heap.size, 0, none⟩ = some (.slice B4 m4 d4) := (Blk.new w6 _ _).cell 0
  clear hb hw4
  go_wp2_with fail
  generalize w6.alloc (.cells #[.slice B4 m4 d4] 25) = W6 at *
  generalize w6.heap.size = r at *
  have hz01 := cmpI_01 (x := x + y) (y := x) (by omega)
  have C1 := Lib.hid (fun w' (h : Below W6.heap.size W6 w') => cmp_same (x := x) (y := x) HS0.out rfl (by omega) (HD.out.below h) (HX.out.below h))
  have C2 := (fun w' (h : Below W6.heap.size W6 w') => cmp_sz (x := x + y) (y := x) HSS.out (HS0.out.up (by omega)) (by omega) (HS.out.below h) (HX.out.below h))
  have C3 := Lib.hid (fun w' (h : Below W6.heap.size W6 w') => nat_add y x B1 B0 m1 m0 d1 d0 w' (HY.out.below h) (HX.out.below h) (by have := HS1.out.words HY.out; omega) (by have := HS0.out.words HX.out; omega))
  have C4 := Lib.hid (fun w' (h : Below W6.heap.size W6 w') A' n' c' (hw : WordsIn w' (y + x) A' n' c') => cmp_same (K := K + 1) (x := y + x) (y := x + y) (HS1.out.add HS0.out) (Nat.add_comm _ _) (by omega) hw (HS.out.below h))
  obtain ⟨v, hv⟩ : ∃ v, cmpI (x + y) x = v := ⟨_, rfl⟩
  rw [hv] at C2 hz01
  obtain ⟨v0, v1⟩ := hz01
  have C2 := Lib.hid C2
  have v2 : ¬ v < 0 := by omega
  have v3 : decide (v < 0) = false := by simpa using v0
  rename_i C2o
  clear C2o hv
  have hb0 : Below W6.heap.size W6 W6.drew := (Below.refl _ W6).drew
  have k7 : W6.drew.cell? ⟨p, 0, none⟩ = some (.slice B0 m0 d0) := g7
  have k8 : W6.drew.cell? ⟨p + 1, 0, none⟩ = some (.slice B1 m1 d1) := g8
  have k10 : W6.drew.cell? ⟨q, 0, none⟩ = some (.slice B3 m3 d3) := g10
  have k11 : W6.drew.cell? ⟨r, 0, none⟩ = some (.slice B4 m4 d4) := g11
  go_region_held3 (fun w' => Below W6.heap.size W6 w' ∧ w'.cell? ⟨p, 0, none⟩ = some (.slice B0 m0 d0) ∧ w'.cell? ⟨p + 1, 0, none⟩ = some (.slice B1 m1 d1) ∧ w'.cell? ⟨q, 0, none⟩ = some (.slice B3 m3 d3) ∧ w'.cell? ⟨r, 0, none⟩ = some (.slice B4 m4 d4))
    (first | (exact ⟨hb0, k7, k8, k10, k11⟩) | (go_split_ands; refine ⟨?_, ?_, ?_, ?_, ?_⟩; all_goals (first | with_reducible assumption | exact keep_below (by with_reducible assumption) hb | exact keep_cell hb (by with_reducible assumption))))
    (first
      | (go_at_call 13; (with_reducible refine (C1.out _ (by first | with_reducible assumption | exact And.left (by with_reducible assumption))).mono ?_); rintro e w' ⟨rfl, hb⟩)
      | (go_at_call 13; (with_reducible refine (C2.out _ (by first | with_reducible assumption | exact And.left (by with_reducible assumption))).mono ?_); rintro e w' ⟨rfl, hb⟩)
      | (go_at_call 15; (with_reducible refine (C3.out _ (by first | with_reducible assumption | exact And.left (by with_reducible assumption))).mono ?_); rintro e w' ⟨A9, n9, c9, rfl, hw9, hb, _⟩)
      | (go_at_call 13; (with_reducible refine (C4.out _ (by first | with_reducible assumption | exact And.left (by with_reducible assumption)) _ _ _ (by with_reducible assumption)).mono ?_); rintro e w' ⟨rfl, hb⟩))
  rename_i hH
  obtain ⟨hb6, k7, k8, k10, _⟩ := hH
  have k9 := keep_cell hb6 g9
  have hB := keep_below hB hb6
  have HX := Lib.hid (HX.out.below hb6)
  have HY := Lib.hid (HY.out.below hb6)
  have HZ := Lib.hid (HZ.out.below hb6)
  have HS := Lib.hid (HS.out.below hb6)
  clear hb hb0 hb6 g7 g8 g9 g10 g11 hw9 C1 C2 C3 C4 v0 v1 v3
  go_wp2_with fail
  generalize w' = W7 at *
  have E1 := Lib.hid (fun w' (h : Below W7.heap.size W7 w') => nat_add (x + y) z B3 B2 m3 m2 d3 d2 w' (HS.out.below h) (HZ.out.below h) (by have := HSS.out.words HS.out; omega) (by have := HS2.out.words HZ.out; omega))
  have E2 := Lib.hid (fun w' (h : Below W7.heap.size W7 w') => nat_add y z B1 B2 m1 m2 d1 d2 w' (HY.out.below h) (HZ.out.below h) (by have := HS1.out.words HY.out; omega) (by have := HS2.out.words HZ.out; omega))
  have E3 := Lib.hid (fun w' (h : Below W7.heap.size W7 w') A' n' c' (hw : WordsIn w' (y + z) A' n' c') => nat_add x (y + z) B0 A' m0 n' d0 c' w' (HX.out.below h) hw (by have := HS0.out.words HX.out; omega) (by have := (HS1.out.add HS2.out).words hw; omega))
  have E4 := Lib.hid (fun w' A' n' c' A'' n'' c'' (hw : WordsIn w' (x + y + z) A' n' c') (hw' : WordsIn w' (x + (y + z)) A'' n'' c'') => cmp_same (K := K + 1 + 1) (x := x + y + z) (y := x + (y + z)) (HSS.out.add (HS2.out.up (by omega))) (Nat.add_assoc _ _ _) (by omega) hw hw')
  have hb0 : Below W7.heap.size W7 W7.drew := (Below.refl _ W7).drew
  have j7 : W7.drew.cell? ⟨p, 0, none⟩ = some (.slice B0 m0 d0) := k7
  have j8 : W7.drew.cell? ⟨p + 1, 0, none⟩ = some (.slice B1 m1 d1) := k8
  have j9 : W7.drew.cell? ⟨p + 1 + 1, 0, none⟩ = some (.slice B2 m2 d2) := k9
  have j10 : W7.drew.cell? ⟨q, 0, none⟩ = some (.slice B3 m3 d3) := k10
  go_region_held3 (fun w' => Below W7.heap.size W7 w' ∧ w'.cell? ⟨p, 0, none⟩ = some (.slice B0 m0 d0) ∧ w'.cell? ⟨p + 1, 0, none⟩ = some (.slice B1 m1 d1) ∧ w'.cell? ⟨p + 1 + 1, 0, none⟩ = some (.slice B2 m2 d2) ∧ w'.cell? ⟨q, 0, none⟩ = some (.slice B3 m3 d3))
    (first | (exact ⟨hb0, j7, j8, j9, j10⟩) | (go_split_ands; refine ⟨?_, ?_, ?_, ?_, ?_⟩; all_goals (first | with_reducible assumption | exact keep_below (by with_reducible assumption) hb | exact keep_cell hb (by with_reducible assumption))))
    (first
      | (go_at_call 15; (with_reducible refine (E1.out _ (by first | with_reducible assumption | exact And.left (by with_reducible assumption))).mono ?_); rintro e w' ⟨A8, n8, c8, rfl, hw8, hb, _⟩)
      | (go_at_call 15; (with_reducible refine (E2.out _ (by first | with_reducible assumption | exact And.left (by with_reducible assumption))).mono ?_); rintro e w' ⟨A9, n9, c9, rfl, hw9, hb, _⟩; have hw8 := hw8.below hb)
      | (go_at_call 15; (with_reducible refine (E3.out _ (by first | with_reducible assumption | exact And.left (by with_reducible assumption)) _ _ _ hw9).mono ?_); rintro e w' ⟨A7, n7, c7, rfl, hw7, hb, _⟩; have hw8 := hw8.below hb)
      | (go_at_call 13; (with_reducible refine (E4.out _ _ _ _ _ _ _ hw8 hw7).mono ?_); rintro e w' ⟨rfl, hb⟩))
  rename_i hH
  obtain ⟨hb7, _, _, _, _⟩ := hH
  have hB := keep_below hB hb7
  clear hb hb0 hb7
  go_wp2
  go_ret
  exact ⟨by first | rfl | simp, hB⟩
end Go.Proofs.Ytlofionccgjndaa
