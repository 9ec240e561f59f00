/-
  The walk of the law ProdSpreads. Conditions: the words that came in are words, at most 1048576 of each; prod's functions do as ProdC says.
-/
import Derived.Test.YtonjhcmppiioeaaRows
import Derived.Test.YtonjhcmppiioeaaW3Awake
import Derived.Test.YtonjhcmppiioeaaNAdd
import Derived.WalkKit
import Derived.Lib.Hide
import Derived.Outline
import Derived.Deep.RegionHeld3
namespace Go.Proofs.Ytonjhcmppiioeaa
open Go Go.RowKit
set_option maxRecDepth 100000
set_option linter.unusedVariables false
set_option linter.unusedSimpArgs false
set_option maxHeartbeats 16000000 in
theorem prodSpreads_core (PC : ProdC) (A0 : Option Addr) (n0 c0 : Nat) (l0 : List Nat) (A1 : Option Addr) (n1 c1 : Nat) (l1 : List Nat) (A2 : Option Addr) (n2 c2 : Nat) (l2 : List Nat) (w : World) (h0 : ArgWords w A0 n0 c0 l0) (h1 : ArgWords w A1 n1 c1 l1) (h2 : ArgWords w A2 n2 c2 l2) :
    Calls Try.prog 6 #[.slice A0 n0 c0, .slice A1 n1 c1, .slice A2 n2 c2] w fun e w' => e = .returned (.bool true) ∧ Below w.heap.size w w' := by
  have HPC := Lib.hid PC
  obtain ⟨K, hK⟩ : ∃ K, 1048576 = K := ⟨_, rfl⟩
  have O0 := arg_of h0
  have S0 := arg_sz h0
  have O1 := arg_of h1
  have S1 := arg_sz h1
  have O2 := arg_of h2
  have S2 := arg_sz h2
  rw [hK] at S0 S1 S2
  have hK2 : K ≤ 1048576 := by omega
  obtain ⟨x, hx0⟩ : ∃ v, dv 18446744073709551616 l0 = v := ⟨_, rfl⟩
  rw [hx0] at O0 S0
  have HO0 := Lib.hid O0
  have HS0 := Lib.hid S0
  obtain ⟨y, hx1⟩ : ∃ v, dv 18446744073709551616 l1 = v := ⟨_, rfl⟩
  rw [hx1] at O1 S1
  have HO1 := Lib.hid O1
  have HS1 := Lib.hid S1
  obtain ⟨z, hx2⟩ : ∃ v, dv 18446744073709551616 l2 = v := ⟨_, rfl⟩
  rw [hx2] at O2 S2
  have HO2 := Lib.hid O2
  have HS2 := Lib.hid S2
  clear PC O0 S0 h0 hx0 O1 S1 h1 hx1 O2 S2 h2 hx2 hK
  go_enter Try.func6, Try.ntmps6
  go_wp2_with fail
  refine (law3_awake HPC.out _).mono ?_
  rintro e w1 ⟨rfl, hB⟩
  go_wp2_with fail
  refine (HO0.out _ hB).mono ?_
  rintro e v0 ⟨B0, m0, d0, rfl, hw0, hb, _⟩
  have hB := keep_below hB hb
  have HX := Lib.hid hw0
  clear hb hw0
  go_wp2_with fail
  refine (HO1.out _ hB).mono ?_
  rintro e v1 ⟨B1, m1, d1, rfl, hw0, hb, _⟩
  have hB := keep_below hB hb
  have HX := Lib.hid (HX.out.below hb)
  have HY := Lib.hid hw0
  clear hb hw0
  go_wp2_with fail
  refine (HO2.out _ hB).mono ?_
  rintro e v2 ⟨B2, m2, d2, rfl, hw0, hb, _⟩
  have hB := keep_below hB hb
  have HX := Lib.hid (HX.out.below hb)
  have HY := Lib.hid (HY.out.below hb)
  have HZ := Lib.hid hw0
  clear hb hw0
  go_wp2_with fail
  generalize hW : ((v2.alloc (.cells #[.slice B0 m0 d0] 29)).alloc (.cells #[.slice B1 m1 d1] 29)).alloc (.cells #[.slice B2 m2 d2] 29) = W4
  obtain ⟨b1, b2, b3, b4, b5⟩ := box3 v2 29 29 29 #[.slice B0 m0 d0] #[.slice B1 m1 d1] #[.slice B2 m2 d2]
  rw [hW] at b1 b2 b3 b4 b5
  have hB := keep_below hB b1
  have HX := Lib.hid (HX.out.below b1)
  have HY := Lib.hid (HY.out.below b1)
  have HZ := Lib.hid (HZ.out.below b1)
  have g0 : W4.cell? ⟨v2.heap.size, 0, none⟩ = some (.slice B0 m0 d0) := b2.cell 0
  have g1 : W4.cell? ⟨v2.heap.size + 1, 0, none⟩ = some (.slice B1 m1 d1) := b3.cell 0
  have g2 : W4.cell? ⟨v2.heap.size + 1 + 1, 0, none⟩ = some (.slice B2 m2 d2) := b4.cell 0
  clear hW b1 b2 b3 b4 b5
  generalize v2.heap.size = p at *
  have hm0 := HS0.out.words HX.out
  have hm1 := HS1.out.words HY.out
  have hm2 := HS2.out.words HZ.out
  have C1 := Lib.hid (fun w' (h : Below W4.heap.size W4 w') => nat_add y z B1 B2 m1 m2 d1 d2 w' (HY.out.below h) (HZ.out.below h) (by omega) (by omega))
  have C2 := Lib.hid (fun w' (h : Below W4.heap.size W4 w') A' n' c' (hw : WordsIn w' (y + z) A' n' c') => HPC.out.mul x (y + z) B0 A' m0 n' d0 c' w' (HX.out.below h) hw (by omega) (by have := (HS1.out.add HS2.out).words hw; omega))
  have C3 := Lib.hid (fun w' (h : Below W4.heap.size W4 w') => HPC.out.mul x y B0 B1 m0 m1 d0 d1 w' (HX.out.below h) (HY.out.below h) (by omega) (by omega))
  have C4 := Lib.hid (fun w' (h : Below W4.heap.size W4 w') => HPC.out.mul x z B0 B2 m0 m2 d0 d2 w' (HX.out.below h) (HZ.out.below h) (by omega) (by omega))
  have C5 := Lib.hid (fun w' (h : Below W4.heap.size W4 w') A' n' c' A'' n'' c'' (hw : WordsIn w' (x * y) A' n' c') (hw' : WordsIn w' (x * z) A'' n'' c'') => nat_add (x * y) (x * z) A' A'' n' n'' c' c'' w' hw hw' (by have := (HS0.out.mul HS1.out).words hw; omega) (by have := (HS0.out.mul HS2.out).words hw'; omega))
  have C6 := Lib.hid (fun w' (h : Below W4.heap.size W4 w') A' n' c' A'' n'' c'' (hw : WordsIn w' (x * (y + z)) A' n' c') (hw' : WordsIn w' (x * y + x * z) A'' n'' c'') => cmp_same (K := K + (K + 1)) (HS0.out.mul (HS1.out.add HS2.out)) (Nat.mul_add x y z) (by omega) hw hw')
  have hb0 : Below W4.heap.size W4 W4.drew := (Below.refl _ W4).drew
  have j0 : W4.drew.cell? ⟨p, 0, none⟩ = some (.slice B0 m0 d0) := g0
  have j1 : W4.drew.cell? ⟨p + 1, 0, none⟩ = some (.slice B1 m1 d1) := g1
  have j2 : W4.drew.cell? ⟨p + 1 + 1, 0, none⟩ = some (.slice B2 m2 d2) := g2
  go_region_held3 (fun w' => Below W4.heap.size W4 w' ∧ w'.cell? ⟨p, 0, none⟩ = some (.slice B0 m0 d0) ∧ w'.cell? ⟨p + 1, 0, none⟩ = some (.slice B1 m1 d1) ∧ w'.cell? ⟨p + 1 + 1, 0, none⟩ = some (.slice B2 m2 d2))
    (first | (exact ⟨hb0, j0, j1, j2⟩) | (go_split_ands; refine ⟨?_, ?_, ?_, ?_⟩; all_goals (first | with_reducible assumption | exact keep_below (by with_reducible assumption) hb | exact keep_cell hb (by with_reducible assumption) | exact keep_below_alloc _ (by with_reducible assumption) | exact keep_cell_alloc _ (by with_reducible assumption))))
    (first
      | (go_at_call 23; (with_reducible refine (C1.out _ (by first | with_reducible assumption | exact And.left (by with_reducible assumption))).mono ?_); rintro e w' ⟨A1, n1, c1, rfl, hw1, hb, _⟩)
      | (go_at_call 11; (with_reducible refine (C2.out _ (by first | with_reducible assumption | exact And.left (by with_reducible assumption)) _ _ _ hw1).mono ?_); rintro e w' ⟨A2, n2, c2, rfl, hw2, hb, _⟩)
      | (go_at_call 11; (with_reducible refine (C3.out _ (by first | with_reducible assumption | exact And.left (by with_reducible assumption))).mono ?_); rintro e w' ⟨A3, n3, c3, rfl, hw3, hb, _⟩; have hw2 := hw2.below hb)
      | (go_at_call 11; (with_reducible refine (C4.out _ (by first | with_reducible assumption | exact And.left (by with_reducible assumption))).mono ?_); rintro e w' ⟨A4, n4, c4, rfl, hw4, hb, _⟩; have hw2 := hw2.below hb; have hw3 := hw3.below hb)
      | (go_at_call 23; (with_reducible refine (C5.out _ (by first | with_reducible assumption | exact And.left (by with_reducible assumption)) _ _ _ _ _ _ hw3 hw4).mono ?_); rintro e w' ⟨A5, n5, c5, rfl, hw5, hb, _⟩; have hw2 := hw2.below hb)
      | (go_at_call 22; (with_reducible refine (C6.out _ (by first | with_reducible assumption | exact And.left (by with_reducible assumption)) _ _ _ _ _ _ hw2 hw5).mono ?_); rintro e w' ⟨rfl, hb⟩))
  rename_i hH
  obtain ⟨hb7, _, _, _⟩ := hH
  have hB := keep_below hB hb7
  clear hb hb0 hb7
  go_wp2
  go_ret
  exact ⟨by first | rfl | simp, hB⟩
end Go.Proofs.Ytonjhcmppiioeaa
