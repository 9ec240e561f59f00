/-
  The walk of the law NatParts. Conditions: the words that came in are words, at most 1048576 of them; k is a uint16.
-/
import Derived.Test.YtlofionccgjndaaRows
import Derived.Test.YtlofionccgjndaaNAny
import Derived.Test.YtlofionccgjndaaNShl
import Derived.Test.YtlofionccgjndaaNAdd
import Derived.WalkKit
import Derived.Lib.Hide
import Derived.Outline
import Derived.Deep.RegionHeld3
namespace Go.Proofs.Ytlofionccgjndaa
open Go Go.RowKit
set_option maxRecDepth 100000
set_option linter.unusedVariables false
set_option maxHeartbeats 8000000 in
theorem natParts_nat (A0 : Option Addr) (n0 c0 : Nat) (l0 : List Nat) (kn : Nat) (w : World) (h0 : ArgWords w A0 n0 c0 l0) (hk : kn ≤ 65535) :
    Calls Try.prog 6 #[.slice A0 n0 c0, .int .u16 (kn : Int)] w fun e w' => e = .returned (.bool true) ∧ Below w.heap.size w w' := by
  obtain ⟨K, hK⟩ : ∃ K, 1048576 = K := ⟨_, rfl⟩
  have O0 := arg_of h0
  have S0 := arg_sz h0
  rw [hK] at S0
  have hK2 : K ≤ 1048576 := by omega
  obtain ⟨x, hx⟩ : ∃ x, dv 18446744073709551616 l0 = x := ⟨_, rfl⟩
  rw [hx] at O0 S0
  have HO0 := Lib.hid O0
  have HS0 := Lib.hid S0
  have hkw : IntKind.i64.wrap (kn : Int) = (kn : Int) := IntWalk.i64_in _ (by omega)
  have hbl : bitLen (x % 2 ^ kn) ≤ kn := bitLen_le _ _ (Nat.mod_lt _ (Nat.two_pow_pos kn))
  have hsum : Hid (2 ^ kn * (x / 2 ^ kn) + x % 2 ^ kn = x) := Nat.div_add_mod x (2 ^ kn)
  have hback : Hid (2 ^ kn * x / 2 ^ kn = x) := Nat.mul_div_cancel_left x (Nat.two_pow_pos kn)
  clear O0 S0 h0 hx hK
  go_enter Try.func6, Try.ntmps6
  go_wp2_with fail
  refine (law2_awake _).mono ?_
  rintro e w1 ⟨rfl, hB⟩
  go_wp2_with fail
  refine (HO0.out _ hB).mono ?_
  rintro e w2 ⟨B0, m0, d0, rfl, hw0, hb, _⟩
  have hb := keep_below hb (up_alloc w2 (.cells #[.slice B0 m0 d0] 25))
  have hB := keep_below hB hb
  have HX := Lib.hid (hw0.below (up_alloc w2 (.cells #[.slice B0 m0 d0] 25)))
  have g5 : (w2.alloc (.cells #[.slice B0 m0 d0] 25)).cell? ⟨w2.heap.size, 0, none⟩ = some (.slice B0 m0 d0) := (Blk.new w2 _ _).cell 0
  clear hb hw0
  go_wp2_with fail
  generalize w2.alloc (.cells #[.slice B0 m0 d0] 25) = W2 at *
  generalize w2.heap.size = p at *
  have hmx := HS0.out.words HX.out
  refine (nat_shr_any x kn B0 m0 d0 _ HX.out (by omega)).mono ?_
  rintro e w3 ⟨B1, m1, d1, rfl, hw1, hb, _⟩
  have hB := keep_below hB hb
  have HX := Lib.hid (HX.out.below hb)
  have g5 := keep_cell hb g5
  have HR := Lib.hid hw1
  clear hb hw1
  go_wp2_with fail
  refine (nat_shl (x / 2 ^ kn) kn B1 m1 d1 _ HR.out (by have := (HS0.out.of_le (Nat.div_le_self x (2 ^ kn))).words HR.out; omega) (by omega)).mono ?_
  rintro e w4 ⟨B2, m2, d2, rfl, hw2, hb, _⟩
  have hb := keep_below hb (up_alloc w4 (.cells #[.slice B2 m2 d2] 25))
  have hB := keep_below hB hb
  have HX := Lib.hid (HX.out.below hb)
  have g5 := keep_cell hb g5
  have HU := Lib.hid (hw2.below (up_alloc w4 (.cells #[.slice B2 m2 d2] 25)))
  have g6 : (w4.alloc (.cells #[.slice B2 m2 d2] 25)).cell? ⟨w4.heap.size, 0, none⟩ = some (.slice B2 m2 d2) := (Blk.new w4 _ _).cell 0
  clear hb hw2 HR
  go_wp2_with fail
  generalize w4.alloc (.cells #[.slice B2 m2 d2] 25) = W4 at *
  generalize w4.heap.size = q at *
  refine (nat_shl x kn B0 m0 d0 _ HX.out (by omega) (by omega)).mono ?_
  rintro e w5 ⟨B3, m3, d3, rfl, hw3, hb, _⟩
  have hb := keep_below hb (up_alloc w5 (.cells #[.slice B3 m3 d3] 25))
  have hB := keep_below hB hb
  have HX := Lib.hid (HX.out.below hb)
  have HU := Lib.hid (HU.out.below hb)
  have g5 := keep_cell hb g5
  have g6 := keep_cell hb g6
  have HK := Lib.hid (hw3.below (up_alloc w5 (.cells #[.slice B3 m3 d3] 25)))
  have g8 : (w5.alloc (.cells #[.slice B3 m3 d3] 25)).cell? ⟨w5.heap.size, 0, none⟩ = some (.slice B3 m3 d3) := (Blk.new w5 _ _).cell 0
  clear hb hw3
  go_wp2_with fail
  generalize w5.alloc (.cells #[.slice B3 m3 d3] 25) = W5 at *
  generalize w5.heap.size = r at *
  have hmu : m2 ≤ K := (HS0.out.of_le (y := 2 ^ kn * (x / 2 ^ kn)) (Nat.mul_div_le x (2 ^ kn))).words HU.out
  have hmk : m3 ≤ K + 1024 := (HS0.out.shl (k := kn) (by omega)).words HK.out
  have hml : ∀ {w' : World} {A' : Option Addr} {n' c' : Nat}, WordsIn w' (x % 2 ^ kn) A' n' c' → n' ≤ K := fun h => (HS0.out.of_le (Nat.mod_le x (2 ^ kn))).words h
  have C1 := Lib.hid (fun w' (h : Below W5.heap.size W5 w') => nat_low_any x kn B0 m0 d0 w' (HX.out.below h) (by omega))
  have C2 := (fun w' (h : Below W5.heap.size W5 w') A' n' c' (hw : WordsIn w' (x % 2 ^ kn) A' n' c') => nat_add (2 ^ kn * (x / 2 ^ kn)) (x % 2 ^ kn) B2 A' m2 n' d2 c' w' (HU.out.below h) hw (by omega) (by have := hml hw; omega))
  rw [hsum.out] at C2
  have hC2 := Lib.hid C2
  have C3 := Lib.hid (fun w' (h : Below W5.heap.size W5 w') A' n' c' (hw : WordsIn w' x A' n' c') => cmp_same (x := x) (y := x) HS0.out rfl (by omega) hw (HX.out.below h))
  have C4 := (fun w' (h : Below W5.heap.size W5 w') => nat_shr_any (2 ^ kn * x) kn B3 m3 d3 w' (HK.out.below h) (by omega))
  rw [hback.out] at C4
  have hC4 := Lib.hid C4
  have C5 := (fun w' A' n' c' (hw : WordsIn w' (x % 2 ^ kn) A' n' c') => nat_bits (x % 2 ^ kn) A' n' c' w' hw (by have := hml hw; omega))
  obtain ⟨z, hz⟩ : ∃ z, bitLen (x % 2 ^ kn) = z := ⟨_, rfl⟩
  rw [hz] at C5 hbl
  have hC5 := Lib.hid C5
  have hzd : decide ((z : Int) ≤ (kn : Int)) = true := by simpa using hbl
  clear C2 C4 C5 hz hml
  have hb0 : Below W5.heap.size W5 W5.drew := (Below.refl _ W5).drew
  have j5 : W5.drew.cell? ⟨p, 0, none⟩ = some (.slice B0 m0 d0) := g5
  have j6 : W5.drew.cell? ⟨q, 0, none⟩ = some (.slice B2 m2 d2) := g6
  have j8 : W5.drew.cell? ⟨r, 0, none⟩ = some (.slice B3 m3 d3) := g8
  go_region_held3 (fun w' => Below W5.heap.size W5 w' ∧ w'.cell? ⟨p, 0, none⟩ = some (.slice B0 m0 d0) ∧ w'.cell? ⟨q, 0, none⟩ = some (.slice B2 m2 d2) ∧ w'.cell? ⟨r, 0, none⟩ = some (.slice B3 m3 d3))
    (first | (exact ⟨hb0, j5, j6, j8⟩) | (go_split_ands; refine ⟨?_, ?_, ?_, ?_⟩; all_goals (first | with_reducible assumption | exact keep_below (by with_reducible assumption) hb | exact keep_cell hb (by with_reducible assumption))))
    (first
      | (go_at_call 23; (with_reducible refine (C1.out _ (by first | with_reducible assumption | exact And.left (by with_reducible assumption))).mono ?_); rintro e w' ⟨A9, n9, c9, rfl, hw9, hb, _⟩)
      | (go_at_call 15; (with_reducible refine (hC2.out _ (by first | with_reducible assumption | exact And.left (by with_reducible assumption)) _ _ _ hw9).mono ?_); rintro e w' ⟨A8, n8, c8, rfl, hw8, hb, _⟩)
      | (go_at_call 21; (with_reducible refine (hC4.out _ (by first | with_reducible assumption | exact And.left (by with_reducible assumption))).mono ?_); rintro e w' ⟨A7, n7, c7, rfl, hw7, hb, _⟩)
      | (go_at_call 13; (with_reducible refine (C3.out _ (by first | with_reducible assumption | exact And.left (by with_reducible assumption)) _ _ _ hw8).mono ?_); rintro e w' ⟨rfl, hb⟩)
      | (go_at_call 13; (with_reducible refine (C3.out _ (by first | with_reducible assumption | exact And.left (by with_reducible assumption)) _ _ _ hw7).mono ?_); rintro e w' ⟨rfl, hb⟩)
      | (go_at_call 25; (with_reducible refine (hC5.out _ _ _ _ hw9).mono ?_); rintro e w' ⟨rfl, hb⟩))
  rename_i hH
  obtain ⟨hb7, _, _, _⟩ := hH
  have hB := keep_below hB hb7
  clear hb hb0 hb7
  go_wp2
  go_ret
  exact ⟨by first | rfl | simp, hB⟩
theorem natParts_walk (A0 : Option Addr) (n0 c0 : Nat) (l0 : List Nat) (a1 : Int) (w : World) (h0 : ArgWords w A0 n0 c0 l0) (h1 : 0 ≤ a1 ∧ a1 ≤ 65535) :
    Calls Try.prog 6 #[.slice A0 n0 c0, .int .u16 a1] w fun e w' => e = .returned (.bool true) ∧ Below w.heap.size w w' := by
  obtain ⟨kn, rfl⟩ : ∃ kn : Nat, a1 = (kn : Int) := ⟨a1.toNat, by omega⟩
  exact natParts_nat A0 n0 c0 l0 kn w h0 (by omega)
end Go.Proofs.Ytlofionccgjndaa
