/-
  The walk of the law DigitsTens. Conditions: the words that came in are words, at most 1048576; digits' functions do as DigitsC says.
-/
import Derived.Test.YtnnhcicdildfaaaRows
import Derived.Test.YtnnhcicdildfaaaW6Awake
import Derived.Test.YtnnhcicdildfaaaW6Back
import Derived.Test.YtnnhcicdildfaaaD6Size
import Derived.Test.YtnnhcicdildfaaaPBy
import Derived.WalkKit
import Derived.Lib.Hide
import Derived.Outline
import Derived.IntWalk
import Derived.Deep.RegionHeld3
namespace Go.Proofs.Ytnnhcicdildfaaa
open Go Go.RowKit
set_option maxRecDepth 100000
set_option linter.unusedVariables false
set_option linter.unusedSimpArgs false
theorem infoB : (Try.prog.info? 5).map (fun i => (i.zero, i.size, i.bytes)) = some (some (.int .u8 0), 1, 1) := by kernel_rfl
theorem str_ten {x : Nat} (h : x ≠ 0) : strS (textS x) ++ ({ data := #[48] } : ByteArray) = strS (textS (10 * x)) := by
  rw [text_tens h]
  exact ByteArray.mk_append_mk (textS x) [48]
theorem Sz.ten {K x m : Nat} (h : Sz K x) (hm : m ≤ 18446744073709551616) : Sz (K + 1) (m * x) := by
  have h1 : m * x < 18446744073709551616 * 18446744073709551616 ^ K := Nat.lt_of_le_of_lt (Nat.mul_le_mul_right x hm) (Nat.mul_lt_mul_of_pos_left h (by decide))
  unfold Sz
  rw [Nat.pow_succ, Nat.mul_comm (18446744073709551616 ^ K)]
  exact h1
set_option maxHeartbeats 8000000 in
theorem digitsTens_core {T : World → Prop} (hTb : ∀ w w', T w → Below w.heap.size w w' → T w') (DC : DigitsC T) (A0 : Option Addr) (n0 c0 : Nat) (l0 : List Nat) (w : World) (h0 : ArgWords w A0 n0 c0 l0) (hT : T w) :
    Calls Try.prog 7 #[.slice A0 n0 c0] w fun e w' => e = .returned (.bool true) ∧ Below w.heap.size w w' := by
  obtain ⟨i0, hi0, hz0, hz1, hz2⟩ := info_parts infoB
  have HDC := Lib.hid DC
  have HT := Lib.hid (fun w' (h : Below w.heap.size w w') => hTb w w' hT h)
  have HAW := Lib.hid (law6_awake hTb DC w hT)
  obtain ⟨K, hK⟩ : ∃ K, 1048576 = K := ⟨_, rfl⟩
  have O0 := arg_of h0
  have S0 := arg_sz h0
  rw [hK] at S0
  have hKK : K ≤ 1048576 := by omega
  obtain ⟨x, hx0⟩ : ∃ v, dv 18446744073709551616 l0 = v := ⟨_, rfl⟩
  rw [hx0] at O0 S0
  have HO0 := Lib.hid O0
  have HS0 := Lib.hid S0
  have HLB := Lib.hid (bytes_small S0)
  have HLT := Lib.hid (text_small S0)
  have HST := Lib.hid (text_small (S0.ten (m := 10) (by decide)))
  have HS10 := Lib.hid (S0.ten (m := 10) (by decide))
  have HS256 := Lib.hid (S0.ten (m := 256) (by decide))
  clear DC hTb hT O0 S0 h0 hx0 hK
  go_enter Try.func7, Try.ntmps7
  go_wp2_with fail
  refine HAW.out.mono ?_
  rintro e w1 ⟨rfl, hB⟩
  go_wp2_with fail
  refine (HO0.out _ hB).mono ?_
  rintro e w2 ⟨A3, n3, c3, rfl, hw, hb, _⟩
  have hB := keep_below hB hb
  have l3 : n3 ≤ 16777216 := by have := Sz.words HS0.out hw; omega
  obtain ⟨b1, b2, b5⟩ := box1 w2 25 #[.slice A3 n3 c3]
  have hB := keep_below hB b1
  have hw := hw.below b1
  have g3 := b2.cell 0
  simp only [List.getElem?_toArray, List.getElem?_cons_zero] at g3
  clear b1 b2 b5 hb
  go_wp2_with fail
  generalize w2.alloc (.cells #[.slice A3 n3 c3] 25) = W2 at *
  generalize w2.heap.size = p3 at *
  by_cases hx : x = 0
  · refine (zero_yes hx hw).mono ?_
    rintro e w3 ⟨rfl, hb⟩
    have hB := keep_below hB hb
    have hw := hw.below hb
    have g3 := keep_cell hb g3
    have hz : Hid ((dg 256 x).length = 0) := by show _ = _; rw [hx]; rfl
    clear hb
    go_wp2_with fail
    refine (HDC.out.size x A3 n3 c3 _ (HT.out _ hB) hw l3).mono ?_
    rintro e w4 ⟨rfl, hb⟩
    have hB := keep_below hB hb
    rw [hz.out]
    go_wp2
    go_ret
    exact ⟨by first | rfl | simp, hB⟩
  · refine (zero_no hx hw).mono ?_
    rintro e w3 ⟨rfl, hb⟩
    have hB := keep_below hB hb
    have hw := hw.below hb
    have g3 := keep_cell hb g3
    have hcat := str_ten hx
    have hsz := strS_size (textS x)
    obtain ⟨s1, hs1⟩ : ∃ s, strS (textS x) = s := ⟨_, rfl⟩
    obtain ⟨s9, hs9⟩ : ∃ s, strS (textS (10 * x)) = s := ⟨_, rfl⟩
    rw [hs1, hs9] at hcat
    rw [hs1] at hsz
    obtain ⟨L1, hL1⟩ : ∃ n, (textS x).length = n := ⟨_, rfl⟩
    rw [hL1] at hsz
    have hL : L1 ≤ 1073741824 := by have := HLT.out; omega
    have hn1 : ¬ (9223372036854775807 < L1 + 1) := by omega
    have HS1 := Lib.hid hs1
    have HS9 := Lib.hid hs9
    clear hb hs1 hs9 hL1
    go_wp2_with fail
    refine (HDC.out.text x A3 n3 c3 _ (HT.out _ hB) hw l3).mono ?_
    rintro e w4 ⟨rfl, hb⟩
    have hB := keep_below hB hb
    have hw := hw.below hb
    have g3 := keep_cell hb g3
    rw [HS1.out]
    clear hb
    go_wp2_with fail
    have RA := HDC.out.read s9 w4 (HT.out _ hB) (by rw [← HS9.out, strS_size]; have := HST.out; omega)
    rw [← HS9.out, strS_data, text_ok, if_pos rfl, text_val, HS9.out] at RA
    have HRA := Lib.hid RA
    clear RA hcat hsz hn1
    refine HRA.out.mono ?_
    rintro e w5 ⟨A5, n5, c5, rfl, hw5, hb⟩
    have hB := keep_below hB hb
    have hw := hw.below hb
    have g3 := keep_cell hb g3
    obtain ⟨b1, b2, b5⟩ := box1 w5 25 #[.slice A5 n5 c5]
    have hB := keep_below hB b1
    have hw := hw.below b1
    have hw5 := hw5.below b1
    have g3 := keep_cell b1 g3
    have g5 := b2.cell 0
    simp only [List.getElem?_toArray, List.getElem?_cons_zero] at g5
    have l5 : n5 ≤ 16777216 := by have := Sz.words HS10.out hw5; omega
    clear b1 b2 b5 hb HRA
    go_wp2_with fail
    generalize w5.alloc (.cells #[.slice A5 n5 c5] 25) = W5 at *
    generalize w5.heap.size = p5 at *
    refine (HDC.out.bytes x A3 n3 c3 _ (HT.out _ hB) hw l3).mono ?_
    rintro e w6 ⟨v6, rfl, ho6, hb⟩
    have hb56 := hb
    have hW5 := hB.size
    have hB5 := Lib.hid hB
    have hbs := HLB.out
    have HOW := Lib.hid ho6
    obtain ⟨N, hN⟩ : ∃ n, (bytesL x).length = n := ⟨_, rfl⟩
    rw [hN] at HOW hbs
    have hsz6 := hb.size
    have hob : ∀ g, v6.ownBlock = some g → W5.heap.size ≤ g ∧ g < w6.heap.size := fun g h => ho6.lt g h
    have HOB := Lib.hid hob
    have HBY := Lib.hid (bytesL_tens hx)
    have HNN := Lib.hid hN
    have HW := Lib.hid hw
    have HW5 := Lib.hid hw5
    have HG3 := Lib.hid g3
    have HG5 := Lib.hid g5
    clear ho6 hb hB hob hN hw hw5 g3 g5
    go_wp2_with (at_builtin; refine wpList_append_any _ rfl (.tmp 28) (.tmp 29) 30 rfl W5.heap.size 5 i0 (.int .u8 0) 1 1 Try.underlying30 hi0 hz0 hz1 hz2 rfl (by decide) v6 N (vals .u8 (bytesL x)) rfl (HOW.out.alloc _) (w6.heap.size + 1) (some ⟨w6.heap.size, 0, none⟩) 1 1 [.int .u8 0] rfl ⟨rfl, fun _ => ⟨_, rfl, by simp, push_cells _ _ _⟩⟩ (push_one _ _) (by unfold maxLen; omega) (by omega) (by simp; omega) ?_; intro v7 w7 hown7 hgrow7 hat7)
    have hb57 : Below W5.heap.size W5 w7 := (keep_below_alloc _ hb56).grown hgrow7 (by simp; omega) (fun g h => (HOB.out g h).1)
    obtain ⟨A7, c7, rfl, hc7, hc7', hr7⟩ := Reads.of_grown_own hown7
    have e7 : vals .u8 (bytesL x) ++ [.int .u8 0] = vals .u8 (bytesL (256 * x)) := by rw [HBY.out, vals_append]; rfl
    rw [e7] at hr7
    have hB := keep_below hB5.out hb57
    have hw := HW.out.below hb57
    have hw5 := HW5.out.below hb57
    have g3 := keep_cell hb57 HG3.out
    have g5 := keep_cell hb57 HG5.out
    have PA := HDC.out.parse (bytesL (256 * x)) A7 (N + 1) c7 w7 (HT.out _ hB) hr7 (bytesL_dgs _) hc7 (by unfold maxLen at hc7'; omega) (by omega)
    rw [bytesL_plain, if_pos rfl, bytesL_val] at PA
    refine PA.mono ?_
    rintro e w8 ⟨A8, n8, c8, rfl, hw8, hb⟩
    have hB := keep_below hB hb
    have hw := hw.below hb
    have hw5 := hw5.below hb
    have g3 := keep_cell hb g3
    have g5 := keep_cell hb g5
    obtain ⟨b1, b2, b5⟩ := box1 w8 25 #[.slice A8 n8 c8]
    have hB := keep_below hB b1
    have hw := hw.below b1
    have hw5 := hw5.below b1
    have hw8 := hw8.below b1
    have g3 := keep_cell b1 g3
    have g5 := keep_cell b1 g5
    have g8 := b2.cell 0
    simp only [List.getElem?_toArray, List.getElem?_cons_zero] at g8
    have l8 : n8 ≤ 16777216 := by have := Sz.words HS256.out hw8; omega
    clear b1 b2 b5 hb PA hr7 hown7 hgrow7 hat7 e7 hb57 hb56 hc7 hc7'
    go_wp2_with fail
    generalize w8.alloc (.cells #[.slice A8 n8 c8] 25) = W8 at *
    generalize w8.heap.size = p8 at *
    have BW1 := Lib.hid (fun w' (h : Below W8.heap.size W8 w') => show Calls Try.prog 25 #[.agg #[.slice A3 n3 c3], .int .u64 10, .int .u64 0] w' (GivesN2 w' (x * 10 + 0)) from prod_byword x 10 0 A3 n3 c3 w' (hw.below h) (by omega) (by decide) (by decide))
    have BW2 := Lib.hid (fun w' (h : Below W8.heap.size W8 w') => show Calls Try.prog 25 #[.agg #[.slice A3 n3 c3], .int .u64 256, .int .u64 0] w' (GivesN2 w' (x * 256 + 0)) from prod_byword x 256 0 A3 n3 c3 w' (hw.below h) (by omega) (by decide) (by decide))
    have CM1 := Lib.hid (fun w' (h : Below W8.heap.size W8 w') A9 n9 c9 (h9 : WordsIn w' (x * 10 + 0) A9 n9 c9) => cmpEq (x := 10 * x) (y := x * 10 + 0) (by omega) (hw5.below h) h9 (by omega) (by rw [show x * 10 + 0 = 10 * x by omega] at h9; have := Sz.words HS10.out h9; omega))
    have CM2 := Lib.hid (fun w' (h : Below W8.heap.size W8 w') A9 n9 c9 (h9 : WordsIn w' (x * 256 + 0) A9 n9 c9) => cmpEq (x := 256 * x) (y := x * 256 + 0) (by omega) (hw8.below h) h9 (by omega) (by rw [show x * 256 + 0 = 256 * x by omega] at h9; have := Sz.words HS256.out h9; omega))
    have hb0 : Below W8.heap.size W8 W8.drew := (Below.refl _ W8).drew
    have g3 : W8.drew.cell? ⟨p3, 0, none⟩ = some (.slice A3 n3 c3) := g3
    have g5 : W8.drew.cell? ⟨p5, 0, none⟩ = some (.slice A5 n5 c5) := g5
    have g8 : W8.drew.cell? ⟨p8, 0, none⟩ = some (.slice A8 n8 c8) := g8
    have HBB := Lib.hid hB
    clear hw hw5 hw8 hB HLB HLT HST HS10 HS256 HS0 HO0 HDC HT HAW HBY
    go_region_held3 (fun w' => Below W8.heap.size W8 w' ∧ w'.cell? ⟨p3, 0, none⟩ = some (.slice A3 n3 c3) ∧ w'.cell? ⟨p5, 0, none⟩ = some (.slice A5 n5 c5) ∧ w'.cell? ⟨p8, 0, none⟩ = some (.slice A8 n8 c8))
      (first | (exact ⟨hb0, g3, g5, g8⟩) | (go_split_ands; (repeat' apply And.intro); all_goals (first | with_reducible assumption | exact keep_below (by with_reducible assumption) hb | exact keep_cell hb (by with_reducible assumption))))
      (first
        | (go_at_call 25; (with_reducible refine (BW1.out _ (by first | with_reducible assumption | exact And.left (by with_reducible assumption))).mono ?_); rintro e w9 ⟨A9, n9, c9, rfl, hw9, hb, _⟩; go_split_ands; have hb9 := keep_below (by with_reducible assumption) hb)
        | (go_at_call 23; (with_reducible refine (CM1.out w9 hb9 A9 n9 c9 hw9).mono ?_); rintro e w10 ⟨rfl, hb⟩)
        | (go_at_call 25; (with_reducible refine (BW2.out _ (by first | with_reducible assumption | exact And.left (by with_reducible assumption))).mono ?_); rintro e w11 ⟨A11, n11, c11, rfl, hw11, hb, _⟩; go_split_ands; have hb11 := keep_below (by with_reducible assumption) hb)
        | (go_at_call 23; (with_reducible refine (CM2.out w11 hb11 A11 n11 c11 hw11).mono ?_); rintro e w12 ⟨rfl, hb⟩))
    rename_i hH
    have hfin := keep_below HBB.out hH.1
    go_wp2
    go_ret
    exact ⟨by first | rfl | simp, hfin⟩
end Go.Proofs.Ytnnhcicdildfaaa
