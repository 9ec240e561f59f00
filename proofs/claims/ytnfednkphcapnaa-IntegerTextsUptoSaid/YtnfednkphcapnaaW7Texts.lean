/-
  The walk of the law IntegerTexts. Conditions: the words and the text that came in are at most 1048576; integer's functions do as IntC says.
-/
import Derived.Test.YtnfednkphcapnaaRows
import Derived.Test.YtnfednkphcapnaaBunB
import Derived.Test.YtnfednkphcapnaaBunF
import Derived.WalkKit
import Derived.Lib.Hide
import Derived.Outline
import Derived.IntWalk
import Derived.Deep.RegionHeld3
namespace Go.Proofs.Ytnfednkphcapnaa
open Go Go.RowKit
set_option maxRecDepth 100000
set_option linter.unusedVariables false
set_option linter.unusedSimpArgs false
set_option maxHeartbeats 16000000 in
theorem integerTexts_1 {T : World → Prop} (hTb : ∀ w w', T w → Below w.heap.size w w' → T w') (IC : IntC T) (s0 : Bool) (A0 : Option Addr) (n0 c0 : Nat) (l0 : List Nat) (s1 : ByteArray) (w : World) (h0 : ArgWords w A0 n0 c0 l0) (h1 : s1.size ≤ 1048576) (hq : okI s1.data.toList = true) (hT : T w) :
    Calls Try.prog 10 #[.agg #[.bool s0, .slice A0 n0 c0], .string s1] w fun e w' => e = .returned (.bool true) ∧ Below w.heap.size w w' := by
  have HAW := Lib.hid (fun w' (hb : Below w.heap.size w w') => law7_awake hTb IC w' (hTb w w' hT hb))
  have HIC := Lib.hid IC
  have HT := Lib.hid (fun w' (hb : Below w.heap.size w w') => hTb w w' hT hb)
  obtain ⟨K, hK⟩ : ∃ K, 1048576 = K := ⟨_, rfl⟩
  have hKK : K ≤ 1048576 := by omega
  have HM0 := Lib.hid (fun w' (hb : Below w.heap.size w w') => law7_make hTb IC s0 A0 n0 c0 l0 w' ⟨(h0.reads.below hb).more hb.size, h0.dgs, h0.fits, h0.small⟩ (hTb w w' hT hb))
  have S0 : Sz 1048576 (zOf s0 l0).natAbs := by rw [zOf_abs]; exact arg_sz h0
  rw [hK] at S0
  obtain ⟨x, hz0⟩ : ∃ x, zOf s0 l0 = x := ⟨_, rfl⟩
  rw [hz0] at HM0 S0
  have HS0 := Lib.hid S0
  have Hq := Lib.hid hq
  obtain ⟨U, hU⟩ : ∃ s, strS (textI x) = s := ⟨_, rfl⟩
  have HU := Lib.hid hU
  have HOU : Hid (okI U.data.toList = true) := by show _ = _; rw [← hU, strS_data]; exact okI_text x
  have HVU : Hid (valI U.data.toList = x) := by show _ = _; rw [← hU, strS_data]; exact valI_text x
  have hus : U.size ≤ 2147483648 := by
    rw [← hU, strS_size]
    have h9 := text_small HS0.out
    unfold textI
    split
    · rw [List.length_cons]; omega
    · omega
  clear hU
  have HBK : Hid (strS (textI (valI s1.data.toList)) = s1) := by show _ = _; rw [textI_back Hq.out]; rfl
  have HSV : Hid (Sz (1048576 + 0) (valI s1.data.toList).natAbs) := by
    show Sz _ _
    rw [valI_abs]
    have hb9 : okR (bodyI s1.data.toList) = true := by have h9 := Hq.out; unfold okI at h9; simp only [Bool.and_eq_true] at h9; exact h9.1
    refine valR_sz hb9 (Nat.le_trans ?_ h1)
    rw [← str_len]
    unfold bodyI
    split
    · simp
    · exact Nat.le_refl _
  have tb1 : (s1.toList == s1.toList) = true := by simp
  clear IC hT hq h0 hz0 S0 hK
  go_enter Try.func10, Try.ntmps10
  have hB := Below.refl w.heap.size w
  obtain ⟨bx1, bx2, bz⟩ := box1 w 24 #[.bool s0, .slice A0 n0 c0]
  have hB := keep_below hB bx1
  have g1 : (w.alloc (.cells #[.bool s0, .slice A0 n0 c0] 24)).cell? ⟨w.heap.size, 0, none⟩ = some (.bool s0) := bx2.cell 0
  have e1 : (w.alloc (.cells #[.bool s0, .slice A0 n0 c0] 24)).cell? ⟨w.heap.size, 1, none⟩ = some (.slice A0 n0 c0) := bx2.cell 1
  clear bx1 bx2 bz
  go_wp2_with fail
  generalize w.alloc (.cells #[.bool s0, .slice A0 n0 c0] 24) = W1 at *
  (with_reducible refine (HAW.out _ hB).mono ?_)
  rintro e wc2 ⟨rfl, hb⟩
  have hB := keep_below hB hb
  have g1 := keep_cell hb g1
  have e1 := keep_cell hb e1
  clear hb 
  go_wp2_with fail
  have HZ2 : Hid (Sz (K) (x).natAbs) := HS0.out
  (with_reducible refine (HM0.out _ hB).mono ?_)
  rintro e wc3 ⟨b2, B2, m2, d2, rfl, hw2, hb⟩
  have hB := keep_below hB hb
  have g1 := keep_cell hb g1
  have e1 := keep_cell hb e1
  have HN2 := Lib.hid hw2
  clear hb hw2
  have gm3_1_0 : (wc3.alloc (.cells #[.bool b2, .slice B2 m2 d2] 29)).cell? ⟨wc3.heap.size, 0, none⟩ = some (.bool b2) := by
    obtain ⟨c1, c2, _⟩ := box1 wc3 29 #[.bool b2, .slice B2 m2 d2]
    exact c2.cell 0
  have gm3_1_1 : (wc3.alloc (.cells #[.bool b2, .slice B2 m2 d2] 29)).cell? ⟨wc3.heap.size, 1, none⟩ = some (.slice B2 m2 d2) := by
    obtain ⟨c1, c2, _⟩ := box1 wc3 29 #[.bool b2, .slice B2 m2 d2]
    exact c2.cell 1
  obtain ⟨bx1, bx2, bz⟩ := box1 wc3 29 #[.bool b2, .slice B2 m2 d2]
  have hB := keep_below hB bx1
  have g1 := keep_cell bx1 g1
  have e1 := keep_cell bx1 e1
  have HN2 := Lib.hid (HN2.out.below bx1)
  have g3 : (wc3.alloc (.cells #[.bool b2, .slice B2 m2 d2] 29)).cell? ⟨wc3.heap.size, 0, none⟩ = some (.bool b2) := bx2.cell 0
  have e3 : (wc3.alloc (.cells #[.bool b2, .slice B2 m2 d2] 29)).cell? ⟨wc3.heap.size, 1, none⟩ = some (.slice B2 m2 d2) := bx2.cell 1
  clear bx1 bx2 bz
  go_wp2_with fail
  clear gm3_1_0 gm3_1_1
  generalize wc3.alloc (.cells #[.bool b2, .slice B2 m2 d2] 29) = W4 at *
  generalize wc3.heap.size = q4 at *
  (with_reducible refine (itext_of (HU.out) (HIC.out.text (x) b2 B2 m2 d2 _ (HT.out _ hB) HN2.out (by have := Sz.words HZ2.out HN2.out.words; omega))).mono ?_)
  rintro e wc5 ⟨rfl, hb⟩
  have hB := keep_below hB hb
  have g1 := keep_cell hb g1
  have e1 := keep_cell hb e1
  have HN2 := Lib.hid (HN2.out.below hb)
  have g3 := keep_cell hb g3
  have e3 := keep_cell hb e3
  clear hb 
  go_wp2_with fail
  have HZ4 : Hid (Sz (K) (valI U.data.toList).natAbs) := (by show Sz _ _; rw [HVU.out]; exact HS0.out)
  (with_reducible refine (iread_yes (HOU.out) (HIC.out.read U _ (HT.out _ hB) hus)).mono ?_)
  rintro e wc6 ⟨b4, B4, m4, d4, rfl, hw4, hb⟩
  have hB := keep_below hB hb
  have g1 := keep_cell hb g1
  have e1 := keep_cell hb e1
  have HN2 := Lib.hid (HN2.out.below hb)
  have g3 := keep_cell hb g3
  have e3 := keep_cell hb e3
  have HN4 := Lib.hid hw4
  clear hb hw4
  obtain ⟨bx1, bx2, bz⟩ := box1 wc6 29 #[.bool b4, .slice B4 m4 d4]
  have hB := keep_below hB bx1
  have g1 := keep_cell bx1 g1
  have e1 := keep_cell bx1 e1
  have HN2 := Lib.hid (HN2.out.below bx1)
  have g3 := keep_cell bx1 g3
  have e3 := keep_cell bx1 e3
  have HN4 := Lib.hid (HN4.out.below bx1)
  have g5 : (wc6.alloc (.cells #[.bool b4, .slice B4 m4 d4] 29)).cell? ⟨wc6.heap.size, 0, none⟩ = some (.bool b4) := bx2.cell 0
  have e5 : (wc6.alloc (.cells #[.bool b4, .slice B4 m4 d4] 29)).cell? ⟨wc6.heap.size, 1, none⟩ = some (.slice B4 m4 d4) := bx2.cell 1
  clear bx1 bx2 bz
  go_wp2_with fail
  generalize wc6.alloc (.cells #[.bool b4, .slice B4 m4 d4] 29) = W7 at *
  generalize wc6.heap.size = q7 at *
  have HZ6 : Hid (Sz (1048576 + 0) (valI s1.data.toList).natAbs) := HSV.out
  (with_reducible refine (iread_yes (Hq.out) (HIC.out.read s1 _ (HT.out _ hB) (by omega))).mono ?_)
  rintro e wc8 ⟨b6, B6, m6, d6, rfl, hw6, hb⟩
  have hB := keep_below hB hb
  have g1 := keep_cell hb g1
  have e1 := keep_cell hb e1
  have HN2 := Lib.hid (HN2.out.below hb)
  have g3 := keep_cell hb g3
  have e3 := keep_cell hb e3
  have HN4 := Lib.hid (HN4.out.below hb)
  have g5 := keep_cell hb g5
  have e5 := keep_cell hb e5
  have HN6 := Lib.hid hw6
  clear hb hw6
  have gm3_1_0 : (wc8.alloc (.cells #[.bool b6, .slice B6 m6 d6] 29)).cell? ⟨q4, 0, none⟩ = some (.bool b2) := keep_cell_alloc _ (g3)
  have gm3_1_1 : (wc8.alloc (.cells #[.bool b6, .slice B6 m6 d6] 29)).cell? ⟨q4, 1, none⟩ = some (.slice B2 m2 d2) := keep_cell_alloc _ (e3)
  have gm5_1_0 : (wc8.alloc (.cells #[.bool b6, .slice B6 m6 d6] 29)).cell? ⟨q7, 0, none⟩ = some (.bool b4) := keep_cell_alloc _ (g5)
  have gm5_1_1 : (wc8.alloc (.cells #[.bool b6, .slice B6 m6 d6] 29)).cell? ⟨q7, 1, none⟩ = some (.slice B4 m4 d4) := keep_cell_alloc _ (e5)
  obtain ⟨bx1, bx2, bz⟩ := box1 wc8 29 #[.bool b6, .slice B6 m6 d6]
  have hB := keep_below hB bx1
  have g1 := keep_cell bx1 g1
  have e1 := keep_cell bx1 e1
  have HN2 := Lib.hid (HN2.out.below bx1)
  have g3 := keep_cell bx1 g3
  have e3 := keep_cell bx1 e3
  have HN4 := Lib.hid (HN4.out.below bx1)
  have g5 := keep_cell bx1 g5
  have e5 := keep_cell bx1 e5
  have HN6 := Lib.hid (HN6.out.below bx1)
  have g7 : (wc8.alloc (.cells #[.bool b6, .slice B6 m6 d6] 29)).cell? ⟨wc8.heap.size, 0, none⟩ = some (.bool b6) := bx2.cell 0
  have e7 : (wc8.alloc (.cells #[.bool b6, .slice B6 m6 d6] 29)).cell? ⟨wc8.heap.size, 1, none⟩ = some (.slice B6 m6 d6) := bx2.cell 1
  clear bx1 bx2 bz
  go_wp2_with fail
  clear gm3_1_0 gm3_1_1 gm5_1_0 gm5_1_1
  generalize wc8.alloc (.cells #[.bool b6, .slice B6 m6 d6] 29) = W9 at *
  generalize wc8.heap.size = q9 at *
  (with_reducible refine (icmp_eq (HVU.out).symm (HIC.out.cmp (x) (valI U.data.toList) b2 b4 B2 B4 m2 m4 d2 d4 _ (HT.out _ hB) HN2.out HN4.out (by have := Sz.words HZ2.out HN2.out.words; omega) (by have := Sz.words HZ4.out HN4.out.words; omega))).mono ?_)
  rintro e wc10 ⟨rfl, hb⟩
  have hB := keep_below hB hb
  have g1 := keep_cell hb g1
  have e1 := keep_cell hb e1
  have HN2 := Lib.hid (HN2.out.below hb)
  have g3 := keep_cell hb g3
  have e3 := keep_cell hb e3
  have HN4 := Lib.hid (HN4.out.below hb)
  have g5 := keep_cell hb g5
  have e5 := keep_cell hb e5
  have HN6 := Lib.hid (HN6.out.below hb)
  have g7 := keep_cell hb g7
  have e7 := keep_cell hb e7
  clear hb 
  go_wp2_with fail
  (with_reducible refine (itext_of (HBK.out) (HIC.out.text (valI s1.data.toList) b6 B6 m6 d6 _ (HT.out _ hB) HN6.out (by have := Sz.words HZ6.out HN6.out.words; omega))).mono ?_)
  rintro e wc11 ⟨rfl, hb⟩
  have hB := keep_below hB hb
  have g1 := keep_cell hb g1
  have e1 := keep_cell hb e1
  have HN2 := Lib.hid (HN2.out.below hb)
  have g3 := keep_cell hb g3
  have e3 := keep_cell hb e3
  have HN4 := Lib.hid (HN4.out.below hb)
  have g5 := keep_cell hb g5
  have e5 := keep_cell hb e5
  have HN6 := Lib.hid (HN6.out.below hb)
  have g7 := keep_cell hb g7
  have e7 := keep_cell hb e7
  clear hb 
  go_wp2
  go_ret
  exact ⟨by first | rfl | simp, hB⟩
set_option maxHeartbeats 16000000 in
theorem integerTexts_0 {T : World → Prop} (hTb : ∀ w w', T w → Below w.heap.size w w' → T w') (IC : IntC T) (s0 : Bool) (A0 : Option Addr) (n0 c0 : Nat) (l0 : List Nat) (s1 : ByteArray) (w : World) (h0 : ArgWords w A0 n0 c0 l0) (h1 : s1.size ≤ 1048576) (hq : okI s1.data.toList = false) (hT : T w) :
    Calls Try.prog 10 #[.agg #[.bool s0, .slice A0 n0 c0], .string s1] w fun e w' => e = .returned (.bool true) ∧ Below w.heap.size w w' := by
  have HAW := Lib.hid (fun w' (hb : Below w.heap.size w w') => law7_awake hTb IC w' (hTb w w' hT hb))
  have HIC := Lib.hid IC
  have HT := Lib.hid (fun w' (hb : Below w.heap.size w w') => hTb w w' hT hb)
  obtain ⟨K, hK⟩ : ∃ K, 1048576 = K := ⟨_, rfl⟩
  have hKK : K ≤ 1048576 := by omega
  have HM0 := Lib.hid (fun w' (hb : Below w.heap.size w w') => law7_make hTb IC s0 A0 n0 c0 l0 w' ⟨(h0.reads.below hb).more hb.size, h0.dgs, h0.fits, h0.small⟩ (hTb w w' hT hb))
  have S0 : Sz 1048576 (zOf s0 l0).natAbs := by rw [zOf_abs]; exact arg_sz h0
  rw [hK] at S0
  obtain ⟨x, hz0⟩ : ∃ x, zOf s0 l0 = x := ⟨_, rfl⟩
  rw [hz0] at HM0 S0
  have HS0 := Lib.hid S0
  have Hq := Lib.hid hq
  obtain ⟨U, hU⟩ : ∃ s, strS (textI x) = s := ⟨_, rfl⟩
  have HU := Lib.hid hU
  have HOU : Hid (okI U.data.toList = true) := by show _ = _; rw [← hU, strS_data]; exact okI_text x
  have HVU : Hid (valI U.data.toList = x) := by show _ = _; rw [← hU, strS_data]; exact valI_text x
  have hus : U.size ≤ 2147483648 := by
    rw [← hU, strS_size]
    have h9 := text_small HS0.out
    unfold textI
    split
    · rw [List.length_cons]; omega
    · omega
  clear hU
  clear IC hT hq h0 hz0 S0 hK
  go_enter Try.func10, Try.ntmps10
  have hB := Below.refl w.heap.size w
  obtain ⟨bx1, bx2, bz⟩ := box1 w 24 #[.bool s0, .slice A0 n0 c0]
  have hB := keep_below hB bx1
  have g1 : (w.alloc (.cells #[.bool s0, .slice A0 n0 c0] 24)).cell? ⟨w.heap.size, 0, none⟩ = some (.bool s0) := bx2.cell 0
  have e1 : (w.alloc (.cells #[.bool s0, .slice A0 n0 c0] 24)).cell? ⟨w.heap.size, 1, none⟩ = some (.slice A0 n0 c0) := bx2.cell 1
  clear bx1 bx2 bz
  go_wp2_with fail
  generalize w.alloc (.cells #[.bool s0, .slice A0 n0 c0] 24) = W1 at *
  (with_reducible refine (HAW.out _ hB).mono ?_)
  rintro e wc2 ⟨rfl, hb⟩
  have hB := keep_below hB hb
  have g1 := keep_cell hb g1
  have e1 := keep_cell hb e1
  clear hb 
  go_wp2_with fail
  have HZ2 : Hid (Sz (K) (x).natAbs) := HS0.out
  (with_reducible refine (HM0.out _ hB).mono ?_)
  rintro e wc3 ⟨b2, B2, m2, d2, rfl, hw2, hb⟩
  have hB := keep_below hB hb
  have g1 := keep_cell hb g1
  have e1 := keep_cell hb e1
  have HN2 := Lib.hid hw2
  clear hb hw2
  have gm3_1_0 : (wc3.alloc (.cells #[.bool b2, .slice B2 m2 d2] 29)).cell? ⟨wc3.heap.size, 0, none⟩ = some (.bool b2) := by
    obtain ⟨c1, c2, _⟩ := box1 wc3 29 #[.bool b2, .slice B2 m2 d2]
    exact c2.cell 0
  have gm3_1_1 : (wc3.alloc (.cells #[.bool b2, .slice B2 m2 d2] 29)).cell? ⟨wc3.heap.size, 1, none⟩ = some (.slice B2 m2 d2) := by
    obtain ⟨c1, c2, _⟩ := box1 wc3 29 #[.bool b2, .slice B2 m2 d2]
    exact c2.cell 1
  obtain ⟨bx1, bx2, bz⟩ := box1 wc3 29 #[.bool b2, .slice B2 m2 d2]
  have hB := keep_below hB bx1
  have g1 := keep_cell bx1 g1
  have e1 := keep_cell bx1 e1
  have HN2 := Lib.hid (HN2.out.below bx1)
  have g3 : (wc3.alloc (.cells #[.bool b2, .slice B2 m2 d2] 29)).cell? ⟨wc3.heap.size, 0, none⟩ = some (.bool b2) := bx2.cell 0
  have e3 : (wc3.alloc (.cells #[.bool b2, .slice B2 m2 d2] 29)).cell? ⟨wc3.heap.size, 1, none⟩ = some (.slice B2 m2 d2) := bx2.cell 1
  clear bx1 bx2 bz
  go_wp2_with fail
  clear gm3_1_0 gm3_1_1
  generalize wc3.alloc (.cells #[.bool b2, .slice B2 m2 d2] 29) = W4 at *
  generalize wc3.heap.size = q4 at *
  (with_reducible refine (itext_of (HU.out) (HIC.out.text (x) b2 B2 m2 d2 _ (HT.out _ hB) HN2.out (by have := Sz.words HZ2.out HN2.out.words; omega))).mono ?_)
  rintro e wc5 ⟨rfl, hb⟩
  have hB := keep_below hB hb
  have g1 := keep_cell hb g1
  have e1 := keep_cell hb e1
  have HN2 := Lib.hid (HN2.out.below hb)
  have g3 := keep_cell hb g3
  have e3 := keep_cell hb e3
  clear hb 
  go_wp2_with fail
  have HZ4 : Hid (Sz (K) (valI U.data.toList).natAbs) := (by show Sz _ _; rw [HVU.out]; exact HS0.out)
  (with_reducible refine (iread_yes (HOU.out) (HIC.out.read U _ (HT.out _ hB) hus)).mono ?_)
  rintro e wc6 ⟨b4, B4, m4, d4, rfl, hw4, hb⟩
  have hB := keep_below hB hb
  have g1 := keep_cell hb g1
  have e1 := keep_cell hb e1
  have HN2 := Lib.hid (HN2.out.below hb)
  have g3 := keep_cell hb g3
  have e3 := keep_cell hb e3
  have HN4 := Lib.hid hw4
  clear hb hw4
  obtain ⟨bx1, bx2, bz⟩ := box1 wc6 29 #[.bool b4, .slice B4 m4 d4]
  have hB := keep_below hB bx1
  have g1 := keep_cell bx1 g1
  have e1 := keep_cell bx1 e1
  have HN2 := Lib.hid (HN2.out.below bx1)
  have g3 := keep_cell bx1 g3
  have e3 := keep_cell bx1 e3
  have HN4 := Lib.hid (HN4.out.below bx1)
  have g5 : (wc6.alloc (.cells #[.bool b4, .slice B4 m4 d4] 29)).cell? ⟨wc6.heap.size, 0, none⟩ = some (.bool b4) := bx2.cell 0
  have e5 : (wc6.alloc (.cells #[.bool b4, .slice B4 m4 d4] 29)).cell? ⟨wc6.heap.size, 1, none⟩ = some (.slice B4 m4 d4) := bx2.cell 1
  clear bx1 bx2 bz
  go_wp2_with fail
  generalize wc6.alloc (.cells #[.bool b4, .slice B4 m4 d4] 29) = W7 at *
  generalize wc6.heap.size = q7 at *
  have HZ6 : Hid (Sz (1) ((0 : Int)).natAbs) := (by show (0 : Nat) < _; decide)
  (with_reducible refine (iread_no (Hq.out) (HIC.out.read s1 _ (HT.out _ hB) (by omega))).mono ?_)
  rintro e wc8 ⟨b6, B6, m6, d6, rfl, hw6, hb⟩
  have hB := keep_below hB hb
  have g1 := keep_cell hb g1
  have e1 := keep_cell hb e1
  have HN2 := Lib.hid (HN2.out.below hb)
  have g3 := keep_cell hb g3
  have e3 := keep_cell hb e3
  have HN4 := Lib.hid (HN4.out.below hb)
  have g5 := keep_cell hb g5
  have e5 := keep_cell hb e5
  have HN6 := Lib.hid hw6
  clear hb hw6
  have gm3_1_0 : (wc8.alloc (.cells #[.bool b6, .slice B6 m6 d6] 29)).cell? ⟨q4, 0, none⟩ = some (.bool b2) := keep_cell_alloc _ (g3)
  have gm3_1_1 : (wc8.alloc (.cells #[.bool b6, .slice B6 m6 d6] 29)).cell? ⟨q4, 1, none⟩ = some (.slice B2 m2 d2) := keep_cell_alloc _ (e3)
  have gm5_1_0 : (wc8.alloc (.cells #[.bool b6, .slice B6 m6 d6] 29)).cell? ⟨q7, 0, none⟩ = some (.bool b4) := keep_cell_alloc _ (g5)
  have gm5_1_1 : (wc8.alloc (.cells #[.bool b6, .slice B6 m6 d6] 29)).cell? ⟨q7, 1, none⟩ = some (.slice B4 m4 d4) := keep_cell_alloc _ (e5)
  obtain ⟨bx1, bx2, bz⟩ := box1 wc8 29 #[.bool b6, .slice B6 m6 d6]
  have hB := keep_below hB bx1
  have g1 := keep_cell bx1 g1
  have e1 := keep_cell bx1 e1
  have HN2 := Lib.hid (HN2.out.below bx1)
  have g3 := keep_cell bx1 g3
  have e3 := keep_cell bx1 e3
  have HN4 := Lib.hid (HN4.out.below bx1)
  have g5 := keep_cell bx1 g5
  have e5 := keep_cell bx1 e5
  have HN6 := Lib.hid (HN6.out.below bx1)
  have g7 : (wc8.alloc (.cells #[.bool b6, .slice B6 m6 d6] 29)).cell? ⟨wc8.heap.size, 0, none⟩ = some (.bool b6) := bx2.cell 0
  have e7 : (wc8.alloc (.cells #[.bool b6, .slice B6 m6 d6] 29)).cell? ⟨wc8.heap.size, 1, none⟩ = some (.slice B6 m6 d6) := bx2.cell 1
  clear bx1 bx2 bz
  go_wp2_with fail
  clear gm3_1_0 gm3_1_1 gm5_1_0 gm5_1_1
  generalize wc8.alloc (.cells #[.bool b6, .slice B6 m6 d6] 29) = W9 at *
  generalize wc8.heap.size = q9 at *
  (with_reducible refine (icmp_eq (HVU.out).symm (HIC.out.cmp (x) (valI U.data.toList) b2 b4 B2 B4 m2 m4 d2 d4 _ (HT.out _ hB) HN2.out HN4.out (by have := Sz.words HZ2.out HN2.out.words; omega) (by have := Sz.words HZ4.out HN4.out.words; omega))).mono ?_)
  rintro e wc10 ⟨rfl, hb⟩
  have hB := keep_below hB hb
  have g1 := keep_cell hb g1
  have e1 := keep_cell hb e1
  have HN2 := Lib.hid (HN2.out.below hb)
  have g3 := keep_cell hb g3
  have e3 := keep_cell hb e3
  have HN4 := Lib.hid (HN4.out.below hb)
  have g5 := keep_cell hb g5
  have e5 := keep_cell hb e5
  have HN6 := Lib.hid (HN6.out.below hb)
  have g7 := keep_cell hb g7
  have e7 := keep_cell hb e7
  clear hb 
  go_wp2
  go_ret
  exact ⟨by first | rfl | simp, hB⟩
theorem integerTexts_core {T : World → Prop} (hTb : ∀ w w', T w → Below w.heap.size w w' → T w') (IC : IntC T) (s0 : Bool) (A0 : Option Addr) (n0 c0 : Nat) (l0 : List Nat) (s1 : ByteArray) (w : World) (h0 : ArgWords w A0 n0 c0 l0) (h1 : s1.size ≤ 1048576) (hT : T w) :
    Calls Try.prog 10 #[.agg #[.bool s0, .slice A0 n0 c0], .string s1] w fun e w' => e = .returned (.bool true) ∧ Below w.heap.size w w' := by
  cases hq : okI s1.data.toList
  · exact integerTexts_0 hTb IC s0 A0 n0 c0 l0 s1 w h0 h1 hq hT
  · exact integerTexts_1 hTb IC s0 A0 n0 c0 l0 s1 w h0 h1 hq hT
end Go.Proofs.Ytnfednkphcapnaa
