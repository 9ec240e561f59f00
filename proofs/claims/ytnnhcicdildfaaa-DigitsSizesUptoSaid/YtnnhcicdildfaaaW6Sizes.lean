/-
  The walk of the law DigitsSizes. Conditions: the words and the text that came in are at most 1048576; digits' functions do as DigitsC says.
-/
import Derived.Test.YtnnhcicdildfaaaRows
import Derived.Test.YtnnhcicdildfaaaW6Awake
import Derived.Test.YtnnhcicdildfaaaD6Size
import Derived.Test.YtnnhcicdildfaaaNBits
import Derived.WalkKit
import Derived.Lib.Hide
import Derived.Outline
import Derived.IntWalk
import Derived.LoopTactic
namespace Go.Proofs.Ytnnhcicdildfaaa
open Go Go.RowKit
set_option maxRecDepth 100000
set_option linter.unusedVariables false
set_option linter.unusedSimpArgs false
set_option maxHeartbeats 8000000 in
theorem digitsSizes_core {T : World → Prop} (hTb : ∀ w w', T w → Below w.heap.size w w' → T w') (DC : DigitsC T) (A0 : Option Addr) (n0 c0 : Nat) (l0 : List Nat) (s1 : ByteArray) (w : World) (h0 : ArgWords w A0 n0 c0 l0) (h1 : s1.size ≤ 1048576) (hT : T w) :
    Calls Try.prog 8 #[.slice A0 n0 c0, .string s1] w fun e w' => e = .returned (.bool true) ∧ Below w.heap.size w w' := by
  have HDC := Lib.hid DC
  have HT := Lib.hid (fun w' (h : Below w.heap.size w w') => hTb w w' hT h)
  have HAW := Lib.hid (law6_awake hTb DC w hT)
  obtain ⟨K, hK⟩ : ∃ K, 1048576 = K := ⟨_, rfl⟩
  have O0 := arg_of h0
  have S0 := arg_sz h0
  rw [hK] at S0
  have hKK : K ≤ 1048576 := by omega
  obtain ⟨x, hx0⟩ : ∃ v, dv 18446744073709551616 l0 = v := ⟨_, rfl⟩
  rw [hx0] at O0 S0
  have HO0 := Lib.hid O0
  have HS0 := Lib.hid S0
  have HBB := Lib.hid (bytes_bits x)
  have hbl : bitLen x ≤ 64 * K := bitLen_le _ _ (by rw [← pow64]; exact S0)
  obtain ⟨L, hL⟩ : ∃ L, s1.data.toList = L := ⟨_, rfl⟩
  obtain ⟨S, hS⟩ : ∃ S, s1.size = S := ⟨_, rfl⟩
  have HLS := Lib.hid (show L.length = S by rw [← hL, str_len, hS])
  have HIX : Hid (∀ k, k < S → ∀ w, (Instr.index 9 (.string s1) (.int .i64 (k : Int))).run Try.prog w = .ok (.int .u8 (((L.getD k 0).toNat : Nat) : Int)) w) := fun k hk w => by
    have := str_idx (P := Try.prog) Try.underlying9 s1 k (by omega) w
    rw [hL] at this
    exact this
  have HQ1 : Hid ((s1.toList == []) = decide (L = [])) := str_lit _ _ _ (by rw [hL])
  have HQ2 : Hid ((s1.toList == [48]) = decide (L = [48])) := str_lit _ _ _ (by rw [hL])
  have HRD := Lib.hid (fun w' (h : T w') => HDC.out.read s1 w' h (by omega))
  rw [hL] at HRD
  have hS1 : S ≤ 1048576 := by omega
  clear DC hTb hT O0 S0 h0 hx0 hK h1
  have HLL := Lib.hid hL
  clear hL
  go_enter Try.func8, Try.ntmps8
  go_wp2_with fail
  refine HAW.out.mono ?_
  rintro e w1 ⟨rfl, hB⟩
  go_wp2_with fail
  refine (HO0.out _ hB).mono ?_
  rintro e w2 ⟨A3, n3, c3, rfl, hw, hb, _⟩
  have hB := keep_below hB hb
  have l3 : n3 ≤ 16777216 := by have := Sz.words HS0.out hw; omega
  obtain ⟨b1, b2, b5⟩ := box1 w2 25 #[.slice A3 n3 c3]
  have hB := keep_below hB b1
  have hw := hw.below b1
  have g3 := b2.cell 0
  simp only [List.getElem?_toArray, List.getElem?_cons_zero] at g3
  clear b1 b2 b5 hb
  go_wp2_with fail
  generalize w2.alloc (.cells #[.slice A3 n3 c3] 25) = W2 at *
  generalize w2.heap.size = p3 at *
  refine (nat_bits x A3 n3 c3 _ hw (by omega)).mono ?_
  rintro e w3 ⟨rfl, hb⟩
  have hB := keep_below hB hb
  have hw := hw.below hb
  have g3 := keep_cell hb g3
  clear hb
  obtain ⟨kb, hkb⟩ : ∃ k, bitLen x = k := ⟨_, rfl⟩
  rw [hkb] at HBB hbl ⊢
  clear hkb
  have hcase : L = [] ∨ L = [48] ∨ (L ≠ [] ∧ L ≠ [48] ∧ 0 < S ∧ (L.getD 0 0).toNat = 48) ∨ (L ≠ [] ∧ L ≠ [48] ∧ 0 < S ∧ (L.getD 0 0).toNat ≠ 48) := by
    by_cases h1 : L = []
    · exact .inl h1
    · by_cases h2 : L = [48]
      · exact .inr (.inl h2)
      · have h3 : 0 < S := by rw [← HLS.out]; exact List.length_pos_iff.2 h1
        by_cases h4 : (L.getD 0 0).toNat = 48
        · exact .inr (.inr (.inl ⟨h1, h2, h3, h4⟩))
        · exact .inr (.inr (.inr ⟨h1, h2, h3, h4⟩))
  have hhd : ∀ b : Bool, L ≠ [] → L ≠ [48] → (decide ((L.getD 0 0).toNat = 48) = b) → headOk L = !b := fun b h1 h2 h3 => by
    unfold headOk
    rw [decide_eq_true h1, decide_eq_false h2, Bool.true_and, Bool.or_false]
    match L, h1 with
    | c :: t, _ =>
      rw [← h3]
      show (some c != some 48) = !decide (c.toNat = 48)
      by_cases hc : c = 48
      · subst hc; rfl
      · have h5 : c.toNat ≠ 48 := fun e => hc (by rw [← UInt8.ofNat_toNat (x := c), e]; rfl)
        rw [decide_eq_false h5]
        simp [hc]
  have hix0 : 0 < S → ∀ w, (Instr.index 9 (.string s1) (.int .i64 0)).run Try.prog w = .ok (.int .u8 (((L.getD 0 0).toNat : Nat) : Int)) w := fun h w => HIX.out 0 h w
  have HP0 : Hid (∀ b, headOk L = b → plainTo L 0 = b) := fun b h => by rw [plain_none]; exact h
  rcases hcase with h | h | ⟨h1, h2, h3, h4⟩ | ⟨h1, h2, h3, h4⟩
  · have q1 := HQ1.out
    rw [decide_eq_true h] at q1
    have HPL := Lib.hid (HP0.out false (by rw [h]; rfl))
    clear hix0 hhd HP0 HQ1 HQ2 h
    go_wp2_with fail
    clear q1
    go_loop [7, 8] (fun u ix => ∃ k : Nat, k ≤ S ∧ ix = .int .i64 k ∧ u = .bool (plainTo L k)) (fun _ ix => S - (intOf ix).toNat)
    case atStart => exact ⟨0, Nat.zero_le _, rfl, by rw [HPL.out]⟩
    case round =>
      clear HPL
      obtain ⟨k, hk, rfl, rfl⟩ := hrel
      have i1 : (0 : Int) ≤ (k : Int) := by omega
      by_cases hlt : k < S
      · have i2 : (k : Int) < (S : Int) := by omega
        have HST := Lib.hid (plain_step L (k := k) (by rw [HLS.out]; exact hlt))
        have ix := HIX.out k hlt
        obtain ⟨c, hc⟩ : ∃ c, (L.getD k 0).toNat = c := ⟨_, rfl⟩
        rw [hc] at ix
        have HDG : Hid (isDig (L.getD k 0) = (decide (48 ≤ c) && decide (c ≤ 57))) := by show _ = _; unfold isDig; rw [hc]
        obtain ⟨b, hb⟩ : ∃ b, plainTo L k = b := ⟨_, rfl⟩
        rw [hb] at HST ⊢
        clear hb hc
        cases b
        · have HN : Hid (plainTo L (k + 1) = false) := by show _ = _; rw [HST.out]; rfl
          clear HST HDG
          go_wp2
          go_round
          case rel => exact ⟨k + 1, by omega, by go_num, by rw [HN.out]⟩
          case measure => simp [intOf]; omega
        · by_cases h1 : 48 ≤ c
          · by_cases h2 : c ≤ 57
            · have HN : Hid (plainTo L (k + 1) = true) := by show _ = _; rw [HST.out, HDG.out]; simp [h1, h2]
              have j1 : decide ((48 : Int) ≤ (c : Int)) = true := by simp; omega
              have j2 : decide ((c : Int) ≤ 57) = true := by simp; omega
              clear HST HDG
              go_wp2
              go_round
              case rel => exact ⟨k + 1, by omega, by go_num, by rw [HN.out]⟩
              case measure => simp [intOf]; omega
            · have HN : Hid (plainTo L (k + 1) = false) := by show _ = _; rw [HST.out, HDG.out]; simp [h2]
              have j1 : decide ((48 : Int) ≤ (c : Int)) = true := by simp; omega
              have j2 : decide ((c : Int) ≤ 57) = false := by simp; omega
              clear HST HDG
              go_wp2
              go_round
              case rel => exact ⟨k + 1, by omega, by go_num, by rw [HN.out]⟩
              case measure => simp [intOf]; omega
          · have HN : Hid (plainTo L (k + 1) = false) := by show _ = _; rw [HST.out, HDG.out]; simp [h1]
            have j1 : decide ((48 : Int) ≤ (c : Int)) = false := by simp; omega
            clear HST HDG
            go_wp2
            go_round
            case rel => exact ⟨k + 1, by omega, by go_num, by rw [HN.out]⟩
            case measure => simp [intOf]; omega
      · have hkS : k = S := by omega
        subst hkS
        have HPA := Lib.hid (plain_all L (k := k) (by rw [HLS.out]; exact Nat.le_refl _))
        rw [HPA.out]
        obtain ⟨ob, hob⟩ : ∃ b, okR L = b := ⟨_, rfl⟩
        have RD := HRD.out w3 (HT.out _ hB)
        rw [hob] at RD ⊢
        have HRDD := Lib.hid RD
        clear RD hob HPA HIX
        go_wp2_with fail
        refine HRDD.out.mono ?_
        rintro e w4 ⟨A4, n4, c4, rfl, _, hb⟩
        have hB := keep_below hB hb
        have hw := hw.below hb
        have g3 := keep_cell hb g3
        have hB := keep_below hB (up_alloc w4 (.cells #[.slice A4 n4 c4] 25))
        have hw := hw.below (up_alloc w4 (.cells #[.slice A4 n4 c4] 25))
        have g3 := keep_cell (up_alloc w4 (.cells #[.slice A4 n4 c4] 25)) g3
        clear hb HRDD
        go_wp2_with fail
        refine (HDC.out.size x A3 n3 c3 _ (HT.out _ hB) hw l3).mono ?_
        rintro e w5 ⟨rfl, hb⟩
        have hB := keep_below hB hb
        obtain ⟨M, hM⟩ : ∃ m, (dg 256 x).length = m := ⟨_, rfl⟩
        have hM2 := HBB.out
        rw [hM] at hM2 ⊢
        have j7 : IntKind.i64.wrap ((kb : Int) + 7) = (kb : Int) + 7 := IntWalk.i64_in _ (by omega)
        have j8 : ((kb : Int) + 7).tdiv 8 = (M : Int) := by rw [Int.tdiv_eq_ediv_of_nonneg (by omega)]; omega
        have j8' : ((kb : Int) + 7) / 8 = (M : Int) := by omega
        have j9 : IntKind.i64.wrap (M : Int) = (M : Int) := IntWalk.i64_in _ (by omega)
        clear hM hM2 hb hw g3
        go_wp2
        go_ret
        exact ⟨by first | rfl | simp, hB⟩
  · have q1 := HQ1.out
    have q2 := HQ2.out
    rw [decide_eq_false (by rw [h]; simp)] at q1
    rw [decide_eq_true h] at q2
    have HPL := Lib.hid (HP0.out true (by rw [h]; rfl))
    clear hix0 hhd HP0 HQ1 HQ2 h
    go_wp2_with fail
    clear q1 q2
    go_loop [7, 8] (fun u ix => ∃ k : Nat, k ≤ S ∧ ix = .int .i64 k ∧ u = .bool (plainTo L k)) (fun _ ix => S - (intOf ix).toNat)
    case atStart => exact ⟨0, Nat.zero_le _, rfl, by rw [HPL.out]⟩
    case round =>
      clear HPL
      obtain ⟨k, hk, rfl, rfl⟩ := hrel
      have i1 : (0 : Int) ≤ (k : Int) := by omega
      by_cases hlt : k < S
      · have i2 : (k : Int) < (S : Int) := by omega
        have HST := Lib.hid (plain_step L (k := k) (by rw [HLS.out]; exact hlt))
        have ix := HIX.out k hlt
        obtain ⟨c, hc⟩ : ∃ c, (L.getD k 0).toNat = c := ⟨_, rfl⟩
        rw [hc] at ix
        have HDG : Hid (isDig (L.getD k 0) = (decide (48 ≤ c) && decide (c ≤ 57))) := by show _ = _; unfold isDig; rw [hc]
        obtain ⟨b, hb⟩ : ∃ b, plainTo L k = b := ⟨_, rfl⟩
        rw [hb] at HST ⊢
        clear hb hc
        cases b
        · have HN : Hid (plainTo L (k + 1) = false) := by show _ = _; rw [HST.out]; rfl
          clear HST HDG
          go_wp2
          go_round
          case rel => exact ⟨k + 1, by omega, by go_num, by rw [HN.out]⟩
          case measure => simp [intOf]; omega
        · by_cases h1 : 48 ≤ c
          · by_cases h2 : c ≤ 57
            · have HN : Hid (plainTo L (k + 1) = true) := by show _ = _; rw [HST.out, HDG.out]; simp [h1, h2]
              have j1 : decide ((48 : Int) ≤ (c : Int)) = true := by simp; omega
              have j2 : decide ((c : Int) ≤ 57) = true := by simp; omega
              clear HST HDG
              go_wp2
              go_round
              case rel => exact ⟨k + 1, by omega, by go_num, by rw [HN.out]⟩
              case measure => simp [intOf]; omega
            · have HN : Hid (plainTo L (k + 1) = false) := by show _ = _; rw [HST.out, HDG.out]; simp [h2]
              have j1 : decide ((48 : Int) ≤ (c : Int)) = true := by simp; omega
              have j2 : decide ((c : Int) ≤ 57) = false := by simp; omega
              clear HST HDG
              go_wp2
              go_round
              case rel => exact ⟨k + 1, by omega, by go_num, by rw [HN.out]⟩
              case measure => simp [intOf]; omega
          · have HN : Hid (plainTo L (k + 1) = false) := by show _ = _; rw [HST.out, HDG.out]; simp [h1]
            have j1 : decide ((48 : Int) ≤ (c : Int)) = false := by simp; omega
            clear HST HDG
            go_wp2
            go_round
            case rel => exact ⟨k + 1, by omega, by go_num, by rw [HN.out]⟩
            case measure => simp [intOf]; omega
      · have hkS : k = S := by omega
        subst hkS
        have HPA := Lib.hid (plain_all L (k := k) (by rw [HLS.out]; exact Nat.le_refl _))
        rw [HPA.out]
        obtain ⟨ob, hob⟩ : ∃ b, okR L = b := ⟨_, rfl⟩
        have RD := HRD.out w3 (HT.out _ hB)
        rw [hob] at RD ⊢
        have HRDD := Lib.hid RD
        clear RD hob HPA HIX
        go_wp2_with fail
        refine HRDD.out.mono ?_
        rintro e w4 ⟨A4, n4, c4, rfl, _, hb⟩
        have hB := keep_below hB hb
        have hw := hw.below hb
        have g3 := keep_cell hb g3
        have hB := keep_below hB (up_alloc w4 (.cells #[.slice A4 n4 c4] 25))
        have hw := hw.below (up_alloc w4 (.cells #[.slice A4 n4 c4] 25))
        have g3 := keep_cell (up_alloc w4 (.cells #[.slice A4 n4 c4] 25)) g3
        clear hb HRDD
        go_wp2_with fail
        refine (HDC.out.size x A3 n3 c3 _ (HT.out _ hB) hw l3).mono ?_
        rintro e w5 ⟨rfl, hb⟩
        have hB := keep_below hB hb
        obtain ⟨M, hM⟩ : ∃ m, (dg 256 x).length = m := ⟨_, rfl⟩
        have hM2 := HBB.out
        rw [hM] at hM2 ⊢
        have j7 : IntKind.i64.wrap ((kb : Int) + 7) = (kb : Int) + 7 := IntWalk.i64_in _ (by omega)
        have j8 : ((kb : Int) + 7).tdiv 8 = (M : Int) := by rw [Int.tdiv_eq_ediv_of_nonneg (by omega)]; omega
        have j8' : ((kb : Int) + 7) / 8 = (M : Int) := by omega
        have j9 : IntKind.i64.wrap (M : Int) = (M : Int) := IntWalk.i64_in _ (by omega)
        clear hM hM2 hb hw g3
        go_wp2
        go_ret
        exact ⟨by first | rfl | simp, hB⟩
  · have q1 := HQ1.out
    have q2 := HQ2.out
    rw [decide_eq_false h1] at q1
    rw [decide_eq_false h2] at q2
    have q3 := hix0 h3
    have HPL := Lib.hid (HP0.out false (hhd true h1 h2 (decide_eq_true h4)))
    rw [h4] at q3
    clear hix0 hhd HP0 HQ1 HQ2 h1 h2 h4
    go_wp2_with fail
    clear q1 q2 q3
    go_loop [7, 8] (fun u ix => ∃ k : Nat, k ≤ S ∧ ix = .int .i64 k ∧ u = .bool (plainTo L k)) (fun _ ix => S - (intOf ix).toNat)
    case atStart => exact ⟨0, Nat.zero_le _, rfl, by rw [HPL.out]⟩
    case round =>
      clear HPL
      obtain ⟨k, hk, rfl, rfl⟩ := hrel
      have i1 : (0 : Int) ≤ (k : Int) := by omega
      by_cases hlt : k < S
      · have i2 : (k : Int) < (S : Int) := by omega
        have HST := Lib.hid (plain_step L (k := k) (by rw [HLS.out]; exact hlt))
        have ix := HIX.out k hlt
        obtain ⟨c, hc⟩ : ∃ c, (L.getD k 0).toNat = c := ⟨_, rfl⟩
        rw [hc] at ix
        have HDG : Hid (isDig (L.getD k 0) = (decide (48 ≤ c) && decide (c ≤ 57))) := by show _ = _; unfold isDig; rw [hc]
        obtain ⟨b, hb⟩ : ∃ b, plainTo L k = b := ⟨_, rfl⟩
        rw [hb] at HST ⊢
        clear hb hc
        cases b
        · have HN : Hid (plainTo L (k + 1) = false) := by show _ = _; rw [HST.out]; rfl
          clear HST HDG
          go_wp2
          go_round
          case rel => exact ⟨k + 1, by omega, by go_num, by rw [HN.out]⟩
          case measure => simp [intOf]; omega
        · by_cases h1 : 48 ≤ c
          · by_cases h2 : c ≤ 57
            · have HN : Hid (plainTo L (k + 1) = true) := by show _ = _; rw [HST.out, HDG.out]; simp [h1, h2]
              have j1 : decide ((48 : Int) ≤ (c : Int)) = true := by simp; omega
              have j2 : decide ((c : Int) ≤ 57) = true := by simp; omega
              clear HST HDG
              go_wp2
              go_round
              case rel => exact ⟨k + 1, by omega, by go_num, by rw [HN.out]⟩
              case measure => simp [intOf]; omega
            · have HN : Hid (plainTo L (k + 1) = false) := by show _ = _; rw [HST.out, HDG.out]; simp [h2]
              have j1 : decide ((48 : Int) ≤ (c : Int)) = true := by simp; omega
              have j2 : decide ((c : Int) ≤ 57) = false := by simp; omega
              clear HST HDG
              go_wp2
              go_round
              case rel => exact ⟨k + 1, by omega, by go_num, by rw [HN.out]⟩
              case measure => simp [intOf]; omega
          · have HN : Hid (plainTo L (k + 1) = false) := by show _ = _; rw [HST.out, HDG.out]; simp [h1]
            have j1 : decide ((48 : Int) ≤ (c : Int)) = false := by simp; omega
            clear HST HDG
            go_wp2
            go_round
            case rel => exact ⟨k + 1, by omega, by go_num, by rw [HN.out]⟩
            case measure => simp [intOf]; omega
      · have hkS : k = S := by omega
        subst hkS
        have HPA := Lib.hid (plain_all L (k := k) (by rw [HLS.out]; exact Nat.le_refl _))
        rw [HPA.out]
        obtain ⟨ob, hob⟩ : ∃ b, okR L = b := ⟨_, rfl⟩
        have RD := HRD.out w3 (HT.out _ hB)
        rw [hob] at RD ⊢
        have HRDD := Lib.hid RD
        clear RD hob HPA HIX
        go_wp2_with fail
        refine HRDD.out.mono ?_
        rintro e w4 ⟨A4, n4, c4, rfl, _, hb⟩
        have hB := keep_below hB hb
        have hw := hw.below hb
        have g3 := keep_cell hb g3
        have hB := keep_below hB (up_alloc w4 (.cells #[.slice A4 n4 c4] 25))
        have hw := hw.below (up_alloc w4 (.cells #[.slice A4 n4 c4] 25))
        have g3 := keep_cell (up_alloc w4 (.cells #[.slice A4 n4 c4] 25)) g3
        clear hb HRDD
        go_wp2_with fail
        refine (HDC.out.size x A3 n3 c3 _ (HT.out _ hB) hw l3).mono ?_
        rintro e w5 ⟨rfl, hb⟩
        have hB := keep_below hB hb
        obtain ⟨M, hM⟩ : ∃ m, (dg 256 x).length = m := ⟨_, rfl⟩
        have hM2 := HBB.out
        rw [hM] at hM2 ⊢
        have j7 : IntKind.i64.wrap ((kb : Int) + 7) = (kb : Int) + 7 := IntWalk.i64_in _ (by omega)
        have j8 : ((kb : Int) + 7).tdiv 8 = (M : Int) := by rw [Int.tdiv_eq_ediv_of_nonneg (by omega)]; omega
        have j8' : ((kb : Int) + 7) / 8 = (M : Int) := by omega
        have j9 : IntKind.i64.wrap (M : Int) = (M : Int) := IntWalk.i64_in _ (by omega)
        clear hM hM2 hb hw g3
        go_wp2
        go_ret
        exact ⟨by first | rfl | simp, hB⟩
  · have q1 := HQ1.out
    have q2 := HQ2.out
    rw [decide_eq_false h1] at q1
    rw [decide_eq_false h2] at q2
    have q3 := hix0 h3
    have HPL := Lib.hid (HP0.out true (hhd false h1 h2 (decide_eq_false h4)))
    obtain ⟨cc, hcc⟩ : ∃ c, (L.getD 0 0).toNat = c := ⟨_, rfl⟩
    rw [hcc] at q3 h4
    have q4 : ((cc : Int) != 48) = true := by rw [bne_iff_ne]; omega
    have q5 : ((cc : Int) == 48) = false := by rw [beq_eq_false_iff_ne]; omega
    clear hix0 hhd HP0 HQ1 HQ2 h1 h2 hcc
    go_wp2_with fail
    clear q1 q2 q3 q4 q5 h4
    go_loop [7, 8] (fun u ix => ∃ k : Nat, k ≤ S ∧ ix = .int .i64 k ∧ u = .bool (plainTo L k)) (fun _ ix => S - (intOf ix).toNat)
    case atStart => exact ⟨0, Nat.zero_le _, rfl, by rw [HPL.out]⟩
    case round =>
      clear HPL
      obtain ⟨k, hk, rfl, rfl⟩ := hrel
      have i1 : (0 : Int) ≤ (k : Int) := by omega
      by_cases hlt : k < S
      · have i2 : (k : Int) < (S : Int) := by omega
        have HST := Lib.hid (plain_step L (k := k) (by rw [HLS.out]; exact hlt))
        have ix := HIX.out k hlt
        obtain ⟨c, hc⟩ : ∃ c, (L.getD k 0).toNat = c := ⟨_, rfl⟩
        rw [hc] at ix
        have HDG : Hid (isDig (L.getD k 0) = (decide (48 ≤ c) && decide (c ≤ 57))) := by show _ = _; unfold isDig; rw [hc]
        obtain ⟨b, hb⟩ : ∃ b, plainTo L k = b := ⟨_, rfl⟩
        rw [hb] at HST ⊢
        clear hb hc
        cases b
        · have HN : Hid (plainTo L (k + 1) = false) := by show _ = _; rw [HST.out]; rfl
          clear HST HDG
          go_wp2
          go_round
          case rel => exact ⟨k + 1, by omega, by go_num, by rw [HN.out]⟩
          case measure => simp [intOf]; omega
        · by_cases h1 : 48 ≤ c
          · by_cases h2 : c ≤ 57
            · have HN : Hid (plainTo L (k + 1) = true) := by show _ = _; rw [HST.out, HDG.out]; simp [h1, h2]
              have j1 : decide ((48 : Int) ≤ (c : Int)) = true := by simp; omega
              have j2 : decide ((c : Int) ≤ 57) = true := by simp; omega
              clear HST HDG
              go_wp2
              go_round
              case rel => exact ⟨k + 1, by omega, by go_num, by rw [HN.out]⟩
              case measure => simp [intOf]; omega
            · have HN : Hid (plainTo L (k + 1) = false) := by show _ = _; rw [HST.out, HDG.out]; simp [h2]
              have j1 : decide ((48 : Int) ≤ (c : Int)) = true := by simp; omega
              have j2 : decide ((c : Int) ≤ 57) = false := by simp; omega
              clear HST HDG
              go_wp2
              go_round
              case rel => exact ⟨k + 1, by omega, by go_num, by rw [HN.out]⟩
              case measure => simp [intOf]; omega
          · have HN : Hid (plainTo L (k + 1) = false) := by show _ = _; rw [HST.out, HDG.out]; simp [h1]
            have j1 : decide ((48 : Int) ≤ (c : Int)) = false := by simp; omega
            clear HST HDG
            go_wp2
            go_round
            case rel => exact ⟨k + 1, by omega, by go_num, by rw [HN.out]⟩
            case measure => simp [intOf]; omega
      · have hkS : k = S := by omega
        subst hkS
        have HPA := Lib.hid (plain_all L (k := k) (by rw [HLS.out]; exact Nat.le_refl _))
        rw [HPA.out]
        obtain ⟨ob, hob⟩ : ∃ b, okR L = b := ⟨_, rfl⟩
        have RD := HRD.out w3 (HT.out _ hB)
        rw [hob] at RD ⊢
        have HRDD := Lib.hid RD
        clear RD hob HPA HIX
        go_wp2_with fail
        refine HRDD.out.mono ?_
        rintro e w4 ⟨A4, n4, c4, rfl, _, hb⟩
        have hB := keep_below hB hb
        have hw := hw.below hb
        have g3 := keep_cell hb g3
        have hB := keep_below hB (up_alloc w4 (.cells #[.slice A4 n4 c4] 25))
        have hw := hw.below (up_alloc w4 (.cells #[.slice A4 n4 c4] 25))
        have g3 := keep_cell (up_alloc w4 (.cells #[.slice A4 n4 c4] 25)) g3
        clear hb HRDD
        go_wp2_with fail
        refine (HDC.out.size x A3 n3 c3 _ (HT.out _ hB) hw l3).mono ?_
        rintro e w5 ⟨rfl, hb⟩
        have hB := keep_below hB hb
        obtain ⟨M, hM⟩ : ∃ m, (dg 256 x).length = m := ⟨_, rfl⟩
        have hM2 := HBB.out
        rw [hM] at hM2 ⊢
        have j7 : IntKind.i64.wrap ((kb : Int) + 7) = (kb : Int) + 7 := IntWalk.i64_in _ (by omega)
        have j8 : ((kb : Int) + 7).tdiv 8 = (M : Int) := by rw [Int.tdiv_eq_ediv_of_nonneg (by omega)]; omega
        have j8' : ((kb : Int) + 7) / 8 = (M : Int) := by omega
        have j9 : IntKind.i64.wrap (M : Int) = (M : Int) := IntWalk.i64_in _ (by omega)
        clear hM hM2 hb hw g3
        go_wp2
        go_ret
        exact ⟨by first | rfl | simp, hB⟩
end Go.Proofs.Ytnnhcicdildfaaa
