/-
  The contract of the reference's Read (actuaryref06). Conditions: a text of up to 2 to the 31 bytes.
-/
import Derived.Test.YtnnhcicdildfaaaRows
import Derived.Test.YtnnhcicdildfaaaR6Parse
import Derived.Test.YtnnhcicdildfaaaD6Size
import Derived.WalkKit
import Derived.Lib.Hide
import Derived.Outline
import Derived.LoopTactic
import Derived.Deep.LoopGhost
import Derived.IntWalk
namespace Go.Proofs.Ytnnhcicdildfaaa
open Go Go.RowKit
set_option maxRecDepth 100000
set_option linter.unusedVariables false
set_option maxHeartbeats 8000000 in
theorem ref6_read (s : ByteArray) (w : World) (hn : s.size ≤ 2147483648) :
    Calls Try.prog 20 #[.string s] w (GivesR w (if okR s.data.toList then valR s.data.toList else 0) (okR s.data.toList)) := by
  obtain ⟨L, hL⟩ : ∃ L, s.data.toList = L := ⟨_, rfl⟩
  obtain ⟨S, hS⟩ : ∃ S, s.size = S := ⟨_, rfl⟩
  have HLS := Lib.hid (show L.length = S by rw [← hL, str_len, hS])
  have HIX : Hid (∀ k, k < S → ∀ w, (Instr.index 9 (.string s) (.int .i64 (k : Int))).run Try.prog w = .ok (.int .u8 (((L.getD k 0).toNat : Nat) : Int)) w) := fun k hk w => by
    have := str_idx (P := Try.prog) Try.underlying9 s k (by omega) w
    rw [hL] at this
    exact this
  have q1 : (s.toList == []) = decide (L = []) := str_lit _ _ _ (by rw [hL])
  have q2 : (s.toList == [48]) = decide (L = [48]) := str_lit _ _ _ (by rw [hL])
  have HBAD : Hid (headOk L = false ∨ L.all isDig = false → okR L = false) := fun h => by
    rw [okR_head]
    rcases h with h | h <;> rw [h] <;> simp
  have HGOOD : Hid (headOk L = true → L.all isDig = true → okR L = true) := fun h1 h2 => by rw [okR_head, h1, h2]; rfl
  have hB := Below.refl w.heap.size w
  rw [hL]
  obtain ⟨ob, hob⟩ : ∃ b, okR L = b := ⟨_, rfl⟩
  rw [hob] at HBAD HGOOD ⊢
  clear hL hob
  have hS1 : S ≤ 2147483648 := by omega
  have hv0 : ob = false → (if ob then valR L else 0) = 0 := fun h => by rw [h]; rfl
  have hv1 : ob = true → (if ob then valR L else 0) = valR L := fun h => by rw [h]; rfl
  obtain ⟨V, hV⟩ : ∃ v, (if ob then valR L else 0) = v := ⟨_, rfl⟩
  rw [hV] at hv0 hv1 ⊢
  clear hV
  have HV1 := Lib.hid hv1
  have NO : ob = false → Hid (∀ w', Below w.heap.size w w' → GivesR w V ob (.returned (.tuple #[.slice none 0 0, .bool false])) w') := fun h w' hb => by
    rw [hv0 h, h]
    exact ⟨none, 0, 0, rfl, holds_nil _, hb⟩
  clear hv0 hv1
  by_cases h0 : L = []
  · have HN := NO (HBAD.out (.inl (by rw [h0]; rfl)))
    rw [decide_eq_true h0] at q1
    clear q2 NO HBAD HGOOD HIX h0
    go_enter Try.func20, Try.ntmps20
    go_wp2
    go_ret2
    exact HN.out _ hB
  · rw [decide_eq_false h0] at q1
    have hpos : 0 < S := by rw [← HLS.out]; exact List.length_pos_iff.2 h0
    have ix0 : ∀ w, (Instr.index 9 (.string s) (.int .i64 0)).run Try.prog w = .ok (.int .u8 (((L.getD 0 0).toNat : Nat) : Int)) w := fun w => HIX.out 0 hpos w
    by_cases h1 : (L.getD 0 0).toNat = 48 ∧ L ≠ [48]
    · have HN := NO (HBAD.out (.inl (by
        obtain ⟨h1, h2⟩ := h1
        unfold headOk
        match L, h0 with
        | c :: t, _ =>
          have hc : c = 48 := by
            have h1 : c.toNat = 48 := h1
            rw [← UInt8.ofNat_toNat (x := c), h1]; rfl
          rw [decide_eq_false h2, hc]
          rfl)))
      rw [decide_eq_false h1.2] at q2
      rw [h1.1] at ix0
      clear NO HBAD HGOOD HIX h0 h1
      go_enter Try.func20, Try.ntmps20
      go_wp2
      go_ret2
      exact HN.out _ hB
    · have HHD : Hid (headOk L = true) := by
        show _ = _
        unfold headOk
        match L, h0 with
        | c :: t, _ =>
          by_cases hc : c = 48
          · have h2 : c :: t = [48] := by
              by_cases h2 : c :: t = [48]
              · exact h2
              · exact absurd ⟨by rw [hc]; rfl, h2⟩ h1
            rw [decide_eq_true h2]; simp
          · simp [hc]
      by_cases h2 : L = [48]
      · rw [decide_eq_true h2] at q2
        have h3 : (L.getD 0 0).toNat = 48 := by rw [h2]; rfl
        rw [h3] at ix0
        clear h2 h3 h0 h1
        go_enter Try.func20, Try.ntmps20
        go_wp2_with fail
        clear q1 q2 ix0
        go_loopg [4, 5] (S + 1) (fun gg u ix wr => ∃ (k : Nat) (A2 : Option Addr) (n2 c2 : Nat), k ≤ S ∧ S < gg + k ∧ ix = .int .i64 k ∧ u = .slice A2 n2 c2 ∧ Hid ((L.take k).all isDig = true) ∧ Holds16 wr (valR (L.take k)) A2 n2 c2 ∧ Below w.heap.size w wr)
        case atStart => exact ⟨0, none, 0, 0, Nat.zero_le _, by omega, rfl, rfl, rfl, holds_nil _, hB⟩
        case round =>
          clear hB
          obtain ⟨k, A2, n2, c2, hk, hg, rfl, rfl, HAL, hh, hB⟩ := hrel
          have i1 : (0 : Int) ≤ (k : Int) := by omega
          by_cases hlt : k < S
          · have i2 : (k : Int) < (S : Int) := by omega
            have hkl : k < L.length := by rw [HLS.out]; exact hlt
            have ix := HIX.out k hlt
            have HST := Lib.hid (valR_step L hkl)
            have HBK := Lib.hid (fun h => all_bad hkl h)
            have HAK := Lib.hid (fun h => all_step hkl HAL.out h)
            have hn2 : n2 ≤ 549755813888 := by
              rw [hh.len]
              have h1 := valR_len HAL.out
              rw [List.length_take] at h1
              omega
            have hdg : isDig (L.getD k 0) = (decide (48 ≤ (L.getD k 0).toNat) && decide ((L.getD k 0).toNat ≤ 57)) := rfl
            rw [hdg] at HBK HAK
            obtain ⟨c, hc⟩ : ∃ c, (L.getD k 0).toNat = c := ⟨_, rfl⟩
            rw [hc] at ix HST HBK HAK
            clear hc hdg
            by_cases h1 : 48 ≤ c
            · by_cases h2 : c ≤ 57
              · have HN := Lib.hid (HAK.out (by simp [h1, h2]))
                obtain ⟨d, hd⟩ : ∃ d, c - 48 = d := ⟨_, rfl⟩
                rw [hd] at HST
                have j1 : decide ((c : Int) < 48) = false := by simp; omega
                have j2 : decide ((57 : Int) < (c : Int)) = false := by simp; omega
                have j3 : (c : Int) - 48 = (d : Int) := by omega
                have j4 : IntKind.u8.wrap (d : Int) = (d : Int) := by simp [IntKind.wrap, IntKind.bits, IntKind.signed]; omega
                have j5 : IntKind.i64.wrap (d : Int) = (d : Int) := IntWalk.i64_in _ (by omega)
                have SM := Lib.hid (show Calls Try.prog 36 #[.slice A2 n2 c2, .int .i64 10, .int .i64 (d : Int)] wr (Gives16 wr (valR (L.take k) * 10 + d)) from ref2_small (valR (L.take k)) 10 d A2 n2 c2 wr hh hn2 (by decide) (by omega))
                rw [← HST.out] at SM
                clear hd HST hh HBK HAK HAL
                go_wp2_with fail
                refine SM.out.mono ?_
                intro e w3 hg3
                obtain ⟨A3, n3, c3, rfl, hh3, hb⟩ := hg3.elim
                have hB3 := keep_below hB hb
                clear hb hg3 hB
                go_wp2
                go_roundg (S - k)
                case measure => omega
                case rel => exact ⟨k + 1, A3, n3, c3, by omega, by omega, by go_num, rfl, HN, hh3, hB3⟩
              · have HN := NO (HBAD.out (.inr (HBK.out (by simp [h2]))))
                have j1 : decide ((c : Int) < 48) = false := by simp; omega
                have j2 : decide ((57 : Int) < (c : Int)) = true := by simp; omega
                clear HST hh HBK HAK HAL NO
                go_wp2
                go_ret2
                exact HN.out _ hB
            · have HN := NO (HBAD.out (.inr (HBK.out (by simp [h1]))))
              have j1 : decide ((c : Int) < 48) = true := by simp; omega
              clear HST hh HBK HAK HAL NO
              go_wp2
              go_ret2
              exact HN.out _ hB
          · have hkS : k = S := by omega
            subst hkS
            rw [List.take_of_length_le (by rw [HLS.out]; exact Nat.le_refl _)] at hh HAL
            have HO := Lib.hid (HGOOD.out HHD.out HAL.out)
            rw [← HV1.out HO.out] at hh
            have HO2 : Hid (∀ w', GivesR w V true (.returned (.tuple #[.slice A2 n2 c2, .bool true])) w' → GivesR w V ob (.returned (.tuple #[.slice A2 n2 c2, .bool true])) w') := fun w' h => by rw [HO.out]; exact h
            clear NO HAL
            go_wp2
            go_ret2
            exact HO2.out _ ⟨A2, n2, c2, rfl, hh, hB⟩
      · rw [decide_eq_false h2] at q2
        have h3 : (L.getD 0 0).toNat ≠ 48 := fun e => h1 ⟨e, h2⟩
        obtain ⟨cc, hcc⟩ : ∃ c, (L.getD 0 0).toNat = c := ⟨_, rfl⟩
        rw [hcc] at ix0 h3
        have q4 : ((cc : Int) != 48) = true := by rw [bne_iff_ne]; omega
        have q5 : ((cc : Int) == 48) = false := by rw [beq_eq_false_iff_ne]; omega
        clear h2 h0 h1 hcc
        go_enter Try.func20, Try.ntmps20
        go_wp2_with fail
        clear q1 q2 ix0 q4 q5 h3
        go_loopg [4, 5] (S + 1) (fun gg u ix wr => ∃ (k : Nat) (A2 : Option Addr) (n2 c2 : Nat), k ≤ S ∧ S < gg + k ∧ ix = .int .i64 k ∧ u = .slice A2 n2 c2 ∧ Hid ((L.take k).all isDig = true) ∧ Holds16 wr (valR (L.take k)) A2 n2 c2 ∧ Below w.heap.size w wr)
        case atStart => exact ⟨0, none, 0, 0, Nat.zero_le _, by omega, rfl, rfl, rfl, holds_nil _, hB⟩
        case round =>
          clear hB
          obtain ⟨k, A2, n2, c2, hk, hg, rfl, rfl, HAL, hh, hB⟩ := hrel
          have i1 : (0 : Int) ≤ (k : Int) := by omega
          by_cases hlt : k < S
          · have i2 : (k : Int) < (S : Int) := by omega
            have hkl : k < L.length := by rw [HLS.out]; exact hlt
            have ix := HIX.out k hlt
            have HST := Lib.hid (valR_step L hkl)
            have HBK := Lib.hid (fun h => all_bad hkl h)
            have HAK := Lib.hid (fun h => all_step hkl HAL.out h)
            have hn2 : n2 ≤ 549755813888 := by
              rw [hh.len]
              have h1 := valR_len HAL.out
              rw [List.length_take] at h1
              omega
            have hdg : isDig (L.getD k 0) = (decide (48 ≤ (L.getD k 0).toNat) && decide ((L.getD k 0).toNat ≤ 57)) := rfl
            rw [hdg] at HBK HAK
            obtain ⟨c, hc⟩ : ∃ c, (L.getD k 0).toNat = c := ⟨_, rfl⟩
            rw [hc] at ix HST HBK HAK
            clear hc hdg
            by_cases h1 : 48 ≤ c
            · by_cases h2 : c ≤ 57
              · have HN := Lib.hid (HAK.out (by simp [h1, h2]))
                obtain ⟨d, hd⟩ : ∃ d, c - 48 = d := ⟨_, rfl⟩
                rw [hd] at HST
                have j1 : decide ((c : Int) < 48) = false := by simp; omega
                have j2 : decide ((57 : Int) < (c : Int)) = false := by simp; omega
                have j3 : (c : Int) - 48 = (d : Int) := by omega
                have j4 : IntKind.u8.wrap (d : Int) = (d : Int) := by simp [IntKind.wrap, IntKind.bits, IntKind.signed]; omega
                have j5 : IntKind.i64.wrap (d : Int) = (d : Int) := IntWalk.i64_in _ (by omega)
                have SM := Lib.hid (show Calls Try.prog 36 #[.slice A2 n2 c2, .int .i64 10, .int .i64 (d : Int)] wr (Gives16 wr (valR (L.take k) * 10 + d)) from ref2_small (valR (L.take k)) 10 d A2 n2 c2 wr hh hn2 (by decide) (by omega))
                rw [← HST.out] at SM
                clear hd HST hh HBK HAK HAL
                go_wp2_with fail
                refine SM.out.mono ?_
                intro e w3 hg3
                obtain ⟨A3, n3, c3, rfl, hh3, hb⟩ := hg3.elim
                have hB3 := keep_below hB hb
                clear hb hg3 hB
                go_wp2
                go_roundg (S - k)
                case measure => omega
                case rel => exact ⟨k + 1, A3, n3, c3, by omega, by omega, by go_num, rfl, HN, hh3, hB3⟩
              · have HN := NO (HBAD.out (.inr (HBK.out (by simp [h2]))))
                have j1 : decide ((c : Int) < 48) = false := by simp; omega
                have j2 : decide ((57 : Int) < (c : Int)) = true := by simp; omega
                clear HST hh HBK HAK HAL NO
                go_wp2
                go_ret2
                exact HN.out _ hB
            · have HN := NO (HBAD.out (.inr (HBK.out (by simp [h1]))))
              have j1 : decide ((c : Int) < 48) = true := by simp; omega
              clear HST hh HBK HAK HAL NO
              go_wp2
              go_ret2
              exact HN.out _ hB
          · have hkS : k = S := by omega
            subst hkS
            rw [List.take_of_length_le (by rw [HLS.out]; exact Nat.le_refl _)] at hh HAL
            have HO := Lib.hid (HGOOD.out HHD.out HAL.out)
            rw [← HV1.out HO.out] at hh
            have HO2 : Hid (∀ w', GivesR w V true (.returned (.tuple #[.slice A2 n2 c2, .bool true])) w' → GivesR w V ob (.returned (.tuple #[.slice A2 n2 c2, .bool true])) w') := fun w' h => by rw [HO.out]; exact h
            clear NO HAL
            go_wp2
            go_ret2
            exact HO2.out _ ⟨A2, n2, c2, rfl, hh, hB⟩
end Go.Proofs.Ytnnhcicdildfaaa
