/-
  The contracts of digits' Size, Plain, readPiece, isText and withoutHighNoughts. Conditions: as each says.
-/
import Derived.Test.YtnnhcicdildfaaaRows
import Derived.Test.YtnnhcicdildfaaaD6Size
import Derived.Test.YtnnhcicdildfaaaNBits
import Derived.Test.YtnnhcicdildfaaaH6Row
import Derived.WalkKit
import Derived.Lib.Hide
import Derived.Outline
import Derived.LoopTactic
import Derived.Deep.LoopGhost
import Derived.IntWalk
namespace Go.Proofs.Ytnnhcicdildfaaa
open Go Go.RowKit
set_option maxRecDepth 100000
set_option linter.unusedVariables false
set_option linter.unusedSimpArgs false
set_option maxHeartbeats 2000000 in
theorem digits_size (x : Nat) (A : Option Addr) (n c : Nat) (w : World) (hA : WordsIn w x A n c) (hn : n ≤ 274877906944) :
    Calls Try.prog 14 #[.agg #[.slice A n c]] w fun e w' => e = .returned (.int .i64 ((dg 256 x).length : Nat)) ∧ Below w.heap.size w w' := by
  have HBB := Lib.hid (bytes_bits x)
  have hbl : bitLen x ≤ 64 * n := bitLen_le _ _ (by rw [← pow64]; have := dg_lt (b := 18446744073709551616) (by decide) x; rwa [hA.len] at this)
  have hb1 := up_alloc w (.cells #[.slice A n c] 25)
  have HC := Lib.hid (nat_bits x A n c _ (hA.below hb1) (by omega))
  obtain ⟨kb, hkb⟩ : ∃ k, bitLen x = k := ⟨_, rfl⟩
  rw [hkb] at HBB hbl HC
  obtain ⟨M, hM⟩ : ∃ m, (dg 256 x).length = m := ⟨_, rfl⟩
  rw [hM] at HBB ⊢
  clear hkb hM hA
  go_enter Try.func14, Try.ntmps14
  go_wp2_with fail
  refine HC.out.mono ?_
  rintro e w3 ⟨rfl, hb⟩
  have hB := keep_below hb1 hb
  clear hb hb1
  go_wp2
  go_ret
  exact ⟨ret_i64 (by have := HBB.out; omega), hB⟩
theorem digits_plain (l : List Nat) (A : Option Addr) (n c : Nat) (w : World) (hr : Reads w w.heap.size 1 A n (vals .u8 l)) (hd : Dgs 256 l) :
    Calls Try.prog 22 #[.slice A n c] w fun e w' => e = .returned (.bool (plainL l)) ∧ w = w' := by
  have hl := hr.len_
  have hcase : (n = 0 ∧ plainL l = true) ∨ (0 < n ∧ l.getD 0 0 = 0 ∧ plainL l = false) ∨ (0 < n ∧ l.getD 0 0 ≠ 0 ∧ plainL l = true) := by
    match l, hl with
    | [], hl => exact .inl ⟨by simpa using hl.symm, rfl⟩
    | a :: t, hl =>
      have h0 : 0 < n := by simp at hl; omega
      by_cases ha : a = 0
      · exact .inr (.inl ⟨h0, by simpa using ha, by simp [plainL, ha]⟩)
      · exact .inr (.inr ⟨h0, by simpa using ha, by simp [plainL, ha]⟩)
  rcases hcase with ⟨h0, hp⟩ | ⟨h0, hz, hp⟩ | ⟨h0, hz, hp⟩
  · rw [hp]
    subst h0
    clear hr hd hl hp
    go_enter Try.func22, Try.ntmps22
    go_wp2
    go_ret
    exact ⟨rfl, rfl⟩
  · obtain ⟨ad, rfl, hadb, hc0⟩ := val_at hr (k := 0) h0
    rw [hz] at hc0
    have hc1 : w.cell? ad = some (.int .u8 ((0 : Nat) : Int)) := by rw [← addr_zero ad]; exact hc0
    rw [hp]
    have i1 : (0 : Int) < (n : Int) := by omega
    have i2 : ((n : Int) == 0) = false := by rw [beq_eq_false_iff_ne]; omega
    clear hr hd hl hp hz
    go_enter Try.func22, Try.ntmps22
    go_wp2
    go_ret
    exact ⟨rfl, rfl⟩
  · obtain ⟨ad, rfl, hadb, hc0⟩ := val_at hr (k := 0) h0
    rw [hp]
    have i0 : (0 : Int) < (n : Int) := by omega
    have i2 : ((n : Int) == 0) = false := by rw [beq_eq_false_iff_ne]; omega
    obtain ⟨a, ha⟩ : ∃ a, l.getD 0 0 = a := ⟨_, rfl⟩
    rw [ha] at hc0 hz
    have hc1 : w.cell? ad = some (.int .u8 (a : Int)) := by rw [← addr_zero ad]; exact hc0
    have hz1 : ((a : Int) == 0) = false := by rw [beq_eq_false_iff_ne]; omega
    have hz2 : ((a : Int) != 0) = true := by rw [bne_iff_ne]; omega
    clear hr hd hl hp ha
    go_enter Try.func22, Try.ntmps22
    go_wp2
    go_ret
    exact ⟨rfl, rfl⟩
theorem valR_lt {l : List UInt8} (hd : l.all isDig = true) : valR l < 10 ^ l.length := by
  have h1 := dv_lt (digB_dgs hd)
  have e : (digB l).length = l.length := by simp [digB]
  rwa [e] at h1
theorem all_take {l : List UInt8} (h : l.all isDig = true) (k : Nat) : (l.take k).all isDig = true :=
  List.all_eq_true.2 fun c hc => List.all_eq_true.1 h c (List.mem_of_mem_take hc)
theorem pow10_19 {k : Nat} (h : k ≤ 18) : 10 ^ k ≤ 1000000000000000000 := Nat.le_trans (Nat.pow_le_pow_right (by decide) h) (by decide)
set_option maxHeartbeats 2000000 in
theorem digits_readPiece (s : ByteArray) (w : World) (hd : s.data.toList.all isDig = true) (hs : s.size ≤ 19) :
    Calls Try.prog 38 #[.string s] w fun e w' => e = .returned (.int .u64 (valR s.data.toList : Nat)) ∧ w = w' := by
  obtain ⟨L, hL⟩ : ∃ L, s.data.toList = L := ⟨_, rfl⟩
  obtain ⟨S, hS⟩ : ∃ S, s.size = S := ⟨_, rfl⟩
  have HLS := Lib.hid (show L.length = S by rw [← hL, str_len, hS])
  have HIX : Hid (∀ k, k < S → ∀ w, (Instr.index 9 (.string s) (.int .i64 (k : Int))).run Try.prog w = .ok (.int .u8 (((L.getD k 0).toNat : Nat) : Int)) w) := fun k hk w => by
    have := str_idx (P := Try.prog) Try.underlying9 s k (by omega) w
    rw [hL] at this
    exact this
  rw [hL] at hd ⊢
  have HD := Lib.hid hd
  rw [hS] at hs
  clear hL hd
  go_enter Try.func38, Try.ntmps38
  go_wp2
  go_loop [3, 7] (fun p ix => ∃ k : Nat, k ≤ S ∧ ix = .int .i64 k ∧ p = .int .u64 (valR (L.take k) : Nat)) (fun _ ix => S - (intOf ix).toNat)
  case atStart => exact ⟨0, Nat.zero_le _, rfl, rfl⟩
  case round =>
    obtain ⟨k, hk, rfl, rfl⟩ := hrel
    have i1 : (0 : Int) ≤ (k : Int) := by omega
    by_cases hlt : k < S
    · have i2 : (k : Int) < (S : Int) := by omega
      have hkl : k < L.length := by rw [HLS.out]; exact hlt
      have ix := HIX.out k hlt
      have HST := Lib.hid (valR_step L hkl)
      have hdg : isDig (L.getD k 0) = true := List.all_eq_true.1 HD.out _ (by rw [List.getD_eq_getElem?_getD, List.getElem?_eq_getElem hkl]; exact List.getElem_mem hkl)
      have hv : valR (L.take k) < 1000000000000000000 := by
        have h1 := valR_lt (all_take HD.out k)
        rw [List.length_take] at h1
        exact Nat.lt_of_lt_of_le h1 (pow10_19 (by omega))
      unfold isDig at hdg
      obtain ⟨c, hc⟩ : ∃ c, (L.getD k 0).toNat = c := ⟨_, rfl⟩
      rw [hc] at ix HST hdg
      simp only [Bool.and_eq_true, decide_eq_true_eq] at hdg
      obtain ⟨d, hd⟩ : ∃ d, c - 48 = d := ⟨_, rfl⟩
      rw [hd] at HST
      have j3 : (c : Int) - 48 = (d : Int) := by omega
      have j4 : IntKind.u8.wrap (d : Int) = (d : Int) := by simp [IntKind.wrap, IntKind.bits, IntKind.signed]; omega
      have j5 : IntKind.u64.wrap (d : Int) = (d : Int) := by simp [IntKind.wrap, IntKind.bits, IntKind.signed]; omega
      have j6 : d ≤ 9 := by omega
      obtain ⟨v, hve⟩ : ∃ v, valR (L.take k) = v := ⟨_, rfl⟩
      rw [hve] at HST hv ⊢
      clear hc hd hve hdg
      go_wp2
      go_round
      case rel => exact ⟨k + 1, by omega, by go_num, by rw [HST.out]; go_num⟩
      case measure => simp [intOf]; omega
    · have hkS : k = S := by omega
      subst hkS
      have HT := Lib.hid (List.take_of_length_le (l := L) (i := k) (by rw [HLS.out]; exact Nat.le_refl _))
      rw [HT.out]
      clear HT
      go_wp2
      go_ret
      exact ⟨rfl, rfl⟩
set_option maxHeartbeats 4000000 in
theorem digits_isText (s : ByteArray) (w : World) (hn : s.size ≤ 1099511627776) :
    Calls Try.prog 37 #[.string s] w fun e w' => e = .returned (.bool (okR s.data.toList)) ∧ w = w' := by
  obtain ⟨L, hL⟩ : ∃ L, s.data.toList = L := ⟨_, rfl⟩
  obtain ⟨S, hS⟩ : ∃ S, s.size = S := ⟨_, rfl⟩
  have HLS := Lib.hid (show L.length = S by rw [← hL, str_len, hS])
  have HIX : Hid (∀ k, k < S → ∀ w, (Instr.index 9 (.string s) (.int .i64 (k : Int))).run Try.prog w = .ok (.int .u8 (((L.getD k 0).toNat : Nat) : Int)) w) := fun k hk w => by
    have := str_idx (P := Try.prog) Try.underlying9 s k (by omega) w
    rw [hL] at this
    exact this
  have q1 : (s.toList == []) = decide (L = []) := str_lit _ _ _ (by rw [hL])
  have q2 : (s.toList == [48]) = decide (L = [48]) := str_lit _ _ _ (by rw [hL])
  rw [hL]
  have hS1 : S ≤ 1099511627776 := by omega
  clear hL
  by_cases h0 : L = []
  · have hok : okR L = false := by rw [h0]; rfl
    rw [decide_eq_true h0] at q1
    rw [decide_eq_false (by rw [h0]; simp)] at q2
    rw [hok]
    clear HIX hok h0 HLS
    go_enter Try.func37, Try.ntmps37
    go_wp2
    go_ret
    exact ⟨rfl, rfl⟩
  · rw [decide_eq_false h0] at q1
    have hpos : 0 < S := by rw [← HLS.out]; exact List.length_pos_iff.2 h0
    have ix0 : ∀ w, (Instr.index 9 (.string s) (.int .i64 0)).run Try.prog w = .ok (.int .u8 (((L.getD 0 0).toNat : Nat) : Int)) w := fun w => HIX.out 0 hpos w
    by_cases h1 : (L.getD 0 0).toNat = 48
    · rw [h1] at ix0
      have hc : ∃ t, L = 48 :: t := by
        match L, h0 with
        | c :: t, _ =>
          have h1 : c.toNat = 48 := h1
          exact ⟨t, by rw [← UInt8.ofNat_toNat (x := c), h1]; rfl⟩
      by_cases h2 : L = [48]
      · have hok : okR L = true := by rw [h2]; rfl
        rw [decide_eq_true h2] at q2
        rw [hok]
        clear HIX hok h0 h1 h2 hc HLS
        go_enter Try.func37, Try.ntmps37
        go_wp2
        go_ret
        exact ⟨rfl, rfl⟩
      · have hok : okR L = false := by
          obtain ⟨t, ht⟩ := hc
          unfold okR
          rw [decide_eq_false h2, ht]
          simp
        rw [decide_eq_false h2] at q2
        rw [hok]
        clear HIX hok h0 h1 h2 hc HLS
        go_enter Try.func37, Try.ntmps37
        go_wp2
        go_ret
        exact ⟨rfl, rfl⟩
    · have HOK : Hid (okR L = L.all isDig) := by
        show _ = _
        match L, h0 with
        | c :: t, _ =>
          have hc : ¬ c = 48 := fun e => h1 (by rw [e]; rfl)
          rw [okR_head]
          unfold headOk
          simp [hc]
      have HBAD : Hid (∀ k, k < S → isDig (L.getD k 0) = false → okR L = false) := fun k hk h => by
        rw [HOK.out]; exact all_bad (by rw [HLS.out]; exact hk) h
      have HGOOD : Hid ((L.take S).all isDig = true → okR L = true) := fun h => by
        rw [HOK.out]; rw [List.take_of_length_le (by rw [HLS.out]; exact Nat.le_refl _)] at h; exact h
      obtain ⟨ob, hob⟩ : ∃ b, okR L = b := ⟨_, rfl⟩
      rw [hob] at HBAD HGOOD ⊢
      obtain ⟨cc, hcc⟩ : ∃ c, (L.getD 0 0).toNat = c := ⟨_, rfl⟩
      rw [hcc] at ix0 h1
      have q5 : ((cc : Int) == 48) = false := by rw [beq_eq_false_iff_ne]; omega
      clear h0 hob hcc HOK
      go_enter Try.func37, Try.ntmps37
      go_wp2
      clear q1 q2 ix0 q5 h1
      go_loop [15] (fun ix => ∃ k : Nat, k ≤ S ∧ ix = .int .i64 k ∧ Hid ((L.take k).all isDig = true)) (fun ix => S - (intOf ix).toNat)
      case atStart => exact ⟨0, Nat.zero_le _, rfl, rfl⟩
      case round =>
        obtain ⟨k, hk, rfl, HAL⟩ := hrel
        have i1 : (0 : Int) ≤ (k : Int) := by omega
        by_cases hlt : k < S
        · have i2 : (k : Int) < (S : Int) := by omega
          have hkl : k < L.length := by rw [HLS.out]; exact hlt
          have ix := HIX.out k hlt
          have HBK := Lib.hid (HBAD.out k hlt)
          have HAK := Lib.hid (fun h => all_step hkl HAL.out h)
          have hdg : isDig (L.getD k 0) = (decide (48 ≤ (L.getD k 0).toNat) && decide ((L.getD k 0).toNat ≤ 57)) := rfl
          rw [hdg] at HBK HAK
          obtain ⟨c, hc⟩ : ∃ c, (L.getD k 0).toNat = c := ⟨_, rfl⟩
          rw [hc] at ix HBK HAK
          clear hc hdg HAL
          by_cases h1 : 48 ≤ c
          · by_cases h2 : c ≤ 57
            · have HN := Lib.hid (HAK.out (by simp [h1, h2]))
              have j1 : decide ((c : Int) < 48) = false := by simp; omega
              have j2 : decide ((57 : Int) < (c : Int)) = false := by simp; omega
              clear HBK HAK
              go_wp2
              go_round
              case rel => exact ⟨k + 1, by omega, by go_num, HN⟩
              case measure => simp [intOf]; omega
            · have HN := Lib.hid (HBK.out (by simp [h2]))
              have j1 : decide ((c : Int) < 48) = false := by simp; omega
              have j2 : decide ((57 : Int) < (c : Int)) = true := by simp; omega
              clear HBK HAK
              go_wp2
              go_ret
              exact ⟨by rw [HN.out]; rfl, rfl⟩
          · have HN := Lib.hid (HBK.out (by simp [h1]))
            have j1 : decide ((c : Int) < 48) = true := by simp; omega
            clear HBK HAK
            go_wp2
            go_ret
            exact ⟨by rw [HN.out]; rfl, rfl⟩
        · have hkS : k = S := by omega
          subst hkS
          have HN := Lib.hid (HGOOD.out HAL.out)
          clear HAL
          go_wp2
          go_ret
          exact ⟨by rw [HN.out]; rfl, rfl⟩
/-- Digits as the bytes of a text, in the order in which they stand. -/
def chN (D : List Nat) : List Nat := D.map (48 + ·)
theorem chN_len (D : List Nat) : (chN D).length = D.length := by simp [chN]
theorem chN_getD {D : List Nat} {k : Nat} (h : k < D.length) : (chN D).getD k 0 = 48 + D.getD k 0 := by
  simp [chN, List.getD_eq_getElem?_getD, List.getElem?_eq_getElem h]
theorem chN_append (D E : List Nat) : chN (D ++ E) = chN D ++ chN E := by simp [chN]
theorem dg_take {b : Nat} (hb : 2 ≤ b) {l : List Nat} (h : Dgs b l) : (dg b (dv b l)).length ≤ l.length ∧ l.take (dg b (dv b l)).length = dg b (dv b l) := by
  have hle := dg_len_le hb _ _ (dv_lt h)
  refine ⟨hle, List.ext_getElem (by rw [List.length_take]; omega) fun i h1 h2 => ?_⟩
  have e1 := dv_getD (by omega : 0 < b) h i
  have e2 := dv_getD (by omega : 0 < b) (dg_dgs hb (dv b l)) i
  rw [dv_dg hb] at e2
  rw [List.getD_eq_getElem?_getD, List.getElem?_eq_getElem (by omega)] at e1
  rw [List.getD_eq_getElem?_getD, List.getElem?_eq_getElem h2] at e2
  rw [List.getElem_take]
  exact e1.trans e2.symm
set_option maxHeartbeats 2000000 in
theorem digits_without (ad : Addr) (n c B : Nat) (D : List Nat) (w : World) (hA : Reads w B 1 (some ad) n (vals .u8 (chN D))) (hD : Dgs 10 D) (hc : n ≤ c) (hc' : c ≤ 9223372036854775807) (hn : n ≤ 1099511627776) :
    Calls Try.prog 34 #[.slice (some ad) n c] w fun e w' => e = .returned (.slice (some ad) (dg 10 (dv 10 D)).length c) ∧ w = w' := by
  have HL : Hid (D.length = n) := by show _ = _; rw [← chN_len, hA.len_]
  go_enter Try.func34, Try.ntmps34
  go_wp2
  go_loop [3] (fun s => ∃ m : Nat, m ≤ n ∧ s = .int .i64 m ∧ Hid (dv 10 (D.take m) = dv 10 D)) (fun s => (intOf s).toNat)
  case atStart => exact ⟨n, Nat.le_refl _, rfl, by show _ = _; rw [List.take_of_length_le (by have := HL.out; omega)]⟩
  case round =>
    obtain ⟨m, hm, rfl, H⟩ := hrel
    by_cases hm0 : m = 0
    · subst hm0
      have G : Hid ((dg 10 (dv 10 D)).length = 0) := by
        have e := dg_trim (by decide) hD (Nat.zero_le _) H.out (.inl rfl)
        show _ = _
        rw [← e]; rfl
      go_wp2
      go_ret
      exact ⟨by rw [G.out]; rfl, rfl⟩
    · obtain ⟨j, rfl⟩ : ∃ j, m = j + 1 := ⟨m - 1, by omega⟩
      obtain ⟨ad', e', hadb, hcell⟩ := val_at hA (k := j) (by omega)
      cases e'
      rw [chN_getD (by have := HL.out; omega)] at hcell
      by_cases hz : D.getD j 0 = 0
      · have HM := Lib.hid ((dv_strike 10 (l := D) (n := j) (by have := HL.out; omega) hz).symm.trans H.out)
        rw [hz] at hcell
        clear hz
        go_wp2
        go_round
        case rel => exact ⟨j, by omega, by go_num, HM⟩
        case measure => simp only [intOf]; omega
      · have G : Hid ((dg 10 (dv 10 D)).length = j + 1) := by
          have e := dg_trim (by decide) hD (by have := HL.out; omega) H.out (.inr hz)
          show _ = _
          rw [← e, List.length_take]; have := HL.out; omega
        obtain ⟨d, hd⟩ : ∃ d, 48 + D.getD j 0 = d := ⟨_, rfl⟩
        rw [hd] at hcell
        have hz' : ((d : Int) == 48) = false := beq_eq_false_iff_ne.2 (by omega)
        clear hz hd
        go_wp2
        go_ret
        exact ⟨by rw [G.out]; rfl, rfl⟩
end Go.Proofs.Ytnnhcicdildfaaa
