/-
  The contract of prod's Pow: a power, or that there is none. Conditions: the value is a number of up to 2 to the 38 words.
-/
import Derived.Test.YtonjhcmppiioeaaRows
import Derived.Test.YtonjhcmppiioeaaPMul
import Derived.Test.YtonjhcmppiioeaaNBits
import Derived.Test.YtonjhcmppiioeaaNPost
import Derived.Test.YtonjhcmppiioeaaWLen
import Derived.Test.YtonjhcmppiioeaaN2Lits
import Derived.WalkKit
import Derived.Lib.Hide
import Derived.Outline
import Derived.LoopTactic
import Derived.Deep.LoopGhost
import Derived.IntWalk
namespace Go.Proofs.Ytonjhcmppiioeaa
open Go Go.RowKit
set_option maxRecDepth 100000
set_option linter.unusedVariables false
theorem low1i (c : Nat) (hc : c < 9223372036854775808) : bits .and .i64 (c : Int) 1 = ((c % 2 : Nat) : Int) := by
  have h1 : (BitVec.ofInt 64 (c : Int)).toNat = c := by
    rw [BitVec.ofInt_natCast, BitVec.toNat_ofNat]; exact Nat.mod_eq_of_lt (by omega)
  have h2 : (BitVec.ofInt 64 (1 : Int)).toNat = 1 := by decide
  show IntKind.i64.wrap ((BitVec.ofInt 64 (c : Int) &&& BitVec.ofInt 64 1).toNat : Int) = _
  rw [BitVec.toNat_and, h1, h2, show c &&& 1 = c % 2 from Nat.and_two_pow_sub_one_eq_mod c 1]
  exact IntWalk.i64_in _ (by omega)
theorem pow_le1 {x : Nat} (hx : x ≤ 1) (e : Nat) : x ^ e ≤ 1 := by
  have : x = 0 ∨ x = 1 := by omega
  rcases this with rfl | rfl
  · rcases Nat.eq_zero_or_pos e with rfl | h
    · decide
    · rw [Nat.zero_pow h]; omega
  · rw [Nat.one_pow]; omega
theorem bit_le1 {x : Nat} (h : bitLen x ≤ 1) : x ≤ 1 := by
  rcases Nat.lt_or_ge 1 x with h1 | h1
  · have h2 : bitLen x = bitLen x := rfl
    unfold bitLen at h
    rw [if_neg (by omega)] at h
    have h3 := Nat.lt_log2_self (n := x)
    have : x.log2 = 0 := by omega
    rw [this] at h3; omega
  · exact h1
theorem lt_bits (x : Nat) : x < 2 ^ bitLen x := by
  unfold bitLen
  split
  · rename_i h; subst h; decide
  · exact Nat.lt_log2_self
/-- No power on the way is long. -/
theorem pow_lens {x k : Nat} (h : bitLen x ≤ 1 ∨ k * bitLen x ≤ 65536) (e : Nat) (he : e ≤ k) : (dg 18446744073709551616 (x ^ e)).length ≤ 1025 := by
  obtain ⟨M, hM⟩ : ∃ M, 1025 = M := ⟨_, rfl⟩
  rw [hM]
  refine dg_len_le (by decide) _ _ ?_
  have hB : (18446744073709551616 : Nat) ^ M = 2 ^ (64 * M) := by rw [show (18446744073709551616 : Nat) = 2 ^ 64 from rfl, ← Nat.pow_mul]
  rw [hB]
  rcases h with h | h
  · exact Nat.lt_of_le_of_lt (pow_le1 (bit_le1 h) e) (Nat.lt_of_lt_of_le (by decide : 1 < 2 ^ 1) (Nat.pow_le_pow_right (by decide) (by omega)))
  · have h1 : x ^ e ≤ (2 ^ bitLen x) ^ e := Nat.pow_le_pow_left (Nat.le_of_lt (lt_bits x)) e
    rw [← Nat.pow_mul] at h1
    have h2 : bitLen x * e ≤ k * bitLen x := by rw [Nat.mul_comm k]; exact Nat.mul_le_mul_left _ he
    exact Nat.lt_of_le_of_lt h1 ((Nat.pow_lt_pow_iff_right (by decide)).2 (by omega))
theorem shr_step (k j : Nat) : k / 2 ^ j = k / 2 ^ (j + 1) + k / 2 ^ (j + 1) + k / 2 ^ j % 2 := by
  rw [Nat.pow_succ, ← Nat.div_div_eq_div_mul]; omega
theorem blk_set1 {w : World} {g : Nat} {t : TypeId} {a : Value} (h : Blk w g t #[a]) (u : Value) : Blk (w.setCell ⟨g, 0, none⟩ u) g t #[u] := h.set_ 0 u
/-- tooLong, asked of an exponent that is not below 0. -/
theorem prod_toolong_no (x k : Nat) (A : Option Addr) (n c : Nat) (w : World) (hA : WordsIn w x A n c) (hn : n ≤ 274877906944) (hk : k ≤ 9223372036854775807) (h : bitLen x ≤ 1 ∨ k * bitLen x ≤ 65536) :
    Calls Try.prog 40 #[.agg #[.slice A n c], .int .i64 k] w fun e w' => e = .returned (.bool false) ∧ Below w.heap.size w w' := by
  have HBT := Lib.hid (fun w' (hb : Below w.heap.size w w') => nat_bits x A n c w' (hA.below hb) (by omega))
  have hbl : bitLen x ≤ 64 * n := by
    have h1 := dg_lt (b := 18446744073709551616) (by decide) x
    rw [hA.len, show (18446744073709551616 : Nat) = 2 ^ 64 from rfl, ← Nat.pow_mul] at h1
    exact bitLen_le _ _ h1
  obtain ⟨b, hb⟩ : ∃ b, bitLen x = b := ⟨_, rfl⟩
  rw [hb] at HBT hbl h
  clear hA hb
  by_cases hb1 : b ≤ 1
  · have hd : decide ((b : Int) > 1) = false := by simp; omega
    have hd2 : decide ((1 : Int) < (b : Int)) = false := by simp; omega
    have hd3 : decide (1 < b) = false := by simp; omega
    clear h
    go_enter Try.func40, Try.ntmps40
    go_wp2_with fail
    obtain ⟨b1, b2, b5⟩ := box1 w 29 #[.slice A n c]
    refine (HBT.out _ b1).mono ?_
    rintro e w1 ⟨rfl, hb⟩
    have hB := keep_below b1 hb
    clear hb b1 b2 b5
    go_wp2
    go_ret
    exact ⟨rfl, hB⟩
  · have hq : k ≤ 65536 / b := (Nat.le_div_iff_mul_le (by omega)).2 (by rcases h with h | h <;> omega)
    have hd : decide ((b : Int) > 1) = true := by simp; omega
    have hd2 : decide ((1 : Int) < (b : Int)) = true := by simp; omega
    have hd3 : decide (1 < b) = true := by simp; omega
    have hb0 : ¬ (b : Int) = 0 := by omega
    have hb02 : ((b : Int) == 0) = false := by simp; omega
    obtain ⟨q, hqq⟩ : ∃ q, 65536 / b = q := ⟨_, rfl⟩
    have hqi : (65536 : Int).tdiv (b : Int) = (q : Int) := by
      rw [Int.tdiv_eq_ediv_of_nonneg (by decide), ← hqq]; rfl
    have hqi2 : (65536 : Int) / (b : Int) = (q : Int) := by rw [← hqq]; rfl
    have hqb : q ≤ 65536 := by rw [← hqq]; exact Nat.div_le_self _ _
    rw [hqq] at hq
    have hd4 : decide ((k : Int) > (q : Int)) = false := by simp; omega
    have hd5 : decide ((q : Int) < (k : Int)) = false := by simp; omega
    have hd6 : decide (q < k) = false := by simp; omega
    clear hqq h
    go_enter Try.func40, Try.ntmps40
    go_wp2_with fail
    obtain ⟨b1, b2, b5⟩ := box1 w 29 #[.slice A n c]
    refine (HBT.out _ b1).mono ?_
    rintro e w1 ⟨rfl, hb⟩
    have hB := keep_below b1 hb
    have g1 := keep_cell hb (b2.cell 0 : _ = some (.slice A n c))
    clear hb b1 b2 b5
    go_wp2_with fail
    refine (HBT.out _ hB).mono ?_
    rintro e w2 ⟨rfl, hb⟩
    have hB := keep_below hB hb
    clear hb g1
    go_wp2
    go_ret
    exact ⟨rfl, hB⟩
theorem prod_toolong_yes (x k : Nat) (A : Option Addr) (n c : Nat) (w : World) (hA : WordsIn w x A n c) (hn : n ≤ 274877906944) (hk : k ≤ 9223372036854775807) (h1 : 2 ≤ bitLen x) (h : 65536 < k * bitLen x) :
    Calls Try.prog 40 #[.agg #[.slice A n c], .int .i64 k] w fun e w' => e = .returned (.bool true) ∧ Below w.heap.size w w' := by
  have HBT := Lib.hid (fun w' (hb : Below w.heap.size w w') => nat_bits x A n c w' (hA.below hb) (by omega))
  have hbl : bitLen x ≤ 64 * n := by
    have h1 := dg_lt (b := 18446744073709551616) (by decide) x
    rw [hA.len, show (18446744073709551616 : Nat) = 2 ^ 64 from rfl, ← Nat.pow_mul] at h1
    exact bitLen_le _ _ h1
  obtain ⟨b, hb⟩ : ∃ b, bitLen x = b := ⟨_, rfl⟩
  rw [hb] at HBT hbl h h1
  clear hA hb
  have hq : 65536 / b < k := (Nat.div_lt_iff_lt_mul (by omega)).2 h
  have hd : decide ((b : Int) > 1) = true := by simp; omega
  have hd2 : decide ((1 : Int) < (b : Int)) = true := by simp; omega
  have hd3 : decide (1 < b) = true := by simp; omega
  have hb0 : ¬ (b : Int) = 0 := by omega
  have hb02 : ((b : Int) == 0) = false := by simp; omega
  obtain ⟨q, hqq⟩ : ∃ q, 65536 / b = q := ⟨_, rfl⟩
  have hqi : (65536 : Int).tdiv (b : Int) = (q : Int) := by
    rw [Int.tdiv_eq_ediv_of_nonneg (by decide), ← hqq]; rfl
  have hqi2 : (65536 : Int) / (b : Int) = (q : Int) := by rw [← hqq]; rfl
  have hqb : q ≤ 65536 := by rw [← hqq]; exact Nat.div_le_self _ _
  rw [hqq] at hq
  have hd4 : decide ((k : Int) > (q : Int)) = true := by simp; omega
  have hd5 : decide ((q : Int) < (k : Int)) = true := by simp; omega
  have hd6 : decide (q < k) = true := by simp; omega
  clear hqq h
  go_enter Try.func40, Try.ntmps40
  go_wp2_with fail
  obtain ⟨b1, b2, b5⟩ := box1 w 29 #[.slice A n c]
  refine (HBT.out _ b1).mono ?_
  rintro e w1 ⟨rfl, hb⟩
  have hB := keep_below b1 hb
  have g1 := keep_cell hb (b2.cell 0 : _ = some (.slice A n c))
  clear hb b1 b2 b5
  go_wp2_with fail
  refine (HBT.out _ hB).mono ?_
  rintro e w2 ⟨rfl, hb⟩
  have hB := keep_below hB hb
  clear hb g1
  go_wp2
  go_ret
  exact ⟨rfl, hB⟩
set_option maxHeartbeats 1000000 in
theorem prod_pow_neg (k : Int) (A : Option Addr) (n c : Nat) (w : World) (hk : k < 0) :
    Calls Try.prog 18 #[.agg #[.slice A n c], .int .i64 k] w (GivesNT w 0 false) := by
  have hd : decide (k < 0) = true := by simpa using hk
  have HG : Hid (GivesNT w 0 false (.returned (.tuple #[.agg #[.slice none 0 0], .bool false])) ((w.alloc (.cells #[.slice A n c] 29)).alloc (.cells #[.slice none 0 0] 29))) :=
    ⟨_, _, _, rfl, words_zero _, (box2 w _ _ _ _).1, Fresh.none_ _⟩
  have b3 := (box2 w 29 29 #[.slice A n c] #[.slice none 0 0]).2.2.1
  have hc1 := b3.cell 0
  have hf1 := b3.frozen 0
  go_enter Try.func18, Try.ntmps18
  go_wp2
  refine bodyPost_ret (v := .tuple #[.agg #[.slice none 0 0], .bool false]) (by simp [results, Try.results18, go_sem, hc1]) rfl ?_
  exact HG.out
set_option maxHeartbeats 1000000 in
theorem prod_pow_long (x k : Nat) (A : Option Addr) (n c : Nat) (w : World) (hA : WordsIn w x A n c) (hn : n ≤ 274877906944) (hk : k ≤ 9223372036854775807) (h1 : 2 ≤ bitLen x) (h : 65536 < k * bitLen x) :
    Calls Try.prog 18 #[.agg #[.slice A n c], .int .i64 k] w (GivesNT w 0 false) := by
  have HT := Lib.hid (fun w' (hb : Below w.heap.size w w') => prod_toolong_yes x k A n c w' (hA.below hb) hn hk h1 h)
  have hd : decide ((k : Int) < 0) = false := by simp
  clear hA h1 h
  go_enter Try.func18, Try.ntmps18
  go_wp2_with fail
  generalize hW : (w.alloc (.cells #[.slice A n c] 29)).alloc (.cells #[.slice none 0 0] 29) = W0
  obtain ⟨b1, b2, b3, b5⟩ := box2 w 29 29 #[.slice A n c] #[.slice none 0 0]
  rw [hW] at b1 b2 b3 b5
  clear hW
  refine (HT.out _ b1).mono ?_
  rintro e w1 ⟨rfl, hb⟩
  have hB := keep_below b1 hb
  have hk1 := keep_blk hb b3
  have hc1 : w1.cell? ⟨w.heap.size + 1, 0, none⟩ = some (.slice none 0 0) := hk1.cell 0
  have hf1 := hk1.frozen 0
  have HG : Hid (GivesNT w 0 false (.returned (.tuple #[.agg #[.slice none 0 0], .bool false])) (w1.setCell ⟨w.heap.size + 1, 0, none⟩ (.slice none 0 0))) :=
    ⟨_, _, _, rfl, words_zero _, keep_below_set _ (by show _ ≤ w.heap.size + 1; omega) hB, Fresh.none_ _⟩
  clear hb b1 b2 b3 b5 hB hk1
  go_wp2
  refine bodyPost_ret (v := .tuple #[.agg #[.slice none 0 0], .bool false]) (by simp [results, Try.results18, go_sem, hc1]) rfl ?_
  exact HG.out
set_option maxHeartbeats 4000000 in
theorem prod_pow (x k : Nat) (A : Option Addr) (n c : Nat) (w : World) (hA : WordsIn w x A n c) (hn : n ≤ 274877906944) (hk : k ≤ 9223372036854775807) (h : bitLen x ≤ 1 ∨ k * bitLen x ≤ 65536) :
    Calls Try.prog 18 #[.agg #[.slice A n c], .int .i64 k] w (GivesNT w (x ^ k) true) := by
  have HT := Lib.hid (fun w' (hb : Below w.heap.size w w') => prod_toolong_no x k A n c w' (hA.below hb) hn hk h)
  have hd : decide ((k : Int) < 0) = false := by simp
  have HL := Lib.hid (fun j => pow_lens h (k / 2 ^ j) (Nat.div_le_self _ _))
  have HA := Lib.hid (fun w' (hb : Below w.heap.size w w') => hA.below hb)
  have hkb : bitLen k ≤ 64 := bitLen_le k 64 (by omega)
  have hk0 : k / 2 ^ bitLen k = 0 := Nat.div_eq_of_lt (lt_bits k)
  have e : lenN ((k : Nat) : Int) = ((bitLen k : Nat) : Int) := by unfold lenN; simp
  have WL := (fun w => word_len (k : Nat) ⟨by omega, by omega⟩ w)
  rw [e] at WL
  obtain ⟨l, hl⟩ : ∃ l, bitLen k = l := ⟨_, rfl⟩
  rw [hl] at WL hkb hk0
  have HWL := Lib.hid WL
  have HK0 := Lib.hid hk0
  clear WL hk0 hl e h hA
  go_enter Try.func18, Try.ntmps18
  go_wp2_with fail
  generalize hW : (w.alloc (.cells #[.slice A n c] 29)).alloc (.cells #[.slice none 0 0] 29) = W0
  obtain ⟨b1, b2, b3, b5⟩ := box2 w 29 29 #[.slice A n c] #[.slice none 0 0]
  rw [hW] at b1 b2 b3 b5
  clear hW
  have g1 : W0.cell? ⟨w.heap.size, 0, none⟩ = some (.slice A n c) := b2.cell 0
  refine (HT.out _ b1).mono ?_
  rintro e w1 ⟨rfl, hb⟩
  have hB := keep_below b1 hb
  have hk1 := keep_blk hb b3
  have g1 := keep_cell hb g1
  have hs2 : w.heap.size + 2 ≤ w1.heap.size := Nat.le_trans b5 hb.size
  clear hb b1 b2 b3 b5
  go_wp2_with fail
  generalize hW : w1.alloc (.cells #[.int .u64 1] 23) = V1
  obtain ⟨b1, b3, b5⟩ := box1 w1 23 #[.int .u64 1]
  rw [hW] at b1 b3 b5
  clear hW
  refine (of_lits _ [1] V1 _ 1 1 b3 rfl rfl (dgs1 1 (by decide)) rfl (by decide)).mono ?_
  rintro e w2 ⟨A2, n2, c2, rfl, hw, hb, hf⟩
  have st := up2 b1 hb
  have hB := keep_below hB st
  have hk1 := keep_blk st hk1
  have g1 := keep_cell st g1
  have hf := hf.from_ b1
  have hs3 : w1.heap.size + 1 ≤ w2.heap.size := Nat.le_trans b5 hb.size
  have hw := hw.below (up_alloc w2 (.cells #[.slice A2 n2 c2] 29))
  have hp := Blk.new w2 29 #[.slice A2 n2 c2]
  have hB := keep_below_alloc (.cells #[.slice A2 n2 c2] 29) hB
  have hk1 := hk1.alloc (.cells #[.slice A2 n2 c2] 29)
  have g1 := keep_cell_alloc (.cells #[.slice A2 n2 c2] 29) g1
  clear hb b1 b3 b5 st
  go_wp2_with fail
  generalize w2.alloc (.cells #[.slice A2 n2 c2] 29) = W2 at *
  generalize w2.heap.size = gp at *
  refine (HWL.out _).mono ?_
  rintro e w' ⟨rfl, rfl⟩
  go_wp2_with fail
  go_loopg [7] (l + 1) (fun g ix wr => ∃ (j : Nat) (Ap : Option Addr) (np cp : Nat), j ≤ l ∧ j < g ∧ ix = .int .i64 ((j : Int) - 1) ∧ WordsIn wr (x ^ (k / 2 ^ j)) Ap np cp ∧ Fresh w1 Ap ∧ Blk wr gp 29 #[.slice Ap np cp] ∧ Below w.heap.size w wr ∧ wr.cell? ⟨w.heap.size, 0, none⟩ = some (.slice A n c) ∧ Blk wr (w.heap.size + 1) 29 #[.slice none 0 0])
  case atStart => exact ⟨l, A2, n2, c2, Nat.le_refl _, by omega, rfl, by rw [HK0.out, Nat.pow_zero]; exact hw, hf, hp, hB, g1, hk1⟩
  case round =>
    clear hw hf hp hB g1 hk1
    obtain ⟨j, Ap, np, cp, hjl, hg, rfl, hw, hf, hp, hB, g1, hk1⟩ := hrel
    by_cases hj : j = 0
    · subst hj
      rw [Nat.pow_zero, Nat.div_one] at hw
      have hc1 := hk1.cell 0
      have hf1 := hk1.frozen 0
      have hc2 := hp.cell 0
      have HG : Hid (GivesNT w (x ^ k) true (.returned (.tuple #[.agg #[.slice Ap np cp], .bool true])) (wr.setCell ⟨w.heap.size + 1, 0, none⟩ (.slice Ap np cp))) :=
        ⟨_, _, _, rfl, words_set hw (fun ad e => by have := hf ad e; show ad.block ≠ w.heap.size + 1; omega) _, keep_below_set _ (by show _ ≤ w.heap.size + 1; omega) hB, fun ad e => by have := hf ad e; omega⟩
      clear hw hf hp hB g1 hk1
      go_wp2
      refine bodyPost_ret (v := .tuple #[.agg #[.slice Ap np cp], .bool true]) (by simp [results, Try.results18, go_sem, hc1]) rfl ?_
      exact HG.out
    · obtain ⟨i, rfl⟩ : ∃ i, j = i + 1 := ⟨j - 1, by omega⟩
      have hnp : np ≤ 1025 := by rw [← hw.len]; exact HL.out (i + 1)
      have HS := Lib.hid (prod_square _ Ap np cp wr hw (by omega))
      have hc2 := hp.cell 0
      have hsq : x ^ (k / 2 ^ (i + 1)) * x ^ (k / 2 ^ (i + 1)) = x ^ (k / 2 ^ (i + 1) + k / 2 ^ (i + 1)) := (Nat.pow_add _ _ _).symm
      have hl2 : (dg 18446744073709551616 (x ^ (k / 2 ^ (i + 1)) * x ^ (k / 2 ^ (i + 1)))).length ≤ 2050 := by
        have h1 := dg_lt (b := 18446744073709551616) (by decide) (x ^ (k / 2 ^ (i + 1)))
        rw [hw.len] at h1
        have h2 := dg_len_le (b := 18446744073709551616) (by decide) _ (np + np) (Nat.lt_of_lt_of_eq (Nat.mul_lt_mul'' h1 h1) (Nat.pow_add _ _ _).symm)
        omega
      have HST := Lib.hid (shr_step k i)
      have hi63 : i < 64 := by omega
      have hkd : k / 2 ^ i < 9223372036854775808 := Nat.lt_of_le_of_lt (Nat.div_le_self _ _) (by omega)
      have HB1 := Lib.hid (low1i (k / 2 ^ i) hkd)
      rw [hsq] at hl2
      have HSQ := Lib.hid hsq
      go_wp2_with fail
      refine HS.out.mono ?_
      rintro e w3 ⟨A3, n3, c3, rfl, hw3, hb, hf3⟩
      rw [HSQ.out] at hw3
      have hn3 : n3 ≤ 2050 := by rw [← hw3.len]; exact hl2
      have hB := keep_below hB hb
      have g1 := keep_cell hb g1
      have hk1 := keep_blk hb hk1
      have hwz := hp.lt
      have hp := keep_blk hb hp
      have hf2 := hp.frozen 0
      have hc2 := hp.cell 0
      have ek : (k : Int) / 2 ^ i = ((k / 2 ^ i : Nat) : Int) := by simp
      have hw4 := words_set hw3 (p := ⟨gp, 0, none⟩) (fun ad e => by have := hf3 ad e; show ad.block ≠ gp; omega) (.slice A3 n3 c3)
      have hB4 := keep_below_set (p := ⟨gp, 0, none⟩) (.slice A3 n3 c3) (by show w.heap.size ≤ gp; omega) hB
      have g4 := keep_cell_set (p := ⟨w.heap.size, 0, none⟩) (q := ⟨gp, 0, none⟩) (.slice A3 n3 c3) (by show w.heap.size ≠ gp; omega) g1
      have hk4 := hk1.far (p := ⟨gp, 0, none⟩) (by show w.heap.size + 1 ≠ gp; omega) (.slice A3 n3 c3)
      have hp4 := blk_set1 hp (.slice A3 n3 c3)
      have hsz4 : (w3.setCell ⟨gp, 0, none⟩ (.slice A3 n3 c3)).heap.size = w3.heap.size := by simp
      have hwz2 : gp < w3.heap.size := hp.lt
      have hf4 : Fresh w1 A3 := fun ad e => by have := hf3 ad e; omega
      have hf4 : Fresh w1 A3 := fun ad e => by have := hf3 ad e; omega
      by_cases hbit : k / 2 ^ i % 2 = 1
      · have hb1 : (bits .and .i64 ((k : Int) / 2 ^ i) 1 == 1) = true := by rw [ek, HB1.out, hbit]; rfl
        have HM := Lib.hid (prod_mul _ x A3 A n3 n c3 c _ hw4 (HA.out _ hB4) (by omega) (by omega))
        have HE : Hid (x ^ (k / 2 ^ (i + 1) + k / 2 ^ (i + 1)) * x = x ^ (k / 2 ^ i)) := by
          show _ = _
          rw [HST.out, hbit]
          exact (Nat.pow_succ _ _).symm
        have HS4 := Lib.hid hsz4
        have hc3 := hp4.cell 0
        clear hw HS hsq hl2 hb ek hbit hw3 hw4 hB hk1 hp hf3 hsz4
        go_wp2_with fail
        refine HM.out.mono ?_
        rintro e w5 ⟨A5, n5, c5, rfl, hw5, hb, hf5⟩
        rw [HE.out] at hw5
        have hB := keep_below hB4 hb
        have g5 := keep_cell hb g4
        have hk5 := keep_blk hb hk4
        have hp5 := keep_blk hb hp4
        have hf6 := hp5.frozen 0
        have hc6 := hp5.cell 0
        have hwz4 : w3.heap.size ≤ w5.heap.size := by have := hb.size; rw [HS4.out] at this; exact this
        have hf5 : ∀ ad, A5 = some ad → w3.heap.size ≤ ad.block := fun ad e => by have := hf5 ad e; rw [HS4.out] at this; exact this
        have hw6 := words_set hw5 (p := ⟨gp, 0, none⟩) (fun ad e => by have := hf5 ad e; show ad.block ≠ gp; omega) (.slice A5 n5 c5)
        have hB6 := keep_below_set (p := ⟨gp, 0, none⟩) (.slice A5 n5 c5) (by show w.heap.size ≤ gp; omega) hB
        have g6 := keep_cell_set (p := ⟨w.heap.size, 0, none⟩) (q := ⟨gp, 0, none⟩) (.slice A5 n5 c5) (by show w.heap.size ≠ gp; omega) g5
        have hk6 := hk5.far (p := ⟨gp, 0, none⟩) (by show w.heap.size + 1 ≠ gp; omega) (.slice A5 n5 c5)
        have hp6 := blk_set1 hp5 (.slice A5 n5 c5)
        have hf7 : Fresh w1 A5 := fun ad e => by have := hf5 ad e; omega
        clear hb hB4 g4 hk4 hp4 hB g5 hk5 hp5 hw5 hc3 hf5 hf4 g1
        go_wp2
        go_roundg (i + 1)
        case measure => omega
        case rel => exact ⟨i, A5, n5, c5, by omega, by omega, rfl, hw6, hf7, hp6, hB6, g6, hk6⟩
      · have hb0 : k / 2 ^ i % 2 = 0 := by omega
        have hb1 : (bits .and .i64 ((k : Int) / 2 ^ i) 1 == 1) = false := by rw [ek, HB1.out, hb0]; rfl
        have HE : Hid (x ^ (k / 2 ^ (i + 1) + k / 2 ^ (i + 1)) = x ^ (k / 2 ^ i)) := by
          show _ = _
          rw [HST.out, hb0]
          exact congrArg _ (Nat.add_zero _).symm
        rw [HE.out] at hw4
        clear hw HS hsq hl2 hb ek hbit hb0 hw3 hB hk1 hp hf3 hsz4 g1
        go_wp2
        go_roundg (i + 1)
        case measure => omega
        case rel => exact ⟨i, A3, n3, c3, by omega, by omega, rfl, hw4, hf4, hp4, hB4, g4, hk4⟩
end Go.Proofs.Ytonjhcmppiioeaa
