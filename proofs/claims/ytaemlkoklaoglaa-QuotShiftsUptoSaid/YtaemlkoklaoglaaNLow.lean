/-
  The contract of nat.Nat's Low: a number's lowest bits. Conditions: the value is a number; its length is up to 2 to the 39.
-/
import Derived.Test.YtaemlkoklaoglaaRows
import Derived.Test.YtaemlkoklaoglaaBunE
import Derived.Test.YtaemlkoklaoglaaNDig
import Derived.Test.YtaemlkoklaoglaaNBits
import Derived.Test.YtaemlkoklaoglaaNShiftMath
import Derived.WalkKit
import Derived.Lib.Hide
import Derived.Outline
import Derived.LoopTactic
import Derived.Deep.LoopGhost
import Derived.Deep.DeepCutAuto
import Derived.Deep.CutBlock
import Derived.Deep.RegionHeld3
namespace Go.Proofs.Ytaemlkoklaoglaa
open Go Go.RowKit
set_option maxRecDepth 100000
set_option linter.unusedVariables false
theorem words_zeroL (w : World) : WordsIn w 0 none 0 0 := ⟨Reads.none_, Nat.le_refl _, by omega⟩
theorem bitLen_lt (x : Nat) : x < 2 ^ bitLen x := by
  unfold bitLen
  split
  · rename_i h; subst h; decide
  · exact Nat.lt_log2_self
set_option maxHeartbeats 2000000 in
theorem nat_low_neg (A : Option Addr) (n c : Nat) (k : Int) (w : World) (hk : k < 0) :
    Calls Try.prog 26 #[.agg #[.slice A n c], .int .i64 k] w (GivesN2 w 0) := by
  go_enter Try.func26, Try.ntmps26
  go_wp2
  refine bodyPost_ret (v := .agg #[.slice none 0 0]) (by simp [results, Try.results26, go_sem]) rfl ?_
  exact ⟨_, _, _, rfl, words_zeroL _, (box2 w _ _ _ _).1, Fresh.none_ _⟩
set_option maxHeartbeats 2000000 in
theorem nat_low_all (x k : Nat) (A : Option Addr) (n c : Nat) (w : World) (hA : WordsIn w x A n c) (hn : n ≤ 549755813888) (hk : bitLen x ≤ k) :
    Calls Try.prog 26 #[.agg #[.slice A n c], .int .i64 k] w (GivesN2 w (x % 2 ^ k)) := by
  have hx : x % 2 ^ k = x := Nat.mod_eq_of_lt (Nat.lt_of_lt_of_le (bitLen_lt x) (Nat.pow_le_pow_right (by decide) hk))
  rw [hx]
  have HC := Lib.hid (fun w' (hb : Below w.heap.size w w') => nat_bits x A n c w' (hA.below hb) (by omega))
  have HO := (fun w' (hb : Below w.heap.size w w') => nat_of A n c _ w' (hA.below hb).1 (dg_dgs (by decide) x) hA.2.1 hA.2.2 (by omega))
  rw [dv_dg (by decide)] at HO
  have HO := Lib.hid HO
  obtain ⟨z, hz⟩ : ∃ z, bitLen x = z := ⟨_, rfl⟩
  rw [hz] at HC hk
  have hd : decide ((z : Int) ≤ (k : Int)) = true := by simpa using hk
  have hkd : decide ((k : Int) < 0) = false := by simp
  rename_i HO0
  clear hz hA hx HO0
  go_enter Try.func26, Try.ntmps26
  go_wp2_with fail
  generalize hW : (w.alloc (.cells #[.slice A n c] 26)).alloc (.cells #[.slice none 0 0] 26) = W0
  obtain ⟨b1, b2, b4, b5⟩ := box2 w 26 26 #[.slice A n c] #[.slice none 0 0]
  rw [hW] at b1 b2 b4 b5
  have g1 : W0.cell? ⟨w.heap.size, 0, none⟩ = some (.slice A n c) := b2.cell 0
  clear hW b2
  refine (HC.out _ b1).mono ?_
  rintro e w1 ⟨rfl, hb⟩
  have hB := keep_below b1 hb
  have hk2 := keep_blk hb b4
  have g3 := keep_cell hb g1
  have hs1 := hb.size
  clear hb g1 b1 b4
  go_wp2_with fail
  refine (HO.out _ hB).mono ?_
  rintro e w2 ⟨A2, n2, c2, rfl, hw2, hb, hfr⟩
  have hB2 := keep_below hB hb
  have hk3 := keep_blk hb hk2
  have hc1 : w2.cell? ⟨w.heap.size + 1, 0, none⟩ = some (.slice none 0 0) := hk3.cell 0
  have hf1 := hk3.frozen 0
  have HG : Hid (GivesN2 w x (.returned (.agg #[.slice A2 n2 c2])) (w2.setCell ⟨w.heap.size + 1, 0, none⟩ (.slice A2 n2 c2))) :=
    done_set hw2 hB2 (by show _ ≤ w.heap.size + 1; omega) (fun ad e => by have := hfr ad e; show ad.block ≠ w.heap.size + 1; omega) (hfr.from_ hB) _
  clear hw2 hb hfr hB2 hk3 hB hk2 g3 hs1 b5
  go_wp2
  refine bodyPost_ret (v := .agg #[.slice A2 n2 c2]) (by simp [results, Try.results26, go_sem, hc1]) rfl ?_
  exact HG.out
set_option maxHeartbeats 4000000 in
theorem nat_low (x k : Nat) (A : Option Addr) (n c : Nat) (w : World) (hA : WordsIn w x A n c) (hn : n ≤ 549755813888) (hk : k < bitLen x) :
    Calls Try.prog 26 #[.agg #[.slice A n c], .int .i64 k] w (GivesN2 w (x % 2 ^ k)) := by
  have hln := hA.len
  have hbl : bitLen x ≤ 64 * n := bitLen_le _ _ (by
    have h := dg_lt (b := 18446744073709551616) (by decide) x
    rw [hln, show (18446744073709551616 : Nat) = 2 ^ 64 from rfl, ← Nat.pow_mul] at h
    exact h)
  have HC := Lib.hid (fun w' (hb : Below w.heap.size w w') => nat_bits x A n c w' (hA.below hb) (by omega))
  have hnc := hA.2.1
  have hc9 := hA.2.2
  have hD := low_done x k
  obtain ⟨q, hq⟩ : ∃ q, k / 64 = q := ⟨_, rfl⟩
  obtain ⟨r, hr⟩ : ∃ r, k % 64 = r := ⟨_, rfl⟩
  rw [hq, hr] at hD
  have hr64 : r < 64 := by omega
  have hqn : q < n := by omega
  obtain ⟨ad, rfl, hadb, _⟩ := val_at hA.1 (k := q) hqn
  have HCL := Lib.hid (fun w' (hb : Below w.heap.size w w') => by
    have h := nat_clone_own ad (q + 1) c _ w' (by have := ((hA.below hb).1.take_ (k := q + 1) (by omega)); rw [vals_take] at this; exact this) (by omega)
    rw [firstW_take x (q + 1) (by omega)] at h
    exact h)
  obtain ⟨z, hz⟩ : ∃ z, bitLen x = z := ⟨_, rfl⟩
  rw [hz] at HC hk hbl
  have hd : decide ((z : Int) ≤ (k : Int)) = false := by simp; omega
  have hkd : decide ((k : Int) < 0) = false := by simp
  have hq' : (k : Int) / 64 = (q : Int) := by omega
  have hr' : (k : Int) % 64 = (r : Int) := by omega
  have hqt : (k : Int).tdiv 64 = (q : Int) := by rw [Int.tdiv_eq_ediv_of_nonneg (by omega)]; exact hq'
  have hrt : (k : Int).tmod 64 = (r : Int) := by rw [Int.tmod_eq_emod_of_nonneg (by omega)]; exact hr'
  have HDN := Lib.hid hD
  clear hz hA hln hD hq hr hadb
  go_enter Try.func26, Try.ntmps26
  go_wp2_with fail
  generalize hW : (w.alloc (.cells #[.slice (some ad) n c] 26)).alloc (.cells #[.slice none 0 0] 26) = W0
  obtain ⟨b1, b2, b4, b5⟩ := box2 w 26 26 #[.slice (some ad) n c] #[.slice none 0 0]
  rw [hW] at b1 b2 b4 b5
  have g1 : W0.cell? ⟨w.heap.size, 0, none⟩ = some (.slice (some ad) n c) := b2.cell 0
  clear hW b2
  refine (HC.out _ b1).mono ?_
  rintro e w1 ⟨rfl, hb⟩
  have hB := keep_below b1 hb
  have hk2 := keep_blk hb b4
  have g3 := keep_cell hb g1
  have hs1 := hb.size
  clear hb g1 b1 b4
  go_wp2_with fail
  refine (HCL.out _ hB).mono ?_
  rintro e w2 ⟨v, rfl, ho, hb⟩
  obtain ⟨gs, cap, cs, rfl, hgs, hcs, hcap, hcm, hsz, htk⟩ : ∃ g cap cur, v = .slice (some ⟨g, 0, none⟩) (q + 1) cap ∧ w1.heap.size ≤ g ∧ Blk w2 g 23 cur ∧ q + 1 ≤ cap ∧ cap ≤ 9223372036854775807 ∧ cur.size = cap ∧ cur.toList.take (q + 1) = vals .u64 (firstW x (q + 1)) := by
    rcases ho.2 with ⟨_, h0⟩ | ⟨g, cap, cur, rfl, h1, h2, h3, h4, h5, h6⟩
    · omega
    · exact ⟨g, cap, cur, rfl, h1, h2, h3, by unfold maxLen at h4; omega, by omega, by simpa using h6⟩
  have hB2 := keep_below hB hb
  have hk3 := keep_blk hb hk2
  have hgs2 : w.heap.size + 2 ≤ gs := by omega
  have hx1 : cs[q]? = some (.int .u64 (wd x q : Nat)) := cell_of_take htk (by omega) (by rw [firstW_succ, List.getElem?_append_right (by rw [firstW_len]; omega), firstW_len]; simp)
  have hq1 : w2.cell? ⟨gs, q, none⟩ = some (.int .u64 (wd x q : Nat)) := (hcs.cell q).trans hx1
  have hq2 := hcs.frozen q
  have ha1 := wd_lt x q
  have htq : cs.toList.take q = vals .u64 (firstW x q) := by
    have h := congrArg (List.take q) htk
    rw [List.take_take, Nat.min_eq_left (by omega), firstW_succ, vals_take, List.take_append_of_le_length (by rw [firstW_len]; omega)] at h
    rw [h, List.take_of_length_le (by rw [firstW_len]; omega)]
  obtain ⟨a, ha⟩ : ∃ a, wd x q = a := ⟨_, rfl⟩
  rw [ha] at hq1 ha1 HDN
  have HTQ := Lib.hid htq
  have HSZ := Lib.hid hsz
  have i1 : (0 : Int) ≤ (q : Int) := by omega
  have i2 : (q : Int) < (q : Int) + 1 := by omega
  have hqsz : q < cs.size := by omega
  clear hb ho htk hx1 htq hsz hB hk2 g3 hs1 b5 ha
  go_wp2_with fail
  go_region
  rw [mask_cell ha1 hr64]
  have hcs2 := (hcs.set_ q (.int .u64 ((a % 2 ^ r : Nat) : Int))).drew
  have hk4 := (hk3.far (p := ⟨gs, q, none⟩) (by show w.heap.size + 1 ≠ gs; omega) (.int .u64 ((a % 2 ^ r : Nat) : Int))).drew
  have hB3 := (keep_below_set (p := ⟨gs, q, none⟩) (.int .u64 ((a % 2 ^ r : Nat) : Int)) (by show w.heap.size ≤ gs; omega) hB2).drew
  generalize (w2.setCell ⟨gs, q, none⟩ (.int .u64 ((a % 2 ^ r : Nat) : Int))).drew = w3 at *
  have hlt2 : a % 2 ^ r < 18446744073709551616 := Nat.lt_of_le_of_lt (Nat.mod_le _ _) ha1
  have T := nat_trim (some ⟨gs, 0, none⟩) (q + 1) cap w3.heap.size (firstW x q ++ [a % 2 ^ r]) w3
    (blk_reads2 hcs2 (by rw [take_set _ _ _ hqsz, HTQ.out, vals_snoc]) (by simp [firstW_len]))
    ((firstW_dgs x q).append (by intro d hd; simp at hd; subst hd; exact hlt2)) hcap hcm (by omega)
  rw [HDN.out] at T
  have HT := Lib.hid T
  have hc1 : w3.cell? ⟨w.heap.size + 1, 0, none⟩ = some (.slice none 0 0) := hk4.cell 0
  have hf1 := hk4.frozen 0
  clear T hcs hcs2 hk3 hk4 hB2 hq1 hq2 hlt2 hq' hr' hqt hrt
  go_wp2_with fail
  refine HT.out.mono ?_
  rintro e w4 ⟨A1, c1, rfl, hr1, h1, h2, hA1, rfl⟩
  have G := trim_done hB3 (p := w.heap.size + 1) (gs := gs) (by omega) (by omega) hr1 h1 h2 hA1 (by omega) (.slice A1 (dg 18446744073709551616 (x % 2 ^ k)).length c1)
  have HG : Hid (GivesN2 w (x % 2 ^ k) (.returned (.agg #[.slice A1 (dg 18446744073709551616 (x % 2 ^ k)).length c1])) (w3.setCell ⟨w.heap.size + 1, 0, none⟩ (.slice A1 (dg 18446744073709551616 (x % 2 ^ k)).length c1))) := ⟨_, _, _, rfl, G.2.1, G.1, G.2.2⟩
  clear G hr1 h1 h2 hA1
  obtain ⟨L, hL⟩ : ∃ L, (dg 18446744073709551616 (x % 2 ^ k)).length = L := ⟨_, rfl⟩
  rw [hL] at HG ⊢
  clear hL
  go_wp2
  refine bodyPost_ret (v := .agg #[.slice A1 L c1]) (by simp [results, Try.results26, go_sem, hc1]) rfl ?_
  exact HG.out
end Go.Proofs.Ytaemlkoklaoglaa
