/-
  The walk of the law ProdPows. Conditions: the words that came in are words, at most 1048576 of each; prod's functions do as ProdC says.
-/
import Derived.Test.YtonjhcmppiioeaaRows
import Derived.Test.YtonjhcmppiioeaaW3Awake
import Derived.Test.YtonjhcmppiioeaaNAdd
import Derived.Test.YtonjhcmppiioeaaN2Ref
import Derived.Test.YtonjhcmppiioeaaN2Like
import Derived.Test.YtonjhcmppiioeaaNBits
import Derived.Test.YtonjhcmppiioeaaR3Pow
import Derived.WalkKit
import Derived.Lib.Hide
import Derived.Outline
import Derived.Deep.RegionHeld3
import Derived.Deep.QuietTactic
import Derived.BigQuiet
namespace Go.Proofs.Ytonjhcmppiioeaa
open Go Go.RowKit
set_option maxRecDepth 100000
set_option linter.unusedVariables false
set_option linter.unusedSimpArgs false
theorem small_pow {x k : Nat} (h : bitLen x ≤ 1) : Sz 1 (x ^ k) := by
  have hx : x ≤ 1 := by
    have h1 : x < 2 ^ bitLen x := by
      unfold bitLen
      split
      · rename_i h; subst h; decide
      · exact Nat.lt_log2_self
    have h2 := Nat.pow_le_pow_right (n := 2) (by decide) h
    omega
  have h3 : x ^ k ≤ 1 := by
    have := Nat.pow_le_pow_left hx k
    rwa [Nat.one_pow] at this
  show x ^ k < 18446744073709551616 ^ 1
  omega
theorem pow_sz {K x : Nat} (h : Sz K x) : ∀ k, Sz (K * k + 1) (x ^ k)
  | 0 => by show x ^ 0 < 18446744073709551616 ^ (K * 0 + 1); rw [Nat.pow_zero, Nat.mul_zero]; decide
  | k + 1 => by
    rw [Nat.pow_succ]
    have := (pow_sz h k).mul h
    exact this.up (by rw [Nat.mul_succ]; omega)
set_option maxHeartbeats 16000000 in
theorem prodPows_no (PC : ProdC) (A0 : Option Addr) (n0 c0 : Nat) (l0 : List Nat) (k : Int) (w : World) (h0 : ArgWords w A0 n0 c0 l0) (hk1 : k ≤ 9223372036854775807) (hk : k < 0 ∨ (2 ≤ bitLen (dv 18446744073709551616 l0) ∧ 65536 < k * (bitLen (dv 18446744073709551616 l0) : Nat))) :
    Calls Try.prog 4 #[.slice A0 n0 c0, .int .i64 k] w fun e w' => e = .returned (.bool true) ∧ Below w.heap.size w w' := by
  have HPC := Lib.hid PC
  obtain ⟨K, hK⟩ : ∃ K, 1048576 = K := ⟨_, rfl⟩
  have O0 := arg_of h0
  have S0 := arg_sz h0
  rw [hK] at S0
  have hK2 : K ≤ 1048576 := by omega
  obtain ⟨x, hx0⟩ : ∃ v, dv 18446744073709551616 l0 = v := ⟨_, rfl⟩
  rw [hx0] at O0 S0
  have HO0 := Lib.hid O0
  have HS0 := Lib.hid S0
  rw [hx0] at hk
  have P0 := arg_ref2 h0
  rw [hx0] at P0
  have HP0 := Lib.hid P0
  have HK := Lib.hid hk
  have HK1 := Lib.hid hk1
  clear PC O0 S0 h0 hx0 hK P0 hk hk1
  go_enter Try.func4, Try.ntmps4
  go_wp2_with fail
  refine (law3_awake HPC.out _).mono ?_
  rintro e w1 ⟨rfl, hB⟩
  go_wp2_with fail
  refine (HO0.out _ hB).mono ?_
  rintro e w2 ⟨B0, m0, d0, rfl, hw0, hb, _⟩
  have hb := keep_below hb (up_alloc w2 (.cells #[.slice B0 m0 d0] 29))
  have hB := keep_below hB hb
  have HX := Lib.hid (hw0.below (up_alloc w2 (.cells #[.slice B0 m0 d0] 29)))
  have g0 : (w2.alloc (.cells #[.slice B0 m0 d0] 29)).cell? ⟨w2.heap.size, 0, none⟩ = some (.slice B0 m0 d0) := (Blk.new w2 _ _).cell 0
  clear hb hw0
  go_wp2_with fail
  generalize w2.alloc (.cells #[.slice B0 m0 d0] 29) = W2 at *
  generalize w2.heap.size = p at *
  have hm0 := HS0.out.words HX.out
  refine (HPC.out.powNo x k B0 m0 d0 W2 HX.out (by omega) HK1.out HK.out).mono ?_
  rintro e w3 ⟨B1, m1, d1, rfl, hw1, hb, _⟩
  obtain rfl : m1 = 0 := len_of hw1 (dg_zero _)
  have hb := keep_below hb (up_alloc w3 (.cells #[.slice B1 0 d1] 29))
  have hB := keep_below hB hb
  have HX := Lib.hid (HX.out.below hb)
  have HW := Lib.hid (hw1.below (up_alloc w3 (.cells #[.slice B1 0 d1] 29)))
  have g1 : (w3.alloc (.cells #[.slice B1 0 d1] 29)).cell? ⟨w3.heap.size, 0, none⟩ = some (.slice B1 0 d1) := (Blk.new w3 _ _).cell 0
  clear hb hw1 g0
  go_wp2_with fail
  generalize w3.alloc (.cells #[.slice B1 0 d1] 29) = W3 at *
  generalize w3.heap.size = q1 at *
  refine (HP0.out _ hB).mono ?_
  intro e w4 hg
  obtain ⟨C0, r0, f0, rfl, hh, hb⟩ := hg.elim
  have hB := keep_below hB hb
  have HW := Lib.hid (HW.out.below hb)
  have g1 := keep_cell hb g1
  have HR := Lib.hid hh
  have hr0 := HS0.out.holds' HR.out
  clear hb hh hg
  have RB := ref2_bits x C0 r0 f0 w4 HR.out (by omega)
  obtain ⟨bl, hbl⟩ : ∃ b, bitLen x = b := ⟨_, rfl⟩
  rw [hbl] at RB
  have HBL := Lib.hid hbl
  have hkc := HK.out
  rw [hbl] at hkc
  have hk1 := HK1.out
  clear hbl
  go_wp2_with fail
  refine RB.mono ?_
  clear RB
  rintro e w' ⟨rfl, rfl⟩
  obtain ⟨qq, hqq⟩ : ∃ v, 65536 / bl = v := ⟨_, rfl⟩
  have hq1 : (65536 : Int) / (bl : Int) = (qq : Int) := by rw [← hqq]; exact (Int.natCast_ediv 65536 bl).symm
  have hq2 : (65536 : Int).tdiv (bl : Int) = (qq : Int) := by rw [Int.tdiv_eq_ediv_of_nonneg (by omega)]; exact hq1
  have hq0 : qq ≤ 65536 := by rw [← hqq]; exact Nat.div_le_self _ _
  have hq3 : wrap64 (qq : Int) = (qq : Int) := by unfold wrap64; omega
  have hcase : (decide (k ≥ 0) = false ∧ decide (0 ≤ k) = false) ∨ (((decide (k ≥ 0) = true ∧ decide (0 ≤ k) = true) ∧ decide ((bl : Int) ≤ 1) = false ∧ 1 ≤ bl) ∧ (decide (k ≤ 65536) = false ∨ (decide (k ≤ 65536) = true ∧ decide (k ≤ (qq : Int)) = false))) := by
    rcases hkc with h | ⟨h1, h2⟩
    · exact .inl ⟨by simp; omega, by simp; omega⟩
    · by_cases h3 : k < 0
      · exact .inl ⟨by simp; omega, by simp; omega⟩
      · refine .inr ⟨⟨⟨by simp; omega, by simp; omega⟩, by simp; omega, by omega⟩, ?_⟩
        by_cases h4 : k ≤ 65536
        · refine .inr ⟨by simpa using h4, ?_⟩
          obtain ⟨kn, rfl⟩ : ∃ n : Nat, k = (n : Int) := ⟨k.toNat, by omega⟩
          have h5 : ¬ kn ≤ qq := fun h => by
            rw [← hqq] at h
            have h6 := (Nat.le_div_iff_mul_le (by omega)).1 h
            have h7 : ((kn * bl : Nat) : Int) ≤ 65536 := by omega
            rw [Int.natCast_mul] at h7
            omega
          simp; omega
        · exact .inl (by simpa using h4)
  have hZ := Lib.hid (fun w' => nat_zero_yes B1 d1 w')
  clear hkc hqq
  rcases hcase with ⟨c1, c2⟩ | ⟨⟨⟨c1, c2⟩, c3, c3'⟩, c4 | ⟨c4, c5⟩⟩
  · go_wp2_with fail
    refine (hZ.out w4).mono ?_
    rintro e w5 ⟨rfl, hb⟩
    have hB := keep_below hB hb
    clear hb
    go_wp2_with fail
    go_quiet (fail)
    go_wp2
    go_ret
    exact ⟨by first | rfl | simp, below_drewN_ hB _⟩
  · have hb1 : ¬ bl = 0 := by omega
    go_wp2_with fail
    refine (hZ.out w4).mono ?_
    rintro e w5 ⟨rfl, hb⟩
    have hB := keep_below hB hb
    clear hb
    go_wp2_with fail
    go_quiet (fail)
    go_wp2
    go_ret
    exact ⟨by first | rfl | simp, below_drewN_ hB _⟩
  · have hb1 : ¬ bl = 0 := by omega
    go_wp2_with fail
    refine (hZ.out w4).mono ?_
    rintro e w5 ⟨rfl, hb⟩
    have hB := keep_below hB hb
    clear hb
    go_wp2_with fail
    go_quiet (fail)
    go_wp2
    go_ret
    exact ⟨by first | rfl | simp, below_drewN_ hB _⟩
set_option maxHeartbeats 16000000 in
theorem prodPows_yes (PC : ProdC) (A0 : Option Addr) (n0 c0 : Nat) (l0 : List Nat) (kn : Nat) (w : World) (h0 : ArgWords w A0 n0 c0 l0) (hk1 : kn ≤ 9223372036854775807) (hk : bitLen (dv 18446744073709551616 l0) ≤ 1 ∨ kn * bitLen (dv 18446744073709551616 l0) ≤ 65536) :
    Calls Try.prog 4 #[.slice A0 n0 c0, .int .i64 (kn : Int)] w fun e w' => e = .returned (.bool true) ∧ Below w.heap.size w w' := by
  have HPC := Lib.hid PC
  obtain ⟨K, hK⟩ : ∃ K, 1048576 = K := ⟨_, rfl⟩
  have O0 := arg_of h0
  have S0 := arg_sz h0
  rw [hK] at S0
  have hK2 : K ≤ 1048576 := by omega
  obtain ⟨x, hx0⟩ : ∃ v, dv 18446744073709551616 l0 = v := ⟨_, rfl⟩
  rw [hx0] at O0 S0
  have HO0 := Lib.hid O0
  have HS0 := Lib.hid S0
  rw [hx0] at hk
  have P0 := arg_ref2 h0
  rw [hx0] at P0
  have HP0 := Lib.hid P0
  have HK := Lib.hid hk
  have HK1 := Lib.hid hk1
  clear PC O0 S0 h0 hx0 hK P0 hk hk1
  go_enter Try.func4, Try.ntmps4
  go_wp2_with fail
  refine (law3_awake HPC.out _).mono ?_
  rintro e w1 ⟨rfl, hB⟩
  go_wp2_with fail
  refine (HO0.out _ hB).mono ?_
  rintro e w2 ⟨B0, m0, d0, rfl, hw0, hb, _⟩
  have hb := keep_below hb (up_alloc w2 (.cells #[.slice B0 m0 d0] 29))
  have hB := keep_below hB hb
  have HX := Lib.hid (hw0.below (up_alloc w2 (.cells #[.slice B0 m0 d0] 29)))
  have g0 : (w2.alloc (.cells #[.slice B0 m0 d0] 29)).cell? ⟨w2.heap.size, 0, none⟩ = some (.slice B0 m0 d0) := (Blk.new w2 _ _).cell 0
  clear hb hw0
  go_wp2_with fail
  generalize w2.alloc (.cells #[.slice B0 m0 d0] 29) = W2 at *
  generalize w2.heap.size = p at *
  have hm0 := HS0.out.words HX.out
  refine (HPC.out.powYes x kn B0 m0 d0 W2 HX.out (by omega) HK1.out HK.out).mono ?_
  rintro e w3 ⟨B1, m1, d1, rfl, hw1, hb, _⟩
  have hb := keep_below hb (up_alloc w3 (.cells #[.slice B1 m1 d1] 29))
  have hB := keep_below hB hb
  have HX := Lib.hid (HX.out.below hb)
  have HW := Lib.hid (hw1.below (up_alloc w3 (.cells #[.slice B1 m1 d1] 29)))
  have g1 : (w3.alloc (.cells #[.slice B1 m1 d1] 29)).cell? ⟨w3.heap.size, 0, none⟩ = some (.slice B1 m1 d1) := (Blk.new w3 _ _).cell 0
  clear hb hw1 g0
  go_wp2_with fail
  generalize w3.alloc (.cells #[.slice B1 m1 d1] 29) = W3 at *
  generalize w3.heap.size = q1 at *
  refine (HP0.out _ hB).mono ?_
  intro e w4 hg
  obtain ⟨C0, r0, f0, rfl, hh, hb⟩ := hg.elim
  have hB := keep_below hB hb
  have HW := Lib.hid (HW.out.below hb)
  have g1 := keep_cell hb g1
  have HR := Lib.hid hh
  have hr0 := HS0.out.holds' HR.out
  clear hb hh hg
  have RB := ref2_bits x C0 r0 f0 w4 HR.out (by omega)
  obtain ⟨bl, hbl⟩ : ∃ b, bitLen x = b := ⟨_, rfl⟩
  rw [hbl] at RB
  have HBL := Lib.hid hbl
  have hkc := HK.out
  rw [hbl] at hkc
  have hk1 := HK1.out
  clear hbl
  go_wp2_with fail
  refine RB.mono ?_
  clear RB
  rintro e w' ⟨rfl, rfl⟩
  obtain ⟨qq, hqq⟩ : ∃ v, 65536 / bl = v := ⟨_, rfl⟩
  have hq1 : (65536 : Int) / (bl : Int) = (qq : Int) := by rw [← hqq]; exact (Int.natCast_ediv 65536 bl).symm
  have hq2 : (65536 : Int).tdiv (bl : Int) = (qq : Int) := by rw [Int.tdiv_eq_ediv_of_nonneg (by omega)]; exact hq1
  have hq0 : qq ≤ 65536 := by rw [← hqq]; exact Nat.div_le_self _ _
  have hq3 : wrap64 (qq : Int) = (qq : Int) := by unfold wrap64; omega
  have hcase : (decide ((bl : Int) ≤ 1) = true ∧ decide (1 < (bl : Int)) = false ∧ decide ((bl : Int) > 1) = false) ∨ ((decide ((bl : Int) ≤ 1) = false ∧ decide (1 < (bl : Int)) = true ∧ decide ((bl : Int) > 1) = true ∧ 2 ≤ bl) ∧ (decide ((kn : Int) ≤ 65536) = true ∧ decide ((kn : Int) ≤ (qq : Int)) = true)) := by
    by_cases h1 : bl ≤ 1
    · exact .inl ⟨by simp; omega, by simp; omega, by simp; omega⟩
    · have h2 : kn * bl ≤ 65536 := by rcases hkc with h | h; omega; exact h
      have h3 : kn ≤ qq := by rw [← hqq]; exact (Nat.le_div_iff_mul_le (by omega)).2 h2
      have h4 : kn ≤ 65536 := Nat.le_trans (Nat.le_mul_of_pos_right kn (by omega)) h2
      exact .inr ⟨⟨by simp; omega, by simp; omega, by simp; omega, by omega⟩, by simp; omega, by simp; omega⟩
  have hd1 : decide ((kn : Int) ≥ 0) = true := by simp
  have hd2 : decide ((0 : Int) ≤ (kn : Int)) = true := by simp
  have h100 : (decide ((kn : Int) > 100) = true ∧ decide ((100 : Int) < (kn : Int)) = true) ∨ (decide ((kn : Int) > 100) = false ∧ decide ((100 : Int) < (kn : Int)) = false ∧ kn ≤ 100) := by
    by_cases h : 100 < kn
    · exact .inl ⟨by simp; omega, by simp; omega⟩
    · exact .inr ⟨by simp; omega, by simp; omega, by omega⟩
  clear hqq hkc
  rcases hcase with ⟨z1, z2, z2'⟩ | ⟨⟨z1, z2, z2', hs⟩, z3, z4⟩
  · have hs : bl ≤ 1 := by have := of_decide_eq_true z1; omega
    rcases h100 with ⟨z5, z6⟩ | ⟨z5, z5', z6⟩
    · go_wp2_with fail
      have hPL : m1 ≤ 1099511627776 := by have := (small_pow (x := x) (k := kn) (by rw [HBL.out]; exact hs)).words HW.out; omega
      have D1 := Lib.hid (fun w' (h : Below w.heap.size w w') => HP0.out w' h)
      have D2 := Lib.hid (fun w' A' n' c' (hh : Holds16 w' x A' n' c') => ref3_pow_small x kn A' n' c' w' hh (by have := HS0.out.holds' hh; omega) (by rw [HBL.out]; exact hs) hk1)
      have D3 := Lib.hid (fun w' (h : Below w4.heap.size w4 w') A' n' c' (hh : Holds16 w' (x ^ kn) A' n' c') => law2_like (x ^ kn) B1 A' m1 d1 n' c' w' (HW.out.below h) hh hPL (by have := (small_pow (x := x) (k := kn) (by rw [HBL.out]; exact hs)).holds' hh; omega))
      have hBv := hB
      have hb0 : Below w4.heap.size w4 w4.drew := (Below.refl _ w4).drew
      have j0 : w4.drew.cell? ⟨q1, 0, none⟩ = some (.slice B1 m1 d1) := g1
      refine wp_region_noPanic ?_
      refine wp_region_held_drew (S := (fun w' => Below w4.heap.size w4 w' ∧ w'.cell? ⟨q1, 0, none⟩ = some (.slice B1 m1 d1))) (by kernel_rfl) ?_ (fun hHeld => ?_)
      · exact ⟨hb0, j0⟩
      refine wpAnyH_take (i := 0) (oi := ?_) (v := ?_) (by simp only [List.getElem?_toArray, List.getElem?_cons_succ, List.getElem?_cons_zero]; rfl) (by kernel_rfl) (by kernel_rfl) (by kernel_rfl) (fun _ _ _ h => h) (Or.inl ⟨by rfl, ?_⟩) (by with_reducible assumption) ?_
      rotate_left
      focus ((intro w hSw; (try dsimp only at hSw); go_simp); (try with_reducible rfl))
      try simp only [Act.put, List.setIfInBounds_toArray, List.set_cons_zero, List.set_cons_succ]
      refine wpAnyH_take (i := 1) (oi := ?_) (v := ?_) (by simp only [List.getElem?_toArray, List.getElem?_cons_succ, List.getElem?_cons_zero]; rfl) (by kernel_rfl) (by kernel_rfl) (by kernel_rfl) (fun _ _ _ h => h) (Or.inl ⟨by rfl, ?_⟩) (by with_reducible assumption) ?_
      rotate_left
      focus ((intro w hSw; (try dsimp only at hSw); go_simp); (try with_reducible rfl))
      try simp only [Act.put, List.setIfInBounds_toArray, List.set_cons_zero, List.set_cons_succ]
      refine wpAnyH_take (i := 2) (oi := ?_) (v := ?_) (by simp only [List.getElem?_toArray, List.getElem?_cons_succ, List.getElem?_cons_zero]; rfl) (by kernel_rfl) (by kernel_rfl) (by kernel_rfl) (fun _ _ _ h => h) (Or.inl ⟨by rfl, ?_⟩) (by with_reducible assumption) ?_
      rotate_left
      focus ((intro w hSw; (try dsimp only at hSw); go_simp); (try with_reducible rfl))
      try simp only [Act.put, List.setIfInBounds_toArray, List.set_cons_zero, List.set_cons_succ]
      refine wpAnyH_take (i := 3) (oi := ?_) (v := ?_) (by simp only [List.getElem?_toArray, List.getElem?_cons_succ, List.getElem?_cons_zero]; rfl) (by kernel_rfl) (by kernel_rfl) (by kernel_rfl) (fun _ _ _ h => h) (Or.inl ⟨by rfl, ?_⟩) (by with_reducible assumption) ?_
      rotate_left
      focus ((intro w hSw; (try dsimp only at hSw); go_simp); (try with_reducible rfl))
      try simp only [Act.put, List.setIfInBounds_toArray, List.set_cons_zero, List.set_cons_succ]
      refine wpAnyH_take (i := 4) (oi := ?_) (v := ?_) (by simp only [List.getElem?_toArray, List.getElem?_cons_succ, List.getElem?_cons_zero]; rfl) (by kernel_rfl) (by kernel_rfl) (by kernel_rfl) (fun _ _ _ h => h) (Or.inl ⟨by rfl, ?_⟩) (by with_reducible assumption) ?_
      rotate_left
      focus ((intro w hSw; (try dsimp only at hSw); go_simp); (try with_reducible rfl))
      try simp only [Act.put, List.setIfInBounds_toArray, List.set_cons_zero, List.set_cons_succ]
      refine wpAnyH_take (i := 5) (oi := ?_) (v := ?_) (by simp only [List.getElem?_toArray, List.getElem?_cons_succ, List.getElem?_cons_zero]; rfl) (by kernel_rfl) (by kernel_rfl) (by kernel_rfl) (fun _ _ _ h => h) (Or.inl ⟨by rfl, ?_⟩) (by with_reducible assumption) ?_
      rotate_left
      focus ((intro w hSw; (try dsimp only at hSw); go_simp); (try with_reducible rfl))
      try simp only [Act.put, List.setIfInBounds_toArray, List.set_cons_zero, List.set_cons_succ]
      refine wpAnyH_take (i := 6) (oi := ?_) (v := ?_) (by simp only [List.getElem?_toArray, List.getElem?_cons_succ, List.getElem?_cons_zero]; rfl) (by kernel_rfl) (by kernel_rfl) (by kernel_rfl) (fun _ _ _ h => h) (Or.inl ⟨by rfl, ?_⟩) (by with_reducible assumption) ?_
      rotate_left
      focus ((intro w hSw; (try dsimp only at hSw); go_simp); (try with_reducible rfl))
      try simp only [Act.put, List.setIfInBounds_toArray, List.set_cons_zero, List.set_cons_succ]
      refine wpAnyH_take (i := 7) (oi := ?_) (v := ?_) (by simp only [List.getElem?_toArray, List.getElem?_cons_succ, List.getElem?_cons_zero]; rfl) (by kernel_rfl) (by kernel_rfl) (by kernel_rfl) (fun _ _ _ h => h) (Or.inl ⟨by rfl, ?_⟩) (by with_reducible assumption) ?_
      rotate_left
      focus ((intro w hSw; (try dsimp only at hSw); go_simp); (try with_reducible rfl))
      try simp only [Act.put, List.setIfInBounds_toArray, List.set_cons_zero, List.set_cons_succ]
      refine wpAnyH_take (i := 8) (oi := ?_) (v := ?_) (by simp only [List.getElem?_toArray, List.getElem?_cons_succ, List.getElem?_cons_zero]; rfl) (by kernel_rfl) (by kernel_rfl) (by kernel_rfl) (fun _ _ _ h => h) (Or.inl ⟨by rfl, ?_⟩) (by with_reducible assumption) ?_
      rotate_left
      focus ((intro w hSw; (try dsimp only at hSw); go_simp); (try with_reducible rfl))
      try simp only [Act.put, List.setIfInBounds_toArray, List.set_cons_zero, List.set_cons_succ]
      refine wpAnyH_take (i := 9) (oi := ?_) (v := ?_) (by simp only [List.getElem?_toArray, List.getElem?_cons_succ, List.getElem?_cons_zero]; rfl) (by kernel_rfl) (by kernel_rfl) (by kernel_rfl) (fun _ _ _ h => h) (Or.inl ⟨by rfl, ?_⟩) (by with_reducible assumption) ?_
      rotate_left
      focus ((intro w hSw; (try dsimp only at hSw); go_simp); (try with_reducible rfl))
      try simp only [Act.put, List.setIfInBounds_toArray, List.set_cons_zero, List.set_cons_succ]
      refine wpAnyH_take (i := 10) (oi := ?_) (v := ?_) (by simp only [List.getElem?_toArray, List.getElem?_cons_succ, List.getElem?_cons_zero]; rfl) (by kernel_rfl) (by kernel_rfl) (by kernel_rfl) (fun _ _ _ h => h) (Or.inl ⟨by rfl, ?_⟩) (by with_reducible assumption) ?_
      rotate_left
      focus ((intro w hSw; (try dsimp only at hSw); go_simp); (try with_reducible rfl))
      try simp only [Act.put, List.setIfInBounds_toArray, List.set_cons_zero, List.set_cons_succ]
      refine wpAnyH_take (i := 11) (oi := ?_) (v := ?_) (by simp only [List.getElem?_toArray, List.getElem?_cons_succ, List.getElem?_cons_zero]; rfl) (by kernel_rfl) (by kernel_rfl) (by kernel_rfl) (fun _ _ _ h => h) (Or.inl ⟨by rfl, ?_⟩) (by with_reducible assumption) ?_
      rotate_left
      focus ((intro w hSw; (try dsimp only at hSw); go_simp); (try with_reducible rfl))
      try simp only [Act.put, List.setIfInBounds_toArray, List.set_cons_zero, List.set_cons_succ]
      refine wpAnyH_take (i := 12) (oi := ?_) (v := ?_) (by simp only [List.getElem?_toArray, List.getElem?_cons_succ, List.getElem?_cons_zero]; rfl) (by kernel_rfl) (by kernel_rfl) (by kernel_rfl) (fun _ _ _ h => h) (Or.inl ⟨by rfl, ?_⟩) (by with_reducible assumption) ?_
      rotate_left
      focus ((intro w hSw; (try dsimp only at hSw); go_simp); (try with_reducible rfl))
      try simp only [Act.put, List.setIfInBounds_toArray, List.set_cons_zero, List.set_cons_succ]
      refine wpAnyH_take (i := 14) (oi := ?_) (v := ?_) (by simp only [List.getElem?_toArray, List.getElem?_cons_succ, List.getElem?_cons_zero]; rfl) (by kernel_rfl) (by kernel_rfl) (by kernel_rfl) (fun _ _ _ h => h) (Or.inl ⟨by rfl, ?_⟩) (by with_reducible assumption) ?_
      rotate_left
      focus ((intro w hSw; (try dsimp only at hSw); go_simp); (try with_reducible rfl))
      try simp only [Act.put, List.setIfInBounds_toArray, List.set_cons_zero, List.set_cons_succ]
      refine wpAnyH_ready (rs := [13]) (by kernel_rfl) (by simp) ?_
      refine AllReadyH.cons (o := ?_) (by simp only [List.getElem?_toArray, List.getElem?_cons_succ, List.getElem?_cons_zero]; rfl) (fun K hK => ?_) AllReadyH.nil
      go_simp
      (first | (go_at_call 10; (with_reducible refine (D1.out _ (keep_below hBv (by first | with_reducible assumption | exact And.left (by with_reducible assumption)))).mono ?_); intro e w' hg; obtain ⟨A5, n5, c5, rfl, hh5, hb⟩ := hg.elim; clear hg) | (go_at_call 21; (with_reducible refine (D2.out _ _ _ _ hh5).mono ?_); rintro e w' ⟨A6, n6, c6, rfl, hh6, hb⟩) | (go_at_call 16; (with_reducible refine (D3.out _ (by first | with_reducible assumption | exact And.left (by with_reducible assumption)) _ _ _ hh6).mono ?_); rintro e w' ⟨rfl, hb⟩))
      refine hK.out _ _ ?_ (fun hHeld => ?_)
      · ((try dsimp only); (go_split_ands; refine ⟨?_, ?_⟩; all_goals (first | with_reducible assumption | exact keep_below (by with_reducible assumption) hb | exact keep_cell hb (by with_reducible assumption))))
      clear hK K
      try simp only [Act.put, List.setIfInBounds_toArray, List.set_cons_zero, List.set_cons_succ]
      refine wpAnyH_ready (rs := [15]) (by kernel_rfl) (by simp) ?_
      refine AllReadyH.cons (o := ?_) (by simp only [List.getElem?_toArray, List.getElem?_cons_succ, List.getElem?_cons_zero]; rfl) (fun K hK => ?_) AllReadyH.nil
      go_simp
      (first | (go_at_call 10; (with_reducible refine (D1.out _ (keep_below hBv (by first | with_reducible assumption | exact And.left (by with_reducible assumption)))).mono ?_); intro e w' hg; obtain ⟨A5, n5, c5, rfl, hh5, hb⟩ := hg.elim; clear hg) | (go_at_call 21; (with_reducible refine (D2.out _ _ _ _ hh5).mono ?_); rintro e w' ⟨A6, n6, c6, rfl, hh6, hb⟩) | (go_at_call 16; (with_reducible refine (D3.out _ (by first | with_reducible assumption | exact And.left (by with_reducible assumption)) _ _ _ hh6).mono ?_); rintro e w' ⟨rfl, hb⟩))
      refine hK.out _ _ ?_ (fun hHeld => ?_)
      · ((try dsimp only); (go_split_ands; refine ⟨?_, ?_⟩; all_goals (first | with_reducible assumption | exact keep_below (by with_reducible assumption) hb | exact keep_cell hb (by with_reducible assumption))))
      clear hK K
      try simp only [Act.put, List.setIfInBounds_toArray, List.set_cons_zero, List.set_cons_succ]
      refine wpAnyH_ready (rs := [16]) (by kernel_rfl) (by simp) ?_
      refine AllReadyH.cons (o := ?_) (by simp only [List.getElem?_toArray, List.getElem?_cons_succ, List.getElem?_cons_zero]; rfl) (fun K hK => ?_) AllReadyH.nil
      go_simp
      (first | (go_at_call 10; (with_reducible refine (D1.out _ (keep_below hBv (by first | with_reducible assumption | exact And.left (by with_reducible assumption)))).mono ?_); intro e w' hg; obtain ⟨A5, n5, c5, rfl, hh5, hb⟩ := hg.elim; clear hg) | (go_at_call 21; (with_reducible refine (D2.out _ _ _ _ hh5).mono ?_); rintro e w' ⟨A6, n6, c6, rfl, hh6, hb⟩) | (go_at_call 16; (with_reducible refine (D3.out _ (by first | with_reducible assumption | exact And.left (by with_reducible assumption)) _ _ _ hh6).mono ?_); rintro e w' ⟨rfl, hb⟩))
      refine hK.out _ _ ?_ (fun hHeld => ?_)
      · ((try dsimp only); (go_split_ands; refine ⟨?_, ?_⟩; all_goals (first | with_reducible assumption | exact keep_below (by with_reducible assumption) hb | exact keep_cell hb (by with_reducible assumption))))
      clear hK K
      try simp only [Act.put, List.setIfInBounds_toArray, List.set_cons_zero, List.set_cons_succ]
      refine wpAnyH_take (i := 17) (oi := ?_) (v := ?_) (by simp only [List.getElem?_toArray, List.getElem?_cons_succ, List.getElem?_cons_zero]; rfl) (by kernel_rfl) (by kernel_rfl) (by kernel_rfl) (fun _ _ _ h => h) (Or.inl ⟨by rfl, ?_⟩) (by with_reducible assumption) ?_
      rotate_left
      focus ((intro w hSw; (try dsimp only at hSw); go_simp); (try with_reducible rfl))
      try simp only [Act.put, List.setIfInBounds_toArray, List.set_cons_zero, List.set_cons_succ]
      refine wpAnyH_take (i := 18) (oi := ?_) (v := ?_) (by simp only [List.getElem?_toArray, List.getElem?_cons_succ, List.getElem?_cons_zero]; rfl) (by kernel_rfl) (by kernel_rfl) (by kernel_rfl) (fun _ _ _ h => h) (Or.inl ⟨by rfl, ?_⟩) (by with_reducible assumption) ?_
      rotate_left
      focus ((intro w hSw; (try dsimp only at hSw); go_simp); (try with_reducible rfl))
      try simp only [Act.put, List.setIfInBounds_toArray, List.set_cons_zero, List.set_cons_succ]
      refine wpAnyH_done (by kernel_rfl) ?_ _
      refine NoPanic.normal ?_
      obtain ⟨hb7, _⟩ := hHeld
      have hB := keep_below hB hb7
      clear hb hb0 hb7
      go_wp2
      go_ret
      exact ⟨by first | rfl | simp, hB⟩
    · go_wp2_with fail
      have hPL : m1 ≤ 1099511627776 := by have := (small_pow (x := x) (k := kn) (by rw [HBL.out]; exact hs)).words HW.out; omega
      have D1 := Lib.hid (fun w' (h : Below w.heap.size w w') => HP0.out w' h)
      have D2 := Lib.hid (fun w' A' n' c' (hh : Holds16 w' x A' n' c') => ref3_pow_small x kn A' n' c' w' hh (by have := HS0.out.holds' hh; omega) (by rw [HBL.out]; exact hs) hk1)
      have D3 := Lib.hid (fun w' (h : Below w4.heap.size w4 w') A' n' c' (hh : Holds16 w' (x ^ kn) A' n' c') => law2_like (x ^ kn) B1 A' m1 d1 n' c' w' (HW.out.below h) hh hPL (by have := (small_pow (x := x) (k := kn) (by rw [HBL.out]; exact hs)).holds' hh; omega))
      have hBv := hB
      have hb0 : Below w4.heap.size w4 w4.drew := (Below.refl _ w4).drew
      have j0 : w4.drew.cell? ⟨q1, 0, none⟩ = some (.slice B1 m1 d1) := g1
      refine wp_region_noPanic ?_
      refine wp_region_held_drew (S := (fun w' => Below w4.heap.size w4 w' ∧ w'.cell? ⟨q1, 0, none⟩ = some (.slice B1 m1 d1))) (by kernel_rfl) ?_ (fun hHeld => ?_)
      · exact ⟨hb0, j0⟩
      refine wpAnyH_take (i := 0) (oi := ?_) (v := ?_) (by simp only [List.getElem?_toArray, List.getElem?_cons_succ, List.getElem?_cons_zero]; rfl) (by kernel_rfl) (by kernel_rfl) (by kernel_rfl) (fun _ _ _ h => h) (Or.inl ⟨by rfl, ?_⟩) (by with_reducible assumption) ?_
      rotate_left
      focus ((intro w hSw; (try dsimp only at hSw); go_simp); (try with_reducible rfl))
      try simp only [Act.put, List.setIfInBounds_toArray, List.set_cons_zero, List.set_cons_succ]
      refine wpAnyH_take (i := 1) (oi := ?_) (v := ?_) (by simp only [List.getElem?_toArray, List.getElem?_cons_succ, List.getElem?_cons_zero]; rfl) (by kernel_rfl) (by kernel_rfl) (by kernel_rfl) (fun _ _ _ h => h) (Or.inl ⟨by rfl, ?_⟩) (by with_reducible assumption) ?_
      rotate_left
      focus ((intro w hSw; (try dsimp only at hSw); go_simp); (try with_reducible rfl))
      try simp only [Act.put, List.setIfInBounds_toArray, List.set_cons_zero, List.set_cons_succ]
      refine wpAnyH_take (i := 2) (oi := ?_) (v := ?_) (by simp only [List.getElem?_toArray, List.getElem?_cons_succ, List.getElem?_cons_zero]; rfl) (by kernel_rfl) (by kernel_rfl) (by kernel_rfl) (fun _ _ _ h => h) (Or.inl ⟨by rfl, ?_⟩) (by with_reducible assumption) ?_
      rotate_left
      focus ((intro w hSw; (try dsimp only at hSw); go_simp); (try with_reducible rfl))
      try simp only [Act.put, List.setIfInBounds_toArray, List.set_cons_zero, List.set_cons_succ]
      refine wpAnyH_take (i := 3) (oi := ?_) (v := ?_) (by simp only [List.getElem?_toArray, List.getElem?_cons_succ, List.getElem?_cons_zero]; rfl) (by kernel_rfl) (by kernel_rfl) (by kernel_rfl) (fun _ _ _ h => h) (Or.inl ⟨by rfl, ?_⟩) (by with_reducible assumption) ?_
      rotate_left
      focus ((intro w hSw; (try dsimp only at hSw); go_simp); (try with_reducible rfl))
      try simp only [Act.put, List.setIfInBounds_toArray, List.set_cons_zero, List.set_cons_succ]
      refine wpAnyH_take (i := 4) (oi := ?_) (v := ?_) (by simp only [List.getElem?_toArray, List.getElem?_cons_succ, List.getElem?_cons_zero]; rfl) (by kernel_rfl) (by kernel_rfl) (by kernel_rfl) (fun _ _ _ h => h) (Or.inl ⟨by rfl, ?_⟩) (by with_reducible assumption) ?_
      rotate_left
      focus ((intro w hSw; (try dsimp only at hSw); go_simp); (try with_reducible rfl))
      try simp only [Act.put, List.setIfInBounds_toArray, List.set_cons_zero, List.set_cons_succ]
      refine wpAnyH_take (i := 5) (oi := ?_) (v := ?_) (by simp only [List.getElem?_toArray, List.getElem?_cons_succ, List.getElem?_cons_zero]; rfl) (by kernel_rfl) (by kernel_rfl) (by kernel_rfl) (fun _ _ _ h => h) (Or.inl ⟨by rfl, ?_⟩) (by with_reducible assumption) ?_
      rotate_left
      focus ((intro w hSw; (try dsimp only at hSw); go_simp); (try with_reducible rfl))
      try simp only [Act.put, List.setIfInBounds_toArray, List.set_cons_zero, List.set_cons_succ]
      refine wpAnyH_take (i := 6) (oi := ?_) (v := undef) (by simp only [List.getElem?_toArray, List.getElem?_cons_succ, List.getElem?_cons_zero]; rfl) (by kernel_rfl) (by kernel_rfl) (by kernel_rfl) (fun _ _ _ h => h) (Or.inr ⟨by rfl, rfl⟩) (by with_reducible assumption) ?_
      try simp only [Act.put, List.setIfInBounds_toArray, List.set_cons_zero, List.set_cons_succ]
      refine wpAnyH_take (i := 7) (oi := ?_) (v := undef) (by simp only [List.getElem?_toArray, List.getElem?_cons_succ, List.getElem?_cons_zero]; rfl) (by kernel_rfl) (by kernel_rfl) (by kernel_rfl) (fun _ _ _ h => h) (Or.inr ⟨by rfl, rfl⟩) (by with_reducible assumption) ?_
      try simp only [Act.put, List.setIfInBounds_toArray, List.set_cons_zero, List.set_cons_succ]
      refine wpAnyH_take (i := 8) (oi := ?_) (v := ?_) (by simp only [List.getElem?_toArray, List.getElem?_cons_succ, List.getElem?_cons_zero]; rfl) (by kernel_rfl) (by kernel_rfl) (by kernel_rfl) (fun _ _ _ h => h) (Or.inl ⟨by rfl, ?_⟩) (by with_reducible assumption) ?_
      rotate_left
      focus ((intro w hSw; (try dsimp only at hSw); go_simp); (try with_reducible rfl))
      try simp only [Act.put, List.setIfInBounds_toArray, List.set_cons_zero, List.set_cons_succ]
      refine wpAnyH_take (i := 9) (oi := ?_) (v := ?_) (by simp only [List.getElem?_toArray, List.getElem?_cons_succ, List.getElem?_cons_zero]; rfl) (by kernel_rfl) (by kernel_rfl) (by kernel_rfl) (fun _ _ _ h => h) (Or.inl ⟨by rfl, ?_⟩) (by with_reducible assumption) ?_
      rotate_left
      focus ((intro w hSw; (try dsimp only at hSw); go_simp); (try with_reducible rfl))
      try simp only [Act.put, List.setIfInBounds_toArray, List.set_cons_zero, List.set_cons_succ]
      refine wpAnyH_take (i := 10) (oi := ?_) (v := ?_) (by simp only [List.getElem?_toArray, List.getElem?_cons_succ, List.getElem?_cons_zero]; rfl) (by kernel_rfl) (by kernel_rfl) (by kernel_rfl) (fun _ _ _ h => h) (Or.inl ⟨by rfl, ?_⟩) (by with_reducible assumption) ?_
      rotate_left
      focus ((intro w hSw; (try dsimp only at hSw); go_simp); (try with_reducible rfl))
      try simp only [Act.put, List.setIfInBounds_toArray, List.set_cons_zero, List.set_cons_succ]
      refine wpAnyH_take (i := 11) (oi := ?_) (v := ?_) (by simp only [List.getElem?_toArray, List.getElem?_cons_succ, List.getElem?_cons_zero]; rfl) (by kernel_rfl) (by kernel_rfl) (by kernel_rfl) (fun _ _ _ h => h) (Or.inl ⟨by rfl, ?_⟩) (by with_reducible assumption) ?_
      rotate_left
      focus ((intro w hSw; (try dsimp only at hSw); go_simp); (try with_reducible rfl))
      try simp only [Act.put, List.setIfInBounds_toArray, List.set_cons_zero, List.set_cons_succ]
      refine wpAnyH_take (i := 12) (oi := ?_) (v := ?_) (by simp only [List.getElem?_toArray, List.getElem?_cons_succ, List.getElem?_cons_zero]; rfl) (by kernel_rfl) (by kernel_rfl) (by kernel_rfl) (fun _ _ _ h => h) (Or.inl ⟨by rfl, ?_⟩) (by with_reducible assumption) ?_
      rotate_left
      focus ((intro w hSw; (try dsimp only at hSw); go_simp); (try with_reducible rfl))
      try simp only [Act.put, List.setIfInBounds_toArray, List.set_cons_zero, List.set_cons_succ]
      refine wpAnyH_take (i := 14) (oi := ?_) (v := ?_) (by simp only [List.getElem?_toArray, List.getElem?_cons_succ, List.getElem?_cons_zero]; rfl) (by kernel_rfl) (by kernel_rfl) (by kernel_rfl) (fun _ _ _ h => h) (Or.inl ⟨by rfl, ?_⟩) (by with_reducible assumption) ?_
      rotate_left
      focus ((intro w hSw; (try dsimp only at hSw); go_simp); (try with_reducible rfl))
      try simp only [Act.put, List.setIfInBounds_toArray, List.set_cons_zero, List.set_cons_succ]
      refine wpAnyH_ready (rs := [13]) (by kernel_rfl) (by simp) ?_
      refine AllReadyH.cons (o := ?_) (by simp only [List.getElem?_toArray, List.getElem?_cons_succ, List.getElem?_cons_zero]; rfl) (fun K hK => ?_) AllReadyH.nil
      go_simp
      (first | (go_at_call 10; (with_reducible refine (D1.out _ (keep_below hBv (by first | with_reducible assumption | exact And.left (by with_reducible assumption)))).mono ?_); intro e w' hg; obtain ⟨A5, n5, c5, rfl, hh5, hb⟩ := hg.elim; clear hg) | (go_at_call 21; (with_reducible refine (D2.out _ _ _ _ hh5).mono ?_); rintro e w' ⟨A6, n6, c6, rfl, hh6, hb⟩) | (go_at_call 16; (with_reducible refine (D3.out _ (by first | with_reducible assumption | exact And.left (by with_reducible assumption)) _ _ _ hh6).mono ?_); rintro e w' ⟨rfl, hb⟩))
      refine hK.out _ _ ?_ (fun hHeld => ?_)
      · ((try dsimp only); (go_split_ands; refine ⟨?_, ?_⟩; all_goals (first | with_reducible assumption | exact keep_below (by with_reducible assumption) hb | exact keep_cell hb (by with_reducible assumption))))
      clear hK K
      try simp only [Act.put, List.setIfInBounds_toArray, List.set_cons_zero, List.set_cons_succ]
      refine wpAnyH_ready (rs := [15]) (by kernel_rfl) (by simp) ?_
      refine AllReadyH.cons (o := ?_) (by simp only [List.getElem?_toArray, List.getElem?_cons_succ, List.getElem?_cons_zero]; rfl) (fun K hK => ?_) AllReadyH.nil
      go_simp
      (first | (go_at_call 10; (with_reducible refine (D1.out _ (keep_below hBv (by first | with_reducible assumption | exact And.left (by with_reducible assumption)))).mono ?_); intro e w' hg; obtain ⟨A5, n5, c5, rfl, hh5, hb⟩ := hg.elim; clear hg) | (go_at_call 21; (with_reducible refine (D2.out _ _ _ _ hh5).mono ?_); rintro e w' ⟨A6, n6, c6, rfl, hh6, hb⟩) | (go_at_call 16; (with_reducible refine (D3.out _ (by first | with_reducible assumption | exact And.left (by with_reducible assumption)) _ _ _ hh6).mono ?_); rintro e w' ⟨rfl, hb⟩))
      refine hK.out _ _ ?_ (fun hHeld => ?_)
      · ((try dsimp only); (go_split_ands; refine ⟨?_, ?_⟩; all_goals (first | with_reducible assumption | exact keep_below (by with_reducible assumption) hb | exact keep_cell hb (by with_reducible assumption))))
      clear hK K
      try simp only [Act.put, List.setIfInBounds_toArray, List.set_cons_zero, List.set_cons_succ]
      refine wpAnyH_ready (rs := [16]) (by kernel_rfl) (by simp) ?_
      refine AllReadyH.cons (o := ?_) (by simp only [List.getElem?_toArray, List.getElem?_cons_succ, List.getElem?_cons_zero]; rfl) (fun K hK => ?_) AllReadyH.nil
      go_simp
      (first | (go_at_call 10; (with_reducible refine (D1.out _ (keep_below hBv (by first | with_reducible assumption | exact And.left (by with_reducible assumption)))).mono ?_); intro e w' hg; obtain ⟨A5, n5, c5, rfl, hh5, hb⟩ := hg.elim; clear hg) | (go_at_call 21; (with_reducible refine (D2.out _ _ _ _ hh5).mono ?_); rintro e w' ⟨A6, n6, c6, rfl, hh6, hb⟩) | (go_at_call 16; (with_reducible refine (D3.out _ (by first | with_reducible assumption | exact And.left (by with_reducible assumption)) _ _ _ hh6).mono ?_); rintro e w' ⟨rfl, hb⟩))
      refine hK.out _ _ ?_ (fun hHeld => ?_)
      · ((try dsimp only); (go_split_ands; refine ⟨?_, ?_⟩; all_goals (first | with_reducible assumption | exact keep_below (by with_reducible assumption) hb | exact keep_cell hb (by with_reducible assumption))))
      clear hK K
      try simp only [Act.put, List.setIfInBounds_toArray, List.set_cons_zero, List.set_cons_succ]
      refine wpAnyH_take (i := 17) (oi := ?_) (v := ?_) (by simp only [List.getElem?_toArray, List.getElem?_cons_succ, List.getElem?_cons_zero]; rfl) (by kernel_rfl) (by kernel_rfl) (by kernel_rfl) (fun _ _ _ h => h) (Or.inl ⟨by rfl, ?_⟩) (by with_reducible assumption) ?_
      rotate_left
      focus ((intro w hSw; (try dsimp only at hSw); go_simp); (try with_reducible rfl))
      try simp only [Act.put, List.setIfInBounds_toArray, List.set_cons_zero, List.set_cons_succ]
      refine wpAnyH_take (i := 18) (oi := ?_) (v := ?_) (by simp only [List.getElem?_toArray, List.getElem?_cons_succ, List.getElem?_cons_zero]; rfl) (by kernel_rfl) (by kernel_rfl) (by kernel_rfl) (fun _ _ _ h => h) (Or.inl ⟨by rfl, ?_⟩) (by with_reducible assumption) ?_
      rotate_left
      focus ((intro w hSw; (try dsimp only at hSw); go_simp); (try with_reducible rfl))
      try simp only [Act.put, List.setIfInBounds_toArray, List.set_cons_zero, List.set_cons_succ]
      refine wpAnyH_done (by kernel_rfl) ?_ _
      refine NoPanic.normal ?_
      obtain ⟨hb7, _⟩ := hHeld
      have hB := keep_below hB hb7
      clear hb hb0 hb7
      go_wp2
      go_ret
      exact ⟨by first | rfl | simp, hB⟩
  · have hbz : ¬ bl = 0 := by omega
    have hz4 : kn ≤ qq := by have := of_decide_eq_true z4; omega
    have hz3 : kn ≤ 65536 := by have := of_decide_eq_true z3; omega
    rcases h100 with ⟨z5, z6⟩ | ⟨z5, z5', z6⟩
    · go_wp2_with fail
      go_quiet (fail)
      go_wp2
      go_ret
      exact ⟨by first | rfl | simp, below_drewN_ hB _⟩
    · go_wp2_with fail
      have hPL : m1 ≤ 1099511627776 := by have := (pow_sz HS0.out kn).words HW.out; have := Nat.mul_le_mul_left K z6; omega
      have D1 := Lib.hid (fun w' (h : Below w.heap.size w w') => HP0.out w' h)
      have D2 := Lib.hid (fun w' A' n' c' (hh : Holds16 w' x A' n' c') => ref3_pow_loop x kn A' n' c' w' hh (by have := HS0.out.holds' hh; omega) (by rw [HBL.out]; exact hs) (by have := HS0.out.holds' hh; have := Nat.mul_le_mul this z6; omega) hk1)
      have D3 := Lib.hid (fun w' (h : Below w4.heap.size w4 w') A' n' c' (hh : Holds16 w' (x ^ kn) A' n' c') => law2_like (x ^ kn) B1 A' m1 d1 n' c' w' (HW.out.below h) hh hPL (by have := (pow_sz HS0.out kn).holds' hh; have := Nat.mul_le_mul_left K z6; omega))
      have hBv := hB
      have hb0 : Below w4.heap.size w4 w4.drew := (Below.refl _ w4).drew
      have j0 : w4.drew.cell? ⟨q1, 0, none⟩ = some (.slice B1 m1 d1) := g1
      refine wp_region_noPanic ?_
      refine wp_region_held_drew (S := (fun w' => Below w4.heap.size w4 w' ∧ w'.cell? ⟨q1, 0, none⟩ = some (.slice B1 m1 d1))) (by kernel_rfl) ?_ (fun hHeld => ?_)
      · exact ⟨hb0, j0⟩
      refine wpAnyH_take (i := 0) (oi := ?_) (v := ?_) (by simp only [List.getElem?_toArray, List.getElem?_cons_succ, List.getElem?_cons_zero]; rfl) (by kernel_rfl) (by kernel_rfl) (by kernel_rfl) (fun _ _ _ h => h) (Or.inl ⟨by rfl, ?_⟩) (by with_reducible assumption) ?_
      rotate_left
      focus ((intro w hSw; (try dsimp only at hSw); go_simp); (try with_reducible rfl))
      try simp only [Act.put, List.setIfInBounds_toArray, List.set_cons_zero, List.set_cons_succ]
      refine wpAnyH_take (i := 1) (oi := ?_) (v := ?_) (by simp only [List.getElem?_toArray, List.getElem?_cons_succ, List.getElem?_cons_zero]; rfl) (by kernel_rfl) (by kernel_rfl) (by kernel_rfl) (fun _ _ _ h => h) (Or.inl ⟨by rfl, ?_⟩) (by with_reducible assumption) ?_
      rotate_left
      focus ((intro w hSw; (try dsimp only at hSw); go_simp); (try with_reducible rfl))
      try simp only [Act.put, List.setIfInBounds_toArray, List.set_cons_zero, List.set_cons_succ]
      refine wpAnyH_take (i := 2) (oi := ?_) (v := ?_) (by simp only [List.getElem?_toArray, List.getElem?_cons_succ, List.getElem?_cons_zero]; rfl) (by kernel_rfl) (by kernel_rfl) (by kernel_rfl) (fun _ _ _ h => h) (Or.inl ⟨by rfl, ?_⟩) (by with_reducible assumption) ?_
      rotate_left
      focus ((intro w hSw; (try dsimp only at hSw); go_simp); (try with_reducible rfl))
      try simp only [Act.put, List.setIfInBounds_toArray, List.set_cons_zero, List.set_cons_succ]
      refine wpAnyH_take (i := 3) (oi := ?_) (v := ?_) (by simp only [List.getElem?_toArray, List.getElem?_cons_succ, List.getElem?_cons_zero]; rfl) (by kernel_rfl) (by kernel_rfl) (by kernel_rfl) (fun _ _ _ h => h) (Or.inl ⟨by rfl, ?_⟩) (by with_reducible assumption) ?_
      rotate_left
      focus ((intro w hSw; (try dsimp only at hSw); go_simp); (try with_reducible rfl))
      try simp only [Act.put, List.setIfInBounds_toArray, List.set_cons_zero, List.set_cons_succ]
      refine wpAnyH_take (i := 4) (oi := ?_) (v := ?_) (by simp only [List.getElem?_toArray, List.getElem?_cons_succ, List.getElem?_cons_zero]; rfl) (by kernel_rfl) (by kernel_rfl) (by kernel_rfl) (fun _ _ _ h => h) (Or.inl ⟨by rfl, ?_⟩) (by with_reducible assumption) ?_
      rotate_left
      focus ((intro w hSw; (try dsimp only at hSw); go_simp); (try with_reducible rfl))
      try simp only [Act.put, List.setIfInBounds_toArray, List.set_cons_zero, List.set_cons_succ]
      refine wpAnyH_take (i := 5) (oi := ?_) (v := ?_) (by simp only [List.getElem?_toArray, List.getElem?_cons_succ, List.getElem?_cons_zero]; rfl) (by kernel_rfl) (by kernel_rfl) (by kernel_rfl) (fun _ _ _ h => h) (Or.inl ⟨by rfl, ?_⟩) (by with_reducible assumption) ?_
      rotate_left
      focus ((intro w hSw; (try dsimp only at hSw); go_simp); (try with_reducible rfl))
      try simp only [Act.put, List.setIfInBounds_toArray, List.set_cons_zero, List.set_cons_succ]
      refine wpAnyH_take (i := 6) (oi := ?_) (v := undef) (by simp only [List.getElem?_toArray, List.getElem?_cons_succ, List.getElem?_cons_zero]; rfl) (by kernel_rfl) (by kernel_rfl) (by kernel_rfl) (fun _ _ _ h => h) (Or.inr ⟨by rfl, rfl⟩) (by with_reducible assumption) ?_
      try simp only [Act.put, List.setIfInBounds_toArray, List.set_cons_zero, List.set_cons_succ]
      refine wpAnyH_take (i := 7) (oi := ?_) (v := undef) (by simp only [List.getElem?_toArray, List.getElem?_cons_succ, List.getElem?_cons_zero]; rfl) (by kernel_rfl) (by kernel_rfl) (by kernel_rfl) (fun _ _ _ h => h) (Or.inr ⟨by rfl, rfl⟩) (by with_reducible assumption) ?_
      try simp only [Act.put, List.setIfInBounds_toArray, List.set_cons_zero, List.set_cons_succ]
      refine wpAnyH_take (i := 8) (oi := ?_) (v := ?_) (by simp only [List.getElem?_toArray, List.getElem?_cons_succ, List.getElem?_cons_zero]; rfl) (by kernel_rfl) (by kernel_rfl) (by kernel_rfl) (fun _ _ _ h => h) (Or.inl ⟨by rfl, ?_⟩) (by with_reducible assumption) ?_
      rotate_left
      focus ((intro w hSw; (try dsimp only at hSw); go_simp); (try with_reducible rfl))
      try simp only [Act.put, List.setIfInBounds_toArray, List.set_cons_zero, List.set_cons_succ]
      refine wpAnyH_take (i := 9) (oi := ?_) (v := ?_) (by simp only [List.getElem?_toArray, List.getElem?_cons_succ, List.getElem?_cons_zero]; rfl) (by kernel_rfl) (by kernel_rfl) (by kernel_rfl) (fun _ _ _ h => h) (Or.inl ⟨by rfl, ?_⟩) (by with_reducible assumption) ?_
      rotate_left
      focus ((intro w hSw; (try dsimp only at hSw); go_simp); (try with_reducible rfl))
      try simp only [Act.put, List.setIfInBounds_toArray, List.set_cons_zero, List.set_cons_succ]
      refine wpAnyH_take (i := 10) (oi := ?_) (v := ?_) (by simp only [List.getElem?_toArray, List.getElem?_cons_succ, List.getElem?_cons_zero]; rfl) (by kernel_rfl) (by kernel_rfl) (by kernel_rfl) (fun _ _ _ h => h) (Or.inl ⟨by rfl, ?_⟩) (by with_reducible assumption) ?_
      rotate_left
      focus ((intro w hSw; (try dsimp only at hSw); go_simp); (try with_reducible rfl))
      try simp only [Act.put, List.setIfInBounds_toArray, List.set_cons_zero, List.set_cons_succ]
      refine wpAnyH_take (i := 11) (oi := ?_) (v := ?_) (by simp only [List.getElem?_toArray, List.getElem?_cons_succ, List.getElem?_cons_zero]; rfl) (by kernel_rfl) (by kernel_rfl) (by kernel_rfl) (fun _ _ _ h => h) (Or.inl ⟨by rfl, ?_⟩) (by with_reducible assumption) ?_
      rotate_left
      focus ((intro w hSw; (try dsimp only at hSw); go_simp); (try with_reducible rfl))
      try simp only [Act.put, List.setIfInBounds_toArray, List.set_cons_zero, List.set_cons_succ]
      refine wpAnyH_take (i := 12) (oi := ?_) (v := ?_) (by simp only [List.getElem?_toArray, List.getElem?_cons_succ, List.getElem?_cons_zero]; rfl) (by kernel_rfl) (by kernel_rfl) (by kernel_rfl) (fun _ _ _ h => h) (Or.inl ⟨by rfl, ?_⟩) (by with_reducible assumption) ?_
      rotate_left
      focus ((intro w hSw; (try dsimp only at hSw); go_simp); (try with_reducible rfl))
      try simp only [Act.put, List.setIfInBounds_toArray, List.set_cons_zero, List.set_cons_succ]
      refine wpAnyH_take (i := 14) (oi := ?_) (v := ?_) (by simp only [List.getElem?_toArray, List.getElem?_cons_succ, List.getElem?_cons_zero]; rfl) (by kernel_rfl) (by kernel_rfl) (by kernel_rfl) (fun _ _ _ h => h) (Or.inl ⟨by rfl, ?_⟩) (by with_reducible assumption) ?_
      rotate_left
      focus ((intro w hSw; (try dsimp only at hSw); go_simp); (try with_reducible rfl))
      try simp only [Act.put, List.setIfInBounds_toArray, List.set_cons_zero, List.set_cons_succ]
      refine wpAnyH_ready (rs := [13]) (by kernel_rfl) (by simp) ?_
      refine AllReadyH.cons (o := ?_) (by simp only [List.getElem?_toArray, List.getElem?_cons_succ, List.getElem?_cons_zero]; rfl) (fun K hK => ?_) AllReadyH.nil
      go_simp
      (first | (go_at_call 10; (with_reducible refine (D1.out _ (keep_below hBv (by first | with_reducible assumption | exact And.left (by with_reducible assumption)))).mono ?_); intro e w' hg; obtain ⟨A5, n5, c5, rfl, hh5, hb⟩ := hg.elim; clear hg) | (go_at_call 21; (with_reducible refine (D2.out _ _ _ _ hh5).mono ?_); rintro e w' ⟨A6, n6, c6, rfl, hh6, hb⟩) | (go_at_call 16; (with_reducible refine (D3.out _ (by first | with_reducible assumption | exact And.left (by with_reducible assumption)) _ _ _ hh6).mono ?_); rintro e w' ⟨rfl, hb⟩))
      refine hK.out _ _ ?_ (fun hHeld => ?_)
      · ((try dsimp only); (go_split_ands; refine ⟨?_, ?_⟩; all_goals (first | with_reducible assumption | exact keep_below (by with_reducible assumption) hb | exact keep_cell hb (by with_reducible assumption))))
      clear hK K
      try simp only [Act.put, List.setIfInBounds_toArray, List.set_cons_zero, List.set_cons_succ]
      refine wpAnyH_ready (rs := [15]) (by kernel_rfl) (by simp) ?_
      refine AllReadyH.cons (o := ?_) (by simp only [List.getElem?_toArray, List.getElem?_cons_succ, List.getElem?_cons_zero]; rfl) (fun K hK => ?_) AllReadyH.nil
      go_simp
      (first | (go_at_call 10; (with_reducible refine (D1.out _ (keep_below hBv (by first | with_reducible assumption | exact And.left (by with_reducible assumption)))).mono ?_); intro e w' hg; obtain ⟨A5, n5, c5, rfl, hh5, hb⟩ := hg.elim; clear hg) | (go_at_call 21; (with_reducible refine (D2.out _ _ _ _ hh5).mono ?_); rintro e w' ⟨A6, n6, c6, rfl, hh6, hb⟩) | (go_at_call 16; (with_reducible refine (D3.out _ (by first | with_reducible assumption | exact And.left (by with_reducible assumption)) _ _ _ hh6).mono ?_); rintro e w' ⟨rfl, hb⟩))
      refine hK.out _ _ ?_ (fun hHeld => ?_)
      · ((try dsimp only); (go_split_ands; refine ⟨?_, ?_⟩; all_goals (first | with_reducible assumption | exact keep_below (by with_reducible assumption) hb | exact keep_cell hb (by with_reducible assumption))))
      clear hK K
      try simp only [Act.put, List.setIfInBounds_toArray, List.set_cons_zero, List.set_cons_succ]
      refine wpAnyH_ready (rs := [16]) (by kernel_rfl) (by simp) ?_
      refine AllReadyH.cons (o := ?_) (by simp only [List.getElem?_toArray, List.getElem?_cons_succ, List.getElem?_cons_zero]; rfl) (fun K hK => ?_) AllReadyH.nil
      go_simp
      (first | (go_at_call 10; (with_reducible refine (D1.out _ (keep_below hBv (by first | with_reducible assumption | exact And.left (by with_reducible assumption)))).mono ?_); intro e w' hg; obtain ⟨A5, n5, c5, rfl, hh5, hb⟩ := hg.elim; clear hg) | (go_at_call 21; (with_reducible refine (D2.out _ _ _ _ hh5).mono ?_); rintro e w' ⟨A6, n6, c6, rfl, hh6, hb⟩) | (go_at_call 16; (with_reducible refine (D3.out _ (by first | with_reducible assumption | exact And.left (by with_reducible assumption)) _ _ _ hh6).mono ?_); rintro e w' ⟨rfl, hb⟩))
      refine hK.out _ _ ?_ (fun hHeld => ?_)
      · ((try dsimp only); (go_split_ands; refine ⟨?_, ?_⟩; all_goals (first | with_reducible assumption | exact keep_below (by with_reducible assumption) hb | exact keep_cell hb (by with_reducible assumption))))
      clear hK K
      try simp only [Act.put, List.setIfInBounds_toArray, List.set_cons_zero, List.set_cons_succ]
      refine wpAnyH_take (i := 17) (oi := ?_) (v := ?_) (by simp only [List.getElem?_toArray, List.getElem?_cons_succ, List.getElem?_cons_zero]; rfl) (by kernel_rfl) (by kernel_rfl) (by kernel_rfl) (fun _ _ _ h => h) (Or.inl ⟨by rfl, ?_⟩) (by with_reducible assumption) ?_
      rotate_left
      focus ((intro w hSw; (try dsimp only at hSw); go_simp); (try with_reducible rfl))
      try simp only [Act.put, List.setIfInBounds_toArray, List.set_cons_zero, List.set_cons_succ]
      refine wpAnyH_take (i := 18) (oi := ?_) (v := ?_) (by simp only [List.getElem?_toArray, List.getElem?_cons_succ, List.getElem?_cons_zero]; rfl) (by kernel_rfl) (by kernel_rfl) (by kernel_rfl) (fun _ _ _ h => h) (Or.inl ⟨by rfl, ?_⟩) (by with_reducible assumption) ?_
      rotate_left
      focus ((intro w hSw; (try dsimp only at hSw); go_simp); (try with_reducible rfl))
      try simp only [Act.put, List.setIfInBounds_toArray, List.set_cons_zero, List.set_cons_succ]
      refine wpAnyH_done (by kernel_rfl) ?_ _
      refine NoPanic.normal ?_
      obtain ⟨hb7, _⟩ := hHeld
      have hB := keep_below hB hb7
      clear hb hb0 hb7
      go_wp2
      go_ret
      exact ⟨by first | rfl | simp, hB⟩
theorem prodPows_walk (PC : ProdC) (A0 : Option Addr) (n0 c0 : Nat) (l0 : List Nat) (a1 : Int) (w : World) (h0 : ArgWords w A0 n0 c0 l0) (h1 : -9223372036854775808 ≤ a1 ∧ a1 ≤ 9223372036854775807) :
    Calls Try.prog 4 #[.slice A0 n0 c0, .int .i64 a1] w fun e w' => e = .returned (.bool true) ∧ Below w.heap.size w w' := by
  by_cases hk : a1 < 0
  · exact prodPows_no PC A0 n0 c0 l0 a1 w h0 (by omega) (.inl hk)
  · obtain ⟨kn, rfl⟩ : ∃ n : Nat, a1 = (n : Int) := ⟨a1.toNat, by omega⟩
    by_cases h : bitLen (dv 18446744073709551616 l0) ≤ 1 ∨ kn * bitLen (dv 18446744073709551616 l0) ≤ 65536
    · exact prodPows_yes PC A0 n0 c0 l0 kn w h0 (by omega) h
    · refine prodPows_no PC A0 n0 c0 l0 kn w h0 (by omega) (.inr ⟨by omega, ?_⟩)
      have h2 : 65536 < kn * bitLen (dv 18446744073709551616 l0) := by omega
      have h3 : ((65536 : Nat) : Int) < ((kn * bitLen (dv 18446744073709551616 l0) : Nat) : Int) := Int.ofNat_lt.2 h2
      rw [Int.natCast_mul] at h3
      exact h3
end Go.Proofs.Ytonjhcmppiioeaa
