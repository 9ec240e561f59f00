/-
  The walk of the law QuotDivides. Conditions: the words that came in are words, at most 1048576 of each; quot's functions do as QuotC says.
-/
import Derived.Test.YtaemlkoklaoglaaRows
import Derived.Test.YtaemlkoklaoglaaNNums
import Derived.Test.YtaemlkoklaoglaaW4DivA
import Derived.Test.YtaemlkoklaoglaaW4DivB
import Derived.WalkKit
import Derived.Lib.Hide
import Derived.Outline
import Derived.Deep.RegionHeld3
import Derived.IntWalk
import Derived.Deep.DeepCutAuto
import Derived.Deep.CutBlock
namespace Go.Proofs.Ytaemlkoklaoglaa
open Go Go.RowKit
set_option maxRecDepth 100000
set_option linter.unusedVariables false
set_option linter.unusedSimpArgs false
set_option maxHeartbeats 16000000 in
theorem quotDivides_n0 (QC : QuotC) (A0 : Option Addr) (n0 c0 : Nat) (l0 : List Nat) (A1 : Option Addr) (n1 c1 : Nat) (l1 : List Nat) (a2 : Int) (w : World) (h0 : ArgWords w A0 n0 c0 l0) (h1 : ArgWords w A1 n1 c1 l1) (hk0 : n0 > 40)  :
    Calls Try.prog 3 #[.slice A0 n0 c0, .slice A1 n1 c1, .int .u64 a2] w fun e w' => e = .returned (.bool true) ∧ Below w.heap.size w w' := by
  have HQC := Lib.hid QC
  obtain ⟨K, hK⟩ : ∃ K, 1048576 = K := ⟨_, rfl⟩
  have O0 := arg_of h0
  have S0 := arg_sz h0
  have O1 := arg_of h1
  have S1 := arg_sz h1
  rw [hK] at S0 S1
  have hK2 : K ≤ 1048576 := by omega
  obtain ⟨x, hx0⟩ : ∃ v, dv 18446744073709551616 l0 = v := ⟨_, rfl⟩
  rw [hx0] at O0 S0
  have HO0 := Lib.hid O0
  have HS0 := Lib.hid S0
  obtain ⟨y, hx1⟩ : ∃ v, dv 18446744073709551616 l1 = v := ⟨_, rfl⟩
  rw [hx1] at O1 S1
  have HO1 := Lib.hid O1
  have HS1 := Lib.hid S1
  have P0 := arg_ref2 h0
  have P1 := arg_ref2 h1
  rw [hx0] at P0
  rw [hx1] at P1
  have HP0 := Lib.hid P0
  have HP1 := Lib.hid P1
  have hl0a : decide ((n0 : Int) > 40) = true := by simp; omega
  have hl0b : decide ((40 : Int) < (n0 : Int)) = true := by simp; omega
  have hl0c : decide (40 < n0) = true := by simp; omega
  clear QC P0 P1 hK O0 S0 h0 hx0 O1 S1 h1 hx1  
  go_enter Try.func3, Try.ntmps3
  have hB := Below.refl w.heap.size w
  go_wp2_with fail
  (with_reducible refine (law4_awake HQC.out _).mono ?_)
  rintro e wc1 ⟨rfl, hb⟩
  have hB := keep_below hB hb
  clear hb 
  go_wp2
  go_ret
  exact ⟨by first | rfl | simp, hB⟩
set_option maxHeartbeats 16000000 in
theorem quotDivides_n1 (QC : QuotC) (A0 : Option Addr) (n0 c0 : Nat) (l0 : List Nat) (A1 : Option Addr) (n1 c1 : Nat) (l1 : List Nat) (a2 : Int) (w : World) (h0 : ArgWords w A0 n0 c0 l0) (h1 : ArgWords w A1 n1 c1 l1) (hk0 : n0 ≤ 40) (hk1 : n1 > 40)  :
    Calls Try.prog 3 #[.slice A0 n0 c0, .slice A1 n1 c1, .int .u64 a2] w fun e w' => e = .returned (.bool true) ∧ Below w.heap.size w w' := by
  have HQC := Lib.hid QC
  obtain ⟨K, hK⟩ : ∃ K, 1048576 = K := ⟨_, rfl⟩
  have O0 := arg_of h0
  have S0 := arg_sz h0
  have O1 := arg_of h1
  have S1 := arg_sz h1
  rw [hK] at S0 S1
  have hK2 : K ≤ 1048576 := by omega
  obtain ⟨x, hx0⟩ : ∃ v, dv 18446744073709551616 l0 = v := ⟨_, rfl⟩
  rw [hx0] at O0 S0
  have HO0 := Lib.hid O0
  have HS0 := Lib.hid S0
  obtain ⟨y, hx1⟩ : ∃ v, dv 18446744073709551616 l1 = v := ⟨_, rfl⟩
  rw [hx1] at O1 S1
  have HO1 := Lib.hid O1
  have HS1 := Lib.hid S1
  have P0 := arg_ref2 h0
  have P1 := arg_ref2 h1
  rw [hx0] at P0
  rw [hx1] at P1
  have HP0 := Lib.hid P0
  have HP1 := Lib.hid P1
  have hl0a : decide ((n0 : Int) > 40) = false := by simp; omega
  have hl0b : decide ((40 : Int) < (n0 : Int)) = false := by simp; omega
  have hl0c : decide (40 < n0) = false := by simp; omega
  have hl1a : decide ((n1 : Int) > 40) = true := by simp; omega
  have hl1b : decide ((40 : Int) < (n1 : Int)) = true := by simp; omega
  have hl1c : decide (40 < n1) = true := by simp; omega
  clear QC P0 P1 hK O0 S0 h0 hx0 O1 S1 h1 hx1  
  go_enter Try.func3, Try.ntmps3
  have hB := Below.refl w.heap.size w
  go_wp2_with fail
  (with_reducible refine (law4_awake HQC.out _).mono ?_)
  rintro e wc1 ⟨rfl, hb⟩
  have hB := keep_below hB hb
  clear hb 
  go_wp2
  go_ret
  exact ⟨by first | rfl | simp, hB⟩
theorem quotDivides_walk (QC : QuotC) (A0 : Option Addr) (n0 c0 : Nat) (l0 : List Nat) (A1 : Option Addr) (n1 c1 : Nat) (l1 : List Nat) (a2 : Int) (w : World) (h0 : ArgWords w A0 n0 c0 l0) (h1 : ArgWords w A1 n1 c1 l1) (h2 : Wd a2) :
    Calls Try.prog 3 #[.slice A0 n0 c0, .slice A1 n1 c1, .int .u64 a2] w fun e w' => e = .returned (.bool true) ∧ Below w.heap.size w w' := by
  by_cases k0 : n0 ≤ 40
  · by_cases k1 : n1 ≤ 40
    · unfold Wd at h2
      obtain ⟨xa, rfl⟩ : ∃ k : Nat, a2 = (k : Int) := ⟨a2.toNat, by omega⟩
      have hxa : xa < 18446744073709551616 := by omega
      by_cases hxn : xa = 0
      · subst hxn
        by_cases cy : dv 18446744073709551616 l1 = 0
        · by_cases cx : dv 18446744073709551616 l0 = 0
          · exact quotDivides_010 QC A0 n0 c0 l0 A1 n1 c1 l1 w h0 h1 k0 k1 cy cx
          · exact quotDivides_000 QC A0 n0 c0 l0 A1 n1 c1 l1 w h0 h1 k0 k1 cy cx
        · by_cases cx : dv 18446744073709551616 l0 % dv 18446744073709551616 l1 = 0
          · exact quotDivides_110 QC A0 n0 c0 l0 A1 n1 c1 l1 w h0 h1 k0 k1 cy cx
          · exact quotDivides_100 QC A0 n0 c0 l0 A1 n1 c1 l1 w h0 h1 k0 k1 cy cx
      · skip
        by_cases cy : dv 18446744073709551616 l1 = 0
        · by_cases cx : dv 18446744073709551616 l0 = 0
          · exact quotDivides_011 QC A0 n0 c0 l0 A1 n1 c1 l1 xa w h0 h1 k0 k1 hxa hxn cy cx
          · exact quotDivides_001 QC A0 n0 c0 l0 A1 n1 c1 l1 xa w h0 h1 k0 k1 hxa hxn cy cx
        · by_cases cx : dv 18446744073709551616 l0 % dv 18446744073709551616 l1 = 0
          · exact quotDivides_111 QC A0 n0 c0 l0 A1 n1 c1 l1 xa w h0 h1 k0 k1 hxa hxn cy cx
          · exact quotDivides_101 QC A0 n0 c0 l0 A1 n1 c1 l1 xa w h0 h1 k0 k1 hxa hxn cy cx
    · exact quotDivides_n1 QC A0 n0 c0 l0 A1 n1 c1 l1 a2 w h0 h1 k0 (by omega)
  · exact quotDivides_n0 QC A0 n0 c0 l0 A1 n1 c1 l1 a2 w h0 h1 (by omega)
end Go.Proofs.Ytaemlkoklaoglaa
