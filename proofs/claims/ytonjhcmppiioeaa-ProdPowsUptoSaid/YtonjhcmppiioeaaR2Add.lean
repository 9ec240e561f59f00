/-
  The contract of the reference's Add (actuaryref02). Conditions: slices that hold a number's digits; lengths up to 2 to the 38.
-/
import Derived.Test.YtonjhcmppiioeaaRows
import Derived.Test.YtonjhcmppiioeaaR2Trim
import Derived.Test.YtonjhcmppiioeaaR2Digit
import Derived.WalkKit
import Derived.Lib.Hide
import Derived.Outline
import Derived.Deep.QuietTactic
import Derived.BigQuiet
import Derived.LoopTactic
import Derived.Deep.LoopGhost
import Derived.Deep.DeepCutAuto
import Derived.Deep.CutBlock
namespace Go.Proofs.Ytonjhcmppiioeaa
open Go Go.RowKit
set_option maxRecDepth 100000
set_option linter.unusedVariables false
set_option maxHeartbeats 4000000 in
theorem ref2_add (x y : Nat) (A D : Option Addr) (n m c d : Nat) (w : World) (hA : Holds16 w x A n c) (hD : Holds16 w y D m d) (hn : n ≤ 549755813888) (hm : m ≤ 549755813888) :
    Calls Try.prog 14 #[.slice A n c, .slice D m d] w (Gives16 w (x + y)) := by
  obtain ⟨i0, hi0, hz0, hz1, hz2⟩ := info_parts infoI
  have HLN := Lib.hid hA.len
  have HLM := Lib.hid hD.len
  have hR := hA.1
  have hS := hD.1
  go_enter Try.func14, Try.ntmps14
  go_wp2
  go_loopg [5, 6, 7, 8] (n + m + 2) (fun g v s i _ wr => ∃ (k cc : Nat) (out : List Nat), k ≤ n + m + 1 ∧ n + m + 1 < g + k ∧ (k = 0 ∨ k ≤ n ∨ k ≤ m ∨ (k ≤ n + 1 ∨ k ≤ m + 1) ∧ cc = 0) ∧ i = .int .i64 k ∧ s = .int .i64 cc ∧ Add16 x y k out cc ∧
      wr.ownsRow w.heap.size 3 1 v k (vals .i64 out) ∧ Below w.heap.size w wr)
  case atStart => exact ⟨0, 0, [], by omega, by omega, .inl rfl, rfl, rfl, Add16.start x y, World.ownsRow_nil _ _ _ _, Below.refl _ _⟩
  case round =>
    obtain ⟨k, cc, out, hk, hg, hkk, rfl, rfl, hat, hown, hbl⟩ := hrel
    have hcc := hat.carry
    by_cases hgo : k < n ∨ k < m ∨ 0 < cc
    · have D1 := ref2_digit A n c k _ _ wr (hR.below hbl) (by omega)
      have D2 := ref2_digit D m d k _ _ wr (hS.below hbl) (by omega)
      rw [dig16] at D1 D2
      have ha1 : x / 65536 ^ k % 65536 < 65536 := Nat.mod_lt _ (by decide)
      have hb1 : y / 65536 ^ k % 65536 < 65536 := Nat.mod_lt _ (by decide)
      have hst := hat.step rfl
      have hz2' : k = n ∧ k = m → cc = 1 := by omega
      have hgr : n ≤ k → m ≤ k → cc = 1 := by omega
      have HX := Lib.hid (fun (h : n ≤ k) (h' : m ≤ k) => (show x / 65536 ^ k % 65536 = 0 ∧ y / 65536 ^ k % 65536 = 0 from by
        refine ⟨?_, ?_⟩
        · rw [Nat.div_eq_of_lt (Nat.lt_of_lt_of_le (dg_lt (by decide) x) (Nat.pow_le_pow_right (by decide) (by have := HLN.out; omega)))]
        · rw [Nat.div_eq_of_lt (Nat.lt_of_lt_of_le (dg_lt (by decide) y) (Nat.pow_le_pow_right (by decide) (by have := HLM.out; omega)))]))
      obtain ⟨a, ha⟩ : ∃ a, x / 65536 ^ k % 65536 = a := ⟨_, rfl⟩
      obtain ⟨b, hb⟩ : ∃ a, y / 65536 ^ k % 65536 = a := ⟨_, rfl⟩
      rw [ha] at D1 ha1 hst HX
      rw [hb] at D2 hb1 hst HX
      have HD1 := Lib.hid D1
      have HD2 := Lib.hid D2
      have HST := Lib.hid hst
      have HNX : Hid (k + 1 ≤ n + m + 1 ∧ (k + 1 = 0 ∨ k + 1 ≤ n ∨ k + 1 ≤ m ∨ (k + 1 ≤ n + 1 ∨ k + 1 ≤ m + 1) ∧ (a + b + cc) / 65536 = 0)) := by
        refine ⟨by omega, ?_⟩
        by_cases h1 : k < n
        · exact .inr (.inl (by omega))
        · by_cases h2 : k < m
          · exact .inr (.inr (.inl (by omega)))
          · have := HX.out (by omega) (by omega)
            exact .inr (.inr (.inr ⟨by omega, by omega⟩))
      clear D1 D2 hst ha hb hat HX hz2' hgr hkk
      go_wp2_with fail
      all_goals
        refine HD1.out.mono ?_
        rintro e w' ⟨rfl, rfl⟩
        go_wp2_with fail
        refine HD2.out.mono ?_
        rintro e w' ⟨rfl, rfl⟩
        go_wp2_with (at_builtin; refine wpList_append_own _ rfl _ _ 25 rfl w.heap.size 3 i0 (.int .i64 0) 1 8 Try.underlying25 hi0 hz0 hz1 hz2 rfl (by decide) _ _ _ rfl (hown.alloc _) ⟨wr.heap.size, 0, none⟩ 1 1 [.int .i64 (((a : Int) + (b : Int) + (cc : Int)) % 65536)] rfl rfl (push_cells _ _ _) (push_one _ _) (by unfold maxLen; omega) (by omega) (by have := hbl.size; simp; omega) ?_; intro v' w1 hown' hgrow _)
        have hb' : Below w.heap.size w w1 := (hbl.alloc hbl.size _).grown hgrow (by have := hbl.size; simp; omega) (fun g hg => (hown.lt g hg).1)
        have hown2 : w1.ownsRow w.heap.size 3 1 v' (k + 1) (vals .i64 (out ++ [(a + b + cc) % 65536])) := by
          rw [vals_append]; simpa [vals] using hown'
        clear hown' hgrow hown hbl
        go_wp2
        go_roundg (n + m + 1 - k)
        case measure => omega
        case rel => exact ⟨k + 1, _, _, HNX.out.1, by omega, HNX.out.2, by go_num, by go_num, HST.out, hown2, hb'⟩
    · have hcz : cc = 0 := by omega
      subst hcz
      have e := hat.done (by have := HLN.out; omega) (by have := HLM.out; omega)
      have T := ref2_trim_own hown hat.dgs (by omega)
      rw [e] at T
      have HT := Lib.hid T
      clear e T hat hown hkk
      go_wp2_with fail
      refine HT.out.mono ?_
      intro e w2 hg2
      have hg3 := hg2.from_ hbl
      obtain ⟨A2, n2, c2, rfl, hh2, hb2⟩ := hg2.elim
      clear hg2 hh2 hb2
      go_wp2_with fail
      go_ret
      exact hg3
end Go.Proofs.Ytonjhcmppiioeaa
