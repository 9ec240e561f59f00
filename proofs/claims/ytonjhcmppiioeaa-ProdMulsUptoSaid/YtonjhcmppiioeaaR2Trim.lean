/-
  The contract of the reference's Trim (actuaryref02). Conditions: slices that hold a number's digits; lengths up to 2 to the 38.
-/
import Derived.Test.YtonjhcmppiioeaaRows
import Derived.Test.YtonjhcmppiioeaaNat0
import Derived.Test.YtonjhcmppiioeaaTI
import Derived.WalkKit
import Derived.Lib.Hide
import Derived.Outline
import Derived.Deep.QuietTactic
import Derived.BigQuiet
import Derived.LoopTactic
import Derived.Deep.LoopGhost
import Derived.Deep.DeepCutAuto
import Derived.Deep.CutBlock
namespace Go.Proofs.Ytonjhcmppiioeaa
open Go Go.RowKit
set_option maxRecDepth 100000
set_option linter.unusedVariables false
set_option maxHeartbeats 2000000 in
theorem ref2_trim (A : Option Addr) (n c : Nat) (l : List Nat) (w : World) (hA : Reads w w.heap.size 1 A n (vals .i64 l)) (hl : Dgs 65536 l) (hc : n ≤ c) (hc' : c ≤ 9223372036854775807) (hn : n ≤ 1099511627776) :
    Calls Try.prog 28 #[.slice A n c] w (Gives16 w (dv 65536 l)) := by
  obtain ⟨i0, hi0, hz0, hz1, hz2⟩ := info_parts infoI
  have HL := Lib.hid hA.len_
  go_enter Try.func28, Try.ntmps28
  go_wp2
  go_loop [3] (fun s => ∃ m : Nat, m ≤ n ∧ s = .int .i64 m ∧ Hid (dv 65536 (l.take m) = dv 65536 l)) (fun s => (intOf s).toNat)
  case atStart => exact ⟨n, Nat.le_refl _, rfl, by show _ = _; rw [List.take_of_length_le (by have := HL.out; omega)]⟩
  case round =>
    obtain ⟨m, hm, rfl, H⟩ := hrel
    have done : (m = 0 ∨ l.getD (m - 1) 0 ≠ 0) → ∀ w' v, w'.ownsRow w.heap.size 3 1 v (0 + m) ([] ++ vals .i64 (l.take m)) → Below w.heap.size w w' → Gives16 w (dv 65536 l) (.returned v) w' := by
      intro hz w' v ho hb
      have e := dg_trim (by decide) hl (by have := HL.out; omega) H.out hz
      unfold Gives16
      have e2 : (dg 65536 (dv 65536 l)).length = 0 + m := by rw [← e, List.length_take]; have := HL.out; omega
      rw [e2, ← e]
      exact gives_of_own (by simpa using ho) hb
    have DN := Lib.hid done
    clear done
    have hsrc := hA.take_ hm
    rw [vals_take] at hsrc
    by_cases hm0 : m = 0
    · subst hm0
      go_wp2_with (at_builtin; refine wpList_append_any _ rfl (.tmp 19) (.tmp 22) 25 rfl w.heap.size 3 i0 (.int .i64 0) 1 8 Try.underlying25 hi0 hz0 hz1 hz2 rfl (by decide) (.slice none 0 0) 0 [] rfl (World.ownsRow_nil _ _ _ _) _ A 0 c (vals .i64 (l.take 0)) rfl hsrc (vals_one _ _) (by unfold maxLen; omega) (by omega) (Nat.le_refl _) ?_; intro v' w1 hown' hgrow hat)
      have hb' : Below w.heap.size w w1 := (Below.refl _ _).grown hgrow (Nat.le_refl _) (fun g hg => by simp [Value.ownBlock] at hg)
      have G := DN.out (by first | exact .inl rfl | simp) w1 v' hown' hb'
      clear hown' hgrow hat hb' hsrc
      go_wp2
      go_ret
      exact G
    · obtain ⟨j, rfl⟩ : ∃ j, m = j + 1 := ⟨m - 1, by omega⟩
      obtain ⟨ad, rfl, hadb, hcell⟩ := val_at hA (k := j) (by omega)
      by_cases hz : l.getD j 0 = 0
      · have HM := Lib.hid ((dv_strike 65536 (l := l) (n := j) (by have := HL.out; omega) hz).symm.trans H.out)
        rw [hz] at hcell
        clear hz hsrc
        go_wp2
        go_round
        case rel => exact ⟨j, by omega, by go_num, HM⟩
        case measure => simp only [intOf]; omega
      · have hz' : (((l.getD j 0 : Nat) : Int) == 0) = false := beq_eq_false_iff_ne.2 (by omega)
        obtain ⟨d, hd⟩ : ∃ d, l.getD j 0 = d := ⟨_, rfl⟩
        have HZ := Lib.hid hz
        rw [hd] at hcell hz'
        clear hz hd
        go_wp2_with (at_builtin; refine wpList_append_any _ rfl (.tmp 19) (.tmp 22) 25 rfl w.heap.size 3 i0 (.int .i64 0) 1 8 Try.underlying25 hi0 hz0 hz1 hz2 rfl (by decide) (.slice none 0 0) 0 [] rfl (World.ownsRow_nil _ _ _ _) _ (some ad) (j + 1) c (vals .i64 (l.take (j + 1))) rfl hsrc (vals_one _ _) (by unfold maxLen; omega) (by omega) (Nat.le_refl _) ?_; intro v' w1 hown' hgrow hat)
        have hb' : Below w.heap.size w w1 := (Below.refl _ _).grown hgrow (Nat.le_refl _) (fun g hg => by simp [Value.ownBlock] at hg)
        have G := DN.out (.inr HZ.out) w1 v' hown' hb'
        clear hown' hgrow hat hb' hsrc
        go_wp2
        go_ret
        exact G
/-- Trim, of digits that the call itself made: what every function of the reference ends in. -/
theorem ref2_trim_own {base : Nat} {t : TypeId} {v : Value} {n : Nat} {l : List Nat} {w : World} (ho : w.ownsRow base t 1 v n (vals .i64 l)) (hl : Dgs 65536 l) (hn : n ≤ 1099511627776) :
    Calls Try.prog 28 #[v] w (Gives16 w (dv 65536 l)) := by
  obtain ⟨A1, c1, rfl, hr1, hc1, hc1', _⟩ := own_form ho
  exact ref2_trim A1 n c1 l w hr1 hl hc1 hc1' hn
end Go.Proofs.Ytonjhcmppiioeaa
