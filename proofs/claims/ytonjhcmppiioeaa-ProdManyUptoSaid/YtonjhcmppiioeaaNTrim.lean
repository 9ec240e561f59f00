/-
  The contract of nat.trim: the words without noughts above, in the very memory. Conditions: the words read; their length is up to 2 to the 40.
-/
import Derived.Test.YtonjhcmppiioeaaRows
import Derived.Test.YtonjhcmppiioeaaNatIs
import Derived.WalkKit
import Derived.Lib.Hide
import Derived.Outline
import Derived.LoopTactic
import Derived.Deep.LoopGhost
namespace Go.Proofs.Ytonjhcmppiioeaa
open Go Go.RowKit
set_option maxRecDepth 100000
set_option linter.unusedVariables false
/-- What trim hands back of a slice: the number's words, where they lay. -/
def TrimR (w : World) (B : Nat) (A : Option Addr) (x : Nat) (e : Ending) (w' : World) : Prop :=
  ∃ (A' : Option Addr) (c' : Nat), e = .returned (.slice A' (dg 18446744073709551616 x).length c') ∧ Reads w B 1 A' (dg 18446744073709551616 x).length (vals .u64 (dg 18446744073709551616 x)) ∧ (dg 18446744073709551616 x).length ≤ c' ∧ c' ≤ 9223372036854775807 ∧ (A' = A ∨ A' = none) ∧ w = w'
set_option maxHeartbeats 1000000 in
theorem nat_trim (A : Option Addr) (n c B : Nat) (l : List Nat) (w : World) (hA : Reads w B 1 A n (vals .u64 l)) (hl : Dgs 18446744073709551616 l) (hc : n ≤ c) (hc' : c ≤ 9223372036854775807) (hn : n ≤ 1099511627776) :
    Calls Try.prog 34 #[.slice A n c] w (TrimR w B A (dv 18446744073709551616 l)) := by
  have HL := Lib.hid hA.len_
  go_enter Try.func34, Try.ntmps34
  go_wp2
  go_loop [3] (fun s => ∃ m : Nat, m ≤ n ∧ s = .int .i64 m ∧ Hid (dv 18446744073709551616 (l.take m) = dv 18446744073709551616 l)) (fun s => (intOf s).toNat)
  case atStart => exact ⟨n, Nat.le_refl _, rfl, by show _ = _; rw [List.take_of_length_le (by have := HL.out; omega)]⟩
  case round =>
    obtain ⟨m, hm, rfl, H⟩ := hrel
    by_cases hm0 : m = 0
    · subst hm0
      have G : Hid (TrimR w B A (dv 18446744073709551616 l) (.returned (.slice none 0 0)) w) := by
        have e : dv 18446744073709551616 l = 0 := by have := H.out; simpa [dv] using this.symm
        rw [e]
        exact ⟨none, 0, rfl, Reads.none_, Nat.le_refl _, by omega, .inr rfl, rfl⟩
      go_wp2
      go_ret
      exact G.out
    · obtain ⟨j, rfl⟩ : ∃ j, m = j + 1 := ⟨m - 1, by omega⟩
      have hsrc := hA.take_ hm
      rw [vals_take] at hsrc
      obtain ⟨ad, rfl, hadb, hcell⟩ := val_at hA (k := j) (by omega)
      by_cases hz : l.getD j 0 = 0
      · have HM := Lib.hid ((dv_strike 18446744073709551616 (l := l) (n := j) (by have := HL.out; omega) hz).symm.trans H.out)
        rw [hz] at hcell
        clear hz hsrc
        go_wp2
        go_round
        case rel => exact ⟨j, by omega, by go_num, HM⟩
        case measure => simp only [intOf]; omega
      · have hz' : (((l.getD j 0 : Nat) : Int) == 0) = false := beq_eq_false_iff_ne.2 (by omega)
        have G : Hid (TrimR w B (some ad) (dv 18446744073709551616 l) (.returned (.slice (some ad) (j + 1) c)) w) := by
          have e := dg_trim (by decide) hl (by have := HL.out; omega) H.out (.inr hz)
          have e2 : (dg 18446744073709551616 (dv 18446744073709551616 l)).length = j + 1 := by rw [← e, List.length_take]; have := HL.out; omega
          refine ⟨some ad, c, by rw [e2], ?_, by omega, hc', .inl rfl, rfl⟩
          rw [e2, ← e]
          exact hsrc
        obtain ⟨d, hd⟩ : ∃ d, l.getD j 0 = d := ⟨_, rfl⟩
        rw [hd] at hcell hz'
        clear hz hd hsrc
        go_wp2
        go_ret
        exact G.out
end Go.Proofs.Ytonjhcmppiioeaa
