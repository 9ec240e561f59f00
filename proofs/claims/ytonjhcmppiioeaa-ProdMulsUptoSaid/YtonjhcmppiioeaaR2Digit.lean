/-
  The contract of the reference's Digit (actuaryref02). Conditions: slices that hold a number's digits; lengths up to 2 to the 38.
-/
import Derived.Test.YtonjhcmppiioeaaRows
import Derived.Test.YtonjhcmppiioeaaNat0
import Derived.Test.YtonjhcmppiioeaaTI
import Derived.WalkKit
import Derived.Lib.Hide
import Derived.Outline
import Derived.Deep.QuietTactic
import Derived.BigQuiet
import Derived.LoopTactic
import Derived.Deep.LoopGhost
import Derived.Deep.DeepCutAuto
import Derived.Deep.CutBlock
namespace Go.Proofs.Ytonjhcmppiioeaa
open Go Go.RowKit
set_option maxRecDepth 100000
set_option linter.unusedVariables false
/-- Digit: one digit, or 0. -/
theorem ref2_digit_in (A : Option Addr) (n c k : Nat) (l : List Nat) (B : Nat) (w : World) (hA : Reads w B 1 A n (vals .i64 l)) (hk : k < n) (hn : n ≤ 1099511627776) :
    Calls Try.prog 35 #[.slice A n c, .int .i64 k] w fun e w' => e = .returned (.int .i64 (l.getD k 0 : Nat)) ∧ w = w' := by
  obtain ⟨ad, rfl, hadb, hcell⟩ := val_at hA hk
  obtain ⟨d, hd⟩ : ∃ d, l.getD k 0 = d := ⟨_, rfl⟩
  rw [hd] at hcell ⊢
  clear hd
  go_enter Try.func35, Try.ntmps35
  go_wp2
  go_ret
  exact ⟨rfl, rfl⟩
theorem ref2_digit_out (A : Option Addr) (n c : Nat) (k : Int) (w : World) (hk : k < 0 ∨ (n : Int) ≤ k) :
    Calls Try.prog 35 #[.slice A n c, .int .i64 k] w fun e w' => e = .returned (.int .i64 0) ∧ w = w' := by
  by_cases h : k < 0
  · go_enter Try.func35, Try.ntmps35
    go_wp2
    go_ret
    exact ⟨rfl, rfl⟩
  · have h2 : (n : Int) ≤ k := by omega
    clear hk
    go_enter Try.func35, Try.ntmps35
    go_wp2
    go_ret
    exact ⟨rfl, rfl⟩
/-- Digit, of a number's digits: whatever place from 0 on. -/
theorem ref2_digit (A : Option Addr) (n c : Nat) (k : Nat) (l : List Nat) (B : Nat) (w : World) (hA : Reads w B 1 A n (vals .i64 l)) (hn : n ≤ 1099511627776) :
    Calls Try.prog 35 #[.slice A n c, .int .i64 k] w fun e w' => e = .returned (.int .i64 (l.getD k 0 : Nat)) ∧ w = w' := by
  by_cases hk : k < n
  · exact ref2_digit_in A n c k l B w hA hk hn
  · have e : l.getD k 0 = 0 := by rw [List.getD_eq_getElem?_getD, List.getElem?_eq_none (by have := hA.len_; omega)]; rfl
    rw [e]
    exact ref2_digit_out A n c k w (.inr (by omega))
end Go.Proofs.Ytonjhcmppiioeaa
