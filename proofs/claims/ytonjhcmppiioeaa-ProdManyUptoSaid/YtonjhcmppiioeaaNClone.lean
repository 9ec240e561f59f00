/-
  The contract of slices.Clone of words: the same words in new memory. Conditions: the words read; their length is up to 2 to the 40.
-/
import Derived.Test.YtonjhcmppiioeaaRows
import Derived.Test.YtonjhcmppiioeaaNatIs
import Derived.Test.YtonjhcmppiioeaaTI
import Derived.WalkKit
import Derived.Lib.Hide
import Derived.Outline
import Derived.Lib.SliceRun
namespace Go.Proofs.Ytonjhcmppiioeaa
open Go Go.RowKit
set_option maxRecDepth 100000
set_option linter.unusedVariables false
theorem gives_none (w : World) (l : List Nat) (hl : l = []) : Gives w 0 (vals .u64 l) (.returned (.slice none 0 0)) w := by
  subst hl
  exact ⟨none, 0, rfl, Reads.none_, Nat.le_refl _, ⟨by omega, by intro ad e; cases e⟩, Below.refl _ _⟩
/-- Words in a row of the call's own. -/
def GivesOwn (w : World) (n : Nat) (xs : List Value) (e : Ending) (w' : World) : Prop := ∃ v, e = .returned v ∧ w'.ownsRow w.heap.size 23 1 v n xs ∧ Below w.heap.size w w'
set_option maxHeartbeats 1000000 in
theorem nat_clone_own (ad : Addr) (n c : Nat) (l : List Nat) (w : World) (hA : Reads w w.heap.size 1 (some ad) n (vals .u64 l)) (hn : n ≤ 1099511627776) :
    Calls Try.prog 33 #[.slice (some ad) n c] w (GivesOwn w n (vals .u64 l)) := by
  obtain ⟨i0, hi0, hz0, hz1, hz2⟩ := info_parts infoU
  have q : ∀ (w : World) (a : Option Addr) (n c n' c' : Nat), (binOp .eql 22 (.slice a n c) (.slice none n' c')).run Try.prog w = .ok (.bool a.isNone) w := fun w a n c n' c' => Lib.run_eql_slice_nil w _ _ a n c n' c' Try.underlying22
  have hA1 : ∀ o, Reads (w.alloc o) w.heap.size 1 (some ad) n (vals .u64 l) := fun o => hA.alloc (Nat.le_refl _) o
  go_enter Try.func33, Try.ntmps33
  go_wp2_with (at_builtin; refine wpList_append_any _ rfl (.tmp 5) (.tmp 6) 22 rfl w.heap.size 23 i0 (.int .u64 0) 1 8 Try.underlying22 hi0 hz0 hz1 hz2 rfl (by decide) (.slice (some ⟨w.heap.size, 0, none⟩) 0 0) 0 [] rfl (World.ownsRow_made w #[] 0 (Nat.le_refl _) (Nat.zero_le _) rfl) _ (some ad) n c (vals .u64 l) rfl (hA1 _) (vals_one _ _) (by unfold maxLen; omega) (by omega) (by simp) ?_; intro v' w1 hown' hgrow hat)
  have hb' : Below w.heap.size w w1 := ((Below.refl _ w).alloc (Nat.le_refl _) _).grown hgrow (by simp) (fun g hg => by simp [Value.ownBlock] at hg; omega)
  have G : Hid (GivesOwn w n (vals .u64 l) (.returned v') w1) := ⟨v', rfl, by simpa using hown', hb'⟩
  clear hown' hgrow hat hb'
  go_wp2
  go_ret
  exact G.out
theorem nat_clone_nil (c : Nat) (w : World) : Calls Try.prog 33 #[.slice none 0 c] w fun e w' => e = .returned (.slice none 0 0) ∧ w = w' := by
  have q : ∀ (w : World) (a : Option Addr) (n c n' c' : Nat), (binOp .eql 22 (.slice a n c) (.slice none n' c')).run Try.prog w = .ok (.bool a.isNone) w := fun w a n c n' c' => Lib.run_eql_slice_nil w _ _ a n c n' c' Try.underlying22
  go_enter Try.func33, Try.ntmps33
  go_wp2
  go_ret
  exact ⟨rfl, rfl⟩
theorem nat_clone (A : Option Addr) (n c : Nat) (l : List Nat) (w : World) (hA : Reads w w.heap.size 1 A n (vals .u64 l)) (hn : n ≤ 1099511627776) :
    Calls Try.prog 33 #[.slice A n c] w (Gives w n (vals .u64 l)) := by
  rcases A with _ | ad
  · have q : ∀ (w : World) (a : Option Addr) (n c n' c' : Nat), (binOp .eql 22 (.slice a n c) (.slice none n' c')).run Try.prog w = .ok (.bool a.isNone) w := fun w a n c n' c' => Lib.run_eql_slice_nil w _ _ a n c n' c' Try.underlying22
    have hn0 : n = 0 := by
      rcases Nat.eq_zero_or_pos n with h | h
      · exact h
      · obtain ⟨ad, e, _⟩ := hA.2 h
        cases e
    subst hn0
    have G := Lib.hid (gives_none w l (List.eq_nil_of_length_eq_zero hA.len_))
    go_enter Try.func33, Try.ntmps33
    go_wp2
    go_ret
    exact G.out
  · exact (nat_clone_own ad n c l w hA hn).mono fun e w' ⟨v, he, ho, hb⟩ => by rw [he]; exact gives_of_own ho hb
end Go.Proofs.Ytonjhcmppiioeaa
