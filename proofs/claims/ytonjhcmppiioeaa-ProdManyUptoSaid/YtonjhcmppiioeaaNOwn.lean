/-
  The contract of nat.Nat's Words with the row that it hands out: one of the call's own. Conditions: the value is a number; its length is up to 2 to the 40.
-/
import Derived.Test.YtonjhcmppiioeaaRows
import Derived.Test.YtonjhcmppiioeaaNOf
import Derived.WalkKit
import Derived.Lib.Hide
import Derived.Outline
namespace Go.Proofs.Ytonjhcmppiioeaa
open Go Go.RowKit
set_option maxRecDepth 100000
set_option linter.unusedVariables false
/-- Words, in a row of the call's own. -/
theorem nat_words_own (x : Nat) (A : Option Addr) (n c : Nat) (w : World) (h : WordsIn w x A n c) (hn : n ≤ 1099511627776) :
    Calls Try.prog 29 #[.agg #[.slice A n c]] w (GivesOwn w n (vals .u64 (dg 18446744073709551616 x))) := by
  obtain ⟨hr, h1, h2⟩ := h
  have hlen := hr.len_
  have C : ∀ o, Calls Try.prog 33 #[.slice A n c] (w.alloc o) (GivesOwn w n (vals .u64 (dg 18446744073709551616 x))) := fun o => by
    have hro := ((hr.alloc (Nat.le_refl _) o).more (B' := (w.alloc o).heap.size) (by simp))
    rcases A with _ | ad
    · have hn0 : n = 0 := by
        rcases Nat.eq_zero_or_pos n with h | h
        · exact h
        · obtain ⟨ad, e, _⟩ := hr.2 h
          cases e
      subst hn0
      have hl : vals .u64 (dg 18446744073709551616 x) = [] := by rw [List.eq_nil_of_length_eq_zero hlen]; rfl
      rw [hl]
      exact (nat_clone_nil c _).mono fun e w' ⟨he, hw⟩ => ⟨_, he, World.ownsRow_nil _ _ _ _, by rw [← hw]; exact (Below.refl _ w).alloc (Nat.le_refl _) o⟩
    · refine (nat_clone_own ad n c _ (w.alloc o) hro hn).mono fun e w' ⟨v, he, ho, hb⟩ => ?_
      refine ⟨v, he, ⟨ho.1, ?_⟩, ((Below.refl _ w).alloc (Nat.le_refl _) o).trans (hb.mono (by simp))⟩
      rcases ho.2 with h | ⟨g, cap, cur, e1, e2, e3⟩
      · exact .inl h
      · exact .inr ⟨g, cap, cur, e1, Nat.le_trans (by simp) e2, e3⟩
  obtain ⟨L, hL⟩ : ∃ L, vals .u64 (dg 18446744073709551616 x) = L := ⟨_, rfl⟩
  rw [hL] at C ⊢
  have HC := Lib.hid C
  clear C hr hlen hL
  go_enter Try.func29, Try.ntmps29
  go_wp2_with fail
  refine (HC.out _).mono ?_
  intro e w1 hg
  have G := Lib.hid hg
  obtain ⟨v, rfl, _, _⟩ := hg
  go_wp2
  go_ret
  exact G.out
end Go.Proofs.Ytonjhcmppiioeaa
