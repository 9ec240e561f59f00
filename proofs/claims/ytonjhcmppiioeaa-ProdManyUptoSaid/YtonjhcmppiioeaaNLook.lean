/-
  The contracts of what only looks at a number: nat.Nat's Len, Word, Zero. Conditions: the value is a number.
-/
import Derived.Test.YtonjhcmppiioeaaRows
import Derived.Test.YtonjhcmppiioeaaNatIs
import Derived.WalkKit
import Derived.Lib.Hide
import Derived.Outline
namespace Go.Proofs.Ytonjhcmppiioeaa
open Go Go.RowKit
set_option maxRecDepth 100000
set_option linter.unusedVariables false
/-- What a number's value is: a slice that reads as the words. -/
def WordsIn (w : World) (x : Nat) (A : Option Addr) (n c : Nat) : Prop := Reads w w.heap.size 1 A n (vals .u64 (dg 18446744073709551616 x)) ∧ n ≤ c ∧ c ≤ 9223372036854775807
theorem WordsIn.len {w : World} {x : Nat} {A : Option Addr} {n c : Nat} (h : WordsIn w x A n c) : (dg 18446744073709551616 x).length = n := h.1.len_
theorem WordsIn.below {w w' : World} {x : Nat} {A : Option Addr} {n c : Nat} (h : WordsIn w x A n c) (hb : Below w.heap.size w w') : WordsIn w' x A n c :=
  ⟨(h.1.below hb).more hb.size, h.2⟩
theorem WordsIn.drewN {w : World} {x : Nat} {A : Option Addr} {n c : Nat} (h : WordsIn w x A n c) (k : Nat) : WordsIn (w.drewN k) x A n c := h
theorem WordsIn.nat {w : World} {x : Nat} {A : Option Addr} {n c : Nat} (h : WordsIn w x A n c) : NatIs w x (.agg #[.slice A n c]) := ⟨A, n, c, rfl, h⟩
theorem NatIs.words {w : World} {x : Nat} {v : Value} (h : NatIs w x v) : ∃ (A : Option Addr) (n c : Nat), v = .agg #[.slice A n c] ∧ WordsIn w x A n c := h
theorem keep_cell {w w' : World} {p : Addr} {v : Value} (hb : Below w.heap.size w w') (h : w.cell? p = some v) : w'.cell? p = some v := (hb.cell (World.block_lt_of_cell? w p h)).trans h
theorem keep_below {w w1 w' : World} (h : Below w.heap.size w w1) (hb : Below w1.heap.size w1 w') : Below w.heap.size w w' := h.trans (hb.mono h.size)
/-- Word k of a number. -/
def wd (x k : Nat) : Nat := x / 18446744073709551616 ^ k % 18446744073709551616
theorem wd_lt (x k : Nat) : wd x k < 18446744073709551616 := Nat.mod_lt _ (by decide)
theorem wd_get (x k : Nat) : (dg 18446744073709551616 x).getD k 0 = wd x k := by rw [dv_getD (by decide) (dg_dgs (by decide) x), dv_dg (by decide)]; rfl
theorem wd_above (x k : Nat) (h : (dg 18446744073709551616 x).length ≤ k) : wd x k = 0 := by
  rw [← wd_get, List.getD_eq_getElem?_getD, List.getElem?_eq_none h]; rfl
theorem nat_len (x : Nat) (A : Option Addr) (n c : Nat) (w : World) : Calls Try.prog 30 #[.agg #[.slice A n c]] w fun e w' => e = .returned (.int .i64 n) ∧ Below w.heap.size w w' := by
  go_enter Try.func30, Try.ntmps30
  go_wp2
  go_ret
  exact ⟨rfl, (Below.refl _ _).alloc (Nat.le_refl _) _⟩
theorem nat_zero (A : Option Addr) (n c : Nat) (w : World) : Calls Try.prog 20 #[.agg #[.slice A n c]] w fun e w' => e = .returned (.bool (decide (n = 0))) ∧ Below w.heap.size w w' := by
  have e : ((n : Int) == 0) = decide (n = 0) := by rw [Bool.eq_iff_iff]; simp
  have E := Lib.hid e
  clear e
  go_enter Try.func20, Try.ntmps20
  go_wp2
  go_ret
  exact ⟨by rw [E.out]; rfl, (Below.refl _ _).alloc (Nat.le_refl _) _⟩
theorem nat_word_out (A : Option Addr) (n c : Nat) (k : Int) (w : World) (hk : k < 0 ∨ (n : Int) ≤ k) : Calls Try.prog 31 #[.agg #[.slice A n c], .int .i64 k] w fun e w' => e = .returned (.int .u64 0) ∧ Below w.heap.size w w' := by
  by_cases h0 : k < 0
  · clear hk
    go_enter Try.func31, Try.ntmps31
    go_wp2
    go_ret
    exact ⟨rfl, (Below.refl _ _).alloc (Nat.le_refl _) _⟩
  · have h1 : (n : Int) ≤ k := by omega
    clear hk
    go_enter Try.func31, Try.ntmps31
    go_wp2
    go_ret
    exact ⟨rfl, (Below.refl _ _).alloc (Nat.le_refl _) _⟩
theorem nat_word (x : Nat) (A : Option Addr) (n c k : Nat) (w : World) (h : WordsIn w x A n c) : Calls Try.prog 31 #[.agg #[.slice A n c], .int .i64 k] w fun e w' => e = .returned (.int .u64 (wd x k : Nat)) ∧ Below w.heap.size w w' := by
  by_cases hk : k < n
  · obtain ⟨hr, h1, h2⟩ := h
    obtain ⟨ad, rfl, hadb, hc⟩ := val_at hr hk
    rw [wd_get] at hc
    obtain ⟨d, hd⟩ : ∃ d, wd x k = d := ⟨_, rfl⟩
    rw [hd] at hc ⊢
    have hc' : ∀ o, (w.alloc o).cell? (ad.add k) = some (.int .u64 d) := fun o => (World.cell?_alloc_lt w o _ (by rw [block_of_add]; exact hadb)).trans hc
    clear hd hr
    go_enter Try.func31, Try.ntmps31
    go_wp2
    go_ret
    exact ⟨rfl, (Below.refl _ _).alloc (Nat.le_refl _) _⟩
  · rw [wd_above x k (by rw [h.len]; omega)]
    exact nat_word_out A n c k w (.inr (by omega))
end Go.Proofs.Ytonjhcmppiioeaa
