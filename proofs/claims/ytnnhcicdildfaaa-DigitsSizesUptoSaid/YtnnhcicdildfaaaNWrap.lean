/-
  The contracts of nat's Zero, Cmp, Sub and others where the answer is known. Conditions: as each says.
-/
import Derived.Test.YtnnhcicdildfaaaRows
import Derived.Test.YtnnhcicdildfaaaBunV
import Derived.Test.YtnnhcicdildfaaaNPost
import Derived.Test.YtnnhcicdildfaaaNBits
import Derived.WalkKit
import Derived.Lib.Hide
import Derived.Outline
namespace Go.Proofs.Ytnnhcicdildfaaa
open Go Go.RowKit
set_option linter.unusedVariables false
theorem zero_yes {x : Nat} (h : x = 0) {w : World} {A : Option Addr} {n c : Nat} (hA : WordsIn w x A n c) : Calls Try.prog 24 #[.agg #[.slice A n c]] w fun e w' => e = .returned (.bool true) ∧ Below w.heap.size w w' := by
  subst h
  obtain rfl : n = 0 := len_of hA (dg_zero _)
  exact nat_zero_yes A c w
theorem zero_no {x : Nat} (h : x ≠ 0) {w : World} {A : Option Addr} {n c : Nat} (hA : WordsIn w x A n c) : Calls Try.prog 24 #[.agg #[.slice A n c]] w fun e w' => e = .returned (.bool false) ∧ Below w.heap.size w w' :=
  nat_zero_no A n c (fun h0 => h (len_zero (by rw [hA.len]; exact h0))) w
theorem cmpLt {x y : Nat} (h : x < y) {w : World} {A D : Option Addr} {n m c d : Nat} (hA : WordsIn w x A n c) (hD : WordsIn w y D m d) (hn : n ≤ 1099511627776) (hm : m ≤ 1099511627776) :
    Calls Try.prog 23 #[.agg #[.slice A n c], .agg #[.slice D m d]] w (SaysI w (-1)) := by
  have := nat_cmp x y A D n m c d w hA hD hn hm
  rwa [cmpI_lt h] at this
theorem cmpGt {x y : Nat} (h : y < x) {w : World} {A D : Option Addr} {n m c d : Nat} (hA : WordsIn w x A n c) (hD : WordsIn w y D m d) (hn : n ≤ 1099511627776) (hm : m ≤ 1099511627776) :
    Calls Try.prog 23 #[.agg #[.slice A n c], .agg #[.slice D m d]] w (SaysI w 1) := by
  have := nat_cmp x y A D n m c d w hA hD hn hm
  rwa [cmpI_gt h] at this
theorem cmpEq {x y : Nat} (h : x = y) {w : World} {A D : Option Addr} {n m c d : Nat} (hA : WordsIn w x A n c) (hD : WordsIn w y D m d) (hn : n ≤ 1099511627776) (hm : m ≤ 1099511627776) :
    Calls Try.prog 23 #[.agg #[.slice A n c], .agg #[.slice D m d]] w (SaysI w 0) := by
  have := nat_cmp x y A D n m c d w hA hD hn hm
  rwa [cmpI_eq h] at this
theorem box4 (w : World) (t s r u : TypeId) (a b c d : Array Value) : Below w.heap.size w ((((w.alloc (.cells a t)).alloc (.cells b s)).alloc (.cells c r)).alloc (.cells d u)) ∧ Blk ((((w.alloc (.cells a t)).alloc (.cells b s)).alloc (.cells c r)).alloc (.cells d u)) w.heap.size t a ∧ Blk ((((w.alloc (.cells a t)).alloc (.cells b s)).alloc (.cells c r)).alloc (.cells d u)) (w.heap.size + 1) s b ∧ Blk ((((w.alloc (.cells a t)).alloc (.cells b s)).alloc (.cells c r)).alloc (.cells d u)) (w.heap.size + 1 + 1) r c ∧ Blk ((((w.alloc (.cells a t)).alloc (.cells b s)).alloc (.cells c r)).alloc (.cells d u)) (w.heap.size + 1 + 1 + 1) u d ∧ w.heap.size + 4 ≤ ((((w.alloc (.cells a t)).alloc (.cells b s)).alloc (.cells c r)).alloc (.cells d u)).heap.size := by
  obtain ⟨h1, h2, h3, h4, h5⟩ := box3 w t s r a b c
  have h6 := Blk.new (((w.alloc (.cells a t)).alloc (.cells b s)).alloc (.cells c r)) u d
  have e : (((w.alloc (.cells a t)).alloc (.cells b s)).alloc (.cells c r)).heap.size = w.heap.size + 1 + 1 + 1 := by simp
  rw [e] at h6
  exact ⟨h1.alloc h1.size _, h2.alloc _, h3.alloc _, h4.alloc _, h6, by simp⟩
end Go.Proofs.Ytnnhcicdildfaaa
