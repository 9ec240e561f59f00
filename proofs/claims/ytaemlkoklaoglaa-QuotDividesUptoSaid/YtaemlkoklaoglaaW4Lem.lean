/-
  Small facts for the law QuotDivides. Conditions: the words that came in are words, at most 1048576 of each; quot's functions do as QuotC says.
-/
import Derived.Test.YtaemlkoklaoglaaRows
import Derived.Test.YtaemlkoklaoglaaNNums
import Derived.Test.YtaemlkoklaoglaaW4Awake
import Derived.Test.YtaemlkoklaoglaaBunP
import Derived.Test.YtaemlkoklaoglaaR4Div
import Derived.WalkKit
import Derived.Lib.Hide
import Derived.Outline
import Derived.Deep.RegionHeld3
import Derived.IntWalk
import Derived.Deep.DeepCutAuto
import Derived.Deep.CutBlock
namespace Go.Proofs.Ytaemlkoklaoglaa
open Go Go.RowKit
set_option maxRecDepth 100000
set_option linter.unusedVariables false
set_option linter.unusedSimpArgs false
theorem len16_zero {w : World} {x : Nat} {A : Option Addr} {n c : Nat} (h : Holds16 w x A n c) (hx : x = 0) : n = 0 := by rw [h.len, hx]; rfl
theorem len16_pos {w : World} {x : Nat} {A : Option Addr} {n c : Nat} (h : Holds16 w x A n c) (hx : x ≠ 0) : 0 < n := by
  have h1 := dg_lt (b := 65536) (by decide) x
  rw [← h.len] at h1
  rcases Nat.eq_zero_or_pos n with h0 | h0
  · rw [h0] at h1; exact absurd (by simpa using h1) hx
  · exact h0
theorem dvdB_zy {x y : Nat} (hy : y = 0) (hx : x = 0) : dvdB y x = true := by rw [hy, hx]; rfl
theorem dvdB_zn {x y : Nat} (hy : y = 0) (hx : x ≠ 0) : dvdB y x = false := by rw [hy, dvdB_zero]; simpa using hx
theorem dvdB_y {x y : Nat} (h : x % y = 0) : dvdB y x = true := by unfold dvdB; simpa using h
theorem dvdB_n {x y : Nat} (h : x % y ≠ 0) : dvdB y x = false := by unfold dvdB; simpa using h
end Go.Proofs.Ytaemlkoklaoglaa
