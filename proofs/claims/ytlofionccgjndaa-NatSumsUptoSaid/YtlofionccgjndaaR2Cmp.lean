/-
  The contract of the reference's Cmp (actuaryref02). Conditions: slices that hold a number's digits; lengths up to 2 to the 38.
-/
import Derived.Test.YtlofionccgjndaaRows
import Derived.Test.YtlofionccgjndaaNat0
import Derived.WalkKit
import Derived.Lib.Hide
import Derived.Outline
import Derived.Deep.QuietTactic
import Derived.BigQuiet
import Derived.LoopTactic
import Derived.Deep.LoopGhost
import Derived.Deep.DeepCutAuto
import Derived.Deep.CutBlock
namespace Go.Proofs.Ytlofionccgjndaa
open Go Go.RowKit
set_option maxRecDepth 100000
set_option linter.unusedVariables false
set_option maxHeartbeats 2000000 in
theorem ref2_cmp (x y : Nat) (A D : Option Addr) (n m c d : Nat) (w : World) (hA : Holds16 w x A n c) (hD : Holds16 w y D m d) (hn : n ≤ 1099511627776) (hm : m ≤ 1099511627776) :
    Calls Try.prog 11 #[.slice A n c, .slice D m d] w fun e w' => e = .returned (.int .i64 (cmpI x y)) ∧ ∃ q, w' = w.drewN q := by
  have hln := hA.len
  have hlm := hD.len
  obtain ⟨hA, _, _⟩ := hA
  obtain ⟨hD, _, _⟩ := hD
  by_cases hlt : n < m
  · have C := Lib.hid (cmpI_lt (len_lt (b := 65536) (by decide) (x := x) (y := y) (by omega)))
    clear hln hlm
    go_enter Try.func11, Try.ntmps11
    go_wp2
    go_ret
    exact ⟨by rw [C.out]; rfl, 0, rfl⟩
  by_cases hgt : m < n
  · have C := Lib.hid (cmpI_gt (len_lt (b := 65536) (by decide) (x := y) (y := x) (by omega)))
    clear hln hlm
    go_enter Try.func11, Try.ntmps11
    go_wp2
    go_ret
    exact ⟨by rw [C.out]; rfl, 0, rfl⟩
  have hnm : m = n := by omega
  subst hnm
  have H0 : Hid (x / 65536 ^ m = y / 65536 ^ m) := by
    show _ = _
    rw [Nat.div_eq_of_lt (by rw [hln]; exact dg_lt (by decide) x), Nat.div_eq_of_lt (by rw [hlm]; exact dg_lt (by decide) y)]
  clear hln hlm hlt hgt
  go_enter Try.func11, Try.ntmps11
  go_wp2
  go_loopg [5] (m + 1) (fun g i wr => ∃ (k q : Nat), k ≤ m ∧ i = .int .i64 ((k : Int) - 1) ∧ Hid (x / 65536 ^ k = y / 65536 ^ k) ∧ k < g ∧ wr = w.drewN q)
  case atStart => exact ⟨m, 0, Nat.le_refl _, rfl, H0, Nat.lt_succ_self _, rfl⟩
  case round =>
    obtain ⟨k, q, hk, rfl, H, hg, rfl⟩ := hrel
    by_cases hk0 : k = 0
    · subst hk0
      have C := Lib.hid (cmpI_eq (x := x) (y := y) (by have := H.out; simpa using this))
      go_wp2
      go_ret
      exact ⟨by rw [C.out]; rfl, q, rfl⟩
    · obtain ⟨j, rfl⟩ : ∃ j, k = j + 1 := ⟨k - 1, by omega⟩
      obtain ⟨ad, rfl, hadb, h1⟩ := val_at hA (k := j) (by omega)
      obtain ⟨ae, rfl, haeb, h2⟩ := val_at hD (k := j) (by omega)
      rw [dig16] at h1 h2
      have L1 := Lib.hid (fun h => cmp_lt (b := 65536) H.out h)
      have L2 := Lib.hid (fun h => cmp_lt (b := 65536) H.out.symm h)
      have L3 := Lib.hid (fun h => cmp_eq (b := 65536) H.out h)
      obtain ⟨p, hp⟩ : ∃ p, x / 65536 ^ j % 65536 = p := ⟨_, rfl⟩
      obtain ⟨r, hr⟩ : ∃ p, y / 65536 ^ j % 65536 = p := ⟨_, rfl⟩
      rw [hp, hr] at L1 L2 L3
      rw [hp] at h1
      rw [hr] at h2
      clear hp hr
      rcases Nat.lt_trichotomy p r with h | h | h
      · have C := Lib.hid (cmpI_lt (L1.out h))
        have e1 : decide ((p : Int) < r) = true := by simpa using h
        go_wp2
        go_quiet (fail)
        go_wp2
        go_ret
        exact ⟨by rw [C.out]; rfl, by simp only [World.drewN_drewN]; exact ⟨_, rfl⟩⟩
      · have M := Lib.hid (L3.out h)
        subst h
        clear L1 L2 L3
        go_wp2
        go_quiet (fail)
        go_wp2
        go_quiet (fail)
        go_wp2
        go_roundg (j + 1)
        case measure => omega
        case rel => exact ⟨j, _, by omega, by go_num, M, by omega, rfl⟩
      · have C := Lib.hid (cmpI_gt (L2.out h))
        have e1 : decide ((p : Int) < r) = false := by simp; omega
        have e2 : decide ((r : Int) < p) = true := by simpa using h
        go_wp2
        go_quiet (fail)
        go_wp2
        go_quiet (fail)
        go_wp2
        go_ret
        exact ⟨by rw [C.out]; rfl, by simp only [World.drewN_drewN]; exact ⟨_, rfl⟩⟩
end Go.Proofs.Ytlofionccgjndaa
