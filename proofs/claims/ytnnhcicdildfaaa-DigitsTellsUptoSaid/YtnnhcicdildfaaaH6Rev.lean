/-
  The contract of slices.Reverse of bytes. Conditions: a row of the call's own that is not empty.
-/
import Derived.Test.YtnnhcicdildfaaaRows
import Derived.Test.YtnnhcicdildfaaaH6Small
import Derived.Test.YtnnhcicdildfaaaBunE
import Derived.Test.YtnnhcicdildfaaaBunQ
import Derived.WalkKit
import Derived.Lib.Hide
import Derived.Outline
import Derived.LoopTactic
import Derived.Deep.LoopGhost
import Derived.IntWalk
import Derived.RegionTactic
namespace Go.Proofs.Ytnnhcicdildfaaa
open Go Go.RowKit
set_option maxRecDepth 100000
set_option linter.unusedVariables false
set_option linter.unusedSimpArgs false
theorem getD_set (l : List Nat) (i k a : Nat) : (l.set i a).getD k 0 = if i = k ∧ k < l.length then a else l.getD k 0 := by
  simp only [List.getD_eq_getElem?_getD, List.getElem?_set]
  by_cases h : i = k
  · subst h
    by_cases h2 : i < l.length
    · simp [h2]
    · simp [h2]
  · simp [h]
/-- A row, behind i exchanges. -/
def RevAt (L : List Nat) (i : Nat) (M : List Nat) : Prop := M.length = L.length ∧ ∀ j, j < L.length → M.getD j 0 = if j < i ∨ L.length ≤ j + i then L.getD (L.length - 1 - j) 0 else L.getD j 0
theorem RevAt.start (L : List Nat) : RevAt L 0 L := ⟨rfl, fun j hj => by rw [if_neg (by omega)]⟩
theorem RevAt.step {L M : List Nat} {i j : Nat} (h : RevAt L i M) (hij : i + j + 1 = L.length) (hlt : i < j) : RevAt L (i + 1) ((M.set i (M.getD j 0)).set j (M.getD i 0)) := by
  obtain ⟨h1, h2⟩ := h
  refine ⟨by simpa using h1, fun k hk => ?_⟩
  rw [getD_set, getD_set, List.length_set, h1]
  by_cases hkj : j = k
  · subst hkj
    rw [if_pos ⟨rfl, hk⟩, if_pos (by omega), h2 i (by omega), if_neg (by omega)]
    congr 1; omega
  · rw [if_neg (by omega)]
    by_cases hki : i = k
    · subst hki
      rw [if_pos ⟨rfl, hk⟩, if_pos (by omega), h2 j (by omega), if_neg (by omega)]
      congr 1; omega
    · rw [if_neg (by omega), h2 k hk]
      by_cases hc : k < i ∨ L.length ≤ k + i
      · rw [if_pos hc, if_pos (by omega)]
      · rw [if_neg hc, if_neg (by omega)]
theorem RevAt.done {L M : List Nat} {i j : Nat} (h : RevAt L i M) (hij : i + j + 1 = L.length) (hle : j ≤ i) : M = L.reverse := by
  obtain ⟨h1, h2⟩ := h
  refine List.ext_getElem (by simpa using h1) fun k hk hk2 => ?_
  have h3 := h2 k (by omega)
  rw [List.getD_eq_getElem?_getD, List.getElem?_eq_getElem hk] at h3
  rw [List.getElem_reverse]
  have e1 : L[L.length - 1 - k]'(by omega) = L.getD (L.length - 1 - k) 0 := by rw [List.getD_eq_getElem?_getD, List.getElem?_eq_getElem (by omega)]; rfl
  rw [e1]
  refine Eq.trans h3 ?_
  by_cases hc : k < i ∨ L.length ≤ k + i
  · rw [if_pos hc]
  · rw [if_neg hc]
    congr 1; omega
theorem row8_set2 {w : World} {ty : TypeId} {g cap n : Nat} {M : List Nat} (h : Row8 w ty g cap n M) (i j a b : Nat) (hi : i < n) (hj : j < n) : Row8 ((w.setCell ⟨g, i, none⟩ (.int .u8 (a : Int))).setCell ⟨g, j, none⟩ (.int .u8 (b : Int))) ty g cap n ((M.set i a).set j b) := (h.set_ i a hi).set_ j b hj
theorem Off.drew {g : Nat} {w w' : World} (h : Off g w w') : Off g w w'.drew := ⟨h.os, h.tape, h.output, h.size, h.block⟩
/-- What Reverse leaves. -/
def Turned (w : World) (ty : TypeId) (g cap n : Nat) (L : List Nat) (e : Ending) (w' : World) : Prop := (∃ v, e = .returned v) ∧ Row8 w' ty g cap n L.reverse ∧ Off g w w'
set_option maxHeartbeats 4000000 in
theorem slices_reverse (ty : TypeId) (g cap n c : Nat) (L : List Nat) (w : World) (hR : Row8 w ty g cap n L) (h0 : 0 < n) (hn : n ≤ 1099511627776) (hc : n ≤ c) (hc' : c ≤ 9223372036854775807) :
    Calls Try.prog 35 #[.slice (some ⟨g, 0, none⟩) n c] w (Turned w ty g cap n L) := by
  have hO := Off.refl g w
  have HL := Lib.hid hR.len
  have HS := Lib.hid (RevAt.start L)
  go_enter Try.func35, Try.ntmps35
  go_wp2
  go_loopg [2, 3] n (fun gg a b wr => ∃ (i j : Nat) (M : List Nat), i + j + 1 = n ∧ n ≤ gg + i ∧ a = .int .i64 i ∧ b = .int .i64 j ∧ Hid (RevAt L i M) ∧ Row8 wr ty g cap n M ∧ Off g w wr)
  case atStart => exact ⟨0, n - 1, L, by omega, by omega, rfl, by rw [Int.natCast_sub h0]; rfl, HS, hR, hO⟩
  case round =>
    clear hR hO
    obtain ⟨i, j, M, hij, hg, rfl, rfl, HM, hR, hO⟩ := hrel
    by_cases hlt : i < j
    · have HST := Lib.hid (HM.out.step (j := j) (by rw [HL.out]; exact hij) hlt)
      have k1 := hR.cell i (by omega)
      have k2 := hR.cell j (by omega)
      have f1 := hR.frozen i
      have f2 := hR.frozen j
      obtain ⟨a, ha⟩ : ∃ b, M.getD i 0 = b := ⟨_, rfl⟩
      obtain ⟨b, hb⟩ : ∃ b, M.getD j 0 = b := ⟨_, rfl⟩
      rw [ha] at k1 HST
      rw [hb] at k2 HST
      have k3 : (wr.setCell ⟨g, i, none⟩ (.int .u8 (b : Int))).cell? ⟨g, j, none⟩ = some (.int .u8 (b : Int)) := (World.cell?_setCell_other wr _ _ _ (fun e => by injection e; omega)).trans k2
      have HR2 := Lib.hid (row8_set2 hR i j b a (by omega) (by omega))
      have HO2 := Lib.hid ((hO.set_ i (.int .u8 (b : Int))).set_ j (.int .u8 (a : Int)))
      have i1 : (0 : Int) ≤ (i : Int) := by omega
      have i2 : (i : Int) < (n : Int) := by omega
      have i3 : (0 : Int) ≤ (j : Int) := by omega
      have i4 : (j : Int) < (n : Int) := by omega
      have i5 : (1 : Int) ≤ (j : Int) := by omega
      clear ha hb HM hR hO
      go_wp2_with fail
      go_region
      go_wp2
      go_roundg (n - (i + 1))
      case measure => omega
      case rel => exact ⟨i + 1, j - 1, _, by omega, by omega, by go_num, by (try rw [Int.natCast_sub (by omega)]); first | rfl | simp, HST, HR2.out.drew, HO2.out.drew⟩
    · have HE := Lib.hid (HM.out.done (j := j) (by rw [HL.out]; exact hij) (by omega))
      have i4 : (j : Int) ≤ (i : Int) := by omega
      clear HM
      go_wp2
      go_end0
      exact ⟨⟨_, rfl⟩, by rw [← HE.out]; exact hR, hO⟩
end Go.Proofs.Ytnnhcicdildfaaa
