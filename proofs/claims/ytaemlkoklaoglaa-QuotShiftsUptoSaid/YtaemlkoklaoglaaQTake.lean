/-
  The contracts of quot's subtract, addBack and takeOut: a divisor out of a piece of a row, as often as it goes in. Conditions: the row is the call's own; the divisor's words lie in another, earlier block; its highest bit is a 1; the piece without its lowest word is below it.
-/
import Derived.Test.YtaemlkoklaoglaaRows
import Derived.Test.YtaemlkoklaoglaaQGuess
import Derived.Test.YtaemlkoklaoglaaPMul
import Derived.Test.YtaemlkoklaoglaaBunW
import Derived.WalkKit
import Derived.Lib.Hide
import Derived.Outline
import Derived.LoopTactic
import Derived.Deep.LoopGhost
import Derived.IntWalk
import Derived.Maps.AppendAt
import Derived.RangeFuncBox
namespace Go.Proofs.Ytaemlkoklaoglaa
open Go Go.RowKit
set_option maxRecDepth 100000
set_option linter.unusedVariables false
/-- Nothing that was there has turned but block g. -/
def Off (g : Nat) (w w' : World) : Prop := w.grownBy w' (some g)
section
variable {g : Nat} {w w' w2 : World}
theorem Off.refl (g : Nat) (w : World) : Off g w w := ⟨rfl, rfl, rfl, Nat.le_refl _, fun _ _ _ => rfl⟩
theorem Off.trans (h : Off g w w') (k : Off g w' w2) : Off g w w2 :=
  ⟨k.os.trans h.os, k.tape.trans h.tape, k.output.trans h.output, Nat.le_trans h.size k.size, fun i hi hne => (k.block i (Nat.lt_of_lt_of_le hi h.size) hne).trans (h.block i hi hne)⟩
theorem Off.set_ (h : Off g w w') (k : Nat) (u : Value) : Off g w (w'.setCell ⟨g, k, none⟩ u) :=
  h.trans ⟨rfl, rfl, rfl, by simp [World.setCell], fun i _ hne => Below.heap_setCell _ _ _ i (fun e => hne (by rw [e]))⟩
theorem Off.drewN (h : Off g w w') (n : Nat) : Off g w (w'.drewN n) := ⟨h.os, h.tape, h.output, h.size, h.block⟩
theorem Off.blk {b : Nat} {t : TypeId} {cs : Array Value} (h : Off g w w') (hb : Blk w b t cs) (hne : b ≠ g) : Blk w' b t cs := hb.grown h (fun e => hne (by injection e))
theorem Off.reads {n : Nat} {A : Option Addr} {xs : List Value} (h : Off g w w') (hr : Reads w g 1 A n xs) (hg : g ≤ w.heap.size) : Reads w' g 1 A n xs := hr.grown h hg (fun _ e => by cases e; exact Nat.le_refl _)
theorem Off.below {B : Nat} {w0 : World} (h : Off g w w') (hb : Below B w0 w) (hB : B ≤ w.heap.size) (hg : B ≤ g) : Below B w0 w' := hb.grown h hB (fun _ e => by cases e; exact hg)
theorem Off.cell {p : Addr} {v : Value} (h : Off g w w') (hc : w.cell? p = some v) (hne : p.block ≠ g) : w'.cell? p = some v := World.grownBy.cell h hc (fun e => hne (by injection e))
end
theorem mid_get {A p C : List Nat} {k j : Nat} (hA : A.length = k) (hj : j < p.length) : (A ++ p ++ C).getD (k + j) 0 = p.getD j 0 := by
  simp only [List.getD_eq_getElem?_getD]
  rw [List.append_assoc, List.getElem?_append_right (by omega), List.getElem?_append_left (by omega), hA, Nat.add_sub_cancel_left]
theorem mid_set {A p C : List Nat} {k j d : Nat} (hA : A.length = k) (hj : j < p.length) : (A ++ p ++ C).set (k + j) d = A ++ p.set j d ++ C := by
  rw [List.append_assoc, List.set_append_right _ _ (by omega), hA, Nat.add_sub_cancel_left, List.set_append_left _ _ hj, List.append_assoc]
theorem sub_calls (a b c : Nat) (ha : a < 18446744073709551616) (hb : b < 18446744073709551616) (hc : c ≤ 1) : ∃ d c' : Nat, d < 18446744073709551616 ∧ c' ≤ 1 ∧ d + b + c = a + 18446744073709551616 * c' ∧
    ∀ w : World, Calls Try.prog 50 #[.int .u64 a, .int .u64 b, .int .u64 c] w fun e w' => e = .returned (.tuple #[.int .u64 (d : Int), .int .u64 (c' : Int)]) ∧ w = w' := by
  obtain ⟨d, c', e1, e2, h1, h2, h3⟩ := sub_nat ha hb hc
  refine ⟨d, c', h1, h2, h3, fun w => ?_⟩
  have h := word_sub a b c ⟨by omega, by omega⟩ ⟨by omega, by omega⟩ ⟨by omega, by omega⟩ w
  rw [e1, e2] at h
  exact h
theorem muladd0 (p q r : Nat) (hp : p < 18446744073709551616) (hq : q < 18446744073709551616) (hr : r < 18446744073709551616) (w : World) :
    Calls Try.prog 49 #[.int .u64 p, .int .u64 q, .int .u64 r, .int .u64 0] w fun e w' => e = .returned (.tuple #[.int .u64 (((p * q + r + 0) / 18446744073709551616 : Nat) : Int), .int .u64 (((p * q + r + 0) % 18446744073709551616 : Nat) : Int)]) ∧ w = w' :=
  muladd_nat p q r 0 hp hq hr (by decide) w
/-- What subtract says and leaves. -/
def TakesR (w : World) (ty : TypeId) (g cap N m t : Nat) (A p C Ld : List Nat) (e : Ending) (w' : World) : Prop :=
  ∃ (b : Nat) (p' : List Nat), e = .returned (.bool (b == 1)) ∧ b ≤ 1 ∧ p'.length = m + 1 ∧ Dgs 18446744073709551616 p' ∧ dv 18446744073709551616 p' + t * dv 18446744073709551616 Ld = dv 18446744073709551616 p + 18446744073709551616 ^ (m + 1) * b ∧ Row64 w' ty g cap N (A ++ p' ++ C) ∧ Off g w w'
set_option maxHeartbeats 4000000 in
theorem quot_subtract (ty : TypeId) (g cap N k m c1 cd t : Nat) (ad : Addr) (A p C Ld : List Nat) (w : World) (hR : Row64 w ty g cap N (A ++ p ++ C)) (hA : A.length = k) (hp : p.length = m + 1) (hpd : Dgs 18446744073709551616 p)
    (hD : Reads w g 1 (some ad) m (vals .u64 Ld)) (hdd : Dgs 18446744073709551616 Ld) (hm2 : m ≤ 1099511627776) (hc1 : m + 1 ≤ c1) (hc : c1 ≤ 9223372036854775807) (hcd : m ≤ cd) (hcd2 : cd ≤ 9223372036854775807) (ht : t < 18446744073709551616) :
    Calls Try.prog 67 #[.slice (some ⟨g, k, none⟩) (m + 1) c1, .slice (some ad) m cd, .int .u64 t] w (TakesR w ty g cap N m t A p C Ld) := by
  have hNl := hR.len
  have hdl := hD.len_
  have HA := Lib.hid hA
  have HP := Lib.hid hp
  have HNL := Lib.hid (show k + (m + 1) ≤ N by simp at hNl; omega)
  have HDL := Lib.hid hdl
  have HDD := Lib.hid hdd
  have HI := Lib.hid (TakeB.start Ld t hpd)
  have HO := Off.refl g w
  have HPD := Lib.hid hpd
  clear hA hp hNl hdl hdd hpd
  go_enter Try.func67, Try.ntmps67
  go_wp2_with fail
  go_loopg [7, 8, 16] (m + 1) (fun gg cy bo ix wr => ∃ (i cc bb : Nat) (q : List Nat), i ≤ m ∧ m < gg + i ∧ ix = .int .i64 i ∧ cy = .int .u64 cc ∧ bo = .int .u64 bb ∧ TakeB p Ld t i q cc bb ∧ Row64 wr ty g cap N (A ++ q ++ C) ∧ Off g w wr ∧ Reads wr g 1 (some ad) m (vals .u64 Ld))
  case atStart => exact ⟨0, 0, 0, p, Nat.zero_le _, by omega, rfl, rfl, rfl, HI.out, hR, HO, hD⟩
  case round =>
    clear hR HI HO hD
    obtain ⟨i, cc, bb, q, him, hgg, rfl, rfl, rfl, hI, hR, hO, hD⟩ := hrel
    have hql := hI.len
    by_cases hlt : i < m
    · obtain ⟨ad', e, hadb, h1⟩ := val_at hD (k := i) hlt
      cases e
      have hb2 := HDD.out.getD (by decide) i
      have h2 := hR.cell (k + i) (by have := HNL.out; omega)
      rw [mid_get HA.out (by rw [hql, HP.out]; omega)] at h2
      have h3 := hR.frozen (k + i)
      have hc2 := hI.carry
      have hpv := hI.dgs.getD (by decide) i
      obtain ⟨b, hbb⟩ : ∃ b, Ld.getD i 0 = b := ⟨_, rfl⟩
      have HMA := fun w' => muladd0 b t cc (by rw [← hbb]; exact hb2) ht hc2 w'
      obtain ⟨d, b', hd1, hb1, hx, hS⟩ := sub_calls (q.getD i 0) ((b * t + cc + 0) % 18446744073709551616) bb hpv (Nat.mod_lt _ (by decide)) hI.lack
      have HST := Lib.hid (hI.step (s := Ld.getD i 0 * t + cc + 0) (d := d) (b' := b') ht HDD.out (by rw [HP.out]; omega) rfl hd1 hb1 (by rw [hbb]; exact hx))
      have hRS := hR.set_ (k + i) d (by have := HNL.out; omega)
      rw [mid_set HA.out (by rw [hql, HP.out]; omega)] at hRS
      have HRS := Lib.hid hRS
      have HOS := Lib.hid (fun u => hO.set_ (k + i) u)
      have HDS := Lib.hid (fun u => hD.setCell (p := ⟨g, k + i, none⟩) (Nat.le_refl _) u)
      rw [hbb] at h1 HST
      obtain ⟨pv, hpp⟩ : ∃ b, q.getD i 0 = b := ⟨_, rfl⟩
      rw [hpp] at h2 hS
      obtain ⟨s1, e1⟩ : ∃ s1, (b * t + cc + 0) % 18446744073709551616 = s1 := ⟨_, rfl⟩
      obtain ⟨s2, e2⟩ : ∃ s2, (b * t + cc + 0) / 18446744073709551616 = s2 := ⟨_, rfl⟩
      rw [e1, e2] at HMA
      rw [e1] at hS
      rw [e2] at HST
      have HMH := Lib.hid HMA
      have HSH := Lib.hid hS
      have i1 : (0 : Int) ≤ (i : Int) := by omega
      have i2 : (i : Int) < (m : Int) := by omega
      have i3 : (i : Int) < (m : Int) + 1 := by omega
      have i4 : i < m + 1 := by omega
      clear HMA hS hx hpp e1 e2 hbb hI hR hO hD hpv hRS hql
      go_wp2_with (first | (go_at_call 49; (with_reducible refine (HMH.out _).mono ?_); rintro e w' ⟨rfl, rfl⟩) | (go_at_call 50; (with_reducible refine (HSH.out _).mono ?_); rintro e w' ⟨rfl, rfl⟩))
      go_roundg (m - i)
      case measure => omega
      case rel => exact ⟨i + 1, s2, b', _, by omega, by omega, by go_num, rfl, rfl, HST.out, HRS.out, HOS.out _, HDS.out _⟩
    · have him2 : i = m := by omega
      subst him2
      have h2 := hR.cell (k + i) (by have := HNL.out; omega)
      rw [mid_get HA.out (by rw [hql, HP.out]; omega)] at h2
      have h3 := hR.frozen (k + i)
      have hpv := hI.dgs.getD (by decide) i
      obtain ⟨d, b', hd1, hb1, hx, hS⟩ := sub_calls (q.getD i 0) cc bb hpv hI.carry hI.lack
      have HST := Lib.hid (hI.last (d := d) (b' := b') (by rw [HP.out]) (by rw [HDL.out]) hd1 hb1 hx)
      have hRS := hR.set_ (k + i) d (by have := HNL.out; omega)
      rw [mid_set HA.out (by rw [hql, HP.out]; omega)] at hRS
      have HRS := Lib.hid hRS
      have HOS := Lib.hid (hO.set_ (k + i) (.int .u64 (d : Int)))
      obtain ⟨pv, hpp⟩ : ∃ b, q.getD i 0 = b := ⟨_, rfl⟩
      rw [hpp] at h2 hS
      have HSH := Lib.hid hS
      have i1 : (0 : Int) ≤ (i : Int) := by omega
      have i3 : (i : Int) < (i : Int) + 1 := by omega
      have i4 : i < i + 1 := by omega
      clear hS hx hpp hI hR hO hD hpv hRS hql
      have G : ∀ b'' : Bool, b'' = (b' == 1) → TakesR w ty g cap N i t A p C Ld (.returned (.bool b'')) (wr.setCell ⟨g, k + i, none⟩ (.int .u64 (d : Int))) := fun b'' hb'' => by
        obtain ⟨g1, g2, g3⟩ := HST.out
        rw [HP.out] at g1 g3
        exact ⟨b', _, by rw [hb''], hb1, g1, g2, g3, HRS.out, HOS.out⟩
      have HG := Lib.hid G
      clear G
      rcases (show b' = 0 ∨ b' = 1 by omega) with rfl | rfl
      · go_wp2_with (go_at_call 50; (with_reducible refine (HSH.out _).mono ?_); rintro e w' ⟨rfl, rfl⟩)
        go_ret
        exact HG.out _ rfl
      · go_wp2_with (go_at_call 50; (with_reducible refine (HSH.out _).mono ?_); rintro e w' ⟨rfl, rfl⟩)
        go_ret
        exact HG.out _ rfl
/-- What addBack leaves. -/
def BacksR (w : World) (ty : TypeId) (g cap N m : Nat) (A p C Ld : List Nat) (e : Ending) (w' : World) : Prop :=
  ∃ (v : Value) (p' : List Nat), e = .returned v ∧ p'.length = m + 1 ∧ Dgs 18446744073709551616 p' ∧ dv 18446744073709551616 p' = (dv 18446744073709551616 p + dv 18446744073709551616 Ld) % 18446744073709551616 ^ (m + 1) ∧ Row64 w' ty g cap N (A ++ p' ++ C) ∧ Off g w w'
set_option maxHeartbeats 4000000 in
theorem quot_addback (ty : TypeId) (g cap N k m c1 cd : Nat) (ad : Addr) (A p C Ld : List Nat) (w : World) (hR : Row64 w ty g cap N (A ++ p ++ C)) (hA : A.length = k) (hp : p.length = m + 1) (hpd : Dgs 18446744073709551616 p)
    (hD : Reads w g 1 (some ad) m (vals .u64 Ld)) (hdd : Dgs 18446744073709551616 Ld) (hm2 : m ≤ 1099511627776) (hc1 : m + 1 ≤ c1) (hc : c1 ≤ 9223372036854775807) (hcd : m ≤ cd) (hcd2 : cd ≤ 9223372036854775807) :
    Calls Try.prog 68 #[.slice (some ⟨g, k, none⟩) (m + 1) c1, .slice (some ad) m cd] w (BacksR w ty g cap N m A p C Ld) := by
  have hNl := hR.len
  have hdl := hD.len_
  have HA := Lib.hid hA
  have HP := Lib.hid hp
  have HNL := Lib.hid (show k + (m + 1) ≤ N by simp at hNl; omega)
  have HDL := Lib.hid hdl
  have HDD := Lib.hid hdd
  have HI := Lib.hid (BackB.start Ld hpd)
  have HO := Off.refl g w
  clear hA hp hNl hdl hdd hpd
  go_enter Try.func68, Try.ntmps68
  go_wp2_with fail
  go_loopg [4, 10] (m + 1) (fun gg cy ix wr => ∃ (i cc : Nat) (q : List Nat), i ≤ m ∧ m < gg + i ∧ ix = .int .i64 i ∧ cy = .int .u64 cc ∧ BackB p Ld i q cc ∧ Row64 wr ty g cap N (A ++ q ++ C) ∧ Off g w wr ∧ Reads wr g 1 (some ad) m (vals .u64 Ld))
  case atStart => exact ⟨0, 0, p, Nat.zero_le _, by omega, rfl, rfl, HI.out, hR, HO, hD⟩
  case round =>
    clear hR HI HO hD
    obtain ⟨i, cc, q, him, hgg, rfl, rfl, hI, hR, hO, hD⟩ := hrel
    have hql := hI.len
    by_cases hlt : i < m
    · obtain ⟨ad', e, hadb, h1⟩ := val_at hD (k := i) hlt
      cases e
      have hb2 := HDD.out.getD (by decide) i
      have h2 := hR.cell (k + i) (by have := HNL.out; omega)
      rw [mid_get HA.out (by rw [hql, HP.out]; omega)] at h2
      have h3 := hR.frozen (k + i)
      have hc2 := hI.carry
      have hpv := hI.dgs.getD (by decide) i
      have HST := hI.step (s := q.getD i 0 + Ld.getD i 0 + cc) HDD.out (by rw [HP.out]; omega) rfl
      obtain ⟨b, hbb⟩ : ∃ b, Ld.getD i 0 = b := ⟨_, rfl⟩
      obtain ⟨pv, hpp⟩ : ∃ b, q.getD i 0 = b := ⟨_, rfl⟩
      rw [hbb] at h1 hb2 HST
      rw [hpp] at h2 hpv HST
      have hS := fun w => add_nat pv b cc hpv hb2 hc2 w
      have hRS := hR.set_ (k + i) ((pv + b + cc) % 18446744073709551616) (by have := HNL.out; omega)
      rw [mid_set HA.out (by rw [hql, HP.out]; omega)] at hRS
      obtain ⟨s1, e1⟩ : ∃ s1, (pv + b + cc) % 18446744073709551616 = s1 := ⟨_, rfl⟩
      obtain ⟨s2, e2⟩ : ∃ s2, (pv + b + cc) / 18446744073709551616 = s2 := ⟨_, rfl⟩
      rw [e1, e2] at hS HST
      rw [e1] at hRS
      have HST := Lib.hid HST
      have HRS := Lib.hid hRS
      have HOS := Lib.hid (fun u => hO.set_ (k + i) u)
      have HDS := Lib.hid (fun u => hD.setCell (p := ⟨g, k + i, none⟩) (Nat.le_refl _) u)
      have HSH := Lib.hid hS
      have i1 : (0 : Int) ≤ (i : Int) := by omega
      have i2 : (i : Int) < (m : Int) := by omega
      have i3 : (i : Int) < (m : Int) + 1 := by omega
      have i4 : i < m + 1 := by omega
      clear hS hpp e1 e2 hbb hI hR hO hD hpv hRS hql
      go_wp2_with (go_at_call 47; (with_reducible refine (HSH.out _).mono ?_); rintro e w' ⟨rfl, rfl⟩)
      go_roundg (m - i)
      case measure => omega
      case rel => exact ⟨i + 1, s2, _, by omega, by omega, by go_num, rfl, HST.out, HRS.out, HOS.out _, HDS.out _⟩
    · have him2 : i = m := by omega
      subst him2
      have h2 := hR.cell (k + i) (by have := HNL.out; omega)
      rw [mid_get HA.out (by rw [hql, HP.out]; omega)] at h2
      have h3 := hR.frozen (k + i)
      have hc2 := hI.carry
      have hpv := hI.dgs.getD (by decide) i
      have HST := hI.last (s := q.getD i 0 + 0 + cc) (by rw [HP.out]) (by rw [HDL.out]) rfl
      obtain ⟨pv, hpp⟩ : ∃ b, q.getD i 0 = b := ⟨_, rfl⟩
      rw [hpp] at h2 hpv HST
      have hS : ∀ w, Calls Try.prog 47 #[.int .u64 pv, .int .u64 0, .int .u64 cc] w fun e w' => e = .returned (.tuple #[.int .u64 (((pv + 0 + cc) % 18446744073709551616 : Nat) : Int), .int .u64 (((pv + 0 + cc) / 18446744073709551616 : Nat) : Int)]) ∧ w = w' := fun w => add_nat pv 0 cc hpv (by decide) hc2 w
      have hRS := hR.set_ (k + i) ((pv + 0 + cc) % 18446744073709551616) (by have := HNL.out; omega)
      rw [mid_set HA.out (by rw [hql, HP.out]; omega)] at hRS
      obtain ⟨s1, e1⟩ : ∃ s1, (pv + 0 + cc) % 18446744073709551616 = s1 := ⟨_, rfl⟩
      obtain ⟨s2, e2⟩ : ∃ s2, (pv + 0 + cc) / 18446744073709551616 = s2 := ⟨_, rfl⟩
      rw [e1] at HST hRS
      rw [e1, e2] at hS
      have HSH := Lib.hid hS
      have HOS := Lib.hid (hO.set_ (k + i) (.int .u64 (s1 : Int)))
      have i1 : (0 : Int) ≤ (i : Int) := by omega
      have i3 : (i : Int) < (i : Int) + 1 := by omega
      have i4 : i < i + 1 := by omega
      have G : ∀ v : Value, BacksR w ty g cap N i A p C Ld (.returned v) (wr.setCell ⟨g, k + i, none⟩ (.int .u64 (s1 : Int))) := fun v => by
        obtain ⟨g1, g2, g3⟩ := HST
        rw [HP.out] at g1 g3
        exact ⟨v, _, rfl, g1, g2, g3, hRS, HOS.out⟩
      have HG := Lib.hid G
      clear G hS hpp hI hR hO hD hpv hRS hql e1 e2 HST
      go_wp2_with (go_at_call 47; (with_reducible refine (HSH.out _).mono ?_); rintro e w' ⟨rfl, rfl⟩)
      go_end0
      exact HG.out _
/-- What takeOut says and leaves. -/
def OutR (w : World) (ty : TypeId) (g cap N m : Nat) (A p C Ld : List Nat) (e : Ending) (w' : World) : Prop :=
  ∃ p' : List Nat, e = .returned (.int .u64 ((dv 18446744073709551616 p / dv 18446744073709551616 Ld : Nat) : Int)) ∧ p'.length = m + 1 ∧ Dgs 18446744073709551616 p' ∧ dv 18446744073709551616 p' = dv 18446744073709551616 p % dv 18446744073709551616 Ld ∧ Row64 w' ty g cap N (A ++ p' ++ C) ∧ Off g w w'
set_option maxHeartbeats 4000000 in
theorem quot_takeout (ty : TypeId) (g cap N k m c1 cd : Nat) (ad : Addr) (A p C Ld : List Nat) (w : World) (hR : Row64 w ty g cap N (A ++ p ++ C)) (hA : A.length = k) (hp : p.length = m + 1) (hpd : Dgs 18446744073709551616 p)
    (hD : Reads w g 1 (some ad) m (vals .u64 Ld)) (hdd : Dgs 18446744073709551616 Ld) (hm : 2 ≤ m) (hm2 : m ≤ 1099511627776) (hc1 : m + 1 ≤ c1) (hc : c1 ≤ 9223372036854775807) (hcd : m ≤ cd) (hcd2 : cd ≤ 9223372036854775807)
    (htop : 18446744073709551616 ≤ 2 * Ld.getD (m - 1) 0) (hlt : dv 18446744073709551616 p < 18446744073709551616 * dv 18446744073709551616 Ld) :
    Calls Try.prog 54 #[.slice (some ⟨g, k, none⟩) (m + 1) c1, .slice (some ad) m cd] w (OutR w ty g cap N m A p C Ld) := by
  have hNl := hR.len
  have hdl := hD.len_
  have hg := hR.lt
  have hNL : k + (m + 1) ≤ N := by simp at hNl; omega
  obtain ⟨j, rfl⟩ : ∃ j, m = j + 2 := ⟨m - 2, by omega⟩
  have T := two_of (m := j) hpd hdd hp hdl htop hlt
  have c1' := hR.cell (k + (j + 2)) (by omega)
  have c2' := hR.cell (k + (j + 1)) (by omega)
  rw [mid_get hA (by omega)] at c1' c2'
  obtain ⟨ad', e, hadb, d1⟩ := val_at hD (k := j + 1) (by omega)
  cases e
  obtain ⟨ad', e, _, d2⟩ := val_at hD (k := j) (by omega)
  cases e
  have b1 := hpd.getD (by decide) (j + 2)
  have b2 := hpd.getD (by decide) (j + 1)
  have b3 := hdd.getD (by decide) (j + 1)
  have b4 := hdd.getD (by decide) j
  have GL := guess_le T rfl b2
  have HG : Calls Try.prog 66 #[.slice (some ⟨g, k, none⟩) (j + 2 + 1) c1, .slice (some ad) (j + 2) cd] w (SaysU w (guessN (p.getD (j + 2) 0) (p.getD (j + 1) 0) (Ld.getD (j + 1) 0) (Ld.getD j 0))) := by
    by_cases hc : p.getD (j + 2) 0 < Ld.getD (j + 1) 0
    · exact guess_in g k (j + 2) c1 cd ad _ _ _ _ w (by omega) hm2 hc1 ‹_› hcd hcd2 c1' c2' d1 d2 b1 b2 b3 b4 hc
    · exact guess_eq g k (j + 2) c1 cd ad _ _ _ _ w (by omega) hm2 hc1 ‹_› hcd hcd2 c1' c2' d1 d2 b1 b2 b3 b4 hc
  obtain ⟨t, hte⟩ : ∃ t, guessN (p.getD (j + 2) 0) (p.getD (j + 1) 0) (Ld.getD (j + 1) 0) (Ld.getD j 0) = t := ⟨_, rfl⟩
  rw [hte] at HG GL
  obtain ⟨lo, up, tb⟩ := GL
  have hS := fun n => quot_subtract ty g cap N k (j + 2) c1 cd t ad A p C Ld (w.drewN n) hR hA hp hpd hD hdd hm2 hc1 ‹_› hcd hcd2 tb
  have hpl := dv_lt hpd
  rw [hp] at hpl
  have hdlt := dv_lt hdd
  rw [hdl] at hdlt
  have HGH := Lib.hid HG
  have HSH := Lib.hid hS
  have hDp := T.Dpos
  have hBK := Lib.hid (fun w' q (hR' : Row64 w' ty g cap N (A ++ q ++ C)) (hq : q.length = j + 2 + 1) (hqd : Dgs 18446744073709551616 q) (hD' : Reads w' g 1 (some ad) (j + 2) (vals .u64 Ld)) => quot_addback ty g cap N k (j + 2) c1 cd ad A q C Ld w' hR' hA hq hqd hD' hdd hm2 hc1 ‹_› hcd hcd2)
  have HR := Lib.hid (fun X b' => take_right (P := dv 18446744073709551616 p) (D := dv 18446744073709551616 Ld) (t := t) (X := X) (E := 18446744073709551616 ^ (j + 2 + 1)) (b' := b'))
  have HV := Lib.hid (fun X b' => take_over (P := dv 18446744073709551616 p) (D := dv 18446744073709551616 Ld) (t := t) (X := X) (E := 18446744073709551616 ^ (j + 2 + 1)) (b' := b'))
  have HML := Lib.hid (Nat.mod_lt (dv 18446744073709551616 p) hDp)
  have hDE : dv 18446744073709551616 Ld ≤ 18446744073709551616 ^ (j + 2 + 1) := by
    have : 18446744073709551616 ^ (j + 2) ≤ 18446744073709551616 ^ (j + 2 + 1) := Nat.pow_le_pow_right (by decide) (by omega)
    omega
  have HDE := Lib.hid hDE
  have HPL := Lib.hid hpl
  have hDR := Lib.hid (fun n => (Off.refl g w).drewN n)
  have HDg := Lib.hid (fun w' (h : Off g w w') => h.reads hD (Nat.le_of_lt hg))
  have HDP := Lib.hid hDp
  obtain ⟨Q, hQ⟩ : ∃ Q, dv 18446744073709551616 p / dv 18446744073709551616 Ld = Q := ⟨_, rfl⟩
  have HQ := Lib.hid hQ
  have HLO := Lib.hid (show t = Q ∨ t = Q + 1 by rw [hQ] at lo up; omega)
  clear HG hS hR hD hpd hdd T c1' c2' d1 d2 b1 b2 b3 b4 htop hlt hp hA hte hadb hDp hDE hpl hdlt hQ lo up hdl hNl hNL
  go_enter Try.func54, Try.ntmps54
  go_wp2_with fail
  refine HGH.out.mono ?_
  rintro e w1 ⟨rfl, n, rfl⟩
  go_wp2_with fail
  refine (HSH.out n).mono ?_
  rintro e w2 ⟨b, q, rfl, hb, hql, hqd, hsum, hR2, hO2⟩
  have hO2 := (hDR.out n).trans hO2
  have hXE := dv_lt hqd
  rw [hql] at hXE
  rcases HLO.out with ht | ht
  · obtain ⟨rfl, hX⟩ := HR.out _ _ (by rw [HQ.out]; exact ht) HDP.out hXE hsum hb
    have G : Hid (OutR w ty g cap N (j + 2) A p C Ld (.returned (.int .u64 (t : Int))) w2) := ⟨q, by rw [HQ.out, ht], hql, hqd, hX, hR2, hO2⟩
    clear hR2 hO2 hX hXE hqd hsum hql ht hb
    go_wp2
    go_ret
    exact G.out
  · obtain ⟨rfl, hX⟩ := HV.out _ _ (by rw [HQ.out]; exact ht) HDP.out HPL.out hXE hsum hb
    have hBR := Lib.hid (back_right hX HML.out hXE HDE.out)
    have HB := Lib.hid (hBK.out w2 q hR2 hql hqd (HDg.out _ hO2))
    have HT := Lib.hid ht
    have t2 : 0 < t := by omega
    have t3 : IntKind.u64.wrap ((t : Int) - 1) = (t : Int) - 1 := by rw [IntKind.wrap_u64]; omega
    clear hR2 hX hXE hqd hsum hql ht hb
    go_wp2_with fail
    refine HB.out.mono ?_
    rintro e w3 ⟨v, r, rfl, hrl, hrd, hrv, hR3, hO3⟩
    have G : Hid (OutR w ty g cap N (j + 2) A p C Ld (.returned (.int .u64 ((t : Int) - 1))) w3) := ⟨r, by rw [HQ.out, HT.out]; simp, hrl, hrd, by rw [hrv]; exact hBR.out, hR3, hO2.trans hO3⟩
    clear hR3 hO3 hO2 hrl hrd hrv
    go_wp2
    go_ret
    exact G.out
end Go.Proofs.Ytaemlkoklaoglaa
