/-
  The contract of the reference's Of (actuaryref02). Conditions: slices that hold a number's digits; lengths up to 2 to the 38.
-/
import Derived.Test.YtonjhcmppiioeaaRows
import Derived.Test.YtonjhcmppiioeaaR2Trim
import Derived.WalkKit
import Derived.Lib.Hide
import Derived.Outline
import Derived.Deep.QuietTactic
import Derived.BigQuiet
import Derived.LoopTactic
import Derived.Deep.LoopGhost
import Derived.Deep.DeepCutAuto
import Derived.Deep.CutBlock
namespace Go.Proofs.Ytonjhcmppiioeaa
open Go Go.RowKit
set_option maxRecDepth 100000
set_option linter.unusedVariables false
set_option maxHeartbeats 4000000 in
/-- Of: the number of some words. -/
theorem ref2_of (A : Option Addr) (n c : Nat) (l : List Nat) (w : World) (hA : Reads w w.heap.size 1 A n (vals .u64 l)) (hl : Dgs 18446744073709551616 l) (hn : n ≤ 68719476736) :
    Calls Try.prog 10 #[.slice A n c] w (Gives16 w (dv 18446744073709551616 l)) := by
  obtain ⟨i0, hi0, hz0, hz1, hz2⟩ := info_parts infoI
  have HL := Lib.hid hA.len_
  go_enter Try.func10, Try.ntmps10
  go_wp2
  go_loopg [3, 4, 5, 6] (n + 1) (fun g v i _ _ wr => ∃ (k : Nat) (D : List Nat), k ≤ n ∧ n < g + k ∧ i = .int .i64 k ∧ D.length = 4 * k ∧ Dgs 65536 D ∧ dv 65536 D = dv 18446744073709551616 (l.take k) ∧
      wr.ownsRow w.heap.size 3 1 v (4 * k) (vals .i64 D) ∧ Below w.heap.size w wr)
  case atStart => exact ⟨0, [], Nat.zero_le _, by omega, rfl, rfl, by intro d hd; simp at hd, by simp [dv], World.ownsRow_nil _ _ _ _, Below.refl _ _⟩
  case round =>
    obtain ⟨k, D, hk, hg, rfl, hlen, hdg, hv, hown, hbl⟩ := hrel
    by_cases hlt : k < n
    · obtain ⟨ad, rfl, hadb, hc0⟩ := val_at hA hlt
      have hc1 : wr.cell? (ad.add k) = some (.int .u64 (l.getD k 0 : Nat)) := (hbl.cell (by rw [block_of_add]; exact hadb)).trans hc0
      have hw := hl.getD (by decide) k
      have HT := Lib.hid (dv_take_succ 18446744073709551616 l k)
      obtain ⟨x, hx⟩ : ∃ x, l.getD k 0 = x := ⟨_, rfl⟩
      rw [hx] at hc1 hw HT
      have HV := Lib.hid hv
      have HLEN := Lib.hid hlen
      have HDG := Lib.hid hdg
      clear hc0 hx hv hlen hdg
      go_wp2
      go_loopg [3, 5, 6] 5 (fun g v s i wq => ∃ (j : Nat) (E : List Nat), j ≤ 4 ∧ 4 < g + j ∧ i = .int .i64 j ∧ s = .int .u64 ((x / 65536 ^ j : Nat) : Int) ∧ E.length = 4 * k + j ∧ Dgs 65536 E ∧
          dv 65536 E = dv 18446744073709551616 (l.take k) + 18446744073709551616 ^ k * (x % 65536 ^ j) ∧ wq.ownsRow w.heap.size 3 1 v (4 * k + j) (vals .i64 E) ∧ Below w.heap.size w wq)
      case atStart => exact ⟨0, D, Nat.zero_le _, by omega, rfl, by simp, HLEN.out, HDG.out, by rw [HV.out]; simp [Nat.mod_one], hown, hbl⟩
      case round =>
        obtain ⟨j, E, hj, hgj, rfl, rfl, hlenE, hdgE, hvE, hownE, hblE⟩ := hrel
        by_cases hj4 : j < 4
        · have HS := Lib.hid (of_step (i := k) hlenE hvE)
          have hxk : x / 65536 ^ j < 18446744073709551616 := Nat.lt_of_le_of_lt (Nat.div_le_self _ _) hw
          have HD : Hid (x / 65536 ^ (j + 1) = x / 65536 ^ j / 65536) := by show _ = _; rw [Nat.pow_succ, ← Nat.div_div_eq_div_mul]
          obtain ⟨y, hy⟩ : ∃ y, x / 65536 ^ j = y := ⟨_, rfl⟩
          rw [hy] at HS hxk HD ⊢
          have HLE := Lib.hid hlenE
          have HDE := Lib.hid hdgE
          clear hy hlenE hdgE hvE
          go_wp2_with (at_builtin; refine wpList_append_own _ rfl _ _ 25 rfl w.heap.size 3 i0 (.int .i64 0) 1 8 Try.underlying25 hi0 hz0 hz1 hz2 rfl (by decide) _ _ _ rfl (hownE.alloc _) ⟨wr.heap.size, 0, none⟩ 1 1 [.int .i64 ((y : Int) % 65536)] rfl rfl (push_cells _ _ _) (push_one _ _) (by unfold maxLen; omega) (by omega) (by have := hblE.size; simp; omega) ?_; intro v' w1 hown' hgrow _)
          have hb' : Below w.heap.size w w1 := (hblE.alloc hblE.size _).grown hgrow (by have := hblE.size; simp; omega) (fun g hg => (hownE.lt g hg).1)
          have hown2 : w1.ownsRow w.heap.size 3 1 v' (4 * k + (j + 1)) (vals .i64 (E ++ [y % 65536])) := by
            rw [vals_append]; simpa [vals, Nat.add_assoc] using hown'
          clear hown' hgrow hownE hblE
          go_wp2
          go_roundg (gk - 1)
          case measure => omega
          case rel => exact ⟨j + 1, _, by omega, by omega, by go_num, by rw [HD.out]; go_num, by simp [HLE.out, Nat.add_assoc], HDE.out.append (by intro d hd; simp at hd; subst hd; exact Nat.mod_lt _ (by decide)), HS.out, hown2, hb'⟩
        · have hj : j = 4 := by omega
          subst hj
          have HF : Hid (dv 65536 E = dv 18446744073709551616 (l.take (k + 1))) := by
            show _ = _
            rw [hvE, HT.out, show x % 65536 ^ 4 = x from Nat.mod_eq_of_lt (by omega)]
          have HLE := Lib.hid hlenE
          have HDE := Lib.hid hdgE
          clear hvE hlenE hdgE
          go_wp2
          go_roundg (n - k)
          case measure => omega
          case rel => exact ⟨k + 1, E, by omega, by omega, by go_num, by rw [HLE.out]; omega, HDE.out, HF.out, hownE, hblE⟩
    · have hkn : k = n := by omega
      subst hkn
      rw [List.take_of_length_le (by have := HL.out; omega)] at hv
      obtain ⟨A1, c1, rfl, hr1, hc1, hc1', _⟩ := own_form hown
      have T := ref2_trim A1 (4 * k) c1 D wr hr1 hdg hc1 hc1' (by omega)
      rw [hv] at T
      have HT := Lib.hid T
      clear T hv hdg hlen hown hr1
      go_wp2_with fail
      refine HT.out.mono ?_
      intro e w2 hg2
      have hg3 := hg2.from_ hbl
      obtain ⟨A2, n2, c2, rfl, hh2, hb2⟩ := hg2.elim
      clear hg2 hh2 hb2
      go_wp2_with fail
      go_ret
      exact hg3
end Go.Proofs.Ytonjhcmppiioeaa
