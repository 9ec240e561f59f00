/-
  The contract of the reference's Small (actuaryref02). Conditions: slices that hold a number's digits; lengths up to 2 to the 38.
-/
import Derived.Test.YtonjhcmppiioeaaRows
import Derived.Test.YtonjhcmppiioeaaR2Trim
import Derived.WalkKit
import Derived.Lib.Hide
import Derived.Outline
import Derived.Deep.QuietTactic
import Derived.BigQuiet
import Derived.LoopTactic
import Derived.Deep.LoopGhost
import Derived.Deep.DeepCutAuto
import Derived.Deep.CutBlock
namespace Go.Proofs.Ytonjhcmppiioeaa
open Go Go.RowKit
set_option maxRecDepth 100000
set_option linter.unusedVariables false
set_option maxHeartbeats 4000000 in
theorem ref2_small (x mm a : Nat) (A : Option Addr) (n c : Nat) (w : World) (hA : Holds16 w x A n c) (hn : n ≤ 549755813888) (hmm : mm < 65536) (ha : a < 65536) :
    Calls Try.prog 37 #[.slice A n c, .int .i64 mm, .int .i64 a] w (Gives16 w (x * mm + a)) := by
  obtain ⟨i0, hi0, hz0, hz1, hz2⟩ := info_parts infoI
  have HLN := Lib.hid hA.len
  have hR := hA.1
  go_enter Try.func37, Try.ntmps37
  go_wp2
  go_loopg [7, 8, 9, 10] (n + 1) (fun g v s i _ wr => ∃ (k cc : Nat) (out : List Nat), k ≤ n ∧ n < g + k ∧ i = .int .i64 k ∧ s = .int .i64 cc ∧ Small16 x mm a k out cc ∧
      wr.ownsRow w.heap.size 3 1 v k (vals .i64 out) ∧ Below w.heap.size w wr)
  case atStart => exact ⟨0, a, [], by omega, by omega, rfl, rfl, Small16.start x mm a ha, World.ownsRow_nil _ _ _ _, Below.refl _ _⟩
  case round =>
    obtain ⟨k, cc, out, hk, hg, rfl, rfl, hat, hown, hbl⟩ := hrel
    have hcc := hat.carry
    by_cases hlt : k < n
    · obtain ⟨ad, rfl, hadb, hc0⟩ := val_at hR hlt
      have hc1 : wr.cell? (ad.add k) = some (.int .i64 ((dg 65536 x).getD k 0 : Nat)) := (hbl.cell (by rw [block_of_add]; exact hadb)).trans hc0
      rw [dig16] at hc1
      have ha1 : x / 65536 ^ k % 65536 < 65536 := Nat.mod_lt _ (by decide)
      have hst := hat.step hmm rfl
      obtain ⟨b, hb⟩ : ∃ b, x / 65536 ^ k % 65536 = b := ⟨_, rfl⟩
      rw [hb] at hc1 ha1 hst
      have hm1 : b * mm ≤ 65535 * 65535 := Nat.mul_le_mul (by omega) (by omega)
      have hm2 : (b : Int) * (mm : Int) = ((b * mm : Nat) : Int) := (Int.natCast_mul b mm).symm
      have HM2 := Lib.hid hm2
      have hm3 : (0 : Int) ≤ (b : Int) * (mm : Int) ∧ (b : Int) * (mm : Int) ≤ 4294836225 := by rw [hm2]; omega
      obtain ⟨hm30, hm31⟩ := hm3
      have HST := Lib.hid hst
      clear hst hb hat hc0 hm1 hm2
      go_wp2_with (at_builtin; refine wpList_append_own _ rfl _ _ 25 rfl w.heap.size 3 i0 (.int .i64 0) 1 8 Try.underlying25 hi0 hz0 hz1 hz2 rfl (by decide) _ _ _ rfl (hown.alloc _) ⟨wr.heap.size, 0, none⟩ 1 1 [.int .i64 (((b : Int) * (mm : Int) + (cc : Int)) % 65536)] rfl rfl (push_cells _ _ _) (push_one _ _) (by unfold maxLen; omega) (by omega) (by have := hbl.size; simp; omega) ?_; intro v' w1 hown' hgrow _)
      have hb' : Below w.heap.size w w1 := (hbl.alloc hbl.size _).grown hgrow (by have := hbl.size; simp; omega) (fun g hg => (hown.lt g hg).1)
      have hown2 : w1.ownsRow w.heap.size 3 1 v' (k + 1) (vals .i64 (out ++ [(b * mm + cc) % 65536])) := by
        rw [vals_append]; simpa [vals] using hown'
      clear hown' hgrow hown hbl hc1
      go_wp2
      go_roundg (n - k)
      case measure => omega
      case rel => exact ⟨k + 1, _, _, by omega, by omega, by go_num, by rw [HM2.out]; go_num, HST.out, hown2, hb'⟩
    · have hkn : k = n := by omega
      subst hkn
      have hd := hat.done (by have := HLN.out; omega)
      have HD := Lib.hid hd
      clear hd hat
      go_wp2_with (first
        | (at_builtin; refine wpList_append_own _ rfl _ _ 25 rfl w.heap.size 3 i0 (.int .i64 0) 1 8 Try.underlying25 hi0 hz0 hz1 hz2 rfl (by decide) _ _ _ rfl (hown.alloc _) ⟨wr.heap.size, 0, none⟩ 2 2 [.int .i64 ((cc : Int) % 65536), .int .i64 ((cc : Int) / 65536)] rfl rfl (push_cells2 _ _ _ _) (push_one2 _ _ _) (by unfold maxLen; omega) (by omega) (by have := hbl.size; simp; omega) ?_; intro v' w1 hown' hgrow _)
        | fail)
      have hb' : Below w.heap.size w w1 := (hbl.alloc hbl.size _).grown hgrow (by have := hbl.size; simp; omega) (fun g hg => (hown.lt g hg).1)
      have hown2 : w1.ownsRow w.heap.size 3 1 v' (k + 2) (vals .i64 (out ++ [cc % 65536, cc / 65536])) := by
        rw [vals_append]; simpa [vals] using hown'
      have T := ref2_trim_own hown2 HD.out.2 (by omega)
      rw [HD.out.1] at T
      have HT := Lib.hid T
      clear T hown2 hown' hgrow hown hbl
      go_wp2_with fail
      refine HT.out.mono ?_
      intro e w2 hg2
      have hg3 := hg2.from_ hb'
      obtain ⟨A2, n2, c2, rfl, hh2, hb2⟩ := hg2.elim
      clear hg2 hh2 hb2
      go_wp2_with fail
      go_ret
      exact hg3
end Go.Proofs.Ytonjhcmppiioeaa
