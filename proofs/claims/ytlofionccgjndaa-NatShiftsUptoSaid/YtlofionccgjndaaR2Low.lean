/-
  The contract of the reference's Low (actuaryref02). Conditions: slices that hold a number's digits; lengths up to 2 to the 38.
-/
import Derived.Test.YtlofionccgjndaaRows
import Derived.Test.YtlofionccgjndaaR2Trim
import Derived.Test.YtlofionccgjndaaR2Power
import Derived.Test.YtlofionccgjndaaTN
import Derived.WalkKit
import Derived.Lib.Hide
import Derived.Outline
import Derived.Deep.QuietTactic
import Derived.BigQuiet
import Derived.LoopTactic
import Derived.Deep.LoopGhost
import Derived.Deep.DeepCutAuto
import Derived.Deep.CutBlock
import Derived.Deep.RegionLaw
namespace Go.Proofs.Ytlofionccgjndaa
open Go Go.RowKit
set_option maxRecDepth 100000
set_option linter.unusedVariables false
theorem ref2_low_neg (x : Nat) (k : Int) (A : Option Addr) (n c : Nat) (w : World) (hk : k < 0) :
    Calls Try.prog 24 #[.slice A n c, .int .i64 k] w (Gives16 w 0) := by
  have HG := Lib.hid (gives_nil w)
  go_enter Try.func24, Try.ntmps24
  go_wp2
  go_ret
  exact HG.out
set_option maxHeartbeats 4000000 in
theorem ref2_low (x k : Nat) (A : Option Addr) (n c : Nat) (w : World) (hA : Holds16 w x A n c) (hn : n ≤ 274877906944) (hk : k ≤ 9223372036854775807) :
    Calls Try.prog 24 #[.slice A n c, .int .i64 k] w (Gives16 w (x % 2 ^ k)) := by
  obtain ⟨i0, hi0, hz0, hz1, hz2⟩ := info_parts infoI
  have hln := hA.len
  obtain ⟨hR, hnc, hc9⟩ := hA
  by_cases hlo : n ≤ k / 16
  · rw [low_all hln.symm hlo]
    have T := ref2_trim A n c _ w hR (dg_dgs (by decide) x) hnc hc9 (by omega)
    rw [dv_dg (by decide)] at T
    have HT := Lib.hid T
    have hlo' : decide ((n : Int) ≤ (k : Int) / 16) = true := by simp; omega
    clear T hln hR
    go_enter Try.func24, Try.ntmps24
    go_wp2_with fail
    refine HT.out.mono ?_
    intro e w1 hg1
    have hg3 := hg1
    obtain ⟨A1, n1, c1, rfl, hh1, hb1⟩ := hg1.elim
    clear hg1 hh1 hb1
    go_wp2_with fail
    go_ret
    exact hg3
  · have hsrc := hR.take_ (k := k / 16) (by omega)
    rw [vals_take] at hsrc
    obtain ⟨ad, rfl, hadb, hc0⟩ := val_at hR (k := k / 16) (by omega)
    rw [dig16] at hc0
    have ha1 : x / 65536 ^ (k / 16) % 65536 < 65536 := Nat.mod_lt _ (by decide)
    have hlow := low_two x k
    have hp := pow_lt16 k
    have hp0 : 0 < 2 ^ (k % 16) := Nat.two_pow_pos _
    have HP := Lib.hid (fun w => ref2_power' k w)
    obtain ⟨p, hpe⟩ : ∃ p, 2 ^ (k % 16) = p := ⟨_, rfl⟩
    obtain ⟨a, ha⟩ : ∃ p, x / 65536 ^ (k / 16) % 65536 = p := ⟨_, rfl⟩
    rw [hpe] at HP hp hp0 hlow
    rw [ha] at hlow ha1 hc0
    have HL := Lib.hid hlow
    have hlo' : decide ((n : Int) ≤ (k : Int) / 16) = false := by simp; omega
    have HLN := Lib.hid hln
    clear hpe ha hlow hln hR
    go_enter Try.func24, Try.ntmps24
    go_wp2_with (at_builtin; refine wpList_append_any2 _ rfl (.tmp 15) (.tmp 19) 27 28 rfl w.heap.size 3 3 i0 (.int .i64 0) 1 8 Try.underlying27 under_N hi0 hz0 hz1 hz2 rfl (by decide) (.slice none 0 0) 0 [] rfl (World.ownsRow_nil _ _ _ _) _ (some ad) (k / 16) c (vals .i64 ((dg 65536 x).take (k / 16))) rfl hsrc (vals_one _ _) (by unfold maxLen; omega) (by omega) (Nat.le_refl _) ?_; intro v' w1 hown' hgrow hat)
    have hb1 : Below w.heap.size w w1 := (Below.refl _ _).grown hgrow (Nat.le_refl _) (fun g hg => by simp [Value.ownBlock] at hg)
    have hc1 : w1.cell? (ad.add (k / 16)) = some (.int .i64 a) := (hb1.cell (by rw [block_of_add]; exact hadb)).trans hc0
    clear hgrow hat hsrc
    go_wp2
    have s2 : (0 : Int) ≤ (k : Int) / 16 := by omega
    have s3 : (k : Int) / 16 < (n : Int) := by omega
    have s4 : ((k : Int) / 16).toNat = k / 16 := by omega
    have s5 : (k : Int).tmod 16 = (k : Int) % 16 := Int.tmod_eq_emod_of_nonneg (by omega)
    have s6 : (a : Int).tmod (p : Int) = (a : Int) % (p : Int) := Int.tmod_eq_emod_of_nonneg (by omega)
    have s7 : ¬ p = 0 := by omega
    have s8 : IntKind.i64.wrap ((k : Int) % 16) = (k : Int) % 16 := IntWalk.i64_in _ (by omega)
    have s9 : IntKind.i64.wrap ((a : Int) % (p : Int)) = (a : Int) % (p : Int) := IntWalk.i64_in _ (by have h1 := Int.emod_nonneg (a : Int) (show (p : Int) ≠ 0 by omega); have h2 := Int.emod_lt_of_pos (a : Int) (show (0 : Int) < p by omega); omega)
    have s1 : IntKind.i64.wrap ((k : Int) / 16) = (k : Int) / 16 := IntWalk.i64_in _ (by omega)
    have hbz := hb1.size
    go_region_law (first
      | (refine step_append_any _ rfl (.tmp 21) (.tmp 31) 27 rfl w.heap.size 3 i0 (.int .i64 0) 1 8 Try.underlying27 hi0 hz0 hz1 hz2 rfl (by decide) v' (0 + k / 16) ([] ++ vals .i64 ((dg 65536 x).take (k / 16))) rfl (hown'.alloc _) (w1.heap.size + 1) (some ⟨w1.heap.size, 0, none⟩) 1 1 [.int .i64 ((a : Int) % (p : Int))] rfl ⟨rfl, fun _ => ⟨_, rfl, by simp, push_cells _ _ _⟩⟩ (push_one _ _) (by unfold maxLen; omega) (by omega) (by simp; omega) ?_; intro v3 w3 hown3 hgrow3 hat3)
      | (go_simp; go_at_call 41; refine (HP.out _).mono ?_; rintro e w' ⟨rfl, rfl⟩))
    all_goals
      have E0 : Hid ((a : Int) % (p : Int) = ((a % p : Nat) : Int)) := (Int.natCast_emod a p).symm
      have hap : a % p < p := Nat.mod_lt _ hp0
      have hb3 : Below w.heap.size w w3 := by
        have hg0 := fun g hg => (hown'.lt g hg).1
        first
          | exact (hb1.alloc hb1.size _).drew.grown hgrow3 (by simp; omega) hg0
          | exact (hb1.drew.alloc hb1.size _).grown hgrow3 (by simp; omega) hg0
          | exact (below_drewN_ (hb1.alloc hb1.size _) _).grown hgrow3 (by simp; omega) hg0
          | exact ((below_drewN_ hb1 _).alloc hb1.size _).grown hgrow3 (by simp; omega) hg0
      rw [E0.out] at hown3
      have hown4 : w3.ownsRow w.heap.size 3 1 v3 (0 + k / 16 + 1) (vals .i64 ((dg 65536 x).take (k / 16) ++ [a % p])) := by
        rw [vals_append]; exact hown3
      have T := ref2_trim_own hown4 (((dg_dgs (by decide) x).take _).append (by intro d hd; simp at hd; subst hd; omega)) (by omega)
      rw [dv_snoc, dv_take (by decide) (dg_dgs (by decide) x), dv_dg (by decide), List.length_take, Nat.min_eq_left (by have := HLN.out; omega), HL.out] at T
      have HT := Lib.hid T
      clear T hown4 hown3 hgrow3 hc1 hown' hat3 s1 s2 s3 s4 s5 s6 s7 s8 s9 hbz hb1
      go_wp2_with fail
      refine HT.out.mono ?_
      intro e w4 hg4
      have hg5 := hg4.from_ hb3
      obtain ⟨A2, n2, c2, rfl, hh2, hb2⟩ := hg4.elim
      clear hg4 hh2 hb2
      go_wp2_with fail
      go_ret
      exact hg5
end Go.Proofs.Ytlofionccgjndaa
