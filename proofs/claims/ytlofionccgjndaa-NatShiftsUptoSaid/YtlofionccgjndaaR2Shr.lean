/-
  The contract of the reference's Shr (actuaryref02). Conditions: slices that hold a number's digits; lengths up to 2 to the 38.
-/
import Derived.Test.YtlofionccgjndaaRows
import Derived.Test.YtlofionccgjndaaR2Half
import Derived.Test.YtlofionccgjndaaR2Power
import Derived.WalkKit
import Derived.Lib.Hide
import Derived.Outline
import Derived.Deep.QuietTactic
import Derived.BigQuiet
import Derived.LoopTactic
import Derived.Deep.LoopGhost
import Derived.Deep.DeepCutAuto
import Derived.Deep.CutBlock
namespace Go.Proofs.Ytlofionccgjndaa
open Go Go.RowKit
set_option maxRecDepth 100000
set_option linter.unusedVariables false
theorem ref2_shr_neg (x : Nat) (k : Int) (A : Option Addr) (n c : Nat) (w : World) (hk : k < 0) :
    Calls Try.prog 22 #[.slice A n c, .int .i64 k] w (Gives16 w 0) := by
  have HG := Lib.hid (gives_nil w)
  go_enter Try.func22, Try.ntmps22
  go_wp2
  go_ret
  exact HG.out
set_option maxHeartbeats 4000000 in
theorem ref2_shr (x k : Nat) (A : Option Addr) (n c : Nat) (w : World) (hA : Holds16 w x A n c) (hn : n ≤ 274877906944) (hk : k ≤ 9223372036854775807) :
    Calls Try.prog 22 #[.slice A n c, .int .i64 k] w (Gives16 w (x / 2 ^ k)) := by
  have hln := hA.len
  by_cases hlo : n ≤ k / 16
  · rw [shr_zero hln.symm hlo]
    have HG := Lib.hid (gives_nil w)
    clear hln hA
    go_enter Try.func22, Try.ntmps22
    go_wp2
    go_ret
    exact HG.out
  · obtain ⟨hR, hnc, hc9⟩ := hA
    have hcut := hR.cut (k := k / 16) (by omega) hnc
    rw [Nat.mul_one, vals_drop, if_neg (by omega)] at hcut
    obtain ⟨ad, rfl, hadb, _⟩ := hR.2 (by omega)
    simp only [Option.map_some] at hcut
    have T := ref2_trim _ (n - k / 16) (c - k / 16) _ w hcut ((dg_dgs (by decide) x).drop _) (by omega) (by omega) (by omega)
    rw [dv_drop (by decide) (dg_dgs (by decide) x), dv_dg (by decide)] at T
    have hl2 := dg_len_mono (b := 65536) (by decide) (Nat.div_le_self x (65536 ^ (k / 16)))
    have HP := Lib.hid (fun w => ref2_power' k w)
    have hp := pow_lt16 k
    have hp0 : 0 < 2 ^ (k % 16) := Nat.two_pow_pos _
    have hfin := shr_two x k
    obtain ⟨p, hpe⟩ : ∃ p, 2 ^ (k % 16) = p := ⟨_, rfl⟩
    obtain ⟨y, hy⟩ : ∃ y, x / 65536 ^ (k / 16) = y := ⟨_, rfl⟩
    rw [hpe] at HP hp hp0 hfin
    rw [hy] at T hl2 hfin
    rw [← hln] at hl2
    have HF := Lib.hid hfin
    have hcne : ¬ c = k / 16 := by omega
    have HT := Lib.hid T
    have hlo' : decide ((n : Int) ≤ (k : Int) / 16) = false := by simp; omega
    clear T hpe hy hfin hcut hR hln
    go_enter Try.func22, Try.ntmps22
    go_wp2_with fail
    refine HT.out.mono ?_
    intro e w1 hg1
    obtain ⟨A1, n1, c1, rfl, hh1, hb1⟩ := hg1.elim
    clear hg1
    have hn1 : n1 ≤ n := by rw [hh1.len]; exact hl2
    have H := Lib.hid (ref2_half y p A1 n1 c1 w1 hh1 (by omega) hp0 hp)
    clear hh1
    go_wp2_with fail
    refine (HP.out w1).mono ?_
    rintro e w' ⟨rfl, rfl⟩
    go_wp2_with fail
    refine H.out.mono ?_
    rintro e w2 ⟨v2, rfl, hg2⟩
    have HR : Hid (Gives16 w (x / 2 ^ k) (.returned v2) w2) := by
      rw [HF.out] at hg2
      exact hg2.from_ hb1
    clear hg2
    go_wp2_with fail
    go_ret
    exact HR.out
end Go.Proofs.Ytlofionccgjndaa
