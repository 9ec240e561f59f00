/-
  The walk of the law NatTells, where there is no word k. Conditions: the words that came in are words, at most 1048576 of them; TrailingZeros64's table reads as its initialiser lays it.
-/
import Derived.Test.YtlofionccgjndaaDoorRows
import Derived.Test.YtlofionccgjndaaDoorN2Tell0
import Derived.Test.YtlofionccgjndaaDoorN2Like
import Derived.Test.YtlofionccgjndaaDoorR2Bits
import Derived.Test.YtlofionccgjndaaDoorR2Bit
import Derived.WalkKit
import Derived.Lib.Hide
import Derived.Outline
import Derived.Deep.QuietTactic
import Derived.BigQuiet
import Derived.LoopTactic
import Derived.Deep.LoopGhost
namespace Go.Proofs.YtlofionccgjndaaDoor
open Go Go.RowKit
set_option maxRecDepth 100000
set_option linter.unusedVariables false
set_option linter.unusedSimpArgs false
set_option maxHeartbeats 16000000 in
theorem natTells_out (A0 : Option Addr) (n0 c0 : Nat) (l0 : List Nat) (kn : Nat) (w : World) (h0 : ArgWords w A0 n0 c0 l0) (hk1 : kn ≤ 9223372036854775807) (hk : (dg 18446744073709551616 (dv 18446744073709551616 l0)).length ≤ kn) (hT : TabAt w) :
    Calls Tryd.prog 3 #[.slice A0 n0 c0, .int .i64 (kn : Int)] w fun e w' => e = .returned (.bool true) ∧ Below w.heap.size w w' := by
  obtain ⟨i0, hi0, hz0, hz1, hz2⟩ := info_parts infoU
  obtain ⟨K, hK⟩ : ∃ K, 1048576 = K := ⟨_, rfl⟩
  have S0 := arg_sz h0
  rw [hK] at S0
  have hK2 : K ≤ 1048576 := by omega
  have R0 := Lib.hid (fun w' (hb : Below w.heap.size w w') => (h0.reads.below hb).more hb.size)
  have D0 := Lib.hid h0.dgs
  have hn0 : n0 ≤ 1048576 := Nat.le_trans h0.fits h0.small
  obtain ⟨x, hx⟩ : ∃ x, dv 18446744073709551616 l0 = x := ⟨_, rfl⟩
  have P0 := (fun w' (hb : Below w.heap.size w w') => ref2_of A0 n0 c0 l0 w' ((h0.reads.below hb).more hb.size) h0.dgs (by omega))
  rw [hx] at S0 P0
  rw [hx] at hk
  have HX0 := Lib.hid hx
  have HP0 := Lib.hid P0
  have HS0 := Lib.hid S0
  have HTB := Lib.hid hT
  clear S0 P0 h0 hx hK hT
  go_enter Tryd.func3, Tryd.ntmps3
  go_wp2_with fail
  refine (law2_awake _).mono ?_
  rintro e w1 ⟨rfl, hB⟩
  have hs1 := hB.size
  have hs0 := Lib.hid (R0.out _ hB)
  go_wp2_with (at_builtin; refine wpList_append_any _ rfl (.tmp 18) (.tmp 19) 22 rfl w1.heap.size 30 i0 (.int .u64 0) 1 8 Tryd.underlying22 hi0 hz0 hz1 hz2 rfl (by decide) (.slice none 0 0) 0 [] rfl (World.ownsRow_nil _ _ _ _) _ A0 n0 c0 (vals .u64 l0) rfl hs0.out (vals_one _ _) (by unfold maxLen; omega) (by omega) (Nat.le_refl _) ?_; intro v' w2 hown' hgrow hat)
  have hb : Below w1.heap.size w1 w2 := (Below.refl _ _).grown hgrow (Nat.le_refl _) (fun g hg => by simp [Value.ownBlock] at hg)
  rw [Nat.zero_add, List.nil_append] at hown'
  obtain ⟨Am, cm, rfl, hOwn⟩ := ownsW_of hown'
  have hB := keep_below hB hb
  have HOwn := Lib.hid hOwn
  have NO := nat_of Am n0 cm l0 w2 hOwn.2.2.1 D0.out hOwn.1 hOwn.2.1 (by omega)
  rw [HX0.out] at NO
  clear hb hown' hgrow hat hs0 hOwn
  refine NO.mono ?_
  clear NO
  rintro e w3 ⟨B0, m0, d0, rfl, hw0, hb, hfr⟩
  have hs23 := hb.size
  have hb := keep_below hb (up_alloc w3 (.cells #[.slice B0 m0 d0] 25))
  have hB := keep_below hB hb
  have HX := Lib.hid (hw0.below (up_alloc w3 (.cells #[.slice B0 m0 d0] 25)))
  have g6 : (w3.alloc (.cells #[.slice B0 m0 d0] 25)).cell? ⟨w3.heap.size, 0, none⟩ = some (.slice B0 m0 d0) := (Blk.new w3 _ _).cell 0
  have HF0 := Lib.hid hfr
  have HO2 : Hid (0 < n0 → ∃ g cs, Am = some ⟨g, 0, none⟩ ∧ w1.heap.size ≤ g ∧ g < w2.heap.size ∧ Blk (w3.alloc (.cells #[.slice B0 m0 d0] 25)) g 30 cs ∧ n0 ≤ cs.size ∧ cs.toList.take n0 = vals .u64 l0) := fun hn => by
    obtain ⟨g, cs, e1, e2, e3, e4, e5⟩ := HOwn.out.2.2.2 hn
    exact ⟨g, cs, e1, e2, e3.lt, keep_blk hb e3, e4, e5⟩
  have hs3 : w2.heap.size < (w3.alloc (.cells #[.slice B0 m0 d0] 25)).heap.size := by simp; omega
  clear hb hw0 hfr HOwn
  go_wp2_with fail
  generalize w3.alloc (.cells #[.slice B0 m0 d0] 25) = W3 at *
  generalize w3.heap.size = p at *
  refine (HP0.out _ hB).mono ?_
  rintro e w4 ⟨C0, f0, rfl, hrc, hcf, ⟨hcm, hfc⟩, hb⟩
  have hh0 : Holds16 w4 x C0 (dg 65536 x).length f0 := ⟨hrc, hcf, hcm⟩
  have hr0 := len16_zero x
  rw [HX.out.len] at hr0
  have hrl := HS0.out.len16T
  obtain ⟨r0, hr0e⟩ : ∃ r, (dg 65536 x).length = r := ⟨_, rfl⟩
  rw [hr0e] at hh0 hr0 hrl ⊢
  have hB := keep_below hB hb
  have HX := Lib.hid (HX.out.below hb)
  have g6 := keep_cell hb g6
  have HP := Lib.hid hh0
  have HF1 := Lib.hid hfc
  have HO4 : Hid (0 < n0 → ∃ g cs, Am = some ⟨g, 0, none⟩ ∧ w1.heap.size ≤ g ∧ g < w2.heap.size ∧ Blk w4 g 30 cs ∧ n0 ≤ cs.size ∧ ∀ j, j < n0 → cs[j]? = some (.int .u64 (l0.getD j 0 : Nat))) := fun hn => by
    obtain ⟨g, cs, e1, e2, e3, e4, e5, e6⟩ := HO2.out hn
    refine ⟨g, cs, e1, e2, e3, keep_blk hb e4, e5, fun j hj => ?_⟩
    have hl0 : l0.length = n0 := (R0.out _ hB).len_
    exact cell_of_take e6 hj (by rw [List.getD_eq_getElem?_getD, List.getElem?_eq_getElem (by omega)]; rfl)
  have HZ := Lib.hid hr0
  have hwp : w2.heap.size ≤ p := by omega
  have hmx := HS0.out.words HX.out
  rw [HX.out.len] at hk
  have hko : decide ((kn : Int) < (m0 : Int)) = false := by simp; omega
  have hko2 : ¬ kn < m0 := by omega
  clear hb hh0 hrc hcf hcm hfc HO2 hr0e hr0 hs23
  go_wp2_with fail
  go_loopg [8] (n0 + 1) (fun gg ix wr => ∃ i : Nat, i ≤ n0 ∧ n0 < gg + i ∧ ix = .int .i64 i ∧ Below w.heap.size w wr ∧ Hid (WordsIn wr x B0 m0 d0) ∧ Hid (Holds16 wr x C0 r0 f0) ∧ wr.cell? ⟨p, 0, none⟩ = some (.slice B0 m0 d0) ∧
      Hid (0 < n0 → ∃ g cs, Am = some ⟨g, 0, none⟩ ∧ w1.heap.size ≤ g ∧ g < w2.heap.size ∧ Blk wr g 30 cs ∧ n0 ≤ cs.size ∧ ∀ j, i ≤ j → j < n0 → cs[j]? = some (.int .u64 (l0.getD j 0 : Nat))))
  case atStart => exact ⟨0, Nat.zero_le _, by omega, rfl, hB, HX, HP, g6, fun hn => by
    obtain ⟨g, cs, e1, e2, e3, e4, e5, e6⟩ := HO4.out hn
    exact ⟨g, cs, e1, e2, e3, e4, e5, fun j _ hj => e6 j hj⟩⟩
  case round =>
    clear hB HX HP g6 HO4
    obtain ⟨i, hi, hg, rfl, hB, HX, HP, g6, HO⟩ := hrel
    by_cases hlt : i < n0
    · obtain ⟨g, cs, rfl, hg1, hg2, hk, hcs, hcell⟩ := HO.out (by omega)
      obtain ⟨ad, rfl, hadb, hc0⟩ := val_at (R0.out _ hB) hlt
      have hc1 := (hk.cell i).trans (hcell i (Nat.le_refl _) hlt)
      have hfz := hk.frozen i
      obtain ⟨d, hd⟩ : ∃ d, l0.getD i 0 = d := ⟨_, rfl⟩
      rw [hd] at hc0 hc1
      have HK := Lib.hid hk
      have HCE := Lib.hid hcell
      obtain ⟨s1, s2⟩ : (0 : Int) ≤ (i : Int) ∧ (i : Int) < (n0 : Int) := by omega
      clear hd hcell HO hk
      go_wp2_with fail
      go_quiet (fail)
      go_wp2_with fail
      have hk2 := (HK.out.drewN nq).set_ i (.int .u64 7)
      have hB2 := keep_below_set (p := ⟨g, i, none⟩) (.int .u64 7) (by show w.heap.size ≤ g; omega) (below_drewN_ hB nq)
      have HX2 := Lib.hid (words_set2 (HX.out.drewN nq) (p := ⟨g, i, none⟩) (fun ad e => by have := HF0.out ad e; show ad.block ≠ g; omega) (.int .u64 7))
      have HP2 := Lib.hid (holds_set (show Holds16 (wr.drewN nq) x C0 r0 f0 from HP.out) (p := ⟨g, i, none⟩) (fun ad e => by have := HF1.out ad e; show ad.block ≠ g; omega) (.int .u64 7))
      have g62 := keep_cell_set (w1 := wr.drewN nq) (q := ⟨g, i, none⟩) (.int .u64 7) (by show p ≠ g; omega) g6
      go_roundg (n0 - i)
      case measure => omega
      case rel => exact ⟨i + 1, by omega, by omega, by go_num, hB2, HX2, HP2, g62, fun _ => ⟨g, _, rfl, hg1, hg2, hk2, by simpa using hcs, fun j h1 h2 => by rw [Array.getElem?_setIfInBounds_ne (by omega)]; exact HCE.out j (by omega) h2⟩⟩
    · clear HO
      obtain ⟨wo, hwo⟩ : ∃ wo, wo = wr := ⟨_, rfl⟩
      subst hwo
      go_wp2_with fail
      refine (nat_words_own x B0 m0 d0 wo HX.out (by omega)).mono ?_
      rintro e w6 ⟨v6, rfl, ho6, hb⟩
      obtain ⟨A1, c1, rfl, hOwn⟩ := ownsW_of ho6
      have hO6 := Lib.hid hOwn.2.2.2
      have hb6 := hb
      clear hb ho6 hOwn
      go_wp2_with fail
      go_loopg [10] (m0 + 1) (fun gg ix wr => ∃ i : Nat, i ≤ m0 ∧ m0 < gg + i ∧ ix = .int .i64 i ∧ Below wo.heap.size wo wr ∧ Hid (0 < m0 → ∃ g cs, A1 = some ⟨g, 0, none⟩ ∧ wo.heap.size ≤ g ∧ Blk wr g 30 cs ∧ m0 ≤ cs.size))
      case atStart => exact ⟨0, Nat.zero_le _, by omega, rfl, hb6, fun hn => by
        obtain ⟨g, cs, e1, e2, e3, e4, _⟩ := hO6.out hn
        exact ⟨g, cs, e1, e2, e3, e4⟩⟩
      case round =>
        clear hb6 hO6
        obtain ⟨i2, hi2, hg2, rfl, hbq, HO⟩ := hrel
        by_cases hlt2 : i2 < m0
        · obtain ⟨g, cs, rfl, hg1, hk, hcs⟩ := HO.out (by omega)
          obtain ⟨u, hu⟩ : ∃ u, cs[i2]? = some u := ⟨cs[i2]'(by omega), Array.getElem?_eq_getElem (by omega)⟩
          have hc1 := (hk.cell i2).trans hu
          have hfz := hk.frozen i2
          have HK := Lib.hid hk
          obtain ⟨s1, s2⟩ : (0 : Int) ≤ (i2 : Int) ∧ (i2 : Int) < (m0 : Int) := by omega
          clear hu HO hk
          go_wp2_with fail
          have hk2 := HK.out.set_ i2 (.int .u64 9)
          have hb2 := keep_below_set (p := ⟨g, i2, none⟩) (.int .u64 9) (by show wo.heap.size ≤ g; omega) hbq
          go_roundg (m0 - i2)
          case measure => omega
          case rel => exact ⟨i2 + 1, by omega, by omega, by go_num, hb2, fun _ => ⟨g, _, rfl, hg1, hk2, by simpa using hcs⟩⟩
        · clear HO
          have hB := keep_below hB hbq
          have HX := Lib.hid (HX.out.below hbq)
          have HP := Lib.hid (HP.out.below hbq)
          have g6 := keep_cell hbq g6
          clear hbq
          go_wp2_with fail
          have UA := uint_any x B0 m0 d0 wr HX.out
          have hxu : (m0 ≤ 1 → (if m0 ≤ 1 then wd x 0 else 0) = wd x 0) ∧ (1 < m0 → (if m0 ≤ 1 then wd x 0 else 0) = 0) := ⟨fun h => if_pos h, fun h => if_neg (by omega)⟩
          obtain ⟨xu, hxe⟩ : ∃ v, (if m0 ≤ 1 then wd x 0 else 0) = v := ⟨_, rfl⟩
          obtain ⟨ob, hob⟩ : ∃ v, decide ((m0 : Int) ≤ 1) = v := ⟨_, rfl⟩
          rw [hxe, hob] at UA
          rw [hxe] at hxu
          have HXU := Lib.hid hxu
          have HOB := Lib.hid hob
          clear hxe hxu hob
          refine UA.mono ?_
          clear UA
          rintro e w8 ⟨rfl, hb⟩
          have hB := keep_below hB hb
          have HX := Lib.hid (HX.out.below hb)
          have HP := Lib.hid (HP.out.below hb)
          have g6 := keep_cell hb g6
          clear hb
          go_wp2_with fail
          have RW := ref2_words x C0 r0 f0 w8 HP.out (by omega)
          unfold GivesW at RW
          rw [HX.out.len] at RW
          refine RW.mono ?_
          clear RW
          rintro e w9 ⟨A2, c2, rfl, hr2, _, _, hb⟩
          have hB := keep_below hB hb
          have HX := Lib.hid (HX.out.below hb)
          have HP := Lib.hid (HP.out.below hb)
          have g6 := keep_cell hb g6
          have HV := Lib.hid hr2
          clear hb hr2
          go_wp2_with fail
          refine (law2_like x B0 C0 m0 d0 r0 f0 _ HX.out HP.out (by omega) (by omega)).mono ?_
          rintro e w10 ⟨rfl, hb⟩
          have hB := keep_below hB hb
          have HX := Lib.hid (HX.out.below hb)
          have HP := Lib.hid (HP.out.below hb)
          have g6 := keep_cell hb g6
          have HV := Lib.hid ((HV.out.below hb).more hb.size)
          clear hb
          go_wp2_with fail
          have NZ := nat_zero B0 m0 d0 w10
          obtain ⟨zb, hzb⟩ : ∃ v, decide (m0 = 0) = v := ⟨_, rfl⟩
          rw [hzb] at NZ
          have hz2 := HZ.out.trans hzb
          clear hzb
          refine NZ.mono ?_
          clear NZ
          rintro e w11 ⟨rfl, hb⟩
          have hB := keep_below hB hb
          have HX := Lib.hid (HX.out.below hb)
          have HP := Lib.hid (HP.out.below hb)
          have g6 := keep_cell hb g6
          have HV := Lib.hid ((HV.out.below hb).more hb.size)
          clear hb
          have hob := HOB.out
          go_wp2_with fail
          have NW := nat_word_out B0 m0 d0 kn w11 (.inr (by omega))
          refine NW.mono ?_
          clear NW
          rintro e w12 ⟨rfl, hb⟩
          have hB := keep_below hB hb
          have HX := Lib.hid (HX.out.below hb)
          have HP := Lib.hid (HP.out.below hb)
          have g6 := keep_cell hb g6
          have HV := Lib.hid ((HV.out.below hb).more hb.size)
          clear hb hob hz2
          have hcase : m0 = 0 ∨ m0 = 1 ∨ 1 < m0 := by omega
          rcases hcase with hc | hc | hc
          · obtain rfl : xu = 0 := (HXU.out.1 (by omega)).trans (wd_above x 0 (by rw [HX.out.len]; omega))
            obtain rfl : ob = true := by rw [← HOB.out]; simp; omega
            have f1 : ((m0 : Int) == 1) = false := beq_eq_false_iff_ne.2 (by omega)
            have f2 : ((m0 : Int) == 0) = true := by simp; omega
            clear HXU HOB hc
            go_wp2_with fail
            have hbnd := HS0.out.bits
            obtain ⟨bl, hbl⟩ : ∃ b, bitLen x = b := ⟨_, rfl⟩
            rw [hbl] at hbnd
            have HBL := Lib.hid hbl
            clear hbl
            go_loop [15] (fun tw => ∃ j : Nat, j ≤ bl ∧ tw = .int .i64 j ∧ Hid (LowZ x j)) (fun tw => bl - (intOf tw).toNat)
            case atStart => exact ⟨0, Nat.zero_le _, rfl, LowZ.start x⟩
            case round =>
              obtain ⟨j, hj, rfl, H⟩ := hrel
              have RB := ref2_bits x C0 r0 f0 w12 HP.out (by omega)
              rw [HBL.out] at RB
              have HRB := Lib.hid RB
              clear RB
              by_cases hl3 : j < bl
              · have RT := ref2_bit x j C0 r0 f0 w12 HP.out (by omega) (by omega)
                rcases Nat.mod_two_eq_zero_or_one (x / 2 ^ j) with hbit | hbit
                · have HN := Lib.hid (H.out.step hbit)
                  rw [hbit] at RT
                  have HRT := Lib.hid RT
                  clear RT hbit
                  go_wp2_with fail
                  refine HRB.out.mono ?_
                  rintro e w' ⟨rfl, rfl⟩
                  go_wp2_with fail
                  refine HRT.out.mono ?_
                  rintro e w' ⟨rfl, rfl⟩
                  go_wp2
                  go_round
                  case rel => exact ⟨j + 1, by omega, by go_num, HN⟩
                  case measure => simp [intOf]; omega
                · have HJ := Lib.hid (H.out.hit (by rw [HBL.out]; exact hl3) hbit)
                  rw [hbit] at RT
                  have HRT := Lib.hid RT
                  clear RT hbit
                  go_wp2_with fail
                  refine HRB.out.mono ?_
                  rintro e w' ⟨rfl, rfl⟩
                  go_wp2_with fail
                  refine HRT.out.mono ?_
                  rintro e w' ⟨rfl, rfl⟩
                  clear HRB HRT
                  go_wp2_with fail
                  have NB := nat_bits x B0 m0 d0 w12 HX.out (by omega)
                  rw [HBL.out] at NB
                  refine NB.mono ?_
                  clear NB
                  rintro e w13 ⟨rfl, hb⟩
                  have hB := keep_below hB hb
                  have HX := Lib.hid (HX.out.below hb)
                  have HP := Lib.hid (HP.out.below hb)
                  have g6 := keep_cell hb g6
                  clear hb
                  go_wp2_with fail
                  have RB := ref2_bits x C0 r0 f0 w13 HP.out (by omega)
                  rw [HBL.out] at RB
                  refine RB.mono ?_
                  clear RB
                  rintro e w' ⟨rfl, rfl⟩
                  go_wp2_with fail
                  have NT := nat_bit x kn B0 m0 d0 w13 HX.out (by omega)
                  have hb2 : x / 2 ^ kn % 2 < 2 := Nat.mod_lt _ (by decide)
                  obtain ⟨bb, hbb⟩ : ∃ b, x / 2 ^ kn % 2 = b := ⟨_, rfl⟩
                  rw [hbb] at NT hb2
                  have HBB := Lib.hid hbb
                  have hwb : IntKind.u64.wrap (bb : Int) = (bb : Int) := IntWalk.u64_in _ (by omega)
                  clear hbb
                  refine NT.mono ?_
                  clear NT
                  rintro e w14 ⟨rfl, hb⟩
                  have hB := keep_below hB hb
                  have HX := Lib.hid (HX.out.below hb)
                  have HP := Lib.hid (HP.out.below hb)
                  have g6 := keep_cell hb g6
                  clear hb
                  go_wp2_with fail
                  have RT := ref2_bit x kn C0 r0 f0 w14 HP.out (by omega) (by omega)
                  rw [HBB.out] at RT
                  refine RT.mono ?_
                  clear RT
                  rintro e w' ⟨rfl, rfl⟩
                  go_wp2_with fail
                  have NW2 := nat_twos x B0 m0 d0 w14 HX.out (by omega) (HTB.out.on hB)
                  rw [← HJ.out] at NW2
                  refine NW2.mono ?_
                  clear NW2
                  rintro e w15 ⟨rfl, hb⟩
                  have hB := keep_below hB hb
                  clear hb
                  go_wp2
                  go_ret
                  exact ⟨by first | rfl | simp, hB⟩
              · have hje : j = bl := by omega
                have HJ : Hid (j = twosN x) := by
                  show _ = _
                  have h := H.out
                  rw [hje, ← HBL.out] at h ⊢
                  exact h.full
                clear hje
                go_wp2_with fail
                refine HRB.out.mono ?_
                rintro e w' ⟨rfl, rfl⟩
                clear HRB
                go_wp2_with fail
                have NB := nat_bits x B0 m0 d0 w12 HX.out (by omega)
                rw [HBL.out] at NB
                refine NB.mono ?_
                clear NB
                rintro e w13 ⟨rfl, hb⟩
                have hB := keep_below hB hb
                have HX := Lib.hid (HX.out.below hb)
                have HP := Lib.hid (HP.out.below hb)
                have g6 := keep_cell hb g6
                clear hb
                go_wp2_with fail
                have RB := ref2_bits x C0 r0 f0 w13 HP.out (by omega)
                rw [HBL.out] at RB
                refine RB.mono ?_
                clear RB
                rintro e w' ⟨rfl, rfl⟩
                go_wp2_with fail
                have NT := nat_bit x kn B0 m0 d0 w13 HX.out (by omega)
                have hb2 : x / 2 ^ kn % 2 < 2 := Nat.mod_lt _ (by decide)
                obtain ⟨bb, hbb⟩ : ∃ b, x / 2 ^ kn % 2 = b := ⟨_, rfl⟩
                rw [hbb] at NT hb2
                have HBB := Lib.hid hbb
                have hwb : IntKind.u64.wrap (bb : Int) = (bb : Int) := IntWalk.u64_in _ (by omega)
                clear hbb
                refine NT.mono ?_
                clear NT
                rintro e w14 ⟨rfl, hb⟩
                have hB := keep_below hB hb
                have HX := Lib.hid (HX.out.below hb)
                have HP := Lib.hid (HP.out.below hb)
                have g6 := keep_cell hb g6
                clear hb
                go_wp2_with fail
                have RT := ref2_bit x kn C0 r0 f0 w14 HP.out (by omega) (by omega)
                rw [HBB.out] at RT
                refine RT.mono ?_
                clear RT
                rintro e w' ⟨rfl, rfl⟩
                go_wp2_with fail
                have NW2 := nat_twos x B0 m0 d0 w14 HX.out (by omega) (HTB.out.on hB)
                rw [← HJ.out] at NW2
                refine NW2.mono ?_
                clear NW2
                rintro e w15 ⟨rfl, hb⟩
                have hB := keep_below hB hb
                clear hb
                go_wp2
                go_ret
                exact ⟨by first | rfl | simp, hB⟩
          · obtain ⟨ad2, e2', _, hcv'⟩ := val_at HV.out (show 0 < m0 by omega)
            cases e2'
            rw [wd_get] at hcv'
            have hxw := HXU.out.1 (by omega)
            rw [← hxw] at hcv'
            have hcv2 : w12.cell? ad2 = some (.int .u64 (xu : Nat)) := hcv'
            obtain rfl : ob = true := by rw [← HOB.out]; simp; omega
            have f1 : ((m0 : Int) == 1) = true := by simp; omega
            have f2 : ((m0 : Int) == 0) = false := beq_eq_false_iff_ne.2 (by omega)
            have f3 : (0 : Int) < (m0 : Int) := by omega
            have f4 : 0 < m0 := by omega
            clear HXU HOB hc hxw
            go_wp2_with fail
            have hbnd := HS0.out.bits
            obtain ⟨bl, hbl⟩ : ∃ b, bitLen x = b := ⟨_, rfl⟩
            rw [hbl] at hbnd
            have HBL := Lib.hid hbl
            clear hbl
            go_loop [15] (fun tw => ∃ j : Nat, j ≤ bl ∧ tw = .int .i64 j ∧ Hid (LowZ x j)) (fun tw => bl - (intOf tw).toNat)
            case atStart => exact ⟨0, Nat.zero_le _, rfl, LowZ.start x⟩
            case round =>
              obtain ⟨j, hj, rfl, H⟩ := hrel
              have RB := ref2_bits x C0 r0 f0 w12 HP.out (by omega)
              rw [HBL.out] at RB
              have HRB := Lib.hid RB
              clear RB
              by_cases hl3 : j < bl
              · have RT := ref2_bit x j C0 r0 f0 w12 HP.out (by omega) (by omega)
                rcases Nat.mod_two_eq_zero_or_one (x / 2 ^ j) with hbit | hbit
                · have HN := Lib.hid (H.out.step hbit)
                  rw [hbit] at RT
                  have HRT := Lib.hid RT
                  clear RT hbit
                  go_wp2_with fail
                  refine HRB.out.mono ?_
                  rintro e w' ⟨rfl, rfl⟩
                  go_wp2_with fail
                  refine HRT.out.mono ?_
                  rintro e w' ⟨rfl, rfl⟩
                  go_wp2
                  go_round
                  case rel => exact ⟨j + 1, by omega, by go_num, HN⟩
                  case measure => simp [intOf]; omega
                · have HJ := Lib.hid (H.out.hit (by rw [HBL.out]; exact hl3) hbit)
                  rw [hbit] at RT
                  have HRT := Lib.hid RT
                  clear RT hbit
                  go_wp2_with fail
                  refine HRB.out.mono ?_
                  rintro e w' ⟨rfl, rfl⟩
                  go_wp2_with fail
                  refine HRT.out.mono ?_
                  rintro e w' ⟨rfl, rfl⟩
                  clear HRB HRT
                  go_wp2_with fail
                  have NB := nat_bits x B0 m0 d0 w12 HX.out (by omega)
                  rw [HBL.out] at NB
                  refine NB.mono ?_
                  clear NB
                  rintro e w13 ⟨rfl, hb⟩
                  have hB := keep_below hB hb
                  have HX := Lib.hid (HX.out.below hb)
                  have HP := Lib.hid (HP.out.below hb)
                  have g6 := keep_cell hb g6
                  clear hb
                  go_wp2_with fail
                  have RB := ref2_bits x C0 r0 f0 w13 HP.out (by omega)
                  rw [HBL.out] at RB
                  refine RB.mono ?_
                  clear RB
                  rintro e w' ⟨rfl, rfl⟩
                  go_wp2_with fail
                  have NT := nat_bit x kn B0 m0 d0 w13 HX.out (by omega)
                  have hb2 : x / 2 ^ kn % 2 < 2 := Nat.mod_lt _ (by decide)
                  obtain ⟨bb, hbb⟩ : ∃ b, x / 2 ^ kn % 2 = b := ⟨_, rfl⟩
                  rw [hbb] at NT hb2
                  have HBB := Lib.hid hbb
                  have hwb : IntKind.u64.wrap (bb : Int) = (bb : Int) := IntWalk.u64_in _ (by omega)
                  clear hbb
                  refine NT.mono ?_
                  clear NT
                  rintro e w14 ⟨rfl, hb⟩
                  have hB := keep_below hB hb
                  have HX := Lib.hid (HX.out.below hb)
                  have HP := Lib.hid (HP.out.below hb)
                  have g6 := keep_cell hb g6
                  clear hb
                  go_wp2_with fail
                  have RT := ref2_bit x kn C0 r0 f0 w14 HP.out (by omega) (by omega)
                  rw [HBB.out] at RT
                  refine RT.mono ?_
                  clear RT
                  rintro e w' ⟨rfl, rfl⟩
                  go_wp2_with fail
                  have NW2 := nat_twos x B0 m0 d0 w14 HX.out (by omega) (HTB.out.on hB)
                  rw [← HJ.out] at NW2
                  refine NW2.mono ?_
                  clear NW2
                  rintro e w15 ⟨rfl, hb⟩
                  have hB := keep_below hB hb
                  clear hb
                  go_wp2
                  go_ret
                  exact ⟨by first | rfl | simp, hB⟩
              · have hje : j = bl := by omega
                have HJ : Hid (j = twosN x) := by
                  show _ = _
                  have h := H.out
                  rw [hje, ← HBL.out] at h ⊢
                  exact h.full
                clear hje
                go_wp2_with fail
                refine HRB.out.mono ?_
                rintro e w' ⟨rfl, rfl⟩
                clear HRB
                go_wp2_with fail
                have NB := nat_bits x B0 m0 d0 w12 HX.out (by omega)
                rw [HBL.out] at NB
                refine NB.mono ?_
                clear NB
                rintro e w13 ⟨rfl, hb⟩
                have hB := keep_below hB hb
                have HX := Lib.hid (HX.out.below hb)
                have HP := Lib.hid (HP.out.below hb)
                have g6 := keep_cell hb g6
                clear hb
                go_wp2_with fail
                have RB := ref2_bits x C0 r0 f0 w13 HP.out (by omega)
                rw [HBL.out] at RB
                refine RB.mono ?_
                clear RB
                rintro e w' ⟨rfl, rfl⟩
                go_wp2_with fail
                have NT := nat_bit x kn B0 m0 d0 w13 HX.out (by omega)
                have hb2 : x / 2 ^ kn % 2 < 2 := Nat.mod_lt _ (by decide)
                obtain ⟨bb, hbb⟩ : ∃ b, x / 2 ^ kn % 2 = b := ⟨_, rfl⟩
                rw [hbb] at NT hb2
                have HBB := Lib.hid hbb
                have hwb : IntKind.u64.wrap (bb : Int) = (bb : Int) := IntWalk.u64_in _ (by omega)
                clear hbb
                refine NT.mono ?_
                clear NT
                rintro e w14 ⟨rfl, hb⟩
                have hB := keep_below hB hb
                have HX := Lib.hid (HX.out.below hb)
                have HP := Lib.hid (HP.out.below hb)
                have g6 := keep_cell hb g6
                clear hb
                go_wp2_with fail
                have RT := ref2_bit x kn C0 r0 f0 w14 HP.out (by omega) (by omega)
                rw [HBB.out] at RT
                refine RT.mono ?_
                clear RT
                rintro e w' ⟨rfl, rfl⟩
                go_wp2_with fail
                have NW2 := nat_twos x B0 m0 d0 w14 HX.out (by omega) (HTB.out.on hB)
                rw [← HJ.out] at NW2
                refine NW2.mono ?_
                clear NW2
                rintro e w15 ⟨rfl, hb⟩
                have hB := keep_below hB hb
                clear hb
                go_wp2
                go_ret
                exact ⟨by first | rfl | simp, hB⟩
          · obtain rfl : xu = 0 := HXU.out.2 hc
            obtain rfl : ob = false := by rw [← HOB.out]; simp; omega
            have f1 : ((m0 : Int) == 1) = false := beq_eq_false_iff_ne.2 (by omega)
            have f2 : ((m0 : Int) == 0) = false := beq_eq_false_iff_ne.2 (by omega)
            clear HXU HOB
            go_wp2_with fail
            have hbnd := HS0.out.bits
            obtain ⟨bl, hbl⟩ : ∃ b, bitLen x = b := ⟨_, rfl⟩
            rw [hbl] at hbnd
            have HBL := Lib.hid hbl
            clear hbl
            go_loop [15] (fun tw => ∃ j : Nat, j ≤ bl ∧ tw = .int .i64 j ∧ Hid (LowZ x j)) (fun tw => bl - (intOf tw).toNat)
            case atStart => exact ⟨0, Nat.zero_le _, rfl, LowZ.start x⟩
            case round =>
              obtain ⟨j, hj, rfl, H⟩ := hrel
              have RB := ref2_bits x C0 r0 f0 w12 HP.out (by omega)
              rw [HBL.out] at RB
              have HRB := Lib.hid RB
              clear RB
              by_cases hl3 : j < bl
              · have RT := ref2_bit x j C0 r0 f0 w12 HP.out (by omega) (by omega)
                rcases Nat.mod_two_eq_zero_or_one (x / 2 ^ j) with hbit | hbit
                · have HN := Lib.hid (H.out.step hbit)
                  rw [hbit] at RT
                  have HRT := Lib.hid RT
                  clear RT hbit
                  go_wp2_with fail
                  refine HRB.out.mono ?_
                  rintro e w' ⟨rfl, rfl⟩
                  go_wp2_with fail
                  refine HRT.out.mono ?_
                  rintro e w' ⟨rfl, rfl⟩
                  go_wp2
                  go_round
                  case rel => exact ⟨j + 1, by omega, by go_num, HN⟩
                  case measure => simp [intOf]; omega
                · have HJ := Lib.hid (H.out.hit (by rw [HBL.out]; exact hl3) hbit)
                  rw [hbit] at RT
                  have HRT := Lib.hid RT
                  clear RT hbit
                  go_wp2_with fail
                  refine HRB.out.mono ?_
                  rintro e w' ⟨rfl, rfl⟩
                  go_wp2_with fail
                  refine HRT.out.mono ?_
                  rintro e w' ⟨rfl, rfl⟩
                  clear HRB HRT
                  go_wp2_with fail
                  have NB := nat_bits x B0 m0 d0 w12 HX.out (by omega)
                  rw [HBL.out] at NB
                  refine NB.mono ?_
                  clear NB
                  rintro e w13 ⟨rfl, hb⟩
                  have hB := keep_below hB hb
                  have HX := Lib.hid (HX.out.below hb)
                  have HP := Lib.hid (HP.out.below hb)
                  have g6 := keep_cell hb g6
                  clear hb
                  go_wp2_with fail
                  have RB := ref2_bits x C0 r0 f0 w13 HP.out (by omega)
                  rw [HBL.out] at RB
                  refine RB.mono ?_
                  clear RB
                  rintro e w' ⟨rfl, rfl⟩
                  go_wp2_with fail
                  have NT := nat_bit x kn B0 m0 d0 w13 HX.out (by omega)
                  have hb2 : x / 2 ^ kn % 2 < 2 := Nat.mod_lt _ (by decide)
                  obtain ⟨bb, hbb⟩ : ∃ b, x / 2 ^ kn % 2 = b := ⟨_, rfl⟩
                  rw [hbb] at NT hb2
                  have HBB := Lib.hid hbb
                  have hwb : IntKind.u64.wrap (bb : Int) = (bb : Int) := IntWalk.u64_in _ (by omega)
                  clear hbb
                  refine NT.mono ?_
                  clear NT
                  rintro e w14 ⟨rfl, hb⟩
                  have hB := keep_below hB hb
                  have HX := Lib.hid (HX.out.below hb)
                  have HP := Lib.hid (HP.out.below hb)
                  have g6 := keep_cell hb g6
                  clear hb
                  go_wp2_with fail
                  have RT := ref2_bit x kn C0 r0 f0 w14 HP.out (by omega) (by omega)
                  rw [HBB.out] at RT
                  refine RT.mono ?_
                  clear RT
                  rintro e w' ⟨rfl, rfl⟩
                  go_wp2_with fail
                  have NW2 := nat_twos x B0 m0 d0 w14 HX.out (by omega) (HTB.out.on hB)
                  rw [← HJ.out] at NW2
                  refine NW2.mono ?_
                  clear NW2
                  rintro e w15 ⟨rfl, hb⟩
                  have hB := keep_below hB hb
                  clear hb
                  go_wp2
                  go_ret
                  exact ⟨by first | rfl | simp, hB⟩
              · have hje : j = bl := by omega
                have HJ : Hid (j = twosN x) := by
                  show _ = _
                  have h := H.out
                  rw [hje, ← HBL.out] at h ⊢
                  exact h.full
                clear hje
                go_wp2_with fail
                refine HRB.out.mono ?_
                rintro e w' ⟨rfl, rfl⟩
                clear HRB
                go_wp2_with fail
                have NB := nat_bits x B0 m0 d0 w12 HX.out (by omega)
                rw [HBL.out] at NB
                refine NB.mono ?_
                clear NB
                rintro e w13 ⟨rfl, hb⟩
                have hB := keep_below hB hb
                have HX := Lib.hid (HX.out.below hb)
                have HP := Lib.hid (HP.out.below hb)
                have g6 := keep_cell hb g6
                clear hb
                go_wp2_with fail
                have RB := ref2_bits x C0 r0 f0 w13 HP.out (by omega)
                rw [HBL.out] at RB
                refine RB.mono ?_
                clear RB
                rintro e w' ⟨rfl, rfl⟩
                go_wp2_with fail
                have NT := nat_bit x kn B0 m0 d0 w13 HX.out (by omega)
                have hb2 : x / 2 ^ kn % 2 < 2 := Nat.mod_lt _ (by decide)
                obtain ⟨bb, hbb⟩ : ∃ b, x / 2 ^ kn % 2 = b := ⟨_, rfl⟩
                rw [hbb] at NT hb2
                have HBB := Lib.hid hbb
                have hwb : IntKind.u64.wrap (bb : Int) = (bb : Int) := IntWalk.u64_in _ (by omega)
                clear hbb
                refine NT.mono ?_
                clear NT
                rintro e w14 ⟨rfl, hb⟩
                have hB := keep_below hB hb
                have HX := Lib.hid (HX.out.below hb)
                have HP := Lib.hid (HP.out.below hb)
                have g6 := keep_cell hb g6
                clear hb
                go_wp2_with fail
                have RT := ref2_bit x kn C0 r0 f0 w14 HP.out (by omega) (by omega)
                rw [HBB.out] at RT
                refine RT.mono ?_
                clear RT
                rintro e w' ⟨rfl, rfl⟩
                go_wp2_with fail
                have NW2 := nat_twos x B0 m0 d0 w14 HX.out (by omega) (HTB.out.on hB)
                rw [← HJ.out] at NW2
                refine NW2.mono ?_
                clear NW2
                rintro e w15 ⟨rfl, hb⟩
                have hB := keep_below hB hb
                clear hb
                go_wp2
                go_ret
                exact ⟨by first | rfl | simp, hB⟩
end Go.Proofs.YtlofionccgjndaaDoor
