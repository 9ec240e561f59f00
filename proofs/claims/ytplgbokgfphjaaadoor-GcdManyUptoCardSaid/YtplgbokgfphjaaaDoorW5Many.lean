/-
  The walk of the law GcdMany. Conditions: the rows that came in hold words, at most 1048576 of each, and are at most 1048576; quot's and gcd's functions do as QuotC and GcdC say.
-/
import Derived.Test.YtplgbokgfphjaaaDoorRows
import Derived.Test.YtplgbokgfphjaaaDoorW5Awake
import Derived.Test.YtplgbokgfphjaaaDoorW5ManyMath
import Derived.Test.YtplgbokgfphjaaaDoorUArgs2
import Derived.Test.YtplgbokgfphjaaaDoorTNat
import Derived.WalkKit
import Derived.Lib.Hide
import Derived.Outline
import Derived.Deep.RegionHeld3
import Derived.LoopTactic
import Derived.Deep.LoopGhost
import Derived.IntWalk
import Derived.Deep.DeepCutAuto
import Derived.Deep.CutBlock
namespace Go.Proofs.YtplgbokgfphjaaaDoor
open Go Go.RowKit
set_option maxRecDepth 100000
set_option linter.unusedVariables false
set_option linter.unusedSimpArgs false
set_option maxHeartbeats 16000000 in
theorem gcdMany_walk (QC : QuotC) (GC : GcdC) (A0 : Option Addr) (n0 c0 : Nat) (R : Nat → Option Addr × Nat × Nat × List Nat) (w : World) (h0 : ArgRows w A0 n0 c0 R) (hT : TabAt w) :
    Calls Tryd.prog 8 #[.slice A0 n0 c0] w fun e w' => e = .returned (.bool true) ∧ Below w.heap.size w w' := by
  obtain ⟨i1', hi1, hz10, hz11, hz12⟩ := info_parts infoN
  have HQC := Lib.hid QC
  have HGC := Lib.hid GC
  have HTB := Lib.hid (fun w' (h : Below w.heap.size w w') => hT.on h)
  have HR := Lib.hid h0.row
  have hn0 : n0 ≤ 1048576 := Nat.le_trans h0.fits h0.small
  obtain ⟨K, hK⟩ : ∃ K, 1048576 = K := ⟨_, rfl⟩
  obtain ⟨M, hM⟩ : ∃ M, 8388609 = M := ⟨_, rfl⟩
  have hKM : K * 8 + 1 = M := by omega
  have hKb : K ≤ 1048576 := by omega
  have SX : ∀ r, r < n0 → Sz K (dv 18446744073709551616 (R r).2.2.2) := fun r hr => by
    obtain ⟨_, _, _, _, ha⟩ := h0.row r hr
    rw [← hK]
    exact arg_sz ha
  have HSX := Lib.hid SX
  have HSG : Hid (∀ k, k ≤ 8 → k ≤ n0 → Sz M (gcdL (rowNums R k))) := fun k h1 h2 => (gcdL_sz R k (fun r hr => SX r (by omega))).up (by have := Nat.mul_le_mul (Nat.le_refl K) h1; omega)
  have HSL : Hid (∀ k, k ≤ 8 → k ≤ n0 → Sz M (lcmL (rowNums R k))) := fun k h1 h2 => (lcmL_sz R k (fun r hr => SX r (by omega))).up (by have := Nat.mul_le_mul (Nat.le_refl K) h1; omega)
  have hMb : M ≤ 8388609 := by omega
  clear h0 SX hK hM hKM QC GC hT
  go_enter Tryd.func8, Tryd.ntmps8
  go_upto_block 0 with ((with_reducible refine (law5_awake HGC.out _ (HTB.out _ (Below.refl _ _))).mono ?_); rintro e w1 ⟨rfl, hB⟩)
  obtain ⟨q, hq⟩ : ∃ q, w1.heap.size = q := ⟨_, rfl⟩
  have hwq : w.heap.size ≤ q := by have := hB.size; omega
  have hq1 : q ≤ w1.heap.size := by omega
  clear hq
  go_cut [3, 4] (fun sl zz wc => ∃ (k : Nat) (v : Value) (vs : List Value), k ≤ n0 ∧ k ≤ 8 ∧ (k = n0 ∨ k = 8) ∧ sl = v ∧ zz = .bool (anyZ R k) ∧ OwnNums wc q v (rowNums R k) vs ∧ Below w.heap.size w wc ∧ q ≤ wc.heap.size)
  case first =>
    go_wp2_with fail
    go_loopg [3, 4, 5] 9 (fun g sl zz ix wr => ∃ (k : Nat) (v : Value) (vs : List Value), k ≤ n0 ∧ k ≤ 8 ∧ 8 < g + k ∧ ix = .int .i64 k ∧ zz = .bool (anyZ R k) ∧ v = sl ∧ OwnNums wr q v (rowNums R k) vs ∧ Below w.heap.size w wr ∧ q ≤ wr.heap.size)
    case atStart => exact ⟨0, _, _, Nat.zero_le _, by omega, by omega, rfl, rfl, rfl, OwnNums.nil _ _, hB, hq1⟩
    case round =>
      clear hB hq1
      obtain ⟨k, v, vs, hkn, hk8, hg, rfl, rfl, rfl, hon, hB, hbz⟩ := hrel
      by_cases hlt : k < n0
      · by_cases hlt2 : k < 8
        · obtain ⟨ad, rfl, hadb, hcl, harg⟩ := HR.out k hlt
          have HRS : Hid (rowNums R (k + 1) = rowNums R k ++ [dv 18446744073709551616 (R k).2.2.2]) := rowNums_succ R k
          have hS0 := HSX.out k hlt
          have HZ1 : Hid (anyZ R k = true → anyZ R (k + 1) = true) := anyZ_yes R
          have HZ2 : Hid (dv 18446744073709551616 (R k).2.2.2 = 0 → anyZ R (k + 1) = true) := anyZ_zero R
          have HZ3 : Hid (anyZ R k = false → dv 18446744073709551616 (R k).2.2.2 ≠ 0 → anyZ R (k + 1) = false) := anyZ_no R
          have HGT : Hid ((rowNums R (k + 1)).getD k 0 = dv 18446744073709551616 (R k).2.2.2) := rowNums_get R (by omega)
          obtain ⟨qq, hqq⟩ : ∃ q, R k = q := ⟨_, rfl⟩
          rw [hqq] at hcl harg HRS hS0 HZ2 HZ3 HGT
          obtain ⟨Ar, nr, cr, lr⟩ := qq
          dsimp only at hcl harg HRS hS0 HZ2 HZ3 HGT
          have O := arg_of harg
          obtain ⟨x, hx⟩ : ∃ x, dv 18446744073709551616 lr = x := ⟨_, rfl⟩
          rw [hx] at O HRS hS0 HZ2 HZ3 HGT
          have HO := Lib.hid O
          have HSx := Lib.hid hS0
          have hcl2 : wr.cell? (ad.add k) = some (.slice Ar nr cr) := (hB.cell (by rw [block_of_add]; exact hadb)).trans hcl
          have i1 : (0 : Int) ≤ (k : Int) := by omega
          have i2 : (k : Int) < (n0 : Int) := by omega
          clear hqq hcl harg O hx hS0
          have i3 : (k : Int) < ((k + 1 : Nat) : Int) := by omega
          have i4 : (k : Int) < (k : Int) + 1 := by omega
          cases hz : anyZ R k
          · by_cases hx0 : x = 0
            · have hz' := HZ2.out hx0
              go_wp2_with fail
              refine (HO.out _ hB).mono ?_
              rintro e w5 ⟨Bn, mn, dn, rfl, hwn, hb, hfn⟩
              have hmn := HSx.out.words hwn
              have han := Apart.fresh (m := mn) hfn hon.own hbz
              have hob : ∀ r, v.ownBlock = some r → q ≤ r ∧ r < wr.heap.size := fun r h => hon.own.lt r h
              have hwz := hb.size
              obtain ⟨c1, c2, c3⟩ := box1 w5 29 #[.slice Bn mn dn]
              have hup := keep_below hb c1
              have HB := Lib.hid (keep_below hB hup)
              have HON := Lib.hid (hon.below hup)
              have HWN := Lib.hid (hwn.below c1)
              have hrd : Reads (w5.alloc (.cells #[.slice Bn mn dn] 29)) (w5.heap.size + 1) 1 (some ⟨w5.heap.size, 0, none⟩) 1 [.slice Bn mn dn] := by
                refine ⟨rfl, fun _ => ⟨_, rfl, by show w5.heap.size < _; omega, fun j u hu => ?_⟩⟩
                match j, hu with
                | 0, hu => simp at hu; subst hu; exact c2.cell 0
              have HRD := Lib.hid hrd
              have hone : ∀ u ∈ [Value.slice Bn mn dn], u.oneCell' = true := by intro u hu; simp at hu; subst hu; rfl
              have HONE := Lib.hid hone
              have hrl : (rowNums R k).length = k := rowNums_len R k
              have HOWN := HON.out.own
              rw [hrl] at HOWN
              have HOWN := Lib.hid HOWN
              have HRL := Lib.hid hrl
              clear hb hB hon hwn c1 c2 c3 hup hrd hone hrl hfn hcl2
              go_wp2_with (at_builtin; refine wpList_append_any _ rfl (.tmp 22) (.tmp 28) 42 rfl q 29 i1' (.agg #[.slice none 0 0]) 1 24 Tryd.underlying42 hi1 hz10 hz11 hz12 rfl (by decide) v k vs rfl HOWN.out (w5.heap.size + 1) (some ⟨w5.heap.size, 0, none⟩) 1 1 [.slice Bn mn dn] rfl HRD.out HONE.out (by unfold maxLen; omega) (by omega) (by simp; omega) ?_; intro v' w6 hown' hgrow hat; have hon6 := OwnNums.grow HON.out HWN.out han (by rw [HRL.out]; exact hown') rfl hgrow hat; rw [← HRS.out] at hon6; have hsh := hon6.shape; rw [rowNums_len] at hsh; obtain ⟨Av, cv, rfl, hnum⟩ := hsh; obtain ⟨ad7, B7, m7, d7, rfl, hb7, hc7, hw7⟩ := hnum.num k (by omega); rw [HGT.out] at hw7; have hsz6 : q ≤ w6.heap.size := (by have := hgrow.size; simp at this; omega); have hB6 : Below w.heap.size w w6 := HB.out.grown hgrow (by simp; omega) (fun r hr => by have := hob r hr; omega))
              refine (zero_yes hx0 hw7).mono ?_
              rintro e w7 ⟨rfl, hb⟩
              have hon7 := hon6.below hb
              have hB7 := keep_below hB6 hb
              have hsz7 := hb.size
              go_wp2
              go_roundg (8 - k)
              case measure => omega
              case rel => exact ⟨k + 1, _, _, by omega, by omega, by omega, by go_num, by rw [hz'], rfl, hon7, hB7, by omega⟩
            · have hz' := HZ3.out hz hx0
              go_wp2_with fail
              refine (HO.out _ hB).mono ?_
              rintro e w5 ⟨Bn, mn, dn, rfl, hwn, hb, hfn⟩
              have hmn := HSx.out.words hwn
              have han := Apart.fresh (m := mn) hfn hon.own hbz
              have hob : ∀ r, v.ownBlock = some r → q ≤ r ∧ r < wr.heap.size := fun r h => hon.own.lt r h
              have hwz := hb.size
              obtain ⟨c1, c2, c3⟩ := box1 w5 29 #[.slice Bn mn dn]
              have hup := keep_below hb c1
              have HB := Lib.hid (keep_below hB hup)
              have HON := Lib.hid (hon.below hup)
              have HWN := Lib.hid (hwn.below c1)
              have hrd : Reads (w5.alloc (.cells #[.slice Bn mn dn] 29)) (w5.heap.size + 1) 1 (some ⟨w5.heap.size, 0, none⟩) 1 [.slice Bn mn dn] := by
                refine ⟨rfl, fun _ => ⟨_, rfl, by show w5.heap.size < _; omega, fun j u hu => ?_⟩⟩
                match j, hu with
                | 0, hu => simp at hu; subst hu; exact c2.cell 0
              have HRD := Lib.hid hrd
              have hone : ∀ u ∈ [Value.slice Bn mn dn], u.oneCell' = true := by intro u hu; simp at hu; subst hu; rfl
              have HONE := Lib.hid hone
              have hrl : (rowNums R k).length = k := rowNums_len R k
              have HOWN := HON.out.own
              rw [hrl] at HOWN
              have HOWN := Lib.hid HOWN
              have HRL := Lib.hid hrl
              clear hb hB hon hwn c1 c2 c3 hup hrd hone hrl hfn hcl2
              go_wp2_with (at_builtin; refine wpList_append_any _ rfl (.tmp 22) (.tmp 28) 42 rfl q 29 i1' (.agg #[.slice none 0 0]) 1 24 Tryd.underlying42 hi1 hz10 hz11 hz12 rfl (by decide) v k vs rfl HOWN.out (w5.heap.size + 1) (some ⟨w5.heap.size, 0, none⟩) 1 1 [.slice Bn mn dn] rfl HRD.out HONE.out (by unfold maxLen; omega) (by omega) (by simp; omega) ?_; intro v' w6 hown' hgrow hat; have hon6 := OwnNums.grow HON.out HWN.out han (by rw [HRL.out]; exact hown') rfl hgrow hat; rw [← HRS.out] at hon6; have hsh := hon6.shape; rw [rowNums_len] at hsh; obtain ⟨Av, cv, rfl, hnum⟩ := hsh; obtain ⟨ad7, B7, m7, d7, rfl, hb7, hc7, hw7⟩ := hnum.num k (by omega); rw [HGT.out] at hw7; have hsz6 : q ≤ w6.heap.size := (by have := hgrow.size; simp at this; omega); have hB6 : Below w.heap.size w w6 := HB.out.grown hgrow (by simp; omega) (fun r hr => by have := hob r hr; omega))
              refine (zero_no hx0 hw7).mono ?_
              rintro e w7 ⟨rfl, hb⟩
              have hon7 := hon6.below hb
              have hB7 := keep_below hB6 hb
              have hsz7 := hb.size
              go_wp2
              go_roundg (8 - k)
              case measure => omega
              case rel => exact ⟨k + 1, _, _, by omega, by omega, by omega, by go_num, by rw [hz'], rfl, hon7, hB7, by omega⟩
          · have hz' := HZ1.out hz
            go_wp2_with fail
            refine (HO.out _ hB).mono ?_
            rintro e w5 ⟨Bn, mn, dn, rfl, hwn, hb, hfn⟩
            have hmn := HSx.out.words hwn
            have han := Apart.fresh (m := mn) hfn hon.own hbz
            have hob : ∀ r, v.ownBlock = some r → q ≤ r ∧ r < wr.heap.size := fun r h => hon.own.lt r h
            have hwz := hb.size
            obtain ⟨c1, c2, c3⟩ := box1 w5 29 #[.slice Bn mn dn]
            have hup := keep_below hb c1
            have HB := Lib.hid (keep_below hB hup)
            have HON := Lib.hid (hon.below hup)
            have HWN := Lib.hid (hwn.below c1)
            have hrd : Reads (w5.alloc (.cells #[.slice Bn mn dn] 29)) (w5.heap.size + 1) 1 (some ⟨w5.heap.size, 0, none⟩) 1 [.slice Bn mn dn] := by
              refine ⟨rfl, fun _ => ⟨_, rfl, by show w5.heap.size < _; omega, fun j u hu => ?_⟩⟩
              match j, hu with
              | 0, hu => simp at hu; subst hu; exact c2.cell 0
            have HRD := Lib.hid hrd
            have hone : ∀ u ∈ [Value.slice Bn mn dn], u.oneCell' = true := by intro u hu; simp at hu; subst hu; rfl
            have HONE := Lib.hid hone
            have hrl : (rowNums R k).length = k := rowNums_len R k
            have HOWN := HON.out.own
            rw [hrl] at HOWN
            have HOWN := Lib.hid HOWN
            have HRL := Lib.hid hrl
            clear hb hB hon hwn c1 c2 c3 hup hrd hone hrl hfn hcl2
            go_wp2_with (at_builtin; refine wpList_append_any _ rfl (.tmp 22) (.tmp 28) 42 rfl q 29 i1' (.agg #[.slice none 0 0]) 1 24 Tryd.underlying42 hi1 hz10 hz11 hz12 rfl (by decide) v k vs rfl HOWN.out (w5.heap.size + 1) (some ⟨w5.heap.size, 0, none⟩) 1 1 [.slice Bn mn dn] rfl HRD.out HONE.out (by unfold maxLen; omega) (by omega) (by simp; omega) ?_; intro v' w6 hown' hgrow hat; have hon6 := OwnNums.grow HON.out HWN.out han (by rw [HRL.out]; exact hown') rfl hgrow hat; rw [← HRS.out] at hon6; have hsh := hon6.shape; rw [rowNums_len] at hsh; obtain ⟨Av, cv, rfl, hnum⟩ := hsh; obtain ⟨ad7, B7, m7, d7, rfl, hb7, hc7, hw7⟩ := hnum.num k (by omega); rw [HGT.out] at hw7; have hsz6 : q ≤ w6.heap.size := (by have := hgrow.size; simp at this; omega); have hB6 : Below w.heap.size w w6 := HB.out.grown hgrow (by simp; omega) (fun r hr => by have := hob r hr; omega))
            go_wp2
            go_roundg (8 - k)
            case measure => omega
            case rel => exact ⟨k + 1, _, _, by omega, by omega, by omega, by go_num, by rw [hz'], rfl, hon6, hB6, by omega⟩
        · go_wp2
          go_meet
          exact ⟨k, v, vs, hkn, hk8, .inr (by omega), rfl, rfl, hon, hB, hbz⟩
      · go_wp2
        go_meet
        exact ⟨k, v, vs, hkn, hk8, .inl (by omega), rfl, rfl, hon, hB, hbz⟩
  case rest =>
    clear hB hq1
    obtain ⟨k, v, vs, hkn, hk8, hkk, rfl, rfl, hon, hB, hbz⟩ := hcut
    have hsh := hon.shape
    rw [rowNums_len] at hsh
    obtain ⟨Av, cv, rfl, hnum⟩ := hsh
    have HE : Hid (∀ i, i < k → (dg 18446744073709551616 ((rowNums R k).getD i 0)).length ≤ 1073741824) := fun i hi => by rw [rowNums_get R hi]; exact Nat.le_trans (HSX.out i (by omega)).len (by omega)
    have HG : Hid (∀ i, i ≤ k → (dg 18446744073709551616 (gcdL ((rowNums R k).take i))).length ≤ 1073741824) := fun i hi => by rw [rowNums_take R hi]; exact Nat.le_trans (HSG.out i (by omega) (by omega)).len (by omega)
    have HL : Hid (∀ i, i ≤ k → (dg 18446744073709551616 (lcmL ((rowNums R k).take i))).length ≤ 1073741824) := fun i hi => by rw [rowNums_take R hi]; exact Nat.le_trans (HSL.out i (by omega) (by omega)).len (by omega)
    have HLZ : Hid (lcmL (rowNums R k) = 0 ↔ anyZ R k = true) := lcmL_zero R k
    have HDG : Hid (∀ r, r < k → gcdL (rowNums R k) ∣ dv 18446744073709551616 (R r).2.2.2) := gcdL_dvd R k
    have HDL : Hid (∀ r, r < k → dv 18446744073709551616 (R r).2.2.2 ∣ lcmL (rowNums R k)) := dvd_lcmL R k
    have HSg := Lib.hid (HSG.out k hk8 hkn)
    have HSl := Lib.hid (HSL.out k hk8 hkn)
    have HK0 : Hid (k = 0 → gcdL (rowNums R k) = 0 ∧ lcmL (rowNums R k) = 1) := fun h => by subst h; exact ⟨rfl, rfl⟩
    have HGE : Hid (∀ i, i < k → (rowNums R k).getD i 0 = dv 18446744073709551616 (R i).2.2.2) := fun i hi => rowNums_get R hi
    generalize hgl : gcdL (rowNums R k) = gl at *
    generalize hll : lcmL (rowNums R k) = ll at *
    have Hgl := Lib.hid hgl
    have Hll := Lib.hid hll
    clear hon hgl hll hkk
    go_wp2_with fail
    refine (HGC.out.all (rowNums R k) Av k cv _ hnum (by omega) HE.out HG.out (HTB.out _ hB)).mono ?_
    rintro e w2 ⟨Bg, mg, dg', rfl, hwg, hb⟩
    rw [Hgl.out] at hwg
    have hB := keep_below hB hb
    have hnum := hnum.below hb
    clear hb
    go_wp2_with fail
    refine (HGC.out.least (rowNums R k) Av k cv _ hnum (by omega) HE.out HL.out (HTB.out _ hB)).mono ?_
    rintro e w3 ⟨Bl, ml, dl, rfl, hwl, hb⟩
    rw [Hll.out] at hwl
    have hB := keep_below hB hb
    have hnum := hnum.below hb
    have hwg := hwg.below hb
    clear hb
    obtain ⟨b1, b2, b3, b5⟩ := box2 w3 29 29 #[.slice Bg mg dg'] #[.slice Bl ml dl]
    have hB := keep_below hB b1
    have hnum := hnum.below b1
    have hwg := hwg.below b1
    have hwl := hwl.below b1
    have g6 := b2.cell 0
    have g7 := b3.cell 0
    simp only [List.getElem?_toArray, List.getElem?_cons_zero] at g6 g7
    clear b1 b5
    go_wp2_with fail
    generalize (w3.alloc (.cells #[.slice Bg mg dg'] 29)).alloc (.cells #[.slice Bl ml dl] 29) = W4 at *
    generalize w3.heap.size = gp at *
    cases hz : anyZ R k
    · refine (zero_no (fun h => by rw [HLZ.out.1 h] at hz; cases hz) hwl).mono ?_
      rintro e w5 ⟨rfl, hb⟩
      have hB := keep_below hB hb
      have hnum := hnum.below hb
      have hwg := hwg.below hb
      have hwl := hwl.below hb
      have g6 := keep_cell hb g6
      have g7 := keep_cell hb g7
      clear hb
      go_wp2_with fail
      go_loopg [48] (k + 1) (fun g jx wr => ∃ j : Nat, j ≤ k ∧ k < g + j ∧ jx = .int .i64 j ∧ NumsIn wr Av k cv (rowNums R k) ∧ WordsIn wr gl Bg mg dg' ∧ WordsIn wr ll Bl ml dl ∧ wr.cell? ⟨gp, 0, none⟩ = some (.slice Bg mg dg') ∧ wr.cell? ⟨gp + 1, 0, none⟩ = some (.slice Bl ml dl) ∧ Below w.heap.size w wr)
      case atStart => exact ⟨0, by omega, by omega, rfl, hnum, hwg, hwl, g6, g7, hB⟩
      case round =>
        clear hB hnum hwg hwl g6 g7
        obtain ⟨j, hjk, hg, rfl, hnum, hwg, hwl, g6, g7, hB⟩ := hrel
        by_cases hlt : j < k
        · obtain ⟨ad7, B7, m7, d7, rfl, hb7, hc7, hw7⟩ := hnum.num j hlt
          rw [HGE.out j hlt] at hw7
          have hdg := HDG.out j hlt
          have hdl := HDL.out j hlt
          have hsx := HSX.out j (by omega)
          obtain ⟨x, hx⟩ : ∃ x, dv 18446744073709551616 (R j).2.2.2 = x := ⟨_, rfl⟩
          rw [hx] at hw7 hdg hdl hsx
          have i1 : (0 : Int) ≤ (j : Int) := by omega
          have i2 : (j : Int) < (k : Int) := by omega
          have hm7 := hsx.words hw7
          have hmg := HSg.out.words hwg
          have hml := HSl.out.words hwl
          have Hdg := Lib.hid hdg
          have Hdl := Lib.hid hdl
          clear hx hsx hdg hdl
          obtain ⟨b1, b2, b5⟩ := box1 wr 29 #[.slice B7 m7 d7]
          have hB := keep_below hB b1
          have hnum := hnum.below b1
          have hwg := hwg.below b1
          have hwl := hwl.below b1
          have g6 := keep_cell b1 g6
          have g7 := keep_cell b1 g7
          have hw7 := hw7.below b1
          have g9 := b2.cell 0
          simp only [List.getElem?_toArray, List.getElem?_cons_zero] at g9
          clear b1 b2 b5
          go_wp2_with fail
          generalize wr.alloc (.cells #[.slice B7 m7 d7] 29) = W6 at *
          generalize wr.heap.size = g9p at *
          have HD1 := HQC.out.divides gl x Bg B7 mg m7 dg' d7 W6 hwg hw7 (by omega) (by omega)
          rw [dvdB_of Hdg.out] at HD1
          refine HD1.mono ?_
          rintro e w7 ⟨rfl, hb⟩
          have hB := keep_below hB hb
          have hnum := hnum.below hb
          have hwg := hwg.below hb
          have hwl := hwl.below hb
          have g6 := keep_cell hb g6
          have g7 := keep_cell hb g7
          have hw7 := hw7.below hb
          have g9 := keep_cell hb g9
          clear hb HD1
          go_wp2_with fail
          have HD2 := HQC.out.divides x ll B7 Bl m7 ml d7 dl _ hw7 hwl (by omega) (by omega)
          rw [dvdB_of Hdl.out] at HD2
          refine HD2.mono ?_
          rintro e w8 ⟨rfl, hb⟩
          have hB := keep_below hB hb
          have hnum := hnum.below hb
          have hwg := hwg.below hb
          have hwl := hwl.below hb
          have g6 := keep_cell hb g6
          have g7 := keep_cell hb g7
          clear hb HD2
          go_wp2
          go_roundg (k - j)
          case measure => omega
          case rel => exact ⟨j + 1, by omega, by omega, by go_num, hnum, hwg, hwl, g6, g7, hB⟩
        · by_cases hk0 : k = 0
          · have ha : decide ((k : Int) > 0) = false := by simp; omega
            have hb0 : decide ((0 : Int) < (k : Int)) = false := by simp; omega
            have hc0 : decide (0 < k) = false := by simp; omega
            have hl1 := (HK0.out hk0).2
            rw [hl1] at hwl
            have hdl1 : dg 18446744073709551616 1 = [1] := dg_one (a := 1) (by decide) (by decide)
            have hml : ml = 1 := len_of hwl hdl1
            subst hml
            clear hnum
            go_wp2_with fail
            refine (zero_yes (HK0.out hk0).1 hwg).mono ?_
            rintro e w7 ⟨rfl, hb⟩
            have hB := keep_below hB hb
            have hwl := hwl.below hb
            have g7 := keep_cell hb g7
            clear hb g6
            obtain ⟨b1, b2, b5⟩ := box1 w7 35 #[.int .u64 1]
            have hB := keep_below hB b1
            have hwl := hwl.below b1
            have g7 := keep_cell b1 g7
            clear b1 b5
            go_wp2_with fail
            refine (is_lits 1 Bl 1 dl _ _ [1] _ hwl b2 rfl rfl (dgs1 1 (by decide)) hdl1 (by decide)).mono ?_
            rintro e w8 ⟨rfl, hb⟩
            have hB := keep_below hB hb
            go_wp2
            go_ret
            exact ⟨by first | rfl | simp, hB⟩
          · have ha : decide ((k : Int) > 0) = true := by simp; omega
            have hb0 : decide ((0 : Int) < (k : Int)) = true := by simp; omega
            have hc0 : decide (0 < k) = true := by simp; omega
            go_wp2
            go_ret
            exact ⟨by first | rfl | simp, hB⟩
    · refine (zero_yes (HLZ.out.2 hz) hwl).mono ?_
      rintro e w5 ⟨rfl, hb⟩
      have hB := keep_below hB hb
      have hnum := hnum.below hb
      have hwg := hwg.below hb
      have hwl := hwl.below hb
      have g6 := keep_cell hb g6
      have g7 := keep_cell hb g7
      clear hb
      go_wp2_with fail
      go_loopg [48] (k + 1) (fun g jx wr => ∃ j : Nat, j ≤ k ∧ k < g + j ∧ jx = .int .i64 j ∧ NumsIn wr Av k cv (rowNums R k) ∧ WordsIn wr gl Bg mg dg' ∧ WordsIn wr ll Bl ml dl ∧ wr.cell? ⟨gp, 0, none⟩ = some (.slice Bg mg dg') ∧ wr.cell? ⟨gp + 1, 0, none⟩ = some (.slice Bl ml dl) ∧ Below w.heap.size w wr)
      case atStart => exact ⟨0, by omega, by omega, rfl, hnum, hwg, hwl, g6, g7, hB⟩
      case round =>
        clear hB hnum hwg hwl g6 g7
        obtain ⟨j, hjk, hg, rfl, hnum, hwg, hwl, g6, g7, hB⟩ := hrel
        by_cases hlt : j < k
        · obtain ⟨ad7, B7, m7, d7, rfl, hb7, hc7, hw7⟩ := hnum.num j hlt
          rw [HGE.out j hlt] at hw7
          have hdg := HDG.out j hlt
          have hdl := HDL.out j hlt
          have hsx := HSX.out j (by omega)
          obtain ⟨x, hx⟩ : ∃ x, dv 18446744073709551616 (R j).2.2.2 = x := ⟨_, rfl⟩
          rw [hx] at hw7 hdg hdl hsx
          have i1 : (0 : Int) ≤ (j : Int) := by omega
          have i2 : (j : Int) < (k : Int) := by omega
          have hm7 := hsx.words hw7
          have hmg := HSg.out.words hwg
          have hml := HSl.out.words hwl
          have Hdg := Lib.hid hdg
          have Hdl := Lib.hid hdl
          clear hx hsx hdg hdl
          obtain ⟨b1, b2, b5⟩ := box1 wr 29 #[.slice B7 m7 d7]
          have hB := keep_below hB b1
          have hnum := hnum.below b1
          have hwg := hwg.below b1
          have hwl := hwl.below b1
          have g6 := keep_cell b1 g6
          have g7 := keep_cell b1 g7
          have hw7 := hw7.below b1
          have g9 := b2.cell 0
          simp only [List.getElem?_toArray, List.getElem?_cons_zero] at g9
          clear b1 b2 b5
          go_wp2_with fail
          generalize wr.alloc (.cells #[.slice B7 m7 d7] 29) = W6 at *
          generalize wr.heap.size = g9p at *
          have HD1 := HQC.out.divides gl x Bg B7 mg m7 dg' d7 W6 hwg hw7 (by omega) (by omega)
          rw [dvdB_of Hdg.out] at HD1
          refine HD1.mono ?_
          rintro e w7 ⟨rfl, hb⟩
          have hB := keep_below hB hb
          have hnum := hnum.below hb
          have hwg := hwg.below hb
          have hwl := hwl.below hb
          have g6 := keep_cell hb g6
          have g7 := keep_cell hb g7
          have hw7 := hw7.below hb
          have g9 := keep_cell hb g9
          clear hb HD1
          go_wp2
          go_roundg (k - j)
          case measure => omega
          case rel => exact ⟨j + 1, by omega, by omega, by go_num, hnum, hwg, hwl, g6, g7, hB⟩
        · by_cases hk0 : k = 0
          · have ha : decide ((k : Int) > 0) = false := by simp; omega
            have hb0 : decide ((0 : Int) < (k : Int)) = false := by simp; omega
            have hc0 : decide (0 < k) = false := by simp; omega
            have hl1 := (HK0.out hk0).2
            rw [hl1] at hwl
            have hdl1 : dg 18446744073709551616 1 = [1] := dg_one (a := 1) (by decide) (by decide)
            have hml : ml = 1 := len_of hwl hdl1
            subst hml
            clear hnum
            go_wp2_with fail
            refine (zero_yes (HK0.out hk0).1 hwg).mono ?_
            rintro e w7 ⟨rfl, hb⟩
            have hB := keep_below hB hb
            have hwl := hwl.below hb
            have g7 := keep_cell hb g7
            clear hb g6
            obtain ⟨b1, b2, b5⟩ := box1 w7 35 #[.int .u64 1]
            have hB := keep_below hB b1
            have hwl := hwl.below b1
            have g7 := keep_cell b1 g7
            clear b1 b5
            go_wp2_with fail
            refine (is_lits 1 Bl 1 dl _ _ [1] _ hwl b2 rfl rfl (dgs1 1 (by decide)) hdl1 (by decide)).mono ?_
            rintro e w8 ⟨rfl, hb⟩
            have hB := keep_below hB hb
            go_wp2
            go_ret
            exact ⟨by first | rfl | simp, hB⟩
          · have ha : decide ((k : Int) > 0) = true := by simp; omega
            have hb0 : decide ((0 : Int) < (k : Int)) = true := by simp; omega
            have hc0 : decide (0 < k) = true := by simp; omega
            go_wp2
            go_ret
            exact ⟨by first | rfl | simp, hB⟩
end Go.Proofs.YtplgbokgfphjaaaDoor
