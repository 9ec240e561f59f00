/-
  The walk of the law IntegerReads. Conditions: the words and the text that came in are at most 1048576; integer's functions do as IntC says.
-/
import Derived.Test.YtnfednkphcapnaaRows
import Derived.Test.YtnfednkphcapnaaBunB
import Derived.Test.YtnfednkphcapnaaW7Like
import Derived.Test.YtnfednkphcapnaaBunF
import Derived.Test.YtnfednkphcapnaaBun6r
import Derived.WalkKit
import Derived.Lib.Hide
import Derived.Outline
import Derived.IntWalk
import Derived.Deep.RegionHeld3
namespace Go.Proofs.Ytnfednkphcapnaa
open Go Go.RowKit
set_option maxRecDepth 100000
set_option linter.unusedVariables false
set_option linter.unusedSimpArgs false
theorem okR_sz7 {s : List UInt8} {n : Nat} (h : s.length ≤ n) : Sz n (if okR s then valR s else 0) := by
  split
  · rename_i h1; exact valR_sz h1 h
  · exact zero_sz n
theorem read7_plus {s : List UInt8} (h : negI s = false) : okI s = okR (bodyI s) ∧ (if okI s then valI s else 0) = ((if okR (bodyI s) then valR (bodyI s) else 0 : Nat) : Int) := by
  have e : okI s = okR (bodyI s) := by unfold okI; rw [h]; simp
  refine ⟨e, ?_⟩
  rw [e]; unfold valI; rw [h]
  split <;> simp
theorem read7_none {s : List UInt8} (h : negI s = true) (hm : (if okR (bodyI s) then valR (bodyI s) else 0) = 0) : okI s = false ∧ (if okI s then valI s else 0) = (0 : Int) := by
  have e : okI s = false := by
    unfold okI; rw [h]
    cases h1 : okR (bodyI s)
    · rfl
    · rw [h1] at hm; simp only [if_true] at hm; rw [hm]; rfl
  exact ⟨e, by rw [e]; rfl⟩
theorem read7_minus {s : List UInt8} (h : negI s = true) (hm : (if okR (bodyI s) then valR (bodyI s) else 0) ≠ 0) : okR (bodyI s) = true ∧ okI s = true ∧ (if okI s then valI s else 0) = -((if okR (bodyI s) then valR (bodyI s) else 0 : Nat) : Int) := by
  cases h1 : okR (bodyI s)
  · rw [h1] at hm; exact absurd rfl hm
  · rw [h1] at hm
    simp only [if_true] at hm
    have e : okI s = true := by unfold okI; rw [h, h1]; simp [hm]
    refine ⟨rfl, e, ?_⟩
    rw [e]; unfold valI; rw [h]; simp
theorem text7_minus {x : Int} (h : x < 0) : ({ data := #[45] } : ByteArray) ++ strS (textS x.natAbs) = strS (textI x) := by
  unfold textI; rw [if_pos h]
  apply ByteArray.ext
  rw [ByteArray.data_append]
  simp [strS]
theorem text7_plus {x : Int} (h : ¬ x < 0) : strS (textS x.natAbs) = strS (textI x) := by unfold textI; rw [if_neg h]
theorem rest7 (s : ByteArray) (h : negI s.data.toList = true) : s.extract 1 s.size = strS (bodyI s.data.toList) := by
  unfold bodyI; unfold negI at h; rw [if_pos (of_decide_eq_true h)]
  apply ByteArray.ext
  apply Array.toList_inj.1
  rw [ByteArray.data_extract, Array.toList_extract]
  show List.extract _ _ _ = _
  rw [List.extract_eq_take_drop]
  show List.take (s.data.size - 1) _ = List.drop 1 _
  rw [List.take_of_length_le]
  rw [List.length_drop, Array.length_toList]
  exact Nat.le_refl _
theorem body7_len (s : List UInt8) : (bodyI s).length ≤ s.length := by
  unfold bodyI
  split
  · simp
  · exact Nat.le_refl _
theorem negI_idx {L : List UInt8} {S : Nat} (h : L.length = S) : negI L = decide (0 < S ∧ (L.getD 0 0).toNat = 45) := by
  unfold negI
  subst h
  cases L with
  | nil => rfl
  | cons a t =>
    refine decide_eq_decide.2 ?_
    rw [List.head?_cons, List.getD_cons_zero, List.length_cons]
    constructor
    · intro e; injection e with e; rw [e]; exact ⟨by omega, rfl⟩
    · rintro ⟨_, e⟩; exact congrArg some (UInt8.toNat_inj.1 e)
theorem arg_sz20 {w : World} {A : Option Addr} {n c : Nat} {l : List Nat} (h : ArgWords w A n c l) (hn : n ≤ 20) : Sz 20 (dv 18446744073709551616 l) := by
  have h1 := dv_lt h.dgs
  have h2 := h.reads.len_
  have h3 : l.length ≤ 20 := by omega
  exact Nat.lt_of_lt_of_le h1 (Nat.pow_le_pow_right (by decide) h3)
theorem text7_ref {U : ByteArray} (x : Nat) (hU : strS (textS x) = U) (A : Option Addr) (n c : Nat) (w : World) (hA : Holds16 w x A n c) (hn : n ≤ 1048576) :
    Calls Try.prog 27 #[.slice A n c] w fun e w' => e = .returned (.string U) ∧ Below w.heap.size w w' := hU ▸ ref6_text x A n c w hA hn
set_option maxHeartbeats 16000000 in
theorem integerReads_core {T : World → Prop} (hTb : ∀ w w', T w → Below w.heap.size w w' → T w') (IC : IntC T) (s0 : Bool) (A0 : Option Addr) (n0 c0 : Nat) (l0 : List Nat) (s1 : ByteArray) (w : World) (h0 : ArgWords w A0 n0 c0 l0) (h1 : s1.size ≤ 1048576) (hT : T w) :
    Calls Try.prog 5 #[.agg #[.bool s0, .slice A0 n0 c0], .string s1] w fun e w' => e = .returned (.bool true) ∧ Below w.heap.size w w' := by
  have HAW := Lib.hid (fun w' (hb : Below w.heap.size w w') => law7_awake hTb IC w' (hTb w w' hT hb))
  have HIC := Lib.hid IC
  have HT := Lib.hid (fun w' (hb : Below w.heap.size w w') => hTb w w' hT hb)
  obtain ⟨K, hK⟩ : ∃ K, 1048576 = K := ⟨_, rfl⟩
  have hKK : K ≤ 1048576 := by omega
  have HM0 := Lib.hid (fun w' (hb : Below w.heap.size w w') => law7_make hTb IC s0 A0 n0 c0 l0 w' ⟨(h0.reads.below hb).more hb.size, h0.dgs, h0.fits, h0.small⟩ (hTb w w' hT hb))
  have HRF0 := Lib.hid (fun w' (hb : Below w.heap.size w w') => law7_ref s0 A0 n0 c0 l0 w' ⟨(h0.reads.below hb).more hb.size, h0.dgs, h0.fits, h0.small⟩)
  have S0 : Sz 1048576 (zOf s0 l0).natAbs := by rw [zOf_abs]; exact arg_sz h0
  have S9 : n0 ≤ 20 → Sz 20 (zOf s0 l0).natAbs := fun h => by rw [zOf_abs]; exact arg_sz20 h0 h
  rw [hK] at S0
  obtain ⟨x, hz0⟩ : ∃ x, zOf s0 l0 = x := ⟨_, rfl⟩
  rw [hz0] at HM0 S0 HRF0 S9
  have HS0 := Lib.hid S0
  have HS9 := Lib.hid S9
  obtain ⟨KR, hKR1, hKR⟩ : ∃ q, 4 * K + 8 ≤ q ∧ q ≤ 16777216 := ⟨4 * K + 8, Nat.le_refl _, by omega⟩
  obtain ⟨U, hU⟩ : ∃ s, strS (textS x.natAbs) = s := ⟨_, rfl⟩
  obtain ⟨V, hV⟩ : ∃ s, strS (textI x) = s := ⟨_, rfl⟩
  have HU := Lib.hid hU
  have HV := Lib.hid hV
  have HVM := Lib.hid (fun (h : x < 0) (w' : World) => (show (Op.stringOp .add ({ data := #[45] } : ByteArray) U).run Try.prog w' = .ok (.string V) w' by
    have h9 := text_small HS0.out
    have h8 : U.size ≤ 2147483648 := by rw [← hU, strS_size]; omega
    rw [run_string_add_sum w' _ _ (by have : ({ data := #[45] } : ByteArray).size = 1 := rfl; omega), ← hU, ← hV, text7_minus h]))
  have HVP := Lib.hid (fun h : 0 ≤ x => (show U = V by rw [← hU, ← hV]; exact text7_plus (by omega)))
  have tb1 : (V.toList == V.toList) = true := by simp
  -- the text that is read
  obtain ⟨L, hL⟩ : ∃ L, s1.data.toList = L := ⟨_, rfl⟩
  obtain ⟨S, hS⟩ : ∃ S, s1.size = S := ⟨_, rfl⟩
  have hLS : L.length = S := by rw [← hL, str_len, hS]
  obtain ⟨R, hR⟩ : ∃ s, strS (bodyI L) = s := ⟨_, rfl⟩
  have hRd : R.data.toList = bodyI L := by rw [← hR]; rfl
  have hRs : R.size ≤ S := by rw [← hR, strS_size, ← hLS]; exact body7_len L
  have SM := okR_sz7 (s := bodyI L) (n := K) (by have := body7_len L; omega)
  have RR := fun w' => ref6_read R w' (by omega)
  rw [hRd] at RR
  have RD := fun w' (h : Below w.heap.size w w') => IC.read s1 w' (hTb w w' hT h) (by omega)
  rw [hL] at RD
  have ix0 : 0 < S → ∀ w, (Instr.index 9 (.string s1) (.int .i64 0)).run Try.prog w = .ok (.int .u8 (((L.getD 0 0).toNat : Nat) : Int)) w := fun hk w => by
    have := str_idx (P := Try.prog) Try.underlying9 s1 0 (by omega) w
    rw [hL] at this
    exact this
  have sl0 : negI L = true → ∀ w, (Instr.slice 9 (.string s1) (some (.int .i64 1)) none none).run Try.prog w = .ok (.string R) w := fun h w => by
    rw [run_slice_string_from_if w 9 s1 .i64 1 Try.underlying9, if_pos ⟨by omega, by
      have : L ≠ [] := fun e => by rw [e] at h; cases h
      have := List.length_pos_iff.2 this
      omega⟩]
    rw [← hL] at h hR
    rw [← hR, ← rest7 s1 h]; rfl
  have q1 : (s1.toList == []) = decide (L = []) := str_lit _ _ _ (by rw [hL])
  have hRP : negI L = false → R = s1 := fun h => by
    rw [← hR, ← strS_of s1, hL]; unfold bodyI; unfold negI at h; rw [if_neg (of_decide_eq_false h)]
  have P1 := read7_plus (s := L)
  have P2 := read7_none (s := L)
  have P3 := read7_minus (s := L)
  obtain ⟨nb, hnb⟩ : ∃ v, negI L = v := ⟨_, rfl⟩
  have hn0 : L = [] → nb = false := fun e => by rw [← hnb, e]; rfl
  rw [hnb] at sl0 hRP P1 P2 P3
  obtain ⟨m, hm⟩ : ∃ v, (if okR (bodyI L) then valR (bodyI L) else 0) = v := ⟨_, rfl⟩
  obtain ⟨ob, hob⟩ : ∃ v, okR (bodyI L) = v := ⟨_, rfl⟩
  obtain ⟨kb, hkb⟩ : ∃ v, okI L = v := ⟨_, rfl⟩
  obtain ⟨z, hz⟩ : ∃ v, (if okI L then valI L else 0) = v := ⟨_, rfl⟩
  rw [hm] at SM RR P1 P2 P3
  rw [hz] at RD P1 P2 P3
  rw [hob] at RR P1 P3
  rw [hkb] at RD P1 P2 P3
  have hcase : (S = 0 ∧ L = []) ∨ (0 < S ∧ L ≠ []) := by
    rcases Nat.eq_zero_or_pos S with h | h
    · exact Or.inl ⟨h, List.eq_nil_of_length_eq_zero (by omega)⟩
    · exact Or.inr ⟨h, fun e => by rw [e] at hLS; simp at hLS; omega⟩
  have hng : nb = decide (0 < S ∧ (L.getD 0 0).toNat = 45) := by rw [← hnb]; exact negI_idx hLS
  have hS1 : S ≤ 1048576 := by omega
  have HSM := Lib.hid SM
  have HRR := Lib.hid RR
  have HRD := Lib.hid RD
  have HIX := Lib.hid ix0
  have HSL := Lib.hid sl0
  have HNG := Lib.hid hng
  have HP1 := Lib.hid P1
  have HP2 := Lib.hid P2
  have HP3 := Lib.hid P3
  have HCS := Lib.hid hcase
  have HRP := Lib.hid hRP
  have HN0 := Lib.hid hn0
  clear IC hT h0 hz0 S0 S9 hK hU hV SM RR RD ix0 sl0 hng P1 P2 P3 hm hob hkb hz hR hRd hcase hL hLS hRP h1 hnb hn0
  go_enter Try.func5, Try.ntmps5
  have hB := Below.refl w.heap.size w
  obtain ⟨bx1, bx2, bz⟩ := box1 w 24 #[.bool s0, .slice A0 n0 c0]
  have hB := keep_below hB bx1
  have g1 : (w.alloc (.cells #[.bool s0, .slice A0 n0 c0] 24)).cell? ⟨w.heap.size, 0, none⟩ = some (.bool s0) := bx2.cell 0
  have e1 : (w.alloc (.cells #[.bool s0, .slice A0 n0 c0] 24)).cell? ⟨w.heap.size, 1, none⟩ = some (.slice A0 n0 c0) := bx2.cell 1
  clear bx1 bx2 bz
  go_wp2_with fail
  generalize w.alloc (.cells #[.bool s0, .slice A0 n0 c0] 24) = W1 at *
  (with_reducible refine (HAW.out _ hB).mono ?_)
  rintro e w2 ⟨rfl, hb⟩
  have hB := keep_below hB hb
  have g1 := keep_cell hb g1
  have e1 := keep_cell hb e1
  clear hb
  by_cases h6 : n0 ≤ 20
  · have j1 : decide ((n0 : Int) > 20) = false := by simp; omega
    have j2 : decide ((20 : Int) < (n0 : Int)) = false := by simp; omega
    by_cases h7 : S ≤ 400
    · have j3 : decide ((S : Int) > 400) = false := by simp; omega
      have j4 : decide ((400 : Int) < (S : Int)) = false := by simp; omega
      go_wp2_with fail
      (with_reducible refine (HRF0.out _ hB).mono ?_)
      rintro e w3 ⟨b3, B3, m3, d3, rfl, hw3, hb⟩
      have hB := keep_below hB hb
      have g1 := keep_cell hb g1
      have e1 := keep_cell hb e1
      clear hb
      obtain ⟨bx1, bx2, bz⟩ := box1 w3 34 #[.bool b3, .slice B3 m3 d3]
      have hB := keep_below hB bx1
      have g1 := keep_cell bx1 g1
      have e1 := keep_cell bx1 e1
      have hw3 := hw3.below bx1
      have g3 : (w3.alloc (.cells #[.bool b3, .slice B3 m3 d3] 34)).cell? ⟨w3.heap.size, 0, none⟩ = some (.bool b3) := bx2.cell 0
      have e3 : (w3.alloc (.cells #[.bool b3, .slice B3 m3 d3] 34)).cell? ⟨w3.heap.size, 1, none⟩ = some (.slice B3 m3 d3) := bx2.cell 1
      clear bx1 bx2 bz
      go_wp2_with fail
      generalize w3.alloc (.cells #[.bool b3, .slice B3 m3 d3] 34) = W3 at *
      generalize w3.heap.size = q3 at *
      obtain ⟨hb3, hw3⟩ := hw3
      (with_reducible refine (text7_ref x.natAbs HU.out B3 m3 d3 W3 hw3 (by have := Sz.holds' (HS9.out h6) hw3; omega)).mono ?_)
      rintro e w4 ⟨rfl, hb⟩
      have hB := keep_below hB hb
      have g1 := keep_cell hb g1
      have e1 := keep_cell hb e1
      have g3 := keep_cell hb g3
      have e3 := keep_cell hb e3
      clear hb
      go_upto_if 30 with fail
      go_cut [6] (fun q wx => q = .string V ∧ wx = w4)
      case first =>
        by_cases hx : x < 0
        · have vm := HVM.out hx
          rw [decide_eq_true hx] at hb3
          subst hb3
          go_wp2
          go_meet
          exact ⟨rfl, rfl⟩
        · have vp := HVP.out (by omega)
          rw [decide_eq_false hx] at hb3
          subst hb3
          go_wp2
          go_meet
          exact ⟨by first | rfl | exact congrArg Value.string vp, rfl⟩
      case rest =>
        obtain ⟨rfl, hwc⟩ := hcut
        subst hwc
        clear HVM HVP HU HRF0 g3 e3 hw3 hb3 HS9
        go_upto_region 10 with fail
        go_cut [40] (fun q wx => q = .bool nb ∧ wx = wc)
        case first =>
          rcases HCS.out with ⟨z0, z1⟩ | ⟨z0, z1⟩
          · have ng := HN0.out z1
            rw [decide_eq_true z1] at q1
            go_wp2
            go_meet
            exact ⟨congrArg Value.bool ng.symm, rfl⟩
          · rw [decide_eq_false z1] at q1
            have ix := HIX.out z0
            by_cases hc : (L.getD 0 0).toNat = 45
            · have ng : nb = true := by rw [HNG.out]; exact decide_eq_true ⟨z0, hc⟩
              rw [hc] at ix
              go_wp2
              go_meet
              exact ⟨congrArg Value.bool ng.symm, rfl⟩
            · have ng : nb = false := by rw [HNG.out]; exact decide_eq_false fun h => hc h.2
              obtain ⟨c, hcc⟩ : ∃ c, (L.getD 0 0).toNat = c := ⟨_, rfl⟩
              rw [hcc] at ix hc
              have t1 : ((c : Int) == 45) = false := by rw [beq_eq_false_iff_ne]; omega
              go_wp2
              go_meet
              exact ⟨congrArg Value.bool ng.symm, rfl⟩
        case rest =>
        obtain ⟨rfl, hwc⟩ := hcut
        subst hwc
        go_upto_if 40 with fail
        go_cut [7, 8] (fun q r wx => q = .bool nb ∧ r = .string R ∧ Below wc.heap.size wc wx)
        case first =>
          cases nb
          · have r1 := HRP.out rfl
            subst r1
            go_wp2
            go_meet
            exact ⟨rfl, rfl, Below.refl _ _⟩
          · have sl := HSL.out rfl
            go_upto_region 11 with fail
            go_region
            all_goals (go_wp2_with fail; go_meet; exact ⟨rfl, rfl, (Below.refl _ _).drew⟩)
        case rest =>
          obtain ⟨rfl, rfl, hb⟩ := hcut
          have hB := keep_below hB hb
          have g1 := keep_cell hb g1
          have e1 := keep_cell hb e1
          clear hb
          clear HCS HIX HNG HSL HN0 q1
          go_wp2_with fail
          (with_reducible refine (HRR.out _).mono ?_)
          rintro e w5 ⟨A5, n5, c5, rfl, hw5, hb⟩
          have hB := keep_below hB hb
          have g1 := keep_cell hb g1
          have e1 := keep_cell hb e1
          clear hb
          go_wp2_with fail
          (with_reducible refine (HRD.out _ hB).mono ?_)
          rintro e w6 ⟨b9, B9, m9, d9, rfl, hw9, hb⟩
          have hB := keep_below hB hb
          have g1 := keep_cell hb g1
          have e1 := keep_cell hb e1
          have hw5 := hw5.below hb
          clear hb
          obtain ⟨bx1, bx2, bz⟩ := box1 w6 29 #[.bool b9, .slice B9 m9 d9]
          have hB := keep_below hB bx1
          have g1 := keep_cell bx1 g1
          have e1 := keep_cell bx1 e1
          have hw5 := hw5.below bx1
          have HN9 := Lib.hid (hw9.below bx1)
          have g5 : (w6.alloc (.cells #[.bool b9, .slice B9 m9 d9] 29)).cell? ⟨w6.heap.size, 0, none⟩ = some (.bool b9) := bx2.cell 0
          have e5 : (w6.alloc (.cells #[.bool b9, .slice B9 m9 d9] 29)).cell? ⟨w6.heap.size, 1, none⟩ = some (.slice B9 m9 d9) := bx2.cell 1
          clear bx1 bx2 bz hw9 HRR HRD
          go_upto_region 14 with fail
          generalize w6.alloc (.cells #[.bool b9, .slice B9 m9 d9] 29) = W6 at *
          generalize w6.heap.size = q5 at *
          obtain ⟨bq, hbq⟩ : ∃ b, (nb && decide (m = 0)) = b := ⟨_, rfl⟩
          have HBQ := Lib.hid hbq
          clear hbq
          go_cut [58] (fun q wx => q = .bool bq ∧ wx = W6)
          case first =>
            cases nb
            · go_wp2
              go_meet
              exact ⟨by rw [← HBQ.out]; rfl, rfl⟩
            · by_cases hm : m = 0
              · have hn5 : n5 = 0 := h16_zero hw5 hm
                subst hn5
                go_wp2
                go_meet
                exact ⟨by rw [← HBQ.out, decide_eq_true hm]; rfl, rfl⟩
              · have hn5 : 0 < n5 := h16_pos hw5 hm
                have t1 : ((n5 : Int) == 0) = false := by rw [beq_eq_false_iff_ne]; omega
                go_wp2
                go_meet
                exact ⟨by rw [← HBQ.out, decide_eq_false hm]; rfl, rfl⟩
          case rest =>
          obtain ⟨rfl, hwc⟩ := hcut
          subst hwc
          go_upto_if 58 with fail
          go_cut [9, 10] (fun q r wx => ∃ (C9 : Option Addr) (r9 f9 : Nat), q = .slice C9 r9 f9 ∧ r = .bool kb ∧ Holds16 wx z.natAbs C9 r9 f9 ∧ wx = wc)
          case first =>
            cases nb
            · have t1 : bq = false := by rw [← HBQ.out]; rfl
              subst t1
              go_wp2
              go_meet
              obtain ⟨k1, k2⟩ := HP1.out (by first | rfl | trivial)
              exact ⟨_, _, _, rfl, congrArg Value.bool k1.symm, by rw [k2]; exact hw5, rfl⟩
            · by_cases hm : m = 0
              · have t1 : bq = true := by rw [← HBQ.out, decide_eq_true hm]; rfl
                subst t1
                go_wp2
                go_meet
                obtain ⟨k1, k2⟩ := HP2.out (by first | rfl | trivial) hm
                exact ⟨none, 0, 0, rfl, congrArg Value.bool k1.symm, by rw [k2]; exact holds_nil _, rfl⟩
              · have t1 : bq = false := by rw [← HBQ.out, decide_eq_false hm]; rfl
                subst t1
                go_wp2
                go_meet
                obtain ⟨k0, k1, k2⟩ := HP3.out (by first | rfl | trivial) hm
                exact ⟨_, _, _, rfl, congrArg Value.bool (k0.trans k1.symm), by rw [k2, Int.natAbs_neg]; exact hw5, rfl⟩
          case rest =>
            obtain ⟨C9, r9, f9, rfl, rfl, hh9, hwc⟩ := hcut
            subst hwc
            obtain ⟨wD, hwq⟩ : ∃ x, x = wc := ⟨_, rfl⟩
            subst hwq
            have HH9 := Lib.hid hh9
            have HZ9 : Hid (Sz K z.natAbs) := Sz.of_le HSM.out (by
              cases nb
              · have h := (HP1.out rfl).2; omega
              · by_cases hm : m = 0
                · have h := (HP2.out rfl hm).2; omega
                · have h := (HP3.out rfl hm).2.2; omega)
            have HSG : Hid (sgI (nb && kb) z.natAbs = z) := by
              show _ = _
              unfold sgI
              cases nb
              · have h := (HP1.out rfl).2
                simp only [Bool.false_and, Bool.false_eq_true, if_false]; omega
              · by_cases hm : m = 0
                · have h := HP2.out rfl hm
                  rw [h.1]; simp only [Bool.and_false, Bool.false_eq_true, if_false]; omega
                · have h := HP3.out rfl hm
                  rw [h.2.1]; simp only [Bool.and_true, if_true]; omega
            clear hh9 hw5 HP1 HP2 HP3 HSM HBQ
            cases nb <;> cases kb
            · have HSG : Hid (sgI false z.natAbs = z) := HSG
              go_wp2_with fail
              have HZ41 : Hid (Sz (K) (x).natAbs) := HS0.out
              have C0 := Lib.hid (fun w' (h : Below wD.heap.size wD w') => HM0.out _ (keep_below hB h))
              have C1 := Lib.hid (fun w' (h : Below wD.heap.size wD w') (b41 : Bool) (B41 : Option Addr) (m41 : Nat) (d41 : Nat) (hw41 : IntIn w' (x) b41 B41 m41 d41) => itext_of (HV.out) (HIC.out.text (x) b41 B41 m41 d41 w' (HT.out _ (keep_below hB h)) hw41 (by have := Sz.words HZ41.out hw41.words; omega)))
              have HZ42 : Hid (Sz (K) (sgI false z.natAbs).natAbs) := (by rw [sgI_abs]; exact HZ9.out)
              have C2 := Lib.hid (fun w' (h : Below wD.heap.size wD w') => ref7_new false z.natAbs C9 r9 f9 w' (HH9.out.below h) (by have := Sz.holds' HZ9.out HH9.out; omega))
              have C3 := Lib.hid (fun w' (h : Below wD.heap.size wD w') (b42 : Bool) (B42 : Option Addr) (m42 : Nat) (d42 : Nat) (hw42 : RefIn w' (sgI false z.natAbs) b42 B42 m42 d42) => law7_like hTb HIC.out (z) b9 B9 m9 d9 b42 B42 m42 d42 KR hKR w' (HZ9.out.up (by omega)) (HN9.out.below h) (RefIn.to (HSG.out) hw42) (HT.out _ (keep_below hB h)))
              have hb0 : Below wD.heap.size wD wD.drew := (Below.refl _ wD).drew
              have j0 : wD.drew.cell? ⟨w.heap.size, 0, none⟩ = some (.bool s0) := g1
              have j1 : wD.drew.cell? ⟨w.heap.size, 1, none⟩ = some (.slice A0 n0 c0) := e1
              have j2 : wD.drew.cell? ⟨q5, 0, none⟩ = some (.bool b9) := g5
              have j3 : wD.drew.cell? ⟨q5, 1, none⟩ = some (.slice B9 m9 d9) := e5
              refine wp_region_noPanic ?_
              refine wp_region_held_drew (S := (fun w' => Below wD.heap.size wD w' ∧ w'.cell? ⟨w.heap.size, 0, none⟩ = some (.bool s0) ∧ w'.cell? ⟨w.heap.size, 1, none⟩ = some (.slice A0 n0 c0) ∧ w'.cell? ⟨q5, 0, none⟩ = some (.bool b9) ∧ w'.cell? ⟨q5, 1, none⟩ = some (.slice B9 m9 d9))) (by kernel_rfl) ?_ (fun hHeld => ?_)
              · exact ⟨hb0, j0, j1, j2, j3⟩
              refine wpAnyH_take (i := 0) (oi := ?_) (v := ?_) (by simp only [List.getElem?_toArray, List.getElem?_cons_succ, List.getElem?_cons_zero]; rfl) (by kernel_rfl) (by kernel_rfl) (by kernel_rfl) (fun _ _ _ h => h) (Or.inl ⟨by rfl, ?_⟩) (by with_reducible assumption) ?_
              rotate_left
              focus ((intro w hSw; (try dsimp only at hSw); go_simp); (try with_reducible rfl))
              try simp only [Act.put, List.setIfInBounds_toArray, List.set_cons_zero, List.set_cons_succ]
              refine wpAnyH_take (i := 3) (oi := ?_) (v := ?_) (by simp only [List.getElem?_toArray, List.getElem?_cons_succ, List.getElem?_cons_zero]; rfl) (by kernel_rfl) (by kernel_rfl) (by kernel_rfl) (fun _ _ _ h => h) (Or.inl ⟨by rfl, ?_⟩) (by with_reducible assumption) ?_
              rotate_left
              focus ((intro w hSw; (try dsimp only at hSw); go_simp); (try with_reducible rfl))
              try simp only [Act.put, List.setIfInBounds_toArray, List.set_cons_zero, List.set_cons_succ]
              refine wpAnyH_ready (rs := [1]) (by kernel_rfl) (by simp) ?_
              refine AllReadyH.cons (o := ?_) (by simp only [List.getElem?_toArray, List.getElem?_cons_succ, List.getElem?_cons_zero]; rfl) (fun K hK => ?_) AllReadyH.nil
              go_simp
              (go_at_call 12; (with_reducible refine (C0.out _ (by first | with_reducible assumption | exact And.left (by with_reducible assumption))).mono ?_); rintro e wa41 ⟨b41, B41, m41, d41, rfl, hw41, hb⟩; go_split_ands; have hBw : Below wD.heap.size wD wa41 := keep_below (by with_reducible assumption) hb; have gw0 : wa41.cell? ⟨w.heap.size, 0, none⟩ = some (.bool s0) := keep_cell hb (by with_reducible assumption); have gw1 : wa41.cell? ⟨w.heap.size, 1, none⟩ = some (.slice A0 n0 c0) := keep_cell hb (by with_reducible assumption); have gw2 : wa41.cell? ⟨q5, 0, none⟩ = some (.bool b9) := keep_cell hb (by with_reducible assumption); have gw3 : wa41.cell? ⟨q5, 1, none⟩ = some (.slice B9 m9 d9) := keep_cell hb (by with_reducible assumption))
              refine hK.out _ _ ?_ (fun hHeld => ?_)
              · ((try dsimp only); (first | (with_reducible exact ⟨hb0, j0, j1, j2, j3⟩) | (go_split_ands; (repeat' apply And.intro); all_goals (first | with_reducible assumption | with_reducible exact keep_below (by with_reducible assumption) hb | with_reducible exact keep_cell hb (by with_reducible assumption)))))
              clear hK K
              try simp only [Act.put, List.setIfInBounds_toArray, List.set_cons_zero, List.set_cons_succ]
              refine wpAnyH_ready (rs := [2]) (by kernel_rfl) (by simp) ?_
              refine AllReadyH.cons (o := ?_) (by simp only [List.getElem?_toArray, List.getElem?_cons_succ, List.getElem?_cons_zero]; rfl) (fun K hK => ?_) AllReadyH.nil
              go_simp
              (go_at_call 30; (with_reducible refine (C1.out _ (by first | with_reducible assumption | exact And.left (by with_reducible assumption)) _ _ _ _ hw41).mono ?_); rintro e wa42 ⟨rfl, hb⟩; go_split_ands; have hBw : Below wD.heap.size wD wa42 := keep_below (by with_reducible assumption) hb; have gw0 : wa42.cell? ⟨w.heap.size, 0, none⟩ = some (.bool s0) := keep_cell hb (by with_reducible assumption); have gw1 : wa42.cell? ⟨w.heap.size, 1, none⟩ = some (.slice A0 n0 c0) := keep_cell hb (by with_reducible assumption); have gw2 : wa42.cell? ⟨q5, 0, none⟩ = some (.bool b9) := keep_cell hb (by with_reducible assumption); have gw3 : wa42.cell? ⟨q5, 1, none⟩ = some (.slice B9 m9 d9) := keep_cell hb (by with_reducible assumption); (with_reducible have hw41 := hw41.below hb))
              refine hK.out _ _ ?_ (fun hHeld => ?_)
              · ((try dsimp only); (first | (with_reducible exact ⟨hb0, j0, j1, j2, j3⟩) | (go_split_ands; (repeat' apply And.intro); all_goals (first | with_reducible assumption | with_reducible exact keep_below (by with_reducible assumption) hb | with_reducible exact keep_cell hb (by with_reducible assumption)))))
              clear hK K
              try simp only [Act.put, List.setIfInBounds_toArray, List.set_cons_zero, List.set_cons_succ]
              refine wpAnyH_take (i := 4) (oi := ?_) (v := ?_) (by simp only [List.getElem?_toArray, List.getElem?_cons_succ, List.getElem?_cons_zero]; rfl) (by kernel_rfl) (by kernel_rfl) (by kernel_rfl) (fun _ _ _ h => h) (Or.inl ⟨by rfl, ?_⟩) (by with_reducible assumption) ?_
              rotate_left
              focus ((intro w hSw; (try dsimp only at hSw); go_simp); (try with_reducible rfl))
              try simp only [Act.put, List.setIfInBounds_toArray, List.set_cons_zero, List.set_cons_succ]
              refine wpAnyH_take (i := 5) (oi := ?_) (v := ?_) (by simp only [List.getElem?_toArray, List.getElem?_cons_succ, List.getElem?_cons_zero]; rfl) (by kernel_rfl) (by kernel_rfl) (by kernel_rfl) (fun _ _ _ h => h) (Or.inl ⟨by rfl, ?_⟩) (by with_reducible assumption) ?_
              rotate_left
              focus ((intro w hSw; (try dsimp only at hSw); go_simp); (try with_reducible rfl))
              try simp only [Act.put, List.setIfInBounds_toArray, List.set_cons_zero, List.set_cons_succ]
              refine wpAnyH_take (i := 6) (oi := ?_) (v := ?_) (by simp only [List.getElem?_toArray, List.getElem?_cons_succ, List.getElem?_cons_zero]; rfl) (by kernel_rfl) (by kernel_rfl) (by kernel_rfl) (fun _ _ _ h => h) (Or.inl ⟨by rfl, ?_⟩) (by with_reducible assumption) ?_
              rotate_left
              focus ((intro w hSw; (try dsimp only at hSw); go_simp); (try with_reducible rfl))
              try simp only [Act.put, List.setIfInBounds_toArray, List.set_cons_zero, List.set_cons_succ]
              refine wpAnyH_take (i := 7) (oi := ?_) (v := ?_) (by simp only [List.getElem?_toArray, List.getElem?_cons_succ, List.getElem?_cons_zero]; rfl) (by kernel_rfl) (by kernel_rfl) (by kernel_rfl) (fun _ _ _ h => h) (Or.inl ⟨by rfl, ?_⟩) (by with_reducible assumption) ?_
              rotate_left
              focus ((intro w hSw; (try dsimp only at hSw); go_simp); (try with_reducible rfl))
              try simp only [Act.put, List.setIfInBounds_toArray, List.set_cons_zero, List.set_cons_succ]
              refine wpAnyH_take (i := 8) (oi := ?_) (v := ?_) (by simp only [List.getElem?_toArray, List.getElem?_cons_succ, List.getElem?_cons_zero]; rfl) (by kernel_rfl) (by kernel_rfl) (by kernel_rfl) (fun _ _ _ h => h) (Or.inl ⟨by rfl, ?_⟩) (by with_reducible assumption) ?_
              rotate_left
              focus ((intro w hSw; (try dsimp only at hSw); go_simp); (try with_reducible rfl))
              try simp only [Act.put, List.setIfInBounds_toArray, List.set_cons_zero, List.set_cons_succ]
              refine wpAnyH_take (i := 9) (oi := ?_) (v := ?_) (by simp only [List.getElem?_toArray, List.getElem?_cons_succ, List.getElem?_cons_zero]; rfl) (by kernel_rfl) (by kernel_rfl) (by kernel_rfl) (fun _ _ _ h => h) (Or.inl ⟨by rfl, ?_⟩) (by with_reducible assumption) ?_
              rotate_left
              focus ((intro w hSw; (try dsimp only at hSw); go_simp); (try with_reducible rfl))
              try simp only [Act.put, List.setIfInBounds_toArray, List.set_cons_zero, List.set_cons_succ]
              refine wpAnyH_take (i := 10) (oi := ?_) (v := ?_) (by simp only [List.getElem?_toArray, List.getElem?_cons_succ, List.getElem?_cons_zero]; rfl) (by kernel_rfl) (by kernel_rfl) (by kernel_rfl) (fun _ _ _ h => h) (Or.inl ⟨by rfl, ?_⟩) (by with_reducible assumption) ?_
              rotate_left
              focus ((intro w hSw; (try dsimp only at hSw); go_simp); (try with_reducible rfl))
              try simp only [Act.put, List.setIfInBounds_toArray, List.set_cons_zero, List.set_cons_succ]
              refine wpAnyH_take (i := 11) (oi := ?_) (v := ?_) (by simp only [List.getElem?_toArray, List.getElem?_cons_succ, List.getElem?_cons_zero]; rfl) (by kernel_rfl) (by kernel_rfl) (by kernel_rfl) (fun _ _ _ h => h) (Or.inl ⟨by rfl, ?_⟩) (by with_reducible assumption) ?_
              rotate_left
              focus ((intro w hSw; (try dsimp only at hSw); go_simp); (try with_reducible rfl))
              try simp only [Act.put, List.setIfInBounds_toArray, List.set_cons_zero, List.set_cons_succ]
              refine wpAnyH_take (i := 12) (oi := ?_) (v := ?_) (by simp only [List.getElem?_toArray, List.getElem?_cons_succ, List.getElem?_cons_zero]; rfl) (by kernel_rfl) (by kernel_rfl) (by kernel_rfl) (fun _ _ _ h => h) (Or.inl ⟨by rfl, ?_⟩) (by with_reducible assumption) ?_
              rotate_left
              focus ((intro w hSw; (try dsimp only at hSw); go_simp); (try with_reducible rfl))
              try simp only [Act.put, List.setIfInBounds_toArray, List.set_cons_zero, List.set_cons_succ]
              refine wpAnyH_take (i := 13) (oi := ?_) (v := ?_) (by simp only [List.getElem?_toArray, List.getElem?_cons_succ, List.getElem?_cons_zero]; rfl) (by kernel_rfl) (by kernel_rfl) (by kernel_rfl) (fun _ _ _ h => h) (Or.inl ⟨by rfl, ?_⟩) (by with_reducible assumption) ?_
              rotate_left
              focus ((intro w hSw; (try dsimp only at hSw); go_simp); (try with_reducible rfl))
              try simp only [Act.put, List.setIfInBounds_toArray, List.set_cons_zero, List.set_cons_succ]
              refine wpAnyH_take (i := 14) (oi := ?_) (v := undef) (by simp only [List.getElem?_toArray, List.getElem?_cons_succ, List.getElem?_cons_zero]; rfl) (by kernel_rfl) (by kernel_rfl) (by kernel_rfl) (fun _ _ _ h => h) (Or.inr ⟨by rfl, rfl⟩) (by with_reducible assumption) ?_
              try simp only [Act.put, List.setIfInBounds_toArray, List.set_cons_zero, List.set_cons_succ]
              refine wpAnyH_take (i := 15) (oi := ?_) (v := ?_) (by simp only [List.getElem?_toArray, List.getElem?_cons_succ, List.getElem?_cons_zero]; rfl) (by kernel_rfl) (by kernel_rfl) (by kernel_rfl) (fun _ _ _ h => h) (Or.inl ⟨by rfl, ?_⟩) (by with_reducible assumption) ?_
              rotate_left
              focus ((intro w hSw; (try dsimp only at hSw); go_simp); (try with_reducible rfl))
              try simp only [Act.put, List.setIfInBounds_toArray, List.set_cons_zero, List.set_cons_succ]
              refine wpAnyH_take (i := 16) (oi := ?_) (v := ?_) (by simp only [List.getElem?_toArray, List.getElem?_cons_succ, List.getElem?_cons_zero]; rfl) (by kernel_rfl) (by kernel_rfl) (by kernel_rfl) (fun _ _ _ h => h) (Or.inl ⟨by rfl, ?_⟩) (by with_reducible assumption) ?_
              rotate_left
              focus ((intro w hSw; (try dsimp only at hSw); go_simp); (try with_reducible rfl))
              try simp only [Act.put, List.setIfInBounds_toArray, List.set_cons_zero, List.set_cons_succ]
              refine wpAnyH_ready (rs := [17]) (by kernel_rfl) (by simp) ?_
              refine AllReadyH.cons (o := ?_) (by simp only [List.getElem?_toArray, List.getElem?_cons_succ, List.getElem?_cons_zero]; rfl) (fun K hK => ?_) AllReadyH.nil
              go_simp
              (go_at_call 31; (with_reducible refine (C2.out _ (by first | with_reducible assumption | exact And.left (by with_reducible assumption))).mono ?_); rintro e wa43 ⟨b42, B42, m42, d42, rfl, hw42, hb⟩; go_split_ands; have hBw : Below wD.heap.size wD wa43 := keep_below (by with_reducible assumption) hb; have gw0 : wa43.cell? ⟨w.heap.size, 0, none⟩ = some (.bool s0) := keep_cell hb (by with_reducible assumption); have gw1 : wa43.cell? ⟨w.heap.size, 1, none⟩ = some (.slice A0 n0 c0) := keep_cell hb (by with_reducible assumption); have gw2 : wa43.cell? ⟨q5, 0, none⟩ = some (.bool b9) := keep_cell hb (by with_reducible assumption); have gw3 : wa43.cell? ⟨q5, 1, none⟩ = some (.slice B9 m9 d9) := keep_cell hb (by with_reducible assumption); (with_reducible have hw41 := hw41.below hb))
              refine hK.out _ _ ?_ (fun hHeld => ?_)
              · ((try dsimp only); (first | (with_reducible exact ⟨hb0, j0, j1, j2, j3⟩) | (go_split_ands; (repeat' apply And.intro); all_goals (first | with_reducible assumption | with_reducible exact keep_below (by with_reducible assumption) hb | with_reducible exact keep_cell hb (by with_reducible assumption)))))
              clear hK K
              try simp only [Act.put, List.setIfInBounds_toArray, List.set_cons_zero, List.set_cons_succ]
              refine wpAnyH_ready (rs := [18]) (by kernel_rfl) (by simp) ?_
              refine AllReadyH.cons (o := ?_) (by simp only [List.getElem?_toArray, List.getElem?_cons_succ, List.getElem?_cons_zero]; rfl) (fun K hK => ?_) AllReadyH.nil
              go_simp
              (go_at_call 14; (with_reducible refine (C3.out _ (by first | with_reducible assumption | exact And.left (by with_reducible assumption)) _ _ _ _ hw42).mono ?_); rintro e wa44 ⟨rfl, hb⟩; go_split_ands; have hBw : Below wD.heap.size wD wa44 := keep_below (by with_reducible assumption) hb; have gw0 : wa44.cell? ⟨w.heap.size, 0, none⟩ = some (.bool s0) := keep_cell hb (by with_reducible assumption); have gw1 : wa44.cell? ⟨w.heap.size, 1, none⟩ = some (.slice A0 n0 c0) := keep_cell hb (by with_reducible assumption); have gw2 : wa44.cell? ⟨q5, 0, none⟩ = some (.bool b9) := keep_cell hb (by with_reducible assumption); have gw3 : wa44.cell? ⟨q5, 1, none⟩ = some (.slice B9 m9 d9) := keep_cell hb (by with_reducible assumption); (with_reducible have hw41 := hw41.below hb); (with_reducible have hw42 := hw42.below hb))
              refine hK.out _ _ ?_ (fun hHeld => ?_)
              · ((try dsimp only); (first | (with_reducible exact ⟨hb0, j0, j1, j2, j3⟩) | (go_split_ands; (repeat' apply And.intro); all_goals (first | with_reducible assumption | with_reducible exact keep_below (by with_reducible assumption) hb | with_reducible exact keep_cell hb (by with_reducible assumption)))))
              clear hK K
              try simp only [Act.put, List.setIfInBounds_toArray, List.set_cons_zero, List.set_cons_succ]
              refine wpAnyH_take (i := 19) (oi := ?_) (v := ?_) (by simp only [List.getElem?_toArray, List.getElem?_cons_succ, List.getElem?_cons_zero]; rfl) (by kernel_rfl) (by kernel_rfl) (by kernel_rfl) (fun _ _ _ h => h) (Or.inl ⟨by rfl, ?_⟩) (by with_reducible assumption) ?_
              rotate_left
              focus ((intro w hSw; (try dsimp only at hSw); go_simp); (try with_reducible rfl))
              try simp only [Act.put, List.setIfInBounds_toArray, List.set_cons_zero, List.set_cons_succ]
              refine wpAnyH_take (i := 20) (oi := ?_) (v := ?_) (by simp only [List.getElem?_toArray, List.getElem?_cons_succ, List.getElem?_cons_zero]; rfl) (by kernel_rfl) (by kernel_rfl) (by kernel_rfl) (fun _ _ _ h => h) (Or.inl ⟨by rfl, ?_⟩) (by with_reducible assumption) ?_
              rotate_left
              focus ((intro w hSw; (try dsimp only at hSw); go_simp); (try with_reducible rfl))
              try simp only [Act.put, List.setIfInBounds_toArray, List.set_cons_zero, List.set_cons_succ]
              refine wpAnyH_done (by kernel_rfl) ?_ _
              refine NoPanic.normal ?_
              clear hb
              have hB := keep_below hB hBw
              have HN9 := Lib.hid (HN9.out.below hBw)
              have HH9 := Lib.hid (HH9.out.below hBw)
              have g1 := keep_cell hBw g1
              have e1 := keep_cell hBw e1
              have g5 := keep_cell hBw g5
              have e5 := keep_cell hBw e5
              have HN41 := Lib.hid hw41
              have HN42 := Lib.hid hw42
              clear hb0 hBw gw0 gw1 gw2 gw3 hw41 hw42
              clear j0
              clear j1
              clear j2
              clear j3
              clear C0 C1 C2 C3
              go_wp2
              go_ret
              exact ⟨by first | rfl | simp, hB⟩
            · have HSG : Hid (sgI false z.natAbs = z) := HSG
              go_wp2_with fail
              have HZ41 : Hid (Sz (K) (x).natAbs) := HS0.out
              have C0 := Lib.hid (fun w' (h : Below wD.heap.size wD w') => HM0.out _ (keep_below hB h))
              have C1 := Lib.hid (fun w' (h : Below wD.heap.size wD w') (b41 : Bool) (B41 : Option Addr) (m41 : Nat) (d41 : Nat) (hw41 : IntIn w' (x) b41 B41 m41 d41) => itext_of (HV.out) (HIC.out.text (x) b41 B41 m41 d41 w' (HT.out _ (keep_below hB h)) hw41 (by have := Sz.words HZ41.out hw41.words; omega)))
              have HZ42 : Hid (Sz (K) (sgI false z.natAbs).natAbs) := (by rw [sgI_abs]; exact HZ9.out)
              have C2 := Lib.hid (fun w' (h : Below wD.heap.size wD w') => ref7_new false z.natAbs C9 r9 f9 w' (HH9.out.below h) (by have := Sz.holds' HZ9.out HH9.out; omega))
              have C3 := Lib.hid (fun w' (h : Below wD.heap.size wD w') (b42 : Bool) (B42 : Option Addr) (m42 : Nat) (d42 : Nat) (hw42 : RefIn w' (sgI false z.natAbs) b42 B42 m42 d42) => law7_like hTb HIC.out (z) b9 B9 m9 d9 b42 B42 m42 d42 KR hKR w' (HZ9.out.up (by omega)) (HN9.out.below h) (RefIn.to (HSG.out) hw42) (HT.out _ (keep_below hB h)))
              have hb0 : Below wD.heap.size wD wD.drew := (Below.refl _ wD).drew
              have j0 : wD.drew.cell? ⟨w.heap.size, 0, none⟩ = some (.bool s0) := g1
              have j1 : wD.drew.cell? ⟨w.heap.size, 1, none⟩ = some (.slice A0 n0 c0) := e1
              have j2 : wD.drew.cell? ⟨q5, 0, none⟩ = some (.bool b9) := g5
              have j3 : wD.drew.cell? ⟨q5, 1, none⟩ = some (.slice B9 m9 d9) := e5
              refine wp_region_noPanic ?_
              refine wp_region_held_drew (S := (fun w' => Below wD.heap.size wD w' ∧ w'.cell? ⟨w.heap.size, 0, none⟩ = some (.bool s0) ∧ w'.cell? ⟨w.heap.size, 1, none⟩ = some (.slice A0 n0 c0) ∧ w'.cell? ⟨q5, 0, none⟩ = some (.bool b9) ∧ w'.cell? ⟨q5, 1, none⟩ = some (.slice B9 m9 d9))) (by kernel_rfl) ?_ (fun hHeld => ?_)
              · exact ⟨hb0, j0, j1, j2, j3⟩
              refine wpAnyH_take (i := 0) (oi := ?_) (v := ?_) (by simp only [List.getElem?_toArray, List.getElem?_cons_succ, List.getElem?_cons_zero]; rfl) (by kernel_rfl) (by kernel_rfl) (by kernel_rfl) (fun _ _ _ h => h) (Or.inl ⟨by rfl, ?_⟩) (by with_reducible assumption) ?_
              rotate_left
              focus ((intro w hSw; (try dsimp only at hSw); go_simp); (try with_reducible rfl))
              try simp only [Act.put, List.setIfInBounds_toArray, List.set_cons_zero, List.set_cons_succ]
              refine wpAnyH_take (i := 3) (oi := ?_) (v := ?_) (by simp only [List.getElem?_toArray, List.getElem?_cons_succ, List.getElem?_cons_zero]; rfl) (by kernel_rfl) (by kernel_rfl) (by kernel_rfl) (fun _ _ _ h => h) (Or.inl ⟨by rfl, ?_⟩) (by with_reducible assumption) ?_
              rotate_left
              focus ((intro w hSw; (try dsimp only at hSw); go_simp); (try with_reducible rfl))
              try simp only [Act.put, List.setIfInBounds_toArray, List.set_cons_zero, List.set_cons_succ]
              refine wpAnyH_ready (rs := [1]) (by kernel_rfl) (by simp) ?_
              refine AllReadyH.cons (o := ?_) (by simp only [List.getElem?_toArray, List.getElem?_cons_succ, List.getElem?_cons_zero]; rfl) (fun K hK => ?_) AllReadyH.nil
              go_simp
              (go_at_call 12; (with_reducible refine (C0.out _ (by first | with_reducible assumption | exact And.left (by with_reducible assumption))).mono ?_); rintro e wa41 ⟨b41, B41, m41, d41, rfl, hw41, hb⟩; go_split_ands; have hBw : Below wD.heap.size wD wa41 := keep_below (by with_reducible assumption) hb; have gw0 : wa41.cell? ⟨w.heap.size, 0, none⟩ = some (.bool s0) := keep_cell hb (by with_reducible assumption); have gw1 : wa41.cell? ⟨w.heap.size, 1, none⟩ = some (.slice A0 n0 c0) := keep_cell hb (by with_reducible assumption); have gw2 : wa41.cell? ⟨q5, 0, none⟩ = some (.bool b9) := keep_cell hb (by with_reducible assumption); have gw3 : wa41.cell? ⟨q5, 1, none⟩ = some (.slice B9 m9 d9) := keep_cell hb (by with_reducible assumption))
              refine hK.out _ _ ?_ (fun hHeld => ?_)
              · ((try dsimp only); (first | (with_reducible exact ⟨hb0, j0, j1, j2, j3⟩) | (go_split_ands; (repeat' apply And.intro); all_goals (first | with_reducible assumption | with_reducible exact keep_below (by with_reducible assumption) hb | with_reducible exact keep_cell hb (by with_reducible assumption)))))
              clear hK K
              try simp only [Act.put, List.setIfInBounds_toArray, List.set_cons_zero, List.set_cons_succ]
              refine wpAnyH_ready (rs := [2]) (by kernel_rfl) (by simp) ?_
              refine AllReadyH.cons (o := ?_) (by simp only [List.getElem?_toArray, List.getElem?_cons_succ, List.getElem?_cons_zero]; rfl) (fun K hK => ?_) AllReadyH.nil
              go_simp
              (go_at_call 30; (with_reducible refine (C1.out _ (by first | with_reducible assumption | exact And.left (by with_reducible assumption)) _ _ _ _ hw41).mono ?_); rintro e wa42 ⟨rfl, hb⟩; go_split_ands; have hBw : Below wD.heap.size wD wa42 := keep_below (by with_reducible assumption) hb; have gw0 : wa42.cell? ⟨w.heap.size, 0, none⟩ = some (.bool s0) := keep_cell hb (by with_reducible assumption); have gw1 : wa42.cell? ⟨w.heap.size, 1, none⟩ = some (.slice A0 n0 c0) := keep_cell hb (by with_reducible assumption); have gw2 : wa42.cell? ⟨q5, 0, none⟩ = some (.bool b9) := keep_cell hb (by with_reducible assumption); have gw3 : wa42.cell? ⟨q5, 1, none⟩ = some (.slice B9 m9 d9) := keep_cell hb (by with_reducible assumption); (with_reducible have hw41 := hw41.below hb))
              refine hK.out _ _ ?_ (fun hHeld => ?_)
              · ((try dsimp only); (first | (with_reducible exact ⟨hb0, j0, j1, j2, j3⟩) | (go_split_ands; (repeat' apply And.intro); all_goals (first | with_reducible assumption | with_reducible exact keep_below (by with_reducible assumption) hb | with_reducible exact keep_cell hb (by with_reducible assumption)))))
              clear hK K
              try simp only [Act.put, List.setIfInBounds_toArray, List.set_cons_zero, List.set_cons_succ]
              refine wpAnyH_take (i := 4) (oi := ?_) (v := ?_) (by simp only [List.getElem?_toArray, List.getElem?_cons_succ, List.getElem?_cons_zero]; rfl) (by kernel_rfl) (by kernel_rfl) (by kernel_rfl) (fun _ _ _ h => h) (Or.inl ⟨by rfl, ?_⟩) (by with_reducible assumption) ?_
              rotate_left
              focus ((intro w hSw; (try dsimp only at hSw); go_simp); (try with_reducible rfl))
              try simp only [Act.put, List.setIfInBounds_toArray, List.set_cons_zero, List.set_cons_succ]
              refine wpAnyH_take (i := 5) (oi := ?_) (v := ?_) (by simp only [List.getElem?_toArray, List.getElem?_cons_succ, List.getElem?_cons_zero]; rfl) (by kernel_rfl) (by kernel_rfl) (by kernel_rfl) (fun _ _ _ h => h) (Or.inl ⟨by rfl, ?_⟩) (by with_reducible assumption) ?_
              rotate_left
              focus ((intro w hSw; (try dsimp only at hSw); go_simp); (try with_reducible rfl))
              try simp only [Act.put, List.setIfInBounds_toArray, List.set_cons_zero, List.set_cons_succ]
              refine wpAnyH_take (i := 6) (oi := ?_) (v := ?_) (by simp only [List.getElem?_toArray, List.getElem?_cons_succ, List.getElem?_cons_zero]; rfl) (by kernel_rfl) (by kernel_rfl) (by kernel_rfl) (fun _ _ _ h => h) (Or.inl ⟨by rfl, ?_⟩) (by with_reducible assumption) ?_
              rotate_left
              focus ((intro w hSw; (try dsimp only at hSw); go_simp); (try with_reducible rfl))
              try simp only [Act.put, List.setIfInBounds_toArray, List.set_cons_zero, List.set_cons_succ]
              refine wpAnyH_take (i := 7) (oi := ?_) (v := ?_) (by simp only [List.getElem?_toArray, List.getElem?_cons_succ, List.getElem?_cons_zero]; rfl) (by kernel_rfl) (by kernel_rfl) (by kernel_rfl) (fun _ _ _ h => h) (Or.inl ⟨by rfl, ?_⟩) (by with_reducible assumption) ?_
              rotate_left
              focus ((intro w hSw; (try dsimp only at hSw); go_simp); (try with_reducible rfl))
              try simp only [Act.put, List.setIfInBounds_toArray, List.set_cons_zero, List.set_cons_succ]
              refine wpAnyH_take (i := 8) (oi := ?_) (v := ?_) (by simp only [List.getElem?_toArray, List.getElem?_cons_succ, List.getElem?_cons_zero]; rfl) (by kernel_rfl) (by kernel_rfl) (by kernel_rfl) (fun _ _ _ h => h) (Or.inl ⟨by rfl, ?_⟩) (by with_reducible assumption) ?_
              rotate_left
              focus ((intro w hSw; (try dsimp only at hSw); go_simp); (try with_reducible rfl))
              try simp only [Act.put, List.setIfInBounds_toArray, List.set_cons_zero, List.set_cons_succ]
              refine wpAnyH_take (i := 9) (oi := ?_) (v := ?_) (by simp only [List.getElem?_toArray, List.getElem?_cons_succ, List.getElem?_cons_zero]; rfl) (by kernel_rfl) (by kernel_rfl) (by kernel_rfl) (fun _ _ _ h => h) (Or.inl ⟨by rfl, ?_⟩) (by with_reducible assumption) ?_
              rotate_left
              focus ((intro w hSw; (try dsimp only at hSw); go_simp); (try with_reducible rfl))
              try simp only [Act.put, List.setIfInBounds_toArray, List.set_cons_zero, List.set_cons_succ]
              refine wpAnyH_take (i := 10) (oi := ?_) (v := ?_) (by simp only [List.getElem?_toArray, List.getElem?_cons_succ, List.getElem?_cons_zero]; rfl) (by kernel_rfl) (by kernel_rfl) (by kernel_rfl) (fun _ _ _ h => h) (Or.inl ⟨by rfl, ?_⟩) (by with_reducible assumption) ?_
              rotate_left
              focus ((intro w hSw; (try dsimp only at hSw); go_simp); (try with_reducible rfl))
              try simp only [Act.put, List.setIfInBounds_toArray, List.set_cons_zero, List.set_cons_succ]
              refine wpAnyH_take (i := 11) (oi := ?_) (v := ?_) (by simp only [List.getElem?_toArray, List.getElem?_cons_succ, List.getElem?_cons_zero]; rfl) (by kernel_rfl) (by kernel_rfl) (by kernel_rfl) (fun _ _ _ h => h) (Or.inl ⟨by rfl, ?_⟩) (by with_reducible assumption) ?_
              rotate_left
              focus ((intro w hSw; (try dsimp only at hSw); go_simp); (try with_reducible rfl))
              try simp only [Act.put, List.setIfInBounds_toArray, List.set_cons_zero, List.set_cons_succ]
              refine wpAnyH_take (i := 12) (oi := ?_) (v := ?_) (by simp only [List.getElem?_toArray, List.getElem?_cons_succ, List.getElem?_cons_zero]; rfl) (by kernel_rfl) (by kernel_rfl) (by kernel_rfl) (fun _ _ _ h => h) (Or.inl ⟨by rfl, ?_⟩) (by with_reducible assumption) ?_
              rotate_left
              focus ((intro w hSw; (try dsimp only at hSw); go_simp); (try with_reducible rfl))
              try simp only [Act.put, List.setIfInBounds_toArray, List.set_cons_zero, List.set_cons_succ]
              refine wpAnyH_take (i := 13) (oi := ?_) (v := ?_) (by simp only [List.getElem?_toArray, List.getElem?_cons_succ, List.getElem?_cons_zero]; rfl) (by kernel_rfl) (by kernel_rfl) (by kernel_rfl) (fun _ _ _ h => h) (Or.inl ⟨by rfl, ?_⟩) (by with_reducible assumption) ?_
              rotate_left
              focus ((intro w hSw; (try dsimp only at hSw); go_simp); (try with_reducible rfl))
              try simp only [Act.put, List.setIfInBounds_toArray, List.set_cons_zero, List.set_cons_succ]
              refine wpAnyH_take (i := 14) (oi := ?_) (v := undef) (by simp only [List.getElem?_toArray, List.getElem?_cons_succ, List.getElem?_cons_zero]; rfl) (by kernel_rfl) (by kernel_rfl) (by kernel_rfl) (fun _ _ _ h => h) (Or.inr ⟨by rfl, rfl⟩) (by with_reducible assumption) ?_
              try simp only [Act.put, List.setIfInBounds_toArray, List.set_cons_zero, List.set_cons_succ]
              refine wpAnyH_take (i := 15) (oi := ?_) (v := ?_) (by simp only [List.getElem?_toArray, List.getElem?_cons_succ, List.getElem?_cons_zero]; rfl) (by kernel_rfl) (by kernel_rfl) (by kernel_rfl) (fun _ _ _ h => h) (Or.inl ⟨by rfl, ?_⟩) (by with_reducible assumption) ?_
              rotate_left
              focus ((intro w hSw; (try dsimp only at hSw); go_simp); (try with_reducible rfl))
              try simp only [Act.put, List.setIfInBounds_toArray, List.set_cons_zero, List.set_cons_succ]
              refine wpAnyH_take (i := 16) (oi := ?_) (v := ?_) (by simp only [List.getElem?_toArray, List.getElem?_cons_succ, List.getElem?_cons_zero]; rfl) (by kernel_rfl) (by kernel_rfl) (by kernel_rfl) (fun _ _ _ h => h) (Or.inl ⟨by rfl, ?_⟩) (by with_reducible assumption) ?_
              rotate_left
              focus ((intro w hSw; (try dsimp only at hSw); go_simp); (try with_reducible rfl))
              try simp only [Act.put, List.setIfInBounds_toArray, List.set_cons_zero, List.set_cons_succ]
              refine wpAnyH_ready (rs := [17]) (by kernel_rfl) (by simp) ?_
              refine AllReadyH.cons (o := ?_) (by simp only [List.getElem?_toArray, List.getElem?_cons_succ, List.getElem?_cons_zero]; rfl) (fun K hK => ?_) AllReadyH.nil
              go_simp
              (go_at_call 31; (with_reducible refine (C2.out _ (by first | with_reducible assumption | exact And.left (by with_reducible assumption))).mono ?_); rintro e wa43 ⟨b42, B42, m42, d42, rfl, hw42, hb⟩; go_split_ands; have hBw : Below wD.heap.size wD wa43 := keep_below (by with_reducible assumption) hb; have gw0 : wa43.cell? ⟨w.heap.size, 0, none⟩ = some (.bool s0) := keep_cell hb (by with_reducible assumption); have gw1 : wa43.cell? ⟨w.heap.size, 1, none⟩ = some (.slice A0 n0 c0) := keep_cell hb (by with_reducible assumption); have gw2 : wa43.cell? ⟨q5, 0, none⟩ = some (.bool b9) := keep_cell hb (by with_reducible assumption); have gw3 : wa43.cell? ⟨q5, 1, none⟩ = some (.slice B9 m9 d9) := keep_cell hb (by with_reducible assumption); (with_reducible have hw41 := hw41.below hb))
              refine hK.out _ _ ?_ (fun hHeld => ?_)
              · ((try dsimp only); (first | (with_reducible exact ⟨hb0, j0, j1, j2, j3⟩) | (go_split_ands; (repeat' apply And.intro); all_goals (first | with_reducible assumption | with_reducible exact keep_below (by with_reducible assumption) hb | with_reducible exact keep_cell hb (by with_reducible assumption)))))
              clear hK K
              try simp only [Act.put, List.setIfInBounds_toArray, List.set_cons_zero, List.set_cons_succ]
              refine wpAnyH_ready (rs := [18]) (by kernel_rfl) (by simp) ?_
              refine AllReadyH.cons (o := ?_) (by simp only [List.getElem?_toArray, List.getElem?_cons_succ, List.getElem?_cons_zero]; rfl) (fun K hK => ?_) AllReadyH.nil
              go_simp
              (go_at_call 14; (with_reducible refine (C3.out _ (by first | with_reducible assumption | exact And.left (by with_reducible assumption)) _ _ _ _ hw42).mono ?_); rintro e wa44 ⟨rfl, hb⟩; go_split_ands; have hBw : Below wD.heap.size wD wa44 := keep_below (by with_reducible assumption) hb; have gw0 : wa44.cell? ⟨w.heap.size, 0, none⟩ = some (.bool s0) := keep_cell hb (by with_reducible assumption); have gw1 : wa44.cell? ⟨w.heap.size, 1, none⟩ = some (.slice A0 n0 c0) := keep_cell hb (by with_reducible assumption); have gw2 : wa44.cell? ⟨q5, 0, none⟩ = some (.bool b9) := keep_cell hb (by with_reducible assumption); have gw3 : wa44.cell? ⟨q5, 1, none⟩ = some (.slice B9 m9 d9) := keep_cell hb (by with_reducible assumption); (with_reducible have hw41 := hw41.below hb); (with_reducible have hw42 := hw42.below hb))
              refine hK.out _ _ ?_ (fun hHeld => ?_)
              · ((try dsimp only); (first | (with_reducible exact ⟨hb0, j0, j1, j2, j3⟩) | (go_split_ands; (repeat' apply And.intro); all_goals (first | with_reducible assumption | with_reducible exact keep_below (by with_reducible assumption) hb | with_reducible exact keep_cell hb (by with_reducible assumption)))))
              clear hK K
              try simp only [Act.put, List.setIfInBounds_toArray, List.set_cons_zero, List.set_cons_succ]
              refine wpAnyH_take (i := 19) (oi := ?_) (v := ?_) (by simp only [List.getElem?_toArray, List.getElem?_cons_succ, List.getElem?_cons_zero]; rfl) (by kernel_rfl) (by kernel_rfl) (by kernel_rfl) (fun _ _ _ h => h) (Or.inl ⟨by rfl, ?_⟩) (by with_reducible assumption) ?_
              rotate_left
              focus ((intro w hSw; (try dsimp only at hSw); go_simp); (try with_reducible rfl))
              try simp only [Act.put, List.setIfInBounds_toArray, List.set_cons_zero, List.set_cons_succ]
              refine wpAnyH_take (i := 20) (oi := ?_) (v := ?_) (by simp only [List.getElem?_toArray, List.getElem?_cons_succ, List.getElem?_cons_zero]; rfl) (by kernel_rfl) (by kernel_rfl) (by kernel_rfl) (fun _ _ _ h => h) (Or.inl ⟨by rfl, ?_⟩) (by with_reducible assumption) ?_
              rotate_left
              focus ((intro w hSw; (try dsimp only at hSw); go_simp); (try with_reducible rfl))
              try simp only [Act.put, List.setIfInBounds_toArray, List.set_cons_zero, List.set_cons_succ]
              refine wpAnyH_done (by kernel_rfl) ?_ _
              refine NoPanic.normal ?_
              clear hb
              have hB := keep_below hB hBw
              have HN9 := Lib.hid (HN9.out.below hBw)
              have HH9 := Lib.hid (HH9.out.below hBw)
              have g1 := keep_cell hBw g1
              have e1 := keep_cell hBw e1
              have g5 := keep_cell hBw g5
              have e5 := keep_cell hBw e5
              have HN41 := Lib.hid hw41
              have HN42 := Lib.hid hw42
              clear hb0 hBw gw0 gw1 gw2 gw3 hw41 hw42
              clear j0
              clear j1
              clear j2
              clear j3
              clear C0 C1 C2 C3
              go_wp2
              go_ret
              exact ⟨by first | rfl | simp, hB⟩
            · have HSG : Hid (sgI false z.natAbs = z) := HSG
              go_wp2_with fail
              have HZ41 : Hid (Sz (K) (x).natAbs) := HS0.out
              have C0 := Lib.hid (fun w' (h : Below wD.heap.size wD w') => HM0.out _ (keep_below hB h))
              have C1 := Lib.hid (fun w' (h : Below wD.heap.size wD w') (b41 : Bool) (B41 : Option Addr) (m41 : Nat) (d41 : Nat) (hw41 : IntIn w' (x) b41 B41 m41 d41) => itext_of (HV.out) (HIC.out.text (x) b41 B41 m41 d41 w' (HT.out _ (keep_below hB h)) hw41 (by have := Sz.words HZ41.out hw41.words; omega)))
              have HZ42 : Hid (Sz (K) (sgI false z.natAbs).natAbs) := (by rw [sgI_abs]; exact HZ9.out)
              have C2 := Lib.hid (fun w' (h : Below wD.heap.size wD w') => ref7_new false z.natAbs C9 r9 f9 w' (HH9.out.below h) (by have := Sz.holds' HZ9.out HH9.out; omega))
              have C3 := Lib.hid (fun w' (h : Below wD.heap.size wD w') (b42 : Bool) (B42 : Option Addr) (m42 : Nat) (d42 : Nat) (hw42 : RefIn w' (sgI false z.natAbs) b42 B42 m42 d42) => law7_like hTb HIC.out (z) b9 B9 m9 d9 b42 B42 m42 d42 KR hKR w' (HZ9.out.up (by omega)) (HN9.out.below h) (RefIn.to (HSG.out) hw42) (HT.out _ (keep_below hB h)))
              have hb0 : Below wD.heap.size wD wD.drew := (Below.refl _ wD).drew
              have j0 : wD.drew.cell? ⟨w.heap.size, 0, none⟩ = some (.bool s0) := g1
              have j1 : wD.drew.cell? ⟨w.heap.size, 1, none⟩ = some (.slice A0 n0 c0) := e1
              have j2 : wD.drew.cell? ⟨q5, 0, none⟩ = some (.bool b9) := g5
              have j3 : wD.drew.cell? ⟨q5, 1, none⟩ = some (.slice B9 m9 d9) := e5
              refine wp_region_noPanic ?_
              refine wp_region_held_drew (S := (fun w' => Below wD.heap.size wD w' ∧ w'.cell? ⟨w.heap.size, 0, none⟩ = some (.bool s0) ∧ w'.cell? ⟨w.heap.size, 1, none⟩ = some (.slice A0 n0 c0) ∧ w'.cell? ⟨q5, 0, none⟩ = some (.bool b9) ∧ w'.cell? ⟨q5, 1, none⟩ = some (.slice B9 m9 d9))) (by kernel_rfl) ?_ (fun hHeld => ?_)
              · exact ⟨hb0, j0, j1, j2, j3⟩
              refine wpAnyH_take (i := 0) (oi := ?_) (v := ?_) (by simp only [List.getElem?_toArray, List.getElem?_cons_succ, List.getElem?_cons_zero]; rfl) (by kernel_rfl) (by kernel_rfl) (by kernel_rfl) (fun _ _ _ h => h) (Or.inl ⟨by rfl, ?_⟩) (by with_reducible assumption) ?_
              rotate_left
              focus ((intro w hSw; (try dsimp only at hSw); go_simp); (try with_reducible rfl))
              try simp only [Act.put, List.setIfInBounds_toArray, List.set_cons_zero, List.set_cons_succ]
              refine wpAnyH_take (i := 3) (oi := ?_) (v := ?_) (by simp only [List.getElem?_toArray, List.getElem?_cons_succ, List.getElem?_cons_zero]; rfl) (by kernel_rfl) (by kernel_rfl) (by kernel_rfl) (fun _ _ _ h => h) (Or.inl ⟨by rfl, ?_⟩) (by with_reducible assumption) ?_
              rotate_left
              focus ((intro w hSw; (try dsimp only at hSw); go_simp); (try with_reducible rfl))
              try simp only [Act.put, List.setIfInBounds_toArray, List.set_cons_zero, List.set_cons_succ]
              refine wpAnyH_ready (rs := [1]) (by kernel_rfl) (by simp) ?_
              refine AllReadyH.cons (o := ?_) (by simp only [List.getElem?_toArray, List.getElem?_cons_succ, List.getElem?_cons_zero]; rfl) (fun K hK => ?_) AllReadyH.nil
              go_simp
              (go_at_call 12; (with_reducible refine (C0.out _ (by first | with_reducible assumption | exact And.left (by with_reducible assumption))).mono ?_); rintro e wa41 ⟨b41, B41, m41, d41, rfl, hw41, hb⟩; go_split_ands; have hBw : Below wD.heap.size wD wa41 := keep_below (by with_reducible assumption) hb; have gw0 : wa41.cell? ⟨w.heap.size, 0, none⟩ = some (.bool s0) := keep_cell hb (by with_reducible assumption); have gw1 : wa41.cell? ⟨w.heap.size, 1, none⟩ = some (.slice A0 n0 c0) := keep_cell hb (by with_reducible assumption); have gw2 : wa41.cell? ⟨q5, 0, none⟩ = some (.bool b9) := keep_cell hb (by with_reducible assumption); have gw3 : wa41.cell? ⟨q5, 1, none⟩ = some (.slice B9 m9 d9) := keep_cell hb (by with_reducible assumption))
              refine hK.out _ _ ?_ (fun hHeld => ?_)
              · ((try dsimp only); (first | (with_reducible exact ⟨hb0, j0, j1, j2, j3⟩) | (go_split_ands; (repeat' apply And.intro); all_goals (first | with_reducible assumption | with_reducible exact keep_below (by with_reducible assumption) hb | with_reducible exact keep_cell hb (by with_reducible assumption)))))
              clear hK K
              try simp only [Act.put, List.setIfInBounds_toArray, List.set_cons_zero, List.set_cons_succ]
              refine wpAnyH_ready (rs := [2]) (by kernel_rfl) (by simp) ?_
              refine AllReadyH.cons (o := ?_) (by simp only [List.getElem?_toArray, List.getElem?_cons_succ, List.getElem?_cons_zero]; rfl) (fun K hK => ?_) AllReadyH.nil
              go_simp
              (go_at_call 30; (with_reducible refine (C1.out _ (by first | with_reducible assumption | exact And.left (by with_reducible assumption)) _ _ _ _ hw41).mono ?_); rintro e wa42 ⟨rfl, hb⟩; go_split_ands; have hBw : Below wD.heap.size wD wa42 := keep_below (by with_reducible assumption) hb; have gw0 : wa42.cell? ⟨w.heap.size, 0, none⟩ = some (.bool s0) := keep_cell hb (by with_reducible assumption); have gw1 : wa42.cell? ⟨w.heap.size, 1, none⟩ = some (.slice A0 n0 c0) := keep_cell hb (by with_reducible assumption); have gw2 : wa42.cell? ⟨q5, 0, none⟩ = some (.bool b9) := keep_cell hb (by with_reducible assumption); have gw3 : wa42.cell? ⟨q5, 1, none⟩ = some (.slice B9 m9 d9) := keep_cell hb (by with_reducible assumption); (with_reducible have hw41 := hw41.below hb))
              refine hK.out _ _ ?_ (fun hHeld => ?_)
              · ((try dsimp only); (first | (with_reducible exact ⟨hb0, j0, j1, j2, j3⟩) | (go_split_ands; (repeat' apply And.intro); all_goals (first | with_reducible assumption | with_reducible exact keep_below (by with_reducible assumption) hb | with_reducible exact keep_cell hb (by with_reducible assumption)))))
              clear hK K
              try simp only [Act.put, List.setIfInBounds_toArray, List.set_cons_zero, List.set_cons_succ]
              refine wpAnyH_take (i := 4) (oi := ?_) (v := ?_) (by simp only [List.getElem?_toArray, List.getElem?_cons_succ, List.getElem?_cons_zero]; rfl) (by kernel_rfl) (by kernel_rfl) (by kernel_rfl) (fun _ _ _ h => h) (Or.inl ⟨by rfl, ?_⟩) (by with_reducible assumption) ?_
              rotate_left
              focus ((intro w hSw; (try dsimp only at hSw); go_simp); (try with_reducible rfl))
              try simp only [Act.put, List.setIfInBounds_toArray, List.set_cons_zero, List.set_cons_succ]
              refine wpAnyH_take (i := 5) (oi := ?_) (v := ?_) (by simp only [List.getElem?_toArray, List.getElem?_cons_succ, List.getElem?_cons_zero]; rfl) (by kernel_rfl) (by kernel_rfl) (by kernel_rfl) (fun _ _ _ h => h) (Or.inl ⟨by rfl, ?_⟩) (by with_reducible assumption) ?_
              rotate_left
              focus ((intro w hSw; (try dsimp only at hSw); go_simp); (try with_reducible rfl))
              try simp only [Act.put, List.setIfInBounds_toArray, List.set_cons_zero, List.set_cons_succ]
              refine wpAnyH_take (i := 6) (oi := ?_) (v := ?_) (by simp only [List.getElem?_toArray, List.getElem?_cons_succ, List.getElem?_cons_zero]; rfl) (by kernel_rfl) (by kernel_rfl) (by kernel_rfl) (fun _ _ _ h => h) (Or.inl ⟨by rfl, ?_⟩) (by with_reducible assumption) ?_
              rotate_left
              focus ((intro w hSw; (try dsimp only at hSw); go_simp); (try with_reducible rfl))
              try simp only [Act.put, List.setIfInBounds_toArray, List.set_cons_zero, List.set_cons_succ]
              refine wpAnyH_take (i := 7) (oi := ?_) (v := ?_) (by simp only [List.getElem?_toArray, List.getElem?_cons_succ, List.getElem?_cons_zero]; rfl) (by kernel_rfl) (by kernel_rfl) (by kernel_rfl) (fun _ _ _ h => h) (Or.inl ⟨by rfl, ?_⟩) (by with_reducible assumption) ?_
              rotate_left
              focus ((intro w hSw; (try dsimp only at hSw); go_simp); (try with_reducible rfl))
              try simp only [Act.put, List.setIfInBounds_toArray, List.set_cons_zero, List.set_cons_succ]
              refine wpAnyH_take (i := 8) (oi := ?_) (v := ?_) (by simp only [List.getElem?_toArray, List.getElem?_cons_succ, List.getElem?_cons_zero]; rfl) (by kernel_rfl) (by kernel_rfl) (by kernel_rfl) (fun _ _ _ h => h) (Or.inl ⟨by rfl, ?_⟩) (by with_reducible assumption) ?_
              rotate_left
              focus ((intro w hSw; (try dsimp only at hSw); go_simp); (try with_reducible rfl))
              try simp only [Act.put, List.setIfInBounds_toArray, List.set_cons_zero, List.set_cons_succ]
              refine wpAnyH_take (i := 9) (oi := ?_) (v := ?_) (by simp only [List.getElem?_toArray, List.getElem?_cons_succ, List.getElem?_cons_zero]; rfl) (by kernel_rfl) (by kernel_rfl) (by kernel_rfl) (fun _ _ _ h => h) (Or.inl ⟨by rfl, ?_⟩) (by with_reducible assumption) ?_
              rotate_left
              focus ((intro w hSw; (try dsimp only at hSw); go_simp); (try with_reducible rfl))
              try simp only [Act.put, List.setIfInBounds_toArray, List.set_cons_zero, List.set_cons_succ]
              refine wpAnyH_take (i := 10) (oi := ?_) (v := ?_) (by simp only [List.getElem?_toArray, List.getElem?_cons_succ, List.getElem?_cons_zero]; rfl) (by kernel_rfl) (by kernel_rfl) (by kernel_rfl) (fun _ _ _ h => h) (Or.inl ⟨by rfl, ?_⟩) (by with_reducible assumption) ?_
              rotate_left
              focus ((intro w hSw; (try dsimp only at hSw); go_simp); (try with_reducible rfl))
              try simp only [Act.put, List.setIfInBounds_toArray, List.set_cons_zero, List.set_cons_succ]
              refine wpAnyH_take (i := 11) (oi := ?_) (v := ?_) (by simp only [List.getElem?_toArray, List.getElem?_cons_succ, List.getElem?_cons_zero]; rfl) (by kernel_rfl) (by kernel_rfl) (by kernel_rfl) (fun _ _ _ h => h) (Or.inl ⟨by rfl, ?_⟩) (by with_reducible assumption) ?_
              rotate_left
              focus ((intro w hSw; (try dsimp only at hSw); go_simp); (try with_reducible rfl))
              try simp only [Act.put, List.setIfInBounds_toArray, List.set_cons_zero, List.set_cons_succ]
              refine wpAnyH_take (i := 12) (oi := ?_) (v := ?_) (by simp only [List.getElem?_toArray, List.getElem?_cons_succ, List.getElem?_cons_zero]; rfl) (by kernel_rfl) (by kernel_rfl) (by kernel_rfl) (fun _ _ _ h => h) (Or.inl ⟨by rfl, ?_⟩) (by with_reducible assumption) ?_
              rotate_left
              focus ((intro w hSw; (try dsimp only at hSw); go_simp); (try with_reducible rfl))
              try simp only [Act.put, List.setIfInBounds_toArray, List.set_cons_zero, List.set_cons_succ]
              refine wpAnyH_take (i := 13) (oi := ?_) (v := ?_) (by simp only [List.getElem?_toArray, List.getElem?_cons_succ, List.getElem?_cons_zero]; rfl) (by kernel_rfl) (by kernel_rfl) (by kernel_rfl) (fun _ _ _ h => h) (Or.inl ⟨by rfl, ?_⟩) (by with_reducible assumption) ?_
              rotate_left
              focus ((intro w hSw; (try dsimp only at hSw); go_simp); (try with_reducible rfl))
              try simp only [Act.put, List.setIfInBounds_toArray, List.set_cons_zero, List.set_cons_succ]
              refine wpAnyH_take (i := 14) (oi := ?_) (v := ?_) (by simp only [List.getElem?_toArray, List.getElem?_cons_succ, List.getElem?_cons_zero]; rfl) (by kernel_rfl) (by kernel_rfl) (by kernel_rfl) (fun _ _ _ h => h) (Or.inl ⟨by rfl, ?_⟩) (by with_reducible assumption) ?_
              rotate_left
              focus ((intro w hSw; (try dsimp only at hSw); go_simp); (try with_reducible rfl))
              try simp only [Act.put, List.setIfInBounds_toArray, List.set_cons_zero, List.set_cons_succ]
              refine wpAnyH_take (i := 15) (oi := ?_) (v := ?_) (by simp only [List.getElem?_toArray, List.getElem?_cons_succ, List.getElem?_cons_zero]; rfl) (by kernel_rfl) (by kernel_rfl) (by kernel_rfl) (fun _ _ _ h => h) (Or.inl ⟨by rfl, ?_⟩) (by with_reducible assumption) ?_
              rotate_left
              focus ((intro w hSw; (try dsimp only at hSw); go_simp); (try with_reducible rfl))
              try simp only [Act.put, List.setIfInBounds_toArray, List.set_cons_zero, List.set_cons_succ]
              refine wpAnyH_take (i := 16) (oi := ?_) (v := ?_) (by simp only [List.getElem?_toArray, List.getElem?_cons_succ, List.getElem?_cons_zero]; rfl) (by kernel_rfl) (by kernel_rfl) (by kernel_rfl) (fun _ _ _ h => h) (Or.inl ⟨by rfl, ?_⟩) (by with_reducible assumption) ?_
              rotate_left
              focus ((intro w hSw; (try dsimp only at hSw); go_simp); (try with_reducible rfl))
              try simp only [Act.put, List.setIfInBounds_toArray, List.set_cons_zero, List.set_cons_succ]
              refine wpAnyH_ready (rs := [17]) (by kernel_rfl) (by simp) ?_
              refine AllReadyH.cons (o := ?_) (by simp only [List.getElem?_toArray, List.getElem?_cons_succ, List.getElem?_cons_zero]; rfl) (fun K hK => ?_) AllReadyH.nil
              go_simp
              (go_at_call 31; (with_reducible refine (C2.out _ (by first | with_reducible assumption | exact And.left (by with_reducible assumption))).mono ?_); rintro e wa43 ⟨b42, B42, m42, d42, rfl, hw42, hb⟩; go_split_ands; have hBw : Below wD.heap.size wD wa43 := keep_below (by with_reducible assumption) hb; have gw0 : wa43.cell? ⟨w.heap.size, 0, none⟩ = some (.bool s0) := keep_cell hb (by with_reducible assumption); have gw1 : wa43.cell? ⟨w.heap.size, 1, none⟩ = some (.slice A0 n0 c0) := keep_cell hb (by with_reducible assumption); have gw2 : wa43.cell? ⟨q5, 0, none⟩ = some (.bool b9) := keep_cell hb (by with_reducible assumption); have gw3 : wa43.cell? ⟨q5, 1, none⟩ = some (.slice B9 m9 d9) := keep_cell hb (by with_reducible assumption); (with_reducible have hw41 := hw41.below hb))
              refine hK.out _ _ ?_ (fun hHeld => ?_)
              · ((try dsimp only); (first | (with_reducible exact ⟨hb0, j0, j1, j2, j3⟩) | (go_split_ands; (repeat' apply And.intro); all_goals (first | with_reducible assumption | with_reducible exact keep_below (by with_reducible assumption) hb | with_reducible exact keep_cell hb (by with_reducible assumption)))))
              clear hK K
              try simp only [Act.put, List.setIfInBounds_toArray, List.set_cons_zero, List.set_cons_succ]
              refine wpAnyH_ready (rs := [18]) (by kernel_rfl) (by simp) ?_
              refine AllReadyH.cons (o := ?_) (by simp only [List.getElem?_toArray, List.getElem?_cons_succ, List.getElem?_cons_zero]; rfl) (fun K hK => ?_) AllReadyH.nil
              go_simp
              (go_at_call 14; (with_reducible refine (C3.out _ (by first | with_reducible assumption | exact And.left (by with_reducible assumption)) _ _ _ _ hw42).mono ?_); rintro e wa44 ⟨rfl, hb⟩; go_split_ands; have hBw : Below wD.heap.size wD wa44 := keep_below (by with_reducible assumption) hb; have gw0 : wa44.cell? ⟨w.heap.size, 0, none⟩ = some (.bool s0) := keep_cell hb (by with_reducible assumption); have gw1 : wa44.cell? ⟨w.heap.size, 1, none⟩ = some (.slice A0 n0 c0) := keep_cell hb (by with_reducible assumption); have gw2 : wa44.cell? ⟨q5, 0, none⟩ = some (.bool b9) := keep_cell hb (by with_reducible assumption); have gw3 : wa44.cell? ⟨q5, 1, none⟩ = some (.slice B9 m9 d9) := keep_cell hb (by with_reducible assumption); (with_reducible have hw41 := hw41.below hb); (with_reducible have hw42 := hw42.below hb))
              refine hK.out _ _ ?_ (fun hHeld => ?_)
              · ((try dsimp only); (first | (with_reducible exact ⟨hb0, j0, j1, j2, j3⟩) | (go_split_ands; (repeat' apply And.intro); all_goals (first | with_reducible assumption | with_reducible exact keep_below (by with_reducible assumption) hb | with_reducible exact keep_cell hb (by with_reducible assumption)))))
              clear hK K
              try simp only [Act.put, List.setIfInBounds_toArray, List.set_cons_zero, List.set_cons_succ]
              refine wpAnyH_take (i := 19) (oi := ?_) (v := ?_) (by simp only [List.getElem?_toArray, List.getElem?_cons_succ, List.getElem?_cons_zero]; rfl) (by kernel_rfl) (by kernel_rfl) (by kernel_rfl) (fun _ _ _ h => h) (Or.inl ⟨by rfl, ?_⟩) (by with_reducible assumption) ?_
              rotate_left
              focus ((intro w hSw; (try dsimp only at hSw); go_simp); (try with_reducible rfl))
              try simp only [Act.put, List.setIfInBounds_toArray, List.set_cons_zero, List.set_cons_succ]
              refine wpAnyH_take (i := 20) (oi := ?_) (v := ?_) (by simp only [List.getElem?_toArray, List.getElem?_cons_succ, List.getElem?_cons_zero]; rfl) (by kernel_rfl) (by kernel_rfl) (by kernel_rfl) (fun _ _ _ h => h) (Or.inl ⟨by rfl, ?_⟩) (by with_reducible assumption) ?_
              rotate_left
              focus ((intro w hSw; (try dsimp only at hSw); go_simp); (try with_reducible rfl))
              try simp only [Act.put, List.setIfInBounds_toArray, List.set_cons_zero, List.set_cons_succ]
              refine wpAnyH_done (by kernel_rfl) ?_ _
              refine NoPanic.normal ?_
              clear hb
              have hB := keep_below hB hBw
              have HN9 := Lib.hid (HN9.out.below hBw)
              have HH9 := Lib.hid (HH9.out.below hBw)
              have g1 := keep_cell hBw g1
              have e1 := keep_cell hBw e1
              have g5 := keep_cell hBw g5
              have e5 := keep_cell hBw e5
              have HN41 := Lib.hid hw41
              have HN42 := Lib.hid hw42
              clear hb0 hBw gw0 gw1 gw2 gw3 hw41 hw42
              clear j0
              clear j1
              clear j2
              clear j3
              clear C0 C1 C2 C3
              go_wp2
              go_ret
              exact ⟨by first | rfl | simp, hB⟩
            · have HSG : Hid (sgI true z.natAbs = z) := HSG
              go_wp2_with fail
              have HZ41 : Hid (Sz (K) (x).natAbs) := HS0.out
              have C0 := Lib.hid (fun w' (h : Below wD.heap.size wD w') => HM0.out _ (keep_below hB h))
              have C1 := Lib.hid (fun w' (h : Below wD.heap.size wD w') (b41 : Bool) (B41 : Option Addr) (m41 : Nat) (d41 : Nat) (hw41 : IntIn w' (x) b41 B41 m41 d41) => itext_of (HV.out) (HIC.out.text (x) b41 B41 m41 d41 w' (HT.out _ (keep_below hB h)) hw41 (by have := Sz.words HZ41.out hw41.words; omega)))
              have HZ42 : Hid (Sz (K) (sgI true z.natAbs).natAbs) := (by rw [sgI_abs]; exact HZ9.out)
              have C2 := Lib.hid (fun w' (h : Below wD.heap.size wD w') => ref7_new true z.natAbs C9 r9 f9 w' (HH9.out.below h) (by have := Sz.holds' HZ9.out HH9.out; omega))
              have C3 := Lib.hid (fun w' (h : Below wD.heap.size wD w') (b42 : Bool) (B42 : Option Addr) (m42 : Nat) (d42 : Nat) (hw42 : RefIn w' (sgI true z.natAbs) b42 B42 m42 d42) => law7_like hTb HIC.out (z) b9 B9 m9 d9 b42 B42 m42 d42 KR hKR w' (HZ9.out.up (by omega)) (HN9.out.below h) (RefIn.to (HSG.out) hw42) (HT.out _ (keep_below hB h)))
              have hb0 : Below wD.heap.size wD wD.drew := (Below.refl _ wD).drew
              have j0 : wD.drew.cell? ⟨w.heap.size, 0, none⟩ = some (.bool s0) := g1
              have j1 : wD.drew.cell? ⟨w.heap.size, 1, none⟩ = some (.slice A0 n0 c0) := e1
              have j2 : wD.drew.cell? ⟨q5, 0, none⟩ = some (.bool b9) := g5
              have j3 : wD.drew.cell? ⟨q5, 1, none⟩ = some (.slice B9 m9 d9) := e5
              refine wp_region_noPanic ?_
              refine wp_region_held_drew (S := (fun w' => Below wD.heap.size wD w' ∧ w'.cell? ⟨w.heap.size, 0, none⟩ = some (.bool s0) ∧ w'.cell? ⟨w.heap.size, 1, none⟩ = some (.slice A0 n0 c0) ∧ w'.cell? ⟨q5, 0, none⟩ = some (.bool b9) ∧ w'.cell? ⟨q5, 1, none⟩ = some (.slice B9 m9 d9))) (by kernel_rfl) ?_ (fun hHeld => ?_)
              · exact ⟨hb0, j0, j1, j2, j3⟩
              refine wpAnyH_take (i := 0) (oi := ?_) (v := ?_) (by simp only [List.getElem?_toArray, List.getElem?_cons_succ, List.getElem?_cons_zero]; rfl) (by kernel_rfl) (by kernel_rfl) (by kernel_rfl) (fun _ _ _ h => h) (Or.inl ⟨by rfl, ?_⟩) (by with_reducible assumption) ?_
              rotate_left
              focus ((intro w hSw; (try dsimp only at hSw); go_simp); (try with_reducible rfl))
              try simp only [Act.put, List.setIfInBounds_toArray, List.set_cons_zero, List.set_cons_succ]
              refine wpAnyH_take (i := 3) (oi := ?_) (v := ?_) (by simp only [List.getElem?_toArray, List.getElem?_cons_succ, List.getElem?_cons_zero]; rfl) (by kernel_rfl) (by kernel_rfl) (by kernel_rfl) (fun _ _ _ h => h) (Or.inl ⟨by rfl, ?_⟩) (by with_reducible assumption) ?_
              rotate_left
              focus ((intro w hSw; (try dsimp only at hSw); go_simp); (try with_reducible rfl))
              try simp only [Act.put, List.setIfInBounds_toArray, List.set_cons_zero, List.set_cons_succ]
              refine wpAnyH_ready (rs := [1]) (by kernel_rfl) (by simp) ?_
              refine AllReadyH.cons (o := ?_) (by simp only [List.getElem?_toArray, List.getElem?_cons_succ, List.getElem?_cons_zero]; rfl) (fun K hK => ?_) AllReadyH.nil
              go_simp
              (go_at_call 12; (with_reducible refine (C0.out _ (by first | with_reducible assumption | exact And.left (by with_reducible assumption))).mono ?_); rintro e wa41 ⟨b41, B41, m41, d41, rfl, hw41, hb⟩; go_split_ands; have hBw : Below wD.heap.size wD wa41 := keep_below (by with_reducible assumption) hb; have gw0 : wa41.cell? ⟨w.heap.size, 0, none⟩ = some (.bool s0) := keep_cell hb (by with_reducible assumption); have gw1 : wa41.cell? ⟨w.heap.size, 1, none⟩ = some (.slice A0 n0 c0) := keep_cell hb (by with_reducible assumption); have gw2 : wa41.cell? ⟨q5, 0, none⟩ = some (.bool b9) := keep_cell hb (by with_reducible assumption); have gw3 : wa41.cell? ⟨q5, 1, none⟩ = some (.slice B9 m9 d9) := keep_cell hb (by with_reducible assumption))
              refine hK.out _ _ ?_ (fun hHeld => ?_)
              · ((try dsimp only); (first | (with_reducible exact ⟨hb0, j0, j1, j2, j3⟩) | (go_split_ands; (repeat' apply And.intro); all_goals (first | with_reducible assumption | with_reducible exact keep_below (by with_reducible assumption) hb | with_reducible exact keep_cell hb (by with_reducible assumption)))))
              clear hK K
              try simp only [Act.put, List.setIfInBounds_toArray, List.set_cons_zero, List.set_cons_succ]
              refine wpAnyH_ready (rs := [2]) (by kernel_rfl) (by simp) ?_
              refine AllReadyH.cons (o := ?_) (by simp only [List.getElem?_toArray, List.getElem?_cons_succ, List.getElem?_cons_zero]; rfl) (fun K hK => ?_) AllReadyH.nil
              go_simp
              (go_at_call 30; (with_reducible refine (C1.out _ (by first | with_reducible assumption | exact And.left (by with_reducible assumption)) _ _ _ _ hw41).mono ?_); rintro e wa42 ⟨rfl, hb⟩; go_split_ands; have hBw : Below wD.heap.size wD wa42 := keep_below (by with_reducible assumption) hb; have gw0 : wa42.cell? ⟨w.heap.size, 0, none⟩ = some (.bool s0) := keep_cell hb (by with_reducible assumption); have gw1 : wa42.cell? ⟨w.heap.size, 1, none⟩ = some (.slice A0 n0 c0) := keep_cell hb (by with_reducible assumption); have gw2 : wa42.cell? ⟨q5, 0, none⟩ = some (.bool b9) := keep_cell hb (by with_reducible assumption); have gw3 : wa42.cell? ⟨q5, 1, none⟩ = some (.slice B9 m9 d9) := keep_cell hb (by with_reducible assumption); (with_reducible have hw41 := hw41.below hb))
              refine hK.out _ _ ?_ (fun hHeld => ?_)
              · ((try dsimp only); (first | (with_reducible exact ⟨hb0, j0, j1, j2, j3⟩) | (go_split_ands; (repeat' apply And.intro); all_goals (first | with_reducible assumption | with_reducible exact keep_below (by with_reducible assumption) hb | with_reducible exact keep_cell hb (by with_reducible assumption)))))
              clear hK K
              try simp only [Act.put, List.setIfInBounds_toArray, List.set_cons_zero, List.set_cons_succ]
              refine wpAnyH_take (i := 4) (oi := ?_) (v := ?_) (by simp only [List.getElem?_toArray, List.getElem?_cons_succ, List.getElem?_cons_zero]; rfl) (by kernel_rfl) (by kernel_rfl) (by kernel_rfl) (fun _ _ _ h => h) (Or.inl ⟨by rfl, ?_⟩) (by with_reducible assumption) ?_
              rotate_left
              focus ((intro w hSw; (try dsimp only at hSw); go_simp); (try with_reducible rfl))
              try simp only [Act.put, List.setIfInBounds_toArray, List.set_cons_zero, List.set_cons_succ]
              refine wpAnyH_take (i := 5) (oi := ?_) (v := ?_) (by simp only [List.getElem?_toArray, List.getElem?_cons_succ, List.getElem?_cons_zero]; rfl) (by kernel_rfl) (by kernel_rfl) (by kernel_rfl) (fun _ _ _ h => h) (Or.inl ⟨by rfl, ?_⟩) (by with_reducible assumption) ?_
              rotate_left
              focus ((intro w hSw; (try dsimp only at hSw); go_simp); (try with_reducible rfl))
              try simp only [Act.put, List.setIfInBounds_toArray, List.set_cons_zero, List.set_cons_succ]
              refine wpAnyH_take (i := 6) (oi := ?_) (v := ?_) (by simp only [List.getElem?_toArray, List.getElem?_cons_succ, List.getElem?_cons_zero]; rfl) (by kernel_rfl) (by kernel_rfl) (by kernel_rfl) (fun _ _ _ h => h) (Or.inl ⟨by rfl, ?_⟩) (by with_reducible assumption) ?_
              rotate_left
              focus ((intro w hSw; (try dsimp only at hSw); go_simp); (try with_reducible rfl))
              try simp only [Act.put, List.setIfInBounds_toArray, List.set_cons_zero, List.set_cons_succ]
              refine wpAnyH_take (i := 7) (oi := ?_) (v := ?_) (by simp only [List.getElem?_toArray, List.getElem?_cons_succ, List.getElem?_cons_zero]; rfl) (by kernel_rfl) (by kernel_rfl) (by kernel_rfl) (fun _ _ _ h => h) (Or.inl ⟨by rfl, ?_⟩) (by with_reducible assumption) ?_
              rotate_left
              focus ((intro w hSw; (try dsimp only at hSw); go_simp); (try with_reducible rfl))
              try simp only [Act.put, List.setIfInBounds_toArray, List.set_cons_zero, List.set_cons_succ]
              refine wpAnyH_take (i := 8) (oi := ?_) (v := ?_) (by simp only [List.getElem?_toArray, List.getElem?_cons_succ, List.getElem?_cons_zero]; rfl) (by kernel_rfl) (by kernel_rfl) (by kernel_rfl) (fun _ _ _ h => h) (Or.inl ⟨by rfl, ?_⟩) (by with_reducible assumption) ?_
              rotate_left
              focus ((intro w hSw; (try dsimp only at hSw); go_simp); (try with_reducible rfl))
              try simp only [Act.put, List.setIfInBounds_toArray, List.set_cons_zero, List.set_cons_succ]
              refine wpAnyH_take (i := 9) (oi := ?_) (v := ?_) (by simp only [List.getElem?_toArray, List.getElem?_cons_succ, List.getElem?_cons_zero]; rfl) (by kernel_rfl) (by kernel_rfl) (by kernel_rfl) (fun _ _ _ h => h) (Or.inl ⟨by rfl, ?_⟩) (by with_reducible assumption) ?_
              rotate_left
              focus ((intro w hSw; (try dsimp only at hSw); go_simp); (try with_reducible rfl))
              try simp only [Act.put, List.setIfInBounds_toArray, List.set_cons_zero, List.set_cons_succ]
              refine wpAnyH_take (i := 10) (oi := ?_) (v := ?_) (by simp only [List.getElem?_toArray, List.getElem?_cons_succ, List.getElem?_cons_zero]; rfl) (by kernel_rfl) (by kernel_rfl) (by kernel_rfl) (fun _ _ _ h => h) (Or.inl ⟨by rfl, ?_⟩) (by with_reducible assumption) ?_
              rotate_left
              focus ((intro w hSw; (try dsimp only at hSw); go_simp); (try with_reducible rfl))
              try simp only [Act.put, List.setIfInBounds_toArray, List.set_cons_zero, List.set_cons_succ]
              refine wpAnyH_take (i := 11) (oi := ?_) (v := ?_) (by simp only [List.getElem?_toArray, List.getElem?_cons_succ, List.getElem?_cons_zero]; rfl) (by kernel_rfl) (by kernel_rfl) (by kernel_rfl) (fun _ _ _ h => h) (Or.inl ⟨by rfl, ?_⟩) (by with_reducible assumption) ?_
              rotate_left
              focus ((intro w hSw; (try dsimp only at hSw); go_simp); (try with_reducible rfl))
              try simp only [Act.put, List.setIfInBounds_toArray, List.set_cons_zero, List.set_cons_succ]
              refine wpAnyH_take (i := 12) (oi := ?_) (v := ?_) (by simp only [List.getElem?_toArray, List.getElem?_cons_succ, List.getElem?_cons_zero]; rfl) (by kernel_rfl) (by kernel_rfl) (by kernel_rfl) (fun _ _ _ h => h) (Or.inl ⟨by rfl, ?_⟩) (by with_reducible assumption) ?_
              rotate_left
              focus ((intro w hSw; (try dsimp only at hSw); go_simp); (try with_reducible rfl))
              try simp only [Act.put, List.setIfInBounds_toArray, List.set_cons_zero, List.set_cons_succ]
              refine wpAnyH_take (i := 13) (oi := ?_) (v := ?_) (by simp only [List.getElem?_toArray, List.getElem?_cons_succ, List.getElem?_cons_zero]; rfl) (by kernel_rfl) (by kernel_rfl) (by kernel_rfl) (fun _ _ _ h => h) (Or.inl ⟨by rfl, ?_⟩) (by with_reducible assumption) ?_
              rotate_left
              focus ((intro w hSw; (try dsimp only at hSw); go_simp); (try with_reducible rfl))
              try simp only [Act.put, List.setIfInBounds_toArray, List.set_cons_zero, List.set_cons_succ]
              refine wpAnyH_take (i := 14) (oi := ?_) (v := ?_) (by simp only [List.getElem?_toArray, List.getElem?_cons_succ, List.getElem?_cons_zero]; rfl) (by kernel_rfl) (by kernel_rfl) (by kernel_rfl) (fun _ _ _ h => h) (Or.inl ⟨by rfl, ?_⟩) (by with_reducible assumption) ?_
              rotate_left
              focus ((intro w hSw; (try dsimp only at hSw); go_simp); (try with_reducible rfl))
              try simp only [Act.put, List.setIfInBounds_toArray, List.set_cons_zero, List.set_cons_succ]
              refine wpAnyH_take (i := 15) (oi := ?_) (v := ?_) (by simp only [List.getElem?_toArray, List.getElem?_cons_succ, List.getElem?_cons_zero]; rfl) (by kernel_rfl) (by kernel_rfl) (by kernel_rfl) (fun _ _ _ h => h) (Or.inl ⟨by rfl, ?_⟩) (by with_reducible assumption) ?_
              rotate_left
              focus ((intro w hSw; (try dsimp only at hSw); go_simp); (try with_reducible rfl))
              try simp only [Act.put, List.setIfInBounds_toArray, List.set_cons_zero, List.set_cons_succ]
              refine wpAnyH_take (i := 16) (oi := ?_) (v := ?_) (by simp only [List.getElem?_toArray, List.getElem?_cons_succ, List.getElem?_cons_zero]; rfl) (by kernel_rfl) (by kernel_rfl) (by kernel_rfl) (fun _ _ _ h => h) (Or.inl ⟨by rfl, ?_⟩) (by with_reducible assumption) ?_
              rotate_left
              focus ((intro w hSw; (try dsimp only at hSw); go_simp); (try with_reducible rfl))
              try simp only [Act.put, List.setIfInBounds_toArray, List.set_cons_zero, List.set_cons_succ]
              refine wpAnyH_ready (rs := [17]) (by kernel_rfl) (by simp) ?_
              refine AllReadyH.cons (o := ?_) (by simp only [List.getElem?_toArray, List.getElem?_cons_succ, List.getElem?_cons_zero]; rfl) (fun K hK => ?_) AllReadyH.nil
              go_simp
              (go_at_call 31; (with_reducible refine (C2.out _ (by first | with_reducible assumption | exact And.left (by with_reducible assumption))).mono ?_); rintro e wa43 ⟨b42, B42, m42, d42, rfl, hw42, hb⟩; go_split_ands; have hBw : Below wD.heap.size wD wa43 := keep_below (by with_reducible assumption) hb; have gw0 : wa43.cell? ⟨w.heap.size, 0, none⟩ = some (.bool s0) := keep_cell hb (by with_reducible assumption); have gw1 : wa43.cell? ⟨w.heap.size, 1, none⟩ = some (.slice A0 n0 c0) := keep_cell hb (by with_reducible assumption); have gw2 : wa43.cell? ⟨q5, 0, none⟩ = some (.bool b9) := keep_cell hb (by with_reducible assumption); have gw3 : wa43.cell? ⟨q5, 1, none⟩ = some (.slice B9 m9 d9) := keep_cell hb (by with_reducible assumption); (with_reducible have hw41 := hw41.below hb))
              refine hK.out _ _ ?_ (fun hHeld => ?_)
              · ((try dsimp only); (first | (with_reducible exact ⟨hb0, j0, j1, j2, j3⟩) | (go_split_ands; (repeat' apply And.intro); all_goals (first | with_reducible assumption | with_reducible exact keep_below (by with_reducible assumption) hb | with_reducible exact keep_cell hb (by with_reducible assumption)))))
              clear hK K
              try simp only [Act.put, List.setIfInBounds_toArray, List.set_cons_zero, List.set_cons_succ]
              refine wpAnyH_ready (rs := [18]) (by kernel_rfl) (by simp) ?_
              refine AllReadyH.cons (o := ?_) (by simp only [List.getElem?_toArray, List.getElem?_cons_succ, List.getElem?_cons_zero]; rfl) (fun K hK => ?_) AllReadyH.nil
              go_simp
              (go_at_call 14; (with_reducible refine (C3.out _ (by first | with_reducible assumption | exact And.left (by with_reducible assumption)) _ _ _ _ hw42).mono ?_); rintro e wa44 ⟨rfl, hb⟩; go_split_ands; have hBw : Below wD.heap.size wD wa44 := keep_below (by with_reducible assumption) hb; have gw0 : wa44.cell? ⟨w.heap.size, 0, none⟩ = some (.bool s0) := keep_cell hb (by with_reducible assumption); have gw1 : wa44.cell? ⟨w.heap.size, 1, none⟩ = some (.slice A0 n0 c0) := keep_cell hb (by with_reducible assumption); have gw2 : wa44.cell? ⟨q5, 0, none⟩ = some (.bool b9) := keep_cell hb (by with_reducible assumption); have gw3 : wa44.cell? ⟨q5, 1, none⟩ = some (.slice B9 m9 d9) := keep_cell hb (by with_reducible assumption); (with_reducible have hw41 := hw41.below hb); (with_reducible have hw42 := hw42.below hb))
              refine hK.out _ _ ?_ (fun hHeld => ?_)
              · ((try dsimp only); (first | (with_reducible exact ⟨hb0, j0, j1, j2, j3⟩) | (go_split_ands; (repeat' apply And.intro); all_goals (first | with_reducible assumption | with_reducible exact keep_below (by with_reducible assumption) hb | with_reducible exact keep_cell hb (by with_reducible assumption)))))
              clear hK K
              try simp only [Act.put, List.setIfInBounds_toArray, List.set_cons_zero, List.set_cons_succ]
              refine wpAnyH_take (i := 19) (oi := ?_) (v := ?_) (by simp only [List.getElem?_toArray, List.getElem?_cons_succ, List.getElem?_cons_zero]; rfl) (by kernel_rfl) (by kernel_rfl) (by kernel_rfl) (fun _ _ _ h => h) (Or.inl ⟨by rfl, ?_⟩) (by with_reducible assumption) ?_
              rotate_left
              focus ((intro w hSw; (try dsimp only at hSw); go_simp); (try with_reducible rfl))
              try simp only [Act.put, List.setIfInBounds_toArray, List.set_cons_zero, List.set_cons_succ]
              refine wpAnyH_take (i := 20) (oi := ?_) (v := ?_) (by simp only [List.getElem?_toArray, List.getElem?_cons_succ, List.getElem?_cons_zero]; rfl) (by kernel_rfl) (by kernel_rfl) (by kernel_rfl) (fun _ _ _ h => h) (Or.inl ⟨by rfl, ?_⟩) (by with_reducible assumption) ?_
              rotate_left
              focus ((intro w hSw; (try dsimp only at hSw); go_simp); (try with_reducible rfl))
              try simp only [Act.put, List.setIfInBounds_toArray, List.set_cons_zero, List.set_cons_succ]
              refine wpAnyH_done (by kernel_rfl) ?_ _
              refine NoPanic.normal ?_
              clear hb
              have hB := keep_below hB hBw
              have HN9 := Lib.hid (HN9.out.below hBw)
              have HH9 := Lib.hid (HH9.out.below hBw)
              have g1 := keep_cell hBw g1
              have e1 := keep_cell hBw e1
              have g5 := keep_cell hBw g5
              have e5 := keep_cell hBw e5
              have HN41 := Lib.hid hw41
              have HN42 := Lib.hid hw42
              clear hb0 hBw gw0 gw1 gw2 gw3 hw41 hw42
              clear j0
              clear j1
              clear j2
              clear j3
              clear C0 C1 C2 C3
              go_wp2
              go_ret
              exact ⟨by first | rfl | simp, hB⟩
    · have j3 : decide ((S : Int) > 400) = true := by simp; omega
      have j4 : decide ((400 : Int) < (S : Int)) = true := by simp; omega
      go_wp2
      go_ret
      exact ⟨by first | rfl | simp, hB⟩
  · have j1 : decide ((n0 : Int) > 20) = true := by simp; omega
    have j2 : decide ((20 : Int) < (n0 : Int)) = true := by simp; omega
    go_wp2
    go_ret
    exact ⟨by first | rfl | simp, hB⟩
end Go.Proofs.Ytnfednkphcapnaa
