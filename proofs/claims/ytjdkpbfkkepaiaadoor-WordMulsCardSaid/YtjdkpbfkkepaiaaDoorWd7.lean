/-
  The contracts of the reference of the first stage, the last part: Len, Trail, Less. Conditions: the arguments are words.
-/
import Derived.Test.YtjdkpbfkkepaiaaDoorWd6
import Derived.BigQuiet
namespace Go.Proofs.YtjdkpbfkkepaiaaDoor
open Go Go.RowKit
set_option maxRecDepth 100000

set_option maxHeartbeats 2000000 in
theorem ref_len (x : Nat) (hx : x < 18446744073709551616) (w : World) :
    Calls Tryd.prog 22 #[.int .u64 x] w fun e w' => e = .returned (.int .i64 (lenN x)) ∧ Below w.heap.size w w' := by
  have B1 := Lib.hid (ref_bits' x hx w)
  have h0 : x / 2 ^ 64 = 0 := Nat.div_eq_of_lt (by omega)
  go_enter Tryd.func22, Tryd.ntmps22
  go_wp2_with fail
  refine B1.out.mono ?_
  rintro e w1 ⟨A1, c1, rfl, hr1, hc1, _, hb1⟩
  go_wp2_with fail
  go_loop [4] (fun i => ∃ k : Nat, k ≤ 64 ∧ i = .int .i64 ((k : Int) - 1) ∧ Hid (x / 2 ^ k = 0)) (fun i => (intOf i + 1).toNat)
  case atStart => exact ⟨64, Nat.le_refl _, rfl, h0⟩
  case round =>
    obtain ⟨k, hk, rfl, H⟩ := hrel
    by_cases hk0 : k = 0
    · subst hk0
      have hx0 : x = 0 := by have := H.out; simpa using this
      subst hx0
      go_wp2
      go_ret
      exact ⟨rfl, hb1⟩
    · obtain ⟨j, rfl⟩ : ∃ j, k = j + 1 := ⟨k - 1, by omega⟩
      obtain ⟨ad, rfl, hadb, hc⟩ := int_at hr1 (k := j) (by omega)
      have hbit : (bitsN 64 x).getD j 0 = ((x / 2 ^ j % 2 : Nat) : Int) := by rw [List.getD_eq_getElem?_getD, bitsN_get 64 x j (by omega)]; rfl
      rw [hbit] at hc
      have hb2 : x / 2 ^ j % 2 = 0 ∨ x / 2 ^ j % 2 = 1 := by omega
      rcases hb2 with hb | hb
      · have HM := Lib.hid (len_miss x j H.out hb)
        rw [hb] at hc
        clear hb hbit
        go_wp2
        go_round
        case rel => exact ⟨j, by omega, by go_num, HM⟩
        case measure => simp only [intOf]; omega
      · have HM := Lib.hid (len_hit x j H.out hb)
        rw [hb] at hc
        clear hb hbit
        go_wp2
        go_ret
        refine ⟨ret_i64 ?_, hb1⟩
        unfold lenN
        rw [Int.toNat_natCast, HM.out]
        go_num

set_option maxHeartbeats 2000000 in
theorem ref_trail (x : Nat) (hx : x < 18446744073709551616) (w : World) :
    Calls Tryd.prog 25 #[.int .u64 x] w fun e w' => e = .returned (.int .i64 (trailN x)) ∧ Below w.heap.size w w' := by
  have B1 := Lib.hid (ref_bits' x hx w)
  go_enter Tryd.func25, Tryd.ntmps25
  go_wp2_with fail
  refine B1.out.mono ?_
  rintro e w1 ⟨A1, c1, rfl, hr1, hc1, _, hb1⟩
  go_wp2_with fail
  go_loop [4] (fun i => ∃ k : Nat, k ≤ 64 ∧ i = .int .i64 (k : Int) ∧ Hid (x % 2 ^ k = 0)) (fun i => 64 - (intOf i).toNat)
  case atStart => exact ⟨0, Nat.zero_le _, rfl, by show _ = _; simp [Nat.mod_one]⟩
  case round =>
    obtain ⟨j, hk, rfl, H⟩ := hrel
    by_cases hk0 : j = 64
    · subst hk0
      have hx0 : x = 0 := by have h := H.out; rw [Nat.mod_eq_of_lt (by omega)] at h; exact h
      subst hx0
      go_wp2
      go_ret
      exact ⟨rfl, hb1⟩
    · obtain ⟨ad, rfl, hadb, hc⟩ := int_at hr1 (k := j) (by omega)
      have hbit : (bitsN 64 x).getD j 0 = ((x / 2 ^ j % 2 : Nat) : Int) := by rw [List.getD_eq_getElem?_getD, bitsN_get 64 x j (by omega)]; rfl
      rw [hbit] at hc
      have hb2 : x / 2 ^ j % 2 = 0 ∨ x / 2 ^ j % 2 = 1 := by omega
      rcases hb2 with hb | hb
      · have HM := Lib.hid (ctz_miss x j H.out hb)
        rw [hb] at hc
        clear hb hbit
        go_wp2
        go_round
        case rel => exact ⟨j + 1, by omega, by go_num, HM⟩
        case measure => simp only [intOf]; omega
      · have HM := Lib.hid (ctz_of_hit x j H.out hb (by omega))
        rw [hb] at hc
        clear hb hbit
        go_wp2
        go_ret
        refine ⟨ret_i64 ?_, hb1⟩
        unfold trailN
        rw [Int.toNat_natCast, HM.out]

/-- The 64 noughts that Less begins with. -/
def noughts : Array Value := (List.replicate 64 (Value.int .i64 0)).toArray
theorem make64 (w : World) : (Instr.makeSlice 29 (.int .i64 64) (.int .i64 64)).run Tryd.prog w = .ok (.slice (some ⟨w.heap.size, 0, none⟩) 64 64) (w.alloc (.cells noughts 3)) := by kernel_rfl

theorem take_set (cs : Array Value) (k : Nat) (u : Value) (h : k < cs.size) : (cs.setIfInBounds k u).toList.take (k + 1) = cs.toList.take k ++ [u] := by
  rw [Array.toList_setIfInBounds, List.take_succ_eq_append_getElem (by simpa using h), List.take_set_of_le (Nat.le_refl _)]
  simp

set_option maxHeartbeats 4000000 in
/-- Less: P1.1 as the reference has it. -/
theorem ref_less (x y c : Nat) (hx : x < 18446744073709551616) (hy : y < 18446744073709551616) (hc : c < 18446744073709551616) (w : World) :
    Calls Tryd.prog 13 #[.int .u64 x, .int .u64 y, .int .u64 c] w fun e w' => e = .returned (.tuple #[.int .u64 (subLo x y c), .int .u64 (subHi x y c)]) ∧ Below w.heap.size w w' := by
  have hmk := make64
  have B1 := Lib.hid (ref_bits' x hx (w.alloc (.cells noughts 3)))
  go_enter Tryd.func13, Tryd.ntmps13
  go_wp2_with fail
  refine B1.out.mono ?_
  rintro e w1 ⟨A1, c1, rfl, hr1, hc1, ⟨_, hf1⟩, hb1⟩
  have B2 := Lib.hid (ref_bits' y hy w1)
  go_wp2_with fail
  refine B2.out.mono ?_
  rintro e w2 ⟨A2, c2, rfl, hr2, hc2, ⟨_, hf2⟩, hb2⟩
  have hf1' : ∀ ad, A1 = some ad → w.heap.size < ad.block := fun ad e => by have := hf1 ad e; simp at this; omega
  have hf2' : ∀ ad, A2 = some ad → w.heap.size < ad.block := fun ad e => by have := hf2 ad e; have := hb1.size; simp at this; omega
  have hblk : Blk w2 w.heap.size 3 noughts := ((Blk.new w _ _).below hb1 (by simp)).below hb2 (by have := hb1.size; simp at this; omega)
  have hr1' := (hr1.below hb2).more hb2.size
  have hbel : Below w.heap.size w w2 := (((Below.refl _ _).alloc (Nat.le_refl _) _).trans (hb1.mono (by simp))).trans (hb2.mono (by have := hb1.size; simp at this; omega))
  clear hb1 hb2 hr1 hmk hf1 hf2
  go_wp2_with fail
  go_loopw [8, 12] (fun b i wr => ∃ (k : Nat) (cs : Array Value) (out : List Int) (b0 : Int), k ≤ 64 ∧ i = .int .i64 k ∧ b = .int .i64 b0 ∧ LessAt x y c k out b0 ∧ Blk wr w.heap.size 3 cs ∧ cs.size = 64 ∧ cs.toList.take k = ints out ∧
      Below w.heap.size w wr ∧ (∀ p : Addr, p.block ≠ w.heap.size → wr.cell? p = w2.cell? p)) (fun _ i _ => 64 - (intOf i).toNat)
  case atStart => exact ⟨0, noughts, [], 0, Nat.zero_le _, rfl, rfl, LessAt.start x y c, hblk, rfl, rfl, hbel, fun _ _ => rfl⟩
  case round =>
    obtain ⟨k, cs, out, b0, hk, rfl, rfl, hat, hB, hsz, htk, hbl, hfar⟩ := hrel
    by_cases hlt : k < 64
    · obtain ⟨ad, rfl, hadb, hc1⟩ := int_at hr1' (k := k) hlt
      obtain ⟨ae, rfl, haeb, hc2⟩ := int_at hr2 (k := k) hlt
      have hp : wr.cell? (ad.add k) = some (.int .i64 ((x / 2 ^ k % 2 : Nat) : Int)) := by
        rw [hfar _ (by rw [block_of_add]; have := hf1' ad rfl; omega), hc1, List.getD_eq_getElem?_getD, bitsN_get 64 x k hlt]; rfl
      have hq : wr.cell? (ae.add k) = some (.int .i64 ((y / 2 ^ k % 2 : Nat) : Int)) := by
        rw [hfar _ (by rw [block_of_add]; have := hf2' ae rfl; omega), hc2, List.getD_eq_getElem?_getD, bitsN_get 64 y k hlt]; rfl
      have hp2 : x / 2 ^ k % 2 < 2 := Nat.mod_lt _ (by decide)
      have hq2 : y / 2 ^ k % 2 < 2 := Nat.mod_lt _ (by decide)
      obtain ⟨g0, g1⟩ := hat.lack
      have hfirst := hat.first
      have HAT := Lib.hid hat
      have hDb := lessD_bd (x := x) (y := y) (c := c) hat.lack hat.first
      obtain ⟨D, hD⟩ : ∃ D, lessD x y c k b0 = D := ⟨_, rfl⟩
      have HD := Lib.hid hD
      rw [hD] at hDb
      unfold lessD at hD
      obtain ⟨P, hP⟩ : ∃ P, x / 2 ^ k % 2 = P := ⟨_, rfl⟩
      obtain ⟨Q, hQ⟩ : ∃ Q, y / 2 ^ k % 2 = Q := ⟨_, rfl⟩
      rw [hP] at hp hp2 hD
      rw [hQ] at hq hq2 hD
      clear hc1 hc2 hP hQ hat
      obtain ⟨d0, d1⟩ := hDb
      have hfr := hB.frozen k
      have hcell : ∃ u, wr.cell? ⟨w.heap.size, k, none⟩ = some u := by
        rw [hB.cell k]
        exact ⟨cs[k]'(by omega), Array.getElem?_eq_getElem (by omega)⟩
      obtain ⟨u, hu⟩ := hcell
      have HS := Lib.hid hsz
      have HT := Lib.hid htk
      clear hsz htk
      by_cases hk0 : k = 0
      · have hb0 : b0 = 0 := hfirst hk0
        subst hk0
        subst hb0
        rw [if_pos rfl] at hD
        rw [show ad.add 0 = ad from by simp [Addr.add]] at hp
        rw [show ae.add 0 = ae from by simp [Addr.add]] at hq
        have HDe := Lib.hid hD
        clear hfirst hD
        go_wp2
        go_quiet (fail)
        go_wp2
        go_loop [13, 8] (fun d b => ∃ e0 e1 : Int, d = .int .i64 e0 ∧ b = .int .i64 e1 ∧ ((e0 = ((P : Int) - (Q : Int) - (c : Int) % 2) ∧ e1 = 0) ∨ (((P : Int) - (Q : Int) - (c : Int) % 2) < 0 ∧ e0 = ((P : Int) - (Q : Int) - (c : Int) % 2) + 2 ∧ e1 = 1)))
          (fun d _ => (2 - intOf d).toNat)
        case atStart => exact ⟨_, _, rfl, rfl, .inl ⟨rfl, rfl⟩⟩
        case round =>
          obtain ⟨e0, e1, rfl, rfl, hcase⟩ := hrel
          by_cases hneg : e0 < 0
          · have hc1 : e0 = ((P : Int) - (Q : Int) - (c : Int) % 2) ∧ e1 = 0 := by omega
            obtain ⟨rfl, rfl⟩ := hc1
            clear hcase
            go_wp2
            go_round
            case rel => exact ⟨_, _, rfl, rfl, .inr ⟨by omega, rfl, rfl⟩⟩
            case measure => simp only [intOf]; omega
          · have HC := Lib.hid (show e0 = D + 2 * e1 ∧ e1 = (if D < 0 then 1 else 0) from by have := HDe.out; split <;> omega)
            have hst := LessAt.step HAT.out (d := e0) (b' := e1) (by rw [HD.out]; exact HC.out.1) (by rw [HD.out]; exact HC.out.2)
            have HST := Lib.hid hst
            clear hcase hst
            go_wp2
            go_roundw
            case rel => exact ⟨1, cs.setIfInBounds 0 (.int .i64 e0), out ++ [e0], e1, by omega, by go_num, rfl, HST.out, hB.set_ _ _, by simpa using HS.out, by rw [take_set _ _ _ (by have := HS.out; omega), HT.out]; simp [ints], below_drewN_ (hbl.setCell (Nat.le_refl _) _) _, fun p hp => (World.cell?_setCell_other _ _ _ _ (fun e => hp (by cases e; rfl))).trans (hfar p hp)⟩
            case measure => simp [intOf]
      · rw [if_neg hk0] at hD
        have HDe := Lib.hid hD
        clear hfirst hD
        go_wp2
        go_quiet (fail)
        go_wp2
        go_loop [13, 8] (fun d b => ∃ e0 e1 : Int, d = .int .i64 e0 ∧ b = .int .i64 e1 ∧ ((e0 = ((P : Int) - (Q : Int) - b0) ∧ e1 = 0) ∨ (((P : Int) - (Q : Int) - b0) < 0 ∧ e0 = ((P : Int) - (Q : Int) - b0) + 2 ∧ e1 = 1)))
          (fun d _ => (2 - intOf d).toNat)
        case atStart => exact ⟨_, _, rfl, rfl, .inl ⟨rfl, rfl⟩⟩
        case round =>
          obtain ⟨e0, e1, rfl, rfl, hcase⟩ := hrel
          by_cases hneg : e0 < 0
          · have hc1 : e0 = ((P : Int) - (Q : Int) - b0) ∧ e1 = 0 := by omega
            obtain ⟨rfl, rfl⟩ := hc1
            clear hcase
            go_wp2
            go_round
            case rel => exact ⟨_, _, rfl, rfl, .inr ⟨by omega, rfl, rfl⟩⟩
            case measure => simp only [intOf]; omega
          · have HC := Lib.hid (show e0 = D + 2 * e1 ∧ e1 = (if D < 0 then 1 else 0) from by have := HDe.out; split <;> omega)
            have hst := LessAt.step HAT.out (d := e0) (b' := e1) (by rw [HD.out]; exact HC.out.1) (by rw [HD.out]; exact HC.out.2)
            have HST := Lib.hid hst
            clear hcase hst
            go_wp2
            go_roundw
            case rel => exact ⟨k + 1, cs.setIfInBounds k (.int .i64 e0), out ++ [e0], e1, by omega, by go_num, rfl, HST.out, hB.set_ _ _, by simpa using HS.out, by rw [take_set _ _ _ (by have := HS.out; omega), HT.out]; simp [ints], below_drewN_ (hbl.setCell (Nat.le_refl _) _) _, fun p hp => (World.cell?_setCell_other _ _ _ _ (fun e => hp (by cases e; rfl))).trans (hfar p hp)⟩
            case measure => simp [intOf]; omega
    · have hk64 : k = 64 := by omega
      subst hk64
      obtain ⟨f1, f2⟩ := hat.done hx hy
      have hlen : out.length = 64 := hat.len
      have hrd : Reads wr wr.heap.size 1 (some ⟨w.heap.size, 0, none⟩) 64 (ints out) := by
        refine ⟨by simp [hlen], fun _ => ⟨_, rfl, hB.lt, fun j u hu => ?_⟩⟩
        have hj : j < 64 := by have := (List.getElem?_eq_some_iff.1 hu).1; simpa [hlen] using this
        have e : (⟨w.heap.size, 0, none⟩ : Addr).add j = ⟨w.heap.size, j, none⟩ := by unfold Addr.add; split <;> simp_all
        rw [e, hB.cell j, ← Array.getElem?_toList]
        rw [← htk, List.getElem?_take, if_pos hj] at hu
        exact hu
      have W := ref_word _ 64 64 out _ wr hrd hat.bits (by omega)
      rw [List.take_of_length_le (by omega), f1] at W
      have HW := Lib.hid W
      have hg := hat.lack
      obtain ⟨g0, g1⟩ := hg
      have F2 := Lib.hid f2
      clear W hrd f1 f2 hat htk hsz hfar hlen
      go_wp2_with fail
      refine HW.out.mono ?_
      rintro e w9 ⟨rfl, hw9⟩
      subst hw9
      go_wp2_with fail
      go_ret2
      exact ⟨congrArg (fun z => Ending.returned (.tuple #[.int .u64 (subLo x y c), .int .u64 z])) F2.out, hbl⟩
end Go.Proofs.YtjdkpbfkkepaiaaDoor
