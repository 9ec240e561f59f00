/-
  The walk of the law QuotShifts. Conditions: the words that came in are words, at most 1048576 of each; quot's functions do as QuotC says.
-/
import Derived.Test.YtaemlkoklaoglaaRows
import Derived.Test.YtaemlkoklaoglaaNNums
import Derived.Test.YtaemlkoklaoglaaW4Awake
import Derived.Test.YtaemlkoklaoglaaNShl
import Derived.Test.YtaemlkoklaoglaaNShr
import Derived.Test.YtaemlkoklaoglaaNLow
import Derived.Test.YtaemlkoklaoglaaNAny
import Derived.WalkKit
import Derived.Lib.Hide
import Derived.Outline
import Derived.Deep.RegionHeld3
import Derived.IntWalk
import Derived.Deep.DeepCutAuto
import Derived.Deep.CutBlock
namespace Go.Proofs.Ytaemlkoklaoglaa
open Go Go.RowKit
set_option maxRecDepth 100000
set_option linter.unusedVariables false
set_option linter.unusedSimpArgs false
set_option maxHeartbeats 16000000 in
theorem quotShifts_walk (QC : QuotC) (A0 : Option Addr) (n0 c0 : Nat) (l0 : List Nat) (a1 : Int) (w : World) (h0 : ArgWords w A0 n0 c0 l0) (hk : 0 ≤ a1 ∧ a1 ≤ 65535) :
    Calls Try.prog 8 #[.slice A0 n0 c0, .int .u16 a1] w fun e w' => e = .returned (.bool true) ∧ Below w.heap.size w w' := by
  have HQC := Lib.hid QC
  obtain ⟨K, hK⟩ : ∃ K, 1048576 = K := ⟨_, rfl⟩
  have O0 := arg_of h0
  have S0 := arg_sz h0
  rw [hK] at S0
  have hK2 : K ≤ 1048576 := by omega
  obtain ⟨x, hx0⟩ : ∃ v, dv 18446744073709551616 l0 = v := ⟨_, rfl⟩
  rw [hx0] at O0 S0
  have HO0 := Lib.hid O0
  have HS0 := Lib.hid S0
  obtain ⟨kn, rfl⟩ : ∃ k : Nat, a1 = (k : Int) := ⟨a1.toNat, by omega⟩
  obtain ⟨q, hq⟩ : ∃ q, kn % 400 = q := ⟨_, rfl⟩
  have hq1 : q < 400 := by omega
  have hqi : (kn : Int) % 400 = (q : Int) := by omega
  have hqt : (kn : Int).tmod 400 = (q : Int) := by rw [Int.tmod_eq_emod_of_nonneg (by omega)]; exact hqi
  have hqw : IntKind.u16.wrap (q : Int) = (q : Int) := IntWalk.u16_in _ (by omega)
  have hqv : IntKind.i64.wrap (q : Int) = (q : Int) := IntWalk.i64_in _ (by omega)
  have hqz : ((400 : Int) == 0) = false := by decide
  clear QC hK O0 S0 h0 hx0 hq hk
  go_enter Try.func8, Try.ntmps8
  have hB := Below.refl w.heap.size w
  go_wp2_with fail
  refine (law4_awake HQC.out _).mono ?_
  rintro e wc1 ⟨rfl, hb⟩
  have hB := keep_below hB hb
  clear hb 
  go_wp2_with fail
  have HZ1 : Hid (Sz (K) (x)) := HS0.out
  refine (HO0.out _ hB).mono ?_
  rintro e wc2 ⟨B1, m1, d1, rfl, hw1, hb, _⟩
  have hB := keep_below hB hb
  have HN1 := Lib.hid hw1
  clear hb hw1
  obtain ⟨b1, b2, b3, bz⟩ := box2 wc2 26 23 #[.slice B1 m1 d1] #[.int .u64 1]
  have hB := keep_below hB b1
  have HN1 := Lib.hid (HN1.out.below b1)
  have g2 : ((wc2.alloc (.cells #[.slice B1 m1 d1] 26)).alloc (.cells #[.int .u64 1] 23)).cell? ⟨wc2.heap.size, 0, none⟩ = some (.slice B1 m1 d1) := b2.cell 0
  have k3 := b3
  clear b1 b2 b3 bz
  go_wp2_with fail
  generalize (wc2.alloc (.cells #[.slice B1 m1 d1] 26)).alloc (.cells #[.int .u64 1] 23) = W3 at *
  generalize wc2.heap.size = q3 at *
  have HZ4 : Hid (Sz (1) (1)) := (by show (1 : Nat) < 18446744073709551616 ^ 1; decide)
  refine (of_lits _ [1] _ _ 1 (1) k3 rfl rfl (dgs1 1 (by decide)) rfl (by decide)).mono ?_
  rintro e wc4 ⟨B4, m4, d4, rfl, hw4, hb, _⟩
  have hB := keep_below hB hb
  have HN1 := Lib.hid (HN1.out.below hb)
  have g2 := keep_cell hb g2
  have k3 := keep_blk hb k3
  have HN4 := Lib.hid hw4
  clear hb hw4
  go_wp2_with fail
  have HZ5 : Hid (Sz (1 + 1024) (2 ^ q * 1)) := Sz.shl HZ4.out (by omega)
  refine (nat_shl (1) q B4 m4 d4 _ HN4.out (by have := Sz.words HZ4.out HN4.out; omega) (by omega)).mono ?_
  rintro e wc5 ⟨B5, m5, d5, rfl, hw5, hb, _⟩
  have hB := keep_below hB hb
  have HN1 := Lib.hid (HN1.out.below hb)
  have g2 := keep_cell hb g2
  have k3 := keep_blk hb k3
  have HN4 := Lib.hid (HN4.out.below hb)
  have HN5 := Lib.hid hw5
  clear hb hw5
  have gm2_1 : (wc5.alloc (.cells #[.slice B5 m5 d5] 26)).cell? ⟨q3, 0, none⟩ = some (.slice B1 m1 d1) := keep_cell_alloc _ (g2)
  have gm6_1 : (wc5.alloc (.cells #[.slice B5 m5 d5] 26)).cell? ⟨wc5.heap.size, 0, none⟩ = some (.slice B5 m5 d5) := by
    obtain ⟨c1, c2, _⟩ := box1 wc5 26 #[.slice B5 m5 d5]
    exact c2.cell 0
  obtain ⟨b1, b2, bz⟩ := box1 wc5 26 #[.slice B5 m5 d5]
  have hB := keep_below hB b1
  have HN1 := Lib.hid (HN1.out.below b1)
  have g2 := keep_cell b1 g2
  have k3 := keep_blk b1 k3
  have HN4 := Lib.hid (HN4.out.below b1)
  have HN5 := Lib.hid (HN5.out.below b1)
  have g6 : (wc5.alloc (.cells #[.slice B5 m5 d5] 26)).cell? ⟨wc5.heap.size, 0, none⟩ = some (.slice B5 m5 d5) := b2.cell 0
  clear b1 b2 bz
  go_wp2_with fail
  clear gm2_1 gm6_1
  generalize wc5.alloc (.cells #[.slice B5 m5 d5] 26) = W6 at *
  generalize wc5.heap.size = q6 at *
  have HZ7 : Hid (Sz (K) (x / (2 ^ q * 1))) := Sz.of_le HZ1.out (Nat.div_le_self _ _)
  have HZ8 : Hid (Sz (K) (x % (2 ^ q * 1))) := Sz.of_le HZ1.out (Nat.mod_le _ _)
  refine (HQC.out.divMod (x) (2 ^ q * 1) B1 B5 m1 m5 d1 d5 _ HN1.out HN5.out (by have := Sz.words HZ1.out HN1.out; omega) (by have := Sz.words HZ5.out HN5.out; omega) (Nat.mul_ne_zero (Nat.pos_iff_ne_zero.1 (Nat.two_pow_pos _)) (by decide))).mono ?_
  rintro e wc7 ⟨B7, m7, d7, B8, m8, d8, rfl, hw7, hw8, hb⟩
  have hB := keep_below hB hb
  have HN1 := Lib.hid (HN1.out.below hb)
  have g2 := keep_cell hb g2
  have k3 := keep_blk hb k3
  have HN4 := Lib.hid (HN4.out.below hb)
  have HN5 := Lib.hid (HN5.out.below hb)
  have g6 := keep_cell hb g6
  have HN7 := Lib.hid hw7
  have HN8 := Lib.hid hw8
  clear hb hw7 hw8
  obtain ⟨b1, b2, b3, bz⟩ := box2 wc7 26 26 #[.slice B7 m7 d7] #[.slice B8 m8 d8]
  have hB := keep_below hB b1
  have HN1 := Lib.hid (HN1.out.below b1)
  have g2 := keep_cell b1 g2
  have k3 := keep_blk b1 k3
  have HN4 := Lib.hid (HN4.out.below b1)
  have HN5 := Lib.hid (HN5.out.below b1)
  have g6 := keep_cell b1 g6
  have HN7 := Lib.hid (HN7.out.below b1)
  have HN8 := Lib.hid (HN8.out.below b1)
  have g9 : ((wc7.alloc (.cells #[.slice B7 m7 d7] 26)).alloc (.cells #[.slice B8 m8 d8] 26)).cell? ⟨wc7.heap.size, 0, none⟩ = some (.slice B7 m7 d7) := b2.cell 0
  have g10 : ((wc7.alloc (.cells #[.slice B7 m7 d7] 26)).alloc (.cells #[.slice B8 m8 d8] 26)).cell? ⟨wc7.heap.size + 1, 0, none⟩ = some (.slice B8 m8 d8) := b3.cell 0
  clear b1 b2 b3 bz
  go_wp2_with fail
  generalize (wc7.alloc (.cells #[.slice B7 m7 d7] 26)).alloc (.cells #[.slice B8 m8 d8] 26) = W8 at *
  generalize wc7.heap.size = q8 at *
  have HZ11 : Hid (Sz (K) (x / 2 ^ q)) := Sz.of_le HZ1.out (Nat.div_le_self _ _)
  have C0 := Lib.hid (fun w' (h : Below W8.heap.size W8 w') => nat_shr_any (x) q B1 m1 d1 w' (HN1.out.below h) (by have := Sz.words HZ1.out HN1.out; omega))
  have C1 := Lib.hid (fun w' (h : Below W8.heap.size W8 w') B11 m11 d11 (hw11 : WordsIn w' (x / 2 ^ q) B11 m11 d11) => cmpEq (x := x / (2 ^ q * 1)) (y := x / 2 ^ q) (by rw [Nat.mul_one]) (HN7.out.below h) hw11 (by have := Sz.words HZ7.out HN7.out; omega) (by have := Sz.words HZ11.out hw11; omega))
  have HZ12 : Hid (Sz (K) (x % 2 ^ q)) := Sz.of_le HZ1.out (Nat.mod_le _ _)
  have C2 := Lib.hid (fun w' (h : Below W8.heap.size W8 w') => nat_low_any (x) q B1 m1 d1 w' (HN1.out.below h) (by have := Sz.words HZ1.out HN1.out; omega))
  have C3 := Lib.hid (fun w' (h : Below W8.heap.size W8 w') B12 m12 d12 (hw12 : WordsIn w' (x % 2 ^ q) B12 m12 d12) => cmpEq (x := x % (2 ^ q * 1)) (y := x % 2 ^ q) (by rw [Nat.mul_one]) (HN8.out.below h) hw12 (by have := Sz.words HZ8.out HN8.out; omega) (by have := Sz.words HZ12.out hw12; omega))
  have hb0 : Below W8.heap.size W8 W8.drew := (Below.refl _ W8).drew
  have j0 : W8.drew.cell? ⟨q8, 0, none⟩ = some (.slice B7 m7 d7) := g9
  have j1 : W8.drew.cell? ⟨q3, 0, none⟩ = some (.slice B1 m1 d1) := g2
  have j2 : W8.drew.cell? ⟨q8 + 1, 0, none⟩ = some (.slice B8 m8 d8) := g10
  go_region_held3 (fun w' => Below W8.heap.size W8 w' ∧ w'.cell? ⟨q8, 0, none⟩ = some (.slice B7 m7 d7) ∧ w'.cell? ⟨q3, 0, none⟩ = some (.slice B1 m1 d1) ∧ w'.cell? ⟨q8 + 1, 0, none⟩ = some (.slice B8 m8 d8))
    (first | (with_reducible exact ⟨hb0, j0, j1, j2⟩) | (go_split_ands; (repeat' apply And.intro); all_goals (first | with_reducible assumption | with_reducible exact keep_below (by with_reducible assumption) hb | with_reducible exact keep_cell hb (by with_reducible assumption) | with_reducible exact keep_below_alloc _ (by with_reducible assumption) | with_reducible exact keep_cell_alloc _ (by with_reducible assumption) | with_reducible exact keep_below_alloc _ (keep_below_alloc _ (by with_reducible assumption)) | with_reducible exact keep_cell_alloc _ (keep_cell_alloc _ (by with_reducible assumption)) | with_reducible exact keep_below_alloc _ (keep_below_alloc _ (keep_below_alloc _ (by with_reducible assumption))) | with_reducible exact keep_cell_alloc _ (keep_cell_alloc _ (keep_cell_alloc _ (by with_reducible assumption))))))
    (first
      | (go_at_call 25; (with_reducible refine (C0.out _ (by first | with_reducible assumption | exact And.left (by with_reducible assumption))).mono ?_); rintro e wa9 ⟨B11, m11, d11, rfl, hw11, hb, _⟩; go_split_ands; have hBw : Below W8.heap.size W8 wa9 := keep_below (by with_reducible assumption) hb; have gw0 : wa9.cell? ⟨q8, 0, none⟩ = some (.slice B7 m7 d7) := keep_cell hb (by with_reducible assumption); have gw1 : wa9.cell? ⟨q3, 0, none⟩ = some (.slice B1 m1 d1) := keep_cell hb (by with_reducible assumption); have gw2 : wa9.cell? ⟨q8 + 1, 0, none⟩ = some (.slice B8 m8 d8) := keep_cell hb (by with_reducible assumption))
      | (go_at_call 18; (with_reducible refine (C1.out _ (by first | with_reducible assumption | exact And.left (by with_reducible assumption)) _ _ _ hw11).mono ?_); rintro e wa10 ⟨rfl, hb⟩; go_split_ands; have hBw : Below W8.heap.size W8 wa10 := keep_below (by with_reducible assumption) hb; have gw0 : wa10.cell? ⟨q8, 0, none⟩ = some (.slice B7 m7 d7) := keep_cell hb (by with_reducible assumption); have gw1 : wa10.cell? ⟨q3, 0, none⟩ = some (.slice B1 m1 d1) := keep_cell hb (by with_reducible assumption); have gw2 : wa10.cell? ⟨q8 + 1, 0, none⟩ = some (.slice B8 m8 d8) := keep_cell hb (by with_reducible assumption); (first | (with_reducible have hw11 := WordsIn.below hw11 hb) | (with_reducible have hw11 := WordsIn.below (WordsIn.below hw11 (up_alloc _ _)) hb) | (with_reducible have hw11 := WordsIn.below (WordsIn.below (WordsIn.below hw11 (up_alloc _ _)) (up_alloc _ _)) hb)))
      | (go_at_call 26; (with_reducible refine (C2.out _ (by first | with_reducible assumption | exact And.left (by with_reducible assumption))).mono ?_); rintro e wa11 ⟨B12, m12, d12, rfl, hw12, hb, _⟩; go_split_ands; have hBw : Below W8.heap.size W8 wa11 := keep_below (by with_reducible assumption) hb; have gw0 : wa11.cell? ⟨q8, 0, none⟩ = some (.slice B7 m7 d7) := keep_cell hb (by with_reducible assumption); have gw1 : wa11.cell? ⟨q3, 0, none⟩ = some (.slice B1 m1 d1) := keep_cell hb (by with_reducible assumption); have gw2 : wa11.cell? ⟨q8 + 1, 0, none⟩ = some (.slice B8 m8 d8) := keep_cell hb (by with_reducible assumption); (first | (with_reducible have hw11 := WordsIn.below hw11 hb) | (with_reducible have hw11 := WordsIn.below (WordsIn.below hw11 (up_alloc _ _)) hb) | (with_reducible have hw11 := WordsIn.below (WordsIn.below (WordsIn.below hw11 (up_alloc _ _)) (up_alloc _ _)) hb)))
      | (go_at_call 18; (with_reducible refine (C3.out _ (by first | with_reducible assumption | exact And.left (by with_reducible assumption)) _ _ _ hw12).mono ?_); rintro e wa12 ⟨rfl, hb⟩; go_split_ands; have hBw : Below W8.heap.size W8 wa12 := keep_below (by with_reducible assumption) hb; have gw0 : wa12.cell? ⟨q8, 0, none⟩ = some (.slice B7 m7 d7) := keep_cell hb (by with_reducible assumption); have gw1 : wa12.cell? ⟨q3, 0, none⟩ = some (.slice B1 m1 d1) := keep_cell hb (by with_reducible assumption); have gw2 : wa12.cell? ⟨q8 + 1, 0, none⟩ = some (.slice B8 m8 d8) := keep_cell hb (by with_reducible assumption); (first | (with_reducible have hw11 := WordsIn.below hw11 hb) | (with_reducible have hw11 := WordsIn.below (WordsIn.below hw11 (up_alloc _ _)) hb) | (with_reducible have hw11 := WordsIn.below (WordsIn.below (WordsIn.below hw11 (up_alloc _ _)) (up_alloc _ _)) hb)); (first | (with_reducible have hw12 := WordsIn.below hw12 hb) | (with_reducible have hw12 := WordsIn.below (WordsIn.below hw12 (up_alloc _ _)) hb) | (with_reducible have hw12 := WordsIn.below (WordsIn.below (WordsIn.below hw12 (up_alloc _ _)) (up_alloc _ _)) hb))))
  clear hb
  have hB := keep_below hB hBw
  have HN1 := Lib.hid (HN1.out.below hBw)
  have g2 := keep_cell hBw g2
  have k3 := keep_blk hBw k3
  have HN4 := Lib.hid (HN4.out.below hBw)
  have HN5 := Lib.hid (HN5.out.below hBw)
  have g6 := keep_cell hBw g6
  have HN7 := Lib.hid (HN7.out.below hBw)
  have HN8 := Lib.hid (HN8.out.below hBw)
  have g9 := keep_cell hBw g9
  have g10 := keep_cell hBw g10
  have HN11 := Lib.hid hw11
  have HN12 := Lib.hid hw12
  clear hb0 hBw gw0 gw1 gw2 hw11 hw12
  clear j0
  clear j1
  clear j2
  clear C0 C1 C2 C3
  go_wp2
  go_ret
  exact ⟨by first | rfl | simp, hB⟩
end Go.Proofs.Ytaemlkoklaoglaa
