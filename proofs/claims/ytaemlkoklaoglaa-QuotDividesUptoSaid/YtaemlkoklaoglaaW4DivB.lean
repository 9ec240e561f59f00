/-
  The walks of the law QuotDivides where the word is not 0, case by case. Conditions: the words that came in are words, at most 1048576 of each; quot's functions do as QuotC says.
-/
import Derived.Test.YtaemlkoklaoglaaRows
import Derived.Test.YtaemlkoklaoglaaNNums
import Derived.Test.YtaemlkoklaoglaaW4Lem
import Derived.WalkKit
import Derived.Lib.Hide
import Derived.Outline
import Derived.Deep.RegionHeld3
import Derived.IntWalk
import Derived.Deep.DeepCutAuto
import Derived.Deep.CutBlock
namespace Go.Proofs.Ytaemlkoklaoglaa
open Go Go.RowKit
set_option maxRecDepth 100000
set_option linter.unusedVariables false
set_option linter.unusedSimpArgs false
set_option maxHeartbeats 16000000 in
theorem quotDivides_011 (QC : QuotC) (A0 : Option Addr) (n0 c0 : Nat) (l0 : List Nat) (A1 : Option Addr) (n1 c1 : Nat) (l1 : List Nat) (xa : Nat) (w : World) (h0 : ArgWords w A0 n0 c0 l0) (h1 : ArgWords w A1 n1 c1 l1) (hk0 : n0 ≤ 40) (hk1 : n1 ≤ 40) (hxa : xa < 18446744073709551616) (hxn : xa ≠ 0) (hy : (dv 18446744073709551616 l1) = 0) (hx : (dv 18446744073709551616 l0) = 0) :
    Calls Try.prog 3 #[.slice A0 n0 c0, .slice A1 n1 c1, .int .u64 (xa : Int)] w fun e w' => e = .returned (.bool true) ∧ Below w.heap.size w w' := by
  have HQC := Lib.hid QC
  obtain ⟨K, hK⟩ : ∃ K, 1048576 = K := ⟨_, rfl⟩
  have O0 := arg_of h0
  have S0 := arg_sz h0
  have O1 := arg_of h1
  have S1 := arg_sz h1
  rw [hK] at S0 S1
  have hK2 : K ≤ 1048576 := by omega
  obtain ⟨x, hx0⟩ : ∃ v, dv 18446744073709551616 l0 = v := ⟨_, rfl⟩
  rw [hx0] at O0 S0
  have HO0 := Lib.hid O0
  have HS0 := Lib.hid S0
  obtain ⟨y, hx1⟩ : ∃ v, dv 18446744073709551616 l1 = v := ⟨_, rfl⟩
  rw [hx1] at O1 S1
  have HO1 := Lib.hid O1
  have HS1 := Lib.hid S1
  have P0 := arg_ref2 h0
  have P1 := arg_ref2 h1
  rw [hx0] at P0
  rw [hx1] at P1
  have HP0 := Lib.hid P0
  have HP1 := Lib.hid P1
  rw [hx1] at hy
  have Hhy := Lib.hid hy
  rw [hx0] at hx
  have Hhx := Lib.hid hx
  have hl0a : decide ((n0 : Int) > 40) = false := by simp; omega
  have hl0b : decide ((40 : Int) < (n0 : Int)) = false := by simp; omega
  have hl0c : decide (40 < n0) = false := by simp; omega
  have hl1a : decide ((n1 : Int) > 40) = false := by simp; omega
  have hl1b : decide ((40 : Int) < (n1 : Int)) = false := by simp; omega
  have hl1c : decide (40 < n1) = false := by simp; omega
  have Hxa := Lib.hid hxa
  have Hxn := Lib.hid hxn
  have hxb : ((xa : Int) == 0) = false := by rw [beq_eq_false_iff_ne]; omega
  obtain ⟨lf, hlf⟩ : ∃ v, x % xa = v := ⟨_, rfl⟩
  have hlft : lf < 18446744073709551616 := by rw [← hlf]; exact Nat.lt_trans (Nat.mod_lt x (Nat.pos_of_ne_zero hxn)) hxa
  have BW := fun (B : Option Addr) (m d : Nat) (w' : World) (h1 : WordsIn w' x B m d) (h2 : m ≤ 1073741824) => HQC.out.byWord x xa B m d w' h1 h2 hxa hxn
  rw [hlf] at BW
  have HBW := Lib.hid BW
  have HLF := Lib.hid hlf
  clear BW hlf
  clear QC P0 P1 hK O0 S0 h0 hx0 O1 S1 h1 hx1 hy hx hxa hxn
  go_enter Try.func3, Try.ntmps3
  have hB := Below.refl w.heap.size w
  go_wp2_with fail
  (with_reducible refine (law4_awake HQC.out _).mono ?_)
  rintro e wc1 ⟨rfl, hb⟩
  have hB := keep_below hB hb
  clear hb 
  go_wp2_with fail
  have HZ1 : Hid (Sz (K) (x)) := HS0.out
  (with_reducible refine (HO0.out _ hB).mono ?_)
  rintro e wc2 ⟨B1, m1, d1, rfl, hw1, hb, _⟩
  have hB := keep_below hB hb
  have HN1 := Lib.hid hw1
  clear hb hw1
  go_wp2_with fail
  have HZ2 : Hid (Sz (K) (y)) := HS1.out
  (with_reducible refine (HO1.out _ hB).mono ?_)
  rintro e wc3 ⟨B2, m2, d2, rfl, hw2, hb, _⟩
  have hB := keep_below hB hb
  have HN1 := Lib.hid (HN1.out.below hb)
  have HN2 := Lib.hid hw2
  clear hb hw2
  obtain ⟨b1, b2, b3, bz⟩ := box2 wc3 26 26 #[.slice B1 m1 d1] #[.slice B2 m2 d2]
  have hB := keep_below hB b1
  have HN1 := Lib.hid (HN1.out.below b1)
  have HN2 := Lib.hid (HN2.out.below b1)
  have g3 : ((wc3.alloc (.cells #[.slice B1 m1 d1] 26)).alloc (.cells #[.slice B2 m2 d2] 26)).cell? ⟨wc3.heap.size, 0, none⟩ = some (.slice B1 m1 d1) := b2.cell 0
  have g4 : ((wc3.alloc (.cells #[.slice B1 m1 d1] 26)).alloc (.cells #[.slice B2 m2 d2] 26)).cell? ⟨wc3.heap.size + 1, 0, none⟩ = some (.slice B2 m2 d2) := b3.cell 0
  clear b1 b2 b3 bz
  go_wp2_with fail
  generalize (wc3.alloc (.cells #[.slice B1 m1 d1] 26)).alloc (.cells #[.slice B2 m2 d2] 26) = W4 at *
  generalize wc3.heap.size = q4 at *
  have HZ5 : Hid (Sz (K) (x)) := HS0.out
  (with_reducible refine (HP0.out _ hB).mono ?_)
  intro e wc5 hg
  obtain ⟨C5, r5, f5, rfl, hh, hb⟩ := hg.elim
  have hB := keep_below hB hb
  have HN1 := Lib.hid (HN1.out.below hb)
  have HN2 := Lib.hid (HN2.out.below hb)
  have g3 := keep_cell hb g3
  have g4 := keep_cell hb g4
  have HR5 := Lib.hid hh
  clear hb hh hg
  have hq5 := len16_zero HR5.out Hhx.out
  have hr5 : ((r5 : Int) == 0) = true := by rw [beq_iff_eq]; omega
  have hs5 : decide ((r5 : Int) > 0) = false := by simp; omega
  have ht5 : decide ((0 : Int) < (r5 : Int)) = false := by simp; omega
  have hu5 : decide (0 < r5) = false := by simp; omega
  clear hq5
  go_wp2_with fail
  have HZ6 : Hid (Sz (K) (y)) := HS1.out
  (with_reducible refine (HP1.out _ hB).mono ?_)
  intro e wc6 hg
  obtain ⟨C6, r6, f6, rfl, hh, hb⟩ := hg.elim
  have hB := keep_below hB hb
  have HN1 := Lib.hid (HN1.out.below hb)
  have HN2 := Lib.hid (HN2.out.below hb)
  have g3 := keep_cell hb g3
  have g4 := keep_cell hb g4
  have HR5 := Lib.hid (HR5.out.below hb)
  have HR6 := Lib.hid hh
  clear hb hh hg
  have hq6 := len16_zero HR6.out Hhy.out
  have hr6 : ((r6 : Int) == 0) = true := by rw [beq_iff_eq]; omega
  have hs6 : decide ((r6 : Int) > 0) = false := by simp; omega
  have ht6 : decide ((0 : Int) < (r6 : Int)) = false := by simp; omega
  have hu6 : decide (0 < r6) = false := by simp; omega
  clear hq6
  go_wp2_with fail
  have HZ7 : Hid (Sz (1) (0)) := (by show (0 : Nat) < 18446744073709551616 ^ 1; decide)
  have HZ8 : Hid (Sz (1) (0)) := (by show (0 : Nat) < 18446744073709551616 ^ 1; decide)
  (with_reducible refine (HQC.out.divModNo (x) (y) B1 B2 m1 m2 d1 d2 _ HN1.out HN2.out (by have := Sz.words HZ1.out HN1.out; omega) (by have := Sz.words HZ2.out HN2.out; omega) Hhy.out).mono ?_)
  rintro e wc7 ⟨B7, m7, d7, B8, m8, d8, rfl, hw7, hw8, hb⟩
  have hB := keep_below hB hb
  have HN1 := Lib.hid (HN1.out.below hb)
  have HN2 := Lib.hid (HN2.out.below hb)
  have g3 := keep_cell hb g3
  have g4 := keep_cell hb g4
  have HR5 := Lib.hid (HR5.out.below hb)
  have HR6 := Lib.hid (HR6.out.below hb)
  have HN7 := Lib.hid hw7
  have HN8 := Lib.hid hw8
  clear hb hw7 hw8
  have gm9_2 : ((wc7.alloc (.cells #[.slice B7 m7 d7] 26)).alloc (.cells #[.slice B8 m8 d8] 26)).cell? ⟨wc7.heap.size, 0, none⟩ = some (.slice B7 m7 d7) := by
    obtain ⟨c1, c2, c3, _⟩ := box2 wc7 26 26 #[.slice B7 m7 d7] #[.slice B8 m8 d8]
    exact c2.cell 0
  obtain ⟨b1, b2, b3, bz⟩ := box2 wc7 26 26 #[.slice B7 m7 d7] #[.slice B8 m8 d8]
  have hB := keep_below hB b1
  have HN1 := Lib.hid (HN1.out.below b1)
  have HN2 := Lib.hid (HN2.out.below b1)
  have g3 := keep_cell b1 g3
  have g4 := keep_cell b1 g4
  have HR5 := Lib.hid (HR5.out.below b1)
  have HR6 := Lib.hid (HR6.out.below b1)
  have HN7 := Lib.hid (HN7.out.below b1)
  have HN8 := Lib.hid (HN8.out.below b1)
  have g9 : ((wc7.alloc (.cells #[.slice B7 m7 d7] 26)).alloc (.cells #[.slice B8 m8 d8] 26)).cell? ⟨wc7.heap.size, 0, none⟩ = some (.slice B7 m7 d7) := b2.cell 0
  have g10 : ((wc7.alloc (.cells #[.slice B7 m7 d7] 26)).alloc (.cells #[.slice B8 m8 d8] 26)).cell? ⟨wc7.heap.size + 1, 0, none⟩ = some (.slice B8 m8 d8) := b3.cell 0
  clear b1 b2 b3 bz
  go_wp2_with fail
  clear gm9_2
  generalize (wc7.alloc (.cells #[.slice B7 m7 d7] 26)).alloc (.cells #[.slice B8 m8 d8] 26) = W8 at *
  generalize wc7.heap.size = q8 at *
  (with_reducible refine (zero_yes rfl HN7.out).mono ?_)
  rintro e wc9 ⟨rfl, hb⟩
  have hB := keep_below hB hb
  have HN1 := Lib.hid (HN1.out.below hb)
  have HN2 := Lib.hid (HN2.out.below hb)
  have g3 := keep_cell hb g3
  have g4 := keep_cell hb g4
  have HR5 := Lib.hid (HR5.out.below hb)
  have HR6 := Lib.hid (HR6.out.below hb)
  have HN7 := Lib.hid (HN7.out.below hb)
  have HN8 := Lib.hid (HN8.out.below hb)
  have g9 := keep_cell hb g9
  have g10 := keep_cell hb g10
  clear hb 
  go_wp2_with fail
  (with_reducible refine (zero_yes rfl HN8.out).mono ?_)
  rintro e wc10 ⟨rfl, hb⟩
  have hB := keep_below hB hb
  have HN1 := Lib.hid (HN1.out.below hb)
  have HN2 := Lib.hid (HN2.out.below hb)
  have g3 := keep_cell hb g3
  have g4 := keep_cell hb g4
  have HR5 := Lib.hid (HR5.out.below hb)
  have HR6 := Lib.hid (HR6.out.below hb)
  have HN7 := Lib.hid (HN7.out.below hb)
  have HN8 := Lib.hid (HN8.out.below hb)
  have g9 := keep_cell hb g9
  have g10 := keep_cell hb g10
  clear hb 
  go_wp2_with fail
  have DV11 : Hid (dvdB (y) (x) = true) := dvdB_zy Hhy.out Hhx.out
  (with_reducible refine (DV11.out ▸ HQC.out.divides (y) (x) B2 B1 m2 m1 d2 d1 _ HN2.out HN1.out (by have := Sz.words HZ2.out HN2.out; omega) (by have := Sz.words HZ1.out HN1.out; omega)).mono ?_)
  rintro e wc11 ⟨rfl, hb⟩
  have hB := keep_below hB hb
  have HN1 := Lib.hid (HN1.out.below hb)
  have HN2 := Lib.hid (HN2.out.below hb)
  have g3 := keep_cell hb g3
  have g4 := keep_cell hb g4
  have HR5 := Lib.hid (HR5.out.below hb)
  have HR6 := Lib.hid (HR6.out.below hb)
  have HN7 := Lib.hid (HN7.out.below hb)
  have HN8 := Lib.hid (HN8.out.below hb)
  have g9 := keep_cell hb g9
  have g10 := keep_cell hb g10
  clear hb 
  go_wp2_with fail
  have HZ12 : Hid (Sz (K) (x / xa)) := Sz.of_le HZ1.out (Nat.div_le_self _ _)
  (with_reducible refine (HBW.out B1 m1 d1 _ HN1.out (by have := Sz.words HZ1.out HN1.out; omega)).mono ?_)
  rintro e wc12 ⟨B12, m12, d12, rfl, hw12, hb⟩
  have hB := keep_below hB hb
  have HN1 := Lib.hid (HN1.out.below hb)
  have HN2 := Lib.hid (HN2.out.below hb)
  have g3 := keep_cell hb g3
  have g4 := keep_cell hb g4
  have HR5 := Lib.hid (HR5.out.below hb)
  have HR6 := Lib.hid (HR6.out.below hb)
  have HN7 := Lib.hid (HN7.out.below hb)
  have HN8 := Lib.hid (HN8.out.below hb)
  have g9 := keep_cell hb g9
  have g10 := keep_cell hb g10
  have HN12 := Lib.hid hw12
  clear hb hw12
  obtain ⟨b1, b2, b3, bz⟩ := box2 wc12 26 23 #[.slice B12 m12 d12] #[.int .u64 (xa : Int)]
  have hB := keep_below hB b1
  have HN1 := Lib.hid (HN1.out.below b1)
  have HN2 := Lib.hid (HN2.out.below b1)
  have g3 := keep_cell b1 g3
  have g4 := keep_cell b1 g4
  have HR5 := Lib.hid (HR5.out.below b1)
  have HR6 := Lib.hid (HR6.out.below b1)
  have HN7 := Lib.hid (HN7.out.below b1)
  have HN8 := Lib.hid (HN8.out.below b1)
  have g9 := keep_cell b1 g9
  have g10 := keep_cell b1 g10
  have HN12 := Lib.hid (HN12.out.below b1)
  have g13 : ((wc12.alloc (.cells #[.slice B12 m12 d12] 26)).alloc (.cells #[.int .u64 (xa : Int)] 23)).cell? ⟨wc12.heap.size, 0, none⟩ = some (.slice B12 m12 d12) := b2.cell 0
  have k14 := b3
  clear b1 b2 b3 bz
  go_wp2_with fail
  generalize (wc12.alloc (.cells #[.slice B12 m12 d12] 26)).alloc (.cells #[.int .u64 (xa : Int)] 23) = W13 at *
  generalize wc12.heap.size = q13 at *
  have HZ15 : Hid (Sz (1) (xa)) := (by show xa < 18446744073709551616 ^ 1; have := Hxa.out; omega)
  (with_reducible refine (ref_lit #[.int .u64 (xa : Int)] [xa] _ _ 1 xa k14 rfl rfl (dgs1 xa Hxa.out) (by simp [dv]) (by decide)).mono ?_)
  intro e wc14 hg
  obtain ⟨C15, r15, f15, rfl, hh, hb⟩ := hg.elim
  have hB := keep_below hB hb
  have HN1 := Lib.hid (HN1.out.below hb)
  have HN2 := Lib.hid (HN2.out.below hb)
  have g3 := keep_cell hb g3
  have g4 := keep_cell hb g4
  have HR5 := Lib.hid (HR5.out.below hb)
  have HR6 := Lib.hid (HR6.out.below hb)
  have HN7 := Lib.hid (HN7.out.below hb)
  have HN8 := Lib.hid (HN8.out.below hb)
  have g9 := keep_cell hb g9
  have g10 := keep_cell hb g10
  have HN12 := Lib.hid (HN12.out.below hb)
  have g13 := keep_cell hb g13
  have k14 := keep_blk hb k14
  have HR15 := Lib.hid hh
  clear hb hh hg
  go_wp2_with fail
  have HZ16 : Hid (Sz (K) (x / xa)) := Sz.of_le HZ5.out (Nat.div_le_self _ _)
  have HZ17 : Hid (Sz (K) (x % xa)) := Sz.of_le HZ5.out (Nat.mod_le _ _)
  (with_reducible refine (ref4_divmod (x) (xa) C5 C15 r5 r15 f5 f15 _ HR5.out HR15.out (by have := Sz.holds' HZ5.out HR5.out; omega) (by have := Sz.holds' HZ15.out HR15.out; omega) Hxn.out).mono ?_)
  rintro e wc15 ⟨C16, r16, f16, C17, r17, f17, rfl, hh, hk, hb⟩
  have hB := keep_below hB hb
  have HN1 := Lib.hid (HN1.out.below hb)
  have HN2 := Lib.hid (HN2.out.below hb)
  have g3 := keep_cell hb g3
  have g4 := keep_cell hb g4
  have HR5 := Lib.hid (HR5.out.below hb)
  have HR6 := Lib.hid (HR6.out.below hb)
  have HN7 := Lib.hid (HN7.out.below hb)
  have HN8 := Lib.hid (HN8.out.below hb)
  have g9 := keep_cell hb g9
  have g10 := keep_cell hb g10
  have HN12 := Lib.hid (HN12.out.below hb)
  have g13 := keep_cell hb g13
  have k14 := keep_blk hb k14
  have HR15 := Lib.hid (HR15.out.below hb)
  have HR16 := Lib.hid hh
  have HR17 := Lib.hid hk
  clear hb hh hk
  go_wp2_with fail
  (with_reducible refine (law2_like (x / xa) B12 C16 m12 d12 r16 f16 _ HN12.out HR16.out (by have := Sz.words HZ12.out HN12.out; omega) (by have := Sz.holds' HZ16.out HR16.out; omega)).mono ?_)
  rintro e wc16 ⟨rfl, hb⟩
  have hB := keep_below hB hb
  have HN1 := Lib.hid (HN1.out.below hb)
  have HN2 := Lib.hid (HN2.out.below hb)
  have g3 := keep_cell hb g3
  have g4 := keep_cell hb g4
  have HR5 := Lib.hid (HR5.out.below hb)
  have HR6 := Lib.hid (HR6.out.below hb)
  have HN7 := Lib.hid (HN7.out.below hb)
  have HN8 := Lib.hid (HN8.out.below hb)
  have g9 := keep_cell hb g9
  have g10 := keep_cell hb g10
  have HN12 := Lib.hid (HN12.out.below hb)
  have g13 := keep_cell hb g13
  have k14 := keep_blk hb k14
  have HR15 := Lib.hid (HR15.out.below hb)
  have HR16 := Lib.hid (HR16.out.below hb)
  have HR17 := Lib.hid (HR17.out.below hb)
  clear hb 
  obtain ⟨b1, b2, bz⟩ := box1 wc16 23 #[.int .u64 (lf : Int)]
  have hB := keep_below hB b1
  have HN1 := Lib.hid (HN1.out.below b1)
  have HN2 := Lib.hid (HN2.out.below b1)
  have g3 := keep_cell b1 g3
  have g4 := keep_cell b1 g4
  have HR5 := Lib.hid (HR5.out.below b1)
  have HR6 := Lib.hid (HR6.out.below b1)
  have HN7 := Lib.hid (HN7.out.below b1)
  have HN8 := Lib.hid (HN8.out.below b1)
  have g9 := keep_cell b1 g9
  have g10 := keep_cell b1 g10
  have HN12 := Lib.hid (HN12.out.below b1)
  have g13 := keep_cell b1 g13
  have k14 := keep_blk b1 k14
  have HR15 := Lib.hid (HR15.out.below b1)
  have HR16 := Lib.hid (HR16.out.below b1)
  have HR17 := Lib.hid (HR17.out.below b1)
  have k18 := b2
  clear b1 b2 bz
  go_wp2_with fail
  generalize wc16.alloc (.cells #[.int .u64 (lf : Int)] 23) = W17 at *
  generalize wc16.heap.size = q17 at *
  have HZ19 : Hid (Sz (1) (lf)) := (by show lf < 18446744073709551616 ^ 1; have := hlft; omega)
  (with_reducible refine (of_lits #[.int .u64 (lf : Int)] [lf] _ _ 1 (lf) k18 rfl rfl (dgs1 (lf) hlft) (by simp [dv]) (by decide)).mono ?_)
  rintro e wc18 ⟨B19, m19, d19, rfl, hw19, hb, _⟩
  have hB := keep_below hB hb
  have HN1 := Lib.hid (HN1.out.below hb)
  have HN2 := Lib.hid (HN2.out.below hb)
  have g3 := keep_cell hb g3
  have g4 := keep_cell hb g4
  have HR5 := Lib.hid (HR5.out.below hb)
  have HR6 := Lib.hid (HR6.out.below hb)
  have HN7 := Lib.hid (HN7.out.below hb)
  have HN8 := Lib.hid (HN8.out.below hb)
  have g9 := keep_cell hb g9
  have g10 := keep_cell hb g10
  have HN12 := Lib.hid (HN12.out.below hb)
  have g13 := keep_cell hb g13
  have k14 := keep_blk hb k14
  have HR15 := Lib.hid (HR15.out.below hb)
  have HR16 := Lib.hid (HR16.out.below hb)
  have HR17 := Lib.hid (HR17.out.below hb)
  have k18 := keep_blk hb k18
  have HN19 := Lib.hid hw19
  clear hb hw19
  go_wp2_with fail
  (with_reducible refine (law2_like (lf) B19 C17 m19 d19 r17 f17 _ HN19.out (HLF.out ▸ HR17.out) (by have := Sz.words HZ19.out HN19.out; omega) (by have := Sz.holds' HZ17.out HR17.out; omega)).mono ?_)
  rintro e wc19 ⟨rfl, hb⟩
  have hB := keep_below hB hb
  have HN1 := Lib.hid (HN1.out.below hb)
  have HN2 := Lib.hid (HN2.out.below hb)
  have g3 := keep_cell hb g3
  have g4 := keep_cell hb g4
  have HR5 := Lib.hid (HR5.out.below hb)
  have HR6 := Lib.hid (HR6.out.below hb)
  have HN7 := Lib.hid (HN7.out.below hb)
  have HN8 := Lib.hid (HN8.out.below hb)
  have g9 := keep_cell hb g9
  have g10 := keep_cell hb g10
  have HN12 := Lib.hid (HN12.out.below hb)
  have g13 := keep_cell hb g13
  have k14 := keep_blk hb k14
  have HR15 := Lib.hid (HR15.out.below hb)
  have HR16 := Lib.hid (HR16.out.below hb)
  have HR17 := Lib.hid (HR17.out.below hb)
  have k18 := keep_blk hb k18
  have HN19 := Lib.hid (HN19.out.below hb)
  clear hb 
  go_wp2
  go_ret
  exact ⟨by first | rfl | simp, hB⟩
set_option maxHeartbeats 16000000 in
theorem quotDivides_111 (QC : QuotC) (A0 : Option Addr) (n0 c0 : Nat) (l0 : List Nat) (A1 : Option Addr) (n1 c1 : Nat) (l1 : List Nat) (xa : Nat) (w : World) (h0 : ArgWords w A0 n0 c0 l0) (h1 : ArgWords w A1 n1 c1 l1) (hk0 : n0 ≤ 40) (hk1 : n1 ≤ 40) (hxa : xa < 18446744073709551616) (hxn : xa ≠ 0) (hy : (dv 18446744073709551616 l1) ≠ 0) (hr : (dv 18446744073709551616 l0) % (dv 18446744073709551616 l1) = 0) :
    Calls Try.prog 3 #[.slice A0 n0 c0, .slice A1 n1 c1, .int .u64 (xa : Int)] w fun e w' => e = .returned (.bool true) ∧ Below w.heap.size w w' := by
  have HQC := Lib.hid QC
  obtain ⟨K, hK⟩ : ∃ K, 1048576 = K := ⟨_, rfl⟩
  have O0 := arg_of h0
  have S0 := arg_sz h0
  have O1 := arg_of h1
  have S1 := arg_sz h1
  rw [hK] at S0 S1
  have hK2 : K ≤ 1048576 := by omega
  obtain ⟨x, hx0⟩ : ∃ v, dv 18446744073709551616 l0 = v := ⟨_, rfl⟩
  rw [hx0] at O0 S0
  have HO0 := Lib.hid O0
  have HS0 := Lib.hid S0
  obtain ⟨y, hx1⟩ : ∃ v, dv 18446744073709551616 l1 = v := ⟨_, rfl⟩
  rw [hx1] at O1 S1
  have HO1 := Lib.hid O1
  have HS1 := Lib.hid S1
  have P0 := arg_ref2 h0
  have P1 := arg_ref2 h1
  rw [hx0] at P0
  rw [hx1] at P1
  have HP0 := Lib.hid P0
  have HP1 := Lib.hid P1
  rw [hx1] at hy
  have Hhy := Lib.hid hy
  rw [hx0] at hr
  rw [hx1] at hr
  have Hhr := Lib.hid hr
  have hl0a : decide ((n0 : Int) > 40) = false := by simp; omega
  have hl0b : decide ((40 : Int) < (n0 : Int)) = false := by simp; omega
  have hl0c : decide (40 < n0) = false := by simp; omega
  have hl1a : decide ((n1 : Int) > 40) = false := by simp; omega
  have hl1b : decide ((40 : Int) < (n1 : Int)) = false := by simp; omega
  have hl1c : decide (40 < n1) = false := by simp; omega
  have Hxa := Lib.hid hxa
  have Hxn := Lib.hid hxn
  have hxb : ((xa : Int) == 0) = false := by rw [beq_eq_false_iff_ne]; omega
  obtain ⟨lf, hlf⟩ : ∃ v, x % xa = v := ⟨_, rfl⟩
  have hlft : lf < 18446744073709551616 := by rw [← hlf]; exact Nat.lt_trans (Nat.mod_lt x (Nat.pos_of_ne_zero hxn)) hxa
  have BW := fun (B : Option Addr) (m d : Nat) (w' : World) (h1 : WordsIn w' x B m d) (h2 : m ≤ 1073741824) => HQC.out.byWord x xa B m d w' h1 h2 hxa hxn
  rw [hlf] at BW
  have HBW := Lib.hid BW
  have HLF := Lib.hid hlf
  clear BW hlf
  clear QC P0 P1 hK O0 S0 h0 hx0 O1 S1 h1 hx1 hy hr hxa hxn
  go_enter Try.func3, Try.ntmps3
  have hB := Below.refl w.heap.size w
  go_wp2_with fail
  (with_reducible refine (law4_awake HQC.out _).mono ?_)
  rintro e wc1 ⟨rfl, hb⟩
  have hB := keep_below hB hb
  clear hb 
  go_wp2_with fail
  have HZ1 : Hid (Sz (K) (x)) := HS0.out
  (with_reducible refine (HO0.out _ hB).mono ?_)
  rintro e wc2 ⟨B1, m1, d1, rfl, hw1, hb, _⟩
  have hB := keep_below hB hb
  have HN1 := Lib.hid hw1
  clear hb hw1
  go_wp2_with fail
  have HZ2 : Hid (Sz (K) (y)) := HS1.out
  (with_reducible refine (HO1.out _ hB).mono ?_)
  rintro e wc3 ⟨B2, m2, d2, rfl, hw2, hb, _⟩
  have hB := keep_below hB hb
  have HN1 := Lib.hid (HN1.out.below hb)
  have HN2 := Lib.hid hw2
  clear hb hw2
  obtain ⟨b1, b2, b3, bz⟩ := box2 wc3 26 26 #[.slice B1 m1 d1] #[.slice B2 m2 d2]
  have hB := keep_below hB b1
  have HN1 := Lib.hid (HN1.out.below b1)
  have HN2 := Lib.hid (HN2.out.below b1)
  have g3 : ((wc3.alloc (.cells #[.slice B1 m1 d1] 26)).alloc (.cells #[.slice B2 m2 d2] 26)).cell? ⟨wc3.heap.size, 0, none⟩ = some (.slice B1 m1 d1) := b2.cell 0
  have g4 : ((wc3.alloc (.cells #[.slice B1 m1 d1] 26)).alloc (.cells #[.slice B2 m2 d2] 26)).cell? ⟨wc3.heap.size + 1, 0, none⟩ = some (.slice B2 m2 d2) := b3.cell 0
  clear b1 b2 b3 bz
  go_wp2_with fail
  generalize (wc3.alloc (.cells #[.slice B1 m1 d1] 26)).alloc (.cells #[.slice B2 m2 d2] 26) = W4 at *
  generalize wc3.heap.size = q4 at *
  have HZ5 : Hid (Sz (K) (x)) := HS0.out
  (with_reducible refine (HP0.out _ hB).mono ?_)
  intro e wc5 hg
  obtain ⟨C5, r5, f5, rfl, hh, hb⟩ := hg.elim
  have hB := keep_below hB hb
  have HN1 := Lib.hid (HN1.out.below hb)
  have HN2 := Lib.hid (HN2.out.below hb)
  have g3 := keep_cell hb g3
  have g4 := keep_cell hb g4
  have HR5 := Lib.hid hh
  clear hb hh hg
  go_wp2_with fail
  have HZ6 : Hid (Sz (K) (y)) := HS1.out
  (with_reducible refine (HP1.out _ hB).mono ?_)
  intro e wc6 hg
  obtain ⟨C6, r6, f6, rfl, hh, hb⟩ := hg.elim
  have hB := keep_below hB hb
  have HN1 := Lib.hid (HN1.out.below hb)
  have HN2 := Lib.hid (HN2.out.below hb)
  have g3 := keep_cell hb g3
  have g4 := keep_cell hb g4
  have HR5 := Lib.hid (HR5.out.below hb)
  have HR6 := Lib.hid hh
  clear hb hh hg
  have hq6 := len16_pos HR6.out Hhy.out
  have hr6 : ((r6 : Int) == 0) = false := by rw [beq_eq_false_iff_ne]; omega
  have hs6 : decide ((r6 : Int) > 0) = true := by simp; omega
  have ht6 : decide ((0 : Int) < (r6 : Int)) = true := by simp; omega
  have hu6 : decide (0 < r6) = true := by simp; omega
  clear hq6
  go_wp2_with fail
  have HZ7 : Hid (Sz (K) (x / y)) := Sz.of_le HZ1.out (Nat.div_le_self _ _)
  have HZ8 : Hid (Sz (K) (x % y)) := Sz.of_le HZ1.out (Nat.mod_le _ _)
  (with_reducible refine (HQC.out.divMod (x) (y) B1 B2 m1 m2 d1 d2 _ HN1.out HN2.out (by have := Sz.words HZ1.out HN1.out; omega) (by have := Sz.words HZ2.out HN2.out; omega) Hhy.out).mono ?_)
  rintro e wc7 ⟨B7, m7, d7, B8, m8, d8, rfl, hw7, hw8, hb⟩
  have hB := keep_below hB hb
  have HN1 := Lib.hid (HN1.out.below hb)
  have HN2 := Lib.hid (HN2.out.below hb)
  have g3 := keep_cell hb g3
  have g4 := keep_cell hb g4
  have HR5 := Lib.hid (HR5.out.below hb)
  have HR6 := Lib.hid (HR6.out.below hb)
  have HN7 := Lib.hid hw7
  have HN8 := Lib.hid hw8
  clear hb hw7 hw8
  have gm4_2 : ((wc7.alloc (.cells #[.slice B7 m7 d7] 26)).alloc (.cells #[.slice B8 m8 d8] 26)).cell? ⟨q4 + 1, 0, none⟩ = some (.slice B2 m2 d2) := keep_cell_alloc _ (keep_cell_alloc _ (g4))
  have gm3_2 : ((wc7.alloc (.cells #[.slice B7 m7 d7] 26)).alloc (.cells #[.slice B8 m8 d8] 26)).cell? ⟨q4, 0, none⟩ = some (.slice B1 m1 d1) := keep_cell_alloc _ (keep_cell_alloc _ (g3))
  obtain ⟨b1, b2, b3, bz⟩ := box2 wc7 26 26 #[.slice B7 m7 d7] #[.slice B8 m8 d8]
  have hB := keep_below hB b1
  have HN1 := Lib.hid (HN1.out.below b1)
  have HN2 := Lib.hid (HN2.out.below b1)
  have g3 := keep_cell b1 g3
  have g4 := keep_cell b1 g4
  have HR5 := Lib.hid (HR5.out.below b1)
  have HR6 := Lib.hid (HR6.out.below b1)
  have HN7 := Lib.hid (HN7.out.below b1)
  have HN8 := Lib.hid (HN8.out.below b1)
  have g9 : ((wc7.alloc (.cells #[.slice B7 m7 d7] 26)).alloc (.cells #[.slice B8 m8 d8] 26)).cell? ⟨wc7.heap.size, 0, none⟩ = some (.slice B7 m7 d7) := b2.cell 0
  have g10 : ((wc7.alloc (.cells #[.slice B7 m7 d7] 26)).alloc (.cells #[.slice B8 m8 d8] 26)).cell? ⟨wc7.heap.size + 1, 0, none⟩ = some (.slice B8 m8 d8) := b3.cell 0
  clear b1 b2 b3 bz
  go_wp2_with fail
  clear gm4_2 gm3_2
  generalize (wc7.alloc (.cells #[.slice B7 m7 d7] 26)).alloc (.cells #[.slice B8 m8 d8] 26) = W8 at *
  generalize wc7.heap.size = q8 at *
  have DV11 : Hid (dvdB (y) (x) = true) := dvdB_y Hhr.out
  (with_reducible refine (DV11.out ▸ HQC.out.divides (y) (x) B2 B1 m2 m1 d2 d1 _ HN2.out HN1.out (by have := Sz.words HZ2.out HN2.out; omega) (by have := Sz.words HZ1.out HN1.out; omega)).mono ?_)
  rintro e wc9 ⟨rfl, hb⟩
  have hB := keep_below hB hb
  have HN1 := Lib.hid (HN1.out.below hb)
  have HN2 := Lib.hid (HN2.out.below hb)
  have g3 := keep_cell hb g3
  have g4 := keep_cell hb g4
  have HR5 := Lib.hid (HR5.out.below hb)
  have HR6 := Lib.hid (HR6.out.below hb)
  have HN7 := Lib.hid (HN7.out.below hb)
  have HN8 := Lib.hid (HN8.out.below hb)
  have g9 := keep_cell hb g9
  have g10 := keep_cell hb g10
  clear hb 
  go_wp2_with fail
  (with_reducible refine (zero_yes Hhr.out HN8.out).mono ?_)
  rintro e wc10 ⟨rfl, hb⟩
  have hB := keep_below hB hb
  have HN1 := Lib.hid (HN1.out.below hb)
  have HN2 := Lib.hid (HN2.out.below hb)
  have g3 := keep_cell hb g3
  have g4 := keep_cell hb g4
  have HR5 := Lib.hid (HR5.out.below hb)
  have HR6 := Lib.hid (HR6.out.below hb)
  have HN7 := Lib.hid (HN7.out.below hb)
  have HN8 := Lib.hid (HN8.out.below hb)
  have g9 := keep_cell hb g9
  have g10 := keep_cell hb g10
  clear hb 
  go_wp2_with fail
  have HZ12 : Hid (Sz (K) (x / y)) := Sz.of_le HZ5.out (Nat.div_le_self _ _)
  have HZ13 : Hid (Sz (K) (x % y)) := Sz.of_le HZ5.out (Nat.mod_le _ _)
  (with_reducible refine (ref4_divmod (x) (y) C5 C6 r5 r6 f5 f6 _ HR5.out HR6.out (by have := Sz.holds' HZ5.out HR5.out; omega) (by have := Sz.holds' HZ6.out HR6.out; omega) Hhy.out).mono ?_)
  rintro e wc11 ⟨C12, r12, f12, C13, r13, f13, rfl, hh, hk, hb⟩
  have hB := keep_below hB hb
  have HN1 := Lib.hid (HN1.out.below hb)
  have HN2 := Lib.hid (HN2.out.below hb)
  have g3 := keep_cell hb g3
  have g4 := keep_cell hb g4
  have HR5 := Lib.hid (HR5.out.below hb)
  have HR6 := Lib.hid (HR6.out.below hb)
  have HN7 := Lib.hid (HN7.out.below hb)
  have HN8 := Lib.hid (HN8.out.below hb)
  have g9 := keep_cell hb g9
  have g10 := keep_cell hb g10
  have HR12 := Lib.hid hh
  have HR13 := Lib.hid hk
  clear hb hh hk
  go_wp2_with fail
  (with_reducible refine (law2_like (x / y) B7 C12 m7 d7 r12 f12 _ HN7.out HR12.out (by have := Sz.words HZ7.out HN7.out; omega) (by have := Sz.holds' HZ12.out HR12.out; omega)).mono ?_)
  rintro e wc12 ⟨rfl, hb⟩
  have hB := keep_below hB hb
  have HN1 := Lib.hid (HN1.out.below hb)
  have HN2 := Lib.hid (HN2.out.below hb)
  have g3 := keep_cell hb g3
  have g4 := keep_cell hb g4
  have HR5 := Lib.hid (HR5.out.below hb)
  have HR6 := Lib.hid (HR6.out.below hb)
  have HN7 := Lib.hid (HN7.out.below hb)
  have HN8 := Lib.hid (HN8.out.below hb)
  have g9 := keep_cell hb g9
  have g10 := keep_cell hb g10
  have HR12 := Lib.hid (HR12.out.below hb)
  have HR13 := Lib.hid (HR13.out.below hb)
  clear hb 
  go_wp2_with fail
  (with_reducible refine (law2_like (x % y) B8 C13 m8 d8 r13 f13 _ HN8.out HR13.out (by have := Sz.words HZ8.out HN8.out; omega) (by have := Sz.holds' HZ13.out HR13.out; omega)).mono ?_)
  rintro e wc13 ⟨rfl, hb⟩
  have hB := keep_below hB hb
  have HN1 := Lib.hid (HN1.out.below hb)
  have HN2 := Lib.hid (HN2.out.below hb)
  have g3 := keep_cell hb g3
  have g4 := keep_cell hb g4
  have HR5 := Lib.hid (HR5.out.below hb)
  have HR6 := Lib.hid (HR6.out.below hb)
  have HN7 := Lib.hid (HN7.out.below hb)
  have HN8 := Lib.hid (HN8.out.below hb)
  have g9 := keep_cell hb g9
  have g10 := keep_cell hb g10
  have HR12 := Lib.hid (HR12.out.below hb)
  have HR13 := Lib.hid (HR13.out.below hb)
  clear hb 
  go_wp2_with fail
  have HZ14 : Hid (Sz (K) (x / xa)) := Sz.of_le HZ1.out (Nat.div_le_self _ _)
  (with_reducible refine (HBW.out B1 m1 d1 _ HN1.out (by have := Sz.words HZ1.out HN1.out; omega)).mono ?_)
  rintro e wc14 ⟨B14, m14, d14, rfl, hw14, hb⟩
  have hB := keep_below hB hb
  have HN1 := Lib.hid (HN1.out.below hb)
  have HN2 := Lib.hid (HN2.out.below hb)
  have g3 := keep_cell hb g3
  have g4 := keep_cell hb g4
  have HR5 := Lib.hid (HR5.out.below hb)
  have HR6 := Lib.hid (HR6.out.below hb)
  have HN7 := Lib.hid (HN7.out.below hb)
  have HN8 := Lib.hid (HN8.out.below hb)
  have g9 := keep_cell hb g9
  have g10 := keep_cell hb g10
  have HR12 := Lib.hid (HR12.out.below hb)
  have HR13 := Lib.hid (HR13.out.below hb)
  have HN14 := Lib.hid hw14
  clear hb hw14
  obtain ⟨b1, b2, b3, bz⟩ := box2 wc14 26 23 #[.slice B14 m14 d14] #[.int .u64 (xa : Int)]
  have hB := keep_below hB b1
  have HN1 := Lib.hid (HN1.out.below b1)
  have HN2 := Lib.hid (HN2.out.below b1)
  have g3 := keep_cell b1 g3
  have g4 := keep_cell b1 g4
  have HR5 := Lib.hid (HR5.out.below b1)
  have HR6 := Lib.hid (HR6.out.below b1)
  have HN7 := Lib.hid (HN7.out.below b1)
  have HN8 := Lib.hid (HN8.out.below b1)
  have g9 := keep_cell b1 g9
  have g10 := keep_cell b1 g10
  have HR12 := Lib.hid (HR12.out.below b1)
  have HR13 := Lib.hid (HR13.out.below b1)
  have HN14 := Lib.hid (HN14.out.below b1)
  have g15 : ((wc14.alloc (.cells #[.slice B14 m14 d14] 26)).alloc (.cells #[.int .u64 (xa : Int)] 23)).cell? ⟨wc14.heap.size, 0, none⟩ = some (.slice B14 m14 d14) := b2.cell 0
  have k16 := b3
  clear b1 b2 b3 bz
  go_wp2_with fail
  generalize (wc14.alloc (.cells #[.slice B14 m14 d14] 26)).alloc (.cells #[.int .u64 (xa : Int)] 23) = W15 at *
  generalize wc14.heap.size = q15 at *
  have HZ17 : Hid (Sz (1) (xa)) := (by show xa < 18446744073709551616 ^ 1; have := Hxa.out; omega)
  (with_reducible refine (ref_lit #[.int .u64 (xa : Int)] [xa] _ _ 1 xa k16 rfl rfl (dgs1 xa Hxa.out) (by simp [dv]) (by decide)).mono ?_)
  intro e wc16 hg
  obtain ⟨C17, r17, f17, rfl, hh, hb⟩ := hg.elim
  have hB := keep_below hB hb
  have HN1 := Lib.hid (HN1.out.below hb)
  have HN2 := Lib.hid (HN2.out.below hb)
  have g3 := keep_cell hb g3
  have g4 := keep_cell hb g4
  have HR5 := Lib.hid (HR5.out.below hb)
  have HR6 := Lib.hid (HR6.out.below hb)
  have HN7 := Lib.hid (HN7.out.below hb)
  have HN8 := Lib.hid (HN8.out.below hb)
  have g9 := keep_cell hb g9
  have g10 := keep_cell hb g10
  have HR12 := Lib.hid (HR12.out.below hb)
  have HR13 := Lib.hid (HR13.out.below hb)
  have HN14 := Lib.hid (HN14.out.below hb)
  have g15 := keep_cell hb g15
  have k16 := keep_blk hb k16
  have HR17 := Lib.hid hh
  clear hb hh hg
  go_wp2_with fail
  have HZ18 : Hid (Sz (K) (x / xa)) := Sz.of_le HZ5.out (Nat.div_le_self _ _)
  have HZ19 : Hid (Sz (K) (x % xa)) := Sz.of_le HZ5.out (Nat.mod_le _ _)
  (with_reducible refine (ref4_divmod (x) (xa) C5 C17 r5 r17 f5 f17 _ HR5.out HR17.out (by have := Sz.holds' HZ5.out HR5.out; omega) (by have := Sz.holds' HZ17.out HR17.out; omega) Hxn.out).mono ?_)
  rintro e wc17 ⟨C18, r18, f18, C19, r19, f19, rfl, hh, hk, hb⟩
  have hB := keep_below hB hb
  have HN1 := Lib.hid (HN1.out.below hb)
  have HN2 := Lib.hid (HN2.out.below hb)
  have g3 := keep_cell hb g3
  have g4 := keep_cell hb g4
  have HR5 := Lib.hid (HR5.out.below hb)
  have HR6 := Lib.hid (HR6.out.below hb)
  have HN7 := Lib.hid (HN7.out.below hb)
  have HN8 := Lib.hid (HN8.out.below hb)
  have g9 := keep_cell hb g9
  have g10 := keep_cell hb g10
  have HR12 := Lib.hid (HR12.out.below hb)
  have HR13 := Lib.hid (HR13.out.below hb)
  have HN14 := Lib.hid (HN14.out.below hb)
  have g15 := keep_cell hb g15
  have k16 := keep_blk hb k16
  have HR17 := Lib.hid (HR17.out.below hb)
  have HR18 := Lib.hid hh
  have HR19 := Lib.hid hk
  clear hb hh hk
  go_wp2_with fail
  (with_reducible refine (law2_like (x / xa) B14 C18 m14 d14 r18 f18 _ HN14.out HR18.out (by have := Sz.words HZ14.out HN14.out; omega) (by have := Sz.holds' HZ18.out HR18.out; omega)).mono ?_)
  rintro e wc18 ⟨rfl, hb⟩
  have hB := keep_below hB hb
  have HN1 := Lib.hid (HN1.out.below hb)
  have HN2 := Lib.hid (HN2.out.below hb)
  have g3 := keep_cell hb g3
  have g4 := keep_cell hb g4
  have HR5 := Lib.hid (HR5.out.below hb)
  have HR6 := Lib.hid (HR6.out.below hb)
  have HN7 := Lib.hid (HN7.out.below hb)
  have HN8 := Lib.hid (HN8.out.below hb)
  have g9 := keep_cell hb g9
  have g10 := keep_cell hb g10
  have HR12 := Lib.hid (HR12.out.below hb)
  have HR13 := Lib.hid (HR13.out.below hb)
  have HN14 := Lib.hid (HN14.out.below hb)
  have g15 := keep_cell hb g15
  have k16 := keep_blk hb k16
  have HR17 := Lib.hid (HR17.out.below hb)
  have HR18 := Lib.hid (HR18.out.below hb)
  have HR19 := Lib.hid (HR19.out.below hb)
  clear hb 
  obtain ⟨b1, b2, bz⟩ := box1 wc18 23 #[.int .u64 (lf : Int)]
  have hB := keep_below hB b1
  have HN1 := Lib.hid (HN1.out.below b1)
  have HN2 := Lib.hid (HN2.out.below b1)
  have g3 := keep_cell b1 g3
  have g4 := keep_cell b1 g4
  have HR5 := Lib.hid (HR5.out.below b1)
  have HR6 := Lib.hid (HR6.out.below b1)
  have HN7 := Lib.hid (HN7.out.below b1)
  have HN8 := Lib.hid (HN8.out.below b1)
  have g9 := keep_cell b1 g9
  have g10 := keep_cell b1 g10
  have HR12 := Lib.hid (HR12.out.below b1)
  have HR13 := Lib.hid (HR13.out.below b1)
  have HN14 := Lib.hid (HN14.out.below b1)
  have g15 := keep_cell b1 g15
  have k16 := keep_blk b1 k16
  have HR17 := Lib.hid (HR17.out.below b1)
  have HR18 := Lib.hid (HR18.out.below b1)
  have HR19 := Lib.hid (HR19.out.below b1)
  have k20 := b2
  clear b1 b2 bz
  go_wp2_with fail
  generalize wc18.alloc (.cells #[.int .u64 (lf : Int)] 23) = W19 at *
  generalize wc18.heap.size = q19 at *
  have HZ21 : Hid (Sz (1) (lf)) := (by show lf < 18446744073709551616 ^ 1; have := hlft; omega)
  (with_reducible refine (of_lits #[.int .u64 (lf : Int)] [lf] _ _ 1 (lf) k20 rfl rfl (dgs1 (lf) hlft) (by simp [dv]) (by decide)).mono ?_)
  rintro e wc20 ⟨B21, m21, d21, rfl, hw21, hb, _⟩
  have hB := keep_below hB hb
  have HN1 := Lib.hid (HN1.out.below hb)
  have HN2 := Lib.hid (HN2.out.below hb)
  have g3 := keep_cell hb g3
  have g4 := keep_cell hb g4
  have HR5 := Lib.hid (HR5.out.below hb)
  have HR6 := Lib.hid (HR6.out.below hb)
  have HN7 := Lib.hid (HN7.out.below hb)
  have HN8 := Lib.hid (HN8.out.below hb)
  have g9 := keep_cell hb g9
  have g10 := keep_cell hb g10
  have HR12 := Lib.hid (HR12.out.below hb)
  have HR13 := Lib.hid (HR13.out.below hb)
  have HN14 := Lib.hid (HN14.out.below hb)
  have g15 := keep_cell hb g15
  have k16 := keep_blk hb k16
  have HR17 := Lib.hid (HR17.out.below hb)
  have HR18 := Lib.hid (HR18.out.below hb)
  have HR19 := Lib.hid (HR19.out.below hb)
  have k20 := keep_blk hb k20
  have HN21 := Lib.hid hw21
  clear hb hw21
  go_wp2_with fail
  (with_reducible refine (law2_like (lf) B21 C19 m21 d21 r19 f19 _ HN21.out (HLF.out ▸ HR19.out) (by have := Sz.words HZ21.out HN21.out; omega) (by have := Sz.holds' HZ19.out HR19.out; omega)).mono ?_)
  rintro e wc21 ⟨rfl, hb⟩
  have hB := keep_below hB hb
  have HN1 := Lib.hid (HN1.out.below hb)
  have HN2 := Lib.hid (HN2.out.below hb)
  have g3 := keep_cell hb g3
  have g4 := keep_cell hb g4
  have HR5 := Lib.hid (HR5.out.below hb)
  have HR6 := Lib.hid (HR6.out.below hb)
  have HN7 := Lib.hid (HN7.out.below hb)
  have HN8 := Lib.hid (HN8.out.below hb)
  have g9 := keep_cell hb g9
  have g10 := keep_cell hb g10
  have HR12 := Lib.hid (HR12.out.below hb)
  have HR13 := Lib.hid (HR13.out.below hb)
  have HN14 := Lib.hid (HN14.out.below hb)
  have g15 := keep_cell hb g15
  have k16 := keep_blk hb k16
  have HR17 := Lib.hid (HR17.out.below hb)
  have HR18 := Lib.hid (HR18.out.below hb)
  have HR19 := Lib.hid (HR19.out.below hb)
  have k20 := keep_blk hb k20
  have HN21 := Lib.hid (HN21.out.below hb)
  clear hb 
  go_wp2
  go_ret
  exact ⟨by first | rfl | simp, hB⟩
set_option maxHeartbeats 16000000 in
theorem quotDivides_001 (QC : QuotC) (A0 : Option Addr) (n0 c0 : Nat) (l0 : List Nat) (A1 : Option Addr) (n1 c1 : Nat) (l1 : List Nat) (xa : Nat) (w : World) (h0 : ArgWords w A0 n0 c0 l0) (h1 : ArgWords w A1 n1 c1 l1) (hk0 : n0 ≤ 40) (hk1 : n1 ≤ 40) (hxa : xa < 18446744073709551616) (hxn : xa ≠ 0) (hy : (dv 18446744073709551616 l1) = 0) (hx : (dv 18446744073709551616 l0) ≠ 0) :
    Calls Try.prog 3 #[.slice A0 n0 c0, .slice A1 n1 c1, .int .u64 (xa : Int)] w fun e w' => e = .returned (.bool true) ∧ Below w.heap.size w w' := by
  have HQC := Lib.hid QC
  obtain ⟨K, hK⟩ : ∃ K, 1048576 = K := ⟨_, rfl⟩
  have O0 := arg_of h0
  have S0 := arg_sz h0
  have O1 := arg_of h1
  have S1 := arg_sz h1
  rw [hK] at S0 S1
  have hK2 : K ≤ 1048576 := by omega
  obtain ⟨x, hx0⟩ : ∃ v, dv 18446744073709551616 l0 = v := ⟨_, rfl⟩
  rw [hx0] at O0 S0
  have HO0 := Lib.hid O0
  have HS0 := Lib.hid S0
  obtain ⟨y, hx1⟩ : ∃ v, dv 18446744073709551616 l1 = v := ⟨_, rfl⟩
  rw [hx1] at O1 S1
  have HO1 := Lib.hid O1
  have HS1 := Lib.hid S1
  have P0 := arg_ref2 h0
  have P1 := arg_ref2 h1
  rw [hx0] at P0
  rw [hx1] at P1
  have HP0 := Lib.hid P0
  have HP1 := Lib.hid P1
  rw [hx1] at hy
  have Hhy := Lib.hid hy
  rw [hx0] at hx
  have Hhx := Lib.hid hx
  have hl0a : decide ((n0 : Int) > 40) = false := by simp; omega
  have hl0b : decide ((40 : Int) < (n0 : Int)) = false := by simp; omega
  have hl0c : decide (40 < n0) = false := by simp; omega
  have hl1a : decide ((n1 : Int) > 40) = false := by simp; omega
  have hl1b : decide ((40 : Int) < (n1 : Int)) = false := by simp; omega
  have hl1c : decide (40 < n1) = false := by simp; omega
  have Hxa := Lib.hid hxa
  have Hxn := Lib.hid hxn
  have hxb : ((xa : Int) == 0) = false := by rw [beq_eq_false_iff_ne]; omega
  obtain ⟨lf, hlf⟩ : ∃ v, x % xa = v := ⟨_, rfl⟩
  have hlft : lf < 18446744073709551616 := by rw [← hlf]; exact Nat.lt_trans (Nat.mod_lt x (Nat.pos_of_ne_zero hxn)) hxa
  have BW := fun (B : Option Addr) (m d : Nat) (w' : World) (h1 : WordsIn w' x B m d) (h2 : m ≤ 1073741824) => HQC.out.byWord x xa B m d w' h1 h2 hxa hxn
  rw [hlf] at BW
  have HBW := Lib.hid BW
  have HLF := Lib.hid hlf
  clear BW hlf
  clear QC P0 P1 hK O0 S0 h0 hx0 O1 S1 h1 hx1 hy hx hxa hxn
  go_enter Try.func3, Try.ntmps3
  have hB := Below.refl w.heap.size w
  go_wp2_with fail
  (with_reducible refine (law4_awake HQC.out _).mono ?_)
  rintro e wc1 ⟨rfl, hb⟩
  have hB := keep_below hB hb
  clear hb 
  go_wp2_with fail
  have HZ1 : Hid (Sz (K) (x)) := HS0.out
  (with_reducible refine (HO0.out _ hB).mono ?_)
  rintro e wc2 ⟨B1, m1, d1, rfl, hw1, hb, _⟩
  have hB := keep_below hB hb
  have HN1 := Lib.hid hw1
  clear hb hw1
  go_wp2_with fail
  have HZ2 : Hid (Sz (K) (y)) := HS1.out
  (with_reducible refine (HO1.out _ hB).mono ?_)
  rintro e wc3 ⟨B2, m2, d2, rfl, hw2, hb, _⟩
  have hB := keep_below hB hb
  have HN1 := Lib.hid (HN1.out.below hb)
  have HN2 := Lib.hid hw2
  clear hb hw2
  obtain ⟨b1, b2, b3, bz⟩ := box2 wc3 26 26 #[.slice B1 m1 d1] #[.slice B2 m2 d2]
  have hB := keep_below hB b1
  have HN1 := Lib.hid (HN1.out.below b1)
  have HN2 := Lib.hid (HN2.out.below b1)
  have g3 : ((wc3.alloc (.cells #[.slice B1 m1 d1] 26)).alloc (.cells #[.slice B2 m2 d2] 26)).cell? ⟨wc3.heap.size, 0, none⟩ = some (.slice B1 m1 d1) := b2.cell 0
  have g4 : ((wc3.alloc (.cells #[.slice B1 m1 d1] 26)).alloc (.cells #[.slice B2 m2 d2] 26)).cell? ⟨wc3.heap.size + 1, 0, none⟩ = some (.slice B2 m2 d2) := b3.cell 0
  clear b1 b2 b3 bz
  go_wp2_with fail
  generalize (wc3.alloc (.cells #[.slice B1 m1 d1] 26)).alloc (.cells #[.slice B2 m2 d2] 26) = W4 at *
  generalize wc3.heap.size = q4 at *
  have HZ5 : Hid (Sz (K) (x)) := HS0.out
  (with_reducible refine (HP0.out _ hB).mono ?_)
  intro e wc5 hg
  obtain ⟨C5, r5, f5, rfl, hh, hb⟩ := hg.elim
  have hB := keep_below hB hb
  have HN1 := Lib.hid (HN1.out.below hb)
  have HN2 := Lib.hid (HN2.out.below hb)
  have g3 := keep_cell hb g3
  have g4 := keep_cell hb g4
  have HR5 := Lib.hid hh
  clear hb hh hg
  have hq5 := len16_pos HR5.out Hhx.out
  have hr5 : ((r5 : Int) == 0) = false := by rw [beq_eq_false_iff_ne]; omega
  have hs5 : decide ((r5 : Int) > 0) = true := by simp; omega
  have ht5 : decide ((0 : Int) < (r5 : Int)) = true := by simp; omega
  have hu5 : decide (0 < r5) = true := by simp; omega
  clear hq5
  go_wp2_with fail
  have HZ6 : Hid (Sz (K) (y)) := HS1.out
  (with_reducible refine (HP1.out _ hB).mono ?_)
  intro e wc6 hg
  obtain ⟨C6, r6, f6, rfl, hh, hb⟩ := hg.elim
  have hB := keep_below hB hb
  have HN1 := Lib.hid (HN1.out.below hb)
  have HN2 := Lib.hid (HN2.out.below hb)
  have g3 := keep_cell hb g3
  have g4 := keep_cell hb g4
  have HR5 := Lib.hid (HR5.out.below hb)
  have HR6 := Lib.hid hh
  clear hb hh hg
  have hq6 := len16_zero HR6.out Hhy.out
  have hr6 : ((r6 : Int) == 0) = true := by rw [beq_iff_eq]; omega
  have hs6 : decide ((r6 : Int) > 0) = false := by simp; omega
  have ht6 : decide ((0 : Int) < (r6 : Int)) = false := by simp; omega
  have hu6 : decide (0 < r6) = false := by simp; omega
  clear hq6
  go_wp2_with fail
  have HZ7 : Hid (Sz (1) (0)) := (by show (0 : Nat) < 18446744073709551616 ^ 1; decide)
  have HZ8 : Hid (Sz (1) (0)) := (by show (0 : Nat) < 18446744073709551616 ^ 1; decide)
  (with_reducible refine (HQC.out.divModNo (x) (y) B1 B2 m1 m2 d1 d2 _ HN1.out HN2.out (by have := Sz.words HZ1.out HN1.out; omega) (by have := Sz.words HZ2.out HN2.out; omega) Hhy.out).mono ?_)
  rintro e wc7 ⟨B7, m7, d7, B8, m8, d8, rfl, hw7, hw8, hb⟩
  have hB := keep_below hB hb
  have HN1 := Lib.hid (HN1.out.below hb)
  have HN2 := Lib.hid (HN2.out.below hb)
  have g3 := keep_cell hb g3
  have g4 := keep_cell hb g4
  have HR5 := Lib.hid (HR5.out.below hb)
  have HR6 := Lib.hid (HR6.out.below hb)
  have HN7 := Lib.hid hw7
  have HN8 := Lib.hid hw8
  clear hb hw7 hw8
  have gm9_2 : ((wc7.alloc (.cells #[.slice B7 m7 d7] 26)).alloc (.cells #[.slice B8 m8 d8] 26)).cell? ⟨wc7.heap.size, 0, none⟩ = some (.slice B7 m7 d7) := by
    obtain ⟨c1, c2, c3, _⟩ := box2 wc7 26 26 #[.slice B7 m7 d7] #[.slice B8 m8 d8]
    exact c2.cell 0
  obtain ⟨b1, b2, b3, bz⟩ := box2 wc7 26 26 #[.slice B7 m7 d7] #[.slice B8 m8 d8]
  have hB := keep_below hB b1
  have HN1 := Lib.hid (HN1.out.below b1)
  have HN2 := Lib.hid (HN2.out.below b1)
  have g3 := keep_cell b1 g3
  have g4 := keep_cell b1 g4
  have HR5 := Lib.hid (HR5.out.below b1)
  have HR6 := Lib.hid (HR6.out.below b1)
  have HN7 := Lib.hid (HN7.out.below b1)
  have HN8 := Lib.hid (HN8.out.below b1)
  have g9 : ((wc7.alloc (.cells #[.slice B7 m7 d7] 26)).alloc (.cells #[.slice B8 m8 d8] 26)).cell? ⟨wc7.heap.size, 0, none⟩ = some (.slice B7 m7 d7) := b2.cell 0
  have g10 : ((wc7.alloc (.cells #[.slice B7 m7 d7] 26)).alloc (.cells #[.slice B8 m8 d8] 26)).cell? ⟨wc7.heap.size + 1, 0, none⟩ = some (.slice B8 m8 d8) := b3.cell 0
  clear b1 b2 b3 bz
  go_wp2_with fail
  clear gm9_2
  generalize (wc7.alloc (.cells #[.slice B7 m7 d7] 26)).alloc (.cells #[.slice B8 m8 d8] 26) = W8 at *
  generalize wc7.heap.size = q8 at *
  (with_reducible refine (zero_yes rfl HN7.out).mono ?_)
  rintro e wc9 ⟨rfl, hb⟩
  have hB := keep_below hB hb
  have HN1 := Lib.hid (HN1.out.below hb)
  have HN2 := Lib.hid (HN2.out.below hb)
  have g3 := keep_cell hb g3
  have g4 := keep_cell hb g4
  have HR5 := Lib.hid (HR5.out.below hb)
  have HR6 := Lib.hid (HR6.out.below hb)
  have HN7 := Lib.hid (HN7.out.below hb)
  have HN8 := Lib.hid (HN8.out.below hb)
  have g9 := keep_cell hb g9
  have g10 := keep_cell hb g10
  clear hb 
  go_wp2_with fail
  (with_reducible refine (zero_yes rfl HN8.out).mono ?_)
  rintro e wc10 ⟨rfl, hb⟩
  have hB := keep_below hB hb
  have HN1 := Lib.hid (HN1.out.below hb)
  have HN2 := Lib.hid (HN2.out.below hb)
  have g3 := keep_cell hb g3
  have g4 := keep_cell hb g4
  have HR5 := Lib.hid (HR5.out.below hb)
  have HR6 := Lib.hid (HR6.out.below hb)
  have HN7 := Lib.hid (HN7.out.below hb)
  have HN8 := Lib.hid (HN8.out.below hb)
  have g9 := keep_cell hb g9
  have g10 := keep_cell hb g10
  clear hb 
  go_wp2_with fail
  have DV11 : Hid (dvdB (y) (x) = false) := dvdB_zn Hhy.out Hhx.out
  (with_reducible refine (DV11.out ▸ HQC.out.divides (y) (x) B2 B1 m2 m1 d2 d1 _ HN2.out HN1.out (by have := Sz.words HZ2.out HN2.out; omega) (by have := Sz.words HZ1.out HN1.out; omega)).mono ?_)
  rintro e wc11 ⟨rfl, hb⟩
  have hB := keep_below hB hb
  have HN1 := Lib.hid (HN1.out.below hb)
  have HN2 := Lib.hid (HN2.out.below hb)
  have g3 := keep_cell hb g3
  have g4 := keep_cell hb g4
  have HR5 := Lib.hid (HR5.out.below hb)
  have HR6 := Lib.hid (HR6.out.below hb)
  have HN7 := Lib.hid (HN7.out.below hb)
  have HN8 := Lib.hid (HN8.out.below hb)
  have g9 := keep_cell hb g9
  have g10 := keep_cell hb g10
  clear hb 
  go_wp2_with fail
  have HZ12 : Hid (Sz (K) (x / xa)) := Sz.of_le HZ1.out (Nat.div_le_self _ _)
  (with_reducible refine (HBW.out B1 m1 d1 _ HN1.out (by have := Sz.words HZ1.out HN1.out; omega)).mono ?_)
  rintro e wc12 ⟨B12, m12, d12, rfl, hw12, hb⟩
  have hB := keep_below hB hb
  have HN1 := Lib.hid (HN1.out.below hb)
  have HN2 := Lib.hid (HN2.out.below hb)
  have g3 := keep_cell hb g3
  have g4 := keep_cell hb g4
  have HR5 := Lib.hid (HR5.out.below hb)
  have HR6 := Lib.hid (HR6.out.below hb)
  have HN7 := Lib.hid (HN7.out.below hb)
  have HN8 := Lib.hid (HN8.out.below hb)
  have g9 := keep_cell hb g9
  have g10 := keep_cell hb g10
  have HN12 := Lib.hid hw12
  clear hb hw12
  obtain ⟨b1, b2, b3, bz⟩ := box2 wc12 26 23 #[.slice B12 m12 d12] #[.int .u64 (xa : Int)]
  have hB := keep_below hB b1
  have HN1 := Lib.hid (HN1.out.below b1)
  have HN2 := Lib.hid (HN2.out.below b1)
  have g3 := keep_cell b1 g3
  have g4 := keep_cell b1 g4
  have HR5 := Lib.hid (HR5.out.below b1)
  have HR6 := Lib.hid (HR6.out.below b1)
  have HN7 := Lib.hid (HN7.out.below b1)
  have HN8 := Lib.hid (HN8.out.below b1)
  have g9 := keep_cell b1 g9
  have g10 := keep_cell b1 g10
  have HN12 := Lib.hid (HN12.out.below b1)
  have g13 : ((wc12.alloc (.cells #[.slice B12 m12 d12] 26)).alloc (.cells #[.int .u64 (xa : Int)] 23)).cell? ⟨wc12.heap.size, 0, none⟩ = some (.slice B12 m12 d12) := b2.cell 0
  have k14 := b3
  clear b1 b2 b3 bz
  go_wp2_with fail
  generalize (wc12.alloc (.cells #[.slice B12 m12 d12] 26)).alloc (.cells #[.int .u64 (xa : Int)] 23) = W13 at *
  generalize wc12.heap.size = q13 at *
  have HZ15 : Hid (Sz (1) (xa)) := (by show xa < 18446744073709551616 ^ 1; have := Hxa.out; omega)
  (with_reducible refine (ref_lit #[.int .u64 (xa : Int)] [xa] _ _ 1 xa k14 rfl rfl (dgs1 xa Hxa.out) (by simp [dv]) (by decide)).mono ?_)
  intro e wc14 hg
  obtain ⟨C15, r15, f15, rfl, hh, hb⟩ := hg.elim
  have hB := keep_below hB hb
  have HN1 := Lib.hid (HN1.out.below hb)
  have HN2 := Lib.hid (HN2.out.below hb)
  have g3 := keep_cell hb g3
  have g4 := keep_cell hb g4
  have HR5 := Lib.hid (HR5.out.below hb)
  have HR6 := Lib.hid (HR6.out.below hb)
  have HN7 := Lib.hid (HN7.out.below hb)
  have HN8 := Lib.hid (HN8.out.below hb)
  have g9 := keep_cell hb g9
  have g10 := keep_cell hb g10
  have HN12 := Lib.hid (HN12.out.below hb)
  have g13 := keep_cell hb g13
  have k14 := keep_blk hb k14
  have HR15 := Lib.hid hh
  clear hb hh hg
  go_wp2_with fail
  have HZ16 : Hid (Sz (K) (x / xa)) := Sz.of_le HZ5.out (Nat.div_le_self _ _)
  have HZ17 : Hid (Sz (K) (x % xa)) := Sz.of_le HZ5.out (Nat.mod_le _ _)
  (with_reducible refine (ref4_divmod (x) (xa) C5 C15 r5 r15 f5 f15 _ HR5.out HR15.out (by have := Sz.holds' HZ5.out HR5.out; omega) (by have := Sz.holds' HZ15.out HR15.out; omega) Hxn.out).mono ?_)
  rintro e wc15 ⟨C16, r16, f16, C17, r17, f17, rfl, hh, hk, hb⟩
  have hB := keep_below hB hb
  have HN1 := Lib.hid (HN1.out.below hb)
  have HN2 := Lib.hid (HN2.out.below hb)
  have g3 := keep_cell hb g3
  have g4 := keep_cell hb g4
  have HR5 := Lib.hid (HR5.out.below hb)
  have HR6 := Lib.hid (HR6.out.below hb)
  have HN7 := Lib.hid (HN7.out.below hb)
  have HN8 := Lib.hid (HN8.out.below hb)
  have g9 := keep_cell hb g9
  have g10 := keep_cell hb g10
  have HN12 := Lib.hid (HN12.out.below hb)
  have g13 := keep_cell hb g13
  have k14 := keep_blk hb k14
  have HR15 := Lib.hid (HR15.out.below hb)
  have HR16 := Lib.hid hh
  have HR17 := Lib.hid hk
  clear hb hh hk
  go_wp2_with fail
  (with_reducible refine (law2_like (x / xa) B12 C16 m12 d12 r16 f16 _ HN12.out HR16.out (by have := Sz.words HZ12.out HN12.out; omega) (by have := Sz.holds' HZ16.out HR16.out; omega)).mono ?_)
  rintro e wc16 ⟨rfl, hb⟩
  have hB := keep_below hB hb
  have HN1 := Lib.hid (HN1.out.below hb)
  have HN2 := Lib.hid (HN2.out.below hb)
  have g3 := keep_cell hb g3
  have g4 := keep_cell hb g4
  have HR5 := Lib.hid (HR5.out.below hb)
  have HR6 := Lib.hid (HR6.out.below hb)
  have HN7 := Lib.hid (HN7.out.below hb)
  have HN8 := Lib.hid (HN8.out.below hb)
  have g9 := keep_cell hb g9
  have g10 := keep_cell hb g10
  have HN12 := Lib.hid (HN12.out.below hb)
  have g13 := keep_cell hb g13
  have k14 := keep_blk hb k14
  have HR15 := Lib.hid (HR15.out.below hb)
  have HR16 := Lib.hid (HR16.out.below hb)
  have HR17 := Lib.hid (HR17.out.below hb)
  clear hb 
  obtain ⟨b1, b2, bz⟩ := box1 wc16 23 #[.int .u64 (lf : Int)]
  have hB := keep_below hB b1
  have HN1 := Lib.hid (HN1.out.below b1)
  have HN2 := Lib.hid (HN2.out.below b1)
  have g3 := keep_cell b1 g3
  have g4 := keep_cell b1 g4
  have HR5 := Lib.hid (HR5.out.below b1)
  have HR6 := Lib.hid (HR6.out.below b1)
  have HN7 := Lib.hid (HN7.out.below b1)
  have HN8 := Lib.hid (HN8.out.below b1)
  have g9 := keep_cell b1 g9
  have g10 := keep_cell b1 g10
  have HN12 := Lib.hid (HN12.out.below b1)
  have g13 := keep_cell b1 g13
  have k14 := keep_blk b1 k14
  have HR15 := Lib.hid (HR15.out.below b1)
  have HR16 := Lib.hid (HR16.out.below b1)
  have HR17 := Lib.hid (HR17.out.below b1)
  have k18 := b2
  clear b1 b2 bz
  go_wp2_with fail
  generalize wc16.alloc (.cells #[.int .u64 (lf : Int)] 23) = W17 at *
  generalize wc16.heap.size = q17 at *
  have HZ19 : Hid (Sz (1) (lf)) := (by show lf < 18446744073709551616 ^ 1; have := hlft; omega)
  (with_reducible refine (of_lits #[.int .u64 (lf : Int)] [lf] _ _ 1 (lf) k18 rfl rfl (dgs1 (lf) hlft) (by simp [dv]) (by decide)).mono ?_)
  rintro e wc18 ⟨B19, m19, d19, rfl, hw19, hb, _⟩
  have hB := keep_below hB hb
  have HN1 := Lib.hid (HN1.out.below hb)
  have HN2 := Lib.hid (HN2.out.below hb)
  have g3 := keep_cell hb g3
  have g4 := keep_cell hb g4
  have HR5 := Lib.hid (HR5.out.below hb)
  have HR6 := Lib.hid (HR6.out.below hb)
  have HN7 := Lib.hid (HN7.out.below hb)
  have HN8 := Lib.hid (HN8.out.below hb)
  have g9 := keep_cell hb g9
  have g10 := keep_cell hb g10
  have HN12 := Lib.hid (HN12.out.below hb)
  have g13 := keep_cell hb g13
  have k14 := keep_blk hb k14
  have HR15 := Lib.hid (HR15.out.below hb)
  have HR16 := Lib.hid (HR16.out.below hb)
  have HR17 := Lib.hid (HR17.out.below hb)
  have k18 := keep_blk hb k18
  have HN19 := Lib.hid hw19
  clear hb hw19
  go_wp2_with fail
  (with_reducible refine (law2_like (lf) B19 C17 m19 d19 r17 f17 _ HN19.out (HLF.out ▸ HR17.out) (by have := Sz.words HZ19.out HN19.out; omega) (by have := Sz.holds' HZ17.out HR17.out; omega)).mono ?_)
  rintro e wc19 ⟨rfl, hb⟩
  have hB := keep_below hB hb
  have HN1 := Lib.hid (HN1.out.below hb)
  have HN2 := Lib.hid (HN2.out.below hb)
  have g3 := keep_cell hb g3
  have g4 := keep_cell hb g4
  have HR5 := Lib.hid (HR5.out.below hb)
  have HR6 := Lib.hid (HR6.out.below hb)
  have HN7 := Lib.hid (HN7.out.below hb)
  have HN8 := Lib.hid (HN8.out.below hb)
  have g9 := keep_cell hb g9
  have g10 := keep_cell hb g10
  have HN12 := Lib.hid (HN12.out.below hb)
  have g13 := keep_cell hb g13
  have k14 := keep_blk hb k14
  have HR15 := Lib.hid (HR15.out.below hb)
  have HR16 := Lib.hid (HR16.out.below hb)
  have HR17 := Lib.hid (HR17.out.below hb)
  have k18 := keep_blk hb k18
  have HN19 := Lib.hid (HN19.out.below hb)
  clear hb 
  go_wp2
  go_ret
  exact ⟨by first | rfl | simp, hB⟩
set_option maxHeartbeats 16000000 in
theorem quotDivides_101 (QC : QuotC) (A0 : Option Addr) (n0 c0 : Nat) (l0 : List Nat) (A1 : Option Addr) (n1 c1 : Nat) (l1 : List Nat) (xa : Nat) (w : World) (h0 : ArgWords w A0 n0 c0 l0) (h1 : ArgWords w A1 n1 c1 l1) (hk0 : n0 ≤ 40) (hk1 : n1 ≤ 40) (hxa : xa < 18446744073709551616) (hxn : xa ≠ 0) (hy : (dv 18446744073709551616 l1) ≠ 0) (hr : (dv 18446744073709551616 l0) % (dv 18446744073709551616 l1) ≠ 0) :
    Calls Try.prog 3 #[.slice A0 n0 c0, .slice A1 n1 c1, .int .u64 (xa : Int)] w fun e w' => e = .returned (.bool true) ∧ Below w.heap.size w w' := by
  have HQC := Lib.hid QC
  obtain ⟨K, hK⟩ : ∃ K, 1048576 = K := ⟨_, rfl⟩
  have O0 := arg_of h0
  have S0 := arg_sz h0
  have O1 := arg_of h1
  have S1 := arg_sz h1
  rw [hK] at S0 S1
  have hK2 : K ≤ 1048576 := by omega
  obtain ⟨x, hx0⟩ : ∃ v, dv 18446744073709551616 l0 = v := ⟨_, rfl⟩
  rw [hx0] at O0 S0
  have HO0 := Lib.hid O0
  have HS0 := Lib.hid S0
  obtain ⟨y, hx1⟩ : ∃ v, dv 18446744073709551616 l1 = v := ⟨_, rfl⟩
  rw [hx1] at O1 S1
  have HO1 := Lib.hid O1
  have HS1 := Lib.hid S1
  have P0 := arg_ref2 h0
  have P1 := arg_ref2 h1
  rw [hx0] at P0
  rw [hx1] at P1
  have HP0 := Lib.hid P0
  have HP1 := Lib.hid P1
  rw [hx1] at hy
  have Hhy := Lib.hid hy
  rw [hx0] at hr
  rw [hx1] at hr
  have Hhr := Lib.hid hr
  have hl0a : decide ((n0 : Int) > 40) = false := by simp; omega
  have hl0b : decide ((40 : Int) < (n0 : Int)) = false := by simp; omega
  have hl0c : decide (40 < n0) = false := by simp; omega
  have hl1a : decide ((n1 : Int) > 40) = false := by simp; omega
  have hl1b : decide ((40 : Int) < (n1 : Int)) = false := by simp; omega
  have hl1c : decide (40 < n1) = false := by simp; omega
  have Hxa := Lib.hid hxa
  have Hxn := Lib.hid hxn
  have hxb : ((xa : Int) == 0) = false := by rw [beq_eq_false_iff_ne]; omega
  obtain ⟨lf, hlf⟩ : ∃ v, x % xa = v := ⟨_, rfl⟩
  have hlft : lf < 18446744073709551616 := by rw [← hlf]; exact Nat.lt_trans (Nat.mod_lt x (Nat.pos_of_ne_zero hxn)) hxa
  have BW := fun (B : Option Addr) (m d : Nat) (w' : World) (h1 : WordsIn w' x B m d) (h2 : m ≤ 1073741824) => HQC.out.byWord x xa B m d w' h1 h2 hxa hxn
  rw [hlf] at BW
  have HBW := Lib.hid BW
  have HLF := Lib.hid hlf
  clear BW hlf
  clear QC P0 P1 hK O0 S0 h0 hx0 O1 S1 h1 hx1 hy hr hxa hxn
  go_enter Try.func3, Try.ntmps3
  have hB := Below.refl w.heap.size w
  go_wp2_with fail
  (with_reducible refine (law4_awake HQC.out _).mono ?_)
  rintro e wc1 ⟨rfl, hb⟩
  have hB := keep_below hB hb
  clear hb 
  go_wp2_with fail
  have HZ1 : Hid (Sz (K) (x)) := HS0.out
  (with_reducible refine (HO0.out _ hB).mono ?_)
  rintro e wc2 ⟨B1, m1, d1, rfl, hw1, hb, _⟩
  have hB := keep_below hB hb
  have HN1 := Lib.hid hw1
  clear hb hw1
  go_wp2_with fail
  have HZ2 : Hid (Sz (K) (y)) := HS1.out
  (with_reducible refine (HO1.out _ hB).mono ?_)
  rintro e wc3 ⟨B2, m2, d2, rfl, hw2, hb, _⟩
  have hB := keep_below hB hb
  have HN1 := Lib.hid (HN1.out.below hb)
  have HN2 := Lib.hid hw2
  clear hb hw2
  obtain ⟨b1, b2, b3, bz⟩ := box2 wc3 26 26 #[.slice B1 m1 d1] #[.slice B2 m2 d2]
  have hB := keep_below hB b1
  have HN1 := Lib.hid (HN1.out.below b1)
  have HN2 := Lib.hid (HN2.out.below b1)
  have g3 : ((wc3.alloc (.cells #[.slice B1 m1 d1] 26)).alloc (.cells #[.slice B2 m2 d2] 26)).cell? ⟨wc3.heap.size, 0, none⟩ = some (.slice B1 m1 d1) := b2.cell 0
  have g4 : ((wc3.alloc (.cells #[.slice B1 m1 d1] 26)).alloc (.cells #[.slice B2 m2 d2] 26)).cell? ⟨wc3.heap.size + 1, 0, none⟩ = some (.slice B2 m2 d2) := b3.cell 0
  clear b1 b2 b3 bz
  go_wp2_with fail
  generalize (wc3.alloc (.cells #[.slice B1 m1 d1] 26)).alloc (.cells #[.slice B2 m2 d2] 26) = W4 at *
  generalize wc3.heap.size = q4 at *
  have HZ5 : Hid (Sz (K) (x)) := HS0.out
  (with_reducible refine (HP0.out _ hB).mono ?_)
  intro e wc5 hg
  obtain ⟨C5, r5, f5, rfl, hh, hb⟩ := hg.elim
  have hB := keep_below hB hb
  have HN1 := Lib.hid (HN1.out.below hb)
  have HN2 := Lib.hid (HN2.out.below hb)
  have g3 := keep_cell hb g3
  have g4 := keep_cell hb g4
  have HR5 := Lib.hid hh
  clear hb hh hg
  go_wp2_with fail
  have HZ6 : Hid (Sz (K) (y)) := HS1.out
  (with_reducible refine (HP1.out _ hB).mono ?_)
  intro e wc6 hg
  obtain ⟨C6, r6, f6, rfl, hh, hb⟩ := hg.elim
  have hB := keep_below hB hb
  have HN1 := Lib.hid (HN1.out.below hb)
  have HN2 := Lib.hid (HN2.out.below hb)
  have g3 := keep_cell hb g3
  have g4 := keep_cell hb g4
  have HR5 := Lib.hid (HR5.out.below hb)
  have HR6 := Lib.hid hh
  clear hb hh hg
  have hq6 := len16_pos HR6.out Hhy.out
  have hr6 : ((r6 : Int) == 0) = false := by rw [beq_eq_false_iff_ne]; omega
  have hs6 : decide ((r6 : Int) > 0) = true := by simp; omega
  have ht6 : decide ((0 : Int) < (r6 : Int)) = true := by simp; omega
  have hu6 : decide (0 < r6) = true := by simp; omega
  clear hq6
  go_wp2_with fail
  have HZ7 : Hid (Sz (K) (x / y)) := Sz.of_le HZ1.out (Nat.div_le_self _ _)
  have HZ8 : Hid (Sz (K) (x % y)) := Sz.of_le HZ1.out (Nat.mod_le _ _)
  (with_reducible refine (HQC.out.divMod (x) (y) B1 B2 m1 m2 d1 d2 _ HN1.out HN2.out (by have := Sz.words HZ1.out HN1.out; omega) (by have := Sz.words HZ2.out HN2.out; omega) Hhy.out).mono ?_)
  rintro e wc7 ⟨B7, m7, d7, B8, m8, d8, rfl, hw7, hw8, hb⟩
  have hB := keep_below hB hb
  have HN1 := Lib.hid (HN1.out.below hb)
  have HN2 := Lib.hid (HN2.out.below hb)
  have g3 := keep_cell hb g3
  have g4 := keep_cell hb g4
  have HR5 := Lib.hid (HR5.out.below hb)
  have HR6 := Lib.hid (HR6.out.below hb)
  have HN7 := Lib.hid hw7
  have HN8 := Lib.hid hw8
  clear hb hw7 hw8
  have gm4_2 : ((wc7.alloc (.cells #[.slice B7 m7 d7] 26)).alloc (.cells #[.slice B8 m8 d8] 26)).cell? ⟨q4 + 1, 0, none⟩ = some (.slice B2 m2 d2) := keep_cell_alloc _ (keep_cell_alloc _ (g4))
  have gm3_2 : ((wc7.alloc (.cells #[.slice B7 m7 d7] 26)).alloc (.cells #[.slice B8 m8 d8] 26)).cell? ⟨q4, 0, none⟩ = some (.slice B1 m1 d1) := keep_cell_alloc _ (keep_cell_alloc _ (g3))
  obtain ⟨b1, b2, b3, bz⟩ := box2 wc7 26 26 #[.slice B7 m7 d7] #[.slice B8 m8 d8]
  have hB := keep_below hB b1
  have HN1 := Lib.hid (HN1.out.below b1)
  have HN2 := Lib.hid (HN2.out.below b1)
  have g3 := keep_cell b1 g3
  have g4 := keep_cell b1 g4
  have HR5 := Lib.hid (HR5.out.below b1)
  have HR6 := Lib.hid (HR6.out.below b1)
  have HN7 := Lib.hid (HN7.out.below b1)
  have HN8 := Lib.hid (HN8.out.below b1)
  have g9 : ((wc7.alloc (.cells #[.slice B7 m7 d7] 26)).alloc (.cells #[.slice B8 m8 d8] 26)).cell? ⟨wc7.heap.size, 0, none⟩ = some (.slice B7 m7 d7) := b2.cell 0
  have g10 : ((wc7.alloc (.cells #[.slice B7 m7 d7] 26)).alloc (.cells #[.slice B8 m8 d8] 26)).cell? ⟨wc7.heap.size + 1, 0, none⟩ = some (.slice B8 m8 d8) := b3.cell 0
  clear b1 b2 b3 bz
  go_wp2_with fail
  clear gm4_2 gm3_2
  generalize (wc7.alloc (.cells #[.slice B7 m7 d7] 26)).alloc (.cells #[.slice B8 m8 d8] 26) = W8 at *
  generalize wc7.heap.size = q8 at *
  have DV11 : Hid (dvdB (y) (x) = false) := dvdB_n Hhr.out
  (with_reducible refine (DV11.out ▸ HQC.out.divides (y) (x) B2 B1 m2 m1 d2 d1 _ HN2.out HN1.out (by have := Sz.words HZ2.out HN2.out; omega) (by have := Sz.words HZ1.out HN1.out; omega)).mono ?_)
  rintro e wc9 ⟨rfl, hb⟩
  have hB := keep_below hB hb
  have HN1 := Lib.hid (HN1.out.below hb)
  have HN2 := Lib.hid (HN2.out.below hb)
  have g3 := keep_cell hb g3
  have g4 := keep_cell hb g4
  have HR5 := Lib.hid (HR5.out.below hb)
  have HR6 := Lib.hid (HR6.out.below hb)
  have HN7 := Lib.hid (HN7.out.below hb)
  have HN8 := Lib.hid (HN8.out.below hb)
  have g9 := keep_cell hb g9
  have g10 := keep_cell hb g10
  clear hb 
  go_wp2_with fail
  (with_reducible refine (zero_no Hhr.out HN8.out).mono ?_)
  rintro e wc10 ⟨rfl, hb⟩
  have hB := keep_below hB hb
  have HN1 := Lib.hid (HN1.out.below hb)
  have HN2 := Lib.hid (HN2.out.below hb)
  have g3 := keep_cell hb g3
  have g4 := keep_cell hb g4
  have HR5 := Lib.hid (HR5.out.below hb)
  have HR6 := Lib.hid (HR6.out.below hb)
  have HN7 := Lib.hid (HN7.out.below hb)
  have HN8 := Lib.hid (HN8.out.below hb)
  have g9 := keep_cell hb g9
  have g10 := keep_cell hb g10
  clear hb 
  go_wp2_with fail
  have HZ12 : Hid (Sz (K) (x / y)) := Sz.of_le HZ5.out (Nat.div_le_self _ _)
  have HZ13 : Hid (Sz (K) (x % y)) := Sz.of_le HZ5.out (Nat.mod_le _ _)
  (with_reducible refine (ref4_divmod (x) (y) C5 C6 r5 r6 f5 f6 _ HR5.out HR6.out (by have := Sz.holds' HZ5.out HR5.out; omega) (by have := Sz.holds' HZ6.out HR6.out; omega) Hhy.out).mono ?_)
  rintro e wc11 ⟨C12, r12, f12, C13, r13, f13, rfl, hh, hk, hb⟩
  have hB := keep_below hB hb
  have HN1 := Lib.hid (HN1.out.below hb)
  have HN2 := Lib.hid (HN2.out.below hb)
  have g3 := keep_cell hb g3
  have g4 := keep_cell hb g4
  have HR5 := Lib.hid (HR5.out.below hb)
  have HR6 := Lib.hid (HR6.out.below hb)
  have HN7 := Lib.hid (HN7.out.below hb)
  have HN8 := Lib.hid (HN8.out.below hb)
  have g9 := keep_cell hb g9
  have g10 := keep_cell hb g10
  have HR12 := Lib.hid hh
  have HR13 := Lib.hid hk
  clear hb hh hk
  go_wp2_with fail
  (with_reducible refine (law2_like (x / y) B7 C12 m7 d7 r12 f12 _ HN7.out HR12.out (by have := Sz.words HZ7.out HN7.out; omega) (by have := Sz.holds' HZ12.out HR12.out; omega)).mono ?_)
  rintro e wc12 ⟨rfl, hb⟩
  have hB := keep_below hB hb
  have HN1 := Lib.hid (HN1.out.below hb)
  have HN2 := Lib.hid (HN2.out.below hb)
  have g3 := keep_cell hb g3
  have g4 := keep_cell hb g4
  have HR5 := Lib.hid (HR5.out.below hb)
  have HR6 := Lib.hid (HR6.out.below hb)
  have HN7 := Lib.hid (HN7.out.below hb)
  have HN8 := Lib.hid (HN8.out.below hb)
  have g9 := keep_cell hb g9
  have g10 := keep_cell hb g10
  have HR12 := Lib.hid (HR12.out.below hb)
  have HR13 := Lib.hid (HR13.out.below hb)
  clear hb 
  go_wp2_with fail
  (with_reducible refine (law2_like (x % y) B8 C13 m8 d8 r13 f13 _ HN8.out HR13.out (by have := Sz.words HZ8.out HN8.out; omega) (by have := Sz.holds' HZ13.out HR13.out; omega)).mono ?_)
  rintro e wc13 ⟨rfl, hb⟩
  have hB := keep_below hB hb
  have HN1 := Lib.hid (HN1.out.below hb)
  have HN2 := Lib.hid (HN2.out.below hb)
  have g3 := keep_cell hb g3
  have g4 := keep_cell hb g4
  have HR5 := Lib.hid (HR5.out.below hb)
  have HR6 := Lib.hid (HR6.out.below hb)
  have HN7 := Lib.hid (HN7.out.below hb)
  have HN8 := Lib.hid (HN8.out.below hb)
  have g9 := keep_cell hb g9
  have g10 := keep_cell hb g10
  have HR12 := Lib.hid (HR12.out.below hb)
  have HR13 := Lib.hid (HR13.out.below hb)
  clear hb 
  go_wp2_with fail
  have HZ14 : Hid (Sz (K) (x / xa)) := Sz.of_le HZ1.out (Nat.div_le_self _ _)
  (with_reducible refine (HBW.out B1 m1 d1 _ HN1.out (by have := Sz.words HZ1.out HN1.out; omega)).mono ?_)
  rintro e wc14 ⟨B14, m14, d14, rfl, hw14, hb⟩
  have hB := keep_below hB hb
  have HN1 := Lib.hid (HN1.out.below hb)
  have HN2 := Lib.hid (HN2.out.below hb)
  have g3 := keep_cell hb g3
  have g4 := keep_cell hb g4
  have HR5 := Lib.hid (HR5.out.below hb)
  have HR6 := Lib.hid (HR6.out.below hb)
  have HN7 := Lib.hid (HN7.out.below hb)
  have HN8 := Lib.hid (HN8.out.below hb)
  have g9 := keep_cell hb g9
  have g10 := keep_cell hb g10
  have HR12 := Lib.hid (HR12.out.below hb)
  have HR13 := Lib.hid (HR13.out.below hb)
  have HN14 := Lib.hid hw14
  clear hb hw14
  obtain ⟨b1, b2, b3, bz⟩ := box2 wc14 26 23 #[.slice B14 m14 d14] #[.int .u64 (xa : Int)]
  have hB := keep_below hB b1
  have HN1 := Lib.hid (HN1.out.below b1)
  have HN2 := Lib.hid (HN2.out.below b1)
  have g3 := keep_cell b1 g3
  have g4 := keep_cell b1 g4
  have HR5 := Lib.hid (HR5.out.below b1)
  have HR6 := Lib.hid (HR6.out.below b1)
  have HN7 := Lib.hid (HN7.out.below b1)
  have HN8 := Lib.hid (HN8.out.below b1)
  have g9 := keep_cell b1 g9
  have g10 := keep_cell b1 g10
  have HR12 := Lib.hid (HR12.out.below b1)
  have HR13 := Lib.hid (HR13.out.below b1)
  have HN14 := Lib.hid (HN14.out.below b1)
  have g15 : ((wc14.alloc (.cells #[.slice B14 m14 d14] 26)).alloc (.cells #[.int .u64 (xa : Int)] 23)).cell? ⟨wc14.heap.size, 0, none⟩ = some (.slice B14 m14 d14) := b2.cell 0
  have k16 := b3
  clear b1 b2 b3 bz
  go_wp2_with fail
  generalize (wc14.alloc (.cells #[.slice B14 m14 d14] 26)).alloc (.cells #[.int .u64 (xa : Int)] 23) = W15 at *
  generalize wc14.heap.size = q15 at *
  have HZ17 : Hid (Sz (1) (xa)) := (by show xa < 18446744073709551616 ^ 1; have := Hxa.out; omega)
  (with_reducible refine (ref_lit #[.int .u64 (xa : Int)] [xa] _ _ 1 xa k16 rfl rfl (dgs1 xa Hxa.out) (by simp [dv]) (by decide)).mono ?_)
  intro e wc16 hg
  obtain ⟨C17, r17, f17, rfl, hh, hb⟩ := hg.elim
  have hB := keep_below hB hb
  have HN1 := Lib.hid (HN1.out.below hb)
  have HN2 := Lib.hid (HN2.out.below hb)
  have g3 := keep_cell hb g3
  have g4 := keep_cell hb g4
  have HR5 := Lib.hid (HR5.out.below hb)
  have HR6 := Lib.hid (HR6.out.below hb)
  have HN7 := Lib.hid (HN7.out.below hb)
  have HN8 := Lib.hid (HN8.out.below hb)
  have g9 := keep_cell hb g9
  have g10 := keep_cell hb g10
  have HR12 := Lib.hid (HR12.out.below hb)
  have HR13 := Lib.hid (HR13.out.below hb)
  have HN14 := Lib.hid (HN14.out.below hb)
  have g15 := keep_cell hb g15
  have k16 := keep_blk hb k16
  have HR17 := Lib.hid hh
  clear hb hh hg
  go_wp2_with fail
  have HZ18 : Hid (Sz (K) (x / xa)) := Sz.of_le HZ5.out (Nat.div_le_self _ _)
  have HZ19 : Hid (Sz (K) (x % xa)) := Sz.of_le HZ5.out (Nat.mod_le _ _)
  (with_reducible refine (ref4_divmod (x) (xa) C5 C17 r5 r17 f5 f17 _ HR5.out HR17.out (by have := Sz.holds' HZ5.out HR5.out; omega) (by have := Sz.holds' HZ17.out HR17.out; omega) Hxn.out).mono ?_)
  rintro e wc17 ⟨C18, r18, f18, C19, r19, f19, rfl, hh, hk, hb⟩
  have hB := keep_below hB hb
  have HN1 := Lib.hid (HN1.out.below hb)
  have HN2 := Lib.hid (HN2.out.below hb)
  have g3 := keep_cell hb g3
  have g4 := keep_cell hb g4
  have HR5 := Lib.hid (HR5.out.below hb)
  have HR6 := Lib.hid (HR6.out.below hb)
  have HN7 := Lib.hid (HN7.out.below hb)
  have HN8 := Lib.hid (HN8.out.below hb)
  have g9 := keep_cell hb g9
  have g10 := keep_cell hb g10
  have HR12 := Lib.hid (HR12.out.below hb)
  have HR13 := Lib.hid (HR13.out.below hb)
  have HN14 := Lib.hid (HN14.out.below hb)
  have g15 := keep_cell hb g15
  have k16 := keep_blk hb k16
  have HR17 := Lib.hid (HR17.out.below hb)
  have HR18 := Lib.hid hh
  have HR19 := Lib.hid hk
  clear hb hh hk
  go_wp2_with fail
  (with_reducible refine (law2_like (x / xa) B14 C18 m14 d14 r18 f18 _ HN14.out HR18.out (by have := Sz.words HZ14.out HN14.out; omega) (by have := Sz.holds' HZ18.out HR18.out; omega)).mono ?_)
  rintro e wc18 ⟨rfl, hb⟩
  have hB := keep_below hB hb
  have HN1 := Lib.hid (HN1.out.below hb)
  have HN2 := Lib.hid (HN2.out.below hb)
  have g3 := keep_cell hb g3
  have g4 := keep_cell hb g4
  have HR5 := Lib.hid (HR5.out.below hb)
  have HR6 := Lib.hid (HR6.out.below hb)
  have HN7 := Lib.hid (HN7.out.below hb)
  have HN8 := Lib.hid (HN8.out.below hb)
  have g9 := keep_cell hb g9
  have g10 := keep_cell hb g10
  have HR12 := Lib.hid (HR12.out.below hb)
  have HR13 := Lib.hid (HR13.out.below hb)
  have HN14 := Lib.hid (HN14.out.below hb)
  have g15 := keep_cell hb g15
  have k16 := keep_blk hb k16
  have HR17 := Lib.hid (HR17.out.below hb)
  have HR18 := Lib.hid (HR18.out.below hb)
  have HR19 := Lib.hid (HR19.out.below hb)
  clear hb 
  obtain ⟨b1, b2, bz⟩ := box1 wc18 23 #[.int .u64 (lf : Int)]
  have hB := keep_below hB b1
  have HN1 := Lib.hid (HN1.out.below b1)
  have HN2 := Lib.hid (HN2.out.below b1)
  have g3 := keep_cell b1 g3
  have g4 := keep_cell b1 g4
  have HR5 := Lib.hid (HR5.out.below b1)
  have HR6 := Lib.hid (HR6.out.below b1)
  have HN7 := Lib.hid (HN7.out.below b1)
  have HN8 := Lib.hid (HN8.out.below b1)
  have g9 := keep_cell b1 g9
  have g10 := keep_cell b1 g10
  have HR12 := Lib.hid (HR12.out.below b1)
  have HR13 := Lib.hid (HR13.out.below b1)
  have HN14 := Lib.hid (HN14.out.below b1)
  have g15 := keep_cell b1 g15
  have k16 := keep_blk b1 k16
  have HR17 := Lib.hid (HR17.out.below b1)
  have HR18 := Lib.hid (HR18.out.below b1)
  have HR19 := Lib.hid (HR19.out.below b1)
  have k20 := b2
  clear b1 b2 bz
  go_wp2_with fail
  generalize wc18.alloc (.cells #[.int .u64 (lf : Int)] 23) = W19 at *
  generalize wc18.heap.size = q19 at *
  have HZ21 : Hid (Sz (1) (lf)) := (by show lf < 18446744073709551616 ^ 1; have := hlft; omega)
  (with_reducible refine (of_lits #[.int .u64 (lf : Int)] [lf] _ _ 1 (lf) k20 rfl rfl (dgs1 (lf) hlft) (by simp [dv]) (by decide)).mono ?_)
  rintro e wc20 ⟨B21, m21, d21, rfl, hw21, hb, _⟩
  have hB := keep_below hB hb
  have HN1 := Lib.hid (HN1.out.below hb)
  have HN2 := Lib.hid (HN2.out.below hb)
  have g3 := keep_cell hb g3
  have g4 := keep_cell hb g4
  have HR5 := Lib.hid (HR5.out.below hb)
  have HR6 := Lib.hid (HR6.out.below hb)
  have HN7 := Lib.hid (HN7.out.below hb)
  have HN8 := Lib.hid (HN8.out.below hb)
  have g9 := keep_cell hb g9
  have g10 := keep_cell hb g10
  have HR12 := Lib.hid (HR12.out.below hb)
  have HR13 := Lib.hid (HR13.out.below hb)
  have HN14 := Lib.hid (HN14.out.below hb)
  have g15 := keep_cell hb g15
  have k16 := keep_blk hb k16
  have HR17 := Lib.hid (HR17.out.below hb)
  have HR18 := Lib.hid (HR18.out.below hb)
  have HR19 := Lib.hid (HR19.out.below hb)
  have k20 := keep_blk hb k20
  have HN21 := Lib.hid hw21
  clear hb hw21
  go_wp2_with fail
  (with_reducible refine (law2_like (lf) B21 C19 m21 d21 r19 f19 _ HN21.out (HLF.out ▸ HR19.out) (by have := Sz.words HZ21.out HN21.out; omega) (by have := Sz.holds' HZ19.out HR19.out; omega)).mono ?_)
  rintro e wc21 ⟨rfl, hb⟩
  have hB := keep_below hB hb
  have HN1 := Lib.hid (HN1.out.below hb)
  have HN2 := Lib.hid (HN2.out.below hb)
  have g3 := keep_cell hb g3
  have g4 := keep_cell hb g4
  have HR5 := Lib.hid (HR5.out.below hb)
  have HR6 := Lib.hid (HR6.out.below hb)
  have HN7 := Lib.hid (HN7.out.below hb)
  have HN8 := Lib.hid (HN8.out.below hb)
  have g9 := keep_cell hb g9
  have g10 := keep_cell hb g10
  have HR12 := Lib.hid (HR12.out.below hb)
  have HR13 := Lib.hid (HR13.out.below hb)
  have HN14 := Lib.hid (HN14.out.below hb)
  have g15 := keep_cell hb g15
  have k16 := keep_blk hb k16
  have HR17 := Lib.hid (HR17.out.below hb)
  have HR18 := Lib.hid (HR18.out.below hb)
  have HR19 := Lib.hid (HR19.out.below hb)
  have k20 := keep_blk hb k20
  have HN21 := Lib.hid (HN21.out.below hb)
  clear hb 
  go_wp2
  go_ret
  exact ⟨by first | rfl | simp, hB⟩
end Go.Proofs.Ytaemlkoklaoglaa
