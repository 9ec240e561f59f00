/-
  The walk of the law GcdFinds. Conditions: the words that came in are words, at most 1048576 of each; quot's and gcd's functions do as QuotC and GcdC say.
-/
import Derived.Test.YtplgbokgfphjaaaDoorRows
import Derived.Test.YtplgbokgfphjaaaDoorNNums
import Derived.Test.YtplgbokgfphjaaaDoorW5Awake
import Derived.Test.YtplgbokgfphjaaaDoorBunV
import Derived.Test.YtplgbokgfphjaaaDoorBunP
import Derived.Test.YtplgbokgfphjaaaDoorR5Gcd
import Derived.WalkKit
import Derived.Lib.Hide
import Derived.Outline
import Derived.Deep.RegionHeld3
import Derived.IntWalk
import Derived.Deep.DeepCutAuto
import Derived.Deep.CutBlock
namespace Go.Proofs.YtplgbokgfphjaaaDoor
open Go Go.RowKit
set_option maxRecDepth 100000
set_option linter.unusedVariables false
set_option linter.unusedSimpArgs false
theorem is_bool (x : Nat) (A : Option Addr) (n c g : Nat) (cs : Array Value) (l : List Nat) (w : World) (b : Bool) (h : WordsIn w x A n c) (hk : Blk w g 35 cs) {k : Nat} (hn : cs.size = k) (hv : cs.toList = vals .u64 l) (hd : Dgs 18446744073709551616 l) (hx : decide (dg 18446744073709551616 x = l) = b) (hs : n ≤ 1073741824) (hs' : k ≤ 1000) :
    Calls Tryd.prog 16 #[.agg #[.slice A n c], .slice (some ⟨g, 0, none⟩) k k] w (SaysB w b) := by
  have hl : l.length = k := by
    have h := congrArg List.length hv
    rw [vals_length] at h
    rw [← h]; simpa using hn
  subst hx
  have hr : Reads w w.heap.size 1 (some ⟨g, 0, none⟩) k (vals .u64 l) := blk_reads hk hn (by rw [hv, List.take_of_length_le (by rw [vals_length]; omega)]) hl
  have h1 : n ≤ 1099511627776 := by omega
  have h2 : k ≤ 1099511627776 := by omega
  have H := law2_is x l A (some ⟨g, 0, none⟩) n c k k w h hr hd h1 h2
  with_reducible exact H
theorem one_is {v : Nat} (h : v = 1) : decide (dg 18446744073709551616 v = [1]) = true := by subst h; exact decide_eq_true (dg_one (a := 1) (by decide) (by decide))
theorem one_no {v : Nat} (h : v ≠ 1) : decide (dg 18446744073709551616 v = [1]) = false := by
  refine decide_eq_false fun e => h ?_
  have := dv_dg (b := 18446744073709551616) (by decide) v
  rw [e] at this
  rw [← this]; rfl
theorem cop_1 {x y : Nat} (h : Nat.gcd x y = 1) : copB x y = true := decide_eq_true h
theorem cop_n {x y : Nat} (h : Nat.gcd x y ≠ 1) : copB x y = false := decide_eq_false h
/-- A number of the reference's, new or handed in. -/
def Lies16 (w : World) (x : Nat) (e : Ending) (w' : World) : Prop := ∃ (A : Option Addr) (n c : Nat), e = .returned (.slice A n c) ∧ Holds16 w' x A n c ∧ Below w.heap.size w w'
set_option maxHeartbeats 4000000 in
theorem ref5_gcd_x (y : Nat) (A D : Option Addr) (m c d : Nat) (w : World) (hD : Holds16 w y D m d) :
    Calls Tryd.prog 10 #[.slice A 0 c, .slice D m d] w (Lies16 w y) := by
  have HD := Lib.hid hD
  clear hD
  go_enter Tryd.func10, Tryd.ntmps10
  go_wp2
  go_ret
  exact ⟨D, m, d, rfl, HD.out, Below.refl _ _⟩
set_option maxHeartbeats 4000000 in
theorem ref5_gcd_y (x : Nat) (A D : Option Addr) (n c d : Nat) (w : World) (hA : Holds16 w x A n c) (hn : 0 < n) :
    Calls Tryd.prog 10 #[.slice A n c, .slice D 0 d] w (Lies16 w x) := by
  have HA := Lib.hid hA
  have h0 : ((n : Int) == 0) = false := by rw [beq_eq_false_iff_ne]; omega
  have h1 : (n == 0) = false := by rw [beq_eq_false_iff_ne]; omega
  have h2 : n ≠ 0 := by omega
  clear hA hn
  go_enter Tryd.func10, Tryd.ntmps10
  go_wp2
  go_ret
  exact ⟨A, n, c, rfl, HA.out, Below.refl _ _⟩
theorem ref5_gcd_any (x y : Nat) (A D : Option Addr) (n m c d : Nat) (w : World) (hA : Holds16 w x A n c) (hD : Holds16 w y D m d) (hn : n ≤ 1073741824) (hm : m ≤ 1073741824) :
    Calls Tryd.prog 10 #[.slice A n c, .slice D m d] w (Lies16 w (Nat.gcd x y)) := by
  by_cases hx : x = 0
  · subst hx
    have h0 : n = 0 := by rw [hA.len]; rfl
    subst h0
    rw [Nat.gcd_zero_left]
    exact ref5_gcd_x y A D m c d w hD
  · by_cases hy : y = 0
    · subst hy
      have h0 : m = 0 := by rw [hD.len]; rfl
      subst h0
      rw [Nat.gcd_zero_right]
      exact ref5_gcd_y x A D n c d w hA (holds_pos hA hx)
    · refine (ref5_gcd x y A D n m c d w hA hD hn hm hx hy).mono ?_
      intro e w' h
      exact h.elim
set_option maxHeartbeats 16000000 in
theorem gcdFinds_n0 (QC : QuotC) (GC : GcdC) (A0 : Option Addr) (n0 c0 : Nat) (l0 : List Nat) (A1 : Option Addr) (n1 c1 : Nat) (l1 : List Nat) (w : World) (h0 : ArgWords w A0 n0 c0 l0) (h1 : ArgWords w A1 n1 c1 l1) (hT : TabAt w) (hk0 : n0 > 12)  :
    Calls Tryd.prog 3 #[.slice A0 n0 c0, .slice A1 n1 c1] w fun e w' => e = .returned (.bool true) ∧ Below w.heap.size w w' := by
  have HQC := Lib.hid QC
  have HGC := Lib.hid GC
  have HTB := Lib.hid (fun w' (h : Below w.heap.size w w') => hT.on h)
  obtain ⟨K, hK⟩ : ∃ K, 1048576 = K := ⟨_, rfl⟩
  have O0 := arg_of h0
  have S0 := arg_sz h0
  have O1 := arg_of h1
  have S1 := arg_sz h1
  rw [hK] at S0 S1
  have hK2 : K ≤ 1048576 := by omega
  obtain ⟨x, hx0⟩ : ∃ v, dv 18446744073709551616 l0 = v := ⟨_, rfl⟩
  rw [hx0] at O0 S0
  have HO0 := Lib.hid O0
  have HS0 := Lib.hid S0
  obtain ⟨y, hx1⟩ : ∃ v, dv 18446744073709551616 l1 = v := ⟨_, rfl⟩
  rw [hx1] at O1 S1
  have HO1 := Lib.hid O1
  have HS1 := Lib.hid S1
  have P0 := arg_ref2 h0
  have P1 := arg_ref2 h1
  rw [hx0] at P0
  rw [hx1] at P1
  have HP0 := Lib.hid P0
  have HP1 := Lib.hid P1
  have hl0a : decide ((n0 : Int) > 12) = true := by simp; omega
  have hl0b : decide ((12 : Int) < (n0 : Int)) = true := by simp; omega
  have hl0c : decide (12 < n0) = true := by simp; omega
  clear hT QC GC P0 P1 hK O0 S0 h0 hx0 O1 S1 h1 hx1 
  go_enter Tryd.func3, Tryd.ntmps3
  have hB := Below.refl w.heap.size w
  go_wp2_with fail
  (with_reducible refine (law5_awake HGC.out _ (HTB.out _ hB)).mono ?_)
  rintro e wc1 ⟨rfl, hb⟩
  have hB := keep_below hB hb
  clear hb 
  go_wp2
  go_ret
  exact ⟨by first | rfl | simp, hB⟩
set_option maxHeartbeats 16000000 in
theorem gcdFinds_n1 (QC : QuotC) (GC : GcdC) (A0 : Option Addr) (n0 c0 : Nat) (l0 : List Nat) (A1 : Option Addr) (n1 c1 : Nat) (l1 : List Nat) (w : World) (h0 : ArgWords w A0 n0 c0 l0) (h1 : ArgWords w A1 n1 c1 l1) (hT : TabAt w) (hk0 : n0 ≤ 12) (hk1 : n1 > 12)  :
    Calls Tryd.prog 3 #[.slice A0 n0 c0, .slice A1 n1 c1] w fun e w' => e = .returned (.bool true) ∧ Below w.heap.size w w' := by
  have HQC := Lib.hid QC
  have HGC := Lib.hid GC
  have HTB := Lib.hid (fun w' (h : Below w.heap.size w w') => hT.on h)
  obtain ⟨K, hK⟩ : ∃ K, 1048576 = K := ⟨_, rfl⟩
  have O0 := arg_of h0
  have S0 := arg_sz h0
  have O1 := arg_of h1
  have S1 := arg_sz h1
  rw [hK] at S0 S1
  have hK2 : K ≤ 1048576 := by omega
  obtain ⟨x, hx0⟩ : ∃ v, dv 18446744073709551616 l0 = v := ⟨_, rfl⟩
  rw [hx0] at O0 S0
  have HO0 := Lib.hid O0
  have HS0 := Lib.hid S0
  obtain ⟨y, hx1⟩ : ∃ v, dv 18446744073709551616 l1 = v := ⟨_, rfl⟩
  rw [hx1] at O1 S1
  have HO1 := Lib.hid O1
  have HS1 := Lib.hid S1
  have P0 := arg_ref2 h0
  have P1 := arg_ref2 h1
  rw [hx0] at P0
  rw [hx1] at P1
  have HP0 := Lib.hid P0
  have HP1 := Lib.hid P1
  have hl0a : decide ((n0 : Int) > 12) = false := by simp; omega
  have hl0b : decide ((12 : Int) < (n0 : Int)) = false := by simp; omega
  have hl0c : decide (12 < n0) = false := by simp; omega
  have hl1a : decide ((n1 : Int) > 12) = true := by simp; omega
  have hl1b : decide ((12 : Int) < (n1 : Int)) = true := by simp; omega
  have hl1c : decide (12 < n1) = true := by simp; omega
  clear hT QC GC P0 P1 hK O0 S0 h0 hx0 O1 S1 h1 hx1 
  go_enter Tryd.func3, Tryd.ntmps3
  have hB := Below.refl w.heap.size w
  go_wp2_with fail
  (with_reducible refine (law5_awake HGC.out _ (HTB.out _ hB)).mono ?_)
  rintro e wc1 ⟨rfl, hb⟩
  have hB := keep_below hB hb
  clear hb 
  go_wp2
  go_ret
  exact ⟨by first | rfl | simp, hB⟩
set_option maxHeartbeats 16000000 in
theorem gcdFinds_yes (QC : QuotC) (GC : GcdC) (A0 : Option Addr) (n0 c0 : Nat) (l0 : List Nat) (A1 : Option Addr) (n1 c1 : Nat) (l1 : List Nat) (w : World) (h0 : ArgWords w A0 n0 c0 l0) (h1 : ArgWords w A1 n1 c1 l1) (hT : TabAt w) (hk0 : n0 ≤ 12) (hk1 : n1 ≤ 12) (hg : Nat.gcd (dv 18446744073709551616 l0) (dv 18446744073709551616 l1) = 1) :
    Calls Tryd.prog 3 #[.slice A0 n0 c0, .slice A1 n1 c1] w fun e w' => e = .returned (.bool true) ∧ Below w.heap.size w w' := by
  have HQC := Lib.hid QC
  have HGC := Lib.hid GC
  have HTB := Lib.hid (fun w' (h : Below w.heap.size w w') => hT.on h)
  obtain ⟨K, hK⟩ : ∃ K, 1048576 = K := ⟨_, rfl⟩
  have O0 := arg_of h0
  have S0 := arg_sz h0
  have O1 := arg_of h1
  have S1 := arg_sz h1
  rw [hK] at S0 S1
  have hK2 : K ≤ 1048576 := by omega
  obtain ⟨x, hx0⟩ : ∃ v, dv 18446744073709551616 l0 = v := ⟨_, rfl⟩
  rw [hx0] at O0 S0
  have HO0 := Lib.hid O0
  have HS0 := Lib.hid S0
  obtain ⟨y, hx1⟩ : ∃ v, dv 18446744073709551616 l1 = v := ⟨_, rfl⟩
  rw [hx1] at O1 S1
  have HO1 := Lib.hid O1
  have HS1 := Lib.hid S1
  have P0 := arg_ref2 h0
  have P1 := arg_ref2 h1
  rw [hx0] at P0
  rw [hx1] at P1
  have HP0 := Lib.hid P0
  have HP1 := Lib.hid P1
  rw [hx0] at hg
  rw [hx1] at hg
  have Hhg := Lib.hid hg
  have hl0a : decide ((n0 : Int) > 12) = false := by simp; omega
  have hl0b : decide ((12 : Int) < (n0 : Int)) = false := by simp; omega
  have hl0c : decide (12 < n0) = false := by simp; omega
  have hl1a : decide ((n1 : Int) > 12) = false := by simp; omega
  have hl1b : decide ((12 : Int) < (n1 : Int)) = false := by simp; omega
  have hl1c : decide (12 < n1) = false := by simp; omega
  clear hT QC GC P0 P1 hK O0 S0 h0 hx0 O1 S1 h1 hx1 hg
  go_enter Tryd.func3, Tryd.ntmps3
  have hB := Below.refl w.heap.size w
  go_wp2_with fail
  (with_reducible refine (law5_awake HGC.out _ (HTB.out _ hB)).mono ?_)
  rintro e wc1 ⟨rfl, hb⟩
  have hB := keep_below hB hb
  clear hb 
  go_wp2_with fail
  have HZ1 : Hid (Sz (K) (x)) := HS0.out
  (with_reducible refine (HP0.out _ hB).mono ?_)
  intro e wc2 hg
  obtain ⟨C1, r1, f1, rfl, hh, hb⟩ := hg.elim
  have hB := keep_below hB hb
  have HR1 := Lib.hid hh
  clear hb hh hg
  go_wp2_with fail
  have HZ2 : Hid (Sz (K) (y)) := HS1.out
  (with_reducible refine (HP1.out _ hB).mono ?_)
  intro e wc3 hg
  obtain ⟨C2, r2, f2, rfl, hh, hb⟩ := hg.elim
  have hB := keep_below hB hb
  have HR1 := Lib.hid (HR1.out.below hb)
  have HR2 := Lib.hid hh
  clear hb hh hg
  go_wp2_with fail
  have HZ3 : Hid (Sz (K + K) (Nat.gcd x y)) := Sz.gcd HZ1.out HZ2.out
  (with_reducible refine (ref5_gcd_any (x) (y) C1 C2 r1 r2 f1 f2 _ HR1.out HR2.out (by have := Sz.holds' HZ1.out HR1.out; omega) (by have := Sz.holds' HZ2.out HR2.out; omega)).mono ?_)
  rintro e wc4 ⟨C3, r3, f3, rfl, hh, hb⟩
  have hB := keep_below hB hb
  have HR1 := Lib.hid (HR1.out.below hb)
  have HR2 := Lib.hid (HR2.out.below hb)
  have HR3 := Lib.hid hh
  clear hb hh
  go_wp2_with fail
  have HZ4 : Hid (Sz (K) (x)) := HS0.out
  (with_reducible refine (HO0.out _ hB).mono ?_)
  rintro e wc5 ⟨B4, m4, d4, rfl, hw4, hb, _⟩
  have hB := keep_below hB hb
  have HR1 := Lib.hid (HR1.out.below hb)
  have HR2 := Lib.hid (HR2.out.below hb)
  have HR3 := Lib.hid (HR3.out.below hb)
  have HN4 := Lib.hid hw4
  clear hb hw4
  go_wp2_with fail
  have HZ5 : Hid (Sz (K) (y)) := HS1.out
  (with_reducible refine (HO1.out _ hB).mono ?_)
  rintro e wc6 ⟨B5, m5, d5, rfl, hw5, hb, _⟩
  have hB := keep_below hB hb
  have HR1 := Lib.hid (HR1.out.below hb)
  have HR2 := Lib.hid (HR2.out.below hb)
  have HR3 := Lib.hid (HR3.out.below hb)
  have HN4 := Lib.hid (HN4.out.below hb)
  have HN5 := Lib.hid hw5
  clear hb hw5
  obtain ⟨b1, b2, b3, bz⟩ := box2 wc6 29 29 #[.slice B4 m4 d4] #[.slice B5 m5 d5]
  have hB := keep_below hB b1
  have HR1 := Lib.hid (HR1.out.below b1)
  have HR2 := Lib.hid (HR2.out.below b1)
  have HR3 := Lib.hid (HR3.out.below b1)
  have HN4 := Lib.hid (HN4.out.below b1)
  have HN5 := Lib.hid (HN5.out.below b1)
  have g6 : ((wc6.alloc (.cells #[.slice B4 m4 d4] 29)).alloc (.cells #[.slice B5 m5 d5] 29)).cell? ⟨wc6.heap.size, 0, none⟩ = some (.slice B4 m4 d4) := b2.cell 0
  have g7 : ((wc6.alloc (.cells #[.slice B4 m4 d4] 29)).alloc (.cells #[.slice B5 m5 d5] 29)).cell? ⟨wc6.heap.size + 1, 0, none⟩ = some (.slice B5 m5 d5) := b3.cell 0
  clear b1 b2 b3 bz
  go_wp2_with fail
  generalize (wc6.alloc (.cells #[.slice B4 m4 d4] 29)).alloc (.cells #[.slice B5 m5 d5] 29) = W7 at *
  generalize wc6.heap.size = q7 at *
  have HZ8 : Hid (Sz (K + K) (Nat.gcd x y)) := Sz.gcd HZ4.out HZ5.out
  have C0 := Lib.hid (fun w' (h : Below W7.heap.size W7 w') => HGC.out.of (x) (y) B4 B5 m4 m5 d4 d5 w' (HN4.out.below h) (HN5.out.below h) (by have := Sz.words HZ4.out HN4.out; omega) (by have := Sz.words HZ5.out HN5.out; omega) (HTB.out _ (keep_below hB h)))
  have C1 := Lib.hid (fun w' (h : Below W7.heap.size W7 w') B8 m8 d8 (hw8 : WordsIn w' (Nat.gcd x y) B8 m8 d8) => law2_like (Nat.gcd x y) B8 C3 m8 d8 r3 f3 w' hw8 (HR3.out.below h) (by have := Sz.words HZ8.out hw8; omega) (by have := Sz.holds' HZ3.out HR3.out; omega))
  have CP9 : Hid (copB (x) (y) = true) := cop_1 Hhg.out
  have C2 := Lib.hid (fun w' (h : Below W7.heap.size W7 w') => CP9.out ▸ HGC.out.coprime (x) (y) B4 B5 m4 m5 d4 d5 w' (HN4.out.below h) (HN5.out.below h) (by have := Sz.words HZ4.out HN4.out; omega) (by have := Sz.words HZ5.out HN5.out; omega) (HTB.out _ (keep_below hB h)))
  have C3 := Lib.hid (fun w' (h : Below W7.heap.size W7 w') B8 m8 d8 (hw8 : WordsIn w' (Nat.gcd x y) B8 m8 d8) (gl : Nat) (k10 : Blk w' gl 35 #[.int .u64 1]) => is_bool (Nat.gcd x y) B8 m8 d8 _ _ [1] _ true hw8 k10 (k := 1) rfl rfl (dgs1 1 (by decide)) (one_is Hhg.out) (by have := Sz.words HZ8.out hw8; omega) (by decide))
  have hb0 : Below W7.heap.size W7 W7.drew := (Below.refl _ W7).drew
  have j0 : W7.drew.cell? ⟨q7, 0, none⟩ = some (.slice B4 m4 d4) := g6
  have j1 : W7.drew.cell? ⟨q7 + 1, 0, none⟩ = some (.slice B5 m5 d5) := g7
  go_region_held3 (fun w' => Below W7.heap.size W7 w' ∧ w'.cell? ⟨q7, 0, none⟩ = some (.slice B4 m4 d4) ∧ w'.cell? ⟨q7 + 1, 0, none⟩ = some (.slice B5 m5 d5))
    (first | (with_reducible exact ⟨hb0, j0, j1⟩) | (go_split_ands; (repeat' apply And.intro); all_goals (first | with_reducible assumption | with_reducible exact keep_below (by with_reducible assumption) hb | with_reducible exact keep_cell hb (by with_reducible assumption) | with_reducible exact keep_below_alloc _ (by with_reducible assumption) | with_reducible exact keep_cell_alloc _ (by with_reducible assumption) | with_reducible exact keep_below_alloc _ (keep_below_alloc _ (by with_reducible assumption)) | with_reducible exact keep_cell_alloc _ (keep_cell_alloc _ (by with_reducible assumption)) | with_reducible exact keep_below_alloc _ (keep_below_alloc _ (keep_below_alloc _ (by with_reducible assumption))) | with_reducible exact keep_cell_alloc _ (keep_cell_alloc _ (keep_cell_alloc _ (by with_reducible assumption))))))
    (first
      | (go_at_call 14; (with_reducible refine (C0.out _ (by first | with_reducible assumption | exact And.left (by with_reducible assumption))).mono ?_); rintro e wa8 ⟨B8, m8, d8, rfl, hw8, hb⟩; (try (first | (with_reducible have k10 := keep_blk hb k10) | (with_reducible have k10 := keep_blk hb (Blk.new _ _ _)) | (with_reducible have k10 := keep_blk hb (Blk.new _ _ _).drew) | (with_reducible have k10 := keep_blk hb (Blk.newAt (by simp))))); go_split_ands; have hBw : Below W7.heap.size W7 wa8 := keep_below (by with_reducible assumption) hb; have gw0 : wa8.cell? ⟨q7, 0, none⟩ = some (.slice B4 m4 d4) := keep_cell hb (by with_reducible assumption); have gw1 : wa8.cell? ⟨q7 + 1, 0, none⟩ = some (.slice B5 m5 d5) := keep_cell hb (by with_reducible assumption))
      | (go_at_call 13; (with_reducible refine (C1.out _ (by first | with_reducible assumption | exact And.left (by with_reducible assumption)) _ _ _ hw8).mono ?_); rintro e wa9 ⟨rfl, hb⟩; (try (first | (with_reducible have k10 := keep_blk hb k10) | (with_reducible have k10 := keep_blk hb (Blk.new _ _ _)) | (with_reducible have k10 := keep_blk hb (Blk.new _ _ _).drew) | (with_reducible have k10 := keep_blk hb (Blk.newAt (by simp))))); go_split_ands; have hBw : Below W7.heap.size W7 wa9 := keep_below (by with_reducible assumption) hb; have gw0 : wa9.cell? ⟨q7, 0, none⟩ = some (.slice B4 m4 d4) := keep_cell hb (by with_reducible assumption); have gw1 : wa9.cell? ⟨q7 + 1, 0, none⟩ = some (.slice B5 m5 d5) := keep_cell hb (by with_reducible assumption); (first | (with_reducible have hw8 := WordsIn.below hw8 hb) | (with_reducible have hw8 := WordsIn.below (WordsIn.below hw8 (up_alloc _ _)) hb) | (with_reducible have hw8 := WordsIn.below (WordsIn.below (WordsIn.below hw8 (up_alloc _ _)) (up_alloc _ _)) hb)))
      | (go_at_call 15; (with_reducible refine (C2.out _ (by first | with_reducible assumption | exact And.left (by with_reducible assumption))).mono ?_); rintro e wa10 ⟨rfl, hb⟩; (try (first | (with_reducible have k10 := keep_blk hb k10) | (with_reducible have k10 := keep_blk hb (Blk.new _ _ _)) | (with_reducible have k10 := keep_blk hb (Blk.new _ _ _).drew) | (with_reducible have k10 := keep_blk hb (Blk.newAt (by simp))))); go_split_ands; have hBw : Below W7.heap.size W7 wa10 := keep_below (by with_reducible assumption) hb; have gw0 : wa10.cell? ⟨q7, 0, none⟩ = some (.slice B4 m4 d4) := keep_cell hb (by with_reducible assumption); have gw1 : wa10.cell? ⟨q7 + 1, 0, none⟩ = some (.slice B5 m5 d5) := keep_cell hb (by with_reducible assumption); (first | (with_reducible have hw8 := WordsIn.below hw8 hb) | (with_reducible have hw8 := WordsIn.below (WordsIn.below hw8 (up_alloc _ _)) hb) | (with_reducible have hw8 := WordsIn.below (WordsIn.below (WordsIn.below hw8 (up_alloc _ _)) (up_alloc _ _)) hb)))
      | (go_at_call 16; (first | (with_reducible refine (C3.out _ (by first | with_reducible assumption | exact And.left (by with_reducible assumption)) _ _ _ hw8 _ k10).mono ?_) | (with_reducible refine (C3.out _ (by first | with_reducible assumption | exact And.left (by with_reducible assumption)) _ _ _ (hw8.below (up_alloc _ _)) _ k10).mono ?_) | (with_reducible refine (C3.out _ (by first | with_reducible assumption | exact And.left (by with_reducible assumption)) _ _ _ ((hw8.below (up_alloc _ _)).below (up_alloc _ _)) _ k10).mono ?_) | (with_reducible refine (C3.out _ (by first | with_reducible assumption | exact And.left (by with_reducible assumption)) _ _ _ hw8 _ (Blk.new _ _ _)).mono ?_) | (with_reducible refine (C3.out _ (by first | with_reducible assumption | exact And.left (by with_reducible assumption)) _ _ _ (hw8.below (up_alloc _ _)) _ (Blk.new _ _ _)).mono ?_) | (with_reducible refine (C3.out _ (by first | with_reducible assumption | exact And.left (by with_reducible assumption)) _ _ _ ((hw8.below (up_alloc _ _)).below (up_alloc _ _)) _ (Blk.new _ _ _)).mono ?_) | (with_reducible refine (C3.out _ (by first | with_reducible assumption | exact And.left (by with_reducible assumption)) _ _ _ hw8 _ ((Blk.new _ _ _).drew)).mono ?_) | (with_reducible refine (C3.out _ (by first | with_reducible assumption | exact And.left (by with_reducible assumption)) _ _ _ (hw8.below (up_alloc _ _)) _ ((Blk.new _ _ _).drew)).mono ?_) | (with_reducible refine (C3.out _ (by first | with_reducible assumption | exact And.left (by with_reducible assumption)) _ _ _ ((hw8.below (up_alloc _ _)).below (up_alloc _ _)) _ ((Blk.new _ _ _).drew)).mono ?_) | (with_reducible refine (C3.out _ (by first | with_reducible assumption | exact And.left (by with_reducible assumption)) _ _ _ hw8 _ ((Blk.newAt (by simp)))).mono ?_) | (with_reducible refine (C3.out _ (by first | with_reducible assumption | exact And.left (by with_reducible assumption)) _ _ _ (hw8.below (up_alloc _ _)) _ ((Blk.newAt (by simp)))).mono ?_) | (with_reducible refine (C3.out _ (by first | with_reducible assumption | exact And.left (by with_reducible assumption)) _ _ _ ((hw8.below (up_alloc _ _)).below (up_alloc _ _)) _ ((Blk.newAt (by simp)))).mono ?_) | (with_reducible refine (C3.out _ (by first | with_reducible assumption | exact And.left (by with_reducible assumption)) _ _ _ hw8 _ ((Blk.newAt (by simp)).drew)).mono ?_) | (with_reducible refine (C3.out _ (by first | with_reducible assumption | exact And.left (by with_reducible assumption)) _ _ _ (hw8.below (up_alloc _ _)) _ ((Blk.newAt (by simp)).drew)).mono ?_) | (with_reducible refine (C3.out _ (by first | with_reducible assumption | exact And.left (by with_reducible assumption)) _ _ _ ((hw8.below (up_alloc _ _)).below (up_alloc _ _)) _ ((Blk.newAt (by simp)).drew)).mono ?_)); rintro e wa11 ⟨rfl, hb⟩; go_split_ands; have hBw : Below W7.heap.size W7 wa11 := keep_below (by with_reducible assumption) hb; have gw0 : wa11.cell? ⟨q7, 0, none⟩ = some (.slice B4 m4 d4) := keep_cell hb (by with_reducible assumption); have gw1 : wa11.cell? ⟨q7 + 1, 0, none⟩ = some (.slice B5 m5 d5) := keep_cell hb (by with_reducible assumption); (first | (with_reducible have hw8 := WordsIn.below hw8 hb) | (with_reducible have hw8 := WordsIn.below (WordsIn.below hw8 (up_alloc _ _)) hb) | (with_reducible have hw8 := WordsIn.below (WordsIn.below (WordsIn.below hw8 (up_alloc _ _)) (up_alloc _ _)) hb))))
  all_goals
    clear hb
    have hB := keep_below hB hBw
    have HR1 := Lib.hid (HR1.out.below hBw)
    have HR2 := Lib.hid (HR2.out.below hBw)
    have HR3 := Lib.hid (HR3.out.below hBw)
    have HN4 := Lib.hid (HN4.out.below hBw)
    have HN5 := Lib.hid (HN5.out.below hBw)
    have g6 := keep_cell hBw g6
    have g7 := keep_cell hBw g7
    have HN8 := Lib.hid hw8
    clear hb0 hBw gw0 gw1 hw8
    clear j0
    clear j1
    clear C0 C1 C2 C3
    go_wp2
    go_ret
    exact ⟨by first | rfl | simp, hB⟩
set_option maxHeartbeats 16000000 in
theorem gcdFinds_no (QC : QuotC) (GC : GcdC) (A0 : Option Addr) (n0 c0 : Nat) (l0 : List Nat) (A1 : Option Addr) (n1 c1 : Nat) (l1 : List Nat) (w : World) (h0 : ArgWords w A0 n0 c0 l0) (h1 : ArgWords w A1 n1 c1 l1) (hT : TabAt w) (hk0 : n0 ≤ 12) (hk1 : n1 ≤ 12) (hg : Nat.gcd (dv 18446744073709551616 l0) (dv 18446744073709551616 l1) ≠ 1) :
    Calls Tryd.prog 3 #[.slice A0 n0 c0, .slice A1 n1 c1] w fun e w' => e = .returned (.bool true) ∧ Below w.heap.size w w' := by
  have HQC := Lib.hid QC
  have HGC := Lib.hid GC
  have HTB := Lib.hid (fun w' (h : Below w.heap.size w w') => hT.on h)
  obtain ⟨K, hK⟩ : ∃ K, 1048576 = K := ⟨_, rfl⟩
  have O0 := arg_of h0
  have S0 := arg_sz h0
  have O1 := arg_of h1
  have S1 := arg_sz h1
  rw [hK] at S0 S1
  have hK2 : K ≤ 1048576 := by omega
  obtain ⟨x, hx0⟩ : ∃ v, dv 18446744073709551616 l0 = v := ⟨_, rfl⟩
  rw [hx0] at O0 S0
  have HO0 := Lib.hid O0
  have HS0 := Lib.hid S0
  obtain ⟨y, hx1⟩ : ∃ v, dv 18446744073709551616 l1 = v := ⟨_, rfl⟩
  rw [hx1] at O1 S1
  have HO1 := Lib.hid O1
  have HS1 := Lib.hid S1
  have P0 := arg_ref2 h0
  have P1 := arg_ref2 h1
  rw [hx0] at P0
  rw [hx1] at P1
  have HP0 := Lib.hid P0
  have HP1 := Lib.hid P1
  rw [hx0] at hg
  rw [hx1] at hg
  have Hhg := Lib.hid hg
  have hl0a : decide ((n0 : Int) > 12) = false := by simp; omega
  have hl0b : decide ((12 : Int) < (n0 : Int)) = false := by simp; omega
  have hl0c : decide (12 < n0) = false := by simp; omega
  have hl1a : decide ((n1 : Int) > 12) = false := by simp; omega
  have hl1b : decide ((12 : Int) < (n1 : Int)) = false := by simp; omega
  have hl1c : decide (12 < n1) = false := by simp; omega
  clear hT QC GC P0 P1 hK O0 S0 h0 hx0 O1 S1 h1 hx1 hg
  go_enter Tryd.func3, Tryd.ntmps3
  have hB := Below.refl w.heap.size w
  go_wp2_with fail
  (with_reducible refine (law5_awake HGC.out _ (HTB.out _ hB)).mono ?_)
  rintro e wc1 ⟨rfl, hb⟩
  have hB := keep_below hB hb
  clear hb 
  go_wp2_with fail
  have HZ1 : Hid (Sz (K) (x)) := HS0.out
  (with_reducible refine (HP0.out _ hB).mono ?_)
  intro e wc2 hg
  obtain ⟨C1, r1, f1, rfl, hh, hb⟩ := hg.elim
  have hB := keep_below hB hb
  have HR1 := Lib.hid hh
  clear hb hh hg
  go_wp2_with fail
  have HZ2 : Hid (Sz (K) (y)) := HS1.out
  (with_reducible refine (HP1.out _ hB).mono ?_)
  intro e wc3 hg
  obtain ⟨C2, r2, f2, rfl, hh, hb⟩ := hg.elim
  have hB := keep_below hB hb
  have HR1 := Lib.hid (HR1.out.below hb)
  have HR2 := Lib.hid hh
  clear hb hh hg
  go_wp2_with fail
  have HZ3 : Hid (Sz (K + K) (Nat.gcd x y)) := Sz.gcd HZ1.out HZ2.out
  (with_reducible refine (ref5_gcd_any (x) (y) C1 C2 r1 r2 f1 f2 _ HR1.out HR2.out (by have := Sz.holds' HZ1.out HR1.out; omega) (by have := Sz.holds' HZ2.out HR2.out; omega)).mono ?_)
  rintro e wc4 ⟨C3, r3, f3, rfl, hh, hb⟩
  have hB := keep_below hB hb
  have HR1 := Lib.hid (HR1.out.below hb)
  have HR2 := Lib.hid (HR2.out.below hb)
  have HR3 := Lib.hid hh
  clear hb hh
  go_wp2_with fail
  have HZ4 : Hid (Sz (K) (x)) := HS0.out
  (with_reducible refine (HO0.out _ hB).mono ?_)
  rintro e wc5 ⟨B4, m4, d4, rfl, hw4, hb, _⟩
  have hB := keep_below hB hb
  have HR1 := Lib.hid (HR1.out.below hb)
  have HR2 := Lib.hid (HR2.out.below hb)
  have HR3 := Lib.hid (HR3.out.below hb)
  have HN4 := Lib.hid hw4
  clear hb hw4
  go_wp2_with fail
  have HZ5 : Hid (Sz (K) (y)) := HS1.out
  (with_reducible refine (HO1.out _ hB).mono ?_)
  rintro e wc6 ⟨B5, m5, d5, rfl, hw5, hb, _⟩
  have hB := keep_below hB hb
  have HR1 := Lib.hid (HR1.out.below hb)
  have HR2 := Lib.hid (HR2.out.below hb)
  have HR3 := Lib.hid (HR3.out.below hb)
  have HN4 := Lib.hid (HN4.out.below hb)
  have HN5 := Lib.hid hw5
  clear hb hw5
  obtain ⟨b1, b2, b3, bz⟩ := box2 wc6 29 29 #[.slice B4 m4 d4] #[.slice B5 m5 d5]
  have hB := keep_below hB b1
  have HR1 := Lib.hid (HR1.out.below b1)
  have HR2 := Lib.hid (HR2.out.below b1)
  have HR3 := Lib.hid (HR3.out.below b1)
  have HN4 := Lib.hid (HN4.out.below b1)
  have HN5 := Lib.hid (HN5.out.below b1)
  have g6 : ((wc6.alloc (.cells #[.slice B4 m4 d4] 29)).alloc (.cells #[.slice B5 m5 d5] 29)).cell? ⟨wc6.heap.size, 0, none⟩ = some (.slice B4 m4 d4) := b2.cell 0
  have g7 : ((wc6.alloc (.cells #[.slice B4 m4 d4] 29)).alloc (.cells #[.slice B5 m5 d5] 29)).cell? ⟨wc6.heap.size + 1, 0, none⟩ = some (.slice B5 m5 d5) := b3.cell 0
  clear b1 b2 b3 bz
  go_wp2_with fail
  generalize (wc6.alloc (.cells #[.slice B4 m4 d4] 29)).alloc (.cells #[.slice B5 m5 d5] 29) = W7 at *
  generalize wc6.heap.size = q7 at *
  have HZ8 : Hid (Sz (K + K) (Nat.gcd x y)) := Sz.gcd HZ4.out HZ5.out
  have C0 := Lib.hid (fun w' (h : Below W7.heap.size W7 w') => HGC.out.of (x) (y) B4 B5 m4 m5 d4 d5 w' (HN4.out.below h) (HN5.out.below h) (by have := Sz.words HZ4.out HN4.out; omega) (by have := Sz.words HZ5.out HN5.out; omega) (HTB.out _ (keep_below hB h)))
  have C1 := Lib.hid (fun w' (h : Below W7.heap.size W7 w') B8 m8 d8 (hw8 : WordsIn w' (Nat.gcd x y) B8 m8 d8) => law2_like (Nat.gcd x y) B8 C3 m8 d8 r3 f3 w' hw8 (HR3.out.below h) (by have := Sz.words HZ8.out hw8; omega) (by have := Sz.holds' HZ3.out HR3.out; omega))
  have CP9 : Hid (copB (x) (y) = false) := cop_n Hhg.out
  have C2 := Lib.hid (fun w' (h : Below W7.heap.size W7 w') => CP9.out ▸ HGC.out.coprime (x) (y) B4 B5 m4 m5 d4 d5 w' (HN4.out.below h) (HN5.out.below h) (by have := Sz.words HZ4.out HN4.out; omega) (by have := Sz.words HZ5.out HN5.out; omega) (HTB.out _ (keep_below hB h)))
  have C3 := Lib.hid (fun w' (h : Below W7.heap.size W7 w') B8 m8 d8 (hw8 : WordsIn w' (Nat.gcd x y) B8 m8 d8) (gl : Nat) (k10 : Blk w' gl 35 #[.int .u64 1]) => is_bool (Nat.gcd x y) B8 m8 d8 _ _ [1] _ false hw8 k10 (k := 1) rfl rfl (dgs1 1 (by decide)) (one_no Hhg.out) (by have := Sz.words HZ8.out hw8; omega) (by decide))
  have hb0 : Below W7.heap.size W7 W7.drew := (Below.refl _ W7).drew
  have j0 : W7.drew.cell? ⟨q7, 0, none⟩ = some (.slice B4 m4 d4) := g6
  have j1 : W7.drew.cell? ⟨q7 + 1, 0, none⟩ = some (.slice B5 m5 d5) := g7
  go_region_held3 (fun w' => Below W7.heap.size W7 w' ∧ w'.cell? ⟨q7, 0, none⟩ = some (.slice B4 m4 d4) ∧ w'.cell? ⟨q7 + 1, 0, none⟩ = some (.slice B5 m5 d5))
    (first | (with_reducible exact ⟨hb0, j0, j1⟩) | (go_split_ands; (repeat' apply And.intro); all_goals (first | with_reducible assumption | with_reducible exact keep_below (by with_reducible assumption) hb | with_reducible exact keep_cell hb (by with_reducible assumption) | with_reducible exact keep_below_alloc _ (by with_reducible assumption) | with_reducible exact keep_cell_alloc _ (by with_reducible assumption) | with_reducible exact keep_below_alloc _ (keep_below_alloc _ (by with_reducible assumption)) | with_reducible exact keep_cell_alloc _ (keep_cell_alloc _ (by with_reducible assumption)) | with_reducible exact keep_below_alloc _ (keep_below_alloc _ (keep_below_alloc _ (by with_reducible assumption))) | with_reducible exact keep_cell_alloc _ (keep_cell_alloc _ (keep_cell_alloc _ (by with_reducible assumption))))))
    (first
      | (go_at_call 14; (with_reducible refine (C0.out _ (by first | with_reducible assumption | exact And.left (by with_reducible assumption))).mono ?_); rintro e wa8 ⟨B8, m8, d8, rfl, hw8, hb⟩; (try (first | (with_reducible have k10 := keep_blk hb k10) | (with_reducible have k10 := keep_blk hb (Blk.new _ _ _)) | (with_reducible have k10 := keep_blk hb (Blk.new _ _ _).drew) | (with_reducible have k10 := keep_blk hb (Blk.newAt (by simp))))); go_split_ands; have hBw : Below W7.heap.size W7 wa8 := keep_below (by with_reducible assumption) hb; have gw0 : wa8.cell? ⟨q7, 0, none⟩ = some (.slice B4 m4 d4) := keep_cell hb (by with_reducible assumption); have gw1 : wa8.cell? ⟨q7 + 1, 0, none⟩ = some (.slice B5 m5 d5) := keep_cell hb (by with_reducible assumption))
      | (go_at_call 13; (with_reducible refine (C1.out _ (by first | with_reducible assumption | exact And.left (by with_reducible assumption)) _ _ _ hw8).mono ?_); rintro e wa9 ⟨rfl, hb⟩; (try (first | (with_reducible have k10 := keep_blk hb k10) | (with_reducible have k10 := keep_blk hb (Blk.new _ _ _)) | (with_reducible have k10 := keep_blk hb (Blk.new _ _ _).drew) | (with_reducible have k10 := keep_blk hb (Blk.newAt (by simp))))); go_split_ands; have hBw : Below W7.heap.size W7 wa9 := keep_below (by with_reducible assumption) hb; have gw0 : wa9.cell? ⟨q7, 0, none⟩ = some (.slice B4 m4 d4) := keep_cell hb (by with_reducible assumption); have gw1 : wa9.cell? ⟨q7 + 1, 0, none⟩ = some (.slice B5 m5 d5) := keep_cell hb (by with_reducible assumption); (first | (with_reducible have hw8 := WordsIn.below hw8 hb) | (with_reducible have hw8 := WordsIn.below (WordsIn.below hw8 (up_alloc _ _)) hb) | (with_reducible have hw8 := WordsIn.below (WordsIn.below (WordsIn.below hw8 (up_alloc _ _)) (up_alloc _ _)) hb)))
      | (go_at_call 15; (with_reducible refine (C2.out _ (by first | with_reducible assumption | exact And.left (by with_reducible assumption))).mono ?_); rintro e wa10 ⟨rfl, hb⟩; (try (first | (with_reducible have k10 := keep_blk hb k10) | (with_reducible have k10 := keep_blk hb (Blk.new _ _ _)) | (with_reducible have k10 := keep_blk hb (Blk.new _ _ _).drew) | (with_reducible have k10 := keep_blk hb (Blk.newAt (by simp))))); go_split_ands; have hBw : Below W7.heap.size W7 wa10 := keep_below (by with_reducible assumption) hb; have gw0 : wa10.cell? ⟨q7, 0, none⟩ = some (.slice B4 m4 d4) := keep_cell hb (by with_reducible assumption); have gw1 : wa10.cell? ⟨q7 + 1, 0, none⟩ = some (.slice B5 m5 d5) := keep_cell hb (by with_reducible assumption); (first | (with_reducible have hw8 := WordsIn.below hw8 hb) | (with_reducible have hw8 := WordsIn.below (WordsIn.below hw8 (up_alloc _ _)) hb) | (with_reducible have hw8 := WordsIn.below (WordsIn.below (WordsIn.below hw8 (up_alloc _ _)) (up_alloc _ _)) hb)))
      | (go_at_call 16; (first | (with_reducible refine (C3.out _ (by first | with_reducible assumption | exact And.left (by with_reducible assumption)) _ _ _ hw8 _ k10).mono ?_) | (with_reducible refine (C3.out _ (by first | with_reducible assumption | exact And.left (by with_reducible assumption)) _ _ _ (hw8.below (up_alloc _ _)) _ k10).mono ?_) | (with_reducible refine (C3.out _ (by first | with_reducible assumption | exact And.left (by with_reducible assumption)) _ _ _ ((hw8.below (up_alloc _ _)).below (up_alloc _ _)) _ k10).mono ?_) | (with_reducible refine (C3.out _ (by first | with_reducible assumption | exact And.left (by with_reducible assumption)) _ _ _ hw8 _ (Blk.new _ _ _)).mono ?_) | (with_reducible refine (C3.out _ (by first | with_reducible assumption | exact And.left (by with_reducible assumption)) _ _ _ (hw8.below (up_alloc _ _)) _ (Blk.new _ _ _)).mono ?_) | (with_reducible refine (C3.out _ (by first | with_reducible assumption | exact And.left (by with_reducible assumption)) _ _ _ ((hw8.below (up_alloc _ _)).below (up_alloc _ _)) _ (Blk.new _ _ _)).mono ?_) | (with_reducible refine (C3.out _ (by first | with_reducible assumption | exact And.left (by with_reducible assumption)) _ _ _ hw8 _ ((Blk.new _ _ _).drew)).mono ?_) | (with_reducible refine (C3.out _ (by first | with_reducible assumption | exact And.left (by with_reducible assumption)) _ _ _ (hw8.below (up_alloc _ _)) _ ((Blk.new _ _ _).drew)).mono ?_) | (with_reducible refine (C3.out _ (by first | with_reducible assumption | exact And.left (by with_reducible assumption)) _ _ _ ((hw8.below (up_alloc _ _)).below (up_alloc _ _)) _ ((Blk.new _ _ _).drew)).mono ?_) | (with_reducible refine (C3.out _ (by first | with_reducible assumption | exact And.left (by with_reducible assumption)) _ _ _ hw8 _ ((Blk.newAt (by simp)))).mono ?_) | (with_reducible refine (C3.out _ (by first | with_reducible assumption | exact And.left (by with_reducible assumption)) _ _ _ (hw8.below (up_alloc _ _)) _ ((Blk.newAt (by simp)))).mono ?_) | (with_reducible refine (C3.out _ (by first | with_reducible assumption | exact And.left (by with_reducible assumption)) _ _ _ ((hw8.below (up_alloc _ _)).below (up_alloc _ _)) _ ((Blk.newAt (by simp)))).mono ?_) | (with_reducible refine (C3.out _ (by first | with_reducible assumption | exact And.left (by with_reducible assumption)) _ _ _ hw8 _ ((Blk.newAt (by simp)).drew)).mono ?_) | (with_reducible refine (C3.out _ (by first | with_reducible assumption | exact And.left (by with_reducible assumption)) _ _ _ (hw8.below (up_alloc _ _)) _ ((Blk.newAt (by simp)).drew)).mono ?_) | (with_reducible refine (C3.out _ (by first | with_reducible assumption | exact And.left (by with_reducible assumption)) _ _ _ ((hw8.below (up_alloc _ _)).below (up_alloc _ _)) _ ((Blk.newAt (by simp)).drew)).mono ?_)); rintro e wa11 ⟨rfl, hb⟩; go_split_ands; have hBw : Below W7.heap.size W7 wa11 := keep_below (by with_reducible assumption) hb; have gw0 : wa11.cell? ⟨q7, 0, none⟩ = some (.slice B4 m4 d4) := keep_cell hb (by with_reducible assumption); have gw1 : wa11.cell? ⟨q7 + 1, 0, none⟩ = some (.slice B5 m5 d5) := keep_cell hb (by with_reducible assumption); (first | (with_reducible have hw8 := WordsIn.below hw8 hb) | (with_reducible have hw8 := WordsIn.below (WordsIn.below hw8 (up_alloc _ _)) hb) | (with_reducible have hw8 := WordsIn.below (WordsIn.below (WordsIn.below hw8 (up_alloc _ _)) (up_alloc _ _)) hb))))
  all_goals
    clear hb
    have hB := keep_below hB hBw
    have HR1 := Lib.hid (HR1.out.below hBw)
    have HR2 := Lib.hid (HR2.out.below hBw)
    have HR3 := Lib.hid (HR3.out.below hBw)
    have HN4 := Lib.hid (HN4.out.below hBw)
    have HN5 := Lib.hid (HN5.out.below hBw)
    have g6 := keep_cell hBw g6
    have g7 := keep_cell hBw g7
    have HN8 := Lib.hid hw8
    clear hb0 hBw gw0 gw1 hw8
    clear j0
    clear j1
    clear C0 C1 C2 C3
    go_wp2
    go_ret
    exact ⟨by first | rfl | simp, hB⟩
theorem gcdFinds_walk (QC : QuotC) (GC : GcdC) (A0 : Option Addr) (n0 c0 : Nat) (l0 : List Nat) (A1 : Option Addr) (n1 c1 : Nat) (l1 : List Nat) (w : World) (h0 : ArgWords w A0 n0 c0 l0) (h1 : ArgWords w A1 n1 c1 l1) (hT : TabAt w) :
    Calls Tryd.prog 3 #[.slice A0 n0 c0, .slice A1 n1 c1] w fun e w' => e = .returned (.bool true) ∧ Below w.heap.size w w' := by
  by_cases k0 : n0 ≤ 12
  · by_cases k1 : n1 ≤ 12
    · by_cases cg : Nat.gcd (dv 18446744073709551616 l0) (dv 18446744073709551616 l1) = 1
      · exact gcdFinds_yes QC GC A0 n0 c0 l0 A1 n1 c1 l1 w h0 h1 hT k0 k1 cg
      · exact gcdFinds_no QC GC A0 n0 c0 l0 A1 n1 c1 l1 w h0 h1 hT k0 k1 cg
    · exact gcdFinds_n1 QC GC A0 n0 c0 l0 A1 n1 c1 l1 w h0 h1 hT k0 (by omega)
  · exact gcdFinds_n0 QC GC A0 n0 c0 l0 A1 n1 c1 l1 w h0 h1 hT (by omega)
end Go.Proofs.YtplgbokgfphjaaaDoor
