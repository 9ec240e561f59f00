/-
  The contract of quot's Div, whatever the divisor; the contract of gcd's Coprime. Conditions: the values are numbers of up to 2 to the 38 words (Coprime: to the 30; TrailingZeros64's table reads as its initialiser lays it).
  The contract of gcd's Reduce. Conditions: the values are numbers of up to 2 to the 30 words; TrailingZeros64's table reads as its initialiser lays it.
  The contract of gcd's Lcm: the least common multiple. Conditions: the values are numbers of up to 2 to the 30 words; TrailingZeros64's table reads as its initialiser lays it.
  The contracts of gcd's All and Least, and what the laws on divisors lean on of package gcd, shown of the developers' functions. Conditions: as GcdC says.
  What the laws on common divisors lean on of package gcd, shown of the developers' functions. Conditions: as GcdC says.
-/
import Derived.Test.YtplgbokgfphjaaaDoorRows
import Derived.Test.YtplgbokgfphjaaaDoorBunI
import Derived.Test.YtplgbokgfphjaaaDoorBunY
import Derived.Test.YtplgbokgfphjaaaDoorP5C
import Derived.Test.YtplgbokgfphjaaaDoorPMul
import Derived.Test.YtplgbokgfphjaaaDoorNNums
import Derived.Test.YtplgbokgfphjaaaDoorBunV
import Derived.WalkKit
import Derived.Lib.Hide
import Derived.Outline
import Derived.IntWalk
import Derived.Deep.RegionHeld3
import Derived.Deep.DeepCutAuto
import Derived.Deep.CutBlock
import Derived.LoopTactic
import Derived.Deep.LoopGhost
namespace Go.Proofs.YtplgbokgfphjaaaDoor
open Go Go.RowKit
set_option maxRecDepth 100000
set_option linter.unusedVariables false
theorem quot_div_all (x y : Nat) (A D : Option Addr) (n m c d : Nat) (w : World) (hA : WordsIn w x A n c) (hD : WordsIn w y D m d) (hn : n ≤ 274877906944) (hm : m ≤ 274877906944) :
    Calls Tryd.prog 49 #[.agg #[.slice A n c], .agg #[.slice D m d]] w (GivesNB w (x / y) (decide (y ≠ 0))) := by
  by_cases hy : y = 0
  · have e : x / y = 0 := by rw [hy, Nat.div_zero]
    have e2 : decide (y ≠ 0) = false := by simp [hy]
    rw [e, e2]
    exact quot_div_of 0 0 false A D n m c d w (fun w' hb => quot_divmod_no x y A D n m c d w' (hA.below hb) (hD.below hb) hy)
  · have e2 : decide (y ≠ 0) = true := by simp [hy]
    rw [e2]
    exact quot_div_of (x / y) (x % y) true A D n m c d w (fun w' hb => quot_divmod x y A D n m c d w' (hA.below hb) (hD.below hb) (by omega) (by omega) hy)
set_option maxHeartbeats 4000000 in
theorem gcd_coprime (x y : Nat) (A D : Option Addr) (n m c d : Nat) (w : World) (hA : WordsIn w x A n c) (hD : WordsIn w y D m d) (hn : n ≤ 1073741824) (hm : m ≤ 1073741824) (hT : TabAt w) :
    Calls Tryd.prog 15 #[.agg #[.slice A n c], .agg #[.slice D m d]] w fun e w' => e = .returned (.bool (copB x y)) ∧ Below w.heap.size w w' := by
  have HO := Lib.hid (fun w' (hb : Below w.heap.size w w') => gcd_of x y A D n m c d w' (hA.below hb) (hD.below hb) hn hm (hT.on hb))
  obtain ⟨g, hg⟩ : ∃ g, Nat.gcd x y = g := ⟨_, rfl⟩
  rw [hg] at HO
  have hc : copB x y = decide (g = 1) := decide_eq_decide.2 (by rw [hg])
  rw [hc]
  clear hA hD hT hg hc
  go_enter Tryd.func15, Tryd.ntmps15
  go_wp2_with fail
  obtain ⟨b1, b2, b3, b5⟩ := box2 w 29 29 #[.slice A n c] #[.slice D m d]
  refine (HO.out _ b1).mono ?_
  rintro e w1 ⟨A1, n1, c1, rfl, hw, hb⟩
  have hB := keep_below b1 hb
  clear b1 b2 b3 b5 hb
  by_cases h1 : n1 ≤ 1
  · have lg : g < 18446744073709551616 := by
      have h := dg_lt (b := 18446744073709551616) (by decide) g
      exact Nat.lt_of_lt_of_le h (by rw [hw.len]; exact Nat.pow_le_pow_right (by decide) h1)
    have U := nat_uint_one g A1 n1 c1 w1 hw h1
    rw [show wd g 0 = g from by unfold wd; rw [Nat.pow_zero, Nat.div_one, Nat.mod_eq_of_lt lg]] at U
    have HU := Lib.hid U
    clear U hw lg
    go_wp2_with fail
    refine HU.out.mono ?_
    rintro e w2 ⟨rfl, hb⟩
    have hB := keep_below hB hb
    clear hb
    by_cases h : g = 1
    · subst h
      go_wp2
      go_ret
      exact ⟨rfl, hB⟩
    · have hz : ((g : Int) == 1) = false := by rw [beq_eq_false_iff_ne]; omega
      have hE : Hid (decide (g = 1) = false) := by show _ = _; simpa using h
      go_wp2
      go_ret
      exact ⟨by rw [hE.out]; first | rfl | simp, hB⟩
  · have hE : Hid (decide (g = 1) = false) := by
      show _ = _
      have h : g ≠ 1 := fun e => by
        subst e
        have h := hw.len
        rw [dg_one (a := 1) (by decide) (by decide)] at h
        simp at h
        omega
      simpa using h
    have U := nat_uint_more A1 n1 c1 w1 (by omega)
    have HU := Lib.hid U
    clear U hw
    go_wp2_with fail
    refine HU.out.mono ?_
    rintro e w2 ⟨rfl, hb⟩
    have hB := keep_below hB hb
    clear hb
    go_wp2
    go_ret
    exact ⟨by rw [hE.out]; first | rfl | simp, hB⟩
end Go.Proofs.YtplgbokgfphjaaaDoor
namespace Go.Proofs.YtplgbokgfphjaaaDoor
open Go Go.RowKit
set_option maxRecDepth 100000
set_option linter.unusedVariables false
set_option maxHeartbeats 8000000 in
theorem gcd_reduce (x y : Nat) (A D : Option Addr) (n m c d : Nat) (w : World) (hA : WordsIn w x A n c) (hD : WordsIn w y D m d) (hn : n ≤ 1073741824) (hm : m ≤ 1073741824) (hT : TabAt w) :
    Calls Tryd.prog 21 #[.agg #[.slice A n c], .agg #[.slice D m d]] w (GivesNN w (x / Nat.gcd x y) (y / Nat.gcd x y)) := by
  have HO := Lib.hid (fun w' (hb : Below w.heap.size w w') => gcd_of x y A D n m c d w' (hA.below hb) (hD.below hb) hn hm (hT.on hb))
  obtain ⟨g, hg⟩ : ∃ g, Nat.gcd x y = g := ⟨_, rfl⟩
  have lg : (dg 18446744073709551616 g).length ≤ 2147483648 := by
    rw [← hg]
    rcases Nat.eq_zero_or_pos x with e | e
    · rw [e, Nat.gcd_zero_left, hD.len]; omega
    · exact Nat.le_trans (dg_len_mono (by decide) (Nat.gcd_le_left y e)) (by rw [hA.len]; omega)
  rw [hg] at HO ⊢
  have HDA := Lib.hid (fun w' (hb : Below w.heap.size w w') A1 n1 c1 (h1 : WordsIn w' g A1 n1 c1) => quot_div_all x g A A1 n n1 c c1 w' (hA.below hb) h1 (by omega) (by rw [← h1.len]; omega))
  have HDB := Lib.hid (fun w' (hb : Below w.heap.size w w') A1 n1 c1 (h1 : WordsIn w' g A1 n1 c1) => quot_div_all y g D A1 m n1 d c1 w' (hD.below hb) h1 (by omega) (by rw [← h1.len]; omega))
  obtain ⟨X, hX⟩ : ∃ g', x / g = g' := ⟨_, rfl⟩
  obtain ⟨Y, hY⟩ : ∃ g', y / g = g' := ⟨_, rfl⟩
  obtain ⟨bb, hbb⟩ : ∃ g' : Bool, decide (g ≠ 0) = g' := ⟨_, rfl⟩
  rw [hX, hbb] at HDA
  rw [hY, hbb] at HDB
  rw [hX, hY]
  clear hA hD hT hg lg hX hY hbb
  go_enter Tryd.func21, Tryd.ntmps21
  go_wp2_with fail
  obtain ⟨b1, b2, b3, b4, b5⟩ := box3 w 29 29 29 #[.slice A n c] #[.slice D m d] #[.slice none 0 0]
  obtain ⟨W3, hW3⟩ : ∃ W, ((w.alloc (.cells #[.slice A n c] 29)).alloc (.cells #[.slice D m d] 29)).alloc (.cells #[.slice none 0 0] 29) = W := ⟨_, rfl⟩
  rw [hW3] at b1 b2 b3 b4 b5 ⊢
  have hs3 : W3.heap.size = w.heap.size + 1 + 1 + 1 := by rw [← hW3]; simp
  have kA := b2.one.alloc (.cells #[.slice none 0 0] 29)
  have kD := b3.one.alloc (.cells #[.slice none 0 0] 29)
  have kx := b4.one.alloc (.cells #[.slice none 0 0] 29)
  have ky := Blk1.new W3 29 (.slice none 0 0)
  rw [hs3] at ky
  have hB := b1.alloc b1.size (.cells #[.slice none 0 0] 29)
  clear b1 b2 b3 b4 b5 hW3 hs3
  generalize W3.alloc (.cells #[.slice none 0 0] 29) = W4 at *
  obtain ⟨p, hp⟩ : ∃ p, w.heap.size = p := ⟨_, rfl⟩
  have hpw : w.heap.size ≤ p := by omega
  refine (HO.out _ hB).mono ?_
  rw [hp] at kA kD kx ky ⊢
  clear hp
  rintro e w1 ⟨A1, n1, c1, rfl, hg1, hb⟩
  obtain ⟨d1, d2, d3⟩ := box1 w1 29 #[.slice A1 n1 c1]
  have hbb := keep_below hb d1
  have kA := kA.keep hbb
  have kD := kD.keep hbb
  have kx := kx.keep hbb
  have ky := ky.keep hbb
  have hB := keep_below hB hbb
  have hg1 := hg1.below d1
  have kg := d2.one
  clear d1 d2 d3 hb hbb
  have e1 := kA.cell
  have e2 := kg.cell
  go_wp2_with fail
  generalize hW5 : w1.alloc (.cells #[.slice A1 n1 c1] 29) = W5 at *
  generalize w1.heap.size = z1 at *
  clear hW5
  refine (HDA.out _ hB A1 n1 c1 hg1).mono ?_
  clear e1 e2
  rintro e w2 ⟨A2, n2, c2, rfl, hx2, hb⟩
  have hz2 := (ky.keep hb).lt
  obtain ⟨d1, d2, d3⟩ := box1 w2 29 #[.slice A2 n2 c2]
  have hbb := keep_below hb d1
  have kD := kD.keep hbb
  have kx := kx.keep hbb
  have ky := ky.keep hbb
  have kg := kg.keep hbb
  have hB := keep_below hB hbb
  have hg1 := hg1.below hbb
  have hx2 := hx2.below d1
  have k7 := d2.one
  clear d1 d2 d3 hb hbb kA
  have e1 := kD.cell
  have e2 := kg.cell
  go_wp2_with fail
  generalize hW6 : w2.alloc (.cells #[.slice A2 n2 c2] 29) = W6 at *
  generalize w2.heap.size = z2 at *
  clear hW6
  refine (HDB.out _ hB A1 n1 c1 hg1).mono ?_
  clear e1 e2
  rintro e w3 ⟨A3, n3, c3, rfl, hy3, hb⟩
  have hz3 := (ky.keep hb).lt
  obtain ⟨d1, d2, d3⟩ := box1 w3 29 #[.slice A3 n3 c3]
  have hbb := keep_below hb d1
  have kx := kx.keep hbb
  have ky := ky.keep hbb
  have k7 := k7.keep hbb
  have hB := keep_below hB hbb
  have hx2 := hx2.below hbb
  have hy3 := hy3.below d1
  have k9 := d2.one
  clear d1 d2 d3 hb hbb kD kg hg1
  go_wp2_with fail
  generalize hW7 : w3.alloc (.cells #[.slice A3 n3 c3] 29) = W7 at *
  generalize w3.heap.size = z3 at *
  clear hW7
  have q7 : W7.cell? ⟨z2, 0, none⟩ = some (.slice A2 n2 c2) := k7.cell
  have q9 : W7.cell? ⟨z3, 0, none⟩ = some (.slice A3 n3 c3) := k9.cell
  have qx : W7.cell? ⟨p + 1 + 1, 0, none⟩ = some (.slice none 0 0) := kx.cell
  have qy : W7.cell? ⟨p + 1 + 1 + 1, 0, none⟩ = some (.slice none 0 0) := ky.cell
  have fx : W7.frozen? ⟨p + 1 + 1, 0, none⟩ = false := kx.frozen
  have fy : W7.frozen? ⟨p + 1 + 1 + 1, 0, none⟩ = false := ky.frozen
  have q9' := keep_cell_set (q := ⟨p + 1 + 1, 0, none⟩) (.slice A2 n2 c2) (by show z3 ≠ p + 1 + 1; omega) q9
  have kx1 := kx.set_ (.slice A2 n2 c2)
  have ky1 := ky.far (p := ⟨p + 1 + 1, 0, none⟩) (by show p + 1 + 1 + 1 ≠ p + 1 + 1; omega) (.slice A2 n2 c2)
  have qy' := ky1.cell
  have fy' := ky1.frozen
  have hx4 := words_set_blk1 hx2 kx (.slice A2 n2 c2)
  have hy4 := words_set_blk1 hy3 kx (.slice A2 n2 c2)
  have rx := (kx1.far (p := ⟨p + 1 + 1 + 1, 0, none⟩) (by show p + 1 + 1 ≠ p + 1 + 1 + 1; omega) (.slice A3 n3 c3)).cell
  have ry := (ky1.set_ (.slice A3 n3 c3)).cell
  have HE : Hid (GivesNN w X Y (.returned (.tuple #[.agg #[.slice A2 n2 c2], .agg #[.slice A3 n3 c3]])) ((W7.setCell ⟨p + 1 + 1, 0, none⟩ (.slice A2 n2 c2)).setCell ⟨p + 1 + 1 + 1, 0, none⟩ (.slice A3 n3 c3)).drew) :=
    ⟨_, _, _, _, _, _, rfl, words_set_blk1 hx4 ky1 _, words_set_blk1 hy4 ky1 _, (hB.setCell (p := ⟨p + 1 + 1, 0, none⟩) (by show w.heap.size ≤ p + 1 + 1; omega) _).setCell (p := ⟨p + 1 + 1 + 1, 0, none⟩) (by show w.heap.size ≤ p + 1 + 1 + 1; omega) _ |>.drew⟩
  clear k7 k9 kx ky hB hx2 hy3 kx1 ky1 hx4 hy4
  go_region
  all_goals
    go_wp2
    refine bodyPost_ret (v := .tuple #[.agg #[.slice A2 n2 c2], .agg #[.slice A3 n3 c3]]) (by simp [results, Tryd.results21, go_sem, rx, ry]) rfl ?_
    exact HE.out
end Go.Proofs.YtplgbokgfphjaaaDoor
namespace Go.Proofs.YtplgbokgfphjaaaDoor
open Go Go.RowKit
set_option maxRecDepth 100000
set_option linter.unusedVariables false
set_option linter.unusedSimpArgs false
theorem Sz.of_words {w : World} {x K n c : Nat} {A : Option Addr} (h : WordsIn w x A n c) (hn : n ≤ K) : Sz K x := by
  have h1 := dg_lt (b := 18446744073709551616) (by decide) x
  rw [h.len] at h1
  exact Nat.lt_of_lt_of_le h1 (Nat.pow_le_pow_right (by decide) hn)
theorem lcm_way (x y : Nat) : x / Nat.gcd x y * y = Nat.lcm x y := by
  unfold Nat.lcm
  exact Nat.div_mul_right_comm (Nat.gcd_dvd_left x y) y
set_option maxHeartbeats 8000000 in
theorem gcd_lcm_yes (x y : Nat) (B1 B2 : Option Addr) (m1 m2 d1 d2 : Nat) (w : World) (hA : WordsIn w x B1 m1 d1) (hD : WordsIn w y B2 m2 d2) (hn : m1 ≤ 1073741824) (hm : m2 ≤ 1073741824) (hT : TabAt w) (hbb : decide (Nat.gcd x y ≠ 0) = true) :
    Calls Tryd.prog 22 #[.agg #[.slice B1 m1 d1], .agg #[.slice B2 m2 d2]] w (GivesNW w (Nat.lcm x y)) := by
  have HTB := Lib.hid (fun w' (h : Below w.heap.size w w') => hT.on h)
  have HBB := Lib.hid hbb
  have HZ1 := Lib.hid (show Sz 1073741824 x from Sz.of_words hA hn)
  have HZ2 := Lib.hid (show Sz 1073741824 y from Sz.of_words hD hm)
  have HA := Lib.hid hA
  have HD := Lib.hid hD
  clear hT hA hD hbb
  go_enter Tryd.func22, Tryd.ntmps22
  go_wp2_with fail
  obtain ⟨hB, b2, b3, k5, b5⟩ := box3 w 29 29 29 #[.slice B1 m1 d1] #[.slice B2 m2 d2] #[.slice none 0 0]
  generalize hW : ((w.alloc (.cells #[.slice B1 m1 d1] 29)).alloc (.cells #[.slice B2 m2 d2] 29)).alloc (.cells #[.slice none 0 0] 29) = W0 at *
  obtain ⟨p, hp⟩ : ∃ p, w.heap.size = p := ⟨_, rfl⟩
  have hpw : w.heap.size ≤ p := by omega
  have g3 : W0.cell? ⟨p, 0, none⟩ = some (.slice B1 m1 d1) := by rw [← hp]; exact b2.cell 0
  have g4 : W0.cell? ⟨p + 1, 0, none⟩ = some (.slice B2 m2 d2) := by rw [← hp]; exact b3.cell 0
  rw [hp] at k5 ⊢
  have HN1 := Lib.hid (HA.out.below hB)
  have HN2 := Lib.hid (HD.out.below hB)
  clear hp hW b2 b3 b5 HA HD
  go_wp2_with fail
  have HZ11 : Hid (Sz (1073741824 + 1073741824) (Nat.gcd x y)) := Sz.gcd HZ1.out HZ2.out
  have C0 := Lib.hid (fun w' (h : Below W0.heap.size W0 w') => gcd_of (x) (y) B1 B2 m1 m2 d1 d2 w' (HN1.out.below h) (HN2.out.below h) hn hm (HTB.out _ (keep_below hB h)))
  have HZ12 : Hid (Sz (1073741824) (x / (Nat.gcd x y))) := Sz.of_le HZ1.out (Nat.div_le_self _ _)
  have C1 := Lib.hid (fun w' (h : Below W0.heap.size W0 w') B11 m11 d11 (hw11 : WordsIn w' (Nat.gcd x y) B11 m11 d11) => HBB.out ▸ quot_div_all (x) (Nat.gcd x y) B1 B11 m1 m11 d1 d11 w' (HN1.out.below h) hw11 (by have := Sz.words HZ1.out HN1.out; omega) (by have := Sz.words HZ11.out hw11; omega))
  have lt0 : p < W0.heap.size := World.block_lt_of_cell? W0 ⟨p, 0, none⟩ g3
  have lt1 : p + 1 < W0.heap.size := World.block_lt_of_cell? W0 ⟨p + 1, 0, none⟩ g4
  go_cut [5, 6] (fun s5 s6 wx => ∃ (g0 : Nat) (B12 : Option Addr) (m12 d12 : Nat), s5 = .pointer (some ⟨g0, 0, none⟩) ∧ s6 = .bool true ∧ wx.cell? ⟨g0, 0, none⟩ = some (.slice B12 m12 d12) ∧ WordsIn wx (x / (Nat.gcd x y)) B12 m12 d12 ∧ Below W0.heap.size W0 wx)
  case first =>
    have hb0 : Below W0.heap.size W0 W0.drew := (Below.refl _ W0).drew
    have hbr := Below.refl W0.heap.size W0
    have j0 : W0.drew.cell? ⟨p, 0, none⟩ = some (.slice B1 m1 d1) := g3
    have j1 : W0.drew.cell? ⟨p + 1, 0, none⟩ = some (.slice B2 m2 d2) := g4
    go_region_held3 (fun w' => Below W0.heap.size W0 w' ∧ w'.cell? ⟨p, 0, none⟩ = some (.slice B1 m1 d1) ∧ w'.cell? ⟨p + 1, 0, none⟩ = some (.slice B2 m2 d2))
      (first | (with_reducible exact ⟨hb0, j0, j1⟩) | (go_split_ands; (repeat' apply And.intro); all_goals (first | with_reducible assumption | with_reducible exact keep_below (by with_reducible assumption) hb | with_reducible exact keep_cell hb (by with_reducible assumption) | with_reducible exact keep_below_alloc _ (by with_reducible assumption) | with_reducible exact keep_cell_alloc _ (by with_reducible assumption) | with_reducible exact keep_below_alloc _ (keep_below_alloc _ (by with_reducible assumption)) | with_reducible exact keep_cell_alloc _ (keep_cell_alloc _ (by with_reducible assumption)) | with_reducible exact keep_below_alloc _ (keep_below_alloc _ (keep_below_alloc _ (by with_reducible assumption))) | with_reducible exact keep_cell_alloc _ (keep_cell_alloc _ (keep_cell_alloc _ (by with_reducible assumption))) | with_reducible exact keep_below_drew (keep_below_alloc _ (by with_reducible assumption)) | with_reducible exact keep_cell_drew (keep_cell_alloc _ (by with_reducible assumption)) | with_reducible exact keep_below_drew (keep_below_alloc _ (keep_below_alloc _ (by with_reducible assumption))) | with_reducible exact keep_cell_drew (keep_cell_alloc _ (keep_cell_alloc _ (by with_reducible assumption))) | with_reducible exact keep_below_set _ (by first | (simp; done) | (simp; omega)) (by with_reducible assumption) | with_reducible exact keep_cell_set _ (by first | (simp; done) | (simp; omega)) (by with_reducible assumption) | ((repeat (first | with_reducible assumption | with_reducible refine keep_below_set _ (by first | omega | (simp; done) | (simp; omega)) ?_ | with_reducible refine keep_below_alloc _ ?_ | with_reducible refine keep_below_drew ?_)); done) | ((repeat (first | with_reducible assumption | with_reducible refine keep_cell_set _ (by first | omega | (simp; done) | (simp; omega)) ?_ | with_reducible refine keep_cell_alloc _ ?_ | with_reducible refine keep_cell_drew ?_)); done))))
      (first
        | (go_at_call 14; (with_reducible refine (C0.out _ (by first | with_reducible assumption | exact And.left (by with_reducible assumption))).mono ?_); rintro e wa2 ⟨B11, m11, d11, rfl, hw11, hb⟩; (try (have hzl := hz1.lt)); (first | ((first | (with_reducible have hz2 := Blk1.keep hz2 hb) | (with_reducible have hz2 := Blk1.keep (hz2.alloc _) hb) | (with_reducible have hz2 := Blk1.keep ((hz2.alloc _).alloc _) hb) | (with_reducible have hz2 := Blk1.keep (((hz2.alloc _).alloc _).alloc _) hb)); (first | (with_reducible have hz1 := Blk1.keep hz1 hb) | (with_reducible have hz1 := Blk1.keep (hz1.alloc _) hb) | (with_reducible have hz1 := Blk1.keep ((hz1.alloc _).alloc _) hb) | (with_reducible have hz1 := Blk1.keep (((hz1.alloc _).alloc _).alloc _) hb))) | ((first | ((with_reducible have hz2 := Blk1.keep (Blk1.new _ _ _) hb); have hz2 : Blk1 _ _ (Value.slice none 0 0) := hz2) | ((with_reducible have hz2 := Blk1.keep ((Blk1.new _ _ _).alloc _) hb); have hz2 : Blk1 _ _ (Value.slice none 0 0) := hz2) | ((with_reducible have hz2 := Blk1.keep (((Blk1.new _ _ _).alloc _).alloc _) hb); have hz2 : Blk1 _ _ (Value.slice none 0 0) := hz2) | ((with_reducible have hz2 := Blk1.keep ((Blk1.new _ _ _).drew) hb); have hz2 : Blk1 _ _ (Value.slice none 0 0) := hz2) | ((with_reducible have hz2 := Blk1.keep (((Blk1.new _ _ _).alloc _).drew) hb); have hz2 : Blk1 _ _ (Value.slice none 0 0) := hz2) | ((with_reducible have hz2 := Blk1.keep ((((Blk1.new _ _ _).alloc _).alloc _).drew) hb); have hz2 : Blk1 _ _ (Value.slice none 0 0) := hz2)); (first | (with_reducible have hz1 := Blk1.keep hz1 hb) | (with_reducible have hz1 := Blk1.keep (hz1.alloc _) hb) | (with_reducible have hz1 := Blk1.keep ((hz1.alloc _).alloc _) hb) | (with_reducible have hz1 := Blk1.keep (((hz1.alloc _).alloc _).alloc _) hb))) | (first | (with_reducible have hz1 := Blk1.keep hz1 hb) | (with_reducible have hz1 := Blk1.keep (hz1.alloc _) hb) | (with_reducible have hz1 := Blk1.keep ((hz1.alloc _).alloc _) hb) | (with_reducible have hz1 := Blk1.keep (((hz1.alloc _).alloc _).alloc _) hb)) | (first | ((with_reducible have hz2 := Blk1.keep (Blk1.new _ _ _) hb); have hz2 : Blk1 _ _ (Value.slice none 0 0) := hz2; (with_reducible have hz1 := Blk1.keep ((Blk1.new _ _ _).alloc _) hb); have hz1 : Blk1 _ _ (Value.slice none 0 0) := hz1) | ((with_reducible have hz2 := Blk1.keep (Blk1.new _ _ _) hb); have hz2 : Blk1 _ _ (Value.slice none 0 0) := hz2; (with_reducible have hz1 := Blk1.keep (((Blk1.new _ _ _).alloc _).alloc _) hb); have hz1 : Blk1 _ _ (Value.slice none 0 0) := hz1) | ((with_reducible have hz2 := Blk1.keep ((Blk1.new _ _ _).alloc _) hb); have hz2 : Blk1 _ _ (Value.slice none 0 0) := hz2; (with_reducible have hz1 := Blk1.keep (((Blk1.new _ _ _).alloc _).alloc _) hb); have hz1 : Blk1 _ _ (Value.slice none 0 0) := hz1) | ((with_reducible have hz2 := Blk1.keep ((Blk1.new _ _ _).drew) hb); have hz2 : Blk1 _ _ (Value.slice none 0 0) := hz2; (with_reducible have hz1 := Blk1.keep (((Blk1.new _ _ _).alloc _).drew) hb); have hz1 : Blk1 _ _ (Value.slice none 0 0) := hz1) | ((with_reducible have hz2 := Blk1.keep ((Blk1.new _ _ _).drew) hb); have hz2 : Blk1 _ _ (Value.slice none 0 0) := hz2; (with_reducible have hz1 := Blk1.keep ((((Blk1.new _ _ _).alloc _).alloc _).drew) hb); have hz1 : Blk1 _ _ (Value.slice none 0 0) := hz1) | ((with_reducible have hz2 := Blk1.keep (((Blk1.new _ _ _).alloc _).drew) hb); have hz2 : Blk1 _ _ (Value.slice none 0 0) := hz2; (with_reducible have hz1 := Blk1.keep ((((Blk1.new _ _ _).alloc _).alloc _).drew) hb); have hz1 : Blk1 _ _ (Value.slice none 0 0) := hz1)) | (first | ((with_reducible have hz1 := Blk1.keep (Blk1.new _ _ _) hb); have hz1 : Blk1 _ _ (Value.slice none 0 0) := hz1) | ((with_reducible have hz1 := Blk1.keep ((Blk1.new _ _ _).alloc _) hb); have hz1 : Blk1 _ _ (Value.slice none 0 0) := hz1) | ((with_reducible have hz1 := Blk1.keep (((Blk1.new _ _ _).alloc _).alloc _) hb); have hz1 : Blk1 _ _ (Value.slice none 0 0) := hz1) | ((with_reducible have hz1 := Blk1.keep ((Blk1.new _ _ _).drew) hb); have hz1 : Blk1 _ _ (Value.slice none 0 0) := hz1) | ((with_reducible have hz1 := Blk1.keep (((Blk1.new _ _ _).alloc _).drew) hb); have hz1 : Blk1 _ _ (Value.slice none 0 0) := hz1) | ((with_reducible have hz1 := Blk1.keep ((((Blk1.new _ _ _).alloc _).alloc _).drew) hb); have hz1 : Blk1 _ _ (Value.slice none 0 0) := hz1)) | skip); (try simp only [alloc_size, drew_size] at hz1); (try simp only [alloc_size, drew_size] at hz2); (try (have hzc1 := hz1.cell; have hzf1 := hz1.frozen; have hzo1 := fun o => (hz1.alloc o).cell; have hzp1 := fun o => (hz1.alloc o).frozen)); (try (have hzc2 := hz2.cell; have hzf2 := hz2.frozen; have hzo2 := fun o => (hz2.alloc o).cell; have hzp2 := fun o => (hz2.alloc o).frozen)); (try (have hzl1 := hz1.lt)); (try (have hzq := two_set hz1 hz2 (by first | omega | (simp; done) | (simp; omega)); obtain ⟨hzq1, hzq2, hzq3, hzq4⟩ := hzq)); (try (have hzt := fun t => two_set (Blk1.alloc hz1 (.cells #[Value.slice none 0 0] t)) (Blk1.new _ t (Value.slice none 0 0)) (by first | omega | (simp; done) | (simp; omega)))); go_split_ands; have hBw : Below W0.heap.size W0 wa2 := keep_below (by with_reducible assumption) hb; have gw0 : wa2.cell? ⟨p, 0, none⟩ = some (.slice B1 m1 d1) := keep_cell hb (by with_reducible assumption); have gw1 : wa2.cell? ⟨p + 1, 0, none⟩ = some (.slice B2 m2 d2) := keep_cell hb (by with_reducible assumption))
        | (go_at_call 49; (first | (with_reducible refine (C1.out _ (by first | with_reducible assumption | exact And.left (by with_reducible assumption)) _ _ _ hw11).mono ?_) | (with_reducible refine (C1.out _ (by first | with_reducible assumption | exact And.left (by with_reducible assumption)) _ _ _ (hw11.below (up_alloc _ _))).mono ?_) | (with_reducible refine (C1.out _ (by first | with_reducible assumption | exact And.left (by with_reducible assumption)) _ _ _ ((hw11.below (up_alloc _ _)).below (up_alloc _ _))).mono ?_)); rintro e wa3 ⟨B12, m12, d12, rfl, hw12, hb⟩; (try have hzs1 := hBw.size); (try (have hzl := hz1.lt)); (first | ((first | (with_reducible have hz2 := Blk1.keep hz2 hb) | (with_reducible have hz2 := Blk1.keep (hz2.alloc _) hb) | (with_reducible have hz2 := Blk1.keep ((hz2.alloc _).alloc _) hb) | (with_reducible have hz2 := Blk1.keep (((hz2.alloc _).alloc _).alloc _) hb)); (first | (with_reducible have hz1 := Blk1.keep hz1 hb) | (with_reducible have hz1 := Blk1.keep (hz1.alloc _) hb) | (with_reducible have hz1 := Blk1.keep ((hz1.alloc _).alloc _) hb) | (with_reducible have hz1 := Blk1.keep (((hz1.alloc _).alloc _).alloc _) hb))) | ((first | ((with_reducible have hz2 := Blk1.keep (Blk1.new _ _ _) hb); have hz2 : Blk1 _ _ (Value.slice none 0 0) := hz2) | ((with_reducible have hz2 := Blk1.keep ((Blk1.new _ _ _).alloc _) hb); have hz2 : Blk1 _ _ (Value.slice none 0 0) := hz2) | ((with_reducible have hz2 := Blk1.keep (((Blk1.new _ _ _).alloc _).alloc _) hb); have hz2 : Blk1 _ _ (Value.slice none 0 0) := hz2) | ((with_reducible have hz2 := Blk1.keep ((Blk1.new _ _ _).drew) hb); have hz2 : Blk1 _ _ (Value.slice none 0 0) := hz2) | ((with_reducible have hz2 := Blk1.keep (((Blk1.new _ _ _).alloc _).drew) hb); have hz2 : Blk1 _ _ (Value.slice none 0 0) := hz2) | ((with_reducible have hz2 := Blk1.keep ((((Blk1.new _ _ _).alloc _).alloc _).drew) hb); have hz2 : Blk1 _ _ (Value.slice none 0 0) := hz2)); (first | (with_reducible have hz1 := Blk1.keep hz1 hb) | (with_reducible have hz1 := Blk1.keep (hz1.alloc _) hb) | (with_reducible have hz1 := Blk1.keep ((hz1.alloc _).alloc _) hb) | (with_reducible have hz1 := Blk1.keep (((hz1.alloc _).alloc _).alloc _) hb))) | (first | (with_reducible have hz1 := Blk1.keep hz1 hb) | (with_reducible have hz1 := Blk1.keep (hz1.alloc _) hb) | (with_reducible have hz1 := Blk1.keep ((hz1.alloc _).alloc _) hb) | (with_reducible have hz1 := Blk1.keep (((hz1.alloc _).alloc _).alloc _) hb)) | (first | ((with_reducible have hz2 := Blk1.keep (Blk1.new _ _ _) hb); have hz2 : Blk1 _ _ (Value.slice none 0 0) := hz2; (with_reducible have hz1 := Blk1.keep ((Blk1.new _ _ _).alloc _) hb); have hz1 : Blk1 _ _ (Value.slice none 0 0) := hz1) | ((with_reducible have hz2 := Blk1.keep (Blk1.new _ _ _) hb); have hz2 : Blk1 _ _ (Value.slice none 0 0) := hz2; (with_reducible have hz1 := Blk1.keep (((Blk1.new _ _ _).alloc _).alloc _) hb); have hz1 : Blk1 _ _ (Value.slice none 0 0) := hz1) | ((with_reducible have hz2 := Blk1.keep ((Blk1.new _ _ _).alloc _) hb); have hz2 : Blk1 _ _ (Value.slice none 0 0) := hz2; (with_reducible have hz1 := Blk1.keep (((Blk1.new _ _ _).alloc _).alloc _) hb); have hz1 : Blk1 _ _ (Value.slice none 0 0) := hz1) | ((with_reducible have hz2 := Blk1.keep ((Blk1.new _ _ _).drew) hb); have hz2 : Blk1 _ _ (Value.slice none 0 0) := hz2; (with_reducible have hz1 := Blk1.keep (((Blk1.new _ _ _).alloc _).drew) hb); have hz1 : Blk1 _ _ (Value.slice none 0 0) := hz1) | ((with_reducible have hz2 := Blk1.keep ((Blk1.new _ _ _).drew) hb); have hz2 : Blk1 _ _ (Value.slice none 0 0) := hz2; (with_reducible have hz1 := Blk1.keep ((((Blk1.new _ _ _).alloc _).alloc _).drew) hb); have hz1 : Blk1 _ _ (Value.slice none 0 0) := hz1) | ((with_reducible have hz2 := Blk1.keep (((Blk1.new _ _ _).alloc _).drew) hb); have hz2 : Blk1 _ _ (Value.slice none 0 0) := hz2; (with_reducible have hz1 := Blk1.keep ((((Blk1.new _ _ _).alloc _).alloc _).drew) hb); have hz1 : Blk1 _ _ (Value.slice none 0 0) := hz1)) | (first | ((with_reducible have hz1 := Blk1.keep (Blk1.new _ _ _) hb); have hz1 : Blk1 _ _ (Value.slice none 0 0) := hz1) | ((with_reducible have hz1 := Blk1.keep ((Blk1.new _ _ _).alloc _) hb); have hz1 : Blk1 _ _ (Value.slice none 0 0) := hz1) | ((with_reducible have hz1 := Blk1.keep (((Blk1.new _ _ _).alloc _).alloc _) hb); have hz1 : Blk1 _ _ (Value.slice none 0 0) := hz1) | ((with_reducible have hz1 := Blk1.keep ((Blk1.new _ _ _).drew) hb); have hz1 : Blk1 _ _ (Value.slice none 0 0) := hz1) | ((with_reducible have hz1 := Blk1.keep (((Blk1.new _ _ _).alloc _).drew) hb); have hz1 : Blk1 _ _ (Value.slice none 0 0) := hz1) | ((with_reducible have hz1 := Blk1.keep ((((Blk1.new _ _ _).alloc _).alloc _).drew) hb); have hz1 : Blk1 _ _ (Value.slice none 0 0) := hz1)) | skip); (try simp only [alloc_size, drew_size] at hz1); (try simp only [alloc_size, drew_size] at hz2); (try (have hzc1 := hz1.cell; have hzf1 := hz1.frozen; have hzo1 := fun o => (hz1.alloc o).cell; have hzp1 := fun o => (hz1.alloc o).frozen)); (try (have hzc2 := hz2.cell; have hzf2 := hz2.frozen; have hzo2 := fun o => (hz2.alloc o).cell; have hzp2 := fun o => (hz2.alloc o).frozen)); (try (have hzl1 := hz1.lt)); (try (have hzq := two_set hz1 hz2 (by first | omega | (simp; done) | (simp; omega)); obtain ⟨hzq1, hzq2, hzq3, hzq4⟩ := hzq)); (try (have hzt := fun t => two_set (Blk1.alloc hz1 (.cells #[Value.slice none 0 0] t)) (Blk1.new _ t (Value.slice none 0 0)) (by first | omega | (simp; done) | (simp; omega)))); go_split_ands; have hBw : Below W0.heap.size W0 wa3 := keep_below (by with_reducible assumption) hb; have gw0 : wa3.cell? ⟨p, 0, none⟩ = some (.slice B1 m1 d1) := keep_cell hb (by with_reducible assumption); have gw1 : wa3.cell? ⟨p + 1, 0, none⟩ = some (.slice B2 m2 d2) := keep_cell hb (by with_reducible assumption); (first | (with_reducible have hw11 := WordsIn.below hw11 hb) | (with_reducible have hw11 := WordsIn.below (WordsIn.below hw11 (up_alloc _ _)) hb) | (with_reducible have hw11 := WordsIn.below (WordsIn.below (WordsIn.below hw11 (up_alloc _ _)) (up_alloc _ _)) hb))))
    all_goals (go_wp2_with fail; go_meet)
    all_goals (
      (with_reducible refine ⟨_, B12, m12, d12, rfl, rfl, (Blk1.cell ?_), ?_, ?_⟩)
      · ((repeat (first | (first | with_reducible exact hz1 | with_reducible exact hz2 | with_reducible exact Blk1.new _ _ _ | with_reducible refine Blk1.newAt (by first | rfl | (simp; done))) | with_reducible refine Blk1.set_ (v := .slice none 0 0) ?_ _ | with_reducible refine Blk1.far ?_ (by first | (simp; done) | (simp; omega)) _ | with_reducible refine Blk1.alloc ?_ _)))
      · (repeat (first | (first | with_reducible exact hw12) | with_reducible refine WordsIn.below ?_ (up_alloc _ _) | with_reducible refine words_set_blk1 (a := none) (b := 0) (d := 0) ?_ (by ((repeat (first | (first | with_reducible exact hz1 | with_reducible exact hz2 | with_reducible exact Blk1.new _ _ _ | with_reducible refine Blk1.newAt (by first | rfl | (simp; done))) | with_reducible refine Blk1.set_ (v := .slice none 0 0) ?_ _ | with_reducible refine Blk1.far ?_ (by first | (simp; done) | (simp; omega)) _ | with_reducible refine Blk1.alloc ?_ _)))) _))
      · (repeat (first | with_reducible exact hBw | with_reducible refine keep_below_alloc _ ?_ | with_reducible refine keep_below_set _ (by first | (simp; done) | (simp; omega)) ?_)))
  case rest =>
    obtain ⟨ga13, B12, m12, d12, rfl, rfl, gc0, hw12, hb⟩ := hcut
    obtain ⟨wk4, hwq⟩ : ∃ x, x = wc := ⟨_, rfl⟩
    subst hwq
    have hB := keep_below hB hb
    have g3 := keep_cell hb g3
    have g4 := keep_cell hb g4
    have k5 := keep_blk hb k5
    have HN1 := Lib.hid (HN1.out.below hb)
    have HN2 := Lib.hid (HN2.out.below hb)
    have g13 := gc0
    have HN12 := Lib.hid hw12
    clear hb gc0 hw12
    have HM := Lib.hid (prod_mul (x / (Nat.gcd x y)) y B12 B2 m12 m2 d12 d2 wk4 HN12.out HN2.out (by have := Sz.words HZ12.out HN12.out; omega) (by omega))
    have HLC : Hid ((x / (Nat.gcd x y)) * y = Nat.lcm x y) := lcm_way x y
    have hbz := k5.lt
    go_wp2_with fail
    refine HM.out.mono ?_
    rintro e w9 ⟨A9, n9, c9, rfl, hw9, hb9, _⟩
    rw [HLC.out] at hw9
    have kr := (keep_blk hb9 k5).one
    have hB9 := keep_below hB hb9
    have e9 := kr.cell
    have f9 := kr.frozen
    have r9 := (kr.set_ (.slice A9 n9 c9)).cell
    have HE : Hid (GivesNW w (Nat.lcm x y) (.returned (.agg #[.slice A9 n9 c9])) (w9.setCell ⟨p + 1 + 1, 0, none⟩ (.slice A9 n9 c9))) := ⟨_, _, _, rfl, words_set_blk1 hw9 kr _, hB9.setCell (p := ⟨p + 1 + 1, 0, none⟩) (by show w.heap.size ≤ p + 1 + 1; omega) _⟩
    clear kr hw9 hB9 hb9 HM
    go_wp2
    refine bodyPost_ret (v := .agg #[.slice A9 n9 c9]) (by simp [results, Tryd.results22, go_sem, r9]) rfl ?_
    exact HE.out
set_option maxHeartbeats 8000000 in
theorem gcd_lcm_no (x y : Nat) (B1 B2 : Option Addr) (m1 m2 d1 d2 : Nat) (w : World) (hA : WordsIn w x B1 m1 d1) (hD : WordsIn w y B2 m2 d2) (hn : m1 ≤ 1073741824) (hm : m2 ≤ 1073741824) (hT : TabAt w) (hbb : decide (Nat.gcd x y ≠ 0) = false) :
    Calls Tryd.prog 22 #[.agg #[.slice B1 m1 d1], .agg #[.slice B2 m2 d2]] w (GivesNW w (Nat.lcm x y)) := by
  have HTB := Lib.hid (fun w' (h : Below w.heap.size w w') => hT.on h)
  have HBB := Lib.hid hbb
  have HZ1 := Lib.hid (show Sz 1073741824 x from Sz.of_words hA hn)
  have HZ2 := Lib.hid (show Sz 1073741824 y from Sz.of_words hD hm)
  have HA := Lib.hid hA
  have HD := Lib.hid hD
  clear hT hA hD hbb
  go_enter Tryd.func22, Tryd.ntmps22
  go_wp2_with fail
  obtain ⟨hB, b2, b3, k5, b5⟩ := box3 w 29 29 29 #[.slice B1 m1 d1] #[.slice B2 m2 d2] #[.slice none 0 0]
  generalize hW : ((w.alloc (.cells #[.slice B1 m1 d1] 29)).alloc (.cells #[.slice B2 m2 d2] 29)).alloc (.cells #[.slice none 0 0] 29) = W0 at *
  obtain ⟨p, hp⟩ : ∃ p, w.heap.size = p := ⟨_, rfl⟩
  have hpw : w.heap.size ≤ p := by omega
  have g3 : W0.cell? ⟨p, 0, none⟩ = some (.slice B1 m1 d1) := by rw [← hp]; exact b2.cell 0
  have g4 : W0.cell? ⟨p + 1, 0, none⟩ = some (.slice B2 m2 d2) := by rw [← hp]; exact b3.cell 0
  rw [hp] at k5 ⊢
  have HN1 := Lib.hid (HA.out.below hB)
  have HN2 := Lib.hid (HD.out.below hB)
  clear hp hW b2 b3 b5 HA HD
  go_wp2_with fail
  have HZ11 : Hid (Sz (1073741824 + 1073741824) (Nat.gcd x y)) := Sz.gcd HZ1.out HZ2.out
  have C0 := Lib.hid (fun w' (h : Below W0.heap.size W0 w') => gcd_of (x) (y) B1 B2 m1 m2 d1 d2 w' (HN1.out.below h) (HN2.out.below h) hn hm (HTB.out _ (keep_below hB h)))
  have HZ12 : Hid (Sz (1073741824) (x / (Nat.gcd x y))) := Sz.of_le HZ1.out (Nat.div_le_self _ _)
  have C1 := Lib.hid (fun w' (h : Below W0.heap.size W0 w') B11 m11 d11 (hw11 : WordsIn w' (Nat.gcd x y) B11 m11 d11) => HBB.out ▸ quot_div_all (x) (Nat.gcd x y) B1 B11 m1 m11 d1 d11 w' (HN1.out.below h) hw11 (by have := Sz.words HZ1.out HN1.out; omega) (by have := Sz.words HZ11.out hw11; omega))
  have lt0 : p < W0.heap.size := World.block_lt_of_cell? W0 ⟨p, 0, none⟩ g3
  have lt1 : p + 1 < W0.heap.size := World.block_lt_of_cell? W0 ⟨p + 1, 0, none⟩ g4
  go_cut [5, 6] (fun s5 s6 wx => ∃ (g0 : Nat) (B12 : Option Addr) (m12 d12 : Nat), s5 = .pointer (some ⟨g0, 0, none⟩) ∧ s6 = .bool false ∧ wx.cell? ⟨g0, 0, none⟩ = some (.slice B12 m12 d12) ∧ WordsIn wx (x / (Nat.gcd x y)) B12 m12 d12 ∧ Below W0.heap.size W0 wx)
  case first =>
    have hb0 : Below W0.heap.size W0 W0.drew := (Below.refl _ W0).drew
    have hbr := Below.refl W0.heap.size W0
    have j0 : W0.drew.cell? ⟨p, 0, none⟩ = some (.slice B1 m1 d1) := g3
    have j1 : W0.drew.cell? ⟨p + 1, 0, none⟩ = some (.slice B2 m2 d2) := g4
    go_region_held3 (fun w' => Below W0.heap.size W0 w' ∧ w'.cell? ⟨p, 0, none⟩ = some (.slice B1 m1 d1) ∧ w'.cell? ⟨p + 1, 0, none⟩ = some (.slice B2 m2 d2))
      (first | (with_reducible exact ⟨hb0, j0, j1⟩) | (go_split_ands; (repeat' apply And.intro); all_goals (first | with_reducible assumption | with_reducible exact keep_below (by with_reducible assumption) hb | with_reducible exact keep_cell hb (by with_reducible assumption) | with_reducible exact keep_below_alloc _ (by with_reducible assumption) | with_reducible exact keep_cell_alloc _ (by with_reducible assumption) | with_reducible exact keep_below_alloc _ (keep_below_alloc _ (by with_reducible assumption)) | with_reducible exact keep_cell_alloc _ (keep_cell_alloc _ (by with_reducible assumption)) | with_reducible exact keep_below_alloc _ (keep_below_alloc _ (keep_below_alloc _ (by with_reducible assumption))) | with_reducible exact keep_cell_alloc _ (keep_cell_alloc _ (keep_cell_alloc _ (by with_reducible assumption))) | with_reducible exact keep_below_drew (keep_below_alloc _ (by with_reducible assumption)) | with_reducible exact keep_cell_drew (keep_cell_alloc _ (by with_reducible assumption)) | with_reducible exact keep_below_drew (keep_below_alloc _ (keep_below_alloc _ (by with_reducible assumption))) | with_reducible exact keep_cell_drew (keep_cell_alloc _ (keep_cell_alloc _ (by with_reducible assumption))) | with_reducible exact keep_below_set _ (by first | (simp; done) | (simp; omega)) (by with_reducible assumption) | with_reducible exact keep_cell_set _ (by first | (simp; done) | (simp; omega)) (by with_reducible assumption) | ((repeat (first | with_reducible assumption | with_reducible refine keep_below_set _ (by first | omega | (simp; done) | (simp; omega)) ?_ | with_reducible refine keep_below_alloc _ ?_ | with_reducible refine keep_below_drew ?_)); done) | ((repeat (first | with_reducible assumption | with_reducible refine keep_cell_set _ (by first | omega | (simp; done) | (simp; omega)) ?_ | with_reducible refine keep_cell_alloc _ ?_ | with_reducible refine keep_cell_drew ?_)); done))))
      (first
        | (go_at_call 14; (with_reducible refine (C0.out _ (by first | with_reducible assumption | exact And.left (by with_reducible assumption))).mono ?_); rintro e wa2 ⟨B11, m11, d11, rfl, hw11, hb⟩; (try (have hzl := hz1.lt)); (first | ((first | (with_reducible have hz2 := Blk1.keep hz2 hb) | (with_reducible have hz2 := Blk1.keep (hz2.alloc _) hb) | (with_reducible have hz2 := Blk1.keep ((hz2.alloc _).alloc _) hb) | (with_reducible have hz2 := Blk1.keep (((hz2.alloc _).alloc _).alloc _) hb)); (first | (with_reducible have hz1 := Blk1.keep hz1 hb) | (with_reducible have hz1 := Blk1.keep (hz1.alloc _) hb) | (with_reducible have hz1 := Blk1.keep ((hz1.alloc _).alloc _) hb) | (with_reducible have hz1 := Blk1.keep (((hz1.alloc _).alloc _).alloc _) hb))) | ((first | ((with_reducible have hz2 := Blk1.keep (Blk1.new _ _ _) hb); have hz2 : Blk1 _ _ (Value.slice none 0 0) := hz2) | ((with_reducible have hz2 := Blk1.keep ((Blk1.new _ _ _).alloc _) hb); have hz2 : Blk1 _ _ (Value.slice none 0 0) := hz2) | ((with_reducible have hz2 := Blk1.keep (((Blk1.new _ _ _).alloc _).alloc _) hb); have hz2 : Blk1 _ _ (Value.slice none 0 0) := hz2) | ((with_reducible have hz2 := Blk1.keep ((Blk1.new _ _ _).drew) hb); have hz2 : Blk1 _ _ (Value.slice none 0 0) := hz2) | ((with_reducible have hz2 := Blk1.keep (((Blk1.new _ _ _).alloc _).drew) hb); have hz2 : Blk1 _ _ (Value.slice none 0 0) := hz2) | ((with_reducible have hz2 := Blk1.keep ((((Blk1.new _ _ _).alloc _).alloc _).drew) hb); have hz2 : Blk1 _ _ (Value.slice none 0 0) := hz2)); (first | (with_reducible have hz1 := Blk1.keep hz1 hb) | (with_reducible have hz1 := Blk1.keep (hz1.alloc _) hb) | (with_reducible have hz1 := Blk1.keep ((hz1.alloc _).alloc _) hb) | (with_reducible have hz1 := Blk1.keep (((hz1.alloc _).alloc _).alloc _) hb))) | (first | (with_reducible have hz1 := Blk1.keep hz1 hb) | (with_reducible have hz1 := Blk1.keep (hz1.alloc _) hb) | (with_reducible have hz1 := Blk1.keep ((hz1.alloc _).alloc _) hb) | (with_reducible have hz1 := Blk1.keep (((hz1.alloc _).alloc _).alloc _) hb)) | (first | ((with_reducible have hz2 := Blk1.keep (Blk1.new _ _ _) hb); have hz2 : Blk1 _ _ (Value.slice none 0 0) := hz2; (with_reducible have hz1 := Blk1.keep ((Blk1.new _ _ _).alloc _) hb); have hz1 : Blk1 _ _ (Value.slice none 0 0) := hz1) | ((with_reducible have hz2 := Blk1.keep (Blk1.new _ _ _) hb); have hz2 : Blk1 _ _ (Value.slice none 0 0) := hz2; (with_reducible have hz1 := Blk1.keep (((Blk1.new _ _ _).alloc _).alloc _) hb); have hz1 : Blk1 _ _ (Value.slice none 0 0) := hz1) | ((with_reducible have hz2 := Blk1.keep ((Blk1.new _ _ _).alloc _) hb); have hz2 : Blk1 _ _ (Value.slice none 0 0) := hz2; (with_reducible have hz1 := Blk1.keep (((Blk1.new _ _ _).alloc _).alloc _) hb); have hz1 : Blk1 _ _ (Value.slice none 0 0) := hz1) | ((with_reducible have hz2 := Blk1.keep ((Blk1.new _ _ _).drew) hb); have hz2 : Blk1 _ _ (Value.slice none 0 0) := hz2; (with_reducible have hz1 := Blk1.keep (((Blk1.new _ _ _).alloc _).drew) hb); have hz1 : Blk1 _ _ (Value.slice none 0 0) := hz1) | ((with_reducible have hz2 := Blk1.keep ((Blk1.new _ _ _).drew) hb); have hz2 : Blk1 _ _ (Value.slice none 0 0) := hz2; (with_reducible have hz1 := Blk1.keep ((((Blk1.new _ _ _).alloc _).alloc _).drew) hb); have hz1 : Blk1 _ _ (Value.slice none 0 0) := hz1) | ((with_reducible have hz2 := Blk1.keep (((Blk1.new _ _ _).alloc _).drew) hb); have hz2 : Blk1 _ _ (Value.slice none 0 0) := hz2; (with_reducible have hz1 := Blk1.keep ((((Blk1.new _ _ _).alloc _).alloc _).drew) hb); have hz1 : Blk1 _ _ (Value.slice none 0 0) := hz1)) | (first | ((with_reducible have hz1 := Blk1.keep (Blk1.new _ _ _) hb); have hz1 : Blk1 _ _ (Value.slice none 0 0) := hz1) | ((with_reducible have hz1 := Blk1.keep ((Blk1.new _ _ _).alloc _) hb); have hz1 : Blk1 _ _ (Value.slice none 0 0) := hz1) | ((with_reducible have hz1 := Blk1.keep (((Blk1.new _ _ _).alloc _).alloc _) hb); have hz1 : Blk1 _ _ (Value.slice none 0 0) := hz1) | ((with_reducible have hz1 := Blk1.keep ((Blk1.new _ _ _).drew) hb); have hz1 : Blk1 _ _ (Value.slice none 0 0) := hz1) | ((with_reducible have hz1 := Blk1.keep (((Blk1.new _ _ _).alloc _).drew) hb); have hz1 : Blk1 _ _ (Value.slice none 0 0) := hz1) | ((with_reducible have hz1 := Blk1.keep ((((Blk1.new _ _ _).alloc _).alloc _).drew) hb); have hz1 : Blk1 _ _ (Value.slice none 0 0) := hz1)) | skip); (try simp only [alloc_size, drew_size] at hz1); (try simp only [alloc_size, drew_size] at hz2); (try (have hzc1 := hz1.cell; have hzf1 := hz1.frozen; have hzo1 := fun o => (hz1.alloc o).cell; have hzp1 := fun o => (hz1.alloc o).frozen)); (try (have hzc2 := hz2.cell; have hzf2 := hz2.frozen; have hzo2 := fun o => (hz2.alloc o).cell; have hzp2 := fun o => (hz2.alloc o).frozen)); (try (have hzl1 := hz1.lt)); (try (have hzq := two_set hz1 hz2 (by first | omega | (simp; done) | (simp; omega)); obtain ⟨hzq1, hzq2, hzq3, hzq4⟩ := hzq)); (try (have hzt := fun t => two_set (Blk1.alloc hz1 (.cells #[Value.slice none 0 0] t)) (Blk1.new _ t (Value.slice none 0 0)) (by first | omega | (simp; done) | (simp; omega)))); go_split_ands; have hBw : Below W0.heap.size W0 wa2 := keep_below (by with_reducible assumption) hb; have gw0 : wa2.cell? ⟨p, 0, none⟩ = some (.slice B1 m1 d1) := keep_cell hb (by with_reducible assumption); have gw1 : wa2.cell? ⟨p + 1, 0, none⟩ = some (.slice B2 m2 d2) := keep_cell hb (by with_reducible assumption))
        | (go_at_call 49; (first | (with_reducible refine (C1.out _ (by first | with_reducible assumption | exact And.left (by with_reducible assumption)) _ _ _ hw11).mono ?_) | (with_reducible refine (C1.out _ (by first | with_reducible assumption | exact And.left (by with_reducible assumption)) _ _ _ (hw11.below (up_alloc _ _))).mono ?_) | (with_reducible refine (C1.out _ (by first | with_reducible assumption | exact And.left (by with_reducible assumption)) _ _ _ ((hw11.below (up_alloc _ _)).below (up_alloc _ _))).mono ?_)); rintro e wa3 ⟨B12, m12, d12, rfl, hw12, hb⟩; (try have hzs1 := hBw.size); (try (have hzl := hz1.lt)); (first | ((first | (with_reducible have hz2 := Blk1.keep hz2 hb) | (with_reducible have hz2 := Blk1.keep (hz2.alloc _) hb) | (with_reducible have hz2 := Blk1.keep ((hz2.alloc _).alloc _) hb) | (with_reducible have hz2 := Blk1.keep (((hz2.alloc _).alloc _).alloc _) hb)); (first | (with_reducible have hz1 := Blk1.keep hz1 hb) | (with_reducible have hz1 := Blk1.keep (hz1.alloc _) hb) | (with_reducible have hz1 := Blk1.keep ((hz1.alloc _).alloc _) hb) | (with_reducible have hz1 := Blk1.keep (((hz1.alloc _).alloc _).alloc _) hb))) | ((first | ((with_reducible have hz2 := Blk1.keep (Blk1.new _ _ _) hb); have hz2 : Blk1 _ _ (Value.slice none 0 0) := hz2) | ((with_reducible have hz2 := Blk1.keep ((Blk1.new _ _ _).alloc _) hb); have hz2 : Blk1 _ _ (Value.slice none 0 0) := hz2) | ((with_reducible have hz2 := Blk1.keep (((Blk1.new _ _ _).alloc _).alloc _) hb); have hz2 : Blk1 _ _ (Value.slice none 0 0) := hz2) | ((with_reducible have hz2 := Blk1.keep ((Blk1.new _ _ _).drew) hb); have hz2 : Blk1 _ _ (Value.slice none 0 0) := hz2) | ((with_reducible have hz2 := Blk1.keep (((Blk1.new _ _ _).alloc _).drew) hb); have hz2 : Blk1 _ _ (Value.slice none 0 0) := hz2) | ((with_reducible have hz2 := Blk1.keep ((((Blk1.new _ _ _).alloc _).alloc _).drew) hb); have hz2 : Blk1 _ _ (Value.slice none 0 0) := hz2)); (first | (with_reducible have hz1 := Blk1.keep hz1 hb) | (with_reducible have hz1 := Blk1.keep (hz1.alloc _) hb) | (with_reducible have hz1 := Blk1.keep ((hz1.alloc _).alloc _) hb) | (with_reducible have hz1 := Blk1.keep (((hz1.alloc _).alloc _).alloc _) hb))) | (first | (with_reducible have hz1 := Blk1.keep hz1 hb) | (with_reducible have hz1 := Blk1.keep (hz1.alloc _) hb) | (with_reducible have hz1 := Blk1.keep ((hz1.alloc _).alloc _) hb) | (with_reducible have hz1 := Blk1.keep (((hz1.alloc _).alloc _).alloc _) hb)) | (first | ((with_reducible have hz2 := Blk1.keep (Blk1.new _ _ _) hb); have hz2 : Blk1 _ _ (Value.slice none 0 0) := hz2; (with_reducible have hz1 := Blk1.keep ((Blk1.new _ _ _).alloc _) hb); have hz1 : Blk1 _ _ (Value.slice none 0 0) := hz1) | ((with_reducible have hz2 := Blk1.keep (Blk1.new _ _ _) hb); have hz2 : Blk1 _ _ (Value.slice none 0 0) := hz2; (with_reducible have hz1 := Blk1.keep (((Blk1.new _ _ _).alloc _).alloc _) hb); have hz1 : Blk1 _ _ (Value.slice none 0 0) := hz1) | ((with_reducible have hz2 := Blk1.keep ((Blk1.new _ _ _).alloc _) hb); have hz2 : Blk1 _ _ (Value.slice none 0 0) := hz2; (with_reducible have hz1 := Blk1.keep (((Blk1.new _ _ _).alloc _).alloc _) hb); have hz1 : Blk1 _ _ (Value.slice none 0 0) := hz1) | ((with_reducible have hz2 := Blk1.keep ((Blk1.new _ _ _).drew) hb); have hz2 : Blk1 _ _ (Value.slice none 0 0) := hz2; (with_reducible have hz1 := Blk1.keep (((Blk1.new _ _ _).alloc _).drew) hb); have hz1 : Blk1 _ _ (Value.slice none 0 0) := hz1) | ((with_reducible have hz2 := Blk1.keep ((Blk1.new _ _ _).drew) hb); have hz2 : Blk1 _ _ (Value.slice none 0 0) := hz2; (with_reducible have hz1 := Blk1.keep ((((Blk1.new _ _ _).alloc _).alloc _).drew) hb); have hz1 : Blk1 _ _ (Value.slice none 0 0) := hz1) | ((with_reducible have hz2 := Blk1.keep (((Blk1.new _ _ _).alloc _).drew) hb); have hz2 : Blk1 _ _ (Value.slice none 0 0) := hz2; (with_reducible have hz1 := Blk1.keep ((((Blk1.new _ _ _).alloc _).alloc _).drew) hb); have hz1 : Blk1 _ _ (Value.slice none 0 0) := hz1)) | (first | ((with_reducible have hz1 := Blk1.keep (Blk1.new _ _ _) hb); have hz1 : Blk1 _ _ (Value.slice none 0 0) := hz1) | ((with_reducible have hz1 := Blk1.keep ((Blk1.new _ _ _).alloc _) hb); have hz1 : Blk1 _ _ (Value.slice none 0 0) := hz1) | ((with_reducible have hz1 := Blk1.keep (((Blk1.new _ _ _).alloc _).alloc _) hb); have hz1 : Blk1 _ _ (Value.slice none 0 0) := hz1) | ((with_reducible have hz1 := Blk1.keep ((Blk1.new _ _ _).drew) hb); have hz1 : Blk1 _ _ (Value.slice none 0 0) := hz1) | ((with_reducible have hz1 := Blk1.keep (((Blk1.new _ _ _).alloc _).drew) hb); have hz1 : Blk1 _ _ (Value.slice none 0 0) := hz1) | ((with_reducible have hz1 := Blk1.keep ((((Blk1.new _ _ _).alloc _).alloc _).drew) hb); have hz1 : Blk1 _ _ (Value.slice none 0 0) := hz1)) | skip); (try simp only [alloc_size, drew_size] at hz1); (try simp only [alloc_size, drew_size] at hz2); (try (have hzc1 := hz1.cell; have hzf1 := hz1.frozen; have hzo1 := fun o => (hz1.alloc o).cell; have hzp1 := fun o => (hz1.alloc o).frozen)); (try (have hzc2 := hz2.cell; have hzf2 := hz2.frozen; have hzo2 := fun o => (hz2.alloc o).cell; have hzp2 := fun o => (hz2.alloc o).frozen)); (try (have hzl1 := hz1.lt)); (try (have hzq := two_set hz1 hz2 (by first | omega | (simp; done) | (simp; omega)); obtain ⟨hzq1, hzq2, hzq3, hzq4⟩ := hzq)); (try (have hzt := fun t => two_set (Blk1.alloc hz1 (.cells #[Value.slice none 0 0] t)) (Blk1.new _ t (Value.slice none 0 0)) (by first | omega | (simp; done) | (simp; omega)))); go_split_ands; have hBw : Below W0.heap.size W0 wa3 := keep_below (by with_reducible assumption) hb; have gw0 : wa3.cell? ⟨p, 0, none⟩ = some (.slice B1 m1 d1) := keep_cell hb (by with_reducible assumption); have gw1 : wa3.cell? ⟨p + 1, 0, none⟩ = some (.slice B2 m2 d2) := keep_cell hb (by with_reducible assumption); (first | (with_reducible have hw11 := WordsIn.below hw11 hb) | (with_reducible have hw11 := WordsIn.below (WordsIn.below hw11 (up_alloc _ _)) hb) | (with_reducible have hw11 := WordsIn.below (WordsIn.below (WordsIn.below hw11 (up_alloc _ _)) (up_alloc _ _)) hb))))
    all_goals (go_wp2_with fail; go_meet)
    all_goals (
      (with_reducible refine ⟨_, B12, m12, d12, rfl, rfl, (Blk1.cell ?_), ?_, ?_⟩)
      · ((repeat (first | (first | with_reducible exact hz1 | with_reducible exact hz2 | with_reducible exact Blk1.new _ _ _ | with_reducible refine Blk1.newAt (by first | rfl | (simp; done))) | with_reducible refine Blk1.set_ (v := .slice none 0 0) ?_ _ | with_reducible refine Blk1.far ?_ (by first | (simp; done) | (simp; omega)) _ | with_reducible refine Blk1.alloc ?_ _)))
      · (repeat (first | (first | with_reducible exact hw12) | with_reducible refine WordsIn.below ?_ (up_alloc _ _) | with_reducible refine words_set_blk1 (a := none) (b := 0) (d := 0) ?_ (by ((repeat (first | (first | with_reducible exact hz1 | with_reducible exact hz2 | with_reducible exact Blk1.new _ _ _ | with_reducible refine Blk1.newAt (by first | rfl | (simp; done))) | with_reducible refine Blk1.set_ (v := .slice none 0 0) ?_ _ | with_reducible refine Blk1.far ?_ (by first | (simp; done) | (simp; omega)) _ | with_reducible refine Blk1.alloc ?_ _)))) _))
      · (repeat (first | with_reducible exact hBw | with_reducible refine keep_below_alloc _ ?_ | with_reducible refine keep_below_set _ (by first | (simp; done) | (simp; omega)) ?_)))
  case rest =>
    obtain ⟨ga13, B12, m12, d12, rfl, rfl, gc0, hw12, hb⟩ := hcut
    obtain ⟨wk4, hwq⟩ : ∃ x, x = wc := ⟨_, rfl⟩
    subst hwq
    have hB := keep_below hB hb
    have g3 := keep_cell hb g3
    have g4 := keep_cell hb g4
    have k5 := keep_blk hb k5
    have HN1 := Lib.hid (HN1.out.below hb)
    have HN2 := Lib.hid (HN2.out.below hb)
    have g13 := gc0
    have HN12 := Lib.hid hw12
    clear hb gc0 hw12
    have HM := Lib.hid (prod_mul (x / (Nat.gcd x y)) y B12 B2 m12 m2 d12 d2 wk4 HN12.out HN2.out (by have := Sz.words HZ12.out HN12.out; omega) (by omega))
    have HLC : Hid ((x / (Nat.gcd x y)) * y = Nat.lcm x y) := lcm_way x y
    have hbz := k5.lt
    go_wp2_with fail
    refine HM.out.mono ?_
    rintro e w9 ⟨A9, n9, c9, rfl, hw9, hb9, _⟩
    rw [HLC.out] at hw9
    have kr := (keep_blk hb9 k5).one
    have hB9 := keep_below hB hb9
    have e9 := kr.cell
    have f9 := kr.frozen
    have r9 := (kr.set_ (.slice A9 n9 c9)).cell
    have HE : Hid (GivesNW w (Nat.lcm x y) (.returned (.agg #[.slice A9 n9 c9])) (w9.setCell ⟨p + 1 + 1, 0, none⟩ (.slice A9 n9 c9))) := ⟨_, _, _, rfl, words_set_blk1 hw9 kr _, hB9.setCell (p := ⟨p + 1 + 1, 0, none⟩) (by show w.heap.size ≤ p + 1 + 1; omega) _⟩
    clear kr hw9 hB9 hb9 HM
    go_wp2
    refine bodyPost_ret (v := .agg #[.slice A9 n9 c9]) (by simp [results, Tryd.results22, go_sem, r9]) rfl ?_
    exact HE.out
theorem gcd_lcm (x y : Nat) (A D : Option Addr) (n m c d : Nat) (w : World) (hA : WordsIn w x A n c) (hD : WordsIn w y D m d) (hn : n ≤ 1073741824) (hm : m ≤ 1073741824) (hT : TabAt w) :
    Calls Tryd.prog 22 #[.agg #[.slice A n c], .agg #[.slice D m d]] w (GivesNW w (Nat.lcm x y)) := by
  cases h : decide (Nat.gcd x y ≠ 0)
  · exact gcd_lcm_no x y A D n m c d w hA hD hn hm hT h
  · exact gcd_lcm_yes x y A D n m c d w hA hD hn hm hT h
end Go.Proofs.YtplgbokgfphjaaaDoor
namespace Go.Proofs.YtplgbokgfphjaaaDoor
open Go Go.RowKit
set_option maxRecDepth 100000
set_option linter.unusedVariables false
theorem gcdL_succ (xs : List Nat) (k : Nat) (h : k < xs.length) : gcdL (xs.take (k + 1)) = Nat.gcd (gcdL (xs.take k)) (xs.getD k 0) := by
  unfold gcdL
  rw [List.take_succ_eq_append_getElem h, List.foldl_append, List.getD_eq_getElem?_getD, List.getElem?_eq_getElem h]
  rfl
theorem lcmL_succ (xs : List Nat) (k : Nat) (h : k < xs.length) : lcmL (xs.take (k + 1)) = Nat.lcm (lcmL (xs.take k)) (xs.getD k 0) := by
  unfold lcmL
  rw [List.take_succ_eq_append_getElem h, List.foldl_append, List.getD_eq_getElem?_getD, List.getElem?_eq_getElem h]
  rfl
set_option maxHeartbeats 8000000 in
theorem gcd_all (xs : List Nat) (A : Option Addr) (n c : Nat) (w : World) (h : NumsIn w A n c xs) (hn : n ≤ 1073741824) (he : ∀ i, i < n → (dg 18446744073709551616 (xs.getD i 0)).length ≤ 1073741824) (hs : ∀ k, k ≤ n → (dg 18446744073709551616 (gcdL (xs.take k))).length ≤ 1073741824) (hT : TabAt w) :
    Calls Tryd.prog 24 #[.slice A n c] w (GivesNW w (gcdL xs)) := by
  have HTB := Lib.hid (fun w' (h : Below w.heap.size w w') => hT.on h)
  have HN := Lib.hid (fun w' (hb : Below w.heap.size w w') => h.below hb)
  have HS := Lib.hid hs
  have HE := Lib.hid he
  have HSU := Lib.hid (fun k (hk : k < n) => gcdL_succ xs k (by rw [h.len]; exact hk))
  have HF : Hid (gcdL (xs.take n) = gcdL xs) := by
    show _ = _
    rw [List.take_of_length_le (by rw [h.len]; exact Nat.le_refl _)]
  clear h hs he hT
  go_enter Tryd.func24, Tryd.ntmps24
  go_wp2_with fail
  obtain ⟨b1, b2, b5⟩ := box1 w 29 #[.slice none 0 0]
  generalize hV : w.alloc (.cells #[.slice none 0 0] 29) = V1 at *
  clear hV
  refine (nat_of_nil V1).mono ?_
  rintro e w2 ⟨A2, n2, c2, rfl, hw, hb, _⟩
  have hB := keep_below b1 hb
  obtain ⟨d1, d2, d3⟩ := box1 w2 29 #[.slice A2 n2 c2]
  have hk1 := (keep_blk (keep_below hb d1) b2).one
  have hB := keep_below hB d1
  have hw := hw.below d1
  have hp := d2.one
  have hgw : w.heap.size < w2.heap.size := (keep_blk hb b2).lt
  clear hb d1 d2 d3 b1 b2 b5
  go_wp2_with fail
  generalize hV : w2.alloc (.cells #[.slice A2 n2 c2] 29) = W2 at *
  generalize w2.heap.size = gp at *
  clear hV
  go_loopg [9] (n + 1) (fun g ix wr => ∃ (k : Nat) (Ap : Option Addr) (np cp : Nat), k ≤ n ∧ n < g + k ∧ ix = .int .i64 k ∧ WordsIn wr (gcdL (xs.take k)) Ap np cp ∧ Blk1 wr gp (.slice Ap np cp) ∧ Below w.heap.size w wr ∧ Blk1 wr w.heap.size (.slice none 0 0))
  case atStart => exact ⟨0, A2, n2, c2, Nat.zero_le _, by omega, rfl, hw, hp, hB, hk1⟩
  case round =>
    clear hw hp hB hk1
    obtain ⟨k, Ap, np, cp, hkn, hg, rfl, hw, hp, hB, hk1⟩ := hrel
    by_cases hlt : k < n
    · obtain ⟨ad, B, m, d, rfl, hadb, hcl, hx⟩ := (HN.out _ hB).num k hlt
      have hnp : np ≤ 1073741824 := by rw [← hw.len]; exact HS.out k hkn
      have hmx : m ≤ 1073741824 := by rw [← hx.len]; exact HE.out k hlt
      obtain ⟨st, d2, d3⟩ := box1 wr 29 #[.slice B m d]
      have hc3 : (wr.alloc (.cells #[.slice B m d] 29)).cell? ⟨wr.heap.size, 0, none⟩ = some (.slice B m d) := d2.cell 0
      have hB1 := keep_below hB st
      have hp1 := hp.keep st
      have hk2 := hk1.keep st
      have hc2 := hp1.cell
      have HM := Lib.hid (gcd_of (gcdL (xs.take k)) (xs.getD k 0) Ap B np m cp d _ (hw.below st) (hx.below st) hnp hmx (HTB.out _ hB1))
      have i1 : (0 : Int) ≤ (k : Int) := by omega
      have i2 : (k : Int) < (n : Int) := by omega
      have HB1 := Lib.hid hB1
      have HP1 := Lib.hid hp1
      have HK2 := Lib.hid hk2
      clear hw hx hp hB hk1 st d2 d3 hB1 hp1 hk2
      go_wp2_with fail
      refine HM.out.mono ?_
      rintro e w3 ⟨A3, n3, c3, rfl, hw3, hb⟩
      rw [← HSU.out k hlt] at hw3
      have hB3 := keep_below HB1.out hb
      have hp3 := HP1.out.keep hb
      have hk3 := HK2.out.keep hb
      have hf4 := hp3.frozen
      have hc4 := hp3.cell
      have hw4 := words_set_blk1 hw3 hp3 (.slice A3 n3 c3)
      have hB4 := keep_below_set (p := ⟨gp, 0, none⟩) (.slice A3 n3 c3) (by show w.heap.size ≤ gp; omega) hB3
      have hk4 := hk3.far (p := ⟨gp, 0, none⟩) (by show w.heap.size ≠ gp; omega) (.slice A3 n3 c3)
      have hp4 := hp3.set_ (.slice A3 n3 c3)
      clear hb hB3 hp3 hk3 hw3 hc2 hc3 hcl HB1 HP1 HK2
      go_wp2
      go_roundg (n - k)
      case measure => omega
      case rel => exact ⟨k + 1, A3, n3, c3, by omega, by omega, by go_num, hw4, hp4, hB4, hk4⟩
    · have hkn : k = n := by omega
      subst hkn
      rw [HF.out] at hw
      have e1 := hp.cell
      have e2 := hk1.cell
      have f2 := hk1.frozen
      have r2 := (hk1.set_ (.slice Ap np cp)).cell
      have HG : Hid (GivesNW w (gcdL xs) (.returned (.agg #[.slice Ap np cp])) (wr.setCell ⟨w.heap.size, 0, none⟩ (.slice Ap np cp))) := ⟨_, _, _, rfl, words_set_blk1 hw hk1 _, hB.setCell (p := ⟨w.heap.size, 0, none⟩) (Nat.le_refl _) _⟩
      clear hw hp hk1 hB
      go_wp2
      refine bodyPost_ret (v := .agg #[.slice Ap np cp]) (by simp [results, Tryd.results24, go_sem, r2]) rfl ?_
      exact HG.out
set_option maxHeartbeats 8000000 in
theorem gcd_least (xs : List Nat) (A : Option Addr) (n c : Nat) (w : World) (h : NumsIn w A n c xs) (hn : n ≤ 1073741824) (he : ∀ i, i < n → (dg 18446744073709551616 (xs.getD i 0)).length ≤ 1073741824) (hs : ∀ k, k ≤ n → (dg 18446744073709551616 (lcmL (xs.take k))).length ≤ 1073741824) (hT : TabAt w) :
    Calls Tryd.prog 25 #[.slice A n c] w (GivesNW w (lcmL xs)) := by
  have HTB := Lib.hid (fun w' (h : Below w.heap.size w w') => hT.on h)
  have HN := Lib.hid (fun w' (hb : Below w.heap.size w w') => h.below hb)
  have HS := Lib.hid hs
  have HE := Lib.hid he
  have HSU := Lib.hid (fun k (hk : k < n) => lcmL_succ xs k (by rw [h.len]; exact hk))
  have HF : Hid (lcmL (xs.take n) = lcmL xs) := by
    show _ = _
    rw [List.take_of_length_le (by rw [h.len]; exact Nat.le_refl _)]
  clear h hs he hT
  go_enter Tryd.func25, Tryd.ntmps25
  go_wp2_with fail
  obtain ⟨b1, b2, b3, b5⟩ := box2 w 29 35 #[.slice none 0 0] #[.int .u64 1]
  generalize hV : (w.alloc (.cells #[.slice none 0 0] 29)).alloc (.cells #[.int .u64 1] 35) = V1 at *
  clear hV
  refine (of_lits _ [1] V1 _ 1 1 b3 rfl rfl (dgs1 1 (by decide)) rfl (by decide)).mono ?_
  rintro e w2 ⟨A2, n2, c2, rfl, hw, hb, _⟩
  have hB := keep_below b1 hb
  obtain ⟨d1, d2, d3⟩ := box1 w2 29 #[.slice A2 n2 c2]
  have hk1 := (keep_blk (keep_below hb d1) b2).one
  have hB := keep_below hB d1
  have hw := hw.below d1
  have hp := d2.one
  have hgw : w.heap.size < w2.heap.size := (keep_blk hb b2).lt
  clear hb d1 d2 d3 b1 b2 b5
  go_wp2_with fail
  generalize hV : w2.alloc (.cells #[.slice A2 n2 c2] 29) = W2 at *
  generalize w2.heap.size = gp at *
  clear hV
  go_loopg [10] (n + 1) (fun g ix wr => ∃ (k : Nat) (Ap : Option Addr) (np cp : Nat), k ≤ n ∧ n < g + k ∧ ix = .int .i64 k ∧ WordsIn wr (lcmL (xs.take k)) Ap np cp ∧ Blk1 wr gp (.slice Ap np cp) ∧ Below w.heap.size w wr ∧ Blk1 wr w.heap.size (.slice none 0 0))
  case atStart => exact ⟨0, A2, n2, c2, Nat.zero_le _, by omega, rfl, hw, hp, hB, hk1⟩
  case round =>
    clear hw hp hB hk1
    obtain ⟨k, Ap, np, cp, hkn, hg, rfl, hw, hp, hB, hk1⟩ := hrel
    by_cases hlt : k < n
    · obtain ⟨ad, B, m, d, rfl, hadb, hcl, hx⟩ := (HN.out _ hB).num k hlt
      have hnp : np ≤ 1073741824 := by rw [← hw.len]; exact HS.out k hkn
      have hmx : m ≤ 1073741824 := by rw [← hx.len]; exact HE.out k hlt
      obtain ⟨st, d2, d3⟩ := box1 wr 29 #[.slice B m d]
      have hc3 : (wr.alloc (.cells #[.slice B m d] 29)).cell? ⟨wr.heap.size, 0, none⟩ = some (.slice B m d) := d2.cell 0
      have hB1 := keep_below hB st
      have hp1 := hp.keep st
      have hk2 := hk1.keep st
      have hc2 := hp1.cell
      have HM := Lib.hid (gcd_lcm (lcmL (xs.take k)) (xs.getD k 0) Ap B np m cp d _ (hw.below st) (hx.below st) hnp hmx (HTB.out _ hB1))
      have i1 : (0 : Int) ≤ (k : Int) := by omega
      have i2 : (k : Int) < (n : Int) := by omega
      have HB1 := Lib.hid hB1
      have HP1 := Lib.hid hp1
      have HK2 := Lib.hid hk2
      clear hw hx hp hB hk1 st d2 d3 hB1 hp1 hk2
      go_wp2_with fail
      refine HM.out.mono ?_
      rintro e w3 ⟨A3, n3, c3, rfl, hw3, hb⟩
      rw [← HSU.out k hlt] at hw3
      have hB3 := keep_below HB1.out hb
      have hp3 := HP1.out.keep hb
      have hk3 := HK2.out.keep hb
      have hf4 := hp3.frozen
      have hc4 := hp3.cell
      have hw4 := words_set_blk1 hw3 hp3 (.slice A3 n3 c3)
      have hB4 := keep_below_set (p := ⟨gp, 0, none⟩) (.slice A3 n3 c3) (by show w.heap.size ≤ gp; omega) hB3
      have hk4 := hk3.far (p := ⟨gp, 0, none⟩) (by show w.heap.size ≠ gp; omega) (.slice A3 n3 c3)
      have hp4 := hp3.set_ (.slice A3 n3 c3)
      clear hb hB3 hp3 hk3 hw3 hc2 hc3 hcl HB1 HP1 HK2
      go_wp2
      go_roundg (n - k)
      case measure => omega
      case rel => exact ⟨k + 1, A3, n3, c3, by omega, by omega, by go_num, hw4, hp4, hB4, hk4⟩
    · have hkn : k = n := by omega
      subst hkn
      rw [HF.out] at hw
      have e1 := hp.cell
      have e2 := hk1.cell
      have f2 := hk1.frozen
      have r2 := (hk1.set_ (.slice Ap np cp)).cell
      have HG : Hid (GivesNW w (lcmL xs) (.returned (.agg #[.slice Ap np cp])) (wr.setCell ⟨w.heap.size, 0, none⟩ (.slice Ap np cp))) := ⟨_, _, _, rfl, words_set_blk1 hw hk1 _, hB.setCell (p := ⟨w.heap.size, 0, none⟩) (Nat.le_refl _) _⟩
      clear hw hp hk1 hB
      go_wp2
      refine bodyPost_ret (v := .agg #[.slice Ap np cp]) (by simp [results, Tryd.results25, go_sem, r2]) rfl ?_
      exact HG.out
end Go.Proofs.YtplgbokgfphjaaaDoor
namespace Go.Proofs.YtplgbokgfphjaaaDoor
open Go Go.RowKit
set_option linter.unusedVariables false
theorem gcdC : GcdC where
  of x y A D n m c d w hA hD hn hm hT := gcd_of x y A D n m c d w hA hD hn hm hT
  lcm x y A D n m c d w hA hD hn hm hT := gcd_lcm x y A D n m c d w hA hD hn hm hT
  coprime x y A D n m c d w hA hD hn hm hT := gcd_coprime x y A D n m c d w hA hD hn hm hT
  reduce x y A D n m c d w hA hD hn hm hT := gcd_reduce x y A D n m c d w hA hD hn hm hT
  all xs A n c w h hn he hs hT := gcd_all xs A n c w h hn he hs hT
  least xs A n c w h hn he hs hT := gcd_least xs A n c w h hn he hs hT
end Go.Proofs.YtplgbokgfphjaaaDoor
