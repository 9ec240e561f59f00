/-
  The contract of quot's DivMod: a number by a number, rounded down, and what is left; none by 0. Conditions: the values are numbers of up to 2 to the 38 words.
  The contracts of quot's Div, Mod and Divides. Conditions: the values are numbers of up to 2 to the 38 words.
  What the laws on quotients lean on of package quot, shown of the developers' functions. Conditions: as QuotC says.
-/
import Derived.Test.YtplgbokgfphjaaaDoorRows
import Derived.Test.YtplgbokgfphjaaaDoorQWords
import Derived.Test.YtplgbokgfphjaaaDoorNTold
import Derived.Test.YtplgbokgfphjaaaDoorNWrap
import Derived.Test.YtplgbokgfphjaaaDoorNNums
import Derived.Test.YtplgbokgfphjaaaDoorP4C
import Derived.WalkKit
import Derived.Lib.Hide
import Derived.Outline
import Derived.IntWalk
import Derived.Deep.RegionHeld3
namespace Go.Proofs.YtplgbokgfphjaaaDoor
open Go Go.RowKit
set_option maxRecDepth 100000
set_option linter.unusedVariables false
theorem of_one (r : Nat) (hr : r < 18446744073709551616) (g : Nat) (w : World) (h : Blk w g 35 #[.int .u64 (r : Int)]) : Calls Tryd.prog 12 #[.slice (some ⟨g, 0, none⟩) 1 1] w (GivesN2 w r) := by
  have hd : Dgs 18446744073709551616 [r] := by intro d hd; simp at hd; omega
  have := nat_of (some ⟨g, 0, none⟩) 1 1 [r] w (blk_reads h rfl (by simp [vals]) rfl) hd (Nat.le_refl _) (by decide) (by decide)
  rwa [show dv 18446744073709551616 [r] = r from by simp [dv]] at this
theorem wd0 {x : Nat} (h : x < 18446744073709551616) : wd x 0 = x := by unfold wd; rw [Nat.pow_zero, Nat.div_one, Nat.mod_eq_of_lt h]
theorem one_word {x m : Nat} (hx : (dg 18446744073709551616 x).length = m) (hm : m ≤ 1) : x < 18446744073709551616 := by
  have h := dg_lt (b := 18446744073709551616) (by decide) x
  rw [hx] at h
  exact Nat.lt_of_lt_of_le h (Nat.le_trans (Nat.pow_le_pow_right (by decide) hm) (by decide))
set_option maxHeartbeats 4000000 in
theorem quot_divmod_one (x d q r : Nat) (b : Bool) (A D : Option Addr) (n m c ce : Nat) (w : World) (hA : WordsIn w x A n c) (hD : WordsIn w d D m ce) (hm : m ≤ 1) (hr : r < 18446744073709551616)
    (HB : ∀ w', Below w.heap.size w w' → Calls Tryd.prog 70 #[.agg #[.slice A n c], .int .u64 (d : Int)] w' (GivesQX w' q r b)) :
    Calls Tryd.prog 61 #[.agg #[.slice A n c], .agg #[.slice D m ce]] w (GivesQR w q r b) := by
  have hU := fun w' (hb : Below w.heap.size w w') => nat_uint_one d D m ce w' (hD.below hb) hm
  rw [wd0 (one_word hD.len hm)] at hU
  have HU := Lib.hid hU
  have HBH := Lib.hid HB
  have HOF := Lib.hid (fun g w => of_one r hr g w)
  clear hU HB hA hD
  go_enter Tryd.func61, Tryd.ntmps61
  go_wp2_with fail
  obtain ⟨hB, b2, b3, k4, k5, b6⟩ := boxes4 w 29 #[.slice A n c] #[.slice D m ce] #[.slice none 0 0] #[.slice none 0 0]
  generalize hW : (((w.alloc (.cells #[.slice A n c] 29)).alloc (.cells #[.slice D m ce] 29)).alloc (.cells #[.slice none 0 0] 29)).alloc (.cells #[.slice none 0 0] 29) = W0 at *
  have g2 : W0.cell? ⟨w.heap.size, 0, none⟩ = some (.slice A n c) := b2.cell 0
  clear hW b2 b3
  refine (HU.out _ hB).mono ?_
  rintro e w1 ⟨rfl, hb⟩
  have hB := keep_below hB hb
  have g2 := keep_cell hb g2
  have k4 := keep_blk hb k4
  have k5 := keep_blk hb k5
  clear hb b6
  go_wp2_with fail
  refine (HBH.out _ hB).mono ?_
  rintro e w2 ⟨A2, n2, c2, rfl, hw2, hb⟩
  have hB := keep_below hB hb
  have k4 := keep_blk hb k4
  have k5 := keep_blk hb k5
  have l4 := k5.lt
  obtain ⟨m9, m9'⟩ : w.heap.size + 1 + 1 ≠ w2.heap.size ∧ w.heap.size + 1 + 1 + 1 ≠ w2.heap.size := by omega
  obtain ⟨d1, d2, d5⟩ := box1 w2 29 #[.slice A2 n2 c2]
  have hB := keep_below hB d1
  have k4 := keep_blk d1 k4
  have k5 := keep_blk d1 k5
  have hw2 := hw2.below d1
  have g9 : (w2.alloc (.cells #[.slice A2 n2 c2] 29)).cell? ⟨w2.heap.size, 0, none⟩ = some (.slice A2 n2 c2) := d2.cell 0
  clear d1 d2 d5 hb g2
  go_wp2_with fail
  generalize w2.alloc (.cells #[.slice A2 n2 c2] 29) = W2 at *
  generalize w2.heap.size = z at *
  have hbr : Below W2.heap.size W2 W2 := Below.refl _ _
  have j9 : W2.drew.cell? ⟨z, 0, none⟩ = some (.slice A2 n2 c2) := g9
  go_region_held3 (fun w' => w'.cell? ⟨z, 0, none⟩ = some (.slice A2 n2 c2))
    (first | (with_reducible exact j9) | with_reducible assumption | with_reducible exact keep_cell_alloc _ (by with_reducible assumption) | with_reducible exact (cell_drew_own _ _).trans (keep_cell_alloc _ (by with_reducible assumption)) | with_reducible exact keep_cell hb (by with_reducible assumption) | with_reducible exact keep_cell_set _ (by first | (simp; done) | (simp; omega)) (by with_reducible assumption))
    (first
      | (go_at_call 12; (with_reducible refine (HOF.out _ _ (by first | with_reducible exact Blk.new _ _ _ | with_reducible exact (Blk.new _ _ _).drew)).mono ?_); rintro e w' ⟨A3, n3, c3, rfl, hw3, hb, hf3⟩; (have hb2 : Below W2.heap.size W2 w' := keep_below (by first | with_reducible exact (keep_below_alloc _ hbr).drew | with_reducible exact keep_below_alloc _ hbr.drew) hb); have k4' := keep_blk hb2 k4; have k5' := keep_blk hb2 k5; have hw2' := hw2.below hb2; have f4 := k4'.frozen 0; have f5 := k5'.frozen 0; have e4 := k4'.cell 0; have e5 := k5'.cell 0))
  have p4 : Blk1 w' (w.heap.size + 1 + 1) (.slice none 0 0) := ⟨_, k4'⟩
  have p5 : Blk1 w' (w.heap.size + 1 + 1 + 1) (.slice none 0 0) := ⟨_, k5'⟩
  have p5' := p5.far (p := ⟨w.heap.size + 1 + 1, 0, none⟩) (by show w.heap.size + 1 + 1 + 1 ≠ w.heap.size + 1 + 1; omega) (.slice A2 n2 c2)
  have r4 := ((p4.set_ (.slice A2 n2 c2)).far (p := ⟨w.heap.size + 1 + 1 + 1, 0, none⟩) (by show w.heap.size + 1 + 1 ≠ w.heap.size + 1 + 1 + 1; omega) (.slice A3 n3 c3)).cell
  have r5 := (p5'.set_ (.slice A3 n3 c3)).cell
  have hbw := keep_below hB hb2
  have HG : Hid (GivesQR w q r b (.returned (.tuple #[.agg #[.slice A2 n2 c2], .agg #[.slice A3 n3 c3], .bool b])) ((w'.setCell ⟨w.heap.size + 1 + 1, 0, none⟩ (.slice A2 n2 c2)).setCell ⟨w.heap.size + 1 + 1 + 1, 0, none⟩ (.slice A3 n3 c3))) :=
    ⟨A2, n2, c2, A3, n3, c3, rfl, words_set_blk1 (words_set_blk1 hw2' p4 _) p5' _, words_set_blk1 (words_set_blk1 hw3 p4 _) p5' _,
      (hbw.setCell (p := ⟨w.heap.size + 1 + 1, 0, none⟩) (by show w.heap.size ≤ w.heap.size + 1 + 1; omega) _).setCell (p := ⟨w.heap.size + 1 + 1 + 1, 0, none⟩) (by show w.heap.size ≤ w.heap.size + 1 + 1 + 1; omega) _⟩
  clear hb hb2 hw2 hw2' hw3 hf3 k4 k5 k4' k5' f4 f5 e4 e5 p4 p5 p5' hbw hB g9 j9 hbr
  go_wp2
  refine bodyPost_ret (v := .tuple #[.agg #[.slice A2 n2 c2], .agg #[.slice A3 n3 c3], .bool b]) (by simp [results, Tryd.results61, go_sem, r4, r5]) rfl ?_
  exact HG.out
theorem small_q {x d n m : Nat} (hx : (dg 18446744073709551616 x).length = n) (hd : (dg 18446744073709551616 d).length = m) (h : n < m) : x / d = 0 ∧ x % d = x := by
  have hl : x < d := len_lt (b := 18446744073709551616) (by decide) (by rw [hx, hd]; exact h)
  exact ⟨Nat.div_eq_of_lt hl, Nat.mod_eq_of_lt hl⟩
set_option maxHeartbeats 4000000 in
theorem quot_divmod_small (x d : Nat) (A D : Option Addr) (n m c ce : Nat) (w : World) (hA : WordsIn w x A n c) (hD : WordsIn w d D m ce) (hm : 2 ≤ m) (hnm : n < m) (hm2 : m ≤ 274877906944) :
    Calls Tryd.prog 61 #[.agg #[.slice A n c], .agg #[.slice D m ce]] w (GivesQR w (x / d) (x % d) true) := by
  obtain ⟨hq, hr⟩ := small_q hA.len hD.len hnm
  rw [hq, hr]
  have HU := Lib.hid (fun w' => nat_uint_more D m ce w' (by omega))
  have HWS := Lib.hid (fun w' (hb : Below w.heap.size w w') => nat_words x A n c w' (hA.below hb) (by omega))
  have HLN := Lib.hid hA.len
  have t1 : decide ((n : Int) < (m : Int)) = true := by simpa using hnm
  clear hA hD hq hr
  go_enter Tryd.func61, Tryd.ntmps61
  go_wp2_with fail
  obtain ⟨hB, b2, b3, k4, k5, b6⟩ := boxes4 w 29 #[.slice A n c] #[.slice D m ce] #[.slice none 0 0] #[.slice none 0 0]
  generalize hW : (((w.alloc (.cells #[.slice A n c] 29)).alloc (.cells #[.slice D m ce] 29)).alloc (.cells #[.slice none 0 0] 29)).alloc (.cells #[.slice none 0 0] 29) = W0 at *
  have g2 : W0.cell? ⟨w.heap.size, 0, none⟩ = some (.slice A n c) := b2.cell 0
  have g3 : W0.cell? ⟨w.heap.size + 1, 0, none⟩ = some (.slice D m ce) := b3.cell 0
  clear hW b2 b3
  refine (HU.out _).mono ?_
  rintro e w1 ⟨rfl, hb⟩
  have hB := keep_below hB hb
  have g2 := keep_cell hb g2
  have g3 := keep_cell hb g3
  have k4 := keep_blk hb k4
  have k5 := keep_blk hb k5
  clear hb b6
  go_wp2_with fail
  have j2 : w1.drew.cell? ⟨w.heap.size, 0, none⟩ = some (.slice A n c) := g2
  have j3 : w1.drew.cell? ⟨w.heap.size + 1, 0, none⟩ = some (.slice D m ce) := g3
  have hbr : Below w1.heap.size w1 w1.drew := (Below.refl _ w1).drew
  go_region_held3 (fun w' => Below w1.heap.size w1 w' ∧ w'.cell? ⟨w.heap.size, 0, none⟩ = some (.slice A n c) ∧ w'.cell? ⟨w.heap.size + 1, 0, none⟩ = some (.slice D m ce))
    (first | (with_reducible exact ⟨hbr, j2, j3⟩) | (go_split_ands; (repeat' apply And.intro); all_goals (first | with_reducible assumption | with_reducible exact keep_below (by with_reducible assumption) hb | with_reducible exact keep_cell hb (by with_reducible assumption))))
    (first | (go_at_call 36; (with_reducible refine (nat_len 0 _ _ _ _).mono ?_); rintro e w' ⟨rfl, hb⟩))
  rename_i hH
  obtain ⟨hb3, g2', g3'⟩ := hH
  have hB := keep_below hB hb3
  have k4 := keep_blk hb3 k4
  have k5 := keep_blk hb3 k5
  clear hb3 hb j2 j3 hbr g3' g2 g3
  go_wp2_with fail
  refine (HWS.out _ hB).mono ?_
  rintro e w3 ⟨A1, c1, rfl, hr1, hc1, ⟨hc2, _⟩, hb⟩
  have hB := keep_below hB hb
  have k4 := keep_blk hb k4
  have k5 := keep_blk hb k5
  have O := nat_of A1 _ c1 _ w3 hr1 (dg_dgs (by decide) x) hc1 hc2 (by have := HLN.out; omega)
  rw [dv_dg (by decide)] at O
  have HO := Lib.hid O
  rw [HLN.out] at HO ⊢
  clear O hr1 hb g2'
  go_wp2_with fail
  refine HO.out.mono ?_
  rintro e w' ⟨A3, n3, c3, rfl, hw3, hb, hf3⟩
  have hB := keep_below hB hb
  have k4 := keep_blk hb k4
  have k5 := keep_blk hb k5
  have f4 := k4.frozen 0
  have f5 := k5.frozen 0
  have e4 := k4.cell 0
  have e5 := k5.cell 0
  have p4 : Blk1 w' (w.heap.size + 1 + 1) (.slice none 0 0) := ⟨_, k4⟩
  have p5 : Blk1 w' (w.heap.size + 1 + 1 + 1) (.slice none 0 0) := ⟨_, k5⟩
  have p5' := p5.far (p := ⟨w.heap.size + 1 + 1, 0, none⟩) (by show w.heap.size + 1 + 1 + 1 ≠ w.heap.size + 1 + 1; omega) (.slice none 0 0)
  have r4 := ((p4.set_ (.slice none 0 0)).far (p := ⟨w.heap.size + 1 + 1 + 1, 0, none⟩) (by show w.heap.size + 1 + 1 ≠ w.heap.size + 1 + 1 + 1; omega) (.slice A3 n3 c3)).cell
  have r5 := (p5'.set_ (.slice A3 n3 c3)).cell
  have HG : Hid (GivesQR w 0 x true (.returned (.tuple #[.agg #[.slice none 0 0], .agg #[.slice A3 n3 c3], .bool true])) ((w'.setCell ⟨w.heap.size + 1 + 1, 0, none⟩ (.slice none 0 0)).setCell ⟨w.heap.size + 1 + 1 + 1, 0, none⟩ (.slice A3 n3 c3))) :=
    ⟨none, 0, 0, A3, n3, c3, rfl, words_zero _, words_set_blk1 (words_set_blk1 hw3 p4 _) p5' _,
      (hB.setCell (p := ⟨w.heap.size + 1 + 1, 0, none⟩) (by show w.heap.size ≤ w.heap.size + 1 + 1; omega) _).setCell (p := ⟨w.heap.size + 1 + 1 + 1, 0, none⟩) (by show w.heap.size ≤ w.heap.size + 1 + 1 + 1; omega) _⟩
  clear hb hw3 hf3 k4 k5 p4 p5 p5' hB
  go_wp2
  refine bodyPost_ret (v := .tuple #[.agg #[.slice none 0 0], .agg #[.slice A3 n3 c3], .bool true]) (by simp [results, Tryd.results61, go_sem, r4, r5]) rfl ?_
  exact HG.out
set_option maxHeartbeats 4000000 in
theorem quot_divmod_long (x d : Nat) (A D : Option Addr) (n m c ce : Nat) (w : World) (hA : WordsIn w x A n c) (hD : WordsIn w d D m ce) (hm : 2 ≤ m) (hmn : m ≤ n) (hn : n ≤ 274877906944) :
    Calls Tryd.prog 61 #[.agg #[.slice A n c], .agg #[.slice D m ce]] w (GivesQR w (x / d) (x % d) true) := by
  have HU := Lib.hid (fun w' => nat_uint_more D m ce w' (by omega))
  have HWS := Lib.hid (fun w' (hb : Below w.heap.size w w') => quot_bywords x d A D n m c ce w' (hA.below hb) (hD.below hb) hm hmn hn)
  have t1 : decide ((n : Int) < (m : Int)) = false := by simpa using hmn
  have t2 : ¬ n < m := by omega
  obtain ⟨xq, hxq⟩ : ∃ q, x / d = q := ⟨_, rfl⟩
  obtain ⟨xr, hxr⟩ : ∃ q, x % d = q := ⟨_, rfl⟩
  rw [hxq, hxr] at HWS ⊢
  clear hA hD hxq hxr
  go_enter Tryd.func61, Tryd.ntmps61
  go_wp2_with fail
  obtain ⟨hB, b2, b3, k4, k5, b6⟩ := boxes4 w 29 #[.slice A n c] #[.slice D m ce] #[.slice none 0 0] #[.slice none 0 0]
  generalize hW : (((w.alloc (.cells #[.slice A n c] 29)).alloc (.cells #[.slice D m ce] 29)).alloc (.cells #[.slice none 0 0] 29)).alloc (.cells #[.slice none 0 0] 29) = W0 at *
  have g2 : W0.cell? ⟨w.heap.size, 0, none⟩ = some (.slice A n c) := b2.cell 0
  have g3 : W0.cell? ⟨w.heap.size + 1, 0, none⟩ = some (.slice D m ce) := b3.cell 0
  clear hW b2 b3
  refine (HU.out _).mono ?_
  rintro e w1 ⟨rfl, hb⟩
  have hB := keep_below hB hb
  have g2 := keep_cell hb g2
  have g3 := keep_cell hb g3
  have k4 := keep_blk hb k4
  have k5 := keep_blk hb k5
  clear hb b6
  go_wp2_with fail
  have j2 : w1.drew.cell? ⟨w.heap.size, 0, none⟩ = some (.slice A n c) := g2
  have j3 : w1.drew.cell? ⟨w.heap.size + 1, 0, none⟩ = some (.slice D m ce) := g3
  have hbr : Below w1.heap.size w1 w1.drew := (Below.refl _ w1).drew
  go_region_held3 (fun w' => Below w1.heap.size w1 w' ∧ w'.cell? ⟨w.heap.size, 0, none⟩ = some (.slice A n c) ∧ w'.cell? ⟨w.heap.size + 1, 0, none⟩ = some (.slice D m ce))
    (first | (with_reducible exact ⟨hbr, j2, j3⟩) | (go_split_ands; (repeat' apply And.intro); all_goals (first | with_reducible assumption | with_reducible exact keep_below (by with_reducible assumption) hb | with_reducible exact keep_cell hb (by with_reducible assumption))))
    (first | (go_at_call 36; (with_reducible refine (nat_len 0 _ _ _ _).mono ?_); rintro e w' ⟨rfl, hb⟩))
  rename_i hH
  obtain ⟨hb3, g2', g3'⟩ := hH
  have hB := keep_below hB hb3
  have k4 := keep_blk hb3 k4
  have k5 := keep_blk hb3 k5
  clear hb3 hb j2 j3 hbr g2 g3
  go_wp2_with fail
  refine (HWS.out _ hB).mono ?_
  rintro e w3 ⟨A2, n2, c2, A3, n3, c3, rfl, hw2, hw3, hb⟩
  have hB := keep_below hB hb
  have k4 := keep_blk hb k4
  have k5 := keep_blk hb k5
  obtain ⟨d1, d2, d3, d5⟩ := box2 w3 29 29 #[.slice A2 n2 c2] #[.slice A3 n3 c3]
  have l5 := k5.lt
  obtain ⟨m1, m2, m3, m4⟩ : w3.heap.size ≠ w.heap.size + 1 + 1 ∧ w3.heap.size ≠ w.heap.size + 1 + 1 + 1 ∧ w3.heap.size + 1 ≠ w.heap.size + 1 + 1 ∧ w3.heap.size + 1 ≠ w.heap.size + 1 + 1 + 1 := by omega
  have hB := keep_below hB d1
  have k4 := keep_blk d1 k4
  have k5 := keep_blk d1 k5
  have hw2 := hw2.below d1
  have hw3 := hw3.below d1
  have c2' : ((w3.alloc (.cells #[.slice A2 n2 c2] 29)).alloc (.cells #[.slice A3 n3 c3] 29)).cell? ⟨w3.heap.size, 0, none⟩ = some (.slice A2 n2 c2) := d2.cell 0
  have c3' : ((w3.alloc (.cells #[.slice A2 n2 c2] 29)).alloc (.cells #[.slice A3 n3 c3] 29)).cell? ⟨w3.heap.size + 1, 0, none⟩ = some (.slice A3 n3 c3) := d3.cell 0
  clear d1 d2 d3 d5 hb g2' g3' l5
  go_wp2_with fail
  generalize (w3.alloc (.cells #[.slice A2 n2 c2] 29)).alloc (.cells #[.slice A3 n3 c3] 29) = W' at *
  generalize w3.heap.size = z at *
  have j2 : W'.drew.cell? ⟨z, 0, none⟩ = some (.slice A2 n2 c2) := c2'
  have j3 : W'.drew.cell? ⟨z + 1, 0, none⟩ = some (.slice A3 n3 c3) := c3'
  have f4 := k4.drew.frozen 0
  have f5 := k5.drew.frozen 0
  have e4 := k4.drew.cell 0
  have e5 := k5.drew.cell 0
  have f4' := k4.frozen 0
  have f5' := k5.frozen 0
  have e4' := k4.cell 0
  have e5' := k5.cell 0
  go_region_held3 (fun w' => w'.cell? ⟨z, 0, none⟩ = some (.slice A2 n2 c2) ∧ w'.cell? ⟨z + 1, 0, none⟩ = some (.slice A3 n3 c3))
    (first | (with_reducible exact ⟨j2, j3⟩) | (go_split_ands; (repeat' apply And.intro); all_goals (first | with_reducible assumption | with_reducible exact (cell_drew_own _ _).trans (keep_cell_set _ (by first | (simp; done) | (simp; omega)) (by with_reducible assumption)) | with_reducible exact (cell_drew_own _ _).trans (keep_cell_set _ (by first | (simp; done) | (simp; omega)) (keep_cell_set _ (by first | (simp; done) | (simp; omega)) (by with_reducible assumption))) | with_reducible exact keep_cell_set _ (by first | (simp; done) | (simp; omega)) (by with_reducible assumption) | with_reducible exact keep_cell_set _ (by first | (simp; done) | (simp; omega)) (keep_cell_set _ (by first | (simp; done) | (simp; omega)) (by with_reducible assumption)))))
    (fail)
  have p4 : Blk1 W' (w.heap.size + 1 + 1) (.slice none 0 0) := ⟨_, k4⟩
  have p5 : Blk1 W' (w.heap.size + 1 + 1 + 1) (.slice none 0 0) := ⟨_, k5⟩
  have p5' := p5.far (p := ⟨w.heap.size + 1 + 1, 0, none⟩) (by show w.heap.size + 1 + 1 + 1 ≠ w.heap.size + 1 + 1; omega) (.slice A2 n2 c2)
  have r4 := ((p4.set_ (.slice A2 n2 c2)).far (p := ⟨w.heap.size + 1 + 1 + 1, 0, none⟩) (by show w.heap.size + 1 + 1 ≠ w.heap.size + 1 + 1 + 1; omega) (.slice A3 n3 c3)).cell
  have r5 := (p5'.set_ (.slice A3 n3 c3)).cell
  have HG : Hid (GivesQR w xq xr true (.returned (.tuple #[.agg #[.slice A2 n2 c2], .agg #[.slice A3 n3 c3], .bool true])) ((W'.setCell ⟨w.heap.size + 1 + 1, 0, none⟩ (.slice A2 n2 c2)).setCell ⟨w.heap.size + 1 + 1 + 1, 0, none⟩ (.slice A3 n3 c3)).drew) :=
    ⟨A2, n2, c2, A3, n3, c3, rfl, words_set_blk1 (words_set_blk1 hw2 p4 _) p5' _, words_set_blk1 (words_set_blk1 hw3 p4 _) p5' _,
      ((hB.setCell (p := ⟨w.heap.size + 1 + 1, 0, none⟩) (by show w.heap.size ≤ w.heap.size + 1 + 1; omega) _).setCell (p := ⟨w.heap.size + 1 + 1 + 1, 0, none⟩) (by show w.heap.size ≤ w.heap.size + 1 + 1 + 1; omega) _).drew⟩
  clear hw2 hw3 k4 k5 p4 p5 p5' hB c2' c3' j2 j3 f4 f5 e4 e5 f4' f5' e4' e5'
  go_wp2
  refine bodyPost_ret (v := .tuple #[.agg #[.slice A2 n2 c2], .agg #[.slice A3 n3 c3], .bool true]) (by simp [results, Tryd.results61, go_sem, r4, r5]) rfl ?_
  exact HG.out
/-- DivMod: a quotient and what is left. -/
theorem quot_divmod (x d : Nat) (A D : Option Addr) (n m c ce : Nat) (w : World) (hA : WordsIn w x A n c) (hD : WordsIn w d D m ce) (hn : n ≤ 274877906944) (hm : m ≤ 274877906944) (hd : d ≠ 0) :
    Calls Tryd.prog 61 #[.agg #[.slice A n c], .agg #[.slice D m ce]] w (GivesQR w (x / d) (x % d) true) := by
  by_cases h1 : m ≤ 1
  · have hd1 := one_word hD.len h1
    exact quot_divmod_one x d (x / d) (x % d) true A D n m c ce w hA hD h1 (Nat.lt_trans (Nat.mod_lt _ (Nat.pos_of_ne_zero hd)) hd1) (fun w' hb => quot_byword x d A n c w' (hA.below hb) hn hd1 hd)
  · by_cases h2 : n < m
    · exact quot_divmod_small x d A D n m c ce w hA hD (by omega) h2 hm
    · exact quot_divmod_long x d A D n m c ce w hA hD (by omega) (by omega) hn
theorem quot_divmod_no (x d : Nat) (A D : Option Addr) (n m c ce : Nat) (w : World) (hA : WordsIn w x A n c) (hD : WordsIn w d D m ce) (hd : d = 0) :
    Calls Tryd.prog 61 #[.agg #[.slice A n c], .agg #[.slice D m ce]] w (GivesQR w 0 0 false) := by
  subst hd
  obtain rfl : m = 0 := by have := hD.len; rw [dg_zero] at this; exact this.symm
  exact quot_divmod_one x 0 0 0 false A D n 0 c ce w hA hD (by decide) (by decide) (fun w' hb => quot_byword_no x A n c w' (hA.below hb))
end Go.Proofs.YtplgbokgfphjaaaDoor
namespace Go.Proofs.YtplgbokgfphjaaaDoor
open Go Go.RowKit
set_option maxRecDepth 100000
set_option linter.unusedVariables false
set_option maxHeartbeats 2000000 in
theorem quot_div_of (q r : Nat) (b : Bool) (A D : Option Addr) (n m c ce : Nat) (w : World) (HDM : ∀ w', Below w.heap.size w w' → Calls Tryd.prog 61 #[.agg #[.slice A n c], .agg #[.slice D m ce]] w' (GivesQR w' q r b)) :
    Calls Tryd.prog 49 #[.agg #[.slice A n c], .agg #[.slice D m ce]] w (GivesNB w q b) := by
  have HD := Lib.hid HDM
  clear HDM
  go_enter Tryd.func49, Tryd.ntmps49
  go_wp2_with fail
  obtain ⟨hB, b2, b3, k4, b5⟩ := box3 w 29 29 29 #[.slice A n c] #[.slice D m ce] #[.slice none 0 0]
  generalize hW : ((w.alloc (.cells #[.slice A n c] 29)).alloc (.cells #[.slice D m ce] 29)).alloc (.cells #[.slice none 0 0] 29) = W0 at *
  clear hW b2 b3
  refine (HD.out _ hB).mono ?_
  rintro e w3 ⟨A2, n2, c2, A3, n3, c3, rfl, hw2, hw3, hb⟩
  have hB := keep_below hB hb
  have k4 := keep_blk hb k4
  have l4 := k4.lt
  obtain ⟨d1, d2, d3, d5⟩ := box2 w3 29 29 #[.slice A2 n2 c2] #[.slice A3 n3 c3]
  have hB := keep_below hB d1
  have k4 := keep_blk d1 k4
  have hw2 := hw2.below d1
  clear d1 d3 d5 hb hw3 b5
  have g6 : ((w3.alloc (.cells #[.slice A2 n2 c2] 29)).alloc (.cells #[.slice A3 n3 c3] 29)).cell? ⟨w3.heap.size, 0, none⟩ = some (.slice A2 n2 c2) := d2.cell 0
  have f4 := k4.frozen 0
  have e4 := k4.cell 0
  have p4 : Blk1 _ (w.heap.size + 1 + 1) (.slice none 0 0) := ⟨_, k4⟩
  have r4 := (p4.set_ (.slice A2 n2 c2)).cell
  have HG : Hid (GivesNB w q b (.returned (.tuple #[.agg #[.slice A2 n2 c2], .bool b])) (((w3.alloc (.cells #[.slice A2 n2 c2] 29)).alloc (.cells #[.slice A3 n3 c3] 29)).setCell ⟨w.heap.size + 1 + 1, 0, none⟩ (.slice A2 n2 c2))) :=
    ⟨A2, n2, c2, rfl, words_set_blk1 hw2 p4 _, hB.setCell (p := ⟨w.heap.size + 1 + 1, 0, none⟩) (by show w.heap.size ≤ w.heap.size + 1 + 1; omega) _⟩
  clear hw2 k4 p4 hB d2
  go_wp2
  refine bodyPost_ret (v := .tuple #[.agg #[.slice A2 n2 c2], .bool b]) (by simp [results, Tryd.results49, go_sem, r4]) rfl ?_
  exact HG.out
set_option maxHeartbeats 2000000 in
theorem quot_mod_of (q r : Nat) (b : Bool) (A D : Option Addr) (n m c ce : Nat) (w : World) (HDM : ∀ w', Below w.heap.size w w' → Calls Tryd.prog 61 #[.agg #[.slice A n c], .agg #[.slice D m ce]] w' (GivesQR w' q r b)) :
    Calls Tryd.prog 46 #[.agg #[.slice A n c], .agg #[.slice D m ce]] w (GivesNB w r b) := by
  have HD := Lib.hid HDM
  clear HDM
  go_enter Tryd.func46, Tryd.ntmps46
  go_wp2_with fail
  obtain ⟨hB, b2, b3, k4, b5⟩ := box3 w 29 29 29 #[.slice A n c] #[.slice D m ce] #[.slice none 0 0]
  generalize hW : ((w.alloc (.cells #[.slice A n c] 29)).alloc (.cells #[.slice D m ce] 29)).alloc (.cells #[.slice none 0 0] 29) = W0 at *
  clear hW b2 b3
  refine (HD.out _ hB).mono ?_
  rintro e w3 ⟨A2, n2, c2, A3, n3, c3, rfl, hw2, hw3, hb⟩
  have hB := keep_below hB hb
  have k4 := keep_blk hb k4
  have l4 := k4.lt
  obtain ⟨d1, d2, d3, d5⟩ := box2 w3 29 29 #[.slice A2 n2 c2] #[.slice A3 n3 c3]
  have hB := keep_below hB d1
  have k4 := keep_blk d1 k4
  have hw3 := hw3.below d1
  clear d1 d2 d5 hb hw2 b5
  have g6 : ((w3.alloc (.cells #[.slice A2 n2 c2] 29)).alloc (.cells #[.slice A3 n3 c3] 29)).cell? ⟨w3.heap.size + 1, 0, none⟩ = some (.slice A3 n3 c3) := d3.cell 0
  have f4 := k4.frozen 0
  have e4 := k4.cell 0
  have p4 : Blk1 _ (w.heap.size + 1 + 1) (.slice none 0 0) := ⟨_, k4⟩
  have r4 := (p4.set_ (.slice A3 n3 c3)).cell
  have HG : Hid (GivesNB w r b (.returned (.tuple #[.agg #[.slice A3 n3 c3], .bool b])) (((w3.alloc (.cells #[.slice A2 n2 c2] 29)).alloc (.cells #[.slice A3 n3 c3] 29)).setCell ⟨w.heap.size + 1 + 1, 0, none⟩ (.slice A3 n3 c3))) :=
    ⟨A3, n3, c3, rfl, words_set_blk1 hw3 p4 _, hB.setCell (p := ⟨w.heap.size + 1 + 1, 0, none⟩) (by show w.heap.size ≤ w.heap.size + 1 + 1; omega) _⟩
  clear hw3 k4 p4 hB d3
  go_wp2
  refine bodyPost_ret (v := .tuple #[.agg #[.slice A3 n3 c3], .bool b]) (by simp [results, Tryd.results46, go_sem, r4]) rfl ?_
  exact HG.out
set_option maxHeartbeats 2000000 in
theorem quot_divides_no (x : Nat) (b : Bool) (D A : Option Addr) (m n d c : Nat) (w : World) (hA : WordsIn w x A n c) (hb : b = decide (x = 0))
    (HMO : ∀ w', Below w.heap.size w w' → Calls Tryd.prog 46 #[.agg #[.slice A n c], .agg #[.slice D m d]] w' (GivesNB w' 0 false)) :
    Calls Tryd.prog 19 #[.agg #[.slice D m d], .agg #[.slice A n c]] w fun e w' => e = .returned (.bool b) ∧ Below w.heap.size w w' := by
  have HM := Lib.hid HMO
  have HZ := Lib.hid (fun w' (h : Below w.heap.size w w') => show Calls Tryd.prog 18 #[.agg #[.slice A n c]] w' fun e w'' => e = .returned (.bool b) ∧ Below w'.heap.size w' w'' from by
    by_cases hx : x = 0
    · rw [hb, decide_eq_true hx]; exact zero_yes hx (hA.below h)
    · rw [hb, decide_eq_false hx]; exact zero_no hx (hA.below h))
  clear HMO hA hb
  go_enter Tryd.func19, Tryd.ntmps19
  go_wp2_with fail
  obtain ⟨hB, b2, b3, b5⟩ := box2 w 29 29 #[.slice D m d] #[.slice A n c]
  generalize hW : (w.alloc (.cells #[.slice D m d] 29)).alloc (.cells #[.slice A n c] 29) = W0 at *
  have g3 : W0.cell? ⟨w.heap.size + 1, 0, none⟩ = some (.slice A n c) := b3.cell 0
  clear hW b2 b3 b5
  refine (HM.out _ hB).mono ?_
  rintro e w3 ⟨A2, n2, c2, rfl, hw2, hb⟩
  have hB := keep_below hB hb
  have g3 := keep_cell hb g3
  have hB := keep_below_alloc (.cells #[.slice A2 n2 c2] 29) hB
  have g3 := keep_cell_alloc (.cells #[.slice A2 n2 c2] 29) g3
  clear hb hw2
  go_wp2_with fail
  refine (HZ.out _ hB).mono ?_
  rintro e w4 ⟨rfl, hb⟩
  have hB := keep_below hB hb
  clear hb g3
  go_wp2
  go_ret
  exact ⟨rfl, hB⟩
set_option maxHeartbeats 2000000 in
theorem quot_divides_yes (r : Nat) (b : Bool) (D A : Option Addr) (m n d c : Nat) (w : World) (hb : b = decide (r = 0))
    (HMO : ∀ w', Below w.heap.size w w' → Calls Tryd.prog 46 #[.agg #[.slice A n c], .agg #[.slice D m d]] w' (GivesNB w' r true)) :
    Calls Tryd.prog 19 #[.agg #[.slice D m d], .agg #[.slice A n c]] w fun e w' => e = .returned (.bool b) ∧ Below w.heap.size w w' := by
  have HM := Lib.hid HMO
  have HZ := Lib.hid (fun w' A' n' c' (h : WordsIn w' r A' n' c') => show Calls Tryd.prog 18 #[.agg #[.slice A' n' c']] w' fun e w'' => e = .returned (.bool b) ∧ Below w'.heap.size w' w'' from by
    by_cases hx : r = 0
    · rw [hb, decide_eq_true hx]; exact zero_yes hx h
    · rw [hb, decide_eq_false hx]; exact zero_no hx h)
  clear HMO hb
  go_enter Tryd.func19, Tryd.ntmps19
  go_wp2_with fail
  obtain ⟨hB, b2, b3, b5⟩ := box2 w 29 29 #[.slice D m d] #[.slice A n c]
  generalize hW : (w.alloc (.cells #[.slice D m d] 29)).alloc (.cells #[.slice A n c] 29) = W0 at *
  clear hW b2 b3 b5
  refine (HM.out _ hB).mono ?_
  rintro e w3 ⟨A2, n2, c2, rfl, hw2, hb⟩
  have hB := keep_below hB hb
  obtain ⟨d1, d2, d5⟩ := box1 w3 29 #[.slice A2 n2 c2]
  have hB := keep_below hB d1
  have hw2 := hw2.below d1
  have g5 : (w3.alloc (.cells #[.slice A2 n2 c2] 29)).cell? ⟨w3.heap.size, 0, none⟩ = some (.slice A2 n2 c2) := d2.cell 0
  have HZ2 := Lib.hid (HZ.out _ _ _ _ hw2)
  clear d1 d2 d5 hb hw2
  go_wp2_with fail
  refine HZ2.out.mono ?_
  rintro e w4 ⟨rfl, hb⟩
  have hB := keep_below hB hb
  clear hb g5
  go_wp2
  go_ret
  exact ⟨rfl, hB⟩
end Go.Proofs.YtplgbokgfphjaaaDoor
namespace Go.Proofs.YtplgbokgfphjaaaDoor
open Go Go.RowKit
set_option linter.unusedVariables false
theorem quotC : QuotC where
  divMod x y A D n m c d w hA hD hn hm hy := quot_divmod x y A D n m c d w hA hD (by omega) (by omega) hy
  divModNo x y A D n m c d w hA hD hn hm hy := quot_divmod_no x y A D n m c d w hA hD hy
  div x y A D n m c d w hA hD hn hm hy := quot_div_of (x / y) (x % y) true A D n m c d w (fun w' hb => quot_divmod x y A D n m c d w' (hA.below hb) (hD.below hb) (by omega) (by omega) hy)
  mod x y A D n m c d w hA hD hn hm hy := quot_mod_of (x / y) (x % y) true A D n m c d w (fun w' hb => quot_divmod x y A D n m c d w' (hA.below hb) (hD.below hb) (by omega) (by omega) hy)
  byWord x a A n c w hA hn ha ha0 := quot_byword x a A n c w hA (by omega) ha ha0
  byWordNo x A n c w hA hn := quot_byword_no x A n c w hA
  divides y x D A m n d c w hD hA hm hn := by
    by_cases hy : y = 0
    · refine quot_divides_no x _ D A m n d c w hA (by subst hy; exact dvdB_zero x) (fun w' hb => ?_)
      exact quot_mod_of 0 0 false A D n m c d w' (fun w'' hb' => quot_divmod_no x y A D n m c d w'' ((hA.below hb).below hb') ((hD.below hb).below hb') hy)
    · refine quot_divides_yes (x % y) _ D A m n d c w rfl (fun w' hb => ?_)
      exact quot_mod_of (x / y) (x % y) true A D n m c d w' (fun w'' hb' => quot_divmod x y A D n m c d w'' ((hA.below hb).below hb') ((hD.below hb).below hb') (by omega) (by omega) hy)
end Go.Proofs.YtplgbokgfphjaaaDoor
