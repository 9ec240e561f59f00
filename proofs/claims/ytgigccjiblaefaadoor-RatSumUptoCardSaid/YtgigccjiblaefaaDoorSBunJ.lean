/- What this claim leans on. -/
import Derived.Test.YtgigccjiblaefaaDoorSBunI
namespace Go.Proofs.YtgigccjiblaefaaDoor
open Go Go.RowKit
set_option maxRecDepth 100000
set_option linter.unusedVariables false
theorem zeg (x y : Nat) (A D : Option Addr) (n m c d : Nat) (w : World) (hA : zae w x A n c) (hD : zae w y D m d) (hn : n ≤ 274877906944) (hm : m ≤ 274877906944) :
  Calls Tryd.prog 58 #[.agg #[.slice A n c], .agg #[.slice D m d]] w (zcN w (x / y) (decide (y ≠ 0))) := by
 by_cases hy : y = 0
 ·have e : x / y = 0 := by rw [hy, Nat.div_zero]
  have e2 : decide (y ≠ 0) = false := by simp [hy]
  rw [e, e2]
  exact zdc 0 0 false A D n m c d w (fun w' hb => zce x y A D n m c d w' (hA.below hb) (hD.below hb) hy)
 ·have e2 : decide (y ≠ 0) = true := by simp [hy]
  rw [e2]
  exact zdc (x / y) (x % y) true A D n m c d w (fun w' hb => zbO x y A D n m c d w' (hA.below hb) (hD.below hb) (by omega) (by omega) hy)
set_option maxHeartbeats 8000000 in
theorem zhX (x y : Nat) (A D : Option Addr) (n m c d : Nat) (w : World) (hA : zae w x A n c) (hD : zae w y D m d) (hn : n ≤ 1073741824) (hm : m ≤ 1073741824) (hT : zal w) :
  Calls Tryd.prog 37 #[.agg #[.slice A n c], .agg #[.slice D m d]] w (zga w (x / Nat.gcd x y) (y / Nat.gcd x y)) := by
 have HO := Lib.hid (fun w' (hb : Below w.heap.size w w') => gcd_of x y A D n m c d w' (hA.below hb) (hD.below hb) hn hm (hT.on hb))
 obtain ⟨g, hg⟩ : ∃ g, Nat.gcd x y = g := ⟨_, rfl⟩
 have lg : (dg 18446744073709551616 g).length ≤ 2147483648 := by
  rw [← hg]
  rcases Nat.eq_zero_or_pos x with e | e
  ·rw [e, Nat.gcd_zero_left, hD.len]; omega
  ·exact Nat.le_trans (zaJ (by decide) (Nat.gcd_le_left y e)) (by rw [hA.len]; omega)
 rw [hg] at HO ⊢
 have HDA := Lib.hid (fun w' (hb : Below w.heap.size w w') A1 n1 c1 (h1 : zae w' g A1 n1 c1) => zeg x g A A1 n n1 c c1 w' (hA.below hb) h1 (by omega) (by rw [← h1.len]; omega))
 have HDB := Lib.hid (fun w' (hb : Below w.heap.size w w') A1 n1 c1 (h1 : zae w' g A1 n1 c1) => zeg y g D A1 m n1 d c1 w' (hD.below hb) h1 (by omega) (by rw [← h1.len]; omega))
 obtain ⟨X, hX⟩ : ∃ g', x / g = g' := ⟨_, rfl⟩
 obtain ⟨Y, hY⟩ : ∃ g', y / g = g' := ⟨_, rfl⟩
 obtain ⟨bb, hbb⟩ : ∃ g' : Bool, decide (g ≠ 0) = g' := ⟨_, rfl⟩
 rw [hX, hbb] at HDA
 rw [hY, hbb] at HDB
 rw [hX, hY]
 clear hA hD hT hg lg hX hY hbb
 go_enter Tryd.func37, Tryd.ntmps37
 go_wp2_with fail
 obtain ⟨b1, b2, b3, b4, b5⟩ := zbg w 29 29 29 #[.slice A n c] #[.slice D m d] #[.slice none 0 0]
 obtain ⟨W3, hW3⟩ : ∃ W, ((w.alloc (.cells #[.slice A n c] 29)).alloc (.cells #[.slice D m d] 29)).alloc (.cells #[.slice none 0 0] 29) = W := ⟨_, rfl⟩
 rw [hW3] at b1 b2 b3 b4 b5 ⊢
 have hs3 : W3.heap.size = w.heap.size + 1 + 1 + 1 := by rw [← hW3]; simp
 have kA := b2.one.alloc (.cells #[.slice none 0 0] 29)
 have kD := b3.one.alloc (.cells #[.slice none 0 0] 29)
 have kx := b4.one.alloc (.cells #[.slice none 0 0] 29)
 have ky := zaY.new W3 29 (.slice none 0 0)
 rw [hs3] at ky
 have hB := b1.alloc b1.size (.cells #[.slice none 0 0] 29)
 clear b1 b2 b3 b4 b5 hW3 hs3
 generalize W3.alloc (.cells #[.slice none 0 0] 29) = W4 at *
 obtain ⟨p, hp⟩ : ∃ p, w.heap.size = p := ⟨_, rfl⟩
 have hpw : w.heap.size ≤ p := by omega
 refine (HO.out _ hB).mono ?_
 rw [hp] at kA kD kx ky ⊢
 clear hp
 rintro e w1 ⟨A1, n1, c1, rfl, hg1, hb⟩
 obtain ⟨d1, d2, d3⟩ := zaS w1 29 #[.slice A1 n1 c1]
 have hbb := zab hb d1
 have kA := kA.keep hbb
 have kD := kD.keep hbb
 have kx := kx.keep hbb
 have ky := ky.keep hbb
 have hB := zab hB hbb
 have hg1 := hg1.below d1
 have kg := d2.one
 clear d1 d2 d3 hb hbb
 have e1 := kA.cell
 have e2 := kg.cell
 go_wp2_with fail
 generalize hW5 : w1.alloc (.cells #[.slice A1 n1 c1] 29) = W5 at *
 generalize w1.heap.size = z1 at *
 clear hW5
 refine (HDA.out _ hB A1 n1 c1 hg1).mono ?_
 clear e1 e2
 rintro e w2 ⟨A2, n2, c2, rfl, hx2, hb⟩
 have hz2 := (ky.keep hb).lt
 obtain ⟨d1, d2, d3⟩ := zaS w2 29 #[.slice A2 n2 c2]
 have hbb := zab hb d1
 have kD := kD.keep hbb
 have kx := kx.keep hbb
 have ky := ky.keep hbb
 have kg := kg.keep hbb
 have hB := zab hB hbb
 have hg1 := hg1.below hbb
 have hx2 := hx2.below d1
 have k7 := d2.one
 clear d1 d2 d3 hb hbb kA
 have e1 := kD.cell
 have e2 := kg.cell
 go_wp2_with fail
 generalize hW6 : w2.alloc (.cells #[.slice A2 n2 c2] 29) = W6 at *
 generalize w2.heap.size = z2 at *
 clear hW6
 refine (HDB.out _ hB A1 n1 c1 hg1).mono ?_
 clear e1 e2
 rintro e w3 ⟨A3, n3, c3, rfl, hy3, hb⟩
 have hz3 := (ky.keep hb).lt
 obtain ⟨d1, d2, d3⟩ := zaS w3 29 #[.slice A3 n3 c3]
 have hbb := zab hb d1
 have kx := kx.keep hbb
 have ky := ky.keep hbb
 have k7 := k7.keep hbb
 have hB := zab hB hbb
 have hx2 := hx2.below hbb
 have hy3 := hy3.below d1
 have k9 := d2.one
 clear d1 d2 d3 hb hbb kD kg hg1
 go_wp2_with fail
 generalize hW7 : w3.alloc (.cells #[.slice A3 n3 c3] 29) = W7 at *
 generalize w3.heap.size = z3 at *
 clear hW7
 have q7 : W7.cell? ⟨z2, 0, none⟩ = some (.slice A2 n2 c2) := k7.cell
 have q9 : W7.cell? ⟨z3, 0, none⟩ = some (.slice A3 n3 c3) := k9.cell
 have qx : W7.cell? ⟨p + 1 + 1, 0, none⟩ = some (.slice none 0 0) := kx.cell
 have qy : W7.cell? ⟨p + 1 + 1 + 1, 0, none⟩ = some (.slice none 0 0) := ky.cell
 have fx : W7.frozen? ⟨p + 1 + 1, 0, none⟩ = false := kx.frozen
 have fy : W7.frozen? ⟨p + 1 + 1 + 1, 0, none⟩ = false := ky.frozen
 have q9' := zaf (q := ⟨p + 1 + 1, 0, none⟩) (.slice A2 n2 c2) (by show z3 ≠ p + 1 + 1; omega) q9
 have kx1 := kx.set_ (.slice A2 n2 c2)
 have ky1 := ky.far (p := ⟨p + 1 + 1, 0, none⟩) (by show p + 1 + 1 + 1 ≠ p + 1 + 1; omega) (.slice A2 n2 c2)
 have qy' := ky1.cell
 have fy' := ky1.frozen
 have hx4 := zaj hx2 kx (.slice A2 n2 c2)
 have hy4 := zaj hy3 kx (.slice A2 n2 c2)
 have rx := (kx1.far (p := ⟨p + 1 + 1 + 1, 0, none⟩) (by show p + 1 + 1 ≠ p + 1 + 1 + 1; omega) (.slice A3 n3 c3)).cell
 have ry := (ky1.set_ (.slice A3 n3 c3)).cell
 have HE : Hid (zga w X Y (.returned (.tuple #[.agg #[.slice A2 n2 c2], .agg #[.slice A3 n3 c3]])) ((W7.setCell ⟨p + 1 + 1, 0, none⟩ (.slice A2 n2 c2)).setCell ⟨p + 1 + 1 + 1, 0, none⟩ (.slice A3 n3 c3)).drew) :=
  ⟨_, _, _, _, _, _, rfl, zaj hx4 ky1 _, zaj hy4 ky1 _, (hB.setCell (p := ⟨p + 1 + 1, 0, none⟩) (by show w.heap.size ≤ p + 1 + 1; omega) _).setCell (p := ⟨p + 1 + 1 + 1, 0, none⟩) (by show w.heap.size ≤ p + 1 + 1 + 1; omega) _ |>.drew⟩
 clear k7 k9 kx ky hB hx2 hy3 kx1 ky1 hx4 hy4
 go_region
 all_goals
  go_wp2
  refine bodyPost_ret (v := .tuple #[.agg #[.slice A2 n2 c2], .agg #[.slice A3 n3 c3]]) (by simp [results, Tryd.results37, go_sem, rx, ry]) rfl ?_
  exact HE.out
set_option linter.unusedSimpArgs false
theorem Sz.of_words {w : World} {x K n c : Nat} {A : Option Addr} (h : zae w x A n c) (hn : n ≤ K) : Sz K x := by
 have h1 := zaP (b := 18446744073709551616) (by decide) x
 rw [h.len] at h1
 exact Nat.lt_of_lt_of_le h1 (Nat.pow_le_pow_right (by decide) hn)
theorem gcdC : GcdC where
 of x y A D n m c d w hA hD hn hm hT := gcd_of x y A D n m c d w hA hD hn hm hT
 reduce x y A D n m c d w hA hD hn hm hT := zhX x y A D n m c d w hA hD hn hm hT
end Go.Proofs.YtgigccjiblaefaaDoor
