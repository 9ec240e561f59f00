/-
  The contracts of quot's Div, Mod and Divides. Conditions: the values are numbers of up to 2 to the 38 words.
-/
import Derived.Test.YtaemlkoklaoglaaRows
import Derived.Test.YtaemlkoklaoglaaQDiv
import Derived.WalkKit
import Derived.Lib.Hide
import Derived.Outline
namespace Go.Proofs.Ytaemlkoklaoglaa
open Go Go.RowKit
set_option maxRecDepth 100000
set_option linter.unusedVariables false
set_option maxHeartbeats 2000000 in
theorem quot_div_of (q r : Nat) (b : Bool) (A D : Option Addr) (n m c ce : Nat) (w : World) (HDM : ∀ w', Below w.heap.size w w' → Calls Try.prog 12 #[.agg #[.slice A n c], .agg #[.slice D m ce]] w' (GivesQR w' q r b)) :
    Calls Try.prog 21 #[.agg #[.slice A n c], .agg #[.slice D m ce]] w (GivesNB w q b) := by
  have HD := Lib.hid HDM
  clear HDM
  go_enter Try.func21, Try.ntmps21
  go_wp2_with fail
  obtain ⟨hB, b2, b3, k4, b5⟩ := box3 w 26 26 26 #[.slice A n c] #[.slice D m ce] #[.slice none 0 0]
  generalize hW : ((w.alloc (.cells #[.slice A n c] 26)).alloc (.cells #[.slice D m ce] 26)).alloc (.cells #[.slice none 0 0] 26) = W0 at *
  clear hW b2 b3
  refine (HD.out _ hB).mono ?_
  rintro e w3 ⟨A2, n2, c2, A3, n3, c3, rfl, hw2, hw3, hb⟩
  have hB := keep_below hB hb
  have k4 := keep_blk hb k4
  have l4 := k4.lt
  obtain ⟨d1, d2, d3, d5⟩ := box2 w3 26 26 #[.slice A2 n2 c2] #[.slice A3 n3 c3]
  have hB := keep_below hB d1
  have k4 := keep_blk d1 k4
  have hw2 := hw2.below d1
  clear d1 d3 d5 hb hw3 b5
  have g6 : ((w3.alloc (.cells #[.slice A2 n2 c2] 26)).alloc (.cells #[.slice A3 n3 c3] 26)).cell? ⟨w3.heap.size, 0, none⟩ = some (.slice A2 n2 c2) := d2.cell 0
  have f4 := k4.frozen 0
  have e4 := k4.cell 0
  have p4 : Blk1 _ (w.heap.size + 1 + 1) (.slice none 0 0) := ⟨_, k4⟩
  have r4 := (p4.set_ (.slice A2 n2 c2)).cell
  have HG : Hid (GivesNB w q b (.returned (.tuple #[.agg #[.slice A2 n2 c2], .bool b])) (((w3.alloc (.cells #[.slice A2 n2 c2] 26)).alloc (.cells #[.slice A3 n3 c3] 26)).setCell ⟨w.heap.size + 1 + 1, 0, none⟩ (.slice A2 n2 c2))) :=
    ⟨A2, n2, c2, rfl, words_set_blk1 hw2 p4 _, hB.setCell (p := ⟨w.heap.size + 1 + 1, 0, none⟩) (by show w.heap.size ≤ w.heap.size + 1 + 1; omega) _⟩
  clear hw2 k4 p4 hB d2
  go_wp2
  refine bodyPost_ret (v := .tuple #[.agg #[.slice A2 n2 c2], .bool b]) (by simp [results, Try.results21, go_sem, r4]) rfl ?_
  exact HG.out
set_option maxHeartbeats 2000000 in
theorem quot_mod_of (q r : Nat) (b : Bool) (A D : Option Addr) (n m c ce : Nat) (w : World) (HDM : ∀ w', Below w.heap.size w w' → Calls Try.prog 12 #[.agg #[.slice A n c], .agg #[.slice D m ce]] w' (GivesQR w' q r b)) :
    Calls Try.prog 22 #[.agg #[.slice A n c], .agg #[.slice D m ce]] w (GivesNB w r b) := by
  have HD := Lib.hid HDM
  clear HDM
  go_enter Try.func22, Try.ntmps22
  go_wp2_with fail
  obtain ⟨hB, b2, b3, k4, b5⟩ := box3 w 26 26 26 #[.slice A n c] #[.slice D m ce] #[.slice none 0 0]
  generalize hW : ((w.alloc (.cells #[.slice A n c] 26)).alloc (.cells #[.slice D m ce] 26)).alloc (.cells #[.slice none 0 0] 26) = W0 at *
  clear hW b2 b3
  refine (HD.out _ hB).mono ?_
  rintro e w3 ⟨A2, n2, c2, A3, n3, c3, rfl, hw2, hw3, hb⟩
  have hB := keep_below hB hb
  have k4 := keep_blk hb k4
  have l4 := k4.lt
  obtain ⟨d1, d2, d3, d5⟩ := box2 w3 26 26 #[.slice A2 n2 c2] #[.slice A3 n3 c3]
  have hB := keep_below hB d1
  have k4 := keep_blk d1 k4
  have hw3 := hw3.below d1
  clear d1 d2 d5 hb hw2 b5
  have g6 : ((w3.alloc (.cells #[.slice A2 n2 c2] 26)).alloc (.cells #[.slice A3 n3 c3] 26)).cell? ⟨w3.heap.size + 1, 0, none⟩ = some (.slice A3 n3 c3) := d3.cell 0
  have f4 := k4.frozen 0
  have e4 := k4.cell 0
  have p4 : Blk1 _ (w.heap.size + 1 + 1) (.slice none 0 0) := ⟨_, k4⟩
  have r4 := (p4.set_ (.slice A3 n3 c3)).cell
  have HG : Hid (GivesNB w r b (.returned (.tuple #[.agg #[.slice A3 n3 c3], .bool b])) (((w3.alloc (.cells #[.slice A2 n2 c2] 26)).alloc (.cells #[.slice A3 n3 c3] 26)).setCell ⟨w.heap.size + 1 + 1, 0, none⟩ (.slice A3 n3 c3))) :=
    ⟨A3, n3, c3, rfl, words_set_blk1 hw3 p4 _, hB.setCell (p := ⟨w.heap.size + 1 + 1, 0, none⟩) (by show w.heap.size ≤ w.heap.size + 1 + 1; omega) _⟩
  clear hw3 k4 p4 hB d3
  go_wp2
  refine bodyPost_ret (v := .tuple #[.agg #[.slice A3 n3 c3], .bool b]) (by simp [results, Try.results22, go_sem, r4]) rfl ?_
  exact HG.out
set_option maxHeartbeats 2000000 in
theorem quot_divides_no (x : Nat) (b : Bool) (D A : Option Addr) (m n d c : Nat) (w : World) (hA : WordsIn w x A n c) (hb : b = decide (x = 0))
    (HMO : ∀ w', Below w.heap.size w w' → Calls Try.prog 22 #[.agg #[.slice A n c], .agg #[.slice D m d]] w' (GivesNB w' 0 false)) :
    Calls Try.prog 14 #[.agg #[.slice D m d], .agg #[.slice A n c]] w fun e w' => e = .returned (.bool b) ∧ Below w.heap.size w w' := by
  have HM := Lib.hid HMO
  have HZ := Lib.hid (fun w' (h : Below w.heap.size w w') => show Calls Try.prog 13 #[.agg #[.slice A n c]] w' fun e w'' => e = .returned (.bool b) ∧ Below w'.heap.size w' w'' from by
    by_cases hx : x = 0
    · rw [hb, decide_eq_true hx]; exact zero_yes hx (hA.below h)
    · rw [hb, decide_eq_false hx]; exact zero_no hx (hA.below h))
  clear HMO hA hb
  go_enter Try.func14, Try.ntmps14
  go_wp2_with fail
  obtain ⟨hB, b2, b3, b5⟩ := box2 w 26 26 #[.slice D m d] #[.slice A n c]
  generalize hW : (w.alloc (.cells #[.slice D m d] 26)).alloc (.cells #[.slice A n c] 26) = W0 at *
  have g3 : W0.cell? ⟨w.heap.size + 1, 0, none⟩ = some (.slice A n c) := b3.cell 0
  clear hW b2 b3 b5
  refine (HM.out _ hB).mono ?_
  rintro e w3 ⟨A2, n2, c2, rfl, hw2, hb⟩
  have hB := keep_below hB hb
  have g3 := keep_cell hb g3
  have hB := keep_below_alloc (.cells #[.slice A2 n2 c2] 26) hB
  have g3 := keep_cell_alloc (.cells #[.slice A2 n2 c2] 26) g3
  clear hb hw2
  go_wp2_with fail
  refine (HZ.out _ hB).mono ?_
  rintro e w4 ⟨rfl, hb⟩
  have hB := keep_below hB hb
  clear hb g3
  go_wp2
  go_ret
  exact ⟨rfl, hB⟩
set_option maxHeartbeats 2000000 in
theorem quot_divides_yes (r : Nat) (b : Bool) (D A : Option Addr) (m n d c : Nat) (w : World) (hb : b = decide (r = 0))
    (HMO : ∀ w', Below w.heap.size w w' → Calls Try.prog 22 #[.agg #[.slice A n c], .agg #[.slice D m d]] w' (GivesNB w' r true)) :
    Calls Try.prog 14 #[.agg #[.slice D m d], .agg #[.slice A n c]] w fun e w' => e = .returned (.bool b) ∧ Below w.heap.size w w' := by
  have HM := Lib.hid HMO
  have HZ := Lib.hid (fun w' A' n' c' (h : WordsIn w' r A' n' c') => show Calls Try.prog 13 #[.agg #[.slice A' n' c']] w' fun e w'' => e = .returned (.bool b) ∧ Below w'.heap.size w' w'' from by
    by_cases hx : r = 0
    · rw [hb, decide_eq_true hx]; exact zero_yes hx h
    · rw [hb, decide_eq_false hx]; exact zero_no hx h)
  clear HMO hb
  go_enter Try.func14, Try.ntmps14
  go_wp2_with fail
  obtain ⟨hB, b2, b3, b5⟩ := box2 w 26 26 #[.slice D m d] #[.slice A n c]
  generalize hW : (w.alloc (.cells #[.slice D m d] 26)).alloc (.cells #[.slice A n c] 26) = W0 at *
  clear hW b2 b3 b5
  refine (HM.out _ hB).mono ?_
  rintro e w3 ⟨A2, n2, c2, rfl, hw2, hb⟩
  have hB := keep_below hB hb
  obtain ⟨d1, d2, d5⟩ := box1 w3 26 #[.slice A2 n2 c2]
  have hB := keep_below hB d1
  have hw2 := hw2.below d1
  have g5 : (w3.alloc (.cells #[.slice A2 n2 c2] 26)).cell? ⟨w3.heap.size, 0, none⟩ = some (.slice A2 n2 c2) := d2.cell 0
  have HZ2 := Lib.hid (HZ.out _ _ _ _ hw2)
  clear d1 d2 d5 hb hw2
  go_wp2_with fail
  refine HZ2.out.mono ?_
  rintro e w4 ⟨rfl, hb⟩
  have hB := keep_below hB hb
  clear hb g5
  go_wp2
  go_ret
  exact ⟨rfl, hB⟩
end Go.Proofs.Ytaemlkoklaoglaa
