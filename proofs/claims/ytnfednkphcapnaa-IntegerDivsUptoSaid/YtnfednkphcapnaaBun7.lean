/-
  The contracts of integer's signed, copied, New, Abs, Neg, Below, Sign. Conditions: the values are numbers of up to 2 to the 38 words.
  The contracts of integer's New, Abs, Neg, Below, Sign, Of, Int. Conditions: the values are numbers of up to 2 to the 38 words.
  The contracts of integer's sum, Add, Sub, Mul, Cmp. Conditions: the values are numbers of up to 2 to the 38 words.
-/
import Derived.Test.YtnfednkphcapnaaRows
import Derived.Test.YtnfednkphcapnaaBunB
import Derived.Test.YtnfednkphcapnaaBunO
import Derived.Test.YtnfednkphcapnaaBunN
import Derived.Test.YtnfednkphcapnaaNTold
import Derived.Test.YtnfednkphcapnaaBunK
import Derived.Test.YtnfednkphcapnaaBun3
import Derived.WalkKit
import Derived.Lib.Hide
import Derived.Outline
import Derived.Deep.RegionHeld3
import Derived.IntWalk
import Derived.BigQuiet
namespace Go.Proofs.Ytnfednkphcapnaa
open Go Go.RowKit
set_option maxRecDepth 100000
set_option linter.unusedVariables false
set_option linter.unusedSimpArgs false
/-- A sign and a number without it. -/
def sgnI (s : Bool) (x : Nat) : Int := if s then -(x : Int) else (x : Int)
theorem sgnI_abs (s : Bool) (x : Nat) : (sgnI s x).natAbs = x := by unfold sgnI; split <;> omega
theorem sgnI_neg (s : Bool) (x : Nat) : decide (sgnI s x < 0) = (s && decide (x ≠ 0)) := by unfold sgnI; cases s <;> simp [Nat.pos_iff_ne_zero]
theorem int_of_nat {w : World} {x : Nat} {A : Option Addr} {n c : Nat} (s : Bool) (h : WordsIn w x A n c) : IntIn w (sgnI s x) (s && decide (x ≠ 0)) A n c := ⟨(sgnI_neg s x).symm, by rw [sgnI_abs]; exact h⟩
set_option maxHeartbeats 2000000 in
theorem integer_copied (x : Nat) (A : Option Addr) (n c : Nat) (w : World) (hA : WordsIn w x A n c) (hn : n ≤ 1099511627776) :
    Calls Try.prog 43 #[.agg #[.slice A n c]] w (GivesN2 w x) := by
  obtain ⟨hB, b2, k3, b5⟩ := box2 w 27 27 #[.slice A n c] #[.slice none 0 0]
  have HWD := Lib.hid (nat_words x A n c _ (hA.below hB) hn)
  have hln := hA.len
  have HOF : Hid (∀ w' A' c', Reads w' w'.heap.size 1 A' n (vals .u64 (dg 18446744073709551616 x)) → n ≤ c' → c' ≤ 9223372036854775807 → Calls Try.prog 38 #[.slice A' n c'] w' (GivesN2 w' x)) := fun w' A' c' hr h1 h2 => by
    have h := nat_of A' n c' _ w' hr (dg_dgs (by decide) x) h1 h2 hn
    rwa [dv_dg (by decide)] at h
  clear hA
  go_enter Try.func43, Try.ntmps43
  go_wp2_with fail
  generalize (w.alloc (.cells #[.slice A n c] 27)).alloc (.cells #[.slice none 0 0] 27) = W0 at *
  have g1 : W0.cell? ⟨w.heap.size, 0, none⟩ = some (.slice A n c) := b2.cell 0
  clear b2 b5
  refine HWD.out.mono ?_
  intro e w1 hg
  obtain ⟨A1, c1, rfl, hr1, h1, h2, hb⟩ := hg
  rw [hln] at hr1 h1 ⊢
  have hk1 := keep_blk hb k3
  have hB1 := keep_below hB hb
  have HO2 := Lib.hid (HOF.out w1 A1 c1 hr1 h1 h2.1)
  clear hb k3 hB HWD hr1 h1 h2 g1 HOF hln
  go_wp2_with fail
  refine HO2.out.mono ?_
  rintro e w2 ⟨A2, n2, c2, rfl, hw2, hb, hf⟩
  have hk2 := keep_blk hb hk1
  have hB2 := keep_below hB1 hb
  have r0 := (blk_set1 hk2 (.slice A2 n2 c2)).cell 0
  have c0 := hk2.cell 0
  have f0 := hk2.frozen 0
  have HG : Hid (GivesN2 w x (.returned (.agg #[.slice A2 n2 c2])) (w2.setCell ⟨w.heap.size + 1, 0, none⟩ (.slice A2 n2 c2))) :=
    ⟨_, _, _, rfl, words_set_blk hw2 hk2 _, keep_below_set _ (by dsimp only; omega) hB2, hf.from_ hB1⟩
  clear hk2 hB2 hf hw2 hb hk1 hB1 HO2
  go_wp2
  refine bodyPost_ret (v := .agg #[.slice A2 n2 c2]) (by simp [results, Try.results43, go_sem, r0]) rfl ?_
  exact HG.out
set_option maxHeartbeats 2000000 in
theorem integer_signed (s : Bool) (x : Nat) (A : Option Addr) (n c : Nat) (w : World) (hA : WordsIn w x A n c) :
    Calls Try.prog 42 #[.bool s, .agg #[.slice A n c]] w (GivesI w (sgnI s x)) := by
  obtain ⟨hB, b2, k3, b5⟩ := box2 w 27 29 #[.slice A n c] #[.bool false, .slice none 0 0]
  have hw := hA.below hB
  have HI := Lib.hid (fun w' (h : Below w.heap.size w w') => int_of_nat s (hA.below h))
  have HZ := Lib.hid (fun w' (h : Below w.heap.size w w') => show Calls Try.prog 51 #[.agg #[.slice A n c]] w' fun e w'' => e = .returned (.bool (decide (x = 0))) ∧ Below w'.heap.size w' w'' from by
    by_cases hx : x = 0
    · rw [decide_eq_true hx]; exact zero_yes hx (hA.below h)
    · rw [decide_eq_false hx]; exact zero_no hx (hA.below h))
  have hd : (!decide (x = 0)) = decide (x ≠ 0) := by simp
  obtain ⟨d, hd1⟩ : ∃ d, decide (x = 0) = d := ⟨_, rfl⟩
  rw [hd1] at HZ hd
  rw [← hd] at HI
  clear hA hd hd1
  cases s
  · skip
    go_enter Try.func42, Try.ntmps42
    go_wp2_with fail
    generalize (w.alloc (.cells #[.slice A n c] 27)).alloc (.cells #[.bool false, .slice none 0 0] 29) = W0 at *
    have g1 : W0.drew.cell? ⟨w.heap.size, 0, none⟩ = some (.slice A n c) := b2.cell 0
    have hb0 := hB.drew
    have hk0 := k3.drew
    clear b2 b5 hw hB k3
    have hw3 := HI.out _ hb0
    rw [Bool.false_and] at hw3
    have c0 : W0.cell? ⟨w.heap.size + 1, 0, none⟩ = some (.bool false) := hk0.cell 0
    have f0 : W0.frozen? ⟨w.heap.size + 1, 0, none⟩ = false := hk0.frozen 0
    have c1 : (W0.setCell ⟨w.heap.size + 1, 0, none⟩ (.bool false)).cell? ⟨w.heap.size + 1, 1, none⟩ = some (.slice none 0 0) := (hk0.set_ 0 (.bool false)).cell 1
    have f1 : (W0.setCell ⟨w.heap.size + 1, 0, none⟩ (.bool false)).frozen? ⟨w.heap.size + 1, 1, none⟩ = false := (hk0.set_ 0 (.bool false)).frozen 1
    refine wp_region_noPanic ?_
    refine wp_region_held_drew (S := (fun w' => Below w.heap.size w w' ∧ w'.cell? ⟨w.heap.size, 0, none⟩ = some (.slice A n c))) (by kernel_rfl) ?_ (fun hHeld => ?_)
    · exact ⟨hb0, g1⟩
    refine wpAnyH_take (i := 0) (oi := ?_) (v := ?_) (by simp only [List.getElem?_toArray, List.getElem?_cons_succ, List.getElem?_cons_zero]; rfl) (by kernel_rfl) (by kernel_rfl) (by kernel_rfl) (fun _ _ _ h => h) (Or.inl ⟨by rfl, ?_⟩) (by with_reducible assumption) ?_
    rotate_left
    focus ((intro w hSw; (try dsimp only at hSw); go_simp); (try with_reducible rfl))
    try simp only [Act.put, List.setIfInBounds_toArray, List.set_cons_zero, List.set_cons_succ]
    refine wpAnyH_take (i := 1) (oi := ?_) (v := ?_) (by simp only [List.getElem?_toArray, List.getElem?_cons_succ, List.getElem?_cons_zero]; rfl) (by kernel_rfl) (by kernel_rfl) (by kernel_rfl) (fun _ _ _ h => h) (Or.inl ⟨by rfl, ?_⟩) (by with_reducible assumption) ?_
    rotate_left
    focus ((intro w hSw; (try dsimp only at hSw); go_simp); (try with_reducible rfl))
    try simp only [Act.put, List.setIfInBounds_toArray, List.set_cons_zero, List.set_cons_succ]
    refine wpAnyH_take (i := 2) (oi := ?_) (v := undef) (by simp only [List.getElem?_toArray, List.getElem?_cons_succ, List.getElem?_cons_zero]; rfl) (by kernel_rfl) (by kernel_rfl) (by kernel_rfl) (fun _ _ _ h => h) (Or.inr ⟨by rfl, rfl⟩) (by with_reducible assumption) ?_
    try simp only [Act.put, List.setIfInBounds_toArray, List.set_cons_zero, List.set_cons_succ]
    refine wpAnyH_take (i := 3) (oi := ?_) (v := undef) (by simp only [List.getElem?_toArray, List.getElem?_cons_succ, List.getElem?_cons_zero]; rfl) (by kernel_rfl) (by kernel_rfl) (by kernel_rfl) (fun _ _ _ h => h) (Or.inr ⟨by rfl, rfl⟩) (by with_reducible assumption) ?_
    try simp only [Act.put, List.setIfInBounds_toArray, List.set_cons_zero, List.set_cons_succ]
    refine wpAnyH_take (i := 4) (oi := ?_) (v := undef) (by simp only [List.getElem?_toArray, List.getElem?_cons_succ, List.getElem?_cons_zero]; rfl) (by kernel_rfl) (by kernel_rfl) (by kernel_rfl) (fun _ _ _ h => h) (Or.inr ⟨by rfl, rfl⟩) (by with_reducible assumption) ?_
    try simp only [Act.put, List.setIfInBounds_toArray, List.set_cons_zero, List.set_cons_succ]
    refine wpAnyH_take (i := 5) (oi := ?_) (v := ?_) (by simp only [List.getElem?_toArray, List.getElem?_cons_succ, List.getElem?_cons_zero]; rfl) (by kernel_rfl) (by kernel_rfl) (by kernel_rfl) (fun _ _ _ h => h) (Or.inl ⟨by rfl, ?_⟩) (by with_reducible assumption) ?_
    rotate_left
    focus ((intro w hSw; (try dsimp only at hSw); go_simp); (try with_reducible rfl))
    try simp only [Act.put, List.setIfInBounds_toArray, List.set_cons_zero, List.set_cons_succ]
    refine wpAnyH_take (i := 6) (oi := ?_) (v := ?_) (by simp only [List.getElem?_toArray, List.getElem?_cons_succ, List.getElem?_cons_zero]; rfl) (by kernel_rfl) (by kernel_rfl) (by kernel_rfl) (fun _ _ _ h => h) (Or.inl ⟨by rfl, ?_⟩) (by with_reducible assumption) ?_
    rotate_left
    focus ((intro w hSw; (try dsimp only at hSw); go_simp); (try with_reducible rfl))
    try simp only [Act.put, List.setIfInBounds_toArray, List.set_cons_zero, List.set_cons_succ]
    refine wpAnyH_take (i := 7) (oi := ?_) (v := ?_) (by simp only [List.getElem?_toArray, List.getElem?_cons_succ, List.getElem?_cons_zero]; rfl) (by kernel_rfl) (by kernel_rfl) (by kernel_rfl) (fun _ _ _ h => h) (Or.inl ⟨by rfl, ?_⟩) (by with_reducible assumption) ?_
    rotate_left
    focus ((intro w hSw; (try dsimp only at hSw); go_simp); (try with_reducible rfl))
    try simp only [Act.put, List.setIfInBounds_toArray, List.set_cons_zero, List.set_cons_succ]
    refine wpAnyH_ready (rs := [8]) (by kernel_rfl) (by simp) ?_
    refine AllReadyH.cons (o := ?_) (by simp only [List.getElem?_toArray, List.getElem?_cons_succ, List.getElem?_cons_zero]; rfl) (fun K hK => ?_) AllReadyH.nil
    go_simp
    skip
    refine hK.out _ _ ?_ (fun hHeld => ?_)
    · ((try dsimp only); exact ⟨keep_below_set (p := ⟨w.heap.size + 1, 1, none⟩) _ (by dsimp only; omega) (keep_below_set (p := ⟨w.heap.size + 1, 0, none⟩) _ (by dsimp only; omega) hb0), keep_cell_set (q := ⟨w.heap.size + 1, 1, none⟩) _ (by dsimp only; omega) (keep_cell_set (q := ⟨w.heap.size + 1, 0, none⟩) _ (by dsimp only; omega) g1)⟩)
    clear hK K
    try simp only [Act.put, List.setIfInBounds_toArray, List.set_cons_zero, List.set_cons_succ]
    refine wpAnyH_done (by kernel_rfl) ?_ _
    refine NoPanic.normal ?_
    have hk9 := (hk0.set_ 0 (.bool false)).set_ 1 (.slice A n c)
    have r0 : ((W0.setCell ⟨w.heap.size + 1, 0, none⟩ (.bool false)).setCell ⟨w.heap.size + 1, 1, none⟩ (.slice A n c)).cell? ⟨w.heap.size + 1, 0, none⟩ = some (.bool false) := hk9.cell 0
    have r1 : ((W0.setCell ⟨w.heap.size + 1, 0, none⟩ (.bool false)).setCell ⟨w.heap.size + 1, 1, none⟩ (.slice A n c)).cell? ⟨w.heap.size + 1, 1, none⟩ = some (.slice A n c) := hk9.cell 1
    have hwz := int_set2 hw3 hk0 false A n c
    have hbz := keep_below_set (p := ⟨w.heap.size + 1, 1, none⟩) (.slice A n c) (by dsimp only; omega) (keep_below_set (p := ⟨w.heap.size + 1, 0, none⟩) (.bool false) (by dsimp only; omega) hb0)
    have HG : Hid (GivesI w (sgnI false x) (.returned (.agg #[.bool false, .slice A n c])) (((W0.setCell ⟨w.heap.size + 1, 0, none⟩ (.bool false)).setCell ⟨w.heap.size + 1, 1, none⟩ (.slice A n c)).drew)) :=
      ⟨_, _, _, _, rfl, hwz, hbz⟩
    clear hk9 hwz hbz c0 c1 f0 f1 hk0 hb0 hw3 HI HZ g1
    go_wp2
    refine bodyPost_ret (v := .agg #[.bool false, .slice A n c]) (by simp [results, Try.results42, go_sem, r0, r1]) rfl ?_
    exact HG.out
  · skip
    go_enter Try.func42, Try.ntmps42
    go_wp2_with fail
    generalize (w.alloc (.cells #[.slice A n c] 27)).alloc (.cells #[.bool false, .slice none 0 0] 29) = W0 at *
    have g1 : W0.drew.cell? ⟨w.heap.size, 0, none⟩ = some (.slice A n c) := b2.cell 0
    have hb0 := hB.drew
    have hk0 := k3.drew
    clear b2 b5 hw hB k3
    go_region_held3 (fun w' => Below w.heap.size w w' ∧ w'.cell? ⟨w.heap.size, 0, none⟩ = some (.slice A n c))
      (first | (exact ⟨hb0, g1⟩) | (go_split_ands; (repeat' apply And.intro); all_goals (first | with_reducible assumption | exact keep_below (by with_reducible assumption) hb | exact keep_cell hb (by with_reducible assumption) | exact keep_below_set _ (by dsimp only; omega) (keep_below_set _ (by dsimp only; omega) (by with_reducible assumption)) | exact keep_cell_set _ (by dsimp only; omega) (keep_cell_set _ (by dsimp only; omega) (by with_reducible assumption)) | exact keep_below_set _ (by dsimp only; omega) (by with_reducible assumption) | exact keep_cell_set _ (by dsimp only; omega) (by with_reducible assumption))))
      (first
        | (go_at_call 51; (with_reducible refine (HZ.out _ (by first | with_reducible assumption | exact And.left (by with_reducible assumption))).mono ?_); rintro e w2 ⟨rfl, hb⟩; go_split_ands; have hbb : Below w.heap.size w w2 := keep_below (by with_reducible assumption) hb; have hk2 := keep_blk hb hk0; have c0 := hk2.cell 0; have f0 := hk2.frozen 0; have c1 : (w2.setCell ⟨w.heap.size + 1, 0, none⟩ (.bool (!d))).cell? ⟨w.heap.size + 1, 1, none⟩ = some (.slice none 0 0) := (hk2.set_ 0 (.bool (!d))).cell 1; have f1 := (hk2.set_ 0 (.bool (!d))).frozen 1))
    have hw3 := HI.out _ hbb
    rw [Bool.true_and] at hw3
    have hk9 := (hk2.set_ 0 (.bool (!d))).set_ 1 (.slice A n c)
    have r0 := hk9.cell 0
    have r1 := hk9.cell 1
    have c0 := hk2.cell 0
    have f0 := hk2.frozen 0
    have c1 : (w2.setCell ⟨w.heap.size + 1, 0, none⟩ (.bool (!d))).cell? ⟨w.heap.size + 1, 1, none⟩ = some (.slice none 0 0) := (hk2.set_ 0 (.bool (!d))).cell 1
    have f1 := (hk2.set_ 0 (.bool (!d))).frozen 1
    have hwz := int_set2 hw3 hk2 (!d) A n c
    have hbz := keep_below_set (p := ⟨w.heap.size + 1, 1, none⟩) (.slice A n c) (by dsimp only; omega) (keep_below_set (p := ⟨w.heap.size + 1, 0, none⟩) (.bool (!d)) (by dsimp only; omega) hbb)
    have HG : Hid (GivesI w (sgnI true x) (.returned (.agg #[.bool (!d), .slice A n c])) ((w2.setCell ⟨w.heap.size + 1, 0, none⟩ (.bool (!d))).setCell ⟨w.heap.size + 1, 1, none⟩ (.slice A n c))) :=
      ⟨_, _, _, _, rfl, hwz, hbz⟩
    clear hk9 hwz hbz hk2 hk0 hbb hw3 hb0 hb HI HZ g1
    go_wp2
    refine bodyPost_ret (v := .agg #[.bool (!d), .slice A n c]) (by simp [results, Try.results42, go_sem, r0, r1]) rfl ?_
    exact HG.out
end Go.Proofs.Ytnfednkphcapnaa
namespace Go.Proofs.Ytnfednkphcapnaa
open Go Go.RowKit
set_option maxRecDepth 100000
set_option linter.unusedVariables false
set_option linter.unusedSimpArgs false
theorem sgnI_of (z : Int) : sgnI (decide (z < 0)) z.natAbs = z := by unfold sgnI; by_cases h : z < 0 <;> simp [h] <;> omega
theorem sgnI_negz (z : Int) : sgnI (!decide (z < 0)) z.natAbs = -z := by unfold sgnI; by_cases h : z < 0 <;> simp [h] <;> omega
set_option maxHeartbeats 2000000 in
theorem integer_new (s : Bool) (x : Nat) (A : Option Addr) (n c : Nat) (w : World) (hA : WordsIn w x A n c) (hn : n ≤ 1099511627776) :
    Calls Try.prog 37 #[.bool s, .agg #[.slice A n c]] w (GivesI w (sgnI s x)) := by
  obtain ⟨hB, b2, k3, b5⟩ := box2 w 27 29 #[.slice A n c] #[.bool false, .slice none 0 0]
  have HC := Lib.hid (integer_copied x A n c _ (hA.below hB) hn)
  have HS := Lib.hid (fun w' A n c (h : WordsIn w' x A n c) => integer_signed s x A n c w' h)
  clear hA
  go_enter Try.func37, Try.ntmps37
  go_wp2_with fail
  generalize (w.alloc (.cells #[.slice A n c] 27)).alloc (.cells #[.bool false, .slice none 0 0] 29) = W0 at *
  have g1 : W0.cell? ⟨w.heap.size, 0, none⟩ = some (.slice A n c) := b2.cell 0
  clear b2 b5
  refine HC.out.mono ?_
  rintro e w1 ⟨A1, n1, c1, rfl, hw1, hb, hf⟩
  have hk1 := keep_blk hb k3
  have hB1 := keep_below hB hb
  have HS1 := Lib.hid (HS.out _ _ _ _ hw1)
  clear hb hf hw1 g1 k3 hB HC HS
  go_wp2_with fail
  refine HS1.out.mono ?_
  rintro e w2 ⟨b3, A3, n3, c3, rfl, hw3, hb⟩
  have hk2 := keep_blk hb hk1
  have hbb := keep_below hB1 hb
  have hk9 := (hk2.set_ 0 (.bool b3)).set_ 1 (.slice A3 n3 c3)
  have r0 := hk9.cell 0
  have r1 := hk9.cell 1
  have c0 := hk2.cell 0
  have f0 := hk2.frozen 0
  have c1 : (w2.setCell ⟨w.heap.size + 1, 0, none⟩ (.bool b3)).cell? ⟨w.heap.size + 1, 1, none⟩ = some (.slice none 0 0) := (hk2.set_ 0 (.bool b3)).cell 1
  have f1 := (hk2.set_ 0 (.bool b3)).frozen 1
  have hwz := int_set2 hw3 hk2 b3 A3 n3 c3
  have hbz := keep_below_set (p := ⟨w.heap.size + 1, 1, none⟩) (.slice A3 n3 c3) (by dsimp only; omega) (keep_below_set (p := ⟨w.heap.size + 1, 0, none⟩) (.bool b3) (by dsimp only; omega) hbb)
  have HG : Hid (GivesI w (sgnI s x) (.returned (.agg #[.bool b3, .slice A3 n3 c3])) ((w2.setCell ⟨w.heap.size + 1, 0, none⟩ (.bool b3)).setCell ⟨w.heap.size + 1, 1, none⟩ (.slice A3 n3 c3))) :=
    ⟨_, _, _, _, rfl, hwz, hbz⟩
  clear hk9 hwz hbz hk2 hbb hw3 hb hk1 hB1 HS1
  go_wp2
  refine bodyPost_ret (v := .agg #[.bool b3, .slice A3 n3 c3]) (by simp [results, Try.results37, go_sem, r0, r1]) rfl ?_
  exact HG.out
set_option maxHeartbeats 2000000 in
theorem integer_abs (z : Int) (b : Bool) (A : Option Addr) (n c : Nat) (w : World) (hA : IntIn w z b A n c) (hn : n ≤ 1099511627776) :
    Calls Try.prog 35 #[.agg #[.bool b, .slice A n c]] w (GivesN2 w z.natAbs) := by
  obtain ⟨hB, b2, k3, b5⟩ := box2 w 29 27 #[.bool b, .slice A n c] #[.slice none 0 0]
  have HC := Lib.hid (integer_copied z.natAbs A n c _ (hA.2.below hB) hn)
  obtain ⟨x, hx⟩ : ∃ x, z.natAbs = x := ⟨_, rfl⟩
  rw [hx] at HC ⊢
  clear hA hx
  go_enter Try.func35, Try.ntmps35
  go_wp2_with fail
  generalize (w.alloc (.cells #[.bool b, .slice A n c] 29)).alloc (.cells #[.slice none 0 0] 27) = W0 at *
  have g1 : W0.cell? ⟨w.heap.size, 1, none⟩ = some (.slice A n c) := b2.cell 1
  clear b2 b5
  go_wp2_with fail
  refine HC.out.mono ?_
  rintro e w2 ⟨A2, n2, c2, rfl, hw2, hb, hf⟩
  have hk2 := keep_blk hb k3
  have hB2 := keep_below hB hb
  have r0 := (blk_set1 hk2 (.slice A2 n2 c2)).cell 0
  have c0 := hk2.cell 0
  have f0 := hk2.frozen 0
  have HG : Hid (GivesN2 w x (.returned (.agg #[.slice A2 n2 c2])) (w2.setCell ⟨w.heap.size + 1, 0, none⟩ (.slice A2 n2 c2))) :=
    ⟨_, _, _, rfl, words_set_blk hw2 hk2 _, keep_below_set _ (by dsimp only; omega) hB2, hf.from_ hB⟩
  clear hk2 hB2 hf hw2 hb hB HC k3 g1
  go_wp2
  refine bodyPost_ret (v := .agg #[.slice A2 n2 c2]) (by simp [results, Try.results35, go_sem, r0]) rfl ?_
  exact HG.out
set_option maxHeartbeats 4000000 in
theorem integer_neg (z : Int) (b : Bool) (A : Option Addr) (n c : Nat) (w : World) (hA : IntIn w z b A n c) (hn : n ≤ 1099511627776) :
    Calls Try.prog 15 #[.agg #[.bool b, .slice A n c]] w (GivesI w (-z)) := by
  obtain ⟨hB, b2, k3, b5⟩ := box2 w 29 29 #[.bool b, .slice A n c] #[.bool false, .slice none 0 0]
  have hz := sgnI_negz z
  rw [← hA.1] at hz
  obtain ⟨x, hx⟩ : ∃ x, z.natAbs = x := ⟨_, rfl⟩
  have HC := Lib.hid (fun w' (h : Below w.heap.size w w') => integer_copied z.natAbs A n c w' (hA.2.below h) hn)
  rw [hx] at HC hz
  have HS := Lib.hid (fun w' A n c (h : WordsIn w' x A n c) => integer_signed (!b) x A n c w' h)
  rw [← hz]
  obtain ⟨nb, hnb⟩ : ∃ q, (!b) = q := ⟨_, rfl⟩
  rw [hnb] at HS ⊢
  clear hA hx hz
  go_enter Try.func15, Try.ntmps15
  go_wp2_with fail
  generalize (w.alloc (.cells #[.bool b, .slice A n c] 29)).alloc (.cells #[.bool false, .slice none 0 0] 29) = W0 at *
  have g0 : W0.drew.cell? ⟨w.heap.size, 0, none⟩ = some (.bool b) := b2.cell 0
  have g1 : W0.drew.cell? ⟨w.heap.size, 1, none⟩ = some (.slice A n c) := b2.cell 1
  have hb0 := hB.drew
  have hk0 := k3.drew
  clear b2 b5 hB k3
  go_region_held3 (fun w' => Below w.heap.size w w' ∧ w'.cell? ⟨w.heap.size, 0, none⟩ = some (.bool b) ∧ w'.cell? ⟨w.heap.size, 1, none⟩ = some (.slice A n c))
    (first | (exact ⟨hb0, g0, g1⟩) | (go_split_ands; (repeat' apply And.intro); all_goals (first | with_reducible assumption | exact keep_below (by with_reducible assumption) hb | exact keep_cell hb (by with_reducible assumption) | exact keep_below_set _ (by dsimp only; omega) (keep_below_set _ (by dsimp only; omega) (by with_reducible assumption)) | exact keep_cell_set _ (by dsimp only; omega) (keep_cell_set _ (by dsimp only; omega) (by with_reducible assumption)) | exact keep_below_set _ (by dsimp only; omega) (by with_reducible assumption) | exact keep_cell_set _ (by dsimp only; omega) (by with_reducible assumption))))
    (first
      | (go_at_call 43; (with_reducible refine (HC.out _ (by first | with_reducible assumption | exact And.left (by with_reducible assumption))).mono ?_); rintro e w2 ⟨A2, n2, c2, rfl, hw2, hb, _⟩; have hk1 := keep_blk hb hk0)
      | (go_at_call 42; (with_reducible refine (HS.out _ _ _ _ hw2).mono ?_); rintro e w3 ⟨b3, A3, n3, c3, rfl, hw3, hb⟩; go_split_ands; have hk2 := keep_blk hb hk1; have c0 := hk2.cell 0; have f0 := hk2.frozen 0; have c1 : (w3.setCell ⟨w.heap.size + 1, 0, none⟩ (.bool b3)).cell? ⟨w.heap.size + 1, 1, none⟩ = some (.slice none 0 0) := (hk2.set_ 0 (.bool b3)).cell 1; have f1 := (hk2.set_ 0 (.bool b3)).frozen 1; have hbb : Below w.heap.size w w3 := keep_below (by with_reducible assumption) hb))
  have hk9 := (hk2.set_ 0 (.bool b3)).set_ 1 (.slice A3 n3 c3)
  have r0 := hk9.cell 0
  have r1 := hk9.cell 1
  have c0 := hk2.cell 0
  have f0 := hk2.frozen 0
  have c1 : (w3.setCell ⟨w.heap.size + 1, 0, none⟩ (.bool b3)).cell? ⟨w.heap.size + 1, 1, none⟩ = some (.slice none 0 0) := (hk2.set_ 0 (.bool b3)).cell 1
  have f1 := (hk2.set_ 0 (.bool b3)).frozen 1
  have hwz := int_set2 hw3 hk2 b3 A3 n3 c3
  have hbz := keep_below_set (p := ⟨w.heap.size + 1, 1, none⟩) (.slice A3 n3 c3) (by dsimp only; omega) (keep_below_set (p := ⟨w.heap.size + 1, 0, none⟩) (.bool b3) (by dsimp only; omega) hbb)
  have HG : Hid (GivesI w (sgnI nb x) (.returned (.agg #[.bool b3, .slice A3 n3 c3])) ((w3.setCell ⟨w.heap.size + 1, 0, none⟩ (.bool b3)).setCell ⟨w.heap.size + 1, 1, none⟩ (.slice A3 n3 c3))) :=
    ⟨_, _, _, _, rfl, hwz, hbz⟩
  clear hk9 hwz hbz hk2 hbb hw3 hb hk1 hk0 hb0 HS HC g0 g1 hw2
  go_wp2
  refine bodyPost_ret (v := .agg #[.bool b3, .slice A3 n3 c3]) (by simp [results, Try.results15, go_sem, r0, r1]) rfl ?_
  exact HG.out
theorem integer_below (z : Int) (b : Bool) (A : Option Addr) (n c : Nat) (w : World) (hA : IntIn w z b A n c) :
    Calls Try.prog 40 #[.agg #[.bool b, .slice A n c]] w fun e w' => e = .returned (.bool (decide (z < 0))) ∧ Below w.heap.size w w' := by
  obtain ⟨hB, b2, b5⟩ := box1 w 29 #[.bool b, .slice A n c]
  rw [← hA.1]
  clear hA
  have g0 : (w.alloc (.cells #[.bool b, .slice A n c] 29)).cell? ⟨w.heap.size, 0, none⟩ = some (.bool b) := b2.cell 0
  clear b2 b5
  go_enter Try.func40, Try.ntmps40
  go_wp2
  go_ret
  exact ⟨rfl, hB⟩
set_option maxHeartbeats 2000000 in
theorem integer_sign (z : Int) (b : Bool) (A : Option Addr) (n c : Nat) (w : World) (hA : IntIn w z b A n c) :
    Calls Try.prog 25 #[.agg #[.bool b, .slice A n c]] w (SaysI w (sgnZ z)) := by
  obtain ⟨hB, b2, b5⟩ := box1 w 29 #[.bool b, .slice A n c]
  have hbz := hA.1
  have hK : (b = true ∧ sgnZ z = -1) ∨ (b = false ∧ z.natAbs = 0 ∧ sgnZ z = 0) ∨ (b = false ∧ z.natAbs ≠ 0 ∧ sgnZ z = 1) := by
    unfold sgnZ
    by_cases h : z < 0
    · exact .inl ⟨by rw [hbz, decide_eq_true h], by rw [if_pos h]⟩
    · by_cases h0 : z = 0
      · exact .inr (.inl ⟨by rw [hbz, decide_eq_false h], by omega, by rw [if_neg h, if_pos h0]⟩)
      · exact .inr (.inr ⟨by rw [hbz, decide_eq_false h], by omega, by rw [if_neg h, if_neg h0]⟩)
  have HW := Lib.hid (fun w' (h : Below w.heap.size w w') => hA.2.below h)
  clear hA hbz
  rcases hK with ⟨rfl, hs⟩ | ⟨rfl, hz, hs⟩ | ⟨rfl, hz, hs⟩
  · skip
    rw [hs]
    clear HW hs 
    have g0 : (w.alloc (.cells #[.bool true, .slice A n c] 29)).cell? ⟨w.heap.size, 0, none⟩ = some (.bool true) := b2.cell 0
    have g1 : (w.alloc (.cells #[.bool true, .slice A n c] 29)).cell? ⟨w.heap.size, 1, none⟩ = some (.slice A n c) := b2.cell 1
    clear b2 b5
    go_enter Try.func25, Try.ntmps25
    go_wp2
    go_ret
    exact ⟨rfl, hB⟩
  · skip
    have HZ := Lib.hid (zero_yes hz (HW.out _ hB))
    rw [hs]
    clear HW hs hz
    have g0 : (w.alloc (.cells #[.bool false, .slice A n c] 29)).cell? ⟨w.heap.size, 0, none⟩ = some (.bool false) := b2.cell 0
    have g1 : (w.alloc (.cells #[.bool false, .slice A n c] 29)).cell? ⟨w.heap.size, 1, none⟩ = some (.slice A n c) := b2.cell 1
    clear b2 b5
    go_enter Try.func25, Try.ntmps25
    go_wp2_with fail
    refine HZ.out.mono ?_
    rintro e w1 ⟨rfl, hb⟩
    have hB1 := keep_below hB hb
    clear hb hB g0 g1 HZ
    go_wp2
    go_ret
    exact ⟨rfl, hB1⟩
  · skip
    have HZ := Lib.hid (zero_no hz (HW.out _ hB))
    rw [hs]
    clear HW hs hz
    have g0 : (w.alloc (.cells #[.bool false, .slice A n c] 29)).cell? ⟨w.heap.size, 0, none⟩ = some (.bool false) := b2.cell 0
    have g1 : (w.alloc (.cells #[.bool false, .slice A n c] 29)).cell? ⟨w.heap.size, 1, none⟩ = some (.slice A n c) := b2.cell 1
    clear b2 b5
    go_enter Try.func25, Try.ntmps25
    go_wp2_with fail
    refine HZ.out.mono ?_
    rintro e w1 ⟨rfl, hb⟩
    have hB1 := keep_below hB hb
    clear hb hB g0 g1 HZ
    go_wp2
    go_ret
    exact ⟨rfl, hB1⟩
theorem of_lit1 (x : Nat) (w : World) (r : Nat) (hx : x < 18446744073709551616) (hk : Blk w r 77 #[.int .u64 (x : Int)]) : Calls Try.prog 38 #[.slice (some ⟨r, 0, none⟩) 1 1] w (GivesN2 w x) :=
  of_lits _ [x] w r 1 _ hk rfl rfl (dgs1 _ hx) (by simp [dv]) (by decide)
set_option maxHeartbeats 2000000 in
theorem integer_of (z : Int) (w : World) (h1 : -9223372036854775808 ≤ z) (h2 : z ≤ 9223372036854775807) :
    Calls Try.prog 32 #[.int .i64 z] w (GivesI w z) := by
  obtain ⟨hB, k3, b5⟩ := box1 w 29 #[.bool false, .slice none 0 0]
  obtain ⟨x, hx⟩ : ∃ x, z.natAbs = x := ⟨_, rfl⟩
  have hxl : x < 18446744073709551616 := by omega
  have HOF := Lib.hid (fun w' r hk => of_lit1 x w' r hxl hk)
  by_cases hz : z < 0
  · skip
    have e1 : IntKind.u64.wrap z = 18446744073709551616 - (x : Int) := by simp [IntKind.wrap, IntKind.bits, IntKind.signed]; omega
    have e2 : IntKind.u64.wrap (-(18446744073709551616 - (x : Int))) = (x : Int) := by simp [IntKind.wrap, IntKind.bits, IntKind.signed]; omega
    have HI : Hid (∀ w' A n c, WordsIn w' x A n c → IntIn w' z true A n c) := fun w' A n c h => ⟨by simp [hz], by rw [hx]; exact h⟩
    have HO2 := Lib.hid (HOF.out _ _ (box2 w 29 77 #[.bool false, .slice none 0 0] #[.int .u64 (x : Int)]).2.2.1)
    clear hx HOF
    go_enter Try.func32, Try.ntmps32
    go_wp2_with fail
    generalize w.alloc (.cells #[.bool false, .slice none 0 0] 29) = W0 at *
    clear b5
    have hb1 := keep_below_alloc (.cells #[.int .u64 (x : Int)] 77) hB
    refine HO2.out.mono ?_
    rintro e w2 ⟨A2, n2, c2, rfl, hw2, hb, _⟩
    have hbb := keep_below hb1 hb
    have hk2 := keep_blk hb (k3.alloc (.cells #[.int .u64 (x : Int)] 77))
    have hw3 := HI.out _ _ _ _ hw2
    clear hb hb1 HO2 k3 hB hw2 HI
    have hk9 := (hk2.set_ 0 (.bool true)).set_ 1 (.slice A2 n2 c2)
    have r0 := hk9.cell 0
    have r1 := hk9.cell 1
    have c0 := hk2.cell 0
    have f0 := hk2.frozen 0
    have c1 : (w2.setCell ⟨w.heap.size, 0, none⟩ (.bool true)).cell? ⟨w.heap.size, 1, none⟩ = some (.slice none 0 0) := (hk2.set_ 0 (.bool true)).cell 1
    have f1 := (hk2.set_ 0 (.bool true)).frozen 1
    have hwz := int_set2 hw3 hk2 true A2 n2 c2
    have hbz := keep_below_set (p := ⟨w.heap.size, 1, none⟩) (.slice A2 n2 c2) (by dsimp only; omega) (keep_below_set (p := ⟨w.heap.size, 0, none⟩) (.bool true) (by dsimp only; omega) hbb)
    have HG : Hid (GivesI w (z) (.returned (.agg #[.bool true, .slice A2 n2 c2])) ((w2.setCell ⟨w.heap.size, 0, none⟩ (.bool true)).setCell ⟨w.heap.size, 1, none⟩ (.slice A2 n2 c2))) :=
      ⟨_, _, _, _, rfl, hwz, hbz⟩
    clear hk9 hwz hbz hk2 hbb hw3
    go_wp2
    refine bodyPost_ret (v := .agg #[.bool true, .slice A2 n2 c2]) (by simp [results, Try.results32, go_sem, r0, r1]) rfl ?_
    exact HG.out
  · skip
    have e1 : IntKind.u64.wrap z = (x : Int) := by simp [IntKind.wrap, IntKind.bits, IntKind.signed]; omega
    have i1 : 0 ≤ z := by omega
    have HI : Hid (∀ w' A n c, WordsIn w' x A n c → IntIn w' z false A n c) := fun w' A n c h => ⟨by simp [hz], by rw [hx]; exact h⟩
    have HO2 := Lib.hid (HOF.out _ _ (box2 w 29 77 #[.bool false, .slice none 0 0] #[.int .u64 (x : Int)]).2.2.1)
    clear hx HOF
    go_enter Try.func32, Try.ntmps32
    go_wp2_with fail
    generalize w.alloc (.cells #[.bool false, .slice none 0 0] 29) = W0 at *
    clear b5
    have hb1 := keep_below_alloc (.cells #[.int .u64 (x : Int)] 77) hB
    refine HO2.out.mono ?_
    rintro e w2 ⟨A2, n2, c2, rfl, hw2, hb, _⟩
    have hbb := keep_below hb1 hb
    have hk2 := keep_blk hb (k3.alloc (.cells #[.int .u64 (x : Int)] 77))
    have hw3 := HI.out _ _ _ _ hw2
    clear hb hb1 HO2 k3 hB hw2 HI
    have hk9 := (hk2.set_ 0 (.bool false)).set_ 1 (.slice A2 n2 c2)
    have r0 := hk9.cell 0
    have r1 := hk9.cell 1
    have c0 := hk2.cell 0
    have f0 := hk2.frozen 0
    have c1 : (w2.setCell ⟨w.heap.size, 0, none⟩ (.bool false)).cell? ⟨w.heap.size, 1, none⟩ = some (.slice none 0 0) := (hk2.set_ 0 (.bool false)).cell 1
    have f1 := (hk2.set_ 0 (.bool false)).frozen 1
    have hwz := int_set2 hw3 hk2 false A2 n2 c2
    have hbz := keep_below_set (p := ⟨w.heap.size, 1, none⟩) (.slice A2 n2 c2) (by dsimp only; omega) (keep_below_set (p := ⟨w.heap.size, 0, none⟩) (.bool false) (by dsimp only; omega) hbb)
    have HG : Hid (GivesI w (z) (.returned (.agg #[.bool false, .slice A2 n2 c2])) ((w2.setCell ⟨w.heap.size, 0, none⟩ (.bool false)).setCell ⟨w.heap.size, 1, none⟩ (.slice A2 n2 c2))) :=
      ⟨_, _, _, _, rfl, hwz, hbz⟩
    clear hk9 hwz hbz hk2 hbb hw3
    go_wp2
    refine bodyPost_ret (v := .agg #[.bool false, .slice A2 n2 c2]) (by simp [results, Try.results32, go_sem, r0, r1]) rfl ?_
    exact HG.out
set_option maxHeartbeats 4000000 in
theorem integer_int (z : Int) (b : Bool) (A : Option Addr) (n c : Nat) (w : World) (hA : IntIn w z b A n c) :
    Calls Try.prog 36 #[.agg #[.bool b, .slice A n c]] w fun e w' => e = .returned (.tuple #[.int .i64 (if fitsI z then z else 0), .bool (fitsI z)]) ∧ Below w.heap.size w w' := by
  obtain ⟨hB, b2, b5⟩ := box1 w 29 #[.bool b, .slice A n c]
  have hln := hA.2.len
  have hbz := hA.1
  by_cases hn : n ≤ 1
  · have hU := nat_uint_one z.natAbs A n c _ (hA.2.below hB) hn
    have hlt : z.natAbs < 18446744073709551616 := by
      have h := dg_lt (b := 18446744073709551616) (by decide) z.natAbs
      exact Nat.lt_of_lt_of_le h (by rw [hln]; exact Nat.pow_le_pow_right (by decide) hn)
    rw [show wd z.natAbs 0 = z.natAbs from by unfold wd; rw [Nat.pow_zero, Nat.div_one, Nat.mod_eq_of_lt hlt]] at hU
    obtain ⟨x, hx⟩ : ∃ x, z.natAbs = x := ⟨_, rfl⟩
    rw [hx] at hU hlt
    have HU := Lib.hid hU
    clear hA hU hln
    have hK : (b = false ∧ z = (x : Int) ∧ x ≤ 9223372036854775807) ∨ (b = false ∧ z = (x : Int) ∧ 9223372036854775808 ≤ x) ∨ (b = true ∧ z = -(x : Int) ∧ 0 < x ∧ x ≤ 9223372036854775807) ∨ (b = true ∧ z = -(x : Int) ∧ x = 9223372036854775808) ∨ (b = true ∧ z = -(x : Int) ∧ 9223372036854775808 < x) := by
      cases b
      · have h : ¬ z < 0 := by simpa using hbz
        rcases Nat.lt_or_ge x 9223372036854775808 with h1 | h1
        · exact .inl ⟨rfl, by omega, by omega⟩
        · exact .inr (.inl ⟨rfl, by omega, h1⟩)
      · have h : z < 0 := by simpa using hbz
        rcases Nat.lt_trichotomy x 9223372036854775808 with h1 | h1 | h1
        · exact .inr (.inr (.inl ⟨rfl, by omega, by omega, by omega⟩))
        · exact .inr (.inr (.inr (.inl ⟨rfl, by omega, h1⟩)))
        · exact .inr (.inr (.inr (.inr ⟨rfl, by omega, h1⟩)))
    clear hx hbz
    rcases hK with ⟨rfl, rfl, h1⟩ | ⟨rfl, rfl, h1⟩ | ⟨rfl, rfl, h0, h1⟩ | ⟨rfl, rfl, h1⟩ | ⟨rfl, rfl, h1⟩
    · skip
      have hf : fitsI ((x : Int)) = true := by unfold fitsI; rw [decide_eq_true (by omega), decide_eq_true (by omega)]; rfl
      rw [hf]
      have e1 : IntKind.i64.wrap (x : Int) = (x : Int) := by simp [IntKind.wrap, IntKind.bits, IntKind.signed]; omega
      have i1 : ¬ (x : Int) < 0 := by omega
      have i2 : decide ((x : Int) < 0) = false := decide_eq_false i1
      clear hf
      go_enter Try.func36, Try.ntmps36
      go_wp2_with fail
      generalize w.alloc (.cells #[.bool false, .slice A n c] 29) = W0 at *
      have g0 : W0.cell? ⟨w.heap.size, 0, none⟩ = some (.bool false) := b2.cell 0
      have g1 : W0.cell? ⟨w.heap.size, 1, none⟩ = some (.slice A n c) := b2.cell 1
      clear b2 b5
      refine HU.out.mono ?_
      rintro e w1 ⟨rfl, hb⟩
      have hB1 := keep_below hB hb
      have g0 := keep_cell hb g0
      clear hb hB g1 HU
      go_wp2
      go_ret2
      exact ⟨rfl, hB1⟩
    · skip
      have hf : fitsI ((x : Int)) = false := by unfold fitsI; simp; omega
      rw [hf]
      have e1 : IntKind.i64.wrap (x : Int) = (x : Int) - 18446744073709551616 := by simp [IntKind.wrap, IntKind.bits, IntKind.signed]; omega
      have i1 : (x : Int) - 18446744073709551616 < 0 := by omega
      have i2 : decide ((x : Int) - 18446744073709551616 < 0) = true := decide_eq_true i1
      clear hf
      go_enter Try.func36, Try.ntmps36
      go_wp2_with fail
      generalize w.alloc (.cells #[.bool false, .slice A n c] 29) = W0 at *
      have g0 : W0.cell? ⟨w.heap.size, 0, none⟩ = some (.bool false) := b2.cell 0
      have g1 : W0.cell? ⟨w.heap.size, 1, none⟩ = some (.slice A n c) := b2.cell 1
      clear b2 b5
      refine HU.out.mono ?_
      rintro e w1 ⟨rfl, hb⟩
      have hB1 := keep_below hB hb
      have g0 := keep_cell hb g0
      clear hb hB g1 HU
      go_wp2
      go_ret2
      exact ⟨rfl, hB1⟩
    · skip
      have hf : fitsI (-(x : Int)) = true := by unfold fitsI; rw [decide_eq_true (by omega), decide_eq_true (by omega)]; rfl
      rw [hf]
      have e1 : IntKind.i64.wrap (x : Int) = (x : Int) := by simp [IntKind.wrap, IntKind.bits, IntKind.signed]; omega
      have e2 : IntKind.i64.wrap (-((x : Int))) = -(x : Int) := by simp [IntKind.wrap, IntKind.bits, IntKind.signed]; omega
      have i1 : -(x : Int) < 0 := by omega
      have i2 : decide (-(x : Int) < 0) = true := decide_eq_true i1
      clear hf
      go_enter Try.func36, Try.ntmps36
      go_wp2_with fail
      generalize w.alloc (.cells #[.bool true, .slice A n c] 29) = W0 at *
      have g0 : W0.cell? ⟨w.heap.size, 0, none⟩ = some (.bool true) := b2.cell 0
      have g1 : W0.cell? ⟨w.heap.size, 1, none⟩ = some (.slice A n c) := b2.cell 1
      clear b2 b5
      refine HU.out.mono ?_
      rintro e w1 ⟨rfl, hb⟩
      have hB1 := keep_below hB hb
      have g0 := keep_cell hb g0
      clear hb hB g1 HU
      go_wp2
      go_ret2
      exact ⟨rfl, hB1⟩
    · skip
      have hf : fitsI (-(x : Int)) = true := by unfold fitsI; rw [decide_eq_true (by omega), decide_eq_true (by omega)]; rfl
      rw [hf]
      have hlast : Hid (-(x : Int) = -9223372036854775808) := by show _ = _; omega
      have e1 : IntKind.i64.wrap (x : Int) = (-9223372036854775808) := by simp [IntKind.wrap, IntKind.bits, IntKind.signed]; omega
      have e2 : IntKind.i64.wrap (-((-9223372036854775808))) = (-9223372036854775808) := by simp [IntKind.wrap, IntKind.bits, IntKind.signed]
      have e3 : wrap64 9223372036854775808 = -9223372036854775808 := by first | exact e2 | (simp [wrap64, IntKind.wrap, IntKind.bits, IntKind.signed]; done)
      clear h1 hlt
      clear hf
      go_enter Try.func36, Try.ntmps36
      go_wp2_with fail
      generalize w.alloc (.cells #[.bool true, .slice A n c] 29) = W0 at *
      have g0 : W0.cell? ⟨w.heap.size, 0, none⟩ = some (.bool true) := b2.cell 0
      have g1 : W0.cell? ⟨w.heap.size, 1, none⟩ = some (.slice A n c) := b2.cell 1
      clear b2 b5
      refine HU.out.mono ?_
      rintro e w1 ⟨rfl, hb⟩
      have hB1 := keep_below hB hb
      have g0 := keep_cell hb g0
      clear hb hB g1 HU
      go_wp2
      go_ret2
      exact ⟨by rw [hlast.out]; rfl, hB1⟩
    · skip
      have hf : fitsI (-(x : Int)) = false := by unfold fitsI; simp; omega
      rw [hf]
      have e1 : IntKind.i64.wrap (x : Int) = (x : Int) - 18446744073709551616 := by simp [IntKind.wrap, IntKind.bits, IntKind.signed]; omega
      have e2 : IntKind.i64.wrap (-((x : Int) - 18446744073709551616)) = 18446744073709551616 - (x : Int) := by simp [IntKind.wrap, IntKind.bits, IntKind.signed]; omega
      have i1 : ¬ 18446744073709551616 - (x : Int) < 0 := by omega
      have i2 : decide (18446744073709551616 - (x : Int) < 0) = false := decide_eq_false i1
      clear hf
      go_enter Try.func36, Try.ntmps36
      go_wp2_with fail
      generalize w.alloc (.cells #[.bool true, .slice A n c] 29) = W0 at *
      have g0 : W0.cell? ⟨w.heap.size, 0, none⟩ = some (.bool true) := b2.cell 0
      have g1 : W0.cell? ⟨w.heap.size, 1, none⟩ = some (.slice A n c) := b2.cell 1
      clear b2 b5
      refine HU.out.mono ?_
      rintro e w1 ⟨rfl, hb⟩
      have hB1 := keep_below hB hb
      have g0 := keep_cell hb g0
      clear hb hB g1 HU
      go_wp2
      go_ret2
      exact ⟨rfl, hB1⟩
  · have hU := Lib.hid (nat_uint_more A n c (w.alloc (.cells #[.bool b, .slice A n c] 29)) (by omega))
    have hbig : 18446744073709551616 ≤ z.natAbs := by
      refine Nat.le_of_not_lt fun h => ?_
      have h1 := dg_len_le (b := 18446744073709551616) (by decide) z.natAbs 1 (by rw [Nat.pow_one]; exact h)
      omega
    have hf : fitsI z = false := by unfold fitsI; simp; omega
    rw [hf]
    clear hf hbig hA hln hbz hn
    cases b
    · skip
      go_enter Try.func36, Try.ntmps36
      go_wp2_with fail
      generalize w.alloc (.cells #[.bool false, .slice A n c] 29) = W0 at *
      have g0 : W0.cell? ⟨w.heap.size, 0, none⟩ = some (.bool false) := b2.cell 0
      have g1 : W0.cell? ⟨w.heap.size, 1, none⟩ = some (.slice A n c) := b2.cell 1
      clear b2 b5
      refine hU.out.mono ?_
      rintro e w1 ⟨rfl, hb⟩
      have hB1 := keep_below hB hb
      have g0 := keep_cell hb g0
      clear hb hB g1 hU
      go_wp2
      go_ret2
      exact ⟨rfl, hB1⟩
    · skip
      go_enter Try.func36, Try.ntmps36
      go_wp2_with fail
      generalize w.alloc (.cells #[.bool true, .slice A n c] 29) = W0 at *
      have g0 : W0.cell? ⟨w.heap.size, 0, none⟩ = some (.bool true) := b2.cell 0
      have g1 : W0.cell? ⟨w.heap.size, 1, none⟩ = some (.slice A n c) := b2.cell 1
      clear b2 b5
      refine hU.out.mono ?_
      rintro e w1 ⟨rfl, hb⟩
      have hB1 := keep_below hB hb
      have g0 := keep_cell hb g0
      clear hb hB g1 hU
      go_wp2
      go_ret2
      exact ⟨rfl, hB1⟩
end Go.Proofs.Ytnfednkphcapnaa
namespace Go.Proofs.Ytnfednkphcapnaa
open Go Go.RowKit
set_option maxRecDepth 100000
set_option linter.unusedVariables false
set_option linter.unusedSimpArgs false
set_option maxHeartbeats 8000000 in
theorem integer_sum (x : Int) (b s : Bool) (Y : Nat) (A D : Option Addr) (n m c d : Nat) (w : World) (hA : IntIn w x b A n c) (hD : WordsIn w Y D m d) (hn : n ≤ 274877906944) (hm : m ≤ 274877906944) :
    Calls Try.prog 44 #[.agg #[.bool b, .slice A n c], .bool s, .agg #[.slice D m d]] w (GivesI w (x + sgnI s Y)) := by
  have hx := sgnI_of x
  rw [← hA.1] at hx
  obtain ⟨X, hX⟩ : ∃ X, x.natAbs = X := ⟨_, rfl⟩
  rw [hX] at hx
  have hW := hA.2
  rw [hX] at hW
  rw [← hx]
  have HA := Lib.hid (fun w' (h : Below w.heap.size w w') => hW.below h)
  have HD := Lib.hid (fun w' (h : Below w.heap.size w w') => hD.below h)
  have HAD := Lib.hid (fun w' (h : Below w.heap.size w w') => nat_add X Y A D n m c d w' (HA.out _ h) (HD.out _ h) (by omega) (by omega))
  clear hA hX hx hW hD x
  obtain ⟨hB, b2, b3, k3, b5⟩ := box3 w 29 27 29 #[.bool b, .slice A n c] #[.slice D m d] #[.bool false, .slice none 0 0]
  by_cases hbs : b = s
  · subst hbs
    have hz : sgnI b X + sgnI b Y = sgnI b (X + Y) := by unfold sgnI; split <;> omega
    rw [hz]
    clear hz
    have HS := Lib.hid (fun w' A n c (h : WordsIn w' (X + Y) A n c) => integer_signed b (X + Y) A n c w' h)
    cases b
    · skip
      go_enter Try.func44, Try.ntmps44
      go_wp2_with fail
      generalize ((w.alloc (.cells #[.bool false, .slice A n c] 29)).alloc (.cells #[.slice D m d] 27)).alloc (.cells #[.bool false, .slice none 0 0] 29) = W0 at *
      have g0 : W0.cell? ⟨w.heap.size, 0, none⟩ = some (.bool false) := b2.cell 0
      have g1 : W0.cell? ⟨w.heap.size, 1, none⟩ = some (.slice A n c) := b2.cell 1
      have g2 : W0.cell? ⟨w.heap.size + 1, 0, none⟩ = some (.slice D m d) := b3.cell 0
      clear b2 b3 b5
      refine (HAD.out _ hB).mono ?_
      rintro e w1 ⟨A1, n1, c1, rfl, hw1, hb, hf⟩
      have hk1 := keep_blk hb k3
      have hB1 := keep_below hB hb
      clear hb hf k3 hB HAD HA HD g0 g1 g2
      have HS1 := Lib.hid (HS.out _ _ _ _ hw1)
      go_wp2_with fail
      refine HS1.out.mono ?_
      rintro e w9 ⟨b3, A3, n3, c3, rfl, hw3, hb⟩
      have hk2 := keep_blk hb hk1
      have hbb := keep_below hB1 hb
      clear hb HS1 hk1 hB1 hw1 HS
      have hk9 := (hk2.set_ 0 (.bool b3)).set_ 1 (.slice A3 n3 c3)
      have r0 := hk9.cell 0
      have r1 := hk9.cell 1
      have c0 := hk2.cell 0
      have f0 := hk2.frozen 0
      have c1 : (w9.setCell ⟨w.heap.size + 1 + 1, 0, none⟩ (.bool b3)).cell? ⟨w.heap.size + 1 + 1, 1, none⟩ = some (.slice none 0 0) := (hk2.set_ 0 (.bool b3)).cell 1
      have f1 := (hk2.set_ 0 (.bool b3)).frozen 1
      have hwz := int_set2 hw3 hk2 b3 A3 n3 c3
      have hbz := keep_below_set (p := ⟨w.heap.size + 1 + 1, 1, none⟩) (.slice A3 n3 c3) (by dsimp only; omega) (keep_below_set (p := ⟨w.heap.size + 1 + 1, 0, none⟩) (.bool b3) (by dsimp only; omega) hbb)
      have HG : Hid (GivesI w (sgnI false (X + Y)) (.returned (.agg #[.bool b3, .slice A3 n3 c3])) ((w9.setCell ⟨w.heap.size + 1 + 1, 0, none⟩ (.bool b3)).setCell ⟨w.heap.size + 1 + 1, 1, none⟩ (.slice A3 n3 c3))) :=
        ⟨_, _, _, _, rfl, hwz, hbz⟩
      clear hk9 hwz hbz hk2 hbb hw3
      go_wp2
      refine bodyPost_ret (v := .agg #[.bool b3, .slice A3 n3 c3]) (by simp [results, Try.results44, go_sem, r0, r1]) rfl ?_
      exact HG.out
    · skip
      go_enter Try.func44, Try.ntmps44
      go_wp2_with fail
      generalize ((w.alloc (.cells #[.bool true, .slice A n c] 29)).alloc (.cells #[.slice D m d] 27)).alloc (.cells #[.bool false, .slice none 0 0] 29) = W0 at *
      have g0 : W0.cell? ⟨w.heap.size, 0, none⟩ = some (.bool true) := b2.cell 0
      have g1 : W0.cell? ⟨w.heap.size, 1, none⟩ = some (.slice A n c) := b2.cell 1
      have g2 : W0.cell? ⟨w.heap.size + 1, 0, none⟩ = some (.slice D m d) := b3.cell 0
      clear b2 b3 b5
      refine (HAD.out _ hB).mono ?_
      rintro e w1 ⟨A1, n1, c1, rfl, hw1, hb, hf⟩
      have hk1 := keep_blk hb k3
      have hB1 := keep_below hB hb
      clear hb hf k3 hB HAD HA HD g0 g1 g2
      have HS1 := Lib.hid (HS.out _ _ _ _ hw1)
      go_wp2_with fail
      refine HS1.out.mono ?_
      rintro e w9 ⟨b3, A3, n3, c3, rfl, hw3, hb⟩
      have hk2 := keep_blk hb hk1
      have hbb := keep_below hB1 hb
      clear hb HS1 hk1 hB1 hw1 HS
      have hk9 := (hk2.set_ 0 (.bool b3)).set_ 1 (.slice A3 n3 c3)
      have r0 := hk9.cell 0
      have r1 := hk9.cell 1
      have c0 := hk2.cell 0
      have f0 := hk2.frozen 0
      have c1 : (w9.setCell ⟨w.heap.size + 1 + 1, 0, none⟩ (.bool b3)).cell? ⟨w.heap.size + 1 + 1, 1, none⟩ = some (.slice none 0 0) := (hk2.set_ 0 (.bool b3)).cell 1
      have f1 := (hk2.set_ 0 (.bool b3)).frozen 1
      have hwz := int_set2 hw3 hk2 b3 A3 n3 c3
      have hbz := keep_below_set (p := ⟨w.heap.size + 1 + 1, 1, none⟩) (.slice A3 n3 c3) (by dsimp only; omega) (keep_below_set (p := ⟨w.heap.size + 1 + 1, 0, none⟩) (.bool b3) (by dsimp only; omega) hbb)
      have HG : Hid (GivesI w (sgnI true (X + Y)) (.returned (.agg #[.bool b3, .slice A3 n3 c3])) ((w9.setCell ⟨w.heap.size + 1 + 1, 0, none⟩ (.bool b3)).setCell ⟨w.heap.size + 1 + 1, 1, none⟩ (.slice A3 n3 c3))) :=
        ⟨_, _, _, _, rfl, hwz, hbz⟩
      clear hk9 hwz hbz hk2 hbb hw3
      go_wp2
      refine bodyPost_ret (v := .agg #[.bool b3, .slice A3 n3 c3]) (by simp [results, Try.results44, go_sem, r0, r1]) rfl ?_
      exact HG.out
  · have hs : s = !b := by cases b <;> cases s <;> simp at hbs ⊢
    subst hs
    clear hbs
    rcases Nat.lt_or_ge X Y with hlt | hle
    · have hz : sgnI b X + sgnI (!b) Y = sgnI (!b) (Y - X) := by unfold sgnI; cases b <;> simp <;> omega
      rw [hz]
      clear hz
      have HS := Lib.hid (fun w' A n c (h : WordsIn w' (Y - X) A n c) => integer_signed (!b) (Y - X) A n c w' h)
      have HNO := Lib.hid (fun w' (h : Below w.heap.size w w') => nat_sub_no X Y A D n m c d w' (HA.out _ h) (HD.out _ h) (by omega) (by omega) hlt)
      have HYE := Lib.hid (fun w' (h : Below w.heap.size w w') => nat_sub Y X D A m n d c w' (HD.out _ h) (HA.out _ h) (by omega) (by omega) (by omega))
      clear hlt
      cases b
      · skip
        go_enter Try.func44, Try.ntmps44
        go_wp2_with fail
        generalize ((w.alloc (.cells #[.bool false, .slice A n c] 29)).alloc (.cells #[.slice D m d] 27)).alloc (.cells #[.bool false, .slice none 0 0] 29) = W0 at *
        have g0 : W0.cell? ⟨w.heap.size, 0, none⟩ = some (.bool false) := b2.cell 0
        have g1 : W0.cell? ⟨w.heap.size, 1, none⟩ = some (.slice A n c) := b2.cell 1
        have g2 : W0.cell? ⟨w.heap.size + 1, 0, none⟩ = some (.slice D m d) := b3.cell 0
        clear b2 b3 b5
        refine (HNO.out _ hB).mono ?_
        rintro e w1 ⟨A1, n1, c1, rfl, hw1, hb, hf⟩
        have hk1 := keep_blk hb k3
        have hB1 := keep_below hB hb
        have g0 := keep_cell hb g0
        have g1 := keep_cell hb g1
        have g2 := keep_cell hb g2
        clear hb hf k3 hB HNO hw1 HAD
        obtain ⟨d1, d2, d5⟩ := box1 w1 27 #[.slice A1 n1 c1]
        have hB1 := keep_below hB1 d1
        have hk1 := keep_blk d1 hk1
        have g0 := keep_cell d1 g0
        have g1 := keep_cell d1 g1
        have g2 := keep_cell d1 g2
        clear d2 d5 d1
        go_wp2_with fail
        generalize w1.alloc (.cells #[.slice A1 n1 c1] 27) = W1 at *
        refine (HYE.out _ hB1).mono ?_
        rintro e w2 ⟨A2, n2, c2, rfl, hw2, hb, hf⟩
        have hk1 := keep_blk hb hk1
        have hB1 := keep_below hB1 hb
        clear hb hf HYE HA HD g0 g1 g2
        obtain ⟨d1, d2, d5⟩ := box1 w2 27 #[.slice A2 n2 c2]
        have hB1 := keep_below hB1 d1
        have hk1 := keep_blk d1 hk1
        have hw2 := hw2.below d1
        have g3 : (w2.alloc (.cells #[.slice A2 n2 c2] 27)).cell? ⟨w2.heap.size, 0, none⟩ = some (.slice A2 n2 c2) := d2.cell 0
        clear d1 d2 d5
        have HS1 := Lib.hid (HS.out _ _ _ _ hw2)
        go_wp2_with fail
        refine HS1.out.mono ?_
        rintro e w9 ⟨b3, A3, n3, c3, rfl, hw3, hb⟩
        have hk2 := keep_blk hb hk1
        have hbb := keep_below hB1 hb
        clear hb HS1 hk1 hB1 hw2 HS g3
        have hk9 := (hk2.set_ 0 (.bool b3)).set_ 1 (.slice A3 n3 c3)
        have r0 := hk9.cell 0
        have r1 := hk9.cell 1
        have c0 := hk2.cell 0
        have f0 := hk2.frozen 0
        have c1 : (w9.setCell ⟨w.heap.size + 1 + 1, 0, none⟩ (.bool b3)).cell? ⟨w.heap.size + 1 + 1, 1, none⟩ = some (.slice none 0 0) := (hk2.set_ 0 (.bool b3)).cell 1
        have f1 := (hk2.set_ 0 (.bool b3)).frozen 1
        have hwz := int_set2 hw3 hk2 b3 A3 n3 c3
        have hbz := keep_below_set (p := ⟨w.heap.size + 1 + 1, 1, none⟩) (.slice A3 n3 c3) (by dsimp only; omega) (keep_below_set (p := ⟨w.heap.size + 1 + 1, 0, none⟩) (.bool b3) (by dsimp only; omega) hbb)
        have HG : Hid (GivesI w (sgnI (!false) (Y - X)) (.returned (.agg #[.bool b3, .slice A3 n3 c3])) ((w9.setCell ⟨w.heap.size + 1 + 1, 0, none⟩ (.bool b3)).setCell ⟨w.heap.size + 1 + 1, 1, none⟩ (.slice A3 n3 c3))) :=
          ⟨_, _, _, _, rfl, hwz, hbz⟩
        clear hk9 hwz hbz hk2 hbb hw3
        go_wp2
        refine bodyPost_ret (v := .agg #[.bool b3, .slice A3 n3 c3]) (by simp [results, Try.results44, go_sem, r0, r1]) rfl ?_
        exact HG.out
      · skip
        go_enter Try.func44, Try.ntmps44
        go_wp2_with fail
        generalize ((w.alloc (.cells #[.bool true, .slice A n c] 29)).alloc (.cells #[.slice D m d] 27)).alloc (.cells #[.bool false, .slice none 0 0] 29) = W0 at *
        have g0 : W0.cell? ⟨w.heap.size, 0, none⟩ = some (.bool true) := b2.cell 0
        have g1 : W0.cell? ⟨w.heap.size, 1, none⟩ = some (.slice A n c) := b2.cell 1
        have g2 : W0.cell? ⟨w.heap.size + 1, 0, none⟩ = some (.slice D m d) := b3.cell 0
        clear b2 b3 b5
        refine (HNO.out _ hB).mono ?_
        rintro e w1 ⟨A1, n1, c1, rfl, hw1, hb, hf⟩
        have hk1 := keep_blk hb k3
        have hB1 := keep_below hB hb
        have g0 := keep_cell hb g0
        have g1 := keep_cell hb g1
        have g2 := keep_cell hb g2
        clear hb hf k3 hB HNO hw1 HAD
        obtain ⟨d1, d2, d5⟩ := box1 w1 27 #[.slice A1 n1 c1]
        have hB1 := keep_below hB1 d1
        have hk1 := keep_blk d1 hk1
        have g0 := keep_cell d1 g0
        have g1 := keep_cell d1 g1
        have g2 := keep_cell d1 g2
        clear d2 d5 d1
        go_wp2_with fail
        generalize w1.alloc (.cells #[.slice A1 n1 c1] 27) = W1 at *
        refine (HYE.out _ hB1).mono ?_
        rintro e w2 ⟨A2, n2, c2, rfl, hw2, hb, hf⟩
        have hk1 := keep_blk hb hk1
        have hB1 := keep_below hB1 hb
        clear hb hf HYE HA HD g0 g1 g2
        obtain ⟨d1, d2, d5⟩ := box1 w2 27 #[.slice A2 n2 c2]
        have hB1 := keep_below hB1 d1
        have hk1 := keep_blk d1 hk1
        have hw2 := hw2.below d1
        have g3 : (w2.alloc (.cells #[.slice A2 n2 c2] 27)).cell? ⟨w2.heap.size, 0, none⟩ = some (.slice A2 n2 c2) := d2.cell 0
        clear d1 d2 d5
        have HS1 := Lib.hid (HS.out _ _ _ _ hw2)
        go_wp2_with fail
        refine HS1.out.mono ?_
        rintro e w9 ⟨b3, A3, n3, c3, rfl, hw3, hb⟩
        have hk2 := keep_blk hb hk1
        have hbb := keep_below hB1 hb
        clear hb HS1 hk1 hB1 hw2 HS g3
        have hk9 := (hk2.set_ 0 (.bool b3)).set_ 1 (.slice A3 n3 c3)
        have r0 := hk9.cell 0
        have r1 := hk9.cell 1
        have c0 := hk2.cell 0
        have f0 := hk2.frozen 0
        have c1 : (w9.setCell ⟨w.heap.size + 1 + 1, 0, none⟩ (.bool b3)).cell? ⟨w.heap.size + 1 + 1, 1, none⟩ = some (.slice none 0 0) := (hk2.set_ 0 (.bool b3)).cell 1
        have f1 := (hk2.set_ 0 (.bool b3)).frozen 1
        have hwz := int_set2 hw3 hk2 b3 A3 n3 c3
        have hbz := keep_below_set (p := ⟨w.heap.size + 1 + 1, 1, none⟩) (.slice A3 n3 c3) (by dsimp only; omega) (keep_below_set (p := ⟨w.heap.size + 1 + 1, 0, none⟩) (.bool b3) (by dsimp only; omega) hbb)
        have HG : Hid (GivesI w (sgnI (!true) (Y - X)) (.returned (.agg #[.bool b3, .slice A3 n3 c3])) ((w9.setCell ⟨w.heap.size + 1 + 1, 0, none⟩ (.bool b3)).setCell ⟨w.heap.size + 1 + 1, 1, none⟩ (.slice A3 n3 c3))) :=
          ⟨_, _, _, _, rfl, hwz, hbz⟩
        clear hk9 hwz hbz hk2 hbb hw3
        go_wp2
        refine bodyPost_ret (v := .agg #[.bool b3, .slice A3 n3 c3]) (by simp [results, Try.results44, go_sem, r0, r1]) rfl ?_
        exact HG.out
    · have hz : sgnI b X + sgnI (!b) Y = sgnI b (X - Y) := by unfold sgnI; cases b <;> simp <;> omega
      rw [hz]
      clear hz
      have HS := Lib.hid (fun w' A n c (h : WordsIn w' (X - Y) A n c) => integer_signed b (X - Y) A n c w' h)
      have HYE := Lib.hid (fun w' (h : Below w.heap.size w w') => nat_sub X Y A D n m c d w' (HA.out _ h) (HD.out _ h) (by omega) (by omega) hle)
      clear hle
      cases b
      · skip
        go_enter Try.func44, Try.ntmps44
        go_wp2_with fail
        generalize ((w.alloc (.cells #[.bool false, .slice A n c] 29)).alloc (.cells #[.slice D m d] 27)).alloc (.cells #[.bool false, .slice none 0 0] 29) = W0 at *
        have g0 : W0.cell? ⟨w.heap.size, 0, none⟩ = some (.bool false) := b2.cell 0
        have g1 : W0.cell? ⟨w.heap.size, 1, none⟩ = some (.slice A n c) := b2.cell 1
        have g2 : W0.cell? ⟨w.heap.size + 1, 0, none⟩ = some (.slice D m d) := b3.cell 0
        clear b2 b3 b5
        refine (HYE.out _ hB).mono ?_
        rintro e w1 ⟨A1, n1, c1, rfl, hw1, hb, hf⟩
        have hk1 := keep_blk hb k3
        have hB1 := keep_below hB hb
        have g0 := keep_cell hb g0
        clear hb hf k3 hB HYE HAD g1 g2 HA HD
        obtain ⟨d1, d2, d5⟩ := box1 w1 27 #[.slice A1 n1 c1]
        have hB1 := keep_below hB1 d1
        have hk1 := keep_blk d1 hk1
        have g0 := keep_cell d1 g0
        have hw1 := hw1.below d1
        have g3 : (w1.alloc (.cells #[.slice A1 n1 c1] 27)).cell? ⟨w1.heap.size, 0, none⟩ = some (.slice A1 n1 c1) := d2.cell 0
        clear d1 d2 d5
        have HS1 := Lib.hid (HS.out _ _ _ _ hw1)
        go_wp2_with fail
        refine HS1.out.mono ?_
        rintro e w9 ⟨b3, A3, n3, c3, rfl, hw3, hb⟩
        have hk2 := keep_blk hb hk1
        have hbb := keep_below hB1 hb
        clear hb HS1 hk1 hB1 hw1 HS g0 g3
        have hk9 := (hk2.set_ 0 (.bool b3)).set_ 1 (.slice A3 n3 c3)
        have r0 := hk9.cell 0
        have r1 := hk9.cell 1
        have c0 := hk2.cell 0
        have f0 := hk2.frozen 0
        have c1 : (w9.setCell ⟨w.heap.size + 1 + 1, 0, none⟩ (.bool b3)).cell? ⟨w.heap.size + 1 + 1, 1, none⟩ = some (.slice none 0 0) := (hk2.set_ 0 (.bool b3)).cell 1
        have f1 := (hk2.set_ 0 (.bool b3)).frozen 1
        have hwz := int_set2 hw3 hk2 b3 A3 n3 c3
        have hbz := keep_below_set (p := ⟨w.heap.size + 1 + 1, 1, none⟩) (.slice A3 n3 c3) (by dsimp only; omega) (keep_below_set (p := ⟨w.heap.size + 1 + 1, 0, none⟩) (.bool b3) (by dsimp only; omega) hbb)
        have HG : Hid (GivesI w (sgnI false (X - Y)) (.returned (.agg #[.bool b3, .slice A3 n3 c3])) ((w9.setCell ⟨w.heap.size + 1 + 1, 0, none⟩ (.bool b3)).setCell ⟨w.heap.size + 1 + 1, 1, none⟩ (.slice A3 n3 c3))) :=
          ⟨_, _, _, _, rfl, hwz, hbz⟩
        clear hk9 hwz hbz hk2 hbb hw3
        go_wp2
        refine bodyPost_ret (v := .agg #[.bool b3, .slice A3 n3 c3]) (by simp [results, Try.results44, go_sem, r0, r1]) rfl ?_
        exact HG.out
      · skip
        go_enter Try.func44, Try.ntmps44
        go_wp2_with fail
        generalize ((w.alloc (.cells #[.bool true, .slice A n c] 29)).alloc (.cells #[.slice D m d] 27)).alloc (.cells #[.bool false, .slice none 0 0] 29) = W0 at *
        have g0 : W0.cell? ⟨w.heap.size, 0, none⟩ = some (.bool true) := b2.cell 0
        have g1 : W0.cell? ⟨w.heap.size, 1, none⟩ = some (.slice A n c) := b2.cell 1
        have g2 : W0.cell? ⟨w.heap.size + 1, 0, none⟩ = some (.slice D m d) := b3.cell 0
        clear b2 b3 b5
        refine (HYE.out _ hB).mono ?_
        rintro e w1 ⟨A1, n1, c1, rfl, hw1, hb, hf⟩
        have hk1 := keep_blk hb k3
        have hB1 := keep_below hB hb
        have g0 := keep_cell hb g0
        clear hb hf k3 hB HYE HAD g1 g2 HA HD
        obtain ⟨d1, d2, d5⟩ := box1 w1 27 #[.slice A1 n1 c1]
        have hB1 := keep_below hB1 d1
        have hk1 := keep_blk d1 hk1
        have g0 := keep_cell d1 g0
        have hw1 := hw1.below d1
        have g3 : (w1.alloc (.cells #[.slice A1 n1 c1] 27)).cell? ⟨w1.heap.size, 0, none⟩ = some (.slice A1 n1 c1) := d2.cell 0
        clear d1 d2 d5
        have HS1 := Lib.hid (HS.out _ _ _ _ hw1)
        go_wp2_with fail
        refine HS1.out.mono ?_
        rintro e w9 ⟨b3, A3, n3, c3, rfl, hw3, hb⟩
        have hk2 := keep_blk hb hk1
        have hbb := keep_below hB1 hb
        clear hb HS1 hk1 hB1 hw1 HS g0 g3
        have hk9 := (hk2.set_ 0 (.bool b3)).set_ 1 (.slice A3 n3 c3)
        have r0 := hk9.cell 0
        have r1 := hk9.cell 1
        have c0 := hk2.cell 0
        have f0 := hk2.frozen 0
        have c1 : (w9.setCell ⟨w.heap.size + 1 + 1, 0, none⟩ (.bool b3)).cell? ⟨w.heap.size + 1 + 1, 1, none⟩ = some (.slice none 0 0) := (hk2.set_ 0 (.bool b3)).cell 1
        have f1 := (hk2.set_ 0 (.bool b3)).frozen 1
        have hwz := int_set2 hw3 hk2 b3 A3 n3 c3
        have hbz := keep_below_set (p := ⟨w.heap.size + 1 + 1, 1, none⟩) (.slice A3 n3 c3) (by dsimp only; omega) (keep_below_set (p := ⟨w.heap.size + 1 + 1, 0, none⟩) (.bool b3) (by dsimp only; omega) hbb)
        have HG : Hid (GivesI w (sgnI true (X - Y)) (.returned (.agg #[.bool b3, .slice A3 n3 c3])) ((w9.setCell ⟨w.heap.size + 1 + 1, 0, none⟩ (.bool b3)).setCell ⟨w.heap.size + 1 + 1, 1, none⟩ (.slice A3 n3 c3))) :=
          ⟨_, _, _, _, rfl, hwz, hbz⟩
        clear hk9 hwz hbz hk2 hbb hw3
        go_wp2
        refine bodyPost_ret (v := .agg #[.bool b3, .slice A3 n3 c3]) (by simp [results, Try.results44, go_sem, r0, r1]) rfl ?_
        exact HG.out
set_option maxHeartbeats 4000000 in
theorem integer_add (x y : Int) (b b' : Bool) (A D : Option Addr) (n m c d : Nat) (w : World) (hA : IntIn w x b A n c) (hD : IntIn w y b' D m d) (hn : n ≤ 274877906944) (hm : m ≤ 274877906944) :
    Calls Try.prog 17 #[.agg #[.bool b, .slice A n c], .agg #[.bool b', .slice D m d]] w (GivesI w (x + y)) := by
  have hy := sgnI_of y
  rw [← hD.1] at hy
  have hz : x + sgnI (b') y.natAbs = x + y := by rw [hy]
  obtain ⟨Y, hY⟩ : ∃ Y, y.natAbs = Y := ⟨_, rfl⟩
  have HSM := Lib.hid (fun w' (h : Below w.heap.size w w') => integer_sum x b (b') y.natAbs A D n m c d w' (hA.below h) (hD.2.below h) hn hm)
  rw [hY] at HSM hz
  rw [hz] at HSM
  clear hA hD hz hy hY
  cases b'
  · skip
    obtain ⟨hB, b2, b3, k3, b5⟩ := box3 w 29 29 29 #[.bool b, .slice A n c] #[.bool false, .slice D m d] #[.bool false, .slice none 0 0]
    go_enter Try.func17, Try.ntmps17
    go_wp2_with fail
    generalize ((w.alloc (.cells #[.bool b, .slice A n c] 29)).alloc (.cells #[.bool false, .slice D m d] 29)).alloc (.cells #[.bool false, .slice none 0 0] 29) = W0 at *
    have g0 : W0.cell? ⟨w.heap.size, 0, none⟩ = some (.bool b) := b2.cell 0
    have g1 : W0.cell? ⟨w.heap.size, 1, none⟩ = some (.slice A n c) := b2.cell 1
    have g2 : W0.cell? ⟨w.heap.size + 1, 0, none⟩ = some (.bool false) := b3.cell 0
    have g3 : W0.cell? ⟨w.heap.size + 1, 1, none⟩ = some (.slice D m d) := b3.cell 1
    clear b2 b3 b5
    refine (HSM.out _ hB).mono ?_
    rintro e w9 ⟨b3, A3, n3, c3, rfl, hw3, hb⟩
    have hk2 := keep_blk hb k3
    have hbb := keep_below hB hb
    clear hb k3 hB HSM g0 g1 g2 g3
    have hk9 := (hk2.set_ 0 (.bool b3)).set_ 1 (.slice A3 n3 c3)
    have r0 := hk9.cell 0
    have r1 := hk9.cell 1
    have c0 := hk2.cell 0
    have f0 := hk2.frozen 0
    have c1 : (w9.setCell ⟨w.heap.size + 1 + 1, 0, none⟩ (.bool b3)).cell? ⟨w.heap.size + 1 + 1, 1, none⟩ = some (.slice none 0 0) := (hk2.set_ 0 (.bool b3)).cell 1
    have f1 := (hk2.set_ 0 (.bool b3)).frozen 1
    have hwz := int_set2 hw3 hk2 b3 A3 n3 c3
    have hbz := keep_below_set (p := ⟨w.heap.size + 1 + 1, 1, none⟩) (.slice A3 n3 c3) (by dsimp only; omega) (keep_below_set (p := ⟨w.heap.size + 1 + 1, 0, none⟩) (.bool b3) (by dsimp only; omega) hbb)
    have HG : Hid (GivesI w (x + y) (.returned (.agg #[.bool b3, .slice A3 n3 c3])) ((w9.setCell ⟨w.heap.size + 1 + 1, 0, none⟩ (.bool b3)).setCell ⟨w.heap.size + 1 + 1, 1, none⟩ (.slice A3 n3 c3))) :=
      ⟨_, _, _, _, rfl, hwz, hbz⟩
    clear hk9 hwz hbz hk2 hbb hw3
    go_wp2
    refine bodyPost_ret (v := .agg #[.bool b3, .slice A3 n3 c3]) (by simp [results, Try.results17, go_sem, r0, r1]) rfl ?_
    exact HG.out
  · skip
    obtain ⟨hB, b2, b3, k3, b5⟩ := box3 w 29 29 29 #[.bool b, .slice A n c] #[.bool true, .slice D m d] #[.bool false, .slice none 0 0]
    go_enter Try.func17, Try.ntmps17
    go_wp2_with fail
    generalize ((w.alloc (.cells #[.bool b, .slice A n c] 29)).alloc (.cells #[.bool true, .slice D m d] 29)).alloc (.cells #[.bool false, .slice none 0 0] 29) = W0 at *
    have g0 : W0.cell? ⟨w.heap.size, 0, none⟩ = some (.bool b) := b2.cell 0
    have g1 : W0.cell? ⟨w.heap.size, 1, none⟩ = some (.slice A n c) := b2.cell 1
    have g2 : W0.cell? ⟨w.heap.size + 1, 0, none⟩ = some (.bool true) := b3.cell 0
    have g3 : W0.cell? ⟨w.heap.size + 1, 1, none⟩ = some (.slice D m d) := b3.cell 1
    clear b2 b3 b5
    refine (HSM.out _ hB).mono ?_
    rintro e w9 ⟨b3, A3, n3, c3, rfl, hw3, hb⟩
    have hk2 := keep_blk hb k3
    have hbb := keep_below hB hb
    clear hb k3 hB HSM g0 g1 g2 g3
    have hk9 := (hk2.set_ 0 (.bool b3)).set_ 1 (.slice A3 n3 c3)
    have r0 := hk9.cell 0
    have r1 := hk9.cell 1
    have c0 := hk2.cell 0
    have f0 := hk2.frozen 0
    have c1 : (w9.setCell ⟨w.heap.size + 1 + 1, 0, none⟩ (.bool b3)).cell? ⟨w.heap.size + 1 + 1, 1, none⟩ = some (.slice none 0 0) := (hk2.set_ 0 (.bool b3)).cell 1
    have f1 := (hk2.set_ 0 (.bool b3)).frozen 1
    have hwz := int_set2 hw3 hk2 b3 A3 n3 c3
    have hbz := keep_below_set (p := ⟨w.heap.size + 1 + 1, 1, none⟩) (.slice A3 n3 c3) (by dsimp only; omega) (keep_below_set (p := ⟨w.heap.size + 1 + 1, 0, none⟩) (.bool b3) (by dsimp only; omega) hbb)
    have HG : Hid (GivesI w (x + y) (.returned (.agg #[.bool b3, .slice A3 n3 c3])) ((w9.setCell ⟨w.heap.size + 1 + 1, 0, none⟩ (.bool b3)).setCell ⟨w.heap.size + 1 + 1, 1, none⟩ (.slice A3 n3 c3))) :=
      ⟨_, _, _, _, rfl, hwz, hbz⟩
    clear hk9 hwz hbz hk2 hbb hw3
    go_wp2
    refine bodyPost_ret (v := .agg #[.bool b3, .slice A3 n3 c3]) (by simp [results, Try.results17, go_sem, r0, r1]) rfl ?_
    exact HG.out
set_option maxHeartbeats 4000000 in
theorem integer_sub (x y : Int) (b b' : Bool) (A D : Option Addr) (n m c d : Nat) (w : World) (hA : IntIn w x b A n c) (hD : IntIn w y b' D m d) (hn : n ≤ 274877906944) (hm : m ≤ 274877906944) :
    Calls Try.prog 19 #[.agg #[.bool b, .slice A n c], .agg #[.bool b', .slice D m d]] w (GivesI w (x - y)) := by
  have hy := sgnI_negz y
  rw [← hD.1] at hy
  have hz : x + sgnI (!b') y.natAbs = x - y := by rw [hy]; omega
  obtain ⟨Y, hY⟩ : ∃ Y, y.natAbs = Y := ⟨_, rfl⟩
  have HSM := Lib.hid (fun w' (h : Below w.heap.size w w') => integer_sum x b (!b') y.natAbs A D n m c d w' (hA.below h) (hD.2.below h) hn hm)
  rw [hY] at HSM hz
  rw [hz] at HSM
  clear hA hD hz hy hY
  cases b'
  · skip
    obtain ⟨hB, b2, b3, k3, b5⟩ := box3 w 29 29 29 #[.bool b, .slice A n c] #[.bool false, .slice D m d] #[.bool false, .slice none 0 0]
    go_enter Try.func19, Try.ntmps19
    go_wp2_with fail
    generalize ((w.alloc (.cells #[.bool b, .slice A n c] 29)).alloc (.cells #[.bool false, .slice D m d] 29)).alloc (.cells #[.bool false, .slice none 0 0] 29) = W0 at *
    have g0 : W0.cell? ⟨w.heap.size, 0, none⟩ = some (.bool b) := b2.cell 0
    have g1 : W0.cell? ⟨w.heap.size, 1, none⟩ = some (.slice A n c) := b2.cell 1
    have g2 : W0.cell? ⟨w.heap.size + 1, 0, none⟩ = some (.bool false) := b3.cell 0
    have g3 : W0.cell? ⟨w.heap.size + 1, 1, none⟩ = some (.slice D m d) := b3.cell 1
    clear b2 b3 b5
    refine (HSM.out _ hB).mono ?_
    rintro e w9 ⟨b3, A3, n3, c3, rfl, hw3, hb⟩
    have hk2 := keep_blk hb k3
    have hbb := keep_below hB hb
    clear hb k3 hB HSM g0 g1 g2 g3
    have hk9 := (hk2.set_ 0 (.bool b3)).set_ 1 (.slice A3 n3 c3)
    have r0 := hk9.cell 0
    have r1 := hk9.cell 1
    have c0 := hk2.cell 0
    have f0 := hk2.frozen 0
    have c1 : (w9.setCell ⟨w.heap.size + 1 + 1, 0, none⟩ (.bool b3)).cell? ⟨w.heap.size + 1 + 1, 1, none⟩ = some (.slice none 0 0) := (hk2.set_ 0 (.bool b3)).cell 1
    have f1 := (hk2.set_ 0 (.bool b3)).frozen 1
    have hwz := int_set2 hw3 hk2 b3 A3 n3 c3
    have hbz := keep_below_set (p := ⟨w.heap.size + 1 + 1, 1, none⟩) (.slice A3 n3 c3) (by dsimp only; omega) (keep_below_set (p := ⟨w.heap.size + 1 + 1, 0, none⟩) (.bool b3) (by dsimp only; omega) hbb)
    have HG : Hid (GivesI w (x - y) (.returned (.agg #[.bool b3, .slice A3 n3 c3])) ((w9.setCell ⟨w.heap.size + 1 + 1, 0, none⟩ (.bool b3)).setCell ⟨w.heap.size + 1 + 1, 1, none⟩ (.slice A3 n3 c3))) :=
      ⟨_, _, _, _, rfl, hwz, hbz⟩
    clear hk9 hwz hbz hk2 hbb hw3
    go_wp2
    refine bodyPost_ret (v := .agg #[.bool b3, .slice A3 n3 c3]) (by simp [results, Try.results19, go_sem, r0, r1]) rfl ?_
    exact HG.out
  · skip
    obtain ⟨hB, b2, b3, k3, b5⟩ := box3 w 29 29 29 #[.bool b, .slice A n c] #[.bool true, .slice D m d] #[.bool false, .slice none 0 0]
    go_enter Try.func19, Try.ntmps19
    go_wp2_with fail
    generalize ((w.alloc (.cells #[.bool b, .slice A n c] 29)).alloc (.cells #[.bool true, .slice D m d] 29)).alloc (.cells #[.bool false, .slice none 0 0] 29) = W0 at *
    have g0 : W0.cell? ⟨w.heap.size, 0, none⟩ = some (.bool b) := b2.cell 0
    have g1 : W0.cell? ⟨w.heap.size, 1, none⟩ = some (.slice A n c) := b2.cell 1
    have g2 : W0.cell? ⟨w.heap.size + 1, 0, none⟩ = some (.bool true) := b3.cell 0
    have g3 : W0.cell? ⟨w.heap.size + 1, 1, none⟩ = some (.slice D m d) := b3.cell 1
    clear b2 b3 b5
    refine (HSM.out _ hB).mono ?_
    rintro e w9 ⟨b3, A3, n3, c3, rfl, hw3, hb⟩
    have hk2 := keep_blk hb k3
    have hbb := keep_below hB hb
    clear hb k3 hB HSM g0 g1 g2 g3
    have hk9 := (hk2.set_ 0 (.bool b3)).set_ 1 (.slice A3 n3 c3)
    have r0 := hk9.cell 0
    have r1 := hk9.cell 1
    have c0 := hk2.cell 0
    have f0 := hk2.frozen 0
    have c1 : (w9.setCell ⟨w.heap.size + 1 + 1, 0, none⟩ (.bool b3)).cell? ⟨w.heap.size + 1 + 1, 1, none⟩ = some (.slice none 0 0) := (hk2.set_ 0 (.bool b3)).cell 1
    have f1 := (hk2.set_ 0 (.bool b3)).frozen 1
    have hwz := int_set2 hw3 hk2 b3 A3 n3 c3
    have hbz := keep_below_set (p := ⟨w.heap.size + 1 + 1, 1, none⟩) (.slice A3 n3 c3) (by dsimp only; omega) (keep_below_set (p := ⟨w.heap.size + 1 + 1, 0, none⟩) (.bool b3) (by dsimp only; omega) hbb)
    have HG : Hid (GivesI w (x - y) (.returned (.agg #[.bool b3, .slice A3 n3 c3])) ((w9.setCell ⟨w.heap.size + 1 + 1, 0, none⟩ (.bool b3)).setCell ⟨w.heap.size + 1 + 1, 1, none⟩ (.slice A3 n3 c3))) :=
      ⟨_, _, _, _, rfl, hwz, hbz⟩
    clear hk9 hwz hbz hk2 hbb hw3
    go_wp2
    refine bodyPost_ret (v := .agg #[.bool b3, .slice A3 n3 c3]) (by simp [results, Try.results19, go_sem, r0, r1]) rfl ?_
    exact HG.out
theorem sgn_mul (b b' : Bool) (X Y : Nat) : sgnI b X * sgnI b' Y = sgnI (b != b') (X * Y) := by
  unfold sgnI
  cases b <;> cases b' <;> simp [Int.natCast_mul, Int.mul_neg, Int.neg_mul]
set_option maxHeartbeats 8000000 in
theorem integer_mul (x y : Int) (b b' : Bool) (A D : Option Addr) (n m c d : Nat) (w : World) (hA : IntIn w x b A n c) (hD : IntIn w y b' D m d) (hn : n ≤ 274877906944) (hm : m ≤ 274877906944) :
    Calls Try.prog 20 #[.agg #[.bool b, .slice A n c], .agg #[.bool b', .slice D m d]] w (GivesI w (x * y)) := by
  have hx := sgnI_of x
  have hy := sgnI_of y
  rw [← hA.1] at hx
  rw [← hD.1] at hy
  have HM := Lib.hid (fun w' (h : Below w.heap.size w w') => prod_mul x.natAbs y.natAbs A D n m c d w' (hA.2.below h) (hD.2.below h) hn hm)
  obtain ⟨X, hX⟩ : ∃ X, x.natAbs = X := ⟨_, rfl⟩
  obtain ⟨Y, hY⟩ : ∃ Y, y.natAbs = Y := ⟨_, rfl⟩
  rw [hX, hY] at HM
  rw [hX] at hx
  rw [hY] at hy
  rw [← hx, ← hy, sgn_mul]
  have HS := Lib.hid (fun s w' A n c (h : WordsIn w' (X * Y) A n c) => integer_signed s (X * Y) A n c w' h)
  clear hA hD hX hY hx hy x y
  cases b <;> cases b'
  · skip
    have HS1 := Lib.hid (HS.out false)
    obtain ⟨hB, b2, b3, k3, b5⟩ := box3 w 29 29 29 #[.bool false, .slice A n c] #[.bool false, .slice D m d] #[.bool false, .slice none 0 0]
    go_enter Try.func20, Try.ntmps20
    go_wp2_with fail
    generalize ((w.alloc (.cells #[.bool false, .slice A n c] 29)).alloc (.cells #[.bool false, .slice D m d] 29)).alloc (.cells #[.bool false, .slice none 0 0] 29) = W0 at *
    have g0 : W0.drew.cell? ⟨w.heap.size, 0, none⟩ = some (.bool false) := b2.cell 0
    have g1 : W0.drew.cell? ⟨w.heap.size, 1, none⟩ = some (.slice A n c) := b2.cell 1
    have g2 : W0.drew.cell? ⟨w.heap.size + 1, 0, none⟩ = some (.bool false) := b3.cell 0
    have g3 : W0.drew.cell? ⟨w.heap.size + 1, 1, none⟩ = some (.slice D m d) := b3.cell 1
    have hb0 := hB.drew
    have hk0 := k3.drew
    clear b2 b3 b5 hB k3 HS
    go_region_held3 (fun w' => Below w.heap.size w w' ∧ w'.cell? ⟨w.heap.size, 0, none⟩ = some (.bool false) ∧ w'.cell? ⟨w.heap.size, 1, none⟩ = some (.slice A n c) ∧ w'.cell? ⟨w.heap.size + 1, 0, none⟩ = some (.bool false) ∧ w'.cell? ⟨w.heap.size + 1, 1, none⟩ = some (.slice D m d))
      (first | (exact ⟨hb0, g0, g1, g2, g3⟩) | (go_split_ands; (repeat' apply And.intro); all_goals (first | with_reducible assumption | exact keep_below (by with_reducible assumption) hb | exact keep_cell hb (by with_reducible assumption) | exact keep_below_set _ (by dsimp only; omega) (keep_below_set _ (by dsimp only; omega) (by with_reducible assumption)) | exact keep_cell_set _ (by dsimp only; omega) (keep_cell_set _ (by dsimp only; omega) (by with_reducible assumption)) | exact keep_below_set _ (by dsimp only; omega) (by with_reducible assumption) | exact keep_cell_set _ (by dsimp only; omega) (by with_reducible assumption))))
      (first
        | (go_at_call 48; (with_reducible refine (HM.out _ (by first | with_reducible assumption | exact And.left (by with_reducible assumption))).mono ?_); rintro e w2 ⟨A2, n2, c2, rfl, hw2, hb, _⟩; have hk1 := keep_blk hb hk0)
        | (go_at_call 42; (with_reducible refine (HS1.out _ _ _ _ hw2).mono ?_); rintro e w3 ⟨b3, A3, n3, c3, rfl, hw3, hb⟩; go_split_ands; have hk2 := keep_blk hb hk1; have c0 := hk2.cell 0; have f0 := hk2.frozen 0; have c1 : (w3.setCell ⟨w.heap.size + 1 + 1, 0, none⟩ (.bool b3)).cell? ⟨w.heap.size + 1 + 1, 1, none⟩ = some (.slice none 0 0) := (hk2.set_ 0 (.bool b3)).cell 1; have f1 := (hk2.set_ 0 (.bool b3)).frozen 1; have hbb : Below w.heap.size w w3 := keep_below (by with_reducible assumption) hb))
    have hk9 := (hk2.set_ 0 (.bool b3)).set_ 1 (.slice A3 n3 c3)
    have r0 := hk9.cell 0
    have r1 := hk9.cell 1
    have c0 := hk2.cell 0
    have f0 := hk2.frozen 0
    have c1 : (w3.setCell ⟨w.heap.size + 1 + 1, 0, none⟩ (.bool b3)).cell? ⟨w.heap.size + 1 + 1, 1, none⟩ = some (.slice none 0 0) := (hk2.set_ 0 (.bool b3)).cell 1
    have f1 := (hk2.set_ 0 (.bool b3)).frozen 1
    have hwz := int_set2 hw3 hk2 b3 A3 n3 c3
    have hbz := keep_below_set (p := ⟨w.heap.size + 1 + 1, 1, none⟩) (.slice A3 n3 c3) (by dsimp only; omega) (keep_below_set (p := ⟨w.heap.size + 1 + 1, 0, none⟩) (.bool b3) (by dsimp only; omega) hbb)
    have HG : Hid (GivesI w (sgnI false (X * Y)) (.returned (.agg #[.bool b3, .slice A3 n3 c3])) ((w3.setCell ⟨w.heap.size + 1 + 1, 0, none⟩ (.bool b3)).setCell ⟨w.heap.size + 1 + 1, 1, none⟩ (.slice A3 n3 c3))) :=
      ⟨_, _, _, _, rfl, hwz, hbz⟩
    clear hk9 hwz hbz hk2 hbb hw3 hb hk1 hk0 hb0 HS1 HM g0 g1 g2 g3 hw2
    go_wp2
    refine bodyPost_ret (v := .agg #[.bool b3, .slice A3 n3 c3]) (by simp [results, Try.results20, go_sem, r0, r1]) rfl ?_
    exact HG.out
  · skip
    have HS1 := Lib.hid (HS.out true)
    obtain ⟨hB, b2, b3, k3, b5⟩ := box3 w 29 29 29 #[.bool false, .slice A n c] #[.bool true, .slice D m d] #[.bool false, .slice none 0 0]
    go_enter Try.func20, Try.ntmps20
    go_wp2_with fail
    generalize ((w.alloc (.cells #[.bool false, .slice A n c] 29)).alloc (.cells #[.bool true, .slice D m d] 29)).alloc (.cells #[.bool false, .slice none 0 0] 29) = W0 at *
    have g0 : W0.drew.cell? ⟨w.heap.size, 0, none⟩ = some (.bool false) := b2.cell 0
    have g1 : W0.drew.cell? ⟨w.heap.size, 1, none⟩ = some (.slice A n c) := b2.cell 1
    have g2 : W0.drew.cell? ⟨w.heap.size + 1, 0, none⟩ = some (.bool true) := b3.cell 0
    have g3 : W0.drew.cell? ⟨w.heap.size + 1, 1, none⟩ = some (.slice D m d) := b3.cell 1
    have hb0 := hB.drew
    have hk0 := k3.drew
    clear b2 b3 b5 hB k3 HS
    go_region_held3 (fun w' => Below w.heap.size w w' ∧ w'.cell? ⟨w.heap.size, 0, none⟩ = some (.bool false) ∧ w'.cell? ⟨w.heap.size, 1, none⟩ = some (.slice A n c) ∧ w'.cell? ⟨w.heap.size + 1, 0, none⟩ = some (.bool true) ∧ w'.cell? ⟨w.heap.size + 1, 1, none⟩ = some (.slice D m d))
      (first | (exact ⟨hb0, g0, g1, g2, g3⟩) | (go_split_ands; (repeat' apply And.intro); all_goals (first | with_reducible assumption | exact keep_below (by with_reducible assumption) hb | exact keep_cell hb (by with_reducible assumption) | exact keep_below_set _ (by dsimp only; omega) (keep_below_set _ (by dsimp only; omega) (by with_reducible assumption)) | exact keep_cell_set _ (by dsimp only; omega) (keep_cell_set _ (by dsimp only; omega) (by with_reducible assumption)) | exact keep_below_set _ (by dsimp only; omega) (by with_reducible assumption) | exact keep_cell_set _ (by dsimp only; omega) (by with_reducible assumption))))
      (first
        | (go_at_call 48; (with_reducible refine (HM.out _ (by first | with_reducible assumption | exact And.left (by with_reducible assumption))).mono ?_); rintro e w2 ⟨A2, n2, c2, rfl, hw2, hb, _⟩; have hk1 := keep_blk hb hk0)
        | (go_at_call 42; (with_reducible refine (HS1.out _ _ _ _ hw2).mono ?_); rintro e w3 ⟨b3, A3, n3, c3, rfl, hw3, hb⟩; go_split_ands; have hk2 := keep_blk hb hk1; have c0 := hk2.cell 0; have f0 := hk2.frozen 0; have c1 : (w3.setCell ⟨w.heap.size + 1 + 1, 0, none⟩ (.bool b3)).cell? ⟨w.heap.size + 1 + 1, 1, none⟩ = some (.slice none 0 0) := (hk2.set_ 0 (.bool b3)).cell 1; have f1 := (hk2.set_ 0 (.bool b3)).frozen 1; have hbb : Below w.heap.size w w3 := keep_below (by with_reducible assumption) hb))
    have hk9 := (hk2.set_ 0 (.bool b3)).set_ 1 (.slice A3 n3 c3)
    have r0 := hk9.cell 0
    have r1 := hk9.cell 1
    have c0 := hk2.cell 0
    have f0 := hk2.frozen 0
    have c1 : (w3.setCell ⟨w.heap.size + 1 + 1, 0, none⟩ (.bool b3)).cell? ⟨w.heap.size + 1 + 1, 1, none⟩ = some (.slice none 0 0) := (hk2.set_ 0 (.bool b3)).cell 1
    have f1 := (hk2.set_ 0 (.bool b3)).frozen 1
    have hwz := int_set2 hw3 hk2 b3 A3 n3 c3
    have hbz := keep_below_set (p := ⟨w.heap.size + 1 + 1, 1, none⟩) (.slice A3 n3 c3) (by dsimp only; omega) (keep_below_set (p := ⟨w.heap.size + 1 + 1, 0, none⟩) (.bool b3) (by dsimp only; omega) hbb)
    have HG : Hid (GivesI w (sgnI true (X * Y)) (.returned (.agg #[.bool b3, .slice A3 n3 c3])) ((w3.setCell ⟨w.heap.size + 1 + 1, 0, none⟩ (.bool b3)).setCell ⟨w.heap.size + 1 + 1, 1, none⟩ (.slice A3 n3 c3))) :=
      ⟨_, _, _, _, rfl, hwz, hbz⟩
    clear hk9 hwz hbz hk2 hbb hw3 hb hk1 hk0 hb0 HS1 HM g0 g1 g2 g3 hw2
    go_wp2
    refine bodyPost_ret (v := .agg #[.bool b3, .slice A3 n3 c3]) (by simp [results, Try.results20, go_sem, r0, r1]) rfl ?_
    exact HG.out
  · skip
    have HS1 := Lib.hid (HS.out true)
    obtain ⟨hB, b2, b3, k3, b5⟩ := box3 w 29 29 29 #[.bool true, .slice A n c] #[.bool false, .slice D m d] #[.bool false, .slice none 0 0]
    go_enter Try.func20, Try.ntmps20
    go_wp2_with fail
    generalize ((w.alloc (.cells #[.bool true, .slice A n c] 29)).alloc (.cells #[.bool false, .slice D m d] 29)).alloc (.cells #[.bool false, .slice none 0 0] 29) = W0 at *
    have g0 : W0.drew.cell? ⟨w.heap.size, 0, none⟩ = some (.bool true) := b2.cell 0
    have g1 : W0.drew.cell? ⟨w.heap.size, 1, none⟩ = some (.slice A n c) := b2.cell 1
    have g2 : W0.drew.cell? ⟨w.heap.size + 1, 0, none⟩ = some (.bool false) := b3.cell 0
    have g3 : W0.drew.cell? ⟨w.heap.size + 1, 1, none⟩ = some (.slice D m d) := b3.cell 1
    have hb0 := hB.drew
    have hk0 := k3.drew
    clear b2 b3 b5 hB k3 HS
    go_region_held3 (fun w' => Below w.heap.size w w' ∧ w'.cell? ⟨w.heap.size, 0, none⟩ = some (.bool true) ∧ w'.cell? ⟨w.heap.size, 1, none⟩ = some (.slice A n c) ∧ w'.cell? ⟨w.heap.size + 1, 0, none⟩ = some (.bool false) ∧ w'.cell? ⟨w.heap.size + 1, 1, none⟩ = some (.slice D m d))
      (first | (exact ⟨hb0, g0, g1, g2, g3⟩) | (go_split_ands; (repeat' apply And.intro); all_goals (first | with_reducible assumption | exact keep_below (by with_reducible assumption) hb | exact keep_cell hb (by with_reducible assumption) | exact keep_below_set _ (by dsimp only; omega) (keep_below_set _ (by dsimp only; omega) (by with_reducible assumption)) | exact keep_cell_set _ (by dsimp only; omega) (keep_cell_set _ (by dsimp only; omega) (by with_reducible assumption)) | exact keep_below_set _ (by dsimp only; omega) (by with_reducible assumption) | exact keep_cell_set _ (by dsimp only; omega) (by with_reducible assumption))))
      (first
        | (go_at_call 48; (with_reducible refine (HM.out _ (by first | with_reducible assumption | exact And.left (by with_reducible assumption))).mono ?_); rintro e w2 ⟨A2, n2, c2, rfl, hw2, hb, _⟩; have hk1 := keep_blk hb hk0)
        | (go_at_call 42; (with_reducible refine (HS1.out _ _ _ _ hw2).mono ?_); rintro e w3 ⟨b3, A3, n3, c3, rfl, hw3, hb⟩; go_split_ands; have hk2 := keep_blk hb hk1; have c0 := hk2.cell 0; have f0 := hk2.frozen 0; have c1 : (w3.setCell ⟨w.heap.size + 1 + 1, 0, none⟩ (.bool b3)).cell? ⟨w.heap.size + 1 + 1, 1, none⟩ = some (.slice none 0 0) := (hk2.set_ 0 (.bool b3)).cell 1; have f1 := (hk2.set_ 0 (.bool b3)).frozen 1; have hbb : Below w.heap.size w w3 := keep_below (by with_reducible assumption) hb))
    have hk9 := (hk2.set_ 0 (.bool b3)).set_ 1 (.slice A3 n3 c3)
    have r0 := hk9.cell 0
    have r1 := hk9.cell 1
    have c0 := hk2.cell 0
    have f0 := hk2.frozen 0
    have c1 : (w3.setCell ⟨w.heap.size + 1 + 1, 0, none⟩ (.bool b3)).cell? ⟨w.heap.size + 1 + 1, 1, none⟩ = some (.slice none 0 0) := (hk2.set_ 0 (.bool b3)).cell 1
    have f1 := (hk2.set_ 0 (.bool b3)).frozen 1
    have hwz := int_set2 hw3 hk2 b3 A3 n3 c3
    have hbz := keep_below_set (p := ⟨w.heap.size + 1 + 1, 1, none⟩) (.slice A3 n3 c3) (by dsimp only; omega) (keep_below_set (p := ⟨w.heap.size + 1 + 1, 0, none⟩) (.bool b3) (by dsimp only; omega) hbb)
    have HG : Hid (GivesI w (sgnI true (X * Y)) (.returned (.agg #[.bool b3, .slice A3 n3 c3])) ((w3.setCell ⟨w.heap.size + 1 + 1, 0, none⟩ (.bool b3)).setCell ⟨w.heap.size + 1 + 1, 1, none⟩ (.slice A3 n3 c3))) :=
      ⟨_, _, _, _, rfl, hwz, hbz⟩
    clear hk9 hwz hbz hk2 hbb hw3 hb hk1 hk0 hb0 HS1 HM g0 g1 g2 g3 hw2
    go_wp2
    refine bodyPost_ret (v := .agg #[.bool b3, .slice A3 n3 c3]) (by simp [results, Try.results20, go_sem, r0, r1]) rfl ?_
    exact HG.out
  · skip
    have HS1 := Lib.hid (HS.out false)
    obtain ⟨hB, b2, b3, k3, b5⟩ := box3 w 29 29 29 #[.bool true, .slice A n c] #[.bool true, .slice D m d] #[.bool false, .slice none 0 0]
    go_enter Try.func20, Try.ntmps20
    go_wp2_with fail
    generalize ((w.alloc (.cells #[.bool true, .slice A n c] 29)).alloc (.cells #[.bool true, .slice D m d] 29)).alloc (.cells #[.bool false, .slice none 0 0] 29) = W0 at *
    have g0 : W0.drew.cell? ⟨w.heap.size, 0, none⟩ = some (.bool true) := b2.cell 0
    have g1 : W0.drew.cell? ⟨w.heap.size, 1, none⟩ = some (.slice A n c) := b2.cell 1
    have g2 : W0.drew.cell? ⟨w.heap.size + 1, 0, none⟩ = some (.bool true) := b3.cell 0
    have g3 : W0.drew.cell? ⟨w.heap.size + 1, 1, none⟩ = some (.slice D m d) := b3.cell 1
    have hb0 := hB.drew
    have hk0 := k3.drew
    clear b2 b3 b5 hB k3 HS
    go_region_held3 (fun w' => Below w.heap.size w w' ∧ w'.cell? ⟨w.heap.size, 0, none⟩ = some (.bool true) ∧ w'.cell? ⟨w.heap.size, 1, none⟩ = some (.slice A n c) ∧ w'.cell? ⟨w.heap.size + 1, 0, none⟩ = some (.bool true) ∧ w'.cell? ⟨w.heap.size + 1, 1, none⟩ = some (.slice D m d))
      (first | (exact ⟨hb0, g0, g1, g2, g3⟩) | (go_split_ands; (repeat' apply And.intro); all_goals (first | with_reducible assumption | exact keep_below (by with_reducible assumption) hb | exact keep_cell hb (by with_reducible assumption) | exact keep_below_set _ (by dsimp only; omega) (keep_below_set _ (by dsimp only; omega) (by with_reducible assumption)) | exact keep_cell_set _ (by dsimp only; omega) (keep_cell_set _ (by dsimp only; omega) (by with_reducible assumption)) | exact keep_below_set _ (by dsimp only; omega) (by with_reducible assumption) | exact keep_cell_set _ (by dsimp only; omega) (by with_reducible assumption))))
      (first
        | (go_at_call 48; (with_reducible refine (HM.out _ (by first | with_reducible assumption | exact And.left (by with_reducible assumption))).mono ?_); rintro e w2 ⟨A2, n2, c2, rfl, hw2, hb, _⟩; have hk1 := keep_blk hb hk0)
        | (go_at_call 42; (with_reducible refine (HS1.out _ _ _ _ hw2).mono ?_); rintro e w3 ⟨b3, A3, n3, c3, rfl, hw3, hb⟩; go_split_ands; have hk2 := keep_blk hb hk1; have c0 := hk2.cell 0; have f0 := hk2.frozen 0; have c1 : (w3.setCell ⟨w.heap.size + 1 + 1, 0, none⟩ (.bool b3)).cell? ⟨w.heap.size + 1 + 1, 1, none⟩ = some (.slice none 0 0) := (hk2.set_ 0 (.bool b3)).cell 1; have f1 := (hk2.set_ 0 (.bool b3)).frozen 1; have hbb : Below w.heap.size w w3 := keep_below (by with_reducible assumption) hb))
    have hk9 := (hk2.set_ 0 (.bool b3)).set_ 1 (.slice A3 n3 c3)
    have r0 := hk9.cell 0
    have r1 := hk9.cell 1
    have c0 := hk2.cell 0
    have f0 := hk2.frozen 0
    have c1 : (w3.setCell ⟨w.heap.size + 1 + 1, 0, none⟩ (.bool b3)).cell? ⟨w.heap.size + 1 + 1, 1, none⟩ = some (.slice none 0 0) := (hk2.set_ 0 (.bool b3)).cell 1
    have f1 := (hk2.set_ 0 (.bool b3)).frozen 1
    have hwz := int_set2 hw3 hk2 b3 A3 n3 c3
    have hbz := keep_below_set (p := ⟨w.heap.size + 1 + 1, 1, none⟩) (.slice A3 n3 c3) (by dsimp only; omega) (keep_below_set (p := ⟨w.heap.size + 1 + 1, 0, none⟩) (.bool b3) (by dsimp only; omega) hbb)
    have HG : Hid (GivesI w (sgnI false (X * Y)) (.returned (.agg #[.bool b3, .slice A3 n3 c3])) ((w3.setCell ⟨w.heap.size + 1 + 1, 0, none⟩ (.bool b3)).setCell ⟨w.heap.size + 1 + 1, 1, none⟩ (.slice A3 n3 c3))) :=
      ⟨_, _, _, _, rfl, hwz, hbz⟩
    clear hk9 hwz hbz hk2 hbb hw3 hb hk1 hk0 hb0 HS1 HM g0 g1 g2 g3 hw2
    go_wp2
    refine bodyPost_ret (v := .agg #[.bool b3, .slice A3 n3 c3]) (by simp [results, Try.results20, go_sem, r0, r1]) rfl ?_
    exact HG.out
theorem cmp_low (b b' : Bool) (X Y : Nat) (hb : b = decide (sgnI b X < 0)) (hb' : b' = decide (sgnI b' Y < 0)) : cmpZ (sgnI b X) (sgnI b' Y) = if b then (if b' then cmpI Y X else -1) else (if b' then 1 else cmpI X Y) := by
  unfold cmpZ cmpI
  unfold sgnI at *
  cases b <;> cases b' <;> simp at * <;> (repeat' split) <;> omega
set_option maxHeartbeats 4000000 in
theorem integer_cmp (x y : Int) (b b' : Bool) (A D : Option Addr) (n m c d : Nat) (w : World) (hA : IntIn w x b A n c) (hD : IntIn w y b' D m d) (hn : n ≤ 274877906944) (hm : m ≤ 274877906944) :
    Calls Try.prog 22 #[.agg #[.bool b, .slice A n c], .agg #[.bool b', .slice D m d]] w (SaysI w (cmpZ x y)) := by
  have hx := sgnI_of x
  have hy := sgnI_of y
  rw [← hA.1] at hx
  rw [← hD.1] at hy
  have hc := cmp_low b b' x.natAbs y.natAbs (by rw [hx]; exact hA.1) (by rw [hy]; exact hD.1)
  rw [hx, hy] at hc
  rw [hc]
  have H1 := Lib.hid (fun w' (h : Below w.heap.size w w') => nat_cmp x.natAbs y.natAbs A D n m c d w' (hA.2.below h) (hD.2.below h) (by omega) (by omega))
  have H2 := Lib.hid (fun w' (h : Below w.heap.size w w') => nat_cmp y.natAbs x.natAbs D A m n d c w' (hD.2.below h) (hA.2.below h) (by omega) (by omega))
  obtain ⟨p, hp⟩ : ∃ p, cmpI x.natAbs y.natAbs = p := ⟨_, rfl⟩
  obtain ⟨q, hq⟩ : ∃ p, cmpI y.natAbs x.natAbs = p := ⟨_, rfl⟩
  rw [hp] at H1 ⊢
  rw [hq] at H2 ⊢
  clear hA hD hx hy hc hp hq
  cases b <;> cases b'
  · skip
    obtain ⟨hB, b2, b3, b5⟩ := box2 w 29 29 #[.bool false, .slice A n c] #[.bool false, .slice D m d]
    have HC := Lib.hid (H1.out _ hB)
    clear H1 H2
    go_enter Try.func22, Try.ntmps22
    go_wp2_with fail
    refine HC.out.mono ?_
    rintro e w1 ⟨rfl, hb⟩
    have hB1 := keep_below hB hb
    clear hb hB HC b2 b3 b5
    go_wp2
    go_ret
    exact ⟨rfl, hB1⟩
  · skip
    obtain ⟨hB, b2, b3, b5⟩ := box2 w 29 29 #[.bool false, .slice A n c] #[.bool true, .slice D m d]
    have HC := Lib.hid (H1.out _ hB)
    clear H1 H2
    go_enter Try.func22, Try.ntmps22
    clear HC b2 b3 b5
    go_wp2
    go_ret
    exact ⟨rfl, hB⟩
  · skip
    obtain ⟨hB, b2, b3, b5⟩ := box2 w 29 29 #[.bool true, .slice A n c] #[.bool false, .slice D m d]
    have HC := Lib.hid (H2.out _ hB)
    clear H1 H2
    go_enter Try.func22, Try.ntmps22
    clear HC b2 b3 b5
    go_wp2
    go_ret
    exact ⟨rfl, hB⟩
  · skip
    obtain ⟨hB, b2, b3, b5⟩ := box2 w 29 29 #[.bool true, .slice A n c] #[.bool true, .slice D m d]
    have HC := Lib.hid (H2.out _ hB)
    clear H1 H2
    go_enter Try.func22, Try.ntmps22
    go_wp2_with fail
    refine HC.out.mono ?_
    rintro e w1 ⟨rfl, hb⟩
    have hB1 := keep_below hB hb
    clear hb hB HC b2 b3 b5
    go_wp2
    go_ret
    exact ⟨rfl, hB1⟩
end Go.Proofs.Ytnfednkphcapnaa
