/-
  The walk of the law NatShifts. Conditions: the words that came in are words, at most 1048576 of them; k is an int.
-/
import Derived.Test.YtlofionccgjndaaRows
import Derived.Test.YtlofionccgjndaaNAny
import Derived.Test.YtlofionccgjndaaNShl
import Derived.Test.YtlofionccgjndaaN2Like
import Derived.Test.YtlofionccgjndaaR2Shl
import Derived.Test.YtlofionccgjndaaR2Shr
import Derived.Test.YtlofionccgjndaaR2Low
import Derived.WalkKit
import Derived.Lib.Hide
import Derived.Outline
import Derived.Deep.RegionHeld3
namespace Go.Proofs.Ytlofionccgjndaa
open Go Go.RowKit
set_option maxRecDepth 100000
set_option linter.unusedVariables false
set_option linter.unusedSimpArgs false
set_option maxHeartbeats 8000000 in
theorem natShifts_neg (A0 : Option Addr) (n0 c0 : Nat) (l0 : List Nat) (k : Int) (w : World) (h0 : ArgWords w A0 n0 c0 l0) (hk : k < 0) :
    Calls Try.prog 4 #[.slice A0 n0 c0, .int .i64 k] w fun e w' => e = .returned (.bool true) ∧ Below w.heap.size w w' := by
  obtain ⟨K, hK⟩ : ∃ K, 1048576 = K := ⟨_, rfl⟩
  have O0 := arg_of h0
  have P0 := arg_ref2 h0
  have S0 := arg_sz h0
  rw [hK] at S0
  have hK2 : K ≤ 1048576 := by omega
  obtain ⟨x, hx⟩ : ∃ x, dv 18446744073709551616 l0 = x := ⟨_, rfl⟩
  rw [hx] at O0 S0 P0
  have HO0 := Lib.hid O0
  have HP0 := Lib.hid P0
  have HS0 := Lib.hid S0
  clear O0 S0 P0 h0 hx hK
  have hd1 : decide (k ≥ 0) = false := by simp; omega
  have hd2 : decide (0 ≤ k) = false := by simp; omega
  have hd3 : ¬ 0 ≤ k := by omega
  go_enter Try.func4, Try.ntmps4
  go_wp2_with fail
  refine (law2_awake _).mono ?_
  rintro e w1 ⟨rfl, hB⟩
  go_wp2_with fail
  refine (HO0.out _ hB).mono ?_
  rintro e w2 ⟨B0, m0, d0, rfl, hw0, hb, _⟩
  have hb := keep_below hb (up_alloc w2 (.cells #[.slice B0 m0 d0] 25))
  have hB := keep_below hB hb
  have HX := Lib.hid (hw0.below (up_alloc w2 (.cells #[.slice B0 m0 d0] 25)))
  have g5 : (w2.alloc (.cells #[.slice B0 m0 d0] 25)).cell? ⟨w2.heap.size, 0, none⟩ = some (.slice B0 m0 d0) := (Blk.new w2 _ _).cell 0
  clear hb hw0
  go_wp2_with fail
  generalize w2.alloc (.cells #[.slice B0 m0 d0] 25) = W2 at *
  generalize w2.heap.size = p at *
  refine (HP0.out _ hB).mono ?_
  intro e w4 hg
  obtain ⟨C0, r0, f0, rfl, hh0, hb⟩ := hg.elim
  have hB := keep_below hB hb
  have HX := Lib.hid (HX.out.below hb)
  have g5 := keep_cell hb g5
  have HP := Lib.hid hh0
  have hrp := HS0.out.holds' HP.out
  have hmx := HS0.out.words HX.out
  clear hb hh0 hg
  go_wp2_with fail
  refine (nat_shl_no B0 m0 d0 k _ (.inl hk)).mono ?_
  rintro e w5 ⟨B1, m1, d1, rfl, hw1, hb, _⟩
  obtain rfl : m1 = 0 := len_of hw1 (dg_zero _)
  have hb := keep_below hb (up_alloc w5 (.cells #[.slice B1 0 d1] 25))
  have hB := keep_below hB hb
  have HX := Lib.hid (HX.out.below hb)
  have HP := Lib.hid (HP.out.below hb)
  have g5 := keep_cell hb g5
  have HL := Lib.hid (hw1.below (up_alloc w5 (.cells #[.slice B1 0 d1] 25)))
  have g7 : (w5.alloc (.cells #[.slice B1 0 d1] 25)).cell? ⟨w5.heap.size, 0, none⟩ = some (.slice B1 0 d1) := (Blk.new w5 _ _).cell 0
  clear hb hw1
  go_wp2_with fail
  generalize w5.alloc (.cells #[.slice B1 0 d1] 25) = W5 at *
  generalize w5.heap.size = q at *
  have L1 := Lib.hid (fun w' => nat_zero_yes B1 d1 w')
  have hb0 : Below W5.heap.size W5 W5.drew := (Below.refl _ W5).drew
  have j5 : W5.drew.cell? ⟨p, 0, none⟩ = some (.slice B0 m0 d0) := g5
  have j7 : W5.drew.cell? ⟨q, 0, none⟩ = some (.slice B1 0 d1) := g7
  refine wp_region_noPanic ?_
  refine wp_region_held_drew (S := (fun w' => Below W5.heap.size W5 w' ∧ w'.cell? ⟨p, 0, none⟩ = some (.slice B0 m0 d0) ∧ w'.cell? ⟨q, 0, none⟩ = some (.slice B1 0 d1))) (by kernel_rfl) ?_ (fun hHeld => ?_)
  · exact ⟨hb0, j5, j7⟩
  refine wpAnyH_take (i := 0) (oi := ?_) (v := ?_) (by simp only [List.getElem?_toArray, List.getElem?_cons_succ, List.getElem?_cons_zero]; rfl) (by kernel_rfl) (by kernel_rfl) (by kernel_rfl) (fun _ _ _ h => h) (Or.inl ⟨by rfl, ?_⟩) (by with_reducible assumption) ?_
  rotate_left
  focus ((intro w hSw; (try dsimp only at hSw); go_simp); (try with_reducible rfl))
  try simp only [Act.put, List.setIfInBounds_toArray, List.set_cons_zero, List.set_cons_succ]
  refine wpAnyH_take (i := 1) (oi := ?_) (v := ?_) (by simp only [List.getElem?_toArray, List.getElem?_cons_succ, List.getElem?_cons_zero]; rfl) (by kernel_rfl) (by kernel_rfl) (by kernel_rfl) (fun _ _ _ h => h) (Or.inl ⟨by rfl, ?_⟩) (by with_reducible assumption) ?_
  rotate_left
  focus ((intro w hSw; (try dsimp only at hSw); go_simp); (try with_reducible rfl))
  try simp only [Act.put, List.setIfInBounds_toArray, List.set_cons_zero, List.set_cons_succ]
  refine wpAnyH_take (i := 2) (oi := ?_) (v := ?_) (by simp only [List.getElem?_toArray, List.getElem?_cons_succ, List.getElem?_cons_zero]; rfl) (by kernel_rfl) (by kernel_rfl) (by kernel_rfl) (fun _ _ _ h => h) (Or.inl ⟨by rfl, ?_⟩) (by with_reducible assumption) ?_
  rotate_left
  focus ((intro w hSw; (try dsimp only at hSw); go_simp); (try with_reducible rfl))
  try simp only [Act.put, List.setIfInBounds_toArray, List.set_cons_zero, List.set_cons_succ]
  refine wpAnyH_take (i := 3) (oi := ?_) (v := ?_) (by simp only [List.getElem?_toArray, List.getElem?_cons_succ, List.getElem?_cons_zero]; rfl) (by kernel_rfl) (by kernel_rfl) (by kernel_rfl) (fun _ _ _ h => h) (Or.inl ⟨by rfl, ?_⟩) (by with_reducible assumption) ?_
  rotate_left
  focus ((intro w hSw; (try dsimp only at hSw); go_simp); (try with_reducible rfl))
  try simp only [Act.put, List.setIfInBounds_toArray, List.set_cons_zero, List.set_cons_succ]
  refine wpAnyH_take (i := 4) (oi := ?_) (v := undef) (by simp only [List.getElem?_toArray, List.getElem?_cons_succ, List.getElem?_cons_zero]; rfl) (by kernel_rfl) (by kernel_rfl) (by kernel_rfl) (fun _ _ _ h => h) (Or.inr ⟨by rfl, rfl⟩) (by with_reducible assumption) ?_
  try simp only [Act.put, List.setIfInBounds_toArray, List.set_cons_zero, List.set_cons_succ]
  refine wpAnyH_take (i := 5) (oi := ?_) (v := undef) (by simp only [List.getElem?_toArray, List.getElem?_cons_succ, List.getElem?_cons_zero]; rfl) (by kernel_rfl) (by kernel_rfl) (by kernel_rfl) (fun _ _ _ h => h) (Or.inr ⟨by rfl, rfl⟩) (by with_reducible assumption) ?_
  try simp only [Act.put, List.setIfInBounds_toArray, List.set_cons_zero, List.set_cons_succ]
  refine wpAnyH_take (i := 6) (oi := ?_) (v := ?_) (by simp only [List.getElem?_toArray, List.getElem?_cons_succ, List.getElem?_cons_zero]; rfl) (by kernel_rfl) (by kernel_rfl) (by kernel_rfl) (fun _ _ _ h => h) (Or.inl ⟨by rfl, ?_⟩) (by with_reducible assumption) ?_
  rotate_left
  focus ((intro w hSw; (try dsimp only at hSw); go_simp); (try with_reducible rfl))
  try simp only [Act.put, List.setIfInBounds_toArray, List.set_cons_zero, List.set_cons_succ]
  refine wpAnyH_take (i := 7) (oi := ?_) (v := ?_) (by simp only [List.getElem?_toArray, List.getElem?_cons_succ, List.getElem?_cons_zero]; rfl) (by kernel_rfl) (by kernel_rfl) (by kernel_rfl) (fun _ _ _ h => h) (Or.inl ⟨by rfl, ?_⟩) (by with_reducible assumption) ?_
  rotate_left
  focus ((intro w hSw; (try dsimp only at hSw); go_simp); (try with_reducible rfl))
  try simp only [Act.put, List.setIfInBounds_toArray, List.set_cons_zero, List.set_cons_succ]
  refine wpAnyH_take (i := 8) (oi := ?_) (v := ?_) (by simp only [List.getElem?_toArray, List.getElem?_cons_succ, List.getElem?_cons_zero]; rfl) (by kernel_rfl) (by kernel_rfl) (by kernel_rfl) (fun _ _ _ h => h) (Or.inl ⟨by rfl, ?_⟩) (by with_reducible assumption) ?_
  rotate_left
  focus ((intro w hSw; (try dsimp only at hSw); go_simp); (try with_reducible rfl))
  try simp only [Act.put, List.setIfInBounds_toArray, List.set_cons_zero, List.set_cons_succ]
  refine wpAnyH_take (i := 9) (oi := ?_) (v := ?_) (by simp only [List.getElem?_toArray, List.getElem?_cons_succ, List.getElem?_cons_zero]; rfl) (by kernel_rfl) (by kernel_rfl) (by kernel_rfl) (fun _ _ _ h => h) (Or.inl ⟨by rfl, ?_⟩) (by with_reducible assumption) ?_
  rotate_left
  focus ((intro w hSw; (try dsimp only at hSw); go_simp); (try with_reducible rfl))
  try simp only [Act.put, List.setIfInBounds_toArray, List.set_cons_zero, List.set_cons_succ]
  refine wpAnyH_take (i := 10) (oi := ?_) (v := ?_) (by simp only [List.getElem?_toArray, List.getElem?_cons_succ, List.getElem?_cons_zero]; rfl) (by kernel_rfl) (by kernel_rfl) (by kernel_rfl) (fun _ _ _ h => h) (Or.inl ⟨by rfl, ?_⟩) (by with_reducible assumption) ?_
  rotate_left
  focus ((intro w hSw; (try dsimp only at hSw); go_simp); (try with_reducible rfl))
  try simp only [Act.put, List.setIfInBounds_toArray, List.set_cons_zero, List.set_cons_succ]
  refine wpAnyH_take (i := 11) (oi := ?_) (v := ?_) (by simp only [List.getElem?_toArray, List.getElem?_cons_succ, List.getElem?_cons_zero]; rfl) (by kernel_rfl) (by kernel_rfl) (by kernel_rfl) (fun _ _ _ h => h) (Or.inl ⟨by rfl, ?_⟩) (by with_reducible assumption) ?_
  rotate_left
  focus ((intro w hSw; (try dsimp only at hSw); go_simp); (try with_reducible rfl))
  try simp only [Act.put, List.setIfInBounds_toArray, List.set_cons_zero, List.set_cons_succ]
  refine wpAnyH_take (i := 12) (oi := ?_) (v := ?_) (by simp only [List.getElem?_toArray, List.getElem?_cons_succ, List.getElem?_cons_zero]; rfl) (by kernel_rfl) (by kernel_rfl) (by kernel_rfl) (fun _ _ _ h => h) (Or.inl ⟨by rfl, ?_⟩) (by with_reducible assumption) ?_
  rotate_left
  focus ((intro w hSw; (try dsimp only at hSw); go_simp); (try with_reducible rfl))
  try simp only [Act.put, List.setIfInBounds_toArray, List.set_cons_zero, List.set_cons_succ]
  refine wpAnyH_ready (rs := [13]) (by kernel_rfl) (by simp) ?_
  refine AllReadyH.cons (o := ?_) (by simp only [List.getElem?_toArray, List.getElem?_cons_succ, List.getElem?_cons_zero]; rfl) (fun K hK => ?_) AllReadyH.nil
  go_simp
  (go_at_call 17; (with_reducible refine (L1.out _).mono ?_); rintro e w' ⟨rfl, hb⟩)
  refine hK.out _ _ ?_ (fun hHeld => ?_)
  · ((try dsimp only); (go_split_ands; refine ⟨?_, ?_, ?_⟩; all_goals (first | with_reducible assumption | exact keep_below (by with_reducible assumption) hb | exact keep_cell hb (by with_reducible assumption))))
  clear hK K
  try simp only [Act.put, List.setIfInBounds_toArray, List.set_cons_zero, List.set_cons_succ]
  refine wpAnyH_take (i := 14) (oi := ?_) (v := ?_) (by simp only [List.getElem?_toArray, List.getElem?_cons_succ, List.getElem?_cons_zero]; rfl) (by kernel_rfl) (by kernel_rfl) (by kernel_rfl) (fun _ _ _ h => h) (Or.inl ⟨by rfl, ?_⟩) (by with_reducible assumption) ?_
  rotate_left
  focus ((intro w hSw; (try dsimp only at hSw); go_simp); (try with_reducible rfl))
  try simp only [Act.put, List.setIfInBounds_toArray, List.set_cons_zero, List.set_cons_succ]
  refine wpAnyH_take (i := 15) (oi := ?_) (v := ?_) (by simp only [List.getElem?_toArray, List.getElem?_cons_succ, List.getElem?_cons_zero]; rfl) (by kernel_rfl) (by kernel_rfl) (by kernel_rfl) (fun _ _ _ h => h) (Or.inl ⟨by rfl, ?_⟩) (by with_reducible assumption) ?_
  rotate_left
  focus ((intro w hSw; (try dsimp only at hSw); go_simp); (try with_reducible rfl))
  try simp only [Act.put, List.setIfInBounds_toArray, List.set_cons_zero, List.set_cons_succ]
  refine wpAnyH_take (i := 16) (oi := ?_) (v := ?_) (by simp only [List.getElem?_toArray, List.getElem?_cons_succ, List.getElem?_cons_zero]; rfl) (by kernel_rfl) (by kernel_rfl) (by kernel_rfl) (fun _ _ _ h => h) (Or.inl ⟨by rfl, ?_⟩) (by with_reducible assumption) ?_
  rotate_left
  focus ((intro w hSw; (try dsimp only at hSw); go_simp); (try with_reducible rfl))
  try simp only [Act.put, List.setIfInBounds_toArray, List.set_cons_zero, List.set_cons_succ]
  refine wpAnyH_take (i := 17) (oi := ?_) (v := ?_) (by simp only [List.getElem?_toArray, List.getElem?_cons_succ, List.getElem?_cons_zero]; rfl) (by kernel_rfl) (by kernel_rfl) (by kernel_rfl) (fun _ _ _ h => h) (Or.inl ⟨by rfl, ?_⟩) (by with_reducible assumption) ?_
  rotate_left
  focus ((intro w hSw; (try dsimp only at hSw); go_simp); (try with_reducible rfl))
  try simp only [Act.put, List.setIfInBounds_toArray, List.set_cons_zero, List.set_cons_succ]
  refine wpAnyH_take (i := 18) (oi := ?_) (v := ?_) (by simp only [List.getElem?_toArray, List.getElem?_cons_succ, List.getElem?_cons_zero]; rfl) (by kernel_rfl) (by kernel_rfl) (by kernel_rfl) (fun _ _ _ h => h) (Or.inl ⟨by rfl, ?_⟩) (by with_reducible assumption) ?_
  rotate_left
  focus ((intro w hSw; (try dsimp only at hSw); go_simp); (try with_reducible rfl))
  try simp only [Act.put, List.setIfInBounds_toArray, List.set_cons_zero, List.set_cons_succ]
  refine wpAnyH_take (i := 19) (oi := ?_) (v := ?_) (by simp only [List.getElem?_toArray, List.getElem?_cons_succ, List.getElem?_cons_zero]; rfl) (by kernel_rfl) (by kernel_rfl) (by kernel_rfl) (fun _ _ _ h => h) (Or.inl ⟨by rfl, ?_⟩) (by with_reducible assumption) ?_
  rotate_left
  focus ((intro w hSw; (try dsimp only at hSw); go_simp); (try with_reducible rfl))
  try simp only [Act.put, List.setIfInBounds_toArray, List.set_cons_zero, List.set_cons_succ]
  refine wpAnyH_take (i := 20) (oi := ?_) (v := undef) (by simp only [List.getElem?_toArray, List.getElem?_cons_succ, List.getElem?_cons_zero]; rfl) (by kernel_rfl) (by kernel_rfl) (by kernel_rfl) (fun _ _ _ h => h) (Or.inr ⟨by rfl, rfl⟩) (by with_reducible assumption) ?_
  try simp only [Act.put, List.setIfInBounds_toArray, List.set_cons_zero, List.set_cons_succ]
  refine wpAnyH_take (i := 21) (oi := ?_) (v := undef) (by simp only [List.getElem?_toArray, List.getElem?_cons_succ, List.getElem?_cons_zero]; rfl) (by kernel_rfl) (by kernel_rfl) (by kernel_rfl) (fun _ _ _ h => h) (Or.inr ⟨by rfl, rfl⟩) (by with_reducible assumption) ?_
  try simp only [Act.put, List.setIfInBounds_toArray, List.set_cons_zero, List.set_cons_succ]
  refine wpAnyH_take (i := 22) (oi := ?_) (v := undef) (by simp only [List.getElem?_toArray, List.getElem?_cons_succ, List.getElem?_cons_zero]; rfl) (by kernel_rfl) (by kernel_rfl) (by kernel_rfl) (fun _ _ _ h => h) (Or.inr ⟨by rfl, rfl⟩) (by with_reducible assumption) ?_
  try simp only [Act.put, List.setIfInBounds_toArray, List.set_cons_zero, List.set_cons_succ]
  refine wpAnyH_take (i := 23) (oi := ?_) (v := undef) (by simp only [List.getElem?_toArray, List.getElem?_cons_succ, List.getElem?_cons_zero]; rfl) (by kernel_rfl) (by kernel_rfl) (by kernel_rfl) (fun _ _ _ h => h) (Or.inr ⟨by rfl, rfl⟩) (by with_reducible assumption) ?_
  try simp only [Act.put, List.setIfInBounds_toArray, List.set_cons_zero, List.set_cons_succ]
  refine wpAnyH_take (i := 24) (oi := ?_) (v := undef) (by simp only [List.getElem?_toArray, List.getElem?_cons_succ, List.getElem?_cons_zero]; rfl) (by kernel_rfl) (by kernel_rfl) (by kernel_rfl) (fun _ _ _ h => h) (Or.inr ⟨by rfl, rfl⟩) (by with_reducible assumption) ?_
  try simp only [Act.put, List.setIfInBounds_toArray, List.set_cons_zero, List.set_cons_succ]
  refine wpAnyH_take (i := 25) (oi := ?_) (v := undef) (by simp only [List.getElem?_toArray, List.getElem?_cons_succ, List.getElem?_cons_zero]; rfl) (by kernel_rfl) (by kernel_rfl) (by kernel_rfl) (fun _ _ _ h => h) (Or.inr ⟨by rfl, rfl⟩) (by with_reducible assumption) ?_
  try simp only [Act.put, List.setIfInBounds_toArray, List.set_cons_zero, List.set_cons_succ]
  refine wpAnyH_take (i := 26) (oi := ?_) (v := ?_) (by simp only [List.getElem?_toArray, List.getElem?_cons_succ, List.getElem?_cons_zero]; rfl) (by kernel_rfl) (by kernel_rfl) (by kernel_rfl) (fun _ _ _ h => h) (Or.inl ⟨by rfl, ?_⟩) (by with_reducible assumption) ?_
  rotate_left
  focus ((intro w hSw; (try dsimp only at hSw); go_simp); (try with_reducible rfl))
  try simp only [Act.put, List.setIfInBounds_toArray, List.set_cons_zero, List.set_cons_succ]
  refine wpAnyH_take (i := 27) (oi := ?_) (v := ?_) (by simp only [List.getElem?_toArray, List.getElem?_cons_succ, List.getElem?_cons_zero]; rfl) (by kernel_rfl) (by kernel_rfl) (by kernel_rfl) (fun _ _ _ h => h) (Or.inl ⟨by rfl, ?_⟩) (by with_reducible assumption) ?_
  rotate_left
  focus ((intro w hSw; (try dsimp only at hSw); go_simp); (try with_reducible rfl))
  try simp only [Act.put, List.setIfInBounds_toArray, List.set_cons_zero, List.set_cons_succ]
  refine wpAnyH_done (by kernel_rfl) ?_ _
  refine NoPanic.normal ?_
  obtain ⟨hb6, g5, _⟩ := hHeld
  have hB := keep_below hB hb6
  have HX := Lib.hid (HX.out.below hb6)
  have HP := Lib.hid (HP.out.below hb6)
  clear hb hb0 hb6 L1 g7
  go_wp2_with fail
  generalize w' = W6 at *
  refine (nat_shr_neg B0 m0 d0 k _ hk).mono ?_
  rintro e w8 ⟨B8, m8, d8, rfl, hv, hb, _⟩
  have hB := keep_below hB hb
  have HX := Lib.hid (HX.out.below hb)
  have HP := Lib.hid (HP.out.below hb)
  have g5 := keep_cell hb g5
  have HN8 := Lib.hid hv
  clear hb hv
  go_wp2_with fail
  refine (ref2_shr_neg x k C0 r0 f0 _ hk).mono ?_
  intro e w9 hg
  obtain ⟨C9, r9, f9, rfl, hh, hb⟩ := hg.elim
  have hB := keep_below hB hb
  have HX := Lib.hid (HX.out.below hb)
  have HP := Lib.hid (HP.out.below hb)
  have HN8 := Lib.hid (HN8.out.below hb)
  have g5 := keep_cell hb g5
  have HR9 := Lib.hid hh
  clear hb hh hg
  go_wp2_with fail
  refine (law2_like (0) B8 C9 m8 d8 r9 f9 _ HN8.out HR9.out (by have := (HS0.out.of_le (Nat.zero_le x)).words HN8.out; omega) (by have := (HS0.out.of_le (Nat.zero_le x)).holds' HR9.out; omega)).mono ?_
  rintro e w10 ⟨rfl, hb⟩
  have hB := keep_below hB hb
  have HX := Lib.hid (HX.out.below hb)
  have HP := Lib.hid (HP.out.below hb)
  have g5 := keep_cell hb g5
  clear hb HN8 HR9
  go_wp2_with fail
  refine (nat_low_neg B0 m0 d0 k _ hk).mono ?_
  rintro e w11 ⟨B11, m11, d11, rfl, hv, hb, _⟩
  have hB := keep_below hB hb
  have HX := Lib.hid (HX.out.below hb)
  have HP := Lib.hid (HP.out.below hb)
  have HN11 := Lib.hid hv
  clear hb hv
  go_wp2_with fail
  refine (ref2_low_neg x k C0 r0 f0 _ hk).mono ?_
  intro e w12 hg
  obtain ⟨C12, r12, f12, rfl, hh, hb⟩ := hg.elim
  have hB := keep_below hB hb
  have HN11 := Lib.hid (HN11.out.below hb)
  have HR12 := Lib.hid hh
  clear hb hh hg
  go_wp2_with fail
  refine (law2_like (0) B11 C12 m11 d11 r12 f12 _ HN11.out HR12.out (by have := (HS0.out.of_le (Nat.zero_le x)).words HN11.out; omega) (by have := (HS0.out.of_le (Nat.zero_le x)).holds' HR12.out; omega)).mono ?_
  rintro e w13 ⟨rfl, hb⟩
  have hB := keep_below hB hb
  clear hb HN11 HR12
  go_wp2
  go_ret
  exact ⟨by first | rfl | simp, hB⟩
set_option maxHeartbeats 8000000 in
theorem natShifts_big (A0 : Option Addr) (n0 c0 : Nat) (l0 : List Nat) (kn : Nat) (w : World) (h0 : ArgWords w A0 n0 c0 l0) (hk1 : kn ≤ 9223372036854775807) (hk2 : 65536 < kn) :
    Calls Try.prog 4 #[.slice A0 n0 c0, .int .i64 (kn : Int)] w fun e w' => e = .returned (.bool true) ∧ Below w.heap.size w w' := by
  obtain ⟨K, hK⟩ : ∃ K, 1048576 = K := ⟨_, rfl⟩
  have O0 := arg_of h0
  have P0 := arg_ref2 h0
  have S0 := arg_sz h0
  rw [hK] at S0
  have hK2 : K ≤ 1048576 := by omega
  obtain ⟨x, hx⟩ : ∃ x, dv 18446744073709551616 l0 = x := ⟨_, rfl⟩
  rw [hx] at O0 S0 P0
  have HO0 := Lib.hid O0
  have HP0 := Lib.hid P0
  have HS0 := Lib.hid S0
  clear O0 S0 P0 h0 hx hK
  have hd1 : decide ((kn : Int) ≥ 0) = true := by simp
  have hd2 : decide ((0 : Int) ≤ (kn : Int)) = true := by simp
  have hd3 : decide ((kn : Int) ≤ 65536) = false := by simp; omega
  have hd4 : ¬ (kn : Int) ≤ 65536 := by omega
  go_enter Try.func4, Try.ntmps4
  go_wp2_with fail
  refine (law2_awake _).mono ?_
  rintro e w1 ⟨rfl, hB⟩
  go_wp2_with fail
  refine (HO0.out _ hB).mono ?_
  rintro e w2 ⟨B0, m0, d0, rfl, hw0, hb, _⟩
  have hb := keep_below hb (up_alloc w2 (.cells #[.slice B0 m0 d0] 25))
  have hB := keep_below hB hb
  have HX := Lib.hid (hw0.below (up_alloc w2 (.cells #[.slice B0 m0 d0] 25)))
  have g5 : (w2.alloc (.cells #[.slice B0 m0 d0] 25)).cell? ⟨w2.heap.size, 0, none⟩ = some (.slice B0 m0 d0) := (Blk.new w2 _ _).cell 0
  clear hb hw0
  go_wp2_with fail
  generalize w2.alloc (.cells #[.slice B0 m0 d0] 25) = W2 at *
  generalize w2.heap.size = p at *
  refine (HP0.out _ hB).mono ?_
  intro e w4 hg
  obtain ⟨C0, r0, f0, rfl, hh0, hb⟩ := hg.elim
  have hB := keep_below hB hb
  have HX := Lib.hid (HX.out.below hb)
  have g5 := keep_cell hb g5
  have HP := Lib.hid hh0
  have hrp := HS0.out.holds' HP.out
  have hmx := HS0.out.words HX.out
  clear hb hh0 hg
  go_wp2_with fail
  refine (nat_shl_no B0 m0 d0 kn _ (.inr (by omega))).mono ?_
  rintro e w5 ⟨B1, m1, d1, rfl, hw1, hb, _⟩
  obtain rfl : m1 = 0 := len_of hw1 (dg_zero _)
  have hb := keep_below hb (up_alloc w5 (.cells #[.slice B1 0 d1] 25))
  have hB := keep_below hB hb
  have HX := Lib.hid (HX.out.below hb)
  have HP := Lib.hid (HP.out.below hb)
  have g5 := keep_cell hb g5
  have HL := Lib.hid (hw1.below (up_alloc w5 (.cells #[.slice B1 0 d1] 25)))
  have g7 : (w5.alloc (.cells #[.slice B1 0 d1] 25)).cell? ⟨w5.heap.size, 0, none⟩ = some (.slice B1 0 d1) := (Blk.new w5 _ _).cell 0
  clear hb hw1
  go_wp2_with fail
  generalize w5.alloc (.cells #[.slice B1 0 d1] 25) = W5 at *
  generalize w5.heap.size = q at *
  have L1 := Lib.hid (fun w' => nat_zero_yes B1 d1 w')
  have hb0 : Below W5.heap.size W5 W5.drew := (Below.refl _ W5).drew
  have j5 : W5.drew.cell? ⟨p, 0, none⟩ = some (.slice B0 m0 d0) := g5
  have j7 : W5.drew.cell? ⟨q, 0, none⟩ = some (.slice B1 0 d1) := g7
  refine wp_region_noPanic ?_
  refine wp_region_held_drew (S := (fun w' => Below W5.heap.size W5 w' ∧ w'.cell? ⟨p, 0, none⟩ = some (.slice B0 m0 d0) ∧ w'.cell? ⟨q, 0, none⟩ = some (.slice B1 0 d1))) (by kernel_rfl) ?_ (fun hHeld => ?_)
  · exact ⟨hb0, j5, j7⟩
  refine wpAnyH_take (i := 0) (oi := ?_) (v := ?_) (by simp only [List.getElem?_toArray, List.getElem?_cons_succ, List.getElem?_cons_zero]; rfl) (by kernel_rfl) (by kernel_rfl) (by kernel_rfl) (fun _ _ _ h => h) (Or.inl ⟨by rfl, ?_⟩) (by with_reducible assumption) ?_
  rotate_left
  focus ((intro w hSw; (try dsimp only at hSw); go_simp); (try with_reducible rfl))
  try simp only [Act.put, List.setIfInBounds_toArray, List.set_cons_zero, List.set_cons_succ]
  refine wpAnyH_take (i := 1) (oi := ?_) (v := ?_) (by simp only [List.getElem?_toArray, List.getElem?_cons_succ, List.getElem?_cons_zero]; rfl) (by kernel_rfl) (by kernel_rfl) (by kernel_rfl) (fun _ _ _ h => h) (Or.inl ⟨by rfl, ?_⟩) (by with_reducible assumption) ?_
  rotate_left
  focus ((intro w hSw; (try dsimp only at hSw); go_simp); (try with_reducible rfl))
  try simp only [Act.put, List.setIfInBounds_toArray, List.set_cons_zero, List.set_cons_succ]
  refine wpAnyH_take (i := 2) (oi := ?_) (v := ?_) (by simp only [List.getElem?_toArray, List.getElem?_cons_succ, List.getElem?_cons_zero]; rfl) (by kernel_rfl) (by kernel_rfl) (by kernel_rfl) (fun _ _ _ h => h) (Or.inl ⟨by rfl, ?_⟩) (by with_reducible assumption) ?_
  rotate_left
  focus ((intro w hSw; (try dsimp only at hSw); go_simp); (try with_reducible rfl))
  try simp only [Act.put, List.setIfInBounds_toArray, List.set_cons_zero, List.set_cons_succ]
  refine wpAnyH_take (i := 3) (oi := ?_) (v := ?_) (by simp only [List.getElem?_toArray, List.getElem?_cons_succ, List.getElem?_cons_zero]; rfl) (by kernel_rfl) (by kernel_rfl) (by kernel_rfl) (fun _ _ _ h => h) (Or.inl ⟨by rfl, ?_⟩) (by with_reducible assumption) ?_
  rotate_left
  focus ((intro w hSw; (try dsimp only at hSw); go_simp); (try with_reducible rfl))
  try simp only [Act.put, List.setIfInBounds_toArray, List.set_cons_zero, List.set_cons_succ]
  refine wpAnyH_take (i := 4) (oi := ?_) (v := ?_) (by simp only [List.getElem?_toArray, List.getElem?_cons_succ, List.getElem?_cons_zero]; rfl) (by kernel_rfl) (by kernel_rfl) (by kernel_rfl) (fun _ _ _ h => h) (Or.inl ⟨by rfl, ?_⟩) (by with_reducible assumption) ?_
  rotate_left
  focus ((intro w hSw; (try dsimp only at hSw); go_simp); (try with_reducible rfl))
  try simp only [Act.put, List.setIfInBounds_toArray, List.set_cons_zero, List.set_cons_succ]
  refine wpAnyH_take (i := 5) (oi := ?_) (v := ?_) (by simp only [List.getElem?_toArray, List.getElem?_cons_succ, List.getElem?_cons_zero]; rfl) (by kernel_rfl) (by kernel_rfl) (by kernel_rfl) (fun _ _ _ h => h) (Or.inl ⟨by rfl, ?_⟩) (by with_reducible assumption) ?_
  rotate_left
  focus ((intro w hSw; (try dsimp only at hSw); go_simp); (try with_reducible rfl))
  try simp only [Act.put, List.setIfInBounds_toArray, List.set_cons_zero, List.set_cons_succ]
  refine wpAnyH_take (i := 6) (oi := ?_) (v := ?_) (by simp only [List.getElem?_toArray, List.getElem?_cons_succ, List.getElem?_cons_zero]; rfl) (by kernel_rfl) (by kernel_rfl) (by kernel_rfl) (fun _ _ _ h => h) (Or.inl ⟨by rfl, ?_⟩) (by with_reducible assumption) ?_
  rotate_left
  focus ((intro w hSw; (try dsimp only at hSw); go_simp); (try with_reducible rfl))
  try simp only [Act.put, List.setIfInBounds_toArray, List.set_cons_zero, List.set_cons_succ]
  refine wpAnyH_take (i := 7) (oi := ?_) (v := ?_) (by simp only [List.getElem?_toArray, List.getElem?_cons_succ, List.getElem?_cons_zero]; rfl) (by kernel_rfl) (by kernel_rfl) (by kernel_rfl) (fun _ _ _ h => h) (Or.inl ⟨by rfl, ?_⟩) (by with_reducible assumption) ?_
  rotate_left
  focus ((intro w hSw; (try dsimp only at hSw); go_simp); (try with_reducible rfl))
  try simp only [Act.put, List.setIfInBounds_toArray, List.set_cons_zero, List.set_cons_succ]
  refine wpAnyH_take (i := 8) (oi := ?_) (v := ?_) (by simp only [List.getElem?_toArray, List.getElem?_cons_succ, List.getElem?_cons_zero]; rfl) (by kernel_rfl) (by kernel_rfl) (by kernel_rfl) (fun _ _ _ h => h) (Or.inl ⟨by rfl, ?_⟩) (by with_reducible assumption) ?_
  rotate_left
  focus ((intro w hSw; (try dsimp only at hSw); go_simp); (try with_reducible rfl))
  try simp only [Act.put, List.setIfInBounds_toArray, List.set_cons_zero, List.set_cons_succ]
  refine wpAnyH_take (i := 9) (oi := ?_) (v := ?_) (by simp only [List.getElem?_toArray, List.getElem?_cons_succ, List.getElem?_cons_zero]; rfl) (by kernel_rfl) (by kernel_rfl) (by kernel_rfl) (fun _ _ _ h => h) (Or.inl ⟨by rfl, ?_⟩) (by with_reducible assumption) ?_
  rotate_left
  focus ((intro w hSw; (try dsimp only at hSw); go_simp); (try with_reducible rfl))
  try simp only [Act.put, List.setIfInBounds_toArray, List.set_cons_zero, List.set_cons_succ]
  refine wpAnyH_take (i := 10) (oi := ?_) (v := ?_) (by simp only [List.getElem?_toArray, List.getElem?_cons_succ, List.getElem?_cons_zero]; rfl) (by kernel_rfl) (by kernel_rfl) (by kernel_rfl) (fun _ _ _ h => h) (Or.inl ⟨by rfl, ?_⟩) (by with_reducible assumption) ?_
  rotate_left
  focus ((intro w hSw; (try dsimp only at hSw); go_simp); (try with_reducible rfl))
  try simp only [Act.put, List.setIfInBounds_toArray, List.set_cons_zero, List.set_cons_succ]
  refine wpAnyH_take (i := 11) (oi := ?_) (v := ?_) (by simp only [List.getElem?_toArray, List.getElem?_cons_succ, List.getElem?_cons_zero]; rfl) (by kernel_rfl) (by kernel_rfl) (by kernel_rfl) (fun _ _ _ h => h) (Or.inl ⟨by rfl, ?_⟩) (by with_reducible assumption) ?_
  rotate_left
  focus ((intro w hSw; (try dsimp only at hSw); go_simp); (try with_reducible rfl))
  try simp only [Act.put, List.setIfInBounds_toArray, List.set_cons_zero, List.set_cons_succ]
  refine wpAnyH_take (i := 12) (oi := ?_) (v := ?_) (by simp only [List.getElem?_toArray, List.getElem?_cons_succ, List.getElem?_cons_zero]; rfl) (by kernel_rfl) (by kernel_rfl) (by kernel_rfl) (fun _ _ _ h => h) (Or.inl ⟨by rfl, ?_⟩) (by with_reducible assumption) ?_
  rotate_left
  focus ((intro w hSw; (try dsimp only at hSw); go_simp); (try with_reducible rfl))
  try simp only [Act.put, List.setIfInBounds_toArray, List.set_cons_zero, List.set_cons_succ]
  refine wpAnyH_ready (rs := [13]) (by kernel_rfl) (by simp) ?_
  refine AllReadyH.cons (o := ?_) (by simp only [List.getElem?_toArray, List.getElem?_cons_succ, List.getElem?_cons_zero]; rfl) (fun K hK => ?_) AllReadyH.nil
  go_simp
  (go_at_call 17; (with_reducible refine (L1.out _).mono ?_); rintro e w' ⟨rfl, hb⟩)
  refine hK.out _ _ ?_ (fun hHeld => ?_)
  · ((try dsimp only); (go_split_ands; refine ⟨?_, ?_, ?_⟩; all_goals (first | with_reducible assumption | exact keep_below (by with_reducible assumption) hb | exact keep_cell hb (by with_reducible assumption))))
  clear hK K
  try simp only [Act.put, List.setIfInBounds_toArray, List.set_cons_zero, List.set_cons_succ]
  refine wpAnyH_take (i := 14) (oi := ?_) (v := ?_) (by simp only [List.getElem?_toArray, List.getElem?_cons_succ, List.getElem?_cons_zero]; rfl) (by kernel_rfl) (by kernel_rfl) (by kernel_rfl) (fun _ _ _ h => h) (Or.inl ⟨by rfl, ?_⟩) (by with_reducible assumption) ?_
  rotate_left
  focus ((intro w hSw; (try dsimp only at hSw); go_simp); (try with_reducible rfl))
  try simp only [Act.put, List.setIfInBounds_toArray, List.set_cons_zero, List.set_cons_succ]
  refine wpAnyH_take (i := 15) (oi := ?_) (v := ?_) (by simp only [List.getElem?_toArray, List.getElem?_cons_succ, List.getElem?_cons_zero]; rfl) (by kernel_rfl) (by kernel_rfl) (by kernel_rfl) (fun _ _ _ h => h) (Or.inl ⟨by rfl, ?_⟩) (by with_reducible assumption) ?_
  rotate_left
  focus ((intro w hSw; (try dsimp only at hSw); go_simp); (try with_reducible rfl))
  try simp only [Act.put, List.setIfInBounds_toArray, List.set_cons_zero, List.set_cons_succ]
  refine wpAnyH_take (i := 16) (oi := ?_) (v := ?_) (by simp only [List.getElem?_toArray, List.getElem?_cons_succ, List.getElem?_cons_zero]; rfl) (by kernel_rfl) (by kernel_rfl) (by kernel_rfl) (fun _ _ _ h => h) (Or.inl ⟨by rfl, ?_⟩) (by with_reducible assumption) ?_
  rotate_left
  focus ((intro w hSw; (try dsimp only at hSw); go_simp); (try with_reducible rfl))
  try simp only [Act.put, List.setIfInBounds_toArray, List.set_cons_zero, List.set_cons_succ]
  refine wpAnyH_take (i := 17) (oi := ?_) (v := ?_) (by simp only [List.getElem?_toArray, List.getElem?_cons_succ, List.getElem?_cons_zero]; rfl) (by kernel_rfl) (by kernel_rfl) (by kernel_rfl) (fun _ _ _ h => h) (Or.inl ⟨by rfl, ?_⟩) (by with_reducible assumption) ?_
  rotate_left
  focus ((intro w hSw; (try dsimp only at hSw); go_simp); (try with_reducible rfl))
  try simp only [Act.put, List.setIfInBounds_toArray, List.set_cons_zero, List.set_cons_succ]
  refine wpAnyH_take (i := 18) (oi := ?_) (v := ?_) (by simp only [List.getElem?_toArray, List.getElem?_cons_succ, List.getElem?_cons_zero]; rfl) (by kernel_rfl) (by kernel_rfl) (by kernel_rfl) (fun _ _ _ h => h) (Or.inl ⟨by rfl, ?_⟩) (by with_reducible assumption) ?_
  rotate_left
  focus ((intro w hSw; (try dsimp only at hSw); go_simp); (try with_reducible rfl))
  try simp only [Act.put, List.setIfInBounds_toArray, List.set_cons_zero, List.set_cons_succ]
  refine wpAnyH_take (i := 19) (oi := ?_) (v := ?_) (by simp only [List.getElem?_toArray, List.getElem?_cons_succ, List.getElem?_cons_zero]; rfl) (by kernel_rfl) (by kernel_rfl) (by kernel_rfl) (fun _ _ _ h => h) (Or.inl ⟨by rfl, ?_⟩) (by with_reducible assumption) ?_
  rotate_left
  focus ((intro w hSw; (try dsimp only at hSw); go_simp); (try with_reducible rfl))
  try simp only [Act.put, List.setIfInBounds_toArray, List.set_cons_zero, List.set_cons_succ]
  refine wpAnyH_take (i := 20) (oi := ?_) (v := undef) (by simp only [List.getElem?_toArray, List.getElem?_cons_succ, List.getElem?_cons_zero]; rfl) (by kernel_rfl) (by kernel_rfl) (by kernel_rfl) (fun _ _ _ h => h) (Or.inr ⟨by rfl, rfl⟩) (by with_reducible assumption) ?_
  try simp only [Act.put, List.setIfInBounds_toArray, List.set_cons_zero, List.set_cons_succ]
  refine wpAnyH_take (i := 21) (oi := ?_) (v := undef) (by simp only [List.getElem?_toArray, List.getElem?_cons_succ, List.getElem?_cons_zero]; rfl) (by kernel_rfl) (by kernel_rfl) (by kernel_rfl) (fun _ _ _ h => h) (Or.inr ⟨by rfl, rfl⟩) (by with_reducible assumption) ?_
  try simp only [Act.put, List.setIfInBounds_toArray, List.set_cons_zero, List.set_cons_succ]
  refine wpAnyH_take (i := 22) (oi := ?_) (v := undef) (by simp only [List.getElem?_toArray, List.getElem?_cons_succ, List.getElem?_cons_zero]; rfl) (by kernel_rfl) (by kernel_rfl) (by kernel_rfl) (fun _ _ _ h => h) (Or.inr ⟨by rfl, rfl⟩) (by with_reducible assumption) ?_
  try simp only [Act.put, List.setIfInBounds_toArray, List.set_cons_zero, List.set_cons_succ]
  refine wpAnyH_take (i := 23) (oi := ?_) (v := undef) (by simp only [List.getElem?_toArray, List.getElem?_cons_succ, List.getElem?_cons_zero]; rfl) (by kernel_rfl) (by kernel_rfl) (by kernel_rfl) (fun _ _ _ h => h) (Or.inr ⟨by rfl, rfl⟩) (by with_reducible assumption) ?_
  try simp only [Act.put, List.setIfInBounds_toArray, List.set_cons_zero, List.set_cons_succ]
  refine wpAnyH_take (i := 24) (oi := ?_) (v := undef) (by simp only [List.getElem?_toArray, List.getElem?_cons_succ, List.getElem?_cons_zero]; rfl) (by kernel_rfl) (by kernel_rfl) (by kernel_rfl) (fun _ _ _ h => h) (Or.inr ⟨by rfl, rfl⟩) (by with_reducible assumption) ?_
  try simp only [Act.put, List.setIfInBounds_toArray, List.set_cons_zero, List.set_cons_succ]
  refine wpAnyH_take (i := 25) (oi := ?_) (v := undef) (by simp only [List.getElem?_toArray, List.getElem?_cons_succ, List.getElem?_cons_zero]; rfl) (by kernel_rfl) (by kernel_rfl) (by kernel_rfl) (fun _ _ _ h => h) (Or.inr ⟨by rfl, rfl⟩) (by with_reducible assumption) ?_
  try simp only [Act.put, List.setIfInBounds_toArray, List.set_cons_zero, List.set_cons_succ]
  refine wpAnyH_take (i := 26) (oi := ?_) (v := ?_) (by simp only [List.getElem?_toArray, List.getElem?_cons_succ, List.getElem?_cons_zero]; rfl) (by kernel_rfl) (by kernel_rfl) (by kernel_rfl) (fun _ _ _ h => h) (Or.inl ⟨by rfl, ?_⟩) (by with_reducible assumption) ?_
  rotate_left
  focus ((intro w hSw; (try dsimp only at hSw); go_simp); (try with_reducible rfl))
  try simp only [Act.put, List.setIfInBounds_toArray, List.set_cons_zero, List.set_cons_succ]
  refine wpAnyH_take (i := 27) (oi := ?_) (v := ?_) (by simp only [List.getElem?_toArray, List.getElem?_cons_succ, List.getElem?_cons_zero]; rfl) (by kernel_rfl) (by kernel_rfl) (by kernel_rfl) (fun _ _ _ h => h) (Or.inl ⟨by rfl, ?_⟩) (by with_reducible assumption) ?_
  rotate_left
  focus ((intro w hSw; (try dsimp only at hSw); go_simp); (try with_reducible rfl))
  try simp only [Act.put, List.setIfInBounds_toArray, List.set_cons_zero, List.set_cons_succ]
  refine wpAnyH_done (by kernel_rfl) ?_ _
  refine NoPanic.normal ?_
  obtain ⟨hb6, g5, _⟩ := hHeld
  have hB := keep_below hB hb6
  have HX := Lib.hid (HX.out.below hb6)
  have HP := Lib.hid (HP.out.below hb6)
  clear hb hb0 hb6 L1 g7
  go_wp2_with fail
  generalize w' = W6 at *
  refine (nat_shr_any x kn B0 m0 d0 _ HX.out (by have := HS0.out.words HX.out; omega)).mono ?_
  rintro e w8 ⟨B8, m8, d8, rfl, hv, hb, _⟩
  have hB := keep_below hB hb
  have HX := Lib.hid (HX.out.below hb)
  have HP := Lib.hid (HP.out.below hb)
  have g5 := keep_cell hb g5
  have HN8 := Lib.hid hv
  clear hb hv
  go_wp2_with fail
  refine (ref2_shr x kn C0 r0 f0 _ HP.out (by have := HS0.out.holds' HP.out; omega) (by omega)).mono ?_
  intro e w9 hg
  obtain ⟨C9, r9, f9, rfl, hh, hb⟩ := hg.elim
  have hB := keep_below hB hb
  have HX := Lib.hid (HX.out.below hb)
  have HP := Lib.hid (HP.out.below hb)
  have HN8 := Lib.hid (HN8.out.below hb)
  have g5 := keep_cell hb g5
  have HR9 := Lib.hid hh
  clear hb hh hg
  go_wp2_with fail
  refine (law2_like (x / 2 ^ kn) B8 C9 m8 d8 r9 f9 _ HN8.out HR9.out (by have := (HS0.out.of_le (Nat.div_le_self x (2 ^ kn))).words HN8.out; omega) (by have := (HS0.out.of_le (Nat.div_le_self x (2 ^ kn))).holds' HR9.out; omega)).mono ?_
  rintro e w10 ⟨rfl, hb⟩
  have hB := keep_below hB hb
  have HX := Lib.hid (HX.out.below hb)
  have HP := Lib.hid (HP.out.below hb)
  have g5 := keep_cell hb g5
  clear hb HN8 HR9
  go_wp2_with fail
  refine (nat_low_any x kn B0 m0 d0 _ HX.out (by have := HS0.out.words HX.out; omega)).mono ?_
  rintro e w11 ⟨B11, m11, d11, rfl, hv, hb, _⟩
  have hB := keep_below hB hb
  have HX := Lib.hid (HX.out.below hb)
  have HP := Lib.hid (HP.out.below hb)
  have HN11 := Lib.hid hv
  clear hb hv
  go_wp2_with fail
  refine (ref2_low x kn C0 r0 f0 _ HP.out (by have := HS0.out.holds' HP.out; omega) (by omega)).mono ?_
  intro e w12 hg
  obtain ⟨C12, r12, f12, rfl, hh, hb⟩ := hg.elim
  have hB := keep_below hB hb
  have HN11 := Lib.hid (HN11.out.below hb)
  have HR12 := Lib.hid hh
  clear hb hh hg
  go_wp2_with fail
  refine (law2_like (x % 2 ^ kn) B11 C12 m11 d11 r12 f12 _ HN11.out HR12.out (by have := (HS0.out.of_le (Nat.mod_le x (2 ^ kn))).words HN11.out; omega) (by have := (HS0.out.of_le (Nat.mod_le x (2 ^ kn))).holds' HR12.out; omega)).mono ?_
  rintro e w13 ⟨rfl, hb⟩
  have hB := keep_below hB hb
  clear hb HN11 HR12
  go_wp2
  go_ret
  exact ⟨by first | rfl | simp, hB⟩
set_option maxHeartbeats 8000000 in
theorem natShifts_mid (A0 : Option Addr) (n0 c0 : Nat) (l0 : List Nat) (kn : Nat) (w : World) (h0 : ArgWords w A0 n0 c0 l0) (hk1 : kn ≤ 9223372036854775807) (hk2 : kn ≤ 65536) :
    Calls Try.prog 4 #[.slice A0 n0 c0, .int .i64 (kn : Int)] w fun e w' => e = .returned (.bool true) ∧ Below w.heap.size w w' := by
  obtain ⟨K, hK⟩ : ∃ K, 1048576 = K := ⟨_, rfl⟩
  have O0 := arg_of h0
  have P0 := arg_ref2 h0
  have S0 := arg_sz h0
  rw [hK] at S0
  have hK2 : K ≤ 1048576 := by omega
  obtain ⟨x, hx⟩ : ∃ x, dv 18446744073709551616 l0 = x := ⟨_, rfl⟩
  rw [hx] at O0 S0 P0
  have HO0 := Lib.hid O0
  have HP0 := Lib.hid P0
  have HS0 := Lib.hid S0
  clear O0 S0 P0 h0 hx hK
  have hd1 : decide ((kn : Int) ≥ 0) = true := by simp
  have hd2 : decide ((0 : Int) ≤ (kn : Int)) = true := by simp
  have hd3 : decide ((kn : Int) ≤ 65536) = true := by simp; omega
  go_enter Try.func4, Try.ntmps4
  go_wp2_with fail
  refine (law2_awake _).mono ?_
  rintro e w1 ⟨rfl, hB⟩
  go_wp2_with fail
  refine (HO0.out _ hB).mono ?_
  rintro e w2 ⟨B0, m0, d0, rfl, hw0, hb, _⟩
  have hb := keep_below hb (up_alloc w2 (.cells #[.slice B0 m0 d0] 25))
  have hB := keep_below hB hb
  have HX := Lib.hid (hw0.below (up_alloc w2 (.cells #[.slice B0 m0 d0] 25)))
  have g5 : (w2.alloc (.cells #[.slice B0 m0 d0] 25)).cell? ⟨w2.heap.size, 0, none⟩ = some (.slice B0 m0 d0) := (Blk.new w2 _ _).cell 0
  clear hb hw0
  go_wp2_with fail
  generalize w2.alloc (.cells #[.slice B0 m0 d0] 25) = W2 at *
  generalize w2.heap.size = p at *
  refine (HP0.out _ hB).mono ?_
  intro e w4 hg
  obtain ⟨C0, r0, f0, rfl, hh0, hb⟩ := hg.elim
  have hB := keep_below hB hb
  have HX := Lib.hid (HX.out.below hb)
  have g5 := keep_cell hb g5
  have HP := Lib.hid hh0
  have hrp := HS0.out.holds' HP.out
  have hmx := HS0.out.words HX.out
  clear hb hh0 hg
  go_wp2_with fail
  refine (nat_shl x kn B0 m0 d0 _ HX.out (by omega) hk2).mono ?_
  rintro e w5 ⟨B1, m1, d1, rfl, hw1, hb, _⟩
  have hb := keep_below hb (up_alloc w5 (.cells #[.slice B1 m1 d1] 25))
  have hB := keep_below hB hb
  have HX := Lib.hid (HX.out.below hb)
  have HP := Lib.hid (HP.out.below hb)
  have g5 := keep_cell hb g5
  have HL := Lib.hid (hw1.below (up_alloc w5 (.cells #[.slice B1 m1 d1] 25)))
  have g7 : (w5.alloc (.cells #[.slice B1 m1 d1] 25)).cell? ⟨w5.heap.size, 0, none⟩ = some (.slice B1 m1 d1) := (Blk.new w5 _ _).cell 0
  clear hb hw1
  go_wp2_with fail
  generalize w5.alloc (.cells #[.slice B1 m1 d1] 25) = W5 at *
  generalize w5.heap.size = q at *
  have L1 := Lib.hid (fun w' (h : Below W5.heap.size W5 w') => ref2_shl x kn C0 r0 f0 w' (HP.out.below h) (by omega) (by omega))
  have L2 := Lib.hid (fun w' (h : Below W5.heap.size W5 w') C' r' f' (hh : Holds16 w' (x * 2 ^ kn) C' r' f') => law2_like (x * 2 ^ kn) B1 C' m1 d1 r' f' w' (by have := HL.out.below h; rwa [Nat.mul_comm] at this) hh (by have := (HS0.out.shl (k := kn) hk2).words HL.out; omega) (by rw [Nat.mul_comm] at hh; have := (HS0.out.shl (k := kn) hk2).holds' hh; omega))
  have hb0 : Below W5.heap.size W5 W5.drew := (Below.refl _ W5).drew
  have j5 : W5.drew.cell? ⟨p, 0, none⟩ = some (.slice B0 m0 d0) := g5
  have j7 : W5.drew.cell? ⟨q, 0, none⟩ = some (.slice B1 m1 d1) := g7
  refine wp_region_noPanic ?_
  refine wp_region_held_drew (S := (fun w' => Below W5.heap.size W5 w' ∧ w'.cell? ⟨p, 0, none⟩ = some (.slice B0 m0 d0) ∧ w'.cell? ⟨q, 0, none⟩ = some (.slice B1 m1 d1))) (by kernel_rfl) ?_ (fun hHeld => ?_)
  · exact ⟨hb0, j5, j7⟩
  refine wpAnyH_take (i := 0) (oi := ?_) (v := ?_) (by simp only [List.getElem?_toArray, List.getElem?_cons_succ, List.getElem?_cons_zero]; rfl) (by kernel_rfl) (by kernel_rfl) (by kernel_rfl) (fun _ _ _ h => h) (Or.inl ⟨by rfl, ?_⟩) (by with_reducible assumption) ?_
  rotate_left
  focus ((intro w hSw; (try dsimp only at hSw); go_simp); (try with_reducible rfl))
  try simp only [Act.put, List.setIfInBounds_toArray, List.set_cons_zero, List.set_cons_succ]
  refine wpAnyH_take (i := 1) (oi := ?_) (v := ?_) (by simp only [List.getElem?_toArray, List.getElem?_cons_succ, List.getElem?_cons_zero]; rfl) (by kernel_rfl) (by kernel_rfl) (by kernel_rfl) (fun _ _ _ h => h) (Or.inl ⟨by rfl, ?_⟩) (by with_reducible assumption) ?_
  rotate_left
  focus ((intro w hSw; (try dsimp only at hSw); go_simp); (try with_reducible rfl))
  try simp only [Act.put, List.setIfInBounds_toArray, List.set_cons_zero, List.set_cons_succ]
  refine wpAnyH_take (i := 2) (oi := ?_) (v := ?_) (by simp only [List.getElem?_toArray, List.getElem?_cons_succ, List.getElem?_cons_zero]; rfl) (by kernel_rfl) (by kernel_rfl) (by kernel_rfl) (fun _ _ _ h => h) (Or.inl ⟨by rfl, ?_⟩) (by with_reducible assumption) ?_
  rotate_left
  focus ((intro w hSw; (try dsimp only at hSw); go_simp); (try with_reducible rfl))
  try simp only [Act.put, List.setIfInBounds_toArray, List.set_cons_zero, List.set_cons_succ]
  refine wpAnyH_take (i := 3) (oi := ?_) (v := ?_) (by simp only [List.getElem?_toArray, List.getElem?_cons_succ, List.getElem?_cons_zero]; rfl) (by kernel_rfl) (by kernel_rfl) (by kernel_rfl) (fun _ _ _ h => h) (Or.inl ⟨by rfl, ?_⟩) (by with_reducible assumption) ?_
  rotate_left
  focus ((intro w hSw; (try dsimp only at hSw); go_simp); (try with_reducible rfl))
  try simp only [Act.put, List.setIfInBounds_toArray, List.set_cons_zero, List.set_cons_succ]
  refine wpAnyH_take (i := 4) (oi := ?_) (v := ?_) (by simp only [List.getElem?_toArray, List.getElem?_cons_succ, List.getElem?_cons_zero]; rfl) (by kernel_rfl) (by kernel_rfl) (by kernel_rfl) (fun _ _ _ h => h) (Or.inl ⟨by rfl, ?_⟩) (by with_reducible assumption) ?_
  rotate_left
  focus ((intro w hSw; (try dsimp only at hSw); go_simp); (try with_reducible rfl))
  try simp only [Act.put, List.setIfInBounds_toArray, List.set_cons_zero, List.set_cons_succ]
  refine wpAnyH_take (i := 5) (oi := ?_) (v := ?_) (by simp only [List.getElem?_toArray, List.getElem?_cons_succ, List.getElem?_cons_zero]; rfl) (by kernel_rfl) (by kernel_rfl) (by kernel_rfl) (fun _ _ _ h => h) (Or.inl ⟨by rfl, ?_⟩) (by with_reducible assumption) ?_
  rotate_left
  focus ((intro w hSw; (try dsimp only at hSw); go_simp); (try with_reducible rfl))
  try simp only [Act.put, List.setIfInBounds_toArray, List.set_cons_zero, List.set_cons_succ]
  refine wpAnyH_take (i := 6) (oi := ?_) (v := ?_) (by simp only [List.getElem?_toArray, List.getElem?_cons_succ, List.getElem?_cons_zero]; rfl) (by kernel_rfl) (by kernel_rfl) (by kernel_rfl) (fun _ _ _ h => h) (Or.inl ⟨by rfl, ?_⟩) (by with_reducible assumption) ?_
  rotate_left
  focus ((intro w hSw; (try dsimp only at hSw); go_simp); (try with_reducible rfl))
  try simp only [Act.put, List.setIfInBounds_toArray, List.set_cons_zero, List.set_cons_succ]
  refine wpAnyH_take (i := 7) (oi := ?_) (v := ?_) (by simp only [List.getElem?_toArray, List.getElem?_cons_succ, List.getElem?_cons_zero]; rfl) (by kernel_rfl) (by kernel_rfl) (by kernel_rfl) (fun _ _ _ h => h) (Or.inl ⟨by rfl, ?_⟩) (by with_reducible assumption) ?_
  rotate_left
  focus ((intro w hSw; (try dsimp only at hSw); go_simp); (try with_reducible rfl))
  try simp only [Act.put, List.setIfInBounds_toArray, List.set_cons_zero, List.set_cons_succ]
  refine wpAnyH_take (i := 8) (oi := ?_) (v := ?_) (by simp only [List.getElem?_toArray, List.getElem?_cons_succ, List.getElem?_cons_zero]; rfl) (by kernel_rfl) (by kernel_rfl) (by kernel_rfl) (fun _ _ _ h => h) (Or.inl ⟨by rfl, ?_⟩) (by with_reducible assumption) ?_
  rotate_left
  focus ((intro w hSw; (try dsimp only at hSw); go_simp); (try with_reducible rfl))
  try simp only [Act.put, List.setIfInBounds_toArray, List.set_cons_zero, List.set_cons_succ]
  refine wpAnyH_take (i := 9) (oi := ?_) (v := ?_) (by simp only [List.getElem?_toArray, List.getElem?_cons_succ, List.getElem?_cons_zero]; rfl) (by kernel_rfl) (by kernel_rfl) (by kernel_rfl) (fun _ _ _ h => h) (Or.inl ⟨by rfl, ?_⟩) (by with_reducible assumption) ?_
  rotate_left
  focus ((intro w hSw; (try dsimp only at hSw); go_simp); (try with_reducible rfl))
  try simp only [Act.put, List.setIfInBounds_toArray, List.set_cons_zero, List.set_cons_succ]
  refine wpAnyH_take (i := 10) (oi := ?_) (v := ?_) (by simp only [List.getElem?_toArray, List.getElem?_cons_succ, List.getElem?_cons_zero]; rfl) (by kernel_rfl) (by kernel_rfl) (by kernel_rfl) (fun _ _ _ h => h) (Or.inl ⟨by rfl, ?_⟩) (by with_reducible assumption) ?_
  rotate_left
  focus ((intro w hSw; (try dsimp only at hSw); go_simp); (try with_reducible rfl))
  try simp only [Act.put, List.setIfInBounds_toArray, List.set_cons_zero, List.set_cons_succ]
  refine wpAnyH_take (i := 11) (oi := ?_) (v := ?_) (by simp only [List.getElem?_toArray, List.getElem?_cons_succ, List.getElem?_cons_zero]; rfl) (by kernel_rfl) (by kernel_rfl) (by kernel_rfl) (fun _ _ _ h => h) (Or.inl ⟨by rfl, ?_⟩) (by with_reducible assumption) ?_
  rotate_left
  focus ((intro w hSw; (try dsimp only at hSw); go_simp); (try with_reducible rfl))
  try simp only [Act.put, List.setIfInBounds_toArray, List.set_cons_zero, List.set_cons_succ]
  refine wpAnyH_take (i := 12) (oi := ?_) (v := undef) (by simp only [List.getElem?_toArray, List.getElem?_cons_succ, List.getElem?_cons_zero]; rfl) (by kernel_rfl) (by kernel_rfl) (by kernel_rfl) (fun _ _ _ h => h) (Or.inr ⟨by rfl, rfl⟩) (by with_reducible assumption) ?_
  try simp only [Act.put, List.setIfInBounds_toArray, List.set_cons_zero, List.set_cons_succ]
  refine wpAnyH_take (i := 13) (oi := ?_) (v := undef) (by simp only [List.getElem?_toArray, List.getElem?_cons_succ, List.getElem?_cons_zero]; rfl) (by kernel_rfl) (by kernel_rfl) (by kernel_rfl) (fun _ _ _ h => h) (Or.inr ⟨by rfl, rfl⟩) (by with_reducible assumption) ?_
  try simp only [Act.put, List.setIfInBounds_toArray, List.set_cons_zero, List.set_cons_succ]
  refine wpAnyH_take (i := 14) (oi := ?_) (v := undef) (by simp only [List.getElem?_toArray, List.getElem?_cons_succ, List.getElem?_cons_zero]; rfl) (by kernel_rfl) (by kernel_rfl) (by kernel_rfl) (fun _ _ _ h => h) (Or.inr ⟨by rfl, rfl⟩) (by with_reducible assumption) ?_
  try simp only [Act.put, List.setIfInBounds_toArray, List.set_cons_zero, List.set_cons_succ]
  refine wpAnyH_take (i := 15) (oi := ?_) (v := ?_) (by simp only [List.getElem?_toArray, List.getElem?_cons_succ, List.getElem?_cons_zero]; rfl) (by kernel_rfl) (by kernel_rfl) (by kernel_rfl) (fun _ _ _ h => h) (Or.inl ⟨by rfl, ?_⟩) (by with_reducible assumption) ?_
  rotate_left
  focus ((intro w hSw; (try dsimp only at hSw); go_simp); (try with_reducible rfl))
  try simp only [Act.put, List.setIfInBounds_toArray, List.set_cons_zero, List.set_cons_succ]
  refine wpAnyH_take (i := 16) (oi := ?_) (v := ?_) (by simp only [List.getElem?_toArray, List.getElem?_cons_succ, List.getElem?_cons_zero]; rfl) (by kernel_rfl) (by kernel_rfl) (by kernel_rfl) (fun _ _ _ h => h) (Or.inl ⟨by rfl, ?_⟩) (by with_reducible assumption) ?_
  rotate_left
  focus ((intro w hSw; (try dsimp only at hSw); go_simp); (try with_reducible rfl))
  try simp only [Act.put, List.setIfInBounds_toArray, List.set_cons_zero, List.set_cons_succ]
  refine wpAnyH_take (i := 17) (oi := ?_) (v := ?_) (by simp only [List.getElem?_toArray, List.getElem?_cons_succ, List.getElem?_cons_zero]; rfl) (by kernel_rfl) (by kernel_rfl) (by kernel_rfl) (fun _ _ _ h => h) (Or.inl ⟨by rfl, ?_⟩) (by with_reducible assumption) ?_
  rotate_left
  focus ((intro w hSw; (try dsimp only at hSw); go_simp); (try with_reducible rfl))
  try simp only [Act.put, List.setIfInBounds_toArray, List.set_cons_zero, List.set_cons_succ]
  refine wpAnyH_take (i := 18) (oi := ?_) (v := ?_) (by simp only [List.getElem?_toArray, List.getElem?_cons_succ, List.getElem?_cons_zero]; rfl) (by kernel_rfl) (by kernel_rfl) (by kernel_rfl) (fun _ _ _ h => h) (Or.inl ⟨by rfl, ?_⟩) (by with_reducible assumption) ?_
  rotate_left
  focus ((intro w hSw; (try dsimp only at hSw); go_simp); (try with_reducible rfl))
  try simp only [Act.put, List.setIfInBounds_toArray, List.set_cons_zero, List.set_cons_succ]
  refine wpAnyH_take (i := 19) (oi := ?_) (v := ?_) (by simp only [List.getElem?_toArray, List.getElem?_cons_succ, List.getElem?_cons_zero]; rfl) (by kernel_rfl) (by kernel_rfl) (by kernel_rfl) (fun _ _ _ h => h) (Or.inl ⟨by rfl, ?_⟩) (by with_reducible assumption) ?_
  rotate_left
  focus ((intro w hSw; (try dsimp only at hSw); go_simp); (try with_reducible rfl))
  try simp only [Act.put, List.setIfInBounds_toArray, List.set_cons_zero, List.set_cons_succ]
  refine wpAnyH_take (i := 20) (oi := ?_) (v := ?_) (by simp only [List.getElem?_toArray, List.getElem?_cons_succ, List.getElem?_cons_zero]; rfl) (by kernel_rfl) (by kernel_rfl) (by kernel_rfl) (fun _ _ _ h => h) (Or.inl ⟨by rfl, ?_⟩) (by with_reducible assumption) ?_
  rotate_left
  focus ((intro w hSw; (try dsimp only at hSw); go_simp); (try with_reducible rfl))
  try simp only [Act.put, List.setIfInBounds_toArray, List.set_cons_zero, List.set_cons_succ]
  refine wpAnyH_take (i := 21) (oi := ?_) (v := ?_) (by simp only [List.getElem?_toArray, List.getElem?_cons_succ, List.getElem?_cons_zero]; rfl) (by kernel_rfl) (by kernel_rfl) (by kernel_rfl) (fun _ _ _ h => h) (Or.inl ⟨by rfl, ?_⟩) (by with_reducible assumption) ?_
  rotate_left
  focus ((intro w hSw; (try dsimp only at hSw); go_simp); (try with_reducible rfl))
  try simp only [Act.put, List.setIfInBounds_toArray, List.set_cons_zero, List.set_cons_succ]
  refine wpAnyH_take (i := 22) (oi := ?_) (v := ?_) (by simp only [List.getElem?_toArray, List.getElem?_cons_succ, List.getElem?_cons_zero]; rfl) (by kernel_rfl) (by kernel_rfl) (by kernel_rfl) (fun _ _ _ h => h) (Or.inl ⟨by rfl, ?_⟩) (by with_reducible assumption) ?_
  rotate_left
  focus ((intro w hSw; (try dsimp only at hSw); go_simp); (try with_reducible rfl))
  try simp only [Act.put, List.setIfInBounds_toArray, List.set_cons_zero, List.set_cons_succ]
  refine wpAnyH_ready (rs := [23]) (by kernel_rfl) (by simp) ?_
  refine AllReadyH.cons (o := ?_) (by simp only [List.getElem?_toArray, List.getElem?_cons_succ, List.getElem?_cons_zero]; rfl) (fun K hK => ?_) AllReadyH.nil
  go_simp
  (first | (go_at_call 20; (with_reducible refine (L1.out _ (by first | with_reducible assumption | exact And.left (by with_reducible assumption))).mono ?_); intro e w' hg; obtain ⟨C4, r4, f4, rfl, hh4, hb⟩ := hg.elim; clear hg) | (go_at_call 14; (with_reducible refine (L2.out _ (by first | with_reducible assumption | exact And.left (by with_reducible assumption)) _ _ _ hh4).mono ?_); rintro e w' ⟨rfl, hb⟩))
  refine hK.out _ _ ?_ (fun hHeld => ?_)
  · ((try dsimp only); (go_split_ands; refine ⟨?_, ?_, ?_⟩; all_goals (first | with_reducible assumption | exact keep_below (by with_reducible assumption) hb | exact keep_cell hb (by with_reducible assumption))))
  clear hK K
  try simp only [Act.put, List.setIfInBounds_toArray, List.set_cons_zero, List.set_cons_succ]
  refine wpAnyH_ready (rs := [24]) (by kernel_rfl) (by simp) ?_
  refine AllReadyH.cons (o := ?_) (by simp only [List.getElem?_toArray, List.getElem?_cons_succ, List.getElem?_cons_zero]; rfl) (fun K hK => ?_) AllReadyH.nil
  go_simp
  (first | (go_at_call 20; (with_reducible refine (L1.out _ (by first | with_reducible assumption | exact And.left (by with_reducible assumption))).mono ?_); intro e w' hg; obtain ⟨C4, r4, f4, rfl, hh4, hb⟩ := hg.elim; clear hg) | (go_at_call 14; (with_reducible refine (L2.out _ (by first | with_reducible assumption | exact And.left (by with_reducible assumption)) _ _ _ hh4).mono ?_); rintro e w' ⟨rfl, hb⟩))
  refine hK.out _ _ ?_ (fun hHeld => ?_)
  · ((try dsimp only); (go_split_ands; refine ⟨?_, ?_, ?_⟩; all_goals (first | with_reducible assumption | exact keep_below (by with_reducible assumption) hb | exact keep_cell hb (by with_reducible assumption))))
  clear hK K
  try simp only [Act.put, List.setIfInBounds_toArray, List.set_cons_zero, List.set_cons_succ]
  refine wpAnyH_take (i := 25) (oi := ?_) (v := ?_) (by simp only [List.getElem?_toArray, List.getElem?_cons_succ, List.getElem?_cons_zero]; rfl) (by kernel_rfl) (by kernel_rfl) (by kernel_rfl) (fun _ _ _ h => h) (Or.inl ⟨by rfl, ?_⟩) (by with_reducible assumption) ?_
  rotate_left
  focus ((intro w hSw; (try dsimp only at hSw); go_simp); (try with_reducible rfl))
  try simp only [Act.put, List.setIfInBounds_toArray, List.set_cons_zero, List.set_cons_succ]
  refine wpAnyH_take (i := 26) (oi := ?_) (v := ?_) (by simp only [List.getElem?_toArray, List.getElem?_cons_succ, List.getElem?_cons_zero]; rfl) (by kernel_rfl) (by kernel_rfl) (by kernel_rfl) (fun _ _ _ h => h) (Or.inl ⟨by rfl, ?_⟩) (by with_reducible assumption) ?_
  rotate_left
  focus ((intro w hSw; (try dsimp only at hSw); go_simp); (try with_reducible rfl))
  try simp only [Act.put, List.setIfInBounds_toArray, List.set_cons_zero, List.set_cons_succ]
  refine wpAnyH_take (i := 27) (oi := ?_) (v := ?_) (by simp only [List.getElem?_toArray, List.getElem?_cons_succ, List.getElem?_cons_zero]; rfl) (by kernel_rfl) (by kernel_rfl) (by kernel_rfl) (fun _ _ _ h => h) (Or.inl ⟨by rfl, ?_⟩) (by with_reducible assumption) ?_
  rotate_left
  focus ((intro w hSw; (try dsimp only at hSw); go_simp); (try with_reducible rfl))
  try simp only [Act.put, List.setIfInBounds_toArray, List.set_cons_zero, List.set_cons_succ]
  refine wpAnyH_done (by kernel_rfl) ?_ _
  refine NoPanic.normal ?_
  obtain ⟨hb6, g5, _⟩ := hHeld
  have hB := keep_below hB hb6
  have HX := Lib.hid (HX.out.below hb6)
  have HP := Lib.hid (HP.out.below hb6)
  clear hb hb0 hb6 L1 g7
  go_wp2_with fail
  generalize w' = W6 at *
  refine (nat_shr_any x kn B0 m0 d0 _ HX.out (by have := HS0.out.words HX.out; omega)).mono ?_
  rintro e w8 ⟨B8, m8, d8, rfl, hv, hb, _⟩
  have hB := keep_below hB hb
  have HX := Lib.hid (HX.out.below hb)
  have HP := Lib.hid (HP.out.below hb)
  have g5 := keep_cell hb g5
  have HN8 := Lib.hid hv
  clear hb hv
  go_wp2_with fail
  refine (ref2_shr x kn C0 r0 f0 _ HP.out (by have := HS0.out.holds' HP.out; omega) (by omega)).mono ?_
  intro e w9 hg
  obtain ⟨C9, r9, f9, rfl, hh, hb⟩ := hg.elim
  have hB := keep_below hB hb
  have HX := Lib.hid (HX.out.below hb)
  have HP := Lib.hid (HP.out.below hb)
  have HN8 := Lib.hid (HN8.out.below hb)
  have g5 := keep_cell hb g5
  have HR9 := Lib.hid hh
  clear hb hh hg
  go_wp2_with fail
  refine (law2_like (x / 2 ^ kn) B8 C9 m8 d8 r9 f9 _ HN8.out HR9.out (by have := (HS0.out.of_le (Nat.div_le_self x (2 ^ kn))).words HN8.out; omega) (by have := (HS0.out.of_le (Nat.div_le_self x (2 ^ kn))).holds' HR9.out; omega)).mono ?_
  rintro e w10 ⟨rfl, hb⟩
  have hB := keep_below hB hb
  have HX := Lib.hid (HX.out.below hb)
  have HP := Lib.hid (HP.out.below hb)
  have g5 := keep_cell hb g5
  clear hb HN8 HR9
  go_wp2_with fail
  refine (nat_low_any x kn B0 m0 d0 _ HX.out (by have := HS0.out.words HX.out; omega)).mono ?_
  rintro e w11 ⟨B11, m11, d11, rfl, hv, hb, _⟩
  have hB := keep_below hB hb
  have HX := Lib.hid (HX.out.below hb)
  have HP := Lib.hid (HP.out.below hb)
  have HN11 := Lib.hid hv
  clear hb hv
  go_wp2_with fail
  refine (ref2_low x kn C0 r0 f0 _ HP.out (by have := HS0.out.holds' HP.out; omega) (by omega)).mono ?_
  intro e w12 hg
  obtain ⟨C12, r12, f12, rfl, hh, hb⟩ := hg.elim
  have hB := keep_below hB hb
  have HN11 := Lib.hid (HN11.out.below hb)
  have HR12 := Lib.hid hh
  clear hb hh hg
  go_wp2_with fail
  refine (law2_like (x % 2 ^ kn) B11 C12 m11 d11 r12 f12 _ HN11.out HR12.out (by have := (HS0.out.of_le (Nat.mod_le x (2 ^ kn))).words HN11.out; omega) (by have := (HS0.out.of_le (Nat.mod_le x (2 ^ kn))).holds' HR12.out; omega)).mono ?_
  rintro e w13 ⟨rfl, hb⟩
  have hB := keep_below hB hb
  clear hb HN11 HR12
  go_wp2
  go_ret
  exact ⟨by first | rfl | simp, hB⟩
theorem natShifts_walk (A0 : Option Addr) (n0 c0 : Nat) (l0 : List Nat) (a1 : Int) (w : World) (h0 : ArgWords w A0 n0 c0 l0) (h1 : -9223372036854775808 ≤ a1 ∧ a1 ≤ 9223372036854775807) :
    Calls Try.prog 4 #[.slice A0 n0 c0, .int .i64 a1] w fun e w' => e = .returned (.bool true) ∧ Below w.heap.size w w' := by
  by_cases hk : a1 < 0
  · exact natShifts_neg A0 n0 c0 l0 a1 w h0 hk
  · obtain ⟨kn, rfl⟩ : ∃ kn : Nat, a1 = (kn : Int) := ⟨a1.toNat, by omega⟩
    by_cases hk2 : kn ≤ 65536
    · exact natShifts_mid A0 n0 c0 l0 kn w h0 (by omega) hk2
    · exact natShifts_big A0 n0 c0 l0 kn w h0 (by omega) (by omega)
end Go.Proofs.Ytlofionccgjndaa
