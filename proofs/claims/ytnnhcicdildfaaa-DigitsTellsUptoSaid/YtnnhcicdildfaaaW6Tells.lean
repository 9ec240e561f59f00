/-
  The walk of the law DigitsTells. Conditions: the words that came in are at most 1048576; digits' functions do as DigitsC says.
-/
import Derived.Test.YtnnhcicdildfaaaRows
import Derived.Test.YtnnhcicdildfaaaW6Awake
import Derived.Test.YtnnhcicdildfaaaD6Size
import Derived.Test.YtnnhcicdildfaaaR6Back
import Derived.Test.YtnnhcicdildfaaaBunR
import Derived.WalkKit
import Derived.Lib.Hide
import Derived.Outline
import Derived.IntWalk
namespace Go.Proofs.Ytnnhcicdildfaaa
open Go Go.RowKit
set_option maxRecDepth 100000
set_option linter.unusedVariables false
set_option linter.unusedSimpArgs false
set_option maxHeartbeats 8000000 in
theorem digitsTells_core {T : World → Prop} (hTb : ∀ w w', T w → Below w.heap.size w w' → T w') (DC : DigitsC T) (A0 : Option Addr) (n0 c0 : Nat) (l0 : List Nat) (w : World) (h0 : ArgWords w A0 n0 c0 l0) (hT : T w) :
    Calls Try.prog 3 #[.slice A0 n0 c0] w fun e w' => e = .returned (.bool true) ∧ Below w.heap.size w w' := by
  have HDC := Lib.hid DC
  have HT := Lib.hid (fun w' (h : Below w.heap.size w w') => hTb w w' hT h)
  have HAW := Lib.hid (law6_awake hTb DC w hT)
  have HRA := Lib.hid (fun w' (h : Below w.heap.size w w') => (h0.reads.below h).more h.size)
  have HO0 := Lib.hid (arg_of h0)
  have HD0 := Lib.hid h0.dgs
  have hln := Lib.hid h0.reads.len_
  clear DC hTb hT h0
  go_enter Try.func3, Try.ntmps3
  go_wp2_with fail
  refine HAW.out.mono ?_
  rintro e w1 ⟨rfl, hB⟩
  by_cases h6 : n0 ≤ 60
  · have j1 : decide ((n0 : Int) > 60) = false := by simp; omega
    have j2 : decide ((60 : Int) < (n0 : Int)) = false := by simp; omega
    have HSZ : Hid (Sz 60 (dv 18446744073709551616 l0)) := by
      have h1 := dv_lt HD0.out
      rw [hln.out] at h1
      exact Nat.lt_of_lt_of_le h1 (Nat.pow_le_pow_right (by decide) h6)
    have HRO := Lib.hid (fun w' (h : Below w.heap.size w w') => ref2_of A0 n0 c0 l0 w' (HRA.out w' h) HD0.out (by omega))
    obtain ⟨x, hx⟩ : ∃ v, dv 18446744073709551616 l0 = v := ⟨_, rfl⟩
    rw [hx] at HO0 HSZ HRO
    clear hx HRA HD0 HAW hln
    go_wp2_with fail
    refine (HO0.out _ hB).mono ?_
    rintro e w2 ⟨A2, n2, c2, rfl, hw2, hb, _⟩
    have hB := keep_below hB hb
    clear hb
    go_wp2_with fail
    refine (HRO.out _ hB).mono ?_
    intro e w3 hg3
    obtain ⟨A3, n3, c3, rfl, hh3, hb⟩ := hg3.elim
    have hB := keep_below hB hb
    have hw2 := hw2.below hb
    have l2 : n2 ≤ 60 := Sz.words HSZ.out hw2
    have l3 : n3 ≤ 240 := by
      rw [hh3.len]
      refine dg_len_le (by decide) _ _ (Nat.lt_of_lt_of_le HSZ.out ?_)
      rw [show (18446744073709551616 : Nat) = 65536 ^ 4 by decide, ← Nat.pow_mul]
      exact Nat.le_refl _
    obtain ⟨b1, b2, b5⟩ := box1 w3 25 #[.slice A2 n2 c2]
    have hB := keep_below hB b1
    have hw2 := hw2.below b1
    have hh3 := hh3.below b1
    have g2 := b2.cell 0
    simp only [List.getElem?_toArray, List.getElem?_cons_zero] at g2
    clear hg3 b1 b2 b5 hb j1 j2 HO0 HRO HSZ
    go_wp2_with fail
    generalize w3.alloc (.cells #[.slice A2 n2 c2] 25) = W3 at *
    generalize w3.heap.size = p3 at *
    refine (HDC.out.bytes x A2 n2 c2 W3 (HT.out _ hB) hw2 (by omega)).mono ?_
    rintro e w5 ⟨v5, rfl, ho5, hb⟩
    obtain ⟨A5, c5, rfl, _, _, hr5⟩ := Reads.of_grown_own ho5
    have hB := keep_below hB hb
    have hw2 := hw2.below hb
    have hh3 := hh3.below hb
    have g2 := keep_cell hb g2
    clear hb ho5
    have HSI := Lib.hid (fun w' (h : Below w5.heap.size w5 w') => HDC.out.size x A2 n2 c2 w' (HT.out _ (keep_below hB h)) (hw2.below h) (by omega))
    have HTX := Lib.hid (fun w' (h : Below w5.heap.size w5 w') => HDC.out.text x A2 n2 c2 w' (HT.out _ (keep_below hB h)) (hw2.below h) (by omega))
    have HRB := Lib.hid (fun w' (h : Below w5.heap.size w5 w') => ref6_bytes x A3 n3 c3 w' (hh3.below h) (by omega))
    have HRT := Lib.hid (fun w' (h : Below w5.heap.size w5 w') => ref6_text x A3 n3 c3 w' (hh3.below h) (by omega))
    have HST5 := Lib.hid (fun w' (h : Below w5.heap.size w5 w') => reads_string (P := Try.prog) 30 9 5 Try.underlying30 Try.underlying5 Try.underlying9 (c := c5) (hr5.below h))
    have HML := Lib.hid (bytesL_len x)
    obtain ⟨Q, hQ⟩ : ∃ q, strL (bytesL x) = q := ⟨_, rfl⟩
    obtain ⟨U, hU⟩ : ∃ q, strS (textS x) = q := ⟨_, rfl⟩
    rw [hQ] at HST5
    rw [hU] at HTX HRT
    have HQ := Lib.hid hQ
    rw [← HML.out] at HSI
    obtain ⟨M, hM⟩ : ∃ m, (bytesL x).length = m := ⟨_, rfl⟩
    rw [hM] at HSI HST5 ⊢
    have HBW := Lib.hid hB
    have hb0 : Below w5.heap.size w5 w5.drew := (Below.refl _ w5).drew
    have g0 : w5.drew.cell? ⟨p3, 0, none⟩ = some (.slice A2 n2 c2) := g2
    clear hQ hU hM hB hw2 hh3 hr5 g2 HML HDC HT
    go_wp2_with fail
    refine wp_region_noPanic ?_
    refine wp_region_held_drew (S := (fun w' => Below w5.heap.size w5 w' ∧ w'.cell? ⟨p3, 0, none⟩ = some (.slice A2 n2 c2))) (by kernel_rfl) ?_ (fun hHeld => ?_)
    · exact ⟨hb0, g0⟩
    refine wpAnyH_take (i := 0) (oi := ?_) (v := ?_) (by simp only [List.getElem?_toArray, List.getElem?_cons_succ, List.getElem?_cons_zero]; rfl) (by kernel_rfl) (by kernel_rfl) (by kernel_rfl) (fun _ _ _ h => h) (Or.inl ⟨by rfl, ?_⟩) (by with_reducible assumption) ?_
    rotate_left
    focus ((intro w hSw; (try dsimp only at hSw); go_simp); (try with_reducible rfl))
    try simp only [Act.put, List.setIfInBounds_toArray, List.set_cons_zero, List.set_cons_succ]
    refine wpAnyH_take (i := 2) (oi := ?_) (v := ?_) (by simp only [List.getElem?_toArray, List.getElem?_cons_succ, List.getElem?_cons_zero]; rfl) (by kernel_rfl) (by kernel_rfl) (by kernel_rfl) (fun _ _ _ h => h) (Or.inl ⟨by rfl, ?_⟩) (by with_reducible assumption) ?_
    rotate_left
    focus ((intro w hSw; (try dsimp only at hSw); go_simp); (try with_reducible rfl))
    try simp only [Act.put, List.setIfInBounds_toArray, List.set_cons_zero, List.set_cons_succ]
    refine wpAnyH_take (i := 1) (oi := ?_) (v := ?_) (by simp only [List.getElem?_toArray, List.getElem?_cons_succ, List.getElem?_cons_zero]; rfl) (by kernel_rfl) (by kernel_rfl) (by kernel_rfl) (fun _ _ _ h => h) (Or.inl ⟨by rfl, ?_⟩) (by with_reducible assumption) ?_
    rotate_left
    focus ((intro wz hSw; (try dsimp only at hSw); have stz := HST5.out wz hSw.1; go_simp); (try with_reducible rfl))
    try simp only [Act.put, List.setIfInBounds_toArray, List.set_cons_zero, List.set_cons_succ]
    refine wpAnyH_ready (rs := [3]) (by kernel_rfl) (by simp) ?_
    refine AllReadyH.cons (o := ?_) (by simp only [List.getElem?_toArray, List.getElem?_cons_succ, List.getElem?_cons_zero]; rfl) (fun K hK => ?_) (AllReadyH.nil)
    go_simp
    have hq := hHeld
    (with_reducible refine (HRB.out _ hq.1).mono ?_)
    rintro e wb ⟨vb, rfl, hob, hb⟩
    obtain ⟨Ab, cb, rfl, _, _, hrb⟩ := Reads.of_grown_own hob
    have stb := reads_string (P := Try.prog) 30 9 5 Try.underlying30 Try.underlying5 Try.underlying9 (c := cb) hrb
    rw [HQ.out] at stb
    refine hK.out _ _ ?_ (fun hHeld => ?_)
    · ((try dsimp only); exact ⟨keep_below hq.1 hb, keep_cell hb hq.2⟩)
    clear hK K
    try simp only [Act.put, List.setIfInBounds_toArray, List.set_cons_zero, List.set_cons_succ]
    clear hq hb hob hrb
    refine wpAnyH_ready (rs := [4]) (by kernel_rfl) (by simp) ?_
    refine AllReadyH.cons (o := ?_) (by simp only [List.getElem?_toArray, List.getElem?_cons_succ, List.getElem?_cons_zero]; rfl) (fun K hK => ?_) (AllReadyH.nil)
    go_simp
    refine hK.out _ _ ?_ (fun hHeld => ?_)
    · ((try dsimp only); exact hHeld)
    clear hK K
    try simp only [Act.put, List.setIfInBounds_toArray, List.set_cons_zero, List.set_cons_succ]
    refine wpAnyH_take (i := 5) (oi := ?_) (v := ?_) (by simp only [List.getElem?_toArray, List.getElem?_cons_succ, List.getElem?_cons_zero]; rfl) (by kernel_rfl) (by kernel_rfl) (by kernel_rfl) (fun _ _ _ h => h) (Or.inl ⟨by rfl, ?_⟩) (by with_reducible assumption) ?_
    rotate_left
    focus ((intro w hSw; (try dsimp only at hSw); go_simp); (try with_reducible rfl))
    try simp only [Act.put, List.setIfInBounds_toArray, List.set_cons_zero, List.set_cons_succ]
    refine wpAnyH_take (i := 6) (oi := ?_) (v := ?_) (by simp only [List.getElem?_toArray, List.getElem?_cons_succ, List.getElem?_cons_zero]; rfl) (by kernel_rfl) (by kernel_rfl) (by kernel_rfl) (fun _ _ _ h => h) (Or.inl ⟨by rfl, ?_⟩) (by with_reducible assumption) ?_
    rotate_left
    focus ((intro w hSw; (try dsimp only at hSw); go_simp); (try with_reducible rfl))
    try simp only [Act.put, List.setIfInBounds_toArray, List.set_cons_zero, List.set_cons_succ]
    refine wpAnyH_take (i := 7) (oi := ?_) (v := ?_) (by simp only [List.getElem?_toArray, List.getElem?_cons_succ, List.getElem?_cons_zero]; rfl) (by kernel_rfl) (by kernel_rfl) (by kernel_rfl) (fun _ _ _ h => h) (Or.inl ⟨by rfl, ?_⟩) (by with_reducible assumption) ?_
    rotate_left
    focus ((intro w hSw; (try dsimp only at hSw); go_simp); (try with_reducible rfl))
    try simp only [Act.put, List.setIfInBounds_toArray, List.set_cons_zero, List.set_cons_succ]
    refine wpAnyH_take (i := 9) (oi := ?_) (v := ?_) (by simp only [List.getElem?_toArray, List.getElem?_cons_succ, List.getElem?_cons_zero]; rfl) (by kernel_rfl) (by kernel_rfl) (by kernel_rfl) (fun _ _ _ h => h) (Or.inl ⟨by rfl, ?_⟩) (by with_reducible assumption) ?_
    rotate_left
    focus ((intro w hSw; (try dsimp only at hSw); go_simp); (try with_reducible rfl))
    try simp only [Act.put, List.setIfInBounds_toArray, List.set_cons_zero, List.set_cons_succ]
    refine wpAnyH_take (i := 10) (oi := ?_) (v := ?_) (by simp only [List.getElem?_toArray, List.getElem?_cons_succ, List.getElem?_cons_zero]; rfl) (by kernel_rfl) (by kernel_rfl) (by kernel_rfl) (fun _ _ _ h => h) (Or.inl ⟨by rfl, ?_⟩) (by with_reducible assumption) ?_
    rotate_left
    focus ((intro w hSw; (try dsimp only at hSw); go_simp); (try with_reducible rfl))
    try simp only [Act.put, List.setIfInBounds_toArray, List.set_cons_zero, List.set_cons_succ]
    refine wpAnyH_ready (rs := [8]) (by kernel_rfl) (by simp) ?_
    refine AllReadyH.cons (o := ?_) (by simp only [List.getElem?_toArray, List.getElem?_cons_succ, List.getElem?_cons_zero]; rfl) (fun K hK => ?_) (AllReadyH.nil)
    go_simp
    have hq := hHeld
    (with_reducible refine (HSI.out _ hq.1).mono ?_)
    rintro e wt ⟨rfl, hb⟩
    refine hK.out _ _ ?_ (fun hHeld => ?_)
    · ((try dsimp only); exact ⟨keep_below hq.1 hb, keep_cell hb hq.2⟩)
    clear hK K
    try simp only [Act.put, List.setIfInBounds_toArray, List.set_cons_zero, List.set_cons_succ]
    clear hq hb
    refine wpAnyH_take (i := 11) (oi := ?_) (v := ?_) (by simp only [List.getElem?_toArray, List.getElem?_cons_succ, List.getElem?_cons_zero]; rfl) (by kernel_rfl) (by kernel_rfl) (by kernel_rfl) (fun _ _ _ h => h) (Or.inl ⟨by rfl, ?_⟩) (by with_reducible assumption) ?_
    rotate_left
    focus ((intro w hSw; (try dsimp only at hSw); go_simp); (try with_reducible rfl))
    try simp only [Act.put, List.setIfInBounds_toArray, List.set_cons_zero, List.set_cons_succ]
    refine wpAnyH_take (i := 12) (oi := ?_) (v := ?_) (by simp only [List.getElem?_toArray, List.getElem?_cons_succ, List.getElem?_cons_zero]; rfl) (by kernel_rfl) (by kernel_rfl) (by kernel_rfl) (fun _ _ _ h => h) (Or.inl ⟨by rfl, ?_⟩) (by with_reducible assumption) ?_
    rotate_left
    focus ((intro w hSw; (try dsimp only at hSw); go_simp); (try with_reducible rfl))
    try simp only [Act.put, List.setIfInBounds_toArray, List.set_cons_zero, List.set_cons_succ]
    refine wpAnyH_take (i := 13) (oi := ?_) (v := ?_) (by simp only [List.getElem?_toArray, List.getElem?_cons_succ, List.getElem?_cons_zero]; rfl) (by kernel_rfl) (by kernel_rfl) (by kernel_rfl) (fun _ _ _ h => h) (Or.inl ⟨by rfl, ?_⟩) (by with_reducible assumption) ?_
    rotate_left
    focus ((intro w hSw; (try dsimp only at hSw); go_simp); (try with_reducible rfl))
    try simp only [Act.put, List.setIfInBounds_toArray, List.set_cons_zero, List.set_cons_succ]
    refine wpAnyH_take (i := 14) (oi := ?_) (v := ?_) (by simp only [List.getElem?_toArray, List.getElem?_cons_succ, List.getElem?_cons_zero]; rfl) (by kernel_rfl) (by kernel_rfl) (by kernel_rfl) (fun _ _ _ h => h) (Or.inl ⟨by rfl, ?_⟩) (by with_reducible assumption) ?_
    rotate_left
    focus ((intro w hSw; (try dsimp only at hSw); go_simp); (try with_reducible rfl))
    try simp only [Act.put, List.setIfInBounds_toArray, List.set_cons_zero, List.set_cons_succ]
    refine wpAnyH_take (i := 16) (oi := ?_) (v := ?_) (by simp only [List.getElem?_toArray, List.getElem?_cons_succ, List.getElem?_cons_zero]; rfl) (by kernel_rfl) (by kernel_rfl) (by kernel_rfl) (fun _ _ _ h => h) (Or.inl ⟨by rfl, ?_⟩) (by with_reducible assumption) ?_
    rotate_left
    focus ((intro w hSw; (try dsimp only at hSw); go_simp); (try with_reducible rfl))
    try simp only [Act.put, List.setIfInBounds_toArray, List.set_cons_zero, List.set_cons_succ]
    refine wpAnyH_ready (rs := [15]) (by kernel_rfl) (by simp) ?_
    refine AllReadyH.cons (o := ?_) (by simp only [List.getElem?_toArray, List.getElem?_cons_succ, List.getElem?_cons_zero]; rfl) (fun K hK => ?_) (AllReadyH.nil)
    go_simp
    have hq := hHeld
    (with_reducible refine (HTX.out _ hq.1).mono ?_)
    rintro e wu ⟨rfl, hb⟩
    refine hK.out _ _ ?_ (fun hHeld => ?_)
    · ((try dsimp only); exact ⟨keep_below hq.1 hb, keep_cell hb hq.2⟩)
    clear hK K
    try simp only [Act.put, List.setIfInBounds_toArray, List.set_cons_zero, List.set_cons_succ]
    clear hq hb
    refine wpAnyH_ready (rs := [17]) (by kernel_rfl) (by simp) ?_
    refine AllReadyH.cons (o := ?_) (by simp only [List.getElem?_toArray, List.getElem?_cons_succ, List.getElem?_cons_zero]; rfl) (fun K hK => ?_) (AllReadyH.nil)
    go_simp
    have hq := hHeld
    (with_reducible refine (HRT.out _ hq.1).mono ?_)
    rintro e wv ⟨rfl, hb⟩
    refine hK.out _ _ ?_ (fun hHeld => ?_)
    · ((try dsimp only); exact ⟨keep_below hq.1 hb, keep_cell hb hq.2⟩)
    clear hK K
    try simp only [Act.put, List.setIfInBounds_toArray, List.set_cons_zero, List.set_cons_succ]
    clear hq hb
    refine wpAnyH_take (i := 18) (oi := ?_) (v := ?_) (by simp only [List.getElem?_toArray, List.getElem?_cons_succ, List.getElem?_cons_zero]; rfl) (by kernel_rfl) (by kernel_rfl) (by kernel_rfl) (fun _ _ _ h => h) (Or.inl ⟨by rfl, ?_⟩) (by with_reducible assumption) ?_
    rotate_left
    focus ((intro w hSw; (try dsimp only at hSw); go_simp); (try with_reducible rfl))
    try simp only [Act.put, List.setIfInBounds_toArray, List.set_cons_zero, List.set_cons_succ]
    refine wpAnyH_take (i := 19) (oi := ?_) (v := ?_) (by simp only [List.getElem?_toArray, List.getElem?_cons_succ, List.getElem?_cons_zero]; rfl) (by kernel_rfl) (by kernel_rfl) (by kernel_rfl) (fun _ _ _ h => h) (Or.inl ⟨by rfl, ?_⟩) (by with_reducible assumption) ?_
    rotate_left
    focus ((intro w hSw; (try dsimp only at hSw); go_simp); (try with_reducible rfl))
    try simp only [Act.put, List.setIfInBounds_toArray, List.set_cons_zero, List.set_cons_succ]
    refine wpAnyH_take (i := 20) (oi := ?_) (v := ?_) (by simp only [List.getElem?_toArray, List.getElem?_cons_succ, List.getElem?_cons_zero]; rfl) (by kernel_rfl) (by kernel_rfl) (by kernel_rfl) (fun _ _ _ h => h) (Or.inl ⟨by rfl, ?_⟩) (by with_reducible assumption) ?_
    rotate_left
    focus ((intro w hSw; (try dsimp only at hSw); go_simp); (try with_reducible rfl))
    try simp only [Act.put, List.setIfInBounds_toArray, List.set_cons_zero, List.set_cons_succ]
    refine wpAnyH_done (by kernel_rfl) ?_ _
    refine NoPanic.normal ?_
    have hfin := keep_below HBW.out hHeld.1
    go_wp2
    go_ret
    exact ⟨by first | rfl | simp, hfin⟩
  · have j1 : decide ((n0 : Int) > 60) = true := by simp; omega
    have j2 : decide ((60 : Int) < (n0 : Int)) = true := by simp; omega
    go_wp2
    go_ret
    exact ⟨by first | rfl | simp, hB⟩
end Go.Proofs.Ytnnhcicdildfaaa
