/-
  The walk of the law DigitsOrder. Conditions: the words that came in are words, at most 1048576 of each; digits' functions do as DigitsC says.
-/
import Derived.Test.YtnnhcicdildfaaaRows
import Derived.Test.YtnnhcicdildfaaaW6Awake
import Derived.WalkKit
import Derived.Lib.Hide
import Derived.Outline
import Derived.IntWalk
import Derived.Deep.RegionHeld3
import Derived.Deep.RegionLaw
namespace Go.Proofs.Ytnnhcicdildfaaa
open Go Go.RowKit
set_option maxRecDepth 100000
set_option linter.unusedVariables false
set_option linter.unusedSimpArgs false
/-- How two strings lie to each other, as the law asks it. -/
structure StrOrd (s t : ByteArray) (S T : Nat) (z : Int) : Prop where
  lens : s.size = S
  lent : t.size = T
  lt : z = -1 → S < T ∨ S = T ∧ Op.bytesLess s.toList t.toList = true
  eq : z = 0 → S = T ∧ Op.bytesLess s.toList t.toList = false
  gt : z = 1 → T < S ∨ S = T ∧ Op.bytesLess s.toList t.toList = false
  same : (s.toList == t.toList) = decide (z = 0)
theorem strOrd_of {x y : Nat} {u v : List UInt8} {z : Int} (hlt : z = -1 → x < y) (heq : z = 0 → x = y) (hgt : z = 1 → y < x) (hz : z = -1 ∨ z = 0 ∨ z = 1) (ho : decide (x < y) = (decide (u.length < v.length) || (decide (u.length = v.length) && Op.bytesLess u v))) (hi : u = v ↔ x = y) : StrOrd (strS u) (strS v) u.length v.length z := by
  have e1 : (strS u).toList = u := by rw [ByteArray.toList_eq]; rfl
  have e2 : (strS v).toList = v := by rw [ByteArray.toList_eq]; rfl
  refine ⟨strS_size u, strS_size v, fun h => ?_, fun h => ?_, fun h => ?_, ?_⟩
  · rw [e1, e2]
    have hx := hlt h
    rw [decide_eq_true hx] at ho
    have ho := ho.symm
    simp only [Bool.or_eq_true, Bool.and_eq_true, decide_eq_true_eq] at ho
    exact ho
  · rw [e1, e2]
    have hx := heq h
    have huv := hi.2 hx
    subst huv
    rw [decide_eq_false (by omega)] at ho
    have ho := ho.symm
    simp only [Bool.or_eq_false_iff, decide_true, Bool.true_and] at ho
    exact ⟨rfl, ho.2⟩
  · rw [e1, e2]
    have hx := hgt h
    rw [decide_eq_false (by omega)] at ho
    have ho := ho.symm
    rw [Bool.or_eq_false_iff, Bool.and_eq_false_iff] at ho
    obtain ⟨h1, h2⟩ := ho
    have h1 := of_decide_eq_false h1
    rcases h2 with h2 | h2
    · have h2 := of_decide_eq_false h2
      exact .inl (by omega)
    · rcases Nat.lt_or_ge v.length u.length with h3 | h3
      · exact .inl h3
      · exact .inr ⟨by omega, h2⟩
  · rw [e1, e2]
    by_cases h : u = v
    · have hz0 : z = 0 := by
        rcases hz with h' | h' | h'
        · have := hlt h'; have := hi.1 h; omega
        · exact h'
        · have := hgt h'; have := hi.1 h; omega
      rw [h, hz0, beq_self_eq_true]; rfl
    · have hz0 : z ≠ 0 := fun h' => h (hi.2 (heq h'))
      rw [beq_eq_false_iff_ne.2 h, decide_eq_false hz0]
theorem strL_S (x : Nat) : strL (bytesL x) = strS (bytesS x) := by
  rw [← strS_of (strL (bytesL x)), bytes_ch]
set_option maxHeartbeats 8000000 in
theorem digitsOrder_core {T : World → Prop} (hTb : ∀ w w', T w → Below w.heap.size w w' → T w') (DC : DigitsC T) (A0 : Option Addr) (n0 c0 : Nat) (l0 : List Nat) (A1 : Option Addr) (n1 c1 : Nat) (l1 : List Nat) (w : World) (h0 : ArgWords w A0 n0 c0 l0) (h1 : ArgWords w A1 n1 c1 l1) (hT : T w) :
    Calls Try.prog 6 #[.slice A0 n0 c0, .slice A1 n1 c1] w fun e w' => e = .returned (.bool true) ∧ Below w.heap.size w w' := by
  have HDC := Lib.hid DC
  have HT := Lib.hid (fun w' (h : Below w.heap.size w w') => hTb w w' hT h)
  have HAW := Lib.hid (law6_awake hTb DC w hT)
  have O0 := arg_of h0
  have S0 := arg_sz h0
  have O1 := arg_of h1
  have S1 := arg_sz h1
  obtain ⟨x, hx0⟩ : ∃ v, dv 18446744073709551616 l0 = v := ⟨_, rfl⟩
  rw [hx0] at O0 S0
  obtain ⟨y, hx1⟩ : ∃ v, dv 18446744073709551616 l1 = v := ⟨_, rfl⟩
  rw [hx1] at O1 S1
  have HO0 := Lib.hid O0
  have HO1 := Lib.hid O1
  have HS0 := Lib.hid S0
  have HS1 := Lib.hid S1
  have HCM := Lib.hid (fun (w' : World) (A2 A3 : Option Addr) (n2 n3 c2 c3 : Nat) (h2 : WordsIn w' x A2 n2 c2) (h3 : WordsIn w' y A3 n3 c3) (l2 : n2 ≤ 16777216) (l3 : n3 ≤ 16777216) => nat_cmp x y A2 A3 n2 n3 c2 c3 w' h2 h3 (by omega) (by omega))
  obtain ⟨z, hz⟩ : ∃ z, cmpI x y = z := ⟨_, rfl⟩
  rw [hz] at HCM
  have hz1 : z = -1 ∨ z = 0 ∨ z = 1 := by
    rw [← hz]
    rcases Nat.lt_trichotomy x y with h | h | h
    · exact .inl (cmpI_lt h)
    · exact .inr (.inl (cmpI_eq h))
    · exact .inr (.inr (cmpI_gt h))
  have hlt : z = -1 → x < y := fun h => by
    rcases Nat.lt_trichotomy x y with h' | h' | h'
    · exact h'
    · rw [cmpI_eq h'] at hz; omega
    · rw [cmpI_gt h'] at hz; omega
  have heq : z = 0 → x = y := fun h => by
    rcases Nat.lt_trichotomy x y with h' | h' | h'
    · rw [cmpI_lt h'] at hz; omega
    · exact h'
    · rw [cmpI_gt h'] at hz; omega
  have hgt : z = 1 → y < x := fun h => by
    rcases Nat.lt_trichotomy x y with h' | h' | h'
    · rw [cmpI_lt h'] at hz; omega
    · rw [cmpI_eq h'] at hz; omega
    · exact h'
  have T1 := strOrd_of hlt heq hgt hz1 (text_order x y) (text_inj x y)
  have T2 := strOrd_of hlt heq hgt hz1 (bytes_order x y) (bytes_inj x y)
  rw [← strL_S, ← strL_S] at T2
  obtain ⟨s1, e1⟩ : ∃ s, strS (textS x) = s := ⟨_, rfl⟩
  obtain ⟨s2, e2⟩ : ∃ s, strS (textS y) = s := ⟨_, rfl⟩
  obtain ⟨s3, e3⟩ : ∃ s, strL (bytesL x) = s := ⟨_, rfl⟩
  obtain ⟨s4, e4⟩ : ∃ s, strL (bytesL y) = s := ⟨_, rfl⟩
  rw [e1, e2] at T1
  rw [e3, e4] at T2
  obtain ⟨L1, hL1⟩ : ∃ n, (textS x).length = n := ⟨_, rfl⟩
  obtain ⟨L2, hL2⟩ : ∃ n, (textS y).length = n := ⟨_, rfl⟩
  obtain ⟨L3, hL3⟩ : ∃ n, (bytesS x).length = n := ⟨_, rfl⟩
  obtain ⟨L4, hL4⟩ : ∃ n, (bytesS y).length = n := ⟨_, rfl⟩
  rw [hL1, hL2] at T1
  rw [hL3, hL4] at T2
  have E1 := Lib.hid e1
  have E2 := Lib.hid e2
  have E3 := Lib.hid e3
  have E4 := Lib.hid e4
  have HT1 := Lib.hid T1
  have HT2 := Lib.hid T2
  clear DC hTb hT O0 S0 h0 hx0 O1 S1 h1 hx1 hz hlt heq hgt T1 T2 e1 e2 e3 e4 hL1 hL2 hL3 hL4
  go_enter Try.func6, Try.ntmps6
  go_wp2_with fail
  refine HAW.out.mono ?_
  rintro e w1 ⟨rfl, hb⟩
  have hB := hb
  clear hb
  go_wp2_with fail
  refine (HO0.out _ hB).mono ?_
  rintro e w2 ⟨A2, n2, c2, rfl, hw2, hb, _⟩
  have hB := keep_below hB hb
  clear hb
  go_wp2_with fail
  refine (HO1.out _ hB).mono ?_
  rintro e w3 ⟨A3, n3, c3, rfl, hw3, hb, _⟩
  have hB := keep_below hB hb
  have hw2 := hw2.below hb
  have l2 : n2 ≤ 16777216 := by have := Sz.words HS0.out hw2; omega
  have l3 : n3 ≤ 16777216 := by have := Sz.words HS1.out hw3; omega
  clear hb
  obtain ⟨b1, b2, b3, b5⟩ := box2 w3 25 25 #[.slice A2 n2 c2] #[.slice A3 n3 c3]
  have hB := keep_below hB b1
  have hw2 := hw2.below b1
  have hw3 := hw3.below b1
  have g2 := b2.cell 0
  have g3 := b3.cell 0
  simp only [List.getElem?_toArray, List.getElem?_cons_zero] at g2 g3
  clear b1 b2 b3 b5
  go_wp2_with fail
  generalize (w3.alloc (.cells #[.slice A2 n2 c2] 25)).alloc (.cells #[.slice A3 n3 c3] 25) = W at *
  generalize w3.heap.size = p at *
  have TX := Lib.hid (fun w' (h : Below W.heap.size W w') => HDC.out.text x A2 n2 c2 w' (HT.out _ (keep_below hB h)) (hw2.below h) l2)
  have TY := Lib.hid (fun w' (h : Below W.heap.size W w') => HDC.out.text y A3 n3 c3 w' (HT.out _ (keep_below hB h)) (hw3.below h) l3)
  have BX := Lib.hid (fun w' (h : Below W.heap.size W w') => HDC.out.bytes x A2 n2 c2 w' (HT.out _ (keep_below hB h)) (hw2.below h) l2)
  have BY := Lib.hid (fun w' (h : Below W.heap.size W w') => HDC.out.bytes y A3 n3 c3 w' (HT.out _ (keep_below hB h)) (hw3.below h) l3)
  rw [E1.out] at TX
  rw [E2.out] at TY
  have hb0 : Below W.heap.size W W.drew := (Below.refl _ W).drew
  have q2 : W.drew.cell? ⟨p, 0, none⟩ = some (.slice A2 n2 c2) := g2
  have q3 : W.drew.cell? ⟨p + 1, 0, none⟩ = some (.slice A3 n3 c3) := g3
  go_region_held3 (fun w' => Below W.heap.size W w' ∧ w'.cell? ⟨p, 0, none⟩ = some (.slice A2 n2 c2) ∧ w'.cell? ⟨p + 1, 0, none⟩ = some (.slice A3 n3 c3))
    (first | (exact ⟨hb0, q2, q3⟩) | (go_split_ands; (repeat' apply And.intro); all_goals (first | with_reducible assumption | exact keep_below (by with_reducible assumption) hb | exact keep_cell hb (by with_reducible assumption))))
    (first
      | (go_at_call 15; (with_reducible refine (TX.out _ (by first | with_reducible assumption | exact And.left (by with_reducible assumption))).mono ?_); rintro e w4 ⟨rfl, hb⟩)
      | (go_at_call 15; (with_reducible refine (TY.out _ (by first | with_reducible assumption | exact And.left (by with_reducible assumption))).mono ?_); rintro e w4 ⟨rfl, hb⟩))
  rename_i hH
  obtain ⟨hb4, q2, q3⟩ := hH
  clear hb0 TX TY hb
  have hb4 := hb4.drew
  have r2 : w4.drew.cell? ⟨p, 0, none⟩ = some (.slice A2 n2 c2) := q2
  have r3 : w4.drew.cell? ⟨p + 1, 0, none⟩ = some (.slice A3 n3 c3) := q3
  go_wp2_with fail
  refine wp_region_noPanic ?_
  refine wp_region_held_drew (S := (fun w' => Below W.heap.size W w' ∧ w'.cell? ⟨p, 0, none⟩ = some (.slice A2 n2 c2) ∧ w'.cell? ⟨p + 1, 0, none⟩ = some (.slice A3 n3 c3))) (by kernel_rfl) ?_ (fun hHeld => ?_)
  · exact ⟨hb4, r2, r3⟩
  refine wpAnyH_take (i := 0) (oi := ?_) (v := ?_) (by simp only [List.getElem?_toArray, List.getElem?_cons_succ, List.getElem?_cons_zero]; rfl) (by kernel_rfl) (by kernel_rfl) (by kernel_rfl) (fun _ _ _ h => h) (Or.inl ⟨by rfl, ?_⟩) (by with_reducible assumption) ?_
  rotate_left
  focus ((intro w hSw; (try dsimp only at hSw); go_simp); (try with_reducible rfl))
  try simp only [Act.put, List.setIfInBounds_toArray, List.set_cons_zero, List.set_cons_succ]
  refine wpAnyH_take (i := 3) (oi := ?_) (v := ?_) (by simp only [List.getElem?_toArray, List.getElem?_cons_succ, List.getElem?_cons_zero]; rfl) (by kernel_rfl) (by kernel_rfl) (by kernel_rfl) (fun _ _ _ h => h) (Or.inl ⟨by rfl, ?_⟩) (by with_reducible assumption) ?_
  rotate_left
  focus ((intro w hSw; (try dsimp only at hSw); go_simp); (try with_reducible rfl))
  try simp only [Act.put, List.setIfInBounds_toArray, List.set_cons_zero, List.set_cons_succ]
  refine wpAnyH_ready (rs := [1]) (by kernel_rfl) (by simp) ?_
  refine AllReadyH.cons (o := ?_) (by simp only [List.getElem?_toArray, List.getElem?_cons_succ, List.getElem?_cons_zero]; rfl) (fun K hK => ?_) (AllReadyH.nil)
  go_simp
  (with_reducible refine (BX.out _ hb4).mono ?_)
  rintro e w5 ⟨v5, rfl, ho5, hb5⟩
  obtain ⟨A5, c5, rfl, _, _, hr5⟩ := Reads.of_grown_own ho5
  have st5 := reads_string (P := Try.prog) 30 9 5 Try.underlying30 Try.underlying5 Try.underlying9 (c := c5) hr5
  rw [E3.out] at st5
  have p2 := keep_cell hb5 r2
  have p3 := keep_cell hb5 r3
  have hb5 := keep_below hb4 hb5
  refine hK.out _ _ ?_ (fun hHeld => ?_)
  · ((try dsimp only); exact ⟨hb5, p2, p3⟩)
  clear hK K
  try simp only [Act.put, List.setIfInBounds_toArray, List.set_cons_zero, List.set_cons_succ]
  refine wpAnyH_ready (rs := [2, 4]) (by kernel_rfl) (by simp) ?_
  refine AllReadyH.cons (o := ?_) (by simp only [List.getElem?_toArray, List.getElem?_cons_succ, List.getElem?_cons_zero]; rfl) (fun K hK => ?_) (AllReadyH.cons (o := ?_) (by simp only [List.getElem?_toArray, List.getElem?_cons_succ, List.getElem?_cons_zero]; rfl) (fun K hK => ?_) (AllReadyH.nil))
  · go_simp
    refine hK.out _ _ ?_ (fun hHeld => ?_)
    · ((try dsimp only); exact hHeld)
    clear hK K
    try simp only [Act.put, List.setIfInBounds_toArray, List.set_cons_zero, List.set_cons_succ]
    refine wpAnyH_ready (rs := [4]) (by kernel_rfl) (by simp) ?_
    refine AllReadyH.cons (o := ?_) (by simp only [List.getElem?_toArray, List.getElem?_cons_succ, List.getElem?_cons_zero]; rfl) (fun K hK => ?_) (AllReadyH.nil)
    go_simp
    (with_reducible refine (BY.out _ hb5).mono ?_)
    rintro e w6 ⟨v6, rfl, ho6, hb6⟩
    obtain ⟨A6, c6, rfl, _, _, hr6⟩ := Reads.of_grown_own ho6
    have st6 := reads_string (P := Try.prog) 30 9 5 Try.underlying30 Try.underlying5 Try.underlying9 (c := c6) hr6
    rw [E4.out] at st6
    have p2' := keep_cell hb6 p2
    have p3' := keep_cell hb6 p3
    have hb6 := keep_below hb5 hb6
    refine hK.out _ _ ?_ (fun hHeld => ?_)
    · ((try dsimp only); exact ⟨hb6, p2', p3'⟩)
    clear hK K
    try simp only [Act.put, List.setIfInBounds_toArray, List.set_cons_zero, List.set_cons_succ]
    refine wpAnyH_take (i := 6) (oi := ?_) (v := ?_) (by simp only [List.getElem?_toArray, List.getElem?_cons_succ, List.getElem?_cons_zero]; rfl) (by kernel_rfl) (by kernel_rfl) (by kernel_rfl) (fun _ _ _ h => h) (Or.inl ⟨by rfl, ?_⟩) (by with_reducible assumption) ?_
    rotate_left
    focus ((intro w hSw; (try dsimp only at hSw); go_simp); (try with_reducible rfl))
    try simp only [Act.put, List.setIfInBounds_toArray, List.set_cons_zero, List.set_cons_succ]
    refine wpAnyH_ready (rs := [5]) (by kernel_rfl) (by simp) ?_
    refine AllReadyH.cons (o := ?_) (by simp only [List.getElem?_toArray, List.getElem?_cons_succ, List.getElem?_cons_zero]; rfl) (fun K hK => ?_) (AllReadyH.nil)
    go_simp
    refine hK.out _ _ ?_ (fun hHeld => ?_)
    · ((try dsimp only); exact hHeld)
    clear hK K
    try simp only [Act.put, List.setIfInBounds_toArray, List.set_cons_zero, List.set_cons_succ]
    refine wpAnyH_take (i := 7) (oi := ?_) (v := ?_) (by simp only [List.getElem?_toArray, List.getElem?_cons_succ, List.getElem?_cons_zero]; rfl) (by kernel_rfl) (by kernel_rfl) (by kernel_rfl) (fun _ _ _ h => h) (Or.inl ⟨by rfl, ?_⟩) (by with_reducible assumption) ?_
    rotate_left
    focus ((intro w hSw; (try dsimp only at hSw); go_simp); (try with_reducible rfl))
    try simp only [Act.put, List.setIfInBounds_toArray, List.set_cons_zero, List.set_cons_succ]
    refine wpAnyH_done (by kernel_rfl) ?_ _
    refine NoPanic.normal ?_
    clear HS0 HS1 HO0 HO1 HAW HDC HT E1 E2 E3 E4 st5 st6 ho5 ho6 hr5 hr6 p2 p3 r2 r3 hb4 hb5 BX BY hHeld
    have hw2 := hw2.below hb6
    have hw3 := hw3.below hb6
    have hB := keep_below hB hb6
    go_wp2_with fail
    refine (HCM.out _ A2 A3 n2 n3 c2 c3 hw2 hw3 l2 l3).mono ?_
    rintro e w7 ⟨rfl, hb⟩
    have hB := keep_below hB hb
    clear hb hw2 hw3 p2' p3' hb6
    have k1 := HT1.out.lens
    have k2 := HT1.out.lent
    have k3 := HT2.out.lens
    have k4 := HT2.out.lent
    have m1 := HT1.out.same
    have m2 := HT2.out.same
    rcases hz1 with rfl | rfl | rfl
    · rw [show decide ((-1 : Int) = 0) = false from by decide] at m1 m2
      rcases HT1.out.lt rfl with a | ⟨rfl, a⟩ <;> rcases HT2.out.lt rfl with b | ⟨rfl, b⟩
      all_goals
        go_wp2
        go_ret
        exact ⟨by first | rfl | simp, hB⟩
    · rw [show decide ((0 : Int) = 0) = true from by decide] at m1 m2
      obtain ⟨rfl, a⟩ := HT1.out.eq rfl
      obtain ⟨rfl, b⟩ := HT2.out.eq rfl
      go_wp2
      go_ret
      exact ⟨by first | rfl | simp, hB⟩
    · rw [show decide ((1 : Int) = 0) = false from by decide] at m1 m2
      rcases HT1.out.gt rfl with a | ⟨rfl, a⟩ <;> rcases HT2.out.gt rfl with b | ⟨rfl, b⟩
      · have a1 : ¬ L1 < L2 := by omega
        have a2 : ¬ L1 = L2 := by omega
        have b1 : ¬ L3 < L4 := by omega
        have b2 : ¬ L3 = L4 := by omega
        go_wp2
        go_ret
        exact ⟨by first | rfl | simp, hB⟩
      · have a1 : ¬ L1 < L2 := by omega
        have a2 : ¬ L1 = L2 := by omega
        go_wp2
        go_ret
        exact ⟨by first | rfl | simp, hB⟩
      · have b1 : ¬ L3 < L4 := by omega
        have b2 : ¬ L3 = L4 := by omega
        go_wp2
        go_ret
        exact ⟨by first | rfl | simp, hB⟩
      · go_wp2
        go_ret
        exact ⟨by first | rfl | simp, hB⟩
  · go_simp
    (with_reducible refine (BY.out _ hb5).mono ?_)
    rintro e w6 ⟨v6, rfl, ho6, hb6⟩
    obtain ⟨A6, c6, rfl, _, _, hr6⟩ := Reads.of_grown_own ho6
    have st6 := reads_string (P := Try.prog) 30 9 5 Try.underlying30 Try.underlying5 Try.underlying9 (c := c6) hr6
    rw [E4.out] at st6
    have st5 := reads_string (P := Try.prog) 30 9 5 Try.underlying30 Try.underlying5 Try.underlying9 (c := c5) (hr5.below hb6)
    rw [E3.out] at st5
    have p2' := keep_cell hb6 p2
    have p3' := keep_cell hb6 p3
    have hb6 := keep_below hb5 hb6
    refine hK.out _ _ ?_ (fun hHeld => ?_)
    · ((try dsimp only); exact ⟨hb6, p2', p3'⟩)
    clear hK K
    try simp only [Act.put, List.setIfInBounds_toArray, List.set_cons_zero, List.set_cons_succ]
    refine wpAnyH_ready (rs := [2, 5]) (by kernel_rfl) (by simp) ?_
    refine AllReadyH.cons (o := ?_) (by simp only [List.getElem?_toArray, List.getElem?_cons_succ, List.getElem?_cons_zero]; rfl) (fun K hK => ?_) (AllReadyH.cons (o := ?_) (by simp only [List.getElem?_toArray, List.getElem?_cons_succ, List.getElem?_cons_zero]; rfl) (fun K hK => ?_) (AllReadyH.nil))
    · go_simp
      refine hK.out _ _ ?_ (fun hHeld => ?_)
      · ((try dsimp only); exact hHeld)
      clear hK K
      try simp only [Act.put, List.setIfInBounds_toArray, List.set_cons_zero, List.set_cons_succ]
      refine wpAnyH_take (i := 6) (oi := ?_) (v := ?_) (by simp only [List.getElem?_toArray, List.getElem?_cons_succ, List.getElem?_cons_zero]; rfl) (by kernel_rfl) (by kernel_rfl) (by kernel_rfl) (fun _ _ _ h => h) (Or.inl ⟨by rfl, ?_⟩) (by with_reducible assumption) ?_
      rotate_left
      focus ((intro w hSw; (try dsimp only at hSw); go_simp); (try with_reducible rfl))
      try simp only [Act.put, List.setIfInBounds_toArray, List.set_cons_zero, List.set_cons_succ]
      refine wpAnyH_ready (rs := [5]) (by kernel_rfl) (by simp) ?_
      refine AllReadyH.cons (o := ?_) (by simp only [List.getElem?_toArray, List.getElem?_cons_succ, List.getElem?_cons_zero]; rfl) (fun K hK => ?_) (AllReadyH.nil)
      go_simp
      refine hK.out _ _ ?_ (fun hHeld => ?_)
      · ((try dsimp only); exact hHeld)
      clear hK K
      try simp only [Act.put, List.setIfInBounds_toArray, List.set_cons_zero, List.set_cons_succ]
      refine wpAnyH_take (i := 7) (oi := ?_) (v := ?_) (by simp only [List.getElem?_toArray, List.getElem?_cons_succ, List.getElem?_cons_zero]; rfl) (by kernel_rfl) (by kernel_rfl) (by kernel_rfl) (fun _ _ _ h => h) (Or.inl ⟨by rfl, ?_⟩) (by with_reducible assumption) ?_
      rotate_left
      focus ((intro w hSw; (try dsimp only at hSw); go_simp); (try with_reducible rfl))
      try simp only [Act.put, List.setIfInBounds_toArray, List.set_cons_zero, List.set_cons_succ]
      refine wpAnyH_done (by kernel_rfl) ?_ _
      refine NoPanic.normal ?_
      clear HS0 HS1 HO0 HO1 HAW HDC HT E1 E2 E3 E4 st5 st6 ho5 ho6 hr5 hr6 p2 p3 r2 r3 hb4 hb5 BX BY hHeld
      have hw2 := hw2.below hb6
      have hw3 := hw3.below hb6
      have hB := keep_below hB hb6
      go_wp2_with fail
      refine (HCM.out _ A2 A3 n2 n3 c2 c3 hw2 hw3 l2 l3).mono ?_
      rintro e w7 ⟨rfl, hb⟩
      have hB := keep_below hB hb
      clear hb hw2 hw3 p2' p3' hb6
      have k1 := HT1.out.lens
      have k2 := HT1.out.lent
      have k3 := HT2.out.lens
      have k4 := HT2.out.lent
      have m1 := HT1.out.same
      have m2 := HT2.out.same
      rcases hz1 with rfl | rfl | rfl
      · rw [show decide ((-1 : Int) = 0) = false from by decide] at m1 m2
        rcases HT1.out.lt rfl with a | ⟨rfl, a⟩ <;> rcases HT2.out.lt rfl with b | ⟨rfl, b⟩
        all_goals
          go_wp2
          go_ret
          exact ⟨by first | rfl | simp, hB⟩
      · rw [show decide ((0 : Int) = 0) = true from by decide] at m1 m2
        obtain ⟨rfl, a⟩ := HT1.out.eq rfl
        obtain ⟨rfl, b⟩ := HT2.out.eq rfl
        go_wp2
        go_ret
        exact ⟨by first | rfl | simp, hB⟩
      · rw [show decide ((1 : Int) = 0) = false from by decide] at m1 m2
        rcases HT1.out.gt rfl with a | ⟨rfl, a⟩ <;> rcases HT2.out.gt rfl with b | ⟨rfl, b⟩
        · have a1 : ¬ L1 < L2 := by omega
          have a2 : ¬ L1 = L2 := by omega
          have b1 : ¬ L3 < L4 := by omega
          have b2 : ¬ L3 = L4 := by omega
          go_wp2
          go_ret
          exact ⟨by first | rfl | simp, hB⟩
        · have a1 : ¬ L1 < L2 := by omega
          have a2 : ¬ L1 = L2 := by omega
          go_wp2
          go_ret
          exact ⟨by first | rfl | simp, hB⟩
        · have b1 : ¬ L3 < L4 := by omega
          have b2 : ¬ L3 = L4 := by omega
          go_wp2
          go_ret
          exact ⟨by first | rfl | simp, hB⟩
        · go_wp2
          go_ret
          exact ⟨by first | rfl | simp, hB⟩
    · go_simp
      refine hK.out _ _ ?_ (fun hHeld => ?_)
      · ((try dsimp only); exact hHeld)
      clear hK K
      try simp only [Act.put, List.setIfInBounds_toArray, List.set_cons_zero, List.set_cons_succ]
      refine wpAnyH_ready (rs := [2]) (by kernel_rfl) (by simp) ?_
      refine AllReadyH.cons (o := ?_) (by simp only [List.getElem?_toArray, List.getElem?_cons_succ, List.getElem?_cons_zero]; rfl) (fun K hK => ?_) (AllReadyH.nil)
      go_simp
      refine hK.out _ _ ?_ (fun hHeld => ?_)
      · ((try dsimp only); exact hHeld)
      clear hK K
      try simp only [Act.put, List.setIfInBounds_toArray, List.set_cons_zero, List.set_cons_succ]
      refine wpAnyH_take (i := 6) (oi := ?_) (v := ?_) (by simp only [List.getElem?_toArray, List.getElem?_cons_succ, List.getElem?_cons_zero]; rfl) (by kernel_rfl) (by kernel_rfl) (by kernel_rfl) (fun _ _ _ h => h) (Or.inl ⟨by rfl, ?_⟩) (by with_reducible assumption) ?_
      rotate_left
      focus ((intro w hSw; (try dsimp only at hSw); go_simp); (try with_reducible rfl))
      try simp only [Act.put, List.setIfInBounds_toArray, List.set_cons_zero, List.set_cons_succ]
      refine wpAnyH_take (i := 7) (oi := ?_) (v := ?_) (by simp only [List.getElem?_toArray, List.getElem?_cons_succ, List.getElem?_cons_zero]; rfl) (by kernel_rfl) (by kernel_rfl) (by kernel_rfl) (fun _ _ _ h => h) (Or.inl ⟨by rfl, ?_⟩) (by with_reducible assumption) ?_
      rotate_left
      focus ((intro w hSw; (try dsimp only at hSw); go_simp); (try with_reducible rfl))
      try simp only [Act.put, List.setIfInBounds_toArray, List.set_cons_zero, List.set_cons_succ]
      refine wpAnyH_done (by kernel_rfl) ?_ _
      refine NoPanic.normal ?_
      clear HS0 HS1 HO0 HO1 HAW HDC HT E1 E2 E3 E4 st5 st6 ho5 ho6 hr5 hr6 p2 p3 r2 r3 hb4 hb5 BX BY hHeld
      have hw2 := hw2.below hb6
      have hw3 := hw3.below hb6
      have hB := keep_below hB hb6
      go_wp2_with fail
      refine (HCM.out _ A2 A3 n2 n3 c2 c3 hw2 hw3 l2 l3).mono ?_
      rintro e w7 ⟨rfl, hb⟩
      have hB := keep_below hB hb
      clear hb hw2 hw3 p2' p3' hb6
      have k1 := HT1.out.lens
      have k2 := HT1.out.lent
      have k3 := HT2.out.lens
      have k4 := HT2.out.lent
      have m1 := HT1.out.same
      have m2 := HT2.out.same
      rcases hz1 with rfl | rfl | rfl
      · rw [show decide ((-1 : Int) = 0) = false from by decide] at m1 m2
        rcases HT1.out.lt rfl with a | ⟨rfl, a⟩ <;> rcases HT2.out.lt rfl with b | ⟨rfl, b⟩
        all_goals
          go_wp2
          go_ret
          exact ⟨by first | rfl | simp, hB⟩
      · rw [show decide ((0 : Int) = 0) = true from by decide] at m1 m2
        obtain ⟨rfl, a⟩ := HT1.out.eq rfl
        obtain ⟨rfl, b⟩ := HT2.out.eq rfl
        go_wp2
        go_ret
        exact ⟨by first | rfl | simp, hB⟩
      · rw [show decide ((1 : Int) = 0) = false from by decide] at m1 m2
        rcases HT1.out.gt rfl with a | ⟨rfl, a⟩ <;> rcases HT2.out.gt rfl with b | ⟨rfl, b⟩
        · have a1 : ¬ L1 < L2 := by omega
          have a2 : ¬ L1 = L2 := by omega
          have b1 : ¬ L3 < L4 := by omega
          have b2 : ¬ L3 = L4 := by omega
          go_wp2
          go_ret
          exact ⟨by first | rfl | simp, hB⟩
        · have a1 : ¬ L1 < L2 := by omega
          have a2 : ¬ L1 = L2 := by omega
          go_wp2
          go_ret
          exact ⟨by first | rfl | simp, hB⟩
        · have b1 : ¬ L3 < L4 := by omega
          have b2 : ¬ L3 = L4 := by omega
          go_wp2
          go_ret
          exact ⟨by first | rfl | simp, hB⟩
        · go_wp2
          go_ret
          exact ⟨by first | rfl | simp, hB⟩
end Go.Proofs.Ytnnhcicdildfaaa
