/-
  The contracts of strings.CutPrefix for a sign, of integer's Text and Read. Conditions: a number of up to 2 to the 30 words; a text of up to 2 to the 31 bytes.
  The contract of integer's Div. Conditions: the values are numbers of up to 2 to the 37 words.
  What the laws on whole numbers lean on of package integer, shown of the developers' functions. Conditions: as IntC says.
-/
import Derived.Test.YtnfednkphcapnaaRows
import Derived.Test.YtnfednkphcapnaaBun7
import Derived.Test.YtnfednkphcapnaaBun6b
import Derived.Test.YtnfednkphcapnaaBunY
import Derived.Test.YtnfednkphcapnaaBunB
import Derived.WalkKit
import Derived.Lib.Hide
import Derived.Outline
import Derived.Deep.RegionHeld3
import Derived.IntWalk
import Derived.Laws.Concat
namespace Go.Proofs.Ytnfednkphcapnaa
open Go Go.RowKit
set_option maxRecDepth 100000
set_option linter.unusedVariables false
set_option linter.unusedSimpArgs false
theorem neg_take (L : List UInt8) : ((strS (L.take 1)).toList == [45]) = negI L := str_lit _ _ _ (by
  rw [strS_data]; unfold negI
  cases L with
  | nil => rfl
  | cons a t => simp)
set_option maxHeartbeats 2000000 in
theorem prefix_minus (L : List UInt8) (w : World) (hS : L.length ≤ 2147483648) :
    Calls Try.prog 100 #[.string (strS L), .string { data := #[45] }] w fun e w' => e = .returned (.bool (negI L)) ∧ w = w' := by
  have hsz : (strS L).size = L.length := strS_size L
  have t1 := neg_take L
  have s1 : 1 ≤ L.length → ∀ w, (Instr.slice 9 (.string (strS L)) none (some (.int .i64 (1 : Int))) none).run Try.prog w = .ok (.string (strS (L.take 1))) w := fun h => str_to Try.underlying9 L 1 h
  have hn : L.length = 0 → negI L = false := fun h => by rw [List.eq_nil_of_length_eq_zero h]; rfl
  have m1 : ({ data := #[45] } : ByteArray).size = 1 := rfl
  obtain ⟨S, hS2⟩ : ∃ S, L.length = S := ⟨_, rfl⟩
  rw [hS2] at hsz s1 hn hS
  obtain ⟨U, hU⟩ : ∃ u, strS L = u := ⟨_, rfl⟩
  obtain ⟨V, hV⟩ : ∃ u, strS (L.take 1) = u := ⟨_, rfl⟩
  obtain ⟨p, hp⟩ : ∃ p, negI L = p := ⟨_, rfl⟩
  rw [hU] at hsz s1 ⊢
  rw [hV] at s1 t1
  rw [hp] at t1 hn ⊢
  clear hS2 hU hV hp
  by_cases h0 : S = 0
  · rw [hn h0]
    subst h0
    have i1 : ¬ (1 : Int) ≤ ((0 : Nat) : Int) := by omega
    clear s1 t1 hn
    go_enter Try.func100, Try.ntmps100
    go_wp2
    go_ret
    exact ⟨rfl, rfl⟩
  · have i1 : (1 : Int) ≤ (S : Int) := by omega
    have s2 := s1 (by omega)
    clear s1 hn h0
    go_enter Try.func100, Try.ntmps100
    go_wp2
    go_ret
    exact ⟨rfl, rfl⟩
set_option maxHeartbeats 2000000 in
theorem cut_lite (L : List UInt8) (w : World) (hS : L.length ≤ 2147483648) :
    Calls Try.prog 81 #[.string (strS L), .string { data := #[45] }] w fun e w' => e = .returned (.tuple #[.string (strS (bodyI L)), .bool (negI L)]) ∧ w = w' := by
  have HP := Lib.hid (fun w' => prefix_minus L w' hS)
  have m1 : ({ data := #[45] } : ByteArray).size = 1 := rfl
  have hsz : (strS L).size = L.length := strS_size L
  cases hp : negI L
  · have hb : bodyI L = L := by
      unfold bodyI
      unfold negI at hp
      rw [if_neg (of_decide_eq_false hp)]
    rw [hp] at HP
    rw [hb]
    obtain ⟨U, hU⟩ : ∃ u, strS L = u := ⟨_, rfl⟩
    rw [hU] at HP ⊢
    clear hp hb hU hsz
    go_enter Try.func81, Try.ntmps81
    go_wp2_with fail
    refine (HP.out _).mono ?_
    rintro e w1 ⟨rfl, rfl⟩
    go_wp2
    go_ret2
    exact ⟨rfl, rfl⟩
  · have hb : bodyI L = L.drop 1 := by
      unfold bodyI
      unfold negI at hp
      rw [if_pos (of_decide_eq_true hp)]
    have hl : 1 ≤ L.length := by
      cases L with
      | nil => cases hp
      | cons a t => simp
    have s1 : ∀ w, (Instr.slice 9 (.string (strS L)) (some (.int .i64 (1 : Int))) none none).run Try.prog w = .ok (.string (strS (L.drop 1))) w := str_from Try.underlying9 L 1 hl
    rw [hp] at HP
    rw [hb]
    obtain ⟨U, hU⟩ : ∃ u, strS L = u := ⟨_, rfl⟩
    obtain ⟨V, hV⟩ : ∃ u, strS (L.drop 1) = u := ⟨_, rfl⟩
    rw [hU] at HP s1 ⊢
    rw [hV] at s1 ⊢
    clear hp hb hU hV hl hsz
    go_enter Try.func81, Try.ntmps81
    go_wp2_with fail
    refine (HP.out _).mono ?_
    rintro e w1 ⟨rfl, rfl⟩
    go_wp2
    go_ret2
    exact ⟨rfl, rfl⟩
theorem cut_minus (L : List UInt8) (w : World) (hS : L.length ≤ 2147483648) :
    Calls Try.prog 57 #[.string (strS L), .string { data := #[45] }] w fun e w' => e = .returned (.tuple #[.string (strS (bodyI L)), .bool (negI L)]) ∧ w = w' := by
  have HP := Lib.hid (fun w' => cut_lite L w' hS)
  obtain ⟨U, hU⟩ : ∃ u, strS L = u := ⟨_, rfl⟩
  obtain ⟨V, hV⟩ : ∃ u, strS (bodyI L) = u := ⟨_, rfl⟩
  obtain ⟨p, hp⟩ : ∃ p, negI L = p := ⟨_, rfl⟩
  rw [hU, hV, hp] at HP
  rw [hU, hV, hp]
  clear hU hV hp
  go_enter Try.func57, Try.ntmps57
  go_wp2_with fail
  refine (HP.out _).mono ?_
  rintro e w1 ⟨rfl, rfl⟩
  go_wp2
  go_ret2
  exact ⟨rfl, rfl⟩
theorem minus_text {x : Int} (h : x < 0) : ({ data := #[45] } : ByteArray) ++ strS (textS x.natAbs) = strS (textI x) := by
  unfold textI; rw [if_pos h]
  apply ByteArray.ext
  rw [ByteArray.data_append]
  simp [strS]
theorem plus_text {x : Int} (h : ¬ x < 0) : strS (textS x.natAbs) = strS (textI x) := by unfold textI; rw [if_neg h]
set_option maxHeartbeats 4000000 in
theorem integer_text (z : Int) (b : Bool) (A : Option Addr) (n c : Nat) (w : World) (hA : IntIn w z b A n c) (hn : n ≤ 1073741824) :
    Calls Try.prog 30 #[.agg #[.bool b, .slice A n c]] w fun e w' => e = .returned (.string (strS (textI z))) ∧ Below w.heap.size w w' := by
  obtain ⟨hB, b2, b5⟩ := box1 w 29 #[.bool b, .slice A n c]
  have HT := Lib.hid (digits_text z.natAbs A n c _ (hA.2.below hB) hn)
  have hsz : Sz n z.natAbs := by
    unfold Sz
    have h := dg_lt (b := 18446744073709551616) (by decide) z.natAbs
    rwa [hA.2.len] at h
  have hts := text_small hsz
  have hbz := hA.1
  have g0 : (w.alloc (.cells #[.bool b, .slice A n c] 29)).cell? ⟨w.heap.size, 0, none⟩ = some (.bool b) := b2.cell 0
  clear hA hsz b2 b5
  obtain ⟨U, hU⟩ : ∃ u, strS (textS z.natAbs) = u := ⟨_, rfl⟩
  have hus : U.size ≤ 2147483648 * 64 := by rw [← hU, strS_size]; omega
  cases b
  · have e := plus_text (x := z) (by simpa using hbz)
    rw [hU] at e HT
    rw [← e]
    clear hU hts hbz e
    go_enter Try.func30, Try.ntmps30
    go_wp2_with fail
    refine HT.out.mono ?_
    rintro e w1 ⟨rfl, hb⟩
    have hB1 := keep_below hB hb
    have g0 := keep_cell hb g0
    clear hb hB HT
    go_wp2
    go_ret
    exact ⟨rfl, hB1⟩
  · have e := minus_text (x := z) (by simpa using hbz)
    rw [hU] at e HT
    rw [← e]
    obtain ⟨V, hV⟩ : ∃ u, ({ data := #[45] } : ByteArray) ++ U = u := ⟨_, rfl⟩
    have HVM := Lib.hid (fun w' : World => (show (Op.stringOp .add ({ data := #[45] } : ByteArray) U).run Try.prog w' = .ok (.string V) w' by
      rw [run_string_add_sum w' _ _ (by have : ({ data := #[45] } : ByteArray).size = 1 := rfl; omega), hV]))
    rw [hV]
    clear hU hts hbz e hV
    go_enter Try.func30, Try.ntmps30
    go_wp2_with fail
    refine HT.out.mono ?_
    rintro e w1 ⟨rfl, hb⟩
    have hB1 := keep_below hB hb
    have g0 := keep_cell hb g0
    have s1 := fun w' => HVM.out w'
    clear hb hB HT HVM hus
    go_wp2
    go_ret
    exact ⟨rfl, hB1⟩
theorem body_len (L : List UInt8) : (bodyI L).length ≤ L.length := by
  unfold bodyI
  split
  · simp
  · exact Nat.le_refl _
theorem val_sgn (L : List UInt8) : valI L = sgnI (negI L) (valR (bodyI L)) := rfl
theorem ok_low (L : List UInt8) : okI L = (okR (bodyI L) && !(negI L && decide (valR (bodyI L) = 0))) := rfl
theorem read_done {w W : World} {g : Nat} {z : Int} {t b : Bool} {A : Option Addr} {n c : Nat} (hg : w.heap.size ≤ g) (hk : Blk W g 29 #[.bool false, .slice none 0 0]) (hi : IntIn W z b A n c) (hB : Below w.heap.size w W) :
    GivesIB w z t (.returned (.tuple #[.agg #[.bool b, .slice A n c], .bool t])) ((W.setCell ⟨g, 0, none⟩ (.bool b)).setCell ⟨g, 1, none⟩ (.slice A n c)) :=
  ⟨b, A, n, c, rfl, int_set2 hi hk b A n c, keep_below_set (p := ⟨g, 1, none⟩) _ hg (keep_below_set (p := ⟨g, 0, none⟩) _ hg hB)⟩
theorem int_null (w : World) : IntIn w 0 false none 0 0 := ⟨rfl, words_zero w⟩
set_option maxHeartbeats 8000000 in
theorem integer_read (s : ByteArray) (w : World) (hs : s.size ≤ 2147483648) :
    Calls Try.prog 29 #[.string s] w (GivesIB w (if okI s.data.toList then valI s.data.toList else 0) (okI s.data.toList)) := by
  obtain ⟨hB, k2, b5⟩ := box1 w 29 #[.bool false, .slice none 0 0]
  obtain ⟨L, rfl⟩ : ∃ L, s = strS L := ⟨_, (strS_of s).symm⟩
  rw [strS_data]
  rw [strS_size] at hs
  have HCP := Lib.hid (fun w' => cut_minus L w' hs)
  have HRD : Hid (∀ w', Calls Try.prog 58 #[.string (strS (bodyI L))] w' (GivesNB w' (if okR (bodyI L) then valR (bodyI L) else 0) (okR (bodyI L)))) := fun w' => digits_read (strS (bodyI L)) w' (by rw [strS_size]; exact Nat.le_trans (body_len L) hs)
  rw [val_sgn, ok_low]
  obtain ⟨U, hU⟩ : ∃ u, strS L = u := ⟨_, rfl⟩
  obtain ⟨V, hV⟩ : ∃ u, strS (bodyI L) = u := ⟨_, rfl⟩
  obtain ⟨p, hp⟩ : ∃ u, negI L = u := ⟨_, rfl⟩
  obtain ⟨ok, ho⟩ : ∃ u, okR (bodyI L) = u := ⟨_, rfl⟩
  obtain ⟨x, hx⟩ : ∃ u, valR (bodyI L) = u := ⟨_, rfl⟩
  rw [hU, hV, hp] at HCP
  rw [hV, ho, hx] at HRD
  rw [hU, hp, ho, hx]
  clear hU hV hp ho hx hs
  have hcase : (ok = false) ∨ (ok = true ∧ p = false) ∨ (ok = true ∧ p = true ∧ x = 0) ∨ (ok = true ∧ p = true ∧ x ≠ 0) := by
    cases ok <;> cases p <;> simp <;> omega
  rcases hcase with rfl | ⟨rfl, rfl⟩ | ⟨rfl, rfl, hx⟩ | ⟨rfl, rfl, hx⟩
  · skip
    rw [show (if (false && !(p && decide (x = 0))) = true then sgnI p x else 0) = 0 from rfl, Bool.false_and]
    rw [if_neg (by simp)] at HRD
    go_enter Try.func29, Try.ntmps29
    go_wp2_with fail
    generalize w.alloc (.cells #[.bool false, .slice none 0 0] 29) = W0 at *
    clear b5
    refine (HCP.out _).mono ?_
    rintro e w1 ⟨rfl, rfl⟩
    go_wp2_with fail
    refine (HRD.out _).mono ?_
    rintro e w2 ⟨A2, n2, c2, rfl, hw2, hb⟩
    have hB2 := keep_below hB hb
    have k2 := keep_blk hb k2
    clear hb HRD HCP hB
    obtain ⟨d1, d2, d5⟩ := box1 w2 27 #[.slice A2 n2 c2]
    have hB3 := keep_below hB2 d1
    have k3 := keep_blk d1 k2
    have hw3 := hw2.below d1
    have g3 : (w2.alloc (.cells #[.slice A2 n2 c2] 27)).cell? ⟨w2.heap.size, 0, none⟩ = some (.slice A2 n2 c2) := d2.cell 0
    clear hB2 k2 d1 d2 d5 hw2
    have hk9 := (k3.set_ 0 (.bool false)).set_ 1 (.slice none 0 0)
    have r0 := hk9.cell 0
    have r1 := hk9.cell 1
    have c0 := k3.cell 0
    have f0 := k3.frozen 0
    have c1 : ((w2.alloc (.cells #[.slice A2 n2 c2] 27)).setCell ⟨w.heap.size, 0, none⟩ (.bool false)).cell? ⟨w.heap.size, 1, none⟩ = some (.slice none 0 0) := (k3.set_ 0 (.bool false)).cell 1
    have f1 := (k3.set_ 0 (.bool false)).frozen 1
    have HG : Hid (GivesIB w (0) false (.returned (.tuple #[.agg #[.bool false, .slice none 0 0], .bool false])) (((w2.alloc (.cells #[.slice A2 n2 c2] 27)).setCell ⟨w.heap.size, 0, none⟩ (.bool false)).setCell ⟨w.heap.size, 1, none⟩ (.slice none 0 0))) :=
      read_done (Nat.le_refl _) k3 (int_null _) hB3
    clear hk9 k3 hB3 hw3 
    go_wp2
    refine bodyPost_ret (v := .tuple #[.agg #[.bool false, .slice none 0 0], .bool false]) (by simp [results, Try.results29, go_sem, r0, r1]) rfl ?_
    exact HG.out
  · skip
    rw [show (true && !(false && decide (x = 0))) = true from rfl, if_pos rfl]
    rw [if_pos rfl] at HRD
    go_enter Try.func29, Try.ntmps29
    go_wp2_with fail
    generalize w.alloc (.cells #[.bool false, .slice none 0 0] 29) = W0 at *
    clear b5
    refine (HCP.out _).mono ?_
    rintro e w1 ⟨rfl, rfl⟩
    go_wp2_with fail
    refine (HRD.out _).mono ?_
    rintro e w2 ⟨A2, n2, c2, rfl, hw2, hb⟩
    have hB2 := keep_below hB hb
    have k2 := keep_blk hb k2
    clear hb HRD HCP hB
    obtain ⟨d1, d2, d5⟩ := box1 w2 27 #[.slice A2 n2 c2]
    have hB3 := keep_below hB2 d1
    have k3 := keep_blk d1 k2
    have hw3 := hw2.below d1
    have g3 : (w2.alloc (.cells #[.slice A2 n2 c2] 27)).cell? ⟨w2.heap.size, 0, none⟩ = some (.slice A2 n2 c2) := d2.cell 0
    clear hB2 k2 d1 d2 d5 hw2
    have hi := int_of_nat false hw3
    rw [Bool.false_and] at hi
    have hk9 := (k3.set_ 0 (.bool false)).set_ 1 (.slice A2 n2 c2)
    have r0 := hk9.cell 0
    have r1 := hk9.cell 1
    have c0 := k3.cell 0
    have f0 := k3.frozen 0
    have c1 : ((w2.alloc (.cells #[.slice A2 n2 c2] 27)).setCell ⟨w.heap.size, 0, none⟩ (.bool false)).cell? ⟨w.heap.size, 1, none⟩ = some (.slice none 0 0) := (k3.set_ 0 (.bool false)).cell 1
    have f1 := (k3.set_ 0 (.bool false)).frozen 1
    have HG : Hid (GivesIB w (sgnI false x) true (.returned (.tuple #[.agg #[.bool false, .slice A2 n2 c2], .bool true])) (((w2.alloc (.cells #[.slice A2 n2 c2] 27)).setCell ⟨w.heap.size, 0, none⟩ (.bool false)).setCell ⟨w.heap.size, 1, none⟩ (.slice A2 n2 c2))) :=
      read_done (Nat.le_refl _) k3 (hi) hB3
    clear hk9 k3 hB3 hw3 hi 
    go_wp2
    refine bodyPost_ret (v := .tuple #[.agg #[.bool false, .slice A2 n2 c2], .bool true]) (by simp [results, Try.results29, go_sem, r0, r1]) rfl ?_
    exact HG.out
  · skip
    rw [show (true && !(true && decide (x = 0))) = false from by rw [decide_eq_true hx]; rfl, if_neg (by simp)]
    rw [if_pos rfl] at HRD
    go_enter Try.func29, Try.ntmps29
    go_wp2_with fail
    generalize w.alloc (.cells #[.bool false, .slice none 0 0] 29) = W0 at *
    clear b5
    refine (HCP.out _).mono ?_
    rintro e w1 ⟨rfl, rfl⟩
    go_wp2_with fail
    refine (HRD.out _).mono ?_
    rintro e w2 ⟨A2, n2, c2, rfl, hw2, hb⟩
    have hB2 := keep_below hB hb
    have k2 := keep_blk hb k2
    clear hb HRD HCP hB
    obtain ⟨d1, d2, d5⟩ := box1 w2 27 #[.slice A2 n2 c2]
    have hB3 := keep_below hB2 d1
    have k3 := keep_blk d1 k2
    have hw3 := hw2.below d1
    have g3 : (w2.alloc (.cells #[.slice A2 n2 c2] 27)).cell? ⟨w2.heap.size, 0, none⟩ = some (.slice A2 n2 c2) := d2.cell 0
    clear hB2 k2 d1 d2 d5 hw2
    have HZ := Lib.hid (zero_yes hx hw3)
    go_wp2_with fail
    refine HZ.out.mono ?_
    rintro e w4 ⟨rfl, hb⟩
    have hB4 := keep_below hB3 hb
    have k4 := keep_blk hb k3
    have hw4 := hw3.below hb
    have g3 := keep_cell hb g3
    clear hb HZ hB3 k3 hw3
    have hk9 := (k4.set_ 0 (.bool false)).set_ 1 (.slice none 0 0)
    have r0 := hk9.cell 0
    have r1 := hk9.cell 1
    have c0 := k4.cell 0
    have f0 := k4.frozen 0
    have c1 : (w4.setCell ⟨w.heap.size, 0, none⟩ (.bool false)).cell? ⟨w.heap.size, 1, none⟩ = some (.slice none 0 0) := (k4.set_ 0 (.bool false)).cell 1
    have f1 := (k4.set_ 0 (.bool false)).frozen 1
    have HG : Hid (GivesIB w (0) false (.returned (.tuple #[.agg #[.bool false, .slice none 0 0], .bool false])) ((w4.setCell ⟨w.heap.size, 0, none⟩ (.bool false)).setCell ⟨w.heap.size, 1, none⟩ (.slice none 0 0))) :=
      read_done (Nat.le_refl _) k4 (int_null _) hB4
    clear hk9 k4 hB4 hw4 hx
    go_wp2
    refine bodyPost_ret (v := .tuple #[.agg #[.bool false, .slice none 0 0], .bool false]) (by simp [results, Try.results29, go_sem, r0, r1]) rfl ?_
    exact HG.out
  · skip
    rw [show (true && !(true && decide (x = 0))) = true from by rw [decide_eq_false hx]; rfl, if_pos rfl]
    rw [if_pos rfl] at HRD
    go_enter Try.func29, Try.ntmps29
    go_wp2_with fail
    generalize w.alloc (.cells #[.bool false, .slice none 0 0] 29) = W0 at *
    clear b5
    refine (HCP.out _).mono ?_
    rintro e w1 ⟨rfl, rfl⟩
    go_wp2_with fail
    refine (HRD.out _).mono ?_
    rintro e w2 ⟨A2, n2, c2, rfl, hw2, hb⟩
    have hB2 := keep_below hB hb
    have k2 := keep_blk hb k2
    clear hb HRD HCP hB
    obtain ⟨d1, d2, d5⟩ := box1 w2 27 #[.slice A2 n2 c2]
    have hB3 := keep_below hB2 d1
    have k3 := keep_blk d1 k2
    have hw3 := hw2.below d1
    have g3 : (w2.alloc (.cells #[.slice A2 n2 c2] 27)).cell? ⟨w2.heap.size, 0, none⟩ = some (.slice A2 n2 c2) := d2.cell 0
    clear hB2 k2 d1 d2 d5 hw2
    have HZ := Lib.hid (zero_no hx hw3)
    go_wp2_with fail
    refine HZ.out.mono ?_
    rintro e w4 ⟨rfl, hb⟩
    have hB4 := keep_below hB3 hb
    have k4 := keep_blk hb k3
    have hw4 := hw3.below hb
    have g3 := keep_cell hb g3
    clear hb HZ hB3 k3 hw3
    have hi := int_of_nat true hw4
    rw [decide_eq_true hx] at hi
    have hk9 := (k4.set_ 0 (.bool true)).set_ 1 (.slice A2 n2 c2)
    have r0 := hk9.cell 0
    have r1 := hk9.cell 1
    have c0 := k4.cell 0
    have f0 := k4.frozen 0
    have c1 : (w4.setCell ⟨w.heap.size, 0, none⟩ (.bool true)).cell? ⟨w.heap.size, 1, none⟩ = some (.slice none 0 0) := (k4.set_ 0 (.bool true)).cell 1
    have f1 := (k4.set_ 0 (.bool true)).frozen 1
    have HG : Hid (GivesIB w (sgnI true x) true (.returned (.tuple #[.agg #[.bool true, .slice A2 n2 c2], .bool true])) ((w4.setCell ⟨w.heap.size, 0, none⟩ (.bool true)).setCell ⟨w.heap.size, 1, none⟩ (.slice A2 n2 c2))) :=
      read_done (Nat.le_refl _) k4 (hi) hB4
    clear hk9 k4 hB4 hw4 hi hx
    go_wp2
    refine bodyPost_ret (v := .tuple #[.agg #[.bool true, .slice A2 n2 c2], .bool true]) (by simp [results, Try.results29, go_sem, r0, r1]) rfl ?_
    exact HG.out
end Go.Proofs.Ytnfednkphcapnaa
namespace Go.Proofs.Ytnfednkphcapnaa
open Go Go.RowKit
set_option maxRecDepth 100000
set_option linter.unusedVariables false
set_option linter.unusedSimpArgs false
/-- The results, out of their cells. -/
theorem two_far {w W : World} {g h : Nat} {q r : Int} {t b b' : Bool} {A A' : Option Addr} {n n' c c' : Nat} (hne : h ≠ g) (hg : w.heap.size ≤ g) (hh : w.heap.size ≤ h) (hkg : Blk W g 29 #[.bool false, .slice none 0 0]) (hkh : Blk W h 29 #[.bool false, .slice none 0 0]) (h1 : IntIn W q b A n c) (h2 : IntIn W r b' A' n' c') (hB : Below w.heap.size w W) :
    GivesII w q r t (.returned (.tuple #[.agg #[.bool b, .slice A n c], .agg #[.bool b', .slice A' n' c'], .bool t])) ((((W.setCell ⟨g, 0, none⟩ (.bool b)).setCell ⟨g, 1, none⟩ (.slice A n c)).setCell ⟨h, 0, none⟩ (.bool b')).setCell ⟨h, 1, none⟩ (.slice A' n' c')) := by
  have hk2 : Blk ((W.setCell ⟨g, 0, none⟩ (.bool b)).setCell ⟨g, 1, none⟩ (.slice A n c)) h 29 #[.bool false, .slice none 0 0] := Blk.far (p := ⟨g, 1, none⟩) (Blk.far (p := ⟨g, 0, none⟩) hkh hne (.bool b)) hne (.slice A n c)
  exact ⟨b, A, n, c, b', A', n', c', rfl, int_set2 (int_set2 h1 hkg b A n c) hk2 b' A' n' c', int_set2 (int_set2 h2 hkg b A n c) hk2 b' A' n' c', keep_below_set (p := ⟨h, 1, none⟩) _ hh (keep_below_set (p := ⟨h, 0, none⟩) _ hh (keep_below_set (p := ⟨g, 1, none⟩) _ hg (keep_below_set (p := ⟨g, 0, none⟩) _ hg hB)))⟩
/-- What the walk asks of the cells of both results. -/
theorem two_cells {W : World} {g h : Nat} (b b' : Bool) (A A' : Option Addr) (n n' c c' : Nat) (hne : h ≠ g) (hkg : Blk W g 29 #[.bool false, .slice none 0 0]) (hkh : Blk W h 29 #[.bool false, .slice none 0 0]) :
    (W.cell? ⟨g, 0, none⟩ = some (.bool false) ∧ W.frozen? ⟨g, 0, none⟩ = false ∧ (W.setCell ⟨g, 0, none⟩ (.bool b)).cell? ⟨g, 1, none⟩ = some (.slice none 0 0) ∧ (W.setCell ⟨g, 0, none⟩ (.bool b)).frozen? ⟨g, 1, none⟩ = false) ∧
    (((W.setCell ⟨g, 0, none⟩ (.bool b)).setCell ⟨g, 1, none⟩ (.slice A n c)).cell? ⟨h, 0, none⟩ = some (.bool false) ∧ ((W.setCell ⟨g, 0, none⟩ (.bool b)).setCell ⟨g, 1, none⟩ (.slice A n c)).frozen? ⟨h, 0, none⟩ = false ∧ (((W.setCell ⟨g, 0, none⟩ (.bool b)).setCell ⟨g, 1, none⟩ (.slice A n c)).setCell ⟨h, 0, none⟩ (.bool b')).cell? ⟨h, 1, none⟩ = some (.slice none 0 0) ∧ (((W.setCell ⟨g, 0, none⟩ (.bool b)).setCell ⟨g, 1, none⟩ (.slice A n c)).setCell ⟨h, 0, none⟩ (.bool b')).frozen? ⟨h, 1, none⟩ = false) ∧
    ((((W.setCell ⟨g, 0, none⟩ (.bool b)).setCell ⟨g, 1, none⟩ (.slice A n c)).setCell ⟨h, 0, none⟩ (.bool b')).setCell ⟨h, 1, none⟩ (.slice A' n' c')).cell? ⟨g, 0, none⟩ = some (.bool b) ∧ ((((W.setCell ⟨g, 0, none⟩ (.bool b)).setCell ⟨g, 1, none⟩ (.slice A n c)).setCell ⟨h, 0, none⟩ (.bool b')).setCell ⟨h, 1, none⟩ (.slice A' n' c')).cell? ⟨g, 1, none⟩ = some (.slice A n c) ∧ ((((W.setCell ⟨g, 0, none⟩ (.bool b)).setCell ⟨g, 1, none⟩ (.slice A n c)).setCell ⟨h, 0, none⟩ (.bool b')).setCell ⟨h, 1, none⟩ (.slice A' n' c')).cell? ⟨h, 0, none⟩ = some (.bool b') ∧ ((((W.setCell ⟨g, 0, none⟩ (.bool b)).setCell ⟨g, 1, none⟩ (.slice A n c)).setCell ⟨h, 0, none⟩ (.bool b')).setCell ⟨h, 1, none⟩ (.slice A' n' c')).cell? ⟨h, 1, none⟩ = some (.slice A' n' c') := by
  have a1 := hkg.set_ 0 (.bool b)
  have a2 := a1.set_ 1 (.slice A n c)
  have k2 : Blk ((W.setCell ⟨g, 0, none⟩ (.bool b)).setCell ⟨g, 1, none⟩ (.slice A n c)) h 29 #[.bool false, .slice none 0 0] := Blk.far (p := ⟨g, 1, none⟩) (Blk.far (p := ⟨g, 0, none⟩) hkh hne (.bool b)) hne (.slice A n c)
  have k3 := k2.set_ 0 (.bool b')
  have k4 := k3.set_ 1 (.slice A' n' c')
  have a4 := Blk.far (p := ⟨h, 1, none⟩) (Blk.far (p := ⟨h, 0, none⟩) a2 (Ne.symm hne) (.bool b')) (Ne.symm hne) (.slice A' n' c')
  exact ⟨⟨hkg.cell 0, hkg.frozen 0, a1.cell 1, a1.frozen 1⟩, ⟨k2.cell 0, k2.frozen 0, k3.cell 1, k3.frozen 1⟩, a4.cell 0, a4.cell 1, k4.cell 0, k4.cell 1⟩
set_option maxHeartbeats 4000000 in
theorem integer_div_no (x y : Int) (b b' : Bool) (A D : Option Addr) (n m c d : Nat) (w : World) (hA : IntIn w x b A n c) (hD : IntIn w y b' D m d) (hn : n ≤ 274877906944) (hm : m ≤ 274877906944) (hy : y = 0) :
    Calls Try.prog 24 #[.agg #[.bool b, .slice A n c], .agg #[.bool b', .slice D m d]] w (GivesII w 0 0 false) := by
  have HDM := Lib.hid (fun w' (h : Below w.heap.size w w') => quot_divmod_no x.natAbs y.natAbs A D n m c d w' (hA.2.below h) (hD.2.below h) (by omega))
  have HNQ : Hid (∀ k, (dg 18446744073709551616 0).length = k → k ≤ 274877906944) := fun k e => by rw [← e, dg_zero]; exact Nat.zero_le _
  clear hA hD hy
  obtain ⟨hB, b2, b3, k4, k5, b6⟩ := box4 w 29 29 29 29 #[.bool b, .slice A n c] #[.bool b', .slice D m d] #[.bool false, .slice none 0 0] #[.bool false, .slice none 0 0]
  go_enter Try.func24, Try.ntmps24
  go_wp2_with fail
  generalize (((w.alloc (.cells #[.bool b, .slice A n c] 29)).alloc (.cells #[.bool b', .slice D m d] 29)).alloc (.cells #[.bool false, .slice none 0 0] 29)).alloc (.cells #[.bool false, .slice none 0 0] 29) = W0 at *
  have g0 : W0.cell? ⟨w.heap.size, 0, none⟩ = some (.bool b) := b2.cell 0
  have g2 : W0.cell? ⟨w.heap.size + 1, 0, none⟩ = some (.bool b') := b3.cell 0
  have g3 : W0.cell? ⟨w.heap.size + 1, 1, none⟩ = some (.slice D m d) := b3.cell 1
  clear b2 b3 b6
  refine (HDM.out _ hB).mono ?_
  rintro e w1 ⟨Aq, nq, cq, Ar, nr, cr, rfl, hwq, hwr, hb⟩
  have hB := keep_below hB hb
  have k4 := keep_blk hb k4
  have k5 := keep_blk hb k5
  have g0 := keep_cell hb g0
  have g2 := keep_cell hb g2
  have g3 := keep_cell hb g3
  have hlq := HNQ.out _ hwq.len
  have hp1 := hB.size
  have hz1 := k5.lt
  clear hb HDM
  obtain ⟨d1, dq, dr, d5⟩ := box2 w1 27 27 #[.slice Aq nq cq] #[.slice Ar nr cr]
  have hB := keep_below hB d1
  have k4 := keep_blk d1 k4
  have k5 := keep_blk d1 k5
  have g0 := keep_cell d1 g0
  have g2 := keep_cell d1 g2
  have g3 := keep_cell d1 g3
  have hwq := hwq.below d1
  have hwr := hwr.below d1
  have gq : ((w1.alloc (.cells #[.slice Aq nq cq] 27)).alloc (.cells #[.slice Ar nr cr] 27)).cell? ⟨w1.heap.size, 0, none⟩ = some (.slice Aq nq cq) := dq.cell 0
  have gr : ((w1.alloc (.cells #[.slice Aq nq cq] 27)).alloc (.cells #[.slice Ar nr cr] 27)).cell? ⟨w1.heap.size + 1, 0, none⟩ = some (.slice Ar nr cr) := dr.cell 0
  clear d1 d5
  clear gq gr dq dr hwq hwr
  obtain ⟨⟨c0, f0, c1, f1⟩, ⟨c2, f2, c3, f3⟩, r0, r1, r2, r3⟩ := two_cells false false none none 0 0 0 0  (show w.heap.size + 1 + 1 + 1 ≠ w.heap.size + 1 + 1 by omega) k4 k5
  have HG := Lib.hid (two_far (w := w) (t := false) (show w.heap.size + 1 + 1 + 1 ≠ w.heap.size + 1 + 1 by omega) (by omega) (by omega) k4 k5 (int_null _) (int_null _) hB)
  clear k4 k5 hB g0 g2 g3
  go_wp2
  refine bodyPost_ret (v := .tuple #[.agg #[.bool false, .slice none 0 0], .agg #[.bool false, .slice none 0 0], .bool false]) (by simp [results, Try.results24, go_sem, r0, r1, r2, r3]) rfl ?_
  exact HG.out
theorem div_same {x y : Int} {b : Bool} {X Y : Nat} (hx : sgnI b X = x) (hy : sgnI b Y = y) (h0 : Y ≠ 0) : qI x y = sgnI false (X / Y) ∧ rI x y = sgnI b (X % Y) := by
  have hdm := Nat.div_add_mod X Y
  have hlt := Nat.mod_lt X (Nat.pos_of_ne_zero h0)
  have hY : y ≠ 0 := by subst hy; unfold sgnI; split <;> omega
  have h := qI_one (x := x) (y := y) (q := sgnI false (X / Y)) (r := sgnI b (X % Y)) hY (by
    subst hx; subst hy
    have e : ((X / Y : Nat) : Int) * (Y : Int) + ((X % Y : Nat) : Int) = (X : Int) := by
      have h1 := congrArg (fun k : Nat => (k : Int)) hdm
      simp only [Int.natCast_add, Int.natCast_mul] at h1
      rw [Int.mul_comm]; exact h1
    generalize X / Y = u at *
    generalize X % Y = v at *
    unfold sgnI
    cases b
    · simpa using e
    · simp only [if_true, Bool.false_eq_true, if_false, Int.mul_neg]; omega) (by
    subst hy
    generalize X % Y = v at *
    unfold sgnI
    cases b <;> simp <;> omega) (by rw [sgnI_abs]; subst hy; rw [sgnI_abs]; exact hlt)
  exact ⟨h.1.symm, h.2.symm⟩
theorem div_other {x y : Int} {b b' : Bool} {X Y : Nat} (hb : b ≠ b') (hx : sgnI b X = x) (hy : sgnI b' Y = y) (h0 : Y ≠ 0) (hr : X % Y = 0) : qI x y = sgnI true (X / Y) ∧ rI x y = sgnI b' (X % Y) := by
  have hdm := Nat.div_add_mod X Y
  have hY : y ≠ 0 := by subst hy; unfold sgnI; split <;> omega
  have h := qI_one (x := x) (y := y) (q := sgnI true (X / Y)) (r := sgnI b' (X % Y)) hY (by
    subst hx; subst hy
    rw [hr] at hdm ⊢
    have e : ((X / Y : Nat) : Int) * (Y : Int) = (X : Int) := by
      have h1 := congrArg (fun k : Nat => (k : Int)) hdm
      simp only [Int.natCast_add, Int.natCast_mul] at h1
      rw [Int.mul_comm]; simpa using h1
    generalize X / Y = u at *
    unfold sgnI
    cases b <;> cases b'
    · exact absurd rfl hb
    · simp only [if_true, Bool.false_eq_true, if_false, Int.neg_mul_neg]; omega
    · simp only [if_true, Bool.false_eq_true, if_false, Int.neg_mul]; omega
    · exact absurd rfl hb) (by rw [hr]; unfold sgnI; left; split <;> rfl) (by rw [sgnI_abs, hr]; subst hy; rw [sgnI_abs]; omega)
  exact ⟨h.1.symm, h.2.symm⟩
theorem div_more {x y : Int} {b b' : Bool} {X Y : Nat} (hb : b ≠ b') (hx : sgnI b X = x) (hy : sgnI b' Y = y) (h0 : Y ≠ 0) (hr : X % Y ≠ 0) : qI x y = sgnI true (X / Y + 1) ∧ rI x y = sgnI b' (Y - X % Y) := by
  have hdm := Nat.div_add_mod X Y
  have hlt := Nat.mod_lt X (Nat.pos_of_ne_zero h0)
  have hY : y ≠ 0 := by subst hy; unfold sgnI; split <;> omega
  have h := qI_one (x := x) (y := y) (q := sgnI true (X / Y + 1)) (r := sgnI b' (Y - X % Y)) hY (by
    subst hx; subst hy
    have e : ((X / Y : Nat) : Int) * (Y : Int) + ((X % Y : Nat) : Int) = (X : Int) := by
      have h1 := congrArg (fun k : Nat => (k : Int)) hdm
      simp only [Int.natCast_add, Int.natCast_mul] at h1
      rw [Int.mul_comm]; exact h1
    generalize X / Y = u at *
    generalize X % Y = v at *
    have e2 : ((u + 1 : Nat) : Int) * (Y : Int) = (u : Int) * (Y : Int) + Y := by rw [Int.natCast_add, Int.add_mul]; simp
    unfold sgnI
    cases b <;> cases b'
    · exact absurd rfl hb
    · simp only [if_true, Bool.false_eq_true, if_false, Int.neg_mul_neg]; omega
    · simp only [if_true, Bool.false_eq_true, if_false, Int.neg_mul]; omega
    · exact absurd rfl hb) (by
    subst hy
    generalize X % Y = v at *
    unfold sgnI
    cases b' <;> simp <;> omega) (by rw [sgnI_abs]; subst hy; rw [sgnI_abs]; omega)
  exact ⟨h.1.symm, h.2.symm⟩
set_option maxHeartbeats 16000000 in
theorem integer_div (x y : Int) (b b' : Bool) (A D : Option Addr) (n m c d : Nat) (w : World) (hA : IntIn w x b A n c) (hD : IntIn w y b' D m d) (hn : n ≤ 274877906944) (hm : m ≤ 274877906944) (hy : y ≠ 0) :
    Calls Try.prog 24 #[.agg #[.bool b, .slice A n c], .agg #[.bool b', .slice D m d]] w (GivesII w (qI x y) (rI x y) true) := by
  have hx1 := sgnI_of x
  have hy1 := sgnI_of y
  rw [← hA.1] at hx1
  rw [← hD.1] at hy1
  have HDM := Lib.hid (fun w' (h : Below w.heap.size w w') => quot_divmod x.natAbs y.natAbs A D n m c d w' (hA.2.below h) (hD.2.below h) hn hm (by omega))
  have HD := Lib.hid (fun w' (h : Below w.heap.size w w') => hD.2.below h)
  have HNQ : Hid (∀ k, (dg 18446744073709551616 (x.natAbs / y.natAbs)).length = k → k ≤ 274877906944) := fun k e => by
    have h1 := dg_len_mono (b := 18446744073709551616) (by decide) (Nat.div_le_self x.natAbs y.natAbs)
    have h2 := hA.2.len
    omega
  have HNR : Hid (∀ k, (dg 18446744073709551616 (x.natAbs % y.natAbs)).length = k → k ≤ 274877906944) := fun k e => by
    have h1 := dg_len_mono (b := 18446744073709551616) (by decide) (Nat.mod_le x.natAbs y.natAbs)
    have h2 := hA.2.len
    omega
  have h0 : y.natAbs ≠ 0 := by omega
  obtain ⟨X, hX⟩ : ∃ X, x.natAbs = X := ⟨_, rfl⟩
  obtain ⟨Y, hY⟩ : ∃ Y, y.natAbs = Y := ⟨_, rfl⟩
  rw [hX] at HDM HNQ HNR hx1
  rw [hY] at HDM HNQ HNR hy1 HD h0
  have HRL : Hid (X % Y < Y) := Nat.mod_lt X (Nat.pos_of_ne_zero h0)
  have HO1 : Hid (∀ w' r, Blk w' r 77 #[.int .u64 1] → Calls Try.prog 38 #[.slice (some ⟨r, 0, none⟩) 1 1] w' (GivesN2 w' 1)) := fun w' r hk => of_lits _ [1] w' r 1 1 hk rfl rfl (dgs1 1 (by decide)) rfl (by decide)
  have hbd := hD.1
  clear hA hX hY
  by_cases hbs : b = b'
  · subst hbs
    have HE := Lib.hid (div_same hx1 hy1 h0)
    clear hx1 hy1 h0 hbd
    cases b
    · skip
      obtain ⟨hB, b2, b3, k4, k5, b6⟩ := box4 w 29 29 29 29 #[.bool false, .slice A n c] #[.bool false, .slice D m d] #[.bool false, .slice none 0 0] #[.bool false, .slice none 0 0]
      go_enter Try.func24, Try.ntmps24
      go_wp2_with fail
      generalize (((w.alloc (.cells #[.bool false, .slice A n c] 29)).alloc (.cells #[.bool false, .slice D m d] 29)).alloc (.cells #[.bool false, .slice none 0 0] 29)).alloc (.cells #[.bool false, .slice none 0 0] 29) = W0 at *
      have g0 : W0.cell? ⟨w.heap.size, 0, none⟩ = some (.bool false) := b2.cell 0
      have g2 : W0.cell? ⟨w.heap.size + 1, 0, none⟩ = some (.bool false) := b3.cell 0
      have g3 : W0.cell? ⟨w.heap.size + 1, 1, none⟩ = some (.slice D m d) := b3.cell 1
      clear b2 b3 b6
      refine (HDM.out _ hB).mono ?_
      rintro e w1 ⟨Aq, nq, cq, Ar, nr, cr, rfl, hwq, hwr, hb⟩
      have hB := keep_below hB hb
      have k4 := keep_blk hb k4
      have k5 := keep_blk hb k5
      have g0 := keep_cell hb g0
      have g2 := keep_cell hb g2
      have g3 := keep_cell hb g3
      have hlq := HNQ.out _ hwq.len
      have hp1 := hB.size
      have hz1 := k5.lt
      clear hb HDM
      obtain ⟨d1, dq, dr, d5⟩ := box2 w1 27 27 #[.slice Aq nq cq] #[.slice Ar nr cr]
      have hB := keep_below hB d1
      have k4 := keep_blk d1 k4
      have k5 := keep_blk d1 k5
      have g0 := keep_cell d1 g0
      have g2 := keep_cell d1 g2
      have g3 := keep_cell d1 g3
      have hwq := hwq.below d1
      have hwr := hwr.below d1
      have gq : ((w1.alloc (.cells #[.slice Aq nq cq] 27)).alloc (.cells #[.slice Ar nr cr] 27)).cell? ⟨w1.heap.size, 0, none⟩ = some (.slice Aq nq cq) := dq.cell 0
      have gr : ((w1.alloc (.cells #[.slice Aq nq cq] 27)).alloc (.cells #[.slice Ar nr cr] 27)).cell? ⟨w1.heap.size + 1, 0, none⟩ = some (.slice Ar nr cr) := dr.cell 0
      clear d1 d5
      clear dq dr g3 HO1 HRL HD HNQ HNR
      go_wp2_with fail
      clear g0
      generalize (w1.alloc (.cells #[.slice Aq nq cq] 27)).alloc (.cells #[.slice Ar nr cr] 27) = W1 at *
      generalize w1.heap.size = p at *
      have hs4 : w.heap.size + 1 + 1 < W1.heap.size := k4.lt
      have hs5 : w.heap.size + 1 + 1 + 1 < W1.heap.size := k5.lt
      have HQS := Lib.hid (fun w' A n c (h : WordsIn w' (X / Y) A n c) => integer_signed false (X / Y) A n c w' h)
      have HRS := Lib.hid (fun w' A n c (h : WordsIn w' (X % Y) A n c) => integer_signed false (X % Y) A n c w' h)
      have HQ1 := Lib.hid (HQS.out W1.drew _ _ _ hwq)
      have HRW : WordsIn W1.drew (X % Y) _ _ _ := hwr
      clear HQS
      have hb0 : Below w.heap.size w W1.drew := hB.drew
      have j0 : W1.drew.cell? ⟨p, 0, none⟩ = _ := gq
      have j1 : W1.drew.cell? ⟨p + 1, 0, none⟩ = _ := gr
      have j2 : W1.drew.cell? ⟨w.heap.size + 1, 0, none⟩ = _ := g2
      have hk40 := k4.drew
      have hk50 := k5.drew
      have hne : w.heap.size + 1 + 1 + 1 ≠ w.heap.size + 1 + 1 := by omega
      go_region_held3 (fun w' => Below w.heap.size w w' ∧ w'.cell? ⟨p, 0, none⟩ = some (.slice Aq nq cq) ∧ w'.cell? ⟨p + 1, 0, none⟩ = some (.slice Ar nr cr) ∧ w'.cell? ⟨w.heap.size + 1, 0, none⟩ = some (.bool false))
        (first | (exact ⟨hb0, j0, j1, j2⟩) | (go_split_ands; (repeat' apply And.intro); all_goals (first | with_reducible assumption | with_reducible exact keep_below (by with_reducible assumption) hb | with_reducible exact keep_cell hb (by with_reducible assumption) | exact keep_below_set _ (by dsimp only; omega) (keep_below_set _ (by dsimp only; omega) (by with_reducible assumption)) | exact keep_cell_set _ (by dsimp only; omega) (keep_cell_set _ (by dsimp only; omega) (by with_reducible assumption)))))
        (first
          | (go_at_call 42; (with_reducible refine HQ1.out.mono ?_); rintro e w6 ⟨b3, A3, n3, c3, rfl, hi3, hb⟩; have HRW := HRW.below hb; have hk41 := keep_blk hb hk40; have hk51 := keep_blk hb hk50)
          | (go_at_call 42; (with_reducible refine (HRS.out _ _ _ _ HRW).mono ?_); rintro e w7 ⟨b5, A5, n5, c5, rfl, hi5, hb⟩; go_split_ands; have hi3 := hi3.below hb; have hk42 := keep_blk hb hk41; have hk52 := keep_blk hb hk51; have hbb : Below w.heap.size w w7 := keep_below (by with_reducible assumption) hb; obtain ⟨⟨u0, v0, u1, v1⟩, ⟨u2, v2, u3, v3⟩, r0, r1, r2, r3⟩ := two_cells b3 b5 A3 A5 n3 n5 c3 c5 hne hk42 hk52))
      have HG := Lib.hid (two_far (w := w) (t := true) hne (by omega) (by omega) hk42 hk52 hi3 hi5 hbb)
      rw [← HE.out.1, ← HE.out.2] at HG
      clear hk42 hk52 hi3 hi5 hbb hb hk41 hk51 hk40 hk50 hb0 HQ1 HRS HRW j0 j1 j2 gq gr g2 k4 k5 hB HE
      go_wp2
      refine bodyPost_ret (v := .tuple #[.agg #[.bool b3, .slice A3 n3 c3], .agg #[.bool b5, .slice A5 n5 c5], .bool true]) (by simp [results, Try.results24, go_sem, r0, r1, r2, r3]) rfl ?_
      exact HG.out
    · skip
      obtain ⟨hB, b2, b3, k4, k5, b6⟩ := box4 w 29 29 29 29 #[.bool true, .slice A n c] #[.bool true, .slice D m d] #[.bool false, .slice none 0 0] #[.bool false, .slice none 0 0]
      go_enter Try.func24, Try.ntmps24
      go_wp2_with fail
      generalize (((w.alloc (.cells #[.bool true, .slice A n c] 29)).alloc (.cells #[.bool true, .slice D m d] 29)).alloc (.cells #[.bool false, .slice none 0 0] 29)).alloc (.cells #[.bool false, .slice none 0 0] 29) = W0 at *
      have g0 : W0.cell? ⟨w.heap.size, 0, none⟩ = some (.bool true) := b2.cell 0
      have g2 : W0.cell? ⟨w.heap.size + 1, 0, none⟩ = some (.bool true) := b3.cell 0
      have g3 : W0.cell? ⟨w.heap.size + 1, 1, none⟩ = some (.slice D m d) := b3.cell 1
      clear b2 b3 b6
      refine (HDM.out _ hB).mono ?_
      rintro e w1 ⟨Aq, nq, cq, Ar, nr, cr, rfl, hwq, hwr, hb⟩
      have hB := keep_below hB hb
      have k4 := keep_blk hb k4
      have k5 := keep_blk hb k5
      have g0 := keep_cell hb g0
      have g2 := keep_cell hb g2
      have g3 := keep_cell hb g3
      have hlq := HNQ.out _ hwq.len
      have hp1 := hB.size
      have hz1 := k5.lt
      clear hb HDM
      obtain ⟨d1, dq, dr, d5⟩ := box2 w1 27 27 #[.slice Aq nq cq] #[.slice Ar nr cr]
      have hB := keep_below hB d1
      have k4 := keep_blk d1 k4
      have k5 := keep_blk d1 k5
      have g0 := keep_cell d1 g0
      have g2 := keep_cell d1 g2
      have g3 := keep_cell d1 g3
      have hwq := hwq.below d1
      have hwr := hwr.below d1
      have gq : ((w1.alloc (.cells #[.slice Aq nq cq] 27)).alloc (.cells #[.slice Ar nr cr] 27)).cell? ⟨w1.heap.size, 0, none⟩ = some (.slice Aq nq cq) := dq.cell 0
      have gr : ((w1.alloc (.cells #[.slice Aq nq cq] 27)).alloc (.cells #[.slice Ar nr cr] 27)).cell? ⟨w1.heap.size + 1, 0, none⟩ = some (.slice Ar nr cr) := dr.cell 0
      clear d1 d5
      clear dq dr g3 HO1 HRL HD HNQ HNR
      go_wp2_with fail
      clear g0
      generalize (w1.alloc (.cells #[.slice Aq nq cq] 27)).alloc (.cells #[.slice Ar nr cr] 27) = W1 at *
      generalize w1.heap.size = p at *
      have hs4 : w.heap.size + 1 + 1 < W1.heap.size := k4.lt
      have hs5 : w.heap.size + 1 + 1 + 1 < W1.heap.size := k5.lt
      have HQS := Lib.hid (fun w' A n c (h : WordsIn w' (X / Y) A n c) => integer_signed false (X / Y) A n c w' h)
      have HRS := Lib.hid (fun w' A n c (h : WordsIn w' (X % Y) A n c) => integer_signed true (X % Y) A n c w' h)
      have HQ1 := Lib.hid (HQS.out W1.drew _ _ _ hwq)
      have HRW : WordsIn W1.drew (X % Y) _ _ _ := hwr
      clear HQS
      have hb0 : Below w.heap.size w W1.drew := hB.drew
      have j0 : W1.drew.cell? ⟨p, 0, none⟩ = _ := gq
      have j1 : W1.drew.cell? ⟨p + 1, 0, none⟩ = _ := gr
      have j2 : W1.drew.cell? ⟨w.heap.size + 1, 0, none⟩ = _ := g2
      have hk40 := k4.drew
      have hk50 := k5.drew
      have hne : w.heap.size + 1 + 1 + 1 ≠ w.heap.size + 1 + 1 := by omega
      go_region_held3 (fun w' => Below w.heap.size w w' ∧ w'.cell? ⟨p, 0, none⟩ = some (.slice Aq nq cq) ∧ w'.cell? ⟨p + 1, 0, none⟩ = some (.slice Ar nr cr) ∧ w'.cell? ⟨w.heap.size + 1, 0, none⟩ = some (.bool true))
        (first | (exact ⟨hb0, j0, j1, j2⟩) | (go_split_ands; (repeat' apply And.intro); all_goals (first | with_reducible assumption | with_reducible exact keep_below (by with_reducible assumption) hb | with_reducible exact keep_cell hb (by with_reducible assumption) | exact keep_below_set _ (by dsimp only; omega) (keep_below_set _ (by dsimp only; omega) (by with_reducible assumption)) | exact keep_cell_set _ (by dsimp only; omega) (keep_cell_set _ (by dsimp only; omega) (by with_reducible assumption)))))
        (first
          | (go_at_call 42; (with_reducible refine HQ1.out.mono ?_); rintro e w6 ⟨b3, A3, n3, c3, rfl, hi3, hb⟩; have HRW := HRW.below hb; have hk41 := keep_blk hb hk40; have hk51 := keep_blk hb hk50)
          | (go_at_call 42; (with_reducible refine (HRS.out _ _ _ _ HRW).mono ?_); rintro e w7 ⟨b5, A5, n5, c5, rfl, hi5, hb⟩; go_split_ands; have hi3 := hi3.below hb; have hk42 := keep_blk hb hk41; have hk52 := keep_blk hb hk51; have hbb : Below w.heap.size w w7 := keep_below (by with_reducible assumption) hb; obtain ⟨⟨u0, v0, u1, v1⟩, ⟨u2, v2, u3, v3⟩, r0, r1, r2, r3⟩ := two_cells b3 b5 A3 A5 n3 n5 c3 c5 hne hk42 hk52))
      have HG := Lib.hid (two_far (w := w) (t := true) hne (by omega) (by omega) hk42 hk52 hi3 hi5 hbb)
      rw [← HE.out.1, ← HE.out.2] at HG
      clear hk42 hk52 hi3 hi5 hbb hb hk41 hk51 hk40 hk50 hb0 HQ1 HRS HRW j0 j1 j2 gq gr g2 k4 k5 hB HE
      go_wp2
      refine bodyPost_ret (v := .tuple #[.agg #[.bool b3, .slice A3 n3 c3], .agg #[.bool b5, .slice A5 n5 c5], .bool true]) (by simp [results, Try.results24, go_sem, r0, r1, r2, r3]) rfl ?_
      exact HG.out
  · have hbv : (b = false ∧ b' = true) ∨ (b = true ∧ b' = false) := by cases b <;> cases b' <;> simp at hbs ⊢
    by_cases hr0 : X % Y = 0
    · have HE := Lib.hid (div_other hbs hx1 hy1 h0 hr0)
      clear hx1 hy1 h0 hbd hbs
      rcases hbv with ⟨rfl, rfl⟩ | ⟨rfl, rfl⟩
      · skip
        obtain ⟨hB, b2, b3, k4, k5, b6⟩ := box4 w 29 29 29 29 #[.bool false, .slice A n c] #[.bool true, .slice D m d] #[.bool false, .slice none 0 0] #[.bool false, .slice none 0 0]
        go_enter Try.func24, Try.ntmps24
        go_wp2_with fail
        generalize (((w.alloc (.cells #[.bool false, .slice A n c] 29)).alloc (.cells #[.bool true, .slice D m d] 29)).alloc (.cells #[.bool false, .slice none 0 0] 29)).alloc (.cells #[.bool false, .slice none 0 0] 29) = W0 at *
        have g0 : W0.cell? ⟨w.heap.size, 0, none⟩ = some (.bool false) := b2.cell 0
        have g2 : W0.cell? ⟨w.heap.size + 1, 0, none⟩ = some (.bool true) := b3.cell 0
        have g3 : W0.cell? ⟨w.heap.size + 1, 1, none⟩ = some (.slice D m d) := b3.cell 1
        clear b2 b3 b6
        refine (HDM.out _ hB).mono ?_
        rintro e w1 ⟨Aq, nq, cq, Ar, nr, cr, rfl, hwq, hwr, hb⟩
        have hB := keep_below hB hb
        have k4 := keep_blk hb k4
        have k5 := keep_blk hb k5
        have g0 := keep_cell hb g0
        have g2 := keep_cell hb g2
        have g3 := keep_cell hb g3
        have hlq := HNQ.out _ hwq.len
        have hp1 := hB.size
        have hz1 := k5.lt
        clear hb HDM
        obtain ⟨d1, dq, dr, d5⟩ := box2 w1 27 27 #[.slice Aq nq cq] #[.slice Ar nr cr]
        have hB := keep_below hB d1
        have k4 := keep_blk d1 k4
        have k5 := keep_blk d1 k5
        have g0 := keep_cell d1 g0
        have g2 := keep_cell d1 g2
        have g3 := keep_cell d1 g3
        have hwq := hwq.below d1
        have hwr := hwr.below d1
        have gq : ((w1.alloc (.cells #[.slice Aq nq cq] 27)).alloc (.cells #[.slice Ar nr cr] 27)).cell? ⟨w1.heap.size, 0, none⟩ = some (.slice Aq nq cq) := dq.cell 0
        have gr : ((w1.alloc (.cells #[.slice Aq nq cq] 27)).alloc (.cells #[.slice Ar nr cr] 27)).cell? ⟨w1.heap.size + 1, 0, none⟩ = some (.slice Ar nr cr) := dr.cell 0
        clear d1 d5
        have HZ := Lib.hid (zero_yes hr0 hwr)
        go_wp2_with fail
        refine HZ.out.mono ?_
        rintro e w2 ⟨rfl, hb⟩
        have hB := keep_below hB hb
        have k4 := keep_blk hb k4
        have k5 := keep_blk hb k5
        have g2 := keep_cell hb g2
        have g3 := keep_cell hb g3
        have gq := keep_cell hb gq
        have gr := keep_cell hb gr
        have dq := keep_blk hb dq
        have dr := keep_blk hb dr
        have hwq := hwq.below hb
        have hwr := hwr.below hb
        clear hb HZ g0
        generalize w1.heap.size = p at *
        clear dq dr g3 HO1 HRL HD HNQ HNR hr0
        go_wp2_with fail
        have hs4 : w.heap.size + 1 + 1 < w2.heap.size := k4.lt
        have hs5 : w.heap.size + 1 + 1 + 1 < w2.heap.size := k5.lt
        obtain ⟨W1, hW1⟩ : ∃ x, x = w2 := ⟨_, rfl⟩
        subst hW1
        have HQS := Lib.hid (fun w' A n c (h : WordsIn w' (X / Y) A n c) => integer_signed true (X / Y) A n c w' h)
        have HRS := Lib.hid (fun w' A n c (h : WordsIn w' (X % Y) A n c) => integer_signed true (X % Y) A n c w' h)
        have HQ1 := Lib.hid (HQS.out W1.drew _ _ _ hwq)
        have HRW : WordsIn W1.drew (X % Y) _ _ _ := hwr
        clear HQS
        have hb0 : Below w.heap.size w W1.drew := hB.drew
        have j0 : W1.drew.cell? ⟨p, 0, none⟩ = _ := gq
        have j1 : W1.drew.cell? ⟨p + 1, 0, none⟩ = _ := gr
        have j2 : W1.drew.cell? ⟨w.heap.size + 1, 0, none⟩ = _ := g2
        have hk40 := k4.drew
        have hk50 := k5.drew
        have hne : w.heap.size + 1 + 1 + 1 ≠ w.heap.size + 1 + 1 := by omega
        go_region_held3 (fun w' => Below w.heap.size w w' ∧ w'.cell? ⟨p, 0, none⟩ = some (.slice Aq nq cq) ∧ w'.cell? ⟨p + 1, 0, none⟩ = some (.slice Ar nr cr) ∧ w'.cell? ⟨w.heap.size + 1, 0, none⟩ = some (.bool true))
          (first | (exact ⟨hb0, j0, j1, j2⟩) | (go_split_ands; (repeat' apply And.intro); all_goals (first | with_reducible assumption | with_reducible exact keep_below (by with_reducible assumption) hb | with_reducible exact keep_cell hb (by with_reducible assumption) | exact keep_below_set _ (by dsimp only; omega) (keep_below_set _ (by dsimp only; omega) (by with_reducible assumption)) | exact keep_cell_set _ (by dsimp only; omega) (keep_cell_set _ (by dsimp only; omega) (by with_reducible assumption)))))
          (first
            | (go_at_call 42; (with_reducible refine HQ1.out.mono ?_); rintro e w6 ⟨b3, A3, n3, c3, rfl, hi3, hb⟩; have HRW := HRW.below hb; have hk41 := keep_blk hb hk40; have hk51 := keep_blk hb hk50)
            | (go_at_call 42; (with_reducible refine (HRS.out _ _ _ _ HRW).mono ?_); rintro e w7 ⟨b5, A5, n5, c5, rfl, hi5, hb⟩; go_split_ands; have hi3 := hi3.below hb; have hk42 := keep_blk hb hk41; have hk52 := keep_blk hb hk51; have hbb : Below w.heap.size w w7 := keep_below (by with_reducible assumption) hb; obtain ⟨⟨u0, v0, u1, v1⟩, ⟨u2, v2, u3, v3⟩, r0, r1, r2, r3⟩ := two_cells b3 b5 A3 A5 n3 n5 c3 c5 hne hk42 hk52))
        have HG := Lib.hid (two_far (w := w) (t := true) hne (by omega) (by omega) hk42 hk52 hi3 hi5 hbb)
        rw [← HE.out.1, ← HE.out.2] at HG
        clear hk42 hk52 hi3 hi5 hbb hb hk41 hk51 hk40 hk50 hb0 HQ1 HRS HRW j0 j1 j2 gq gr g2 k4 k5 hB HE
        go_wp2
        refine bodyPost_ret (v := .tuple #[.agg #[.bool b3, .slice A3 n3 c3], .agg #[.bool b5, .slice A5 n5 c5], .bool true]) (by simp [results, Try.results24, go_sem, r0, r1, r2, r3]) rfl ?_
        exact HG.out
      · skip
        obtain ⟨hB, b2, b3, k4, k5, b6⟩ := box4 w 29 29 29 29 #[.bool true, .slice A n c] #[.bool false, .slice D m d] #[.bool false, .slice none 0 0] #[.bool false, .slice none 0 0]
        go_enter Try.func24, Try.ntmps24
        go_wp2_with fail
        generalize (((w.alloc (.cells #[.bool true, .slice A n c] 29)).alloc (.cells #[.bool false, .slice D m d] 29)).alloc (.cells #[.bool false, .slice none 0 0] 29)).alloc (.cells #[.bool false, .slice none 0 0] 29) = W0 at *
        have g0 : W0.cell? ⟨w.heap.size, 0, none⟩ = some (.bool true) := b2.cell 0
        have g2 : W0.cell? ⟨w.heap.size + 1, 0, none⟩ = some (.bool false) := b3.cell 0
        have g3 : W0.cell? ⟨w.heap.size + 1, 1, none⟩ = some (.slice D m d) := b3.cell 1
        clear b2 b3 b6
        refine (HDM.out _ hB).mono ?_
        rintro e w1 ⟨Aq, nq, cq, Ar, nr, cr, rfl, hwq, hwr, hb⟩
        have hB := keep_below hB hb
        have k4 := keep_blk hb k4
        have k5 := keep_blk hb k5
        have g0 := keep_cell hb g0
        have g2 := keep_cell hb g2
        have g3 := keep_cell hb g3
        have hlq := HNQ.out _ hwq.len
        have hp1 := hB.size
        have hz1 := k5.lt
        clear hb HDM
        obtain ⟨d1, dq, dr, d5⟩ := box2 w1 27 27 #[.slice Aq nq cq] #[.slice Ar nr cr]
        have hB := keep_below hB d1
        have k4 := keep_blk d1 k4
        have k5 := keep_blk d1 k5
        have g0 := keep_cell d1 g0
        have g2 := keep_cell d1 g2
        have g3 := keep_cell d1 g3
        have hwq := hwq.below d1
        have hwr := hwr.below d1
        have gq : ((w1.alloc (.cells #[.slice Aq nq cq] 27)).alloc (.cells #[.slice Ar nr cr] 27)).cell? ⟨w1.heap.size, 0, none⟩ = some (.slice Aq nq cq) := dq.cell 0
        have gr : ((w1.alloc (.cells #[.slice Aq nq cq] 27)).alloc (.cells #[.slice Ar nr cr] 27)).cell? ⟨w1.heap.size + 1, 0, none⟩ = some (.slice Ar nr cr) := dr.cell 0
        clear d1 d5
        have HZ := Lib.hid (zero_yes hr0 hwr)
        go_wp2_with fail
        refine HZ.out.mono ?_
        rintro e w2 ⟨rfl, hb⟩
        have hB := keep_below hB hb
        have k4 := keep_blk hb k4
        have k5 := keep_blk hb k5
        have g2 := keep_cell hb g2
        have g3 := keep_cell hb g3
        have gq := keep_cell hb gq
        have gr := keep_cell hb gr
        have dq := keep_blk hb dq
        have dr := keep_blk hb dr
        have hwq := hwq.below hb
        have hwr := hwr.below hb
        clear hb HZ g0
        generalize w1.heap.size = p at *
        clear dq dr g3 HO1 HRL HD HNQ HNR hr0
        go_wp2_with fail
        have hs4 : w.heap.size + 1 + 1 < w2.heap.size := k4.lt
        have hs5 : w.heap.size + 1 + 1 + 1 < w2.heap.size := k5.lt
        obtain ⟨W1, hW1⟩ : ∃ x, x = w2 := ⟨_, rfl⟩
        subst hW1
        have HQS := Lib.hid (fun w' A n c (h : WordsIn w' (X / Y) A n c) => integer_signed true (X / Y) A n c w' h)
        have HRS := Lib.hid (fun w' A n c (h : WordsIn w' (X % Y) A n c) => integer_signed false (X % Y) A n c w' h)
        have HQ1 := Lib.hid (HQS.out W1.drew _ _ _ hwq)
        have HRW : WordsIn W1.drew (X % Y) _ _ _ := hwr
        clear HQS
        have hb0 : Below w.heap.size w W1.drew := hB.drew
        have j0 : W1.drew.cell? ⟨p, 0, none⟩ = _ := gq
        have j1 : W1.drew.cell? ⟨p + 1, 0, none⟩ = _ := gr
        have j2 : W1.drew.cell? ⟨w.heap.size + 1, 0, none⟩ = _ := g2
        have hk40 := k4.drew
        have hk50 := k5.drew
        have hne : w.heap.size + 1 + 1 + 1 ≠ w.heap.size + 1 + 1 := by omega
        go_region_held3 (fun w' => Below w.heap.size w w' ∧ w'.cell? ⟨p, 0, none⟩ = some (.slice Aq nq cq) ∧ w'.cell? ⟨p + 1, 0, none⟩ = some (.slice Ar nr cr) ∧ w'.cell? ⟨w.heap.size + 1, 0, none⟩ = some (.bool false))
          (first | (exact ⟨hb0, j0, j1, j2⟩) | (go_split_ands; (repeat' apply And.intro); all_goals (first | with_reducible assumption | with_reducible exact keep_below (by with_reducible assumption) hb | with_reducible exact keep_cell hb (by with_reducible assumption) | exact keep_below_set _ (by dsimp only; omega) (keep_below_set _ (by dsimp only; omega) (by with_reducible assumption)) | exact keep_cell_set _ (by dsimp only; omega) (keep_cell_set _ (by dsimp only; omega) (by with_reducible assumption)))))
          (first
            | (go_at_call 42; (with_reducible refine HQ1.out.mono ?_); rintro e w6 ⟨b3, A3, n3, c3, rfl, hi3, hb⟩; have HRW := HRW.below hb; have hk41 := keep_blk hb hk40; have hk51 := keep_blk hb hk50)
            | (go_at_call 42; (with_reducible refine (HRS.out _ _ _ _ HRW).mono ?_); rintro e w7 ⟨b5, A5, n5, c5, rfl, hi5, hb⟩; go_split_ands; have hi3 := hi3.below hb; have hk42 := keep_blk hb hk41; have hk52 := keep_blk hb hk51; have hbb : Below w.heap.size w w7 := keep_below (by with_reducible assumption) hb; obtain ⟨⟨u0, v0, u1, v1⟩, ⟨u2, v2, u3, v3⟩, r0, r1, r2, r3⟩ := two_cells b3 b5 A3 A5 n3 n5 c3 c5 hne hk42 hk52))
        have HG := Lib.hid (two_far (w := w) (t := true) hne (by omega) (by omega) hk42 hk52 hi3 hi5 hbb)
        rw [← HE.out.1, ← HE.out.2] at HG
        clear hk42 hk52 hi3 hi5 hbb hb hk41 hk51 hk40 hk50 hb0 HQ1 HRS HRW j0 j1 j2 gq gr g2 k4 k5 hB HE
        go_wp2
        refine bodyPost_ret (v := .tuple #[.agg #[.bool b3, .slice A3 n3 c3], .agg #[.bool b5, .slice A5 n5 c5], .bool true]) (by simp [results, Try.results24, go_sem, r0, r1, r2, r3]) rfl ?_
        exact HG.out
    · have HE := Lib.hid (div_more hbs hx1 hy1 h0 hr0)
      clear hx1 hy1 h0 hbd hbs
      rcases hbv with ⟨rfl, rfl⟩ | ⟨rfl, rfl⟩
      · skip
        obtain ⟨hB, b2, b3, k4, k5, b6⟩ := box4 w 29 29 29 29 #[.bool false, .slice A n c] #[.bool true, .slice D m d] #[.bool false, .slice none 0 0] #[.bool false, .slice none 0 0]
        go_enter Try.func24, Try.ntmps24
        go_wp2_with fail
        generalize (((w.alloc (.cells #[.bool false, .slice A n c] 29)).alloc (.cells #[.bool true, .slice D m d] 29)).alloc (.cells #[.bool false, .slice none 0 0] 29)).alloc (.cells #[.bool false, .slice none 0 0] 29) = W0 at *
        have g0 : W0.cell? ⟨w.heap.size, 0, none⟩ = some (.bool false) := b2.cell 0
        have g2 : W0.cell? ⟨w.heap.size + 1, 0, none⟩ = some (.bool true) := b3.cell 0
        have g3 : W0.cell? ⟨w.heap.size + 1, 1, none⟩ = some (.slice D m d) := b3.cell 1
        clear b2 b3 b6
        refine (HDM.out _ hB).mono ?_
        rintro e w1 ⟨Aq, nq, cq, Ar, nr, cr, rfl, hwq, hwr, hb⟩
        have hB := keep_below hB hb
        have k4 := keep_blk hb k4
        have k5 := keep_blk hb k5
        have g0 := keep_cell hb g0
        have g2 := keep_cell hb g2
        have g3 := keep_cell hb g3
        have hlq := HNQ.out _ hwq.len
        have hp1 := hB.size
        have hz1 := k5.lt
        clear hb HDM
        obtain ⟨d1, dq, dr, d5⟩ := box2 w1 27 27 #[.slice Aq nq cq] #[.slice Ar nr cr]
        have hB := keep_below hB d1
        have k4 := keep_blk d1 k4
        have k5 := keep_blk d1 k5
        have g0 := keep_cell d1 g0
        have g2 := keep_cell d1 g2
        have g3 := keep_cell d1 g3
        have hwq := hwq.below d1
        have hwr := hwr.below d1
        have gq : ((w1.alloc (.cells #[.slice Aq nq cq] 27)).alloc (.cells #[.slice Ar nr cr] 27)).cell? ⟨w1.heap.size, 0, none⟩ = some (.slice Aq nq cq) := dq.cell 0
        have gr : ((w1.alloc (.cells #[.slice Aq nq cq] 27)).alloc (.cells #[.slice Ar nr cr] 27)).cell? ⟨w1.heap.size + 1, 0, none⟩ = some (.slice Ar nr cr) := dr.cell 0
        clear d1 d5
        have hlr := HNR.out _ hwr.len
        have HZ := Lib.hid (zero_no hr0 hwr)
        go_wp2_with fail
        refine HZ.out.mono ?_
        rintro e w2 ⟨rfl, hb⟩
        have hB := keep_below hB hb
        have k4 := keep_blk hb k4
        have k5 := keep_blk hb k5
        have g2 := keep_cell hb g2
        have g3 := keep_cell hb g3
        have gq := keep_cell hb gq
        have gr := keep_cell hb gr
        have dq := keep_blk hb dq
        have dr := keep_blk hb dr
        have hwq := hwq.below hb
        have hwr := hwr.below hb
        clear hb HZ g0
        generalize w1.heap.size = p at *
        clear hr0 HNQ HNR
        go_wp2_with fail
        have HAD := Lib.hid (fun w' (h : WordsIn w' (X / Y) Aq nq cq) B' m' d' (hw : WordsIn w' 1 B' m' d') => nat_add (X / Y) 1 Aq B' nq m' cq d' w' h hw (by omega) (by have h9 := hw.len; rw [dg_one (by decide) (by decide)] at h9; simp at h9; omega))
        have hlt2 := k5.lt
        have hltp := dr.lt
        have gq1 : w2.drew.cell? ⟨p, 0, none⟩ = some (.slice Aq nq cq) := gq
        have gq2 : (w2.alloc (.cells #[.int .u64 1] 77)).cell? ⟨p, 0, none⟩ = some (.slice Aq nq cq) := keep_cell_alloc _ gq
        have gq3 : (w2.alloc (.cells #[.int .u64 1] 77)).drew.cell? ⟨p, 0, none⟩ = some (.slice Aq nq cq) := keep_cell_alloc _ gq
        go_region_law (first
          | (go_simp; go_at_call 38; (first | refine (HO1.out _ _ (Blk.new _ _ _)).mono ?_ | refine (HO1.out _ _ ((Blk.new _ _ _).drew)).mono ?_); rintro e w3 ⟨A4, n4, c4, rfl, hw4, hb, _⟩; (first | have hb23 : Below w2.heap.size w2 w3 := keep_below (up_alloc _ _) hb | have hb23 : Below w2.heap.size w2 w3 := keep_below ((up_alloc _ _).drew) hb); have hwq1 := hwq.below hb23; have hk1 := keep_blk hb23 dq; have gq4 := keep_cell hb23 gq)
          | (go_simp; go_at_call 52; refine (HAD.out _ hwq1 _ _ _ hw4).mono ?_; rintro e w4 ⟨A6, n6, c6, rfl, hw6, hb, hf6⟩; have hbb : Below w2.heap.size w2 w4 := keep_below hb23 hb; have hk2 := keep_blk hb hk1; have c0 := hk2.cell 0; have f0 := hk2.frozen 0))
        all_goals
          have hkq := blk_set1 hk2 (.slice A6 n6 c6)
          have hbs := keep_below_set (w := w) (p := ⟨p, 0, none⟩) (.slice A6 n6 c6) (by dsimp only; omega) (keep_below hB hbb)
          have hw7 := words_set_blk hw6 hk2 (.slice A6 n6 c6)
          have hwr := words_set_blk (hwr.below hbb) hk2 (.slice A6 n6 c6)
          have dr := Blk.far (p := ⟨p, 0, none⟩) (keep_blk hbb dr) (by dsimp only; omega) (.slice A6 n6 c6)
          have k4 := Blk.far (p := ⟨p, 0, none⟩) (keep_blk hbb k4) (by dsimp only; omega) (.slice A6 n6 c6)
          have k5 := Blk.far (p := ⟨p, 0, none⟩) (keep_blk hbb k5) (by dsimp only; omega) (.slice A6 n6 c6)
          have g2 := keep_cell_set (q := ⟨p, 0, none⟩) (.slice A6 n6 c6) (by dsimp only; omega) (keep_cell hbb g2)
          have g3 := keep_cell_set (q := ⟨p, 0, none⟩) (.slice A6 n6 c6) (by dsimp only; omega) (keep_cell hbb g3)
          have gr := keep_cell_set (q := ⟨p, 0, none⟩) (.slice A6 n6 c6) (by dsimp only; omega) (keep_cell hbb gr)
          clear hk2 hk1 hb hb23 hwq1 gq4 gq1 gq2 gq3 hbb hw6 hf6 hw4 HAD HO1 dq gq hB hwq
          generalize w4.setCell ⟨p, 0, none⟩ (.slice A6 n6 c6) = W3 at *
          have HSB := Lib.hid (nat_sub Y (X % Y) D Ar m nr d cr W3 (HD.out _ hbs) hwr (by omega) (by omega) (Nat.le_of_lt HRL.out))
          have gq : W3.cell? ⟨p, 0, none⟩ = some (.slice A6 n6 c6) := hkq.cell 0
          clear HD hwr
          go_wp2_with fail
          refine HSB.out.mono ?_
          rintro e w5 ⟨A7, n7, c7, rfl, hw8, hb, hf7⟩
          have hB := keep_below hbs hb
          have k4 := keep_blk hb k4
          have k5 := keep_blk hb k5
          have dr := keep_blk hb dr
          have hkq := keep_blk hb hkq
          have g2 := keep_cell hb g2
          have hw7 := hw7.below hb
          have c0 := dr.cell 0
          have f0 := dr.frozen 0
          have hkr := blk_set1 dr (.slice A7 n7 c7)
          have hB := keep_below_set (w := w) (p := ⟨p + 1, 0, none⟩) (.slice A7 n7 c7) (by dsimp only; omega) hB
          have k4 := Blk.far (p := ⟨p + 1, 0, none⟩) k4 (by dsimp only; omega) (.slice A7 n7 c7)
          have k5 := Blk.far (p := ⟨p + 1, 0, none⟩) k5 (by dsimp only; omega) (.slice A7 n7 c7)
          have hkq := Blk.far (p := ⟨p + 1, 0, none⟩) hkq (by dsimp only; omega) (.slice A7 n7 c7)
          have g2 := keep_cell_set (q := ⟨p + 1, 0, none⟩) (.slice A7 n7 c7) (by dsimp only; omega) g2
          have hw7 := words_set_blk hw7 dr (.slice A7 n7 c7)
          have hw8 := words_set_blk hw8 dr (.slice A7 n7 c7)
          have gq : (w5.setCell ⟨p + 1, 0, none⟩ (.slice A7 n7 c7)).cell? ⟨p, 0, none⟩ = some (.slice A6 n6 c6) := hkq.cell 0
          have gr : (w5.setCell ⟨p + 1, 0, none⟩ (.slice A7 n7 c7)).cell? ⟨p + 1, 0, none⟩ = some (.slice A7 n7 c7) := hkr.cell 0
          clear hb hf7 HSB dr hbs hkq hkr g3
          go_wp2_with fail
          clear c0 f0
          generalize w5.setCell ⟨p + 1, 0, none⟩ (.slice A7 n7 c7) = W1 at *
          have hs4 : w.heap.size + 1 + 1 < W1.heap.size := k4.lt
          have hs5 : w.heap.size + 1 + 1 + 1 < W1.heap.size := k5.lt
          have HQS := Lib.hid (fun w' A n c (h : WordsIn w' (X / Y + 1) A n c) => integer_signed true (X / Y + 1) A n c w' h)
          have HRS := Lib.hid (fun w' A n c (h : WordsIn w' (Y - X % Y) A n c) => integer_signed true (Y - X % Y) A n c w' h)
          have HQ1 := Lib.hid (HQS.out W1.drew _ _ _ hw7)
          have HRW : WordsIn W1.drew (Y - X % Y) _ _ _ := hw8
          clear HQS
          have hb0 : Below w.heap.size w W1.drew := hB.drew
          have j0 : W1.drew.cell? ⟨p, 0, none⟩ = _ := gq
          have j1 : W1.drew.cell? ⟨p + 1, 0, none⟩ = _ := gr
          have j2 : W1.drew.cell? ⟨w.heap.size + 1, 0, none⟩ = _ := g2
          have hk40 := k4.drew
          have hk50 := k5.drew
          have hne : w.heap.size + 1 + 1 + 1 ≠ w.heap.size + 1 + 1 := by omega
          go_region_held3 (fun w' => Below w.heap.size w w' ∧ w'.cell? ⟨p, 0, none⟩ = some (.slice A6 n6 c6) ∧ w'.cell? ⟨p + 1, 0, none⟩ = some (.slice A7 n7 c7) ∧ w'.cell? ⟨w.heap.size + 1, 0, none⟩ = some (.bool true))
            (first | (exact ⟨hb0, j0, j1, j2⟩) | (go_split_ands; (repeat' apply And.intro); all_goals (first | with_reducible assumption | with_reducible exact keep_below (by with_reducible assumption) hb | with_reducible exact keep_cell hb (by with_reducible assumption) | exact keep_below_set _ (by dsimp only; omega) (keep_below_set _ (by dsimp only; omega) (by with_reducible assumption)) | exact keep_cell_set _ (by dsimp only; omega) (keep_cell_set _ (by dsimp only; omega) (by with_reducible assumption)))))
            (first
              | (go_at_call 42; (with_reducible refine HQ1.out.mono ?_); rintro e w6 ⟨b3, A3, n3, c3, rfl, hi3, hb⟩; have HRW := HRW.below hb; have hk41 := keep_blk hb hk40; have hk51 := keep_blk hb hk50)
              | (go_at_call 42; (with_reducible refine (HRS.out _ _ _ _ HRW).mono ?_); rintro e w7 ⟨b5, A5, n5, c5, rfl, hi5, hb⟩; go_split_ands; have hi3 := hi3.below hb; have hk42 := keep_blk hb hk41; have hk52 := keep_blk hb hk51; have hbb : Below w.heap.size w w7 := keep_below (by with_reducible assumption) hb; obtain ⟨⟨u0, v0, u1, v1⟩, ⟨u2, v2, u3, v3⟩, r0, r1, r2, r3⟩ := two_cells b3 b5 A3 A5 n3 n5 c3 c5 hne hk42 hk52))
          have HG := Lib.hid (two_far (w := w) (t := true) hne (by omega) (by omega) hk42 hk52 hi3 hi5 hbb)
          rw [← HE.out.1, ← HE.out.2] at HG
          clear hk42 hk52 hi3 hi5 hbb hb hk41 hk51 hk40 hk50 hb0 HQ1 HRS HRW j0 j1 j2 gq gr g2 k4 k5 hB HE
          go_wp2
          refine bodyPost_ret (v := .tuple #[.agg #[.bool b3, .slice A3 n3 c3], .agg #[.bool b5, .slice A5 n5 c5], .bool true]) (by simp [results, Try.results24, go_sem, r0, r1, r2, r3]) rfl ?_
          exact HG.out
      · skip
        obtain ⟨hB, b2, b3, k4, k5, b6⟩ := box4 w 29 29 29 29 #[.bool true, .slice A n c] #[.bool false, .slice D m d] #[.bool false, .slice none 0 0] #[.bool false, .slice none 0 0]
        go_enter Try.func24, Try.ntmps24
        go_wp2_with fail
        generalize (((w.alloc (.cells #[.bool true, .slice A n c] 29)).alloc (.cells #[.bool false, .slice D m d] 29)).alloc (.cells #[.bool false, .slice none 0 0] 29)).alloc (.cells #[.bool false, .slice none 0 0] 29) = W0 at *
        have g0 : W0.cell? ⟨w.heap.size, 0, none⟩ = some (.bool true) := b2.cell 0
        have g2 : W0.cell? ⟨w.heap.size + 1, 0, none⟩ = some (.bool false) := b3.cell 0
        have g3 : W0.cell? ⟨w.heap.size + 1, 1, none⟩ = some (.slice D m d) := b3.cell 1
        clear b2 b3 b6
        refine (HDM.out _ hB).mono ?_
        rintro e w1 ⟨Aq, nq, cq, Ar, nr, cr, rfl, hwq, hwr, hb⟩
        have hB := keep_below hB hb
        have k4 := keep_blk hb k4
        have k5 := keep_blk hb k5
        have g0 := keep_cell hb g0
        have g2 := keep_cell hb g2
        have g3 := keep_cell hb g3
        have hlq := HNQ.out _ hwq.len
        have hp1 := hB.size
        have hz1 := k5.lt
        clear hb HDM
        obtain ⟨d1, dq, dr, d5⟩ := box2 w1 27 27 #[.slice Aq nq cq] #[.slice Ar nr cr]
        have hB := keep_below hB d1
        have k4 := keep_blk d1 k4
        have k5 := keep_blk d1 k5
        have g0 := keep_cell d1 g0
        have g2 := keep_cell d1 g2
        have g3 := keep_cell d1 g3
        have hwq := hwq.below d1
        have hwr := hwr.below d1
        have gq : ((w1.alloc (.cells #[.slice Aq nq cq] 27)).alloc (.cells #[.slice Ar nr cr] 27)).cell? ⟨w1.heap.size, 0, none⟩ = some (.slice Aq nq cq) := dq.cell 0
        have gr : ((w1.alloc (.cells #[.slice Aq nq cq] 27)).alloc (.cells #[.slice Ar nr cr] 27)).cell? ⟨w1.heap.size + 1, 0, none⟩ = some (.slice Ar nr cr) := dr.cell 0
        clear d1 d5
        have hlr := HNR.out _ hwr.len
        have HZ := Lib.hid (zero_no hr0 hwr)
        go_wp2_with fail
        refine HZ.out.mono ?_
        rintro e w2 ⟨rfl, hb⟩
        have hB := keep_below hB hb
        have k4 := keep_blk hb k4
        have k5 := keep_blk hb k5
        have g2 := keep_cell hb g2
        have g3 := keep_cell hb g3
        have gq := keep_cell hb gq
        have gr := keep_cell hb gr
        have dq := keep_blk hb dq
        have dr := keep_blk hb dr
        have hwq := hwq.below hb
        have hwr := hwr.below hb
        clear hb HZ g0
        generalize w1.heap.size = p at *
        clear hr0 HNQ HNR
        go_wp2_with fail
        have HAD := Lib.hid (fun w' (h : WordsIn w' (X / Y) Aq nq cq) B' m' d' (hw : WordsIn w' 1 B' m' d') => nat_add (X / Y) 1 Aq B' nq m' cq d' w' h hw (by omega) (by have h9 := hw.len; rw [dg_one (by decide) (by decide)] at h9; simp at h9; omega))
        have hlt2 := k5.lt
        have hltp := dr.lt
        have gq1 : w2.drew.cell? ⟨p, 0, none⟩ = some (.slice Aq nq cq) := gq
        have gq2 : (w2.alloc (.cells #[.int .u64 1] 77)).cell? ⟨p, 0, none⟩ = some (.slice Aq nq cq) := keep_cell_alloc _ gq
        have gq3 : (w2.alloc (.cells #[.int .u64 1] 77)).drew.cell? ⟨p, 0, none⟩ = some (.slice Aq nq cq) := keep_cell_alloc _ gq
        go_region_law (first
          | (go_simp; go_at_call 38; (first | refine (HO1.out _ _ (Blk.new _ _ _)).mono ?_ | refine (HO1.out _ _ ((Blk.new _ _ _).drew)).mono ?_); rintro e w3 ⟨A4, n4, c4, rfl, hw4, hb, _⟩; (first | have hb23 : Below w2.heap.size w2 w3 := keep_below (up_alloc _ _) hb | have hb23 : Below w2.heap.size w2 w3 := keep_below ((up_alloc _ _).drew) hb); have hwq1 := hwq.below hb23; have hk1 := keep_blk hb23 dq; have gq4 := keep_cell hb23 gq)
          | (go_simp; go_at_call 52; refine (HAD.out _ hwq1 _ _ _ hw4).mono ?_; rintro e w4 ⟨A6, n6, c6, rfl, hw6, hb, hf6⟩; have hbb : Below w2.heap.size w2 w4 := keep_below hb23 hb; have hk2 := keep_blk hb hk1; have c0 := hk2.cell 0; have f0 := hk2.frozen 0))
        all_goals
          have hkq := blk_set1 hk2 (.slice A6 n6 c6)
          have hbs := keep_below_set (w := w) (p := ⟨p, 0, none⟩) (.slice A6 n6 c6) (by dsimp only; omega) (keep_below hB hbb)
          have hw7 := words_set_blk hw6 hk2 (.slice A6 n6 c6)
          have hwr := words_set_blk (hwr.below hbb) hk2 (.slice A6 n6 c6)
          have dr := Blk.far (p := ⟨p, 0, none⟩) (keep_blk hbb dr) (by dsimp only; omega) (.slice A6 n6 c6)
          have k4 := Blk.far (p := ⟨p, 0, none⟩) (keep_blk hbb k4) (by dsimp only; omega) (.slice A6 n6 c6)
          have k5 := Blk.far (p := ⟨p, 0, none⟩) (keep_blk hbb k5) (by dsimp only; omega) (.slice A6 n6 c6)
          have g2 := keep_cell_set (q := ⟨p, 0, none⟩) (.slice A6 n6 c6) (by dsimp only; omega) (keep_cell hbb g2)
          have g3 := keep_cell_set (q := ⟨p, 0, none⟩) (.slice A6 n6 c6) (by dsimp only; omega) (keep_cell hbb g3)
          have gr := keep_cell_set (q := ⟨p, 0, none⟩) (.slice A6 n6 c6) (by dsimp only; omega) (keep_cell hbb gr)
          clear hk2 hk1 hb hb23 hwq1 gq4 gq1 gq2 gq3 hbb hw6 hf6 hw4 HAD HO1 dq gq hB hwq
          generalize w4.setCell ⟨p, 0, none⟩ (.slice A6 n6 c6) = W3 at *
          have HSB := Lib.hid (nat_sub Y (X % Y) D Ar m nr d cr W3 (HD.out _ hbs) hwr (by omega) (by omega) (Nat.le_of_lt HRL.out))
          have gq : W3.cell? ⟨p, 0, none⟩ = some (.slice A6 n6 c6) := hkq.cell 0
          clear HD hwr
          go_wp2_with fail
          refine HSB.out.mono ?_
          rintro e w5 ⟨A7, n7, c7, rfl, hw8, hb, hf7⟩
          have hB := keep_below hbs hb
          have k4 := keep_blk hb k4
          have k5 := keep_blk hb k5
          have dr := keep_blk hb dr
          have hkq := keep_blk hb hkq
          have g2 := keep_cell hb g2
          have hw7 := hw7.below hb
          have c0 := dr.cell 0
          have f0 := dr.frozen 0
          have hkr := blk_set1 dr (.slice A7 n7 c7)
          have hB := keep_below_set (w := w) (p := ⟨p + 1, 0, none⟩) (.slice A7 n7 c7) (by dsimp only; omega) hB
          have k4 := Blk.far (p := ⟨p + 1, 0, none⟩) k4 (by dsimp only; omega) (.slice A7 n7 c7)
          have k5 := Blk.far (p := ⟨p + 1, 0, none⟩) k5 (by dsimp only; omega) (.slice A7 n7 c7)
          have hkq := Blk.far (p := ⟨p + 1, 0, none⟩) hkq (by dsimp only; omega) (.slice A7 n7 c7)
          have g2 := keep_cell_set (q := ⟨p + 1, 0, none⟩) (.slice A7 n7 c7) (by dsimp only; omega) g2
          have hw7 := words_set_blk hw7 dr (.slice A7 n7 c7)
          have hw8 := words_set_blk hw8 dr (.slice A7 n7 c7)
          have gq : (w5.setCell ⟨p + 1, 0, none⟩ (.slice A7 n7 c7)).cell? ⟨p, 0, none⟩ = some (.slice A6 n6 c6) := hkq.cell 0
          have gr : (w5.setCell ⟨p + 1, 0, none⟩ (.slice A7 n7 c7)).cell? ⟨p + 1, 0, none⟩ = some (.slice A7 n7 c7) := hkr.cell 0
          clear hb hf7 HSB dr hbs hkq hkr g3
          go_wp2_with fail
          clear c0 f0
          generalize w5.setCell ⟨p + 1, 0, none⟩ (.slice A7 n7 c7) = W1 at *
          have hs4 : w.heap.size + 1 + 1 < W1.heap.size := k4.lt
          have hs5 : w.heap.size + 1 + 1 + 1 < W1.heap.size := k5.lt
          have HQS := Lib.hid (fun w' A n c (h : WordsIn w' (X / Y + 1) A n c) => integer_signed true (X / Y + 1) A n c w' h)
          have HRS := Lib.hid (fun w' A n c (h : WordsIn w' (Y - X % Y) A n c) => integer_signed false (Y - X % Y) A n c w' h)
          have HQ1 := Lib.hid (HQS.out W1.drew _ _ _ hw7)
          have HRW : WordsIn W1.drew (Y - X % Y) _ _ _ := hw8
          clear HQS
          have hb0 : Below w.heap.size w W1.drew := hB.drew
          have j0 : W1.drew.cell? ⟨p, 0, none⟩ = _ := gq
          have j1 : W1.drew.cell? ⟨p + 1, 0, none⟩ = _ := gr
          have j2 : W1.drew.cell? ⟨w.heap.size + 1, 0, none⟩ = _ := g2
          have hk40 := k4.drew
          have hk50 := k5.drew
          have hne : w.heap.size + 1 + 1 + 1 ≠ w.heap.size + 1 + 1 := by omega
          go_region_held3 (fun w' => Below w.heap.size w w' ∧ w'.cell? ⟨p, 0, none⟩ = some (.slice A6 n6 c6) ∧ w'.cell? ⟨p + 1, 0, none⟩ = some (.slice A7 n7 c7) ∧ w'.cell? ⟨w.heap.size + 1, 0, none⟩ = some (.bool false))
            (first | (exact ⟨hb0, j0, j1, j2⟩) | (go_split_ands; (repeat' apply And.intro); all_goals (first | with_reducible assumption | with_reducible exact keep_below (by with_reducible assumption) hb | with_reducible exact keep_cell hb (by with_reducible assumption) | exact keep_below_set _ (by dsimp only; omega) (keep_below_set _ (by dsimp only; omega) (by with_reducible assumption)) | exact keep_cell_set _ (by dsimp only; omega) (keep_cell_set _ (by dsimp only; omega) (by with_reducible assumption)))))
            (first
              | (go_at_call 42; (with_reducible refine HQ1.out.mono ?_); rintro e w6 ⟨b3, A3, n3, c3, rfl, hi3, hb⟩; have HRW := HRW.below hb; have hk41 := keep_blk hb hk40; have hk51 := keep_blk hb hk50)
              | (go_at_call 42; (with_reducible refine (HRS.out _ _ _ _ HRW).mono ?_); rintro e w7 ⟨b5, A5, n5, c5, rfl, hi5, hb⟩; go_split_ands; have hi3 := hi3.below hb; have hk42 := keep_blk hb hk41; have hk52 := keep_blk hb hk51; have hbb : Below w.heap.size w w7 := keep_below (by with_reducible assumption) hb; obtain ⟨⟨u0, v0, u1, v1⟩, ⟨u2, v2, u3, v3⟩, r0, r1, r2, r3⟩ := two_cells b3 b5 A3 A5 n3 n5 c3 c5 hne hk42 hk52))
          have HG := Lib.hid (two_far (w := w) (t := true) hne (by omega) (by omega) hk42 hk52 hi3 hi5 hbb)
          rw [← HE.out.1, ← HE.out.2] at HG
          clear hk42 hk52 hi3 hi5 hbb hb hk41 hk51 hk40 hk50 hb0 HQ1 HRS HRW j0 j1 j2 gq gr g2 k4 k5 hB HE
          go_wp2
          refine bodyPost_ret (v := .tuple #[.agg #[.bool b3, .slice A3 n3 c3], .agg #[.bool b5, .slice A5 n5 c5], .bool true]) (by simp [results, Try.results24, go_sem, r0, r1, r2, r3]) rfl ?_
          exact HG.out
end Go.Proofs.Ytnfednkphcapnaa
namespace Go.Proofs.Ytnfednkphcapnaa
open Go Go.RowKit
set_option linter.unusedVariables false
theorem intC {T : World → Prop} : IntC T where
  new s x A n c w _ hA hn := integer_new s x A n c w hA (by omega)
  of z w _ h1 h2 := integer_of z w h1 h2
  belowI z b A n c w _ hA hn := integer_below z b A n c w hA
  abs z b A n c w _ hA hn := (integer_abs z b A n c w hA (by omega)).mono fun _ _ ⟨A', n', c', he, hw, hb, _⟩ => ⟨A', n', c', he, hw, hb⟩
  sign z b A n c w _ hA hn := integer_sign z b A n c w hA
  int z b A n c w _ hA hn := integer_int z b A n c w hA
  neg z b A n c w _ hA hn := integer_neg z b A n c w hA (by omega)
  text z b A n c w _ hA hn := integer_text z b A n c w hA (by omega)
  cmp x y b b' A D n m c d w _ hA hD hn hm := integer_cmp x y b b' A D n m c d w hA hD (by omega) (by omega)
  add x y b b' A D n m c d w _ hA hD hn hm := integer_add x y b b' A D n m c d w hA hD (by omega) (by omega)
  sub x y b b' A D n m c d w _ hA hD hn hm := integer_sub x y b b' A D n m c d w hA hD (by omega) (by omega)
  mul x y b b' A D n m c d w _ hA hD hn hm := integer_mul x y b b' A D n m c d w hA hD (by omega) (by omega)
  div x y b b' A D n m c d w _ hA hD hn hm hy := integer_div x y b b' A D n m c d w hA hD (by omega) (by omega) hy
  divNo x y b b' A D n m c d w _ hA hD hn hm hy := integer_div_no x y b b' A D n m c d w hA hD (by omega) (by omega) hy
  read s w _ hs := integer_read s w hs
end Go.Proofs.Ytnfednkphcapnaa
