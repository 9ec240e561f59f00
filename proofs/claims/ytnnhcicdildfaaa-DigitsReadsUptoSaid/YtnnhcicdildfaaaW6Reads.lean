/-
  The walk of the law DigitsReads. Conditions: the bytes and the text that came in are at most 1048576 of each; digits' functions do as DigitsC says.
-/
import Derived.Test.YtnnhcicdildfaaaRows
import Derived.Test.YtnnhcicdildfaaaW6Awake
import Derived.Test.YtnnhcicdildfaaaD6Size
import Derived.Test.YtnnhcicdildfaaaUArgs8
import Derived.Test.YtnnhcicdildfaaaR6Parse
import Derived.Test.YtnnhcicdildfaaaR6Read
import Derived.Test.YtnnhcicdildfaaaBunP
import Derived.WalkKit
import Derived.Lib.Hide
import Derived.Outline
import Derived.IntWalk
namespace Go.Proofs.Ytnnhcicdildfaaa
open Go Go.RowKit
set_option maxRecDepth 100000
set_option linter.unusedVariables false
set_option linter.unusedSimpArgs false
theorem okP_sz {l : List Nat} {n : Nat} (hd : Dgs 256 l) (h : l.length ≤ n) : Sz n (if plainL l then valP l else 0) := by
  split
  · exact valP_sz hd h
  · exact zero_sz n
theorem okR_sz {s : List UInt8} {n : Nat} (h : s.length ≤ n) : Sz n (if okR s then valR s else 0) := by
  split
  · rename_i h1; exact valR_sz h1 h
  · exact zero_sz n
theorem okP_len {l : List Nat} (hd : Dgs 256 l) : (dg 65536 (if plainL l then valP l else 0)).length ≤ l.length := by
  split
  · exact valP_len hd
  · exact Nat.zero_le _
theorem okR_len {s : List UInt8} : (dg 65536 (if okR s then valR s else 0)).length ≤ s.length := by
  split
  · rename_i h1
    refine valR_len ?_
    rw [okR_head, Bool.and_eq_true] at h1
    exact h1.2
  · exact Nat.zero_le _
set_option maxHeartbeats 8000000 in
theorem digitsReads_core {T : World → Prop} (hTb : ∀ w w', T w → Below w.heap.size w w' → T w') (DC : DigitsC T) (A0 : Option Addr) (n0 c0 : Nat) (l0 : List Nat) (s1 : ByteArray) (w : World) (h0 : ArgBytes w A0 n0 c0 l0) (h1 : s1.size ≤ 1048576) (hT : T w) :
    Calls Try.prog 4 #[.slice A0 n0 c0, .string s1] w fun e w' => e = .returned (.bool true) ∧ Below w.heap.size w w' := by
  have HDC := Lib.hid DC
  have HT := Lib.hid (fun w' (h : Below w.heap.size w w') => hTb w w' hT h)
  have HAW := Lib.hid (law6_awake hTb DC w hT)
  have HR := Lib.hid (fun w' (h : Below w.heap.size w w') => (h0.reads.below h).more h.size)
  have HD := Lib.hid h0.dgs
  have hf := h0.fits
  have hc0 : c0 ≤ 1048576 := h0.small
  have hln := h0.reads.len_
  obtain ⟨K, hK⟩ : ∃ K, 1048576 = K := ⟨_, rfl⟩
  have SP := okP_sz h0.dgs (n := K) (by omega)
  have SR := okR_sz (s := s1.data.toList) (n := K) (by rw [str_len]; omega)
  have LP := okP_len h0.dgs
  have LR := okR_len (s := s1.data.toList)
  rw [str_len] at LR
  have RP := fun w' (h : Below w.heap.size w w') => ref6_parse l0 A0 n0 c0 w' ((h0.reads.below h).more h.size) h0.dgs (by omega)
  have RR := fun w' => ref6_read s1 w' (by omega)
  have PA := fun w' (h : Below w.heap.size w w') => DC.parse l0 A0 n0 c0 w' (hTb w w' hT h) ((h0.reads.below h).more h.size) h0.dgs hf (by omega) (by omega)
  have RD := fun w' (h : Below w.heap.size w w') => DC.read s1 w' (hTb w w' hT h) (by omega)
  have PL := fun w' (h : Below w.heap.size w w') => DC.plain l0 A0 n0 c0 w' (hTb w w' hT h) ((h0.reads.below h).more h.size) h0.dgs hf (by omega) (by omega)
  have hKK : K ≤ 1048576 := by omega
  obtain ⟨V, hV⟩ : ∃ v, (if plainL l0 then valP l0 else 0) = v := ⟨_, rfl⟩
  obtain ⟨U, hU⟩ : ∃ v, (if okR s1.data.toList then valR s1.data.toList else 0) = v := ⟨_, rfl⟩
  rw [hV] at SP LP RP PA
  rw [hU] at SR LR RR RD
  obtain ⟨pb, hpb⟩ : ∃ b, plainL l0 = b := ⟨_, rfl⟩
  obtain ⟨ob, hob⟩ : ∃ b, okR s1.data.toList = b := ⟨_, rfl⟩
  rw [hpb] at RP PA PL
  rw [hob] at RR RD
  have HSP := Lib.hid SP
  have HSR := Lib.hid SR
  have HRP := Lib.hid RP
  have HRR := Lib.hid RR
  have HPA := Lib.hid PA
  have HRD := Lib.hid RD
  have HPL := Lib.hid PL
  clear SP SR RP RR PA RD PL DC hTb hT h0 hK hV hU hpb hob HDC HT HR HD
  obtain ⟨S, hS⟩ : ∃ S, s1.size = S := ⟨_, rfl⟩
  rw [hS] at h1 LR
  go_enter Try.func4, Try.ntmps4
  go_wp2_with fail
  refine HAW.out.mono ?_
  rintro e w1 ⟨rfl, hB⟩
  by_cases h6 : n0 ≤ 600
  · have j1 : decide ((n0 : Int) > 600) = false := by simp; omega
    have j2 : decide ((600 : Int) < (n0 : Int)) = false := by simp; omega
    by_cases h7 : S ≤ 600
    · have j3 : decide ((S : Int) > 600) = false := by simp; omega
      have j4 : decide ((600 : Int) < (S : Int)) = false := by simp; omega
      go_wp2_with fail
      refine (HPA.out _ hB).mono ?_
      rintro e w2 ⟨A2, n2, c2, rfl, hw2, hb⟩
      have hB := keep_below hB hb
      obtain ⟨b1, b2, b5⟩ := box1 w2 25 #[.slice A2 n2 c2]
      have hB := keep_below hB b1
      have hw2 := hw2.below b1
      have g2 := b2.cell 0
      simp only [List.getElem?_toArray, List.getElem?_cons_zero] at g2
      clear b1 b2 b5 hb
      go_wp2_with fail
      generalize w2.alloc (.cells #[.slice A2 n2 c2] 25) = W2 at *
      generalize w2.heap.size = p2 at *
      refine (HRP.out _ hB).mono ?_
      rintro e w3 ⟨A3, n3, c3, rfl, hw3, hb⟩
      have hB := keep_below hB hb
      have hw2 := hw2.below hb
      have g2 := keep_cell hb g2
      clear hb
      go_wp2_with fail
      refine (HRD.out _ hB).mono ?_
      rintro e w4 ⟨A4, n4, c4, rfl, hw4, hb⟩
      have hB := keep_below hB hb
      have hw2 := hw2.below hb
      have hw3 := hw3.below hb
      have g2 := keep_cell hb g2
      obtain ⟨b1, b2, b5⟩ := box1 w4 25 #[.slice A4 n4 c4]
      have hB := keep_below hB b1
      have hw2 := hw2.below b1
      have hw3 := hw3.below b1
      have hw4 := hw4.below b1
      have g2 := keep_cell b1 g2
      have g4 := b2.cell 0
      simp only [List.getElem?_toArray, List.getElem?_cons_zero] at g4
      clear b1 b2 b5 hb
      go_wp2_with fail
      generalize w4.alloc (.cells #[.slice A4 n4 c4] 25) = W4 at *
      generalize w4.heap.size = p4 at *
      refine (HRR.out _).mono ?_
      rintro e w5 ⟨A5, n5, c5, rfl, hw5, hb⟩
      have hB := keep_below hB hb
      have hw2 := hw2.below hb
      have hw3 := hw3.below hb
      have hw4 := hw4.below hb
      have g2 := keep_cell hb g2
      have g4 := keep_cell hb g4
      clear hb
      go_wp2_with fail
      refine (law2_like V A2 A3 n2 c2 n3 c3 _ hw2 hw3 (by have := Sz.words HSP.out hw2; omega) (by rw [hw3.len]; omega)).mono ?_
      rintro e w6 ⟨rfl, hb⟩
      have hB := keep_below hB hb
      have hw4 := hw4.below hb
      have hw5 := hw5.below hb
      have g4 := keep_cell hb g4
      clear hb
      go_wp2_with fail
      refine (law2_like U A4 A5 n4 c4 n5 c5 _ hw4 hw5 (by have := Sz.words HSR.out hw4; omega) (by rw [hw5.len]; omega)).mono ?_
      rintro e w7 ⟨rfl, hb⟩
      have hB := keep_below hB hb
      clear hb
      go_wp2_with fail
      refine (HPL.out _ hB).mono ?_
      rintro e w8 ⟨rfl, hb⟩
      have hB := keep_below hB hb
      go_wp2
      go_ret
      exact ⟨by first | rfl | simp, hB⟩
    · have j3 : decide ((S : Int) > 600) = true := by simp; omega
      have j4 : decide ((600 : Int) < (S : Int)) = true := by simp; omega
      go_wp2
      go_ret
      exact ⟨by first | rfl | simp, hB⟩
  · have j1 : decide ((n0 : Int) > 600) = true := by simp; omega
    have j2 : decide ((600 : Int) < (n0 : Int)) = true := by simp; omega
    go_wp2
    go_ret
    exact ⟨by first | rfl | simp, hB⟩
end Go.Proofs.Ytnnhcicdildfaaa
