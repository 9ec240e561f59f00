/-
  The contract of the law's awake (actuarylaw06); what the walks of stage 6 share. Conditions: digits' functions do as DigitsC says.
-/
import Derived.Test.YtnnhcicdildfaaaRows
import Derived.Test.YtnnhcicdildfaaaP6C
import Derived.Test.YtnnhcicdildfaaaNWrap
import Derived.Test.YtnnhcicdildfaaaBunV
import Derived.Test.YtnnhcicdildfaaaBunO
import Derived.Test.YtnnhcicdildfaaaN6Nil
import Derived.WalkKit
import Derived.Lib.Hide
import Derived.Outline
import Derived.IntWalk
namespace Go.Proofs.Ytnnhcicdildfaaa
open Go Go.RowKit
set_option maxRecDepth 100000
set_option linter.unusedVariables false
set_option linter.unusedSimpArgs false
def SaysYes6 (w : World) (e : Ending) (w' : World) : Prop := e = .returned (.bool true) ∧ Below w.heap.size w w'
theorem blk_reads8 {w : World} {g n : Nat} {t : TypeId} {cs : Array Value} {l : List Nat} (h : Blk w g t cs) (hn : cs.size = n) (hv : cs.toList = vals .u8 l) : Reads w w.heap.size 1 (some ⟨g, 0, none⟩) n (vals .u8 l) := by
  refine ⟨by rw [← hv]; simpa using hn, fun _ => ⟨_, rfl, h.lt, fun j u hu => ?_⟩⟩
  have e : (⟨g, 0, none⟩ : Addr).add j = ⟨g, j, none⟩ := by unfold Addr.add; split <;> simp_all
  rw [e, h.cell j, ← Array.getElem?_toList, hv]
  exact hu
theorem aw6_bytes : bytesL 256 = [1, 0] := bytesL_back (l := [1, 0]) (by intro d hd; simp at hd; omega) (by decide)
theorem aw6_text : textS 18446744073709551616 = [49, 56, 52, 52, 54, 55, 52, 52, 48, 55, 51, 55, 48, 57, 53, 53, 49, 54, 49, 54] := text_back (s := [49, 56, 52, 52, 54, 55, 52, 52, 48, 55, 51, 55, 48, 57, 53, 53, 49, 54, 49, 54]) (by decide)
theorem aw6_zero : textS 0 = [48] := rfl
set_option maxHeartbeats 8000000 in
theorem law6_awake {T : World → Prop} (hTb : ∀ w w', T w → Below w.heap.size w w' → T w') (DC : DigitsC T) (w : World) (hT : T w) : Calls Try.prog 9 #[] w (SaysYes6 w) := by
  have HDC := Lib.hid DC
  have HT := Lib.hid (fun w' (h : Below w.heap.size w w') => hTb w w' hT h)
  have q1 : ((strL (bytesL 256)).toList == [1, 0]) = true := str_lit _ _ _ (by rw [strL_data, aw6_bytes]; decide)
  have q2 : ((strS (textS 18446744073709551616)).toList == [49, 56, 52, 52, 54, 55, 52, 52, 48, 55, 51, 55, 48, 57, 53, 53, 49, 54, 49, 54]) = true := str_lit _ _ _ (by rw [strS_data, aw6_text]; decide)
  have q3 : ((strS (textS 0)).toList == [48]) = true := str_lit _ _ _ (by rw [strS_data, aw6_zero]; decide)
  have p1 : plainL [0, 1] = false := by decide
  have p2 : okR ({ data := #[48, 48, 55] } : ByteArray).data.toList = false := by decide
  have p3 : okR ({ data := #[] } : ByteArray).data.toList = false := by decide
  have H1 := Lib.hid p1
  have H2 := Lib.hid p2
  have H3 := Lib.hid p3
  obtain ⟨S1, hS1⟩ : ∃ s, strL (bytesL 256) = s := ⟨_, rfl⟩
  obtain ⟨S2, hS2⟩ : ∃ s, strS (textS 18446744073709551616) = s := ⟨_, rfl⟩
  obtain ⟨S3, hS3⟩ : ∃ s, strS (textS 0) = s := ⟨_, rfl⟩
  rw [hS1] at q1
  rw [hS2] at q2
  rw [hS3] at q3
  have HS1 := Lib.hid hS1
  have HS2 := Lib.hid hS2
  have HS3 := Lib.hid hS3
  clear DC hT hTb p1 p2 p3 hS1 hS2 hS3
  go_enter Try.func9, Try.ntmps9
  go_wp2_with fail
  obtain ⟨b1, b2, b5⟩ := box1 w 5 #[.int .u8 0, .int .u8 1]
  refine (HDC.out.parse [0, 1] _ 2 2 _ (HT.out _ b1) (blk_reads8 b2 rfl rfl) (by intro d hd; simp at hd; omega) (by decide) (by decide) (by decide)).mono ?_
  rintro e w1 ⟨A1, n1, c1, rfl, _, hb⟩
  have hB := keep_below b1 hb
  have hB := keep_below hB (up_alloc w1 (.cells #[.slice A1 n1 c1] 25))
  rw [H1.out]
  clear hb b1 b2 b5
  go_wp2_with fail
  refine (HDC.out.read _ _ (HT.out _ hB) (by decide)).mono ?_
  rintro e w2 ⟨A2, n2, c2, rfl, _, hb⟩
  have hB := keep_below hB hb
  have hB := keep_below hB (up_alloc w2 (.cells #[.slice A2 n2 c2] 25))
  rw [H2.out]
  clear hb
  go_wp2_with fail
  refine (HDC.out.read _ _ (HT.out _ hB) (by decide)).mono ?_
  rintro e w3 ⟨A3, n3, c3, rfl, _, hb⟩
  have hB := keep_below hB hb
  have hB := keep_below hB (up_alloc w3 (.cells #[.slice A3 n3 c3] 25))
  rw [H3.out]
  clear hb
  go_wp2_with fail
  obtain ⟨d1, d2, d5⟩ := box1 (w3.alloc (.cells #[.slice A3 n3 c3] 25)) 50 #[.int .u64 256]
  have hB := keep_below hB d1
  rw [show (w3.alloc (.cells #[.slice A3 n3 c3] 25)).heap.size = w3.heap.size + 1 from by simp] at d2
  refine (of_lits _ [256] _ _ 1 256 d2 rfl rfl (dgs1 256 (by decide)) rfl (by decide)).mono ?_
  rintro e w4 ⟨A4, n4, c4, rfl, hw4, hb, _⟩
  have hB := keep_below hB hb
  have hn4 : n4 ≤ 16777216 := by rw [← hw4.len]; exact Nat.le_trans (dg_len_le (by decide) _ 1 (by decide)) (by decide)
  clear d1 d2 d5 hb
  go_wp2_with fail
  refine (HDC.out.bytes 256 A4 n4 c4 w4 (HT.out _ hB) hw4 (by omega)).mono ?_
  rintro e w5 ⟨v5, rfl, ho5, hb⟩
  obtain ⟨A5, c5, rfl, _, _, hr5⟩ := Reads.of_grown_own ho5
  have hB := keep_below hB hb
  have hst := reads_string (P := Try.prog) 30 9 5 Try.underlying30 Try.underlying5 Try.underlying9 (c := c5) hr5
  rw [HS1.out] at hst
  obtain ⟨n5, hn5⟩ : ∃ n, (bytesL 256).length = n := ⟨_, rfl⟩
  rw [hn5] at hst ⊢
  clear hb hw4 ho5 hr5 hn5 hn4
  go_wp2_with fail
  obtain ⟨d1, d2, d5⟩ := box1 w5 50 #[.int .u64 0, .int .u64 1]
  have hB := keep_below hB d1
  clear hst
  refine (of_lits _ [0, 1] _ _ 2 18446744073709551616 d2 rfl rfl (dgs2 0 1 (by decide) (by decide)) rfl (by decide)).mono ?_
  rintro e w6 ⟨A6, n6, c6, rfl, hw6, hb, _⟩
  have hB := keep_below hB hb
  have hn6 : n6 ≤ 16777216 := by rw [← hw6.len]; exact Nat.le_trans (dg_len_le (by decide) _ 2 (by decide)) (by decide)
  clear d1 d2 d5 hb
  go_wp2_with fail
  refine (HDC.out.text _ A6 n6 c6 w6 (HT.out _ hB) hw6 (by omega)).mono ?_
  rintro e w7 ⟨rfl, hb⟩
  have hB := keep_below hB hb
  rw [HS2.out]
  clear hb hw6 hn6
  go_wp2_with fail
  refine (nat_of_nil w7).mono ?_
  rintro e w8 ⟨A8, n8, c8, rfl, hw8, hb, _⟩
  have hB := keep_below hB hb
  have hn8 : n8 ≤ 16777216 := by rw [← hw8.len]; exact Nat.le_trans (dg_len_le (by decide) _ 0 (by decide)) (by decide)
  clear hb
  go_wp2_with fail
  refine (HDC.out.text _ A8 n8 c8 w8 (HT.out _ hB) hw8 (by omega)).mono ?_
  rintro e w9 ⟨rfl, hb⟩
  have hB := keep_below hB hb
  rw [HS3.out]
  clear hb hw8 hn8
  go_wp2
  all_goals
    go_ret
    exact ⟨rfl, hB⟩
end Go.Proofs.Ytnnhcicdildfaaa
