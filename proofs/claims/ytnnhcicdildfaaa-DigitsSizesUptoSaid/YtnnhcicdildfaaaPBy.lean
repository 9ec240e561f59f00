/-
  The contract of prod's ByWord: a number by a word, and a word more. Conditions: the value is a number, the others are words; its length is up to 2 to the 38.
-/
import Derived.Test.YtnnhcicdildfaaaRows
import Derived.Test.YtnnhcicdildfaaaPMul
import Derived.Test.YtnnhcicdildfaaaBunE
import Derived.WalkKit
import Derived.Lib.Hide
import Derived.Outline
import Derived.LoopTactic
import Derived.Deep.LoopGhost
import Derived.IntWalk
namespace Go.Proofs.Ytnnhcicdildfaaa
open Go Go.RowKit
set_option maxRecDepth 100000
set_option linter.unusedVariables false
set_option maxHeartbeats 4000000 in
theorem prod_byword (x a b : Nat) (A : Option Addr) (n c : Nat) (w : World) (hA : WordsIn w x A n c) (hn : n ≤ 274877906944) (ha : a < 18446744073709551616) (hb : b < 18446744073709551616) :
    Calls Try.prog 25 #[.agg #[.slice A n c], .int .u64 a, .int .u64 b] w (GivesN2 w (x * a + b)) := by
  obtain ⟨i0, hi0, hz0, hz1, hz2⟩ := info_parts infoU
  have hln := Lib.hid hA.len
  have HWS := Lib.hid (fun w' (hb : Below w.heap.size w w') => nat_words_own x A n c w' (hA.below hb) (by omega))
  have hI := Lib.hid (ByB.start (a := a) hA.len hb)
  clear hA hb
  go_enter Try.func25, Try.ntmps25
  go_wp2_with fail
  generalize hW : (w.alloc (.cells #[.slice A n c] 25)).alloc (.cells #[.slice none 0 0] 25) = W0
  obtain ⟨b1, b2, b3, b5⟩ := box2 w 25 25 #[.slice A n c] #[.slice none 0 0]
  rw [hW] at b1 b2 b3 b5
  clear hW b2
  refine (HWS.out _ b1).mono ?_
  rintro e w1 ⟨v, rfl, hown, hb⟩
  obtain ⟨A1, c1, rfl, hc1, hc2, _⟩ := Reads.of_grown_own hown
  have hB := keep_below b1 hb
  have hk := keep_blk hb b3
  have hs3 : w.heap.size + 2 ≤ W0.heap.size := b5
  obtain ⟨gs, hgs⟩ : ∃ g, W0.heap.size = g := ⟨_, rfl⟩
  have hgw : gs ≤ w1.heap.size := by rw [← hgs]; exact hb.size
  rw [hgs] at hown hs3
  clear hb b1 b3 b5 hgs
  go_wp2_with fail
  go_loopg [8, 16] (n + 1) (fun g cy ix wr => ∃ (k cc : Nat) (L : List Nat), k ≤ n ∧ n < g + k ∧ ix = .int .i64 k ∧ cy = .int .u64 cc ∧ ByB x a b k n L cc ∧ wr.ownsRow gs 50 1 (.slice A1 n c1) n (vals .u64 L) ∧ Below w.heap.size w wr ∧ Blk wr (w.heap.size + 1) 25 #[.slice none 0 0] ∧ gs ≤ wr.heap.size)
  case atStart => exact ⟨0, b, _, Nat.zero_le _, by omega, rfl, rfl, hI.out, hown, hB, hk, hgw⟩
  case round =>
    clear hB hk hown hI hgw
    obtain ⟨k, cc, L, hkn, hg, rfl, rfl, hI, hown, hB, hk, hgw⟩ := hrel
    by_cases hlt : k < n
    · obtain ⟨g, cap, e, hgg, hR⟩ := Row64.of_own hown (by omega)
      injection e with e1 _ e3
      subst e1 e3
      have h2 := hR.cell k hlt
      rw [hI.get] at h2
      have h3 := hR.frozen k
      have hb2 := wd_lt x k
      have hc3 := hI.carry
      have hST := hI.step (s := wd x k * a + cc + 0) ha hlt rfl
      obtain ⟨p, hpp⟩ : ∃ b, wd x k = b := ⟨_, rfl⟩
      rw [hpp] at h2 hb2 hST
      have HMA := Lib.hid (fun w' => muladd_nat p a cc 0 hb2 ha hc3 (by decide) w')
      obtain ⟨s1, e1⟩ : ∃ s1, (p * a + cc + 0) % 18446744073709551616 = s1 := ⟨_, rfl⟩
      obtain ⟨s2, e2⟩ : ∃ s2, (p * a + cc + 0) / 18446744073709551616 = s2 := ⟨_, rfl⟩
      rw [e1, e2] at HMA hST
      have HST := Lib.hid hST
      have HRS := Lib.hid ((hR.set_ k s1 hlt).own hgg)
      have i1 : (0 : Int) ≤ (k : Int) := by omega
      have i2 : (k : Int) < (n : Int) := by omega
      have hBS := fun u => keep_below_set (p := ⟨g, k, none⟩) u (by show w.heap.size ≤ g; omega) hB
      have kS := fun u => hk.far (p := ⟨g, k, none⟩) (by show w.heap.size + 1 ≠ g; omega) u
      clear hST hpp e1 e2 hI hown hR
      go_wp2_with fail
      refine (HMA.out _).mono ?_
      rintro e w' ⟨rfl, rfl⟩
      go_wp2
      go_roundg (n - k)
      case measure => omega
      case rel => exact ⟨k + 1, s2, _, by omega, by omega, by go_num, rfl, HST.out, HRS.out, hBS _, kS _, by simpa using hgw⟩
    · have hkn2 : k = n := by omega
      subst hkn2
      have HD := Lib.hid (hI.done (by have := hln.out; omega))
      have hdg : Dgs 18446744073709551616 (L ++ [cc]) := hI.dgs.append (by intro d hd; simp at hd; subst hd; exact hI.carry)
      have HDG := Lib.hid hdg
      have hoa := hown.alloc (.cells #[.int .u64 (cc : Int)] 50)
      have hBa := keep_below_alloc (.cells #[.int .u64 (cc : Int)] 50) hB
      have hka := hk.alloc (.cells #[.int .u64 (cc : Int)] 50)
      have hsz := hB.size
      clear hI hdg
      go_wp2_with (at_builtin; refine wpList_append_any _ rfl (.tmp 32) (.tmp 34) 22 rfl gs 50 i0 (.int .u64 0) 1 8 Try.underlying22 hi0 hz0 hz1 hz2 rfl (by decide) (.slice A1 k c1) k (vals .u64 L) rfl hoa (wr.heap.size + 1) (some ⟨wr.heap.size, 0, none⟩) 1 1 [.int .u64 (cc : Int)] rfl ⟨rfl, fun _ => ⟨_, rfl, by simp, push_cells _ _ _⟩⟩ (push_one _ _) (by unfold maxLen; omega) (by omega) (by simp; omega) ?_; intro v' w1 hown' hgrow hat)
      obtain ⟨A2, c2, rfl, hc3, hc4, hr2⟩ := Reads.of_grown_own hown'
      have hB2 : Below w.heap.size w w1 := hBa.grown hgrow (by simp; omega) (fun g hg => by have := hoa.lt g hg; omega)
      have hk2 : Blk w1 (w.heap.size + 1) 25 #[.slice none 0 0] := hka.grown hgrow (fun h => by have := hoa.lt _ h.symm; omega)
      have O := nat_of A2 (k + 1) c2 (L ++ [cc]) w1 (by rw [vals_snoc]; exact hr2) HDG.out hc3 (by unfold maxLen at hc4; omega) (by omega)
      rw [HD.out] at O
      have HO := Lib.hid O
      clear O hown' hgrow hat hr2 hB hk hoa hBa hka
      go_wp2_with fail
      refine HO.out.mono ?_
      rintro e w' ⟨A3, n2, c3, rfl, hw, hb, hf⟩
      have hk3 := keep_blk hb hk2
      have hc1 : w'.cell? ⟨w.heap.size + 1, 0, none⟩ = some (.slice none 0 0) := hk3.cell 0
      have hf1 := hk3.frozen 0
      have hlt1 := hk2.lt
      have HG : Hid (GivesN2 w (x * a + b) (.returned (.agg #[.slice A3 n2 c3])) (w'.setCell ⟨w.heap.size + 1, 0, none⟩ (.slice A3 n2 c3))) :=
        done_set hw (keep_below hB2 hb) (by show _ ≤ _; simp) (fun ad e => by have := hf ad e; show ad.block ≠ _; simp; omega) (fun ad e => by have := hf ad e; omega) _
      clear hb hw hf hk2 hk3 hB2
      go_wp2
      refine bodyPost_ret (v := .agg #[.slice A3 n2 c3]) (by simp [results, Try.results25, go_sem, hc1]) rfl ?_
      exact HG.out
end Go.Proofs.Ytnnhcicdildfaaa
