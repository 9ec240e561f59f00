/-
  The contracts of prod's Mul and Square: the product. Conditions: the values are numbers; lengths up to 2 to the 38.
  The contract of prod's ByWord: a number by a word, and a word more. Conditions: the value is a number, the others are words; its length is up to 2 to the 38.
  The contract of prod's Pow: a power, or that there is none. Conditions: the value is a number of up to 2 to the 38 words.
-/
import Derived.Test.YtnfednkphcapnaaRows
import Derived.Test.YtnfednkphcapnaaBunO
import Derived.Test.YtnfednkphcapnaaBunM
import Derived.Test.YtnfednkphcapnaaBunW
import Derived.Test.YtnfednkphcapnaaBunE
import Derived.Test.YtnfednkphcapnaaBunN
import Derived.WalkKit
import Derived.Lib.Hide
import Derived.Outline
import Derived.LoopTactic
import Derived.Deep.LoopGhost
import Derived.IntWalk
namespace Go.Proofs.Ytnfednkphcapnaa
open Go Go.RowKit
set_option maxRecDepth 100000
set_option linter.unusedVariables false
/-- One step of a row: MulAdd, over numbers. -/
theorem muladd_nat (p q r s : Nat) (hp : p < 18446744073709551616) (hq : q < 18446744073709551616) (hr : r < 18446744073709551616) (hs : s < 18446744073709551616) (w : World) :
    Calls Try.prog 72 #[.int .u64 p, .int .u64 q, .int .u64 r, .int .u64 s] w fun e w' => e = .returned (.tuple #[.int .u64 (((p * q + r + s) / 18446744073709551616 : Nat) : Int), .int .u64 (((p * q + r + s) % 18446744073709551616 : Nat) : Int)]) ∧ w = w' := by
  have h := word_muladd p q r s ⟨by omega, by omega⟩ ⟨by omega, by omega⟩ ⟨by omega, by omega⟩ ⟨by omega, by omega⟩ w
  rw [(ma_nat p q r s).1, (ma_nat p q r s).2] at h
  exact h
set_option maxHeartbeats 4000000 in
theorem prod_mul (x y : Nat) (A D : Option Addr) (n m c d : Nat) (w : World) (hA : WordsIn w x A n c) (hD : WordsIn w y D m d) (hn : n ≤ 274877906944) (hm : m ≤ 274877906944) :
    Calls Try.prog 48 #[.agg #[.slice A n c], .agg #[.slice D m d]] w (GivesN2 w (x * y)) := by
  obtain ⟨i0, hi0, hz0, hz1, hz2⟩ := info_parts infoU
  have hln := Lib.hid hA.len
  have hlm := Lib.hid hD.len
  have HA := Lib.hid (fun w' (hb : Below w.heap.size w w') => hA.below hb)
  have HW := (fun w' (hb : Below w.heap.size w w') => nat_words y D m d w' (hD.below hb) (by omega))
  unfold GivesW at HW
  rw [hlm.out] at HW
  have HWS := Lib.hid HW
  obtain ⟨N, hN⟩ : ∃ N, n + m = N := ⟨_, rfl⟩
  have HN := Lib.hid hN
  have hN1 : N ≤ 549755813888 := by omega
  obtain ⟨Z, hZ⟩ : ∃ Z, madeCells (Value.cells (.int .u64 0)) N = Z := ⟨_, rfl⟩
  have hmk : ∀ W : World, (Instr.makeSlice 22 (.int .i64 ((n : Int) + (m : Int))) (.int .i64 ((n : Int) + (m : Int)))).run Try.prog W = .ok (.slice (some ⟨W.heap.size, 0, none⟩) N N) (W.alloc (.cells Z 77)) := fun W => by
    have h := run_make_rowN _ _ i0 _ Try.underlying22 hi0 hz0 .i64 .i64 N N (Nat.le_refl _) (by rw [hz2]; omega) (by omega) W
    rw [hz1, Nat.mul_one, hZ] at h
    rw [show (n : Int) + (m : Int) = (N : Int) from by omega]
    exact h
  have HZ := Lib.hid hZ
  clear hZ hA hD hN HW
  go_enter Try.func48, Try.ntmps48
  go_wp2_with fail
  generalize hW : ((w.alloc (.cells #[.slice A n c] 27)).alloc (.cells #[.slice D m d] 27)).alloc (.cells #[.slice none 0 0] 27) = W0
  obtain ⟨b1, b2, b3, b4, b5⟩ := box3 w 27 27 27 #[.slice A n c] #[.slice D m d] #[.slice none 0 0]
  rw [hW] at b1 b2 b3 b4 b5
  have g1 : W0.cell? ⟨w.heap.size, 0, none⟩ = some (.slice A n c) := b2.cell 0
  clear hW b2 b3
  refine (HWS.out _ b1).mono ?_
  rintro e w1 ⟨A1, c1, rfl, hr1, _, ⟨_, hfr⟩, hb⟩
  have hB := keep_below b1 hb
  have g1 := keep_cell hb g1
  have hk := keep_blk hb b4
  have hs3 : w.heap.size + 3 ≤ w1.heap.size := Nat.le_trans b5 hb.size
  clear hb b1 b4 b5 hfr
  go_wp2_with fail
  refine (nat_len x _ _ _ _).mono ?_
  rintro e w2 ⟨rfl, hb⟩
  have hB := keep_below hB hb
  have g1 := keep_cell hb g1
  have hk := keep_blk hb hk
  have hr1 := (hr1.below hb).more hb.size
  have hs3 : w.heap.size + 3 ≤ w2.heap.size := Nat.le_trans hs3 hb.size
  have g1a := fun o => keep_cell_alloc o g1
  clear hb
  go_wp2_with fail
  have hR : Row64 (w2.alloc (.cells Z 77)) 77 w2.heap.size N N (List.replicate N 0) := by
    have h := Row64.made w2 77 N (by unfold maxLen; omega)
    rw [HZ.out] at h
    exact h
  obtain ⟨gs, hgs⟩ : ∃ g, w2.heap.size = g := ⟨_, rfl⟩
  have hB := keep_below_alloc (.cells Z 77) hB
  have g1 := keep_cell_alloc (.cells Z 77) g1
  have hk := hk.alloc (.cells Z 77)
  have hr1 := (hr1.alloc (Nat.le_refl _) (.cells Z 77)).more (B' := gs) (by omega)
  rw [hgs] at hR hs3
  generalize w2.alloc (.cells Z 77) = W3 at *
  rw [hgs]
  clear hgs hmk g1a
  refine (nat_len x _ _ _ _).mono ?_
  rintro e w4 ⟨rfl, hb⟩
  have hB := keep_below hB hb
  have g1 := keep_cell hb g1
  have hk := keep_blk hb hk
  have hr1 := hr1.below (hb.mono (Nat.le_of_lt hR.lt))
  have hR := hR.keep hb
  have hI := Lib.hid (MulB.start x y m N)
  clear hb
  go_wp2_with fail
  go_loopg [22] (n + 1) (fun g ix wr => ∃ (k : Nat) (L : List Nat), k ≤ n ∧ n < g + k ∧ ix = .int .i64 k ∧ MulB x y k m N L ∧ Row64 wr 77 gs N N L ∧ Below w.heap.size w wr ∧ wr.cell? ⟨w.heap.size, 0, none⟩ = some (.slice A n c) ∧ Blk wr (w.heap.size + 1 + 1) 27 #[.slice none 0 0] ∧ Reads wr gs 1 A1 m (vals .u64 (dg 18446744073709551616 y)))
  case atStart => exact ⟨0, _, Nat.zero_le _, by omega, rfl, hI.out, hR, hB, g1, hk, hr1⟩
  case round =>
    clear hB g1 hk hr1 hR hI
    obtain ⟨k, L0, hkn, hg, rfl, hM, hR, hB, g1, hk, hr1⟩ := hrel
    obtain ⟨wo, hwo⟩ : ∃ wo, wo = wr := ⟨_, rfl⟩
    subst hwo
    by_cases hlt : k < n
    · have WX := Lib.hid (fun w' (h : Below w.heap.size w w') => nat_word x A n c k w' (HA.out w' h))
      have ha := wd_lt x k
      have hRB := Lib.hid (RowB.start y (wd x k) k hM.len hM.dgs)
      have hMS := Lib.hid (fun L c (h : RowB L0 y (wd x k) k m N L c) => MulB.step hM h (by have := hlm.out; omega) (by have := HN.out; omega))
      obtain ⟨a, haa⟩ : ∃ a, wd x k = a := ⟨_, rfl⟩
      rw [haa] at WX ha hRB hMS
      clear haa hM
      go_wp2_with fail
      refine (WX.out _ hB).mono ?_
      rintro e w5 ⟨rfl, hb⟩
      have hB := keep_below hB hb
      have g1 := keep_cell hb g1
      have hk := keep_blk hb hk
      have hr1 := hr1.below (hb.mono (Nat.le_of_lt hR.lt))
      have hR := hR.keep hb
      clear hb
      go_wp2_with fail
      go_loopg [9, 30] (m + 1) (fun g cy jx wr => ∃ (j cc : Nat) (L : List Nat), j ≤ m ∧ m < g + j ∧ jx = .int .i64 j ∧ cy = .int .u64 cc ∧ RowB L0 y a k j N L cc ∧ Row64 wr 77 gs N N L ∧ Below w.heap.size w wr ∧ wr.cell? ⟨w.heap.size, 0, none⟩ = some (.slice A n c) ∧ Blk wr (w.heap.size + 1 + 1) 27 #[.slice none 0 0] ∧ Reads wr gs 1 A1 m (vals .u64 (dg 18446744073709551616 y)))
      case atStart => exact ⟨0, 0, L0, Nat.zero_le _, by omega, rfl, rfl, hRB.out, hR, hB, g1, hk, hr1⟩
      case round =>
        clear hB g1 hk hr1 hR hRB
        obtain ⟨j, cc, L, hjm, hg2, rfl, rfl, hI, hR, hB, g1, hk, hr1⟩ := hrel
        by_cases hjl : j < m
        · have hNN := HN.out
          obtain ⟨ad, rfl, hadb, h1⟩ := val_at hr1 (k := j) hjl
          rw [wd_get] at h1
          have hp := hI.dgs.getD (by decide) (k + j)
          have h2 := hR.cell (k + j) (by omega)
          have h3 := hR.frozen (k + j)
          have hb2 := wd_lt y j
          have hc2 := hI.carry
          have hST := hI.step (s := wd y j * a + L.getD (k + j) 0 + cc) ha (by omega) rfl
          obtain ⟨b, hbb⟩ : ∃ b, wd y j = b := ⟨_, rfl⟩
          obtain ⟨p, hpp⟩ : ∃ b, L.getD (k + j) 0 = b := ⟨_, rfl⟩
          rw [hbb] at h1 hb2 hST
          rw [hpp] at h2 hp hST
          have HMA := Lib.hid (fun w' => muladd_nat b a p cc hb2 ha hp hc2 w')
          obtain ⟨s1, e1⟩ : ∃ s1, (b * a + p + cc) % 18446744073709551616 = s1 := ⟨_, rfl⟩
          obtain ⟨s2, e2⟩ : ∃ s2, (b * a + p + cc) / 18446744073709551616 = s2 := ⟨_, rfl⟩
          rw [e1, e2] at HMA hST
          have HST := Lib.hid hST
          have HRS := Lib.hid (hR.set_ (k + j) s1 (by omega))
          obtain ⟨q, hq⟩ : ∃ q, k + j = q := ⟨_, rfl⟩
          rw [hq] at h2 h3 HST HRS
          have i1 : (0 : Int) ≤ (k : Int) + (j : Int) := by omega
          have i2 : (k : Int) + (j : Int) < (N : Int) := by omega
          have i3 : ((k : Int) + (j : Int)).toNat = q := by omega
          have hBS := fun u => keep_below_set (p := ⟨gs, q, none⟩) u (by show w.heap.size ≤ gs; omega) hB
          have gS := fun u => keep_cell_set (p := ⟨w.heap.size, 0, none⟩) (q := ⟨gs, q, none⟩) u (by show w.heap.size ≠ gs; omega) g1
          have kS := fun u => hk.far (p := ⟨gs, q, none⟩) (by show w.heap.size + 1 + 1 ≠ gs; omega) u
          clear hST hbb hpp e1 e2 hI hq hNN
          go_wp2_with fail
          refine (HMA.out _).mono ?_
          rintro e w' ⟨rfl, rfl⟩
          go_wp2
          go_roundg (m - j)
          case measure => omega
          case rel => exact ⟨j + 1, s2, _, by omega, by omega, by go_num, rfl, HST.out, HRS.out, hBS _, gS _, kS _, hr1.setCell (Nat.le_refl _) _⟩
        · have hjm2 : j = m := by omega
          subst hjm2
          have hNN := HN.out
          have h3 := hR.frozen (k + j)
          have HMN := Lib.hid (hMS.out L cc hI)
          have HRS := Lib.hid (hR.set_ (k + j) cc (by omega))
          obtain ⟨u, hu⟩ : ∃ u, wr.cell? ⟨gs, k + j, none⟩ = some u := ⟨_, hR.cell (k + j) (by omega)⟩
          obtain ⟨q, hq⟩ : ∃ q, k + j = q := ⟨_, rfl⟩
          rw [hq] at h3 HMN HRS hu
          have i1 : (0 : Int) ≤ (k : Int) + (j : Int) := by omega
          have i2 : (k : Int) + (j : Int) < (N : Int) := by omega
          have i3 : ((k : Int) + (j : Int)).toNat = q := by omega
          have hBS := fun u => keep_below_set (p := ⟨gs, q, none⟩) u (by show w.heap.size ≤ gs; omega) hB
          have gS := fun u => keep_cell_set (p := ⟨w.heap.size, 0, none⟩) (q := ⟨gs, q, none⟩) u (by show w.heap.size ≠ gs; omega) g1
          have kS := fun u => hk.far (p := ⟨gs, q, none⟩) (by show w.heap.size + 1 + 1 ≠ gs; omega) u
          clear hI hq hNN hMS
          go_wp2
          go_roundg (n - k)
          case measure => omega
          case rel => exact ⟨k + 1, _, by omega, by omega, by go_num, HMN.out, HRS.out, hBS _, gS _, kS _, hr1.setCell (Nat.le_refl _) _⟩
    · have hkn2 : k = n := by omega
      subst hkn2
      have hNN := HN.out
      have e := MulB.done (L := L0) (by rw [hNN]; exact hM) (by have := hln.out; omega)
      have O := nat_of (some ⟨gs, 0, none⟩) N N L0 wo hR.reads hM.dgs (Nat.le_refl _) (by omega) (by omega)
      rw [e] at O
      have HO := Lib.hid O
      clear O e hNN hM
      go_wp2_with fail
      refine HO.out.mono ?_
      rintro e w' ⟨A2, n2, c2, rfl, hw, hb, hf⟩
      have hk2 := keep_blk hb hk
      have hc1 : w'.cell? ⟨w.heap.size + 1 + 1, 0, none⟩ = some (.slice none 0 0) := hk2.cell 0
      have hf1 := hk2.frozen 0
      have hsz := hR.lt
      have HG : Hid (GivesN2 w (x * y) (.returned (.agg #[.slice A2 n2 c2])) (w'.setCell ⟨w.heap.size + 1 + 1, 0, none⟩ (.slice A2 n2 c2))) :=
        done_set hw (keep_below hB hb) (by show _ ≤ _; simp; omega) (fun ad e => by have := hf ad e; show ad.block ≠ _; simp; omega) (fun ad e => by have := hf ad e; omega) _
      clear hb hw hf hk2 hsz hk hB g1 hr1 hR
      go_wp2
      refine bodyPost_ret (v := .agg #[.slice A2 n2 c2]) (by simp [results, Try.results48, go_sem, hc1]) rfl ?_
      exact HG.out
end Go.Proofs.Ytnfednkphcapnaa
namespace Go.Proofs.Ytnfednkphcapnaa
open Go Go.RowKit
set_option maxRecDepth 100000
set_option linter.unusedVariables false
set_option maxHeartbeats 4000000 in
theorem prod_byword (x a b : Nat) (A : Option Addr) (n c : Nat) (w : World) (hA : WordsIn w x A n c) (hn : n ≤ 274877906944) (ha : a < 18446744073709551616) (hb : b < 18446744073709551616) :
    Calls Try.prog 84 #[.agg #[.slice A n c], .int .u64 a, .int .u64 b] w (GivesN2 w (x * a + b)) := by
  obtain ⟨i0, hi0, hz0, hz1, hz2⟩ := info_parts infoU
  have hln := Lib.hid hA.len
  have HWS := Lib.hid (fun w' (hb : Below w.heap.size w w') => nat_words_own x A n c w' (hA.below hb) (by omega))
  have hI := Lib.hid (ByB.start (a := a) hA.len hb)
  clear hA hb
  go_enter Try.func84, Try.ntmps84
  go_wp2_with fail
  generalize hW : (w.alloc (.cells #[.slice A n c] 27)).alloc (.cells #[.slice none 0 0] 27) = W0
  obtain ⟨b1, b2, b3, b5⟩ := box2 w 27 27 #[.slice A n c] #[.slice none 0 0]
  rw [hW] at b1 b2 b3 b5
  clear hW b2
  refine (HWS.out _ b1).mono ?_
  rintro e w1 ⟨v, rfl, hown, hb⟩
  obtain ⟨A1, c1, rfl, hc1, hc2, _⟩ := Reads.of_grown_own hown
  have hB := keep_below b1 hb
  have hk := keep_blk hb b3
  have hs3 : w.heap.size + 2 ≤ W0.heap.size := b5
  obtain ⟨gs, hgs⟩ : ∃ g, W0.heap.size = g := ⟨_, rfl⟩
  have hgw : gs ≤ w1.heap.size := by rw [← hgs]; exact hb.size
  rw [hgs] at hown hs3
  clear hb b1 b3 b5 hgs
  go_wp2_with fail
  go_loopg [8, 16] (n + 1) (fun g cy ix wr => ∃ (k cc : Nat) (L : List Nat), k ≤ n ∧ n < g + k ∧ ix = .int .i64 k ∧ cy = .int .u64 cc ∧ ByB x a b k n L cc ∧ wr.ownsRow gs 77 1 (.slice A1 n c1) n (vals .u64 L) ∧ Below w.heap.size w wr ∧ Blk wr (w.heap.size + 1) 27 #[.slice none 0 0] ∧ gs ≤ wr.heap.size)
  case atStart => exact ⟨0, b, _, Nat.zero_le _, by omega, rfl, rfl, hI.out, hown, hB, hk, hgw⟩
  case round =>
    clear hB hk hown hI hgw
    obtain ⟨k, cc, L, hkn, hg, rfl, rfl, hI, hown, hB, hk, hgw⟩ := hrel
    by_cases hlt : k < n
    · obtain ⟨g, cap, e, hgg, hR⟩ := Row64.of_own hown (by omega)
      injection e with e1 _ e3
      subst e1 e3
      have h2 := hR.cell k hlt
      rw [hI.get] at h2
      have h3 := hR.frozen k
      have hb2 := wd_lt x k
      have hc3 := hI.carry
      have hST := hI.step (s := wd x k * a + cc + 0) ha hlt rfl
      obtain ⟨p, hpp⟩ : ∃ b, wd x k = b := ⟨_, rfl⟩
      rw [hpp] at h2 hb2 hST
      have HMA := Lib.hid (fun w' => muladd_nat p a cc 0 hb2 ha hc3 (by decide) w')
      obtain ⟨s1, e1⟩ : ∃ s1, (p * a + cc + 0) % 18446744073709551616 = s1 := ⟨_, rfl⟩
      obtain ⟨s2, e2⟩ : ∃ s2, (p * a + cc + 0) / 18446744073709551616 = s2 := ⟨_, rfl⟩
      rw [e1, e2] at HMA hST
      have HST := Lib.hid hST
      have HRS := Lib.hid ((hR.set_ k s1 hlt).own hgg)
      have i1 : (0 : Int) ≤ (k : Int) := by omega
      have i2 : (k : Int) < (n : Int) := by omega
      have hBS := fun u => keep_below_set (p := ⟨g, k, none⟩) u (by show w.heap.size ≤ g; omega) hB
      have kS := fun u => hk.far (p := ⟨g, k, none⟩) (by show w.heap.size + 1 ≠ g; omega) u
      clear hST hpp e1 e2 hI hown hR
      go_wp2_with fail
      refine (HMA.out _).mono ?_
      rintro e w' ⟨rfl, rfl⟩
      go_wp2
      go_roundg (n - k)
      case measure => omega
      case rel => exact ⟨k + 1, s2, _, by omega, by omega, by go_num, rfl, HST.out, HRS.out, hBS _, kS _, by simpa using hgw⟩
    · have hkn2 : k = n := by omega
      subst hkn2
      have HD := Lib.hid (hI.done (by have := hln.out; omega))
      have hdg : Dgs 18446744073709551616 (L ++ [cc]) := hI.dgs.append (by intro d hd; simp at hd; subst hd; exact hI.carry)
      have HDG := Lib.hid hdg
      have hoa := hown.alloc (.cells #[.int .u64 (cc : Int)] 77)
      have hBa := keep_below_alloc (.cells #[.int .u64 (cc : Int)] 77) hB
      have hka := hk.alloc (.cells #[.int .u64 (cc : Int)] 77)
      have hsz := hB.size
      clear hI hdg
      go_wp2_with (at_builtin; refine wpList_append_any _ rfl (.tmp 32) (.tmp 34) 22 rfl gs 77 i0 (.int .u64 0) 1 8 Try.underlying22 hi0 hz0 hz1 hz2 rfl (by decide) (.slice A1 k c1) k (vals .u64 L) rfl hoa (wr.heap.size + 1) (some ⟨wr.heap.size, 0, none⟩) 1 1 [.int .u64 (cc : Int)] rfl ⟨rfl, fun _ => ⟨_, rfl, by simp, push_cells _ _ _⟩⟩ (push_one _ _) (by unfold maxLen; omega) (by omega) (by simp; omega) ?_; intro v' w1 hown' hgrow hat)
      obtain ⟨A2, c2, rfl, hc3, hc4, hr2⟩ := Reads.of_grown_own hown'
      have hB2 : Below w.heap.size w w1 := hBa.grown hgrow (by simp; omega) (fun g hg => by have := hoa.lt g hg; omega)
      have hk2 : Blk w1 (w.heap.size + 1) 27 #[.slice none 0 0] := hka.grown hgrow (fun h => by have := hoa.lt _ h.symm; omega)
      have O := nat_of A2 (k + 1) c2 (L ++ [cc]) w1 (by rw [vals_snoc]; exact hr2) HDG.out hc3 (by unfold maxLen at hc4; omega) (by omega)
      rw [HD.out] at O
      have HO := Lib.hid O
      clear O hown' hgrow hat hr2 hB hk hoa hBa hka
      go_wp2_with fail
      refine HO.out.mono ?_
      rintro e w' ⟨A3, n2, c3, rfl, hw, hb, hf⟩
      have hk3 := keep_blk hb hk2
      have hc1 : w'.cell? ⟨w.heap.size + 1, 0, none⟩ = some (.slice none 0 0) := hk3.cell 0
      have hf1 := hk3.frozen 0
      have hlt1 := hk2.lt
      have HG : Hid (GivesN2 w (x * a + b) (.returned (.agg #[.slice A3 n2 c3])) (w'.setCell ⟨w.heap.size + 1, 0, none⟩ (.slice A3 n2 c3))) :=
        done_set hw (keep_below hB2 hb) (by show _ ≤ _; simp) (fun ad e => by have := hf ad e; show ad.block ≠ _; simp; omega) (fun ad e => by have := hf ad e; omega) _
      clear hb hw hf hk2 hk3 hB2
      go_wp2
      refine bodyPost_ret (v := .agg #[.slice A3 n2 c3]) (by simp [results, Try.results84, go_sem, hc1]) rfl ?_
      exact HG.out
end Go.Proofs.Ytnfednkphcapnaa
namespace Go.Proofs.Ytnfednkphcapnaa
open Go Go.RowKit
set_option maxRecDepth 100000
set_option linter.unusedVariables false
theorem low1i (c : Nat) (hc : c < 9223372036854775808) : bits .and .i64 (c : Int) 1 = ((c % 2 : Nat) : Int) := by
  have h1 : (BitVec.ofInt 64 (c : Int)).toNat = c := by
    rw [BitVec.ofInt_natCast, BitVec.toNat_ofNat]; exact Nat.mod_eq_of_lt (by omega)
  have h2 : (BitVec.ofInt 64 (1 : Int)).toNat = 1 := by decide
  show IntKind.i64.wrap ((BitVec.ofInt 64 (c : Int) &&& BitVec.ofInt 64 1).toNat : Int) = _
  rw [BitVec.toNat_and, h1, h2, show c &&& 1 = c % 2 from Nat.and_two_pow_sub_one_eq_mod c 1]
  exact IntWalk.i64_in _ (by omega)
theorem pow_le1 {x : Nat} (hx : x ≤ 1) (e : Nat) : x ^ e ≤ 1 := by
  have : x = 0 ∨ x = 1 := by omega
  rcases this with rfl | rfl
  · rcases Nat.eq_zero_or_pos e with rfl | h
    · decide
    · rw [Nat.zero_pow h]; omega
  · rw [Nat.one_pow]; omega
theorem bit_le1 {x : Nat} (h : bitLen x ≤ 1) : x ≤ 1 := by
  rcases Nat.lt_or_ge 1 x with h1 | h1
  · have h2 : bitLen x = bitLen x := rfl
    unfold bitLen at h
    rw [if_neg (by omega)] at h
    have h3 := Nat.lt_log2_self (n := x)
    have : x.log2 = 0 := by omega
    rw [this] at h3; omega
  · exact h1
theorem lt_bits (x : Nat) : x < 2 ^ bitLen x := by
  unfold bitLen
  split
  · rename_i h; subst h; decide
  · exact Nat.lt_log2_self
/-- No power on the way is long. -/
theorem pow_lens {x k : Nat} (h : bitLen x ≤ 1 ∨ k * bitLen x ≤ 65536) (e : Nat) (he : e ≤ k) : (dg 18446744073709551616 (x ^ e)).length ≤ 1025 := by
  obtain ⟨M, hM⟩ : ∃ M, 1025 = M := ⟨_, rfl⟩
  rw [hM]
  refine dg_len_le (by decide) _ _ ?_
  have hB : (18446744073709551616 : Nat) ^ M = 2 ^ (64 * M) := by rw [show (18446744073709551616 : Nat) = 2 ^ 64 from rfl, ← Nat.pow_mul]
  rw [hB]
  rcases h with h | h
  · exact Nat.lt_of_le_of_lt (pow_le1 (bit_le1 h) e) (Nat.lt_of_lt_of_le (by decide : 1 < 2 ^ 1) (Nat.pow_le_pow_right (by decide) (by omega)))
  · have h1 : x ^ e ≤ (2 ^ bitLen x) ^ e := Nat.pow_le_pow_left (Nat.le_of_lt (lt_bits x)) e
    rw [← Nat.pow_mul] at h1
    have h2 : bitLen x * e ≤ k * bitLen x := by rw [Nat.mul_comm k]; exact Nat.mul_le_mul_left _ he
    exact Nat.lt_of_le_of_lt h1 ((Nat.pow_lt_pow_iff_right (by decide)).2 (by omega))
theorem shr_step (k j : Nat) : k / 2 ^ j = k / 2 ^ (j + 1) + k / 2 ^ (j + 1) + k / 2 ^ j % 2 := by
  rw [Nat.pow_succ, ← Nat.div_div_eq_div_mul]; omega
end Go.Proofs.Ytnfednkphcapnaa
