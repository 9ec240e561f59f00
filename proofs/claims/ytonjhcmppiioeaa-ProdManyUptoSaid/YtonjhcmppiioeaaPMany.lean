/-
  The contracts of prod's Of and Sum: the product and the sum of many. Conditions: a slice of numbers; they, and all that is made of them on the way, have up to 2 to the 37 words.
-/
import Derived.Test.YtonjhcmppiioeaaRows
import Derived.Test.YtonjhcmppiioeaaNNums
import Derived.Test.YtonjhcmppiioeaaN2Lits
import Derived.Test.YtonjhcmppiioeaaPMul
import Derived.Test.YtonjhcmppiioeaaNAdd
import Derived.Test.YtonjhcmppiioeaaPPow
import Derived.WalkKit
import Derived.Lib.Hide
import Derived.Outline
import Derived.LoopTactic
import Derived.Deep.LoopGhost
import Derived.IntWalk
namespace Go.Proofs.Ytonjhcmppiioeaa
open Go Go.RowKit
set_option maxRecDepth 100000
set_option linter.unusedVariables false
set_option linter.unusedSimpArgs false
/-- The product of all. -/
def prodL (xs : List Nat) : Nat := xs.foldl (fun a b => a * b) 1
theorem prodL_succ (xs : List Nat) (k : Nat) (h : k < xs.length) : prodL (xs.take (k + 1)) = prodL (xs.take k) * xs.getD k 0 := by
  unfold prodL
  rw [List.take_succ_eq_append_getElem h, List.foldl_append]
  simp [List.getD, List.getElem?_eq_getElem h]
set_option maxHeartbeats 4000000 in
theorem prod_of (xs : List Nat) (A : Option Addr) (n c : Nat) (w : World) (h : NumsIn w A n c xs) (hn : n ≤ 1099511627776) (hs : ∀ k, k ≤ n → (dg 18446744073709551616 (prodL (xs.take k))).length ≤ 137438953472) (he : ∀ i, i < n → (dg 18446744073709551616 (xs.getD i 0)).length ≤ 137438953472) :
    Calls Try.prog 25 #[.slice A n c] w (GivesN2 w (prodL xs)) := by
  have HN := Lib.hid (fun w' (hb : Below w.heap.size w w') => h.below hb)
  have HS := Lib.hid hs
  have HE := Lib.hid he
  have HSU := Lib.hid (fun k (hk : k < n) => prodL_succ xs k (by rw [h.len]; exact hk))
  have HF : Hid (prodL (xs.take n) = prodL xs) := by
    show _ = _
    rw [List.take_of_length_le (by rw [h.len]; exact Nat.le_refl _)]
  clear h hs he
  go_enter Try.func25, Try.ntmps25
  go_wp2_with fail
  obtain ⟨b1, b2, b3, b5⟩ := box2 w 29 23 #[.slice none 0 0] #[.int .u64 1]
  generalize (w.alloc (.cells #[.slice none 0 0] 29)).alloc (.cells #[.int .u64 1] 23) = V1 at *
  refine (of_lits _ [1] V1 _ 1 1 b3 rfl rfl (dgs1 1 (by decide)) rfl (by decide)).mono ?_
  rintro e w2 ⟨A2, n2, c2, rfl, hw, hb, hf⟩
  have hB := keep_below b1 hb
  have hk1 := keep_blk hb b2
  have hs1 : w.heap.size + 1 ≤ V1.heap.size := by omega
  have hs3 : V1.heap.size ≤ w2.heap.size := hb.size
  have hw := hw.below (up_alloc w2 (.cells #[.slice A2 n2 c2] 29))
  have hp := Blk.new w2 29 #[.slice A2 n2 c2]
  have hB := keep_below_alloc (.cells #[.slice A2 n2 c2] 29) hB
  have hk1 := hk1.alloc (.cells #[.slice A2 n2 c2] 29)
  clear hb b1 b2 b5 b3
  go_wp2_with fail
  generalize w2.alloc (.cells #[.slice A2 n2 c2] 29) = W2 at *
  generalize w2.heap.size = gp at *
  go_loopg [10] (n + 1) (fun g ix wr => ∃ (k : Nat) (Ap : Option Addr) (np cp : Nat), k ≤ n ∧ n < g + k ∧ ix = .int .i64 k ∧ WordsIn wr (prodL (xs.take k)) Ap np cp ∧ Fresh V1 Ap ∧ Blk wr gp 29 #[.slice Ap np cp] ∧ Below w.heap.size w wr ∧ Blk wr w.heap.size 29 #[.slice none 0 0])
  case atStart => exact ⟨0, A2, n2, c2, Nat.zero_le _, by omega, rfl, hw, hf, hp, hB, hk1⟩
  case round =>
    clear hw hf hp hB hk1
    obtain ⟨k, Ap, np, cp, hkn, hg, rfl, hw, hf, hp, hB, hk1⟩ := hrel
    by_cases hlt : k < n
    · obtain ⟨ad, B, m, d, rfl, hadb, hcl, hx⟩ := (HN.out _ hB).num k hlt
      have hnp : np ≤ 137438953472 := by rw [← hw.len]; exact HS.out k hkn
      have hmx : m ≤ 137438953472 := by rw [← hx.len]; exact HE.out k hlt
      have hcl2 : ∀ o, (wr.alloc o).cell? (ad.add k) = some (.slice B m d) := fun o => keep_cell_alloc o hcl
      have st := up_alloc wr (.cells #[.slice B m d] 29)
      have hc2 : (wr.alloc (.cells #[.slice B m d] 29)).cell? ⟨gp, 0, none⟩ = some (.slice Ap np cp) := keep_cell st (hp.cell 0)
      have hc3 : (wr.alloc (.cells #[.slice B m d] 29)).cell? ⟨wr.heap.size, 0, none⟩ = some (.slice B m d) := (Blk.new wr _ _).cell 0
      have HM := Lib.hid (prod_mul (prodL (xs.take k)) (xs.getD k 0) Ap B np m cp d _ (hw.below st) (hx.below st) (by omega) (by omega))
      have hB1 := keep_below hB st
      have hp1 := keep_blk st hp
      have hk2 := keep_blk st hk1
      have hgl := hp.lt
      have hsz : wr.heap.size ≤ (wr.alloc (.cells #[.slice B m d] 29)).heap.size := st.size
      have i1 : (0 : Int) ≤ (k : Int) := by omega
      have i2 : (k : Int) < (n : Int) := by omega
      clear hw hx hp hB hk1 st
      go_wp2_with fail
      refine HM.out.mono ?_
      rintro e w3 ⟨A3, n3, c3, rfl, hw3, hb, hf3⟩
      rw [← HSU.out k hlt] at hw3
      have hB3 := keep_below hB1 hb
      have hp3 := keep_blk hb hp1
      have hk3 := keep_blk hb hk2
      have hf4 := hp3.frozen 0
      have hc4 := hp3.cell 0
      have hw4 := words_set hw3 (p := ⟨gp, 0, none⟩) (fun ad e => by have := hf3 ad e; show ad.block ≠ gp; omega) (.slice A3 n3 c3)
      have hB4 := keep_below_set (p := ⟨gp, 0, none⟩) (.slice A3 n3 c3) (by show w.heap.size ≤ gp; omega) hB3
      have hk4 := hk3.far (p := ⟨gp, 0, none⟩) (by show w.heap.size ≠ gp; omega) (.slice A3 n3 c3)
      have hp4 := blk_set1 hp3 (.slice A3 n3 c3)
      have hf5 : Fresh V1 A3 := fun ad e => by have := hf3 ad e; omega
      clear hb hB1 hp1 hk2 hB3 hp3 hk3 hw3 hc2 hc3 hcl hcl2 hf3 hsz
      go_wp2
      go_roundg (n - k)
      case measure => omega
      case rel => exact ⟨k + 1, A3, n3, c3, by omega, by omega, by go_num, hw4, hf5, hp4, hB4, hk4⟩
    · have hkn2 : k = n := by omega
      subst hkn2
      rw [HF.out] at hw
      have hc1 := hk1.cell 0
      have hf1 := hk1.frozen 0
      have hc2 := hp.cell 0
      have HG : Hid (GivesN2 w (prodL xs) (.returned (.agg #[.slice Ap np cp])) (wr.setCell ⟨w.heap.size, 0, none⟩ (.slice Ap np cp))) :=
        done_set hw hB (Nat.le_refl _) (fun ad e => by have := hf ad e; show ad.block ≠ w.heap.size; omega) (fun ad e => by have := hf ad e; omega) _
      clear hw hf hp hB hk1
      go_wp2
      refine bodyPost_ret (v := .agg #[.slice Ap np cp]) (by simp [results, Try.results25, go_sem, hc1]) rfl ?_
      exact HG.out
/-- The sum of all. -/
def sumL (xs : List Nat) : Nat := xs.foldl (fun a b => a + b) 0
theorem sumL_succ (xs : List Nat) (k : Nat) (h : k < xs.length) : sumL (xs.take (k + 1)) = sumL (xs.take k) + xs.getD k 0 := by
  unfold sumL
  rw [List.take_succ_eq_append_getElem h, List.foldl_append]
  simp [List.getD, List.getElem?_eq_getElem h]
set_option maxHeartbeats 4000000 in
theorem prod_sum (xs : List Nat) (A : Option Addr) (n c : Nat) (w : World) (h : NumsIn w A n c xs) (hn : n ≤ 1099511627776) (hs : ∀ k, k ≤ n → (dg 18446744073709551616 (sumL (xs.take k))).length ≤ 137438953472) (he : ∀ i, i < n → (dg 18446744073709551616 (xs.getD i 0)).length ≤ 137438953472) :
    Calls Try.prog 26 #[.slice A n c] w (GivesN2 w (sumL xs)) := by
  have HN := Lib.hid (fun w' (hb : Below w.heap.size w w') => h.below hb)
  have HS := Lib.hid hs
  have HE := Lib.hid he
  have HSU := Lib.hid (fun k (hk : k < n) => sumL_succ xs k (by rw [h.len]; exact hk))
  have HF : Hid (sumL (xs.take n) = sumL xs) := by
    show _ = _
    rw [List.take_of_length_le (by rw [h.len]; exact Nat.le_refl _)]
  clear h hs he
  go_enter Try.func26, Try.ntmps26
  go_wp2_with fail
  obtain ⟨b1, b2, b5⟩ := box1 w 29 #[.slice none 0 0]
  generalize w.alloc (.cells #[.slice none 0 0] 29) = V1 at *
  refine (show Calls Try.prog 12 #[.slice none 0 0] V1 (GivesN2 V1 0) from nat_of none 0 0 [] V1 Reads.none_ (by intro d hd; simp at hd) (Nat.le_refl _) (by decide) (by decide)).mono ?_
  rintro e w2 ⟨A2, n2, c2, rfl, hw, hb, hf⟩
  have hB := keep_below b1 hb
  have hk1 := keep_blk hb b2
  have hs1 : w.heap.size + 1 ≤ V1.heap.size := by omega
  have hs3 : V1.heap.size ≤ w2.heap.size := hb.size
  have hw := hw.below (up_alloc w2 (.cells #[.slice A2 n2 c2] 29))
  have hp := Blk.new w2 29 #[.slice A2 n2 c2]
  have hB := keep_below_alloc (.cells #[.slice A2 n2 c2] 29) hB
  have hk1 := hk1.alloc (.cells #[.slice A2 n2 c2] 29)
  clear hb b1 b2 b5 
  go_wp2_with fail
  generalize w2.alloc (.cells #[.slice A2 n2 c2] 29) = W2 at *
  generalize w2.heap.size = gp at *
  go_loopg [9] (n + 1) (fun g ix wr => ∃ (k : Nat) (Ap : Option Addr) (np cp : Nat), k ≤ n ∧ n < g + k ∧ ix = .int .i64 k ∧ WordsIn wr (sumL (xs.take k)) Ap np cp ∧ Fresh V1 Ap ∧ Blk wr gp 29 #[.slice Ap np cp] ∧ Below w.heap.size w wr ∧ Blk wr w.heap.size 29 #[.slice none 0 0])
  case atStart => exact ⟨0, A2, n2, c2, Nat.zero_le _, by omega, rfl, hw, hf, hp, hB, hk1⟩
  case round =>
    clear hw hf hp hB hk1
    obtain ⟨k, Ap, np, cp, hkn, hg, rfl, hw, hf, hp, hB, hk1⟩ := hrel
    by_cases hlt : k < n
    · obtain ⟨ad, B, m, d, rfl, hadb, hcl, hx⟩ := (HN.out _ hB).num k hlt
      have hnp : np ≤ 137438953472 := by rw [← hw.len]; exact HS.out k hkn
      have hmx : m ≤ 137438953472 := by rw [← hx.len]; exact HE.out k hlt
      have hcl2 : ∀ o, (wr.alloc o).cell? (ad.add k) = some (.slice B m d) := fun o => keep_cell_alloc o hcl
      have st := up_alloc wr (.cells #[.slice B m d] 29)
      have hc2 : (wr.alloc (.cells #[.slice B m d] 29)).cell? ⟨gp, 0, none⟩ = some (.slice Ap np cp) := keep_cell st (hp.cell 0)
      have hc3 : (wr.alloc (.cells #[.slice B m d] 29)).cell? ⟨wr.heap.size, 0, none⟩ = some (.slice B m d) := (Blk.new wr _ _).cell 0
      have HM := Lib.hid (nat_add (sumL (xs.take k)) (xs.getD k 0) Ap B np m cp d _ (hw.below st) (hx.below st) (by omega) (by omega))
      have hB1 := keep_below hB st
      have hp1 := keep_blk st hp
      have hk2 := keep_blk st hk1
      have hgl := hp.lt
      have hsz : wr.heap.size ≤ (wr.alloc (.cells #[.slice B m d] 29)).heap.size := st.size
      have i1 : (0 : Int) ≤ (k : Int) := by omega
      have i2 : (k : Int) < (n : Int) := by omega
      clear hw hx hp hB hk1 st
      go_wp2_with fail
      refine HM.out.mono ?_
      rintro e w3 ⟨A3, n3, c3, rfl, hw3, hb, hf3⟩
      rw [← HSU.out k hlt] at hw3
      have hB3 := keep_below hB1 hb
      have hp3 := keep_blk hb hp1
      have hk3 := keep_blk hb hk2
      have hf4 := hp3.frozen 0
      have hc4 := hp3.cell 0
      have hw4 := words_set hw3 (p := ⟨gp, 0, none⟩) (fun ad e => by have := hf3 ad e; show ad.block ≠ gp; omega) (.slice A3 n3 c3)
      have hB4 := keep_below_set (p := ⟨gp, 0, none⟩) (.slice A3 n3 c3) (by show w.heap.size ≤ gp; omega) hB3
      have hk4 := hk3.far (p := ⟨gp, 0, none⟩) (by show w.heap.size ≠ gp; omega) (.slice A3 n3 c3)
      have hp4 := blk_set1 hp3 (.slice A3 n3 c3)
      have hf5 : Fresh V1 A3 := fun ad e => by have := hf3 ad e; omega
      clear hb hB1 hp1 hk2 hB3 hp3 hk3 hw3 hc2 hc3 hcl hcl2 hf3 hsz
      go_wp2
      go_roundg (n - k)
      case measure => omega
      case rel => exact ⟨k + 1, A3, n3, c3, by omega, by omega, by go_num, hw4, hf5, hp4, hB4, hk4⟩
    · have hkn2 : k = n := by omega
      subst hkn2
      rw [HF.out] at hw
      have hc1 := hk1.cell 0
      have hf1 := hk1.frozen 0
      have hc2 := hp.cell 0
      have HG : Hid (GivesN2 w (sumL xs) (.returned (.agg #[.slice Ap np cp])) (wr.setCell ⟨w.heap.size, 0, none⟩ (.slice Ap np cp))) :=
        done_set hw hB (Nat.le_refl _) (fun ad e => by have := hf ad e; show ad.block ≠ w.heap.size; omega) (fun ad e => by have := hf ad e; omega) _
      clear hw hf hp hB hk1
      go_wp2
      refine bodyPost_ret (v := .agg #[.slice Ap np cp]) (by simp [results, Try.results26, go_sem, hc1]) rfl ?_
      exact HG.out
end Go.Proofs.Ytonjhcmppiioeaa
