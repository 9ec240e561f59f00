/-
  The contracts of the reference's back, Bytes and Text (actuaryref06). Conditions: slices that hold a number's digits, of up to 2 to the 20.
-/
import Derived.Test.YtnnhcicdildfaaaRows
import Derived.Test.YtnnhcicdildfaaaR2Half
import Derived.Test.YtnnhcicdildfaaaD6Size
import Derived.Test.YtnnhcicdildfaaaNNums
import Derived.Test.YtnnhcicdildfaaaH6Piece
import Derived.Test.YtnnhcicdildfaaaH6Text
import Derived.WalkKit
import Derived.Lib.Hide
import Derived.Outline
import Derived.LoopTactic
import Derived.Deep.LoopGhost
import Derived.IntWalk
import Derived.Maps.AppendAt
namespace Go.Proofs.Ytnnhcicdildfaaa
open Go Go.RowKit
set_option maxRecDepth 100000
set_option linter.unusedVariables false
set_option linter.unusedSimpArgs false
theorem infoB6 : (Try.prog.info? 5).map (fun i => (i.zero, i.size, i.bytes)) = some (some (.int .u8 0), 1, 1) := by kernel_rfl
/-- What is left to divide, and the digits that are out. -/
def BackD (b x y : Nat) (D : List Nat) : Prop := D ++ dg b y = dg b x
theorem BackD.step {b x y : Nat} {D : List Nat} (h : BackD b x y D) (hb : 2 ≤ b) (hy : y ≠ 0) : BackD b x (y / b) (D ++ [y % b]) := by
  unfold BackD at h ⊢
  rw [← h, dg_step hb hy, List.append_assoc]
  rfl
theorem holds_grown {w w' : World} {x : Nat} {B : Option Addr} {m d : Nat} (h : Holds16 w x B m d) {row : Option Nat} (hg : w.grownBy w' row) (hr : 0 < m → ∀ ad, B = some ad → some ad.block ≠ row) : Holds16 w' x B m d := by
  obtain ⟨hr0, h1, h2⟩ := h
  refine ⟨⟨hr0.1, fun hn => ?_⟩, h1, h2⟩
  obtain ⟨ad, e, hb, hc⟩ := hr0.2 hn
  refine ⟨ad, e, Nat.lt_of_lt_of_le hb hg.size, fun j u hu => ?_⟩
  exact (World.cell?_of_block (hg.block _ (by rw [block_of_add]; exact hb) (by rw [block_of_add]; exact hr hn ad e))).trans (hc j u hu)
theorem Aside.holds {w w' : World} {v v' : Value} {x m d : Nat} {B : Option Addr} (h : Aside v B m) (hx : Holds16 w x B m d) (hg : Grew w v w' v') : Holds16 w' x B m d ∧ Aside v' B m := by
  refine ⟨holds_grown hx hg.grown (fun hm ad e => (h hm ad e).symm), fun hm ad e => ?_⟩
  rcases hg.at_ with h1 | h1
  · rw [h1]; exact h hm ad e
  · intro h2
    have := h1 _ h2
    obtain ⟨ad', e', hb, _⟩ := hx.1.2 hm
    rw [e] at e'
    injection e' with e'
    subst e'
    omega
/-- Digits, in a row of the call's own. -/
def GivesDg (w : World) (l : List Nat) (e : Ending) (w' : World) : Prop := ∃ v, e = .returned v ∧ w'.ownsRow w.heap.size 3 1 v l.length (vals .i64 l) ∧ Below w.heap.size w w'
set_option maxHeartbeats 4000000 in
theorem ref6_back (x b : Nat) (A : Option Addr) (n c : Nat) (w : World) (hA : Holds16 w x A n c) (hn : n ≤ 1048576) (hb2 : 2 ≤ b) (hb : b ≤ 256) :
    Calls Try.prog 31 #[.slice A n c, .int .i64 b] w (GivesDg w (dg b x)) := by
  obtain ⟨i0, hi0, hz0, hz1, hz2⟩ := info_parts infoI
  have HSM : Hid (∀ y D, BackD b x y D → (dg 65536 y).length ≤ n ∧ D.length ≤ 16 * n) := fun y D h => by
    have h1 : (dg b x).length ≤ 16 * n := by
      refine dg_len_le hb2 _ _ (Nat.lt_of_lt_of_le (dg_lt (b := 65536) (by decide) x) ?_)
      rw [← hA.len, show (65536 : Nat) = 2 ^ 16 from rfl, ← Nat.pow_mul]
      exact Nat.pow_le_pow_left hb2 _
    have h2 : D.length ≤ (dg b x).length := by rw [← h]; simp
    have h3 : y ≤ x := by
      have e := congrArg (dv b) h
      rw [dv_append, dv_dg hb2, dv_dg hb2] at e
      have := Nat.mul_le_mul_right y (Nat.pow_pos (n := D.length) (show 0 < b by omega))
      omega
    exact ⟨by rw [hA.len]; exact dg_len_mono (by decide) h3, by omega⟩
  have HST : Hid (∀ y D, BackD b x y D → y ≠ 0 → BackD b x (y / b) (D ++ [y % b])) := fun y D h hy => h.step hb2 hy
  have HT0 : Hid (BackD b x x []) := rfl
  go_enter Try.func31, Try.ntmps31
  go_wp2_with fail
  go_loopg [0, 5] (x + 1) (fun gg s t wr => ∃ (tv : Value) (y : Nat) (D : List Nat) (B : Option Addr) (m d : Nat), tv = t ∧ s = .slice B m d ∧ y < gg ∧ Hid (BackD b x y D) ∧ wr.ownsRow w.heap.size 3 1 tv D.length (vals .i64 D) ∧ Holds16 wr y B m d ∧ Aside tv B m ∧ Below w.heap.size w wr)
  case atStart => exact ⟨_, x, [], A, n, c, rfl, rfl, by omega, HT0, World.ownsRow_nil _ _ _ _, hA, Aside.none_ _ _, Below.refl _ _⟩
  case round =>
    clear hA HT0
    obtain ⟨tv, y, D, B, m, d, rfl, rfl, hyg, HTB, hown, hh, has, hB⟩ := hrel
    obtain ⟨hm1, hD1⟩ := HSM.out y D HTB.out
    rw [← hh.len] at hm1
    by_cases hy : y = 0
    · subst hy
      have hm0 : m = 0 := by rw [hh.len, dg_zero]; rfl
      subst hm0
      have HE : Hid (D = dg b x) := by have := HTB.out; unfold BackD at this; rw [dg_zero, List.append_nil] at this; exact this
      have HG : Hid (GivesDg w (dg b x) (.returned tv) wr) := by
        show GivesDg _ _ _ _
        rw [← HE.out]
        exact ⟨tv, rfl, hown, hB⟩
      clear HE hown hh has hB HTB
      go_wp2
      go_ret
      exact HG.out
    · have hm0 : (0 : Int) < (m : Int) := by
        have h1 := (dg_ge (b := 65536) (by decide) y hy).1
        rw [← hh.len] at h1
        omega
      have HS2 := Lib.hid (HST.out y D HTB.out hy)
      have HLT : Hid (y / b < y) := Nat.div_lt_self (Nat.pos_of_ne_zero hy) (by omega)
      have HHF := Lib.hid (ref2_half y b B m d wr hh (by omega) (by omega) (by omega))
      have hrb : y % b < 256 := Nat.lt_of_lt_of_le (Nat.mod_lt _ (by omega)) hb
      unfold GivesHalf at HHF
      obtain ⟨p, hp⟩ : ∃ p, y % b = p := ⟨_, rfl⟩
      obtain ⟨q, hq⟩ : ∃ p, y / b = p := ⟨_, rfl⟩
      rw [hp] at HS2 hrb HHF
      rw [hq] at HS2 HLT HHF
      clear hp hq hh has HTB hy
      go_wp2_with fail
      refine HHF.out.mono ?_
      rintro e w1 ⟨v1, rfl, hg1⟩
      obtain ⟨B1, c1, ev, hr1, hfit, ⟨hc1, hfr⟩, hb1⟩ := hg1
      cases ev
      have hh1 : Holds16 w1 q B1 (dg 65536 q).length c1 := ⟨hr1, hfit, hc1⟩
      obtain ⟨m1, hm1e⟩ : ∃ m, (dg 65536 q).length = m := ⟨_, rfl⟩
      rw [hm1e] at hh1 ⊢
      have has1 : Aside tv B1 m1 := Aside.fresh hfr hown
      have hown1 := own_below hown hb1
      have hB1 := keep_below hB hb1
      have hsz := hB1.size
      clear hr1 hfit hfr hm1e hown hB HHF hb1
      go_wp2_with (at_builtin; refine wpList_append_any _ rfl (.tmp 17) (.tmp 19) 27 rfl w.heap.size 3 i0 (.int .i64 0) 1 8 Try.underlying27 hi0 hz0 hz1 hz2 rfl (by decide) tv D.length (vals .i64 D) rfl (hown1.alloc _) (w1.heap.size + 1) (some ⟨w1.heap.size, 0, none⟩) 1 1 [.int .i64 (p : Int)] rfl ⟨rfl, fun _ => ⟨_, rfl, by simp, push_cells _ _ _⟩⟩ (push_one _ _) (by unfold maxLen; omega) (by omega) (by simp; omega) ?_; intro v' w2 hown' hgrow hat)
      have hG2 : Grew w1 tv w2 v' := (Grew.alloc w1 tv _).trans ⟨hgrow, hat.imp id fun h g hg => by rw [h] at hg; cases hg; exact Nat.le_refl _⟩
      obtain ⟨hh2, has2⟩ := has1.holds hh1 hG2
      have hB2 := hG2.belowOf hown1 hB1 (Nat.le_refl _)
      have hown2 : w2.ownsRow w.heap.size 3 1 v' (D ++ [p]).length (vals .i64 (D ++ [p])) := by
        rw [vals_append, List.length_append]; exact hown'
      clear hown' hgrow hat hG2 has1 hh1 hown1 hB1
      go_wp2
      go_roundg y
      case measure => omega
      case rel => exact ⟨v', q, _, B1, m1, c1, rfl, rfl, HLT.out, HS2, hown2, hh2, has2, hB2⟩
set_option maxHeartbeats 4000000 in
theorem ref6_bytes (x : Nat) (A : Option Addr) (n c : Nat) (w : World) (hA : Holds16 w x A n c) (hn : n ≤ 1048576) :
    Calls Try.prog 13 #[.slice A n c] w (GivesRow8 w (bytesL x)) := by
  obtain ⟨i0, hi0, hz0, hz1, hz2⟩ := info_parts infoB6
  have HBK := Lib.hid (ref6_back x 256 A n c w hA hn (by decide) (by decide))
  have hsm : (dg 256 x).length ≤ 16 * n := by
    refine dg_len_le (by decide) _ _ (Nat.lt_of_lt_of_le (dg_lt (b := 65536) (by decide) x) ?_)
    rw [← hA.len, show (65536 : Nat) = 2 ^ 16 from rfl, ← Nat.pow_mul]
    exact Nat.pow_le_pow_left (by decide) _
  have HDD := Lib.hid (dg_dgs (b := 256) (by decide) x)
  have HBL : Hid (bytesL x = (dg 256 x).reverse) := rfl
  obtain ⟨D, hD⟩ : ∃ d, dg 256 x = d := ⟨_, rfl⟩
  rw [hD] at HBK hsm HDD HBL
  obtain ⟨N, hN⟩ : ∃ N, D.length = N := ⟨_, rfl⟩
  rw [hN] at hsm
  have HNL := Lib.hid hN
  clear hA hD hN
  go_enter Try.func13, Try.ntmps13
  go_wp2_with fail
  refine HBK.out.mono ?_
  rintro e w1 ⟨v1, rfl, hown1, hb1⟩
  obtain ⟨A1, c1, rfl, hc1, hc2, hr1⟩ := Reads.of_grown_own hown1
  have HR := Lib.hid (fun (k : Nat) (hk : k < N) w' (h : Below w1.heap.size w1 w') => val_at (hr1.below h) (by rw [HNL.out]; exact hk))
  have HNI : Hid ((D.length : Int) = (N : Int)) := by show _ = _; rw [HNL.out]
  have hsz := hb1.size
  rw [HNL.out]
  clear hown1 hr1 hc1 hc2 HBK
  go_wp2_with fail
  go_loopg [4, 5] (N + 1) (fun gg t i wr => ∃ (tv : Value) (k : Nat), tv = t ∧ i = .int .i64 ((k : Int) - 1) ∧ k ≤ N ∧ k < gg ∧ wr.ownsRow w1.heap.size 5 1 tv (N - k) (vals .u8 (D.drop k).reverse) ∧ Below w1.heap.size w1 wr)
  case atStart => exact ⟨_, N, rfl, rfl, Nat.le_refl _, by omega, by rw [Nat.sub_self, List.drop_of_length_le (by rw [HNL.out]; exact Nat.le_refl _)]; exact World.ownsRow_nil _ _ _ _, Below.refl _ _⟩
  case round =>
    obtain ⟨tv, k, rfl, rfl, hk, hg, hown, hB⟩ := hrel
    by_cases hk0 : k = 0
    · subst hk0
      have hBB := hb1.trans (hB.mono hsz)
      have HG : Hid (GivesRow8 w (bytesL x) (.returned tv) wr) := by
        show GivesRow8 _ _ _ _
        rw [HBL.out]
        refine ⟨tv, rfl, ?_, hBB⟩
        rw [List.length_reverse, HNL.out]
        refine ⟨hown.1, ?_⟩
        rcases hown.2 with h1 | ⟨g, cap, cur, e1, e2, e3⟩
        · exact .inl h1
        · exact .inr ⟨g, cap, cur, e1, by omega, e3⟩
      clear hown hB hBB HBL
      go_wp2
      go_ret
      exact HG.out
    · obtain ⟨j, rfl⟩ : ∃ j, k = j + 1 := ⟨k - 1, by omega⟩
      obtain ⟨ad, rfl, hadb, hc⟩ := HR.out j (by omega) wr hB
      have hdl := HDD.out.getD (by decide) j
      have hst : (D.drop j).reverse = (D.drop (j + 1)).reverse ++ [D.getD j 0] := by
        have hj : j < D.length := by rw [HNL.out]; omega
        rw [List.drop_eq_getElem_cons hj, List.reverse_cons, List.getD_eq_getElem?_getD, List.getElem?_eq_getElem hj]
        rfl
      obtain ⟨d, hd⟩ : ∃ d, D.getD j 0 = d := ⟨_, rfl⟩
      rw [hd] at hc hdl hst
      have HST := Lib.hid hst
      have j1 : IntKind.u8.wrap (d : Int) = (d : Int) := by simp [IntKind.wrap, IntKind.bits, IntKind.signed]; omega
      have i1 : (0 : Int) ≤ (j : Int) := by omega
      have i2 : (j : Int) < (N : Int) := by omega
      have hbz := hB.size
      have hNj : N - (j + 1) + 1 = N - j := by omega
      have HNJ := Lib.hid hNj
      clear hd hst hNj
      go_wp2_with (at_builtin; refine wpList_append_any _ rfl (.tmp 15) (.tmp 21) 30 rfl w1.heap.size 5 i0 (.int .u8 0) 1 1 Try.underlying30 hi0 hz0 hz1 hz2 rfl (by decide) tv (N - (j + 1)) (vals .u8 (D.drop (j + 1)).reverse) rfl (hown.alloc _) (wr.heap.size + 1) (some ⟨wr.heap.size, 0, none⟩) 1 1 [.int .u8 (d : Int)] rfl ⟨rfl, fun _ => ⟨_, rfl, by simp, push_cells _ _ _⟩⟩ (push_one _ _) (by unfold maxLen; omega) (by omega) (by simp; omega) ?_; intro v' w2 hown' hgrow hat)
      have hG2 : Grew wr tv w2 v' := (Grew.alloc wr tv _).trans ⟨hgrow, hat.imp id fun h g hg => by rw [h] at hg; cases hg; exact Nat.le_refl _⟩
      have hB2 := hG2.belowOf hown hB (Nat.le_refl _)
      have hown2 : w2.ownsRow w1.heap.size 5 1 v' (N - j) (vals .u8 (D.drop j).reverse) := by
        rw [HST.out, vals_append, ← HNJ.out]; exact hown'
      clear hown' hgrow hat hG2 hown hB HST
      go_wp2
      go_roundg (j + 1)
      case measure => omega
      case rel => exact ⟨v', j, rfl, by go_num, by omega, by omega, hown2, hB2⟩
set_option maxHeartbeats 4000000 in
theorem ref6_text (x : Nat) (A : Option Addr) (n c : Nat) (w : World) (hA : Holds16 w x A n c) (hn : n ≤ 1048576) :
    Calls Try.prog 16 #[.slice A n c] w fun e w' => e = .returned (.string (strS (textS x))) ∧ Below w.heap.size w w' := by
  obtain ⟨i0, hi0, hz0, hz1, hz2⟩ := info_parts infoB6
  have HBK := Lib.hid (ref6_back x 10 A n c w hA hn (by decide) (by decide))
  have hsm : (dg 10 x).length ≤ 16 * n := by
    refine dg_len_le (by decide) _ _ (Nat.lt_of_lt_of_le (dg_lt (b := 65536) (by decide) x) ?_)
    rw [← hA.len, show (65536 : Nat) = 2 ^ 16 from rfl, ← Nat.pow_mul]
    exact Nat.pow_le_pow_left (by decide) _
  have HDD := Lib.hid (dg_dgs (b := 10) (by decide) x)
  have HTZ : Hid (x = 0 → strS (textS x) = ⟨#[48]⟩) := fun h => by rw [h]; rfl
  have HTP : Hid (x ≠ 0 → strL (chN (dg 10 x)).reverse = strS (textS x)) := fun h => text_of h
  have HX0 : Hid (dg 10 x = [] → x = 0) := fun h => by have := dv_dg (b := 10) (by decide) x; rw [h] at this; exact this.symm
  have HXN : Hid (dg 10 x ≠ [] → x ≠ 0) := fun h e => h (by rw [e]; rfl)
  obtain ⟨D, hD⟩ : ∃ d, dg 10 x = d := ⟨_, rfl⟩
  rw [hD] at HBK hsm HDD HTP HX0 HXN
  obtain ⟨N, hN⟩ : ∃ N, D.length = N := ⟨_, rfl⟩
  rw [hN] at hsm
  have HNL := Lib.hid hN
  clear hA hD hN
  go_enter Try.func16, Try.ntmps16
  go_wp2_with fail
  refine HBK.out.mono ?_
  rintro e w1 ⟨v1, rfl, hown1, hb1⟩
  obtain ⟨A1, c1, rfl, hc1, hc2, hr1⟩ := Reads.of_grown_own hown1
  have HR := Lib.hid (fun (k : Nat) (hk : k < N) w' (h : Below w1.heap.size w1 w') => val_at (hr1.below h) (by rw [HNL.out]; exact hk))
  have HNI : Hid ((D.length : Int) = (N : Int)) := by show _ = _; rw [HNL.out]
  have hsz := hb1.size
  rw [HNL.out]
  clear hown1 hr1 hc1 hc2 HBK
  go_wp2_with fail
  go_loopg [4, 5] (N + 1) (fun gg t i wr => ∃ (tv : Value) (k : Nat), tv = t ∧ i = .int .i64 ((k : Int) - 1) ∧ k ≤ N ∧ k < gg ∧ wr.ownsRow w1.heap.size 5 1 tv (N - k) (vals .u8 (chN (D.drop k)).reverse) ∧ Below w1.heap.size w1 wr)
  case atStart => exact ⟨_, N, rfl, rfl, Nat.le_refl _, by omega, by rw [Nat.sub_self, List.drop_of_length_le (by rw [HNL.out]; exact Nat.le_refl _)]; exact World.ownsRow_nil _ _ _ _, Below.refl _ _⟩
  case round =>
    obtain ⟨tv, k, rfl, rfl, hk, hg, hown, hB⟩ := hrel
    by_cases hk0 : k = 0
    · subst hk0
      have hBB := hb1.trans (hB.mono hsz)
      rw [List.drop_zero, Nat.sub_zero] at hown
      rcases Nat.eq_zero_or_pos N with h0 | h0
      · subst h0
        have hx := HX0.out (List.eq_nil_of_length_eq_zero HNL.out)
        have HQ := Lib.hid (HTZ.out hx)
        obtain ⟨A2, c2, rfl, _, _, _⟩ := Reads.of_grown_own hown
        clear hown hB hx
        go_wp2
        go_ret
        exact ⟨by rw [HQ.out]; rfl, hBB⟩
      · have hx := HXN.out (fun h => by have := HNL.out; rw [h] at this; simp at this; omega)
        obtain ⟨A2, c2, rfl, _, _, hr2⟩ := Reads.of_grown_own hown
        have hst := reads_string (P := Try.prog) 30 9 5 Try.underlying30 Try.underlying5 Try.underlying9 (c := c2) hr2
        rw [HTP.out hx] at hst
        obtain ⟨Q, hQ⟩ : ∃ q, strS (textS x) = q := ⟨_, rfl⟩
        rw [hQ] at hst
        have HQ := Lib.hid hQ
        have h1 : ((N : Int) == 0) = false := by rw [beq_eq_false_iff_ne]; omega
        clear hown hB hx hr2 hQ
        go_wp2
        go_ret
        exact ⟨by rw [HQ.out]; rfl, hBB⟩
    · obtain ⟨j, rfl⟩ : ∃ j, k = j + 1 := ⟨k - 1, by omega⟩
      obtain ⟨ad, rfl, hadb, hc⟩ := HR.out j (by omega) wr hB
      have hdl := HDD.out.getD (by decide) j
      have hst : (chN (D.drop j)).reverse = (chN (D.drop (j + 1))).reverse ++ [48 + D.getD j 0] := by
        have hj : j < D.length := by rw [HNL.out]; omega
        unfold chN
        rw [List.drop_eq_getElem_cons hj, List.map_cons, List.reverse_cons, List.getD_eq_getElem?_getD, List.getElem?_eq_getElem hj]
        rfl
      obtain ⟨d, hd⟩ : ∃ d, D.getD j 0 = d := ⟨_, rfl⟩
      rw [hd] at hc hdl hst
      have HST := Lib.hid hst
      have j1 : IntKind.u8.wrap (48 + (d : Int)) = ((48 + d : Nat) : Int) := by simp [IntKind.wrap, IntKind.bits, IntKind.signed]; omega
      have i1 : (0 : Int) ≤ (j : Int) := by omega
      have i2 : (j : Int) < (N : Int) := by omega
      have hbz := hB.size
      have hNj : N - (j + 1) + 1 = N - j := by omega
      have HNJ := Lib.hid hNj
      clear hd hst hNj
      go_wp2_with (at_builtin; refine wpList_append_any _ rfl (.tmp 15) (.tmp 22) 30 rfl w1.heap.size 5 i0 (.int .u8 0) 1 1 Try.underlying30 hi0 hz0 hz1 hz2 rfl (by decide) tv (N - (j + 1)) (vals .u8 (chN (D.drop (j + 1))).reverse) rfl (hown.alloc _) (wr.heap.size + 1) (some ⟨wr.heap.size, 0, none⟩) 1 1 [.int .u8 ((48 + d : Nat) : Int)] rfl ⟨rfl, fun _ => ⟨_, rfl, by simp, push_cells _ _ _⟩⟩ (push_one _ _) (by unfold maxLen; omega) (by omega) (by simp; omega) ?_; intro v' w2 hown' hgrow hat)
      have hG2 : Grew wr tv w2 v' := (Grew.alloc wr tv _).trans ⟨hgrow, hat.imp id fun h g hg => by rw [h] at hg; cases hg; exact Nat.le_refl _⟩
      have hB2 := hG2.belowOf hown hB (Nat.le_refl _)
      have hown2 : w2.ownsRow w1.heap.size 5 1 v' (N - j) (vals .u8 (chN (D.drop j)).reverse) := by
        rw [HST.out, vals_append, ← HNJ.out]; exact hown'
      clear hown' hgrow hat hG2 hown hB HST
      go_wp2
      go_roundg (j + 1)
      case measure => omega
      case rel => exact ⟨v', j, rfl, by go_num, by omega, by omega, hown2, hB2⟩
end Go.Proofs.Ytnnhcicdildfaaa
