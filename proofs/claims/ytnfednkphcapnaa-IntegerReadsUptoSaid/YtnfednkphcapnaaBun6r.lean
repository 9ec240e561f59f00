/-
  The contract of the reference's Half (actuaryref02). Conditions: slices that hold a number's digits; lengths up to 2 to the 38.
  The contracts of the reference's back, Bytes and Text (actuaryref06). Conditions: slices that hold a number's digits, of up to 2 to the 20.
  The contract of the reference's Parse (actuaryref06). Conditions: bytes that read, up to 2 to the 31.
  The contract of the reference's Read (actuaryref06). Conditions: a text of up to 2 to the 31 bytes.
-/
import Derived.Test.YtnfednkphcapnaaRows
import Derived.Test.YtnfednkphcapnaaBunF
import Derived.Test.YtnfednkphcapnaaNNums
import Derived.Test.YtnfednkphcapnaaBun6
import Derived.Test.YtnfednkphcapnaaBun6b
import Derived.Test.YtnfednkphcapnaaBunR
import Derived.WalkKit
import Derived.Lib.Hide
import Derived.Outline
import Derived.LoopTactic
import Derived.Deep.LoopGhost
import Derived.IntWalk
import Derived.Maps.AppendAt
import Derived.Deep.QuietTactic
import Derived.BigQuiet
import Derived.Deep.DeepCutAuto
import Derived.Deep.CutBlock
namespace Go.Proofs.Ytnfednkphcapnaa
open Go Go.RowKit
set_option maxRecDepth 100000
set_option linter.unusedVariables false
set_option maxHeartbeats 4000000 in
theorem ref2_half (x mm : Nat) (A : Option Addr) (n c : Nat) (w : World) (hA : Holds16 w x A n c) (hn : n ≤ 274877906944) (hm0 : 0 < mm) (hm1 : mm ≤ 32768) :
    Calls Try.prog 80 #[.slice A n c, .int .i64 mm] w (GivesHalf w x mm) := by
  obtain ⟨i0, hi0, hz0, hz1, hz2⟩ := info_parts infoI
  have HLN := Lib.hid hA.len
  have hR := hA.1
  clear hA
  obtain ⟨Z, hZ⟩ : ∃ Z, madeCells (Value.cells (.int .i64 0)) (n * i0.size) = Z := ⟨_, rfl⟩
  have HZ : Hid (Z.size = n) := by show _ = _; rw [← hZ, size_madeCells, hz1, Nat.mul_one]
  have hmk : ∀ W : World, (Instr.makeSlice 31 (.int .i64 (n : Int)) (.int .i64 (n : Int))).run Try.prog W = .ok (.slice (some ⟨W.heap.size, 0, none⟩) n n) (W.alloc (.cells Z 3)) := fun W => by
    rw [← hZ]; exact run_make_rowN _ _ i0 _ Try.underlying31 hi0 hz0 _ _ n n (Nat.le_refl _) (by rw [hz2]; omega) (by omega) W
  clear hZ
  go_enter Try.func80, Try.ntmps80
  go_wp2
  clear hmk
  go_loopg [7, 8, 9] (n + 1) (fun g s i _ wr => ∃ (k left : Nat) (cs : Array Value) (out : List Nat), k ≤ n ∧ k < g ∧ i = .int .i64 ((k : Int) - 1) ∧ s = .int .i64 left ∧ Half16 x mm n k out left ∧
      Blk wr w.heap.size 3 cs ∧ cs.size = n ∧ cs.toList.drop k = vals .i64 out ∧ Below w.heap.size w wr)
  case atStart => exact ⟨n, 0, Z, [], Nat.le_refl _, by omega, rfl, rfl, Half16.start hm0 (by have := HLN.out; omega), Blk.new w _ _, HZ.out, by rw [List.drop_of_length_le (by have := HZ.out; simp; omega)]; rfl, (Below.refl _ _).alloc (Nat.le_refl _) _⟩
  case round =>
    obtain ⟨k, left, cs, out, hk, hg, rfl, rfl, hat, hB, hsz, hdr, hbl⟩ := hrel
    by_cases hk0 : k = 0
    · subst hk0
      obtain ⟨f1, f2⟩ := hat.done
      have hlen : out.length = n := by have := hat.len; omega
      have hrd : Reads wr wr.heap.size 1 (some ⟨w.heap.size, 0, none⟩) n (vals .i64 out) := by
        refine ⟨by rw [vals_length]; omega, fun _ => ⟨_, rfl, hB.lt, fun j u hu => ?_⟩⟩
        have e : (⟨w.heap.size, 0, none⟩ : Addr).add j = ⟨w.heap.size, j, none⟩ := by unfold Addr.add; split <;> simp_all
        rw [e, hB.cell j, ← Array.getElem?_toList]
        rw [List.drop_zero] at hdr
        rw [hdr]; exact hu
      have T := ref2_trim (some ⟨w.heap.size, 0, none⟩) n n out wr hrd hat.dgs (Nat.le_refl _) (by omega) (by omega)
      rw [f1] at T
      have HT := Lib.hid T
      have F2 := Lib.hid f2
      clear T hrd f1 f2 hat hdr hsz hlen
      go_wp2_with fail
      refine HT.out.mono ?_
      intro e w2 hg2
      have hg3 := hg2.from_ hbl
      obtain ⟨A2, n2, c2, rfl, hh2, hb2⟩ := hg2.elim
      have HG3 := Lib.hid hg3
      clear hg2 hh2 hb2 hg3
      go_wp2_with fail
      go_ret2
      exact ⟨_, by rw [← F2.out]; rfl, HG3.out⟩
    · obtain ⟨j, rfl⟩ : ∃ j, k = j + 1 := ⟨k - 1, by omega⟩
      obtain ⟨ad, rfl, hadb, hc0⟩ := val_at hR (k := j) (by omega)
      have hc1 : wr.cell? (ad.add j) = some (.int .i64 ((dg 65536 x).getD j 0 : Nat)) := (hbl.cell (by rw [block_of_add]; exact hadb)).trans hc0
      rw [dig16] at hc1
      have ha1 : x / 65536 ^ j % 65536 < 65536 := Nat.mod_lt _ (by decide)
      have hst := hat.step hk rfl
      have hleft := hat.rest
      obtain ⟨a, ha⟩ : ∃ b, x / 65536 ^ j % 65536 = b := ⟨_, rfl⟩
      rw [ha] at hc1 ha1 hst
      have hfr := hB.frozen j
      have hcell : ∃ u, wr.cell? ⟨w.heap.size, j, none⟩ = some u := by
        rw [hB.cell j]
        exact ⟨cs[j]'(by omega), Array.getElem?_eq_getElem (by omega)⟩
      obtain ⟨u, hu⟩ := hcell
      have HST := Lib.hid hst
      have HS := Lib.hid hsz
      have HD := Lib.hid hdr
      clear hst ha hat hc0 hsz hdr
      go_wp2
      go_roundg (j + 1)
      case measure => omega
      case rel => exact ⟨j, (left * 65536 + a) % mm, cs.setIfInBounds j (.int .i64 (((left : Int) * 65536 + (a : Int)) / (mm : Int))), _, by omega, by omega, by go_num, by go_num, HST.out, hB.set_ _ _, by simpa using HS.out, by rw [drop_set _ _ _ (by have := HS.out; omega), HD.out]; simp [vals], hbl.setCell (Nat.le_refl _) _⟩
end Go.Proofs.Ytnfednkphcapnaa
namespace Go.Proofs.Ytnfednkphcapnaa
open Go Go.RowKit
set_option maxRecDepth 100000
set_option linter.unusedVariables false
set_option linter.unusedSimpArgs false
theorem infoB6 : (Try.prog.info? 5).map (fun i => (i.zero, i.size, i.bytes)) = some (some (.int .u8 0), 1, 1) := by kernel_rfl
/-- What is left to divide, and the digits that are out. -/
def BackD (b x y : Nat) (D : List Nat) : Prop := D ++ dg b y = dg b x
theorem BackD.step {b x y : Nat} {D : List Nat} (h : BackD b x y D) (hb : 2 ≤ b) (hy : y ≠ 0) : BackD b x (y / b) (D ++ [y % b]) := by
  unfold BackD at h ⊢
  rw [← h, dg_step hb hy, List.append_assoc]
  rfl
theorem holds_grown {w w' : World} {x : Nat} {B : Option Addr} {m d : Nat} (h : Holds16 w x B m d) {row : Option Nat} (hg : w.grownBy w' row) (hr : 0 < m → ∀ ad, B = some ad → some ad.block ≠ row) : Holds16 w' x B m d := by
  obtain ⟨hr0, h1, h2⟩ := h
  refine ⟨⟨hr0.1, fun hn => ?_⟩, h1, h2⟩
  obtain ⟨ad, e, hb, hc⟩ := hr0.2 hn
  refine ⟨ad, e, Nat.lt_of_lt_of_le hb hg.size, fun j u hu => ?_⟩
  exact (World.cell?_of_block (hg.block _ (by rw [block_of_add]; exact hb) (by rw [block_of_add]; exact hr hn ad e))).trans (hc j u hu)
theorem Aside.holds {w w' : World} {v v' : Value} {x m d : Nat} {B : Option Addr} (h : Aside v B m) (hx : Holds16 w x B m d) (hg : Grew w v w' v') : Holds16 w' x B m d ∧ Aside v' B m := by
  refine ⟨holds_grown hx hg.grown (fun hm ad e => (h hm ad e).symm), fun hm ad e => ?_⟩
  rcases hg.at_ with h1 | h1
  · rw [h1]; exact h hm ad e
  · intro h2
    have := h1 _ h2
    obtain ⟨ad', e', hb, _⟩ := hx.1.2 hm
    rw [e] at e'
    injection e' with e'
    subst e'
    omega
/-- Digits, in a row of the call's own. -/
def GivesDg (w : World) (l : List Nat) (e : Ending) (w' : World) : Prop := ∃ v, e = .returned v ∧ w'.ownsRow w.heap.size 3 1 v l.length (vals .i64 l) ∧ Below w.heap.size w w'
set_option maxHeartbeats 4000000 in
theorem ref6_back (x b : Nat) (A : Option Addr) (n c : Nat) (w : World) (hA : Holds16 w x A n c) (hn : n ≤ 1048576) (hb2 : 2 ≤ b) (hb : b ≤ 256) :
    Calls Try.prog 55 #[.slice A n c, .int .i64 b] w (GivesDg w (dg b x)) := by
  obtain ⟨i0, hi0, hz0, hz1, hz2⟩ := info_parts infoI
  have HSM : Hid (∀ y D, BackD b x y D → (dg 65536 y).length ≤ n ∧ D.length ≤ 16 * n) := fun y D h => by
    have h1 : (dg b x).length ≤ 16 * n := by
      refine dg_len_le hb2 _ _ (Nat.lt_of_lt_of_le (dg_lt (b := 65536) (by decide) x) ?_)
      rw [← hA.len, show (65536 : Nat) = 2 ^ 16 from rfl, ← Nat.pow_mul]
      exact Nat.pow_le_pow_left hb2 _
    have h2 : D.length ≤ (dg b x).length := by rw [← h]; simp
    have h3 : y ≤ x := by
      have e := congrArg (dv b) h
      rw [dv_append, dv_dg hb2, dv_dg hb2] at e
      have := Nat.mul_le_mul_right y (Nat.pow_pos (n := D.length) (show 0 < b by omega))
      omega
    exact ⟨by rw [hA.len]; exact dg_len_mono (by decide) h3, by omega⟩
  have HST : Hid (∀ y D, BackD b x y D → y ≠ 0 → BackD b x (y / b) (D ++ [y % b])) := fun y D h hy => h.step hb2 hy
  have HT0 : Hid (BackD b x x []) := rfl
  go_enter Try.func55, Try.ntmps55
  go_wp2_with fail
  go_loopg [0, 5] (x + 1) (fun gg s t wr => ∃ (tv : Value) (y : Nat) (D : List Nat) (B : Option Addr) (m d : Nat), tv = t ∧ s = .slice B m d ∧ y < gg ∧ Hid (BackD b x y D) ∧ wr.ownsRow w.heap.size 3 1 tv D.length (vals .i64 D) ∧ Holds16 wr y B m d ∧ Aside tv B m ∧ Below w.heap.size w wr)
  case atStart => exact ⟨_, x, [], A, n, c, rfl, rfl, by omega, HT0, World.ownsRow_nil _ _ _ _, hA, Aside.none_ _ _, Below.refl _ _⟩
  case round =>
    clear hA HT0
    obtain ⟨tv, y, D, B, m, d, rfl, rfl, hyg, HTB, hown, hh, has, hB⟩ := hrel
    obtain ⟨hm1, hD1⟩ := HSM.out y D HTB.out
    rw [← hh.len] at hm1
    by_cases hy : y = 0
    · subst hy
      have hm0 : m = 0 := by rw [hh.len, dg_zero]; rfl
      subst hm0
      have HE : Hid (D = dg b x) := by have := HTB.out; unfold BackD at this; rw [dg_zero, List.append_nil] at this; exact this
      have HG : Hid (GivesDg w (dg b x) (.returned tv) wr) := by
        show GivesDg _ _ _ _
        rw [← HE.out]
        exact ⟨tv, rfl, hown, hB⟩
      clear HE hown hh has hB HTB
      go_wp2
      go_ret
      exact HG.out
    · have hm0 : (0 : Int) < (m : Int) := by
        have h1 := (dg_ge (b := 65536) (by decide) y hy).1
        rw [← hh.len] at h1
        omega
      have HS2 := Lib.hid (HST.out y D HTB.out hy)
      have HLT : Hid (y / b < y) := Nat.div_lt_self (Nat.pos_of_ne_zero hy) (by omega)
      have HHF := Lib.hid (ref2_half y b B m d wr hh (by omega) (by omega) (by omega))
      have hrb : y % b < 256 := Nat.lt_of_lt_of_le (Nat.mod_lt _ (by omega)) hb
      unfold GivesHalf at HHF
      obtain ⟨p, hp⟩ : ∃ p, y % b = p := ⟨_, rfl⟩
      obtain ⟨q, hq⟩ : ∃ p, y / b = p := ⟨_, rfl⟩
      rw [hp] at HS2 hrb HHF
      rw [hq] at HS2 HLT HHF
      clear hp hq hh has HTB hy
      go_wp2_with fail
      refine HHF.out.mono ?_
      rintro e w1 ⟨v1, rfl, hg1⟩
      obtain ⟨B1, c1, ev, hr1, hfit, ⟨hc1, hfr⟩, hb1⟩ := hg1
      cases ev
      have hh1 : Holds16 w1 q B1 (dg 65536 q).length c1 := ⟨hr1, hfit, hc1⟩
      obtain ⟨m1, hm1e⟩ : ∃ m, (dg 65536 q).length = m := ⟨_, rfl⟩
      rw [hm1e] at hh1 ⊢
      have has1 : Aside tv B1 m1 := Aside.fresh hfr hown
      have hown1 := own_below hown hb1
      have hB1 := keep_below hB hb1
      have hsz := hB1.size
      clear hr1 hfit hfr hm1e hown hB HHF hb1
      go_wp2_with (at_builtin; refine wpList_append_any _ rfl (.tmp 17) (.tmp 19) 31 rfl w.heap.size 3 i0 (.int .i64 0) 1 8 Try.underlying31 hi0 hz0 hz1 hz2 rfl (by decide) tv D.length (vals .i64 D) rfl (hown1.alloc _) (w1.heap.size + 1) (some ⟨w1.heap.size, 0, none⟩) 1 1 [.int .i64 (p : Int)] rfl ⟨rfl, fun _ => ⟨_, rfl, by simp, push_cells _ _ _⟩⟩ (push_one _ _) (by unfold maxLen; omega) (by omega) (by simp; omega) ?_; intro v' w2 hown' hgrow hat)
      have hG2 : Grew w1 tv w2 v' := (Grew.alloc w1 tv _).trans ⟨hgrow, hat.imp id fun h g hg => by rw [h] at hg; cases hg; exact Nat.le_refl _⟩
      obtain ⟨hh2, has2⟩ := has1.holds hh1 hG2
      have hB2 := hG2.belowOf hown1 hB1 (Nat.le_refl _)
      have hown2 : w2.ownsRow w.heap.size 3 1 v' (D ++ [p]).length (vals .i64 (D ++ [p])) := by
        rw [vals_append, List.length_append]; exact hown'
      clear hown' hgrow hat hG2 has1 hh1 hown1 hB1
      go_wp2
      go_roundg y
      case measure => omega
      case rel => exact ⟨v', q, _, B1, m1, c1, rfl, rfl, HLT.out, HS2, hown2, hh2, has2, hB2⟩
set_option maxHeartbeats 4000000 in
theorem ref6_text (x : Nat) (A : Option Addr) (n c : Nat) (w : World) (hA : Holds16 w x A n c) (hn : n ≤ 1048576) :
    Calls Try.prog 27 #[.slice A n c] w fun e w' => e = .returned (.string (strS (textS x))) ∧ Below w.heap.size w w' := by
  obtain ⟨i0, hi0, hz0, hz1, hz2⟩ := info_parts infoB6
  have HBK := Lib.hid (ref6_back x 10 A n c w hA hn (by decide) (by decide))
  have hsm : (dg 10 x).length ≤ 16 * n := by
    refine dg_len_le (by decide) _ _ (Nat.lt_of_lt_of_le (dg_lt (b := 65536) (by decide) x) ?_)
    rw [← hA.len, show (65536 : Nat) = 2 ^ 16 from rfl, ← Nat.pow_mul]
    exact Nat.pow_le_pow_left (by decide) _
  have HDD := Lib.hid (dg_dgs (b := 10) (by decide) x)
  have HTZ : Hid (x = 0 → strS (textS x) = ⟨#[48]⟩) := fun h => by rw [h]; rfl
  have HTP : Hid (x ≠ 0 → strL (chN (dg 10 x)).reverse = strS (textS x)) := fun h => text_of h
  have HX0 : Hid (dg 10 x = [] → x = 0) := fun h => by have := dv_dg (b := 10) (by decide) x; rw [h] at this; exact this.symm
  have HXN : Hid (dg 10 x ≠ [] → x ≠ 0) := fun h e => h (by rw [e]; rfl)
  obtain ⟨D, hD⟩ : ∃ d, dg 10 x = d := ⟨_, rfl⟩
  rw [hD] at HBK hsm HDD HTP HX0 HXN
  obtain ⟨N, hN⟩ : ∃ N, D.length = N := ⟨_, rfl⟩
  rw [hN] at hsm
  have HNL := Lib.hid hN
  clear hA hD hN
  go_enter Try.func27, Try.ntmps27
  go_wp2_with fail
  refine HBK.out.mono ?_
  rintro e w1 ⟨v1, rfl, hown1, hb1⟩
  obtain ⟨A1, c1, rfl, hc1, hc2, hr1⟩ := Reads.of_grown_own hown1
  have HR := Lib.hid (fun (k : Nat) (hk : k < N) w' (h : Below w1.heap.size w1 w') => val_at (hr1.below h) (by rw [HNL.out]; exact hk))
  have HNI : Hid ((D.length : Int) = (N : Int)) := by show _ = _; rw [HNL.out]
  have hsz := hb1.size
  rw [HNL.out]
  clear hown1 hr1 hc1 hc2 HBK
  go_wp2_with fail
  go_loopg [4, 5] (N + 1) (fun gg t i wr => ∃ (tv : Value) (k : Nat), tv = t ∧ i = .int .i64 ((k : Int) - 1) ∧ k ≤ N ∧ k < gg ∧ wr.ownsRow w1.heap.size 5 1 tv (N - k) (vals .u8 (chN (D.drop k)).reverse) ∧ Below w1.heap.size w1 wr)
  case atStart => exact ⟨_, N, rfl, rfl, Nat.le_refl _, by omega, by rw [Nat.sub_self, List.drop_of_length_le (by rw [HNL.out]; exact Nat.le_refl _)]; exact World.ownsRow_nil _ _ _ _, Below.refl _ _⟩
  case round =>
    obtain ⟨tv, k, rfl, rfl, hk, hg, hown, hB⟩ := hrel
    by_cases hk0 : k = 0
    · subst hk0
      have hBB := hb1.trans (hB.mono hsz)
      rw [List.drop_zero, Nat.sub_zero] at hown
      rcases Nat.eq_zero_or_pos N with h0 | h0
      · subst h0
        have hx := HX0.out (List.eq_nil_of_length_eq_zero HNL.out)
        have HQ := Lib.hid (HTZ.out hx)
        obtain ⟨A2, c2, rfl, _, _, _⟩ := Reads.of_grown_own hown
        clear hown hB hx
        go_wp2
        go_ret
        exact ⟨by rw [HQ.out]; rfl, hBB⟩
      · have hx := HXN.out (fun h => by have := HNL.out; rw [h] at this; simp at this; omega)
        obtain ⟨A2, c2, rfl, _, _, hr2⟩ := Reads.of_grown_own hown
        have hst := reads_string (P := Try.prog) 83 9 5 Try.underlying83 Try.underlying5 Try.underlying9 (c := c2) hr2
        rw [HTP.out hx] at hst
        obtain ⟨Q, hQ⟩ : ∃ q, strS (textS x) = q := ⟨_, rfl⟩
        rw [hQ] at hst
        have HQ := Lib.hid hQ
        have h1 : ((N : Int) == 0) = false := by rw [beq_eq_false_iff_ne]; omega
        clear hown hB hx hr2 hQ
        go_wp2
        go_ret
        exact ⟨by rw [HQ.out]; rfl, hBB⟩
    · obtain ⟨j, rfl⟩ : ∃ j, k = j + 1 := ⟨k - 1, by omega⟩
      obtain ⟨ad, rfl, hadb, hc⟩ := HR.out j (by omega) wr hB
      have hdl := HDD.out.getD (by decide) j
      have hst : (chN (D.drop j)).reverse = (chN (D.drop (j + 1))).reverse ++ [48 + D.getD j 0] := by
        have hj : j < D.length := by rw [HNL.out]; omega
        unfold chN
        rw [List.drop_eq_getElem_cons hj, List.map_cons, List.reverse_cons, List.getD_eq_getElem?_getD, List.getElem?_eq_getElem hj]
        rfl
      obtain ⟨d, hd⟩ : ∃ d, D.getD j 0 = d := ⟨_, rfl⟩
      rw [hd] at hc hdl hst
      have HST := Lib.hid hst
      have j1 : IntKind.u8.wrap (48 + (d : Int)) = ((48 + d : Nat) : Int) := by simp [IntKind.wrap, IntKind.bits, IntKind.signed]; omega
      have i1 : (0 : Int) ≤ (j : Int) := by omega
      have i2 : (j : Int) < (N : Int) := by omega
      have hbz := hB.size
      have hNj : N - (j + 1) + 1 = N - j := by omega
      have HNJ := Lib.hid hNj
      clear hd hst hNj
      go_wp2_with (at_builtin; refine wpList_append_any _ rfl (.tmp 15) (.tmp 22) 83 rfl w1.heap.size 5 i0 (.int .u8 0) 1 1 Try.underlying83 hi0 hz0 hz1 hz2 rfl (by decide) tv (N - (j + 1)) (vals .u8 (chN (D.drop (j + 1))).reverse) rfl (hown.alloc _) (wr.heap.size + 1) (some ⟨wr.heap.size, 0, none⟩) 1 1 [.int .u8 ((48 + d : Nat) : Int)] rfl ⟨rfl, fun _ => ⟨_, rfl, by simp, push_cells _ _ _⟩⟩ (push_one _ _) (by unfold maxLen; omega) (by omega) (by simp; omega) ?_; intro v' w2 hown' hgrow hat)
      have hG2 : Grew wr tv w2 v' := (Grew.alloc wr tv _).trans ⟨hgrow, hat.imp id fun h g hg => by rw [h] at hg; cases hg; exact Nat.le_refl _⟩
      have hB2 := hG2.belowOf hown hB (Nat.le_refl _)
      have hown2 : w2.ownsRow w1.heap.size 5 1 v' (N - j) (vals .u8 (chN (D.drop j)).reverse) := by
        rw [HST.out, vals_append, ← HNJ.out]; exact hown'
      clear hown' hgrow hat hG2 hown hB HST
      go_wp2
      go_roundg (j + 1)
      case measure => omega
      case rel => exact ⟨v', j, rfl, by go_num, by omega, by omega, hown2, hB2⟩
end Go.Proofs.Ytnfednkphcapnaa
namespace Go.Proofs.Ytnfednkphcapnaa
open Go Go.RowKit
set_option maxRecDepth 100000
set_option linter.unusedVariables false
/-- A number of the reference's, and whether there is one. -/
def GivesR (w : World) (x : Nat) (b : Bool) (e : Ending) (w' : World) : Prop := ∃ (A : Option Addr) (n c : Nat), e = .returned (.tuple #[.slice A n c, .bool b]) ∧ Holds16 w' x A n c ∧ Below w.heap.size w w'
theorem holds_nil (w : World) : Holds16 w 0 none 0 0 := ⟨Reads.none_, Nat.le_refl _, by omega⟩
theorem valP_step (l : List Nat) {k : Nat} (h : k < l.length) : valP (l.take (k + 1)) = valP (l.take k) * 256 + l.getD k 0 := by
  unfold valP
  rw [List.take_succ_eq_append_getElem h, List.reverse_append, List.reverse_singleton, List.singleton_append]
  show l[k] + 256 * _ = _
  rw [List.getD_eq_getElem?_getD, List.getElem?_eq_getElem h, Nat.add_comm, Nat.mul_comm]
  rfl
theorem valP_len {l : List Nat} (hd : Dgs 256 l) : (dg 65536 (valP l)).length ≤ l.length := by
  have h1 := dv_lt (b := 256) (l := l.reverse) (fun d hd' => hd d (by simpa using hd'))
  rw [List.length_reverse] at h1
  exact dg_len_le (by decide) _ _ (Nat.lt_of_lt_of_le h1 (Nat.pow_le_pow_left (by decide) _))
end Go.Proofs.Ytnfednkphcapnaa
namespace Go.Proofs.Ytnfednkphcapnaa
open Go Go.RowKit
set_option maxRecDepth 100000
set_option linter.unusedVariables false
set_option maxHeartbeats 8000000 in
theorem ref6_read (s : ByteArray) (w : World) (hn : s.size ≤ 2147483648) :
    Calls Try.prog 28 #[.string s] w (GivesR w (if okR s.data.toList then valR s.data.toList else 0) (okR s.data.toList)) := by
  obtain ⟨L, hL⟩ : ∃ L, s.data.toList = L := ⟨_, rfl⟩
  obtain ⟨S, hS⟩ : ∃ S, s.size = S := ⟨_, rfl⟩
  have HLS := Lib.hid (show L.length = S by rw [← hL, str_len, hS])
  have HIX : Hid (∀ k, k < S → ∀ w, (Instr.index 9 (.string s) (.int .i64 (k : Int))).run Try.prog w = .ok (.int .u8 (((L.getD k 0).toNat : Nat) : Int)) w) := fun k hk w => by
    have := str_idx (P := Try.prog) Try.underlying9 s k (by omega) w
    rw [hL] at this
    exact this
  have q1 : (s.toList == []) = decide (L = []) := str_lit _ _ _ (by rw [hL])
  have q2 : (s.toList == [48]) = decide (L = [48]) := str_lit _ _ _ (by rw [hL])
  have HBAD : Hid (headOk L = false ∨ L.all isDig = false → okR L = false) := fun h => by
    rw [okR_head]
    rcases h with h | h <;> rw [h] <;> simp
  have HGOOD : Hid (headOk L = true → L.all isDig = true → okR L = true) := fun h1 h2 => by rw [okR_head, h1, h2]; rfl
  have hB := Below.refl w.heap.size w
  rw [hL]
  obtain ⟨ob, hob⟩ : ∃ b, okR L = b := ⟨_, rfl⟩
  rw [hob] at HBAD HGOOD ⊢
  clear hL hob
  have hS1 : S ≤ 2147483648 := by omega
  have hv0 : ob = false → (if ob then valR L else 0) = 0 := fun h => by rw [h]; rfl
  have hv1 : ob = true → (if ob then valR L else 0) = valR L := fun h => by rw [h]; rfl
  obtain ⟨V, hV⟩ : ∃ v, (if ob then valR L else 0) = v := ⟨_, rfl⟩
  rw [hV] at hv0 hv1 ⊢
  clear hV
  have HV1 := Lib.hid hv1
  have NO : ob = false → Hid (∀ w', Below w.heap.size w w' → GivesR w V ob (.returned (.tuple #[.slice none 0 0, .bool false])) w') := fun h w' hb => by
    rw [hv0 h, h]
    exact ⟨none, 0, 0, rfl, holds_nil _, hb⟩
  clear hv0 hv1
  by_cases h0 : L = []
  · have HN := NO (HBAD.out (.inl (by rw [h0]; rfl)))
    rw [decide_eq_true h0] at q1
    clear q2 NO HBAD HGOOD HIX h0
    go_enter Try.func28, Try.ntmps28
    go_wp2
    go_ret2
    exact HN.out _ hB
  · rw [decide_eq_false h0] at q1
    have hpos : 0 < S := by rw [← HLS.out]; exact List.length_pos_iff.2 h0
    have ix0 : ∀ w, (Instr.index 9 (.string s) (.int .i64 0)).run Try.prog w = .ok (.int .u8 (((L.getD 0 0).toNat : Nat) : Int)) w := fun w => HIX.out 0 hpos w
    by_cases h1 : (L.getD 0 0).toNat = 48 ∧ L ≠ [48]
    · have HN := NO (HBAD.out (.inl (by
        obtain ⟨h1, h2⟩ := h1
        unfold headOk
        match L, h0 with
        | c :: t, _ =>
          have hc : c = 48 := by
            have h1 : c.toNat = 48 := h1
            rw [← UInt8.ofNat_toNat (x := c), h1]; rfl
          rw [decide_eq_false h2, hc]
          rfl)))
      rw [decide_eq_false h1.2] at q2
      rw [h1.1] at ix0
      clear NO HBAD HGOOD HIX h0 h1
      go_enter Try.func28, Try.ntmps28
      go_wp2
      go_ret2
      exact HN.out _ hB
    · have HHD : Hid (headOk L = true) := by
        show _ = _
        unfold headOk
        match L, h0 with
        | c :: t, _ =>
          by_cases hc : c = 48
          · have h2 : c :: t = [48] := by
              by_cases h2 : c :: t = [48]
              · exact h2
              · exact absurd ⟨by rw [hc]; rfl, h2⟩ h1
            rw [decide_eq_true h2]; simp
          · simp [hc]
      by_cases h2 : L = [48]
      · rw [decide_eq_true h2] at q2
        have h3 : (L.getD 0 0).toNat = 48 := by rw [h2]; rfl
        rw [h3] at ix0
        clear h2 h3 h0 h1
        go_enter Try.func28, Try.ntmps28
        go_wp2_with fail
        clear q1 q2 ix0
        go_loopg [4, 5] (S + 1) (fun gg u ix wr => ∃ (k : Nat) (A2 : Option Addr) (n2 c2 : Nat), k ≤ S ∧ S < gg + k ∧ ix = .int .i64 k ∧ u = .slice A2 n2 c2 ∧ Hid ((L.take k).all isDig = true) ∧ Holds16 wr (valR (L.take k)) A2 n2 c2 ∧ Below w.heap.size w wr)
        case atStart => exact ⟨0, none, 0, 0, Nat.zero_le _, by omega, rfl, rfl, rfl, holds_nil _, hB⟩
        case round =>
          clear hB
          obtain ⟨k, A2, n2, c2, hk, hg, rfl, rfl, HAL, hh, hB⟩ := hrel
          have i1 : (0 : Int) ≤ (k : Int) := by omega
          by_cases hlt : k < S
          · have i2 : (k : Int) < (S : Int) := by omega
            have hkl : k < L.length := by rw [HLS.out]; exact hlt
            have ix := HIX.out k hlt
            have HST := Lib.hid (valR_step L hkl)
            have HBK := Lib.hid (fun h => all_bad hkl h)
            have HAK := Lib.hid (fun h => all_step hkl HAL.out h)
            have hn2 : n2 ≤ 549755813888 := by
              rw [hh.len]
              have h1 := valR_len HAL.out
              rw [List.length_take] at h1
              omega
            have hdg : isDig (L.getD k 0) = (decide (48 ≤ (L.getD k 0).toNat) && decide ((L.getD k 0).toNat ≤ 57)) := rfl
            rw [hdg] at HBK HAK
            obtain ⟨c, hc⟩ : ∃ c, (L.getD k 0).toNat = c := ⟨_, rfl⟩
            rw [hc] at ix HST HBK HAK
            clear hc hdg
            by_cases h1 : 48 ≤ c
            · by_cases h2 : c ≤ 57
              · have HN := Lib.hid (HAK.out (by simp [h1, h2]))
                obtain ⟨d, hd⟩ : ∃ d, c - 48 = d := ⟨_, rfl⟩
                rw [hd] at HST
                have j1 : decide ((c : Int) < 48) = false := by simp; omega
                have j2 : decide ((57 : Int) < (c : Int)) = false := by simp; omega
                have j3 : (c : Int) - 48 = (d : Int) := by omega
                have j4 : IntKind.u8.wrap (d : Int) = (d : Int) := by simp [IntKind.wrap, IntKind.bits, IntKind.signed]; omega
                have j5 : IntKind.i64.wrap (d : Int) = (d : Int) := IntWalk.i64_in _ (by omega)
                have SM := Lib.hid (show Calls Try.prog 56 #[.slice A2 n2 c2, .int .i64 10, .int .i64 (d : Int)] wr (Gives16 wr (valR (L.take k) * 10 + d)) from ref2_small (valR (L.take k)) 10 d A2 n2 c2 wr hh hn2 (by decide) (by omega))
                rw [← HST.out] at SM
                clear hd HST hh HBK HAK HAL
                go_wp2_with fail
                refine SM.out.mono ?_
                intro e w3 hg3
                obtain ⟨A3, n3, c3, rfl, hh3, hb⟩ := hg3.elim
                have hB3 := keep_below hB hb
                clear hb hg3 hB
                go_wp2
                go_roundg (S - k)
                case measure => omega
                case rel => exact ⟨k + 1, A3, n3, c3, by omega, by omega, by go_num, rfl, HN, hh3, hB3⟩
              · have HN := NO (HBAD.out (.inr (HBK.out (by simp [h2]))))
                have j1 : decide ((c : Int) < 48) = false := by simp; omega
                have j2 : decide ((57 : Int) < (c : Int)) = true := by simp; omega
                clear HST hh HBK HAK HAL NO
                go_wp2
                go_ret2
                exact HN.out _ hB
            · have HN := NO (HBAD.out (.inr (HBK.out (by simp [h1]))))
              have j1 : decide ((c : Int) < 48) = true := by simp; omega
              clear HST hh HBK HAK HAL NO
              go_wp2
              go_ret2
              exact HN.out _ hB
          · have hkS : k = S := by omega
            subst hkS
            rw [List.take_of_length_le (by rw [HLS.out]; exact Nat.le_refl _)] at hh HAL
            have HO := Lib.hid (HGOOD.out HHD.out HAL.out)
            rw [← HV1.out HO.out] at hh
            have HO2 : Hid (∀ w', GivesR w V true (.returned (.tuple #[.slice A2 n2 c2, .bool true])) w' → GivesR w V ob (.returned (.tuple #[.slice A2 n2 c2, .bool true])) w') := fun w' h => by rw [HO.out]; exact h
            clear NO HAL
            go_wp2
            go_ret2
            exact HO2.out _ ⟨A2, n2, c2, rfl, hh, hB⟩
      · rw [decide_eq_false h2] at q2
        have h3 : (L.getD 0 0).toNat ≠ 48 := fun e => h1 ⟨e, h2⟩
        obtain ⟨cc, hcc⟩ : ∃ c, (L.getD 0 0).toNat = c := ⟨_, rfl⟩
        rw [hcc] at ix0 h3
        have q4 : ((cc : Int) != 48) = true := by rw [bne_iff_ne]; omega
        have q5 : ((cc : Int) == 48) = false := by rw [beq_eq_false_iff_ne]; omega
        clear h2 h0 h1 hcc
        go_enter Try.func28, Try.ntmps28
        go_wp2_with fail
        clear q1 q2 ix0 q4 q5 h3
        go_loopg [4, 5] (S + 1) (fun gg u ix wr => ∃ (k : Nat) (A2 : Option Addr) (n2 c2 : Nat), k ≤ S ∧ S < gg + k ∧ ix = .int .i64 k ∧ u = .slice A2 n2 c2 ∧ Hid ((L.take k).all isDig = true) ∧ Holds16 wr (valR (L.take k)) A2 n2 c2 ∧ Below w.heap.size w wr)
        case atStart => exact ⟨0, none, 0, 0, Nat.zero_le _, by omega, rfl, rfl, rfl, holds_nil _, hB⟩
        case round =>
          clear hB
          obtain ⟨k, A2, n2, c2, hk, hg, rfl, rfl, HAL, hh, hB⟩ := hrel
          have i1 : (0 : Int) ≤ (k : Int) := by omega
          by_cases hlt : k < S
          · have i2 : (k : Int) < (S : Int) := by omega
            have hkl : k < L.length := by rw [HLS.out]; exact hlt
            have ix := HIX.out k hlt
            have HST := Lib.hid (valR_step L hkl)
            have HBK := Lib.hid (fun h => all_bad hkl h)
            have HAK := Lib.hid (fun h => all_step hkl HAL.out h)
            have hn2 : n2 ≤ 549755813888 := by
              rw [hh.len]
              have h1 := valR_len HAL.out
              rw [List.length_take] at h1
              omega
            have hdg : isDig (L.getD k 0) = (decide (48 ≤ (L.getD k 0).toNat) && decide ((L.getD k 0).toNat ≤ 57)) := rfl
            rw [hdg] at HBK HAK
            obtain ⟨c, hc⟩ : ∃ c, (L.getD k 0).toNat = c := ⟨_, rfl⟩
            rw [hc] at ix HST HBK HAK
            clear hc hdg
            by_cases h1 : 48 ≤ c
            · by_cases h2 : c ≤ 57
              · have HN := Lib.hid (HAK.out (by simp [h1, h2]))
                obtain ⟨d, hd⟩ : ∃ d, c - 48 = d := ⟨_, rfl⟩
                rw [hd] at HST
                have j1 : decide ((c : Int) < 48) = false := by simp; omega
                have j2 : decide ((57 : Int) < (c : Int)) = false := by simp; omega
                have j3 : (c : Int) - 48 = (d : Int) := by omega
                have j4 : IntKind.u8.wrap (d : Int) = (d : Int) := by simp [IntKind.wrap, IntKind.bits, IntKind.signed]; omega
                have j5 : IntKind.i64.wrap (d : Int) = (d : Int) := IntWalk.i64_in _ (by omega)
                have SM := Lib.hid (show Calls Try.prog 56 #[.slice A2 n2 c2, .int .i64 10, .int .i64 (d : Int)] wr (Gives16 wr (valR (L.take k) * 10 + d)) from ref2_small (valR (L.take k)) 10 d A2 n2 c2 wr hh hn2 (by decide) (by omega))
                rw [← HST.out] at SM
                clear hd HST hh HBK HAK HAL
                go_wp2_with fail
                refine SM.out.mono ?_
                intro e w3 hg3
                obtain ⟨A3, n3, c3, rfl, hh3, hb⟩ := hg3.elim
                have hB3 := keep_below hB hb
                clear hb hg3 hB
                go_wp2
                go_roundg (S - k)
                case measure => omega
                case rel => exact ⟨k + 1, A3, n3, c3, by omega, by omega, by go_num, rfl, HN, hh3, hB3⟩
              · have HN := NO (HBAD.out (.inr (HBK.out (by simp [h2]))))
                have j1 : decide ((c : Int) < 48) = false := by simp; omega
                have j2 : decide ((57 : Int) < (c : Int)) = true := by simp; omega
                clear HST hh HBK HAK HAL NO
                go_wp2
                go_ret2
                exact HN.out _ hB
            · have HN := NO (HBAD.out (.inr (HBK.out (by simp [h1]))))
              have j1 : decide ((c : Int) < 48) = true := by simp; omega
              clear HST hh HBK HAK HAL NO
              go_wp2
              go_ret2
              exact HN.out _ hB
          · have hkS : k = S := by omega
            subst hkS
            rw [List.take_of_length_le (by rw [HLS.out]; exact Nat.le_refl _)] at hh HAL
            have HO := Lib.hid (HGOOD.out HHD.out HAL.out)
            rw [← HV1.out HO.out] at hh
            have HO2 : Hid (∀ w', GivesR w V true (.returned (.tuple #[.slice A2 n2 c2, .bool true])) w' → GivesR w V ob (.returned (.tuple #[.slice A2 n2 c2, .bool true])) w') := fun w' h => by rw [HO.out]; exact h
            clear NO HAL
            go_wp2
            go_ret2
            exact HO2.out _ ⟨A2, n2, c2, rfl, hh, hB⟩
end Go.Proofs.Ytnfednkphcapnaa
