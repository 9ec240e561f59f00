/-
  The contract of digits' Text: a number's text. Conditions: the value is a number of up to 2 to the 30 words.
-/
import Derived.Test.YtnnhcicdildfaaaRows
import Derived.Test.YtnnhcicdildfaaaH6Piece
import Derived.Test.YtnnhcicdildfaaaH6Rev
import Derived.Test.YtnnhcicdildfaaaQBy
import Derived.Test.YtnnhcicdildfaaaP6C
import Derived.Test.YtnnhcicdildfaaaNWrap
import Derived.Test.YtnnhcicdildfaaaBunV
import Derived.Test.YtnnhcicdildfaaaW6Awake
import Derived.WalkKit
import Derived.Lib.Hide
import Derived.Outline
import Derived.LoopTactic
import Derived.Deep.LoopGhost
import Derived.IntWalk
namespace Go.Proofs.Ytnnhcicdildfaaa
open Go Go.RowKit
set_option maxRecDepth 100000
set_option linter.unusedVariables false
set_option linter.unusedSimpArgs false
/-- A number's words lie elsewhere than the text that grows. -/
def Aside (v : Value) (B : Option Addr) (m : Nat) : Prop := 0 < m → ∀ ad, B = some ad → v.ownBlock ≠ some ad.block
theorem Aside.words {w w' : World} {v v' : Value} {x m d : Nat} {B : Option Addr} (h : Aside v B m) (hx : WordsIn w x B m d) (hg : Grew w v w' v') : WordsIn w' x B m d ∧ Aside v' B m := by
  refine ⟨words_grown hx hg.grown (fun hm ad e => (h hm ad e).symm), fun hm ad e => ?_⟩
  rcases hg.at_ with h1 | h1
  · rw [h1]; exact h hm ad e
  · intro h2
    have := h1 _ h2
    obtain ⟨ad', e', hb, _⟩ := hx.1.2 hm
    rw [e] at e'
    injection e' with e'
    subst e'
    omega
theorem Aside.none_ (B : Option Addr) (m : Nat) : Aside (.slice none 0 0) B m := fun _ _ _ h => by simp [Value.ownBlock] at h
theorem Aside.fresh {w : World} {base : Nat} {v : Value} {B : Option Addr} {m n : Nat} {e : TypeId} {vs : List Value} (hf : Fresh w B) (hv : w.ownsRow base e 1 v n vs) : Aside v B m := fun _ ad ea hh => by
  have h1 := hf ad ea
  have := (hv.lt _ hh).2
  omega
theorem Grew.blk {w w' : World} {v v' : Value} {base g n : Nat} {t e : TypeId} {cs : Array Value} {vs : List Value} (h : Grew w v w' v') (hv : w.ownsRow base e 1 v n vs) (hk : Blk w g t cs) (hg : g < base) : Blk w' g t cs :=
  hk.grown h.grown (fun e => by have := (hv.lt g e.symm).1; omega)
theorem Grew.belowOf {w0 w w' : World} {v v' : Value} {base n : Nat} {e : TypeId} {vs : List Value} (h : Grew w v w' v') (hv : w.ownsRow base e 1 v n vs) (hb : Below w0.heap.size w0 w) (hw : w0.heap.size ≤ base) : Below w0.heap.size w0 w' :=
  hb.grown h.grown hb.size (fun g e => by have := (hv.lt g e).1; omega)
/-- What the loop has written, and what is left. -/
def TextB (x y : Nat) (D : List Nat) : Prop := Dgs 10 D ∧ dv 10 D + 10 ^ D.length * y = x
theorem TextB.start (x : Nat) : TextB x x [] := ⟨fun d hd => by simp at hd, by simp [dv]⟩
theorem TextB.step {x y : Nat} {D : List Nat} (h : TextB x y D) : TextB x (y / 10000000000000000000) (D ++ lowD 19 (y % 10000000000000000000)) := by
  refine ⟨h.1.append (lowD_dgs _ _), ?_⟩
  rw [dv_append, List.length_append, lowD_len, lowD_dv, Nat.pow_add, show (10 : Nat) ^ 19 = 10000000000000000000 from rfl, Nat.mod_mod, Nat.mul_assoc, Nat.add_assoc, ← Nat.mul_add, Nat.mod_add_div]
  exact h.2
theorem TextB.done {x : Nat} {D : List Nat} (h : TextB x 0 D) : dv 10 D = x := by have := h.2; simpa using this
theorem TextB.len {x y : Nat} {D : List Nat} (h : TextB x y D) (hy : y ≠ 0) : 10 ^ D.length ≤ x := by
  have := h.2
  have h1 : 10 ^ D.length * 1 ≤ 10 ^ D.length * y := Nat.mul_le_mul_left _ (by omega)
  omega
theorem text_of {x : Nat} (hx : x ≠ 0) : strL (chN (dg 10 x)).reverse = strS (textS x) := by
  unfold strL strS textS tdg chB chN
  rw [if_neg hx]
  congr 2
  rw [← List.map_reverse, List.map_map]
  rfl
theorem own_set {w : World} {base n : Nat} {e : TypeId} {v : Value} {vs : List Value} (h : w.ownsRow base e 1 v n vs) {p : Addr} (hp : p.block < base) (u : Value) : (w.setCell p u).ownsRow base e 1 v n vs := by
  refine ⟨h.1, ?_⟩
  rcases h.2 with h1 | ⟨g, cap, cur, e1, e2, e3, e4⟩
  · exact .inl h1
  · exact .inr ⟨g, cap, cur, e1, e2, Blk.far (t := e) (cs := cur) e3 (by omega) u, e4⟩
theorem Row8.cut {w : World} {t : TypeId} {g cap n m : Nat} {L : List Nat} (h : Row8 w t g cap n L) (hm : m ≤ n) : Row8 w t g cap m (L.take m) := by
  obtain ⟨cur, h0, h1, h2, h3, h4, h5⟩ := h
  refine ⟨cur, h0, by omega, h2, h3, by rw [List.length_take]; omega, ?_⟩
  rw [← vals_take, ← h5, List.take_take, Nat.min_eq_left hm]
theorem text_zero (A : Option Addr) (n c : Nat) (w : World) (hA : WordsIn w 0 A n c) :
    Calls Try.prog 15 #[.agg #[.slice A n c]] w fun e w' => e = .returned (.string (strS (textS 0))) ∧ Below w.heap.size w w' := by
  obtain ⟨hB, b2, b5⟩ := box1 w 25 #[.slice A n c]
  have HZ := Lib.hid (zero_yes rfl (hA.below hB))
  clear hA
  go_enter Try.func15, Try.ntmps15
  go_wp2_with fail
  refine HZ.out.mono ?_
  rintro e w1 ⟨rfl, hb⟩
  have hB1 := keep_below hB hb
  clear hb hB b2 b5 HZ
  go_wp2
  go_ret
  exact ⟨rfl, hB1⟩
set_option maxHeartbeats 8000000 in
theorem text_more (x : Nat) (A : Option Addr) (n c : Nat) (w : World) (hA : WordsIn w x A n c) (hx : x ≠ 0) (hn : n ≤ 1073741824) :
    Calls Try.prog 15 #[.agg #[.slice A n c]] w fun e w' => e = .returned (.string (strS (textS x))) ∧ Below w.heap.size w w' := by
  obtain ⟨hB, b2, b5⟩ := box1 w 25 #[.slice A n c]
  have hw0 := hA.below hB
  have HZ := Lib.hid (zero_no hx hw0)
  obtain ⟨N, hN⟩ : ∃ N, (dg 10 x).length = N := ⟨_, rfl⟩
  have hNn : N ≤ 64 * n := by
    rw [← hN]
    refine dg_len_le (by decide) _ _ ?_
    have h := dg_lt (b := 18446744073709551616) (by decide) x
    rw [hA.len, pow64] at h
    exact Nat.lt_of_lt_of_le h (Nat.pow_le_pow_left (by decide) _)
  have hN0 : 0 < N := by rw [← hN]; exact (dg_ge (b := 10) (by decide) x hx).1
  have HN : Hid (∀ k, 10 ^ k ≤ x → k ≤ N) := fun k hk => by
    have h := dg_lt (b := 10) (by decide) x
    rw [hN] at h
    have := (Nat.pow_lt_pow_iff_right (a := 10) (by decide)).1 (Nat.lt_of_le_of_lt hk h)
    omega
  have HSM : Hid (∀ y m, y ≤ x → (dg 18446744073709551616 y).length = m → m ≤ n) := fun y m hy e => by
    have := dg_len_mono (b := 18446744073709551616) (by decide) hy
    rw [hA.len, e] at this
    exact this
  have HX := Lib.hid hx
  have HNN := Lib.hid hN
  have HT0 := Lib.hid (TextB.start x)
  clear hA hx hN
  go_enter Try.func15, Try.ntmps15
  go_wp2_with fail
  refine HZ.out.mono ?_
  rintro e w1 ⟨rfl, hb⟩
  have hB1 := keep_below hB hb
  have hk1 := keep_blk hb b2
  have hw1 := hw0.below hb
  clear hb hB b2 b5 HZ hw0
  go_wp2_with fail
  go_loopg [3] (x + 1) (fun gg t wr => ∃ (tv : Value) (y : Nat) (D : List Nat) (B : Option Addr) (m d : Nat), tv = t ∧ y < gg ∧ Hid (TextB x y D) ∧ D.length ≤ N + 19 ∧ wr.ownsRow (w.heap.size + 1) 5 1 tv D.length (vals .u8 (chN D)) ∧
      Blk wr w.heap.size 25 #[.slice B m d] ∧ WordsIn wr y B m d ∧ Aside tv B m ∧ Below w.heap.size w wr)
  case atStart => exact ⟨_, x, [], A, n, c, rfl, by omega, HT0, by simp, World.ownsRow_nil _ _ _ _, hk1, hw1, Aside.none_ _ _, hB1⟩
  case round =>
    clear hk1 hw1 hB1 HT0
    obtain ⟨tv, y, D, B, m, d, rfl, hyg, HTB, hDN, hown, hk, hw, has, hB⟩ := hrel
    have hyx : y ≤ x := by
      have h1 := HTB.out.2
      have h2 : 1 * y ≤ 10 ^ D.length * y := Nat.mul_le_mul_right _ (Nat.pow_pos (by decide))
      omega
    have hmn := HSM.out y m hyx hw.len
    have g1 := hk.cell 0
    simp only [List.getElem?_toArray, List.getElem?_cons_zero] at g1
    by_cases hy : y = 0
    · subst hy
      have HZ := Lib.hid (zero_yes rfl hw)
      have HDV := Lib.hid HTB.out.done
      have HDD := Lib.hid HTB.out.1
      have hD0 : 0 < D.length := by
        rcases Nat.eq_zero_or_pos D.length with h | h
        · have h1 := HDV.out
          rw [List.eq_nil_of_length_eq_zero h] at h1
          exact absurd h1.symm HX.out
        · exact h
      clear has hw HTB hyx hmn
      go_wp2_with fail
      refine HZ.out.mono ?_
      rintro e w1 ⟨rfl, hb⟩
      have hB1 := keep_below hB hb
      obtain ⟨g, cap, rfl, hg, hR⟩ := Row8.of_own (own_below hown hb) hD0
      have hrm := hR.room
      unfold maxLen at hrm
      have hdt := dg_take (b := 10) (by decide) HDD.out
      rw [HDV.out, HNN.out] at hdt
      have hwo := digits_without ⟨g, 0, none⟩ D.length cap _ D w1 hR.reads HDD.out hrm.1 (by omega) (by omega)
      rw [HDV.out, HNN.out] at hwo
      have HWO := Lib.hid hwo
      have hR2 := hR.cut (m := N) hdt.1
      have ech : (chN D).take N = chN (dg 10 x) := by unfold chN; rw [← List.map_take, hdt.2]
      rw [ech] at hR2
      have HRV := Lib.hid (slices_reverse 5 g cap N cap _ w1 hR2 hN0 (by omega) (by omega) (by omega))
      clear hb hB hown hwo hdt hk ech g1 HZ hR hR2
      go_wp2_with fail
      refine HWO.out.mono ?_
      rintro e w2 ⟨rfl, rfl⟩
      clear HWO
      go_wp2_with fail
      refine HRV.out.mono ?_
      rintro e w3 ⟨⟨rv, rfl⟩, hR3, hO⟩
      have hB3 := hO.below hB1 hB1.size (by omega)
      have hst := reads_string (P := Try.prog) 30 9 5 Try.underlying30 Try.underlying5 Try.underlying9 (c := cap) hR3.reads
      rw [text_of HX.out] at hst
      obtain ⟨Q, hQ⟩ : ∃ q, strS (textS x) = q := ⟨_, rfl⟩
      rw [hQ] at hst
      have HQ := Lib.hid hQ
      clear hR3 hO HRV hB1 hQ
      go_wp2
      go_ret
      exact ⟨by rw [HQ.out]; rfl, hB3⟩
    · have HZ := Lib.hid (zero_no hy hw)
      have hDl := HN.out _ (HTB.out.len hy)
      have HST := Lib.hid HTB.out.step
      have HLT : Hid (y / 10000000000000000000 < y) := Nat.div_lt_self (Nat.pos_of_ne_zero hy) (by decide)
      have hpl : y % 10000000000000000000 < 18446744073709551616 := Nat.lt_trans (Nat.mod_lt _ (by decide)) (by decide)
      have HBYW := Lib.hid (fun w' (h : Below wr.heap.size wr w') => quot_byword_new y 10000000000000000000 B m d w' (hw.below h) (by omega) (by decide) (by decide))
      obtain ⟨p, hp⟩ : ∃ p, y % 10000000000000000000 = p := ⟨_, rfl⟩
      obtain ⟨q, hq⟩ : ∃ p, y / 10000000000000000000 = p := ⟨_, rfl⟩
      rw [hp] at HST hpl HBYW
      rw [hq] at HST HBYW HLT
      clear hp hq hw has HTB hy hyx hmn
      go_wp2_with fail
      refine HZ.out.mono ?_
      rintro e w1 ⟨rfl, hb⟩
      have hB1 := keep_below hB hb
      have hown1 := own_below hown hb
      have hk1 := keep_blk hb hk
      have g2 := keep_cell hb g1
      have HBY2 := Lib.hid (HBYW.out w1 hb)
      clear hB hown hk g1 HZ hb HBYW
      go_wp2_with fail
      refine HBY2.out.mono ?_
      rintro e w2 ⟨B2, m2, d2, rfl, hw2, hb2, hf2⟩
      have hB2 := keep_below hB1 hb2
      have hown2 := own_below hown1 hb2
      have hk2 := keep_blk hb2 hk1
      have has2 : Aside tv B2 m2 := Aside.fresh hf2 hown1
      have c2 := hk2.cell 0
      have f2 := hk2.frozen 0
      have hlt1 := hk1.lt
      have hlt2 := hk2.lt
      have hown3 := own_set hown2 (p := ⟨w.heap.size, 0, none⟩) (by show w.heap.size < w.heap.size + 1; omega) (.slice B2 m2 d2)
      have hk3 := hk2.set_ 0 (.slice B2 m2 d2)
      have hw3 := words_set hw2 (p := ⟨w.heap.size, 0, none⟩) (fun ad e => by have := hf2 ad e; show ad.block ≠ w.heap.size; omega) (.slice B2 m2 d2)
      have hB3 := hB2.setCell (p := ⟨w.heap.size, 0, none⟩) (Nat.le_refl _) (.slice B2 m2 d2)
      have hlt3 : w.heap.size + 1 ≤ (w2.setCell ⟨w.heap.size, 0, none⟩ (.slice B2 m2 d2)).heap.size := by have := hk3.lt; omega
      clear hB1 hown1 hk1 g2 hB2 hown2 hk2 HBY2 hb2 hw2 hf2
      go_wp2_with fail
      clear c2 f2
      generalize w2.setCell ⟨w.heap.size, 0, none⟩ (.slice B2 m2 d2) = W3 at *
      refine (digits_appendPiece (w.heap.size + 1) D.length p tv _ W3 hown3 hlt3 (by omega) hpl).mono ?_
      rintro e w4 ⟨tv2, rfl, hown4, hG4⟩
      obtain ⟨hw4, has4⟩ := has2.words hw3 hG4
      have hk4 := hG4.blk hown3 hk3 (by omega)
      have hB4 := hG4.belowOf hown3 hB3 (by omega)
      have hown5 : w4.ownsRow (w.heap.size + 1) 5 1 tv2 (D ++ lowD 19 p).length (vals .u8 (chN (D ++ lowD 19 p))) := by
        rw [chN_append, vals_append, List.length_append, lowD_len]; exact hown4
      clear hown4 hG4 has2 hw3 hk3 hown3 hB3
      go_wp2
      go_roundg y
      case measure => omega
      case rel => exact ⟨tv2, q, _, B2, m2, d2, rfl, HLT.out, HST, by rw [List.length_append, lowD_len]; omega, hown5, hk4, hw4, has4, hB4⟩
/-- Text. -/
theorem digits_text (x : Nat) (A : Option Addr) (n c : Nat) (w : World) (hA : WordsIn w x A n c) (hn : n ≤ 1073741824) :
    Calls Try.prog 15 #[.agg #[.slice A n c]] w fun e w' => e = .returned (.string (strS (textS x))) ∧ Below w.heap.size w w' := by
  by_cases hx : x = 0
  · subst hx; exact text_zero A n c w hA
  · exact text_more x A n c w hA hx hn
end Go.Proofs.Ytnnhcicdildfaaa
