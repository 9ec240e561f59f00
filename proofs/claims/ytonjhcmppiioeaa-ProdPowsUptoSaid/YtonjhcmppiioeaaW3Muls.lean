/-
  The walk of the law ProdMuls. Conditions: the words that came in are words, at most 1048576 of each; prod's functions do as ProdC says.
-/
import Derived.Test.YtonjhcmppiioeaaRows
import Derived.Test.YtonjhcmppiioeaaW3Awake
import Derived.Test.YtonjhcmppiioeaaNAdd
import Derived.Test.YtonjhcmppiioeaaN2Ref
import Derived.Test.YtonjhcmppiioeaaN2Like
import Derived.Test.YtonjhcmppiioeaaR3Mul
import Derived.WalkKit
import Derived.Lib.Hide
import Derived.Outline
import Derived.Deep.RegionHeld3
namespace Go.Proofs.Ytonjhcmppiioeaa
open Go Go.RowKit
set_option maxRecDepth 100000
set_option linter.unusedVariables false
set_option linter.unusedSimpArgs false
/-- The reference's number, of words written out. -/
theorem ref_lit (cs : Array Value) (l : List Nat) (w : World) (g n x : Nat) (hk : Blk w g 23 cs) (hn : cs.size = n) (hv : cs.toList = vals .u64 l) (hd : Dgs 18446744073709551616 l) (hx : dv 18446744073709551616 l = x) (hs : n ≤ 1000) :
    Calls Try.prog 10 #[.slice (some ⟨g, 0, none⟩) n n] w (Gives16 w x) := by
  have hl : l.length = n := by
    have h := congrArg List.length hv
    rw [vals_length] at h
    rw [← h]; simpa using hn
  have := ref2_of (some ⟨g, 0, none⟩) n n l w (blk_reads hk hn (by rw [hv, List.take_of_length_le (by rw [vals_length]; omega)]) hl) hd (by omega)
  rw [hx] at this
  exact this
set_option maxHeartbeats 16000000 in
theorem prodMuls_core (PC : ProdC) (A0 : Option Addr) (n0 c0 : Nat) (l0 : List Nat) (A1 : Option Addr) (n1 c1 : Nat) (l1 : List Nat) (xa xb : Nat) (w : World) (h0 : ArgWords w A0 n0 c0 l0) (h1 : ArgWords w A1 n1 c1 l1) (hxa : xa < 18446744073709551616) (hxb : xb < 18446744073709551616) :
    Calls Try.prog 3 #[.slice A0 n0 c0, .slice A1 n1 c1, .int .u64 (xa : Int), .int .u64 (xb : Int)] w fun e w' => e = .returned (.bool true) ∧ Below w.heap.size w w' := by
  have HPC := Lib.hid PC
  obtain ⟨K, hK⟩ : ∃ K, 1048576 = K := ⟨_, rfl⟩
  have O0 := arg_of h0
  have S0 := arg_sz h0
  have O1 := arg_of h1
  have S1 := arg_sz h1
  rw [hK] at S0 S1
  have hK2 : K ≤ 1048576 := by omega
  obtain ⟨x, hx0⟩ : ∃ v, dv 18446744073709551616 l0 = v := ⟨_, rfl⟩
  rw [hx0] at O0 S0
  have HO0 := Lib.hid O0
  have HS0 := Lib.hid S0
  obtain ⟨y, hx1⟩ : ∃ v, dv 18446744073709551616 l1 = v := ⟨_, rfl⟩
  rw [hx1] at O1 S1
  have HO1 := Lib.hid O1
  have HS1 := Lib.hid S1
  have P0 := arg_ref2 h0
  have P1 := arg_ref2 h1
  rw [hx0] at P0
  rw [hx1] at P1
  have HP0 := Lib.hid P0
  have HP1 := Lib.hid P1
  have HXA := Lib.hid hxa
  have HXB := Lib.hid hxb
  clear PC O0 S0 h0 hx0 O1 S1 h1 hx1 hK P0 P1 hxa hxb
  go_enter Try.func3, Try.ntmps3
  go_wp2_with fail
  refine (law3_awake HPC.out _).mono ?_
  rintro e w1 ⟨rfl, hB⟩
  go_wp2_with fail
  refine (HP0.out _ hB).mono ?_
  intro e wp hg
  obtain ⟨Cp, rp, fp, rfl, hh, hb⟩ := hg.elim
  have hB := keep_below hB hb
  have HRp := Lib.hid hh
  clear hb hh hg
  go_wp2_with fail
  refine (HP1.out _ hB).mono ?_
  intro e wq hg
  obtain ⟨Cq, rq, fq, rfl, hh, hb⟩ := hg.elim
  have hB := keep_below hB hb
  have HRp := Lib.hid (HRp.out.below hb)
  have HRq := Lib.hid hh
  clear hb hh hg
  go_wp2_with fail
  refine (HO0.out _ hB).mono ?_
  rintro e wa ⟨Ba, ma, da, rfl, hw0, hb, _⟩
  have hB := keep_below hB hb
  have HRp := Lib.hid (HRp.out.below hb)
  have HRq := Lib.hid (HRq.out.below hb)
  have HNa := Lib.hid hw0
  clear hb hw0
  go_wp2_with fail
  refine (HO1.out _ hB).mono ?_
  rintro e wb ⟨Bb, mb, db, rfl, hw0, hb, _⟩
  have hB := keep_below hB hb
  have HRp := Lib.hid (HRp.out.below hb)
  have HRq := Lib.hid (HRq.out.below hb)
  have HNa := Lib.hid (HNa.out.below hb)
  have HNb := Lib.hid hw0
  clear hb hw0
  have hma := HS0.out.words HNa.out
  have hmb := HS1.out.words HNb.out
  go_wp2_with fail
  refine (HPC.out.mul x y Ba Bb ma mb da db _ HNa.out HNb.out (by omega) (by omega)).mono ?_
  rintro e wm ⟨Bm, mm, dm, rfl, hw0, hb, _⟩
  have hB := keep_below hB hb
  have HRp := Lib.hid (HRp.out.below hb)
  have HRq := Lib.hid (HRq.out.below hb)
  have HNa := Lib.hid (HNa.out.below hb)
  have HNb := Lib.hid (HNb.out.below hb)
  have HNm := Lib.hid hw0
  clear hb hw0
  have st := up_alloc wm (.cells #[.slice Bm mm dm] 29)
  have hk := (Blk.new wm 29 #[.slice Bm mm dm]).cell 0
  have hB := keep_below hB st
  have HRp := Lib.hid (HRp.out.below st)
  have HRq := Lib.hid (HRq.out.below st)
  have HNa := Lib.hid (HNa.out.below st)
  have HNb := Lib.hid (HNb.out.below st)
  have HNm := Lib.hid (HNm.out.below st)
  have g1 : (wm.alloc (.cells #[.slice Bm mm dm] 29)).cell? ⟨wm.heap.size, 0, none⟩ = some (.slice Bm mm dm) := hk
  clear st hk
  go_wp2_with fail
  generalize wm.alloc (.cells #[.slice Bm mm dm] 29) = W1 at *
  generalize wm.heap.size = p1 at *
  refine (HO0.out _ hB).mono ?_
  rintro e wc ⟨Bc, mc, dc, rfl, hw0, hb, _⟩
  have hB := keep_below hB hb
  have HRp := Lib.hid (HRp.out.below hb)
  have HRq := Lib.hid (HRq.out.below hb)
  have HNa := Lib.hid (HNa.out.below hb)
  have HNb := Lib.hid (HNb.out.below hb)
  have HNm := Lib.hid (HNm.out.below hb)
  have g1 := keep_cell hb g1
  have HNc := Lib.hid hw0
  clear hb hw0
  have hmc := HS0.out.words HNc.out
  go_wp2_with fail
  refine (HPC.out.byWord x xa xb Bc mc dc _ HNc.out (by omega) HXA.out HXB.out).mono ?_
  rintro e ww ⟨Bw, mw, dw, rfl, hw0, hb, _⟩
  have hB := keep_below hB hb
  have HRp := Lib.hid (HRp.out.below hb)
  have HRq := Lib.hid (HRq.out.below hb)
  have HNa := Lib.hid (HNa.out.below hb)
  have HNb := Lib.hid (HNb.out.below hb)
  have HNm := Lib.hid (HNm.out.below hb)
  have g1 := keep_cell hb g1
  have HNc := Lib.hid (HNc.out.below hb)
  have HNw := Lib.hid hw0
  clear hb hw0
  have st := up_alloc ww (.cells #[.slice Bw mw dw] 29)
  have hk := (Blk.new ww 29 #[.slice Bw mw dw]).cell 0
  have hB := keep_below hB st
  have HRp := Lib.hid (HRp.out.below st)
  have HRq := Lib.hid (HRq.out.below st)
  have HNa := Lib.hid (HNa.out.below st)
  have HNb := Lib.hid (HNb.out.below st)
  have HNm := Lib.hid (HNm.out.below st)
  have g1 := keep_cell st g1
  have HNc := Lib.hid (HNc.out.below st)
  have HNw := Lib.hid (HNw.out.below st)
  have g2 : (ww.alloc (.cells #[.slice Bw mw dw] 29)).cell? ⟨ww.heap.size, 0, none⟩ = some (.slice Bw mw dw) := hk
  clear st hk
  have hrp := HS0.out.holds' HRp.out
  have hrq := HS1.out.holds' HRq.out
  go_wp2_with fail
  generalize hW : (ww.alloc (.cells #[.slice Bw mw dw] 29)).alloc (.cells #[.int .u64 (xa : Int)] 23) = W2
  obtain ⟨b1, b2, b5⟩ := box1 (ww.alloc (.cells #[.slice Bw mw dw] 29)) 23 #[.int .u64 (xa : Int)]
  rw [hW] at b1 b2 b5
  have hsz : (ww.alloc (.cells #[.slice Bw mw dw] 29)).heap.size = ww.heap.size + 1 := by simp
  rw [hsz] at b2
  have hB := keep_below hB b1
  have HRp := Lib.hid (HRp.out.below b1)
  have HRq := Lib.hid (HRq.out.below b1)
  have HNa := Lib.hid (HNa.out.below b1)
  have HNb := Lib.hid (HNb.out.below b1)
  have HNm := Lib.hid (HNm.out.below b1)
  have g1 := keep_cell b1 g1
  have HNc := Lib.hid (HNc.out.below b1)
  have HNw := Lib.hid (HNw.out.below b1)
  have g2 := keep_cell b1 g2
  clear hW
  have RX := ref_lit #[.int .u64 (xa : Int)] [xa] W2 (ww.heap.size + 1) 1 xa b2 rfl rfl (dgs1 xa HXA.out) (by simp [dv]) (by decide)
  clear b1 b2 b5 hsz
  generalize ww.heap.size = p2 at *
  refine RX.mono ?_
  clear RX
  intro e wx hg
  obtain ⟨Cx, rx, fx, rfl, hh, hb⟩ := hg.elim
  have hB := keep_below hB hb
  have HRp := Lib.hid (HRp.out.below hb)
  have HRq := Lib.hid (HRq.out.below hb)
  have HNa := Lib.hid (HNa.out.below hb)
  have HNb := Lib.hid (HNb.out.below hb)
  have HNm := Lib.hid (HNm.out.below hb)
  have g1 := keep_cell hb g1
  have HNc := Lib.hid (HNc.out.below hb)
  have HNw := Lib.hid (HNw.out.below hb)
  have g2 := keep_cell hb g2
  have HRx := Lib.hid hh
  clear hb hh hg
  have hrx : rx ≤ 4 := by rw [HRx.out.len]; exact dg_len_le (by decide) _ _ (by have := HXA.out; simpa using this)
  go_wp2_with fail
  refine (ref3_mul x xa Cp Cx rp rx fp fx wx HRp.out HRx.out (by omega) (by omega)).mono ?_
  rintro e wy ⟨Cy, ry, fy, rfl, hh, hb⟩
  have hB := keep_below hB hb
  have HRp := Lib.hid (HRp.out.below hb)
  have HRq := Lib.hid (HRq.out.below hb)
  have HNa := Lib.hid (HNa.out.below hb)
  have HNb := Lib.hid (HNb.out.below hb)
  have HNm := Lib.hid (HNm.out.below hb)
  have g1 := keep_cell hb g1
  have HNc := Lib.hid (HNc.out.below hb)
  have HNw := Lib.hid (HNw.out.below hb)
  have g2 := keep_cell hb g2
  have HRx := Lib.hid (HRx.out.below hb)
  have HRy := Lib.hid hh
  clear hb hh
  have hry : ry ≤ 4 * K + 4 := by rw [HRy.out.len]; exact mul_len16 (by rw [← HRp.out.len]; exact hrp) (by rw [← HRx.out.len]; exact hrx)
  go_wp2_with fail
  generalize hW : wy.alloc (.cells #[.int .u64 (xb : Int)] 23) = W3
  obtain ⟨b1, b2, b5⟩ := box1 wy 23 #[.int .u64 (xb : Int)]
  rw [hW] at b1 b2 b5
  have hB := keep_below hB b1
  have HRp := Lib.hid (HRp.out.below b1)
  have HRq := Lib.hid (HRq.out.below b1)
  have HNa := Lib.hid (HNa.out.below b1)
  have HNb := Lib.hid (HNb.out.below b1)
  have HNm := Lib.hid (HNm.out.below b1)
  have g1 := keep_cell b1 g1
  have HNc := Lib.hid (HNc.out.below b1)
  have HNw := Lib.hid (HNw.out.below b1)
  have g2 := keep_cell b1 g2
  have HRx := Lib.hid (HRx.out.below b1)
  have HRy := Lib.hid (HRy.out.below b1)
  clear hW
  have RX := ref_lit #[.int .u64 (xb : Int)] [xb] W3 wy.heap.size 1 xb b2 rfl rfl (dgs1 xb HXB.out) (by simp [dv]) (by decide)
  clear b1 b2 b5
  refine RX.mono ?_
  clear RX
  intro e wz hg
  obtain ⟨Cz, rz, fz, rfl, hh, hb⟩ := hg.elim
  have hB := keep_below hB hb
  have HRp := Lib.hid (HRp.out.below hb)
  have HRq := Lib.hid (HRq.out.below hb)
  have HNa := Lib.hid (HNa.out.below hb)
  have HNb := Lib.hid (HNb.out.below hb)
  have HNm := Lib.hid (HNm.out.below hb)
  have g1 := keep_cell hb g1
  have HNc := Lib.hid (HNc.out.below hb)
  have HNw := Lib.hid (HNw.out.below hb)
  have g2 := keep_cell hb g2
  have HRx := Lib.hid (HRx.out.below hb)
  have HRy := Lib.hid (HRy.out.below hb)
  have HRz := Lib.hid hh
  clear hb hh hg
  have hrz : rz ≤ 4 := by rw [HRz.out.len]; exact dg_len_le (by decide) _ _ (by have := HXB.out; simpa using this)
  go_wp2_with fail
  refine (ref2_add (x * xa) xb Cy Cz ry rz fy fz wz HRy.out HRz.out (by omega) (by omega)).mono ?_
  intro e wv hg
  obtain ⟨Cv, rv, fv, rfl, hh, hb⟩ := hg.elim
  have hB := keep_below hB hb
  have HRp := Lib.hid (HRp.out.below hb)
  have HRq := Lib.hid (HRq.out.below hb)
  have HNa := Lib.hid (HNa.out.below hb)
  have HNb := Lib.hid (HNb.out.below hb)
  have HNm := Lib.hid (HNm.out.below hb)
  have g1 := keep_cell hb g1
  have HNc := Lib.hid (HNc.out.below hb)
  have HNw := Lib.hid (HNw.out.below hb)
  have g2 := keep_cell hb g2
  have HRx := Lib.hid (HRx.out.below hb)
  have HRy := Lib.hid (HRy.out.below hb)
  have HRz := Lib.hid (HRz.out.below hb)
  have HRv := Lib.hid hh
  clear hb hh hg
  have hS1 : Sz 1 xa := by show xa < 18446744073709551616 ^ 1; have := HXA.out; omega
  have hS2 : Sz (K + 1) xb := Sz.up (K := 1) (by show xb < 18446744073709551616 ^ 1; have := HXB.out; omega) (by omega)
  have hSw : Hid (Sz (K + 1 + 1) (x * xa + xb)) := (HS0.out.mul hS1).add hS2
  clear hS1 hS2
  have hrv := hSw.out.holds' HRv.out
  have hmw := hSw.out.words HNw.out
  have hmm := (HS0.out.mul HS1.out).words HNm.out
  go_wp2_with fail
  have C1 := Lib.hid (fun w' (h : Below wv.heap.size wv w') => ref3_mul x y Cp Cq rp rq fp fq w' (HRp.out.below h) (HRq.out.below h) (by omega) (by omega))
  have C2 := Lib.hid (fun w' (h : Below wv.heap.size wv w') A' n' c' (hw : Holds16 w' (x * y) A' n' c') => law2_like (x * y) Bm A' mm dm n' c' w' (HNm.out.below h) hw (by omega) (by have := (HS0.out.mul HS1.out).holds' hw; omega))
  have C3 := Lib.hid (fun w' (h : Below wv.heap.size wv w') => law2_like (x * xa + xb) Bw Cv mw dw rv fv w' (HNw.out.below h) (HRv.out.below h) (by omega) (by omega))
  have C4 := Lib.hid (fun w' (h : Below w.heap.size w w') => HO0.out w' h)
  have C5 := Lib.hid (fun w' A' n' c' (hw : WordsIn w' x A' n' c') => HPC.out.square x A' n' c' w' hw (by have := HS0.out.words hw; omega))
  have C6 := Lib.hid (fun w' (h : Below wv.heap.size wv w') => ref3_mul x x Cp Cp rp rp fp fp w' (HRp.out.below h) (HRp.out.below h) (by omega) (by omega))
  have C7 := Lib.hid (fun w' A' n' c' A'' n'' c'' (hw : WordsIn w' (x * x) A' n' c') (hh : Holds16 w' (x * x) A'' n'' c'') => law2_like (x * x) A' A'' n' c' n'' c'' w' hw hh (by have := (HS0.out.mul HS0.out).words hw; omega) (by have := (HS0.out.mul HS0.out).holds' hh; omega))
  have hBv := hB
  have hb0 : Below wv.heap.size wv wv.drew := (Below.refl _ wv).drew
  have j0 : wv.drew.cell? ⟨p1, 0, none⟩ = some (.slice Bm mm dm) := g1
  have j1 : wv.drew.cell? ⟨p2, 0, none⟩ = some (.slice Bw mw dw) := g2
  go_region_held3 (fun w' => Below wv.heap.size wv w' ∧ w'.cell? ⟨p1, 0, none⟩ = some (.slice Bm mm dm) ∧ w'.cell? ⟨p2, 0, none⟩ = some (.slice Bw mw dw))
    (first | (exact ⟨hb0, j0, j1⟩) | (go_split_ands; refine ⟨?_, ?_, ?_⟩; all_goals (first | with_reducible assumption | exact keep_below (by with_reducible assumption) hb | exact keep_cell hb (by with_reducible assumption) | exact keep_below_alloc _ (by with_reducible assumption) | exact keep_cell_alloc _ (by with_reducible assumption))))
    (first
      | (go_at_call 15; (with_reducible refine (C1.out _ (by first | with_reducible assumption | exact And.left (by with_reducible assumption))).mono ?_); rintro e w' ⟨A4, n4, c4, rfl, hh4, hb⟩)
      | (go_at_call 16; (with_reducible refine (C2.out _ (by first | with_reducible assumption | exact And.left (by with_reducible assumption)) _ _ _ hh4).mono ?_); rintro e w' ⟨rfl, hb⟩)
      | (go_at_call 16; (with_reducible refine (C3.out _ (by first | with_reducible assumption | exact And.left (by with_reducible assumption))).mono ?_); rintro e w' ⟨rfl, hb⟩)
      | (go_at_call 12; (with_reducible refine (C4.out _ (keep_below hBv (by first | with_reducible assumption | exact And.left (by with_reducible assumption)))).mono ?_); rintro e w' ⟨A5, n5, c5, rfl, hw5, hb, _⟩)
      | (go_at_call 17; (with_reducible refine (C5.out _ _ _ _ hw5).mono ?_); rintro e w' ⟨A6, n6, c6, rfl, hw6, hb, _⟩)
      | (go_at_call 15; (with_reducible refine (C6.out _ (by first | with_reducible assumption | exact And.left (by with_reducible assumption))).mono ?_); rintro e w' ⟨A7, n7, c7, rfl, hh7, hb⟩; have hw6 := hw6.below hb)
      | (go_at_call 16; (with_reducible refine (C7.out _ _ _ _ _ _ _ hw6 hh7).mono ?_); rintro e w' ⟨rfl, hb⟩))
  rename_i hH
  obtain ⟨hb7, _, _⟩ := hH
  have hB := keep_below hB hb7
  clear hb hb0 hb7
  go_wp2
  go_ret
  exact ⟨by first | rfl | simp, hB⟩
theorem prodMuls_walk (PC : ProdC) (A0 : Option Addr) (n0 c0 : Nat) (l0 : List Nat) (A1 : Option Addr) (n1 c1 : Nat) (l1 : List Nat) (a2 a3 : Int) (w : World) (h0 : ArgWords w A0 n0 c0 l0) (h1 : ArgWords w A1 n1 c1 l1) (h2 : Wd a2) (h3 : Wd a3) :
    Calls Try.prog 3 #[.slice A0 n0 c0, .slice A1 n1 c1, .int .u64 a2, .int .u64 a3] w fun e w' => e = .returned (.bool true) ∧ Below w.heap.size w w' := by
  unfold Wd at h2 h3
  obtain ⟨xa, rfl⟩ : ∃ k : Nat, a2 = (k : Int) := ⟨a2.toNat, by omega⟩
  obtain ⟨xb, rfl⟩ : ∃ k : Nat, a3 = (k : Int) := ⟨a3.toNat, by omega⟩
  exact prodMuls_core PC A0 n0 c0 l0 A1 n1 c1 l1 xa xb w h0 h1 (by omega) (by omega)
end Go.Proofs.Ytonjhcmppiioeaa
