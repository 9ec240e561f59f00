/-
  The contract of quot's byWords: a number by one of two words or more, word by word. Conditions: the values are numbers; the divisor has two words or more, and no more than the number, which has up to 2 to the 38.
-/
import Derived.Test.YtplgbokgfphjaaaDoorRows
import Derived.Test.YtplgbokgfphjaaaDoorQBy
import Derived.Test.YtplgbokgfphjaaaDoorBunQ
import Derived.Test.YtplgbokgfphjaaaDoorBunS
import Derived.Test.YtplgbokgfphjaaaDoorBunW
import Derived.WalkKit
import Derived.Lib.Hide
import Derived.Outline
import Derived.IntWalk
import Derived.Deep.RegionHeld3
import Derived.RangeFuncBox
namespace Go.Proofs.YtplgbokgfphjaaaDoor
open Go Go.RowKit
set_option maxRecDepth 100000
set_option linter.unusedVariables false
set_option linter.unusedSimpArgs false
attribute [local go_sem] Oper.semAt_some
theorem boxes4 (w : World) (t : TypeId) (a b c d : Array Value) : Below w.heap.size w ((((w.alloc (.cells a t)).alloc (.cells b t)).alloc (.cells c t)).alloc (.cells d t)) ∧ Blk ((((w.alloc (.cells a t)).alloc (.cells b t)).alloc (.cells c t)).alloc (.cells d t)) w.heap.size t a ∧ Blk ((((w.alloc (.cells a t)).alloc (.cells b t)).alloc (.cells c t)).alloc (.cells d t)) (w.heap.size + 1) t b ∧ Blk ((((w.alloc (.cells a t)).alloc (.cells b t)).alloc (.cells c t)).alloc (.cells d t)) (w.heap.size + 1 + 1) t c ∧ Blk ((((w.alloc (.cells a t)).alloc (.cells b t)).alloc (.cells c t)).alloc (.cells d t)) (w.heap.size + 1 + 1 + 1) t d ∧ w.heap.size + 4 ≤ ((((w.alloc (.cells a t)).alloc (.cells b t)).alloc (.cells c t)).alloc (.cells d t)).heap.size := by
  obtain ⟨b1, b2, b3, b4, b5⟩ := box3 w t t t a b c
  have h := Blk.new (((w.alloc (.cells a t)).alloc (.cells b t)).alloc (.cells c t)) t d
  rw [World.size_alloc, World.size_alloc, World.size_alloc] at h
  exact ⟨keep_below_alloc _ b1, b2.alloc _, b3.alloc _, b4.alloc _, h, by simp⟩
theorem Blk.new1 (w : World) (ob : Obj) (t : TypeId) (cs : Array Value) : Blk ((w.alloc ob).alloc (.cells cs t)) (w.heap.size + 1) t cs := by
  have h := Blk.new (w.alloc ob) t cs
  rw [World.size_alloc] at h
  exact h
theorem row_ne {w : World} {t t' : TypeId} {g cap n b : Nat} {L : List Nat} {cs : Array Value} (h : Row64 w t g cap n L) (hb : Blk w b t' cs) (hne : t ≠ t') : g ≠ b := by
  obtain ⟨cur, h0, _⟩ := h
  exact h0.ne_ hb hne
/-- A row of the call's own, not below B, that comes to X. -/
def GivesRowB (B0 : Nat) (w : World) (ty : TypeId) (N X : Nat) (e : Ending) (w' : World) : Prop :=
  ∃ (g : Nat) (L : List Nat), e = .returned (.slice (some ⟨g, 0, none⟩) N N) ∧ B0 ≤ g ∧ Row64 w' ty g N N L ∧ Dgs 18446744073709551616 L ∧ dv 18446744073709551616 L = X ∧ Below w.heap.size w w'
theorem GivesRow.from_ {B0 N X : Nat} {w : World} {ty : TypeId} {e : Ending} {w' : World} (h : GivesRow w ty N X e w') (hB : B0 ≤ w.heap.size) : GivesRowB B0 w ty N X e w' := by
  obtain ⟨g, L, h1, h2, h3⟩ := h
  exact ⟨g, L, h1, Nat.le_trans hB h2, h3⟩
/-- A quotient and what is left. -/
def GivesQ2 (w : World) (q r : Nat) (e : Ending) (w' : World) : Prop := ∃ (A : Option Addr) (n c : Nat) (B : Option Addr) (m d : Nat), e = .returned (.tuple #[.agg #[.slice A n c], .agg #[.slice B m d]]) ∧ WordsIn w' q A n c ∧ WordsIn w' r B m d ∧ Below w.heap.size w w'
theorem Off.row {g b cap n : Nat} {w w' : World} {t : TypeId} {L : List Nat} (h : Off g w w') (hR : Row64 w t b cap n L) (hne : b ≠ g) : Row64 w' t b cap n L := by
  obtain ⟨cur, h0, h1⟩ := hR
  exact ⟨cur, h.blk h0 hne, h1⟩
theorem Row64.readsB {w : World} {t : TypeId} {g cap n B0 : Nat} {L : List Nat} (h : Row64 w t g cap n L) (hb : g < B0) : Reads w B0 1 (some ⟨g, 0, none⟩) n (vals .u64 L) :=
  ⟨h.reads.1, fun hn => by
    obtain ⟨ad, e, _, hc⟩ := h.reads.2 hn
    cases e
    exact ⟨_, rfl, hb, hc⟩⟩
/-- What holds between two rounds of byWords: k words of the quotient are still to come. -/
structure LongI (X Y m n K gd gx gq b7 b8 b9 bs : Nat) (Ld : List Nat) (w : World) (k : Nat) (W : World) : Prop where
  row : ∃ L Q, LongB X Y m k K L Q ∧ (∀ j, j < k → Q.getD j 0 = 0) ∧ Row64 W 35 gx (n + 1) (n + 1) L ∧ Row64 W 35 gq K K Q
  div : Row64 W 35 gd m m Ld
  x7 : Blk W b7 22 #[.slice (some ⟨gd, 0, none⟩) m m]
  x8 : Blk W b8 22 #[.slice (some ⟨gx, 0, none⟩) (n + 1) (n + 1)]
  x9 : Blk W b9 22 #[.slice (some ⟨gq, 0, none⟩) K K]
  xs : Blk W bs 22 #[.slice (some ⟨gq, 0, none⟩) K K]
  r4 : Blk W (w.heap.size + 1 + 1) 29 #[.slice none 0 0]
  r5 : Blk W (w.heap.size + 1 + 1 + 1) 29 #[.slice none 0 0]
  below : Below w.heap.size w W
theorem LongI.own {X Y m n K gd gx gq b7 b8 b9 bs B : Nat} {Ld : List Nat} {w : World} (hB : w.heap.size ≤ B) (k : Nat) : OwnFrom B (fun (_ : Unit) W => LongI X Y m n K gd gx gq b7 b8 b9 bs Ld w k W) := by
  intro _ W W' row h hg hr
  obtain ⟨L, Q, h1, h2, h3, h4⟩ := h.row
  exact ⟨⟨L, Q, h1, h2, row64_kept h3 hg hr, row64_kept h4 hg hr⟩, row64_kept h.div hg hr, blk_kept h.x7 hg hr, blk_kept h.x8 hg hr, blk_kept h.x9 hg hr, blk_kept h.xs hg hr, blk_kept h.r4 hg hr, blk_kept h.r5 hg hr, below_kept h.below (Nat.le_refl _) hB hg hr⟩

set_option maxHeartbeats 8000000 in
theorem quot_bywords (x d : Nat) (A D : Option Addr) (n m c ce : Nat) (w : World) (hA : WordsIn w x A n c) (hD : WordsIn w d D m ce) (hm : 2 ≤ m) (hmn : m ≤ n) (hn : n ≤ 274877906944) :
    Calls Tryd.prog 71 #[.agg #[.slice A n c], .agg #[.slice D m ce]] w (GivesQ2 w (x / d) (x % d)) := by
  have hdl := hD.len
  have hxl := hA.len
  obtain ⟨up, hup, hu63, hDlt, hDtop⟩ := norm_up (d := d) (m := m - 1) (by omega)
  rw [show m - 1 + 1 = m from by omega] at hDlt
  have hK : ∃ K, K = n - m + 1 := ⟨_, rfl⟩
  obtain ⟨K, hK⟩ := hK
  have hfirst := norm_first (x := x) (d := d) (n := n) (m := m - 1) (k := K) (up := up) hxl (by omega) (by omega)
  have hRdl : (dg 18446744073709551616 (2 ^ up * d)).length ≤ m := dg_len_le (by decide) _ _ hDlt
  have hRxl := norm_len (up := up) hxl hu63
  have HA := Lib.hid (fun w' (hb : Below w.heap.size w w') => hA.below hb)
  have HD := Lib.hid (fun w' (hb : Below w.heap.size w w') => hD.below hb)
  obtain ⟨t, ht⟩ : ∃ t, wd d (m - 1) = t := ⟨_, rfl⟩
  have htb := wd_lt d (m - 1)
  rw [ht] at htb hup
  have hWD := fun w' (hb : Below w.heap.size w w') => nat_word d D m ce (m - 1) w' (HD.out w' hb)
  rw [ht, show ((m - 1 : Nat) : Int) = (m : Int) - 1 from by omega] at hWD
  have hLD := fun w' => word_lead (t : Int) ⟨by omega, by omega⟩ w'
  rw [hup] at hLD
  have HWD := Lib.hid hWD
  clear hWD
  have HLD := Lib.hid hLD
  clear hLD
  have hNQ := norm_quot x d up
  obtain ⟨X, hX⟩ : ∃ X, 2 ^ up * x = X := ⟨_, rfl⟩
  obtain ⟨Y, hY⟩ : ∃ Y, 2 ^ up * d = Y := ⟨_, rfl⟩
  have hRD := fun w' (hb : Below w.heap.size w w') => quot_raised d up m D m ce w' (HD.out w' hb) (by omega) hu63 hRdl (by omega)
  have hRX := fun w' (hb : Below w.heap.size w w') => quot_raised x up (n + 1) A n c w' (HA.out w' hb) hn hu63 hRxl (by omega)
  rw [show ((n + 1 : Nat) : Int) = (n : Int) + 1 from by omega] at hRX
  rw [hY] at hRD hDlt hDtop hfirst hNQ
  rw [hX] at hRX hfirst hNQ
  have HRD := Lib.hid hRD
  clear hRD
  have HRX := Lib.hid hRX
  clear hRX
  have HN := Lib.hid hNQ
  have HF := Lib.hid hfirst
  have HDL := Lib.hid hDlt
  have HDT := Lib.hid hDtop
  have HK := Lib.hid hK
  have HU := Lib.hid hu63
  clear hNQ hdl hxl hup hDlt hDtop hfirst hRdl hRxl ht hX hY hK hA hD hu63
  refine (callsIn_wide (n := 3)).1 ?_
  refine callsIn_of_wp_marks Tryd.func71 rfl trivial ?_ rfl
  simp only [Tryd.ntmps71, List.size_toArray, List.length_cons, List.length_nil, Nat.reduceAdd, Nat.reduceSub, Array.replicate_succ, Array.replicate_zero, List.push_toArray, List.append_toArray, List.nil_append, List.cons_append]
  refine wpIn_wide.2 ?_
  go_wp2_with fail
  obtain ⟨hB, b2, b3, k4, k5, b6⟩ := boxes4 w 29 #[.slice A n c] #[.slice D m ce] #[.slice none 0 0] #[.slice none 0 0]
  generalize hW : (((w.alloc (.cells #[.slice A n c] 29)).alloc (.cells #[.slice D m ce] 29)).alloc (.cells #[.slice none 0 0] 29)).alloc (.cells #[.slice none 0 0] 29) = W0 at *
  have g2 : W0.cell? ⟨w.heap.size, 0, none⟩ = some (.slice A n c) := b2.cell 0
  have g3 : W0.cell? ⟨w.heap.size + 1, 0, none⟩ = some (.slice D m ce) := b3.cell 0
  clear hW b2 b3
  have C1 := Lib.hid (fun w' (hb : Below W0.heap.size W0 w') => HWD.out w' (keep_below hB hb))
  have i1 : IntKind.i64.wrap ((m : Int) - 1) = (m : Int) - 1 := IntWalk.i64_in _ (by omega)
  have hb0 : Below W0.heap.size W0 W0.drew := (Below.refl _ W0).drew
  have j3 : W0.drew.cell? ⟨w.heap.size + 1, 0, none⟩ = some (.slice D m ce) := g3
  obtain ⟨R, hI, hE⟩ : ∃ R : Exit → Act → World → Prop, (∀  (wc : World), Below W0.heap.size W0 wc → R .normal { tmps := #[.agg #[.slice A n c], .agg #[.slice D m ce], .pointer (some ⟨w.heap.size, 0, none⟩), .pointer (some ⟨w.heap.size + 1, 0, none⟩), .pointer (some ⟨w.heap.size + 1 + 1, 0, none⟩), .pointer (some ⟨w.heap.size + 1 + 1 + 1, 0, none⟩), .int .i64 (up : Int), undef, undef, undef, undef, .agg #[.slice D m ce], .agg #[.slice D m ce], .int .i64 (m : Int), .int .i64 ((m : Int) - 1), .int .u64 (t : Int), .int .i64 (up : Int), undef, undef, undef, undef, undef, undef, undef, undef, undef, undef, undef, undef, undef, undef, undef, undef, undef, undef, undef, undef, undef, undef, undef, undef, undef, undef, undef, undef, undef, undef, undef, undef, undef, undef, undef, undef, undef, undef, undef, undef, undef], defers := [] } wc) ∧ (∀ e a' wc, R e a' wc → e = .normal ∧ a' = { tmps := #[.agg #[.slice A n c], .agg #[.slice D m ce], .pointer (some ⟨w.heap.size, 0, none⟩), .pointer (some ⟨w.heap.size + 1, 0, none⟩), .pointer (some ⟨w.heap.size + 1 + 1, 0, none⟩), .pointer (some ⟨w.heap.size + 1 + 1 + 1, 0, none⟩), .int .i64 (up : Int), undef, undef, undef, undef, .agg #[.slice D m ce], .agg #[.slice D m ce], .int .i64 (m : Int), .int .i64 ((m : Int) - 1), .int .u64 (t : Int), .int .i64 (up : Int), undef, undef, undef, undef, undef, undef, undef, undef, undef, undef, undef, undef, undef, undef, undef, undef, undef, undef, undef, undef, undef, undef, undef, undef, undef, undef, undef, undef, undef, undef, undef, undef, undef, undef, undef, undef, undef, undef, undef, undef, undef], defers := [] } ∧ Below W0.heap.size W0 wc) := ⟨fun e a' wc => e = .normal ∧ a' = { tmps := #[.agg #[.slice A n c], .agg #[.slice D m ce], .pointer (some ⟨w.heap.size, 0, none⟩), .pointer (some ⟨w.heap.size + 1, 0, none⟩), .pointer (some ⟨w.heap.size + 1 + 1, 0, none⟩), .pointer (some ⟨w.heap.size + 1 + 1 + 1, 0, none⟩), .int .i64 (up : Int), undef, undef, undef, undef, .agg #[.slice D m ce], .agg #[.slice D m ce], .int .i64 (m : Int), .int .i64 ((m : Int) - 1), .int .u64 (t : Int), .int .i64 (up : Int), undef, undef, undef, undef, undef, undef, undef, undef, undef, undef, undef, undef, undef, undef, undef, undef, undef, undef, undef, undef, undef, undef, undef, undef, undef, undef, undef, undef, undef, undef, undef, undef, undef, undef, undef, undef, undef, undef, undef, undef, undef], defers := [] } ∧ Below W0.heap.size W0 wc, fun  wc c0 => ⟨rfl, rfl, c0⟩, fun _ _ _ h => h⟩
  have HI := Lib.hid hI
  have HE := Lib.hid hE
  clear hI hE
  refine wp_mono (Q := R) ?_ ?_
  · go_region_held3 (fun w' => Below W0.heap.size W0 w' ∧ w'.cell? ⟨w.heap.size + 1, 0, none⟩ = some (.slice D m ce))
      (first | (with_reducible exact ⟨hb0, j3⟩) | (go_split_ands; (repeat' apply And.intro); all_goals (first | with_reducible assumption | with_reducible exact keep_below (by with_reducible assumption) hb | with_reducible exact keep_cell hb (by with_reducible assumption) | with_reducible exact keep_below_alloc _ (by with_reducible assumption) | with_reducible exact keep_below_alloc _ (keep_below_alloc _ (by with_reducible assumption)) | with_reducible exact keep_cell_alloc _ (keep_cell_alloc _ (by with_reducible assumption)) | with_reducible exact Below.drew (keep_below_alloc _ (by with_reducible assumption)) | with_reducible exact (cell_drew_own _ _).trans (keep_cell_alloc _ (by with_reducible assumption)) | with_reducible exact keep_cell_alloc _ (by with_reducible assumption) | with_reducible exact keep_below_set _ (by first | (simp; done) | (simp; omega)) (by with_reducible assumption) | with_reducible exact keep_cell_set _ (by first | (simp; done) | (simp; omega)) (by with_reducible assumption))))
      (first
        | (go_at_call 36; (with_reducible refine (nat_len 0 _ _ _ _).mono ?_); rintro e w' ⟨rfl, hb⟩)
        | (go_at_call 44; (with_reducible refine (C1.out _ (by first | with_reducible assumption | exact And.left (by with_reducible assumption))).mono ?_); rintro e w' ⟨rfl, hb⟩)
        | (go_at_call 76; (with_reducible refine (HLD.out _).mono ?_); rintro e w' ⟨rfl, rfl⟩))
    all_goals (
      go_split_ands
      refine HI.out _ ?_
      · with_reducible assumption)
  · intro e a' W hr
    obtain ⟨rfl, rfl, r0⟩ := HE.out e a' W hr
    clear hr HI HE R
    have hB := keep_below hB r0
    have g2 := keep_cell r0 g2
    have g3 := keep_cell r0 g3
    have k4 := keep_blk r0 k4
    have k5 := keep_blk r0 k5
    have b6 := Nat.le_trans b6 r0.size
    clear r0 C1 i1 hb0 j3
    go_wp2_with fail
    have C := Lib.hid (fun w' (hb : Below W.heap.size W w') => (HRD.out w' (keep_below hB hb)).mono (fun e w'' h => GivesRow.from_ h hb.size))
    have hb0 : Below W.heap.size W W.drew := (Below.refl _ W).drew
    have j3 : W.drew.cell? ⟨w.heap.size + 1, 0, none⟩ = some (.slice D m ce) := g3
    have ltq : w.heap.size + 1 < W.heap.size := World.block_lt_of_cell? W ⟨w.heap.size + 1, 0, none⟩ g3
    generalize hWc : W = W1 at *
    clear hWc
    have hbr : Below W1.heap.size W1 W1 := Below.refl _ _
    obtain ⟨R, hI, hE⟩ : ∃ R : Exit → Act → World → Prop, (∀ (b7 : Nat) (gd : Nat) (Ld : List Nat) (wc : World), Below W1.heap.size W1 wc → Blk wc b7 22 #[.slice (some ⟨gd, 0, none⟩) (m) (m)] → Row64 wc 35 gd (m) (m) Ld → W1.heap.size ≤ gd → Dgs 18446744073709551616 Ld → dv 18446744073709551616 Ld = Y → R .normal { tmps := #[.agg #[.slice A n c], .agg #[.slice D m ce], .pointer (some ⟨w.heap.size, 0, none⟩), .pointer (some ⟨w.heap.size + 1, 0, none⟩), .pointer (some ⟨w.heap.size + 1 + 1, 0, none⟩), .pointer (some ⟨w.heap.size + 1 + 1 + 1, 0, none⟩), .int .i64 (up : Int), .pointer (some ⟨b7, 0, none⟩), undef, undef, undef, .agg #[.slice D m ce], .agg #[.slice D m ce], .int .i64 (m : Int), .int .i64 ((m : Int) - 1), .int .u64 (t : Int), .int .i64 (up : Int), .agg #[.slice D m ce], .int .i64 (up : Int), .agg #[.slice D m ce], .int .i64 (m : Int), .slice (some ⟨gd, 0, none⟩) m m, undef, undef, undef, undef, undef, undef, undef, undef, undef, undef, undef, undef, undef, undef, undef, undef, undef, undef, undef, undef, undef, undef, undef, undef, undef, undef, undef, undef, undef, undef, undef, undef, undef, undef, undef, undef], defers := [] } wc) ∧ (∀ e a' wc, R e a' wc → e = .normal ∧ ∃ (b7 : Nat), ∃ (gd : Nat), ∃ (Ld : List Nat), a' = { tmps := #[.agg #[.slice A n c], .agg #[.slice D m ce], .pointer (some ⟨w.heap.size, 0, none⟩), .pointer (some ⟨w.heap.size + 1, 0, none⟩), .pointer (some ⟨w.heap.size + 1 + 1, 0, none⟩), .pointer (some ⟨w.heap.size + 1 + 1 + 1, 0, none⟩), .int .i64 (up : Int), .pointer (some ⟨b7, 0, none⟩), undef, undef, undef, .agg #[.slice D m ce], .agg #[.slice D m ce], .int .i64 (m : Int), .int .i64 ((m : Int) - 1), .int .u64 (t : Int), .int .i64 (up : Int), .agg #[.slice D m ce], .int .i64 (up : Int), .agg #[.slice D m ce], .int .i64 (m : Int), .slice (some ⟨gd, 0, none⟩) m m, undef, undef, undef, undef, undef, undef, undef, undef, undef, undef, undef, undef, undef, undef, undef, undef, undef, undef, undef, undef, undef, undef, undef, undef, undef, undef, undef, undef, undef, undef, undef, undef, undef, undef, undef, undef], defers := [] } ∧ Below W1.heap.size W1 wc ∧ Blk wc b7 22 #[.slice (some ⟨gd, 0, none⟩) (m) (m)] ∧ Row64 wc 35 gd (m) (m) Ld ∧ W1.heap.size ≤ gd ∧ Dgs 18446744073709551616 Ld ∧ dv 18446744073709551616 Ld = Y) := ⟨fun e a' wc => e = .normal ∧ ∃ (b7 : Nat), ∃ (gd : Nat), ∃ (Ld : List Nat), a' = { tmps := #[.agg #[.slice A n c], .agg #[.slice D m ce], .pointer (some ⟨w.heap.size, 0, none⟩), .pointer (some ⟨w.heap.size + 1, 0, none⟩), .pointer (some ⟨w.heap.size + 1 + 1, 0, none⟩), .pointer (some ⟨w.heap.size + 1 + 1 + 1, 0, none⟩), .int .i64 (up : Int), .pointer (some ⟨b7, 0, none⟩), undef, undef, undef, .agg #[.slice D m ce], .agg #[.slice D m ce], .int .i64 (m : Int), .int .i64 ((m : Int) - 1), .int .u64 (t : Int), .int .i64 (up : Int), .agg #[.slice D m ce], .int .i64 (up : Int), .agg #[.slice D m ce], .int .i64 (m : Int), .slice (some ⟨gd, 0, none⟩) m m, undef, undef, undef, undef, undef, undef, undef, undef, undef, undef, undef, undef, undef, undef, undef, undef, undef, undef, undef, undef, undef, undef, undef, undef, undef, undef, undef, undef, undef, undef, undef, undef, undef, undef, undef, undef], defers := [] } ∧ Below W1.heap.size W1 wc ∧ Blk wc b7 22 #[.slice (some ⟨gd, 0, none⟩) (m) (m)] ∧ Row64 wc 35 gd (m) (m) Ld ∧ W1.heap.size ≤ gd ∧ Dgs 18446744073709551616 Ld ∧ dv 18446744073709551616 Ld = Y, fun b7 gd Ld wc c0 c1 c2 c3 c4 c5 => ⟨rfl, b7, gd, Ld, rfl, c0, c1, c2, c3, c4, c5⟩, fun _ _ _ h => h⟩
    have HI := Lib.hid hI
    have HE := Lib.hid hE
    clear hI hE
    refine wp_mono (Q := R) ?_ ?_
    · go_region_held3 (fun w' => Below W1.heap.size W1 w' ∧ w'.cell? ⟨w.heap.size + 1, 0, none⟩ = some (.slice D m ce))
        (first | (with_reducible exact ⟨hb0, j3⟩) | (go_split_ands; (repeat' apply And.intro); all_goals (first | with_reducible assumption | with_reducible exact keep_below (by with_reducible assumption) hb | with_reducible exact keep_cell hb (by with_reducible assumption) | with_reducible exact keep_below_alloc _ (by with_reducible assumption) | with_reducible exact keep_below_alloc _ (keep_below_alloc _ (by with_reducible assumption)) | with_reducible exact keep_cell_alloc _ (keep_cell_alloc _ (by with_reducible assumption)) | with_reducible exact Below.drew (keep_below_alloc _ (by with_reducible assumption)) | with_reducible exact (cell_drew_own _ _).trans (keep_cell_alloc _ (by with_reducible assumption)) | with_reducible exact keep_cell_alloc _ (by with_reducible assumption) | with_reducible exact keep_below_set _ (by first | (simp; done) | (simp; omega)) (by with_reducible assumption) | with_reducible exact keep_cell_set _ (by first | (simp; done) | (simp; omega)) (by with_reducible assumption))))
        (first
          | (go_at_call 36; (with_reducible refine (nat_len 0 _ _ _ _).mono ?_); rintro e w' ⟨rfl, hb⟩; go_split_ands; (have hBl : Below W1.heap.size W1 w' := keep_below (by with_reducible assumption) hb); (have hls := hBl.size); (first | (with_reducible have hz := keep_blk hb hz) | (with_reducible have hz := keep_blk hb (Blk.new _ _ _)) | (with_reducible have hz := keep_blk hb (Blk.new _ _ _).drew) | skip))
          | (go_at_call 77; (with_reducible refine (C.out _ (by first | with_reducible assumption | exact And.left (by with_reducible assumption))).mono ?_); rintro e w' ⟨gr, Lr, rfl, hgr, hRr, hdr, hvr, hb⟩; go_split_ands; (have hBw : Below W1.heap.size W1 w' := keep_below (by with_reducible assumption) hb); (have hcw : w'.cell? ⟨w.heap.size + 1, 0, none⟩ = some (.slice D m ce) := keep_cell hb (by with_reducible assumption)); (first | (with_reducible have hz := keep_blk hb hz) | (with_reducible have hz := keep_blk hb (Blk.new _ _ _)) | (with_reducible have hz := keep_blk hb (Blk.new _ _ _).drew) | skip); (try (have q1 := hz.cell 0)); (try (have q2 := hz.frozen 0))))
      all_goals (
        go_split_ands
        refine HI.out _ _ Lr _ ?_ ?_ ?_ ?_ ?_ ?_
        · with_reducible assumption
        · (first | with_reducible exact Blk.new _ _ _ | exact hz.set_ 0 _)
        · (first | with_reducible exact hRr.far (row_ne hRr hz (by decide)) _ | with_reducible exact hRr.alloc _ | with_reducible exact (hRr.alloc _).far (by have := hRr.lt; simp; omega) _)
        · with_reducible assumption
        · with_reducible assumption
        · with_reducible assumption)
    · intro e a' W hr
      obtain ⟨rfl, b7, gd, Ld, rfl, r0, r1, r2, r3, r4, r5⟩ := HE.out e a' W hr
      clear hr HI HE R
      have hgd4 : w.heap.size + 4 ≤ gd := Nat.le_trans b6 r3
      have hB := keep_below hB r0
      have g2 := keep_cell r0 g2
      have g3 := keep_cell r0 g3
      have k4 := keep_blk r0 k4
      have k5 := keep_blk r0 k5
      have b6 := Nat.le_trans b6 r0.size
      obtain ⟨hk7, hRd, hgd, hdd, hvd⟩ := And.intro r1 (And.intro r2 (And.intro r3 (And.intro r4 r5)))
      clear r0 r1 r2 r3 r4 r5 C hb0 j3 ltq
      go_wp2_with fail
      have hdx1 := hRd.lt
      have i2 : IntKind.i64.wrap ((n : Int) + 1) = (n : Int) + 1 := IntWalk.i64_in _ (by omega)
      have C := Lib.hid (fun w' (hb : Below W.heap.size W w') => (HRX.out w' (keep_below hB hb)).mono (fun e w'' h => GivesRow.from_ h hb.size))
      have hb0 : Below W.heap.size W W.drew := (Below.refl _ W).drew
      have j3 : W.drew.cell? ⟨w.heap.size, 0, none⟩ = some (.slice A n c) := g2
      have ltq : w.heap.size < W.heap.size := World.block_lt_of_cell? W ⟨w.heap.size, 0, none⟩ g2
      generalize hWc : W = W1 at *
      clear hWc
      have hbr : Below W1.heap.size W1 W1 := Below.refl _ _
      obtain ⟨R, hI, hE⟩ : ∃ R : Exit → Act → World → Prop, (∀ (b8 : Nat) (gx : Nat) (Lx : List Nat) (wc : World), Below W1.heap.size W1 wc → Blk wc b8 22 #[.slice (some ⟨gx, 0, none⟩) (n + 1) (n + 1)] → Row64 wc 35 gx (n + 1) (n + 1) Lx → W1.heap.size ≤ gx → Dgs 18446744073709551616 Lx → dv 18446744073709551616 Lx = X → R .normal { tmps := #[.agg #[.slice A n c], .agg #[.slice D m ce], .pointer (some ⟨w.heap.size, 0, none⟩), .pointer (some ⟨w.heap.size + 1, 0, none⟩), .pointer (some ⟨w.heap.size + 1 + 1, 0, none⟩), .pointer (some ⟨w.heap.size + 1 + 1 + 1, 0, none⟩), .int .i64 (up : Int), .pointer (some ⟨b7, 0, none⟩), .pointer (some ⟨b8, 0, none⟩), undef, undef, .agg #[.slice D m ce], .agg #[.slice D m ce], .int .i64 (m : Int), .int .i64 ((m : Int) - 1), .int .u64 (t : Int), .int .i64 (up : Int), .agg #[.slice D m ce], .int .i64 (up : Int), .agg #[.slice D m ce], .int .i64 (m : Int), .slice (some ⟨gd, 0, none⟩) m m, .agg #[.slice A n c], .int .i64 (up : Int), .agg #[.slice A n c], .int .i64 (n : Int), .int .i64 ((n : Int) + 1), .slice (some ⟨gx, 0, none⟩) (n + 1) (n + 1), undef, undef, undef, undef, undef, undef, undef, undef, undef, undef, undef, undef, undef, undef, undef, undef, undef, undef, undef, undef, undef, undef, undef, undef, undef, undef, undef, undef, undef, undef], defers := [] } wc) ∧ (∀ e a' wc, R e a' wc → e = .normal ∧ ∃ (b8 : Nat), ∃ (gx : Nat), ∃ (Lx : List Nat), a' = { tmps := #[.agg #[.slice A n c], .agg #[.slice D m ce], .pointer (some ⟨w.heap.size, 0, none⟩), .pointer (some ⟨w.heap.size + 1, 0, none⟩), .pointer (some ⟨w.heap.size + 1 + 1, 0, none⟩), .pointer (some ⟨w.heap.size + 1 + 1 + 1, 0, none⟩), .int .i64 (up : Int), .pointer (some ⟨b7, 0, none⟩), .pointer (some ⟨b8, 0, none⟩), undef, undef, .agg #[.slice D m ce], .agg #[.slice D m ce], .int .i64 (m : Int), .int .i64 ((m : Int) - 1), .int .u64 (t : Int), .int .i64 (up : Int), .agg #[.slice D m ce], .int .i64 (up : Int), .agg #[.slice D m ce], .int .i64 (m : Int), .slice (some ⟨gd, 0, none⟩) m m, .agg #[.slice A n c], .int .i64 (up : Int), .agg #[.slice A n c], .int .i64 (n : Int), .int .i64 ((n : Int) + 1), .slice (some ⟨gx, 0, none⟩) (n + 1) (n + 1), undef, undef, undef, undef, undef, undef, undef, undef, undef, undef, undef, undef, undef, undef, undef, undef, undef, undef, undef, undef, undef, undef, undef, undef, undef, undef, undef, undef, undef, undef], defers := [] } ∧ Below W1.heap.size W1 wc ∧ Blk wc b8 22 #[.slice (some ⟨gx, 0, none⟩) (n + 1) (n + 1)] ∧ Row64 wc 35 gx (n + 1) (n + 1) Lx ∧ W1.heap.size ≤ gx ∧ Dgs 18446744073709551616 Lx ∧ dv 18446744073709551616 Lx = X) := ⟨fun e a' wc => e = .normal ∧ ∃ (b8 : Nat), ∃ (gx : Nat), ∃ (Lx : List Nat), a' = { tmps := #[.agg #[.slice A n c], .agg #[.slice D m ce], .pointer (some ⟨w.heap.size, 0, none⟩), .pointer (some ⟨w.heap.size + 1, 0, none⟩), .pointer (some ⟨w.heap.size + 1 + 1, 0, none⟩), .pointer (some ⟨w.heap.size + 1 + 1 + 1, 0, none⟩), .int .i64 (up : Int), .pointer (some ⟨b7, 0, none⟩), .pointer (some ⟨b8, 0, none⟩), undef, undef, .agg #[.slice D m ce], .agg #[.slice D m ce], .int .i64 (m : Int), .int .i64 ((m : Int) - 1), .int .u64 (t : Int), .int .i64 (up : Int), .agg #[.slice D m ce], .int .i64 (up : Int), .agg #[.slice D m ce], .int .i64 (m : Int), .slice (some ⟨gd, 0, none⟩) m m, .agg #[.slice A n c], .int .i64 (up : Int), .agg #[.slice A n c], .int .i64 (n : Int), .int .i64 ((n : Int) + 1), .slice (some ⟨gx, 0, none⟩) (n + 1) (n + 1), undef, undef, undef, undef, undef, undef, undef, undef, undef, undef, undef, undef, undef, undef, undef, undef, undef, undef, undef, undef, undef, undef, undef, undef, undef, undef, undef, undef, undef, undef], defers := [] } ∧ Below W1.heap.size W1 wc ∧ Blk wc b8 22 #[.slice (some ⟨gx, 0, none⟩) (n + 1) (n + 1)] ∧ Row64 wc 35 gx (n + 1) (n + 1) Lx ∧ W1.heap.size ≤ gx ∧ Dgs 18446744073709551616 Lx ∧ dv 18446744073709551616 Lx = X, fun b8 gx Lx wc c0 c1 c2 c3 c4 c5 => ⟨rfl, b8, gx, Lx, rfl, c0, c1, c2, c3, c4, c5⟩, fun _ _ _ h => h⟩
      have HI := Lib.hid hI
      have HE := Lib.hid hE
      clear hI hE
      refine wp_mono (Q := R) ?_ ?_
      · go_region_held3 (fun w' => Below W1.heap.size W1 w' ∧ w'.cell? ⟨w.heap.size, 0, none⟩ = some (.slice A n c))
          (first | (with_reducible exact ⟨hb0, j3⟩) | (go_split_ands; (repeat' apply And.intro); all_goals (first | with_reducible assumption | with_reducible exact keep_below (by with_reducible assumption) hb | with_reducible exact keep_cell hb (by with_reducible assumption) | with_reducible exact keep_below_alloc _ (by with_reducible assumption) | with_reducible exact keep_below_alloc _ (keep_below_alloc _ (by with_reducible assumption)) | with_reducible exact keep_cell_alloc _ (keep_cell_alloc _ (by with_reducible assumption)) | with_reducible exact Below.drew (keep_below_alloc _ (by with_reducible assumption)) | with_reducible exact (cell_drew_own _ _).trans (keep_cell_alloc _ (by with_reducible assumption)) | with_reducible exact keep_cell_alloc _ (by with_reducible assumption) | with_reducible exact keep_below_set _ (by first | (simp; done) | (simp; omega)) (by with_reducible assumption) | with_reducible exact keep_cell_set _ (by first | (simp; done) | (simp; omega)) (by with_reducible assumption))))
          (first
            | (go_at_call 36; (with_reducible refine (nat_len 0 _ _ _ _).mono ?_); rintro e w' ⟨rfl, hb⟩; go_split_ands; (have hBl : Below W1.heap.size W1 w' := keep_below (by with_reducible assumption) hb); (have hls := hBl.size); (first | (with_reducible have hz := keep_blk hb hz) | (with_reducible have hz := keep_blk hb (Blk.new _ _ _)) | (with_reducible have hz := keep_blk hb (Blk.new _ _ _).drew) | skip))
            | (go_at_call 77; (with_reducible refine (C.out _ (by first | with_reducible assumption | exact And.left (by with_reducible assumption))).mono ?_); rintro e w' ⟨gr, Lr, rfl, hgr, hRr, hdr, hvr, hb⟩; go_split_ands; (have hBw : Below W1.heap.size W1 w' := keep_below (by with_reducible assumption) hb); (have hcw : w'.cell? ⟨w.heap.size, 0, none⟩ = some (.slice A n c) := keep_cell hb (by with_reducible assumption)); (first | (with_reducible have hz := keep_blk hb hz) | (with_reducible have hz := keep_blk hb (Blk.new _ _ _)) | (with_reducible have hz := keep_blk hb (Blk.new _ _ _).drew) | skip); (try (have q1 := hz.cell 0)); (try (have q2 := hz.frozen 0))))
        all_goals (
          go_split_ands
          refine HI.out _ _ Lr _ ?_ ?_ ?_ ?_ ?_ ?_
          · with_reducible assumption
          · (first | with_reducible exact Blk.new _ _ _ | exact hz.set_ 0 _)
          · (first | with_reducible exact hRr.far (row_ne hRr hz (by decide)) _ | with_reducible exact hRr.alloc _ | with_reducible exact (hRr.alloc _).far (by have := hRr.lt; simp; omega) _)
          · with_reducible assumption
          · with_reducible assumption
          · with_reducible assumption)
      · intro e a' W hr
        obtain ⟨rfl, b8, gx, Lx, rfl, r0, r1, r2, r3, r4, r5⟩ := HE.out e a' W hr
        clear hr HI HE R
        have hxd : gd < gx := Nat.lt_of_lt_of_le hdx1 r3
        have hB := keep_below hB r0
        have g2 := keep_cell r0 g2
        have g3 := keep_cell r0 g3
        have k4 := keep_blk r0 k4
        have k5 := keep_blk r0 k5
        have b6 := Nat.le_trans b6 r0.size
        have hk7 := keep_blk r0 hk7
        have hRd := hRd.keep r0
        obtain ⟨hk8, hRx, hgx, hdx, hvx⟩ := And.intro r1 (And.intro r2 (And.intro r3 (And.intro r4 r5)))
        clear r0 r1 r2 r3 r4 r5 C hb0 j3 ltq
        go_wp2_with fail
        have hdx2 := hRx.lt
        obtain ⟨i0, hi0, hz0, hz1, hz2⟩ := info_parts infoU
        obtain ⟨Z, hZ⟩ : ∃ Z, madeCells (Value.cells (.int .u64 0)) K = Z := ⟨_, rfl⟩
        have hKn : (n : Int) - (m : Int) + 1 = (K : Int) := by have := HK.out; omega
        have hmk : ∀ W : World, (Instr.makeSlice 22 (.int .i64 ((n : Int) - (m : Int) + 1)) (.int .i64 ((n : Int) - (m : Int) + 1))).run Tryd.prog W = .ok (.slice (some ⟨W.heap.size, 0, none⟩) K K) (W.alloc (.cells Z 35)) := fun W => by
          have h := run_make_rowN _ _ i0 _ Tryd.underlying22 hi0 hz0 .i64 .i64 K K (Nat.le_refl _) (by rw [hz2]; have := HK.out; omega) (by have := HK.out; omega) W
          rw [hz1, Nat.mul_one, hZ] at h
          rw [hKn]
          exact h
        have HRZ := Lib.hid (fun W : World => by have h := Row64.made W 35 K (by have := HK.out; unfold maxLen; omega); rw [hZ] at h; exact h)
        have HRZ1 := Lib.hid (fun (W : World) (ob : Obj) => by have h := HRZ.out (W.alloc ob); rw [World.size_alloc] at h; exact h)
        clear hZ hKn hi0 hz0 hz1 hz2
        have i3 : IntKind.i64.wrap ((n : Int) - (m : Int)) = (n : Int) - (m : Int) := IntWalk.i64_in _ (by omega)
        have i4 : IntKind.i64.wrap ((n : Int) - (m : Int) + 1) = (n : Int) - (m : Int) + 1 := IntWalk.i64_in _ (by omega)
        have hb0 : Below W.heap.size W W.drew := (Below.refl _ W).drew
        have j2 : W.drew.cell? ⟨w.heap.size, 0, none⟩ = some (.slice A n c) := g2
        have j3 : W.drew.cell? ⟨w.heap.size + 1, 0, none⟩ = some (.slice D m ce) := g3
        have ltq : w.heap.size + 1 < W.heap.size := World.block_lt_of_cell? W ⟨w.heap.size + 1, 0, none⟩ g3
        generalize hWc : W = W1 at *
        clear hWc
        have hbr : Below W1.heap.size W1 W1 := Below.refl _ _
        obtain ⟨R, hI, hE⟩ : ∃ R : Exit → Act → World → Prop, (∀ (b9 : Nat) (gq : Nat) (wc : World), Below W1.heap.size W1 wc → Blk wc b9 22 #[.slice (some ⟨gq, 0, none⟩) K K] → Row64 wc 35 gq K K (List.replicate K 0) → W1.heap.size ≤ gq → R .normal { tmps := #[.agg #[.slice A n c], .agg #[.slice D m ce], .pointer (some ⟨w.heap.size, 0, none⟩), .pointer (some ⟨w.heap.size + 1, 0, none⟩), .pointer (some ⟨w.heap.size + 1 + 1, 0, none⟩), .pointer (some ⟨w.heap.size + 1 + 1 + 1, 0, none⟩), .int .i64 (up : Int), .pointer (some ⟨b7, 0, none⟩), .pointer (some ⟨b8, 0, none⟩), .pointer (some ⟨b9, 0, none⟩), undef, .agg #[.slice D m ce], .agg #[.slice D m ce], .int .i64 (m : Int), .int .i64 ((m : Int) - 1), .int .u64 (t : Int), .int .i64 (up : Int), .agg #[.slice D m ce], .int .i64 (up : Int), .agg #[.slice D m ce], .int .i64 (m : Int), .slice (some ⟨gd, 0, none⟩) m m, .agg #[.slice A n c], .int .i64 (up : Int), .agg #[.slice A n c], .int .i64 (n : Int), .int .i64 ((n : Int) + 1), .slice (some ⟨gx, 0, none⟩) (n + 1) (n + 1), .agg #[.slice A n c], .int .i64 (n : Int), .agg #[.slice D m ce], .int .i64 (m : Int), .int .i64 ((n : Int) - (m : Int)), .int .i64 ((n : Int) - (m : Int) + 1), .slice (some ⟨gq, 0, none⟩) K K, undef, undef, undef, undef, undef, undef, undef, undef, undef, undef, undef, undef, undef, undef, undef, undef, undef, undef, undef, undef, undef, undef, undef], defers := [] } wc) ∧ (∀ e a' wc, R e a' wc → e = .normal ∧ ∃ (b9 : Nat), ∃ (gq : Nat), a' = { tmps := #[.agg #[.slice A n c], .agg #[.slice D m ce], .pointer (some ⟨w.heap.size, 0, none⟩), .pointer (some ⟨w.heap.size + 1, 0, none⟩), .pointer (some ⟨w.heap.size + 1 + 1, 0, none⟩), .pointer (some ⟨w.heap.size + 1 + 1 + 1, 0, none⟩), .int .i64 (up : Int), .pointer (some ⟨b7, 0, none⟩), .pointer (some ⟨b8, 0, none⟩), .pointer (some ⟨b9, 0, none⟩), undef, .agg #[.slice D m ce], .agg #[.slice D m ce], .int .i64 (m : Int), .int .i64 ((m : Int) - 1), .int .u64 (t : Int), .int .i64 (up : Int), .agg #[.slice D m ce], .int .i64 (up : Int), .agg #[.slice D m ce], .int .i64 (m : Int), .slice (some ⟨gd, 0, none⟩) m m, .agg #[.slice A n c], .int .i64 (up : Int), .agg #[.slice A n c], .int .i64 (n : Int), .int .i64 ((n : Int) + 1), .slice (some ⟨gx, 0, none⟩) (n + 1) (n + 1), .agg #[.slice A n c], .int .i64 (n : Int), .agg #[.slice D m ce], .int .i64 (m : Int), .int .i64 ((n : Int) - (m : Int)), .int .i64 ((n : Int) - (m : Int) + 1), .slice (some ⟨gq, 0, none⟩) K K, undef, undef, undef, undef, undef, undef, undef, undef, undef, undef, undef, undef, undef, undef, undef, undef, undef, undef, undef, undef, undef, undef, undef], defers := [] } ∧ Below W1.heap.size W1 wc ∧ Blk wc b9 22 #[.slice (some ⟨gq, 0, none⟩) K K] ∧ Row64 wc 35 gq K K (List.replicate K 0) ∧ W1.heap.size ≤ gq) := ⟨fun e a' wc => e = .normal ∧ ∃ (b9 : Nat), ∃ (gq : Nat), a' = { tmps := #[.agg #[.slice A n c], .agg #[.slice D m ce], .pointer (some ⟨w.heap.size, 0, none⟩), .pointer (some ⟨w.heap.size + 1, 0, none⟩), .pointer (some ⟨w.heap.size + 1 + 1, 0, none⟩), .pointer (some ⟨w.heap.size + 1 + 1 + 1, 0, none⟩), .int .i64 (up : Int), .pointer (some ⟨b7, 0, none⟩), .pointer (some ⟨b8, 0, none⟩), .pointer (some ⟨b9, 0, none⟩), undef, .agg #[.slice D m ce], .agg #[.slice D m ce], .int .i64 (m : Int), .int .i64 ((m : Int) - 1), .int .u64 (t : Int), .int .i64 (up : Int), .agg #[.slice D m ce], .int .i64 (up : Int), .agg #[.slice D m ce], .int .i64 (m : Int), .slice (some ⟨gd, 0, none⟩) m m, .agg #[.slice A n c], .int .i64 (up : Int), .agg #[.slice A n c], .int .i64 (n : Int), .int .i64 ((n : Int) + 1), .slice (some ⟨gx, 0, none⟩) (n + 1) (n + 1), .agg #[.slice A n c], .int .i64 (n : Int), .agg #[.slice D m ce], .int .i64 (m : Int), .int .i64 ((n : Int) - (m : Int)), .int .i64 ((n : Int) - (m : Int) + 1), .slice (some ⟨gq, 0, none⟩) K K, undef, undef, undef, undef, undef, undef, undef, undef, undef, undef, undef, undef, undef, undef, undef, undef, undef, undef, undef, undef, undef, undef, undef], defers := [] } ∧ Below W1.heap.size W1 wc ∧ Blk wc b9 22 #[.slice (some ⟨gq, 0, none⟩) K K] ∧ Row64 wc 35 gq K K (List.replicate K 0) ∧ W1.heap.size ≤ gq, fun b9 gq wc c0 c1 c2 c3 => ⟨rfl, b9, gq, rfl, c0, c1, c2, c3⟩, fun _ _ _ h => h⟩
        have HI := Lib.hid hI
        have HE := Lib.hid hE
        clear hI hE
        refine wp_mono (Q := R) ?_ ?_
        · go_region_held3 (fun w' => Below W1.heap.size W1 w' ∧ w'.cell? ⟨w.heap.size, 0, none⟩ = some (.slice A n c) ∧ w'.cell? ⟨w.heap.size + 1, 0, none⟩ = some (.slice D m ce))
            (first | (with_reducible exact ⟨hb0, j2, j3⟩) | (go_split_ands; (repeat' apply And.intro); all_goals (first | with_reducible assumption | with_reducible exact keep_below (by with_reducible assumption) hb | with_reducible exact keep_cell hb (by with_reducible assumption) | with_reducible exact keep_below_alloc _ (by with_reducible assumption) | with_reducible exact keep_below_alloc _ (keep_below_alloc _ (by with_reducible assumption)) | with_reducible exact keep_cell_alloc _ (keep_cell_alloc _ (by with_reducible assumption)) | with_reducible exact Below.drew (keep_below_alloc _ (by with_reducible assumption)) | with_reducible exact (cell_drew_own _ _).trans (keep_cell_alloc _ (by with_reducible assumption)) | with_reducible exact keep_cell_alloc _ (by with_reducible assumption) | with_reducible exact keep_below_set _ (by first | (simp; done) | (simp; omega)) (by with_reducible assumption) | with_reducible exact keep_cell_set _ (by first | (simp; done) | (simp; omega)) (by with_reducible assumption))))
            (first
              | (go_at_call 36; (with_reducible refine (nat_len 0 _ _ _ _).mono ?_); rintro e w' ⟨rfl, hb⟩; go_split_ands; (have hBl : Below W1.heap.size W1 w' := keep_below (by with_reducible assumption) hb); (have hls := hBl.size); (have hc0 : w'.cell? ⟨w.heap.size, 0, none⟩ = some (.slice A n c) := keep_cell hb (by with_reducible assumption)); (have hc1 : w'.cell? ⟨w.heap.size + 1, 0, none⟩ = some (.slice D m ce) := keep_cell hb (by with_reducible assumption));  (first | (with_reducible have hz := keep_blk hb hz) | (with_reducible have hz := keep_blk hb (Blk.new _ _ _)) | (with_reducible have hz := keep_blk hb (Blk.new _ _ _).drew) | skip); (try (have q1 := fun ob => keep_cell_alloc ob (hz.cell 0))); (try (have q2 := fun ob => (hz.alloc ob).frozen 0))))
          all_goals (
            go_split_ands
            refine HI.out _ _ _ ?_ ?_ ?_ ?_
            · with_reducible assumption
            · (first | (with_reducible exact Blk.new1 _ _ _ _) | (with_reducible exact (Blk.new _ _ _).alloc _) | exact (hz.alloc _).set_ 0 _)
            · (first | (with_reducible exact (HRZ.out _).alloc _) | (with_reducible exact HRZ1.out _ _) | exact (HRZ.out _).far (row_ne (HRZ.out _) (hz.alloc _) (by decide)) _)
            · (first | omega | (simp; omega)))
        · intro e a' W hr
          obtain ⟨rfl, b9, gq, rfl, r0, r1, r2, r3⟩ := HE.out e a' W hr
          clear hr HI HE R
          have hqx : gx < gq := Nat.lt_of_lt_of_le hdx2 r3
          have hB := keep_below hB r0
          have g2 := keep_cell r0 g2
          have g3 := keep_cell r0 g3
          have k4 := keep_blk r0 k4
          have k5 := keep_blk r0 k5
          have b6 := Nat.le_trans b6 r0.size
          have hk7 := keep_blk r0 hk7
          have hk8 := keep_blk r0 hk8
          have hRd := hRd.keep r0
          have hRx := hRx.keep r0
          obtain ⟨hk9, hRq, hgq⟩ := And.intro r1 (And.intro r2 r3)
          clear r0 r1 r2 r3 hb0 j2 j3 ltq hmk HRZ HRZ1 i3 i4 i2
          have q9 : W.cell? ⟨b9, 0, none⟩ = some (.slice (some ⟨gq, 0, none⟩) K K) := hk9.cell 0
          go_wp2_with fail
          have kbs := Blk.new W 22 #[.slice (some ⟨gq, 0, none⟩) K K]
          refine (backward_made (some ⟨gq, 0, none⟩) K K _).mono ?_
          rintro e w2 ⟨rfl, hw2⟩
          have H0 := Lib.hid (show LongI X Y m n K gd gx gq b7 b8 b9 W.heap.size Ld w K w2 by
            rw [← hw2]
            have hKK := HK.out
            exact ⟨⟨Lx, List.replicate K 0, LongB.start (by rw [hRx.len]; omega) hdx hvx HF.out, fun j _ => by simp [List.getD_eq_getElem?_getD, List.getElem?_replicate]; split <;> rfl, hRx.alloc _, hRq.alloc _⟩, hRd.alloc _, hk7.alloc _, hk8.alloc _, hk9.alloc _, kbs, k4.alloc _, k5.alloc _, keep_below_alloc _ hB⟩)
          have hB2 : w.heap.size ≤ w2.heap.size := by rw [← hw2]; have := hB.size; simp; omega
          go_wp2_with fail
          obtain ⟨bs, hbs⟩ : ∃ g, W.heap.size = g := ⟨_, rfl⟩
          rw [hbs] at H0 ⊢
          have hgq2 : gq < bs := by rw [← hbs]; exact hRq.lt
          have hq3 : w.heap.size + 1 + 1 + 1 < gd := by omega
          have HDD := Lib.hid hdd
          have HVD := Lib.hid hvd
          clear hw2 kbs hbs hRx hRd hRq hk7 hk8 hk9 k4 k5 hB q9 g2 g3 hdd hdx hvd hvx
          refine (wpIn_wide (n := 3)).1 ?_
          refine range_down (gf := 79) (lb := #[.pointer (some ⟨bs, 0, none⟩)]) rfl (enters_of Tryd.func79 (by kernel_rfl) rfl) K (fun k => #[.int .i64 (k : Int), .int .u64 ((0 : Nat) : Int)]) (fun _ => rfl)
            (fun k W => LongI X Y m n K gd gx gq b7 b8 b9 bs Ld w k W) (fun k => LongI.own hB2 k) H0.out
            (backward_rounds bs K K (some ⟨gq, 0, none⟩) (fun _ => 0) _ (by have := HK.out; omega) (fun k W h => h.xs.cell 0) ?cells)
            (fun k => { tmps := #[.agg #[.slice A n c], .agg #[.slice D m ce], .pointer (some ⟨w.heap.size, 0, none⟩), .pointer (some ⟨w.heap.size + 1, 0, none⟩), .pointer (some ⟨w.heap.size + 1 + 1, 0, none⟩), .pointer (some ⟨w.heap.size + 1 + 1 + 1, 0, none⟩), .int .i64 (up : Int), .pointer (some ⟨b7, 0, none⟩), .pointer (some ⟨b8, 0, none⟩), .pointer (some ⟨b9, 0, none⟩), .int .i64 (k : Int), .agg #[.slice D m ce], .agg #[.slice D m ce], .int .i64 (m : Int), .int .i64 ((m : Int) - 1), .int .u64 (t : Int), .int .i64 (up : Int), .agg #[.slice D m ce], .int .i64 (up : Int), .agg #[.slice D m ce], .int .i64 (m : Int), .slice (some ⟨gd, 0, none⟩) m m, .agg #[.slice A n c], .int .i64 (up : Int), .agg #[.slice A n c], .int .i64 (n : Int), .int .i64 ((n : Int) + 1), .slice (some ⟨gx, 0, none⟩) (n + 1) (n + 1), .agg #[.slice A n c], .int .i64 (n : Int), .agg #[.slice D m ce], .int .i64 (m : Int), .int .i64 ((n : Int) - (m : Int)), .int .i64 ((n : Int) - (m : Int) + 1), .slice (some ⟨gq, 0, none⟩) K K, .slice (some ⟨gq, 0, none⟩) K K, .func (.func 79) #[] #[.pointer (some ⟨bs, 0, none⟩)], .int .i64 (k : Int), .int .u64 0, undef, undef, undef, undef, undef, undef, undef, undef, undef, undef, undef, undef, undef, undef, undef, undef, undef, undef, undef], defers := [] }) ?assign ?body ?done
          case cells =>
            intro k W hk h
            obtain ⟨L, Q, _, h2, _, h4⟩ := h.row
            refine ⟨_, rfl, ?_⟩
            rw [add_at, h4.cell k hk, h2 k (by omega)]
          case assign =>
            intro l k W K hK
            gi_wp2
            exact hK
          case body =>
            intro l k W hk h
            have kd := h.div
            have k7 := h.x7
            have k8 := h.x8
            have k9 := h.x9
            have ks := h.xs
            have k4 := h.r4
            have k5 := h.r5
            have hbl := h.below
            obtain ⟨L, Q, h1, h2, h3, h4⟩ := h.row
            clear h
            obtain ⟨pA, p, pC, rfl, hpA, hpl, hpd, hpe, hpY, hpC⟩ := h1.cut hk HDL.out
            have hYp : 0 < Y := by
              have e := HVD.out
              rcases Nat.eq_zero_or_pos Y with e0 | e0
              · rw [e0, Nat.mul_zero] at hpY; omega
              · exact e0
            have c7 : W.cell? ⟨b7, 0, none⟩ = some (.slice (some ⟨gd, 0, none⟩) m m) := k7.cell 0
            have c8 : W.cell? ⟨b8, 0, none⟩ = some (.slice (some ⟨gx, 0, none⟩) (n + 1) (n + 1)) := k8.cell 0
            have c9 : W.cell? ⟨b9, 0, none⟩ = some (.slice (some ⟨gq, 0, none⟩) K K) := k9.cell 0
            have n7 : gx ≠ b7 ∧ gq ≠ b7 := ⟨row_ne h3 k7 (by decide), row_ne h4 k7 (by decide)⟩
            have n8 : gx ≠ b8 ∧ gq ≠ b8 := ⟨row_ne h3 k8 (by decide), row_ne h4 k8 (by decide)⟩
            have n9 : gx ≠ b9 ∧ gq ≠ b9 := ⟨row_ne h3 k9 (by decide), row_ne h4 k9 (by decide)⟩
            have ns : gx ≠ bs ∧ gq ≠ bs := ⟨row_ne h3 ks (by decide), row_ne h4 ks (by decide)⟩
            obtain ⟨n7x, n7q⟩ := n7
            obtain ⟨n8x, n8q⟩ := n8
            obtain ⟨n9x, n9q⟩ := n9
            obtain ⟨nsx, nsq⟩ := ns
            have hKK := HK.out
            have htk := quot_takeout 35 gx (n + 1) (n + 1) k m (n + 1 - k) m ⟨gd, 0, none⟩ pA p pC Ld W.drew h3 hpA hpl hpd (kd.readsB hxd) HDD.out hm (by omega) (by omega) (by omega) (Nat.le_refl _) (by omega) (norm_top (m := m - 1) (by rw [kd.len]; omega) HDD.out HVD.out HDT.out) (by rw [HVD.out]; exact hpY)
            unfold OutR at htk
            rw [HVD.out] at htk
            obtain ⟨tq, htq⟩ : ∃ t, dv 18446744073709551616 p / Y = t := ⟨_, rfl⟩
            rw [htq] at htk
            have HTQ := Lib.hid htq
            have HTK := Lib.hid htk
            clear htk hpe htq
            have i1 : (0 : Int) ≤ (k : Int) := by omega
            have i2 : (k : Int) < (K : Int) := by omega
            have i3 : IntKind.i64.wrap ((k : Int) + (m : Int)) = (k : Int) + (m : Int) := IntWalk.i64_in _ (by omega)
            have i4 : IntKind.i64.wrap ((k : Int) + (m : Int) + 1) = (k : Int) + (m : Int) + 1 := IntWalk.i64_in _ (by omega)
            have i5 : (k : Int) ≤ (k : Int) + (m : Int) + 1 := by omega
            have i6 : (k : Int) + (m : Int) + 1 ≤ (n : Int) + 1 := by omega
            have i7 : (0 : Int) ≤ (k : Int) + (m : Int) + 1 := by omega
            have i8 : ¬ (n + 1 = k) := by omega
            have i9 : ((k : Int) + (m : Int) + 1).toNat - k = m + 1 := by omega
            clear hKK
            refine wpIn_block ?_
            refine round_region (S := (fun w' => w'.cell? ⟨b7, 0, none⟩ = some (.slice (some ⟨gd, 0, none⟩) m m) ∧ w'.cell? ⟨b8, 0, none⟩ = some (.slice (some ⟨gx, 0, none⟩) (n + 1) (n + 1)) ∧ w'.cell? ⟨b9, 0, none⟩ = some (.slice (some ⟨gq, 0, none⟩) K K))) (by kernel_rfl) (by kernel_rfl) (fun _ _ h => by cases h.1) ?_ (fun hHeld => ?_)
            · exact ⟨c7, c8, c9⟩
            refine wpAnyH_take (i := 0) (oi := ?_) (v := ?_) (by simp only [List.getElem?_toArray, List.getElem?_cons_succ, List.getElem?_cons_zero]; rfl) (by kernel_rfl) (by kernel_rfl) (by kernel_rfl) (fun _ _ _ h => h) (Or.inl ⟨by rfl, ?_⟩) (by with_reducible assumption) ?_
            rotate_left
            focus ((intro w hSw; (try dsimp only at hSw); go_simp); (try with_reducible rfl))
            try simp only [Act.put, List.setIfInBounds_toArray, List.set_cons_zero, List.set_cons_succ]
            refine wpAnyH_take (i := 1) (oi := ?_) (v := ?_) (by simp only [List.getElem?_toArray, List.getElem?_cons_succ, List.getElem?_cons_zero]; rfl) (by kernel_rfl) (by kernel_rfl) (by kernel_rfl) (fun _ _ _ h => h) (Or.inl ⟨by rfl, ?_⟩) (by with_reducible assumption) ?_
            rotate_left
            focus ((intro w hSw; (try dsimp only at hSw); go_simp); (try with_reducible rfl))
            try simp only [Act.put, List.setIfInBounds_toArray, List.set_cons_zero, List.set_cons_succ]
            refine wpAnyH_take (i := 2) (oi := ?_) (v := ?_) (by simp only [List.getElem?_toArray, List.getElem?_cons_succ, List.getElem?_cons_zero]; rfl) (by kernel_rfl) (by kernel_rfl) (by kernel_rfl) (fun _ _ _ h => h) (Or.inl ⟨by rfl, ?_⟩) (by with_reducible assumption) ?_
            rotate_left
            focus ((intro w hSw; (try dsimp only at hSw); go_simp); (try with_reducible rfl))
            try simp only [Act.put, List.setIfInBounds_toArray, List.set_cons_zero, List.set_cons_succ]
            refine wpAnyH_take (i := 3) (oi := ?_) (v := ?_) (by simp only [List.getElem?_toArray, List.getElem?_cons_succ, List.getElem?_cons_zero]; rfl) (by kernel_rfl) (by kernel_rfl) (by kernel_rfl) (fun _ _ _ h => h) (Or.inl ⟨by rfl, ?_⟩) (by with_reducible assumption) ?_
            rotate_left
            focus ((intro w hSw; (try dsimp only at hSw); go_simp); (try with_reducible rfl))
            try simp only [Act.put, List.setIfInBounds_toArray, List.set_cons_zero, List.set_cons_succ]
            refine wpAnyH_take (i := 4) (oi := ?_) (v := ?_) (by simp only [List.getElem?_toArray, List.getElem?_cons_succ, List.getElem?_cons_zero]; rfl) (by kernel_rfl) (by kernel_rfl) (by kernel_rfl) (fun _ _ _ h => h) (Or.inl ⟨by rfl, ?_⟩) (by with_reducible assumption) ?_
            rotate_left
            focus ((intro w hSw; (try dsimp only at hSw); go_simp); (try with_reducible rfl))
            try simp only [Act.put, List.setIfInBounds_toArray, List.set_cons_zero, List.set_cons_succ]
            refine wpAnyH_take (i := 5) (oi := ?_) (v := ?_) (by simp only [List.getElem?_toArray, List.getElem?_cons_succ, List.getElem?_cons_zero]; rfl) (by kernel_rfl) (by kernel_rfl) (by kernel_rfl) (fun _ _ _ h => h) (Or.inl ⟨by rfl, ?_⟩) (by with_reducible assumption) ?_
            rotate_left
            focus ((intro w hSw; (try dsimp only at hSw); go_simp); (try with_reducible rfl))
            try simp only [Act.put, List.setIfInBounds_toArray, List.set_cons_zero, List.set_cons_succ]
            refine wpAnyH_take (i := 6) (oi := ?_) (v := ?_) (by simp only [List.getElem?_toArray, List.getElem?_cons_succ, List.getElem?_cons_zero]; rfl) (by kernel_rfl) (by kernel_rfl) (by kernel_rfl) (fun _ _ _ h => h) (Or.inl ⟨by rfl, ?_⟩) (by with_reducible assumption) ?_
            rotate_left
            focus ((intro w hSw; (try dsimp only at hSw); go_simp); (try with_reducible rfl))
            try simp only [Act.put, List.setIfInBounds_toArray, List.set_cons_zero, List.set_cons_succ]
            refine wpAnyH_take (i := 7) (oi := ?_) (v := ?_) (by simp only [List.getElem?_toArray, List.getElem?_cons_succ, List.getElem?_cons_zero]; rfl) (by kernel_rfl) (by kernel_rfl) (by kernel_rfl) (fun _ _ _ h => h) (Or.inl ⟨by rfl, ?_⟩) (by with_reducible assumption) ?_
            rotate_left
            focus ((intro w hSw; (try dsimp only at hSw); go_simp); (try with_reducible rfl))
            try simp only [Act.put, List.setIfInBounds_toArray, List.set_cons_zero, List.set_cons_succ]
            refine wpAnyH_take (i := 8) (oi := ?_) (v := ?_) (by simp only [List.getElem?_toArray, List.getElem?_cons_succ, List.getElem?_cons_zero]; rfl) (by kernel_rfl) (by kernel_rfl) (by kernel_rfl) (fun _ _ _ h => h) (Or.inl ⟨by rfl, ?_⟩) (by with_reducible assumption) ?_
            rotate_left
            focus ((intro w hSw; (try dsimp only at hSw); go_simp); (try with_reducible rfl))
            try simp only [Act.put, List.setIfInBounds_toArray, List.set_cons_zero, List.set_cons_succ]
            refine wpAnyH_take (i := 9) (oi := ?_) (v := ?_) (by simp only [List.getElem?_toArray, List.getElem?_cons_succ, List.getElem?_cons_zero]; rfl) (by kernel_rfl) (by kernel_rfl) (by kernel_rfl) (fun _ _ _ h => h) (Or.inl ⟨by rfl, ?_⟩) (by with_reducible assumption) ?_
            rotate_left
            focus ((intro w hSw; (try dsimp only at hSw); go_simp); (try with_reducible rfl))
            try simp only [Act.put, List.setIfInBounds_toArray, List.set_cons_zero, List.set_cons_succ]
            refine wpAnyH_take (i := 10) (oi := ?_) (v := ?_) (by simp only [List.getElem?_toArray, List.getElem?_cons_succ, List.getElem?_cons_zero]; rfl) (by kernel_rfl) (by kernel_rfl) (by kernel_rfl) (fun _ _ _ h => h) (Or.inl ⟨by rfl, ?_⟩) (by with_reducible assumption) ?_
            rotate_left
            focus ((intro w hSw; (try dsimp only at hSw); go_simp); (try with_reducible rfl))
            try simp only [Act.put, List.setIfInBounds_toArray, List.set_cons_zero, List.set_cons_succ]
            refine wpAnyH_ready (rs := [11]) (by kernel_rfl) (by simp) ?_
            refine AllReadyH.cons (o := ?_) (by simp only [List.getElem?_toArray, List.getElem?_cons_succ, List.getElem?_cons_zero]; rfl) (fun K hK => ?_) AllReadyH.nil
            go_simp
            refine HTK.out.mono ?_
            rintro e w2 ⟨p', rfl, hpl', hpd', hpv', hR2, hO⟩
            have hq2 := h4.drew
            have cq2 := hO.cell (hq2.cell k hk) (by show gq ≠ gx; omega)
            have fq2 : w2.frozen? ⟨gq, k, none⟩ = false := (World.frozen?_of_block (hO.block gq hq2.lt (by intro h; injection h; omega))).trans (hq2.frozen k)
            refine hK.out _ _ ?_ (fun hHeld => ?_)
            · ((try dsimp only); exact ⟨hO.cell hHeld.1 (fun h => n7x h.symm), hO.cell hHeld.2.1 (fun h => n8x h.symm), hO.cell hHeld.2.2 (fun h => n9x h.symm)⟩)
            clear hK K
            try simp only [Act.put, List.setIfInBounds_toArray, List.set_cons_zero, List.set_cons_succ]
            refine wpAnyH_take (i := 12) (oi := ?_) (v := ?_) (by simp only [List.getElem?_toArray, List.getElem?_cons_succ, List.getElem?_cons_zero]; rfl) (by kernel_rfl) (by kernel_rfl) (by kernel_rfl) (fun _ _ _ h => h) (Or.inl ⟨by rfl, ?_⟩) (by with_reducible assumption) ?_
            rotate_left
            focus ((intro w hSw; (try dsimp only at hSw); go_simp); (try with_reducible rfl))
            try simp only [Act.put, List.setIfInBounds_toArray, List.set_cons_zero, List.set_cons_succ]
            refine wpAnyH_ready (rs := [13]) (by kernel_rfl) (by simp) ?_
            refine AllReadyH.cons (o := ?_) (by simp only [List.getElem?_toArray, List.getElem?_cons_succ, List.getElem?_cons_zero]; rfl) (fun K hK => ?_) AllReadyH.nil
            go_simp
            skip
            refine hK.out _ _ ?_ (fun hHeld => ?_)
            · ((try dsimp only); exact ⟨keep_cell_set _ (fun h => n7q h.symm) hHeld.1, keep_cell_set _ (fun h => n8q h.symm) hHeld.2.1, keep_cell_set _ (fun h => n9q h.symm) hHeld.2.2⟩)
            clear hK K
            try simp only [Act.put, List.setIfInBounds_toArray, List.set_cons_zero, List.set_cons_succ]
            refine wpAnyH_done (by kernel_rfl) ?_ _
            have hko : KeepsOthers W.drew w2 := KeepsOthers.of_grownBy hO (fun j ob e ho => by
              injection e with e
              subst e
              obtain ⟨cur, hb, _⟩ := h3
              rw [show W.drew.heap[gx]? = _ from hb] at ho
              cases ho
              rfl)
            have hqb : dv 18446744073709551616 p / Y < 18446744073709551616 := (Nat.div_lt_iff_lt_mul hYp).2 hpY
            have hst := h1.step hpA hpl hpC hk hpl' hpd' hpv' hqb hYp
            rw [HTQ.out] at hst
            have hle := Nat.lt_of_lt_of_le hxd (Nat.le_refl gx)
            refine ⟨rfl, ((KeepsOthers.drew W).trans hko).trans (KeepsOthers.setCell _ _ _), ?_⟩
            exact ⟨⟨_, _, hst, fun j hj => by rw [List.getD_eq_getElem?_getD, List.getElem?_set_ne (by omega), ← List.getD_eq_getElem?_getD]; exact h2 j (by omega), hR2.far (p := ⟨gq, k, none⟩) (by show gx ≠ gq; omega) _, (hO.row h4.drew (by omega)).set_ k tq hk⟩,
              (hO.row kd.drew (by omega)).far (p := ⟨gq, k, none⟩) (by show gd ≠ gq; omega) _,
              (hO.blk k7.drew (fun h => n7x h.symm)).far (p := ⟨gq, k, none⟩) (fun h => n7q h.symm) _, (hO.blk k8.drew (fun h => n8x h.symm)).far (p := ⟨gq, k, none⟩) (fun h => n8q h.symm) _,
              (hO.blk k9.drew (fun h => n9x h.symm)).far (p := ⟨gq, k, none⟩) (fun h => n9q h.symm) _, (hO.blk ks.drew (fun h => nsx h.symm)).far (p := ⟨gq, k, none⟩) (fun h => nsq h.symm) _,
              (hO.blk k4.drew (by omega)).far (p := ⟨gq, k, none⟩) (by show w.heap.size + 1 + 1 ≠ gq; omega) _, (hO.blk k5.drew (by omega)).far (p := ⟨gq, k, none⟩) (by show w.heap.size + 1 + 1 + 1 ≠ gq; omega) _,
              (hO.below hbl.drew hbl.size (by omega)).setCell (p := ⟨gq, k, none⟩) (by show w.heap.size ≤ gq; omega) _⟩
          case done =>
            intro D0 W hD h hK
            have k4 := h.r4
            have k5 := h.r5
            have hbl := h.below
            have c8 : W.cell? ⟨b8, 0, none⟩ = some (.slice (some ⟨gx, 0, none⟩) (n + 1) (n + 1)) := h.x8.cell 0
            have c9 : W.cell? ⟨b9, 0, none⟩ = some (.slice (some ⟨gq, 0, none⟩) K K) := h.x9.cell 0
            obtain ⟨m8, m8'⟩ : b8 ≠ w.heap.size + 1 + 1 ∧ b8 ≠ w.heap.size + 1 + 1 + 1 := ⟨h.x8.ne_ k4 (by decide), h.x8.ne_ k5 (by decide)⟩
            obtain ⟨m9, m9'⟩ : b9 ≠ w.heap.size + 1 + 1 ∧ b9 ≠ w.heap.size + 1 + 1 + 1 := ⟨h.x9.ne_ k4 (by decide), h.x9.ne_ k5 (by decide)⟩
            obtain ⟨L, Q, h1, _, h3, h4⟩ := h.row
            obtain ⟨hq, hr⟩ := h1.done
            have hKK := HK.out
            have HO1 := nat_of (some ⟨gq, 0, none⟩) K K Q W.drew h4.drew.reads h1.qdgs (Nat.le_refl _) (by omega) (by omega)
            have HO2 := fun w' (hb : Below W.drew.heap.size W.drew w') => nat_of (some ⟨gx, 0, none⟩) (n + 1) (n + 1) L w' ((h3.drew.reads.below hb).more hb.size) h1.dgs (Nat.le_refl _) (by omega) (by omega)
            have hrl := dv_lt h1.dgs
            rw [hq] at HO1
            rw [hr] at HO2 hrl
            obtain ⟨xq, hxq⟩ : ∃ q, X / Y = q := ⟨_, rfl⟩
            obtain ⟨xr, hxr⟩ : ∃ q, X % Y = q := ⟨_, rfl⟩
            rw [hxq] at HO1
            rw [hxr] at HO2 hrl
            have hrl2 : (dg 18446744073709551616 xr).length ≤ n + 1 := by
              refine dg_len_le (by decide) _ _ (Nat.lt_of_lt_of_le hrl (Nat.pow_le_pow_right (by decide) ?_))
              rw [h1.len]; omega
            have HS := fun w' (B k c) (hw : WordsIn w' xr B k c) => nat_shr_any xr up B k c w' hw (by have := hw.len; omega)
            have hres := HN.out
            rw [hxq, hxr] at hres
            obtain ⟨yr, hyr⟩ : ∃ q, xr / 2 ^ up = q := ⟨_, rfl⟩
            rw [hyr] at HS hres
            have HO1 := Lib.hid HO1
            have HO2 := Lib.hid HO2
            have HSH := Lib.hid HS
            have HRES := Lib.hid hres
            have HKH := Lib.hid hK
            have hlt : D0 < W.heap.size := (Array.getElem?_eq_some_iff.1 hK).1
            clear h h1 h3 h4 hq hr hKK HS hres hK hrl hrl2 hxq hxr hyr H0
            rename_i hO1u hO2u
            clear hO2u hO1u
            go_wp2_with fail
            have j8 : W.drew.cell? ⟨b8, 0, none⟩ = some (.slice (some ⟨gx, 0, none⟩) (n + 1) (n + 1)) := c8
            have j9 : W.drew.cell? ⟨b9, 0, none⟩ = some (.slice (some ⟨gq, 0, none⟩) K K) := c9
            go_region_held3 (fun w' => w'.cell? ⟨b8, 0, none⟩ = some (.slice (some ⟨gx, 0, none⟩) (n + 1) (n + 1)) ∧ w'.cell? ⟨b9, 0, none⟩ = some (.slice (some ⟨gq, 0, none⟩) K K))
              (first | (with_reducible exact ⟨j8, j9⟩) | (go_split_ands; (repeat' apply And.intro); all_goals (first | with_reducible assumption | with_reducible exact keep_below (by with_reducible assumption) hb | with_reducible exact keep_cell hb (by with_reducible assumption) | with_reducible exact keep_below_alloc _ (by with_reducible assumption) | with_reducible exact keep_below_alloc _ (keep_below_alloc _ (by with_reducible assumption)) | with_reducible exact keep_cell_alloc _ (keep_cell_alloc _ (by with_reducible assumption)) | with_reducible exact Below.drew (keep_below_alloc _ (by with_reducible assumption)) | with_reducible exact (cell_drew_own _ _).trans (keep_cell_alloc _ (by with_reducible assumption)) | with_reducible exact keep_cell_alloc _ (by with_reducible assumption) | with_reducible exact keep_below_set _ (by first | (simp; done) | (simp; omega)) (by with_reducible assumption) | with_reducible exact keep_cell_set _ (by first | (simp; done) | (simp; omega)) (by with_reducible assumption))))
              (first
                | (go_at_call 12; (with_reducible refine HO1.out.mono ?_); rintro e w' ⟨A3, n3, c3, rfl, hw3, hb, hf3⟩; have hB3 := hb)
                | (go_at_call 12; (with_reducible refine (HO2.out _ hB3).mono ?_); rintro e w' ⟨A4, n4, c4, rfl, hw4, hb, _⟩; have hw3 := hw3.below hb; have hB3 := keep_below hB3 hb)
                | (go_at_call 57; (with_reducible refine (HSH.out _ _ _ _ hw4).mono ?_); rintro e w' ⟨A5, n5, c5, rfl, hw5, hb, hf5⟩; have hf5 := hf5.from_ hB3; have hw3 := hw3.below hb; have hB3 := keep_below hB3 hb; have k4' := keep_blk hB3 k4.drew; have k5' := keep_blk hB3 k5.drew; have f4 := k4'.frozen 0; have f5 := k5'.frozen 0; have g4 := k4'.cell 0; have g5 := k5'.cell 0))
            have hk4 := k4.lt
            have hk5 := k5.lt
            have k1 : w'.heap[D0]? = some (.deferred (some [])) := (hB3.block D0 hlt).trans HKH.out
            have hK1 := (KeepsOthers.setCell w' ⟨w.heap.size + 1 + 1, 0, none⟩ (.slice A3 n3 c3)).same D0 _ k1 rfl
            have hK' := (KeepsOthers.setCell (w'.setCell ⟨w.heap.size + 1 + 1, 0, none⟩ (.slice A3 n3 c3)) ⟨w.heap.size + 1 + 1 + 1, 0, none⟩ (.slice A5 n5 c5)).same D0 _ hK1 rfl
            have l4 := (k4'.set_ 0 (.slice A3 n3 c3)).far (p := ⟨w.heap.size + 1 + 1 + 1, 0, none⟩) (by show w.heap.size + 1 + 1 ≠ w.heap.size + 1 + 1 + 1; omega) (.slice A5 n5 c5)
            have l5 := (k5'.far (p := ⟨w.heap.size + 1 + 1, 0, none⟩) (by show w.heap.size + 1 + 1 + 1 ≠ w.heap.size + 1 + 1; omega) (.slice A3 n3 c3)).set_ 0 (.slice A5 n5 c5)
            have e4 := cell_kept (l4.cell 0) (grownBy_putObj' _ D0 (.deferred none)) (fun r e => by cases e; exact ⟨_, hK', rfl⟩)
            have e5 := cell_kept (l5.cell 0) (grownBy_putObj' _ D0 (.deferred none)) (fun r e => by cases e; exact ⟨_, hK', rfl⟩)
            have hbw : Below w.heap.size w w' := hbl.trans ((show Below W.heap.size W w' from ⟨hB3.os, hB3.tape, hB3.output, hB3.size, hB3.block⟩).mono hbl.size)
            have HG : Hid (GivesQ2 w (x / d) (x % d) (.returned (.tuple #[.agg #[.slice A3 n3 c3], .agg #[.slice A5 n5 c5]])) (((w'.setCell ⟨w.heap.size + 1 + 1, 0, none⟩ (.slice A3 n3 c3)).setCell ⟨w.heap.size + 1 + 1 + 1, 0, none⟩ (.slice A5 n5 c5)).putObj D0 (.deferred none))) :=
              ⟨A3, n3, c3, A5, n5, c5, rfl,
                by rw [← HRES.out.1]; exact words_put (words_set (words_set hw3 (fun ad e => by have h1 : W.heap.size ≤ ad.block := hf3 ad e; show ad.block ≠ w.heap.size + 1 + 1; omega) _) (fun ad e => by have h1 : W.heap.size ≤ ad.block := hf3 ad e; show ad.block ≠ w.heap.size + 1 + 1 + 1; omega) _) hK' rfl _,
                by rw [← HRES.out.2]; exact words_put (words_set (words_set hw5 (fun ad e => by have h1 : W.heap.size ≤ ad.block := hf5 ad e; show ad.block ≠ w.heap.size + 1 + 1; omega) _) (fun ad e => by have h1 : W.heap.size ≤ ad.block := hf5 ad e; show ad.block ≠ w.heap.size + 1 + 1 + 1; omega) _) hK' rfl _,
                ((hbw.setCell (p := ⟨w.heap.size + 1 + 1, 0, none⟩) (by show w.heap.size ≤ w.heap.size + 1 + 1; omega) _).setCell (p := ⟨w.heap.size + 1 + 1 + 1, 0, none⟩) (by show w.heap.size ≤ w.heap.size + 1 + 1 + 1; omega) _).trans (belowK_b (w := w) (Nat.le_refl _) _ D0 _ _ (by omega) hK' rfl rfl)⟩
            clear hb hw3 hw4 hw5 hf3 hf5 k4' k5' f4 f5 g4 g5 hB3 hbw k1 hK1 l4 l5 c8 c9 j8 j9
            go_wp2
            refine ⟨by simp, .inl ⟨_, _, rfl, run_takeDeferred hK', ?_⟩⟩
            exact ⟨.tuple #[.agg #[.slice A3 n3 c3], .agg #[.slice A5 n5 c5]], by simp [results, Tryd.f71, go_sem, e4, e5], HG.out⟩
end Go.Proofs.YtplgbokgfphjaaaDoor
