/-
  The contract of quot's ByWord: a number by a word, and what is left; none by 0. Conditions: the value is a number of up to 2 to the 38 words.
-/
import Derived.Test.YtnnhcicdildfaaaRows
import Derived.Test.YtnnhcicdildfaaaBunL
import Derived.Test.YtnnhcicdildfaaaBunQ
import Derived.Test.YtnnhcicdildfaaaBunO
import Derived.Test.YtnnhcicdildfaaaP4C
import Derived.Test.YtnnhcicdildfaaaBunE
import Derived.WalkKit
import Derived.Lib.Hide
import Derived.Outline
import Derived.IntWalk
import Derived.Deep.RegionHeld3
import Derived.RangeFuncBox
namespace Go.Proofs.Ytnnhcicdildfaaa
open Go Go.RowKit
set_option maxRecDepth 100000
set_option linter.unusedVariables false
set_option linter.unusedSimpArgs false
attribute [local go_sem] Oper.semAt_some
set_option maxHeartbeats 2000000 in
theorem quot_byword_no (x : Nat) (A : Option Addr) (n c : Nat) (w : World) (hA : WordsIn w x A n c) :
    Calls Try.prog 32 #[.agg #[.slice A n c], .int .u64 0] w (GivesQX w 0 0 false) := by
  go_enter Try.func32, Try.ntmps32
  go_wp2
  refine bodyPost_ret (v := .tuple #[.agg #[.slice none 0 0], .int .u64 0, .bool false]) (by simp [results, Try.results32, go_sem]) rfl ?_
  exact ⟨none, 0, 0, rfl, words_zero _, (box3 w _ _ _ _ _ _).1⟩
/-- A quotient in new memory, a word that is left, and whether there is one. -/
def GivesQF (w : World) (q x : Nat) (b : Bool) (e : Ending) (w' : World) : Prop := ∃ (A : Option Addr) (n c : Nat), e = .returned (.tuple #[.agg #[.slice A n c], .int .u64 (x : Int), .bool b]) ∧ WordsIn w' q A n c ∧ Below w.heap.size w w' ∧ Fresh w A
theorem row64_kept {B g cap n : Nat} {t : TypeId} {L : List Nat} {W W' : World} {row : Option Nat} (h : Row64 W t g cap n L) (hg : W.grownBy W' row) (hr : ∀ r, row = some r → B ≤ r ∧ ∃ o : Obj, W.heap[r]? = some o ∧ o.isCells = false) : Row64 W' t g cap n L := by
  obtain ⟨cur, h0, h1⟩ := h
  exact ⟨cur, blk_kept h0 hg hr, h1⟩
/-- What holds between two rounds of ByWord: k words are still to come. -/
structure ByI (x a n c1 gs q0 q1 q2 q3 q4 : Nat) (A1 : Option Addr) (w : World) (k : Nat) (W : World) : Prop where
  row : ∃ L r, DivB x a k n L r ∧ Blk W q3 50 #[.int .u64 (r : Int)] ∧ (0 < n → ∃ g, A1 = some ⟨g, 0, none⟩ ∧ gs ≤ g ∧ g < q2 ∧ Row64 W 50 g c1 n L)
  abox : Blk W q0 50 #[.int .u64 (a : Int)]
  res : Blk W q1 25 #[.slice none 0 0]
  qbox : Blk W q2 22 #[.slice A1 n c1]
  seq : Blk W q4 22 #[.slice A1 n c1]
  below : Below w.heap.size w W
theorem ByI.own {x a n c1 gs q0 q1 q2 q3 q4 B : Nat} {A1 : Option Addr} {w : World} (hB : w.heap.size ≤ B) (k : Nat) : OwnFrom B (fun (_ : Unit) W => ByI x a n c1 gs q0 q1 q2 q3 q4 A1 w k W) := by
  intro _ W W' row h hg hr
  obtain ⟨L, r, h1, h2, h3⟩ := h.row
  refine ⟨⟨L, r, h1, blk_kept h2 hg hr, fun hn => ?_⟩, blk_kept h.abox hg hr, blk_kept h.res hg hr, blk_kept h.qbox hg hr, blk_kept h.seq hg hr, below_kept h.below (Nat.le_refl _) hB hg hr⟩
  obtain ⟨g, e, h4, h5, h6⟩ := h3 hn
  exact ⟨g, e, h4, h5, row64_kept h6 hg hr⟩
theorem words_put {w : World} {x n c D : Nat} {A : Option Addr} {o : Obj} (h : WordsIn w x A n c) (hD : w.heap[D]? = some o) (ho : o.isCells = false) (o' : Obj) : WordsIn (w.putObj D o') x A n c := by
  obtain ⟨⟨h1, h2⟩, h3⟩ := h
  refine ⟨⟨h1, fun hn => ?_⟩, h3⟩
  obtain ⟨ad, e, hb, hc⟩ := h2 hn
  exact ⟨ad, e, by simpa using hb, fun j u hu => cell_kept (hc j u hu) (grownBy_putObj' w D o') (fun r e => by cases e; exact ⟨_, hD, ho⟩)⟩
theorem add_at (g k : Nat) : (⟨g, 0, none⟩ : Addr).add k = ⟨g, k, none⟩ := by unfold Addr.add; split <;> simp_all
set_option maxHeartbeats 4000000 in
theorem quot_byword_new (x a : Nat) (A : Option Addr) (n c : Nat) (w : World) (hA : WordsIn w x A n c) (hn : n ≤ 274877906944) (ha : a < 18446744073709551616) (ha0 : a ≠ 0) :
    Calls Try.prog 32 #[.agg #[.slice A n c], .int .u64 (a : Int)] w (GivesQF w (x / a) (x % a) true) := by
  have hln := Lib.hid hA.len
  have HWS := Lib.hid (fun w' (hb : Below w.heap.size w w') => nat_words_own x A n c w' (hA.below hb) (by omega))
  have HI := Lib.hid (DivB.start (a := a) hA.len ha0)
  have hz : ((a : Int) == 0) = false := by simp; omega
  clear hA
  refine (callsIn_wide (n := 3)).1 ?_
  refine callsIn_of_wp_marks Try.func32 rfl trivial ?_ rfl
  simp only [Try.ntmps32, List.size_toArray, List.length_cons, List.length_nil, Nat.reduceAdd, Nat.reduceSub, Array.replicate_succ, Array.replicate_zero, List.push_toArray, List.append_toArray, List.nil_append, List.cons_append]
  refine wpIn_wide.2 ?_
  go_wp2_with fail
  obtain ⟨b1, b2, b3, b4, b5⟩ := box3 w 25 50 25 #[.slice A n c] #[.int .u64 (a : Int)] #[.slice none 0 0]
  generalize hW : ((w.alloc (.cells #[.slice A n c] 25)).alloc (.cells #[.int .u64 (a : Int)] 50)).alloc (.cells #[.slice none 0 0] 25) = W0 at *
  clear hW b2
  refine (HWS.out _ b1).mono ?_
  rintro e w1 ⟨v, rfl, hown, hb⟩
  obtain ⟨A1, c1, rfl, hc1, hc2, _⟩ := Reads.of_grown_own hown
  have hB := keep_below b1 hb
  have ka := keep_blk hb b3
  have kr := keep_blk hb b4
  have hs3 : w.heap.size + 3 ≤ W0.heap.size := b5
  clear hb b1 b3 b4 b5
  go_wp2_with fail
  have hs2 : w.heap.size + 2 < w1.heap.size := kr.lt
  obtain ⟨d1, d2, d3, d4, d5⟩ := box3 w1 22 50 22 #[.slice A1 n c1] #[.int .u64 0] #[.slice A1 n c1]
  refine (backward_made A1 n c1 _).mono ?_
  rintro e w2 ⟨rfl, hw2⟩
  rw [hw2] at d1 d2 d3 d4 d5
  have hB := keep_below hB d1
  have ka := keep_blk d1 ka
  have kr := keep_blk d1 kr
  have hrow : 0 < n → ∃ g, A1 = some ⟨g, 0, none⟩ ∧ W0.heap.size ≤ g ∧ g < w1.heap.size ∧ Row64 w2 50 g c1 n (dg 18446744073709551616 x) := fun h => by
    obtain ⟨g, cap, e, hg, hR⟩ := Row64.of_own hown h
    injection e with e1 _ e3
    subst e1 e3
    exact ⟨g, rfl, hg, hR.lt, by rw [← hw2]; exact ((hR.alloc _).alloc _).alloc _⟩
  clear hw2 d1 hown d5
  have H0 := Lib.hid (show ByI x a n c1 W0.heap.size (w.heap.size + 1) (w.heap.size + 1 + 1) w1.heap.size (w1.heap.size + 1) (w1.heap.size + 1 + 1) A1 w n w2 from ⟨⟨_, 0, HI.out, d3, hrow⟩, ka, kr, d2, d4, hB⟩)
  have hB2 := hB.size
  clear hrow ka kr d2 d3 d4 hB
  go_wp2_with fail
  obtain ⟨gs, hgs⟩ : ∃ g, W0.heap.size = g := ⟨_, rfl⟩
  obtain ⟨z, hz1⟩ : ∃ z, w1.heap.size = z := ⟨_, rfl⟩
  rw [hgs] at H0 hs3
  rw [hz1] at H0 hs2 ⊢
  clear hgs hz1
  refine (wpIn_wide (n := 3)).1 ?_
  refine range_down (gf := 56) (lb := #[.pointer (some ⟨z + 1 + 1, 0, none⟩)]) rfl (enters_of Try.func56 (by kernel_rfl) rfl) n (fun k => #[.int .i64 (k : Int), .int .u64 (wd x k : Int)]) (fun _ => rfl)
    (fun k W => ByI x a n c1 gs (w.heap.size + 1) (w.heap.size + 1 + 1) z (z + 1) (z + 1 + 1) A1 w k W) (fun k => ByI.own hB2 k) H0.out
    (backward_rounds (z + 1 + 1) n c1 A1 (wd x) _ (by omega) (fun k W h => h.seq.cell 0) ?cells)
    (fun k => { tmps := #[.agg #[.slice A n c], .int .u64 (a : Int), .pointer (some ⟨w.heap.size, 0, none⟩), .pointer (some ⟨w.heap.size + 1, 0, none⟩), .pointer (some ⟨w.heap.size + 1 + 1, 0, none⟩), .int .u64 0, .bool false, .pointer (some ⟨z, 0, none⟩), .pointer (some ⟨z + 1, 0, none⟩), .int .i64 (k : Int), .int .u64 (wd x k : Int), .int .u64 (a : Int), .bool false, undef, .agg #[.slice A n c], .slice A1 n c1, .slice A1 n c1, .func (.func 56) #[] #[.pointer (some ⟨z + 1 + 1, 0, none⟩)], .int .i64 (k : Int), .int .u64 (wd x k : Int), undef, undef, undef, undef, undef, undef, undef, undef, undef, undef, undef, undef, undef, undef], defers := [] }) ?assign ?body ?done
  case cells =>
    intro k W hk h
    obtain ⟨L, r, h1, h2, h3⟩ := h.row
    obtain ⟨g, e, _, _, hR⟩ := h3 (by omega)
    refine ⟨_, e, ?_⟩
    rw [add_at, hR.cell k hk, h1.get (by omega)]
  case assign =>
    intro l k W K hK
    gi_wp2
    exact hK
  case body =>
    intro l k W hk h
    have hsq := h.seq
    have habx := h.abox
    have hre := h.res
    have hqb := h.qbox
    have hbl := h.below
    obtain ⟨L, r, h1, h2, h3⟩ := h.row
    obtain ⟨g, rfl, hgg, hgz, hR⟩ := h3 (by omega)
    clear h h3
    have hr := h1.rest
    have hw := wd_lt x k
    have HST := h1.step (s := r * 18446744073709551616 + wd x k) hk rfl ha
    obtain ⟨v, hv⟩ : ∃ v, wd x k = v := ⟨_, rfl⟩
    rw [hv] at hw HST ⊢
    have hDV := fun w => div_nat r v a hr ha hw w
    obtain ⟨t1, ht1⟩ : ∃ t, (r * 18446744073709551616 + v) / a = t := ⟨_, rfl⟩
    obtain ⟨t2, ht2⟩ : ∃ t, (r * 18446744073709551616 + v) % a = t := ⟨_, rfl⟩
    rw [ht1, ht2] at HST
    rw [ht1, ht2] at hDV
    have HS := Lib.hid HST
    have HDV := Lib.hid hDV
    clear HST hDV ht1 ht2 hv h1
    have cq := hqb.cell 0
    have ca := habx.cell 0
    have cr := h2.cell 0
    have fr := h2.frozen 0
    have cg := hR.cell k hk
    have fg := hR.frozen k
    have i1 : (0 : Int) ≤ (k : Int) := by omega
    have i2 : (k : Int) < (n : Int) := by omega
    have crd : W.drew.cell? ⟨z + 1, 0, none⟩ = some (.int .u64 (r : Int)) := cr
    refine wpIn_block ?_
    refine round_region (S := (fun w' => w'.cell? ⟨z, 0, none⟩ = some (.slice (some ⟨g, 0, none⟩) n c1) ∧ w'.cell? ⟨w.heap.size + 1, 0, none⟩ = some (.int .u64 (a : Int)))) (by kernel_rfl) (by kernel_rfl) (fun _ _ h => by cases h.1) ?_ (fun hHeld => ?_)
    · exact ⟨cq, ca⟩
    refine wpAnyH_take (i := 0) (oi := ?_) (v := ?_) (by simp only [List.getElem?_toArray, List.getElem?_cons_succ, List.getElem?_cons_zero]; rfl) (by kernel_rfl) (by kernel_rfl) (by kernel_rfl) (fun _ _ _ h => h) (Or.inl ⟨by rfl, ?_⟩) (by with_reducible assumption) ?_
    rotate_left
    focus ((intro w hSw; (try dsimp only at hSw); go_simp); (try with_reducible rfl))
    try simp only [Act.put, List.setIfInBounds_toArray, List.set_cons_zero, List.set_cons_succ]
    refine wpAnyH_take (i := 1) (oi := ?_) (v := ?_) (by simp only [List.getElem?_toArray, List.getElem?_cons_succ, List.getElem?_cons_zero]; rfl) (by kernel_rfl) (by kernel_rfl) (by kernel_rfl) (fun _ _ _ h => h) (Or.inl ⟨by rfl, ?_⟩) (by with_reducible assumption) ?_
    rotate_left
    focus ((intro w hSw; (try dsimp only at hSw); go_simp); (try with_reducible rfl))
    try simp only [Act.put, List.setIfInBounds_toArray, List.set_cons_zero, List.set_cons_succ]
    refine wpAnyH_take (i := 3) (oi := ?_) (v := ?_) (by simp only [List.getElem?_toArray, List.getElem?_cons_succ, List.getElem?_cons_zero]; rfl) (by kernel_rfl) (by kernel_rfl) (by kernel_rfl) (fun _ _ _ h => h) (Or.inl ⟨by rfl, ?_⟩) (by with_reducible assumption) ?_
    rotate_left
    focus ((intro w hSw; (try dsimp only at hSw); go_simp); (try with_reducible rfl))
    try simp only [Act.put, List.setIfInBounds_toArray, List.set_cons_zero, List.set_cons_succ]
    refine wpAnyH_take (i := 4) (oi := ?_) (v := ?_) (by simp only [List.getElem?_toArray, List.getElem?_cons_succ, List.getElem?_cons_zero]; rfl) (by kernel_rfl) (by kernel_rfl) (by kernel_rfl) (fun _ _ _ h => h) (Or.inl ⟨by rfl, ?_⟩) (by with_reducible assumption) ?_
    rotate_left
    focus ((intro w hSw; (try dsimp only at hSw); go_simp); (try with_reducible rfl))
    try simp only [Act.put, List.setIfInBounds_toArray, List.set_cons_zero, List.set_cons_succ]
    refine wpAnyH_ready (rs := [2]) (by kernel_rfl) (by simp) ?_
    refine AllReadyH.cons (o := ?_) (by simp only [List.getElem?_toArray, List.getElem?_cons_succ, List.getElem?_cons_zero]; rfl) (fun K hK => ?_) AllReadyH.nil
    go_simp
    skip
    refine hK.out _ _ ?_ (fun hHeld => ?_)
    · ((try dsimp only); exact hHeld)
    clear hK K
    try simp only [Act.put, List.setIfInBounds_toArray, List.set_cons_zero, List.set_cons_succ]
    refine wpAnyH_ready (rs := [5]) (by kernel_rfl) (by simp) ?_
    refine AllReadyH.cons (o := ?_) (by simp only [List.getElem?_toArray, List.getElem?_cons_succ, List.getElem?_cons_zero]; rfl) (fun K hK => ?_) AllReadyH.nil
    go_simp
    refine (HDV.out _).mono ?_
    rintro e w' ⟨rfl, nn, rfl⟩
    have fg1 : (W.drew.drewN nn).frozen? ⟨g, k, none⟩ = false := fg
    have cg1 : ∃ u, (W.drew.drewN nn).cell? ⟨g, k, none⟩ = some u := ⟨_, cg⟩
    obtain ⟨u1, cg1⟩ := cg1
    have fr1 : ((W.drew.drewN nn).setCell ⟨g, k, none⟩ (.int .u64 (t1 : Int))).frozen? ⟨z + 1, 0, none⟩ = false := by rw [World.frozen?_setCell]; exact fr
    have cr1 : ((W.drew.drewN nn).setCell ⟨g, k, none⟩ (.int .u64 (t1 : Int))).cell? ⟨z + 1, 0, none⟩ = some (.int .u64 (r : Int)) := keep_cell_set _ (by show z + 1 ≠ g; omega) crd
    refine hK.out _ _ ?_ (fun hHeld => ?_)
    · ((try dsimp only); exact hHeld)
    clear hK K
    try simp only [Act.put, List.setIfInBounds_toArray, List.set_cons_zero, List.set_cons_succ]
    refine wpAnyH_take (i := 6) (oi := ?_) (v := ?_) (by simp only [List.getElem?_toArray, List.getElem?_cons_succ, List.getElem?_cons_zero]; rfl) (by kernel_rfl) (by kernel_rfl) (by kernel_rfl) (fun _ _ _ h => h) (Or.inl ⟨by rfl, ?_⟩) (by with_reducible assumption) ?_
    rotate_left
    focus ((intro w hSw; (try dsimp only at hSw); go_simp); (try with_reducible rfl))
    try simp only [Act.put, List.setIfInBounds_toArray, List.set_cons_zero, List.set_cons_succ]
    refine wpAnyH_take (i := 7) (oi := ?_) (v := ?_) (by simp only [List.getElem?_toArray, List.getElem?_cons_succ, List.getElem?_cons_zero]; rfl) (by kernel_rfl) (by kernel_rfl) (by kernel_rfl) (fun _ _ _ h => h) (Or.inl ⟨by rfl, ?_⟩) (by with_reducible assumption) ?_
    rotate_left
    focus ((intro w hSw; (try dsimp only at hSw); go_simp); (try with_reducible rfl))
    try simp only [Act.put, List.setIfInBounds_toArray, List.set_cons_zero, List.set_cons_succ]
    refine wpAnyH_take (i := 8) (oi := ?_) (v := ?_) (by simp only [List.getElem?_toArray, List.getElem?_cons_succ, List.getElem?_cons_zero]; rfl) (by kernel_rfl) (by kernel_rfl) (by kernel_rfl) (fun _ _ _ h => h) (Or.inl ⟨by rfl, ?_⟩) (by with_reducible assumption) ?_
    rotate_left
    focus ((intro w hSw; (try dsimp only at hSw); go_simp); (try with_reducible rfl))
    try simp only [Act.put, List.setIfInBounds_toArray, List.set_cons_zero, List.set_cons_succ]
    refine wpAnyH_take (i := 9) (oi := ?_) (v := ?_) (by simp only [List.getElem?_toArray, List.getElem?_cons_succ, List.getElem?_cons_zero]; rfl) (by kernel_rfl) (by kernel_rfl) (by kernel_rfl) (fun _ _ _ h => h) (Or.inl ⟨by rfl, ?_⟩) (by with_reducible assumption) ?_
    rotate_left
    focus ((intro w hSw; (try dsimp only at hSw); go_simp); (try with_reducible rfl))
    try simp only [Act.put, List.setIfInBounds_toArray, List.set_cons_zero, List.set_cons_succ]
    refine wpAnyH_take (i := 10) (oi := ?_) (v := ?_) (by simp only [List.getElem?_toArray, List.getElem?_cons_succ, List.getElem?_cons_zero]; rfl) (by kernel_rfl) (by kernel_rfl) (by kernel_rfl) (fun _ _ _ h => h) (Or.inl ⟨by rfl, ?_⟩) (by with_reducible assumption) ?_
    rotate_left
    focus ((intro w hSw; (try dsimp only at hSw); go_simp); (try with_reducible rfl))
    try simp only [Act.put, List.setIfInBounds_toArray, List.set_cons_zero, List.set_cons_succ]
    refine wpAnyH_ready (rs := [11]) (by kernel_rfl) (by simp) ?_
    refine AllReadyH.cons (o := ?_) (by simp only [List.getElem?_toArray, List.getElem?_cons_succ, List.getElem?_cons_zero]; rfl) (fun K hK => ?_) AllReadyH.nil
    go_simp
    skip
    refine hK.out _ _ ?_ (fun hHeld => ?_)
    · ((try dsimp only); exact ⟨keep_cell_set _ (by show z ≠ g; omega) hHeld.1, keep_cell_set _ (by show w.heap.size + 1 ≠ g; omega) hHeld.2⟩)
    clear hK K
    try simp only [Act.put, List.setIfInBounds_toArray, List.set_cons_zero, List.set_cons_succ]
    refine wpAnyH_ready (rs := [12]) (by kernel_rfl) (by simp) ?_
    refine AllReadyH.cons (o := ?_) (by simp only [List.getElem?_toArray, List.getElem?_cons_succ, List.getElem?_cons_zero]; rfl) (fun K hK => ?_) AllReadyH.nil
    go_simp
    skip
    refine hK.out _ _ ?_ (fun hHeld => ?_)
    · ((try dsimp only); exact ⟨keep_cell_set _ (by show z ≠ z + 1; omega) hHeld.1, keep_cell_set _ (by show w.heap.size + 1 ≠ z + 1; omega) hHeld.2⟩)
    clear hK K
    try simp only [Act.put, List.setIfInBounds_toArray, List.set_cons_zero, List.set_cons_succ]
    refine wpAnyH_done (by kernel_rfl) ?_ _
    refine ⟨rfl, (KeepsOthers.trans (show KeepsOthers W (W.drewN (1 + nn)) from ⟨Nat.le_refl _, fun _ _ h _ => h⟩) (KeepsOthers.setCell _ _ _)).trans (KeepsOthers.setCell _ _ _), ?_⟩
    have hbl2 : Below w.heap.size w (W.drewN (1 + nn)) := ⟨hbl.os, hbl.tape, hbl.output, hbl.size, hbl.block⟩
    have h3 : Blk (((W.drewN (1 + nn)).setCell ⟨g, k, none⟩ (.int .u64 (t1 : Int))).setCell ⟨z + 1, 0, none⟩ (.int .u64 (t2 : Int))) (z + 1) 50 #[.int .u64 (t2 : Int)] := ((h2.drewN (1 + nn)).far (p := ⟨g, k, none⟩) (by show z + 1 ≠ g; omega) _).set_ 0 _
    have hR2 : Row64 (W.drewN (1 + nn)) 50 g c1 n L := hR
    exact ⟨⟨_, t2, HS.out, h3, fun _ => ⟨g, rfl, hgg, hgz, (hR2.set_ k t1 hk).far (p := ⟨z + 1, 0, none⟩) (by show g ≠ z + 1; omega) _⟩⟩,
      ((habx.drewN (1 + nn)).far (p := ⟨g, k, none⟩) (by show w.heap.size + 1 ≠ g; omega) _).far (p := ⟨z + 1, 0, none⟩) (by show w.heap.size + 1 ≠ z + 1; omega) _,
      ((hre.drewN (1 + nn)).far (p := ⟨g, k, none⟩) (by show w.heap.size + 1 + 1 ≠ g; omega) _).far (p := ⟨z + 1, 0, none⟩) (by show w.heap.size + 1 + 1 ≠ z + 1; omega) _,
      ((hqb.drewN (1 + nn)).far (p := ⟨g, k, none⟩) (by show z ≠ g; omega) _).far (p := ⟨z + 1, 0, none⟩) (by show z ≠ z + 1; omega) _,
      ((hsq.drewN (1 + nn)).far (p := ⟨g, k, none⟩) (by show z + 1 + 1 ≠ g; omega) _).far (p := ⟨z + 1, 0, none⟩) (by show z + 1 + 1 ≠ z + 1; omega) _,
      (hbl2.setCell (p := ⟨g, k, none⟩) (by show w.heap.size ≤ g; omega) _).setCell (p := ⟨z + 1, 0, none⟩) (by show w.heap.size ≤ z + 1; omega) _⟩
  case done =>
    intro D W hD h hK
    have hbl := h.below
    have hre := h.res
    have cq : W.cell? ⟨z, 0, none⟩ = some (.slice A1 n c1) := h.qbox.cell 0
    obtain ⟨L, r, h1, h2, h3⟩ := h.row
    obtain ⟨hq, hr⟩ := h1.done
    have cr : W.cell? ⟨z + 1, 0, none⟩ = some (.int .u64 (r : Int)) := h2.cell 0
    have hread : Reads W.drew W.drew.heap.size 1 A1 n (vals .u64 L) := by
      rcases Nat.eq_zero_or_pos n with e | e
      · subst e
        have hl := h1.len
        rw [List.eq_nil_of_length_eq_zero hl]
        exact ⟨rfl, fun h => absurd h (by omega)⟩
      · obtain ⟨g, rfl, _, _, hR⟩ := h3 e
        exact hR.drew.reads
    have HO := nat_of A1 n c1 L W.drew hread h1.dgs hc1 (by unfold maxLen at hc2; omega) (by omega)
    rw [hq] at HO
    rw [hr] at h2 cr
    obtain ⟨xq, hxq⟩ : ∃ q, x / a = q := ⟨_, rfl⟩
    obtain ⟨xr, hxr⟩ : ∃ q, x % a = q := ⟨_, rfl⟩
    rw [hxq] at HO
    rw [hxr] at cr
    have HXQ := Lib.hid hxq
    have HXR := Lib.hid hxr
    have HOH := Lib.hid HO
    have HKH := Lib.hid hK
    clear h h1 h2 h3 hq hr HO hread hxq hxr HWS HI H0 hK
    go_wp2_with fail
    go_region_held3 (fun w' => w'.cell? ⟨z, 0, none⟩ = some (.slice A1 n c1) ∧ w'.cell? ⟨z + 1, 0, none⟩ = some (.int .u64 (xr : Int)))
      (first | (exact ⟨cq, cr⟩) | (go_split_ands; (repeat' apply And.intro); all_goals (first | with_reducible assumption | exact keep_cell hb (by with_reducible assumption) | exact keep_cell_set _ (by simp; omega) (by with_reducible assumption))))
      (first | (go_at_call 10; (with_reducible refine HOH.out.mono ?_); rintro e w' ⟨A3, n3, c3, rfl, hw, hb, hf⟩; have hre2 := keep_blk hb hre.drew; have f1 := hre2.frozen 0; have f2 := hre2.cell 0))
    have hlt : D < W.heap.size := (Array.getElem?_eq_some_iff.1 HKH.out).1
    have k1 : w'.heap[D]? = some (.deferred (some [])) := (hb.block D hlt).trans HKH.out
    have hq1 := hre.lt
    have hc4 := World.cell?_setCell_same' w' ⟨w.heap.size + 1 + 1, 0, none⟩ (.slice A3 n3 c3) (by rw [f2]; rfl)
    have hK' := (KeepsOthers.setCell w' ⟨w.heap.size + 1 + 1, 0, none⟩ (.slice A3 n3 c3)).same D _ k1 rfl
    have hc5 := cell_kept hc4 (grownBy_putObj' _ D (.deferred none)) (fun r e => by cases e; exact ⟨_, hK', rfl⟩)
    have hb2 : Below w.heap.size w w' := hbl.trans ((show Below W.heap.size W w' from ⟨hb.os, hb.tape, hb.output, hb.size, hb.block⟩).mono hbl.size)
    have HG : Hid (GivesQF w (x / a) (x % a) true (.returned (.tuple #[.agg #[.slice A3 n3 c3], .int .u64 (xr : Int), .bool true])) ((w'.setCell ⟨w.heap.size + 1 + 1, 0, none⟩ (.slice A3 n3 c3)).putObj D (.deferred none))) :=
      ⟨A3, n3, c3, by rw [HXR.out], by rw [HXQ.out]; exact words_put (words_set hw (fun ad e => by have h1 : W.heap.size ≤ ad.block := hf ad e; show ad.block ≠ w.heap.size + 1 + 1; omega) _) hK' rfl _,
        (hb2.setCell (p := ⟨w.heap.size + 1 + 1, 0, none⟩) (by show w.heap.size ≤ w.heap.size + 1 + 1; omega) _).trans (belowK_b (w := w) (Nat.le_refl _) _ D _ _ (by omega) hK' rfl rfl), fun ad e => by have h1 : W.heap.size ≤ ad.block := hf ad e; have h2 := hbl.size; omega⟩
    clear hb hw hf hre2 f1 f2 hb2 k1 hc4 cq cr
    go_wp2
    refine ⟨by simp, .inl ⟨_, _, rfl, run_takeDeferred hK', ?_⟩⟩
    exact ⟨.tuple #[.agg #[.slice A3 n3 c3], .int .u64 (xr : Int), .bool true], by simp [results, Try.f32, go_sem, hc5], HG.out⟩
theorem quot_byword (x a : Nat) (A : Option Addr) (n c : Nat) (w : World) (hA : WordsIn w x A n c) (hn : n ≤ 274877906944) (ha : a < 18446744073709551616) (ha0 : a ≠ 0) :
    Calls Try.prog 32 #[.agg #[.slice A n c], .int .u64 (a : Int)] w (GivesQX w (x / a) (x % a) true) :=
  (quot_byword_new x a A n c w hA hn ha ha0).mono fun _ _ ⟨A3, n3, c3, h1, h2, h3, _⟩ => ⟨A3, n3, c3, h1, h2, h3⟩
end Go.Proofs.Ytnnhcicdildfaaa
