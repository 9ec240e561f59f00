/-
  The rows of int and uint64 in the table of types. Conditions: none.
  The contract of nat.trim: the words without noughts above, in the very memory. Conditions: the words read; their length is up to 2 to the 40.
  The contract of slices.Clone of words: the same words in new memory. Conditions: the words read; their length is up to 2 to the 40.
  The contracts of what only looks at a number: nat.Nat's Len, Word, Zero. Conditions: the value is a number.
  The contracts of nat.Of and nat.Nat's Words. Conditions: the words read; their length is up to 2 to the 40.
-/
import Derived.Test.YtnfednkphcapnaaRows
import Derived.Test.YtnfednkphcapnaaBunD
import Derived.KernelRfl
import Derived.Below
import Derived.WalkKit
import Derived.Lib.Hide
import Derived.Outline
import Derived.LoopTactic
import Derived.Deep.LoopGhost
import Derived.Lib.SliceRun
namespace Go.Proofs.Ytnfednkphcapnaa
open Go Go.RowKit
theorem infoI : (Try.prog.info? 3).map (fun i => (i.zero, i.size, i.bytes)) = some (some (.int .i64 0), 1, 8) := by kernel_rfl
theorem infoU : (Try.prog.info? 77).map (fun i => (i.zero, i.size, i.bytes)) = some (some (.int .u64 0), 1, 8) := by kernel_rfl
end Go.Proofs.Ytnfednkphcapnaa
namespace Go.Proofs.Ytnfednkphcapnaa
open Go Go.RowKit
set_option maxRecDepth 100000
set_option linter.unusedVariables false
/-- What trim hands back of a slice: the number's words, where they lay. -/
def TrimR (w : World) (B : Nat) (A : Option Addr) (x : Nat) (e : Ending) (w' : World) : Prop :=
  ∃ (A' : Option Addr) (c' : Nat), e = .returned (.slice A' (dg 18446744073709551616 x).length c') ∧ Reads w B 1 A' (dg 18446744073709551616 x).length (vals .u64 (dg 18446744073709551616 x)) ∧ (dg 18446744073709551616 x).length ≤ c' ∧ c' ≤ 9223372036854775807 ∧ (A' = A ∨ A' = none) ∧ w = w'
set_option maxHeartbeats 1000000 in
theorem nat_trim (A : Option Addr) (n c B : Nat) (l : List Nat) (w : World) (hA : Reads w B 1 A n (vals .u64 l)) (hl : Dgs 18446744073709551616 l) (hc : n ≤ c) (hc' : c ≤ 9223372036854775807) (hn : n ≤ 1099511627776) :
    Calls Try.prog 65 #[.slice A n c] w (TrimR w B A (dv 18446744073709551616 l)) := by
  have HL := Lib.hid hA.len_
  go_enter Try.func65, Try.ntmps65
  go_wp2
  go_loop [3] (fun s => ∃ m : Nat, m ≤ n ∧ s = .int .i64 m ∧ Hid (dv 18446744073709551616 (l.take m) = dv 18446744073709551616 l)) (fun s => (intOf s).toNat)
  case atStart => exact ⟨n, Nat.le_refl _, rfl, by show _ = _; rw [List.take_of_length_le (by have := HL.out; omega)]⟩
  case round =>
    obtain ⟨m, hm, rfl, H⟩ := hrel
    by_cases hm0 : m = 0
    · subst hm0
      have G : Hid (TrimR w B A (dv 18446744073709551616 l) (.returned (.slice none 0 0)) w) := by
        have e : dv 18446744073709551616 l = 0 := by have := H.out; simpa [dv] using this.symm
        rw [e]
        exact ⟨none, 0, rfl, Reads.none_, Nat.le_refl _, by omega, .inr rfl, rfl⟩
      go_wp2
      go_ret
      exact G.out
    · obtain ⟨j, rfl⟩ : ∃ j, m = j + 1 := ⟨m - 1, by omega⟩
      have hsrc := hA.take_ hm
      rw [vals_take] at hsrc
      obtain ⟨ad, rfl, hadb, hcell⟩ := val_at hA (k := j) (by omega)
      by_cases hz : l.getD j 0 = 0
      · have HM := Lib.hid ((dv_strike 18446744073709551616 (l := l) (n := j) (by have := HL.out; omega) hz).symm.trans H.out)
        rw [hz] at hcell
        clear hz hsrc
        go_wp2
        go_round
        case rel => exact ⟨j, by omega, by go_num, HM⟩
        case measure => simp only [intOf]; omega
      · have hz' : (((l.getD j 0 : Nat) : Int) == 0) = false := beq_eq_false_iff_ne.2 (by omega)
        have G : Hid (TrimR w B (some ad) (dv 18446744073709551616 l) (.returned (.slice (some ad) (j + 1) c)) w) := by
          have e := dg_trim (by decide) hl (by have := HL.out; omega) H.out (.inr hz)
          have e2 : (dg 18446744073709551616 (dv 18446744073709551616 l)).length = j + 1 := by rw [← e, List.length_take]; have := HL.out; omega
          refine ⟨some ad, c, by rw [e2], ?_, by omega, hc', .inl rfl, rfl⟩
          rw [e2, ← e]
          exact hsrc
        obtain ⟨d, hd⟩ : ∃ d, l.getD j 0 = d := ⟨_, rfl⟩
        rw [hd] at hcell hz'
        clear hz hd hsrc
        go_wp2
        go_ret
        exact G.out
end Go.Proofs.Ytnfednkphcapnaa
namespace Go.Proofs.Ytnfednkphcapnaa
open Go Go.RowKit
set_option maxRecDepth 100000
set_option linter.unusedVariables false
theorem gives_none (w : World) (l : List Nat) (hl : l = []) : Gives w 0 (vals .u64 l) (.returned (.slice none 0 0)) w := by
  subst hl
  exact ⟨none, 0, rfl, Reads.none_, Nat.le_refl _, ⟨by omega, by intro ad e; cases e⟩, Below.refl _ _⟩
/-- Words in a row of the call's own. -/
def GivesOwn (w : World) (n : Nat) (xs : List Value) (e : Ending) (w' : World) : Prop := ∃ v, e = .returned v ∧ w'.ownsRow w.heap.size 77 1 v n xs ∧ Below w.heap.size w w'
set_option maxHeartbeats 1000000 in
theorem nat_clone_own (ad : Addr) (n c : Nat) (l : List Nat) (w : World) (hA : Reads w w.heap.size 1 (some ad) n (vals .u64 l)) (hn : n ≤ 1099511627776) :
    Calls Try.prog 64 #[.slice (some ad) n c] w (GivesOwn w n (vals .u64 l)) := by
  obtain ⟨i0, hi0, hz0, hz1, hz2⟩ := info_parts infoU
  have q : ∀ (w : World) (a : Option Addr) (n c n' c' : Nat), (binOp .eql 22 (.slice a n c) (.slice none n' c')).run Try.prog w = .ok (.bool a.isNone) w := fun w a n c n' c' => Lib.run_eql_slice_nil w _ _ a n c n' c' Try.underlying22
  have hA1 : ∀ o, Reads (w.alloc o) w.heap.size 1 (some ad) n (vals .u64 l) := fun o => hA.alloc (Nat.le_refl _) o
  go_enter Try.func64, Try.ntmps64
  go_wp2_with (at_builtin; refine wpList_append_any _ rfl (.tmp 5) (.tmp 6) 22 rfl w.heap.size 77 i0 (.int .u64 0) 1 8 Try.underlying22 hi0 hz0 hz1 hz2 rfl (by decide) (.slice (some ⟨w.heap.size, 0, none⟩) 0 0) 0 [] rfl (World.ownsRow_made w #[] 0 (Nat.le_refl _) (Nat.zero_le _) rfl) _ (some ad) n c (vals .u64 l) rfl (hA1 _) (vals_one _ _) (by unfold maxLen; omega) (by omega) (by simp) ?_; intro v' w1 hown' hgrow hat)
  have hb' : Below w.heap.size w w1 := ((Below.refl _ w).alloc (Nat.le_refl _) _).grown hgrow (by simp) (fun g hg => by simp [Value.ownBlock] at hg; omega)
  have G : Hid (GivesOwn w n (vals .u64 l) (.returned v') w1) := ⟨v', rfl, by simpa using hown', hb'⟩
  clear hown' hgrow hat hb'
  go_wp2
  go_ret
  exact G.out
theorem nat_clone_nil (c : Nat) (w : World) : Calls Try.prog 64 #[.slice none 0 c] w fun e w' => e = .returned (.slice none 0 0) ∧ w = w' := by
  have q : ∀ (w : World) (a : Option Addr) (n c n' c' : Nat), (binOp .eql 22 (.slice a n c) (.slice none n' c')).run Try.prog w = .ok (.bool a.isNone) w := fun w a n c n' c' => Lib.run_eql_slice_nil w _ _ a n c n' c' Try.underlying22
  go_enter Try.func64, Try.ntmps64
  go_wp2
  go_ret
  exact ⟨rfl, rfl⟩
theorem nat_clone (A : Option Addr) (n c : Nat) (l : List Nat) (w : World) (hA : Reads w w.heap.size 1 A n (vals .u64 l)) (hn : n ≤ 1099511627776) :
    Calls Try.prog 64 #[.slice A n c] w (Gives w n (vals .u64 l)) := by
  rcases A with _ | ad
  · have q : ∀ (w : World) (a : Option Addr) (n c n' c' : Nat), (binOp .eql 22 (.slice a n c) (.slice none n' c')).run Try.prog w = .ok (.bool a.isNone) w := fun w a n c n' c' => Lib.run_eql_slice_nil w _ _ a n c n' c' Try.underlying22
    have hn0 : n = 0 := by
      rcases Nat.eq_zero_or_pos n with h | h
      · exact h
      · obtain ⟨ad, e, _⟩ := hA.2 h
        cases e
    subst hn0
    have G := Lib.hid (gives_none w l (List.eq_nil_of_length_eq_zero hA.len_))
    go_enter Try.func64, Try.ntmps64
    go_wp2
    go_ret
    exact G.out
  · exact (nat_clone_own ad n c l w hA hn).mono fun e w' ⟨v, he, ho, hb⟩ => by rw [he]; exact gives_of_own ho hb
end Go.Proofs.Ytnfednkphcapnaa
namespace Go.Proofs.Ytnfednkphcapnaa
open Go Go.RowKit
set_option maxRecDepth 100000
set_option linter.unusedVariables false
/-- What a number's value is: a slice that reads as the words. -/
def WordsIn (w : World) (x : Nat) (A : Option Addr) (n c : Nat) : Prop := Reads w w.heap.size 1 A n (vals .u64 (dg 18446744073709551616 x)) ∧ n ≤ c ∧ c ≤ 9223372036854775807
theorem WordsIn.len {w : World} {x : Nat} {A : Option Addr} {n c : Nat} (h : WordsIn w x A n c) : (dg 18446744073709551616 x).length = n := h.1.len_
theorem WordsIn.below {w w' : World} {x : Nat} {A : Option Addr} {n c : Nat} (h : WordsIn w x A n c) (hb : Below w.heap.size w w') : WordsIn w' x A n c :=
  ⟨(h.1.below hb).more hb.size, h.2⟩
theorem WordsIn.drewN {w : World} {x : Nat} {A : Option Addr} {n c : Nat} (h : WordsIn w x A n c) (k : Nat) : WordsIn (w.drewN k) x A n c := h
theorem WordsIn.nat {w : World} {x : Nat} {A : Option Addr} {n c : Nat} (h : WordsIn w x A n c) : NatIs w x (.agg #[.slice A n c]) := ⟨A, n, c, rfl, h⟩
theorem NatIs.words {w : World} {x : Nat} {v : Value} (h : NatIs w x v) : ∃ (A : Option Addr) (n c : Nat), v = .agg #[.slice A n c] ∧ WordsIn w x A n c := h
theorem keep_cell {w w' : World} {p : Addr} {v : Value} (hb : Below w.heap.size w w') (h : w.cell? p = some v) : w'.cell? p = some v := (hb.cell (World.block_lt_of_cell? w p h)).trans h
theorem keep_below {w w1 w' : World} (h : Below w.heap.size w w1) (hb : Below w1.heap.size w1 w') : Below w.heap.size w w' := h.trans (hb.mono h.size)
/-- Word k of a number. -/
def wd (x k : Nat) : Nat := x / 18446744073709551616 ^ k % 18446744073709551616
theorem wd_lt (x k : Nat) : wd x k < 18446744073709551616 := Nat.mod_lt _ (by decide)
theorem wd_get (x k : Nat) : (dg 18446744073709551616 x).getD k 0 = wd x k := by rw [dv_getD (by decide) (dg_dgs (by decide) x), dv_dg (by decide)]; rfl
theorem wd_above (x k : Nat) (h : (dg 18446744073709551616 x).length ≤ k) : wd x k = 0 := by
  rw [← wd_get, List.getD_eq_getElem?_getD, List.getElem?_eq_none h]; rfl
theorem nat_len (x : Nat) (A : Option Addr) (n c : Nat) (w : World) : Calls Try.prog 60 #[.agg #[.slice A n c]] w fun e w' => e = .returned (.int .i64 n) ∧ Below w.heap.size w w' := by
  go_enter Try.func60, Try.ntmps60
  go_wp2
  go_ret
  exact ⟨rfl, (Below.refl _ _).alloc (Nat.le_refl _) _⟩
theorem nat_zero (A : Option Addr) (n c : Nat) (w : World) : Calls Try.prog 51 #[.agg #[.slice A n c]] w fun e w' => e = .returned (.bool (decide (n = 0))) ∧ Below w.heap.size w w' := by
  have e : ((n : Int) == 0) = decide (n = 0) := by rw [Bool.eq_iff_iff]; simp
  have E := Lib.hid e
  clear e
  go_enter Try.func51, Try.ntmps51
  go_wp2
  go_ret
  exact ⟨by rw [E.out]; rfl, (Below.refl _ _).alloc (Nat.le_refl _) _⟩
theorem nat_word_out (A : Option Addr) (n c : Nat) (k : Int) (w : World) (hk : k < 0 ∨ (n : Int) ≤ k) : Calls Try.prog 71 #[.agg #[.slice A n c], .int .i64 k] w fun e w' => e = .returned (.int .u64 0) ∧ Below w.heap.size w w' := by
  by_cases h0 : k < 0
  · clear hk
    go_enter Try.func71, Try.ntmps71
    go_wp2
    go_ret
    exact ⟨rfl, (Below.refl _ _).alloc (Nat.le_refl _) _⟩
  · have h1 : (n : Int) ≤ k := by omega
    clear hk
    go_enter Try.func71, Try.ntmps71
    go_wp2
    go_ret
    exact ⟨rfl, (Below.refl _ _).alloc (Nat.le_refl _) _⟩
theorem nat_word (x : Nat) (A : Option Addr) (n c k : Nat) (w : World) (h : WordsIn w x A n c) : Calls Try.prog 71 #[.agg #[.slice A n c], .int .i64 k] w fun e w' => e = .returned (.int .u64 (wd x k : Nat)) ∧ Below w.heap.size w w' := by
  by_cases hk : k < n
  · obtain ⟨hr, h1, h2⟩ := h
    obtain ⟨ad, rfl, hadb, hc⟩ := val_at hr hk
    rw [wd_get] at hc
    obtain ⟨d, hd⟩ : ∃ d, wd x k = d := ⟨_, rfl⟩
    rw [hd] at hc ⊢
    have hc' : ∀ o, (w.alloc o).cell? (ad.add k) = some (.int .u64 d) := fun o => (World.cell?_alloc_lt w o _ (by rw [block_of_add]; exact hadb)).trans hc
    clear hd hr
    go_enter Try.func71, Try.ntmps71
    go_wp2
    go_ret
    exact ⟨rfl, (Below.refl _ _).alloc (Nat.le_refl _) _⟩
  · rw [wd_above x k (by rw [h.len]; omega)]
    exact nat_word_out A n c k w (.inr (by omega))
end Go.Proofs.Ytnfednkphcapnaa
namespace Go.Proofs.Ytnfednkphcapnaa
open Go Go.RowKit
set_option maxRecDepth 100000
set_option linter.unusedVariables false
/-- An address of memory that is new behind w. -/
def Fresh (w : World) (A : Option Addr) : Prop := ∀ ad, A = some ad → w.heap.size ≤ ad.block
theorem Fresh.none_ (w : World) : Fresh w none := fun _ e => by cases e
theorem Fresh.from_ {w w1 : World} {A : Option Addr} (h : Fresh w1 A) (hb : Below w.heap.size w w1) : Fresh w A := fun ad e => Nat.le_trans hb.size (h ad e)
/-- What makes a number says: its words, in new memory. -/
def GivesN2 (w : World) (x : Nat) (e : Ending) (w' : World) : Prop := ∃ (A : Option Addr) (n c : Nat), e = .returned (.agg #[.slice A n c]) ∧ WordsIn w' x A n c ∧ Below w.heap.size w w' ∧ Fresh w A
theorem GivesN2.from_ {w w1 w' : World} {x : Nat} {e : Ending} (h : GivesN2 w1 x e w') (hb : Below w.heap.size w w1) : GivesN2 w x e w' := by
  obtain ⟨A, n, c, he, hn, h3, h4⟩ := h
  exact ⟨A, n, c, he, hn, hb.trans (h3.mono hb.size), h4.from_ hb⟩
/-- The number, laid into a result cell that is not its memory. -/
theorem words_set {w : World} {A : Option Addr} {n c x : Nat} (h : WordsIn w x A n c) {p : Addr} (hp : ∀ ad, A = some ad → ad.block ≠ p.block) (u : Value) : WordsIn (w.setCell p u) x A n c := by
  obtain ⟨hr, h1, h2⟩ := h
  refine ⟨⟨hr.1, fun hn => ?_⟩, h1, h2⟩
  obtain ⟨ad, e, hb, hc⟩ := hr.2 hn
  refine ⟨ad, e, by simpa using hb, fun j v hv => ?_⟩
  refine (World.cell?_setCell_other w p _ u (fun e2 => hp ad e ?_)).trans (hc j v hv)
  have := congrArg Addr.block e2
  rw [block_of_add] at this
  first | exact this | exact this.symm
theorem done_set {w w2 : World} {x n c : Nat} {A : Option Addr} (h : WordsIn w2 x A n c) (hb : Below w.heap.size w w2) {p : Addr} (hp : w.heap.size ≤ p.block) (hA : ∀ ad, A = some ad → ad.block ≠ p.block) (hf : Fresh w A) (u : Value) : GivesN2 w x (.returned (.agg #[.slice A n c])) (w2.setCell p u) :=
  ⟨A, n, c, rfl, words_set h hA u, hb.setCell hp u, hf⟩
set_option maxHeartbeats 1000000 in
theorem nat_of (A : Option Addr) (n c : Nat) (l : List Nat) (w : World) (hA : Reads w w.heap.size 1 A n (vals .u64 l)) (hl : Dgs 18446744073709551616 l) (hc : n ≤ c) (hc' : c ≤ 9223372036854775807) (hn : n ≤ 1099511627776) :
    Calls Try.prog 38 #[.slice A n c] w (GivesN2 w (dv 18446744073709551616 l)) := by
  have hlen : (dg 18446744073709551616 (dv 18446744073709551616 l)).length ≤ 1099511627776 := by
    have h1 := dg_len_le (b := 18446744073709551616) (by decide) _ _ (dv_lt hl)
    have := hA.len_
    omega
  obtain ⟨x, hx⟩ : ∃ x, dv 18446744073709551616 l = x := ⟨_, rfl⟩
  have T : ∀ o, Hid (Calls Try.prog 65 #[.slice A n c] (w.alloc o) (TrimR (w.alloc o) w.heap.size A x)) := fun o => by
    have := nat_trim A n c w.heap.size l (w.alloc o) (hA.alloc (Nat.le_refl _) o) hl hc hc' hn
    rw [hx] at this
    exact this
  have HT := Lib.hid T
  rw [hx] at hlen ⊢
  clear T hA hx
  go_enter Try.func38, Try.ntmps38
  go_wp2_with fail
  refine (HT.out _).out.mono ?_
  rintro e w1 ⟨A1, c1, rfl, hr1, h1, h2, _, rfl⟩
  obtain ⟨L, hL⟩ : ∃ L, dg 18446744073709551616 x = L := ⟨_, rfl⟩
  rw [hL] at hr1 h1 hlen
  have HL := Lib.hid hL
  have hr2 := hr1.more (B' := (w.alloc (.cells #[.slice none 0 0] 27)).heap.size) (by simp)
  have C := nat_clone A1 L.length c1 L _ hr2 hlen
  have HC := Lib.hid C
  rw [hL]
  clear C hr1 hr2 h1 h2 hL
  go_wp2_with fail
  refine HC.out.mono ?_
  rintro e w2 ⟨A2, c2, rfl, hr3, h3, ⟨h4, hfr⟩, hb2⟩
  have hf : w2.frozen? ⟨w.heap.size, 0, none⟩ = false := by
    rw [hb2.frozen (p := ⟨w.heap.size, 0, none⟩) (by simp)]
    exact (Blk.new w _ _).frozen 0
  have hcell : w2.cell? ⟨w.heap.size, 0, none⟩ = some (.slice none 0 0) := by
    rw [hb2.cell (p := ⟨w.heap.size, 0, none⟩) (by simp)]
    exact (Blk.new w _ _).cell 0
  have G : Hid (GivesN2 w x (.returned (.agg #[.slice A2 L.length c2])) (w2.setCell ⟨w.heap.size, 0, none⟩ (.slice A2 L.length c2))) :=
    done_set ⟨by rw [HL.out]; exact hr3, h3, h4⟩ (((Below.refl _ w).alloc (Nat.le_refl _) _).trans (hb2.mono (by simp))) (Nat.le_refl _) (fun ad e => by have := hfr ad e; simp at this; show ad.block ≠ w.heap.size; omega) (fun ad e => by have := hfr ad e; simp at this; omega) _
  clear hr3 hfr hb2
  go_wp2
  refine bodyPost_ret (v := .agg #[.slice A2 L.length c2]) (by simp [results, Try.results38, go_sem, hcell]) rfl ?_
  exact G.out
/-- Words: the number's words in new memory. -/
theorem nat_words (x : Nat) (A : Option Addr) (n c : Nat) (w : World) (h : WordsIn w x A n c) (hn : n ≤ 1099511627776) :
    Calls Try.prog 68 #[.agg #[.slice A n c]] w (GivesW w x) := by
  obtain ⟨hr, h1, h2⟩ := h
  have hlen := hr.len_
  have C : ∀ o, Calls Try.prog 64 #[.slice A n c] (w.alloc o) (Gives (w.alloc o) n (vals .u64 (dg 18446744073709551616 x))) := fun o =>
    nat_clone A n c _ (w.alloc o) ((hr.alloc (Nat.le_refl _) o).more (by simp)) hn
  unfold GivesW
  rw [hlen]
  obtain ⟨L, hL⟩ : ∃ L, vals .u64 (dg 18446744073709551616 x) = L := ⟨_, rfl⟩
  rw [hL] at C ⊢
  have HC := Lib.hid C
  clear C hr hlen hL
  go_enter Try.func68, Try.ntmps68
  go_wp2_with fail
  refine (HC.out _).mono ?_
  intro e w1 hg
  have G := Lib.hid (hg.from_ ((Below.refl _ w).alloc (Nat.le_refl _) _))
  obtain ⟨A1, c1, rfl, _, _, _, _⟩ := hg
  go_wp2
  go_ret
  exact G.out
end Go.Proofs.Ytnfednkphcapnaa
