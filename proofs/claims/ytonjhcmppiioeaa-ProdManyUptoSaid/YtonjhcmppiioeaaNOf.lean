/-
  The contracts of nat.Of and nat.Nat's Words. Conditions: the words read; their length is up to 2 to the 40.
-/
import Derived.Test.YtonjhcmppiioeaaRows
import Derived.Test.YtonjhcmppiioeaaNTrim
import Derived.Test.YtonjhcmppiioeaaNClone
import Derived.Test.YtonjhcmppiioeaaNLook
import Derived.WalkKit
import Derived.Lib.Hide
import Derived.Outline
namespace Go.Proofs.Ytonjhcmppiioeaa
open Go Go.RowKit
set_option maxRecDepth 100000
set_option linter.unusedVariables false
/-- An address of memory that is new behind w. -/
def Fresh (w : World) (A : Option Addr) : Prop := ∀ ad, A = some ad → w.heap.size ≤ ad.block
theorem Fresh.none_ (w : World) : Fresh w none := fun _ e => by cases e
theorem Fresh.from_ {w w1 : World} {A : Option Addr} (h : Fresh w1 A) (hb : Below w.heap.size w w1) : Fresh w A := fun ad e => Nat.le_trans hb.size (h ad e)
/-- What makes a number says: its words, in new memory. -/
def GivesN2 (w : World) (x : Nat) (e : Ending) (w' : World) : Prop := ∃ (A : Option Addr) (n c : Nat), e = .returned (.agg #[.slice A n c]) ∧ WordsIn w' x A n c ∧ Below w.heap.size w w' ∧ Fresh w A
theorem GivesN2.from_ {w w1 w' : World} {x : Nat} {e : Ending} (h : GivesN2 w1 x e w') (hb : Below w.heap.size w w1) : GivesN2 w x e w' := by
  obtain ⟨A, n, c, he, hn, h3, h4⟩ := h
  exact ⟨A, n, c, he, hn, hb.trans (h3.mono hb.size), h4.from_ hb⟩
/-- The number, laid into a result cell that is not its memory. -/
theorem words_set {w : World} {A : Option Addr} {n c x : Nat} (h : WordsIn w x A n c) {p : Addr} (hp : ∀ ad, A = some ad → ad.block ≠ p.block) (u : Value) : WordsIn (w.setCell p u) x A n c := by
  obtain ⟨hr, h1, h2⟩ := h
  refine ⟨⟨hr.1, fun hn => ?_⟩, h1, h2⟩
  obtain ⟨ad, e, hb, hc⟩ := hr.2 hn
  refine ⟨ad, e, by simpa using hb, fun j v hv => ?_⟩
  refine (World.cell?_setCell_other w p _ u (fun e2 => hp ad e ?_)).trans (hc j v hv)
  have := congrArg Addr.block e2
  rw [block_of_add] at this
  first | exact this | exact this.symm
theorem done_set {w w2 : World} {x n c : Nat} {A : Option Addr} (h : WordsIn w2 x A n c) (hb : Below w.heap.size w w2) {p : Addr} (hp : w.heap.size ≤ p.block) (hA : ∀ ad, A = some ad → ad.block ≠ p.block) (hf : Fresh w A) (u : Value) : GivesN2 w x (.returned (.agg #[.slice A n c])) (w2.setCell p u) :=
  ⟨A, n, c, rfl, words_set h hA u, hb.setCell hp u, hf⟩
set_option maxHeartbeats 1000000 in
theorem nat_of (A : Option Addr) (n c : Nat) (l : List Nat) (w : World) (hA : Reads w w.heap.size 1 A n (vals .u64 l)) (hl : Dgs 18446744073709551616 l) (hc : n ≤ c) (hc' : c ≤ 9223372036854775807) (hn : n ≤ 1099511627776) :
    Calls Try.prog 12 #[.slice A n c] w (GivesN2 w (dv 18446744073709551616 l)) := by
  have hlen : (dg 18446744073709551616 (dv 18446744073709551616 l)).length ≤ 1099511627776 := by
    have h1 := dg_len_le (b := 18446744073709551616) (by decide) _ _ (dv_lt hl)
    have := hA.len_
    omega
  obtain ⟨x, hx⟩ : ∃ x, dv 18446744073709551616 l = x := ⟨_, rfl⟩
  have T : ∀ o, Hid (Calls Try.prog 34 #[.slice A n c] (w.alloc o) (TrimR (w.alloc o) w.heap.size A x)) := fun o => by
    have := nat_trim A n c w.heap.size l (w.alloc o) (hA.alloc (Nat.le_refl _) o) hl hc hc' hn
    rw [hx] at this
    exact this
  have HT := Lib.hid T
  rw [hx] at hlen ⊢
  clear T hA hx
  go_enter Try.func12, Try.ntmps12
  go_wp2_with fail
  refine (HT.out _).out.mono ?_
  rintro e w1 ⟨A1, c1, rfl, hr1, h1, h2, _, rfl⟩
  obtain ⟨L, hL⟩ : ∃ L, dg 18446744073709551616 x = L := ⟨_, rfl⟩
  rw [hL] at hr1 h1 hlen
  have HL := Lib.hid hL
  have hr2 := hr1.more (B' := (w.alloc (.cells #[.slice none 0 0] 29)).heap.size) (by simp)
  have C := nat_clone A1 L.length c1 L _ hr2 hlen
  have HC := Lib.hid C
  rw [hL]
  clear C hr1 hr2 h1 h2 hL
  go_wp2_with fail
  refine HC.out.mono ?_
  rintro e w2 ⟨A2, c2, rfl, hr3, h3, ⟨h4, hfr⟩, hb2⟩
  have hf : w2.frozen? ⟨w.heap.size, 0, none⟩ = false := by
    rw [hb2.frozen (p := ⟨w.heap.size, 0, none⟩) (by simp)]
    exact (Blk.new w _ _).frozen 0
  have hcell : w2.cell? ⟨w.heap.size, 0, none⟩ = some (.slice none 0 0) := by
    rw [hb2.cell (p := ⟨w.heap.size, 0, none⟩) (by simp)]
    exact (Blk.new w _ _).cell 0
  have G : Hid (GivesN2 w x (.returned (.agg #[.slice A2 L.length c2])) (w2.setCell ⟨w.heap.size, 0, none⟩ (.slice A2 L.length c2))) :=
    done_set ⟨by rw [HL.out]; exact hr3, h3, h4⟩ (((Below.refl _ w).alloc (Nat.le_refl _) _).trans (hb2.mono (by simp))) (Nat.le_refl _) (fun ad e => by have := hfr ad e; simp at this; show ad.block ≠ w.heap.size; omega) (fun ad e => by have := hfr ad e; simp at this; omega) _
  clear hr3 hfr hb2
  go_wp2
  refine bodyPost_ret (v := .agg #[.slice A2 L.length c2]) (by simp [results, Try.results12, go_sem, hcell]) rfl ?_
  exact G.out
/-- Words: the number's words in new memory. -/
theorem nat_words (x : Nat) (A : Option Addr) (n c : Nat) (w : World) (h : WordsIn w x A n c) (hn : n ≤ 1099511627776) :
    Calls Try.prog 29 #[.agg #[.slice A n c]] w (GivesW w x) := by
  obtain ⟨hr, h1, h2⟩ := h
  have hlen := hr.len_
  have C : ∀ o, Calls Try.prog 33 #[.slice A n c] (w.alloc o) (Gives (w.alloc o) n (vals .u64 (dg 18446744073709551616 x))) := fun o =>
    nat_clone A n c _ (w.alloc o) ((hr.alloc (Nat.le_refl _) o).more (by simp)) hn
  unfold GivesW
  rw [hlen]
  obtain ⟨L, hL⟩ : ∃ L, vals .u64 (dg 18446744073709551616 x) = L := ⟨_, rfl⟩
  rw [hL] at C ⊢
  have HC := Lib.hid C
  clear C hr hlen hL
  go_enter Try.func29, Try.ntmps29
  go_wp2_with fail
  refine (HC.out _).mono ?_
  intro e w1 hg
  have G := Lib.hid (hg.from_ ((Below.refl _ w).alloc (Nat.le_refl _) _))
  obtain ⟨A1, c1, rfl, _, _, _, _⟩ := hg
  go_wp2
  go_ret
  exact G.out
end Go.Proofs.Ytonjhcmppiioeaa
