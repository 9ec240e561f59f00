/-
  What the laws on whole numbers lean on of package integer, as one bundle: to be shown of the developers' functions. Conditions: as each says; T: what a world must give besides (a table's fact, or nothing).
  The contracts of the law's own Make and is (actuarylaw07). Conditions: integer's functions do as IntC says; the words that came in are at most 1048576.
  A region that draws its order, by what holds between its operations, whichever have come up: the ways meet again. Conditions: as each says.
  What the walks of stage 7 share: sizes of whole numbers, answers that are known. Conditions: as each says.
  The contract of the law's awake (actuarylaw07). Conditions: integer's functions do as IntC says.
-/
import Derived.Test.YtnfednkphcapnaaRows
import Derived.Test.YtnfednkphcapnaaP4C
import Derived.Test.YtnfednkphcapnaaNNums
import Derived.Test.YtnfednkphcapnaaBunF
import Derived.Test.YtnfednkphcapnaaBunC
import Derived.Test.YtnfednkphcapnaaBunZ
import Derived.Test.YtnfednkphcapnaaBunN
import Derived.Test.YtnfednkphcapnaaBunW
import Derived.Test.YtnfednkphcapnaaBunD
import Derived.WalkKit
import Derived.Lib.Hide
import Derived.Outline
import Derived.IntWalk
import Derived.Deep.RegionHeld3
import Derived.Below
import Derived.OrdersHeld
import Derived.Deep.RegionHeld
import Derived.RegionTactic
namespace Go.Proofs.Ytnfednkphcapnaa
open Go Go.RowKit
set_option linter.unusedVariables false
/-- A whole number's value: whether it is below 0, and the number without its sign. -/
def IntIn (w : World) (z : Int) (b : Bool) (A : Option Addr) (n c : Nat) : Prop := b = decide (z < 0) ∧ WordsIn w z.natAbs A n c
theorem IntIn.below {w w' : World} {z : Int} {b : Bool} {A : Option Addr} {n c : Nat} (h : IntIn w z b A n c) (hb : Below w.heap.size w w') : IntIn w' z b A n c := ⟨h.1, h.2.below hb⟩
theorem IntIn.words {w : World} {z : Int} {b : Bool} {A : Option Addr} {n c : Nat} (h : IntIn w z b A n c) : WordsIn w z.natAbs A n c := h.2
/-- What makes a whole number gives. -/
def GivesI (w : World) (z : Int) (e : Ending) (w' : World) : Prop := ∃ (b : Bool) (A : Option Addr) (n c : Nat), e = .returned (.agg #[.bool b, .slice A n c]) ∧ IntIn w' z b A n c ∧ Below w.heap.size w w'
/-- What makes a whole number, and tells whether there is one. -/
def GivesIB (w : World) (z : Int) (t : Bool) (e : Ending) (w' : World) : Prop := ∃ (b : Bool) (A : Option Addr) (n c : Nat), e = .returned (.tuple #[.agg #[.bool b, .slice A n c], .bool t]) ∧ IntIn w' z b A n c ∧ Below w.heap.size w w'
/-- What makes two, and tells whether there are any. -/
def GivesII (w : World) (q r : Int) (t : Bool) (e : Ending) (w' : World) : Prop := ∃ (b : Bool) (A : Option Addr) (n c : Nat) (b' : Bool) (B : Option Addr) (m d : Nat), e = .returned (.tuple #[.agg #[.bool b, .slice A n c], .agg #[.bool b', .slice B m d], .bool t]) ∧ IntIn w' q b A n c ∧ IntIn w' r b' B m d ∧ Below w.heap.size w w'
/-- A number, new or not. -/
def GivesNN (w : World) (x : Nat) (e : Ending) (w' : World) : Prop := ∃ (A : Option Addr) (n c : Nat), e = .returned (.agg #[.slice A n c]) ∧ WordsIn w' x A n c ∧ Below w.heap.size w w'
/-- Is it an int? -/
def fitsI (z : Int) : Bool := decide (-9223372036854775808 ≤ z) && decide (z ≤ 9223372036854775807)
/-- What integer's functions do, over numbers of up to 2 to the 24 words, and texts of up to 2 to the 31. -/
structure IntC (T : World → Prop) : Prop where
  new : ∀ (s : Bool) (x : Nat) (A : Option Addr) (n c : Nat) (w : World), T w → WordsIn w x A n c → n ≤ 16777216 → Calls Try.prog 37 #[.bool s, .agg #[.slice A n c]] w (GivesI w (if s then -(x : Int) else (x : Int)))
  of : ∀ (z : Int) (w : World), T w → -9223372036854775808 ≤ z → z ≤ 9223372036854775807 → Calls Try.prog 32 #[.int .i64 z] w (GivesI w z)
  belowI : ∀ (z : Int) (b : Bool) (A : Option Addr) (n c : Nat) (w : World), T w → IntIn w z b A n c → n ≤ 16777216 → Calls Try.prog 40 #[.agg #[.bool b, .slice A n c]] w fun e w' => e = .returned (.bool (decide (z < 0))) ∧ Below w.heap.size w w'
  abs : ∀ (z : Int) (b : Bool) (A : Option Addr) (n c : Nat) (w : World), T w → IntIn w z b A n c → n ≤ 16777216 → Calls Try.prog 35 #[.agg #[.bool b, .slice A n c]] w (GivesNN w z.natAbs)
  sign : ∀ (z : Int) (b : Bool) (A : Option Addr) (n c : Nat) (w : World), T w → IntIn w z b A n c → n ≤ 16777216 → Calls Try.prog 25 #[.agg #[.bool b, .slice A n c]] w (SaysI w (sgnZ z))
  int : ∀ (z : Int) (b : Bool) (A : Option Addr) (n c : Nat) (w : World), T w → IntIn w z b A n c → n ≤ 16777216 → Calls Try.prog 36 #[.agg #[.bool b, .slice A n c]] w fun e w' => e = .returned (.tuple #[.int .i64 (if fitsI z then z else 0), .bool (fitsI z)]) ∧ Below w.heap.size w w'
  neg : ∀ (z : Int) (b : Bool) (A : Option Addr) (n c : Nat) (w : World), T w → IntIn w z b A n c → n ≤ 16777216 → Calls Try.prog 15 #[.agg #[.bool b, .slice A n c]] w (GivesI w (-z))
  text : ∀ (z : Int) (b : Bool) (A : Option Addr) (n c : Nat) (w : World), T w → IntIn w z b A n c → n ≤ 16777216 → Calls Try.prog 30 #[.agg #[.bool b, .slice A n c]] w fun e w' => e = .returned (.string (strS (textI z))) ∧ Below w.heap.size w w'
  cmp : ∀ (x y : Int) (b b' : Bool) (A D : Option Addr) (n m c d : Nat) (w : World), T w → IntIn w x b A n c → IntIn w y b' D m d → n ≤ 16777216 → m ≤ 16777216 → Calls Try.prog 22 #[.agg #[.bool b, .slice A n c], .agg #[.bool b', .slice D m d]] w (SaysI w (cmpZ x y))
  add : ∀ (x y : Int) (b b' : Bool) (A D : Option Addr) (n m c d : Nat) (w : World), T w → IntIn w x b A n c → IntIn w y b' D m d → n ≤ 16777216 → m ≤ 16777216 → Calls Try.prog 17 #[.agg #[.bool b, .slice A n c], .agg #[.bool b', .slice D m d]] w (GivesI w (x + y))
  sub : ∀ (x y : Int) (b b' : Bool) (A D : Option Addr) (n m c d : Nat) (w : World), T w → IntIn w x b A n c → IntIn w y b' D m d → n ≤ 16777216 → m ≤ 16777216 → Calls Try.prog 19 #[.agg #[.bool b, .slice A n c], .agg #[.bool b', .slice D m d]] w (GivesI w (x - y))
  mul : ∀ (x y : Int) (b b' : Bool) (A D : Option Addr) (n m c d : Nat) (w : World), T w → IntIn w x b A n c → IntIn w y b' D m d → n ≤ 16777216 → m ≤ 16777216 → Calls Try.prog 20 #[.agg #[.bool b, .slice A n c], .agg #[.bool b', .slice D m d]] w (GivesI w (x * y))
  div : ∀ (x y : Int) (b b' : Bool) (A D : Option Addr) (n m c d : Nat) (w : World), T w → IntIn w x b A n c → IntIn w y b' D m d → n ≤ 16777216 → m ≤ 16777216 → y ≠ 0 → Calls Try.prog 24 #[.agg #[.bool b, .slice A n c], .agg #[.bool b', .slice D m d]] w (GivesII w (qI x y) (rI x y) true)
  divNo : ∀ (x y : Int) (b b' : Bool) (A D : Option Addr) (n m c d : Nat) (w : World), T w → IntIn w x b A n c → IntIn w y b' D m d → n ≤ 16777216 → m ≤ 16777216 → y = 0 → Calls Try.prog 24 #[.agg #[.bool b, .slice A n c], .agg #[.bool b', .slice D m d]] w (GivesII w 0 0 false)
  read : ∀ (s : ByteArray) (w : World), T w → s.size ≤ 2147483648 → Calls Try.prog 29 #[.string s] w (GivesIB w (if okI s.data.toList then valI s.data.toList else 0) (okI s.data.toList))
end Go.Proofs.Ytnfednkphcapnaa
namespace Go.Proofs.Ytnfednkphcapnaa
open Go Go.RowKit
set_option maxRecDepth 100000
set_option linter.unusedVariables false
set_option linter.unusedSimpArgs false
/-- What a struct of a sign and of words stands for. -/
def zOf (b : Bool) (l : List Nat) : Int := if b then -(dv 18446744073709551616 l : Int) else (dv 18446744073709551616 l : Int)
theorem zOf_abs (b : Bool) (l : List Nat) : (zOf b l).natAbs = dv 18446744073709551616 l := by unfold zOf; split <;> omega
theorem words_far {w : World} {A : Option Addr} {n c x g : Nat} {t : TypeId} {cs : Array Value} (h : WordsIn w x A n c) (hk : Blk w g t cs) (hcs : ∀ v ∈ cs.toList, ∀ z, v ≠ .int .u64 z) : 0 < n → ∀ ad, A = some ad → ad.block ≠ g := fun hn ad e hg => by
  obtain ⟨ad', e', _, hc⟩ := h.1.2 hn
  rw [e] at e'
  injection e' with e'
  subst e'
  have hl := h.len
  have h0 := hc 0 (.int .u64 ((dg 18446744073709551616 x).getD 0 0 : Nat)) (vals_getD .u64 _ 0 (by omega))
  have e0 : ad.add 0 = ad := by unfold Addr.add; rw [if_pos rfl]
  rw [e0] at h0
  obtain ⟨bk, off, pr⟩ := ad
  simp only at hg
  subst hg
  unfold Blk at hk
  cases pr with
  | none =>
    rw [show w.cell? ⟨bk, off, none⟩ = cs[off]? from cell_of_row w bk off _ t (0, 0) hk, ← Array.getElem?_toList] at h0
    exact hcs _ (List.mem_of_getElem? h0) _ rfl
  | some q => simp [World.cell?, hk] at h0
theorem int_set2 {w : World} {z : Int} {b p : Bool} {A q : Option Addr} {n c r s g : Nat} {t : TypeId} (h : IntIn w z b A n c) (hk : Blk w g t #[.bool p, .slice q r s]) (p' : Bool) (q' : Option Addr) (r' s' : Nat) :
    IntIn ((w.setCell ⟨g, 0, none⟩ (.bool p')).setCell ⟨g, 1, none⟩ (.slice q' r' s')) z b A n c := by
  have h1 := words_set0 (p := ⟨g, 0, none⟩) h.2 (words_far h.2 hk (by intro v hv; simp at hv; rcases hv with rfl | rfl <;> intro z e <;> cases e)) (.bool p')
  exact ⟨h.1, words_set0 (p := ⟨g, 1, none⟩) h1 (words_far h1 (hk.set_ 0 (.bool p')) (by intro v hv; simp at hv; rcases hv with rfl | rfl <;> intro z e <;> cases e)) _⟩
set_option maxHeartbeats 4000000 in
theorem law7_make {T : World → Prop} (hTb : ∀ w w', T w → Below w.heap.size w w' → T w') (IC : IntC T) (b : Bool) (A : Option Addr) (n c : Nat) (l : List Nat) (w : World) (h : ArgWords w A n c l) (hT : T w) :
    Calls Try.prog 12 #[.agg #[.bool b, .slice A n c]] w (GivesI w (zOf b l)) := by
  have HO := Lib.hid (arg_of h)
  have hn : n ≤ 1048576 := by have := h.small; have := h.fits; omega
  have HSZ := Lib.hid (arg_sz h)
  have HT := Lib.hid (fun w' (hb : Below w.heap.size w w') => hTb w w' hT hb)
  have HIC := Lib.hid IC
  obtain ⟨x, hx⟩ : ∃ x, dv 18446744073709551616 l = x := ⟨_, rfl⟩
  obtain ⟨K, hK⟩ : ∃ K, 1048576 = K := ⟨_, rfl⟩
  rw [hx] at HO HSZ
  rw [hK] at HSZ
  have HX := Lib.hid hx
  have HKK : K ≤ 1048576 := by omega
  clear h hx IC hT hTb hK
  go_enter Try.func12, Try.ntmps12
  go_wp2_with fail
  obtain ⟨hB, b2, b3, b5⟩ := box2 w 24 29 #[.bool b, .slice A n c] #[.bool false, .slice none 0 0]
  generalize (w.alloc (.cells #[.bool b, .slice A n c] 24)).alloc (.cells #[.bool false, .slice none 0 0] 29) = W0 at *
  have g1 : W0.drew.cell? ⟨w.heap.size, 0, none⟩ = some (.bool b) := b2.cell 0
  have g2 : W0.drew.cell? ⟨w.heap.size, 1, none⟩ = some (.slice A n c) := b2.cell 1
  have hk0 := b3.drew
  have hb0 := hB.drew
  clear b2 b3 b5 hB
  have HNW := Lib.hid (fun w' (hb : Below w.heap.size w w') B m d (h : WordsIn w' x B m d) => HIC.out.new b x B m d w' (HT.out _ hb) h (by have := Sz.words HSZ.out h; omega))
  go_region_held3 (fun w' => Below w.heap.size w w' ∧ w'.cell? ⟨w.heap.size, 0, none⟩ = some (.bool b) ∧ w'.cell? ⟨w.heap.size, 1, none⟩ = some (.slice A n c))
    (first | (exact ⟨hb0, g1, g2⟩) | (go_split_ands; (repeat' apply And.intro); all_goals (first | with_reducible assumption | exact keep_below (by with_reducible assumption) hb | exact keep_cell hb (by with_reducible assumption) | exact keep_below_set _ (by show w.heap.size ≤ w.heap.size + 1; omega) (by with_reducible assumption) | exact keep_cell_set _ (by show w.heap.size ≠ w.heap.size + 1; omega) (by with_reducible assumption) | exact keep_below_set _ (by show w.heap.size ≤ w.heap.size + 1; omega) (keep_below_set _ (by show w.heap.size ≤ w.heap.size + 1; omega) (by with_reducible assumption)) | exact keep_cell_set _ (by show w.heap.size ≠ w.heap.size + 1; omega) (keep_cell_set _ (by show w.heap.size ≠ w.heap.size + 1; omega) (by with_reducible assumption)))))
    (first
      | (go_at_call 38; (with_reducible refine (HO.out _ (by first | with_reducible assumption | exact And.left (by with_reducible assumption))).mono ?_); rintro e w2 ⟨A2, n2, c2, rfl, hw2, hb, _⟩; have hk2 := keep_blk hb hk0)
      | (go_at_call 37; (with_reducible refine (HNW.out _ (by first | with_reducible assumption | exact And.left (by with_reducible assumption)) _ _ _ hw2).mono ?_); rintro e w3 ⟨b3, A3, n3, c3, rfl, hw3, hb⟩; go_split_ands; have hk3 := keep_blk hb hk2; have c0 := hk3.cell 0; have f0 := hk3.frozen 0; have c1 : (w3.setCell ⟨w.heap.size + 1, 0, none⟩ (.bool b3)).cell? ⟨w.heap.size + 1, 1, none⟩ = some (.slice none 0 0) := (hk3.set_ 0 (.bool b3)).cell 1; have f1 := (hk3.set_ 0 (.bool b3)).frozen 1; have hbb : Below w.heap.size w w3 := keep_below (by with_reducible assumption) hb))
  have hk4 := (hk3.set_ 0 (.bool b3)).set_ 1 (.slice A3 n3 c3)
  have r0 := hk4.cell 0
  have r1 := hk4.cell 1
  have hwz := int_set2 hw3 hk3 b3 A3 n3 c3
  have hbz := keep_below_set (p := ⟨w.heap.size + 1, 1, none⟩) (.slice A3 n3 c3) (by show w.heap.size ≤ w.heap.size + 1; omega) (keep_below_set (p := ⟨w.heap.size + 1, 0, none⟩) (.bool b3) (by show w.heap.size ≤ w.heap.size + 1; omega) hbb)
  have HG : Hid (GivesI w (zOf b l) (.returned (.agg #[.bool b3, .slice A3 n3 c3])) ((w3.setCell ⟨w.heap.size + 1, 0, none⟩ (.bool b3)).setCell ⟨w.heap.size + 1, 1, none⟩ (.slice A3 n3 c3))) := by
    show GivesI _ _ _ _
    unfold zOf
    rw [HX.out]
    exact ⟨b3, A3, n3, c3, rfl, hwz, hbz⟩
  clear hk3 hk2 hk0 hk4 hwz hbz hbb hw3 hw2 c0 c1 f0 f1 hb0 hb g1 g2
  go_wp2
  refine bodyPost_ret (v := .agg #[.bool b3, .slice A3 n3 c3]) (by simp [results, Try.results12, go_sem, r0, r1]) rfl ?_
  exact HG.out
/-- What `is` tells of a number. -/
theorem law7_is {T : World → Prop} (hTb : ∀ w w', T w → Below w.heap.size w w' → T w') (IC : IntC T) (z x : Int) (b : Bool) (A : Option Addr) (n c : Nat) (w : World) (h : IntIn w z b A n c) (hn : n ≤ 16777216) (hT : T w) (h1 : -9223372036854775808 ≤ x) (h2 : x ≤ 9223372036854775807) :
    Calls Try.prog 33 #[.agg #[.bool b, .slice A n c], .int .i64 x] w fun e w' => e = .returned (.bool (decide (z = x))) ∧ Below w.heap.size w w' := by
  obtain ⟨hB, b2, b5⟩ := box1 w 29 #[.bool b, .slice A n c]
  have HI := Lib.hid (IC.int z b A n c _ (hTb _ _ hT hB) (h.below hB) hn)
  have g0 := b2.cell 0
  have g1 := b2.cell 1
  simp only [List.getElem?_toArray, List.getElem?_cons_zero, List.getElem?_cons_succ] at g0 g1
  cases hf : fitsI z
  · have hd : Hid (decide (z = x) = false) := by
      show _ = _
      refine decide_eq_false fun e => ?_
      subst e
      unfold fitsI at hf
      rw [decide_eq_true h1, decide_eq_true h2] at hf
      cases hf
    rw [hf] at HI
    rw [hd.out]
    clear IC hT hTb h b2 b5 hf hd
    go_enter Try.func33, Try.ntmps33
    go_wp2_with fail
    refine HI.out.mono ?_
    rintro e w2 ⟨rfl, hb⟩
    have hB := keep_below hB hb
    clear hb HI g0 g1
    go_wp2
    go_ret
    exact ⟨rfl, hB⟩
  · have he : ((z == x) : Bool) = decide (z = x) := by rw [Bool.eq_iff_iff]; simp
    rw [hf] at HI
    have HE := Lib.hid he
    clear IC hT hTb h b2 b5 hf he
    go_enter Try.func33, Try.ntmps33
    go_wp2_with fail
    refine HI.out.mono ?_
    rintro e w2 ⟨rfl, hb⟩
    have hB := keep_below hB hb
    clear hb HI g0 g1
    go_wp2
    go_ret
    exact ⟨by rw [← HE.out]; rfl, hB⟩
end Go.Proofs.Ytnfednkphcapnaa
namespace Go.Proofs.Ytnfednkphcapnaa
open Go Go.RowKit
set_option linter.unusedVariables false
/-- How many are still to come. -/
def due (l : Array Bool) : Nat := l.toList.countP fun b => !b
section
variable {P : Program} {ops : Array Oper} {Q : Exit → Act → World → Prop} {md : Region.Mode} {S : World → Prop}
theorem ready_un {i : Nat} {l : Array Bool} (hi : i ∈ Region.ready md ops l) : l.getD i true = false := (mem_ready.1 hi).1
theorem ready_lt {i : Nat} {l : Array Bool} (hi : i ∈ Region.ready md ops l) : i < ops.size := by
  obtain ⟨_, o, ho, _⟩ := mem_ready.1 hi
  exact (Array.getElem?_eq_some_iff.1 ho).1
theorem ready_dep {i k : Nat} {l : Array Bool} {o : Oper} {e : Edge} (hi : i ∈ Region.ready md ops l) (ho : ops[i]? = some o) (he : o.after[k]? = some e) (hb : Region.binds md e = true) : l.getD e.on false = true := by
  obtain ⟨_, o', ho', h⟩ := mem_ready.1 hi
  rw [ho] at ho'
  cases ho'
  exact h e (Array.mem_of_getElem? he) hb
theorem all_listed {i : Nat} {l : Array Bool} {o : Oper} (h : Region.ready md ops l = []) (ho : ops[i]? = some o) (hr : (o.after.toList.all fun e => !Region.binds md e || l.getD e.on false) = true) : l.getD i true = true := by
  cases hl : l.getD i true
  · have : i ∈ Region.ready md ops l := mem_ready.2 ⟨hl, o, ho, fun e he hb => by
      have := List.all_eq_true.1 hr e (by simpa using he)
      rw [hb] at this
      simpa using this⟩
    rw [h] at this
    cases this
  · rfl
theorem due_set {i : Nat} {l : Array Bool} (h : l.getD i true = false) : due (l.setIfInBounds i true) + 1 = due l := by
  obtain ⟨l⟩ := l
  unfold due
  have hi : i < l.length := by
    rcases Nat.lt_or_ge i l.length with h' | h'
    · exact h'
    · simp [List.getElem?_eq_none h'] at h
  have hv : l[i] = false := by simpa [hi] using h
  simp only [List.setIfInBounds_toArray]
  clear h
  induction l generalizing i with
  | nil => simp at hi
  | cons b t ih =>
    cases i with
    | zero =>
      have hb : b = false := hv
      subst hb
      simp
    | succ j =>
      have := ih (i := j) (by simpa using hi) (by simpa using hv)
      simp only [List.set_cons_succ, List.countP_cons]
      omega
theorem due_ready {l : Array Bool} (h : due l = 0) : Region.ready md ops l = [] := by
  refine List.eq_nil_iff_forall_not_mem.2 fun i hi => ?_
  have := due_set (ready_un hi)
  omega
theorem wpAnyH_merge {J : Act → Array Bool → Act → World → Prop} {L : Array Bool} {a0 : Act} (hfull : ∀ l a w, J a0 l a w → Region.ready md ops l = [] → l = L)
    (hstep : ∀ l a w i, J a0 l a w → l ≠ L → i ∈ Region.ready md ops l → wpOp P ops Q i (fun a' w' => S w' ∧ J a0 (l.setIfInBounds i true) a' w') a w)
    (hgoal : ∀ a w, J a0 L a w → wpAnyH P md ops Q S (due L) L a w) : ∀ (fuel : Nat) (l : Array Bool) (a : Act) (w : World), due l = fuel → J a0 l a w → wpAnyH P md ops Q S fuel l a w := by
  intro fuel
  induction fuel with
  | zero =>
    intro l a w hd hJ
    have e := hfull l a w hJ (due_ready hd)
    subst e
    have := hgoal a w hJ
    rwa [hd] at this
  | succ n ih =>
    intro l a w hd hJ
    by_cases hl : l = L
    · subst hl
      have := hgoal a w hJ
      rwa [hd] at this
    · refine ⟨fun h => absurd (hfull l a w hJ h) hl, fun i hi => ?_⟩
      exact wpOp_mono (fun a' w' ⟨h1, h2⟩ => ⟨h1, ih _ a' w' (by have := due_set (ready_un hi); omega) h2⟩) (hstep l a w i hJ hl hi)
/-- As above, from the state at hand. -/
theorem wpAnyH_meet {J : Act → Array Bool → Act → World → Prop} {L : Array Bool} {a0 : Act} {l0 : Array Bool} {w0 : World} {fuel : Nat} (hd : due l0 = fuel) (h0 : J a0 l0 a0 w0)
    (hfull : ∀ l a w, J a0 l a w → Region.ready md ops l = [] → l = L)
    (hstep : ∀ l a w i, J a0 l a w → l ≠ L → i ∈ Region.ready md ops l → wpOp P ops Q i (fun a' w' => S w' ∧ J a0 (l.setIfInBounds i true) a' w') a w)
    (hgoal : ∀ a w, J a0 L a w → wpAnyH P md ops Q S (due L) L a w) : wpAnyH P md ops Q S fuel l0 a0 w0 :=
  wpAnyH_merge hfull hstep hgoal fuel l0 a0 w0 hd h0
theorem wpOp_shut {i : Nat} {o : Oper} {K : Act → World → Prop} {a : Act} {w : World} (ho : ops[i]? = some o)
    (h : ∀ K' : Act → World → Prop, Shut (∀ a w, K a w → K' a w) → if Region.wanted o (yielded ops a.tmps) = true then Oper.wp P o a w K' Q else K' (a.put o.dst undef) w) : wpOp P ops Q i K a w :=
  wpOp_step ho fun K' hK => h K' hK
end
/-- What is known once an operation has come up. -/
def Gd (f : Bool) (p : Prop) : Prop := f = true → p
theorem Gd.no {p : Prop} : Gd false p := fun h => by cases h
theorem Gd.yes {p : Prop} (h : p) : Gd true p := fun _ => h
theorem Gd.get {p : Prop} (h : Gd true p) : p := h rfl
theorem Gd.mono {f : Bool} {p q : Prop} (h : Gd f p) (k : p → q) : Gd f q := fun e => k (h e)
/-- A variable that the region has made so far. -/
def Made (b : Nat) (w : World) (g : Nat) (t : TypeId) (cs : Array Value) (v : Value) : Prop := v = .pointer (some ⟨g, 0, none⟩) ∧ b ≤ g ∧ w.heap[g]? = some (.cells cs t (0, 0))
theorem Made.lt {b g : Nat} {w : World} {t : TypeId} {cs : Array Value} {v : Value} (h : Made b w g t cs v) : g < w.heap.size := (Array.getElem?_eq_some_iff.1 h.2.2).1
theorem Made.keep {b g : Nat} {w w' : World} {t : TypeId} {cs : Array Value} {v : Value} (h : Made b w g t cs v) (hb : Below w.heap.size w w') : Made b w' g t cs v := ⟨h.1, h.2.1, (hb.block g h.lt).trans h.2.2⟩
theorem Made.new (b : Nat) (w : World) (t : TypeId) (cs : Array Value) (hb : b ≤ w.heap.size) : Made b (w.alloc (.cells cs t)) w.heap.size t cs (.pointer (some ⟨w.heap.size, 0, none⟩)) := ⟨rfl, hb, heap_alloc_new w _⟩
end Go.Proofs.Ytnfednkphcapnaa
namespace Go.Proofs.Ytnfednkphcapnaa
open Go Go.RowKit
set_option linter.unusedVariables false
theorem SzI.add {K K' : Nat} {x y : Int} (h : Sz K x.natAbs) (h' : Sz K' y.natAbs) : Sz (K + K' + 1) (x + y).natAbs :=
  Sz.of_le (Sz.add (h.up (by omega : K ≤ K + K')) (h'.up (by omega : K' ≤ K + K'))) (Int.natAbs_add_le x y)
theorem SzI.sub {K K' : Nat} {x y : Int} (h : Sz K x.natAbs) (h' : Sz K' y.natAbs) : Sz (K + K' + 1) (x - y).natAbs := by
  rw [Int.sub_eq_add_neg]
  exact SzI.add h (by rw [Int.natAbs_neg]; exact h')
theorem SzI.mul {K K' : Nat} {x y : Int} (h : Sz K x.natAbs) (h' : Sz K' y.natAbs) : Sz (K + K') (x * y).natAbs := by
  rw [Int.natAbs_mul]; exact Sz.mul h h'
theorem SzI.neg {K : Nat} {x : Int} (h : Sz K x.natAbs) : Sz K (-x).natAbs := by rw [Int.natAbs_neg]; exact h
theorem qI_le (x y : Int) : (qI x y).natAbs ≤ x.natAbs := by
  by_cases hy : y = 0
  · subst hy; unfold qI; simp
  · have h1 := qI_rI x y
    have h2 := rI_abs (x := x) hy
    have h3 := rI_side (x := x) hy
    generalize rI x y = r at *
    generalize qI x y = q at *
    by_cases hq : q = 0
    · subst hq; simp
    · have e : x.natAbs + r.natAbs ≥ q.natAbs * y.natAbs := by
        rw [← Int.natAbs_mul]
        have := Int.natAbs_sub_le x r
        rw [show x - r = q * y by omega] at this
        exact this
      have hq1 : 1 ≤ q.natAbs := by omega
      have hy1 : 1 ≤ y.natAbs := by omega
      rcases h3 with h3 | h3
      · subst h3
        have : q.natAbs * 1 ≤ q.natAbs * y.natAbs := Nat.mul_le_mul_left _ hy1
        simp at e
        omega
      · -- what is left has the divisor's side: the quotient is not farther out than the number
        have e2 : (x - r).natAbs = q.natAbs * y.natAbs := by rw [← Int.natAbs_mul]; congr 1; omega
        rcases Int.lt_trichotomy q 0 with hq0 | hq0 | hq0
        · -- below 0: x and y lie on two sides
          have : (q.natAbs - 1) * y.natAbs + y.natAbs = q.natAbs * y.natAbs := by
            obtain ⟨k, hk⟩ : ∃ k, q.natAbs = k + 1 := ⟨q.natAbs - 1, by omega⟩
            rw [hk, Nat.add_sub_cancel, Nat.add_mul, Nat.one_mul]
          have hm : (q.natAbs - 1) * 1 ≤ (q.natAbs - 1) * y.natAbs := Nat.mul_le_mul_left _ hy1
          by_cases hy2 : y.natAbs = 1
          · omega
          · by_cases hk : q.natAbs = 1
            · have hx0 : x ≠ 0 := by
                intro hx
                subst hx
                rw [hk, Nat.one_mul] at e2
                omega
              omega
            · have hm2 : (q.natAbs - 1) * 2 ≤ (q.natAbs - 1) * y.natAbs := Nat.mul_le_mul_left _ (by omega)
              omega
        · omega
        · have hxr : x.natAbs = q.natAbs * y.natAbs + r.natAbs := by
            rcases h3 with ⟨ha, hb⟩ | ⟨ha, hb⟩
            · have : 0 < q * y := Int.mul_pos hq0 hb
              have e3 : (q * y).natAbs = q.natAbs * y.natAbs := Int.natAbs_mul _ _
              omega
            · have : q * y < 0 := Int.mul_neg_of_pos_of_neg hq0 hb
              have e3 : (q * y).natAbs = q.natAbs * y.natAbs := Int.natAbs_mul _ _
              omega
          have : q.natAbs * 1 ≤ q.natAbs * y.natAbs := Nat.mul_le_mul_left _ hy1
          omega
theorem SzI.q {K : Nat} {x : Int} (y : Int) (h : Sz K x.natAbs) : Sz K (qI x y).natAbs := Sz.of_le h (qI_le x y)
theorem SzI.r {K : Nat} {y : Int} (x : Int) (hy : y ≠ 0) (h : Sz K y.natAbs) : Sz K (rI x y).natAbs := Sz.of_le h (Nat.le_of_lt (rI_abs hy))
theorem h16_zero {w : World} {x : Nat} {A : Option Addr} {n c : Nat} (h : Holds16 w x A n c) (hx : x = 0) : n = 0 := by rw [h.len, hx]; rfl
theorem h16_pos {w : World} {x : Nat} {A : Option Addr} {n c : Nat} (h : Holds16 w x A n c) (hx : x ≠ 0) : 0 < n := by
  rw [h.len]
  exact (dg_ge (b := 65536) (by decide) x hx).1
theorem sgn_pos {x : Int} (h : 0 < x) : sgnZ x = 1 := by unfold sgnZ; rw [if_neg (by omega), if_neg (by omega)]
theorem sgn_neg {x : Int} (h : x < 0) : sgnZ x = -1 := by unfold sgnZ; rw [if_pos h]
theorem cmpZ_add (x y z : Int) : cmpZ (x + z) (y + z) = cmpZ x y := by unfold cmpZ; split <;> split <;> (try split) <;> (try split) <;> omega
theorem cmpZ_opp (x y : Int) : cmpZ (-x) (-y) = -cmpZ x y := by unfold cmpZ; split <;> split <;> (try split) <;> (try split) <;> omega
theorem cmpZ_le {x y z : Int} (h : cmpZ x y ≤ 0) (h' : cmpZ y z ≤ 0) : cmpZ x z ≤ 0 := by
  have h1 := cmpZ_gt x y
  have h2 := cmpZ_gt y z
  have h3 := cmpZ_gt x z
  omega
section
variable {P : Program} {f : FuncId} {args : Array Value} {w : World}
theorem icmp_eq {x y : Int} (h : x = y) (hc : Calls P f args w (SaysI w (cmpZ x y))) : Calls P f args w (SaysI w 0) := by rw [(cmpZ_eq x y).2 h] at hc; exact hc
theorem icmp_lt {x y : Int} (h : x < y) (hc : Calls P f args w (SaysI w (cmpZ x y))) : Calls P f args w (SaysI w (-1)) := by rw [show cmpZ x y = -1 from if_pos h] at hc; exact hc
theorem icmp_gt {x y : Int} (h : y < x) (hc : Calls P f args w (SaysI w (cmpZ x y))) : Calls P f args w (SaysI w 1) := by
  rw [show cmpZ x y = 1 by unfold cmpZ; rw [if_neg (by omega), if_neg (by omega)]] at hc; exact hc
theorem icmp_of {x y v : Int} (h : cmpZ x y = v) (hc : Calls P f args w (SaysI w (cmpZ x y))) : Calls P f args w (SaysI w v) := by rw [h] at hc; exact hc
theorem ibelow_of {z : Int} {b : Bool} (h : decide (z < 0) = b) (hc : Calls P f args w fun e w' => e = .returned (.bool (decide (z < 0))) ∧ Below w.heap.size w w') : Calls P f args w fun e w' => e = .returned (.bool b) ∧ Below w.heap.size w w' := by rw [h] at hc; exact hc
theorem isgn_of {x v : Int} (h : sgnZ x = v) (hc : Calls P f args w (SaysI w (sgnZ x))) : Calls P f args w (SaysI w v) := by rw [h] at hc; exact hc
theorem iint_no {z : Int} (h : fitsI z = false) (hc : Calls P f args w fun e w' => e = .returned (.tuple #[.int .i64 (if fitsI z then z else 0), .bool (fitsI z)]) ∧ Below w.heap.size w w') : Calls P f args w fun e w' => e = .returned (.tuple #[.int .i64 0, .bool false]) ∧ Below w.heap.size w w' := by
  rw [h] at hc; exact hc
theorem iread_no {s : List UInt8} (h : okI s = false) (hc : Calls P f args w (GivesIB w (if okI s then valI s else 0) (okI s))) : Calls P f args w (GivesIB w 0 false) := by rw [h] at hc; exact hc
theorem iread_yes {s : List UInt8} (h : okI s = true) (hc : Calls P f args w (GivesIB w (if okI s then valI s else 0) (okI s))) : Calls P f args w (GivesIB w (valI s) true) := by rw [h] at hc; exact hc
theorem iis_of {z x : Int} {b : Bool} (h : decide (z = x) = b) (hc : Calls P f args w fun e w' => e = .returned (.bool (decide (z = x))) ∧ Below w.heap.size w w') : Calls P f args w fun e w' => e = .returned (.bool b) ∧ Below w.heap.size w w' := by rw [h] at hc; exact hc
theorem itext_of {s t : ByteArray} (h : s = t) (hc : Calls P f args w fun e w' => e = .returned (.string s) ∧ Below w.heap.size w w') : Calls P f args w fun e w' => e = .returned (.string t) ∧ Below w.heap.size w w' := by rw [h] at hc; exact hc
end
end Go.Proofs.Ytnfednkphcapnaa
namespace Go.Proofs.Ytnfednkphcapnaa
open Go Go.RowKit
set_option maxRecDepth 100000
set_option linter.unusedVariables false
set_option linter.unusedSimpArgs false
theorem txt7 : textI (-12) = [45, 49, 50] := textI_back (s := [45, 49, 50]) (by decide)
set_option maxHeartbeats 16000000 in
theorem law7_awake {T : World → Prop} (hTb : ∀ w w', T w → Below w.heap.size w w' → T w') (IC : IntC T) (w : World) (hT : T w) : Calls Try.prog 11 #[] w fun e w' => e = .returned (.bool true) ∧ Below w.heap.size w w' := by
  have HIC := Lib.hid IC
  have HT := Lib.hid (fun w' (hb : Below w.heap.size w w') => hTb w w' hT hb)
  have q1 : ((strS (textI (-12))).toList == [45, 49, 50]) = true := str_lit _ _ _ (by rw [strS_data, txt7]; decide)
  have p0 : okI ({ data := #[45, 48] } : ByteArray).data.toList = false := by decide
  have H0 := Lib.hid p0
  obtain ⟨S1, hS1⟩ : ∃ s, strS (textI (-12)) = s := ⟨_, rfl⟩
  rw [hS1] at q1
  have HS1 := Lib.hid hS1
  clear IC hT p0 hS1
  go_enter Try.func11, Try.ntmps11
  have hB := Below.refl w.heap.size w
  go_wp2_with fail
  have HZ1 : Hid (Sz (1) (((-7) : Int)).natAbs) := (by show ((-7) : Int).natAbs < _; decide)
  (with_reducible refine (HIC.out.of (-7) _ (HT.out _ hB) (by decide) (by decide)).mono ?_)
  rintro e wc1 ⟨b1, B1, m1, d1, rfl, hw1, hb⟩
  have hB := keep_below hB hb
  have HN1 := Lib.hid hw1
  clear hb hw1
  go_wp2_with fail
  have HZ2 : Hid (Sz (1) (((2) : Int)).natAbs) := (by show ((2) : Int).natAbs < _; decide)
  (with_reducible refine (HIC.out.of (2) _ (HT.out _ hB) (by decide) (by decide)).mono ?_)
  rintro e wc2 ⟨b2, B2, m2, d2, rfl, hw2, hb⟩
  have hB := keep_below hB hb
  have HN1 := Lib.hid (HN1.out.below hb)
  have HN2 := Lib.hid hw2
  clear hb hw2
  go_wp2_with fail
  have HZ3 : Hid (Sz (1) (qI (((-7) : Int)) (((2) : Int))).natAbs) := SzI.q _ HZ1.out
  have HZ4 : Hid (Sz (1) (rI (((-7) : Int)) (((2) : Int))).natAbs) := SzI.r _ (by decide) HZ2.out
  (with_reducible refine (HIC.out.div (((-7) : Int)) (((2) : Int)) b1 b2 B1 B2 m1 m2 d1 d2 _ (HT.out _ hB) HN1.out HN2.out (by have := Sz.words HZ1.out HN1.out.words; omega) (by have := Sz.words HZ2.out HN2.out.words; omega) (by decide)).mono ?_)
  rintro e wc3 ⟨b3, B3, m3, d3, b4, B4, m4, d4, rfl, hw3, hw4, hb⟩
  have hB := keep_below hB hb
  have HN1 := Lib.hid (HN1.out.below hb)
  have HN2 := Lib.hid (HN2.out.below hb)
  have HN3 := Lib.hid hw3
  have HN4 := Lib.hid hw4
  clear hb hw3 hw4
  obtain ⟨bx1, bx2, bx3, bz⟩ := box2 wc3 29 29 #[.bool b3, .slice B3 m3 d3] #[.bool b4, .slice B4 m4 d4]
  have hB := keep_below hB bx1
  have HN1 := Lib.hid (HN1.out.below bx1)
  have HN2 := Lib.hid (HN2.out.below bx1)
  have HN3 := Lib.hid (HN3.out.below bx1)
  have HN4 := Lib.hid (HN4.out.below bx1)
  have g5 : ((wc3.alloc (.cells #[.bool b3, .slice B3 m3 d3] 29)).alloc (.cells #[.bool b4, .slice B4 m4 d4] 29)).cell? ⟨wc3.heap.size, 0, none⟩ = some (.bool b3) := bx2.cell 0
  have e5 : ((wc3.alloc (.cells #[.bool b3, .slice B3 m3 d3] 29)).alloc (.cells #[.bool b4, .slice B4 m4 d4] 29)).cell? ⟨wc3.heap.size, 1, none⟩ = some (.slice B3 m3 d3) := bx2.cell 1
  have g6 : ((wc3.alloc (.cells #[.bool b3, .slice B3 m3 d3] 29)).alloc (.cells #[.bool b4, .slice B4 m4 d4] 29)).cell? ⟨wc3.heap.size + 1, 0, none⟩ = some (.bool b4) := bx3.cell 0
  have e6 : ((wc3.alloc (.cells #[.bool b3, .slice B3 m3 d3] 29)).alloc (.cells #[.bool b4, .slice B4 m4 d4] 29)).cell? ⟨wc3.heap.size + 1, 1, none⟩ = some (.slice B4 m4 d4) := bx3.cell 1
  clear bx1 bx2 bx3 bz
  go_wp2_with fail
  generalize (wc3.alloc (.cells #[.bool b3, .slice B3 m3 d3] 29)).alloc (.cells #[.bool b4, .slice B4 m4 d4] 29) = W4 at *
  generalize wc3.heap.size = q4 at *
  have HZ7 : Hid (Sz (1) (((7) : Int)).natAbs) := (by show ((7) : Int).natAbs < _; decide)
  (with_reducible refine (HIC.out.of (7) _ (HT.out _ hB) (by decide) (by decide)).mono ?_)
  rintro e wc5 ⟨b7, B7, m7, d7, rfl, hw7, hb⟩
  have hB := keep_below hB hb
  have HN1 := Lib.hid (HN1.out.below hb)
  have HN2 := Lib.hid (HN2.out.below hb)
  have HN3 := Lib.hid (HN3.out.below hb)
  have HN4 := Lib.hid (HN4.out.below hb)
  have g5 := keep_cell hb g5
  have e5 := keep_cell hb e5
  have g6 := keep_cell hb g6
  have e6 := keep_cell hb e6
  have HN7 := Lib.hid hw7
  clear hb hw7
  go_wp2_with fail
  have HZ8 : Hid (Sz (1) (((-2) : Int)).natAbs) := (by show ((-2) : Int).natAbs < _; decide)
  (with_reducible refine (HIC.out.of (-2) _ (HT.out _ hB) (by decide) (by decide)).mono ?_)
  rintro e wc6 ⟨b8, B8, m8, d8, rfl, hw8, hb⟩
  have hB := keep_below hB hb
  have HN1 := Lib.hid (HN1.out.below hb)
  have HN2 := Lib.hid (HN2.out.below hb)
  have HN3 := Lib.hid (HN3.out.below hb)
  have HN4 := Lib.hid (HN4.out.below hb)
  have g5 := keep_cell hb g5
  have e5 := keep_cell hb e5
  have g6 := keep_cell hb g6
  have e6 := keep_cell hb e6
  have HN7 := Lib.hid (HN7.out.below hb)
  have HN8 := Lib.hid hw8
  clear hb hw8
  go_wp2_with fail
  have HZ9 : Hid (Sz (1) (qI (((7) : Int)) (((-2) : Int))).natAbs) := SzI.q _ HZ7.out
  have HZ10 : Hid (Sz (1) (rI (((7) : Int)) (((-2) : Int))).natAbs) := SzI.r _ (by decide) HZ8.out
  (with_reducible refine (HIC.out.div (((7) : Int)) (((-2) : Int)) b7 b8 B7 B8 m7 m8 d7 d8 _ (HT.out _ hB) HN7.out HN8.out (by have := Sz.words HZ7.out HN7.out.words; omega) (by have := Sz.words HZ8.out HN8.out.words; omega) (by decide)).mono ?_)
  rintro e wc7 ⟨b9, B9, m9, d9, b10, B10, m10, d10, rfl, hw9, hw10, hb⟩
  have hB := keep_below hB hb
  have HN1 := Lib.hid (HN1.out.below hb)
  have HN2 := Lib.hid (HN2.out.below hb)
  have HN3 := Lib.hid (HN3.out.below hb)
  have HN4 := Lib.hid (HN4.out.below hb)
  have g5 := keep_cell hb g5
  have e5 := keep_cell hb e5
  have g6 := keep_cell hb g6
  have e6 := keep_cell hb e6
  have HN7 := Lib.hid (HN7.out.below hb)
  have HN8 := Lib.hid (HN8.out.below hb)
  have HN9 := Lib.hid hw9
  have HN10 := Lib.hid hw10
  clear hb hw9 hw10
  obtain ⟨bx1, bx2, bx3, bz⟩ := box2 wc7 29 29 #[.bool b9, .slice B9 m9 d9] #[.bool b10, .slice B10 m10 d10]
  have hB := keep_below hB bx1
  have HN1 := Lib.hid (HN1.out.below bx1)
  have HN2 := Lib.hid (HN2.out.below bx1)
  have HN3 := Lib.hid (HN3.out.below bx1)
  have HN4 := Lib.hid (HN4.out.below bx1)
  have g5 := keep_cell bx1 g5
  have e5 := keep_cell bx1 e5
  have g6 := keep_cell bx1 g6
  have e6 := keep_cell bx1 e6
  have HN7 := Lib.hid (HN7.out.below bx1)
  have HN8 := Lib.hid (HN8.out.below bx1)
  have HN9 := Lib.hid (HN9.out.below bx1)
  have HN10 := Lib.hid (HN10.out.below bx1)
  have g11 : ((wc7.alloc (.cells #[.bool b9, .slice B9 m9 d9] 29)).alloc (.cells #[.bool b10, .slice B10 m10 d10] 29)).cell? ⟨wc7.heap.size, 0, none⟩ = some (.bool b9) := bx2.cell 0
  have e11 : ((wc7.alloc (.cells #[.bool b9, .slice B9 m9 d9] 29)).alloc (.cells #[.bool b10, .slice B10 m10 d10] 29)).cell? ⟨wc7.heap.size, 1, none⟩ = some (.slice B9 m9 d9) := bx2.cell 1
  have g12 : ((wc7.alloc (.cells #[.bool b9, .slice B9 m9 d9] 29)).alloc (.cells #[.bool b10, .slice B10 m10 d10] 29)).cell? ⟨wc7.heap.size + 1, 0, none⟩ = some (.bool b10) := bx3.cell 0
  have e12 : ((wc7.alloc (.cells #[.bool b9, .slice B9 m9 d9] 29)).alloc (.cells #[.bool b10, .slice B10 m10 d10] 29)).cell? ⟨wc7.heap.size + 1, 1, none⟩ = some (.slice B10 m10 d10) := bx3.cell 1
  clear bx1 bx2 bx3 bz
  go_wp2_with fail
  generalize (wc7.alloc (.cells #[.bool b9, .slice B9 m9 d9] 29)).alloc (.cells #[.bool b10, .slice B10 m10 d10] 29) = W8 at *
  generalize wc7.heap.size = q8 at *
  have HZ13 : Hid (Sz (1) (((-9223372036854775808) : Int)).natAbs) := (by show ((-9223372036854775808) : Int).natAbs < _; decide)
  (with_reducible refine (HIC.out.of (-9223372036854775808) _ (HT.out _ hB) (by decide) (by decide)).mono ?_)
  rintro e wc9 ⟨b13, B13, m13, d13, rfl, hw13, hb⟩
  have hB := keep_below hB hb
  have HN1 := Lib.hid (HN1.out.below hb)
  have HN2 := Lib.hid (HN2.out.below hb)
  have HN3 := Lib.hid (HN3.out.below hb)
  have HN4 := Lib.hid (HN4.out.below hb)
  have g5 := keep_cell hb g5
  have e5 := keep_cell hb e5
  have g6 := keep_cell hb g6
  have e6 := keep_cell hb e6
  have HN7 := Lib.hid (HN7.out.below hb)
  have HN8 := Lib.hid (HN8.out.below hb)
  have HN9 := Lib.hid (HN9.out.below hb)
  have HN10 := Lib.hid (HN10.out.below hb)
  have g11 := keep_cell hb g11
  have e11 := keep_cell hb e11
  have g12 := keep_cell hb g12
  have e12 := keep_cell hb e12
  have HN13 := Lib.hid hw13
  clear hb hw13
  go_wp2_with fail
  have HZ14 : Hid (Sz (1) (-(((-9223372036854775808) : Int))).natAbs) := SzI.neg HZ13.out
  (with_reducible refine (HIC.out.neg (((-9223372036854775808) : Int)) b13 B13 m13 d13 _ (HT.out _ hB) HN13.out (by have := Sz.words HZ13.out HN13.out.words; omega)).mono ?_)
  rintro e wc10 ⟨b14, B14, m14, d14, rfl, hw14, hb⟩
  have hB := keep_below hB hb
  have HN1 := Lib.hid (HN1.out.below hb)
  have HN2 := Lib.hid (HN2.out.below hb)
  have HN3 := Lib.hid (HN3.out.below hb)
  have HN4 := Lib.hid (HN4.out.below hb)
  have g5 := keep_cell hb g5
  have e5 := keep_cell hb e5
  have g6 := keep_cell hb g6
  have e6 := keep_cell hb e6
  have HN7 := Lib.hid (HN7.out.below hb)
  have HN8 := Lib.hid (HN8.out.below hb)
  have HN9 := Lib.hid (HN9.out.below hb)
  have HN10 := Lib.hid (HN10.out.below hb)
  have g11 := keep_cell hb g11
  have e11 := keep_cell hb e11
  have g12 := keep_cell hb g12
  have e12 := keep_cell hb e12
  have HN13 := Lib.hid (HN13.out.below hb)
  have HN14 := Lib.hid hw14
  clear hb hw14
  go_wp2_with fail
  (with_reducible refine (iint_no (rfl) (HIC.out.int (-(((-9223372036854775808) : Int))) b14 B14 m14 d14 _ (HT.out _ hB) HN14.out (by have := Sz.words HZ14.out HN14.out.words; omega))).mono ?_)
  rintro e wc11 ⟨rfl, hb⟩
  have hB := keep_below hB hb
  have HN1 := Lib.hid (HN1.out.below hb)
  have HN2 := Lib.hid (HN2.out.below hb)
  have HN3 := Lib.hid (HN3.out.below hb)
  have HN4 := Lib.hid (HN4.out.below hb)
  have g5 := keep_cell hb g5
  have e5 := keep_cell hb e5
  have g6 := keep_cell hb g6
  have e6 := keep_cell hb e6
  have HN7 := Lib.hid (HN7.out.below hb)
  have HN8 := Lib.hid (HN8.out.below hb)
  have HN9 := Lib.hid (HN9.out.below hb)
  have HN10 := Lib.hid (HN10.out.below hb)
  have g11 := keep_cell hb g11
  have e11 := keep_cell hb e11
  have g12 := keep_cell hb g12
  have e12 := keep_cell hb e12
  have HN13 := Lib.hid (HN13.out.below hb)
  have HN14 := Lib.hid (HN14.out.below hb)
  clear hb 
  go_wp2_with fail
  have HZ15 : Hid (Sz (1) ((0 : Int)).natAbs) := (by show (0 : Nat) < _; decide)
  (with_reducible refine (iread_no (H0.out) (HIC.out.read _ _ (HT.out _ hB) (by decide))).mono ?_)
  rintro e wc12 ⟨b15, B15, m15, d15, rfl, hw15, hb⟩
  have hB := keep_below hB hb
  have HN1 := Lib.hid (HN1.out.below hb)
  have HN2 := Lib.hid (HN2.out.below hb)
  have HN3 := Lib.hid (HN3.out.below hb)
  have HN4 := Lib.hid (HN4.out.below hb)
  have g5 := keep_cell hb g5
  have e5 := keep_cell hb e5
  have g6 := keep_cell hb g6
  have e6 := keep_cell hb e6
  have HN7 := Lib.hid (HN7.out.below hb)
  have HN8 := Lib.hid (HN8.out.below hb)
  have HN9 := Lib.hid (HN9.out.below hb)
  have HN10 := Lib.hid (HN10.out.below hb)
  have g11 := keep_cell hb g11
  have e11 := keep_cell hb e11
  have g12 := keep_cell hb g12
  have e12 := keep_cell hb e12
  have HN13 := Lib.hid (HN13.out.below hb)
  have HN14 := Lib.hid (HN14.out.below hb)
  have HN15 := Lib.hid hw15
  clear hb hw15
  have gm5_1_0 : (wc12.alloc (.cells #[.bool b15, .slice B15 m15 d15] 29)).cell? ⟨q4, 0, none⟩ = some (.bool b3) := keep_cell_alloc _ (g5)
  have gm5_1_1 : (wc12.alloc (.cells #[.bool b15, .slice B15 m15 d15] 29)).cell? ⟨q4, 1, none⟩ = some (.slice B3 m3 d3) := keep_cell_alloc _ (e5)
  obtain ⟨bx1, bx2, bz⟩ := box1 wc12 29 #[.bool b15, .slice B15 m15 d15]
  have hB := keep_below hB bx1
  have HN1 := Lib.hid (HN1.out.below bx1)
  have HN2 := Lib.hid (HN2.out.below bx1)
  have HN3 := Lib.hid (HN3.out.below bx1)
  have HN4 := Lib.hid (HN4.out.below bx1)
  have g5 := keep_cell bx1 g5
  have e5 := keep_cell bx1 e5
  have g6 := keep_cell bx1 g6
  have e6 := keep_cell bx1 e6
  have HN7 := Lib.hid (HN7.out.below bx1)
  have HN8 := Lib.hid (HN8.out.below bx1)
  have HN9 := Lib.hid (HN9.out.below bx1)
  have HN10 := Lib.hid (HN10.out.below bx1)
  have g11 := keep_cell bx1 g11
  have e11 := keep_cell bx1 e11
  have g12 := keep_cell bx1 g12
  have e12 := keep_cell bx1 e12
  have HN13 := Lib.hid (HN13.out.below bx1)
  have HN14 := Lib.hid (HN14.out.below bx1)
  have HN15 := Lib.hid (HN15.out.below bx1)
  have g16 : (wc12.alloc (.cells #[.bool b15, .slice B15 m15 d15] 29)).cell? ⟨wc12.heap.size, 0, none⟩ = some (.bool b15) := bx2.cell 0
  have e16 : (wc12.alloc (.cells #[.bool b15, .slice B15 m15 d15] 29)).cell? ⟨wc12.heap.size, 1, none⟩ = some (.slice B15 m15 d15) := bx2.cell 1
  clear bx1 bx2 bz
  go_wp2_with fail
  clear gm5_1_0 gm5_1_1
  generalize wc12.alloc (.cells #[.bool b15, .slice B15 m15 d15] 29) = W13 at *
  generalize wc12.heap.size = q13 at *
  (with_reducible refine (iis_of (b := true) (decide_eq_true ((by decide))) (law7_is hTb HIC.out (qI (((-7) : Int)) (((2) : Int))) (-4) b3 B3 m3 d3 _ HN3.out (by have := Sz.words HZ3.out HN3.out.words; omega) (HT.out _ hB) (by decide) (by decide))).mono ?_)
  rintro e wc14 ⟨rfl, hb⟩
  have hB := keep_below hB hb
  have HN1 := Lib.hid (HN1.out.below hb)
  have HN2 := Lib.hid (HN2.out.below hb)
  have HN3 := Lib.hid (HN3.out.below hb)
  have HN4 := Lib.hid (HN4.out.below hb)
  have g5 := keep_cell hb g5
  have e5 := keep_cell hb e5
  have g6 := keep_cell hb g6
  have e6 := keep_cell hb e6
  have HN7 := Lib.hid (HN7.out.below hb)
  have HN8 := Lib.hid (HN8.out.below hb)
  have HN9 := Lib.hid (HN9.out.below hb)
  have HN10 := Lib.hid (HN10.out.below hb)
  have g11 := keep_cell hb g11
  have e11 := keep_cell hb e11
  have g12 := keep_cell hb g12
  have e12 := keep_cell hb e12
  have HN13 := Lib.hid (HN13.out.below hb)
  have HN14 := Lib.hid (HN14.out.below hb)
  have HN15 := Lib.hid (HN15.out.below hb)
  have g16 := keep_cell hb g16
  have e16 := keep_cell hb e16
  clear hb 
  go_wp2_with fail
  (with_reducible refine (iis_of (b := true) (decide_eq_true ((by decide))) (law7_is hTb HIC.out (rI (((-7) : Int)) (((2) : Int))) (1) b4 B4 m4 d4 _ HN4.out (by have := Sz.words HZ4.out HN4.out.words; omega) (HT.out _ hB) (by decide) (by decide))).mono ?_)
  rintro e wc15 ⟨rfl, hb⟩
  have hB := keep_below hB hb
  have HN1 := Lib.hid (HN1.out.below hb)
  have HN2 := Lib.hid (HN2.out.below hb)
  have HN3 := Lib.hid (HN3.out.below hb)
  have HN4 := Lib.hid (HN4.out.below hb)
  have g5 := keep_cell hb g5
  have e5 := keep_cell hb e5
  have g6 := keep_cell hb g6
  have e6 := keep_cell hb e6
  have HN7 := Lib.hid (HN7.out.below hb)
  have HN8 := Lib.hid (HN8.out.below hb)
  have HN9 := Lib.hid (HN9.out.below hb)
  have HN10 := Lib.hid (HN10.out.below hb)
  have g11 := keep_cell hb g11
  have e11 := keep_cell hb e11
  have g12 := keep_cell hb g12
  have e12 := keep_cell hb e12
  have HN13 := Lib.hid (HN13.out.below hb)
  have HN14 := Lib.hid (HN14.out.below hb)
  have HN15 := Lib.hid (HN15.out.below hb)
  have g16 := keep_cell hb g16
  have e16 := keep_cell hb e16
  clear hb 
  go_wp2_with fail
  (with_reducible refine (iis_of (b := true) (decide_eq_true ((by decide))) (law7_is hTb HIC.out (qI (((7) : Int)) (((-2) : Int))) (-4) b9 B9 m9 d9 _ HN9.out (by have := Sz.words HZ9.out HN9.out.words; omega) (HT.out _ hB) (by decide) (by decide))).mono ?_)
  rintro e wc16 ⟨rfl, hb⟩
  have hB := keep_below hB hb
  have HN1 := Lib.hid (HN1.out.below hb)
  have HN2 := Lib.hid (HN2.out.below hb)
  have HN3 := Lib.hid (HN3.out.below hb)
  have HN4 := Lib.hid (HN4.out.below hb)
  have g5 := keep_cell hb g5
  have e5 := keep_cell hb e5
  have g6 := keep_cell hb g6
  have e6 := keep_cell hb e6
  have HN7 := Lib.hid (HN7.out.below hb)
  have HN8 := Lib.hid (HN8.out.below hb)
  have HN9 := Lib.hid (HN9.out.below hb)
  have HN10 := Lib.hid (HN10.out.below hb)
  have g11 := keep_cell hb g11
  have e11 := keep_cell hb e11
  have g12 := keep_cell hb g12
  have e12 := keep_cell hb e12
  have HN13 := Lib.hid (HN13.out.below hb)
  have HN14 := Lib.hid (HN14.out.below hb)
  have HN15 := Lib.hid (HN15.out.below hb)
  have g16 := keep_cell hb g16
  have e16 := keep_cell hb e16
  clear hb 
  go_wp2_with fail
  (with_reducible refine (iis_of (b := true) (decide_eq_true ((by decide))) (law7_is hTb HIC.out (rI (((7) : Int)) (((-2) : Int))) (-1) b10 B10 m10 d10 _ HN10.out (by have := Sz.words HZ10.out HN10.out.words; omega) (HT.out _ hB) (by decide) (by decide))).mono ?_)
  rintro e wc17 ⟨rfl, hb⟩
  have hB := keep_below hB hb
  have HN1 := Lib.hid (HN1.out.below hb)
  have HN2 := Lib.hid (HN2.out.below hb)
  have HN3 := Lib.hid (HN3.out.below hb)
  have HN4 := Lib.hid (HN4.out.below hb)
  have g5 := keep_cell hb g5
  have e5 := keep_cell hb e5
  have g6 := keep_cell hb g6
  have e6 := keep_cell hb e6
  have HN7 := Lib.hid (HN7.out.below hb)
  have HN8 := Lib.hid (HN8.out.below hb)
  have HN9 := Lib.hid (HN9.out.below hb)
  have HN10 := Lib.hid (HN10.out.below hb)
  have g11 := keep_cell hb g11
  have e11 := keep_cell hb e11
  have g12 := keep_cell hb g12
  have e12 := keep_cell hb e12
  have HN13 := Lib.hid (HN13.out.below hb)
  have HN14 := Lib.hid (HN14.out.below hb)
  have HN15 := Lib.hid (HN15.out.below hb)
  have g16 := keep_cell hb g16
  have e16 := keep_cell hb e16
  clear hb 
  go_wp2_with fail
  have HZ17 : Hid (Sz (1) (((-12) : Int)).natAbs) := (by show ((-12) : Int).natAbs < _; decide)
  (with_reducible refine (HIC.out.of (-12) _ (HT.out _ hB) (by decide) (by decide)).mono ?_)
  rintro e wc18 ⟨b17, B17, m17, d17, rfl, hw17, hb⟩
  have hB := keep_below hB hb
  have HN1 := Lib.hid (HN1.out.below hb)
  have HN2 := Lib.hid (HN2.out.below hb)
  have HN3 := Lib.hid (HN3.out.below hb)
  have HN4 := Lib.hid (HN4.out.below hb)
  have g5 := keep_cell hb g5
  have e5 := keep_cell hb e5
  have g6 := keep_cell hb g6
  have e6 := keep_cell hb e6
  have HN7 := Lib.hid (HN7.out.below hb)
  have HN8 := Lib.hid (HN8.out.below hb)
  have HN9 := Lib.hid (HN9.out.below hb)
  have HN10 := Lib.hid (HN10.out.below hb)
  have g11 := keep_cell hb g11
  have e11 := keep_cell hb e11
  have g12 := keep_cell hb g12
  have e12 := keep_cell hb e12
  have HN13 := Lib.hid (HN13.out.below hb)
  have HN14 := Lib.hid (HN14.out.below hb)
  have HN15 := Lib.hid (HN15.out.below hb)
  have g16 := keep_cell hb g16
  have e16 := keep_cell hb e16
  have HN17 := Lib.hid hw17
  clear hb hw17
  go_wp2_with fail
  (with_reducible refine (itext_of (HS1.out) (HIC.out.text (((-12) : Int)) b17 B17 m17 d17 _ (HT.out _ hB) HN17.out (by have := Sz.words HZ17.out HN17.out.words; omega))).mono ?_)
  rintro e wc19 ⟨rfl, hb⟩
  have hB := keep_below hB hb
  have HN1 := Lib.hid (HN1.out.below hb)
  have HN2 := Lib.hid (HN2.out.below hb)
  have HN3 := Lib.hid (HN3.out.below hb)
  have HN4 := Lib.hid (HN4.out.below hb)
  have g5 := keep_cell hb g5
  have e5 := keep_cell hb e5
  have g6 := keep_cell hb g6
  have e6 := keep_cell hb e6
  have HN7 := Lib.hid (HN7.out.below hb)
  have HN8 := Lib.hid (HN8.out.below hb)
  have HN9 := Lib.hid (HN9.out.below hb)
  have HN10 := Lib.hid (HN10.out.below hb)
  have g11 := keep_cell hb g11
  have e11 := keep_cell hb e11
  have g12 := keep_cell hb g12
  have e12 := keep_cell hb e12
  have HN13 := Lib.hid (HN13.out.below hb)
  have HN14 := Lib.hid (HN14.out.below hb)
  have HN15 := Lib.hid (HN15.out.below hb)
  have g16 := keep_cell hb g16
  have e16 := keep_cell hb e16
  have HN17 := Lib.hid (HN17.out.below hb)
  clear hb 
  go_wp2
  go_ret
  exact ⟨by first | rfl | simp, hB⟩
end Go.Proofs.Ytnfednkphcapnaa
