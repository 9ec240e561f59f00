/-
  The reference's numbers of the words that came in; how many digits numbers have. Conditions: none beyond each lemma's own.
  The contract of the law's Like (actuarylaw02): is a number the reference's? Conditions: both are one number; lengths up to 2 to the 40.
-/
import Derived.Test.YtnfednkphcapnaaRows
import Derived.Test.YtnfednkphcapnaaBunN
import Derived.Test.YtnfednkphcapnaaBunR
import Derived.WalkKit
import Derived.Lib.Hide
import Derived.Outline
namespace Go.Proofs.Ytnfednkphcapnaa
open Go Go.RowKit
set_option linter.unusedVariables false
theorem arg_ref2 {w : World} {A : Option Addr} {n c : Nat} {l : List Nat} (h : ArgWords w A n c l) : ∀ w', Below w.heap.size w w' → Calls Try.prog 39 #[.slice A n c] w' (Gives16 w' (dv 18446744073709551616 l)) := fun w' hb =>
  ref2_of A n c l w' ((h.reads.below hb).more hb.size) h.dgs (by have := h.small; have := h.fits; omega)
theorem Sz.len16' {K x : Nat} (h : Sz K x) : (dg 65536 x).length ≤ 4 * K := dg_len_le (by decide) _ _ (by rw [pow_four]; exact h)
theorem Sz.holds' {K x : Nat} (h : Sz K x) {w : World} {A : Option Addr} {n c : Nat} (hw : Holds16 w x A n c) : n ≤ 4 * K := by rw [hw.len]; exact h.len16'
/-- The reference's number, of words written out. -/
theorem ref_lit (cs : Array Value) (l : List Nat) (w : World) (g n x : Nat) (hk : Blk w g 77 cs) (hn : cs.size = n) (hv : cs.toList = vals .u64 l) (hd : Dgs 18446744073709551616 l) (hx : dv 18446744073709551616 l = x) (hs : n ≤ 1000) :
    Calls Try.prog 39 #[.slice (some ⟨g, 0, none⟩) n n] w (Gives16 w x) := by
  have hl : l.length = n := by
    have h := congrArg List.length hv
    rw [vals_length] at h
    rw [← h]; simpa using hn
  have := ref2_of (some ⟨g, 0, none⟩) n n l w (blk_reads hk hn (by rw [hv, List.take_of_length_le (by rw [vals_length]; omega)]) hl) hd (by omega)
  rw [hx] at this
  exact this
end Go.Proofs.Ytnfednkphcapnaa
namespace Go.Proofs.Ytnfednkphcapnaa
open Go Go.RowKit
set_option maxRecDepth 100000
set_option linter.unusedVariables false
def SaysYes (w : World) (e : Ending) (w' : World) : Prop := e = .returned (.bool true) ∧ Below w.heap.size w w'
set_option maxHeartbeats 4000000 in
theorem law2_like (x : Nat) (A D : Option Addr) (n c m d : Nat) (w : World) (hA : WordsIn w x A n c) (hD : Holds16 w x D m d) (hn : n ≤ 1099511627776) (hm : m ≤ 1099511627776) :
    Calls Try.prog 41 #[.agg #[.slice A n c], .slice D m d] w (SaysYes w) := by
  have HW := (fun w' (hb : Below w.heap.size w w') => nat_words x A n c w' (hA.below hb) hn)
  have HR := Lib.hid (fun w' (hb : Below w.heap.size w w') => ref2_words x D m d w' (hD.below hb) hm)
  have HI := Lib.hid (fun w' (hb : Below w.heap.size w w') A1 c1 (h : Reads w' w'.heap.size 1 A1 n (vals .u64 (dg 18446744073709551616 x))) => ref2_is x D A1 m d n c1 w' (hD.below hb) hm h hn)
  have hlen := hA.len
  unfold GivesW at HW HR
  rw [hlen] at HW HR
  have HWS := Lib.hid HW
  have HRS := Lib.hid HR
  clear HW HR hlen hA hD
  go_enter Try.func41, Try.ntmps41
  go_wp2_with fail
  obtain ⟨b1, b2, b5⟩ := box1 w 27 #[.slice A n c]
  refine (HWS.out _ b1).mono ?_
  rintro e w1 ⟨A1, c1, rfl, hr1, h1, ⟨h2, _⟩, hb⟩
  have hB := keep_below b1 hb
  have g1 : w1.cell? ⟨w.heap.size, 0, none⟩ = some (.slice A n c) := keep_cell hb (b2.cell 0)
  clear hb b1 b2 b5
  go_wp2_with fail
  refine (HI.out _ hB A1 c1 hr1).mono ?_
  rintro e w2 ⟨rfl, hb⟩
  have hB := keep_below hB hb
  have g1 := keep_cell hb g1
  clear hb hr1
  go_wp2_with fail
  refine (nat_len x _ _ _ _).mono ?_
  rintro e w3 ⟨rfl, hb⟩
  have hB := keep_below hB hb
  clear hb g1
  go_wp2_with fail
  refine (HRS.out _ hB).mono ?_
  rintro e w4 ⟨A2, c2, rfl, _, _, _, hb⟩
  have hB := keep_below hB hb
  clear hb
  go_wp2
  go_ret
  exact ⟨rfl, hB⟩
end Go.Proofs.Ytnfednkphcapnaa
