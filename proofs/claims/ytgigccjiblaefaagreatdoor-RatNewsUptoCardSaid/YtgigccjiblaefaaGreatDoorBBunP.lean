/- What this claim leans on. -/
import Derived.Test.YtgigccjiblaefaaGreatDoorBJ8Add
import Derived.Test.YtgigccjiblaefaaGreatDoorBJ8Ord
namespace Go.Proofs.YtgigccjiblaefaaGreatDoor
open Go Go.RowKit
set_option linter.unusedVariables false
theorem arg_ref2 {w : World} {A : Option Addr} {n c : Nat} {l : List Nat} (h : zaL w A n c l) : ∀ w', Below w.heap.size w w' → Calls Tryz.prog 63 #[.slice A n c] w' (zbc w' (dv 18446744073709551616 l)) := fun w' hb =>
 ref2_of A n c l w' ((h.reads.below hb).more hb.size) h.dgs (by have := h.small; have := h.fits; omega)
theorem Sz.len16' {K x : Nat} (h : Sz K x) : (dg 65536 x).length ≤ 4 * K := zaX (by decide) _ _ (by rw [zdM]; exact h)
theorem Sz.holds' {K x : Nat} (h : Sz K x) {w : World} {A : Option Addr} {n c : Nat} (hw : zal w x A n c) : n ≤ 4 * K := by rw [hw.len]; exact h.len16'
set_option maxRecDepth 100000
def SaysYes (w : World) (e : Ending) (w' : World) : Prop := e = .returned (.bool true) ∧ Below w.heap.size w w'
set_option maxHeartbeats 4000000 in
theorem zcx (x : Nat) (A D : Option Addr) (n c m d : Nat) (w : World) (hA : zag w x A n c) (hD : zal w x D m d) (hn : n ≤ 1099511627776) (hm : m ≤ 1099511627776) :
  Calls Tryz.prog 65 #[.agg #[.slice A n c], .slice D m d] w (SaysYes w) := by
 have HW := (fun w' (hb : Below w.heap.size w w') => zby x A n c w' (hA.below hb) hn)
 have HR := Lib.hid (fun w' (hb : Below w.heap.size w w') => zgb x D m d w' (hD.below hb) hm)
 have HI := Lib.hid (fun w' (hb : Below w.heap.size w w') A1 c1 (h : zap w' w'.heap.size 1 A1 n (zar .u64 (dg 18446744073709551616 x))) => ref2_is x D A1 m d n c1 w' (hD.below hb) hm h hn)
 have hlen := hA.len
 unfold zdn at HW HR
 rw [hlen] at HW HR
 have HWS := Lib.hid HW
 have HRS := Lib.hid HR
 clear HW HR hlen hA hD
 go_enter Tryz.func65, Tryz.ntmps65
 go_wp2_with fail
 obtain ⟨b1, b2, b5⟩ := zbf w 27 #[.slice A n c]
 refine (HWS.out _ b1).mono ?_
 rintro e w1 ⟨A1, c1, rfl, hr1, h1, ⟨h2, _⟩, hb⟩
 have hB := zad b1 hb
 have g1 : w1.cell? ⟨w.heap.size, 0, none⟩ = some (.slice A n c) := zac hb (b2.cell 0)
 clear hb b1 b2 b5
 go_wp2_with fail
 refine (HI.out _ hB A1 c1 hr1).mono ?_
 rintro e w2 ⟨rfl, hb⟩
 have hB := zad hB hb
 have g1 := zac hb g1
 clear hb hr1
 go_wp2_with fail
 refine (zaV x _ _ _ _).mono ?_
 rintro e w3 ⟨rfl, hb⟩
 have hB := zad hB hb
 clear hb g1
 go_wp2_with fail
 refine (HRS.out _ hB).mono ?_
 rintro e w4 ⟨A2, c2, rfl, _, _, _, hb⟩
 have hB := zad hB hb
 clear hb
 go_wp2
 go_ret
 exact ⟨rfl, hB⟩
theorem ratC {T : World → Prop} {M : Nat → Prop} (hTT : ∀ w, T w → zao w) (h0 : M 0 → RatG0 T) (h1 : M 1 → RatG1 T) : RatC T M where
 g0 := h0
 g1 := h1
 new p q b b' A D n m c d w hT hA hD hn hm h0 := zkb p q b A n c b' D m d w (hTT w hT) hA hD hn hm h0
 newNo p q b b' A D n m c d w hT hA hD hn hm h0 := zfL p q b A n c b' D m d w (hTT w hT) hA hD hn hm h0
 of p q w hT h1 h2 h3 h4 h0 := rat_of p q w (hTT w hT) h1 h2 h3 h4 h0
 ofNo p q w hT h1 h2 h0 := zkl p q w (hTT w hT) h1 h2 (by omega) (by omega) h0
 int z w hT h1 h2 := rat_int z w (hTT w hT) h1 h2
 whole z b A n c w hT h hn := zkP z b A n c w (hTT w hT) h hn
 num r b A n c E k f w hT h hf := rat_num r b A n c E k f w (hTT w hT) h hf
 den r b A n c E k f w hT h hf := zfo r b A n c E k f w (hTT w hT) h hf
 sign r b A n c E k f w hT h hf := zfB r b A n c E k f w (hTT w hT) h hf
 zero r b A n c E k f w hT h hf := zbq r b A n c E k f w (hTT w hT) h hf
 isInt r b A n c E k f w hT h hf := zbR r b A n c E k f w (hTT w hT) h hf
 bits r b A n c E k f w hT h hf := rat_bits r b A n c E k f w (hTT w hT) h hf
 neg r b A n c E k f w hT h hf := zgY r b A n c E k f w (hTT w hT) h hf
 abs r b A n c E k f w hT h hf := rat_abs r b A n c E k f w (hTT w hT) h hf
 floor r b A n c E k f w hT h hf := zgI r b A n c E k f w (hTT w hT) h hf
 ceil r b A n c E k f w hT h hf := rat_ceil r b A n c E k f w (hTT w hT) h hf
 inv r b A n c E k f w hT h hf h0 := rat_inv r b A n c E k f w (hTT w hT) h hf h0
 invNo r b A n c E k f w hT h hf h0 := zjo r b A n c E k f w (hTT w hT) h hf h0
 add r s b b' A A' n n' c c' E E' k k' f f' w hT h h' hf hf' := zjQ r s b A n c E k f b' A' n' c' E' k' f' w (hTT w hT) h h' hf hf'
 sub r s b b' A A' n n' c c' E E' k k' f f' w hT h h' hf hf' := rat_sub r s b A n c E k f b' A' n' c' E' k' f' w (hTT w hT) h h' hf hf'
 cmp r s b b' A A' n n' c c' E E' k k' f f' w hT h h' hf hf' := rat_cmp r s b A n c E k f b' A' n' c' E' k' f' w (hTT w hT) h h' hf hf'
 same r s b b' A A' n n' c c' E E' k k' f f' w hT h h' hf hf' := rat_same r s b A n c E k f b' A' n' c' E' k' f' w (hTT w hT) h h' hf hf'
end Go.Proofs.YtgigccjiblaefaaGreatDoor
