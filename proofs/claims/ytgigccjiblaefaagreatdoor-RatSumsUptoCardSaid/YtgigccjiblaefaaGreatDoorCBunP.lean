/- What this claim leans on. -/
import Derived.Test.YtgigccjiblaefaaGreatDoorCR5Gcd
import Derived.Test.YtgigccjiblaefaaGreatDoorCBunU
namespace Go.Proofs.YtgigccjiblaefaaGreatDoor
open Go Go.RowKit
set_option maxHeartbeats 16000000
set_option linter.unusedVariables false
theorem arg_ref2 {w : World} {A : oA9} {n c : Nat} {l : List Nat} (h : zaw w A n c l) : ∀ w',Below w.heap.size w w' → Calls Tryz.prog 63 #[.slice A n c] w' (zbg w' (dv 18446744073709551616 l)) := fun w' hb =>
 zhT A n c l w' ((h.reads.below hb).more hb.size) h.dgs (by have := h.small; have := h.fits; omega)
theorem Sz.len16' {K x : Nat} (h : Sz K x) : (dg 65536 x).length ≤ 4 * K := zaD (by decide) _ _ (by rw [zdV]; exact h)
theorem Sz.holds' {K x : Nat} (h : Sz K x) {w : World} {A : oA9} {n c : Nat} (hw : zaj w x A n c) : n ≤ 4 * K := by rw [hw.len]; exact h.len16'
set_option maxRecDepth 100000
def SaysYes (w : World) (e : Ending) (w' : World) : Prop := e = .returned (.bool true) ∧ Below w.heap.size w w'
theorem zcI (x : Nat) (A D : oA9) (n c m d : Nat) (w : World) (hA : zag w x A n c) (hD : zaj w x D m d) (hn : n ≤ 1099511627776) (hm : m ≤ 1099511627776) :
  Calls Tryz.prog 65 #[.agg #[.slice A n c],.slice D m d] w (SaysYes w) := by
 have HW := (fun w' (hb : Below w.heap.size w w') => zbL x A n c w' (hA.below hb) hn)
 have HR := lh9 (fun w' (hb : Below w.heap.size w w') => zfV x D m d w' (hD.below hb) hm)
 have HI := lh9 (fun w' (hb : Below w.heap.size w w') A1 c1 (h : zar w' w'.heap.size 1 A1 n (zas .u64 (dg 18446744073709551616 x))) => ref2_is x D A1 m d n c1 w' (hD.below hb) hm h hn)
 have hlen := hA.len
 unfold zdD at HW HR
 rw [hlen] at HW HR
 have HWS := lh9 HW
 have HRS := lh9 HR
 clear HW HR hlen hA hD
 go_enter Tryz.func65,Tryz.ntmps65
 go_wp2_with fail
 obtain ⟨b1,b2,b5⟩ := zbd w 27 #[.slice A n c]
 refine (HWS.out _ b1).mono ?_
 rintro e w1 ⟨A1,c1,rfl,hr1,h1,⟨h2,_⟩,hb⟩
 have hB := zad b1 hb
 have g1 : w1.cell? ⟨w.heap.size,0,none⟩ = some (.slice A n c) := zac hb (b2.cell 0)
 clear hb b1 b2 b5
 go_wp2_with fail
 refine (HI.out _ hB A1 c1 hr1).mono ?_
 rintro e w2 ⟨rfl,hb⟩
 have hB := zad hB hb
 have g1 := zac hb g1
 clear hb hr1
 go_wp2_with fail
 refine (zbe x _ _ _ _).mono ?_
 rintro e w3 ⟨rfl,hb⟩
 have hB := zad hB hb
 clear hb g1
 go_wp2_with fail
 refine (HRS.out _ hB).mono ?_
 rintro e w4 ⟨A2,c2,rfl,_,_,_,hb⟩
 have hB := zad hB hb
 clear hb
 go_wp2
 go_ret
 exact ⟨rfl,hB⟩
def zch (w : World) (x : Nat) (e : Ending) (w' : World) : Prop := ∃ (A : oA9) (n c : Nat),e = .returned (.agg #[.slice A n c]) ∧ zag w' x A n c ∧ Below w.heap.size w w'
def zhO (w : World) (x y : Nat) (e : Ending) (w' : World) : Prop := ∃ (A : oA9) (n c : Nat) (B : oA9) (m d : Nat),e = .returned (.tuple #[.agg #[.slice A n c],.agg #[.slice B m d]]) ∧ zag w' x A n c ∧ zag w' y B m d ∧ Below w.heap.size w w'
def copB (x y : Nat) : Bool := decide (Nat.gcd x y = 1)
theorem Sz.gcd {K K' x y : Nat} (h : Sz K x) (h' : Sz K' y) : Sz (K + K') (Nat.gcd x y) := by
 rcases Nat.eq_zero_or_pos x with e | e
 ·rw [e,Nat.gcd_zero_left]; exact h'.up (by omega)
 ·exact (h.of_le (Nat.gcd_le_left y e)).up (by omega)
structure GcdC : Prop where
 of : ∀ (x y : Nat) (A D : oA9) (n m c d : Nat) (w : World),zag w x A n c → zag w y D m d → n ≤ 1073741824 → m ≤ 1073741824 → zao w → Calls Tryz.prog 89 #[.agg #[.slice A n c],.agg #[.slice D m d]] w (zch w (Nat.gcd x y))
 coprime : ∀ (x y : Nat) (A D : oA9) (n m c d : Nat) (w : World),zag w x A n c → zag w y D m d → n ≤ 1073741824 → m ≤ 1073741824 → zao w → Calls Tryz.prog 46 #[.agg #[.slice A n c],.agg #[.slice D m d]] w fun e w' => e = .returned (.bool (copB x y)) ∧ Below w.heap.size w w'
 reduce : ∀ (x y : Nat) (A D : oA9) (n m c d : Nat) (w : World),zag w x A n c → zag w y D m d → n ≤ 1073741824 → m ≤ 1073741824 → zao w → Calls Tryz.prog 58 #[.agg #[.slice A n c],.agg #[.slice D m d]] w (zhO w (x / Nat.gcd x y) (y / Nat.gcd x y))
theorem zhR (x y : Nat) (A D : oA9) (n m c d : Nat) (w : World) (hA : zaj w x A n c) (hD : zaj w y D m d) (hn : n ≤ 1073741824) (hm : m ≤ 1073741824) :
  Calls Tryz.prog 67 #[.slice A n c,.slice D m d] w (GivesH w (Nat.gcd x y)) := by
 by_cases hx : x = 0
 ·have e : n = 0 := by rw [hA.len,hx,zbW]; rfl
  have HD := lh9 hD
  have hg : Nat.gcd x y = y := by rw [hx,Nat.gcd_zero_left]
  rw [hg]
  subst e
  clear hA hD hx hg
  go_enter Tryz.func67,Tryz.ntmps67
  go_wp2
  go_ret
  exact ⟨D,m,d,rfl,HD.out,Below.refl _ _⟩
 ·by_cases hy : y = 0
  ·have e : m = 0 := by rw [hD.len,hy,zbW]; rfl
   have hn0 := zdl hA hx
   have z1 : ((n : Int) == 0) = false := by simp; omega
   have HA := lh9 hA
   have hg : Nat.gcd x y = x := by rw [hy,Nat.gcd_zero_right]
   rw [hg]
   subst e
   clear hA hD hx hy hg hn0
   go_enter Tryz.func67,Tryz.ntmps67
   go_wp2
   go_ret
   exact ⟨A,n,c,rfl,HA.out,Below.refl _ _⟩
  ·refine (ref5_gcd x y A D n m c d w hA hD hn hm hx hy).mono fun e w' hg => ?_
   obtain ⟨A',n',c',he,hh,hb⟩ := hg.elim
   exact ⟨A',n',c',he,hh,hb⟩
end Go.Proofs.YtgigccjiblaefaaGreatDoor
