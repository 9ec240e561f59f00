/- What this claim leans on. -/
import Derived.Test.YtgigccjiblaefaaGreatDoorOJ8Add
import Derived.Test.YtgigccjiblaefaaGreatDoorOBunU
import Derived.Test.YtgigccjiblaefaaGreatDoorOJ8Min
namespace Go.Proofs.YtgigccjiblaefaaGreatDoor
open Go Go.RowKit
set_option maxHeartbeats 16000000
set_option linter.unusedVariables false
theorem arg_ref2 {w : World} {A : oA9} {n c : Nat} {l : List Nat} (h : zau w A n c l) : ∀ w',Below w.heap.size w w' → Calls Tryz.prog 63 #[.slice A n c] w' (zbf w' (dv 18446744073709551616 l)) := fun w' hb =>
 zhV A n c l w' ((h.reads.below hb).more hb.size) h.dgs (by have := h.small; have := h.fits; omega)
theorem Sz.len16' {K x : Nat} (h : Sz K x) : (dg 65536 x).length ≤ 4 * K := zaB (by decide) _ _ (by rw [zeh]; exact h)
theorem Sz.holds' {K x : Nat} (h : Sz K x) {w : World} {A : oA9} {n c : Nat} (hw : zal w x A n c) : n ≤ 4 * K := by rw [hw.len]; exact h.len16'
set_option maxRecDepth 100000
def SaysYes (w : World) (e : Ending) (w' : World) : Prop := e = .returned (.bool true) ∧ Below w.heap.size w w'
theorem zcI (x : Nat) (A D : oA9) (n c m d : Nat) (w : World) (hA : zah w x A n c) (hD : zal w x D m d) (hn : n ≤ 1099511627776) (hm : m ≤ 1099511627776) :
  Calls Tryz.prog 65 #[.agg #[.slice A n c],.slice D m d] w (SaysYes w) := by
 have HW := (fun w' (hb : Below w.heap.size w w') => zbO x A n c w' (hA.below hb) hn)
 have HR := lh9 (fun w' (hb : Below w.heap.size w w') => zge x D m d w' (hD.below hb) hm)
 have HI := lh9 (fun w' (hb : Below w.heap.size w w') A1 c1 (h : zaq w' w'.heap.size 1 A1 n (zas .u64 (dg 18446744073709551616 x))) => ref2_is x D A1 m d n c1 w' (hD.below hb) hm h hn)
 have hlen := hA.len
 unfold zdr at HW HR
 rw [hlen] at HW HR
 have HWS := lh9 HW
 have HRS := lh9 HR
 clear HW HR hlen hA hD
 go_enter Tryz.func65,Tryz.ntmps65
 go_wp2_with fail
 obtain ⟨b1,b2,b5⟩ := zbm w 27 #[.slice A n c]
 refine (HWS.out _ b1).mono ?_
 rintro e w1 ⟨A1,c1,rfl,hr1,h1,⟨h2,_⟩,hb⟩
 have hB := zad b1 hb
 have g1 : w1.cell? ⟨w.heap.size,0,none⟩ = some (.slice A n c) := zac hb (b2.cell 0)
 clear hb b1 b2 b5
 go_wp2_with fail
 refine (HI.out _ hB A1 c1 hr1).mono ?_
 rintro e w2 ⟨rfl,hb⟩
 have hB := zad hB hb
 have g1 := zac hb g1
 clear hb hr1
 go_wp2_with fail
 refine (zbe x _ _ _ _).mono ?_
 rintro e w3 ⟨rfl,hb⟩
 have hB := zad hB hb
 clear hb g1
 go_wp2_with fail
 refine (HRS.out _ hB).mono ?_
 rintro e w4 ⟨A2,c2,rfl,_,_,_,hb⟩
 have hB := zad hB hb
 clear hb
 go_wp2
 go_ret
 exact ⟨rfl,hB⟩
theorem ratC {T : World → Prop} {M : Nat → Prop} (hTT : ∀ w,T w → zao w) (h0 : M 0 → RatG0 T) (h1 : M 1 → RatG1 T) (h2 : M 2 → RatG2 T) : RatC T M where
 g0 := h0
 g1 := h1
 g2 := h2
 new p q b b' A D n m c d w hT hA hD hn hm h0 := zkY p q b A n c b' D m d w (hTT w hT) hA hD hn hm h0
 newNo p q b b' A D n m c d w hT hA hD hn hm h0 := zfU p q b A n c b' D m d w (hTT w hT) hA hD hn hm h0
 of p q w hT h1 h2 h3 h4 h0 := rat_of p q w (hTT w hT) h1 h2 h3 h4 h0
 ofNo p q w hT h1 h2 h0 := zlM p q w (hTT w hT) h1 h2 (by omega) (by omega) h0
 num r b A n c E k f w hT h hf := rat_num r b A n c E k f w (hTT w hT) h hf
 den r b A n c E k f w hT h hf := zhY r b A n c E k f w (hTT w hT) h hf
 sign r b A n c E k f w hT h hf := zgE r b A n c E k f w (hTT w hT) h hf
 zero r b A n c E k f w hT h hf := zbB r b A n c E k f w (hTT w hT) h hf
 isInt r b A n c E k f w hT h hf := zcc r b A n c E k f w (hTT w hT) h hf
 bits r b A n c E k f w hT h hf := rat_bits r b A n c E k f w (hTT w hT) h hf
 neg r b A n c E k f w hT h hf := zhE r b A n c E k f w (hTT w hT) h hf
 floor r b A n c E k f w hT h hf := zgP r b A n c E k f w (hTT w hT) h hf
 ceil r b A n c E k f w hT h hf := rat_ceil r b A n c E k f w (hTT w hT) h hf
 inv r b A n c E k f w hT h hf h0 := rat_inv r b A n c E k f w (hTT w hT) h hf h0
 invNo r b A n c E k f w hT h hf h0 := zkr r b A n c E k f w (hTT w hT) h hf h0
 add r s b b' A A' n n' c c' E E' k k' f f' w hT h h' hf hf' := zkF r s b A n c E k f b' A' n' c' E' k' f' w (hTT w hT) h h' hf hf'
 sub r s b b' A A' n n' c c' E E' k k' f f' w hT h h' hf hf' := rat_sub r s b A n c E k f b' A' n' c' E' k' f' w (hTT w hT) h h' hf hf'
 cmp r s b b' A A' n n' c c' E E' k k' f f' w hT h h' hf hf' := zeT r s b A n c E k f b' A' n' c' E' k' f' w (hTT w hT) h h' hf hf'
 same r s b b' A A' n n' c c' E E' k k' f f' w hT h h' hf hf' := rat_same r s b A n c E k f b' A' n' c' E' k' f' w (hTT w hT) h h' hf hf'
theorem zft : (Rat.divInt 6 (-4)).num = -3 := by rw [Rat.num_divInt]; decide
theorem zfT : (Rat.divInt 6 (-4)).den = 2 := by rw [Rat.den_divInt]; decide
theorem aw_ne : Rat.divInt 6 (-4) ≠ 0 := fun h => by
 have := congrArg Rat.num h
 rw [zft] at this
 exact absurd this (by decide)
theorem aw_floor : (Rat.divInt 6 (-4)).floor = -2 := by rw [Rat.floor_def,zft,zfT]; decide
theorem aw_ceil : (Rat.divInt 6 (-4)).ceil = -1 := by rw [Rat.ceil_eq_neg_floor_neg,Rat.floor_def,Rat.neg_num,Rat.neg_den,zft,zfT]; decide
theorem aw_inv : (Rat.divInt 6 (-4))⁻¹.num = -2 := by rw [Rat.num_inv,zft,zfT]; decide
theorem aw_sum : Rat.divInt 1 2 + Rat.divInt 1 3 = Rat.divInt 5 6 := by
 rw [Rat.divInt_add_divInt _ _ (by decide) (by decide)]; rfl
theorem aw_bits : ((bitLen (Rat.divInt 6 (-4)).num.natAbs + bitLen (Rat.divInt 6 (-4)).den : Nat) : Int) = 4 := by rw [zft,zfT]; decide
theorem aw_dg : dg 18446744073709551616 (Rat.divInt 6 (-4)).den = [2] := by rw [zfT]; exact zhs (by decide) (by decide)
theorem zhF (x y : Nat) (A D : oA9) (n m c d : Nat) (w : World) (hA : zal w x A n c) (hD : zal w y D m d) (hn : n ≤ 1073741824) (hm : m ≤ 1073741824) :
  Calls Tryz.prog 67 #[.slice A n c,.slice D m d] w (GivesH w (Nat.gcd x y)) := by
 by_cases hx : x = 0
 ·have e : n = 0 := by rw [hA.len,hx,zbT]; rfl
  have HD := lh9 hD
  have hg : Nat.gcd x y = y := by rw [hx,Nat.gcd_zero_left]
  rw [hg]
  subst e
  clear hA hD hx hg
  go_enter Tryz.func67,Tryz.ntmps67
  go_wp2
  go_ret
  exact ⟨D,m,d,rfl,HD.out,Below.refl _ _⟩
 ·by_cases hy : y = 0
  ·have e : m = 0 := by rw [hD.len,hy,zbT]; rfl
   have hn0 := zdk hA hx
   have z1 : ((n : Int) == 0) = false := by simp; omega
   have HA := lh9 hA
   have hg : Nat.gcd x y = x := by rw [hy,Nat.gcd_zero_right]
   rw [hg]
   subst e
   clear hA hD hx hy hg hn0
   go_enter Tryz.func67,Tryz.ntmps67
   go_wp2
   go_ret
   exact ⟨A,n,c,rfl,HA.out,Below.refl _ _⟩
  ·refine (ref5_gcd x y A D n m c d w hA hD hn hm hx hy).mono fun e w' hg => ?_
   obtain ⟨A',n',c',he,hh,hb⟩ := hg.elim
   exact ⟨A',n',c',he,hh,hb⟩
set_option linter.unusedSimpArgs false
theorem zhT (s : Bool) (A : oA9) (n c : Nat) (l : List Nat) (E : oA9) (u v : Nat) (e : List Nat) (w : World) (h1 : (n : Int) ≤ 4) (h2 : (u : Int) ≤ 4) :
  Calls Tryz.prog 19 #[.agg #[.bool s,.slice A n c,.slice E u v],.int .i64 4] w fun e w' => e = .returned (.bool true) ∧ Below w.heap.size w w' := by
 have hd1 : decide ((n : Int) ≤ 4) = true := by exact decide_eq_true h1
 have hd2 : decide ((u : Int) ≤ 4) = true := by exact decide_eq_true h2
 go_enter Tryz.func19,Tryz.ntmps19
 have hB := Below.refl w.heap.size w
 go_wp2
 go_ret
 exact ⟨by first | rfl | simp,hB.alloc (Nat.le_refl _) _⟩
theorem zhS (s : Bool) (A : oA9) (n c : Nat) (l : List Nat) (E : oA9) (u v : Nat) (e : List Nat) (w : World) (h1 : (n : Int) ≤ 4) (h2 : (u : Int) > 4) :
  Calls Tryz.prog 19 #[.agg #[.bool s,.slice A n c,.slice E u v],.int .i64 4] w fun e w' => e = .returned (.bool false) ∧ Below w.heap.size w w' := by
 have hd1 : decide ((n : Int) ≤ 4) = true := by exact decide_eq_true h1
 have hd2 : decide ((u : Int) ≤ 4) = false := by exact decide_eq_false (by omega)
 go_enter Tryz.func19,Tryz.ntmps19
 have hB := Below.refl w.heap.size w
 go_wp2
 go_ret
 exact ⟨by first | rfl | simp,hB.alloc (Nat.le_refl _) _⟩
theorem zib (s : Bool) (A : oA9) (n c : Nat) (l : List Nat) (E : oA9) (u v : Nat) (e : List Nat) (w : World) (h1 : (n : Int) > 4) :
  Calls Tryz.prog 19 #[.agg #[.bool s,.slice A n c,.slice E u v],.int .i64 4] w fun e w' => e = .returned (.bool false) ∧ Below w.heap.size w w' := by
 have hd1 : decide ((n : Int) ≤ 4) = false := by exact decide_eq_false (by omega)
 go_enter Tryz.func19,Tryz.ntmps19
 have hB := Below.refl w.heap.size w
 go_wp2
 go_ret
 exact ⟨by first | rfl | simp,hB.alloc (Nat.le_refl _) _⟩
theorem zfX (s : Bool) (A : oA9) (n c : Nat) (E : oA9) (u v : Nat) : ∃ t : Bool,∀ w : World,Calls Tryz.prog 19 #[.agg #[.bool s,.slice A n c,.slice E u v],.int .i64 4] w fun e w' => e = .returned (.bool t) ∧ Below w.heap.size w w' := by
 by_cases h1 : (n : Int) ≤ 4
 ·by_cases h2 : (u : Int) ≤ 4
  ·exact ⟨true,fun w => zhT s A n c [] E u v [] w h1 h2⟩
  ·exact ⟨false,fun w => zhS s A n c [] E u v [] w h1 (by omega)⟩
 ·exact ⟨false,fun w => zib s A n c [] E u v [] w (by omega)⟩
theorem ratG1 {T : World → Prop} (hTT : ∀ w,T w → zao w) : RatG1 T where
 min r s b b' A A' n n' c c' E E' k k' f f' w hT h h' hf hf' := rat_min r s b A n c E k f b' A' n' c' E' k' f' w (hTT w hT) h h' hf hf'
 max r s b b' A A' n n' c c' E E' k k' f f' w hT h h' hf hf' := rat_max r s b A n c E k f b' A' n' c' E' k' f' w (hTT w hT) h h' hf hf'
end Go.Proofs.YtgigccjiblaefaaGreatDoor
