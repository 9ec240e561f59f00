/- What this claim leans on. -/
import Derived.Test.YtgigccjiblaefaaGreatDoorCJ8Add
import Derived.Test.YtgigccjiblaefaaGreatDoorCJ8Ord
import Derived.Test.YtgigccjiblaefaaGreatDoorCJ8Mul
namespace Go.Proofs.YtgigccjiblaefaaGreatDoor
open Go Go.RowKit
set_option maxHeartbeats 16000000
set_option linter.unusedVariables false
theorem ratC {T : World → Prop} {M : Nat → Prop} (hTT : ∀ w,T w → zao w) (h0 : M 0 → RatG0 T) (h1 : M 1 → RatG1 T) (h2 : M 2 → RatG2 T) : RatC T M where
 g0 := h0
 g1 := h1
 g2 := h2
 new p q b b' A D n m c d w hT hA hD hn hm h0 := zkt p q b A n c b' D m d w (hTT w hT) hA hD hn hm h0
 newNo p q b b' A D n m c d w hT hA hD hn hm h0 := zgj p q b A n c b' D m d w (hTT w hT) hA hD hn hm h0
 of p q w hT h1 h2 h3 h4 h0 := rat_of p q w (hTT w hT) h1 h2 h3 h4 h0
 ofNo p q w hT h1 h2 h0 := zlD p q w (hTT w hT) h1 h2 (by omega) (by omega) h0
 num r b A n c E k f w hT h hf := rat_num r b A n c E k f w (hTT w hT) h hf
 den r b A n c E k f w hT h hf := zhq r b A n c E k f w (hTT w hT) h hf
 sign r b A n c E k f w hT h hf := zge r b A n c E k f w (hTT w hT) h hf
 zero r b A n c E k f w hT h hf := zaU r b A n c E k f w (hTT w hT) h hf
 isInt r b A n c E k f w hT h hf := zbi r b A n c E k f w (hTT w hT) h hf
 bits r b A n c E k f w hT h hf := rat_bits r b A n c E k f w (hTT w hT) h hf
 neg r b A n c E k f w hT h hf := zhp r b A n c E k f w (hTT w hT) h hf
 floor r b A n c E k f w hT h hf := zhd r b A n c E k f w (hTT w hT) h hf
 ceil r b A n c E k f w hT h hf := rat_ceil r b A n c E k f w (hTT w hT) h hf
 inv r b A n c E k f w hT h hf h0 := zku r b A n c E k f w (hTT w hT) h hf h0
 invNo r b A n c E k f w hT h hf h0 := zgf r b A n c E k f w (hTT w hT) h hf h0
 add r s b b' A A' n n' c c' E E' k k' f f' w hT h h' hf hf' := zky r s b A n c E k f b' A' n' c' E' k' f' w (hTT w hT) h h' hf hf'
 sub r s b b' A A' n n' c c' E E' k k' f f' w hT h h' hf hf' := rat_sub r s b A n c E k f b' A' n' c' E' k' f' w (hTT w hT) h h' hf hf'
 cmp r s b b' A A' n n' c c' E E' k k' f f' w hT h h' hf hf' := rat_cmp r s b A n c E k f b' A' n' c' E' k' f' w (hTT w hT) h h' hf hf'
 same r s b b' A A' n n' c c' E E' k k' f f' w hT h h' hf hf' := rat_same r s b A n c E k f b' A' n' c' E' k' f' w (hTT w hT) h h' hf hf'
set_option maxRecDepth 100000
set_option linter.unusedSimpArgs false
theorem law8_is {T : World → Prop} {M : Nat → Prop} (hTb : ∀ w w',T w → Below w.heap.size w w' → T w') (IC : IntC T) (QC : RatC T M) (p q : Int) (r : Rat) (K : Nat) (bx : Bool) (Bx : oA9) (mx dx : Nat) (Ex : oA9) (ux vx : Nat) (w : World) (hK : K ≤ 16777216) (hz : SzQ K r) (h : zam w r bx Bx mx dx Ex ux vx) (hT : T w) (hp1 : -9223372036854775808 ≤ p) (hp2 : p ≤ 9223372036854775807) (hq1 : -9223372036854775808 ≤ q) (hq2 : q ≤ 9223372036854775807) (hq0 : q ≠ 0) (he : r = Rat.divInt p q) :
  Calls Tryz.prog 42 #[.agg #[.bool bx,.slice Bx mx dx,.slice Ex ux vx],.int .i64 p,.int .i64 q] w fun e w' => e = .returned (.bool true) ∧ Below w.heap.size w w' := by
 have HIC := lh9 IC
 have HQC := lh9 QC
 have HT := lh9 (fun w' (hb : Below w.heap.size w w') => hTb w w' hT hb)
 have HE := lh9 he
 have HZx := lh9 hz
 have HNx := lh9 h
 clear IC QC hT he hz h
 go_enter Tryz.func42,Tryz.ntmps42
 have hB := Below.refl w.heap.size w
 obtain ⟨bx1,bx2,bz⟩ := zbd w 31 #[.bool bx,.slice Bx mx dx,.slice Ex ux vx]
 have hB := zad hB bx1
 have HNx := lh9 (HNx.out.below bx1)
 obtain ⟨g1,e1,i1⟩ := bx2.c3
 clear bx1 bx2 bz
 go_wp2_with fail
 generalize w.alloc (.cells #[.bool bx,.slice Bx mx dx,.slice Ex ux vx] 31) = W1 at *
 have HZ2 : Hid (SzQ (1) (Rat.divInt p q)) := SzQ.made (K := 1) (by show Int.natAbs p < 18446744073709551616 ^ 1; have e1 : -9223372036854775808 ≤ p := hp1; have e2 : p ≤ 9223372036854775807 := hp2; omega) (by show Int.natAbs q < 18446744073709551616 ^ 1; have e1 : -9223372036854775808 ≤ q := hq1; have e2 : q ≤ 9223372036854775807 := hq2; omega) (by decide)
 (with_reducible refine (HQC.out.of p q _ (HT.out _ hB) hp1 hp2 hq1 hq2 hq0).mono ?_)
 rintro e wc2 ⟨b2,B2,m2,d2,E2,u2,v2,rfl,hw2,hb⟩
 have hB := zad hB hb
 have HNx := lh9 (HNx.out.below hb)
 have g1 := zac hb g1
 have e1 := zac hb e1
 have i1 := zac hb i1
 have HN2 := lh9 hw2
 clear hb hw2
 obtain ⟨bx1,bx2,bz⟩ := zbd wc2 31 #[.bool b2,.slice B2 m2 d2,.slice E2 u2 v2]
 have hB := zad hB bx1
 have HNx := lh9 (HNx.out.below bx1)
 have g1 := zac bx1 g1
 have e1 := zac bx1 e1
 have i1 := zac bx1 i1
 have HN2 := lh9 (HN2.out.below bx1)
 obtain ⟨g3,e3,i3⟩ := bx2.c3
 clear bx1 bx2 bz
 go_wp2_with fail
 generalize wc2.alloc (.cells #[.bool b2,.slice B2 m2 d2,.slice E2 u2 v2] 31) = W3 at *
 generalize wc2.heap.size = q3 at *
 have C0 := lh9 (fun w' (h : Below W3.heap.size W3 w') => zav (decide_eq_true HE.out) (HQC.out.same (r) (Rat.divInt p q) bx b2 Bx B2 mx m2 dx d2 Ex E2 ux u2 vx v2 w' (HT.out _ (zad hB h)) (HNx.out.below h) (HN2.out.below h) (szq HZx HNx.out) (szq HZ2 HN2.out)))
 have HZ4 : Hid (Sz (K) (r.num).natAbs) := SzQ.num HZx.out
 have C1 := lh9 (fun w' (h : Below W3.heap.size W3 w') => HQC.out.num (r) bx Bx mx dx Ex ux vx w' (HT.out _ (zad hB h)) (HNx.out.below h) (szq HZx HNx.out))
 have HZ5 : Hid (Sz (1) ((Rat.divInt p q).num).natAbs) := SzQ.num HZ2.out
 have C2 := lh9 (fun w' (h : Below W3.heap.size W3 w') => HQC.out.num (Rat.divInt p q) b2 B2 m2 d2 E2 u2 v2 w' (HT.out _ (zad hB h)) (HN2.out.below h) (szq HZ2 HN2.out))
 have C3 := lh9 (fun w' (h : Below W3.heap.size W3 w') b4 B4 m4 d4 (hw4 : zau w' (r.num) b4 B4 m4 d4) b5 B5 m5 d5 (hw5 : zau w' ((Rat.divInt p q).num) b5 B5 m5 d5) => zeX (by rw [HE.out]) (HIC.out.cmp (r.num) ((Rat.divInt p q).num) b4 b5 B4 B5 m4 m5 d4 d5 w' (HT.out _ (zad hB h)) hw4 hw5 (by have := Sz.words HZ4.out hw4.words; omega) (by have := Sz.words HZ5.out hw5.words; omega)))
 have HZ6 : Hid (Sz (K) (r.den)) := SzQ.den HZx.out
 have C4 := lh9 (fun w' (h : Below W3.heap.size W3 w') => HQC.out.den (r) bx Bx mx dx Ex ux vx w' (HT.out _ (zad hB h)) (HNx.out.below h) (szq HZx HNx.out))
 have HZ7 : Hid (Sz (1) ((Rat.divInt p q).den)) := SzQ.den HZ2.out
 have C5 := lh9 (fun w' (h : Below W3.heap.size W3 w') => HQC.out.den (Rat.divInt p q) b2 B2 m2 d2 E2 u2 v2 w' (HT.out _ (zad hB h)) (HN2.out.below h) (szq HZ2 HN2.out))
 have C6 := lh9 (fun w' (h : Below W3.heap.size W3 w') B6 m6 d6 (hw6 : zag w' (r.den) B6 m6 d6) B7 m7 d7 (hw7 : zag w' ((Rat.divInt p q).den) B7 m7 d7) => cmpEq (x := r.den) (y := (Rat.divInt p q).den) (by rw [HE.out]) hw6 hw7 (szw HZ6 hw6) (szw HZ7 hw7))
 have hBw := (Below.refl W3.heap.size W3).drew
 refine rg (csc g1 (csc e1 (csc i1 (csc g3 (csc e3 (csc i3 csn)))))) (fun hHeld => ?_)
 refine tk 0 ?_
 refine tk 1 ?_
 refine tk 2 ?_
 refine tk 3 ?_
 refine rc 4 (fun K hK => ?_)
 go_simp
 go_at_call 33; (with_reducible refine (C0.out _ hBw).mono ?_); rintro e wa4 ⟨rfl,hb⟩; have hBw := zad hBw hb; refine hK.out _ _ (Cs.below hHeld hb) (fun hHeld => ?_); clear hK K hb
 try simp only [sb9]
 refine tk 5 ?_
 refine tk 6 ?_
 refine tk 7 ?_
 refine tk 9 ?_
 refine rc 8 (fun K hK => ?_)
 go_simp
 go_at_call 17; (with_reducible refine (C1.out _ hBw).mono ?_); rintro e wa5 ⟨b4,B4,m4,d4,rfl,hw4,hb⟩; have hBw := zad hBw hb; refine hK.out _ _ (Cs.below hHeld hb) (fun hHeld => ?_); clear hK K hb
 try simp only [sb9]
 refine rc 10 (fun K hK => ?_)
 go_simp
 go_at_call 17; (with_reducible refine (C2.out _ hBw).mono ?_); rintro e wa6 ⟨b5,B5,m5,d5,rfl,hw5,hb⟩; have hBw := zad hBw hb; have hw4 := hw4.below hb; refine hK.out _ _ (Cs.below hHeld hb) (fun hHeld => ?_); clear hK K hb
 try simp only [sb9]
 refine rc 11 (fun K hK => ?_)
 go_simp
 go_at_call 43; (with_reducible refine (C3.out _ hBw _ _ _ _ hw4 _ _ _ _ hw5).mono ?_); rintro e wa7 ⟨rfl,hb⟩; have hBw := zad hBw hb; have hw4 := hw4.below hb; have hw5 := hw5.below hb; refine hK.out _ _ (Cs.below hHeld hb) (fun hHeld => ?_); clear hK K hb
 try simp only [sb9]
 refine tk 12 ?_
 refine tk 13 ?_
 refine tk 14 ?_
 refine tk 15 ?_
 refine tk 17 ?_
 refine rc 16 (fun K hK => ?_)
 go_simp
 go_at_call 45; (with_reducible refine (C4.out _ hBw).mono ?_); rintro e wa8 ⟨B6,m6,d6,rfl,hw6,hb⟩; have hBw := zad hBw hb; have hw4 := hw4.below hb; have hw5 := hw5.below hb; refine hK.out _ _ (Cs.below hHeld hb) (fun hHeld => ?_); clear hK K hb
 try simp only [sb9]
 refine rc 18 (fun K hK => ?_)
 go_simp
 go_at_call 45; (with_reducible refine (C5.out _ hBw).mono ?_); rintro e wa9 ⟨B7,m7,d7,rfl,hw7,hb⟩; have hBw := zad hBw hb; have hw4 := hw4.below hb; have hw5 := hw5.below hb; have hw6 := hw6.below hb; refine hK.out _ _ (Cs.below hHeld hb) (fun hHeld => ?_); clear hK K hb
 try simp only [sb9]
 refine rc 19 (fun K hK => ?_)
 go_simp
 go_at_call 44; (with_reducible refine (C6.out _ hBw _ _ _ hw6 _ _ _ hw7).mono ?_); rintro e wa10 ⟨rfl,hb⟩; have hBw := zad hBw hb; have hw4 := hw4.below hb; have hw5 := hw5.below hb; have hw6 := hw6.below hb; have hw7 := hw7.below hb; refine hK.out _ _ (Cs.below hHeld hb) (fun hHeld => ?_); clear hK K hb
 try simp only [sb9]
 refine tk 20 ?_
 refine tk 21 ?_
 refine tk 22 ?_
 refine rdn ?_
 have hB := zad hB hBw
 have HNx := lh9 (HNx.out.below hBw)
 have g1 := zac hBw g1
 have e1 := zac hBw e1
 have i1 := zac hBw i1
 have HN2 := lh9 (HN2.out.below hBw)
 have g3 := zac hBw g3
 have e3 := zac hBw e3
 have i3 := zac hBw i3
 have HN4 := lh9 hw4
 have HN5 := lh9 hw5
 have HN6 := lh9 hw6
 have HN7 := lh9 hw7
 clear hBw hHeld hw4 hw5 hw6 hw7 C0 C1 C2 C3 C4 C5 C6
 go_wp2
 go_ret
 exact ⟨by first | rfl | simp,hB⟩
theorem zfl : (Rat.divInt 6 (-4)).num = -3 := by rw [Rat.num_divInt]; decide
theorem zga : (Rat.divInt 6 (-4)).den = 2 := by rw [Rat.den_divInt]; decide
theorem aw_ne : Rat.divInt 6 (-4) ≠ 0 := fun h => by
 have := congrArg Rat.num h
 rw [zfl] at this
 exact absurd this (by decide)
theorem aw_floor : (Rat.divInt 6 (-4)).floor = -2 := by rw [Rat.floor_def,zfl,zga]; decide
theorem aw_ceil : (Rat.divInt 6 (-4)).ceil = -1 := by rw [Rat.ceil_eq_neg_floor_neg,Rat.floor_def,Rat.neg_num,Rat.neg_den,zfl,zga]; decide
theorem aw_inv : (Rat.divInt 6 (-4))⁻¹.num = -2 := by rw [Rat.num_inv,zfl,zga]; decide
theorem aw_sum : Rat.divInt 1 2 + Rat.divInt 1 3 = Rat.divInt 5 6 := by
 rw [Rat.divInt_add_divInt _ _ (by decide) (by decide)]; rfl
theorem aw_bits : ((bitLen (Rat.divInt 6 (-4)).num.natAbs + bitLen (Rat.divInt 6 (-4)).den : Nat) : Int) = 4 := by rw [zfl,zga]; decide
theorem aw_dg : dg 18446744073709551616 (Rat.divInt 6 (-4)).den = [2] := by rw [zga]; exact zif (by decide) (by decide)
theorem ratG0 {T : World → Prop} (hTT : ∀ w,T w → zao w) : RatG0 T where
 mul r s b b' A A' n n' c c' E E' k k' f f' w hT h h' hf hf' := zkC r s b A n c E k f b' A' n' c' E' k' f' w (hTT w hT) h h' hf hf'
 div r s b b' A A' n n' c c' E E' k k' f f' w hT h h' hf hf' h0 := rat_div r s b A n c E k f b' A' n' c' E' k' f' w (hTT w hT) h h' hf hf' h0
 divNo r s b b' A A' n n' c c' E E' k k' f f' w hT h h' hf hf' h0 := zkc r s b A n c E k f b' A' n' c' E' k' f' w (hTT w hT) h h' hf hf' h0
end Go.Proofs.YtgigccjiblaefaaGreatDoor
