/- What this claim leans on. -/
import Derived.Test.YtgigccjiblaefaaDoorSBun6b
import Derived.Test.YtgigccjiblaefaaDoorSMeet3
namespace Go.Proofs.YtgigccjiblaefaaDoor
open Go Go.RowKit
set_option maxRecDepth 100000
set_option linter.unusedVariables false
set_option linter.unusedSimpArgs false
set_option maxHeartbeats 16000000 in
theorem law8_is {T : World → Prop} {M : Nat → Prop} (hTb : ∀ w w', T w → Below w.heap.size w w' → T w') (IC : IntC T) (QC : RatC T M) (p q : Int) (r : Rat) (K : Nat) (bx : Bool) (Bx : Option Addr) (mx dx : Nat) (Ex : Option Addr) (ux vx : Nat) (w : World) (hK : K ≤ 16777216) (hz : SzQ K r) (h : zam w r bx Bx mx dx Ex ux vx) (hT : T w) (hp1 : -9223372036854775808 ≤ p) (hp2 : p ≤ 9223372036854775807) (hq1 : -9223372036854775808 ≤ q) (hq2 : q ≤ 9223372036854775807) (hq0 : q ≠ 0) (he : r = Rat.divInt p q) :
  Calls Tryd.prog 24 #[.agg #[.bool bx, .slice Bx mx dx, .slice Ex ux vx], .int .i64 p, .int .i64 q] w fun e w' => e = .returned (.bool true) ∧ Below w.heap.size w w' := by
 have HIC := Lib.hid IC
 have HQC := Lib.hid QC
 have HT := Lib.hid (fun w' (hb : Below w.heap.size w w') => hTb w w' hT hb)
 have HE := Lib.hid he
 have HZx := Lib.hid hz
 have HNx := Lib.hid h
 clear IC QC hT he hz h
 go_enter Tryd.func24, Tryd.ntmps24
 have hB := Below.refl w.heap.size w
 obtain ⟨bx1, bx2, bz⟩ := zaS w 33 #[.bool bx, .slice Bx mx dx, .slice Ex ux vx]
 have hB := zab hB bx1
 have HNx := Lib.hid (HNx.out.below bx1)
 obtain ⟨g1, e1, i1⟩ := bx2.c3
 clear bx1 bx2 bz
 go_wp2_with fail
 generalize w.alloc (.cells #[.bool bx, .slice Bx mx dx, .slice Ex ux vx] 33) = W1 at *
 have HZ2 : Hid (SzQ (1) (Rat.divInt p q)) := SzQ.made (K := 1) (by show Int.natAbs p < 18446744073709551616 ^ 1; have e1 : -9223372036854775808 ≤ p := hp1; have e2 : p ≤ 9223372036854775807 := hp2; omega) (by show Int.natAbs q < 18446744073709551616 ^ 1; have e1 : -9223372036854775808 ≤ q := hq1; have e2 : q ≤ 9223372036854775807 := hq2; omega) (by decide)
 (with_reducible refine (HQC.out.of p q _ (HT.out _ hB) hp1 hp2 hq1 hq2 hq0).mono ?_)
 rintro e wc2 ⟨b2, B2, m2, d2, E2, u2, v2, rfl, hw2, hb⟩
 have hB := zab hB hb
 have HNx := Lib.hid (HNx.out.below hb)
 have g1 := zaa hb g1
 have e1 := zaa hb e1
 have i1 := zaa hb i1
 have HN2 := Lib.hid hw2
 clear hb hw2
 obtain ⟨bx1, bx2, bz⟩ := zaS wc2 33 #[.bool b2, .slice B2 m2 d2, .slice E2 u2 v2]
 have hB := zab hB bx1
 have HNx := Lib.hid (HNx.out.below bx1)
 have g1 := zaa bx1 g1
 have e1 := zaa bx1 e1
 have i1 := zaa bx1 i1
 have HN2 := Lib.hid (HN2.out.below bx1)
 obtain ⟨g3, e3, i3⟩ := bx2.c3
 clear bx1 bx2 bz
 go_wp2_with fail
 generalize wc2.alloc (.cells #[.bool b2, .slice B2 m2 d2, .slice E2 u2 v2] 33) = W3 at *
 generalize wc2.heap.size = q3 at *
 have C0 := Lib.hid (fun w' (h : Below W3.heap.size W3 w') => zax (decide_eq_true HE.out) (HQC.out.same (r) (Rat.divInt p q) bx b2 Bx B2 mx m2 dx d2 Ex E2 ux u2 vx v2 w' (HT.out _ (zab hB h)) (HNx.out.below h) (HN2.out.below h) (SzQ.fit HZx.out HNx.out (by omega)) (SzQ.fit HZ2.out HN2.out (by omega))))
 have HZ4 : Hid (Sz (K) (r.num).natAbs) := SzQ.num HZx.out
 have C1 := Lib.hid (fun w' (h : Below W3.heap.size W3 w') => HQC.out.num (r) bx Bx mx dx Ex ux vx w' (HT.out _ (zab hB h)) (HNx.out.below h) (SzQ.fit HZx.out HNx.out (by omega)))
 have HZ5 : Hid (Sz (1) ((Rat.divInt p q).num).natAbs) := SzQ.num HZ2.out
 have C2 := Lib.hid (fun w' (h : Below W3.heap.size W3 w') => HQC.out.num (Rat.divInt p q) b2 B2 m2 d2 E2 u2 v2 w' (HT.out _ (zab hB h)) (HN2.out.below h) (SzQ.fit HZ2.out HN2.out (by omega)))
 have C3 := Lib.hid (fun w' (h : Below W3.heap.size W3 w') b4 B4 m4 d4 (hw4 : zao w' (r.num) b4 B4 m4 d4) b5 B5 m5 d5 (hw5 : zao w' ((Rat.divInt p q).num) b5 B5 m5 d5) => zdM (by rw [HE.out]) (HIC.out.cmp (r.num) ((Rat.divInt p q).num) b4 b5 B4 B5 m4 m5 d4 d5 w' (HT.out _ (zab hB h)) hw4 hw5 (by have := Sz.words HZ4.out hw4.words; omega) (by have := Sz.words HZ5.out hw5.words; omega)))
 have HZ6 : Hid (Sz (K) (r.den)) := SzQ.den HZx.out
 have C4 := Lib.hid (fun w' (h : Below W3.heap.size W3 w') => HQC.out.den (r) bx Bx mx dx Ex ux vx w' (HT.out _ (zab hB h)) (HNx.out.below h) (SzQ.fit HZx.out HNx.out (by omega)))
 have HZ7 : Hid (Sz (1) ((Rat.divInt p q).den)) := SzQ.den HZ2.out
 have C5 := Lib.hid (fun w' (h : Below W3.heap.size W3 w') => HQC.out.den (Rat.divInt p q) b2 B2 m2 d2 E2 u2 v2 w' (HT.out _ (zab hB h)) (HN2.out.below h) (SzQ.fit HZ2.out HN2.out (by omega)))
 have C6 := Lib.hid (fun w' (h : Below W3.heap.size W3 w') B6 m6 d6 (hw6 : zae w' (r.den) B6 m6 d6) B7 m7 d7 (hw7 : zae w' ((Rat.divInt p q).den) B7 m7 d7) => cmpEq (x := r.den) (y := (Rat.divInt p q).den) (by rw [HE.out]) hw6 hw7 (by have := Sz.words HZ6.out hw6; omega) (by have := Sz.words HZ7.out hw7; omega))
 have hBw := (Below.refl W3.heap.size W3).drew
 refine rg (csc g1 (csc e1 (csc i1 (csc g3 (csc e3 (csc i3 csn)))))) (fun hHeld => ?_)
 refine tk 0 ?_
 try simp only [sb]
 refine tk 1 ?_
 try simp only [sb]
 refine tk 2 ?_
 try simp only [sb]
 refine tk 3 ?_
 try simp only [sb]
 refine rc 4 (fun K hK => ?_)
 go_simp
 go_at_call 11; (with_reducible refine (C0.out _ hBw).mono ?_); rintro e wa4 ⟨rfl, hb⟩; have hBw := zab hBw hb; refine hK.out _ _ (Cs.below hHeld hb) (fun hHeld => ?_); clear hK K hb
 try simp only [sb]
 refine tk 5 ?_
 try simp only [sb]
 refine tk 6 ?_
 try simp only [sb]
 refine tk 7 ?_
 try simp only [sb]
 refine tk 9 ?_
 try simp only [sb]
 refine rc 8 (fun K hK => ?_)
 go_simp
 go_at_call 17; (with_reducible refine (C1.out _ hBw).mono ?_); rintro e wa5 ⟨b4, B4, m4, d4, rfl, hw4, hb⟩; have hBw := zab hBw hb; refine hK.out _ _ (Cs.below hHeld hb) (fun hHeld => ?_); clear hK K hb
 try simp only [sb]
 refine rc 10 (fun K hK => ?_)
 go_simp
 go_at_call 17; (with_reducible refine (C2.out _ hBw).mono ?_); rintro e wa6 ⟨b5, B5, m5, d5, rfl, hw5, hb⟩; have hBw := zab hBw hb; have hw4 := hw4.below hb; refine hK.out _ _ (Cs.below hHeld hb) (fun hHeld => ?_); clear hK K hb
 try simp only [sb]
 refine rc 11 (fun K hK => ?_)
 go_simp
 go_at_call 16; (with_reducible refine (C3.out _ hBw _ _ _ _ hw4 _ _ _ _ hw5).mono ?_); rintro e wa7 ⟨rfl, hb⟩; have hBw := zab hBw hb; have hw4 := hw4.below hb; have hw5 := hw5.below hb; refine hK.out _ _ (Cs.below hHeld hb) (fun hHeld => ?_); clear hK K hb
 try simp only [sb]
 refine tk 12 ?_
 try simp only [sb]
 refine tk 13 ?_
 try simp only [sb]
 refine tk 14 ?_
 try simp only [sb]
 refine tk 15 ?_
 try simp only [sb]
 refine tk 17 ?_
 try simp only [sb]
 refine rc 16 (fun K hK => ?_)
 go_simp
 go_at_call 20; (with_reducible refine (C4.out _ hBw).mono ?_); rintro e wa8 ⟨B6, m6, d6, rfl, hw6, hb⟩; have hBw := zab hBw hb; have hw4 := hw4.below hb; have hw5 := hw5.below hb; refine hK.out _ _ (Cs.below hHeld hb) (fun hHeld => ?_); clear hK K hb
 try simp only [sb]
 refine rc 18 (fun K hK => ?_)
 go_simp
 go_at_call 20; (with_reducible refine (C5.out _ hBw).mono ?_); rintro e wa9 ⟨B7, m7, d7, rfl, hw7, hb⟩; have hBw := zab hBw hb; have hw4 := hw4.below hb; have hw5 := hw5.below hb; have hw6 := hw6.below hb; refine hK.out _ _ (Cs.below hHeld hb) (fun hHeld => ?_); clear hK K hb
 try simp only [sb]
 refine rc 19 (fun K hK => ?_)
 go_simp
 go_at_call 43; (with_reducible refine (C6.out _ hBw _ _ _ hw6 _ _ _ hw7).mono ?_); rintro e wa10 ⟨rfl, hb⟩; have hBw := zab hBw hb; have hw4 := hw4.below hb; have hw5 := hw5.below hb; have hw6 := hw6.below hb; have hw7 := hw7.below hb; refine hK.out _ _ (Cs.below hHeld hb) (fun hHeld => ?_); clear hK K hb
 try simp only [sb]
 refine tk 20 ?_
 try simp only [sb]
 refine tk 21 ?_
 try simp only [sb]
 refine tk 22 ?_
 try simp only [sb]
 refine rdn ?_
 have hB := zab hB hBw
 have HNx := Lib.hid (HNx.out.below hBw)
 have g1 := zaa hBw g1
 have e1 := zaa hBw e1
 have i1 := zaa hBw i1
 have HN2 := Lib.hid (HN2.out.below hBw)
 have g3 := zaa hBw g3
 have e3 := zaa hBw e3
 have i3 := zaa hBw i3
 have HN4 := Lib.hid hw4
 have HN5 := Lib.hid hw5
 have HN6 := Lib.hid hw6
 have HN7 := Lib.hid hw7
 clear hBw hHeld hw4 hw5 hw6 hw7 C0 C1 C2 C3 C4 C5 C6
 go_wp2
 go_ret
 exact ⟨by first | rfl | simp, hB⟩
end Go.Proofs.YtgigccjiblaefaaDoor
