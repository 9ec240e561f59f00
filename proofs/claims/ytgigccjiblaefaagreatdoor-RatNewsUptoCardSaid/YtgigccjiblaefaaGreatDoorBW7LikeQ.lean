/- What this claim leans on. -/
import Derived.Test.YtgigccjiblaefaaGreatDoorBR7Ref
namespace Go.Proofs.YtgigccjiblaefaaGreatDoor
open Go Go.RowKit
set_option maxRecDepth 100000
set_option linter.unusedVariables false
set_option linter.unusedSimpArgs false
theorem zgQ {w w' : World} {x : Nat} {A : Option Addr} {n c g : Nat} {t : TypeId} {cs : Array Value} (h : zal w x A n c) (hk : Blk w g t cs) (hcs : NoU cs) (ho : zdD g w w') : zal w' x A n c := ⟨zgw h.1 hk hcs ho, h.2⟩
theorem ref_off {w w' : World} {z : Int} {b : Bool} {A : Option Addr} {n c g : Nat} {t : TypeId} {cs : Array Value} (h : zba w z b A n c) (hk : Blk w g t cs) (hcs : NoU cs) (ho : zdD g w w') : zba w' z b A n c := ⟨h.1, zgQ h.2 hk hcs ho⟩
set_option maxHeartbeats 16000000 in
theorem zgR {T : World → Prop} (hTb : ∀ w w', T w → Below w.heap.size w w' → T w') (IC : IntC T) (z : Int) (bp : Bool) (Bp : Option Addr) (mp dp : Nat) (bq : Bool) (Bq : Option Addr) (mq dq : Nat) (K : Nat) (hKK : K ≤ 16777216) (w : World) (sz : Sz K z.natAbs) (hp : zas w z bp Bp mp dp) (hq : zba w z bq Bq mq dq) (hT : T w) (h : z < 0) :
  Calls Tryz.prog 34 #[.agg #[.bool bp, .slice Bp mp dp], .agg #[.bool bq, .slice Bq mq dq]] w fun e w' => e = .returned (.bool true) ∧ Below w.heap.size w w' := by
 have HIC := Lib.hid IC
 have HT := Lib.hid (fun w' (hb : Below w.heap.size w w') => hTb w w' hT hb)
 have HNp := Lib.hid hp
 have HNq := Lib.hid hq
 have HZp := Lib.hid sz
 have HZq := Lib.hid sz
 have Hh := Lib.hid h
 clear IC hT hp hq sz h
 go_enter Tryz.func34, Tryz.ntmps34
 have hB := Below.refl w.heap.size w
 obtain rfl : bq = true := HNq.out.1.trans (decide_eq_true (by have := Hh.out; omega))
 obtain ⟨bx1, bx2, bx3, bz⟩ := zaO w 29 38 #[.bool bp, .slice Bp mp dp] #[.bool true, .slice Bq mq dq]
 have hB := zad hB bx1
 have HNp := Lib.hid (HNp.out.below bx1)
 have HNq := Lib.hid (HNq.out.below bx1)
 obtain ⟨g1, e1⟩ := bx2.c2
 obtain ⟨g2, e2⟩ := bx3.c2
 clear bx1 bx2 bx3 bz
 go_wp2_with fail
 generalize (w.alloc (.cells #[.bool bp, .slice Bp mp dp] 29)).alloc (.cells #[.bool true, .slice Bq mq dq] 38) = W1 at *
 have C0 := Lib.hid (fun w' (h : Below W1.heap.size W1 w') => zeP (b := true) (decide_eq_true (by have := Hh.out; omega)) (HIC.out.belowI (z) bp Bp mp dp w' (HT.out _ (zad hB h)) (HNp.out.below h) (by have := Sz.words HZp.out HNp.out.words; omega)))
 have C1 := Lib.hid (fun w' (h : Below W1.heap.size W1 w') => zfl (v := -1) ((sgn_neg Hh.out)) (HIC.out.sign (z) bp Bp mp dp w' (HT.out _ (zad hB h)) (HNp.out.below h) (by have := Sz.words HZp.out HNp.out.words; omega)))
 have HZ3 : Hid (Sz (K) (z.natAbs)) := HZp.out
 have C2 := Lib.hid (fun w' (h : Below W1.heap.size W1 w') => HIC.out.abs (z) bp Bp mp dp w' (HT.out _ (zad hB h)) (HNp.out.below h) (by have := Sz.words HZp.out HNp.out.words; omega))
 have C3 := Lib.hid (fun w' (h : Below W1.heap.size W1 w') B3 m3 d3 (hw3 : zag w' (z.natAbs) B3 m3 d3) => zcx (z.natAbs) B3 Bq m3 d3 mq dq w' hw3 (HNq.out.below h).2 (by have := Sz.words HZ3.out hw3; omega) (by have := Sz.holds' HZq.out HNq.out.2; omega))
 have hBw := (Below.refl W1.heap.size W1).drew
 refine rg (csc g1 (csc e1 (csc g2 (csc e2 csn)))) (fun hHeld => ?_)
 refine tk 0 ?_
 try simp only [sb]
 refine tk 2 ?_
 try simp only [sb]
 refine tk 3 ?_
 try simp only [sb]
 refine rc 1 (fun K hK => ?_)
 go_simp
 go_at_call 60; (with_reducible refine (C0.out _ hBw).mono ?_); rintro e wa2 ⟨rfl, hb⟩; have hBw := zad hBw hb; refine hK.out _ _ (Cs.below hHeld hb) (fun hHeld => ?_); clear hK K hb
 try simp only [sb]
 refine tk 4 ?_
 try simp only [sb]
 refine tk 5 ?_
 try simp only [sb]
 refine tk 6 ?_
 try simp only [sb]
 refine tk 8 ?_
 try simp only [sb]
 refine rc 7 (fun K hK => ?_)
 go_simp
 go_at_call 18; (with_reducible refine (C1.out _ hBw).mono ?_); rintro e wa3 ⟨rfl, hb⟩; have hBw := zad hBw hb; refine hK.out _ _ (Cs.below hHeld hb) (fun hHeld => ?_); clear hK K hb
 try simp only [sb]
 refine tk 9 ?_
 try simp only [sb]
 refine tk 10 ?_
 try simp only [sb]
 refine tk 11 ?_
 try simp only [sb]
 refine tk 12 ?_
 try simp only [sb]
 refine tk 14 ?_
 try simp only [sb]
 refine tk 15 ?_
 try simp only [sb]
 refine rc 13 (fun K hK => ?_)
 go_simp
 go_at_call 47; (with_reducible refine (C2.out _ hBw).mono ?_); rintro e wa4 ⟨B3, m3, d3, rfl, hw3, hb⟩; have hBw := zad hBw hb; refine hK.out _ _ (Cs.below hHeld hb) (fun hHeld => ?_); clear hK K hb
 try simp only [sb]
 refine rc 16 (fun K hK => ?_)
 go_simp
 go_at_call 65; (with_reducible refine (C3.out _ hBw _ _ _ hw3).mono ?_); rintro e wa5 ⟨rfl, hb⟩; have hBw := zad hBw hb; have hw3 := hw3.below hb; refine hK.out _ _ (Cs.below hHeld hb) (fun hHeld => ?_); clear hK K hb
 try simp only [sb]
 refine tk 17 ?_
 try simp only [sb]
 refine tk 18 ?_
 try simp only [sb]
 refine rdn ?_
 have hB := zad hB hBw
 have HNp := Lib.hid (HNp.out.below hBw)
 have HNq := Lib.hid (HNq.out.below hBw)
 have g1 := zac hBw g1
 have e1 := zac hBw e1
 have g2 := zac hBw g2
 have e2 := zac hBw e2
 have HN3 := Lib.hid hw3
 clear hBw hHeld hw3 C0 C1 C2 C3
 go_wp2
 go_ret
 exact ⟨by first | rfl | simp, hB⟩
set_option maxHeartbeats 16000000 in
theorem zhr {T : World → Prop} (hTb : ∀ w w', T w → Below w.heap.size w w' → T w') (IC : IntC T) (z : Int) (bp : Bool) (Bp : Option Addr) (mp dp : Nat) (bq : Bool) (Bq : Option Addr) (mq dq : Nat) (K : Nat) (hKK : K ≤ 16777216) (w : World) (sz : Sz K z.natAbs) (hp : zas w z bp Bp mp dp) (hq : zba w z bq Bq mq dq) (hT : T w) (h : z = 0) :
  Calls Tryz.prog 34 #[.agg #[.bool bp, .slice Bp mp dp], .agg #[.bool bq, .slice Bq mq dq]] w fun e w' => e = .returned (.bool true) ∧ Below w.heap.size w w' := by
 have HIC := Lib.hid IC
 have HT := Lib.hid (fun w' (hb : Below w.heap.size w w') => hTb w w' hT hb)
 have HNp := Lib.hid hp
 have HNq := Lib.hid hq
 have HZp := Lib.hid sz
 have HZq := Lib.hid sz
 have Hh := Lib.hid h
 clear IC hT hp hq sz h
 go_enter Tryz.func34, Tryz.ntmps34
 have hB := Below.refl w.heap.size w
 obtain rfl : bq = false := HNq.out.1.trans (decide_eq_false (by have := Hh.out; omega))
 have hqq := zfw HNq.out.2 (by have := Hh.out; omega)
 have hrq : ((mq : Int) == 0) = true := by rw [beq_iff_eq]; omega
 clear hqq
 obtain ⟨bx1, bx2, bx3, bz⟩ := zaO w 29 38 #[.bool bp, .slice Bp mp dp] #[.bool false, .slice Bq mq dq]
 have hB := zad hB bx1
 have HNp := Lib.hid (HNp.out.below bx1)
 have HNq := Lib.hid (HNq.out.below bx1)
 obtain ⟨g1, e1⟩ := bx2.c2
 obtain ⟨g2, e2⟩ := bx3.c2
 clear bx1 bx2 bx3 bz
 go_wp2_with fail
 generalize (w.alloc (.cells #[.bool bp, .slice Bp mp dp] 29)).alloc (.cells #[.bool false, .slice Bq mq dq] 38) = W1 at *
 have C0 := Lib.hid (fun w' (h : Below W1.heap.size W1 w') => zeP (b := false) (decide_eq_false (by have := Hh.out; omega)) (HIC.out.belowI (z) bp Bp mp dp w' (HT.out _ (zad hB h)) (HNp.out.below h) (by have := Sz.words HZp.out HNp.out.words; omega)))
 have C1 := Lib.hid (fun w' (h : Below W1.heap.size W1 w') => zfl (v := 0) (((sgnZ_eq _).2 Hh.out)) (HIC.out.sign (z) bp Bp mp dp w' (HT.out _ (zad hB h)) (HNp.out.below h) (by have := Sz.words HZp.out HNp.out.words; omega)))
 have HZ3 : Hid (Sz (K) (z.natAbs)) := HZp.out
 have C2 := Lib.hid (fun w' (h : Below W1.heap.size W1 w') => HIC.out.abs (z) bp Bp mp dp w' (HT.out _ (zad hB h)) (HNp.out.below h) (by have := Sz.words HZp.out HNp.out.words; omega))
 have C3 := Lib.hid (fun w' (h : Below W1.heap.size W1 w') B3 m3 d3 (hw3 : zag w' (z.natAbs) B3 m3 d3) => zcx (z.natAbs) B3 Bq m3 d3 mq dq w' hw3 (HNq.out.below h).2 (by have := Sz.words HZ3.out hw3; omega) (by have := Sz.holds' HZq.out HNq.out.2; omega))
 have hBw := (Below.refl W1.heap.size W1).drew
 refine rg (csc g1 (csc e1 (csc g2 (csc e2 csn)))) (fun hHeld => ?_)
 refine tk 0 ?_
 try simp only [sb]
 refine tk 2 ?_
 try simp only [sb]
 refine tk 3 ?_
 try simp only [sb]
 refine rc 1 (fun K hK => ?_)
 go_simp
 go_at_call 60; (with_reducible refine (C0.out _ hBw).mono ?_); rintro e wa2 ⟨rfl, hb⟩; have hBw := zad hBw hb; refine hK.out _ _ (Cs.below hHeld hb) (fun hHeld => ?_); clear hK K hb
 try simp only [sb]
 refine tk 4 ?_
 try simp only [sb]
 refine tk 5 ?_
 try simp only [sb]
 refine tk 6 ?_
 try simp only [sb]
 refine tk 8 ?_
 try simp only [sb]
 refine rc 7 (fun K hK => ?_)
 go_simp
 go_at_call 18; (with_reducible refine (C1.out _ hBw).mono ?_); rintro e wa3 ⟨rfl, hb⟩; have hBw := zad hBw hb; refine hK.out _ _ (Cs.below hHeld hb) (fun hHeld => ?_); clear hK K hb
 try simp only [sb]
 refine tk 9 ?_
 try simp only [sb]
 refine tk 10 ?_
 try simp only [sb]
 refine tk 11 ?_
 try simp only [sb]
 refine tk 12 ?_
 try simp only [sb]
 refine tk 14 ?_
 try simp only [sb]
 refine tk 15 ?_
 try simp only [sb]
 refine rc 13 (fun K hK => ?_)
 go_simp
 go_at_call 47; (with_reducible refine (C2.out _ hBw).mono ?_); rintro e wa4 ⟨B3, m3, d3, rfl, hw3, hb⟩; have hBw := zad hBw hb; refine hK.out _ _ (Cs.below hHeld hb) (fun hHeld => ?_); clear hK K hb
 try simp only [sb]
 refine rc 16 (fun K hK => ?_)
 go_simp
 go_at_call 65; (with_reducible refine (C3.out _ hBw _ _ _ hw3).mono ?_); rintro e wa5 ⟨rfl, hb⟩; have hBw := zad hBw hb; have hw3 := hw3.below hb; refine hK.out _ _ (Cs.below hHeld hb) (fun hHeld => ?_); clear hK K hb
 try simp only [sb]
 refine tk 17 ?_
 try simp only [sb]
 refine tk 18 ?_
 try simp only [sb]
 refine rdn ?_
 have hB := zad hB hBw
 have HNp := Lib.hid (HNp.out.below hBw)
 have HNq := Lib.hid (HNq.out.below hBw)
 have g1 := zac hBw g1
 have e1 := zac hBw e1
 have g2 := zac hBw g2
 have e2 := zac hBw e2
 have HN3 := Lib.hid hw3
 clear hBw hHeld hw3 C0 C1 C2 C3
 go_wp2
 go_ret
 exact ⟨by first | rfl | simp, hB⟩
set_option maxHeartbeats 16000000 in
theorem zhc {T : World → Prop} (hTb : ∀ w w', T w → Below w.heap.size w w' → T w') (IC : IntC T) (z : Int) (bp : Bool) (Bp : Option Addr) (mp dp : Nat) (bq : Bool) (Bq : Option Addr) (mq dq : Nat) (K : Nat) (hKK : K ≤ 16777216) (w : World) (sz : Sz K z.natAbs) (hp : zas w z bp Bp mp dp) (hq : zba w z bq Bq mq dq) (hT : T w) (h : 0 < z) :
  Calls Tryz.prog 34 #[.agg #[.bool bp, .slice Bp mp dp], .agg #[.bool bq, .slice Bq mq dq]] w fun e w' => e = .returned (.bool true) ∧ Below w.heap.size w w' := by
 have HIC := Lib.hid IC
 have HT := Lib.hid (fun w' (hb : Below w.heap.size w w') => hTb w w' hT hb)
 have HNp := Lib.hid hp
 have HNq := Lib.hid hq
 have HZp := Lib.hid sz
 have HZq := Lib.hid sz
 have Hh := Lib.hid h
 clear IC hT hp hq sz h
 go_enter Tryz.func34, Tryz.ntmps34
 have hB := Below.refl w.heap.size w
 obtain rfl : bq = false := HNq.out.1.trans (decide_eq_false (by have := Hh.out; omega))
 have hqq := zfr HNq.out.2 (by have := Hh.out; omega)
 have hrq : ((mq : Int) == 0) = false := by rw [beq_eq_false_iff_ne]; omega
 clear hqq
 obtain ⟨bx1, bx2, bx3, bz⟩ := zaO w 29 38 #[.bool bp, .slice Bp mp dp] #[.bool false, .slice Bq mq dq]
 have hB := zad hB bx1
 have HNp := Lib.hid (HNp.out.below bx1)
 have HNq := Lib.hid (HNq.out.below bx1)
 obtain ⟨g1, e1⟩ := bx2.c2
 obtain ⟨g2, e2⟩ := bx3.c2
 clear bx1 bx2 bx3 bz
 go_wp2_with fail
 generalize (w.alloc (.cells #[.bool bp, .slice Bp mp dp] 29)).alloc (.cells #[.bool false, .slice Bq mq dq] 38) = W1 at *
 have C0 := Lib.hid (fun w' (h : Below W1.heap.size W1 w') => zeP (b := false) (decide_eq_false (by have := Hh.out; omega)) (HIC.out.belowI (z) bp Bp mp dp w' (HT.out _ (zad hB h)) (HNp.out.below h) (by have := Sz.words HZp.out HNp.out.words; omega)))
 have C1 := Lib.hid (fun w' (h : Below W1.heap.size W1 w') => zfl (v := 1) ((sgn_pos Hh.out)) (HIC.out.sign (z) bp Bp mp dp w' (HT.out _ (zad hB h)) (HNp.out.below h) (by have := Sz.words HZp.out HNp.out.words; omega)))
 have HZ3 : Hid (Sz (K) (z.natAbs)) := HZp.out
 have C2 := Lib.hid (fun w' (h : Below W1.heap.size W1 w') => HIC.out.abs (z) bp Bp mp dp w' (HT.out _ (zad hB h)) (HNp.out.below h) (by have := Sz.words HZp.out HNp.out.words; omega))
 have C3 := Lib.hid (fun w' (h : Below W1.heap.size W1 w') B3 m3 d3 (hw3 : zag w' (z.natAbs) B3 m3 d3) => zcx (z.natAbs) B3 Bq m3 d3 mq dq w' hw3 (HNq.out.below h).2 (by have := Sz.words HZ3.out hw3; omega) (by have := Sz.holds' HZq.out HNq.out.2; omega))
 have hBw := (Below.refl W1.heap.size W1).drew
 refine rg (csc g1 (csc e1 (csc g2 (csc e2 csn)))) (fun hHeld => ?_)
 refine tk 0 ?_
 try simp only [sb]
 refine tk 2 ?_
 try simp only [sb]
 refine tk 3 ?_
 try simp only [sb]
 refine rc 1 (fun K hK => ?_)
 go_simp
 go_at_call 60; (with_reducible refine (C0.out _ hBw).mono ?_); rintro e wa2 ⟨rfl, hb⟩; have hBw := zad hBw hb; refine hK.out _ _ (Cs.below hHeld hb) (fun hHeld => ?_); clear hK K hb
 try simp only [sb]
 refine tk 4 ?_
 try simp only [sb]
 refine tk 5 ?_
 try simp only [sb]
 refine tk 6 ?_
 try simp only [sb]
 refine tk 8 ?_
 try simp only [sb]
 refine rc 7 (fun K hK => ?_)
 go_simp
 go_at_call 18; (with_reducible refine (C1.out _ hBw).mono ?_); rintro e wa3 ⟨rfl, hb⟩; have hBw := zad hBw hb; refine hK.out _ _ (Cs.below hHeld hb) (fun hHeld => ?_); clear hK K hb
 try simp only [sb]
 refine tk 9 ?_
 try simp only [sb]
 refine tk 10 ?_
 try simp only [sb]
 refine tk 11 ?_
 try simp only [sb]
 refine tk 12 ?_
 try simp only [sb]
 refine tk 14 ?_
 try simp only [sb]
 refine tk 15 ?_
 try simp only [sb]
 refine rc 13 (fun K hK => ?_)
 go_simp
 go_at_call 47; (with_reducible refine (C2.out _ hBw).mono ?_); rintro e wa4 ⟨B3, m3, d3, rfl, hw3, hb⟩; have hBw := zad hBw hb; refine hK.out _ _ (Cs.below hHeld hb) (fun hHeld => ?_); clear hK K hb
 try simp only [sb]
 refine rc 16 (fun K hK => ?_)
 go_simp
 go_at_call 65; (with_reducible refine (C3.out _ hBw _ _ _ hw3).mono ?_); rintro e wa5 ⟨rfl, hb⟩; have hBw := zad hBw hb; have hw3 := hw3.below hb; refine hK.out _ _ (Cs.below hHeld hb) (fun hHeld => ?_); clear hK K hb
 try simp only [sb]
 refine tk 17 ?_
 try simp only [sb]
 refine tk 18 ?_
 try simp only [sb]
 refine rdn ?_
 have hB := zad hB hBw
 have HNp := Lib.hid (HNp.out.below hBw)
 have HNq := Lib.hid (HNq.out.below hBw)
 have g1 := zac hBw g1
 have e1 := zac hBw e1
 have g2 := zac hBw g2
 have e2 := zac hBw e2
 have HN3 := Lib.hid hw3
 clear hBw hHeld hw3 C0 C1 C2 C3
 go_wp2
 go_ret
 exact ⟨by first | rfl | simp, hB⟩
theorem zeS {T : World → Prop} (hTb : ∀ w w', T w → Below w.heap.size w w' → T w') (IC : IntC T) (z : Int) (bp : Bool) (Bp : Option Addr) (mp dp : Nat) (bq : Bool) (Bq : Option Addr) (mq dq : Nat) (K : Nat) (hKK : K ≤ 16777216) (w : World) (sz : Sz K z.natAbs) (hp : zas w z bp Bp mp dp) (hq : zba w z bq Bq mq dq) (hT : T w) :
  Calls Tryz.prog 34 #[.agg #[.bool bp, .slice Bp mp dp], .agg #[.bool bq, .slice Bq mq dq]] w fun e w' => e = .returned (.bool true) ∧ Below w.heap.size w w' := by
 rcases Int.lt_trichotomy z 0 with h | h | h
 ·exact zgR hTb IC z bp Bp mp dp bq Bq mq dq K hKK w sz hp hq hT h
 ·exact zhr hTb IC z bp Bp mp dp bq Bq mq dq K hKK w sz hp hq hT h
 ·exact zhc hTb IC z bp Bp mp dp bq Bq mq dq K hKK w sz hp hq hT h
end Go.Proofs.YtgigccjiblaefaaGreatDoor
