/- What this claim leans on. -/
import Derived.Test.YtkiedljcgkoaiaaGreatDoorRVArgs
import Derived.Test.YtkiedljcgkoaiaaGreatDoorRR7Ref
namespace Go.Proofs.YtkiedljcgkoaiaaGreatDoor
open Go Go.RowKit
set_option maxHeartbeats 16000000
set_option maxRecDepth 100000
set_option linter.unusedVariables false
set_option linter.unusedSimpArgs false
theorem szh {K B x n c : Nat} {A : oA9} {w : World} (h : Hid (Sz K x)) (k : zaj w x A n c) (e : 4 * K ≤ B:=by omega) : n ≤ B:=Nat.le_trans (h.out.holds' k) e
theorem szr {K B n c : Nat} {z : Int} {b : Bool} {A : oA9} {w : World} (h : Hid (Sz K z.natAbs)) (k : zaM w z b A n c) (e : 4 * K ≤ B:=by omega) : n ≤ B:=Nat.le_trans (h.out.holds' k.holds) e
theorem zia {w w' : World} {x : Nat} {A : oA9} {n c g : Nat} {t : TypeId} {cs : Array Value} (h : zaj w x A n c) (hk : Blk w g t cs) (hcs : NoU cs) (ho : zdx g w w') : zaj w' x A n c:=⟨zin h.1 hk hcs ho,h.2⟩
theorem zeb {w w' : World} {z : Int} {b : Bool} {A : oA9} {n c g : Nat} {t : TypeId} {cs : Array Value} (h : zaM w z b A n c) (hk : Blk w g t cs) (hcs : NoU cs) (ho : zdx g w w') : zaM w' z b A n c:=⟨h.1,zia h.2 hk hcs ho⟩
theorem ziT {T : World → Prop} (hTb : ∀ w w',T w → Below w.heap.size w w' → T w') (IC : IntC T) (z : Int) (bp : Bool) (Bp : oA9) (mp dp : Nat) (bq : Bool) (Bq : oA9) (mq dq : Nat) (K : Nat) (hKK : K ≤ 16777216) (w : World) (sz : Sz K z.natAbs) (hp : zaA w z bp Bp mp dp) (hq : zaM w z bq Bq mq dq) (hT : T w) (h : z < 0) :
  Calls Tryz.prog 53 #[.agg #[.bool bp,.slice Bp mp dp],.agg #[.bool bq,.slice Bq mq dq]] w fun e w' => e = .returned (.bool true) ∧ Below w.heap.size w w':=by
 have HIC:=lh9 IC
 have HT:=lh9 (fun w' (hb : Below w.heap.size w w') => hTb w w' hT hb)
 have HNp:=lh9 hp
 have HNq:=lh9 hq
 have HZp:=lh9 sz
 have HZq:=lh9 sz
 have Hh:=lh9 h
 clear IC hT hp hq sz h
 go_enter Tryz.func53,Tryz.ntmps53
 have hB:=Below.refl w.heap.size w
 obtain rfl : bq = true:=(HNq.out).1.trans (decide_eq_true (by have:=Hh.out; omega))
 obtain ⟨bx1,bx2,bx3,bz⟩:=zbi w 42 34 #[.bool bp,.slice Bp mp dp] #[.bool true,.slice Bq mq dq]
 have hB:=zac hB bx1
 have HNp:=lh9 (HNp.out.below bx1)
 have HNq:=lh9 (HNq.out.below bx1)
 obtain ⟨g1,e1⟩:=bx2.c2
 obtain ⟨g2,e2⟩:=bx3.c2
 clear bx1 bx2 bx3 bz
 go_wp2_with fail
 generalize (w.alloc (.cells #[.bool bp,.slice Bp mp dp] 42)).alloc (.cells #[.bool true,.slice Bq mq dq] 34) = W1 at *
 have C0:=lh9 (fun w' (h : Below W1.heap.size W1 w') => zfL (b:=true) (decide_eq_true (by have:=Hh.out; omega)) (HIC.out.belowI (z) bp Bp mp dp w' (HT.out _ (zac hB h)) (HNp.out.below h) (by have:=Sz.words HZp.out HNp.out.words; omega)))
 have C1:=lh9 (fun w' (h : Below W1.heap.size W1 w') => ziQ (v:=-1) ((sgn_neg Hh.out)) (HIC.out.sign (z) bp Bp mp dp w' (HT.out _ (zac hB h)) (HNp.out.below h) (by have:=Sz.words HZp.out HNp.out.words; omega)))
 have HZ3 : Hid (Sz (K) (z.natAbs)):=HZp.out
 have C2:=lh9 (fun w' (h : Below W1.heap.size W1 w') => HIC.out.abs (z) bp Bp mp dp w' (HT.out _ (zac hB h)) (HNp.out.below h) (by have:=Sz.words HZp.out HNp.out.words; omega))
 have C3:=lh9 (fun w' (h : Below W1.heap.size W1 w') B3 m3 d3 (hw3 : zag w' (z.natAbs) B3 m3 d3) => zcV (z.natAbs) B3 Bq m3 d3 mq dq w' hw3 (HNq.out.below h).2 (by have:=Sz.words HZ3.out hw3; omega) (by have:=Sz.holds' HZq.out HNq.out.2; omega))
 have hBw:=(Below.refl W1.heap.size W1).drew
 refine rg (csc g1 (csc e1 (csc g2 (csc e2 csn)))) (fun hHeld => ?_)
 refine tk 0 ?_
 refine tk 2 ?_
 refine tk 3 ?_
 refine rc 1 (fun K hK => ?_)
 go_simp
 go_at_call 78; (with_reducible refine (C0.out _ hBw).mono ?_); rintro e wa2 ⟨rfl,hb⟩; have hBw:=zac hBw hb; refine hK.out _ _ (Cs.below hHeld hb) (fun hHeld => ?_); clear hK K hb
 try simp only [sb9]
 refine tk 4 ?_
 refine tk 5 ?_
 refine tk 6 ?_
 refine tk 8 ?_
 refine rc 7 (fun K hK => ?_)
 go_simp
 go_at_call 70; (with_reducible refine (C1.out _ hBw).mono ?_); rintro e wa3 ⟨rfl,hb⟩; have hBw:=zac hBw hb; refine hK.out _ _ (Cs.below hHeld hb) (fun hHeld => ?_); clear hK K hb
 try simp only [sb9]
 refine tk 9 ?_
 refine tk 10 ?_
 refine tk 11 ?_
 refine tk 12 ?_
 refine tk 14 ?_
 refine tk 15 ?_
 refine rc 13 (fun K hK => ?_)
 go_simp
 go_at_call 75; (with_reducible refine (C2.out _ hBw).mono ?_); rintro e wa4 ⟨B3,m3,d3,rfl,hw3,hb⟩; have hBw:=zac hBw hb; refine hK.out _ _ (Cs.below hHeld hb) (fun hHeld => ?_); clear hK K hb
 try simp only [sb9]
 refine rc 16 (fun K hK => ?_)
 go_simp
 go_at_call 55; (with_reducible refine (C3.out _ hBw _ _ _ hw3).mono ?_); rintro e wa5 ⟨rfl,hb⟩; have hBw:=zac hBw hb; have hw3:=hw3.below hb; refine hK.out _ _ (Cs.below hHeld hb) (fun hHeld => ?_); clear hK K hb
 try simp only [sb9]
 refine tk 17 ?_
 refine tk 18 ?_
 refine rdn ?_
 have hB:=zac hB hBw
 have HNp:=lh9 (HNp.out.below hBw)
 have HNq:=lh9 (HNq.out.below hBw)
 have g1:=zad hBw g1
 have e1:=zad hBw e1
 have g2:=zad hBw g2
 have e2:=zad hBw e2
 have HN3:=lh9 hw3
 clear hBw hHeld hw3 C0 C1 C2 C3
 go_wp2
 go_ret
 exact ⟨by first | rfl | simp,hB⟩
theorem ziR {T : World → Prop} (hTb : ∀ w w',T w → Below w.heap.size w w' → T w') (IC : IntC T) (z : Int) (bp : Bool) (Bp : oA9) (mp dp : Nat) (bq : Bool) (Bq : oA9) (mq dq : Nat) (K : Nat) (hKK : K ≤ 16777216) (w : World) (sz : Sz K z.natAbs) (hp : zaA w z bp Bp mp dp) (hq : zaM w z bq Bq mq dq) (hT : T w) (h : z = 0) :
  Calls Tryz.prog 53 #[.agg #[.bool bp,.slice Bp mp dp],.agg #[.bool bq,.slice Bq mq dq]] w fun e w' => e = .returned (.bool true) ∧ Below w.heap.size w w':=by
 have HIC:=lh9 IC
 have HT:=lh9 (fun w' (hb : Below w.heap.size w w') => hTb w w' hT hb)
 have HNp:=lh9 hp
 have HNq:=lh9 hq
 have HZp:=lh9 sz
 have HZq:=lh9 sz
 have Hh:=lh9 h
 clear IC hT hp hq sz h
 go_enter Tryz.func53,Tryz.ntmps53
 have hB:=Below.refl w.heap.size w
 obtain rfl : bq = false:=(HNq.out).1.trans (decide_eq_false (by have:=Hh.out; omega))
 have hqq:=zjM (HNq.out).2 (by have:=Hh.out; omega)
 have hrq : ((mq : Int) == 0) = true:=by rw [beq_iff_eq]; omega
 clear hqq
 obtain ⟨bx1,bx2,bx3,bz⟩:=zbi w 42 34 #[.bool bp,.slice Bp mp dp] #[.bool false,.slice Bq mq dq]
 have hB:=zac hB bx1
 have HNp:=lh9 (HNp.out.below bx1)
 have HNq:=lh9 (HNq.out.below bx1)
 obtain ⟨g1,e1⟩:=bx2.c2
 obtain ⟨g2,e2⟩:=bx3.c2
 clear bx1 bx2 bx3 bz
 go_wp2_with fail
 generalize (w.alloc (.cells #[.bool bp,.slice Bp mp dp] 42)).alloc (.cells #[.bool false,.slice Bq mq dq] 34) = W1 at *
 have C0:=lh9 (fun w' (h : Below W1.heap.size W1 w') => zfL (b:=false) (decide_eq_false (by have:=Hh.out; omega)) (HIC.out.belowI (z) bp Bp mp dp w' (HT.out _ (zac hB h)) (HNp.out.below h) (by have:=Sz.words HZp.out HNp.out.words; omega)))
 have C1:=lh9 (fun w' (h : Below W1.heap.size W1 w') => ziQ (v:=0) (((sgnZ_eq _).2 Hh.out)) (HIC.out.sign (z) bp Bp mp dp w' (HT.out _ (zac hB h)) (HNp.out.below h) (by have:=Sz.words HZp.out HNp.out.words; omega)))
 have HZ3 : Hid (Sz (K) (z.natAbs)):=HZp.out
 have C2:=lh9 (fun w' (h : Below W1.heap.size W1 w') => HIC.out.abs (z) bp Bp mp dp w' (HT.out _ (zac hB h)) (HNp.out.below h) (by have:=Sz.words HZp.out HNp.out.words; omega))
 have C3:=lh9 (fun w' (h : Below W1.heap.size W1 w') B3 m3 d3 (hw3 : zag w' (z.natAbs) B3 m3 d3) => zcV (z.natAbs) B3 Bq m3 d3 mq dq w' hw3 (HNq.out.below h).2 (by have:=Sz.words HZ3.out hw3; omega) (by have:=Sz.holds' HZq.out HNq.out.2; omega))
 have hBw:=(Below.refl W1.heap.size W1).drew
 refine rg (csc g1 (csc e1 (csc g2 (csc e2 csn)))) (fun hHeld => ?_)
 refine tk 0 ?_
 refine tk 2 ?_
 refine tk 3 ?_
 refine rc 1 (fun K hK => ?_)
 go_simp
 go_at_call 78; (with_reducible refine (C0.out _ hBw).mono ?_); rintro e wa2 ⟨rfl,hb⟩; have hBw:=zac hBw hb; refine hK.out _ _ (Cs.below hHeld hb) (fun hHeld => ?_); clear hK K hb
 try simp only [sb9]
 refine tk 4 ?_
 refine tk 5 ?_
 refine tk 6 ?_
 refine tk 8 ?_
 refine rc 7 (fun K hK => ?_)
 go_simp
 go_at_call 70; (with_reducible refine (C1.out _ hBw).mono ?_); rintro e wa3 ⟨rfl,hb⟩; have hBw:=zac hBw hb; refine hK.out _ _ (Cs.below hHeld hb) (fun hHeld => ?_); clear hK K hb
 try simp only [sb9]
 refine tk 9 ?_
 refine tk 10 ?_
 refine tk 11 ?_
 refine tk 12 ?_
 refine tk 14 ?_
 refine tk 15 ?_
 refine rc 13 (fun K hK => ?_)
 go_simp
 go_at_call 75; (with_reducible refine (C2.out _ hBw).mono ?_); rintro e wa4 ⟨B3,m3,d3,rfl,hw3,hb⟩; have hBw:=zac hBw hb; refine hK.out _ _ (Cs.below hHeld hb) (fun hHeld => ?_); clear hK K hb
 try simp only [sb9]
 refine rc 16 (fun K hK => ?_)
 go_simp
 go_at_call 55; (with_reducible refine (C3.out _ hBw _ _ _ hw3).mono ?_); rintro e wa5 ⟨rfl,hb⟩; have hBw:=zac hBw hb; have hw3:=hw3.below hb; refine hK.out _ _ (Cs.below hHeld hb) (fun hHeld => ?_); clear hK K hb
 try simp only [sb9]
 refine tk 17 ?_
 refine tk 18 ?_
 refine rdn ?_
 have hB:=zac hB hBw
 have HNp:=lh9 (HNp.out.below hBw)
 have HNq:=lh9 (HNq.out.below hBw)
 have g1:=zad hBw g1
 have e1:=zad hBw e1
 have g2:=zad hBw g2
 have e2:=zad hBw e2
 have HN3:=lh9 hw3
 clear hBw hHeld hw3 C0 C1 C2 C3
 go_wp2
 go_ret
 exact ⟨by first | rfl | simp,hB⟩
theorem ziS {T : World → Prop} (hTb : ∀ w w',T w → Below w.heap.size w w' → T w') (IC : IntC T) (z : Int) (bp : Bool) (Bp : oA9) (mp dp : Nat) (bq : Bool) (Bq : oA9) (mq dq : Nat) (K : Nat) (hKK : K ≤ 16777216) (w : World) (sz : Sz K z.natAbs) (hp : zaA w z bp Bp mp dp) (hq : zaM w z bq Bq mq dq) (hT : T w) (h : 0 < z) :
  Calls Tryz.prog 53 #[.agg #[.bool bp,.slice Bp mp dp],.agg #[.bool bq,.slice Bq mq dq]] w fun e w' => e = .returned (.bool true) ∧ Below w.heap.size w w':=by
 have HIC:=lh9 IC
 have HT:=lh9 (fun w' (hb : Below w.heap.size w w') => hTb w w' hT hb)
 have HNp:=lh9 hp
 have HNq:=lh9 hq
 have HZp:=lh9 sz
 have HZq:=lh9 sz
 have Hh:=lh9 h
 clear IC hT hp hq sz h
 go_enter Tryz.func53,Tryz.ntmps53
 have hB:=Below.refl w.heap.size w
 obtain rfl : bq = false:=(HNq.out).1.trans (decide_eq_false (by have:=Hh.out; omega))
 have hqq:=ziN (HNq.out).2 (by have:=Hh.out; omega)
 have hrq : ((mq : Int) == 0) = false:=by rw [beq_eq_false_iff_ne]; omega
 clear hqq
 obtain ⟨bx1,bx2,bx3,bz⟩:=zbi w 42 34 #[.bool bp,.slice Bp mp dp] #[.bool false,.slice Bq mq dq]
 have hB:=zac hB bx1
 have HNp:=lh9 (HNp.out.below bx1)
 have HNq:=lh9 (HNq.out.below bx1)
 obtain ⟨g1,e1⟩:=bx2.c2
 obtain ⟨g2,e2⟩:=bx3.c2
 clear bx1 bx2 bx3 bz
 go_wp2_with fail
 generalize (w.alloc (.cells #[.bool bp,.slice Bp mp dp] 42)).alloc (.cells #[.bool false,.slice Bq mq dq] 34) = W1 at *
 have C0:=lh9 (fun w' (h : Below W1.heap.size W1 w') => zfL (b:=false) (decide_eq_false (by have:=Hh.out; omega)) (HIC.out.belowI (z) bp Bp mp dp w' (HT.out _ (zac hB h)) (HNp.out.below h) (by have:=Sz.words HZp.out HNp.out.words; omega)))
 have C1:=lh9 (fun w' (h : Below W1.heap.size W1 w') => ziQ (v:=1) ((sgn_pos Hh.out)) (HIC.out.sign (z) bp Bp mp dp w' (HT.out _ (zac hB h)) (HNp.out.below h) (by have:=Sz.words HZp.out HNp.out.words; omega)))
 have HZ3 : Hid (Sz (K) (z.natAbs)):=HZp.out
 have C2:=lh9 (fun w' (h : Below W1.heap.size W1 w') => HIC.out.abs (z) bp Bp mp dp w' (HT.out _ (zac hB h)) (HNp.out.below h) (by have:=Sz.words HZp.out HNp.out.words; omega))
 have C3:=lh9 (fun w' (h : Below W1.heap.size W1 w') B3 m3 d3 (hw3 : zag w' (z.natAbs) B3 m3 d3) => zcV (z.natAbs) B3 Bq m3 d3 mq dq w' hw3 (HNq.out.below h).2 (by have:=Sz.words HZ3.out hw3; omega) (by have:=Sz.holds' HZq.out HNq.out.2; omega))
 have hBw:=(Below.refl W1.heap.size W1).drew
 refine rg (csc g1 (csc e1 (csc g2 (csc e2 csn)))) (fun hHeld => ?_)
 refine tk 0 ?_
 refine tk 2 ?_
 refine tk 3 ?_
 refine rc 1 (fun K hK => ?_)
 go_simp
 go_at_call 78; (with_reducible refine (C0.out _ hBw).mono ?_); rintro e wa2 ⟨rfl,hb⟩; have hBw:=zac hBw hb; refine hK.out _ _ (Cs.below hHeld hb) (fun hHeld => ?_); clear hK K hb
 try simp only [sb9]
 refine tk 4 ?_
 refine tk 5 ?_
 refine tk 6 ?_
 refine tk 8 ?_
 refine rc 7 (fun K hK => ?_)
 go_simp
 go_at_call 70; (with_reducible refine (C1.out _ hBw).mono ?_); rintro e wa3 ⟨rfl,hb⟩; have hBw:=zac hBw hb; refine hK.out _ _ (Cs.below hHeld hb) (fun hHeld => ?_); clear hK K hb
 try simp only [sb9]
 refine tk 9 ?_
 refine tk 10 ?_
 refine tk 11 ?_
 refine tk 12 ?_
 refine tk 14 ?_
 refine tk 15 ?_
 refine rc 13 (fun K hK => ?_)
 go_simp
 go_at_call 75; (with_reducible refine (C2.out _ hBw).mono ?_); rintro e wa4 ⟨B3,m3,d3,rfl,hw3,hb⟩; have hBw:=zac hBw hb; refine hK.out _ _ (Cs.below hHeld hb) (fun hHeld => ?_); clear hK K hb
 try simp only [sb9]
 refine rc 16 (fun K hK => ?_)
 go_simp
 go_at_call 55; (with_reducible refine (C3.out _ hBw _ _ _ hw3).mono ?_); rintro e wa5 ⟨rfl,hb⟩; have hBw:=zac hBw hb; have hw3:=hw3.below hb; refine hK.out _ _ (Cs.below hHeld hb) (fun hHeld => ?_); clear hK K hb
 try simp only [sb9]
 refine tk 17 ?_
 refine tk 18 ?_
 refine rdn ?_
 have hB:=zac hB hBw
 have HNp:=lh9 (HNp.out.below hBw)
 have HNq:=lh9 (HNq.out.below hBw)
 have g1:=zad hBw g1
 have e1:=zad hBw e1
 have g2:=zad hBw g2
 have e2:=zad hBw e2
 have HN3:=lh9 hw3
 clear hBw hHeld hw3 C0 C1 C2 C3
 go_wp2
 go_ret
 exact ⟨by first | rfl | simp,hB⟩
theorem zfM {T : World → Prop} (hTb : ∀ w w',T w → Below w.heap.size w w' → T w') (IC : IntC T) (z : Int) (bp : Bool) (Bp : oA9) (mp dp : Nat) (bq : Bool) (Bq : oA9) (mq dq : Nat) (K : Nat) (hKK : K ≤ 16777216) (w : World) (sz : Sz K z.natAbs) (hp : zaA w z bp Bp mp dp) (hq : zaM w z bq Bq mq dq) (hT : T w) :
  Calls Tryz.prog 53 #[.agg #[.bool bp,.slice Bp mp dp],.agg #[.bool bq,.slice Bq mq dq]] w fun e w' => e = .returned (.bool true) ∧ Below w.heap.size w w':=by
 rcases Int.lt_trichotomy z 0 with h | h | h
 ·exact ziT hTb IC z bp Bp mp dp bq Bq mq dq K hKK w sz hp hq hT h
 ·exact ziR hTb IC z bp Bp mp dp bq Bq mq dq K hKK w sz hp hq hT h
 ·exact ziS hTb IC z bp Bp mp dp bq Bq mq dq K hKK w sz hp hq hT h
end Go.Proofs.YtkiedljcgkoaiaaGreatDoor
