/- What this claim leans on. -/
import Derived.Test.YtfieheffipfahaaGreatDoorRMeet2
namespace Go.Proofs.YtfieheffipfahaaGreatDoor
open Go Go.RowKit
set_option maxHeartbeats 16000000
set_option maxRecDepth 100000
set_option linter.unusedVariables false
set_option linter.unusedSimpArgs false
theorem szh {K B x n c : Nat} {A : oA9} {w : World} (h : Hid (Sz K x)) (k : zai w x A n c) (e : 4 * K ≤ B:=by omega) : n ≤ B:=Nat.le_trans (h.out.holds' k) e
theorem zkc {w w' : World} {x : Nat} {A : oA9} {n c g : Nat} {t : TypeId} {cs : Array Value} (h : zai w x A n c) (hk : Blk w g t cs) (hcs : NoU cs) (ho : zei g w w') : zai w' x A n c:=⟨zkr h.1 hk hcs ho,h.2⟩
theorem ref_off {w w' : World} {z : Int} {b : Bool} {A : oA9} {n c g : Nat} {t : TypeId} {cs : Array Value} (h : zbC w z b A n c) (hk : Blk w g t cs) (hcs : NoU cs) (ho : zei g w w') : zbC w' z b A n c:=⟨h.1,zkc h.2 hk hcs ho⟩
theorem zlj {T : World → Prop} (hTb : ∀ w w',T w → Below w.heap.size w w' → T w') (IC : IntC T) (z : Int) (bp : Bool) (Bp : oA9) (mp dp : Nat) (bq : Bool) (Bq : oA9) (mq dq : Nat) (K : Nat) (hKK : K ≤ 16777216) (w : World) (sz : Sz K z.natAbs) (hp : zaE w z bp Bp mp dp) (hq : zbC w z bq Bq mq dq) (hT : T w) (h : z < 0) :
  Calls Tryz.prog 61 #[.agg #[.bool bp,.slice Bp mp dp],.agg #[.bool bq,.slice Bq mq dq]] w fun e w' => e = .returned (.bool true) ∧ Below w.heap.size w w':=by
 have HIC:=lh9 IC
 have HT:=lh9 (fun w' (hb : Below w.heap.size w w') => hTb w w' hT hb)
 have HNp:=lh9 hp
 have HNq:=lh9 hq
 have HZp:=lh9 sz
 have HZq:=lh9 sz
 have Hh:=lh9 h
 clear IC hT hp hq sz h
 go_enter Tryz.func61,Tryz.ntmps61
 have hB:=Below.refl w.heap.size w
 obtain rfl : bq = true:=(HNq.out).1.trans (decide_eq_true (by have:=Hh.out; omega))
 obtain ⟨bx1,bx2,bx3,bz⟩:=zbD w 31 38 #[.bool bp,.slice Bp mp dp] #[.bool true,.slice Bq mq dq]
 have hB:=zac hB bx1
 have HNp:=lh9 (HNp.out.below bx1)
 have HNq:=lh9 (HNq.out.below bx1)
 obtain ⟨g1,e1⟩:=bx2.c2
 obtain ⟨g2,e2⟩:=bx3.c2
 clear bx1 bx2 bx3 bz
 go_wp2_with fail
 generalize (w.alloc (.cells #[.bool bp,.slice Bp mp dp] 31)).alloc (.cells #[.bool true,.slice Bq mq dq] 38) = W1 at *
 have C0:=lh9 (fun w' (h : Below W1.heap.size W1 w') => zhc (b:=true) (decide_eq_true (by have:=Hh.out; omega)) (HIC.out.belowI (z) bp Bp mp dp w' (HT.out _ (zac hB h)) (HNp.out.below h) (by have:=Sz.words HZp.out HNp.out.words; omega)))
 have C1:=lh9 (fun w' (h : Below W1.heap.size W1 w') => zlg (v:=-1) ((sgn_neg Hh.out)) (HIC.out.sign (z) bp Bp mp dp w' (HT.out _ (zac hB h)) (HNp.out.below h) (by have:=Sz.words HZp.out HNp.out.words; omega)))
 have HZ3 : Hid (Sz (K) (z.natAbs)):=HZp.out
 have C2:=lh9 (fun w' (h : Below W1.heap.size W1 w') => HIC.out.abs (z) bp Bp mp dp w' (HT.out _ (zac hB h)) (HNp.out.below h) (by have:=Sz.words HZp.out HNp.out.words; omega))
 have C3:=lh9 (fun w' (h : Below W1.heap.size W1 w') B3 m3 d3 (hw3 : zaf w' (z.natAbs) B3 m3 d3) => zdH (z.natAbs) B3 Bq m3 d3 mq dq w' hw3 (HNq.out.below h).2 (by have:=Sz.words HZ3.out hw3; omega) (by have:=Sz.holds' HZq.out HNq.out.2; omega))
 have hBw:=(Below.refl W1.heap.size W1).drew
 refine rg (csc g1 (csc e1 (csc g2 (csc e2 csn)))) (fun hHeld => ?_)
 refine tk 0 ?_
 refine tk 2 ?_
 refine tk 3 ?_
 refine rc 1 (fun K hK => ?_)
 go_simp
 go_at_call 83; (with_reducible refine (C0.out _ hBw).mono ?_); rintro e wa2 ⟨rfl,hb⟩; have hBw:=zac hBw hb; refine hK.out _ _ (Cs.below hHeld hb) (fun hHeld => ?_); clear hK K hb
 try simp only [sb9]
 refine tk 4 ?_
 refine tk 5 ?_
 refine tk 6 ?_
 refine tk 8 ?_
 refine rc 7 (fun K hK => ?_)
 go_simp
 go_at_call 80; (with_reducible refine (C1.out _ hBw).mono ?_); rintro e wa3 ⟨rfl,hb⟩; have hBw:=zac hBw hb; refine hK.out _ _ (Cs.below hHeld hb) (fun hHeld => ?_); clear hK K hb
 try simp only [sb9]
 refine tk 9 ?_
 refine tk 10 ?_
 refine tk 11 ?_
 refine tk 12 ?_
 refine tk 14 ?_
 refine tk 15 ?_
 refine rc 13 (fun K hK => ?_)
 go_simp
 go_at_call 28; (with_reducible refine (C2.out _ hBw).mono ?_); rintro e wa4 ⟨B3,m3,d3,rfl,hw3,hb⟩; have hBw:=zac hBw hb; refine hK.out _ _ (Cs.below hHeld hb) (fun hHeld => ?_); clear hK K hb
 try simp only [sb9]
 refine rc 16 (fun K hK => ?_)
 go_simp
 go_at_call 62; (with_reducible refine (C3.out _ hBw _ _ _ hw3).mono ?_); rintro e wa5 ⟨rfl,hb⟩; have hBw:=zac hBw hb; have hw3:=hw3.below hb; refine hK.out _ _ (Cs.below hHeld hb) (fun hHeld => ?_); clear hK K hb
 try simp only [sb9]
 refine tk 17 ?_
 refine tk 18 ?_
 refine rdn ?_
 have hB:=zac hB hBw
 have HNp:=lh9 (HNp.out.below hBw)
 have HNq:=lh9 (HNq.out.below hBw)
 have g1:=zad hBw g1
 have e1:=zad hBw e1
 have g2:=zad hBw g2
 have e2:=zad hBw e2
 have HN3:=lh9 hw3
 clear hBw hHeld hw3 C0 C1 C2 C3
 go_wp2
 go_ret
 exact ⟨by first | rfl | simp,hB⟩
theorem zlh {T : World → Prop} (hTb : ∀ w w',T w → Below w.heap.size w w' → T w') (IC : IntC T) (z : Int) (bp : Bool) (Bp : oA9) (mp dp : Nat) (bq : Bool) (Bq : oA9) (mq dq : Nat) (K : Nat) (hKK : K ≤ 16777216) (w : World) (sz : Sz K z.natAbs) (hp : zaE w z bp Bp mp dp) (hq : zbC w z bq Bq mq dq) (hT : T w) (h : z = 0) :
  Calls Tryz.prog 61 #[.agg #[.bool bp,.slice Bp mp dp],.agg #[.bool bq,.slice Bq mq dq]] w fun e w' => e = .returned (.bool true) ∧ Below w.heap.size w w':=by
 have HIC:=lh9 IC
 have HT:=lh9 (fun w' (hb : Below w.heap.size w w') => hTb w w' hT hb)
 have HNp:=lh9 hp
 have HNq:=lh9 hq
 have HZp:=lh9 sz
 have HZq:=lh9 sz
 have Hh:=lh9 h
 clear IC hT hp hq sz h
 go_enter Tryz.func61,Tryz.ntmps61
 have hB:=Below.refl w.heap.size w
 obtain rfl : bq = false:=(HNq.out).1.trans (decide_eq_false (by have:=Hh.out; omega))
 have hqq:=zen (HNq.out).2 (by have:=Hh.out; omega)
 have hrq : ((mq : Int) == 0) = true:=by rw [beq_iff_eq]; omega
 clear hqq
 obtain ⟨bx1,bx2,bx3,bz⟩:=zbD w 31 38 #[.bool bp,.slice Bp mp dp] #[.bool false,.slice Bq mq dq]
 have hB:=zac hB bx1
 have HNp:=lh9 (HNp.out.below bx1)
 have HNq:=lh9 (HNq.out.below bx1)
 obtain ⟨g1,e1⟩:=bx2.c2
 obtain ⟨g2,e2⟩:=bx3.c2
 clear bx1 bx2 bx3 bz
 go_wp2_with fail
 generalize (w.alloc (.cells #[.bool bp,.slice Bp mp dp] 31)).alloc (.cells #[.bool false,.slice Bq mq dq] 38) = W1 at *
 have C0:=lh9 (fun w' (h : Below W1.heap.size W1 w') => zhc (b:=false) (decide_eq_false (by have:=Hh.out; omega)) (HIC.out.belowI (z) bp Bp mp dp w' (HT.out _ (zac hB h)) (HNp.out.below h) (by have:=Sz.words HZp.out HNp.out.words; omega)))
 have C1:=lh9 (fun w' (h : Below W1.heap.size W1 w') => zlg (v:=0) (((sgnZ_eq _).2 Hh.out)) (HIC.out.sign (z) bp Bp mp dp w' (HT.out _ (zac hB h)) (HNp.out.below h) (by have:=Sz.words HZp.out HNp.out.words; omega)))
 have HZ3 : Hid (Sz (K) (z.natAbs)):=HZp.out
 have C2:=lh9 (fun w' (h : Below W1.heap.size W1 w') => HIC.out.abs (z) bp Bp mp dp w' (HT.out _ (zac hB h)) (HNp.out.below h) (by have:=Sz.words HZp.out HNp.out.words; omega))
 have C3:=lh9 (fun w' (h : Below W1.heap.size W1 w') B3 m3 d3 (hw3 : zaf w' (z.natAbs) B3 m3 d3) => zdH (z.natAbs) B3 Bq m3 d3 mq dq w' hw3 (HNq.out.below h).2 (by have:=Sz.words HZ3.out hw3; omega) (by have:=Sz.holds' HZq.out HNq.out.2; omega))
 have hBw:=(Below.refl W1.heap.size W1).drew
 refine rg (csc g1 (csc e1 (csc g2 (csc e2 csn)))) (fun hHeld => ?_)
 refine tk 0 ?_
 refine tk 2 ?_
 refine tk 3 ?_
 refine rc 1 (fun K hK => ?_)
 go_simp
 go_at_call 83; (with_reducible refine (C0.out _ hBw).mono ?_); rintro e wa2 ⟨rfl,hb⟩; have hBw:=zac hBw hb; refine hK.out _ _ (Cs.below hHeld hb) (fun hHeld => ?_); clear hK K hb
 try simp only [sb9]
 refine tk 4 ?_
 refine tk 5 ?_
 refine tk 6 ?_
 refine tk 8 ?_
 refine rc 7 (fun K hK => ?_)
 go_simp
 go_at_call 80; (with_reducible refine (C1.out _ hBw).mono ?_); rintro e wa3 ⟨rfl,hb⟩; have hBw:=zac hBw hb; refine hK.out _ _ (Cs.below hHeld hb) (fun hHeld => ?_); clear hK K hb
 try simp only [sb9]
 refine tk 9 ?_
 refine tk 10 ?_
 refine tk 11 ?_
 refine tk 12 ?_
 refine tk 14 ?_
 refine tk 15 ?_
 refine rc 13 (fun K hK => ?_)
 go_simp
 go_at_call 28; (with_reducible refine (C2.out _ hBw).mono ?_); rintro e wa4 ⟨B3,m3,d3,rfl,hw3,hb⟩; have hBw:=zac hBw hb; refine hK.out _ _ (Cs.below hHeld hb) (fun hHeld => ?_); clear hK K hb
 try simp only [sb9]
 refine rc 16 (fun K hK => ?_)
 go_simp
 go_at_call 62; (with_reducible refine (C3.out _ hBw _ _ _ hw3).mono ?_); rintro e wa5 ⟨rfl,hb⟩; have hBw:=zac hBw hb; have hw3:=hw3.below hb; refine hK.out _ _ (Cs.below hHeld hb) (fun hHeld => ?_); clear hK K hb
 try simp only [sb9]
 refine tk 17 ?_
 refine tk 18 ?_
 refine rdn ?_
 have hB:=zac hB hBw
 have HNp:=lh9 (HNp.out.below hBw)
 have HNq:=lh9 (HNq.out.below hBw)
 have g1:=zad hBw g1
 have e1:=zad hBw e1
 have g2:=zad hBw g2
 have e2:=zad hBw e2
 have HN3:=lh9 hw3
 clear hBw hHeld hw3 C0 C1 C2 C3
 go_wp2
 go_ret
 exact ⟨by first | rfl | simp,hB⟩
theorem zli {T : World → Prop} (hTb : ∀ w w',T w → Below w.heap.size w w' → T w') (IC : IntC T) (z : Int) (bp : Bool) (Bp : oA9) (mp dp : Nat) (bq : Bool) (Bq : oA9) (mq dq : Nat) (K : Nat) (hKK : K ≤ 16777216) (w : World) (sz : Sz K z.natAbs) (hp : zaE w z bp Bp mp dp) (hq : zbC w z bq Bq mq dq) (hT : T w) (h : 0 < z) :
  Calls Tryz.prog 61 #[.agg #[.bool bp,.slice Bp mp dp],.agg #[.bool bq,.slice Bq mq dq]] w fun e w' => e = .returned (.bool true) ∧ Below w.heap.size w w':=by
 have HIC:=lh9 IC
 have HT:=lh9 (fun w' (hb : Below w.heap.size w w') => hTb w w' hT hb)
 have HNp:=lh9 hp
 have HNq:=lh9 hq
 have HZp:=lh9 sz
 have HZq:=lh9 sz
 have Hh:=lh9 h
 clear IC hT hp hq sz h
 go_enter Tryz.func61,Tryz.ntmps61
 have hB:=Below.refl w.heap.size w
 obtain rfl : bq = false:=(HNq.out).1.trans (decide_eq_false (by have:=Hh.out; omega))
 have hqq:=zfG (HNq.out).2 (by have:=Hh.out; omega)
 have hrq : ((mq : Int) == 0) = false:=by rw [beq_eq_false_iff_ne]; omega
 clear hqq
 obtain ⟨bx1,bx2,bx3,bz⟩:=zbD w 31 38 #[.bool bp,.slice Bp mp dp] #[.bool false,.slice Bq mq dq]
 have hB:=zac hB bx1
 have HNp:=lh9 (HNp.out.below bx1)
 have HNq:=lh9 (HNq.out.below bx1)
 obtain ⟨g1,e1⟩:=bx2.c2
 obtain ⟨g2,e2⟩:=bx3.c2
 clear bx1 bx2 bx3 bz
 go_wp2_with fail
 generalize (w.alloc (.cells #[.bool bp,.slice Bp mp dp] 31)).alloc (.cells #[.bool false,.slice Bq mq dq] 38) = W1 at *
 have C0:=lh9 (fun w' (h : Below W1.heap.size W1 w') => zhc (b:=false) (decide_eq_false (by have:=Hh.out; omega)) (HIC.out.belowI (z) bp Bp mp dp w' (HT.out _ (zac hB h)) (HNp.out.below h) (by have:=Sz.words HZp.out HNp.out.words; omega)))
 have C1:=lh9 (fun w' (h : Below W1.heap.size W1 w') => zlg (v:=1) ((sgn_pos Hh.out)) (HIC.out.sign (z) bp Bp mp dp w' (HT.out _ (zac hB h)) (HNp.out.below h) (by have:=Sz.words HZp.out HNp.out.words; omega)))
 have HZ3 : Hid (Sz (K) (z.natAbs)):=HZp.out
 have C2:=lh9 (fun w' (h : Below W1.heap.size W1 w') => HIC.out.abs (z) bp Bp mp dp w' (HT.out _ (zac hB h)) (HNp.out.below h) (by have:=Sz.words HZp.out HNp.out.words; omega))
 have C3:=lh9 (fun w' (h : Below W1.heap.size W1 w') B3 m3 d3 (hw3 : zaf w' (z.natAbs) B3 m3 d3) => zdH (z.natAbs) B3 Bq m3 d3 mq dq w' hw3 (HNq.out.below h).2 (by have:=Sz.words HZ3.out hw3; omega) (by have:=Sz.holds' HZq.out HNq.out.2; omega))
 have hBw:=(Below.refl W1.heap.size W1).drew
 refine rg (csc g1 (csc e1 (csc g2 (csc e2 csn)))) (fun hHeld => ?_)
 refine tk 0 ?_
 refine tk 2 ?_
 refine tk 3 ?_
 refine rc 1 (fun K hK => ?_)
 go_simp
 go_at_call 83; (with_reducible refine (C0.out _ hBw).mono ?_); rintro e wa2 ⟨rfl,hb⟩; have hBw:=zac hBw hb; refine hK.out _ _ (Cs.below hHeld hb) (fun hHeld => ?_); clear hK K hb
 try simp only [sb9]
 refine tk 4 ?_
 refine tk 5 ?_
 refine tk 6 ?_
 refine tk 8 ?_
 refine rc 7 (fun K hK => ?_)
 go_simp
 go_at_call 80; (with_reducible refine (C1.out _ hBw).mono ?_); rintro e wa3 ⟨rfl,hb⟩; have hBw:=zac hBw hb; refine hK.out _ _ (Cs.below hHeld hb) (fun hHeld => ?_); clear hK K hb
 try simp only [sb9]
 refine tk 9 ?_
 refine tk 10 ?_
 refine tk 11 ?_
 refine tk 12 ?_
 refine tk 14 ?_
 refine tk 15 ?_
 refine rc 13 (fun K hK => ?_)
 go_simp
 go_at_call 28; (with_reducible refine (C2.out _ hBw).mono ?_); rintro e wa4 ⟨B3,m3,d3,rfl,hw3,hb⟩; have hBw:=zac hBw hb; refine hK.out _ _ (Cs.below hHeld hb) (fun hHeld => ?_); clear hK K hb
 try simp only [sb9]
 refine rc 16 (fun K hK => ?_)
 go_simp
 go_at_call 62; (with_reducible refine (C3.out _ hBw _ _ _ hw3).mono ?_); rintro e wa5 ⟨rfl,hb⟩; have hBw:=zac hBw hb; have hw3:=hw3.below hb; refine hK.out _ _ (Cs.below hHeld hb) (fun hHeld => ?_); clear hK K hb
 try simp only [sb9]
 refine tk 17 ?_
 refine tk 18 ?_
 refine rdn ?_
 have hB:=zac hB hBw
 have HNp:=lh9 (HNp.out.below hBw)
 have HNq:=lh9 (HNq.out.below hBw)
 have g1:=zad hBw g1
 have e1:=zad hBw e1
 have g2:=zad hBw g2
 have e2:=zad hBw e2
 have HN3:=lh9 hw3
 clear hBw hHeld hw3 C0 C1 C2 C3
 go_wp2
 go_ret
 exact ⟨by first | rfl | simp,hB⟩
theorem zhd {T : World → Prop} (hTb : ∀ w w',T w → Below w.heap.size w w' → T w') (IC : IntC T) (z : Int) (bp : Bool) (Bp : oA9) (mp dp : Nat) (bq : Bool) (Bq : oA9) (mq dq : Nat) (K : Nat) (hKK : K ≤ 16777216) (w : World) (sz : Sz K z.natAbs) (hp : zaE w z bp Bp mp dp) (hq : zbC w z bq Bq mq dq) (hT : T w) :
  Calls Tryz.prog 61 #[.agg #[.bool bp,.slice Bp mp dp],.agg #[.bool bq,.slice Bq mq dq]] w fun e w' => e = .returned (.bool true) ∧ Below w.heap.size w w':=by
 rcases Int.lt_trichotomy z 0 with h | h | h
 ·exact zlj hTb IC z bp Bp mp dp bq Bq mq dq K hKK w sz hp hq hT h
 ·exact zlh hTb IC z bp Bp mp dp bq Bq mq dq K hKK w sz hp hq hT h
 ·exact zli hTb IC z bp Bp mp dp bq Bq mq dq K hKK w sz hp hq hT h
def zde (w : World) (r : Rat) (b : Bool) (A : oA9) (n c : Nat) (E : oA9) (k f : Nat) : Prop:=zbC w r.num b A n c ∧ zai w r.den E k f
theorem zde.below {w w' : World} {r : Rat} {b : Bool} {A : oA9} {n c : Nat} {E : oA9} {k f : Nat} (h : zde w r b A n c E k f) (hb : Below w.heap.size w w') : zde w' r b A n c E k f:=⟨h.1.below hb,h.2.below hb⟩
theorem zde.to {w : World} {r s : Rat} {b : Bool} {A : oA9} {n c : Nat} {E : oA9} {k f : Nat} (e : r = s) (h : zde w r b A n c E k f) : zde w s b A n c E k f:=e ▸ h
def zoG (w : World) (r : Rat) (e : Ending) (w' : World) : Prop:=∃ (b : Bool) (A : oA9) (n c : Nat) (E : oA9) (k f : Nat),e = .returned (.agg #[.bool b,.slice A n c,.slice E k f]) ∧ zde w' r b A n c E k f ∧ Below w.heap.size w w'
theorem zfK {w w' : World} {r : Rat} {b : Bool} {A : oA9} {n c : Nat} {E : oA9} {k f : Nat} {g : Nat} {t : TypeId} {cs : Array Value} (h : zde w r b A n c E k f) (hk : Blk w g t cs) (hcs : NoU cs) (ho : zei g w w') : zde w' r b A n c E k f:=⟨ref_off h.1 hk hcs ho,zkc h.2 hk hcs ho⟩
theorem gr3 {w W : World} {r : Rat} {g : Nat} {t : TypeId} {b : Bool} {A E : oA9} {n c k f : Nat} {p : Bool} {q q2 : oA9} {r1 s r2 s2 : Nat} (h : zde W r b A n c E k f) (kd : Blk W g t #[.bool p,.slice q r1 s,.slice q2 r2 s2]) (hB : Below w.heap.size w W) (hg : w.heap.size ≤ g) : zoG w r (.returned (.agg #[.bool b,.slice A n c,.slice E k f])) (((W.setCell ⟨g,0,none⟩ (.bool b)).setCell ⟨g,1,none⟩ (.slice A n c)).setCell ⟨g,2,none⟩ (.slice E k f)) :=
 ⟨_,_,_,_,_,_,_,rfl,zfK h kd (NoU.s3 _ _ _ _ _ _ _) (zcy _ _ _ _ _),bl3 _ _ _ hg hB⟩
theorem zai.to {w : World} {x y : Nat} {A : oA9} {n c : Nat} (e : x = y) (h : zai w x A n c) : zai w y A n c:=e ▸ h
theorem zdQ (p d : Int) (hd : d ≠ 0) (s : Bool) (hs : s = (decide (p < 0) != decide (d < 0))) : sgI s (p.natAbs / Nat.gcd p.natAbs d.natAbs) = (Rat.divInt p d).num ∧ d.natAbs / Nat.gcd p.natAbs d.natAbs = (Rat.divInt p d).den:=by
 refine ⟨?_,(zer p d hd).symm⟩
 have h1:=zfj p d hd
 have h2:=zes p d hd
 rw [← h1]
 generalize (Rat.divInt p d).num = z at *
 unfold sgI
 by_cases hp : p < 0
 ·by_cases hq : d < 0
  ·rw [decide_eq_true hp,decide_eq_true hq] at hs; subst hs; simp; omega
  ·rw [decide_eq_true hp,decide_eq_false hq] at hs; subst hs; simp; omega
 ·by_cases hq : d < 0
  ·rw [decide_eq_false hp,decide_eq_true hq] at hs; subst hs; simp
   by_cases h0 : p = 0
   ·subst h0; simp at h1; omega
   ·omega
  ·rw [decide_eq_false hp,decide_eq_false hq] at hs; subst hs; simp; omega
theorem ref8_new (p : Int) (d : Int) (baa : Bool) (Baa : oA9) (maa daa : Nat) (bab : Bool) (Bab : oA9) (mab dab : Nat) (Kp : Nat) (Kd : Nat) (w : World) (zaa : Sz Kp p.natAbs) (haa : zbC w p baa Baa maa daa) (zab : Sz Kd d.natAbs) (hab : zbC w d bab Bab mab dab) (qaa : Kp ≤ 16777216) (qab : Kd ≤ 16777216) (h0 : d ≠ 0) :
  Calls Tryz.prog 40 #[.agg #[.bool baa,.slice Baa maa daa],.agg #[.bool bab,.slice Bab mab dab]] w (zoG w (Rat.divInt p d)):=by
 have HG0 : Hid (Nat.gcd p.natAbs d.natAbs ≠ 0):=Nat.gcd_ne_zero_right (by omega)
 have H0:=lh9 h0
 have HCASE : Hid ((p < 0 ∧ d < 0) ∨ (p < 0 ∧ ¬ d < 0) ∨ (¬ p < 0 ∧ d < 0) ∨ (¬ p < 0 ∧ ¬ d < 0)):=by show _ ∨ _; omega
 clear h0
 have HZaa:=lh9 zaa
 have HZab:=lh9 zab
 have HNaa:=lh9 (fun w' (b : Below w.heap.size w w') => haa.below b)
 have HNaaq:=lh9 (fun w' (b : Below w.heap.size w w') => (HNaa.out w' b).2)
 have HZaaq : Hid (Sz Kp p.natAbs):=HZaa.out
 have HNab:=lh9 (fun w' (b : Below w.heap.size w w') => hab.below b)
 have HNabq:=lh9 (fun w' (b : Below w.heap.size w w') => (HNab.out w' b).2)
 have HZabq : Hid (Sz Kd d.natAbs):=HZab.out
 clear haa zaa hab zab
 go_enter Tryz.func40,Tryz.ntmps40
 have hB:=Below.refl w.heap.size w
 obtain ⟨bx1,bx2,bx3,bx4,bz⟩:=zbp w 38 38 40 #[.bool baa,.slice Baa maa daa] #[.bool bab,.slice Bab mab dab] #[.bool false,.slice none 0 0,.slice none 0 0]
 have hB:=zac hB bx1
 obtain ⟨g1,e1⟩:=bx2.c2
 obtain ⟨g2,e2⟩:=bx3.c2
 have k3:=bx4
 clear bx1 bx2 bx3 bx4 bz
 go_wp2_with fail
 generalize ((w.alloc (.cells #[.bool baa,.slice Baa maa daa] 38)).alloc (.cells #[.bool bab,.slice Bab mab dab] 38)).alloc (.cells #[.bool false,.slice none 0 0,.slice none 0 0] 40) = W1 at *
 have HZ4 : Hid (Sz (Kp + Kd) (Nat.gcd p.natAbs d.natAbs)):=Sz.gcd HZaaq.out HZabq.out
 (with_reducible refine (zgN (p.natAbs) (d.natAbs) Baa Bab maa mab daa dab _ (HNaaq.out _ hB) (HNabq.out _ hB) (szh HZaaq (HNaaq.out _ hB)) (szh HZabq (HNabq.out _ hB))).mono ?_)
 rintro e wc2 ⟨C4,r4,f4,rfl,hw4,hb⟩
 have hB:=zac hB hb
 have g1:=zad hb g1
 have e1:=zad hb e1
 have g2:=zad hb g2
 have e2:=zad hb e2
 have k3:=zae hb k3
 have HN4:=lh9 hw4
 clear hb hw4
 go_wp2_with fail
 have HZ5 : Hid (Sz (Kp) (p.natAbs / (Nat.gcd p.natAbs d.natAbs))):=Sz.of_le HZaaq.out (Nat.div_le_self _ _)
 have HZ6 : Hid (Sz (Kp) (p.natAbs % (Nat.gcd p.natAbs d.natAbs))):=Sz.of_le HZaaq.out (Nat.mod_le _ _)
 (with_reducible refine (zhL (p.natAbs) (Nat.gcd p.natAbs d.natAbs) Baa C4 maa r4 daa f4 _ (HNaaq.out _ hB) HN4.out (szh HZaaq (HNaaq.out _ hB)) (szh HZ4 HN4.out) HG0.out).mono ?_)
 rintro e wc3 ⟨C5,r5,f5,C6,r6,f6,rfl,hw5,hw6,hb⟩
 have hB:=zac hB hb
 have g1:=zad hb g1
 have e1:=zad hb e1
 have g2:=zad hb g2
 have e2:=zad hb e2
 have k3:=zae hb k3
 have HN4:=lh9 (HN4.out.below hb)
 have HN5:=lh9 hw5
 have HN6:=lh9 hw6
 clear hb hw5 hw6
 go_wp2_with fail
 have HZ7 : Hid (Sz (Kd) (d.natAbs / (Nat.gcd p.natAbs d.natAbs))):=Sz.of_le HZabq.out (Nat.div_le_self _ _)
 have HZ8 : Hid (Sz (Kd) (d.natAbs % (Nat.gcd p.natAbs d.natAbs))):=Sz.of_le HZabq.out (Nat.mod_le _ _)
 (with_reducible refine (zhL (d.natAbs) (Nat.gcd p.natAbs d.natAbs) Bab C4 mab r4 dab f4 _ (HNabq.out _ hB) HN4.out (szh HZabq (HNabq.out _ hB)) (szh HZ4 HN4.out) HG0.out).mono ?_)
 rintro e wc4 ⟨C7,r7,f7,C8,r8,f8,rfl,hw7,hw8,hb⟩
 have hB:=zac hB hb
 have g1:=zad hb g1
 have e1:=zad hb e1
 have g2:=zad hb g2
 have e2:=zad hb e2
 have k3:=zae hb k3
 have HN4:=lh9 (HN4.out.below hb)
 have HN5:=lh9 (HN5.out.below hb)
 have HN6:=lh9 (HN6.out.below hb)
 have HN7:=lh9 hw7
 have HN8:=lh9 hw8
 clear hb hw7 hw8
 rcases HCASE.out with hq | hq | hq | hq
 ·clear HCASE
  obtain ⟨hp,hd⟩:=hq
  have HMP:=lh9 (zdQ p d H0.out false (by simp [hp,hd] <;> omega))
  have Hsp:=lh9 hp
  have Hsd:=lh9 hd
  clear hp hd
  obtain rfl : baa = true:=((HNaa.out _ hB)).1.trans (decide_eq_true (by have:=Hsp.out; omega))
  obtain rfl : bab = true:=((HNab.out _ hB)).1.trans (decide_eq_true (by have:=Hsd.out; omega))
  go_wp2_with fail
  have HZ9 : Hid (Sz (Kp) (sgI false (p.natAbs / (Nat.gcd p.natAbs d.natAbs))).natAbs):=(by rw [zfM]; exact HZ5.out)
  (with_reducible refine (zdS false (p.natAbs / (Nat.gcd p.natAbs d.natAbs)) C5 r5 f5 _ HN5.out (szh HZ5 HN5.out)).mono ?_)
  rintro e wc5 ⟨b9,B9,m9,d9,rfl,hw9,hb⟩
  have hB:=zac hB hb
  have g1:=zad hb g1
  have e1:=zad hb e1
  have g2:=zad hb g2
  have e2:=zad hb e2
  have k3:=zae hb k3
  have HN4:=lh9 (HN4.out.below hb)
  have HN5:=lh9 (HN5.out.below hb)
  have HN6:=lh9 (HN6.out.below hb)
  have HN7:=lh9 (HN7.out.below hb)
  have HN8:=lh9 (HN8.out.below hb)
  have HN9:=lh9 hw9
  clear hb hw9
  obtain ⟨sc0,sf0,sc1,sf1,sc2,sf2⟩:=st3 k3 (.bool b9) (.slice B9 m9 d9)
  obtain ⟨r0,r1,r2⟩:=(sn3 k3 (.bool b9) (.slice B9 m9 d9) (.slice C7 r7 f7)).c3
  have HG:=lh9 (gr3 (⟨zbC.to HMP.out.1 HN9.out,zai.to HMP.out.2 HN7.out⟩) k3 hB (by omega))
  go_wp2
  refine bodyPost_ret (v:=.agg #[.bool b9,.slice B9 m9 d9,.slice C7 r7 f7]) (by simp [results,Tryz.results40,go_sem,r0,r1,r2]) rfl ?_
  exact HG.out
 ·clear HCASE
  obtain ⟨hp,hd⟩:=hq
  have HMP:=lh9 (zdQ p d H0.out true (by simp [hp,hd] <;> omega))
  have Hsp:=lh9 hp
  have Hsd:=lh9 hd
  clear hp hd
  obtain rfl : baa = true:=((HNaa.out _ hB)).1.trans (decide_eq_true (by have:=Hsp.out; omega))
  obtain rfl : bab = false:=((HNab.out _ hB)).1.trans (decide_eq_false (by have:=Hsd.out; omega))
  go_wp2_with fail
  have HZ9 : Hid (Sz (Kp) (sgI true (p.natAbs / (Nat.gcd p.natAbs d.natAbs))).natAbs):=(by rw [zfM]; exact HZ5.out)
  (with_reducible refine (zdS true (p.natAbs / (Nat.gcd p.natAbs d.natAbs)) C5 r5 f5 _ HN5.out (szh HZ5 HN5.out)).mono ?_)
  rintro e wc5 ⟨b9,B9,m9,d9,rfl,hw9,hb⟩
  have hB:=zac hB hb
  have g1:=zad hb g1
  have e1:=zad hb e1
  have g2:=zad hb g2
  have e2:=zad hb e2
  have k3:=zae hb k3
  have HN4:=lh9 (HN4.out.below hb)
  have HN5:=lh9 (HN5.out.below hb)
  have HN6:=lh9 (HN6.out.below hb)
  have HN7:=lh9 (HN7.out.below hb)
  have HN8:=lh9 (HN8.out.below hb)
  have HN9:=lh9 hw9
  clear hb hw9
  obtain ⟨sc0,sf0,sc1,sf1,sc2,sf2⟩:=st3 k3 (.bool b9) (.slice B9 m9 d9)
  obtain ⟨r0,r1,r2⟩:=(sn3 k3 (.bool b9) (.slice B9 m9 d9) (.slice C7 r7 f7)).c3
  have HG:=lh9 (gr3 (⟨zbC.to HMP.out.1 HN9.out,zai.to HMP.out.2 HN7.out⟩) k3 hB (by omega))
  go_wp2
  refine bodyPost_ret (v:=.agg #[.bool b9,.slice B9 m9 d9,.slice C7 r7 f7]) (by simp [results,Tryz.results40,go_sem,r0,r1,r2]) rfl ?_
  exact HG.out
 ·clear HCASE
  obtain ⟨hp,hd⟩:=hq
  have HMP:=lh9 (zdQ p d H0.out true (by simp [hp,hd] <;> omega))
  have Hsp:=lh9 hp
  have Hsd:=lh9 hd
  clear hp hd
  obtain rfl : baa = false:=((HNaa.out _ hB)).1.trans (decide_eq_false (by have:=Hsp.out; omega))
  obtain rfl : bab = true:=((HNab.out _ hB)).1.trans (decide_eq_true (by have:=Hsd.out; omega))
  go_wp2_with fail
  have HZ9 : Hid (Sz (Kp) (sgI true (p.natAbs / (Nat.gcd p.natAbs d.natAbs))).natAbs):=(by rw [zfM]; exact HZ5.out)
  (with_reducible refine (zdS true (p.natAbs / (Nat.gcd p.natAbs d.natAbs)) C5 r5 f5 _ HN5.out (szh HZ5 HN5.out)).mono ?_)
  rintro e wc5 ⟨b9,B9,m9,d9,rfl,hw9,hb⟩
  have hB:=zac hB hb
  have g1:=zad hb g1
  have e1:=zad hb e1
  have g2:=zad hb g2
  have e2:=zad hb e2
  have k3:=zae hb k3
  have HN4:=lh9 (HN4.out.below hb)
  have HN5:=lh9 (HN5.out.below hb)
  have HN6:=lh9 (HN6.out.below hb)
  have HN7:=lh9 (HN7.out.below hb)
  have HN8:=lh9 (HN8.out.below hb)
  have HN9:=lh9 hw9
  clear hb hw9
  obtain ⟨sc0,sf0,sc1,sf1,sc2,sf2⟩:=st3 k3 (.bool b9) (.slice B9 m9 d9)
  obtain ⟨r0,r1,r2⟩:=(sn3 k3 (.bool b9) (.slice B9 m9 d9) (.slice C7 r7 f7)).c3
  have HG:=lh9 (gr3 (⟨zbC.to HMP.out.1 HN9.out,zai.to HMP.out.2 HN7.out⟩) k3 hB (by omega))
  go_wp2
  refine bodyPost_ret (v:=.agg #[.bool b9,.slice B9 m9 d9,.slice C7 r7 f7]) (by simp [results,Tryz.results40,go_sem,r0,r1,r2]) rfl ?_
  exact HG.out
 ·clear HCASE
  obtain ⟨hp,hd⟩:=hq
  have HMP:=lh9 (zdQ p d H0.out false (by simp [hp,hd] <;> omega))
  have Hsp:=lh9 hp
  have Hsd:=lh9 hd
  clear hp hd
  obtain rfl : baa = false:=((HNaa.out _ hB)).1.trans (decide_eq_false (by have:=Hsp.out; omega))
  obtain rfl : bab = false:=((HNab.out _ hB)).1.trans (decide_eq_false (by have:=Hsd.out; omega))
  go_wp2_with fail
  have HZ9 : Hid (Sz (Kp) (sgI false (p.natAbs / (Nat.gcd p.natAbs d.natAbs))).natAbs):=(by rw [zfM]; exact HZ5.out)
  (with_reducible refine (zdS false (p.natAbs / (Nat.gcd p.natAbs d.natAbs)) C5 r5 f5 _ HN5.out (szh HZ5 HN5.out)).mono ?_)
  rintro e wc5 ⟨b9,B9,m9,d9,rfl,hw9,hb⟩
  have hB:=zac hB hb
  have g1:=zad hb g1
  have e1:=zad hb e1
  have g2:=zad hb g2
  have e2:=zad hb e2
  have k3:=zae hb k3
  have HN4:=lh9 (HN4.out.below hb)
  have HN5:=lh9 (HN5.out.below hb)
  have HN6:=lh9 (HN6.out.below hb)
  have HN7:=lh9 (HN7.out.below hb)
  have HN8:=lh9 (HN8.out.below hb)
  have HN9:=lh9 hw9
  clear hb hw9
  obtain ⟨sc0,sf0,sc1,sf1,sc2,sf2⟩:=st3 k3 (.bool b9) (.slice B9 m9 d9)
  obtain ⟨r0,r1,r2⟩:=(sn3 k3 (.bool b9) (.slice B9 m9 d9) (.slice C7 r7 f7)).c3
  have HG:=lh9 (gr3 (⟨zbC.to HMP.out.1 HN9.out,zai.to HMP.out.2 HN7.out⟩) k3 hB (by omega))
  go_wp2
  refine bodyPost_ret (v:=.agg #[.bool b9,.slice B9 m9 d9,.slice C7 r7 f7]) (by simp [results,Tryz.results40,go_sem,r0,r1,r2]) rfl ?_
  exact HG.out
end Go.Proofs.YtfieheffipfahaaGreatDoor
