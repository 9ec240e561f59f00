/- What this claim leans on. -/
import Derived.Test.YtgigccjiblaefaaGreatDoorOJ8Make
namespace Go.Proofs.YtgigccjiblaefaaGreatDoor
open Go Go.RowKit
set_option maxHeartbeats 16000000
set_option maxRecDepth 100000
set_option linter.unusedVariables false
set_option linter.unusedSimpArgs false
theorem zhk {K x : Nat} (h : Sz K x) : bitLen x ≤ 64 * K := zcs _ _ (by
 unfold Sz at h
 rw [show (18446744073709551616 : Nat) = 2 ^ 64 from rfl,← Nat.pow_mul] at h
 exact h)
theorem zly (r : Rat) (s : Rat) (baa : Bool) (Baa : oA9) (maa daa : Nat) (Eaa : oA9) (uaa vaa : Nat) (bab : Bool) (Bab : oA9) (mab dab : Nat) (Eab : oA9) (uab vab : Nat) (w : World) (hT : zao w) (haa : zam w r baa Baa maa daa Eaa uaa vaa) (hab : zam w s bab Bab mab dab Eab uab vab) (qaa : zaG maa uaa) (qab : zaG mab uab) (v : Int) (hv : zcO (r.num * ((s.den : Nat) : Int)) (s.num * ((r.den : Nat) : Int)) = v) :
  Calls Tryz.prog 32 #[.agg #[.bool baa,.slice Baa maa daa,.slice Eaa uaa vaa],.agg #[.bool bab,.slice Bab mab dab,.slice Eab uab vab]] w (zbt w v) := by
 have HIC := lh9 (intC (T := zao))
 have HGC := lh9 gcdC
 have HT := lh9 (fun w' (hb : Below w.heap.size w w') => hT.on hb)
 have HTB := HT
 obtain ⟨K,hKe⟩ : ∃ K,67108864 = K := ⟨_,rfl⟩
 have hKK : K ≤ 67108864 := by omega
 have hK0 : 0 < K := by omega
 have HV := lh9 hv
 have HNaa := lh9 (fun w' (b : Below w.heap.size w w') => haa.below b)
 obtain ⟨xaa,hxaa,hxwaa⟩ := haa.2
 have HXaa := lh9 hxaa
 have HZaa : Hid (SzQ K r) := zaF haa qaa hKe
 have HZaap : Hid (Sz K r.num.natAbs) := HZaa.out.num
 have HZaaq : Hid (Sz K xaa) := zar HZaa.out.den hxaa
 have HNaap := lh9 (fun w' (b : Below w.heap.size w w') => haa.1.below b)
 have HNaaq := lh9 (fun w' (b : Below w.heap.size w w') => hxwaa.below b)
 clear haa qaa hxaa hxwaa
 have HNab := lh9 (fun w' (b : Below w.heap.size w w') => hab.below b)
 obtain ⟨xab,hxab,hxwab⟩ := hab.2
 have HXab := lh9 hxab
 have HZab : Hid (SzQ K s) := zaF hab qab hKe
 have HZabp : Hid (Sz K s.num.natAbs) := HZab.out.num
 have HZabq : Hid (Sz K xab) := zar HZab.out.den hxab
 have HNabp := lh9 (fun w' (b : Below w.heap.size w w') => hab.1.below b)
 have HNabq := lh9 (fun w' (b : Below w.heap.size w w') => hxwab.below b)
 clear hab qab hxab hxwab
 clear hT hKe hv
 go_enter Tryz.func32,Tryz.ntmps32
 have hB := Below.refl w.heap.size w
 obtain ⟨bx1,bx2,bx3,bz⟩ := zaT w 31 31 #[.bool baa,.slice Baa maa daa,.slice Eaa uaa vaa] #[.bool bab,.slice Bab mab dab,.slice Eab uab vab]
 have hB := zad hB bx1
 obtain ⟨g1,e1,i1⟩ := bx2.c3
 obtain ⟨g2,e2,i2⟩ := bx3.c3
 clear bx1 bx2 bx3 bz
 go_wp2_with fail
 generalize (w.alloc (.cells #[.bool baa,.slice Baa maa daa,.slice Eaa uaa vaa] 31)).alloc (.cells #[.bool bab,.slice Bab mab dab,.slice Eab uab vab] 31) = W1 at *
 have HZ3 : Hid (Sz (K) (s.den)) := SzQ.den HZab.out
 have C0 := lh9 (fun w' (h : Below W1.heap.size W1 w') => zbZ (s) bab Bab mab dab Eab uab vab w' (HT.out _ (zad hB h)) (HNab.out _ (zad hB h)) (szq HZab (HNab.out _ hB)))
 have HZ4 : Hid (Sz (K + K) (r.num * ((s.den : Nat) : Int)).natAbs) := zeQ HZaap.out HZ3.out
 have C1 := lh9 (fun w' (h : Below W1.heap.size W1 w') B3 m3 d3 (hw3 : zah w' (s.den) B3 m3 d3) => zel (r.num) (s.den) baa Baa maa daa B3 m3 d3 w' (HT.out _ (zad hB h)) (HNaap.out _ (zad hB h)) hw3 (szi HZaap (HNaap.out _ hB)) (szw HZ3 hw3))
 have HZ5 : Hid (Sz (K) (r.den)) := SzQ.den HZaa.out
 have C2 := lh9 (fun w' (h : Below W1.heap.size W1 w') => zbZ (r) baa Baa maa daa Eaa uaa vaa w' (HT.out _ (zad hB h)) (HNaa.out _ (zad hB h)) (szq HZaa (HNaa.out _ hB)))
 have HZ6 : Hid (Sz (K + K) (s.num * ((r.den : Nat) : Int)).natAbs) := zeQ HZabp.out HZ5.out
 have C3 := lh9 (fun w' (h : Below W1.heap.size W1 w') B5 m5 d5 (hw5 : zah w' (r.den) B5 m5 d5) => zel (s.num) (r.den) bab Bab mab dab B5 m5 d5 w' (HT.out _ (zad hB h)) (HNabp.out _ (zad hB h)) hw5 (szi HZabp (HNabp.out _ hB)) (szw HZ5 hw5))
 have C4 := lh9 (fun w' (h : Below W1.heap.size W1 w') b4 B4 m4 d4 (hw4 : zat w' (r.num * ((s.den : Nat) : Int)) b4 B4 m4 d4) b6 B6 m6 d6 (hw6 : zat w' (s.num * ((r.den : Nat) : Int)) b6 B6 m6 d6) => zaZ (v := v) (HV.out) (HIC.out.cmp (r.num * ((s.den : Nat) : Int)) (s.num * ((r.den : Nat) : Int)) b4 b6 B4 B6 m4 m6 d4 d6 w' (HT.out _ (zad hB h)) hw4 hw6 (szi HZ4 hw4) (szi HZ6 hw6)))
 have hBw := (Below.refl W1.heap.size W1).drew
 refine rg (csc g1 (csc e1 (csc i1 (csc g2 (csc e2 (csc i2 csn)))))) (fun hHeld => ?_)
 refine tk 0 ?_
 refine tk 1 ?_
 refine tk 2 ?_
 refine tk 5 ?_
 refine tk 6 ?_
 refine tk 7 ?_
 refine rc 3 (fun K hK => ?_)
 go_simp
 go_at_call 78; (with_reducible refine (C0.out _ hBw).mono ?_); rintro e wa2 ⟨B3,m3,d3,rfl,hw3,hb⟩; have hBw := zad hBw hb; refine hK.out _ _ (Cs.below hHeld hb) (fun hHeld => ?_); clear hK K hb
 try simp only [sb9]
 refine rc 4 (fun K hK => ?_)
 go_simp
 go_at_call 81; (with_reducible refine (C1.out _ hBw _ _ _ hw3).mono ?_); rintro e wa3 ⟨b4,B4,m4,d4,rfl,hw4,hb⟩; have hBw := zad hBw hb; have hw3 := hw3.below hb; refine hK.out _ _ (Cs.below hHeld hb) (fun hHeld => ?_); clear hK K hb
 try simp only [sb9]
 refine rc 8 (fun K hK => ?_)
 go_simp
 go_at_call 78; (with_reducible refine (C2.out _ hBw).mono ?_); rintro e wa4 ⟨B5,m5,d5,rfl,hw5,hb⟩; have hBw := zad hBw hb; have hw3 := hw3.below hb; have hw4 := hw4.below hb; refine hK.out _ _ (Cs.below hHeld hb) (fun hHeld => ?_); clear hK K hb
 try simp only [sb9]
 refine rc 9 (fun K hK => ?_)
 go_simp
 go_at_call 81; (with_reducible refine (C3.out _ hBw _ _ _ hw5).mono ?_); rintro e wa5 ⟨b6,B6,m6,d6,rfl,hw6,hb⟩; have hBw := zad hBw hb; have hw3 := hw3.below hb; have hw4 := hw4.below hb; have hw5 := hw5.below hb; refine hK.out _ _ (Cs.below hHeld hb) (fun hHeld => ?_); clear hK K hb
 try simp only [sb9]
 refine rc 10 (fun K hK => ?_)
 go_simp
 go_at_call 43; (with_reducible refine (C4.out _ hBw _ _ _ _ hw4 _ _ _ _ hw6).mono ?_); rintro e wa6 ⟨rfl,hb⟩; have hBw := zad hBw hb; have hw3 := hw3.below hb; have hw4 := hw4.below hb; have hw5 := hw5.below hb; have hw6 := hw6.below hb; refine hK.out _ _ (Cs.below hHeld hb) (fun hHeld => ?_); clear hK K hb
 try simp only [sb9]
 refine tk 11 ?_
 refine rdn ?_
 have hB := zad hB hBw
 have g1 := zac hBw g1
 have e1 := zac hBw e1
 have i1 := zac hBw i1
 have g2 := zac hBw g2
 have e2 := zac hBw e2
 have i2 := zac hBw i2
 have HN3 := lh9 hw3
 have HN4 := lh9 hw4
 have HN5 := lh9 hw5
 have HN6 := lh9 hw6
 clear hBw hHeld hw3 hw4 hw5 hw6 C0 C1 C2 C3 C4
 go_wp2
 go_ret
 exact ⟨by first | rfl | simp,hB⟩
theorem zeT (r s : Rat) (baa : Bool) (Baa : oA9) (maa daa : Nat) (Eaa : oA9) (uaa vaa : Nat) (bab : Bool) (Bab : oA9) (mab dab : Nat) (Eab : oA9) (uab vab : Nat) (w : World) (hT : zao w) (haa : zam w r baa Baa maa daa Eaa uaa vaa) (hab : zam w s bab Bab mab dab Eab uab vab) (qaa : zaG maa uaa) (qab : zaG mab uab) :
  Calls Tryz.prog 32 #[.agg #[.bool baa,.slice Baa maa daa,.slice Eaa uaa vaa],.agg #[.bool bab,.slice Bab mab dab,.slice Eab uab vab]] w (zbt w (zce r s)) := by
 exact zly r s baa Baa maa daa Eaa uaa vaa bab Bab mab dab Eab uab vab w hT haa hab qaa qab (zce r s) (zds r s).symm
theorem zjX (r : Rat) (s : Rat) (baa : Bool) (Baa : oA9) (maa daa : Nat) (Eaa : oA9) (uaa vaa : Nat) (bab : Bool) (Bab : oA9) (mab dab : Nat) (Eab : oA9) (uab vab : Nat) (w : World) (hT : zao w) (haa : zam w r baa Baa maa daa Eaa uaa vaa) (hab : zam w s bab Bab mab dab Eab uab vab) (qaa : zaG maa uaa) (qab : zaG mab uab) (h0 : r.num ≠ s.num) :
  Calls Tryz.prog 33 #[.agg #[.bool baa,.slice Baa maa daa,.slice Eaa uaa vaa],.agg #[.bool bab,.slice Bab mab dab,.slice Eab uab vab]] w (fun e w' => e = .returned (.bool false) ∧ Below w.heap.size w w') := by
 have HIC := lh9 (intC (T := zao))
 have HGC := lh9 gcdC
 have HT := lh9 (fun w' (hb : Below w.heap.size w w') => hT.on hb)
 have HTB := HT
 obtain ⟨K,hKe⟩ : ∃ K,67108864 = K := ⟨_,rfl⟩
 have hKK : K ≤ 67108864 := by omega
 have hK0 : 0 < K := by omega
 obtain ⟨c,hc⟩ : ∃ c,zcO r.num s.num = c := ⟨_,rfl⟩
 have HC := lh9 hc
 have kb1 : (c == 0) = false := by
  rw [beq_eq_false_iff_ne]
  intro h9
  rw [h9] at hc
  exact h0 ((zeZ _ _).1 hc)
 clear hc
 have HNaa := lh9 (fun w' (b : Below w.heap.size w w') => haa.below b)
 obtain ⟨xaa,hxaa,hxwaa⟩ := haa.2
 have HXaa := lh9 hxaa
 have HZaa : Hid (SzQ K r) := zaF haa qaa hKe
 have HZaap : Hid (Sz K r.num.natAbs) := HZaa.out.num
 have HZaaq : Hid (Sz K xaa) := zar HZaa.out.den hxaa
 have HNaap := lh9 (fun w' (b : Below w.heap.size w w') => haa.1.below b)
 have HNaaq := lh9 (fun w' (b : Below w.heap.size w w') => hxwaa.below b)
 clear haa qaa hxaa hxwaa
 have HNab := lh9 (fun w' (b : Below w.heap.size w w') => hab.below b)
 obtain ⟨xab,hxab,hxwab⟩ := hab.2
 have HXab := lh9 hxab
 have HZab : Hid (SzQ K s) := zaF hab qab hKe
 have HZabp : Hid (Sz K s.num.natAbs) := HZab.out.num
 have HZabq : Hid (Sz K xab) := zar HZab.out.den hxab
 have HNabp := lh9 (fun w' (b : Below w.heap.size w w') => hab.1.below b)
 have HNabq := lh9 (fun w' (b : Below w.heap.size w w') => hxwab.below b)
 clear hab qab hxab hxwab
 clear hT hKe h0
 go_enter Tryz.func33,Tryz.ntmps33
 have hB := Below.refl w.heap.size w
 obtain ⟨bx1,bx2,bx3,bz⟩ := zaT w 31 31 #[.bool baa,.slice Baa maa daa,.slice Eaa uaa vaa] #[.bool bab,.slice Bab mab dab,.slice Eab uab vab]
 have hB := zad hB bx1
 obtain ⟨g1,e1,i1⟩ := bx2.c3
 obtain ⟨g2,e2,i2⟩ := bx3.c3
 clear bx1 bx2 bx3 bz
 go_wp2_with fail
 generalize (w.alloc (.cells #[.bool baa,.slice Baa maa daa,.slice Eaa uaa vaa] 31)).alloc (.cells #[.bool bab,.slice Bab mab dab,.slice Eab uab vab] 31) = W1 at *
 (with_reducible refine (zaZ (v := c) (HC.out) (HIC.out.cmp (r.num) (s.num) baa bab Baa Bab maa mab daa dab _ (HT.out _ hB) (HNaap.out _ hB) (HNabp.out _ hB) (szi HZaap (HNaap.out _ hB)) (szi HZabp (HNabp.out _ hB)))).mono ?_)
 rintro e wc2 ⟨rfl,hb⟩
 have hB := zad hB hb
 have g1 := zac hb g1
 have e1 := zac hb e1
 have i1 := zac hb i1
 have g2 := zac hb g2
 have e2 := zac hb e2
 have i2 := zac hb i2
 clear hb 
 go_wp2
 go_ret
 exact ⟨by first | rfl | simp,hB⟩
theorem zkz (r : Rat) (s : Rat) (baa : Bool) (Baa : oA9) (maa daa : Nat) (Eaa : oA9) (uaa vaa : Nat) (bab : Bool) (Bab : oA9) (mab dab : Nat) (Eab : oA9) (uab vab : Nat) (w : World) (hT : zao w) (haa : zam w r baa Baa maa daa Eaa uaa vaa) (hab : zam w s bab Bab mab dab Eab uab vab) (qaa : zaG maa uaa) (qab : zaG mab uab) (h0 : r.num = s.num) (h1 : r.den ≠ s.den) :
  Calls Tryz.prog 33 #[.agg #[.bool baa,.slice Baa maa daa,.slice Eaa uaa vaa],.agg #[.bool bab,.slice Bab mab dab,.slice Eab uab vab]] w (fun e w' => e = .returned (.bool false) ∧ Below w.heap.size w w') := by
 have HIC := lh9 (intC (T := zao))
 have HGC := lh9 gcdC
 have HT := lh9 (fun w' (hb : Below w.heap.size w w') => hT.on hb)
 have HTB := HT
 obtain ⟨K,hKe⟩ : ∃ K,67108864 = K := ⟨_,rfl⟩
 have hKK : K ≤ 67108864 := by omega
 have hK0 : 0 < K := by omega
 have HNaa := lh9 (fun w' (b : Below w.heap.size w w') => haa.below b)
 obtain ⟨xaa,hxaa,hxwaa⟩ := haa.2
 have HXaa := lh9 hxaa
 have HZaa : Hid (SzQ K r) := zaF haa qaa hKe
 have HZaap : Hid (Sz K r.num.natAbs) := HZaa.out.num
 have HZaaq : Hid (Sz K xaa) := zar HZaa.out.den hxaa
 have HNaap := lh9 (fun w' (b : Below w.heap.size w w') => haa.1.below b)
 have HNaaq := lh9 (fun w' (b : Below w.heap.size w w') => hxwaa.below b)
 clear haa qaa hxaa hxwaa
 have HNab := lh9 (fun w' (b : Below w.heap.size w w') => hab.below b)
 obtain ⟨xab,hxab,hxwab⟩ := hab.2
 have HXab := lh9 hxab
 have HZab : Hid (SzQ K s) := zaF hab qab hKe
 have HZabp : Hid (Sz K s.num.natAbs) := HZab.out.num
 have HZabq : Hid (Sz K xab) := zar HZab.out.den hxab
 have HNabp := lh9 (fun w' (b : Below w.heap.size w w') => hab.1.below b)
 have HNabq := lh9 (fun w' (b : Below w.heap.size w w') => hxwab.below b)
 clear hab qab hxab hxwab
 have HC0 : Hid (zcO r.num s.num = 0) := (zeZ _ _).2 h0
 have hxn : xaa ≠ xab := fun h9 => h1 (by rw [HXaa.out.1,HXab.out.1,h9])
 obtain ⟨c,hc⟩ : ∃ c,zaY xaa xab = c := ⟨_,rfl⟩
 have HC := lh9 hc
 have kb1 : (c == 0) = false := by
  rw [beq_eq_false_iff_ne]
  intro h9
  rw [h9] at hc
  rcases Nat.lt_trichotomy xaa xab with h8 | h8 | h8
  ·rw [zbH h8] at hc; omega
  ·exact hxn h8
  ·rw [zbV h8] at hc; omega
 clear hc
 clear hxn
 clear hT hKe h0 h1
 go_enter Tryz.func33,Tryz.ntmps33
 have hB := Below.refl w.heap.size w
 obtain ⟨bx1,bx2,bx3,bz⟩ := zaT w 31 31 #[.bool baa,.slice Baa maa daa,.slice Eaa uaa vaa] #[.bool bab,.slice Bab mab dab,.slice Eab uab vab]
 have hB := zad hB bx1
 obtain ⟨g1,e1,i1⟩ := bx2.c3
 obtain ⟨g2,e2,i2⟩ := bx3.c3
 clear bx1 bx2 bx3 bz
 go_wp2_with fail
 generalize (w.alloc (.cells #[.bool baa,.slice Baa maa daa,.slice Eaa uaa vaa] 31)).alloc (.cells #[.bool bab,.slice Bab mab dab,.slice Eab uab vab] 31) = W1 at *
 (with_reducible refine (zaZ (v := 0) (HC0.out) (HIC.out.cmp (r.num) (s.num) baa bab Baa Bab maa mab daa dab _ (HT.out _ hB) (HNaap.out _ hB) (HNabp.out _ hB) (szi HZaap (HNaap.out _ hB)) (szi HZabp (HNabp.out _ hB)))).mono ?_)
 rintro e wc2 ⟨rfl,hb⟩
 have hB := zad hB hb
 have g1 := zac hb g1
 have e1 := zac hb e1
 have i1 := zac hb i1
 have g2 := zac hb g2
 have e2 := zac hb e2
 have i2 := zac hb i2
 clear hb 
 go_wp2_with fail
 (with_reducible refine (zaZ (v := c) (HC.out) (zdF (xaa) (xab) Eaa Eab uaa uab vaa vab _ (HNaaq.out _ hB) (HNabq.out _ hB) (szw HZaaq (HNaaq.out _ hB)) (szw HZabq (HNabq.out _ hB)))).mono ?_)
 rintro e wc3 ⟨rfl,hb⟩
 have hB := zad hB hb
 have g1 := zac hb g1
 have e1 := zac hb e1
 have i1 := zac hb i1
 have g2 := zac hb g2
 have e2 := zac hb e2
 have i2 := zac hb i2
 clear hb 
 go_wp2
 go_ret
 exact ⟨by first | rfl | simp,hB⟩
theorem zjW (r : Rat) (s : Rat) (baa : Bool) (Baa : oA9) (maa daa : Nat) (Eaa : oA9) (uaa vaa : Nat) (bab : Bool) (Bab : oA9) (mab dab : Nat) (Eab : oA9) (uab vab : Nat) (w : World) (hT : zao w) (haa : zam w r baa Baa maa daa Eaa uaa vaa) (hab : zam w s bab Bab mab dab Eab uab vab) (qaa : zaG maa uaa) (qab : zaG mab uab) (h0 : r.num = s.num) (h1 : r.den = s.den) :
  Calls Tryz.prog 33 #[.agg #[.bool baa,.slice Baa maa daa,.slice Eaa uaa vaa],.agg #[.bool bab,.slice Bab mab dab,.slice Eab uab vab]] w (fun e w' => e = .returned (.bool true) ∧ Below w.heap.size w w') := by
 have HIC := lh9 (intC (T := zao))
 have HGC := lh9 gcdC
 have HT := lh9 (fun w' (hb : Below w.heap.size w w') => hT.on hb)
 have HTB := HT
 obtain ⟨K,hKe⟩ : ∃ K,67108864 = K := ⟨_,rfl⟩
 have hKK : K ≤ 67108864 := by omega
 have hK0 : 0 < K := by omega
 have HNaa := lh9 (fun w' (b : Below w.heap.size w w') => haa.below b)
 obtain ⟨xaa,hxaa,hxwaa⟩ := haa.2
 have HXaa := lh9 hxaa
 have HZaa : Hid (SzQ K r) := zaF haa qaa hKe
 have HZaap : Hid (Sz K r.num.natAbs) := HZaa.out.num
 have HZaaq : Hid (Sz K xaa) := zar HZaa.out.den hxaa
 have HNaap := lh9 (fun w' (b : Below w.heap.size w w') => haa.1.below b)
 have HNaaq := lh9 (fun w' (b : Below w.heap.size w w') => hxwaa.below b)
 clear haa qaa hxaa hxwaa
 have HNab := lh9 (fun w' (b : Below w.heap.size w w') => hab.below b)
 obtain ⟨xab,hxab,hxwab⟩ := hab.2
 have HXab := lh9 hxab
 have HZab : Hid (SzQ K s) := zaF hab qab hKe
 have HZabp : Hid (Sz K s.num.natAbs) := HZab.out.num
 have HZabq : Hid (Sz K xab) := zar HZab.out.den hxab
 have HNabp := lh9 (fun w' (b : Below w.heap.size w w') => hab.1.below b)
 have HNabq := lh9 (fun w' (b : Below w.heap.size w w') => hxwab.below b)
 clear hab qab hxab hxwab
 have HC0 : Hid (zcO r.num s.num = 0) := (zeZ _ _).2 h0
 have HC1 : Hid (zaY xaa xab = 0) := by
  have e : xaa = xab := by
   by_cases h9 : r.den = 1
   ·rw [zey HXaa.out h9,zey HXab.out (h1 ▸ h9)]
   ·rw [(zda HXaa.out h9).2,(zda HXab.out (h1 ▸ h9)).2,h1]
  show _ = _
  rw [e]
  exact zcH rfl
 clear hT hKe h0 h1
 go_enter Tryz.func33,Tryz.ntmps33
 have hB := Below.refl w.heap.size w
 obtain ⟨bx1,bx2,bx3,bz⟩ := zaT w 31 31 #[.bool baa,.slice Baa maa daa,.slice Eaa uaa vaa] #[.bool bab,.slice Bab mab dab,.slice Eab uab vab]
 have hB := zad hB bx1
 obtain ⟨g1,e1,i1⟩ := bx2.c3
 obtain ⟨g2,e2,i2⟩ := bx3.c3
 clear bx1 bx2 bx3 bz
 go_wp2_with fail
 generalize (w.alloc (.cells #[.bool baa,.slice Baa maa daa,.slice Eaa uaa vaa] 31)).alloc (.cells #[.bool bab,.slice Bab mab dab,.slice Eab uab vab] 31) = W1 at *
 (with_reducible refine (zaZ (v := 0) (HC0.out) (HIC.out.cmp (r.num) (s.num) baa bab Baa Bab maa mab daa dab _ (HT.out _ hB) (HNaap.out _ hB) (HNabp.out _ hB) (szi HZaap (HNaap.out _ hB)) (szi HZabp (HNabp.out _ hB)))).mono ?_)
 rintro e wc2 ⟨rfl,hb⟩
 have hB := zad hB hb
 have g1 := zac hb g1
 have e1 := zac hb e1
 have i1 := zac hb i1
 have g2 := zac hb g2
 have e2 := zac hb e2
 have i2 := zac hb i2
 clear hb 
 go_wp2_with fail
 (with_reducible refine (zaZ (v := 0) (HC1.out) (zdF (xaa) (xab) Eaa Eab uaa uab vaa vab _ (HNaaq.out _ hB) (HNabq.out _ hB) (szw HZaaq (HNaaq.out _ hB)) (szw HZabq (HNabq.out _ hB)))).mono ?_)
 rintro e wc3 ⟨rfl,hb⟩
 have hB := zad hB hb
 have g1 := zac hb g1
 have e1 := zac hb e1
 have i1 := zac hb i1
 have g2 := zac hb g2
 have e2 := zac hb e2
 have i2 := zac hb i2
 clear hb 
 go_wp2
 go_ret
 exact ⟨by first | rfl | simp,hB⟩
theorem rat_same (r s : Rat) (baa : Bool) (Baa : oA9) (maa daa : Nat) (Eaa : oA9) (uaa vaa : Nat) (bab : Bool) (Bab : oA9) (mab dab : Nat) (Eab : oA9) (uab vab : Nat) (w : World) (hT : zao w) (haa : zam w r baa Baa maa daa Eaa uaa vaa) (hab : zam w s bab Bab mab dab Eab uab vab) (qaa : zaG maa uaa) (qab : zaG mab uab) :
  Calls Tryz.prog 33 #[.agg #[.bool baa,.slice Baa maa daa,.slice Eaa uaa vaa],.agg #[.bool bab,.slice Bab mab dab,.slice Eab uab vab]] w (fun e w' => e = .returned (.bool (decide (r = s))) ∧ Below w.heap.size w w') := by
 by_cases h0 : r.num = s.num
 ·by_cases h1 : r.den = s.den
  ·rw [decide_eq_true (Rat.ext h0 h1)]; exact zjW r s baa Baa maa daa Eaa uaa vaa bab Bab mab dab Eab uab vab w hT haa hab qaa qab h0 h1
  ·rw [decide_eq_false (fun h9 => h1 (by rw [h9]))]; exact zkz r s baa Baa maa daa Eaa uaa vaa bab Bab mab dab Eab uab vab w hT haa hab qaa qab h0 h1
 ·rw [decide_eq_false (fun h9 => h0 (by rw [h9]))]; exact zjX r s baa Baa maa daa Eaa uaa vaa bab Bab mab dab Eab uab vab w hT haa hab qaa qab h0
theorem zgP (r : Rat) (baa : Bool) (Baa : oA9) (maa daa : Nat) (Eaa : oA9) (uaa vaa : Nat) (w : World) (hT : zao w) (haa : zam w r baa Baa maa daa Eaa uaa vaa) (qaa : zaG maa uaa) :
  Calls Tryz.prog 35 #[.agg #[.bool baa,.slice Baa maa daa,.slice Eaa uaa vaa]] w (zaK w r.floor) := by
 have HIC := lh9 (intC (T := zao))
 have HGC := lh9 gcdC
 have HT := lh9 (fun w' (hb : Below w.heap.size w w') => hT.on hb)
 have HTB := HT
 obtain ⟨K,hKe⟩ : ∃ K,67108864 = K := ⟨_,rfl⟩
 have hKK : K ≤ 67108864 := by omega
 have hK0 : 0 < K := by omega
 have HNaa := lh9 (fun w' (b : Below w.heap.size w w') => haa.below b)
 obtain ⟨xaa,hxaa,hxwaa⟩ := haa.2
 have HXaa := lh9 hxaa
 have HZaa : Hid (SzQ K r) := zaF haa qaa hKe
 have HZaap : Hid (Sz K r.num.natAbs) := HZaa.out.num
 have HZaaq : Hid (Sz K xaa) := zar HZaa.out.den hxaa
 have HNaap := lh9 (fun w' (b : Below w.heap.size w w') => haa.1.below b)
 have HNaaq := lh9 (fun w' (b : Below w.heap.size w w') => hxwaa.below b)
 clear haa qaa hxaa hxwaa
 clear hT hKe
 go_enter Tryz.func35,Tryz.ntmps35
 have hB := Below.refl w.heap.size w
 obtain ⟨bx1,bx2,bx3,bz⟩ := zaT w 31 29 #[.bool baa,.slice Baa maa daa,.slice Eaa uaa vaa] #[.bool false,.slice none 0 0]
 have hB := zad hB bx1
 obtain ⟨g1,e1,i1⟩ := bx2.c3
 have k2 := bx3
 clear bx1 bx2 bx3 bz
 go_wp2_with fail
 generalize (w.alloc (.cells #[.bool baa,.slice Baa maa daa,.slice Eaa uaa vaa] 31)).alloc (.cells #[.bool false,.slice none 0 0] 29) = W1 at *
 have HZ3 : Hid (Sz (K) (r.den)) := SzQ.den HZaa.out
 have C0 := lh9 (fun w' (h : Below W1.heap.size W1 w') => zbZ (r) baa Baa maa daa Eaa uaa vaa w' (HT.out _ (zad hB h)) (HNaa.out _ (zad hB h)) (szq HZaa (HNaa.out _ hB)))
 have HZ4 : Hid (Sz (K) (((r.den : Nat) : Int)).natAbs) := (by rw [Int.natAbs_natCast]; exact HZ3.out)
 have C1 := lh9 (fun w' (h : Below W1.heap.size W1 w') B3 m3 d3 (hw3 : zah w' (r.den) B3 m3 d3) => zeN HIC.out (r.den) B3 m3 d3 w' (HT.out _ (zad hB h)) hw3 (szw HZ3 hw3))
 have HZ5 : Hid (Sz (K) (qI r.num (((r.den : Nat) : Int))).natAbs) := SzI.q _ HZaap.out
 have HZ6 : Hid (Sz (K) (rI r.num (((r.den : Nat) : Int))).natAbs) := SzI.r _ (by have := r.den_nz; omega) HZ4.out
 have C2 := lh9 (fun w' (h : Below W1.heap.size W1 w') b4 B4 m4 d4 (hw4 : zat w' (((r.den : Nat) : Int)) b4 B4 m4 d4) => HIC.out.div (r.num) (((r.den : Nat) : Int)) baa b4 Baa B4 maa m4 daa d4 w' (HT.out _ (zad hB h)) (HNaap.out _ (zad hB h)) hw4 (szi HZaap (HNaap.out _ hB)) (szi HZ4 hw4) (by have := r.den_nz; omega))
 have lt2_m1 := k2.lt
 have GG := lh9 (fun w' (h : Below W1.heap.size W1 w') => (csc (zac h g1) (csc (zac h e1) (csc (zac h i1) csn))))
 refine rgB (fun hHeld => ?_)
 refine tl 0 GG.out ?_
 refine tl 1 GG.out ?_
 refine tl 2 GG.out ?_
 refine zaU (L := #[true,true,true,true,true,true,true,true,true,true,true,true,true,true,true])
  (J := fun a0 l a w' => ∃ (fl3 fl4 fl5 fl6 fl7 fl8 fl9 fl10 fl11 fl12 fl13 fl14 : Bool) (B3 : oA9) (m3 d3 : Nat) (b4 : Bool) (B4 : oA9) (m4 d4 : Nat) (b5 : Bool) (B5 : oA9) (m5 d5 : Nat) (b6 : Bool) (B6 : oA9) (m6 d6 ad10 ad11 : Nat),l = #[true,true,true,fl3,fl4,fl5,fl6,fl7,fl8,fl9,fl10,fl11,fl12,fl13,fl14] ∧ zbG [10,11,12,6,13,14,15,3,4,5] a0 a ∧ Hid (Below W1.heap.size W1 w') ∧
    Hid (Gd fl3 (a.tmps.getD 10 undef = .agg #[.slice B3 m3 d3] ∧ zah w' (r.den) B3 m3 d3)) ∧
    Hid (Gd fl4 (a.tmps.getD 11 undef = .agg #[.bool b4,.slice B4 m4 d4] ∧ zat w' (((r.den : Nat) : Int)) b4 B4 m4 d4)) ∧
    Hid (Gd fl5 (a.tmps.getD 12 undef = .tuple #[.agg #[.bool b5,.slice B5 m5 d5],.agg #[.bool b6,.slice B6 m6 d6],.bool true] ∧ zat w' (qI r.num (((r.den : Nat) : Int))) b5 B5 m5 d5 ∧ zat w' (rI r.num (((r.den : Nat) : Int))) b6 B6 m6 d6)) ∧
    Hid (Gd fl6 (a.tmps.getD 6 undef = .tuple #[.agg #[.bool b5,.slice B5 m5 d5],.agg #[.bool b6,.slice B6 m6 d6],.bool true])) ∧
    Hid (Gd fl7 (a.tmps.getD 13 undef = .agg #[.bool b5,.slice B5 m5 d5])) ∧
    Hid (Gd fl8 (a.tmps.getD 14 undef = .agg #[.bool b6,.slice B6 m6 d6])) ∧
    Hid (Gd fl9 (a.tmps.getD 15 undef = .bool true)) ∧
    Hid (Gd fl14 (a.tmps.getD 5 undef = .bool true)) ∧
    Hid (Gd fl10 (a.tmps.getD 3 undef = .pointer (some ⟨ad10,0,none⟩) ∧ W1.heap.size ≤ ad10 ∧ Blk w' ad10 29 (bif fl12 then #[.bool b5,.slice B5 m5 d5] else #[.bool false,.slice none 0 0]))) ∧
    Hid (Gd fl11 (a.tmps.getD 4 undef = .pointer (some ⟨ad11,0,none⟩) ∧ W1.heap.size ≤ ad11 ∧ Blk w' ad11 29 (bif fl13 then #[.bool b6,.slice B6 m6 d6] else #[.bool false,.slice none 0 0]))) ∧
    Hid (Gd fl10 (Gd fl11 (ad10 ≠ ad11))) ∧
    Hid (Gd fl4 (fl3 = true)) ∧
    Hid (Gd fl5 (fl4 = true)) ∧
    Hid (Gd fl6 (fl5 = true)) ∧
    Hid (Gd fl7 (fl6 = true)) ∧
    Hid (Gd fl8 (fl6 = true)) ∧
    Hid (Gd fl9 (fl6 = true)) ∧
    Hid (Gd fl12 (fl5 = true)) ∧
    Hid (Gd fl12 (fl7 = true)) ∧
    Hid (Gd fl12 (fl10 = true)) ∧
    Hid (Gd fl13 (fl8 = true)) ∧
    Hid (Gd fl13 (fl11 = true)) ∧
    Hid (Gd fl13 (fl12 = true)) ∧
    Hid (Gd fl14 (fl9 = true)) ∧
    Hid (Gd fl14 (fl13 = true)))
  (by rfl) ?_ ?_ ?_
 ·exact ⟨false,false,false,false,false,false,false,false,false,false,false,false,none,0,0,false,none,0,0,false,none,0,0,false,none,0,0,0,0,by kernel_rfl,zbG.refl _ _,hHeld,Gd.no,Gd.no,Gd.no,Gd.no,Gd.no,Gd.no,Gd.no,Gd.no,Gd.no,Gd.no,Gd.no,Gd.no,Gd.no,Gd.no,Gd.no,Gd.no,Gd.no,Gd.no,Gd.no,Gd.no,Gd.no,Gd.no,Gd.no,Gd.no,Gd.no⟩
 ·intro OPS Ac0 Q0 hO hAs hA
  have RB8 : Ac0.tmps.getD 8 undef = .agg #[.bool baa,.slice Baa maa daa] := (hA 8 undef).trans (by kernel_rfl)
  have RB9 : Ac0.tmps.getD 9 undef = .agg #[.bool baa,.slice Baa maa daa,.slice Eaa uaa vaa] := (hA 9 undef).trans (by kernel_rfl)
  have hsz : Ac0.tmps.size = 17 := hAs.trans (by kernel_rfl)
  clear hAs hA
  refine ⟨?_,?_⟩
  ·rintro l a w' ⟨fl3,fl4,fl5,fl6,fl7,fl8,fl9,fl10,fl11,fl12,fl13,fl14,B3,m3,d3,b4,B4,m4,d4,b5,B5,m5,d5,b6,B6,m6,d6,ad10,ad11,rfl,-⟩ hr
   obtain rfl : fl3 = true := als 3 hr hO
   obtain rfl : fl4 = true := als 4 hr hO
   obtain rfl : fl5 = true := als 5 hr hO
   obtain rfl : fl6 = true := als 6 hr hO
   obtain rfl : fl7 = true := als 7 hr hO
   obtain rfl : fl8 = true := als 8 hr hO
   obtain rfl : fl9 = true := als 9 hr hO
   obtain rfl : fl10 = true := als 10 hr hO
   obtain rfl : fl11 = true := als 11 hr hO
   obtain rfl : fl12 = true := als 12 hr hO
   obtain rfl : fl13 = true := als 13 hr hO
   obtain rfl : fl14 = true := als 14 hr hO
   rfl
  ·rintro l a w' i ⟨fl3,fl4,fl5,fl6,fl7,fl8,fl9,fl10,fl11,fl12,fl13,fl14,B3,m3,d3,b4,B4,m4,d4,b5,B5,m5,d5,b6,B6,m6,d6,ad10,ad11,rfl,HKp,hBi,qf3,qf4,qf5,qf6,qf7,qf8,qf9,qf14,qf10,qf11,qn10_11,qd4_3,qd5_4,qd6_5,qd7_6,qd8_6,qd9_6,qd12_5,qd12_7,qd12_10,qd13_8,qd13_11,qd13_12,qd14_9,qd14_13⟩ hne hi
   have hlt : i < 15 := by have := zbr hi; rw [hO] at this; exact this
   rcases (show i = 0 ∨ i = 1 ∨ i = 2 ∨ i = 3 ∨ i = 4 ∨ i = 5 ∨ i = 6 ∨ i = 7 ∨ i = 8 ∨ i = 9 ∨ i = 10 ∨ i = 11 ∨ i = 12 ∨ i = 13 ∨ i = 14 by omega) with rfl | rfl | rfl | rfl | rfl | rfl | rfl | rfl | rfl | rfl | rfl | rfl | rfl | rfl | rfl
   ·cases (zai hi : true = false)
   ·cases (zai hi : true = false)
   ·cases (zai hi : true = false)
   ·obtain rfl : fl3 = false := zai hi
    obtain rfl : fl4 = false := Gd.off qd4_3.out
    obtain rfl : fl5 = false := Gd.off qd5_4.out
    obtain rfl : fl6 = false := Gd.off qd6_5.out
    obtain rfl : fl7 = false := Gd.off qd7_6.out
    obtain rfl : fl8 = false := Gd.off qd8_6.out
    obtain rfl : fl9 = false := Gd.off qd9_6.out
    obtain rfl : fl12 = false := Gd.off qd12_5.out
    obtain rfl : fl13 = false := Gd.off qd13_8.out
    obtain rfl : fl14 = false := Gd.off qd14_9.out
    have rd9 := HKp.get 9 (by decide) RB9
    refine wog hO (fun K' hK => ?_)
    go_simp
    refine (C0.out w' hBi.out).mono ?_
    rintro e w2 ⟨nB3,nm3,nd3,rfl,nhw3,hb⟩
    exact hK.out _ _ ⟨zad hBi.out hb,true,false,false,false,false,false,false,fl10,fl11,false,false,false,nB3,nm3,nd3,b4,B4,m4,d4,b5,B5,m5,d5,b6,B6,m6,d6,ad10,ad11,by rfl,HKp.put (by decide) _,zad hBi.out hb,Gd.yes ⟨zaw (HKp.lt (by rw [hsz]; decide)) _,nhw3⟩,Gd.no,Gd.no,Gd.no,Gd.no,Gd.no,Gd.no,Gd.no,kq qf10.out fun h => ⟨h.1,zae hb h.2⟩,kq qf11.out fun h => ⟨h.1,zae hb h.2⟩,qn10_11,Gd.no,Gd.no,Gd.no,Gd.no,Gd.no,Gd.no,Gd.no,Gd.no,Gd.no,Gd.no,Gd.no,Gd.no,Gd.no,Gd.no⟩
   ·obtain rfl : fl4 = false := zai hi
    obtain rfl : fl3 = true := rdp 3 0 hi hO
    obtain rfl : fl5 = false := Gd.off qd5_4.out
    obtain rfl : fl6 = false := Gd.off qd6_5.out
    obtain rfl : fl7 = false := Gd.off qd7_6.out
    obtain rfl : fl8 = false := Gd.off qd8_6.out
    obtain rfl : fl9 = false := Gd.off qd9_6.out
    obtain rfl : fl12 = false := Gd.off qd12_5.out
    obtain rfl : fl13 = false := Gd.off qd13_8.out
    obtain rfl : fl14 = false := Gd.off qd14_9.out
    have rd10 := qf3.out.get.1
    have hw3 := qf3.out.get.2
    refine wog hO (fun K' hK => ?_)
    go_simp
    refine (C1.out w' hBi.out _ _ _ hw3).mono ?_
    rintro e w2 ⟨nb4,nB4,nm4,nd4,rfl,nhw4,hb⟩
    exact hK.out _ _ ⟨zad hBi.out hb,true,true,false,false,false,false,false,fl10,fl11,false,false,false,B3,m3,d3,nb4,nB4,nm4,nd4,b5,B5,m5,d5,b6,B6,m6,d6,ad10,ad11,by rfl,HKp.put (by decide) _,zad hBi.out hb,kq qf3.out fun h => (h).below hb,Gd.yes ⟨zaw (HKp.lt (by rw [hsz]; decide)) _,nhw4⟩,Gd.no,Gd.no,Gd.no,Gd.no,Gd.no,Gd.no,kq qf10.out fun h => ⟨h.1,zae hb h.2⟩,kq qf11.out fun h => ⟨h.1,zae hb h.2⟩,qn10_11,fun _ => rfl,Gd.no,Gd.no,Gd.no,Gd.no,Gd.no,Gd.no,Gd.no,Gd.no,Gd.no,Gd.no,Gd.no,Gd.no,Gd.no⟩
   ·obtain rfl : fl5 = false := zai hi
    obtain rfl : fl4 = true := rdp 4 1 hi hO
    obtain rfl : fl3 = true := qd4_3.out.get
    obtain rfl : fl6 = false := Gd.off qd6_5.out
    obtain rfl : fl7 = false := Gd.off qd7_6.out
    obtain rfl : fl8 = false := Gd.off qd8_6.out
    obtain rfl : fl9 = false := Gd.off qd9_6.out
    obtain rfl : fl12 = false := Gd.off qd12_5.out
    obtain rfl : fl13 = false := Gd.off qd13_8.out
    obtain rfl : fl14 = false := Gd.off qd14_9.out
    have rd8 := HKp.get 8 (by decide) RB8
    have rd11 := qf4.out.get.1
    have hw4 := qf4.out.get.2
    refine wog hO (fun K' hK => ?_)
    go_simp
    refine (C2.out w' hBi.out _ _ _ _ hw4).mono ?_
    rintro e w2 ⟨nb5,nB5,nm5,nd5,nb6,nB6,nm6,nd6,rfl,nhw5,nhw6,hb⟩
    exact hK.out _ _ ⟨zad hBi.out hb,true,true,true,false,false,false,false,fl10,fl11,false,false,false,B3,m3,d3,b4,B4,m4,d4,nb5,nB5,nm5,nd5,nb6,nB6,nm6,nd6,ad10,ad11,by rfl,HKp.put (by decide) _,zad hBi.out hb,kq qf3.out fun h => (h).below hb,kq qf4.out fun h => (h).below hb,Gd.yes ⟨zaw (HKp.lt (by rw [hsz]; decide)) _,nhw5,nhw6⟩,Gd.no,Gd.no,Gd.no,Gd.no,Gd.no,kq qf10.out fun h => ⟨h.1,zae hb h.2⟩,kq qf11.out fun h => ⟨h.1,zae hb h.2⟩,qn10_11,fun _ => rfl,fun _ => rfl,Gd.no,Gd.no,Gd.no,Gd.no,Gd.no,Gd.no,Gd.no,Gd.no,Gd.no,Gd.no,Gd.no,Gd.no⟩
   ·obtain rfl : fl6 = false := zai hi
    obtain rfl : fl5 = true := rdp 5 0 hi hO
    obtain rfl : fl4 = true := qd5_4.out.get
    obtain rfl : fl3 = true := qd4_3.out.get
    obtain rfl : fl7 = false := Gd.off qd7_6.out
    obtain rfl : fl8 = false := Gd.off qd8_6.out
    obtain rfl : fl9 = false := Gd.off qd9_6.out
    obtain rfl : fl12 = false := Gd.off qd12_7.out
    obtain rfl : fl13 = false := Gd.off qd13_8.out
    obtain rfl : fl14 = false := Gd.off qd14_9.out
    have rd12 := qf5.out.get.1
    refine wog hO (fun K' hK => ?_)
    refine zbD (x := 12) (Or.inl rfl) rd12 ?_
    exact hK.out _ _ ⟨hBi.out,true,true,true,true,false,false,false,fl10,fl11,false,false,false,B3,m3,d3,b4,B4,m4,d4,b5,B5,m5,d5,b6,B6,m6,d6,ad10,ad11,by rfl,HKp.put (by decide) _,hBi.out,kq qf3.out fun h => (h),kq qf4.out fun h => (h),kq qf5.out fun h => ⟨(h.1),(h.2)⟩,Gd.yes (zaw (HKp.lt (by rw [hsz]; decide)) _),Gd.no,Gd.no,Gd.no,Gd.no,kq qf10.out id,kq qf11.out id,qn10_11,fun _ => rfl,fun _ => rfl,fun _ => rfl,Gd.no,Gd.no,Gd.no,Gd.no,Gd.no,Gd.no,Gd.no,Gd.no,Gd.no,Gd.no,Gd.no⟩
   ·obtain rfl : fl7 = false := zai hi
    obtain rfl : fl6 = true := rdp 6 0 hi hO
    obtain rfl : fl5 = true := qd6_5.out.get
    obtain rfl : fl4 = true := qd5_4.out.get
    obtain rfl : fl3 = true := qd4_3.out.get
    obtain rfl : fl12 = false := Gd.off qd12_7.out
    obtain rfl : fl13 = false := Gd.off qd13_12.out
    obtain rfl : fl14 = false := Gd.off qd14_13.out
    have rd6 := qf6.out.get
    refine wog hO (fun K' hK => ?_)
    refine zaO (x := 6) (k := 0) rfl rd6 rfl ?_
    exact hK.out _ _ ⟨hBi.out,true,true,true,true,true,fl8,fl9,fl10,fl11,false,false,false,B3,m3,d3,b4,B4,m4,d4,b5,B5,m5,d5,b6,B6,m6,d6,ad10,ad11,by rfl,HKp.put (by decide) _,hBi.out,kq qf3.out fun h => (h),kq qf4.out fun h => (h),kq qf5.out fun h => ⟨(h.1),(h.2)⟩,kq0 qf6.out,Gd.yes (zaw (HKp.lt (by rw [hsz]; decide)) _),kq0 qf8.out,kq0 qf9.out,Gd.no,kq qf10.out id,kq qf11.out id,qn10_11,fun _ => rfl,fun _ => rfl,fun _ => rfl,fun _ => rfl,fun _ => rfl,fun _ => rfl,Gd.no,Gd.no,Gd.no,Gd.no,Gd.no,Gd.no,Gd.no,Gd.no⟩
   ·obtain rfl : fl8 = false := zai hi
    obtain rfl : fl6 = true := rdp 6 0 hi hO
    obtain rfl : fl5 = true := qd6_5.out.get
    obtain rfl : fl4 = true := qd5_4.out.get
    obtain rfl : fl3 = true := qd4_3.out.get
    obtain rfl : fl13 = false := Gd.off qd13_8.out
    obtain rfl : fl14 = false := Gd.off qd14_13.out
    have rd6 := qf6.out.get
    refine wog hO (fun K' hK => ?_)
    refine zaO (x := 6) (k := 1) rfl rd6 rfl ?_
    exact hK.out _ _ ⟨hBi.out,true,true,true,true,fl7,true,fl9,fl10,fl11,fl12,false,false,B3,m3,d3,b4,B4,m4,d4,b5,B5,m5,d5,b6,B6,m6,d6,ad10,ad11,by rfl,HKp.put (by decide) _,hBi.out,kq qf3.out fun h => (h),kq qf4.out fun h => (h),kq qf5.out fun h => ⟨(h.1),(h.2)⟩,kq0 qf6.out,kq0 qf7.out,Gd.yes (zaw (HKp.lt (by rw [hsz]; decide)) _),kq0 qf9.out,Gd.no,kq qf10.out id,kq qf11.out id,qn10_11,fun _ => rfl,fun _ => rfl,fun _ => rfl,fun _ => rfl,fun _ => rfl,fun _ => rfl,fun _ => rfl,qd12_7,qd12_10,Gd.no,Gd.no,Gd.no,Gd.no,Gd.no⟩
   ·obtain rfl : fl9 = false := zai hi
    obtain rfl : fl6 = true := rdp 6 0 hi hO
    obtain rfl : fl5 = true := qd6_5.out.get
    obtain rfl : fl4 = true := qd5_4.out.get
    obtain rfl : fl3 = true := qd4_3.out.get
    obtain rfl : fl14 = false := Gd.off qd14_9.out
    have rd6 := qf6.out.get
    refine wog hO (fun K' hK => ?_)
    refine zaO (x := 6) (k := 2) rfl rd6 rfl ?_
    exact hK.out _ _ ⟨hBi.out,true,true,true,true,fl7,fl8,true,fl10,fl11,fl12,fl13,false,B3,m3,d3,b4,B4,m4,d4,b5,B5,m5,d5,b6,B6,m6,d6,ad10,ad11,by rfl,HKp.put (by decide) _,hBi.out,kq qf3.out fun h => (h),kq qf4.out fun h => (h),kq qf5.out fun h => ⟨(h.1),(h.2)⟩,kq0 qf6.out,kq0 qf7.out,kq0 qf8.out,Gd.yes (zaw (HKp.lt (by rw [hsz]; decide)) _),Gd.no,kq qf10.out id,kq qf11.out id,qn10_11,fun _ => rfl,fun _ => rfl,fun _ => rfl,fun _ => rfl,fun _ => rfl,fun _ => rfl,fun _ => rfl,qd12_7,qd12_10,qd13_8,qd13_11,qd13_12,Gd.no,Gd.no⟩
   ·obtain rfl : fl10 = false := zai hi
    obtain rfl : fl12 = false := Gd.off qd12_10.out
    obtain rfl : fl13 = false := Gd.off qd13_12.out
    obtain rfl : fl14 = false := Gd.off qd14_13.out
    refine wog hO (fun K' hK => ?_)
    go_simp
    have hb := zaA w' (.cells #[.bool false,.slice none 0 0] 29)
    exact hK.out _ _ ⟨zad hBi.out hb,fl3,fl4,fl5,fl6,fl7,fl8,fl9,true,fl11,false,false,false,B3,m3,d3,b4,B4,m4,d4,b5,B5,m5,d5,b6,B6,m6,d6,w'.heap.size,ad11,by rfl,HKp.put (by decide) _,zad hBi.out hb,kq qf3.out fun h => (h).below hb,kq qf4.out fun h => (h).below hb,kq qf5.out fun h => ⟨(h.1).below hb,(h.2).below hb⟩,kq0 qf6.out,kq0 qf7.out,kq0 qf8.out,kq0 qf9.out,Gd.no,Gd.yes ⟨zaw (HKp.lt (by rw [hsz]; decide)) _,hBi.out.size,Blk.new w' _ _⟩,kq qf11.out fun h => ⟨h.1,zae hb h.2⟩,Gd.yes (qf11.out.mono fun h => by have := Blk.lt h.2.2; omega),qd4_3,qd5_4,qd6_5,qd7_6,qd8_6,qd9_6,Gd.no,Gd.no,Gd.no,Gd.no,Gd.no,Gd.no,Gd.no,Gd.no⟩
   ·obtain rfl : fl11 = false := zai hi
    obtain rfl : fl13 = false := Gd.off qd13_11.out
    obtain rfl : fl14 = false := Gd.off qd14_13.out
    refine wog hO (fun K' hK => ?_)
    go_simp
    have hb := zaA w' (.cells #[.bool false,.slice none 0 0] 29)
    exact hK.out _ _ ⟨zad hBi.out hb,fl3,fl4,fl5,fl6,fl7,fl8,fl9,fl10,true,fl12,false,false,B3,m3,d3,b4,B4,m4,d4,b5,B5,m5,d5,b6,B6,m6,d6,ad10,w'.heap.size,by rfl,HKp.put (by decide) _,zad hBi.out hb,kq qf3.out fun h => (h).below hb,kq qf4.out fun h => (h).below hb,kq qf5.out fun h => ⟨(h.1).below hb,(h.2).below hb⟩,kq0 qf6.out,kq0 qf7.out,kq0 qf8.out,kq0 qf9.out,Gd.no,kq qf10.out fun h => ⟨h.1,zae hb h.2⟩,Gd.yes ⟨zaw (HKp.lt (by rw [hsz]; decide)) _,hBi.out.size,Blk.new w' _ _⟩,qf10.out.mono fun h => Gd.yes (by have := Blk.lt h.2.2; omega),qd4_3,qd5_4,qd6_5,qd7_6,qd8_6,qd9_6,qd12_5,qd12_7,qd12_10,Gd.no,Gd.no,Gd.no,Gd.no,Gd.no⟩
   ·obtain rfl : fl12 = false := zai hi
    obtain rfl : fl3 = true := rdp 3 6 hi hO
    obtain rfl : fl4 = true := rdp 4 7 hi hO
    obtain rfl : fl5 = true := rdp 5 2 hi hO
    obtain rfl : fl6 = true := rdp 6 9 hi hO
    obtain rfl : fl7 = true := rdp 7 1 hi hO
    obtain rfl : fl10 = true := rdp 10 0 hi hO
    obtain rfl : fl11 = true := rdp 11 14 hi hO
    obtain rfl : fl13 = false := Gd.off qd13_12.out
    obtain rfl : fl14 = false := Gd.off qd14_13.out
    have rd3 := qf10.out.get.1
    have rd13 := qf7.out.get
    obtain ⟨_,hg,hk⟩ := qf10.out.get
    have hk : Blk w' ad10 29 #[.bool false,.slice none 0 0] := hk
    obtain ⟨sc0,sf0,sc1,sf1⟩ := st2 hk (.bool b5)
    have hj1 := sn2 hk (.bool b5) (.slice B5 m5 d5)
    have hBn := bl2 (.bool b5) (.slice B5 m5 d5) hg hBi.out
    refine wog hO (fun K' hK => ?_)
    go_simp
    exact hK.out _ _ ⟨hBn,true,true,true,true,true,fl8,fl9,true,true,true,false,false,B3,m3,d3,b4,B4,m4,d4,b5,B5,m5,d5,b6,B6,m6,d6,ad10,ad11,by rfl,HKp,hBn,qf3.out.mono fun h => ⟨h.1,zaC (h.2) hk zcL (zcn _ _ _ _)⟩,qf4.out.mono fun h => ⟨h.1,zbk (h.2) hk zcL (zcn _ _ _ _)⟩,qf5.out.mono fun h => ⟨h.1,zbk (h.2.1) hk zcL (zcn _ _ _ _),zbk (h.2.2) hk zcL (zcn _ _ _ _)⟩,qf6.out.mono fun h => h,qf7.out.mono fun h => h,qf8.out.mono fun h => h,qf9.out.mono fun h => h,Gd.no,qf10.out.mono fun h => ⟨h.1,h.2.1,hj1⟩,fun hf9 => (fun h => ⟨h.1,h.2.1,Blk.far (p := ⟨ad10,1,none⟩) (Blk.far (p := ⟨ad10,0,none⟩) (h.2.2) (Ne.symm (qn10_11.out rfl hf9)) (.bool b5)) (Ne.symm (qn10_11.out rfl hf9)) (.slice B5 m5 d5)⟩) (qf11.out hf9),qn10_11,fun _ => rfl,fun _ => rfl,fun _ => rfl,fun _ => rfl,fun _ => rfl,fun _ => rfl,fun _ => rfl,fun _ => rfl,fun _ => rfl,Gd.no,Gd.no,Gd.no,Gd.no,Gd.no⟩
   ·obtain rfl : fl13 = false := zai hi
    obtain rfl : fl3 = true := rdp 3 6 hi hO
    obtain rfl : fl4 = true := rdp 4 7 hi hO
    obtain rfl : fl5 = true := rdp 5 8 hi hO
    obtain rfl : fl6 = true := rdp 6 9 hi hO
    obtain rfl : fl7 = true := rdp 7 10 hi hO
    obtain rfl : fl8 = true := rdp 8 1 hi hO
    obtain rfl : fl10 = true := rdp 10 13 hi hO
    obtain rfl : fl11 = true := rdp 11 0 hi hO
    obtain rfl : fl12 = true := rdp 12 2 hi hO
    obtain rfl : fl14 = false := Gd.off qd14_13.out
    have rd4 := qf11.out.get.1
    have rd14 := qf8.out.get
    obtain ⟨_,hg,hk⟩ := qf11.out.get
    have hk : Blk w' ad11 29 #[.bool false,.slice none 0 0] := hk
    obtain ⟨sc0,sf0,sc1,sf1⟩ := st2 hk (.bool b6)
    have hj1 := sn2 hk (.bool b6) (.slice B6 m6 d6)
    have hBn := bl2 (.bool b6) (.slice B6 m6 d6) hg hBi.out
    refine wog hO (fun K' hK => ?_)
    go_simp
    exact hK.out _ _ ⟨hBn,true,true,true,true,true,true,fl9,true,true,true,true,false,B3,m3,d3,b4,B4,m4,d4,b5,B5,m5,d5,b6,B6,m6,d6,ad10,ad11,by rfl,HKp,hBn,qf3.out.mono fun h => ⟨h.1,zaC (h.2) hk zcL (zcn _ _ _ _)⟩,qf4.out.mono fun h => ⟨h.1,zbk (h.2) hk zcL (zcn _ _ _ _)⟩,qf5.out.mono fun h => ⟨h.1,zbk (h.2.1) hk zcL (zcn _ _ _ _),zbk (h.2.2) hk zcL (zcn _ _ _ _)⟩,qf6.out.mono fun h => h,qf7.out.mono fun h => h,qf8.out.mono fun h => h,qf9.out.mono fun h => h,Gd.no,fun hf9 => (fun h => ⟨h.1,h.2.1,Blk.far (p := ⟨ad11,1,none⟩) (Blk.far (p := ⟨ad11,0,none⟩) (h.2.2) (qn10_11.out hf9 rfl) (.bool b6)) (qn10_11.out hf9 rfl) (.slice B6 m6 d6)⟩) (qf10.out hf9),qf11.out.mono fun h => ⟨h.1,h.2.1,hj1⟩,qn10_11,fun _ => rfl,fun _ => rfl,fun _ => rfl,fun _ => rfl,fun _ => rfl,fun _ => rfl,fun _ => rfl,fun _ => rfl,fun _ => rfl,fun _ => rfl,fun _ => rfl,fun _ => rfl,Gd.no,Gd.no⟩
   ·obtain rfl : fl14 = false := zai hi
    obtain rfl : fl3 = true := rdp 3 5 hi hO
    obtain rfl : fl4 = true := rdp 4 6 hi hO
    obtain rfl : fl5 = true := rdp 5 7 hi hO
    obtain rfl : fl6 = true := rdp 6 8 hi hO
    obtain rfl : fl7 = true := rdp 7 9 hi hO
    obtain rfl : fl8 = true := rdp 8 10 hi hO
    obtain rfl : fl9 = true := rdp 9 0 hi hO
    obtain rfl : fl10 = true := rdp 10 12 hi hO
    obtain rfl : fl11 = true := rdp 11 13 hi hO
    obtain rfl : fl12 = true := rdp 12 14 hi hO
    obtain rfl : fl13 = true := rdp 13 1 hi hO
    have rd15 := qf9.out.get
    refine wog hO (fun K' hK => ?_)
    refine zbD (x := 15) (Or.inr rfl) rd15 ?_
    exact hK.out _ _ ⟨hBi.out,true,true,true,true,true,true,true,true,true,true,true,true,B3,m3,d3,b4,B4,m4,d4,b5,B5,m5,d5,b6,B6,m6,d6,ad10,ad11,by rfl,HKp.put (by decide) _,hBi.out,kq qf3.out fun h => (h),kq qf4.out fun h => (h),kq qf5.out fun h => ⟨(h.1),(h.2)⟩,kq0 qf6.out,kq0 qf7.out,kq0 qf8.out,kq0 qf9.out,Gd.yes (zaw (HKp.lt (by rw [hsz]; decide)) _),kq qf10.out id,kq qf11.out id,qn10_11,fun _ => rfl,fun _ => rfl,fun _ => rfl,fun _ => rfl,fun _ => rfl,fun _ => rfl,fun _ => rfl,fun _ => rfl,fun _ => rfl,fun _ => rfl,fun _ => rfl,fun _ => rfl,fun _ => rfl,fun _ => rfl⟩
 rintro a wm2 ⟨fl3,fl4,fl5,fl6,fl7,fl8,fl9,fl10,fl11,fl12,fl13,fl14,B3,m3,d3,b4,B4,m4,d4,b5,B5,m5,d5,b6,B6,m6,d6,ad10,ad11,hl,HKp,hBi,qf3,qf4,qf5,qf6,qf7,qf8,qf9,qf14,qf10,qf11,qn10_11,qd4_3,qd5_4,qd6_5,qd7_6,qd8_6,qd9_6,qd12_5,qd12_7,qd12_10,qd13_8,qd13_11,qd13_12,qd14_9,qd14_13⟩
 have xx3 : fl3 = true := gdl 3 hl
 subst xx3
 have xx4 : fl4 = true := gdl 4 hl
 subst xx4
 have xx5 : fl5 = true := gdl 5 hl
 subst xx5
 have xx6 : fl6 = true := gdl 6 hl
 subst xx6
 have xx7 : fl7 = true := gdl 7 hl
 subst xx7
 have xx8 : fl8 = true := gdl 8 hl
 subst xx8
 have xx9 : fl9 = true := gdl 9 hl
 subst xx9
 have xx10 : fl10 = true := gdl 10 hl
 subst xx10
 have xx11 : fl11 = true := gdl 11 hl
 subst xx11
 have xx12 : fl12 = true := gdl 12 hl
 subst xx12
 have xx13 : fl13 = true := gdl 13 hl
 subst xx13
 have xx14 : fl14 = true := gdl 14 hl
 subst xx14
 obtain ⟨rv3,hw3⟩ := qf3.out.get
 obtain ⟨rv4,hw4⟩ := qf4.out.get
 obtain ⟨rv5,hw5,hw6⟩ := qf5.out.get
 have rv6 := qf6.out.get
 have rv7 := qf7.out.get
 have rv8 := qf8.out.get
 have rv9 := qf9.out.get
 have rv14 := qf14.out.get
 obtain ⟨rv10,hg10,hk10⟩ := qf10.out.get
 obtain ⟨rv11,hg11,hk11⟩ := qf11.out.get
 obtain rfl := HKp.eq [(10,.agg #[.slice B3 m3 d3]),(11,.agg #[.bool b4,.slice B4 m4 d4]),(12,.tuple #[.agg #[.bool b5,.slice B5 m5 d5],.agg #[.bool b6,.slice B6 m6 d6],.bool true]),(6,.tuple #[.agg #[.bool b5,.slice B5 m5 d5],.agg #[.bool b6,.slice B6 m6 d6],.bool true]),(13,.agg #[.bool b5,.slice B5 m5 d5]),(14,.agg #[.bool b6,.slice B6 m6 d6]),(15,.bool true),(3,.pointer (some ⟨ad10,0,none⟩)),(4,.pointer (some ⟨ad11,0,none⟩)),(5,.bool true)] rfl (by
  intro p hp
  simp only [List.mem_cons,List.not_mem_nil,or_false] at hp
  rcases hp with rfl | rfl | rfl | rfl | rfl | rfl | rfl | rfl | rfl | rfl
  ·exact rv3
  ·exact rv4
  ·exact rv5
  ·exact rv6
  ·exact rv7
  ·exact rv8
  ·exact rv9
  ·exact rv10
  ·exact rv11
  ·exact rv14)
 have hBv := hBi.out
 clear hl hBi HKp qf3 qf4 qf5 qf6 qf7 qf8 qf9 qf14 qf10 qf11 qn10_11 qd4_3 qd5_4 qd6_5 qd7_6 qd8_6 qd9_6 qd12_5 qd12_7 qd12_10 qd13_8 qd13_11 qd13_12 qd14_9 qd14_13 rv3 rv4 rv5 rv6 rv7 rv8 rv9 rv10 rv11 rv14
 have hk10 : Blk wm2 ad10 29 #[.bool b5,.slice B5 m5 d5] := hk10
 have hk11 : Blk wm2 ad11 29 #[.bool b6,.slice B6 m6 d6] := hk11
 rw [show due #[true,true,true,true,true,true,true,true,true,true,true,true,true,true,true] = 0 from rfl]
 simp only [zbx,List.foldl,Act.put,List.setIfInBounds_toArray,List.set_cons_zero,List.set_cons_succ]
 refine wpAnyH_done (by kernel_rfl) ?_ _
 refine NoPanic.normal ?_
 have hB := zad hB hBv
 have g1 := zac hBv g1
 have e1 := zac hBv e1
 have i1 := zac hBv i1
 have k2 := zae hBv k2
 obtain ⟨ad10_7,hga⟩ : ∃ x,x = ad10 := ⟨_,rfl⟩
 subst hga
 obtain ⟨g7,e7⟩ := hk10.c2
 obtain ⟨ad11_8,hga⟩ : ∃ x,x = ad11 := ⟨_,rfl⟩
 subst hga
 obtain ⟨g8,e8⟩ := hk11.c2
 have HN3 := lh9 hw3
 have HN4 := lh9 hw4
 have HN5 := lh9 hw5
 have HN6 := lh9 hw6
 clear hBv hk10 hk11 hw3 hw4 hw5 hw6 GG
 clear C0 C1 C2
 obtain ⟨sc0,sf0,sc1,sf1⟩ := st2 k2 (.bool b5)
 obtain ⟨r0,r1⟩ := (sn2 k2 (.bool b5) (.slice B5 m5 d5)).c2
 have HG := lh9 (gi2 (zat.to8 (zjE r).symm HN5.out) k2 hB (by omega))
 go_wp2
 refine bodyPost_ret (v := .agg #[.bool b5,.slice B5 m5 d5]) (by simp [results,Tryz.results35,go_sem,r0,r1]) rfl ?_
 exact HG.out
theorem rat_ceil (r : Rat) (baa : Bool) (Baa : oA9) (maa daa : Nat) (Eaa : oA9) (uaa vaa : Nat) (w : World) (hT : zao w) (haa : zam w r baa Baa maa daa Eaa uaa vaa) (qaa : zaG maa uaa) :
  Calls Tryz.prog 37 #[.agg #[.bool baa,.slice Baa maa daa,.slice Eaa uaa vaa]] w (zaK w r.ceil) := by
 have HIC := lh9 (intC (T := zao))
 have HGC := lh9 gcdC
 have HT := lh9 (fun w' (hb : Below w.heap.size w w') => hT.on hb)
 have HTB := HT
 obtain ⟨K,hKe⟩ : ∃ K,67108864 = K := ⟨_,rfl⟩
 have hKK : K ≤ 67108864 := by omega
 have hK0 : 0 < K := by omega
 have HNaa := lh9 (fun w' (b : Below w.heap.size w w') => haa.below b)
 obtain ⟨xaa,hxaa,hxwaa⟩ := haa.2
 have HXaa := lh9 hxaa
 have HZaa : Hid (SzQ K r) := zaF haa qaa hKe
 have HZaap : Hid (Sz K r.num.natAbs) := HZaa.out.num
 have HZaaq : Hid (Sz K xaa) := zar HZaa.out.den hxaa
 have HNaap := lh9 (fun w' (b : Below w.heap.size w w') => haa.1.below b)
 have HNaaq := lh9 (fun w' (b : Below w.heap.size w w') => hxwaa.below b)
 clear haa qaa hxaa hxwaa
 clear hT hKe
 go_enter Tryz.func37,Tryz.ntmps37
 have hB := Below.refl w.heap.size w
 obtain ⟨bx1,bx2,bx3,bz⟩ := zaT w 31 29 #[.bool baa,.slice Baa maa daa,.slice Eaa uaa vaa] #[.bool false,.slice none 0 0]
 have hB := zad hB bx1
 obtain ⟨g1,e1,i1⟩ := bx2.c3
 have k2 := bx3
 clear bx1 bx2 bx3 bz
 go_wp2_with fail
 generalize (w.alloc (.cells #[.bool baa,.slice Baa maa daa,.slice Eaa uaa vaa] 31)).alloc (.cells #[.bool false,.slice none 0 0] 29) = W1 at *
 have HZ3 : Hid (SzQ (K) ((-r))) := SzQ.neg HZaa.out
 (with_reducible refine (zhE (r) baa Baa maa daa Eaa uaa vaa _ (HT.out _ hB) (HNaa.out _ hB) (szq HZaa (HNaa.out _ hB))).mono ?_)
 rintro e wc2 ⟨b3,B3,m3,d3,E3,u3,v3,rfl,hw3,hb⟩
 have hB := zad hB hb
 have g1 := zac hb g1
 have e1 := zac hb e1
 have i1 := zac hb i1
 have k2 := zae hb k2
 have HN3 := lh9 hw3
 clear hb hw3
 go_wp2_with fail
 have HZ4 : Hid (Sz (K) ((-r).floor).natAbs) := SzQ.floor HZ3.out
 (with_reducible refine (zgP ((-r)) b3 B3 m3 d3 E3 u3 v3 _ (HT.out _ hB) HN3.out (szq HZ3 HN3.out)).mono ?_)
 rintro e wc3 ⟨b4,B4,m4,d4,rfl,hw4,hb⟩
 have hB := zad hB hb
 have g1 := zac hb g1
 have e1 := zac hb e1
 have i1 := zac hb i1
 have k2 := zae hb k2
 have HN3 := lh9 (HN3.out.below hb)
 have HN4 := lh9 hw4
 clear hb hw4
 go_wp2_with fail
 have HZ5 : Hid (Sz (K) (-(-r).floor).natAbs) := SzI.neg HZ4.out
 (with_reducible refine (HIC.out.neg ((-r).floor) b4 B4 m4 d4 _ (HT.out _ hB) HN4.out (szi HZ4 HN4.out)).mono ?_)
 rintro e wc4 ⟨b5,B5,m5,d5,rfl,hw5,hb⟩
 have hB := zad hB hb
 have g1 := zac hb g1
 have e1 := zac hb e1
 have i1 := zac hb i1
 have k2 := zae hb k2
 have HN3 := lh9 (HN3.out.below hb)
 have HN4 := lh9 (HN4.out.below hb)
 have HN5 := lh9 hw5
 clear hb hw5
 obtain ⟨sc0,sf0,sc1,sf1⟩ := st2 k2 (.bool b5)
 obtain ⟨r0,r1⟩ := (sn2 k2 (.bool b5) (.slice B5 m5 d5)).c2
 have HG := lh9 (gi2 (zat.to8 (Rat.ceil_eq_neg_floor_neg r).symm HN5.out) k2 hB (by omega))
 go_wp2
 refine bodyPost_ret (v := .agg #[.bool b5,.slice B5 m5 d5]) (by simp [results,Tryz.results37,go_sem,r0,r1]) rfl ?_
 exact HG.out
theorem rat_bits (r : Rat) (baa : Bool) (Baa : oA9) (maa daa : Nat) (Eaa : oA9) (uaa vaa : Nat) (w : World) (hT : zao w) (haa : zam w r baa Baa maa daa Eaa uaa vaa) (qaa : zaG maa uaa) :
  Calls Tryz.prog 57 #[.agg #[.bool baa,.slice Baa maa daa,.slice Eaa uaa vaa]] w (zbt w ((bitLen r.num.natAbs + bitLen r.den : Nat) : Int)) := by
 have HIC := lh9 (intC (T := zao))
 have HGC := lh9 gcdC
 have HT := lh9 (fun w' (hb : Below w.heap.size w w') => hT.on hb)
 have HTB := HT
 obtain ⟨K,hKe⟩ : ∃ K,67108864 = K := ⟨_,rfl⟩
 have hKK : K ≤ 67108864 := by omega
 have hK0 : 0 < K := by omega
 obtain ⟨pa,hpa⟩ : ∃ v,((bitLen r.num.natAbs : Nat) : Int) = v := ⟨_,rfl⟩
 obtain ⟨pb,hpb⟩ : ∃ v,((bitLen r.den : Nat) : Int) = v := ⟨_,rfl⟩
 have HPA := lh9 hpa
 have HPB := lh9 hpb
 have HNaa := lh9 (fun w' (b : Below w.heap.size w w') => haa.below b)
 obtain ⟨xaa,hxaa,hxwaa⟩ := haa.2
 have HXaa := lh9 hxaa
 have HZaa : Hid (SzQ K r) := zaF haa qaa hKe
 have HZaap : Hid (Sz K r.num.natAbs) := HZaa.out.num
 have HZaaq : Hid (Sz K xaa) := zar HZaa.out.den hxaa
 have HNaap := lh9 (fun w' (b : Below w.heap.size w w') => haa.1.below b)
 have HNaaq := lh9 (fun w' (b : Below w.heap.size w w') => hxwaa.below b)
 clear haa qaa hxaa hxwaa
 have hs1 := zhk HZaa.out.num
 have hs2 := zhk HZaa.out.den
 have HTT : Hid (IntKind.i64.wrap (pa + pb) = ((bitLen r.num.natAbs + bitLen r.den : Nat) : Int)) := by
  show _ = _
  rw [IntKind.wrap_i64]
  omega
 clear hT hKe hpa hpb hs1 hs2
 go_enter Tryz.func57,Tryz.ntmps57
 have hB := Below.refl w.heap.size w
 obtain ⟨bx1,bx2,bz⟩ := zbm w 31 #[.bool baa,.slice Baa maa daa,.slice Eaa uaa vaa]
 have hB := zad hB bx1
 obtain ⟨g1,e1,i1⟩ := bx2.c3
 clear bx1 bx2 bz
 go_wp2_with fail
 generalize w.alloc (.cells #[.bool baa,.slice Baa maa daa,.slice Eaa uaa vaa] 31) = W1 at *
 have HZ2 : Hid (Sz (K) (r.num.natAbs)) := HZaap.out
 have C0 := lh9 (fun w' (h : Below W1.heap.size W1 w') => HIC.out.abs (r.num) baa Baa maa daa w' (HT.out _ (zad hB h)) (HNaap.out _ (zad hB h)) (szi HZaap (HNaap.out _ hB)))
 have C1 := lh9 (fun w' (h : Below W1.heap.size W1 w') B2 m2 d2 (hw2 : zah w' (r.num.natAbs) B2 m2 d2) => zaZ (v := pa) (HPA.out) (zil (r.num.natAbs) B2 m2 d2 w' hw2 (szw HZ2 hw2)))
 have HZ3 : Hid (Sz (K) (r.den)) := SzQ.den HZaa.out
 have C2 := lh9 (fun w' (h : Below W1.heap.size W1 w') => zbZ (r) baa Baa maa daa Eaa uaa vaa w' (HT.out _ (zad hB h)) (HNaa.out _ (zad hB h)) (szq HZaa (HNaa.out _ hB)))
 have C3 := lh9 (fun w' (h : Below W1.heap.size W1 w') B3 m3 d3 (hw3 : zah w' (r.den) B3 m3 d3) => zaZ (v := pb) (HPB.out) (zil (r.den) B3 m3 d3 w' hw3 (szw HZ3 hw3)))
 have hBw := (Below.refl W1.heap.size W1).drew
 refine rg (csc g1 (csc e1 (csc i1 csn))) (fun hHeld => ?_)
 refine tk 0 ?_
 refine tk 1 ?_
 refine tk 4 ?_
 refine rc 2 (fun K hK => ?_)
 go_simp
 go_at_call 47; (with_reducible refine (C0.out _ hBw).mono ?_); rintro e wa2 ⟨B2,m2,d2,rfl,hw2,hb⟩; have hBw := zad hBw hb; refine hK.out _ _ (Cs.below hHeld hb) (fun hHeld => ?_); clear hK K hb
 try simp only [sb9]
 refine rc 3 (fun K hK => ?_)
 go_simp
 go_at_call 94; (with_reducible refine (C1.out _ hBw _ _ _ hw2).mono ?_); rintro e wa3 ⟨rfl,hb⟩; have hBw := zad hBw hb; have hw2 := hw2.below hb; refine hK.out _ _ (Cs.below hHeld hb) (fun hHeld => ?_); clear hK K hb
 try simp only [sb9]
 refine rc 5 (fun K hK => ?_)
 go_simp
 go_at_call 78; (with_reducible refine (C2.out _ hBw).mono ?_); rintro e wa4 ⟨B3,m3,d3,rfl,hw3,hb⟩; have hBw := zad hBw hb; have hw2 := hw2.below hb; refine hK.out _ _ (Cs.below hHeld hb) (fun hHeld => ?_); clear hK K hb
 try simp only [sb9]
 refine rc 6 (fun K hK => ?_)
 go_simp
 go_at_call 94; (with_reducible refine (C3.out _ hBw _ _ _ hw3).mono ?_); rintro e wa5 ⟨rfl,hb⟩; have hBw := zad hBw hb; have hw2 := hw2.below hb; have hw3 := hw3.below hb; refine hK.out _ _ (Cs.below hHeld hb) (fun hHeld => ?_); clear hK K hb
 try simp only [sb9]
 refine tk 7 ?_
 refine tk 8 ?_
 refine rdn ?_
 have hB := zad hB hBw
 have g1 := zac hBw g1
 have e1 := zac hBw e1
 have i1 := zac hBw i1
 have HN2 := lh9 hw2
 have HN3 := lh9 hw3
 clear hBw hHeld hw2 hw3 C0 C1 C2 C3
 go_wp2
 go_ret
 exact ⟨by rw [← HTT.out]; rfl,hB⟩
end Go.Proofs.YtgigccjiblaefaaGreatDoor
