/- What this claim leans on. -/
import Derived.Test.YtgigccjiblaefaaGreatDoorOBun7b
import Derived.Test.YtgigccjiblaefaaGreatDoorOD8Form
namespace Go.Proofs.YtgigccjiblaefaaGreatDoor
open Go Go.RowKit
set_option maxHeartbeats 16000000
set_option maxRecDepth 100000
set_option linter.unusedVariables false
set_option linter.unusedSimpArgs false
theorem zgn (z : Int) (baa : Bool) (Baa : oA9) (maa daa : Nat) (w : World) (hT : zao w) (haa : zat w z baa Baa maa daa) (qaa : maa ≤ 268435456) :
  Calls Tryz.prog 69 #[.agg #[.bool baa,.slice Baa maa daa]] w (zaK w z) := by
 have HIC := lh9 (intC (T := zao))
 have HGC := lh9 gcdC
 have HT := lh9 (fun w' (hb : Below w.heap.size w w') => hT.on hb)
 have HTB := HT
 obtain ⟨K,hKe⟩ : ∃ K,268435456 = K := ⟨_,rfl⟩
 have hKK : K ≤ 268435456 := by omega
 have hK0 : 0 < K := by omega
 have HV := lh9 (zll z)
 obtain ⟨sb,hsb⟩ : ∃ s,decide (z < 0) = s := ⟨_,rfl⟩
 rw [hsb] at HV
 have HSB := lh9 hsb
 clear hsb
 have HNaa := lh9 (fun w' (b : Below w.heap.size w w') => haa.below b)
 have HZaa : Hid (Sz K z.natAbs) := Sz.of_words haa.words (by omega)
 clear haa qaa
 clear hT hKe
 go_enter Tryz.func69,Tryz.ntmps69
 have hB := Below.refl w.heap.size w
 obtain ⟨bx1,bx2,bx3,bz⟩ := zaT w 29 29 #[.bool baa,.slice Baa maa daa] #[.bool false,.slice none 0 0]
 have hB := zad hB bx1
 obtain ⟨g1,e1⟩ := bx2.c2
 have k2 := bx3
 clear bx1 bx2 bx3 bz
 go_wp2_with fail
 generalize (w.alloc (.cells #[.bool baa,.slice Baa maa daa] 29)).alloc (.cells #[.bool false,.slice none 0 0] 29) = W1 at *
 have C0 := lh9 (fun w' (h : Below W1.heap.size W1 w') => zaD (HSB.out) (HIC.out.belowI (z) baa Baa maa daa w' (HT.out _ (zad hB h)) (HNaa.out _ (zad hB h)) (szi HZaa (HNaa.out _ hB))))
 have HZ3 : Hid (Sz (K) (z.natAbs)) := HZaa.out
 have C1 := lh9 (fun w' (h : Below W1.heap.size W1 w') => HIC.out.abs (z) baa Baa maa daa w' (HT.out _ (zad hB h)) (HNaa.out _ (zad hB h)) (szi HZaa (HNaa.out _ hB)))
 have HZ4 : Hid (Sz (K) (zaE sb z.natAbs).natAbs) := (by rw [zbz]; exact HZ3.out)
 have C2 := lh9 (fun w' (h : Below W1.heap.size W1 w') B3 m3 d3 (hw3 : zah w' (z.natAbs) B3 m3 d3) => HIC.out.new sb (z.natAbs) B3 m3 d3 w' (HT.out _ (zad hB h)) hw3 (szw HZ3 hw3))
 have hBw := (Below.refl W1.heap.size W1).drew
 refine rg (csc g1 (csc e1 csn)) (fun hHeld => ?_)
 refine tk 0 ?_
 refine tk 2 ?_
 refine rc 1 (fun K hK => ?_)
 go_simp
 go_at_call 60; (with_reducible refine (C0.out _ hBw).mono ?_); rintro e wa2 ⟨rfl,hb⟩; have hBw := zad hBw hb; refine hK.out _ _ (Cs.below hHeld hb) (fun hHeld => ?_); clear hK K hb
 try simp only [sb9]
 refine rc 3 (fun K hK => ?_)
 go_simp
 go_at_call 47; (with_reducible refine (C1.out _ hBw).mono ?_); rintro e wa3 ⟨B3,m3,d3,rfl,hw3,hb⟩; have hBw := zad hBw hb; refine hK.out _ _ (Cs.below hHeld hb) (fun hHeld => ?_); clear hK K hb
 try simp only [sb9]
 refine rc 4 (fun K hK => ?_)
 go_simp
 go_at_call 51; (with_reducible refine (C2.out _ hBw _ _ _ hw3).mono ?_); rintro e wa4 ⟨b4,B4,m4,d4,rfl,hw4,hb⟩; have hBw := zad hBw hb; have hw3 := hw3.below hb; refine hK.out _ _ (Cs.below hHeld hb) (fun hHeld => ?_); clear hK K hb
 try simp only [sb9]
 obtain ⟨sc0,sf0,sc1,sf1⟩ := st2 (zae hBw k2) (.bool b4)
 refine rc 5 (fun K hK => ?_)
 go_simp
 refine hK.out _ _ (cs2 (.bool b4) (.slice B4 m4 d4) hHeld) (fun hHeld => ?_); clear hK K
 try simp only [sb9]
 refine rdn ?_
 have hB := zad hB hBw
 have g1 := zac hBw g1
 have e1 := zac hBw e1
 have k2 := zae hBw k2
 have HN3 := lh9 hw3
 have HN4 := lh9 hw4
 clear hBw hHeld hw3 hw4 C0 C1 C2
 obtain ⟨r0,r1⟩ := (sn2 k2 (.bool b4) (.slice B4 m4 d4)).c2
 have HG := lh9 (gi2 (zat.to8 HV.out HN4.out) k2 hB (by omega))
 go_wp2
 refine bodyPost_ret (v := .agg #[.bool b4,.slice B4 m4 d4]) (by simp [results,Tryz.results69,go_sem,r0,r1]) rfl ?_
 exact HG.out
theorem zel (z : Int) (k : Nat) (baa : Bool) (Baa : oA9) (maa daa : Nat) (Bab : oA9) (mab dab : Nat) (w : World) (hT : zao w) (haa : zat w z baa Baa maa daa) (hab : zah w k Bab mab dab) (qaa : maa ≤ 134217728) (qab : mab ≤ 134217728) :
  Calls Tryz.prog 81 #[.agg #[.bool baa,.slice Baa maa daa],.agg #[.slice Bab mab dab]] w (zaK w (z * ((k : Nat) : Int))) := by
 have HIC := lh9 (intC (T := zao))
 have HGC := lh9 gcdC
 have HT := lh9 (fun w' (hb : Below w.heap.size w w') => hT.on hb)
 have HTB := HT
 obtain ⟨K,hKe⟩ : ∃ K,134217728 = K := ⟨_,rfl⟩
 have hKK : K ≤ 134217728 := by omega
 have hK0 : 0 < K := by omega
 have HNaa := lh9 (fun w' (b : Below w.heap.size w w') => haa.below b)
 have HZaa : Hid (Sz K z.natAbs) := Sz.of_words haa.words (by omega)
 clear haa qaa
 have HNab := lh9 (fun w' (b : Below w.heap.size w w') => hab.below b)
 have HZab : Hid (Sz K k) := Sz.of_words hab (by omega)
 clear hab qab
 clear hT hKe
 go_enter Tryz.func81,Tryz.ntmps81
 have hB := Below.refl w.heap.size w
 obtain ⟨bx1,bx2,bx3,bx4,bz⟩ := zbl w 29 27 29 #[.bool baa,.slice Baa maa daa] #[.slice Bab mab dab] #[.bool false,.slice none 0 0]
 have hB := zad hB bx1
 obtain ⟨g1,e1⟩ := bx2.c2
 have g2 := bx3.c1
 have k3 := bx4
 clear bx1 bx2 bx3 bx4 bz
 go_wp2_with fail
 generalize ((w.alloc (.cells #[.bool baa,.slice Baa maa daa] 29)).alloc (.cells #[.slice Bab mab dab] 27)).alloc (.cells #[.bool false,.slice none 0 0] 29) = W1 at *
 have HZ4 : Hid (Sz (K) (((k : Nat) : Int)).natAbs) := (by rw [Int.natAbs_natCast]; exact HZab.out)
 have C0 := lh9 (fun w' (h : Below W1.heap.size W1 w') => zeN HIC.out (k) Bab mab dab w' (HT.out _ (zad hB h)) (HNab.out _ (zad hB h)) (szw HZab (HNab.out _ hB)))
 have HZ5 : Hid (Sz (K + K) (z * (((k : Nat) : Int))).natAbs) := SzI.mul HZaa.out HZ4.out
 have C1 := lh9 (fun w' (h : Below W1.heap.size W1 w') b4 B4 m4 d4 (hw4 : zat w' (((k : Nat) : Int)) b4 B4 m4 d4) => HIC.out.mul (z) (((k : Nat) : Int)) baa b4 Baa B4 maa m4 daa d4 w' (HT.out _ (zad hB h)) (HNaa.out _ (zad hB h)) hw4 (szi HZaa (HNaa.out _ hB)) (szi HZ4 hw4))
 have hBw := (Below.refl W1.heap.size W1).drew
 refine rg (csc g1 (csc e1 (csc g2 csn))) (fun hHeld => ?_)
 refine tk 0 ?_
 refine tk 1 ?_
 refine rc 2 (fun K hK => ?_)
 go_simp
 go_at_call 51; (with_reducible refine (C0.out _ hBw).mono ?_); rintro e wa2 ⟨b4,B4,m4,d4,rfl,hw4,hb⟩; have hBw := zad hBw hb; refine hK.out _ _ (Cs.below hHeld hb) (fun hHeld => ?_); clear hK K hb
 try simp only [sb9]
 refine rc 3 (fun K hK => ?_)
 go_simp
 go_at_call 77; (with_reducible refine (C1.out _ hBw _ _ _ _ hw4).mono ?_); rintro e wa3 ⟨b5,B5,m5,d5,rfl,hw5,hb⟩; have hBw := zad hBw hb; have hw4 := hw4.below hb; refine hK.out _ _ (Cs.below hHeld hb) (fun hHeld => ?_); clear hK K hb
 try simp only [sb9]
 obtain ⟨sc0,sf0,sc1,sf1⟩ := st2 (zae hBw k3) (.bool b5)
 refine rc 4 (fun K hK => ?_)
 go_simp
 refine hK.out _ _ (cs2 (.bool b5) (.slice B5 m5 d5) hHeld) (fun hHeld => ?_); clear hK K
 try simp only [sb9]
 refine rdn ?_
 have hB := zad hB hBw
 have g1 := zac hBw g1
 have e1 := zac hBw e1
 have g2 := zac hBw g2
 have k3 := zae hBw k3
 have HN4 := lh9 hw4
 have HN5 := lh9 hw5
 clear hBw hHeld hw4 hw5 C0 C1
 obtain ⟨r0,r1⟩ := (sn2 k3 (.bool b5) (.slice B5 m5 d5)).c2
 have HG := lh9 (gi2 (HN5.out) k3 hB (by omega))
 go_wp2
 refine bodyPost_ret (v := .agg #[.bool b5,.slice B5 m5 d5]) (by simp [results,Tryz.results81,go_sem,r0,r1]) rfl ?_
 exact HG.out
theorem zjA (r : Rat) (baa : Bool) (Baa : oA9) (maa daa : Nat) (Eaa : oA9) (uaa vaa : Nat) (w : World) (hT : zao w) (haa : zam w r baa Baa maa daa Eaa uaa vaa) (qaa : zaG maa uaa) (hd : r.den = 1) :
  Calls Tryz.prog 49 #[.agg #[.bool baa,.slice Baa maa daa,.slice Eaa uaa vaa]] w (fun e w' => e = .returned (.bool true) ∧ Below w.heap.size w w') := by
 have HIC := lh9 (intC (T := zao))
 have HGC := lh9 gcdC
 have HT := lh9 (fun w' (hb : Below w.heap.size w w') => hT.on hb)
 have HTB := HT
 obtain ⟨K,hKe⟩ : ∃ K,67108864 = K := ⟨_,rfl⟩
 have hKK : K ≤ 67108864 := by omega
 have hK0 : 0 < K := by omega
 have HNaa := lh9 (fun w' (b : Below w.heap.size w w') => haa.below b)
 obtain ⟨xaa,hxaa,hxwaa⟩ := haa.2
 have HXaa := lh9 hxaa
 have HZaa : Hid (SzQ K r) := zaF haa qaa hKe
 have HZaap : Hid (Sz K r.num.natAbs) := HZaa.out.num
 have HZaaq : Hid (Sz K xaa) := zar HZaa.out.den hxaa
 have HNaap := lh9 (fun w' (b : Below w.heap.size w w') => haa.1.below b)
 have HNaaq := lh9 (fun w' (b : Below w.heap.size w w') => hxwaa.below b)
 clear haa qaa hxaa hxwaa
 have HX0 := lh9 (zey HXaa.out hd)
 clear hT hKe hd
 go_enter Tryz.func49,Tryz.ntmps49
 have hB := Below.refl w.heap.size w
 obtain ⟨bx1,bx2,bz⟩ := zbm w 31 #[.bool baa,.slice Baa maa daa,.slice Eaa uaa vaa]
 have hB := zad hB bx1
 obtain ⟨g1,e1,i1⟩ := bx2.c3
 clear bx1 bx2 bz
 go_wp2_with fail
 generalize w.alloc (.cells #[.bool baa,.slice Baa maa daa,.slice Eaa uaa vaa] 31) = W1 at *
 (with_reducible refine (zbR HX0.out (HNaaq.out _ hB)).mono ?_)
 rintro e wc2 ⟨rfl,hb⟩
 have hB := zad hB hb
 have g1 := zac hb g1
 have e1 := zac hb e1
 have i1 := zac hb i1
 clear hb 
 go_wp2
 go_ret
 exact ⟨by first | rfl | simp,hB⟩
theorem zjk (r : Rat) (baa : Bool) (Baa : oA9) (maa daa : Nat) (Eaa : oA9) (uaa vaa : Nat) (w : World) (hT : zao w) (haa : zam w r baa Baa maa daa Eaa uaa vaa) (qaa : zaG maa uaa) (hd : r.den ≠ 1) :
  Calls Tryz.prog 49 #[.agg #[.bool baa,.slice Baa maa daa,.slice Eaa uaa vaa]] w (fun e w' => e = .returned (.bool false) ∧ Below w.heap.size w w') := by
 have HIC := lh9 (intC (T := zao))
 have HGC := lh9 gcdC
 have HT := lh9 (fun w' (hb : Below w.heap.size w w') => hT.on hb)
 have HTB := HT
 obtain ⟨K,hKe⟩ : ∃ K,67108864 = K := ⟨_,rfl⟩
 have hKK : K ≤ 67108864 := by omega
 have hK0 : 0 < K := by omega
 have HNaa := lh9 (fun w' (b : Below w.heap.size w w') => haa.below b)
 obtain ⟨xaa,hxaa,hxwaa⟩ := haa.2
 have HXaa := lh9 hxaa
 have HZaa : Hid (SzQ K r) := zaF haa qaa hKe
 have HZaap : Hid (Sz K r.num.natAbs) := HZaa.out.num
 have HZaaq : Hid (Sz K xaa) := zar HZaa.out.den hxaa
 have HNaap := lh9 (fun w' (b : Below w.heap.size w w') => haa.1.below b)
 have HNaaq := lh9 (fun w' (b : Below w.heap.size w w') => hxwaa.below b)
 clear haa qaa hxaa hxwaa
 have HX0 := lh9 (zda HXaa.out hd).1
 clear hT hKe hd
 go_enter Tryz.func49,Tryz.ntmps49
 have hB := Below.refl w.heap.size w
 obtain ⟨bx1,bx2,bz⟩ := zbm w 31 #[.bool baa,.slice Baa maa daa,.slice Eaa uaa vaa]
 have hB := zad hB bx1
 obtain ⟨g1,e1,i1⟩ := bx2.c3
 clear bx1 bx2 bz
 go_wp2_with fail
 generalize w.alloc (.cells #[.bool baa,.slice Baa maa daa,.slice Eaa uaa vaa] 31) = W1 at *
 (with_reducible refine (zch HX0.out (HNaaq.out _ hB)).mono ?_)
 rintro e wc2 ⟨rfl,hb⟩
 have hB := zad hB hb
 have g1 := zac hb g1
 have e1 := zac hb e1
 have i1 := zac hb i1
 clear hb 
 go_wp2
 go_ret
 exact ⟨by first | rfl | simp,hB⟩
theorem zcc (r : Rat) (baa : Bool) (Baa : oA9) (maa daa : Nat) (Eaa : oA9) (uaa vaa : Nat) (w : World) (hT : zao w) (haa : zam w r baa Baa maa daa Eaa uaa vaa) (qaa : zaG maa uaa) :
  Calls Tryz.prog 49 #[.agg #[.bool baa,.slice Baa maa daa,.slice Eaa uaa vaa]] w (fun e w' => e = .returned (.bool (decide (r.den = 1))) ∧ Below w.heap.size w w') := by
 by_cases hd : r.den = 1
 ·rw [decide_eq_true hd]; exact zjA r baa Baa maa daa Eaa uaa vaa w hT haa qaa hd
 ·rw [decide_eq_false hd]; exact zjk r baa Baa maa daa Eaa uaa vaa w hT haa qaa hd
end Go.Proofs.YtgigccjiblaefaaGreatDoor
