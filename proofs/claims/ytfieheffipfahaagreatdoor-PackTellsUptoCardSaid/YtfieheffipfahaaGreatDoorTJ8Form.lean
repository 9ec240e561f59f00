/- What this claim leans on. -/
import Derived.Test.YtfieheffipfahaaGreatDoorTUArgs8
import Derived.Test.YtfieheffipfahaaGreatDoorTJ9Cut
namespace Go.Proofs.YtfieheffipfahaaGreatDoor
open Go Go.RowKit
set_option maxHeartbeats 16000000
set_option maxRecDepth 100000
set_option linter.unusedVariables false
set_option linter.unusedSimpArgs false
theorem zjS (r : Rat) (s : Bool) (x : Nat) (y : Nat) (Baa : oA9) (maa daa : Nat) (Bab : oA9) (mab dab : Nat) (w : World) (hT : zap w) (haa : zaf w x Baa maa daa) (hab : zaf w y Bab mab dab) (qaa : maa ≤ 268435456) (qab : mab ≤ 268435456) (hn : r.num = zcb s x) (hd : r.den = y) (hy : y = 1) :
  Calls Tryz.prog 82 #[.bool s,.agg #[.slice Baa maa daa],.agg #[.slice Bab mab dab]] w (zdx w r) := by
 have HIC := lh9 (zbD (T := zap))
 have HGC := lh9 zdA
 have HT := lh9 (fun w' (hb : Below w.heap.size w w') => hT.on hb)
 have HTB := HT
 obtain ⟨K,hKe⟩ : ∃ K,268435456 = K := ⟨_,rfl⟩
 have hKK : K ≤ 268435456 := by omega
 have hK0 : 0 < K := by omega
 have HRN := lh9 hn
 have HRD : Hid (r.den = 1) := hd.trans hy
 have HM1 : Hid (mab ≤ 1) := len_one hab hy
 have HW1 : Hid (((wd y 0 : Nat) : Int) = 1) := by show _ = _; rw [hy]; rfl
 have HNaa := lh9 (fun w' (b : Below w.heap.size w w') => haa.below b)
 have HZaa : Hid (Sz K x) := Sz.of_words haa (by omega)
 clear haa qaa
 have HNab := lh9 (fun w' (b : Below w.heap.size w w') => hab.below b)
 have HZab : Hid (Sz K y) := Sz.of_words hab (by omega)
 clear hab qab
 clear hT hKe hn hd hy
 go_enter Tryz.func82,Tryz.ntmps82
 have hB := Below.refl w.heap.size w
 have kk2 := (zcD w 29 29 33 #[.slice Baa maa daa] #[.slice Bab mab dab] #[.bool false,.slice none 0 0,.slice none 0 0]).2.2.1
 obtain ⟨bx1,bx2,bx3,bx4,bz⟩ := zcD w 29 29 33 #[.slice Baa maa daa] #[.slice Bab mab dab] #[.bool false,.slice none 0 0,.slice none 0 0]
 have hB := zac hB bx1
 have g1 := bx2.c1
 have g2 := bx3.c1
 have k3 := bx4
 clear bx1 bx2 bx3 bx4 bz
 go_wp2_with fail
 generalize ((w.alloc (.cells #[.slice Baa maa daa] 29)).alloc (.cells #[.slice Bab mab dab] 29)).alloc (.cells #[.bool false,.slice none 0 0,.slice none 0 0] 33) = W1 at *
 have k2 := kk2
 clear kk2
 (with_reducible refine (znx (HW1.out) (zcu (y) Bab mab dab _ (HNab.out _ hB) HM1.out)).mono ?_)
 rintro e wc2 ⟨rfl,hb⟩
 have hB := zac hB hb
 have g1 := zad hb g1
 have g2 := zad hb g2
 have k3 := zae hb k3
 have k2 := zae hb k2
 clear hb 
 have HN4 := lh9 (zcl wc2)
 obtain ⟨sc0,sf0⟩ := st1 k2
 have kz0 := sn1 k2 (.slice none 0 0)
 have g1 := zag (q := ⟨w.heap.size + 1,0,none⟩) (.slice none 0 0) (by show w.heap.size ≠ w.heap.size + 1; omega) (g1)
 have k3 := Blk.far (p := ⟨w.heap.size + 1,0,none⟩) (k3) (by show w.heap.size + 1 + 1 ≠ w.heap.size + 1; omega) (.slice none 0 0)
 have HN4 := lh9 (zar HN4.out k2 (NoU.s1 _ _ _) (zbF _ _ (.slice none 0 0)))
 have hB := bl1 (.slice none 0 0) (by show w.heap.size ≤ w.heap.size + 1; omega) hB
 have g2 : (wc2.setCell ⟨w.heap.size + 1,0,none⟩ (.slice none 0 0)).cell? ⟨w.heap.size + 1,0,none⟩ = some (.slice none 0 0) := kz0.cell 0
 have k2 := kz0
 go_wp2_with fail
 clear sc0 sf0 kz0
 generalize wc2.setCell ⟨w.heap.size + 1,0,none⟩ (.slice none 0 0) = W3 at *
 go_wp2_with fail
 have HZ5 : Hid (Sz (K) (zcb s x).natAbs) := (by rw [zeG]; exact HZaa.out)
 have C0 := lh9 (fun w' (h : Below W3.heap.size W3 w') => HIC.out.new s (x) Baa maa daa w' (HT.out _ (zac hB h)) (HNaa.out _ (zac hB h)) (szw HZaa (HNaa.out _ hB)))
 have hBw := (Below.refl W3.heap.size W3).drew
 refine rg (csc g1 (csc g2 csn)) (fun hHeld => ?_)
 refine tk 0 ?_
 refine tk 1 ?_
 refine tk 3 ?_
 refine rc 2 (fun K hK => ?_)
 go_simp
 go_at_call 38; (with_reducible refine (C0.out _ hBw).mono ?_); rintro e wa4 ⟨b5,B5,m5,d5,rfl,hw5,hb⟩; have hBw := zac hBw hb; refine hK.out _ _ (Cs.below hHeld hb) (fun hHeld => ?_); clear hK K hb
 try simp only [sb9]
 refine tk 4 ?_
 obtain ⟨sc0,sf0,sc1,sf1,sc2,sf2⟩ := st3 (zae hBw k3) (.bool b5) (.slice B5 m5 d5)
 refine rc 5 (fun K hK => ?_)
 go_simp
 refine hK.out _ _ (cs3 (.bool b5) (.slice B5 m5 d5) (.slice none 0 0) hHeld) (fun hHeld => ?_); clear hK K
 try simp only [sb9]
 refine rdn ?_
 have hB := zac hB hBw
 have g1 := zad hBw g1
 have k3 := zae hBw k3
 have k2 := zae hBw k2
 have HN4 := lh9 (HN4.out.below hBw)
 have g2 := zad hBw g2
 have HN5 := lh9 hw5
 clear hBw hHeld hw5 C0
 obtain ⟨r0,r1,r2⟩ := (sn3 k3 (.bool b5) (.slice B5 m5 d5) (.slice none 0 0)).c3
 have HG := lh9 (gq3 (zoi HRN.out HRD.out HN5.out HN4.out) k3 hB (by omega))
 go_wp2
 refine bodyPost_ret (v := .agg #[.bool b5,.slice B5 m5 d5,.slice none 0 0]) (by simp [results,Tryz.results82,go_sem,r0,r1,r2]) rfl ?_
 exact HG.out
theorem zjT (r : Rat) (s : Bool) (x : Nat) (y : Nat) (Baa : oA9) (maa daa : Nat) (Bab : oA9) (mab dab : Nat) (w : World) (hT : zap w) (haa : zaf w x Baa maa daa) (hab : zaf w y Bab mab dab) (qaa : maa ≤ 268435456) (qab : mab ≤ 268435456) (hn : r.num = zcb s x) (hd : r.den = y) (hy : y ≠ 1) (hm : mab ≤ 1) :
  Calls Tryz.prog 82 #[.bool s,.agg #[.slice Baa maa daa],.agg #[.slice Bab mab dab]] w (zdx w r) := by
 have HIC := lh9 (zbD (T := zap))
 have HGC := lh9 zdA
 have HT := lh9 (fun w' (hb : Below w.heap.size w w') => hT.on hb)
 have HTB := HT
 obtain ⟨K,hKe⟩ : ∃ K,268435456 = K := ⟨_,rfl⟩
 have hKK : K ≤ 268435456 := by omega
 have hK0 : 0 < K := by omega
 have HRN := lh9 hn
 have HRD := lh9 hd
 have HY := lh9 hy
 have HM1 := lh9 hm
 have HW1 : Hid (((wd y 0 : Nat) : Int) = (y : Int)) := by show _ = _; rw [wd0 (znZ hab hm)]
 have kb1 : ((y : Int) == 1) = false := by rw [beq_eq_false_iff_ne]; omega
 have HNaa := lh9 (fun w' (b : Below w.heap.size w w') => haa.below b)
 have HZaa : Hid (Sz K x) := Sz.of_words haa (by omega)
 clear haa qaa
 have HNab := lh9 (fun w' (b : Below w.heap.size w w') => hab.below b)
 have HZab : Hid (Sz K y) := Sz.of_words hab (by omega)
 clear hab qab
 clear hT hKe hn hd hy hm
 go_enter Tryz.func82,Tryz.ntmps82
 have hB := Below.refl w.heap.size w
 have kk2 := (zcD w 29 29 33 #[.slice Baa maa daa] #[.slice Bab mab dab] #[.bool false,.slice none 0 0,.slice none 0 0]).2.2.1
 obtain ⟨bx1,bx2,bx3,bx4,bz⟩ := zcD w 29 29 33 #[.slice Baa maa daa] #[.slice Bab mab dab] #[.bool false,.slice none 0 0,.slice none 0 0]
 have hB := zac hB bx1
 have g1 := bx2.c1
 have g2 := bx3.c1
 have k3 := bx4
 clear bx1 bx2 bx3 bx4 bz
 go_wp2_with fail
 generalize ((w.alloc (.cells #[.slice Baa maa daa] 29)).alloc (.cells #[.slice Bab mab dab] 29)).alloc (.cells #[.bool false,.slice none 0 0,.slice none 0 0] 33) = W1 at *
 have k2 := kk2
 clear kk2
 (with_reducible refine (znx (HW1.out) (zcu (y) Bab mab dab _ (HNab.out _ hB) HM1.out)).mono ?_)
 rintro e wc2 ⟨rfl,hb⟩
 have hB := zac hB hb
 have g1 := zad hb g1
 have g2 := zad hb g2
 have k3 := zae hb k3
 have k2 := zae hb k2
 clear hb 
 go_wp2_with fail
 have HZ4 : Hid (Sz (K) (zcb s x).natAbs) := (by rw [zeG]; exact HZaa.out)
 have C0 := lh9 (fun w' (h : Below wc2.heap.size wc2 w') => HIC.out.new s (x) Baa maa daa w' (HT.out _ (zac hB h)) (HNaa.out _ (zac hB h)) (szw HZaa (HNaa.out _ hB)))
 have hBw := (Below.refl wc2.heap.size wc2).drew
 refine rg (csc g1 (csc g2 csn)) (fun hHeld => ?_)
 refine tk 0 ?_
 refine tk 1 ?_
 refine tk 3 ?_
 refine rc 2 (fun K hK => ?_)
 go_simp
 go_at_call 38; (with_reducible refine (C0.out _ hBw).mono ?_); rintro e wa3 ⟨b4,B4,m4,d4,rfl,hw4,hb⟩; have hBw := zac hBw hb; refine hK.out _ _ (Cs.below hHeld hb) (fun hHeld => ?_); clear hK K hb
 try simp only [sb9]
 refine tk 4 ?_
 obtain ⟨sc0,sf0,sc1,sf1,sc2,sf2⟩ := st3 (zae hBw k3) (.bool b4) (.slice B4 m4 d4)
 refine rc 5 (fun K hK => ?_)
 go_simp
 refine hK.out _ _ (cs3 (.bool b4) (.slice B4 m4 d4) (.slice Bab mab dab) hHeld) (fun hHeld => ?_); clear hK K
 try simp only [sb9]
 refine rdn ?_
 have hB := zac hB hBw
 have g1 := zad hBw g1
 have g2 := zad hBw g2
 have k3 := zae hBw k3
 have k2 := zae hBw k2
 have HN4 := lh9 hw4
 clear hBw hHeld hw4 C0
 obtain ⟨r0,r1,r2⟩ := (sn3 k3 (.bool b4) (.slice B4 m4 d4) (.slice Bab mab dab)).c3
 have HG := lh9 (gq3 (zhY HRN.out HRD.out HY.out HN4.out (HNab.out _ hB)) k3 hB (by omega))
 go_wp2
 refine bodyPost_ret (v := .agg #[.bool b4,.slice B4 m4 d4,.slice Bab mab dab]) (by simp [results,Tryz.results82,go_sem,r0,r1,r2]) rfl ?_
 exact HG.out
theorem zjU (r : Rat) (s : Bool) (x : Nat) (y : Nat) (Baa : oA9) (maa daa : Nat) (Bab : oA9) (mab dab : Nat) (w : World) (hT : zap w) (haa : zaf w x Baa maa daa) (hab : zaf w y Bab mab dab) (qaa : maa ≤ 268435456) (qab : mab ≤ 268435456) (hn : r.num = zcb s x) (hd : r.den = y) (hy : y ≠ 1) (hm : 1 < mab) :
  Calls Tryz.prog 82 #[.bool s,.agg #[.slice Baa maa daa],.agg #[.slice Bab mab dab]] w (zdx w r) := by
 have HIC := lh9 (zbD (T := zap))
 have HGC := lh9 zdA
 have HT := lh9 (fun w' (hb : Below w.heap.size w w') => hT.on hb)
 have HTB := HT
 obtain ⟨K,hKe⟩ : ∃ K,268435456 = K := ⟨_,rfl⟩
 have hKK : K ≤ 268435456 := by omega
 have hK0 : 0 < K := by omega
 have HRN := lh9 hn
 have HRD := lh9 hd
 have HY := lh9 hy
 have HM1 := lh9 hm
 have HNaa := lh9 (fun w' (b : Below w.heap.size w w') => haa.below b)
 have HZaa : Hid (Sz K x) := Sz.of_words haa (by omega)
 clear haa qaa
 have HNab := lh9 (fun w' (b : Below w.heap.size w w') => hab.below b)
 have HZab : Hid (Sz K y) := Sz.of_words hab (by omega)
 clear hab qab
 clear hT hKe hn hd hy hm
 go_enter Tryz.func82,Tryz.ntmps82
 have hB := Below.refl w.heap.size w
 have kk2 := (zcD w 29 29 33 #[.slice Baa maa daa] #[.slice Bab mab dab] #[.bool false,.slice none 0 0,.slice none 0 0]).2.2.1
 obtain ⟨bx1,bx2,bx3,bx4,bz⟩ := zcD w 29 29 33 #[.slice Baa maa daa] #[.slice Bab mab dab] #[.bool false,.slice none 0 0,.slice none 0 0]
 have hB := zac hB bx1
 have g1 := bx2.c1
 have g2 := bx3.c1
 have k3 := bx4
 clear bx1 bx2 bx3 bx4 bz
 go_wp2_with fail
 generalize ((w.alloc (.cells #[.slice Baa maa daa] 29)).alloc (.cells #[.slice Bab mab dab] 29)).alloc (.cells #[.bool false,.slice none 0 0,.slice none 0 0] 33) = W1 at *
 have k2 := kk2
 clear kk2
 (with_reducible refine (zce Bab mab dab _ HM1.out).mono ?_)
 rintro e wc2 ⟨rfl,hb⟩
 have hB := zac hB hb
 have g1 := zad hb g1
 have g2 := zad hb g2
 have k3 := zae hb k3
 have k2 := zae hb k2
 clear hb 
 go_wp2_with fail
 have HZ4 : Hid (Sz (K) (zcb s x).natAbs) := (by rw [zeG]; exact HZaa.out)
 have C0 := lh9 (fun w' (h : Below wc2.heap.size wc2 w') => HIC.out.new s (x) Baa maa daa w' (HT.out _ (zac hB h)) (HNaa.out _ (zac hB h)) (szw HZaa (HNaa.out _ hB)))
 have hBw := (Below.refl wc2.heap.size wc2).drew
 refine rg (csc g1 (csc g2 csn)) (fun hHeld => ?_)
 refine tk 0 ?_
 refine tk 1 ?_
 refine tk 3 ?_
 refine rc 2 (fun K hK => ?_)
 go_simp
 go_at_call 38; (with_reducible refine (C0.out _ hBw).mono ?_); rintro e wa3 ⟨b4,B4,m4,d4,rfl,hw4,hb⟩; have hBw := zac hBw hb; refine hK.out _ _ (Cs.below hHeld hb) (fun hHeld => ?_); clear hK K hb
 try simp only [sb9]
 refine tk 4 ?_
 obtain ⟨sc0,sf0,sc1,sf1,sc2,sf2⟩ := st3 (zae hBw k3) (.bool b4) (.slice B4 m4 d4)
 refine rc 5 (fun K hK => ?_)
 go_simp
 refine hK.out _ _ (cs3 (.bool b4) (.slice B4 m4 d4) (.slice Bab mab dab) hHeld) (fun hHeld => ?_); clear hK K
 try simp only [sb9]
 refine rdn ?_
 have hB := zac hB hBw
 have g1 := zad hBw g1
 have g2 := zad hBw g2
 have k3 := zae hBw k3
 have k2 := zae hBw k2
 have HN4 := lh9 hw4
 clear hBw hHeld hw4 C0
 obtain ⟨r0,r1,r2⟩ := (sn3 k3 (.bool b4) (.slice B4 m4 d4) (.slice Bab mab dab)).c3
 have HG := lh9 (gq3 (zhY HRN.out HRD.out HY.out HN4.out (HNab.out _ hB)) k3 hB (by omega))
 go_wp2
 refine bodyPost_ret (v := .agg #[.bool b4,.slice B4 m4 d4,.slice Bab mab dab]) (by simp [results,Tryz.results82,go_sem,r0,r1,r2]) rfl ?_
 exact HG.out
theorem zmy (r : Rat) (s : Bool) (x : Nat) (y : Nat) (Baa : oA9) (maa daa : Nat) (Bab : oA9) (mab dab : Nat) (w : World) (hT : zap w) (haa : zaf w x Baa maa daa) (hab : zaf w y Bab mab dab) (qaa : maa ≤ 268435456) (qab : mab ≤ 268435456) (hn : r.num = zcb s x) (hd : r.den = y) :
  Calls Tryz.prog 82 #[.bool s,.agg #[.slice Baa maa daa],.agg #[.slice Bab mab dab]] w (zdx w r) := by
 by_cases hy : y = 1
 ·exact zjS r s x y Baa maa daa Bab mab dab w hT haa hab qaa qab hn hd hy
 ·by_cases hm : mab ≤ 1
  ·exact zjT r s x y Baa maa daa Bab mab dab w hT haa hab qaa qab hn hd hy hm
  ·exact zjU r s x y Baa maa daa Bab mab dab w hT haa hab qaa qab hn hd hy (by omega)
theorem zio (l : List Nat) (k : Nat) (s : ByteArray) (Baa : oA9) (maa daa : Nat) (w : World) (hT : zap w) (haa : zaH w l Baa maa daa) (qaa : maa ≤ 2147483648) (hk : k ≤ maa) (he : zbG l k ≠ 0) :
  Calls Tryz.prog 50 #[.slice Baa maa daa,.int .i64 (k : Int),.string s] w (zel w (.spot (zbG l k) s (k : Int))) := by
 have HIC := lh9 (zbD (T := zap))
 have HT := lh9 (fun w' (hb : Below w.heap.size w w') => hT.on hb)
 obtain ⟨K,hKe⟩ : ∃ K,67108864 = K := ⟨_,rfl⟩
 have hKK : K ≤ 67108864 := by omega
 have hK0 : 0 < K := by omega
 have hK9 : 255 ≤ K := by omega
 have ef1 := zaT
 have ef2 := zbe
 have ef3 := zbm
 have ef4 := zbn
 have HE := lh9 he
 have HNaa := lh9 (fun w' (b : Below w.heap.size w w') => haa.below b)
 have hlnaa := haa.len
 have hcpaa := haa.2.2
 clear haa
 have HKL : Hid (k ≤ l.length) := by show k ≤ _; omega
 clear hT hKe he
 go_enter Tryz.func50,Tryz.ntmps50
 have hB := Below.refl w.heap.size w
 obtain ⟨B2,hsl2,hpr2⟩ := zhs (n := maa) (c := daa) (k := k) Baa hk
 have HN2 := lh9 (fun w' b => hpr2 w' l (HNaa.out w' b))
 clear hpr2
 obtain ⟨bx1,bx2,bz⟩ := zaA w 29 #[.slice none 0 0]
 have hB := zac hB bx1
 have k1 := bx2
 clear bx1 bx2 bz
 go_wp2_with fail
 generalize w.alloc (.cells #[.slice none 0 0] 29) = W1 at *
 (with_reducible refine (lead_no l k B2 (maa - k) (daa - k) _ (HN2.out _ hB) (by omega) HKL.out HE.out).mono ?_)
 rintro e wc2 ⟨rfl,hb⟩
 have hB := zac hB hb
 have k1 := zae hb k1
 clear hb 
 have HN5 := lh9 (zcl wc2)
 have lt1_2 : w.heap.size < wc2.heap.size := k1.lt
 have hq2 := hB.size
 obtain ⟨bx1,bx2,bz⟩ := zaA wc2 29 #[.slice none 0 0]
 have hB := zac hB bx1
 have k1 := zae bx1 k1
 have HN5 := lh9 (HN5.out.below bx1)
 have g4 := bx2.c1
 clear bx1 bx2 bz
 go_wp2_with fail
 generalize wc2.alloc (.cells #[.slice none 0 0] 29) = W3 at *
 generalize wc2.heap.size = q3 at *
 (with_reducible refine (zer ((zbG l k)) s ((k : Int)) _).mono ?_)
 rintro e wc4 ⟨et6,ex6,rfl,hw6,hb⟩
 have hB := zac hB hb
 have k1 := zae hb k1
 have HN5 := lh9 (HN5.out.below hb)
 have g4 := zad hb g4
 have HN6 := lh9 hw6
 clear hb hw6
 obtain ⟨sc0,sf0⟩ := st1 k1
 have r0 := (sn1 k1 (.slice none 0 0)).c1
 have HG := lh9 (gp0 (HN6.out) k1 hB (by omega))
 go_wp2
 refine bodyPost_ret (v := .tuple #[.agg #[.slice none 0 0],.int .i64 0,.iface et6 ex6]) (by simp [results,Tryz.results50,go_sem,r0]) rfl ?_
 exact HG.out
theorem zhU (l : List Nat) (k : Nat) (s : ByteArray) (Baa : oA9) (maa daa : Nat) (w : World) (hT : zap w) (haa : zaH w l Baa maa daa) (qaa : maa ≤ 2147483648) (hk : k ≤ maa) (he : zbG l k = 0) :
  Calls Tryz.prog 50 #[.slice Baa maa daa,.int .i64 (k : Int),.string s] w (zgd w (zaK l k) (zaR l k)) := by
 have HIC := lh9 (zbD (T := zap))
 have HT := lh9 (fun w' (hb : Below w.heap.size w w') => hT.on hb)
 obtain ⟨K,hKe⟩ : ∃ K,67108864 = K := ⟨_,rfl⟩
 have hKK : K ≤ 67108864 := by omega
 have hK0 : 0 < K := by omega
 have hK9 : 255 ≤ K := by omega
 have ef1 := zaT
 have ef2 := zbe
 have ef3 := zbm
 have ef4 := zbn
 have HE := lh9 he
 obtain ⟨u,hu⟩ : ∃ u,1 + l.getD k 0 = u := ⟨_,rfl⟩
 have HU := lh9 hu
 have HEND : Hid ((k : Int) + (u : Int) = ((zaR l k : Nat) : Int)) := by show _ = _; unfold zaR; omega
 have HNaa := lh9 (fun w' (b : Below w.heap.size w w') => haa.below b)
 have hlnaa := haa.len
 have hcpaa := haa.2.2
 clear haa
 have HKL : Hid (k ≤ l.length) := by show k ≤ _; omega
 have hx256 : l.getD k 0 < 256 := HNaa.out w (Below.refl _ w) |>.2.1.getD (by decide) k
 have hu6 : u ≤ 256 := by omega
 clear hT hKe he hu hx256
 go_enter Tryz.func50,Tryz.ntmps50
 have hB := Below.refl w.heap.size w
 obtain ⟨B2,hsl2,hpr2⟩ := zhs (n := maa) (c := daa) (k := k) Baa hk
 have HN2 := lh9 (fun w' b => hpr2 w' l (HNaa.out w' b))
 clear hpr2
 obtain ⟨bx1,bx2,bz⟩ := zaA w 29 #[.slice none 0 0]
 have hB := zac hB bx1
 have k1 := bx2
 clear bx1 bx2 bz
 go_wp2_with fail
 generalize w.alloc (.cells #[.slice none 0 0] 29) = W1 at *
 (with_reducible refine (lead_yes l k B2 (maa - k) (daa - k) _ (HN2.out _ hB) (by omega) HKL.out HE.out u HU.out).mono ?_)
 rintro e wc2 ⟨B3,m3,d3,rfl,hw3,hb⟩
 have hB := zac hB hb
 have k1 := zae hb k1
 have HN3 := lh9 hw3
 clear hb hw3
 have lt1_2 : w.heap.size < wc2.heap.size := k1.lt
 have hq2 := hB.size
 obtain ⟨bx1,bx2,bz⟩ := zaA wc2 29 #[.slice B3 m3 d3]
 have hB := zac hB bx1
 have k1 := zae bx1 k1
 have HN3 := lh9 (HN3.out.below bx1)
 have g4 := bx2.c1
 clear bx1 bx2 bz
 go_upto_region 4 with fail
 generalize wc2.alloc (.cells #[.slice B3 m3 d3] 29) = W3 at *
 generalize wc2.heap.size = q3 at *
 obtain ⟨sc0,sf0⟩ := st1 k1
 have r0 := (sn1 k1 (.slice B3 m3 d3)).c1
 have HG := lh9 (gp1 (HN3.out) (HEND.out) k1 hB (by omega))
 go_wp2
 refine bodyPost_ret (v := .tuple #[.agg #[.slice B3 m3 d3],.int .i64 ((k : Int) + (u : Int)),.nilIface]) (by simp [results,Tryz.results50,go_sem,r0]) rfl ?_
 exact HG.out
theorem zcg (l : List Nat) (k : Nat) (kz : Int) (s : ByteArray) (B : oA9) (m d : Nat) (w : World) (hT : zap w) (h : zaH w l B m d) (hn : m ≤ 2147483648) (hk : k ≤ m) (he : zbG l k = 0) (hz : kz = (k : Int)) :
  Calls Tryz.prog 50 #[.slice B m d,.int .i64 kz,.string s] w (zgd w (zaK l k) (zaR l k)) := by
 subst hz
 exact zhU l k s B m d w hT h hn hk he
theorem zjL (l : List Nat) (k : Nat) (kz : Int) (s : ByteArray) (B : oA9) (m d : Nat) (w : World) (hT : zap w) (h : zaH w l B m d) (hn : m ≤ 2147483648) (hk : k ≤ m) (he : zbG l k ≠ 0) (hz : kz = (k : Int)) :
  Calls Tryz.prog 50 #[.slice B m d,.int .i64 kz,.string s] w (zel w (.spot (zbG l k) s kz)) := by
 subst hz
 exact zio l k s B m d w hT h hn hk he
theorem zeJ {w : World} {l : List Nat} {A : oA9} {n c k K : Nat} (h : zaH w l A n c) (hK : 255 ≤ K) : Sz K (zaK l k) := (valP_sz (n := 255) (fun d hd => h.2.1 d (List.mem_of_mem_drop (List.mem_of_mem_take hd))) (by rw [List.length_take]; have := h.2.1.getD (by decide) k; omega)).up hK
theorem zle (s : List UInt8) (w : World) (hT : zap w) (hs : s.length ≤ 2147483648) (hzn : okI (zbh s) = true → Sz 67108864 (valI (zbh s)).natAbs) (hzd : okR (zcW s) = true → Sz 67108864 (zby (zcW s))) (hi : okI (zbh s) = true) (hr : zcV s ≠ []) (hd : okR (zcW s) = false) :
  Calls Tryz.prog 20 #[.string (zas s)] w (zjl w (.spot 91 sDen (((zbh s).length + 1 : Nat) : Int),0)) := by
 have HIC := lh9 (zbD (T := zap))
 have HT := lh9 (fun w' (hb : Below w.heap.size w w') => hT.on hb)
 obtain ⟨K,hKe⟩ : ∃ K,67108864 = K := ⟨_,rfl⟩
 have hKK : K ≤ 67108864 := by omega
 have hK0 : 0 < K := by omega
 have hK9 : 255 ≤ K := by omega
 have ef1 := zaT
 have ef2 := zbe
 have ef3 := zbm
 have ef4 := zbn
 obtain ⟨H,hH⟩ : ∃ x,zas (zbh s) = x := ⟨_,rfl⟩
 obtain ⟨T,hT2⟩ : ∃ x,zas (zcW s) = x := ⟨_,rfl⟩
 have hHz : H.size ≤ 2147483648 := by
  rw [← hH,zaI]
  have := congrArg List.length (zdb s)
  rw [List.length_append] at this; omega
 have hTz : T.size ≤ 2147483648 := by
  rw [← hT2,zaI]
  unfold zcW
  have := congrArg List.length (zdb s)
  rw [List.length_append] at this
  rw [List.length_drop]; omega
 have hHd : H.data.toList = zbh s := by rw [← hH,zbk]
 have hTd : T.data.toList = zcW s := by rw [← hT2,zbk]
 have HCUT := lh9 (fun w' => zlv (decide (zcV s ≠ [])) s w' rfl hs)
 have HIR := lh9 (fun (w' : World) (h : zap w') => (zbD (T := zap)).read H w' h hHz)
 have HDR := lh9 (fun (w' : World) => zgA T w' hTz)
 rw [hHd] at HIR
 rw [hTd] at HDR
 rw [hH,hT2] at HCUT
 rw [hi,if_pos rfl] at HIR
 have hsz := hzn hi
 rw [hKe] at hsz
 obtain ⟨z,hz⟩ : ∃ z,valI (zbh s) = z := ⟨_,rfl⟩
 rw [hz] at HIR hsz
 have HSZ := lh9 hsz
 rw [show decide (zcV s ≠ []) = true from decide_eq_true hr] at HCUT
 rw [hd,if_neg (by decide)] at HDR
 have hkk : ((((zbh s).length + 1 : Nat)) : Int) = (H.size : Int) + 1 := by rw [← hH,zaI]; omega
 rw [hkk]
 clear hkk
 clear hz
 clear hHd hTd hH hT2
 clear hT hKe hs hzn hzd hi hr hsz hd
 go_enter Tryz.func20,Tryz.ntmps20
 have hB := Below.refl w.heap.size w
 obtain ⟨bx1,bx2,bz⟩ := zaA w 33 #[.bool false,.slice none 0 0,.slice none 0 0]
 have hB := zac hB bx1
 have k1 := bx2
 clear bx1 bx2 bz
 go_wp2_with fail
 generalize w.alloc (.cells #[.bool false,.slice none 0 0,.slice none 0 0] 33) = W1 at *
 (with_reducible refine ((HCUT.out _)).mono ?_)
 rintro e wc2 ⟨rfl,hb⟩
 have hB := zac hB hb
 have k1 := zae hb k1
 clear hb 
 go_wp2_with fail
 have HZ2 : Hid (Sz (K) (z).natAbs) := HSZ.out
 (with_reducible refine ((HIR.out _ (HT.out _ hB))).mono ?_)
 rintro e wc3 ⟨b2,B2,m2,d2,rfl,hw2,hb⟩
 have hB := zac hB hb
 have k1 := zae hb k1
 have HN2 := lh9 hw2
 clear hb hw2
 have lt1_3 : w.heap.size < wc3.heap.size := k1.lt
 have hq3 := hB.size
 obtain ⟨bx1,bx2,bz⟩ := zaA wc3 31 #[.bool b2,.slice B2 m2 d2]
 have hB := zac hB bx1
 have k1 := zae bx1 k1
 have HN2 := lh9 (HN2.out.below bx1)
 obtain ⟨g3,e3⟩ := bx2.c2
 clear bx1 bx2 bz
 go_wp2_with fail
 generalize wc3.alloc (.cells #[.bool b2,.slice B2 m2 d2] 31) = W4 at *
 generalize wc3.heap.size = q4 at *
 have HZ4 : Hid (Sz (1) (0)) := zhf 1
 (with_reducible refine ((HDR.out _)).mono ?_)
 rintro e wc5 ⟨B4,m4,d4,rfl,hw4,hb⟩
 have hB := zac hB hb
 have k1 := zae hb k1
 have HN2 := lh9 (HN2.out.below hb)
 have g3 := zad hb g3
 have e3 := zad hb e3
 have HN4 := lh9 hw4
 clear hb hw4
 have HN6 := lh9 (zdv wc5)
 have lt1_5 : w.heap.size < wc5.heap.size := k1.lt
 have lt3_5 : q4 < wc5.heap.size := World.block_lt_of_cell? wc5 ⟨q4,0,none⟩ g3
 have hq5 := hB.size
 obtain ⟨bx1,bx2,bz⟩ := zaA wc5 29 #[.slice B4 m4 d4]
 have hB := zac hB bx1
 have k1 := zae bx1 k1
 have HN2 := lh9 (HN2.out.below bx1)
 have g3 := zad bx1 g3
 have e3 := zad bx1 e3
 have HN4 := lh9 (HN4.out.below bx1)
 have HN6 := lh9 (HN6.out.below bx1)
 have g5 := bx2.c1
 clear bx1 bx2 bz
 go_wp2_with fail
 generalize wc5.alloc (.cells #[.slice B4 m4 d4] 29) = W6 at *
 generalize wc5.heap.size = q6 at *
 (with_reducible refine (zer 91 ({ data := #[100,105,118,105,115,111,114] }) (((H.size : Int) + 1)) _).mono ?_)
 rintro e wc7 ⟨et7,ex7,rfl,hw7,hb⟩
 have hB := zac hB hb
 have k1 := zae hb k1
 have HN2 := lh9 (HN2.out.below hb)
 have g3 := zad hb g3
 have e3 := zad hb e3
 have HN4 := lh9 (HN4.out.below hb)
 have HN6 := lh9 (HN6.out.below hb)
 have g5 := zad hb g5
 have HN7 := lh9 hw7
 clear hb hw7
 obtain ⟨sc0,sf0,sc1,sf1,sc2,sf2⟩ := st3 k1 (.bool false) (.slice none 0 0)
 obtain ⟨r0,r1,r2⟩ := (sn3 k1 (.bool false) (.slice none 0 0) (.slice none 0 0)).c3
 have HG := lh9 (gr9 (HN6.out) (HN7.out) k1 hB (by omega))
 go_wp2
 refine bodyPost_ret (v := .tuple #[.agg #[.bool false,.slice none 0 0,.slice none 0 0],.iface et7 ex7]) (by simp [results,Tryz.results20,go_sem,r0,r1,r2]) rfl ?_
 exact HG.out
end Go.Proofs.YtfieheffipfahaaGreatDoor
