/- What this claim leans on. -/
import Derived.Test.YtgigccjiblaefaaDoorLBun7b
import Derived.Test.YtgigccjiblaefaaDoorLW8Con
import Derived.Test.YtgigccjiblaefaaDoorLJ8Lib
import Derived.Test.YtgigccjiblaefaaDoorLMeet2
namespace Go.Proofs.YtgigccjiblaefaaDoor
open Go Go.RowKit
set_option maxRecDepth 100000
set_option linter.unusedVariables false
set_option linter.unusedSimpArgs false
set_option maxHeartbeats 16000000 in
theorem zfi (z : Int) (baa : Bool) (Baa : Option Addr) (maa daa : Nat) (w : World) (hT : zan w) (haa : zar w z baa Baa maa daa) (qaa : maa ≤ 268435456) :
  Calls Tryd.prog 44 #[.agg #[.bool baa, .slice Baa maa daa]] w (zaC w z) := by
 have HIC := Lib.hid (intC (T := zan))
 have HGC := Lib.hid gcdC
 have HT := Lib.hid (fun w' (hb : Below w.heap.size w w') => hT.on hb)
 have HTB := HT
 obtain ⟨K, hKe⟩ : ∃ K, 268435456 = K := ⟨_, rfl⟩
 have hKK : K ≤ 268435456 := by omega
 have hK0 : 0 < K := by omega
 have HV := Lib.hid (zjU z)
 obtain ⟨sb, hsb⟩ : ∃ s, decide (z < 0) = s := ⟨_, rfl⟩
 rw [hsb] at HV
 have HSB := Lib.hid hsb
 clear hsb
 have HNaa := Lib.hid (fun w' (b : Below w.heap.size w w') => haa.below b)
 have HZaa : Hid (Sz K z.natAbs) := Sz.of_words haa.words (by omega)
 clear haa qaa
 clear hT hKe
 go_enter Tryd.func44, Tryd.ntmps44
 have hB := Below.refl w.heap.size w
 obtain ⟨bx1, bx2, bx3, bz⟩ := zbc w 31 31 #[.bool baa, .slice Baa maa daa] #[.bool false, .slice none 0 0]
 have hB := zab hB bx1
 obtain ⟨g1, e1⟩ := bx2.c2
 have k2 := bx3
 clear bx1 bx2 bx3 bz
 go_wp2_with fail
 generalize (w.alloc (.cells #[.bool baa, .slice Baa maa daa] 31)).alloc (.cells #[.bool false, .slice none 0 0] 31) = W1 at *
 have C0 := Lib.hid (fun w' (h : Below W1.heap.size W1 w') => zas (HSB.out) (HIC.out.belowI (z) baa Baa maa daa w' (HT.out _ (zab hB h)) (HNaa.out _ (zab hB h)) (by have := Sz.words HZaa.out (HNaa.out _ hB).words; omega)))
 have HZ3 : Hid (Sz (K) (z.natAbs)) := HZaa.out
 have C1 := Lib.hid (fun w' (h : Below W1.heap.size W1 w') => HIC.out.abs (z) baa Baa maa daa w' (HT.out _ (zab hB h)) (HNaa.out _ (zab hB h)) (by have := Sz.words HZaa.out (HNaa.out _ hB).words; omega))
 have HZ4 : Hid (Sz (K) (zay sb z.natAbs).natAbs) := (by rw [zbh]; exact HZ3.out)
 have C2 := Lib.hid (fun w' (h : Below W1.heap.size W1 w') B3 m3 d3 (hw3 : zae w' (z.natAbs) B3 m3 d3) => HIC.out.new sb (z.natAbs) B3 m3 d3 w' (HT.out _ (zab hB h)) hw3 (by have := Sz.words HZ3.out hw3; omega))
 have hBw := (Below.refl W1.heap.size W1).drew
 refine rg (csc g1 (csc e1 csn)) (fun hHeld => ?_)
 refine tk 0 ?_
 try simp only [sb]
 refine tk 2 ?_
 try simp only [sb]
 refine rc 1 (fun K hK => ?_)
 go_simp
 go_at_call 40; (with_reducible refine (C0.out _ hBw).mono ?_); rintro e wa2 ⟨rfl, hb⟩; have hBw := zab hBw hb; refine hK.out _ _ (Cs.below hHeld hb) (fun hHeld => ?_); clear hK K hb
 try simp only [sb]
 refine rc 3 (fun K hK => ?_)
 go_simp
 go_at_call 38; (with_reducible refine (C1.out _ hBw).mono ?_); rintro e wa3 ⟨B3, m3, d3, rfl, hw3, hb⟩; have hBw := zab hBw hb; refine hK.out _ _ (Cs.below hHeld hb) (fun hHeld => ?_); clear hK K hb
 try simp only [sb]
 refine rc 4 (fun K hK => ?_)
 go_simp
 go_at_call 29; (with_reducible refine (C2.out _ hBw _ _ _ hw3).mono ?_); rintro e wa4 ⟨b4, B4, m4, d4, rfl, hw4, hb⟩; have hBw := zab hBw hb; have hw3 := hw3.below hb; refine hK.out _ _ (Cs.below hHeld hb) (fun hHeld => ?_); clear hK K hb
 try simp only [sb]
 obtain ⟨sc0, sf0, sc1, sf1⟩ := st2 (zac hBw k2) (.bool b4)
 refine rc 5 (fun K hK => ?_)
 go_simp
 refine hK.out _ _ (cs2 (.bool b4) (.slice B4 m4 d4) hHeld) (fun hHeld => ?_); clear hK K
 try simp only [sb]
 refine rdn ?_
 have hB := zab hB hBw
 have g1 := zaa hBw g1
 have e1 := zaa hBw e1
 have k2 := zac hBw k2
 have HN3 := Lib.hid hw3
 have HN4 := Lib.hid hw4
 clear hBw hHeld hw3 hw4 C0 C1 C2
 obtain ⟨r0, r1⟩ := (sn2 k2 (.bool b4) (.slice B4 m4 d4)).c2
 have HG := Lib.hid (gi2 (zar.to8 HV.out HN4.out) k2 hB (by omega))
 go_wp2
 refine bodyPost_ret (v := .agg #[.bool b4, .slice B4 m4 d4]) (by simp [results, Tryd.results44, go_sem, r0, r1]) rfl ?_
 exact HG.out
set_option maxHeartbeats 16000000 in
theorem zdp (z : Int) (k : Nat) (baa : Bool) (Baa : Option Addr) (maa daa : Nat) (Bab : Option Addr) (mab dab : Nat) (w : World) (hT : zan w) (haa : zar w z baa Baa maa daa) (hab : zae w k Bab mab dab) (qaa : maa ≤ 134217728) (qab : mab ≤ 134217728) :
  Calls Tryd.prog 30 #[.agg #[.bool baa, .slice Baa maa daa], .agg #[.slice Bab mab dab]] w (zaC w (z * ((k : Nat) : Int))) := by
 have HIC := Lib.hid (intC (T := zan))
 have HGC := Lib.hid gcdC
 have HT := Lib.hid (fun w' (hb : Below w.heap.size w w') => hT.on hb)
 have HTB := HT
 obtain ⟨K, hKe⟩ : ∃ K, 134217728 = K := ⟨_, rfl⟩
 have hKK : K ≤ 134217728 := by omega
 have hK0 : 0 < K := by omega
 have HNaa := Lib.hid (fun w' (b : Below w.heap.size w w') => haa.below b)
 have HZaa : Hid (Sz K z.natAbs) := Sz.of_words haa.words (by omega)
 clear haa qaa
 have HNab := Lib.hid (fun w' (b : Below w.heap.size w w') => hab.below b)
 have HZab : Hid (Sz K k) := Sz.of_words hab (by omega)
 clear hab qab
 clear hT hKe
 go_enter Tryd.func30, Tryd.ntmps30
 have hB := Below.refl w.heap.size w
 obtain ⟨bx1, bx2, bx3, bx4, bz⟩ := zbd w 31 29 31 #[.bool baa, .slice Baa maa daa] #[.slice Bab mab dab] #[.bool false, .slice none 0 0]
 have hB := zab hB bx1
 obtain ⟨g1, e1⟩ := bx2.c2
 have g2 := bx3.c1
 have k3 := bx4
 clear bx1 bx2 bx3 bx4 bz
 go_wp2_with fail
 generalize ((w.alloc (.cells #[.bool baa, .slice Baa maa daa] 31)).alloc (.cells #[.slice Bab mab dab] 29)).alloc (.cells #[.bool false, .slice none 0 0] 31) = W1 at *
 have HZ4 : Hid (Sz (K) (((k : Nat) : Int)).natAbs) := (by rw [Int.natAbs_natCast]; exact HZab.out)
 have C0 := Lib.hid (fun w' (h : Below W1.heap.size W1 w') => zea HIC.out (k) Bab mab dab w' (HT.out _ (zab hB h)) (HNab.out _ (zab hB h)) (by have := Sz.words HZab.out (HNab.out _ hB); omega))
 have HZ5 : Hid (Sz (K + K) (z * (((k : Nat) : Int))).natAbs) := SzI.mul HZaa.out HZ4.out
 have C1 := Lib.hid (fun w' (h : Below W1.heap.size W1 w') b4 B4 m4 d4 (hw4 : zar w' (((k : Nat) : Int)) b4 B4 m4 d4) => HIC.out.mul (z) (((k : Nat) : Int)) baa b4 Baa B4 maa m4 daa d4 w' (HT.out _ (zab hB h)) (HNaa.out _ (zab hB h)) hw4 (by have := Sz.words HZaa.out (HNaa.out _ hB).words; omega) (by have := Sz.words HZ4.out hw4.words; omega))
 have hBw := (Below.refl W1.heap.size W1).drew
 refine rg (csc g1 (csc e1 (csc g2 csn))) (fun hHeld => ?_)
 refine tk 0 ?_
 try simp only [sb]
 refine tk 1 ?_
 try simp only [sb]
 refine rc 2 (fun K hK => ?_)
 go_simp
 go_at_call 29; (with_reducible refine (C0.out _ hBw).mono ?_); rintro e wa2 ⟨b4, B4, m4, d4, rfl, hw4, hb⟩; have hBw := zab hBw hb; refine hK.out _ _ (Cs.below hHeld hb) (fun hHeld => ?_); clear hK K hb
 try simp only [sb]
 refine rc 3 (fun K hK => ?_)
 go_simp
 go_at_call 36; (with_reducible refine (C1.out _ hBw _ _ _ _ hw4).mono ?_); rintro e wa3 ⟨b5, B5, m5, d5, rfl, hw5, hb⟩; have hBw := zab hBw hb; have hw4 := hw4.below hb; refine hK.out _ _ (Cs.below hHeld hb) (fun hHeld => ?_); clear hK K hb
 try simp only [sb]
 obtain ⟨sc0, sf0, sc1, sf1⟩ := st2 (zac hBw k3) (.bool b5)
 refine rc 4 (fun K hK => ?_)
 go_simp
 refine hK.out _ _ (cs2 (.bool b5) (.slice B5 m5 d5) hHeld) (fun hHeld => ?_); clear hK K
 try simp only [sb]
 refine rdn ?_
 have hB := zab hB hBw
 have g1 := zaa hBw g1
 have e1 := zaa hBw e1
 have g2 := zaa hBw g2
 have k3 := zac hBw k3
 have HN4 := Lib.hid hw4
 have HN5 := Lib.hid hw5
 clear hBw hHeld hw4 hw5 C0 C1
 obtain ⟨r0, r1⟩ := (sn2 k3 (.bool b5) (.slice B5 m5 d5)).c2
 have HG := Lib.hid (gi2 (HN5.out) k3 hB (by omega))
 go_wp2
 refine bodyPost_ret (v := .agg #[.bool b5, .slice B5 m5 d5]) (by simp [results, Tryd.results30, go_sem, r0, r1]) rfl ?_
 exact HG.out
set_option maxHeartbeats 16000000 in
theorem zgW (r : Rat) (baa : Bool) (Baa : Option Addr) (maa daa : Nat) (Eaa : Option Addr) (uaa vaa : Nat) (w : World) (hT : zan w) (haa : zal w r baa Baa maa daa Eaa uaa vaa) (qaa : zaG maa uaa) (hd : r.den = 1) :
  Calls Tryd.prog 33 #[.agg #[.bool baa, .slice Baa maa daa, .slice Eaa uaa vaa]] w (fun e w' => e = .returned (.bool true) ∧ Below w.heap.size w w') := by
 have HIC := Lib.hid (intC (T := zan))
 have HGC := Lib.hid gcdC
 have HT := Lib.hid (fun w' (hb : Below w.heap.size w w') => hT.on hb)
 have HTB := HT
 obtain ⟨K, hKe⟩ : ∃ K, 67108864 = K := ⟨_, rfl⟩
 have hKK : K ≤ 67108864 := by omega
 have hK0 : 0 < K := by omega
 have HNaa := Lib.hid (fun w' (b : Below w.heap.size w w') => haa.below b)
 obtain ⟨xaa, hxaa, hxwaa⟩ := haa.2
 have HXaa := Lib.hid hxaa
 have HZaa : Hid (SzQ K r) := zaB haa qaa hKe
 have HZaap : Hid (Sz K r.num.natAbs) := HZaa.out.num
 have HZaaq : Hid (Sz K xaa) := zao HZaa.out.den hxaa
 have HNaap := Lib.hid (fun w' (b : Below w.heap.size w w') => haa.1.below b)
 have HNaaq := Lib.hid (fun w' (b : Below w.heap.size w w') => hxwaa.below b)
 clear haa qaa hxaa hxwaa
 have HX0 := Lib.hid (zdE HXaa.out hd)
 clear hT hKe hd
 go_enter Tryd.func33, Tryd.ntmps33
 have hB := Below.refl w.heap.size w
 obtain ⟨bx1, bx2, bz⟩ := zbf w 33 #[.bool baa, .slice Baa maa daa, .slice Eaa uaa vaa]
 have hB := zab hB bx1
 obtain ⟨g1, e1, i1⟩ := bx2.c3
 clear bx1 bx2 bz
 go_wp2_with fail
 generalize w.alloc (.cells #[.bool baa, .slice Baa maa daa, .slice Eaa uaa vaa] 33) = W1 at *
 (with_reducible refine (zby HX0.out (HNaaq.out _ hB)).mono ?_)
 rintro e wc2 ⟨rfl, hb⟩
 have hB := zab hB hb
 have g1 := zaa hb g1
 have e1 := zaa hb e1
 have i1 := zaa hb i1
 clear hb 
 go_wp2
 go_ret
 exact ⟨by first | rfl | simp, hB⟩
set_option maxHeartbeats 16000000 in
theorem zhz (r : Rat) (baa : Bool) (Baa : Option Addr) (maa daa : Nat) (Eaa : Option Addr) (uaa vaa : Nat) (w : World) (hT : zan w) (haa : zal w r baa Baa maa daa Eaa uaa vaa) (qaa : zaG maa uaa) (hd : r.den ≠ 1) :
  Calls Tryd.prog 33 #[.agg #[.bool baa, .slice Baa maa daa, .slice Eaa uaa vaa]] w (fun e w' => e = .returned (.bool false) ∧ Below w.heap.size w w') := by
 have HIC := Lib.hid (intC (T := zan))
 have HGC := Lib.hid gcdC
 have HT := Lib.hid (fun w' (hb : Below w.heap.size w w') => hT.on hb)
 have HTB := HT
 obtain ⟨K, hKe⟩ : ∃ K, 67108864 = K := ⟨_, rfl⟩
 have hKK : K ≤ 67108864 := by omega
 have hK0 : 0 < K := by omega
 have HNaa := Lib.hid (fun w' (b : Below w.heap.size w w') => haa.below b)
 obtain ⟨xaa, hxaa, hxwaa⟩ := haa.2
 have HXaa := Lib.hid hxaa
 have HZaa : Hid (SzQ K r) := zaB haa qaa hKe
 have HZaap : Hid (Sz K r.num.natAbs) := HZaa.out.num
 have HZaaq : Hid (Sz K xaa) := zao HZaa.out.den hxaa
 have HNaap := Lib.hid (fun w' (b : Below w.heap.size w w') => haa.1.below b)
 have HNaaq := Lib.hid (fun w' (b : Below w.heap.size w w') => hxwaa.below b)
 clear haa qaa hxaa hxwaa
 have HX0 := Lib.hid (zcq HXaa.out hd).1
 clear hT hKe hd
 go_enter Tryd.func33, Tryd.ntmps33
 have hB := Below.refl w.heap.size w
 obtain ⟨bx1, bx2, bz⟩ := zbf w 33 #[.bool baa, .slice Baa maa daa, .slice Eaa uaa vaa]
 have hB := zab hB bx1
 obtain ⟨g1, e1, i1⟩ := bx2.c3
 clear bx1 bx2 bz
 go_wp2_with fail
 generalize w.alloc (.cells #[.bool baa, .slice Baa maa daa, .slice Eaa uaa vaa] 33) = W1 at *
 (with_reducible refine (zbI HX0.out (HNaaq.out _ hB)).mono ?_)
 rintro e wc2 ⟨rfl, hb⟩
 have hB := zab hB hb
 have g1 := zaa hb g1
 have e1 := zaa hb e1
 have i1 := zaa hb i1
 clear hb 
 go_wp2
 go_ret
 exact ⟨by first | rfl | simp, hB⟩
theorem zaV (r : Rat) (baa : Bool) (Baa : Option Addr) (maa daa : Nat) (Eaa : Option Addr) (uaa vaa : Nat) (w : World) (hT : zan w) (haa : zal w r baa Baa maa daa Eaa uaa vaa) (qaa : zaG maa uaa) :
  Calls Tryd.prog 33 #[.agg #[.bool baa, .slice Baa maa daa, .slice Eaa uaa vaa]] w (fun e w' => e = .returned (.bool (decide (r.den = 1))) ∧ Below w.heap.size w w') := by
 by_cases hd : r.den = 1
 ·rw [decide_eq_true hd]; exact zgW r baa Baa maa daa Eaa uaa vaa w hT haa qaa hd
 ·rw [decide_eq_false hd]; exact zhz r baa Baa maa daa Eaa uaa vaa w hT haa qaa hd
set_option maxHeartbeats 16000000 in
theorem zgk (r : Rat) (s : Bool) (x : Nat) (y : Nat) (Baa : Option Addr) (maa daa : Nat) (Bab : Option Addr) (mab dab : Nat) (w : World) (hT : zan w) (haa : zae w x Baa maa daa) (hab : zae w y Bab mab dab) (qaa : maa ≤ 268435456) (qab : mab ≤ 268435456) (hn : r.num = zay s x) (hd : r.den = y) (hy : y = 1) :
  Calls Tryd.prog 39 #[.bool s, .agg #[.slice Baa maa daa], .agg #[.slice Bab mab dab]] w (zaQ w r) := by
 have HIC := Lib.hid (intC (T := zan))
 have HGC := Lib.hid gcdC
 have HT := Lib.hid (fun w' (hb : Below w.heap.size w w') => hT.on hb)
 have HTB := HT
 obtain ⟨K, hKe⟩ : ∃ K, 268435456 = K := ⟨_, rfl⟩
 have hKK : K ≤ 268435456 := by omega
 have hK0 : 0 < K := by omega
 have HRN := Lib.hid hn
 have HRD : Hid (r.den = 1) := hd.trans hy
 have HM1 : Hid (mab ≤ 1) := len_one hab hy
 have HW1 : Hid (((wd y 0 : Nat) : Int) = 1) := by show _ = _; rw [hy]; rfl
 have HNaa := Lib.hid (fun w' (b : Below w.heap.size w w') => haa.below b)
 have HZaa : Hid (Sz K x) := Sz.of_words haa (by omega)
 clear haa qaa
 have HNab := Lib.hid (fun w' (b : Below w.heap.size w w') => hab.below b)
 have HZab : Hid (Sz K y) := Sz.of_words hab (by omega)
 clear hab qab
 clear hT hKe hn hd hy
 go_enter Tryd.func39, Tryd.ntmps39
 have hB := Below.refl w.heap.size w
 have kk2 := (zbd w 29 29 33 #[.slice Baa maa daa] #[.slice Bab mab dab] #[.bool false, .slice none 0 0, .slice none 0 0]).2.2.1
 obtain ⟨bx1, bx2, bx3, bx4, bz⟩ := zbd w 29 29 33 #[.slice Baa maa daa] #[.slice Bab mab dab] #[.bool false, .slice none 0 0, .slice none 0 0]
 have hB := zab hB bx1
 have g1 := bx2.c1
 have g2 := bx3.c1
 have k3 := bx4
 clear bx1 bx2 bx3 bx4 bz
 go_wp2_with fail
 generalize ((w.alloc (.cells #[.slice Baa maa daa] 29)).alloc (.cells #[.slice Bab mab dab] 29)).alloc (.cells #[.bool false, .slice none 0 0, .slice none 0 0] 33) = W1 at *
 have k2 := kk2
 clear kk2
 (with_reducible refine (ziQ (HW1.out) (zbK (y) Bab mab dab _ (HNab.out _ hB) HM1.out)).mono ?_)
 rintro e wc2 ⟨rfl, hb⟩
 have hB := zab hB hb
 have g1 := zaa hb g1
 have g2 := zaa hb g2
 have k3 := zac hb k3
 have k2 := zac hb k2
 clear hb 
 have HN4 := Lib.hid (zcO wc2)
 obtain ⟨sc0, sf0⟩ := st1 k2
 have kz0 := sn1 k2 (.slice none 0 0)
 have g1 := zag (q := ⟨w.heap.size + 1, 0, none⟩) (.slice none 0 0) (by show w.heap.size ≠ w.heap.size + 1; omega) (g1)
 have k3 := Blk.far (p := ⟨w.heap.size + 1, 0, none⟩) (k3) (by show w.heap.size + 1 + 1 ≠ w.heap.size + 1; omega) (.slice none 0 0)
 have HN4 := Lib.hid (zaj HN4.out k2 (NoU.s1 _ _ _) (zaN _ _ (.slice none 0 0)))
 have hB := bl1 (.slice none 0 0) (by show w.heap.size ≤ w.heap.size + 1; omega) hB
 have g2 : (wc2.setCell ⟨w.heap.size + 1, 0, none⟩ (.slice none 0 0)).cell? ⟨w.heap.size + 1, 0, none⟩ = some (.slice none 0 0) := kz0.cell 0
 have k2 := kz0
 go_wp2_with fail
 clear sc0 sf0 kz0
 generalize wc2.setCell ⟨w.heap.size + 1, 0, none⟩ (.slice none 0 0) = W3 at *
 go_wp2_with fail
 have HZ5 : Hid (Sz (K) (zay s x).natAbs) := (by rw [zbh]; exact HZaa.out)
 have C0 := Lib.hid (fun w' (h : Below W3.heap.size W3 w') => HIC.out.new s (x) Baa maa daa w' (HT.out _ (zab hB h)) (HNaa.out _ (zab hB h)) (by have := Sz.words HZaa.out (HNaa.out _ hB); omega))
 have hBw := (Below.refl W3.heap.size W3).drew
 refine rg (csc g1 (csc g2 csn)) (fun hHeld => ?_)
 refine tk 0 ?_
 try simp only [sb]
 refine tk 1 ?_
 try simp only [sb]
 refine tk 3 ?_
 try simp only [sb]
 refine rc 2 (fun K hK => ?_)
 go_simp
 go_at_call 29; (with_reducible refine (C0.out _ hBw).mono ?_); rintro e wa4 ⟨b5, B5, m5, d5, rfl, hw5, hb⟩; have hBw := zab hBw hb; refine hK.out _ _ (Cs.below hHeld hb) (fun hHeld => ?_); clear hK K hb
 try simp only [sb]
 refine tk 4 ?_
 try simp only [sb]
 obtain ⟨sc0, sf0, sc1, sf1, sc2, sf2⟩ := st3 (zac hBw k3) (.bool b5) (.slice B5 m5 d5)
 refine rc 5 (fun K hK => ?_)
 go_simp
 refine hK.out _ _ (cs3 (.bool b5) (.slice B5 m5 d5) (.slice none 0 0) hHeld) (fun hHeld => ?_); clear hK K
 try simp only [sb]
 refine rdn ?_
 have hB := zab hB hBw
 have g1 := zaa hBw g1
 have k3 := zac hBw k3
 have k2 := zac hBw k2
 have HN4 := Lib.hid (HN4.out.below hBw)
 have g2 := zaa hBw g2
 have HN5 := Lib.hid hw5
 clear hBw hHeld hw5 C0
 obtain ⟨r0, r1, r2⟩ := (sn3 k3 (.bool b5) (.slice B5 m5 d5) (.slice none 0 0)).c3
 have HG := Lib.hid (gq3 (zjQ HRN.out HRD.out HN5.out HN4.out) k3 hB (by omega))
 go_wp2
 refine bodyPost_ret (v := .agg #[.bool b5, .slice B5 m5 d5, .slice none 0 0]) (by simp [results, Tryd.results39, go_sem, r0, r1, r2]) rfl ?_
 exact HG.out
set_option maxHeartbeats 16000000 in
theorem zfT (r : Rat) (s : Bool) (x : Nat) (y : Nat) (Baa : Option Addr) (maa daa : Nat) (Bab : Option Addr) (mab dab : Nat) (w : World) (hT : zan w) (haa : zae w x Baa maa daa) (hab : zae w y Bab mab dab) (qaa : maa ≤ 268435456) (qab : mab ≤ 268435456) (hn : r.num = zay s x) (hd : r.den = y) (hy : y ≠ 1) (hm : mab ≤ 1) :
  Calls Tryd.prog 39 #[.bool s, .agg #[.slice Baa maa daa], .agg #[.slice Bab mab dab]] w (zaQ w r) := by
 have HIC := Lib.hid (intC (T := zan))
 have HGC := Lib.hid gcdC
 have HT := Lib.hid (fun w' (hb : Below w.heap.size w w') => hT.on hb)
 have HTB := HT
 obtain ⟨K, hKe⟩ : ∃ K, 268435456 = K := ⟨_, rfl⟩
 have hKK : K ≤ 268435456 := by omega
 have hK0 : 0 < K := by omega
 have HRN := Lib.hid hn
 have HRD := Lib.hid hd
 have HY := Lib.hid hy
 have HM1 := Lib.hid hm
 have HW1 : Hid (((wd y 0 : Nat) : Int) = (y : Int)) := by show _ = _; rw [wd0 (zjo hab hm)]
 have kb1 : ((y : Int) == 1) = false := by rw [beq_eq_false_iff_ne]; omega
 have HNaa := Lib.hid (fun w' (b : Below w.heap.size w w') => haa.below b)
 have HZaa : Hid (Sz K x) := Sz.of_words haa (by omega)
 clear haa qaa
 have HNab := Lib.hid (fun w' (b : Below w.heap.size w w') => hab.below b)
 have HZab : Hid (Sz K y) := Sz.of_words hab (by omega)
 clear hab qab
 clear hT hKe hn hd hy hm
 go_enter Tryd.func39, Tryd.ntmps39
 have hB := Below.refl w.heap.size w
 have kk2 := (zbd w 29 29 33 #[.slice Baa maa daa] #[.slice Bab mab dab] #[.bool false, .slice none 0 0, .slice none 0 0]).2.2.1
 obtain ⟨bx1, bx2, bx3, bx4, bz⟩ := zbd w 29 29 33 #[.slice Baa maa daa] #[.slice Bab mab dab] #[.bool false, .slice none 0 0, .slice none 0 0]
 have hB := zab hB bx1
 have g1 := bx2.c1
 have g2 := bx3.c1
 have k3 := bx4
 clear bx1 bx2 bx3 bx4 bz
 go_wp2_with fail
 generalize ((w.alloc (.cells #[.slice Baa maa daa] 29)).alloc (.cells #[.slice Bab mab dab] 29)).alloc (.cells #[.bool false, .slice none 0 0, .slice none 0 0] 33) = W1 at *
 have k2 := kk2
 clear kk2
 (with_reducible refine (ziQ (HW1.out) (zbK (y) Bab mab dab _ (HNab.out _ hB) HM1.out)).mono ?_)
 rintro e wc2 ⟨rfl, hb⟩
 have hB := zab hB hb
 have g1 := zaa hb g1
 have g2 := zaa hb g2
 have k3 := zac hb k3
 have k2 := zac hb k2
 clear hb 
 go_wp2_with fail
 have HZ4 : Hid (Sz (K) (zay s x).natAbs) := (by rw [zbh]; exact HZaa.out)
 have C0 := Lib.hid (fun w' (h : Below wc2.heap.size wc2 w') => HIC.out.new s (x) Baa maa daa w' (HT.out _ (zab hB h)) (HNaa.out _ (zab hB h)) (by have := Sz.words HZaa.out (HNaa.out _ hB); omega))
 have hBw := (Below.refl wc2.heap.size wc2).drew
 refine rg (csc g1 (csc g2 csn)) (fun hHeld => ?_)
 refine tk 0 ?_
 try simp only [sb]
 refine tk 1 ?_
 try simp only [sb]
 refine tk 3 ?_
 try simp only [sb]
 refine rc 2 (fun K hK => ?_)
 go_simp
 go_at_call 29; (with_reducible refine (C0.out _ hBw).mono ?_); rintro e wa3 ⟨b4, B4, m4, d4, rfl, hw4, hb⟩; have hBw := zab hBw hb; refine hK.out _ _ (Cs.below hHeld hb) (fun hHeld => ?_); clear hK K hb
 try simp only [sb]
 refine tk 4 ?_
 try simp only [sb]
 obtain ⟨sc0, sf0, sc1, sf1, sc2, sf2⟩ := st3 (zac hBw k3) (.bool b4) (.slice B4 m4 d4)
 refine rc 5 (fun K hK => ?_)
 go_simp
 refine hK.out _ _ (cs3 (.bool b4) (.slice B4 m4 d4) (.slice Bab mab dab) hHeld) (fun hHeld => ?_); clear hK K
 try simp only [sb]
 refine rdn ?_
 have hB := zab hB hBw
 have g1 := zaa hBw g1
 have g2 := zaa hBw g2
 have k3 := zac hBw k3
 have k2 := zac hBw k2
 have HN4 := Lib.hid hw4
 clear hBw hHeld hw4 C0
 obtain ⟨r0, r1, r2⟩ := (sn3 k3 (.bool b4) (.slice B4 m4 d4) (.slice Bab mab dab)).c3
 have HG := Lib.hid (gq3 (zeL HRN.out HRD.out HY.out HN4.out (HNab.out _ hB)) k3 hB (by omega))
 go_wp2
 refine bodyPost_ret (v := .agg #[.bool b4, .slice B4 m4 d4, .slice Bab mab dab]) (by simp [results, Tryd.results39, go_sem, r0, r1, r2]) rfl ?_
 exact HG.out
set_option maxHeartbeats 16000000 in
theorem zgp (r : Rat) (s : Bool) (x : Nat) (y : Nat) (Baa : Option Addr) (maa daa : Nat) (Bab : Option Addr) (mab dab : Nat) (w : World) (hT : zan w) (haa : zae w x Baa maa daa) (hab : zae w y Bab mab dab) (qaa : maa ≤ 268435456) (qab : mab ≤ 268435456) (hn : r.num = zay s x) (hd : r.den = y) (hy : y ≠ 1) (hm : 1 < mab) :
  Calls Tryd.prog 39 #[.bool s, .agg #[.slice Baa maa daa], .agg #[.slice Bab mab dab]] w (zaQ w r) := by
 have HIC := Lib.hid (intC (T := zan))
 have HGC := Lib.hid gcdC
 have HT := Lib.hid (fun w' (hb : Below w.heap.size w w') => hT.on hb)
 have HTB := HT
 obtain ⟨K, hKe⟩ : ∃ K, 268435456 = K := ⟨_, rfl⟩
 have hKK : K ≤ 268435456 := by omega
 have hK0 : 0 < K := by omega
 have HRN := Lib.hid hn
 have HRD := Lib.hid hd
 have HY := Lib.hid hy
 have HM1 := Lib.hid hm
 have HNaa := Lib.hid (fun w' (b : Below w.heap.size w w') => haa.below b)
 have HZaa : Hid (Sz K x) := Sz.of_words haa (by omega)
 clear haa qaa
 have HNab := Lib.hid (fun w' (b : Below w.heap.size w w') => hab.below b)
 have HZab : Hid (Sz K y) := Sz.of_words hab (by omega)
 clear hab qab
 clear hT hKe hn hd hy hm
 go_enter Tryd.func39, Tryd.ntmps39
 have hB := Below.refl w.heap.size w
 have kk2 := (zbd w 29 29 33 #[.slice Baa maa daa] #[.slice Bab mab dab] #[.bool false, .slice none 0 0, .slice none 0 0]).2.2.1
 obtain ⟨bx1, bx2, bx3, bx4, bz⟩ := zbd w 29 29 33 #[.slice Baa maa daa] #[.slice Bab mab dab] #[.bool false, .slice none 0 0, .slice none 0 0]
 have hB := zab hB bx1
 have g1 := bx2.c1
 have g2 := bx3.c1
 have k3 := bx4
 clear bx1 bx2 bx3 bx4 bz
 go_wp2_with fail
 generalize ((w.alloc (.cells #[.slice Baa maa daa] 29)).alloc (.cells #[.slice Bab mab dab] 29)).alloc (.cells #[.bool false, .slice none 0 0, .slice none 0 0] 33) = W1 at *
 have k2 := kk2
 clear kk2
 (with_reducible refine (zbz Bab mab dab _ HM1.out).mono ?_)
 rintro e wc2 ⟨rfl, hb⟩
 have hB := zab hB hb
 have g1 := zaa hb g1
 have g2 := zaa hb g2
 have k3 := zac hb k3
 have k2 := zac hb k2
 clear hb 
 go_wp2_with fail
 have HZ4 : Hid (Sz (K) (zay s x).natAbs) := (by rw [zbh]; exact HZaa.out)
 have C0 := Lib.hid (fun w' (h : Below wc2.heap.size wc2 w') => HIC.out.new s (x) Baa maa daa w' (HT.out _ (zab hB h)) (HNaa.out _ (zab hB h)) (by have := Sz.words HZaa.out (HNaa.out _ hB); omega))
 have hBw := (Below.refl wc2.heap.size wc2).drew
 refine rg (csc g1 (csc g2 csn)) (fun hHeld => ?_)
 refine tk 0 ?_
 try simp only [sb]
 refine tk 1 ?_
 try simp only [sb]
 refine tk 3 ?_
 try simp only [sb]
 refine rc 2 (fun K hK => ?_)
 go_simp
 go_at_call 29; (with_reducible refine (C0.out _ hBw).mono ?_); rintro e wa3 ⟨b4, B4, m4, d4, rfl, hw4, hb⟩; have hBw := zab hBw hb; refine hK.out _ _ (Cs.below hHeld hb) (fun hHeld => ?_); clear hK K hb
 try simp only [sb]
 refine tk 4 ?_
 try simp only [sb]
 obtain ⟨sc0, sf0, sc1, sf1, sc2, sf2⟩ := st3 (zac hBw k3) (.bool b4) (.slice B4 m4 d4)
 refine rc 5 (fun K hK => ?_)
 go_simp
 refine hK.out _ _ (cs3 (.bool b4) (.slice B4 m4 d4) (.slice Bab mab dab) hHeld) (fun hHeld => ?_); clear hK K
 try simp only [sb]
 refine rdn ?_
 have hB := zab hB hBw
 have g1 := zaa hBw g1
 have g2 := zaa hBw g2
 have k3 := zac hBw k3
 have k2 := zac hBw k2
 have HN4 := Lib.hid hw4
 clear hBw hHeld hw4 C0
 obtain ⟨r0, r1, r2⟩ := (sn3 k3 (.bool b4) (.slice B4 m4 d4) (.slice Bab mab dab)).c3
 have HG := Lib.hid (gq3 (zeL HRN.out HRD.out HY.out HN4.out (HNab.out _ hB)) k3 hB (by omega))
 go_wp2
 refine bodyPost_ret (v := .agg #[.bool b4, .slice B4 m4 d4, .slice Bab mab dab]) (by simp [results, Tryd.results39, go_sem, r0, r1, r2]) rfl ?_
 exact HG.out
theorem zbO (r : Rat) (s : Bool) (x : Nat) (y : Nat) (Baa : Option Addr) (maa daa : Nat) (Bab : Option Addr) (mab dab : Nat) (w : World) (hT : zan w) (haa : zae w x Baa maa daa) (hab : zae w y Bab mab dab) (qaa : maa ≤ 268435456) (qab : mab ≤ 268435456) (hn : r.num = zay s x) (hd : r.den = y) :
  Calls Tryd.prog 39 #[.bool s, .agg #[.slice Baa maa daa], .agg #[.slice Bab mab dab]] w (zaQ w r) := by
 by_cases hy : y = 1
 ·exact zgk r s x y Baa maa daa Bab mab dab w hT haa hab qaa qab hn hd hy
 ·by_cases hm : mab ≤ 1
  ·exact zfT r s x y Baa maa daa Bab mab dab w hT haa hab qaa qab hn hd hy hm
  ·exact zgp r s x y Baa maa daa Bab mab dab w hT haa hab qaa qab hn hd hy (by omega)
set_option maxHeartbeats 16000000 in
theorem zgo (r : Rat) (baa : Bool) (Baa : Option Addr) (maa daa : Nat) (Eaa : Option Addr) (uaa vaa : Nat) (w : World) (hT : zan w) (haa : zal w r baa Baa maa daa Eaa uaa vaa) (qaa : zaG maa uaa) (hd : r.den = 1) :
  Calls Tryd.prog 31 #[.agg #[.bool baa, .slice Baa maa daa, .slice Eaa uaa vaa]] w (zcL w r.den) := by
 have HIC := Lib.hid (intC (T := zan))
 have HGC := Lib.hid gcdC
 have HT := Lib.hid (fun w' (hb : Below w.heap.size w w') => hT.on hb)
 have HTB := HT
 obtain ⟨K, hKe⟩ : ∃ K, 67108864 = K := ⟨_, rfl⟩
 have hKK : K ≤ 67108864 := by omega
 have hK0 : 0 < K := by omega
 have HNaa := Lib.hid (fun w' (b : Below w.heap.size w w') => haa.below b)
 obtain ⟨xaa, hxaa, hxwaa⟩ := haa.2
 have HXaa := Lib.hid hxaa
 have HZaa : Hid (SzQ K r) := zaB haa qaa hKe
 have HZaap : Hid (Sz K r.num.natAbs) := HZaa.out.num
 have HZaaq : Hid (Sz K xaa) := zao HZaa.out.den hxaa
 have HNaap := Lib.hid (fun w' (b : Below w.heap.size w w') => haa.1.below b)
 have HNaaq := Lib.hid (fun w' (b : Below w.heap.size w w') => hxwaa.below b)
 clear haa qaa hxaa hxwaa
 have HD1 := Lib.hid hd
 clear hT hKe hd
 go_enter Tryd.func31, Tryd.ntmps31
 have hB := Below.refl w.heap.size w
 obtain ⟨bx1, bx2, bx3, bz⟩ := zbc w 33 29 #[.bool baa, .slice Baa maa daa, .slice Eaa uaa vaa] #[.slice none 0 0]
 have hB := zab hB bx1
 obtain ⟨g1, e1, i1⟩ := bx2.c3
 have k2 := bx3
 clear bx1 bx2 bx3 bz
 go_wp2_with fail
 generalize (w.alloc (.cells #[.bool baa, .slice Baa maa daa, .slice Eaa uaa vaa] 33)).alloc (.cells #[.slice none 0 0] 29) = W1 at *
 (with_reducible refine (zas (decide_eq_true HD1.out) (zaV (r) baa Baa maa daa Eaa uaa vaa _ (HT.out _ hB) (HNaa.out _ hB) (SzQ.fit HZaa.out (HNaa.out _ hB) (by omega)))).mono ?_)
 rintro e wc2 ⟨rfl, hb⟩
 have hB := zab hB hb
 have g1 := zaa hb g1
 have e1 := zaa hb e1
 have i1 := zaa hb i1
 have k2 := zac hb k2
 clear hb 
 have lt1_2 : w.heap.size < wc2.heap.size := World.block_lt_of_cell? wc2 ⟨w.heap.size, 0, none⟩ g1
 have lt2_2 : w.heap.size + 1 < wc2.heap.size := k2.lt
 have hq2 := hB.size
 obtain ⟨bx1, bx2, bz⟩ := zbf wc2 52 #[.int .u64 1]
 have hB := zab hB bx1
 have g1 := zaa bx1 g1
 have e1 := zaa bx1 e1
 have i1 := zaa bx1 i1
 have k2 := zac bx1 k2
 have k3 := bx2
 clear bx1 bx2 bz
 go_wp2_with fail
 generalize wc2.alloc (.cells #[.int .u64 1] 52) = W3 at *
 generalize wc2.heap.size = q3 at *
 have HZ4 : Hid (Sz (1) (1)) := (by show (1 : Nat) < 18446744073709551616 ^ 1; decide)
 (with_reducible refine (zeF _ [1] _ _ 1 (1) k3 rfl rfl (dgs1 1 (by decide)) rfl (by decide)).mono ?_)
 rintro e wc4 ⟨B4, m4, d4, rfl, hw4, hb, _⟩
 have hB := zab hB hb
 have g1 := zaa hb g1
 have e1 := zaa hb e1
 have i1 := zaa hb i1
 have k2 := zac hb k2
 have k3 := zac hb k3
 have HN4 := Lib.hid hw4
 clear hb hw4
 obtain ⟨sc0, sf0⟩ := st1 k2
 have r0 := (sn1 k2 (.slice B4 m4 d4)).c1
 have HG := Lib.hid (gn1 (zae.to8 HD1.out.symm HN4.out) k2 hB (by omega))
 go_wp2
 refine bodyPost_ret (v := .agg #[.slice B4 m4 d4]) (by simp [results, Tryd.results31, go_sem, r0]) rfl ?_
 exact HG.out
set_option maxHeartbeats 16000000 in
theorem zgi (r : Rat) (baa : Bool) (Baa : Option Addr) (maa daa : Nat) (Eaa : Option Addr) (uaa vaa : Nat) (w : World) (hT : zan w) (haa : zal w r baa Baa maa daa Eaa uaa vaa) (qaa : zaG maa uaa) (hd : r.den ≠ 1) :
  Calls Tryd.prog 31 #[.agg #[.bool baa, .slice Baa maa daa, .slice Eaa uaa vaa]] w (zcL w r.den) := by
 have HIC := Lib.hid (intC (T := zan))
 have HGC := Lib.hid gcdC
 have HT := Lib.hid (fun w' (hb : Below w.heap.size w w') => hT.on hb)
 have HTB := HT
 obtain ⟨K, hKe⟩ : ∃ K, 67108864 = K := ⟨_, rfl⟩
 have hKK : K ≤ 67108864 := by omega
 have hK0 : 0 < K := by omega
 have HNaa := Lib.hid (fun w' (b : Below w.heap.size w w') => haa.below b)
 obtain ⟨xaa, hxaa, hxwaa⟩ := haa.2
 have HXaa := Lib.hid hxaa
 have HZaa : Hid (SzQ K r) := zaB haa qaa hKe
 have HZaap : Hid (Sz K r.num.natAbs) := HZaa.out.num
 have HZaaq : Hid (Sz K xaa) := zao HZaa.out.den hxaa
 have HNaap := Lib.hid (fun w' (b : Below w.heap.size w w') => haa.1.below b)
 have HNaaq := Lib.hid (fun w' (b : Below w.heap.size w w') => hxwaa.below b)
 clear haa qaa hxaa hxwaa
 have HD1 := Lib.hid hd
 have HD2 := Lib.hid (zcq HXaa.out hd).2
 clear hT hKe hd
 go_enter Tryd.func31, Tryd.ntmps31
 have hB := Below.refl w.heap.size w
 obtain ⟨bx1, bx2, bx3, bz⟩ := zbc w 33 29 #[.bool baa, .slice Baa maa daa, .slice Eaa uaa vaa] #[.slice none 0 0]
 have hB := zab hB bx1
 obtain ⟨g1, e1, i1⟩ := bx2.c3
 have k2 := bx3
 clear bx1 bx2 bx3 bz
 go_wp2_with fail
 generalize (w.alloc (.cells #[.bool baa, .slice Baa maa daa, .slice Eaa uaa vaa] 33)).alloc (.cells #[.slice none 0 0] 29) = W1 at *
 (with_reducible refine (zas (decide_eq_false HD1.out) (zaV (r) baa Baa maa daa Eaa uaa vaa _ (HT.out _ hB) (HNaa.out _ hB) (SzQ.fit HZaa.out (HNaa.out _ hB) (by omega)))).mono ?_)
 rintro e wc2 ⟨rfl, hb⟩
 have hB := zab hB hb
 have g1 := zaa hb g1
 have e1 := zaa hb e1
 have i1 := zaa hb i1
 have k2 := zac hb k2
 clear hb 
 obtain ⟨sc0, sf0⟩ := st1 k2
 have r0 := (sn1 k2 (.slice Eaa uaa vaa)).c1
 have HG := Lib.hid (gn1 (zae.to8 HD2.out (HNaaq.out _ hB)) k2 hB (by omega))
 go_wp2
 refine bodyPost_ret (v := .agg #[.slice Eaa uaa vaa]) (by simp [results, Tryd.results31, go_sem, r0]) rfl ?_
 exact HG.out
theorem zaZ (r : Rat) (baa : Bool) (Baa : Option Addr) (maa daa : Nat) (Eaa : Option Addr) (uaa vaa : Nat) (w : World) (hT : zan w) (haa : zal w r baa Baa maa daa Eaa uaa vaa) (qaa : zaG maa uaa) :
  Calls Tryd.prog 31 #[.agg #[.bool baa, .slice Baa maa daa, .slice Eaa uaa vaa]] w (zcL w r.den) := by
 by_cases hd : r.den = 1
 ·exact zgo r baa Baa maa daa Eaa uaa vaa w hT haa qaa hd
 ·exact zgi r baa Baa maa daa Eaa uaa vaa w hT haa qaa hd
set_option maxHeartbeats 16000000 in
theorem zfx (r : Rat) (baa : Bool) (Baa : Option Addr) (maa daa : Nat) (Eaa : Option Addr) (uaa vaa : Nat) (w : World) (hT : zan w) (haa : zal w r baa Baa maa daa Eaa uaa vaa) (qaa : zaG maa uaa) :
  Calls Tryd.prog 32 #[.agg #[.bool baa, .slice Baa maa daa, .slice Eaa uaa vaa]] w (zaQ w r) := by
 have HIC := Lib.hid (intC (T := zan))
 have HGC := Lib.hid gcdC
 have HT := Lib.hid (fun w' (hb : Below w.heap.size w w') => hT.on hb)
 have HTB := HT
 obtain ⟨K, hKe⟩ : ∃ K, 67108864 = K := ⟨_, rfl⟩
 have hKK : K ≤ 67108864 := by omega
 have hK0 : 0 < K := by omega
 have HNaa := Lib.hid (fun w' (b : Below w.heap.size w w') => haa.below b)
 obtain ⟨xaa, hxaa, hxwaa⟩ := haa.2
 have HXaa := Lib.hid hxaa
 have HZaa : Hid (SzQ K r) := zaB haa qaa hKe
 have HZaap : Hid (Sz K r.num.natAbs) := HZaa.out.num
 have HZaaq : Hid (Sz K xaa) := zao HZaa.out.den hxaa
 have HNaap := Lib.hid (fun w' (b : Below w.heap.size w w') => haa.1.below b)
 have HNaaq := Lib.hid (fun w' (b : Below w.heap.size w w') => hxwaa.below b)
 clear haa qaa hxaa hxwaa
 clear hT hKe
 go_enter Tryd.func32, Tryd.ntmps32
 have hB := Below.refl w.heap.size w
 obtain ⟨bx1, bx2, bx3, bz⟩ := zbc w 33 33 #[.bool baa, .slice Baa maa daa, .slice Eaa uaa vaa] #[.bool false, .slice none 0 0, .slice none 0 0]
 have hB := zab hB bx1
 obtain ⟨g1, e1, i1⟩ := bx2.c3
 have k2 := bx3
 clear bx1 bx2 bx3 bz
 go_wp2_with fail
 generalize (w.alloc (.cells #[.bool baa, .slice Baa maa daa, .slice Eaa uaa vaa] 33)).alloc (.cells #[.bool false, .slice none 0 0, .slice none 0 0] 33) = W1 at *
 have HZ3 : Hid (Sz (K) (r.num).natAbs) := HZaap.out
 have C0 := Lib.hid (fun w' (h : Below W1.heap.size W1 w') => zfi (r.num) baa Baa maa daa w' (HT.out _ (zab hB h)) (HNaap.out _ (zab hB h)) (by have := Sz.words HZaap.out (HNaap.out _ hB).words; omega))
 have HZ4 : Hid (Sz (K) (xaa)) := HZaaq.out
 have C1 := Lib.hid (fun w' (h : Below W1.heap.size W1 w') => zfI (xaa) Eaa uaa vaa w' (HNaaq.out _ (zab hB h)) (by have := Sz.words HZaaq.out (HNaaq.out _ hB); omega))
 have HZ5 : Hid (Sz (K) (xaa)) := HZ4.out
 have C2 := Lib.hid (fun w' (h : Below W1.heap.size W1 w') B4 m4 d4 (hw4 : zae w' (xaa) B4 m4 d4) => of_row (xaa) B4 m4 d4 w' hw4 (by have := Sz.words HZ4.out hw4; omega))
 have hBw := (Below.refl W1.heap.size W1).drew
 refine rg (csc g1 (csc e1 (csc i1 csn))) (fun hHeld => ?_)
 refine tk 0 ?_
 try simp only [sb]
 refine tk 1 ?_
 try simp only [sb]
 refine tk 3 ?_
 try simp only [sb]
 refine tk 4 ?_
 try simp only [sb]
 refine rc 2 (fun K hK => ?_)
 go_simp
 go_at_call 44; (with_reducible refine (C0.out _ hBw).mono ?_); rintro e wa2 ⟨b3, B3, m3, d3, rfl, hw3, hb⟩; have hBw := zab hBw hb; refine hK.out _ _ (Cs.below hHeld hb) (fun hHeld => ?_); clear hK K hb
 try simp only [sb]
 refine rc 5 (fun K hK => ?_)
 go_simp
 go_at_call 45; (with_reducible refine (C1.out _ hBw).mono ?_); rintro e wa3 ⟨B4, m4, d4, rfl, hw4, hb⟩; have hBw := zab hBw hb; have hw3 := hw3.below hb; refine hK.out _ _ (Cs.below hHeld hb) (fun hHeld => ?_); clear hK K hb
 try simp only [sb]
 refine rc 6 (fun K hK => ?_)
 go_simp
 go_at_call 25; (with_reducible refine (C2.out _ hBw _ _ _ hw4).mono ?_); rintro e wa4 ⟨B5, m5, d5, rfl, hw5, hb⟩; have hBw := zab hBw hb; have hw3 := hw3.below hb; have hw4 := hw4.below hb; refine hK.out _ _ (Cs.below hHeld hb) (fun hHeld => ?_); clear hK K hb
 try simp only [sb]
 refine tk 7 ?_
 try simp only [sb]
 obtain ⟨sc0, sf0, sc1, sf1, sc2, sf2⟩ := st3 (zac hBw k2) (.bool b3) (.slice B3 m3 d3)
 refine rc 8 (fun K hK => ?_)
 go_simp
 refine hK.out _ _ (cs3 (.bool b3) (.slice B3 m3 d3) (.slice B5 m5 d5) hHeld) (fun hHeld => ?_); clear hK K
 try simp only [sb]
 refine rdn ?_
 have hB := zab hB hBw
 have g1 := zaa hBw g1
 have e1 := zaa hBw e1
 have i1 := zaa hBw i1
 have k2 := zac hBw k2
 have HN3 := Lib.hid hw3
 have HN4 := Lib.hid hw4
 have HN5 := Lib.hid hw5
 clear hBw hHeld hw3 hw4 hw5 C0 C1 C2
 obtain ⟨r0, r1, r2⟩ := (sn3 k2 (.bool b3) (.slice B3 m3 d3) (.slice B5 m5 d5)).c3
 have HG := Lib.hid (gq3 (⟨HN3.out, ⟨xaa, HXaa.out, HN5.out⟩⟩) k2 hB (by omega))
 go_wp2
 refine bodyPost_ret (v := .agg #[.bool b3, .slice B3 m3 d3, .slice B5 m5 d5]) (by simp [results, Tryd.results32, go_sem, r0, r1, r2]) rfl ?_
 exact HG.out
set_option maxHeartbeats 16000000 in
theorem zgm (r : Rat) (baa : Bool) (Baa : Option Addr) (maa daa : Nat) (Eaa : Option Addr) (uaa vaa : Nat) (w : World) (hT : zan w) (haa : zal w r baa Baa maa daa Eaa uaa vaa) (qaa : zaG maa uaa) :
  Calls Tryd.prog 20 #[.agg #[.bool baa, .slice Baa maa daa, .slice Eaa uaa vaa]] w (zcL w r.den) := by
 have HIC := Lib.hid (intC (T := zan))
 have HGC := Lib.hid gcdC
 have HT := Lib.hid (fun w' (hb : Below w.heap.size w w') => hT.on hb)
 have HTB := HT
 obtain ⟨K, hKe⟩ : ∃ K, 67108864 = K := ⟨_, rfl⟩
 have hKK : K ≤ 67108864 := by omega
 have hK0 : 0 < K := by omega
 have HNaa := Lib.hid (fun w' (b : Below w.heap.size w w') => haa.below b)
 obtain ⟨xaa, hxaa, hxwaa⟩ := haa.2
 have HXaa := Lib.hid hxaa
 have HZaa : Hid (SzQ K r) := zaB haa qaa hKe
 have HZaap : Hid (Sz K r.num.natAbs) := HZaa.out.num
 have HZaaq : Hid (Sz K xaa) := zao HZaa.out.den hxaa
 have HNaap := Lib.hid (fun w' (b : Below w.heap.size w w') => haa.1.below b)
 have HNaaq := Lib.hid (fun w' (b : Below w.heap.size w w') => hxwaa.below b)
 clear haa qaa hxaa hxwaa
 clear hT hKe
 go_enter Tryd.func20, Tryd.ntmps20
 have hB := Below.refl w.heap.size w
 obtain ⟨bx1, bx2, bx3, bz⟩ := zbc w 33 29 #[.bool baa, .slice Baa maa daa, .slice Eaa uaa vaa] #[.slice none 0 0]
 have hB := zab hB bx1
 obtain ⟨g1, e1, i1⟩ := bx2.c3
 have k2 := bx3
 clear bx1 bx2 bx3 bz
 go_wp2_with fail
 generalize (w.alloc (.cells #[.bool baa, .slice Baa maa daa, .slice Eaa uaa vaa] 33)).alloc (.cells #[.slice none 0 0] 29) = W1 at *
 have HZ3 : Hid (Sz (K) (r.den)) := SzQ.den HZaa.out
 (with_reducible refine (zaZ (r) baa Baa maa daa Eaa uaa vaa _ (HT.out _ hB) (HNaa.out _ hB) (SzQ.fit HZaa.out (HNaa.out _ hB) (by omega))).mono ?_)
 rintro e wc2 ⟨B3, m3, d3, rfl, hw3, hb⟩
 have hB := zab hB hb
 have g1 := zaa hb g1
 have e1 := zaa hb e1
 have i1 := zaa hb i1
 have k2 := zac hb k2
 have HN3 := Lib.hid hw3
 clear hb hw3
 go_wp2_with fail
 have HZ4 : Hid (Sz (K) (r.den)) := HZ3.out
 (with_reducible refine (zfI (r.den) B3 m3 d3 _ HN3.out (by have := Sz.words HZ3.out HN3.out; omega)).mono ?_)
 rintro e wc3 ⟨B4, m4, d4, rfl, hw4, hb⟩
 have hB := zab hB hb
 have g1 := zaa hb g1
 have e1 := zaa hb e1
 have i1 := zaa hb i1
 have k2 := zac hb k2
 have HN3 := Lib.hid (HN3.out.below hb)
 have HN4 := Lib.hid hw4
 clear hb hw4
 go_wp2_with fail
 have HZ5 : Hid (Sz (K) (r.den)) := HZ4.out
 (with_reducible refine (of_row (r.den) B4 m4 d4 _ HN4.out (by have := Sz.words HZ4.out HN4.out; omega)).mono ?_)
 rintro e wc4 ⟨B5, m5, d5, rfl, hw5, hb⟩
 have hB := zab hB hb
 have g1 := zaa hb g1
 have e1 := zaa hb e1
 have i1 := zaa hb i1
 have k2 := zac hb k2
 have HN3 := Lib.hid (HN3.out.below hb)
 have HN4 := Lib.hid (HN4.out.below hb)
 have HN5 := Lib.hid hw5
 clear hb hw5
 obtain ⟨sc0, sf0⟩ := st1 k2
 have r0 := (sn1 k2 (.slice B5 m5 d5)).c1
 have HG := Lib.hid (gn1 (HN5.out) k2 hB (by omega))
 go_wp2
 refine bodyPost_ret (v := .agg #[.slice B5 m5 d5]) (by simp [results, Tryd.results20, go_sem, r0]) rfl ?_
 exact HG.out
set_option maxHeartbeats 16000000 in
theorem rat_num (r : Rat) (baa : Bool) (Baa : Option Addr) (maa daa : Nat) (Eaa : Option Addr) (uaa vaa : Nat) (w : World) (hT : zan w) (haa : zal w r baa Baa maa daa Eaa uaa vaa) (qaa : zaG maa uaa) :
  Calls Tryd.prog 17 #[.agg #[.bool baa, .slice Baa maa daa, .slice Eaa uaa vaa]] w (zaC w r.num) := by
 have HIC := Lib.hid (intC (T := zan))
 have HGC := Lib.hid gcdC
 have HT := Lib.hid (fun w' (hb : Below w.heap.size w w') => hT.on hb)
 have HTB := HT
 obtain ⟨K, hKe⟩ : ∃ K, 67108864 = K := ⟨_, rfl⟩
 have hKK : K ≤ 67108864 := by omega
 have hK0 : 0 < K := by omega
 have HNaa := Lib.hid (fun w' (b : Below w.heap.size w w') => haa.below b)
 obtain ⟨xaa, hxaa, hxwaa⟩ := haa.2
 have HXaa := Lib.hid hxaa
 have HZaa : Hid (SzQ K r) := zaB haa qaa hKe
 have HZaap : Hid (Sz K r.num.natAbs) := HZaa.out.num
 have HZaaq : Hid (Sz K xaa) := zao HZaa.out.den hxaa
 have HNaap := Lib.hid (fun w' (b : Below w.heap.size w w') => haa.1.below b)
 have HNaaq := Lib.hid (fun w' (b : Below w.heap.size w w') => hxwaa.below b)
 clear haa qaa hxaa hxwaa
 clear hT hKe
 go_enter Tryd.func17, Tryd.ntmps17
 have hB := Below.refl w.heap.size w
 obtain ⟨bx1, bx2, bx3, bz⟩ := zbc w 33 31 #[.bool baa, .slice Baa maa daa, .slice Eaa uaa vaa] #[.bool false, .slice none 0 0]
 have hB := zab hB bx1
 obtain ⟨g1, e1, i1⟩ := bx2.c3
 have k2 := bx3
 clear bx1 bx2 bx3 bz
 go_wp2_with fail
 generalize (w.alloc (.cells #[.bool baa, .slice Baa maa daa, .slice Eaa uaa vaa] 33)).alloc (.cells #[.bool false, .slice none 0 0] 31) = W1 at *
 have HZ3 : Hid (Sz (K) (r.num).natAbs) := HZaap.out
 (with_reducible refine (zfi (r.num) baa Baa maa daa _ (HT.out _ hB) (HNaap.out _ hB) (by have := Sz.words HZaap.out (HNaap.out _ hB).words; omega)).mono ?_)
 rintro e wc2 ⟨b3, B3, m3, d3, rfl, hw3, hb⟩
 have hB := zab hB hb
 have g1 := zaa hb g1
 have e1 := zaa hb e1
 have i1 := zaa hb i1
 have k2 := zac hb k2
 have HN3 := Lib.hid hw3
 clear hb hw3
 obtain ⟨sc0, sf0, sc1, sf1⟩ := st2 k2 (.bool b3)
 obtain ⟨r0, r1⟩ := (sn2 k2 (.bool b3) (.slice B3 m3 d3)).c2
 have HG := Lib.hid (gi2 (HN3.out) k2 hB (by omega))
 go_wp2
 refine bodyPost_ret (v := .agg #[.bool b3, .slice B3 m3 d3]) (by simp [results, Tryd.results17, go_sem, r0, r1]) rfl ?_
 exact HG.out
set_option maxHeartbeats 16000000 in
theorem zhT (r : Rat) (baa : Bool) (Baa : Option Addr) (maa daa : Nat) (Eaa : Option Addr) (uaa vaa : Nat) (w : World) (hT : zan w) (haa : zal w r baa Baa maa daa Eaa uaa vaa) (qaa : zaG maa uaa) (v : Int) (hv : zcN r.num = v) :
  Calls Tryd.prog 10 #[.agg #[.bool baa, .slice Baa maa daa, .slice Eaa uaa vaa]] w (zbJ w v) := by
 have HIC := Lib.hid (intC (T := zan))
 have HGC := Lib.hid gcdC
 have HT := Lib.hid (fun w' (hb : Below w.heap.size w w') => hT.on hb)
 have HTB := HT
 obtain ⟨K, hKe⟩ : ∃ K, 67108864 = K := ⟨_, rfl⟩
 have hKK : K ≤ 67108864 := by omega
 have hK0 : 0 < K := by omega
 have HV := Lib.hid hv
 have HNaa := Lib.hid (fun w' (b : Below w.heap.size w w') => haa.below b)
 obtain ⟨xaa, hxaa, hxwaa⟩ := haa.2
 have HXaa := Lib.hid hxaa
 have HZaa : Hid (SzQ K r) := zaB haa qaa hKe
 have HZaap : Hid (Sz K r.num.natAbs) := HZaa.out.num
 have HZaaq : Hid (Sz K xaa) := zao HZaa.out.den hxaa
 have HNaap := Lib.hid (fun w' (b : Below w.heap.size w w') => haa.1.below b)
 have HNaaq := Lib.hid (fun w' (b : Below w.heap.size w w') => hxwaa.below b)
 clear haa qaa hxaa hxwaa
 clear hT hKe hv
 go_enter Tryd.func10, Tryd.ntmps10
 have hB := Below.refl w.heap.size w
 obtain ⟨bx1, bx2, bz⟩ := zbf w 33 #[.bool baa, .slice Baa maa daa, .slice Eaa uaa vaa]
 have hB := zab hB bx1
 obtain ⟨g1, e1, i1⟩ := bx2.c3
 clear bx1 bx2 bz
 go_wp2_with fail
 generalize w.alloc (.cells #[.bool baa, .slice Baa maa daa, .slice Eaa uaa vaa] 33) = W1 at *
 (with_reducible refine (zaF (v := v) (HV.out) (HIC.out.sign (r.num) baa Baa maa daa _ (HT.out _ hB) (HNaap.out _ hB) (by have := Sz.words HZaap.out (HNaap.out _ hB).words; omega))).mono ?_)
 rintro e wc2 ⟨rfl, hb⟩
 have hB := zab hB hb
 have g1 := zaa hb g1
 have e1 := zaa hb e1
 have i1 := zaa hb i1
 clear hb 
 go_wp2
 go_ret
 exact ⟨by first | rfl | simp, hB⟩
theorem zeJ (r : Rat) (baa : Bool) (Baa : Option Addr) (maa daa : Nat) (Eaa : Option Addr) (uaa vaa : Nat) (w : World) (hT : zan w) (haa : zal w r baa Baa maa daa Eaa uaa vaa) (qaa : zaG maa uaa) :
  Calls Tryd.prog 10 #[.agg #[.bool baa, .slice Baa maa daa, .slice Eaa uaa vaa]] w (zbJ w (zef r)) := by
 exact zhT r baa Baa maa daa Eaa uaa vaa w hT haa qaa (zef r) rfl
set_option maxHeartbeats 16000000 in
theorem zij (r : Rat) (baa : Bool) (Baa : Option Addr) (maa daa : Nat) (Eaa : Option Addr) (uaa vaa : Nat) (w : World) (hT : zan w) (haa : zal w r baa Baa maa daa Eaa uaa vaa) (qaa : zaG maa uaa) (h0 : r = 0) :
  Calls Tryd.prog 13 #[.agg #[.bool baa, .slice Baa maa daa, .slice Eaa uaa vaa]] w (fun e w' => e = .returned (.bool true) ∧ Below w.heap.size w w') := by
 have HIC := Lib.hid (intC (T := zan))
 have HGC := Lib.hid gcdC
 have HT := Lib.hid (fun w' (hb : Below w.heap.size w w') => hT.on hb)
 have HTB := HT
 obtain ⟨K, hKe⟩ : ∃ K, 67108864 = K := ⟨_, rfl⟩
 have hKK : K ≤ 67108864 := by omega
 have hK0 : 0 < K := by omega
 have HNaa := Lib.hid (fun w' (b : Below w.heap.size w w') => haa.below b)
 obtain ⟨xaa, hxaa, hxwaa⟩ := haa.2
 have HXaa := Lib.hid hxaa
 have HZaa : Hid (SzQ K r) := zaB haa qaa hKe
 have HZaap : Hid (Sz K r.num.natAbs) := HZaa.out.num
 have HZaaq : Hid (Sz K xaa) := zao HZaa.out.den hxaa
 have HNaap := Lib.hid (fun w' (b : Below w.heap.size w w') => haa.1.below b)
 have HNaaq := Lib.hid (fun w' (b : Below w.heap.size w w') => hxwaa.below b)
 clear haa qaa hxaa hxwaa
 have HV : Hid (zef r = 0) := by show _ = _; rw [h0]; rfl
 clear hT hKe h0
 go_enter Tryd.func13, Tryd.ntmps13
 have hB := Below.refl w.heap.size w
 obtain ⟨bx1, bx2, bz⟩ := zbf w 33 #[.bool baa, .slice Baa maa daa, .slice Eaa uaa vaa]
 have hB := zab hB bx1
 obtain ⟨g1, e1, i1⟩ := bx2.c3
 clear bx1 bx2 bz
 go_wp2_with fail
 generalize w.alloc (.cells #[.bool baa, .slice Baa maa daa, .slice Eaa uaa vaa] 33) = W1 at *
 (with_reducible refine (zaF (v := 0) (HV.out) (zeJ (r) baa Baa maa daa Eaa uaa vaa _ (HT.out _ hB) (HNaa.out _ hB) (SzQ.fit HZaa.out (HNaa.out _ hB) (by omega)))).mono ?_)
 rintro e wc2 ⟨rfl, hb⟩
 have hB := zab hB hb
 have g1 := zaa hb g1
 have e1 := zaa hb e1
 have i1 := zaa hb i1
 clear hb 
 go_wp2
 go_ret
 exact ⟨by first | rfl | simp, hB⟩
set_option maxHeartbeats 16000000 in
theorem zhM (r : Rat) (baa : Bool) (Baa : Option Addr) (maa daa : Nat) (Eaa : Option Addr) (uaa vaa : Nat) (w : World) (hT : zan w) (haa : zal w r baa Baa maa daa Eaa uaa vaa) (qaa : zaG maa uaa) (h0 : r ≠ 0) :
  Calls Tryd.prog 13 #[.agg #[.bool baa, .slice Baa maa daa, .slice Eaa uaa vaa]] w (fun e w' => e = .returned (.bool false) ∧ Below w.heap.size w w') := by
 have HIC := Lib.hid (intC (T := zan))
 have HGC := Lib.hid gcdC
 have HT := Lib.hid (fun w' (hb : Below w.heap.size w w') => hT.on hb)
 have HTB := HT
 obtain ⟨K, hKe⟩ : ∃ K, 67108864 = K := ⟨_, rfl⟩
 have hKK : K ≤ 67108864 := by omega
 have hK0 : 0 < K := by omega
 have HNaa := Lib.hid (fun w' (b : Below w.heap.size w w') => haa.below b)
 obtain ⟨xaa, hxaa, hxwaa⟩ := haa.2
 have HXaa := Lib.hid hxaa
 have HZaa : Hid (SzQ K r) := zaB haa qaa hKe
 have HZaap : Hid (Sz K r.num.natAbs) := HZaa.out.num
 have HZaaq : Hid (Sz K xaa) := zao HZaa.out.den hxaa
 have HNaap := Lib.hid (fun w' (b : Below w.heap.size w w') => haa.1.below b)
 have HNaaq := Lib.hid (fun w' (b : Below w.heap.size w w') => hxwaa.below b)
 clear haa qaa hxaa hxwaa
 obtain ⟨sg, hsg⟩ : ∃ s, zef r = s := ⟨_, rfl⟩
 have HV := Lib.hid hsg
 have kb1 : (sg == 0) = false := by
  rw [beq_eq_false_iff_ne]
  intro h9
  rw [h9] at hsg
  refine h0 (Rat.num_eq_zero.1 ?_)
  unfold zef zcN at hsg
  split at hsg
  ·omega
  ·split at hsg <;> omega
 clear hT hKe h0 hsg
 go_enter Tryd.func13, Tryd.ntmps13
 have hB := Below.refl w.heap.size w
 obtain ⟨bx1, bx2, bz⟩ := zbf w 33 #[.bool baa, .slice Baa maa daa, .slice Eaa uaa vaa]
 have hB := zab hB bx1
 obtain ⟨g1, e1, i1⟩ := bx2.c3
 clear bx1 bx2 bz
 go_wp2_with fail
 generalize w.alloc (.cells #[.bool baa, .slice Baa maa daa, .slice Eaa uaa vaa] 33) = W1 at *
 (with_reducible refine (zaF (v := sg) (HV.out) (zeJ (r) baa Baa maa daa Eaa uaa vaa _ (HT.out _ hB) (HNaa.out _ hB) (SzQ.fit HZaa.out (HNaa.out _ hB) (by omega)))).mono ?_)
 rintro e wc2 ⟨rfl, hb⟩
 have hB := zab hB hb
 have g1 := zaa hb g1
 have e1 := zaa hb e1
 have i1 := zaa hb i1
 clear hb 
 go_wp2
 go_ret
 exact ⟨by first | rfl | simp, hB⟩
theorem zaK (r : Rat) (baa : Bool) (Baa : Option Addr) (maa daa : Nat) (Eaa : Option Addr) (uaa vaa : Nat) (w : World) (hT : zan w) (haa : zal w r baa Baa maa daa Eaa uaa vaa) (qaa : zaG maa uaa) :
  Calls Tryd.prog 13 #[.agg #[.bool baa, .slice Baa maa daa, .slice Eaa uaa vaa]] w (fun e w' => e = .returned (.bool (decide (r = 0))) ∧ Below w.heap.size w w') := by
 by_cases h0 : r = 0
 ·rw [decide_eq_true h0]; exact zij r baa Baa maa daa Eaa uaa vaa w hT haa qaa h0
 ·rw [decide_eq_false h0]; exact zhM r baa Baa maa daa Eaa uaa vaa w hT haa qaa h0
end Go.Proofs.YtgigccjiblaefaaDoor
