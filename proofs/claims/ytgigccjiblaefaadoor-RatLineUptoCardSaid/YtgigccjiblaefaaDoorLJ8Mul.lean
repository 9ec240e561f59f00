/- What this claim leans on. -/
import Derived.Test.YtgigccjiblaefaaDoorLD8Form
import Derived.Test.YtgigccjiblaefaaDoorLJ8Small
namespace Go.Proofs.YtgigccjiblaefaaDoor
open Go Go.RowKit
set_option maxRecDepth 100000
set_option linter.unusedVariables false
set_option linter.unusedSimpArgs false
set_option maxHeartbeats 16000000 in
theorem zjs (r : Rat) (s : Rat) (baa : Bool) (Baa : Option Addr) (maa daa : Nat) (Eaa : Option Addr) (uaa vaa : Nat) (bab : Bool) (Bab : Option Addr) (mab dab : Nat) (Eab : Option Addr) (uab vab : Nat) (w : World) (hT : zan w) (haa : zal w r baa Baa maa daa Eaa uaa vaa) (hab : zal w s bab Bab mab dab Eab uab vab) (qaa : zaG maa uaa) (qab : zaG mab uab) (h1 : r = 0) :
  Calls Tryd.prog 9 #[.agg #[.bool baa, .slice Baa maa daa, .slice Eaa uaa vaa], .agg #[.bool bab, .slice Bab mab dab, .slice Eab uab vab]] w (zaQ w (r * s)) := by
 have HIC := Lib.hid (intC (T := zan))
 have HGC := Lib.hid gcdC
 have HT := Lib.hid (fun w' (hb : Below w.heap.size w w') => hT.on hb)
 have HTB := HT
 obtain ⟨K, hKe⟩ : ∃ K, 67108864 = K := ⟨_, rfl⟩
 have hKK : K ≤ 67108864 := by omega
 have hK0 : 0 < K := by omega
 have HE : Hid (((r.num * s.num : Int) : Rat) = r * s) := (zeo (.inl h1)).symm
 have H1 := Lib.hid h1
 have HNaa := Lib.hid (fun w' (b : Below w.heap.size w w') => haa.below b)
 obtain ⟨xaa, hxaa, hxwaa⟩ := haa.2
 have HXaa := Lib.hid hxaa
 have HZaa : Hid (SzQ K r) := zaB haa qaa hKe
 have HZaap : Hid (Sz K r.num.natAbs) := HZaa.out.num
 have HZaaq : Hid (Sz K xaa) := zao HZaa.out.den hxaa
 have HNaap := Lib.hid (fun w' (b : Below w.heap.size w w') => haa.1.below b)
 have HNaaq := Lib.hid (fun w' (b : Below w.heap.size w w') => hxwaa.below b)
 clear haa qaa hxaa hxwaa
 have HNab := Lib.hid (fun w' (b : Below w.heap.size w w') => hab.below b)
 obtain ⟨xab, hxab, hxwab⟩ := hab.2
 have HXab := Lib.hid hxab
 have HZab : Hid (SzQ K s) := zaB hab qab hKe
 have HZabp : Hid (Sz K s.num.natAbs) := HZab.out.num
 have HZabq : Hid (Sz K xab) := zao HZab.out.den hxab
 have HNabp := Lib.hid (fun w' (b : Below w.heap.size w w') => hab.1.below b)
 have HNabq := Lib.hid (fun w' (b : Below w.heap.size w w') => hxwab.below b)
 clear hab qab hxab hxwab
 clear hT hKe h1
 go_enter Tryd.func9, Tryd.ntmps9
 have hB := Below.refl w.heap.size w
 obtain ⟨bx1, bx2, bx3, bx4, bz⟩ := zbd w 33 33 33 #[.bool baa, .slice Baa maa daa, .slice Eaa uaa vaa] #[.bool bab, .slice Bab mab dab, .slice Eab uab vab] #[.bool false, .slice none 0 0, .slice none 0 0]
 have hB := zab hB bx1
 obtain ⟨g1, e1, i1⟩ := bx2.c3
 obtain ⟨g2, e2, i2⟩ := bx3.c3
 have k3 := bx4
 clear bx1 bx2 bx3 bx4 bz
 go_wp2_with fail
 generalize ((w.alloc (.cells #[.bool baa, .slice Baa maa daa, .slice Eaa uaa vaa] 33)).alloc (.cells #[.bool bab, .slice Bab mab dab, .slice Eab uab vab] 33)).alloc (.cells #[.bool false, .slice none 0 0, .slice none 0 0] 33) = W1 at *
 (with_reducible refine (zas (decide_eq_true H1.out) (zaK (r) baa Baa maa daa Eaa uaa vaa _ (HT.out _ hB) (HNaa.out _ hB) (SzQ.fit HZaa.out (HNaa.out _ hB) (by omega)))).mono ?_)
 rintro e wc2 ⟨rfl, hb⟩
 have hB := zab hB hb
 have g1 := zaa hb g1
 have e1 := zaa hb e1
 have i1 := zaa hb i1
 have g2 := zaa hb g2
 have e2 := zaa hb e2
 have i2 := zaa hb i2
 have k3 := zac hb k3
 clear hb 
 go_wp2_with fail
 have HZ4 : Hid (Sz (K + K) (r.num * s.num).natAbs) := SzI.mul HZaap.out HZabp.out
 (with_reducible refine (HIC.out.mul (r.num) (s.num) baa bab Baa Bab maa mab daa dab _ (HT.out _ hB) (HNaap.out _ hB) (HNabp.out _ hB) (by have := Sz.words HZaap.out (HNaap.out _ hB).words; omega) (by have := Sz.words HZabp.out (HNabp.out _ hB).words; omega)).mono ?_)
 rintro e wc3 ⟨b4, B4, m4, d4, rfl, hw4, hb⟩
 have hB := zab hB hb
 have g1 := zaa hb g1
 have e1 := zaa hb e1
 have i1 := zaa hb i1
 have g2 := zaa hb g2
 have e2 := zaa hb e2
 have i2 := zaa hb i2
 have k3 := zac hb k3
 have HN4 := Lib.hid hw4
 clear hb hw4
 obtain ⟨sc0, sf0, sc1, sf1, sc2, sf2⟩ := st3 k3 (.bool b4) (.slice B4 m4 d4)
 obtain ⟨r0, r1, r2⟩ := (sn3 k3 (.bool b4) (.slice B4 m4 d4) (.slice none 0 0)).c3
 have HG := Lib.hid (gq3 (zal.to HE.out (zdH HN4.out)) k3 hB (by omega))
 go_wp2
 refine bodyPost_ret (v := .agg #[.bool b4, .slice B4 m4 d4, .slice none 0 0]) (by simp [results, Tryd.results9, go_sem, r0, r1, r2]) rfl ?_
 exact HG.out
set_option maxHeartbeats 16000000 in
theorem zjP (r : Rat) (s : Rat) (baa : Bool) (Baa : Option Addr) (maa daa : Nat) (Eaa : Option Addr) (uaa vaa : Nat) (bab : Bool) (Bab : Option Addr) (mab dab : Nat) (Eab : Option Addr) (uab vab : Nat) (w : World) (hT : zan w) (haa : zal w r baa Baa maa daa Eaa uaa vaa) (hab : zal w s bab Bab mab dab Eab uab vab) (qaa : zaG maa uaa) (qab : zaG mab uab) (h1 : r ≠ 0) (h2 : s = 0) :
  Calls Tryd.prog 9 #[.agg #[.bool baa, .slice Baa maa daa, .slice Eaa uaa vaa], .agg #[.bool bab, .slice Bab mab dab, .slice Eab uab vab]] w (zaQ w (r * s)) := by
 have HIC := Lib.hid (intC (T := zan))
 have HGC := Lib.hid gcdC
 have HT := Lib.hid (fun w' (hb : Below w.heap.size w w') => hT.on hb)
 have HTB := HT
 obtain ⟨K, hKe⟩ : ∃ K, 67108864 = K := ⟨_, rfl⟩
 have hKK : K ≤ 67108864 := by omega
 have hK0 : 0 < K := by omega
 have HE : Hid (((r.num * s.num : Int) : Rat) = r * s) := (zeo (.inr (.inl h2))).symm
 have H1 := Lib.hid h1
 have H2 := Lib.hid h2
 have HNaa := Lib.hid (fun w' (b : Below w.heap.size w w') => haa.below b)
 obtain ⟨xaa, hxaa, hxwaa⟩ := haa.2
 have HXaa := Lib.hid hxaa
 have HZaa : Hid (SzQ K r) := zaB haa qaa hKe
 have HZaap : Hid (Sz K r.num.natAbs) := HZaa.out.num
 have HZaaq : Hid (Sz K xaa) := zao HZaa.out.den hxaa
 have HNaap := Lib.hid (fun w' (b : Below w.heap.size w w') => haa.1.below b)
 have HNaaq := Lib.hid (fun w' (b : Below w.heap.size w w') => hxwaa.below b)
 clear haa qaa hxaa hxwaa
 have HNab := Lib.hid (fun w' (b : Below w.heap.size w w') => hab.below b)
 obtain ⟨xab, hxab, hxwab⟩ := hab.2
 have HXab := Lib.hid hxab
 have HZab : Hid (SzQ K s) := zaB hab qab hKe
 have HZabp : Hid (Sz K s.num.natAbs) := HZab.out.num
 have HZabq : Hid (Sz K xab) := zao HZab.out.den hxab
 have HNabp := Lib.hid (fun w' (b : Below w.heap.size w w') => hab.1.below b)
 have HNabq := Lib.hid (fun w' (b : Below w.heap.size w w') => hxwab.below b)
 clear hab qab hxab hxwab
 clear hT hKe h1 h2
 go_enter Tryd.func9, Tryd.ntmps9
 have hB := Below.refl w.heap.size w
 obtain ⟨bx1, bx2, bx3, bx4, bz⟩ := zbd w 33 33 33 #[.bool baa, .slice Baa maa daa, .slice Eaa uaa vaa] #[.bool bab, .slice Bab mab dab, .slice Eab uab vab] #[.bool false, .slice none 0 0, .slice none 0 0]
 have hB := zab hB bx1
 obtain ⟨g1, e1, i1⟩ := bx2.c3
 obtain ⟨g2, e2, i2⟩ := bx3.c3
 have k3 := bx4
 clear bx1 bx2 bx3 bx4 bz
 go_wp2_with fail
 generalize ((w.alloc (.cells #[.bool baa, .slice Baa maa daa, .slice Eaa uaa vaa] 33)).alloc (.cells #[.bool bab, .slice Bab mab dab, .slice Eab uab vab] 33)).alloc (.cells #[.bool false, .slice none 0 0, .slice none 0 0] 33) = W1 at *
 (with_reducible refine (zas (decide_eq_false H1.out) (zaK (r) baa Baa maa daa Eaa uaa vaa _ (HT.out _ hB) (HNaa.out _ hB) (SzQ.fit HZaa.out (HNaa.out _ hB) (by omega)))).mono ?_)
 rintro e wc2 ⟨rfl, hb⟩
 have hB := zab hB hb
 have g1 := zaa hb g1
 have e1 := zaa hb e1
 have i1 := zaa hb i1
 have g2 := zaa hb g2
 have e2 := zaa hb e2
 have i2 := zaa hb i2
 have k3 := zac hb k3
 clear hb 
 go_wp2_with fail
 (with_reducible refine (zas (decide_eq_true H2.out) (zaK (s) bab Bab mab dab Eab uab vab _ (HT.out _ hB) (HNab.out _ hB) (SzQ.fit HZab.out (HNab.out _ hB) (by omega)))).mono ?_)
 rintro e wc3 ⟨rfl, hb⟩
 have hB := zab hB hb
 have g1 := zaa hb g1
 have e1 := zaa hb e1
 have i1 := zaa hb i1
 have g2 := zaa hb g2
 have e2 := zaa hb e2
 have i2 := zaa hb i2
 have k3 := zac hb k3
 clear hb 
 go_wp2_with fail
 have HZ4 : Hid (Sz (K + K) (r.num * s.num).natAbs) := SzI.mul HZaap.out HZabp.out
 (with_reducible refine (HIC.out.mul (r.num) (s.num) baa bab Baa Bab maa mab daa dab _ (HT.out _ hB) (HNaap.out _ hB) (HNabp.out _ hB) (by have := Sz.words HZaap.out (HNaap.out _ hB).words; omega) (by have := Sz.words HZabp.out (HNabp.out _ hB).words; omega)).mono ?_)
 rintro e wc4 ⟨b4, B4, m4, d4, rfl, hw4, hb⟩
 have hB := zab hB hb
 have g1 := zaa hb g1
 have e1 := zaa hb e1
 have i1 := zaa hb i1
 have g2 := zaa hb g2
 have e2 := zaa hb e2
 have i2 := zaa hb i2
 have k3 := zac hb k3
 have HN4 := Lib.hid hw4
 clear hb hw4
 obtain ⟨sc0, sf0, sc1, sf1, sc2, sf2⟩ := st3 k3 (.bool b4) (.slice B4 m4 d4)
 obtain ⟨r0, r1, r2⟩ := (sn3 k3 (.bool b4) (.slice B4 m4 d4) (.slice none 0 0)).c3
 have HG := Lib.hid (gq3 (zal.to HE.out (zdH HN4.out)) k3 hB (by omega))
 go_wp2
 refine bodyPost_ret (v := .agg #[.bool b4, .slice B4 m4 d4, .slice none 0 0]) (by simp [results, Tryd.results9, go_sem, r0, r1, r2]) rfl ?_
 exact HG.out
set_option maxHeartbeats 16000000 in
theorem zjn (r : Rat) (s : Rat) (baa : Bool) (Baa : Option Addr) (maa daa : Nat) (Eaa : Option Addr) (uaa vaa : Nat) (bab : Bool) (Bab : Option Addr) (mab dab : Nat) (Eab : Option Addr) (uab vab : Nat) (w : World) (hT : zan w) (haa : zal w r baa Baa maa daa Eaa uaa vaa) (hab : zal w s bab Bab mab dab Eab uab vab) (qaa : zaG maa uaa) (qab : zaG mab uab) (h1 : r ≠ 0) (h2 : s ≠ 0) (h3 : r.den = 1) (h4 : s.den = 1) :
  Calls Tryd.prog 9 #[.agg #[.bool baa, .slice Baa maa daa, .slice Eaa uaa vaa], .agg #[.bool bab, .slice Bab mab dab, .slice Eab uab vab]] w (zaQ w (r * s)) := by
 have HIC := Lib.hid (intC (T := zan))
 have HGC := Lib.hid gcdC
 have HT := Lib.hid (fun w' (hb : Below w.heap.size w w') => hT.on hb)
 have HTB := HT
 obtain ⟨K, hKe⟩ : ∃ K, 67108864 = K := ⟨_, rfl⟩
 have hKK : K ≤ 67108864 := by omega
 have hK0 : 0 < K := by omega
 have HE : Hid (((r.num * s.num : Int) : Rat) = r * s) := (zeo (.inr (.inr ⟨h3, h4⟩))).symm
 have H1 := Lib.hid h1
 have H2 := Lib.hid h2
 have H3 := Lib.hid h3
 have H4 := Lib.hid h4
 have HNaa := Lib.hid (fun w' (b : Below w.heap.size w w') => haa.below b)
 obtain ⟨xaa, hxaa, hxwaa⟩ := haa.2
 have HXaa := Lib.hid hxaa
 have HZaa : Hid (SzQ K r) := zaB haa qaa hKe
 have HZaap : Hid (Sz K r.num.natAbs) := HZaa.out.num
 have HZaaq : Hid (Sz K xaa) := zao HZaa.out.den hxaa
 have HNaap := Lib.hid (fun w' (b : Below w.heap.size w w') => haa.1.below b)
 have HNaaq := Lib.hid (fun w' (b : Below w.heap.size w w') => hxwaa.below b)
 clear haa qaa hxaa hxwaa
 have HNab := Lib.hid (fun w' (b : Below w.heap.size w w') => hab.below b)
 obtain ⟨xab, hxab, hxwab⟩ := hab.2
 have HXab := Lib.hid hxab
 have HZab : Hid (SzQ K s) := zaB hab qab hKe
 have HZabp : Hid (Sz K s.num.natAbs) := HZab.out.num
 have HZabq : Hid (Sz K xab) := zao HZab.out.den hxab
 have HNabp := Lib.hid (fun w' (b : Below w.heap.size w w') => hab.1.below b)
 have HNabq := Lib.hid (fun w' (b : Below w.heap.size w w') => hxwab.below b)
 clear hab qab hxab hxwab
 clear hT hKe h1 h2 h3 h4
 go_enter Tryd.func9, Tryd.ntmps9
 have hB := Below.refl w.heap.size w
 obtain ⟨bx1, bx2, bx3, bx4, bz⟩ := zbd w 33 33 33 #[.bool baa, .slice Baa maa daa, .slice Eaa uaa vaa] #[.bool bab, .slice Bab mab dab, .slice Eab uab vab] #[.bool false, .slice none 0 0, .slice none 0 0]
 have hB := zab hB bx1
 obtain ⟨g1, e1, i1⟩ := bx2.c3
 obtain ⟨g2, e2, i2⟩ := bx3.c3
 have k3 := bx4
 clear bx1 bx2 bx3 bx4 bz
 go_wp2_with fail
 generalize ((w.alloc (.cells #[.bool baa, .slice Baa maa daa, .slice Eaa uaa vaa] 33)).alloc (.cells #[.bool bab, .slice Bab mab dab, .slice Eab uab vab] 33)).alloc (.cells #[.bool false, .slice none 0 0, .slice none 0 0] 33) = W1 at *
 (with_reducible refine (zas (decide_eq_false H1.out) (zaK (r) baa Baa maa daa Eaa uaa vaa _ (HT.out _ hB) (HNaa.out _ hB) (SzQ.fit HZaa.out (HNaa.out _ hB) (by omega)))).mono ?_)
 rintro e wc2 ⟨rfl, hb⟩
 have hB := zab hB hb
 have g1 := zaa hb g1
 have e1 := zaa hb e1
 have i1 := zaa hb i1
 have g2 := zaa hb g2
 have e2 := zaa hb e2
 have i2 := zaa hb i2
 have k3 := zac hb k3
 clear hb 
 go_wp2_with fail
 (with_reducible refine (zas (decide_eq_false H2.out) (zaK (s) bab Bab mab dab Eab uab vab _ (HT.out _ hB) (HNab.out _ hB) (SzQ.fit HZab.out (HNab.out _ hB) (by omega)))).mono ?_)
 rintro e wc3 ⟨rfl, hb⟩
 have hB := zab hB hb
 have g1 := zaa hb g1
 have e1 := zaa hb e1
 have i1 := zaa hb i1
 have g2 := zaa hb g2
 have e2 := zaa hb e2
 have i2 := zaa hb i2
 have k3 := zac hb k3
 clear hb 
 go_wp2_with fail
 (with_reducible refine (zas (decide_eq_true H3.out) (zaV (r) baa Baa maa daa Eaa uaa vaa _ (HT.out _ hB) (HNaa.out _ hB) (SzQ.fit HZaa.out (HNaa.out _ hB) (by omega)))).mono ?_)
 rintro e wc4 ⟨rfl, hb⟩
 have hB := zab hB hb
 have g1 := zaa hb g1
 have e1 := zaa hb e1
 have i1 := zaa hb i1
 have g2 := zaa hb g2
 have e2 := zaa hb e2
 have i2 := zaa hb i2
 have k3 := zac hb k3
 clear hb 
 go_wp2_with fail
 (with_reducible refine (zas (decide_eq_true H4.out) (zaV (s) bab Bab mab dab Eab uab vab _ (HT.out _ hB) (HNab.out _ hB) (SzQ.fit HZab.out (HNab.out _ hB) (by omega)))).mono ?_)
 rintro e wc5 ⟨rfl, hb⟩
 have hB := zab hB hb
 have g1 := zaa hb g1
 have e1 := zaa hb e1
 have i1 := zaa hb i1
 have g2 := zaa hb g2
 have e2 := zaa hb e2
 have i2 := zaa hb i2
 have k3 := zac hb k3
 clear hb 
 go_wp2_with fail
 have HZ4 : Hid (Sz (K + K) (r.num * s.num).natAbs) := SzI.mul HZaap.out HZabp.out
 (with_reducible refine (HIC.out.mul (r.num) (s.num) baa bab Baa Bab maa mab daa dab _ (HT.out _ hB) (HNaap.out _ hB) (HNabp.out _ hB) (by have := Sz.words HZaap.out (HNaap.out _ hB).words; omega) (by have := Sz.words HZabp.out (HNabp.out _ hB).words; omega)).mono ?_)
 rintro e wc6 ⟨b4, B4, m4, d4, rfl, hw4, hb⟩
 have hB := zab hB hb
 have g1 := zaa hb g1
 have e1 := zaa hb e1
 have i1 := zaa hb i1
 have g2 := zaa hb g2
 have e2 := zaa hb e2
 have i2 := zaa hb i2
 have k3 := zac hb k3
 have HN4 := Lib.hid hw4
 clear hb hw4
 obtain ⟨sc0, sf0, sc1, sf1, sc2, sf2⟩ := st3 k3 (.bool b4) (.slice B4 m4 d4)
 obtain ⟨r0, r1, r2⟩ := (sn3 k3 (.bool b4) (.slice B4 m4 d4) (.slice none 0 0)).c3
 have HG := Lib.hid (gq3 (zal.to HE.out (zdH HN4.out)) k3 hB (by omega))
 go_wp2
 refine bodyPost_ret (v := .agg #[.bool b4, .slice B4 m4 d4, .slice none 0 0]) (by simp [results, Tryd.results9, go_sem, r0, r1, r2]) rfl ?_
 exact HG.out
set_option maxHeartbeats 16000000 in
theorem zjb (r : Rat) (s : Rat) (baa : Bool) (Baa : Option Addr) (maa daa : Nat) (Eaa : Option Addr) (uaa vaa : Nat) (bab : Bool) (Bab : Option Addr) (mab dab : Nat) (Eab : Option Addr) (uab vab : Nat) (w : World) (hT : zan w) (haa : zal w r baa Baa maa daa Eaa uaa vaa) (hab : zal w s bab Bab mab dab Eab uab vab) (qaa : zaG maa uaa) (qab : zaG mab uab) (h1 : r ≠ 0) (h2 : s ≠ 0) (h3 : r.den ≠ 1) :
  Calls Tryd.prog 9 #[.agg #[.bool baa, .slice Baa maa daa, .slice Eaa uaa vaa], .agg #[.bool bab, .slice Bab mab dab, .slice Eab uab vab]] w (zaQ w (r * s)) := by
 have HIC := Lib.hid (intC (T := zan))
 have HGC := Lib.hid gcdC
 have HT := Lib.hid (fun w' (hb : Below w.heap.size w w') => hT.on hb)
 have HTB := HT
 obtain ⟨K, hKe⟩ : ∃ K, 67108864 = K := ⟨_, rfl⟩
 have hKK : K ≤ 67108864 := by omega
 have hK0 : 0 < K := by omega
 have HMP := Lib.hid (zfM r s)
 obtain ⟨sr, hsr⟩ : ∃ s, decide (r.num < 0) = s := ⟨_, rfl⟩
 obtain ⟨ss, hss⟩ : ∃ q, decide (s.num < 0) = q := ⟨_, rfl⟩
 rw [hsr, hss] at HMP
 have HSR := Lib.hid hsr
 have HSS := Lib.hid hss
 clear hsr hss
 have H1 := Lib.hid h1
 have H2 := Lib.hid h2
 have H3 := Lib.hid h3
 have HNaa := Lib.hid (fun w' (b : Below w.heap.size w w') => haa.below b)
 obtain ⟨xaa, hxaa, hxwaa⟩ := haa.2
 have HXaa := Lib.hid hxaa
 have HZaa : Hid (SzQ K r) := zaB haa qaa hKe
 have HZaap : Hid (Sz K r.num.natAbs) := HZaa.out.num
 have HZaaq : Hid (Sz K xaa) := zao HZaa.out.den hxaa
 have HNaap := Lib.hid (fun w' (b : Below w.heap.size w w') => haa.1.below b)
 have HNaaq := Lib.hid (fun w' (b : Below w.heap.size w w') => hxwaa.below b)
 clear haa qaa hxaa hxwaa
 have HNab := Lib.hid (fun w' (b : Below w.heap.size w w') => hab.below b)
 obtain ⟨xab, hxab, hxwab⟩ := hab.2
 have HXab := Lib.hid hxab
 have HZab : Hid (SzQ K s) := zaB hab qab hKe
 have HZabp : Hid (Sz K s.num.natAbs) := HZab.out.num
 have HZabq : Hid (Sz K xab) := zao HZab.out.den hxab
 have HNabp := Lib.hid (fun w' (b : Below w.heap.size w w') => hab.1.below b)
 have HNabq := Lib.hid (fun w' (b : Below w.heap.size w w') => hxwab.below b)
 clear hab qab hxab hxwab
 clear hT hKe h1 h2 h3
 go_enter Tryd.func9, Tryd.ntmps9
 have hB := Below.refl w.heap.size w
 obtain ⟨bx1, bx2, bx3, bx4, bz⟩ := zbd w 33 33 33 #[.bool baa, .slice Baa maa daa, .slice Eaa uaa vaa] #[.bool bab, .slice Bab mab dab, .slice Eab uab vab] #[.bool false, .slice none 0 0, .slice none 0 0]
 have hB := zab hB bx1
 obtain ⟨g1, e1, i1⟩ := bx2.c3
 obtain ⟨g2, e2, i2⟩ := bx3.c3
 have k3 := bx4
 clear bx1 bx2 bx3 bx4 bz
 go_wp2_with fail
 generalize ((w.alloc (.cells #[.bool baa, .slice Baa maa daa, .slice Eaa uaa vaa] 33)).alloc (.cells #[.bool bab, .slice Bab mab dab, .slice Eab uab vab] 33)).alloc (.cells #[.bool false, .slice none 0 0, .slice none 0 0] 33) = W1 at *
 (with_reducible refine (zas (decide_eq_false H1.out) (zaK (r) baa Baa maa daa Eaa uaa vaa _ (HT.out _ hB) (HNaa.out _ hB) (SzQ.fit HZaa.out (HNaa.out _ hB) (by omega)))).mono ?_)
 rintro e wc2 ⟨rfl, hb⟩
 have hB := zab hB hb
 have g1 := zaa hb g1
 have e1 := zaa hb e1
 have i1 := zaa hb i1
 have g2 := zaa hb g2
 have e2 := zaa hb e2
 have i2 := zaa hb i2
 have k3 := zac hb k3
 clear hb 
 go_wp2_with fail
 (with_reducible refine (zas (decide_eq_false H2.out) (zaK (s) bab Bab mab dab Eab uab vab _ (HT.out _ hB) (HNab.out _ hB) (SzQ.fit HZab.out (HNab.out _ hB) (by omega)))).mono ?_)
 rintro e wc3 ⟨rfl, hb⟩
 have hB := zab hB hb
 have g1 := zaa hb g1
 have e1 := zaa hb e1
 have i1 := zaa hb i1
 have g2 := zaa hb g2
 have e2 := zaa hb e2
 have i2 := zaa hb i2
 have k3 := zac hb k3
 clear hb 
 go_wp2_with fail
 (with_reducible refine (zas (decide_eq_false H3.out) (zaV (r) baa Baa maa daa Eaa uaa vaa _ (HT.out _ hB) (HNaa.out _ hB) (SzQ.fit HZaa.out (HNaa.out _ hB) (by omega)))).mono ?_)
 rintro e wc4 ⟨rfl, hb⟩
 have hB := zab hB hb
 have g1 := zaa hb g1
 have e1 := zaa hb e1
 have i1 := zaa hb i1
 have g2 := zaa hb g2
 have e2 := zaa hb e2
 have i2 := zaa hb i2
 have k3 := zac hb k3
 clear hb 
 go_wp2_with fail
 have HZ4 : Hid (Sz (K) (r.num.natAbs)) := HZaap.out
 have C0 := Lib.hid (fun w' (h : Below wc4.heap.size wc4 w') => HIC.out.abs (r.num) baa Baa maa daa w' (HT.out _ (zab hB h)) (HNaap.out _ (zab hB h)) (by have := Sz.words HZaap.out (HNaap.out _ hB).words; omega))
 have HZ5 : Hid (Sz (K) (s.den)) := SzQ.den HZab.out
 have C1 := Lib.hid (fun w' (h : Below wc4.heap.size wc4 w') => zaZ (s) bab Bab mab dab Eab uab vab w' (HT.out _ (zab hB h)) (HNab.out _ (zab hB h)) (SzQ.fit HZab.out (HNab.out _ hB) (by omega)))
 have HZ6 : Hid (Sz (K) (r.num.natAbs / Nat.gcd r.num.natAbs s.den)) := Sz.of_le HZ4.out (Nat.div_le_self _ _)
 have HZ7 : Hid (Sz (K) (s.den / Nat.gcd r.num.natAbs s.den)) := Sz.of_le HZ5.out (Nat.div_le_self _ _)
 have C2 := Lib.hid (fun w' (h : Below wc4.heap.size wc4 w') B4 m4 d4 (hw4 : zae w' (r.num.natAbs) B4 m4 d4) B5 m5 d5 (hw5 : zae w' (s.den) B5 m5 d5) => HGC.out.reduce (r.num.natAbs) (s.den) B4 B5 m4 m5 d4 d5 w' hw4 hw5 (by have := Sz.words HZ4.out hw4; omega) (by have := Sz.words HZ5.out hw5; omega) (HTB.out _ (zab hB h)))
 have lt3_m4 := k3.lt
 have GG := Lib.hid (fun w' (h : Below wc4.heap.size wc4 w') => (csc (zaa h g1) (csc (zaa h e1) (csc (zaa h i1) (csc (zaa h g2) (csc (zaa h e2) (csc (zaa h i2) csn)))))))
 refine rgB (fun hHeld => ?_)
 refine tl 0 GG.out ?_
 try simp only [sb]
 refine tl 1 GG.out ?_
 try simp only [sb]
 refine tl 3 GG.out ?_
 try simp only [sb]
 refine zaH (L := #[true, true, true, true, true, true, true, true, true, true, true, true, true])
  (J := fun a0 l a w' => ∃ (fl2 fl4 fl5 fl6 fl7 fl8 fl9 fl10 fl11 fl12 : Bool) (B4 : Option Addr) (m4 d4 : Nat) (B5 : Option Addr) (m5 d5 : Nat) (B6 : Option Addr) (m6 d6 : Nat) (B7 : Option Addr) (m7 d7 ad9 ad10 : Nat), l = #[true, true, fl2, true, fl4, fl5, fl6, fl7, fl8, fl9, fl10, fl11, fl12] ∧ zbm [32, 34, 35, 29, 36, 37, 5, 6] a0 a ∧ Hid (Below wc4.heap.size wc4 w') ∧
    Hid (Gd fl2 (a.tmps.getD 32 undef = .agg #[.slice B4 m4 d4] ∧ zae w' (r.num.natAbs) B4 m4 d4)) ∧
    Hid (Gd fl4 (a.tmps.getD 34 undef = .agg #[.slice B5 m5 d5] ∧ zae w' (s.den) B5 m5 d5)) ∧
    Hid (Gd fl5 (a.tmps.getD 35 undef = .tuple #[.agg #[.slice B6 m6 d6], .agg #[.slice B7 m7 d7]] ∧ zae w' (r.num.natAbs / Nat.gcd r.num.natAbs s.den) B6 m6 d6 ∧ zae w' (s.den / Nat.gcd r.num.natAbs s.den) B7 m7 d7)) ∧
    Hid (Gd fl6 (a.tmps.getD 29 undef = .tuple #[.agg #[.slice B6 m6 d6], .agg #[.slice B7 m7 d7]])) ∧
    Hid (Gd fl7 (a.tmps.getD 36 undef = .agg #[.slice B6 m6 d6])) ∧
    Hid (Gd fl8 (a.tmps.getD 37 undef = .agg #[.slice B7 m7 d7])) ∧
    Hid (Gd fl9 (a.tmps.getD 5 undef = .pointer (some ⟨ad9, 0, none⟩) ∧ wc4.heap.size ≤ ad9 ∧ Blk w' ad9 29 (bif fl11 then #[.slice B6 m6 d6] else #[.slice none 0 0]))) ∧
    Hid (Gd fl10 (a.tmps.getD 6 undef = .pointer (some ⟨ad10, 0, none⟩) ∧ wc4.heap.size ≤ ad10 ∧ Blk w' ad10 29 (bif fl12 then #[.slice B7 m7 d7] else #[.slice none 0 0]))) ∧
    Hid (Gd fl9 (Gd fl10 (ad9 ≠ ad10))) ∧
    Hid (Gd fl4 (fl2 = true)) ∧
    Hid (Gd fl5 (fl2 = true)) ∧
    Hid (Gd fl5 (fl4 = true)) ∧
    Hid (Gd fl6 (fl5 = true)) ∧
    Hid (Gd fl7 (fl6 = true)) ∧
    Hid (Gd fl8 (fl6 = true)) ∧
    Hid (Gd fl11 (fl5 = true)) ∧
    Hid (Gd fl11 (fl7 = true)) ∧
    Hid (Gd fl11 (fl9 = true)) ∧
    Hid (Gd fl12 (fl8 = true)) ∧
    Hid (Gd fl12 (fl10 = true)) ∧
    Hid (Gd fl12 (fl11 = true)))
  (by rfl) ?_ ?_ ?_
 ·exact ⟨false, false, false, false, false, false, false, false, false, false, none, 0, 0, none, 0, 0, none, 0, 0, none, 0, 0, 0, 0, by kernel_rfl, zbm.refl _ _, hHeld, Gd.no, Gd.no, Gd.no, Gd.no, Gd.no, Gd.no, Gd.no, Gd.no, Gd.no, Gd.no, Gd.no, Gd.no, Gd.no, Gd.no, Gd.no, Gd.no, Gd.no, Gd.no, Gd.no, Gd.no, Gd.no⟩
 ·intro OPS Ac0 Q0 hO hAs hA
  have RB31 : Ac0.tmps.getD 31 undef = .agg #[.bool baa, .slice Baa maa daa] := (hA 31 undef).trans (by kernel_rfl)
  have RB33 : Ac0.tmps.getD 33 undef = .agg #[.bool bab, .slice Bab mab dab, .slice Eab uab vab] := (hA 33 undef).trans (by kernel_rfl)
  have hsz : Ac0.tmps.size = 61 := hAs.trans (by kernel_rfl)
  clear hAs hA
  refine ⟨?_, ?_⟩
  ·rintro l a w' ⟨fl2, fl4, fl5, fl6, fl7, fl8, fl9, fl10, fl11, fl12, B4, m4, d4, B5, m5, d5, B6, m6, d6, B7, m7, d7, ad9, ad10, rfl, -⟩ hr
   obtain rfl : fl2 = true := als 2 hr hO
   obtain rfl : fl4 = true := als 4 hr hO
   obtain rfl : fl5 = true := als 5 hr hO
   obtain rfl : fl6 = true := als 6 hr hO
   obtain rfl : fl7 = true := als 7 hr hO
   obtain rfl : fl8 = true := als 8 hr hO
   obtain rfl : fl9 = true := als 9 hr hO
   obtain rfl : fl10 = true := als 10 hr hO
   obtain rfl : fl11 = true := als 11 hr hO
   obtain rfl : fl12 = true := als 12 hr hO
   rfl
  ·rintro l a w' i ⟨fl2, fl4, fl5, fl6, fl7, fl8, fl9, fl10, fl11, fl12, B4, m4, d4, B5, m5, d5, B6, m6, d6, B7, m7, d7, ad9, ad10, rfl, HKp, hBi, qf2, qf4, qf5, qf6, qf7, qf8, qf9, qf10, qn9_10, qd4_2, qd5_2, qd5_4, qd6_5, qd7_6, qd8_6, qd11_5, qd11_7, qd11_9, qd12_8, qd12_10, qd12_11⟩ hne hi
   have hlt : i < 13 := by have := zbe hi; rw [hO] at this; exact this
   rcases (show i = 0 ∨ i = 1 ∨ i = 2 ∨ i = 3 ∨ i = 4 ∨ i = 5 ∨ i = 6 ∨ i = 7 ∨ i = 8 ∨ i = 9 ∨ i = 10 ∨ i = 11 ∨ i = 12 by omega) with rfl | rfl | rfl | rfl | rfl | rfl | rfl | rfl | rfl | rfl | rfl | rfl | rfl
   ·cases (zaf hi : true = false)
   ·cases (zaf hi : true = false)
   ·obtain rfl : fl2 = false := zaf hi
    obtain rfl : fl4 = false := Gd.off qd4_2.out
    obtain rfl : fl5 = false := Gd.off qd5_2.out
    obtain rfl : fl6 = false := Gd.off qd6_5.out
    obtain rfl : fl7 = false := Gd.off qd7_6.out
    obtain rfl : fl8 = false := Gd.off qd8_6.out
    obtain rfl : fl11 = false := Gd.off qd11_5.out
    obtain rfl : fl12 = false := Gd.off qd12_8.out
    have rd31 := HKp.get 31 (by decide) RB31
    refine wog hO (fun K' hK => ?_)
    go_simp
    refine (C0.out w' hBi.out).mono ?_
    rintro e w2 ⟨nB4, nm4, nd4, rfl, nhw4, hb⟩
    exact hK.out _ _ ⟨zab hBi.out hb, true, false, false, false, false, false, fl9, fl10, false, false, nB4, nm4, nd4, B5, m5, d5, B6, m6, d6, B7, m7, d7, ad9, ad10, by rfl, HKp.put (by decide) _, zab hBi.out hb, Gd.yes ⟨zap (HKp.lt (by rw [hsz]; decide)) _, nhw4⟩, Gd.no, Gd.no, Gd.no, Gd.no, Gd.no, kq qf9.out fun h => ⟨h.1, zac hb h.2⟩, kq qf10.out fun h => ⟨h.1, zac hb h.2⟩, qn9_10, Gd.no, Gd.no, Gd.no, Gd.no, Gd.no, Gd.no, Gd.no, Gd.no, Gd.no, Gd.no, Gd.no, Gd.no⟩
   ·cases (zaf hi : true = false)
   ·obtain rfl : fl4 = false := zaf hi
    obtain rfl : fl2 = true := rdp 2 1 hi hO
    obtain rfl : fl5 = false := Gd.off qd5_4.out
    obtain rfl : fl6 = false := Gd.off qd6_5.out
    obtain rfl : fl7 = false := Gd.off qd7_6.out
    obtain rfl : fl8 = false := Gd.off qd8_6.out
    obtain rfl : fl11 = false := Gd.off qd11_5.out
    obtain rfl : fl12 = false := Gd.off qd12_8.out
    have rd33 := HKp.get 33 (by decide) RB33
    refine wog hO (fun K' hK => ?_)
    go_simp
    refine (C1.out w' hBi.out).mono ?_
    rintro e w2 ⟨nB5, nm5, nd5, rfl, nhw5, hb⟩
    exact hK.out _ _ ⟨zab hBi.out hb, true, true, false, false, false, false, fl9, fl10, false, false, B4, m4, d4, nB5, nm5, nd5, B6, m6, d6, B7, m7, d7, ad9, ad10, by rfl, HKp.put (by decide) _, zab hBi.out hb, kq qf2.out fun h => (h).below hb, Gd.yes ⟨zap (HKp.lt (by rw [hsz]; decide)) _, nhw5⟩, Gd.no, Gd.no, Gd.no, Gd.no, kq qf9.out fun h => ⟨h.1, zac hb h.2⟩, kq qf10.out fun h => ⟨h.1, zac hb h.2⟩, qn9_10, fun _ => rfl, Gd.no, Gd.no, Gd.no, Gd.no, Gd.no, Gd.no, Gd.no, Gd.no, Gd.no, Gd.no, Gd.no⟩
   ·obtain rfl : fl5 = false := zaf hi
    obtain rfl : fl2 = true := rdp 2 0 hi hO
    obtain rfl : fl4 = true := rdp 4 1 hi hO
    obtain rfl : fl6 = false := Gd.off qd6_5.out
    obtain rfl : fl7 = false := Gd.off qd7_6.out
    obtain rfl : fl8 = false := Gd.off qd8_6.out
    obtain rfl : fl11 = false := Gd.off qd11_5.out
    obtain rfl : fl12 = false := Gd.off qd12_8.out
    have rd32 := qf2.out.get.1
    have rd34 := qf4.out.get.1
    have hw4 := qf2.out.get.2
    have hw5 := qf4.out.get.2
    refine wog hO (fun K' hK => ?_)
    go_simp
    refine (C2.out w' hBi.out _ _ _ hw4 _ _ _ hw5).mono ?_
    rintro e w2 ⟨nB6, nm6, nd6, nB7, nm7, nd7, rfl, nhw6, nhw7, hb⟩
    exact hK.out _ _ ⟨zab hBi.out hb, true, true, true, false, false, false, fl9, fl10, false, false, B4, m4, d4, B5, m5, d5, nB6, nm6, nd6, nB7, nm7, nd7, ad9, ad10, by rfl, HKp.put (by decide) _, zab hBi.out hb, kq qf2.out fun h => (h).below hb, kq qf4.out fun h => (h).below hb, Gd.yes ⟨zap (HKp.lt (by rw [hsz]; decide)) _, nhw6, nhw7⟩, Gd.no, Gd.no, Gd.no, kq qf9.out fun h => ⟨h.1, zac hb h.2⟩, kq qf10.out fun h => ⟨h.1, zac hb h.2⟩, qn9_10, fun _ => rfl, fun _ => rfl, fun _ => rfl, Gd.no, Gd.no, Gd.no, Gd.no, Gd.no, Gd.no, Gd.no, Gd.no, Gd.no⟩
   ·obtain rfl : fl6 = false := zaf hi
    obtain rfl : fl5 = true := rdp 5 0 hi hO
    obtain rfl : fl2 = true := qd5_2.out.get
    obtain rfl : fl4 = true := qd5_4.out.get
    obtain rfl : fl7 = false := Gd.off qd7_6.out
    obtain rfl : fl8 = false := Gd.off qd8_6.out
    obtain rfl : fl11 = false := Gd.off qd11_7.out
    obtain rfl : fl12 = false := Gd.off qd12_8.out
    have rd35 := qf5.out.get.1
    refine wog hO (fun K' hK => ?_)
    refine zaW (x := 35) (Or.inl rfl) rd35 ?_
    exact hK.out _ _ ⟨hBi.out, true, true, true, true, false, false, fl9, fl10, false, false, B4, m4, d4, B5, m5, d5, B6, m6, d6, B7, m7, d7, ad9, ad10, by rfl, HKp.put (by decide) _, hBi.out, kq qf2.out fun h => (h), kq qf4.out fun h => (h), kq qf5.out fun h => ⟨(h.1), (h.2)⟩, Gd.yes (zap (HKp.lt (by rw [hsz]; decide)) _), Gd.no, Gd.no, kq qf9.out id, kq qf10.out id, qn9_10, fun _ => rfl, fun _ => rfl, fun _ => rfl, fun _ => rfl, Gd.no, Gd.no, Gd.no, Gd.no, Gd.no, Gd.no, Gd.no, Gd.no⟩
   ·obtain rfl : fl7 = false := zaf hi
    obtain rfl : fl6 = true := rdp 6 0 hi hO
    obtain rfl : fl5 = true := qd6_5.out.get
    obtain rfl : fl2 = true := qd5_2.out.get
    obtain rfl : fl4 = true := qd5_4.out.get
    obtain rfl : fl11 = false := Gd.off qd11_7.out
    obtain rfl : fl12 = false := Gd.off qd12_11.out
    have rd29 := qf6.out.get
    refine wog hO (fun K' hK => ?_)
    refine zax (x := 29) (k := 0) rfl rd29 rfl ?_
    exact hK.out _ _ ⟨hBi.out, true, true, true, true, true, fl8, fl9, fl10, false, false, B4, m4, d4, B5, m5, d5, B6, m6, d6, B7, m7, d7, ad9, ad10, by rfl, HKp.put (by decide) _, hBi.out, kq qf2.out fun h => (h), kq qf4.out fun h => (h), kq qf5.out fun h => ⟨(h.1), (h.2)⟩, kq0 qf6.out, Gd.yes (zap (HKp.lt (by rw [hsz]; decide)) _), kq0 qf8.out, kq qf9.out id, kq qf10.out id, qn9_10, fun _ => rfl, fun _ => rfl, fun _ => rfl, fun _ => rfl, fun _ => rfl, fun _ => rfl, Gd.no, Gd.no, Gd.no, Gd.no, Gd.no, Gd.no⟩
   ·obtain rfl : fl8 = false := zaf hi
    obtain rfl : fl6 = true := rdp 6 0 hi hO
    obtain rfl : fl5 = true := qd6_5.out.get
    obtain rfl : fl2 = true := qd5_2.out.get
    obtain rfl : fl4 = true := qd5_4.out.get
    obtain rfl : fl12 = false := Gd.off qd12_8.out
    have rd29 := qf6.out.get
    refine wog hO (fun K' hK => ?_)
    refine zax (x := 29) (k := 1) rfl rd29 rfl ?_
    exact hK.out _ _ ⟨hBi.out, true, true, true, true, fl7, true, fl9, fl10, fl11, false, B4, m4, d4, B5, m5, d5, B6, m6, d6, B7, m7, d7, ad9, ad10, by rfl, HKp.put (by decide) _, hBi.out, kq qf2.out fun h => (h), kq qf4.out fun h => (h), kq qf5.out fun h => ⟨(h.1), (h.2)⟩, kq0 qf6.out, kq0 qf7.out, Gd.yes (zap (HKp.lt (by rw [hsz]; decide)) _), kq qf9.out id, kq qf10.out id, qn9_10, fun _ => rfl, fun _ => rfl, fun _ => rfl, fun _ => rfl, fun _ => rfl, fun _ => rfl, fun _ => rfl, qd11_7, qd11_9, Gd.no, Gd.no, Gd.no⟩
   ·obtain rfl : fl9 = false := zaf hi
    obtain rfl : fl11 = false := Gd.off qd11_9.out
    obtain rfl : fl12 = false := Gd.off qd12_11.out
    refine wog hO (fun K' hK => ?_)
    go_simp
    have hb := zaz w' (.cells #[.slice none 0 0] 29)
    exact hK.out _ _ ⟨zab hBi.out hb, fl2, fl4, fl5, fl6, fl7, fl8, true, fl10, false, false, B4, m4, d4, B5, m5, d5, B6, m6, d6, B7, m7, d7, w'.heap.size, ad10, by rfl, HKp.put (by decide) _, zab hBi.out hb, kq qf2.out fun h => (h).below hb, kq qf4.out fun h => (h).below hb, kq qf5.out fun h => ⟨(h.1).below hb, (h.2).below hb⟩, kq0 qf6.out, kq0 qf7.out, kq0 qf8.out, Gd.yes ⟨zap (HKp.lt (by rw [hsz]; decide)) _, hBi.out.size, Blk.new w' _ _⟩, kq qf10.out fun h => ⟨h.1, zac hb h.2⟩, Gd.yes (qf10.out.mono fun h => by have := Blk.lt h.2.2; omega), qd4_2, qd5_2, qd5_4, qd6_5, qd7_6, qd8_6, Gd.no, Gd.no, Gd.no, Gd.no, Gd.no, Gd.no⟩
   ·obtain rfl : fl10 = false := zaf hi
    obtain rfl : fl12 = false := Gd.off qd12_10.out
    refine wog hO (fun K' hK => ?_)
    go_simp
    have hb := zaz w' (.cells #[.slice none 0 0] 29)
    exact hK.out _ _ ⟨zab hBi.out hb, fl2, fl4, fl5, fl6, fl7, fl8, fl9, true, fl11, false, B4, m4, d4, B5, m5, d5, B6, m6, d6, B7, m7, d7, ad9, w'.heap.size, by rfl, HKp.put (by decide) _, zab hBi.out hb, kq qf2.out fun h => (h).below hb, kq qf4.out fun h => (h).below hb, kq qf5.out fun h => ⟨(h.1).below hb, (h.2).below hb⟩, kq0 qf6.out, kq0 qf7.out, kq0 qf8.out, kq qf9.out fun h => ⟨h.1, zac hb h.2⟩, Gd.yes ⟨zap (HKp.lt (by rw [hsz]; decide)) _, hBi.out.size, Blk.new w' _ _⟩, qf9.out.mono fun h => Gd.yes (by have := Blk.lt h.2.2; omega), qd4_2, qd5_2, qd5_4, qd6_5, qd7_6, qd8_6, qd11_5, qd11_7, qd11_9, Gd.no, Gd.no, Gd.no⟩
   ·obtain rfl : fl11 = false := zaf hi
    obtain rfl : fl2 = true := rdp 2 5 hi hO
    obtain rfl : fl4 = true := rdp 4 7 hi hO
    obtain rfl : fl5 = true := rdp 5 2 hi hO
    obtain rfl : fl6 = true := rdp 6 9 hi hO
    obtain rfl : fl7 = true := rdp 7 1 hi hO
    obtain rfl : fl9 = true := rdp 9 0 hi hO
    obtain rfl : fl10 = true := rdp 10 13 hi hO
    obtain rfl : fl12 = false := Gd.off qd12_11.out
    have rd5 := qf9.out.get.1
    have rd36 := qf7.out.get
    obtain ⟨_, hg, hk⟩ := qf9.out.get
    have hk : Blk w' ad9 29 #[.slice none 0 0] := hk
    obtain ⟨sc0, sf0⟩ := st1 hk
    have hj0 := sn1 hk (.slice B6 m6 d6)
    have hBn := bl1 (.slice B6 m6 d6) hg hBi.out
    refine wog hO (fun K' hK => ?_)
    go_simp
    exact hK.out _ _ ⟨hBn, true, true, true, true, true, fl8, true, true, true, false, B4, m4, d4, B5, m5, d5, B6, m6, d6, B7, m7, d7, ad9, ad10, by rfl, HKp, hBn, qf2.out.mono fun h => ⟨h.1, zaj (h.2) hk zaR (zaN _ _ _)⟩, qf4.out.mono fun h => ⟨h.1, zaj (h.2) hk zaR (zaN _ _ _)⟩, qf5.out.mono fun h => ⟨h.1, zaj (h.2.1) hk zaR (zaN _ _ _), zaj (h.2.2) hk zaR (zaN _ _ _)⟩, qf6.out.mono fun h => h, qf7.out.mono fun h => h, qf8.out.mono fun h => h, qf9.out.mono fun h => ⟨h.1, h.2.1, hj0⟩, fun hf9 => (fun h => ⟨h.1, h.2.1, Blk.far (p := ⟨ad9, 0, none⟩) (h.2.2) (Ne.symm (qn9_10.out rfl hf9)) (.slice B6 m6 d6)⟩) (qf10.out hf9), qn9_10, fun _ => rfl, fun _ => rfl, fun _ => rfl, fun _ => rfl, fun _ => rfl, fun _ => rfl, fun _ => rfl, fun _ => rfl, fun _ => rfl, Gd.no, Gd.no, Gd.no⟩
   ·obtain rfl : fl12 = false := zaf hi
    obtain rfl : fl2 = true := rdp 2 5 hi hO
    obtain rfl : fl4 = true := rdp 4 7 hi hO
    obtain rfl : fl5 = true := rdp 5 8 hi hO
    obtain rfl : fl6 = true := rdp 6 9 hi hO
    obtain rfl : fl7 = true := rdp 7 10 hi hO
    obtain rfl : fl8 = true := rdp 8 1 hi hO
    obtain rfl : fl9 = true := rdp 9 12 hi hO
    obtain rfl : fl10 = true := rdp 10 0 hi hO
    obtain rfl : fl11 = true := rdp 11 2 hi hO
    have rd6 := qf10.out.get.1
    have rd37 := qf8.out.get
    obtain ⟨_, hg, hk⟩ := qf10.out.get
    have hk : Blk w' ad10 29 #[.slice none 0 0] := hk
    obtain ⟨sc0, sf0⟩ := st1 hk
    have hj0 := sn1 hk (.slice B7 m7 d7)
    have hBn := bl1 (.slice B7 m7 d7) hg hBi.out
    refine wog hO (fun K' hK => ?_)
    go_simp
    exact hK.out _ _ ⟨hBn, true, true, true, true, true, true, true, true, true, true, B4, m4, d4, B5, m5, d5, B6, m6, d6, B7, m7, d7, ad9, ad10, by rfl, HKp, hBn, qf2.out.mono fun h => ⟨h.1, zaj (h.2) hk zaR (zaN _ _ _)⟩, qf4.out.mono fun h => ⟨h.1, zaj (h.2) hk zaR (zaN _ _ _)⟩, qf5.out.mono fun h => ⟨h.1, zaj (h.2.1) hk zaR (zaN _ _ _), zaj (h.2.2) hk zaR (zaN _ _ _)⟩, qf6.out.mono fun h => h, qf7.out.mono fun h => h, qf8.out.mono fun h => h, fun hf9 => (fun h => ⟨h.1, h.2.1, Blk.far (p := ⟨ad10, 0, none⟩) (h.2.2) (qn9_10.out hf9 rfl) (.slice B7 m7 d7)⟩) (qf9.out hf9), qf10.out.mono fun h => ⟨h.1, h.2.1, hj0⟩, qn9_10, fun _ => rfl, fun _ => rfl, fun _ => rfl, fun _ => rfl, fun _ => rfl, fun _ => rfl, fun _ => rfl, fun _ => rfl, fun _ => rfl, fun _ => rfl, fun _ => rfl, fun _ => rfl⟩
 rintro a wm5 ⟨fl2, fl4, fl5, fl6, fl7, fl8, fl9, fl10, fl11, fl12, B4, m4, d4, B5, m5, d5, B6, m6, d6, B7, m7, d7, ad9, ad10, hl, HKp, hBi, qf2, qf4, qf5, qf6, qf7, qf8, qf9, qf10, qn9_10, qd4_2, qd5_2, qd5_4, qd6_5, qd7_6, qd8_6, qd11_5, qd11_7, qd11_9, qd12_8, qd12_10, qd12_11⟩
 have xx2 : fl2 = true := gdl 2 hl
 subst xx2
 have xx4 : fl4 = true := gdl 4 hl
 subst xx4
 have xx5 : fl5 = true := gdl 5 hl
 subst xx5
 have xx6 : fl6 = true := gdl 6 hl
 subst xx6
 have xx7 : fl7 = true := gdl 7 hl
 subst xx7
 have xx8 : fl8 = true := gdl 8 hl
 subst xx8
 have xx9 : fl9 = true := gdl 9 hl
 subst xx9
 have xx10 : fl10 = true := gdl 10 hl
 subst xx10
 have xx11 : fl11 = true := gdl 11 hl
 subst xx11
 have xx12 : fl12 = true := gdl 12 hl
 subst xx12
 obtain ⟨rv2, hw4⟩ := qf2.out.get
 obtain ⟨rv4, hw5⟩ := qf4.out.get
 obtain ⟨rv5, hw6, hw7⟩ := qf5.out.get
 have rv6 := qf6.out.get
 have rv7 := qf7.out.get
 have rv8 := qf8.out.get
 obtain ⟨rv9, hg9, hk9⟩ := qf9.out.get
 obtain ⟨rv10, hg10, hk10⟩ := qf10.out.get
 obtain rfl := HKp.eq [(32, .agg #[.slice B4 m4 d4]), (34, .agg #[.slice B5 m5 d5]), (35, .tuple #[.agg #[.slice B6 m6 d6], .agg #[.slice B7 m7 d7]]), (29, .tuple #[.agg #[.slice B6 m6 d6], .agg #[.slice B7 m7 d7]]), (36, .agg #[.slice B6 m6 d6]), (37, .agg #[.slice B7 m7 d7]), (5, .pointer (some ⟨ad9, 0, none⟩)), (6, .pointer (some ⟨ad10, 0, none⟩))] rfl (by
  intro p hp
  simp only [List.mem_cons, List.not_mem_nil, or_false] at hp
  rcases hp with rfl | rfl | rfl | rfl | rfl | rfl | rfl | rfl
  ·exact rv2
  ·exact rv4
  ·exact rv5
  ·exact rv6
  ·exact rv7
  ·exact rv8
  ·exact rv9
  ·exact rv10)
 have hBv := hBi.out
 clear hl hBi HKp qf2 qf4 qf5 qf6 qf7 qf8 qf9 qf10 qn9_10 qd4_2 qd5_2 qd5_4 qd6_5 qd7_6 qd8_6 qd11_5 qd11_7 qd11_9 qd12_8 qd12_10 qd12_11 rv2 rv4 rv5 rv6 rv7 rv8 rv9 rv10
 have hk9 : Blk wm5 ad9 29 #[.slice B6 m6 d6] := hk9
 have hk10 : Blk wm5 ad10 29 #[.slice B7 m7 d7] := hk10
 rw [show due #[true, true, true, true, true, true, true, true, true, true, true, true, true] = 0 from rfl]
 simp only [zbj, List.foldl, Act.put, List.setIfInBounds_toArray, List.set_cons_zero, List.set_cons_succ]
 refine wpAnyH_done (by kernel_rfl) ?_ _
 refine NoPanic.normal ?_
 have hB := zab hB hBv
 have g1 := zaa hBv g1
 have e1 := zaa hBv e1
 have i1 := zaa hBv i1
 have g2 := zaa hBv g2
 have e2 := zaa hBv e2
 have i2 := zaa hBv i2
 have k3 := zac hBv k3
 obtain ⟨ad9_8, hga⟩ : ∃ x, x = ad9 := ⟨_, rfl⟩
 subst hga
 have g8 := hk9.c1
 obtain ⟨ad10_9, hga⟩ : ∃ x, x = ad10 := ⟨_, rfl⟩
 subst hga
 have g9 := hk10.c1
 have HN4 := Lib.hid hw4
 have HN5 := Lib.hid hw5
 have HN6 := Lib.hid hw6
 have HN7 := Lib.hid hw7
 clear hBv hk9 hk10 hw4 hw5 hw6 hw7 GG
 clear C0 C1 C2
 go_wp2_with fail
 have HZ10 : Hid (Sz (K) (s.num.natAbs)) := HZabp.out
 have C0 := Lib.hid (fun w' (h : Below wm5.heap.size wm5 w') => HIC.out.abs (s.num) bab Bab mab dab w' (HT.out _ (zab hB h)) (HNabp.out _ (zab hB h)) (by have := Sz.words HZabp.out (HNabp.out _ hB).words; omega))
 have HZ11 : Hid (Sz (K) (r.den)) := SzQ.den HZaa.out
 have C1 := Lib.hid (fun w' (h : Below wm5.heap.size wm5 w') => zaZ (r) baa Baa maa daa Eaa uaa vaa w' (HT.out _ (zab hB h)) (HNaa.out _ (zab hB h)) (SzQ.fit HZaa.out (HNaa.out _ hB) (by omega)))
 have HZ12 : Hid (Sz (K) (s.num.natAbs / Nat.gcd s.num.natAbs r.den)) := Sz.of_le HZ10.out (Nat.div_le_self _ _)
 have HZ13 : Hid (Sz (K) (r.den / Nat.gcd s.num.natAbs r.den)) := Sz.of_le HZ11.out (Nat.div_le_self _ _)
 have C2 := Lib.hid (fun w' (h : Below wm5.heap.size wm5 w') B10 m10 d10 (hw10 : zae w' (s.num.natAbs) B10 m10 d10) B11 m11 d11 (hw11 : zae w' (r.den) B11 m11 d11) => HGC.out.reduce (s.num.natAbs) (r.den) B10 B11 m10 m11 d10 d11 w' hw10 hw11 (by have := Sz.words HZ10.out hw10; omega) (by have := Sz.words HZ11.out hw11; omega) (HTB.out _ (zab hB h)))
 have lt3_m5 := k3.lt
 have GG := Lib.hid (fun w' (h : Below wm5.heap.size wm5 w') => (csc (zaa h g2) (csc (zaa h e2) (csc (zaa h i2) (csc (zaa h g1) (csc (zaa h e1) (csc (zaa h i1) csn)))))))
 refine rgB (fun hHeld => ?_)
 refine tl 0 GG.out ?_
 try simp only [sb]
 refine tl 1 GG.out ?_
 try simp only [sb]
 refine tl 3 GG.out ?_
 try simp only [sb]
 refine zaH (L := #[true, true, true, true, true, true, true, true, true, true, true, true, true])
  (J := fun a0 l a w' => ∃ (fl2 fl4 fl5 fl6 fl7 fl8 fl9 fl10 fl11 fl12 : Bool) (B10 : Option Addr) (m10 d10 : Nat) (B11 : Option Addr) (m11 d11 : Nat) (B12 : Option Addr) (m12 d12 : Nat) (B13 : Option Addr) (m13 d13 ad9 ad10 : Nat), l = #[true, true, fl2, true, fl4, fl5, fl6, fl7, fl8, fl9, fl10, fl11, fl12] ∧ zbm [41, 43, 44, 38, 45, 46, 7, 8] a0 a ∧ Hid (Below wm5.heap.size wm5 w') ∧
    Hid (Gd fl2 (a.tmps.getD 41 undef = .agg #[.slice B10 m10 d10] ∧ zae w' (s.num.natAbs) B10 m10 d10)) ∧
    Hid (Gd fl4 (a.tmps.getD 43 undef = .agg #[.slice B11 m11 d11] ∧ zae w' (r.den) B11 m11 d11)) ∧
    Hid (Gd fl5 (a.tmps.getD 44 undef = .tuple #[.agg #[.slice B12 m12 d12], .agg #[.slice B13 m13 d13]] ∧ zae w' (s.num.natAbs / Nat.gcd s.num.natAbs r.den) B12 m12 d12 ∧ zae w' (r.den / Nat.gcd s.num.natAbs r.den) B13 m13 d13)) ∧
    Hid (Gd fl6 (a.tmps.getD 38 undef = .tuple #[.agg #[.slice B12 m12 d12], .agg #[.slice B13 m13 d13]])) ∧
    Hid (Gd fl7 (a.tmps.getD 45 undef = .agg #[.slice B12 m12 d12])) ∧
    Hid (Gd fl8 (a.tmps.getD 46 undef = .agg #[.slice B13 m13 d13])) ∧
    Hid (Gd fl9 (a.tmps.getD 7 undef = .pointer (some ⟨ad9, 0, none⟩) ∧ wm5.heap.size ≤ ad9 ∧ Blk w' ad9 29 (bif fl11 then #[.slice B12 m12 d12] else #[.slice none 0 0]))) ∧
    Hid (Gd fl10 (a.tmps.getD 8 undef = .pointer (some ⟨ad10, 0, none⟩) ∧ wm5.heap.size ≤ ad10 ∧ Blk w' ad10 29 (bif fl12 then #[.slice B13 m13 d13] else #[.slice none 0 0]))) ∧
    Hid (Gd fl9 (Gd fl10 (ad9 ≠ ad10))) ∧
    Hid (Gd fl4 (fl2 = true)) ∧
    Hid (Gd fl5 (fl2 = true)) ∧
    Hid (Gd fl5 (fl4 = true)) ∧
    Hid (Gd fl6 (fl5 = true)) ∧
    Hid (Gd fl7 (fl6 = true)) ∧
    Hid (Gd fl8 (fl6 = true)) ∧
    Hid (Gd fl11 (fl5 = true)) ∧
    Hid (Gd fl11 (fl7 = true)) ∧
    Hid (Gd fl11 (fl9 = true)) ∧
    Hid (Gd fl12 (fl8 = true)) ∧
    Hid (Gd fl12 (fl10 = true)) ∧
    Hid (Gd fl12 (fl11 = true)))
  (by rfl) ?_ ?_ ?_
 ·exact ⟨false, false, false, false, false, false, false, false, false, false, none, 0, 0, none, 0, 0, none, 0, 0, none, 0, 0, 0, 0, by kernel_rfl, zbm.refl _ _, hHeld, Gd.no, Gd.no, Gd.no, Gd.no, Gd.no, Gd.no, Gd.no, Gd.no, Gd.no, Gd.no, Gd.no, Gd.no, Gd.no, Gd.no, Gd.no, Gd.no, Gd.no, Gd.no, Gd.no, Gd.no, Gd.no⟩
 ·intro OPS Ac0 Q0 hO hAs hA
  have RB40 : Ac0.tmps.getD 40 undef = .agg #[.bool bab, .slice Bab mab dab] := (hA 40 undef).trans (by kernel_rfl)
  have RB42 : Ac0.tmps.getD 42 undef = .agg #[.bool baa, .slice Baa maa daa, .slice Eaa uaa vaa] := (hA 42 undef).trans (by kernel_rfl)
  have hsz : Ac0.tmps.size = 61 := hAs.trans (by kernel_rfl)
  clear hAs hA
  refine ⟨?_, ?_⟩
  ·rintro l a w' ⟨fl2, fl4, fl5, fl6, fl7, fl8, fl9, fl10, fl11, fl12, B10, m10, d10, B11, m11, d11, B12, m12, d12, B13, m13, d13, ad9, ad10, rfl, -⟩ hr
   obtain rfl : fl2 = true := als 2 hr hO
   obtain rfl : fl4 = true := als 4 hr hO
   obtain rfl : fl5 = true := als 5 hr hO
   obtain rfl : fl6 = true := als 6 hr hO
   obtain rfl : fl7 = true := als 7 hr hO
   obtain rfl : fl8 = true := als 8 hr hO
   obtain rfl : fl9 = true := als 9 hr hO
   obtain rfl : fl10 = true := als 10 hr hO
   obtain rfl : fl11 = true := als 11 hr hO
   obtain rfl : fl12 = true := als 12 hr hO
   rfl
  ·rintro l a w' i ⟨fl2, fl4, fl5, fl6, fl7, fl8, fl9, fl10, fl11, fl12, B10, m10, d10, B11, m11, d11, B12, m12, d12, B13, m13, d13, ad9, ad10, rfl, HKp, hBi, qf2, qf4, qf5, qf6, qf7, qf8, qf9, qf10, qn9_10, qd4_2, qd5_2, qd5_4, qd6_5, qd7_6, qd8_6, qd11_5, qd11_7, qd11_9, qd12_8, qd12_10, qd12_11⟩ hne hi
   have hlt : i < 13 := by have := zbe hi; rw [hO] at this; exact this
   rcases (show i = 0 ∨ i = 1 ∨ i = 2 ∨ i = 3 ∨ i = 4 ∨ i = 5 ∨ i = 6 ∨ i = 7 ∨ i = 8 ∨ i = 9 ∨ i = 10 ∨ i = 11 ∨ i = 12 by omega) with rfl | rfl | rfl | rfl | rfl | rfl | rfl | rfl | rfl | rfl | rfl | rfl | rfl
   ·cases (zaf hi : true = false)
   ·cases (zaf hi : true = false)
   ·obtain rfl : fl2 = false := zaf hi
    obtain rfl : fl4 = false := Gd.off qd4_2.out
    obtain rfl : fl5 = false := Gd.off qd5_2.out
    obtain rfl : fl6 = false := Gd.off qd6_5.out
    obtain rfl : fl7 = false := Gd.off qd7_6.out
    obtain rfl : fl8 = false := Gd.off qd8_6.out
    obtain rfl : fl11 = false := Gd.off qd11_5.out
    obtain rfl : fl12 = false := Gd.off qd12_8.out
    have rd40 := HKp.get 40 (by decide) RB40
    refine wog hO (fun K' hK => ?_)
    go_simp
    refine (C0.out w' hBi.out).mono ?_
    rintro e w2 ⟨nB10, nm10, nd10, rfl, nhw10, hb⟩
    exact hK.out _ _ ⟨zab hBi.out hb, true, false, false, false, false, false, fl9, fl10, false, false, nB10, nm10, nd10, B11, m11, d11, B12, m12, d12, B13, m13, d13, ad9, ad10, by rfl, HKp.put (by decide) _, zab hBi.out hb, Gd.yes ⟨zap (HKp.lt (by rw [hsz]; decide)) _, nhw10⟩, Gd.no, Gd.no, Gd.no, Gd.no, Gd.no, kq qf9.out fun h => ⟨h.1, zac hb h.2⟩, kq qf10.out fun h => ⟨h.1, zac hb h.2⟩, qn9_10, Gd.no, Gd.no, Gd.no, Gd.no, Gd.no, Gd.no, Gd.no, Gd.no, Gd.no, Gd.no, Gd.no, Gd.no⟩
   ·cases (zaf hi : true = false)
   ·obtain rfl : fl4 = false := zaf hi
    obtain rfl : fl2 = true := rdp 2 1 hi hO
    obtain rfl : fl5 = false := Gd.off qd5_4.out
    obtain rfl : fl6 = false := Gd.off qd6_5.out
    obtain rfl : fl7 = false := Gd.off qd7_6.out
    obtain rfl : fl8 = false := Gd.off qd8_6.out
    obtain rfl : fl11 = false := Gd.off qd11_5.out
    obtain rfl : fl12 = false := Gd.off qd12_8.out
    have rd42 := HKp.get 42 (by decide) RB42
    refine wog hO (fun K' hK => ?_)
    go_simp
    refine (C1.out w' hBi.out).mono ?_
    rintro e w2 ⟨nB11, nm11, nd11, rfl, nhw11, hb⟩
    exact hK.out _ _ ⟨zab hBi.out hb, true, true, false, false, false, false, fl9, fl10, false, false, B10, m10, d10, nB11, nm11, nd11, B12, m12, d12, B13, m13, d13, ad9, ad10, by rfl, HKp.put (by decide) _, zab hBi.out hb, kq qf2.out fun h => (h).below hb, Gd.yes ⟨zap (HKp.lt (by rw [hsz]; decide)) _, nhw11⟩, Gd.no, Gd.no, Gd.no, Gd.no, kq qf9.out fun h => ⟨h.1, zac hb h.2⟩, kq qf10.out fun h => ⟨h.1, zac hb h.2⟩, qn9_10, fun _ => rfl, Gd.no, Gd.no, Gd.no, Gd.no, Gd.no, Gd.no, Gd.no, Gd.no, Gd.no, Gd.no, Gd.no⟩
   ·obtain rfl : fl5 = false := zaf hi
    obtain rfl : fl2 = true := rdp 2 0 hi hO
    obtain rfl : fl4 = true := rdp 4 1 hi hO
    obtain rfl : fl6 = false := Gd.off qd6_5.out
    obtain rfl : fl7 = false := Gd.off qd7_6.out
    obtain rfl : fl8 = false := Gd.off qd8_6.out
    obtain rfl : fl11 = false := Gd.off qd11_5.out
    obtain rfl : fl12 = false := Gd.off qd12_8.out
    have rd41 := qf2.out.get.1
    have rd43 := qf4.out.get.1
    have hw10 := qf2.out.get.2
    have hw11 := qf4.out.get.2
    refine wog hO (fun K' hK => ?_)
    go_simp
    refine (C2.out w' hBi.out _ _ _ hw10 _ _ _ hw11).mono ?_
    rintro e w2 ⟨nB12, nm12, nd12, nB13, nm13, nd13, rfl, nhw12, nhw13, hb⟩
    exact hK.out _ _ ⟨zab hBi.out hb, true, true, true, false, false, false, fl9, fl10, false, false, B10, m10, d10, B11, m11, d11, nB12, nm12, nd12, nB13, nm13, nd13, ad9, ad10, by rfl, HKp.put (by decide) _, zab hBi.out hb, kq qf2.out fun h => (h).below hb, kq qf4.out fun h => (h).below hb, Gd.yes ⟨zap (HKp.lt (by rw [hsz]; decide)) _, nhw12, nhw13⟩, Gd.no, Gd.no, Gd.no, kq qf9.out fun h => ⟨h.1, zac hb h.2⟩, kq qf10.out fun h => ⟨h.1, zac hb h.2⟩, qn9_10, fun _ => rfl, fun _ => rfl, fun _ => rfl, Gd.no, Gd.no, Gd.no, Gd.no, Gd.no, Gd.no, Gd.no, Gd.no, Gd.no⟩
   ·obtain rfl : fl6 = false := zaf hi
    obtain rfl : fl5 = true := rdp 5 0 hi hO
    obtain rfl : fl2 = true := qd5_2.out.get
    obtain rfl : fl4 = true := qd5_4.out.get
    obtain rfl : fl7 = false := Gd.off qd7_6.out
    obtain rfl : fl8 = false := Gd.off qd8_6.out
    obtain rfl : fl11 = false := Gd.off qd11_7.out
    obtain rfl : fl12 = false := Gd.off qd12_8.out
    have rd44 := qf5.out.get.1
    refine wog hO (fun K' hK => ?_)
    refine zaW (x := 44) (Or.inl rfl) rd44 ?_
    exact hK.out _ _ ⟨hBi.out, true, true, true, true, false, false, fl9, fl10, false, false, B10, m10, d10, B11, m11, d11, B12, m12, d12, B13, m13, d13, ad9, ad10, by rfl, HKp.put (by decide) _, hBi.out, kq qf2.out fun h => (h), kq qf4.out fun h => (h), kq qf5.out fun h => ⟨(h.1), (h.2)⟩, Gd.yes (zap (HKp.lt (by rw [hsz]; decide)) _), Gd.no, Gd.no, kq qf9.out id, kq qf10.out id, qn9_10, fun _ => rfl, fun _ => rfl, fun _ => rfl, fun _ => rfl, Gd.no, Gd.no, Gd.no, Gd.no, Gd.no, Gd.no, Gd.no, Gd.no⟩
   ·obtain rfl : fl7 = false := zaf hi
    obtain rfl : fl6 = true := rdp 6 0 hi hO
    obtain rfl : fl5 = true := qd6_5.out.get
    obtain rfl : fl2 = true := qd5_2.out.get
    obtain rfl : fl4 = true := qd5_4.out.get
    obtain rfl : fl11 = false := Gd.off qd11_7.out
    obtain rfl : fl12 = false := Gd.off qd12_11.out
    have rd38 := qf6.out.get
    refine wog hO (fun K' hK => ?_)
    refine zax (x := 38) (k := 0) rfl rd38 rfl ?_
    exact hK.out _ _ ⟨hBi.out, true, true, true, true, true, fl8, fl9, fl10, false, false, B10, m10, d10, B11, m11, d11, B12, m12, d12, B13, m13, d13, ad9, ad10, by rfl, HKp.put (by decide) _, hBi.out, kq qf2.out fun h => (h), kq qf4.out fun h => (h), kq qf5.out fun h => ⟨(h.1), (h.2)⟩, kq0 qf6.out, Gd.yes (zap (HKp.lt (by rw [hsz]; decide)) _), kq0 qf8.out, kq qf9.out id, kq qf10.out id, qn9_10, fun _ => rfl, fun _ => rfl, fun _ => rfl, fun _ => rfl, fun _ => rfl, fun _ => rfl, Gd.no, Gd.no, Gd.no, Gd.no, Gd.no, Gd.no⟩
   ·obtain rfl : fl8 = false := zaf hi
    obtain rfl : fl6 = true := rdp 6 0 hi hO
    obtain rfl : fl5 = true := qd6_5.out.get
    obtain rfl : fl2 = true := qd5_2.out.get
    obtain rfl : fl4 = true := qd5_4.out.get
    obtain rfl : fl12 = false := Gd.off qd12_8.out
    have rd38 := qf6.out.get
    refine wog hO (fun K' hK => ?_)
    refine zax (x := 38) (k := 1) rfl rd38 rfl ?_
    exact hK.out _ _ ⟨hBi.out, true, true, true, true, fl7, true, fl9, fl10, fl11, false, B10, m10, d10, B11, m11, d11, B12, m12, d12, B13, m13, d13, ad9, ad10, by rfl, HKp.put (by decide) _, hBi.out, kq qf2.out fun h => (h), kq qf4.out fun h => (h), kq qf5.out fun h => ⟨(h.1), (h.2)⟩, kq0 qf6.out, kq0 qf7.out, Gd.yes (zap (HKp.lt (by rw [hsz]; decide)) _), kq qf9.out id, kq qf10.out id, qn9_10, fun _ => rfl, fun _ => rfl, fun _ => rfl, fun _ => rfl, fun _ => rfl, fun _ => rfl, fun _ => rfl, qd11_7, qd11_9, Gd.no, Gd.no, Gd.no⟩
   ·obtain rfl : fl9 = false := zaf hi
    obtain rfl : fl11 = false := Gd.off qd11_9.out
    obtain rfl : fl12 = false := Gd.off qd12_11.out
    refine wog hO (fun K' hK => ?_)
    go_simp
    have hb := zaz w' (.cells #[.slice none 0 0] 29)
    exact hK.out _ _ ⟨zab hBi.out hb, fl2, fl4, fl5, fl6, fl7, fl8, true, fl10, false, false, B10, m10, d10, B11, m11, d11, B12, m12, d12, B13, m13, d13, w'.heap.size, ad10, by rfl, HKp.put (by decide) _, zab hBi.out hb, kq qf2.out fun h => (h).below hb, kq qf4.out fun h => (h).below hb, kq qf5.out fun h => ⟨(h.1).below hb, (h.2).below hb⟩, kq0 qf6.out, kq0 qf7.out, kq0 qf8.out, Gd.yes ⟨zap (HKp.lt (by rw [hsz]; decide)) _, hBi.out.size, Blk.new w' _ _⟩, kq qf10.out fun h => ⟨h.1, zac hb h.2⟩, Gd.yes (qf10.out.mono fun h => by have := Blk.lt h.2.2; omega), qd4_2, qd5_2, qd5_4, qd6_5, qd7_6, qd8_6, Gd.no, Gd.no, Gd.no, Gd.no, Gd.no, Gd.no⟩
   ·obtain rfl : fl10 = false := zaf hi
    obtain rfl : fl12 = false := Gd.off qd12_10.out
    refine wog hO (fun K' hK => ?_)
    go_simp
    have hb := zaz w' (.cells #[.slice none 0 0] 29)
    exact hK.out _ _ ⟨zab hBi.out hb, fl2, fl4, fl5, fl6, fl7, fl8, fl9, true, fl11, false, B10, m10, d10, B11, m11, d11, B12, m12, d12, B13, m13, d13, ad9, w'.heap.size, by rfl, HKp.put (by decide) _, zab hBi.out hb, kq qf2.out fun h => (h).below hb, kq qf4.out fun h => (h).below hb, kq qf5.out fun h => ⟨(h.1).below hb, (h.2).below hb⟩, kq0 qf6.out, kq0 qf7.out, kq0 qf8.out, kq qf9.out fun h => ⟨h.1, zac hb h.2⟩, Gd.yes ⟨zap (HKp.lt (by rw [hsz]; decide)) _, hBi.out.size, Blk.new w' _ _⟩, qf9.out.mono fun h => Gd.yes (by have := Blk.lt h.2.2; omega), qd4_2, qd5_2, qd5_4, qd6_5, qd7_6, qd8_6, qd11_5, qd11_7, qd11_9, Gd.no, Gd.no, Gd.no⟩
   ·obtain rfl : fl11 = false := zaf hi
    obtain rfl : fl2 = true := rdp 2 5 hi hO
    obtain rfl : fl4 = true := rdp 4 7 hi hO
    obtain rfl : fl5 = true := rdp 5 2 hi hO
    obtain rfl : fl6 = true := rdp 6 9 hi hO
    obtain rfl : fl7 = true := rdp 7 1 hi hO
    obtain rfl : fl9 = true := rdp 9 0 hi hO
    obtain rfl : fl10 = true := rdp 10 13 hi hO
    obtain rfl : fl12 = false := Gd.off qd12_11.out
    have rd7 := qf9.out.get.1
    have rd45 := qf7.out.get
    obtain ⟨_, hg, hk⟩ := qf9.out.get
    have hk : Blk w' ad9 29 #[.slice none 0 0] := hk
    obtain ⟨sc0, sf0⟩ := st1 hk
    have hj0 := sn1 hk (.slice B12 m12 d12)
    have hBn := bl1 (.slice B12 m12 d12) hg hBi.out
    refine wog hO (fun K' hK => ?_)
    go_simp
    exact hK.out _ _ ⟨hBn, true, true, true, true, true, fl8, true, true, true, false, B10, m10, d10, B11, m11, d11, B12, m12, d12, B13, m13, d13, ad9, ad10, by rfl, HKp, hBn, qf2.out.mono fun h => ⟨h.1, zaj (h.2) hk zaR (zaN _ _ _)⟩, qf4.out.mono fun h => ⟨h.1, zaj (h.2) hk zaR (zaN _ _ _)⟩, qf5.out.mono fun h => ⟨h.1, zaj (h.2.1) hk zaR (zaN _ _ _), zaj (h.2.2) hk zaR (zaN _ _ _)⟩, qf6.out.mono fun h => h, qf7.out.mono fun h => h, qf8.out.mono fun h => h, qf9.out.mono fun h => ⟨h.1, h.2.1, hj0⟩, fun hf9 => (fun h => ⟨h.1, h.2.1, Blk.far (p := ⟨ad9, 0, none⟩) (h.2.2) (Ne.symm (qn9_10.out rfl hf9)) (.slice B12 m12 d12)⟩) (qf10.out hf9), qn9_10, fun _ => rfl, fun _ => rfl, fun _ => rfl, fun _ => rfl, fun _ => rfl, fun _ => rfl, fun _ => rfl, fun _ => rfl, fun _ => rfl, Gd.no, Gd.no, Gd.no⟩
   ·obtain rfl : fl12 = false := zaf hi
    obtain rfl : fl2 = true := rdp 2 5 hi hO
    obtain rfl : fl4 = true := rdp 4 7 hi hO
    obtain rfl : fl5 = true := rdp 5 8 hi hO
    obtain rfl : fl6 = true := rdp 6 9 hi hO
    obtain rfl : fl7 = true := rdp 7 10 hi hO
    obtain rfl : fl8 = true := rdp 8 1 hi hO
    obtain rfl : fl9 = true := rdp 9 12 hi hO
    obtain rfl : fl10 = true := rdp 10 0 hi hO
    obtain rfl : fl11 = true := rdp 11 2 hi hO
    have rd8 := qf10.out.get.1
    have rd46 := qf8.out.get
    obtain ⟨_, hg, hk⟩ := qf10.out.get
    have hk : Blk w' ad10 29 #[.slice none 0 0] := hk
    obtain ⟨sc0, sf0⟩ := st1 hk
    have hj0 := sn1 hk (.slice B13 m13 d13)
    have hBn := bl1 (.slice B13 m13 d13) hg hBi.out
    refine wog hO (fun K' hK => ?_)
    go_simp
    exact hK.out _ _ ⟨hBn, true, true, true, true, true, true, true, true, true, true, B10, m10, d10, B11, m11, d11, B12, m12, d12, B13, m13, d13, ad9, ad10, by rfl, HKp, hBn, qf2.out.mono fun h => ⟨h.1, zaj (h.2) hk zaR (zaN _ _ _)⟩, qf4.out.mono fun h => ⟨h.1, zaj (h.2) hk zaR (zaN _ _ _)⟩, qf5.out.mono fun h => ⟨h.1, zaj (h.2.1) hk zaR (zaN _ _ _), zaj (h.2.2) hk zaR (zaN _ _ _)⟩, qf6.out.mono fun h => h, qf7.out.mono fun h => h, qf8.out.mono fun h => h, fun hf9 => (fun h => ⟨h.1, h.2.1, Blk.far (p := ⟨ad10, 0, none⟩) (h.2.2) (qn9_10.out hf9 rfl) (.slice B13 m13 d13)⟩) (qf9.out hf9), qf10.out.mono fun h => ⟨h.1, h.2.1, hj0⟩, qn9_10, fun _ => rfl, fun _ => rfl, fun _ => rfl, fun _ => rfl, fun _ => rfl, fun _ => rfl, fun _ => rfl, fun _ => rfl, fun _ => rfl, fun _ => rfl, fun _ => rfl, fun _ => rfl⟩
 rintro a wm6 ⟨fl2, fl4, fl5, fl6, fl7, fl8, fl9, fl10, fl11, fl12, B10, m10, d10, B11, m11, d11, B12, m12, d12, B13, m13, d13, ad9, ad10, hl, HKp, hBi, qf2, qf4, qf5, qf6, qf7, qf8, qf9, qf10, qn9_10, qd4_2, qd5_2, qd5_4, qd6_5, qd7_6, qd8_6, qd11_5, qd11_7, qd11_9, qd12_8, qd12_10, qd12_11⟩
 have xx2 : fl2 = true := gdl 2 hl
 subst xx2
 have xx4 : fl4 = true := gdl 4 hl
 subst xx4
 have xx5 : fl5 = true := gdl 5 hl
 subst xx5
 have xx6 : fl6 = true := gdl 6 hl
 subst xx6
 have xx7 : fl7 = true := gdl 7 hl
 subst xx7
 have xx8 : fl8 = true := gdl 8 hl
 subst xx8
 have xx9 : fl9 = true := gdl 9 hl
 subst xx9
 have xx10 : fl10 = true := gdl 10 hl
 subst xx10
 have xx11 : fl11 = true := gdl 11 hl
 subst xx11
 have xx12 : fl12 = true := gdl 12 hl
 subst xx12
 obtain ⟨rv2, hw10⟩ := qf2.out.get
 obtain ⟨rv4, hw11⟩ := qf4.out.get
 obtain ⟨rv5, hw12, hw13⟩ := qf5.out.get
 have rv6 := qf6.out.get
 have rv7 := qf7.out.get
 have rv8 := qf8.out.get
 obtain ⟨rv9, hg9, hk9⟩ := qf9.out.get
 obtain ⟨rv10, hg10, hk10⟩ := qf10.out.get
 obtain rfl := HKp.eq [(41, .agg #[.slice B10 m10 d10]), (43, .agg #[.slice B11 m11 d11]), (44, .tuple #[.agg #[.slice B12 m12 d12], .agg #[.slice B13 m13 d13]]), (38, .tuple #[.agg #[.slice B12 m12 d12], .agg #[.slice B13 m13 d13]]), (45, .agg #[.slice B12 m12 d12]), (46, .agg #[.slice B13 m13 d13]), (7, .pointer (some ⟨ad9, 0, none⟩)), (8, .pointer (some ⟨ad10, 0, none⟩))] rfl (by
  intro p hp
  simp only [List.mem_cons, List.not_mem_nil, or_false] at hp
  rcases hp with rfl | rfl | rfl | rfl | rfl | rfl | rfl | rfl
  ·exact rv2
  ·exact rv4
  ·exact rv5
  ·exact rv6
  ·exact rv7
  ·exact rv8
  ·exact rv9
  ·exact rv10)
 have hBv := hBi.out
 clear hl hBi HKp qf2 qf4 qf5 qf6 qf7 qf8 qf9 qf10 qn9_10 qd4_2 qd5_2 qd5_4 qd6_5 qd7_6 qd8_6 qd11_5 qd11_7 qd11_9 qd12_8 qd12_10 qd12_11 rv2 rv4 rv5 rv6 rv7 rv8 rv9 rv10
 have hk9 : Blk wm6 ad9 29 #[.slice B12 m12 d12] := hk9
 have hk10 : Blk wm6 ad10 29 #[.slice B13 m13 d13] := hk10
 rw [show due #[true, true, true, true, true, true, true, true, true, true, true, true, true] = 0 from rfl]
 simp only [zbj, List.foldl, Act.put, List.setIfInBounds_toArray, List.set_cons_zero, List.set_cons_succ]
 refine wpAnyH_done (by kernel_rfl) ?_ _
 refine NoPanic.normal ?_
 have hB := zab hB hBv
 have g1 := zaa hBv g1
 have e1 := zaa hBv e1
 have i1 := zaa hBv i1
 have g2 := zaa hBv g2
 have e2 := zaa hBv e2
 have i2 := zaa hBv i2
 have k3 := zac hBv k3
 have g8 := zaa hBv g8
 have g9 := zaa hBv g9
 have HN4 := Lib.hid (HN4.out.below hBv)
 have HN5 := Lib.hid (HN5.out.below hBv)
 have HN6 := Lib.hid (HN6.out.below hBv)
 have HN7 := Lib.hid (HN7.out.below hBv)
 obtain ⟨ad9_14, hga⟩ : ∃ x, x = ad9 := ⟨_, rfl⟩
 subst hga
 have g14 := hk9.c1
 obtain ⟨ad10_15, hga⟩ : ∃ x, x = ad10 := ⟨_, rfl⟩
 subst hga
 have g15 := hk10.c1
 have HN10 := Lib.hid hw10
 have HN11 := Lib.hid hw11
 have HN12 := Lib.hid hw12
 have HN13 := Lib.hid hw13
 clear hBv hk9 hk10 hw10 hw11 hw12 hw13 GG
 clear C0 C1 C2
 go_wp2_with fail
 have C0 := Lib.hid (fun w' (h : Below wm6.heap.size wm6 w') => zas (HSR.out) (HIC.out.belowI (r.num) baa Baa maa daa w' (HT.out _ (zab hB h)) (HNaap.out _ (zab hB h)) (by have := Sz.words HZaap.out (HNaap.out _ hB).words; omega)))
 have C1 := Lib.hid (fun w' (h : Below wm6.heap.size wm6 w') => zas (HSS.out) (HIC.out.belowI (s.num) bab Bab mab dab w' (HT.out _ (zab hB h)) (HNabp.out _ (zab hB h)) (by have := Sz.words HZabp.out (HNabp.out _ hB).words; omega)))
 have HZ16 : Hid (Sz (K + K) ((r.num.natAbs / Nat.gcd r.num.natAbs s.den) * (s.num.natAbs / Nat.gcd s.num.natAbs r.den))) := Sz.mul HZ6.out HZ12.out
 have C2 := Lib.hid (fun w' (h : Below wm6.heap.size wm6 w') => zcz (r.num.natAbs / Nat.gcd r.num.natAbs s.den) (s.num.natAbs / Nat.gcd s.num.natAbs r.den) B6 B12 m6 m12 d6 d12 w' (HN6.out.below h) (HN12.out.below h) (by have := Sz.words HZ6.out HN6.out; omega) (by have := Sz.words HZ12.out HN12.out; omega))
 have HZ17 : Hid (Sz (K + K) ((r.den / Nat.gcd s.num.natAbs r.den) * (s.den / Nat.gcd r.num.natAbs s.den))) := Sz.mul HZ13.out HZ7.out
 have C3 := Lib.hid (fun w' (h : Below wm6.heap.size wm6 w') => zcz (r.den / Nat.gcd s.num.natAbs r.den) (s.den / Nat.gcd r.num.natAbs s.den) B13 B7 m13 m7 d13 d7 w' (HN13.out.below h) (HN7.out.below h) (by have := Sz.words HZ13.out HN13.out; omega) (by have := Sz.words HZ7.out HN7.out; omega))
 have C4 := Lib.hid (fun w' (h : Below wm6.heap.size wm6 w') B16 m16 d16 (hw16 : zae w' ((r.num.natAbs / Nat.gcd r.num.natAbs s.den) * (s.num.natAbs / Nat.gcd s.num.natAbs r.den)) B16 m16 d16) B17 m17 d17 (hw17 : zae w' ((r.den / Nat.gcd s.num.natAbs r.den) * (s.den / Nat.gcd r.num.natAbs s.den)) B17 m17 d17) => zbO (r * s) (!(sr == ss)) ((r.num.natAbs / Nat.gcd r.num.natAbs s.den) * (s.num.natAbs / Nat.gcd s.num.natAbs r.den)) ((r.den / Nat.gcd s.num.natAbs r.den) * (s.den / Nat.gcd r.num.natAbs s.den)) B16 m16 d16 B17 m17 d17 w' (HT.out _ (zab hB h)) hw16 hw17 (by have := Sz.words HZ16.out hw16; omega) (by have := Sz.words HZ17.out hw17; omega) (HMP.out.1) (HMP.out.2))
 have hBw := (Below.refl wm6.heap.size wm6).drew
 refine rg (csc g1 (csc e1 (csc i1 (csc g2 (csc e2 (csc i2 (csc g8 (csc g14 (csc g15 (csc g9 csn)))))))))) (fun hHeld => ?_)
 refine tk 0 ?_
 try simp only [sb]
 refine tk 1 ?_
 try simp only [sb]
 refine tk 3 ?_
 try simp only [sb]
 refine tk 4 ?_
 try simp only [sb]
 refine tk 7 ?_
 try simp only [sb]
 refine tk 8 ?_
 try simp only [sb]
 refine tk 10 ?_
 try simp only [sb]
 refine tk 11 ?_
 try simp only [sb]
 refine rc 2 (fun K hK => ?_)
 go_simp
 go_at_call 40; (with_reducible refine (C0.out _ hBw).mono ?_); rintro e wa7 ⟨rfl, hb⟩; have hBw := zab hBw hb; refine hK.out _ _ (Cs.below hHeld hb) (fun hHeld => ?_); clear hK K hb
 try simp only [sb]
 refine rc 5 (fun K hK => ?_)
 go_simp
 go_at_call 40; (with_reducible refine (C1.out _ hBw).mono ?_); rintro e wa8 ⟨rfl, hb⟩; have hBw := zab hBw hb; refine hK.out _ _ (Cs.below hHeld hb) (fun hHeld => ?_); clear hK K hb
 try simp only [sb]
 refine tk 6 ?_
 try simp only [sb]
 refine rc 9 (fun K hK => ?_)
 go_simp
 go_at_call 41; (with_reducible refine (C2.out _ hBw).mono ?_); rintro e wa9 ⟨B16, m16, d16, rfl, hw16, hb, _⟩; have hBw := zab hBw hb; refine hK.out _ _ (Cs.below hHeld hb) (fun hHeld => ?_); clear hK K hb
 try simp only [sb]
 refine rc 12 (fun K hK => ?_)
 go_simp
 go_at_call 41; (with_reducible refine (C3.out _ hBw).mono ?_); rintro e wa10 ⟨B17, m17, d17, rfl, hw17, hb, _⟩; have hBw := zab hBw hb; have hw16 := hw16.below hb; refine hK.out _ _ (Cs.below hHeld hb) (fun hHeld => ?_); clear hK K hb
 try simp only [sb]
 refine rc 13 (fun K hK => ?_)
 go_simp
 go_at_call 39; (with_reducible refine (C4.out _ hBw _ _ _ hw16 _ _ _ hw17).mono ?_); rintro e wa11 ⟨b18, B18, m18, d18, E18, u18, v18, rfl, hw18, hb⟩; have hBw := zab hBw hb; have hw16 := hw16.below hb; have hw17 := hw17.below hb; refine hK.out _ _ (Cs.below hHeld hb) (fun hHeld => ?_); clear hK K hb
 try simp only [sb]
 obtain ⟨sc0, sf0, sc1, sf1, sc2, sf2⟩ := st3 (zac hBw k3) (.bool b18) (.slice B18 m18 d18)
 refine rc 14 (fun K hK => ?_)
 go_simp
 refine hK.out _ _ (cs3 (.bool b18) (.slice B18 m18 d18) (.slice E18 u18 v18) hHeld) (fun hHeld => ?_); clear hK K
 try simp only [sb]
 refine rdn ?_
 have hB := zab hB hBw
 have g1 := zaa hBw g1
 have e1 := zaa hBw e1
 have i1 := zaa hBw i1
 have g2 := zaa hBw g2
 have e2 := zaa hBw e2
 have i2 := zaa hBw i2
 have k3 := zac hBw k3
 have g8 := zaa hBw g8
 have g9 := zaa hBw g9
 have HN4 := Lib.hid (HN4.out.below hBw)
 have HN5 := Lib.hid (HN5.out.below hBw)
 have HN6 := Lib.hid (HN6.out.below hBw)
 have HN7 := Lib.hid (HN7.out.below hBw)
 have g14 := zaa hBw g14
 have g15 := zaa hBw g15
 have HN10 := Lib.hid (HN10.out.below hBw)
 have HN11 := Lib.hid (HN11.out.below hBw)
 have HN12 := Lib.hid (HN12.out.below hBw)
 have HN13 := Lib.hid (HN13.out.below hBw)
 have HN16 := Lib.hid hw16
 have HN17 := Lib.hid hw17
 have HN18 := Lib.hid hw18
 clear hBw hHeld hw16 hw17 hw18 C0 C1 C2 C3 C4
 obtain ⟨r0, r1, r2⟩ := (sn3 k3 (.bool b18) (.slice B18 m18 d18) (.slice E18 u18 v18)).c3
 have HG := Lib.hid (gq3 (HN18.out) k3 hB (by omega))
 go_wp2
 refine bodyPost_ret (v := .agg #[.bool b18, .slice B18 m18 d18, .slice E18 u18 v18]) (by simp [results, Tryd.results9, go_sem, r0, r1, r2]) rfl ?_
 exact HG.out
set_option maxHeartbeats 16000000 in
theorem zjj (r : Rat) (s : Rat) (baa : Bool) (Baa : Option Addr) (maa daa : Nat) (Eaa : Option Addr) (uaa vaa : Nat) (bab : Bool) (Bab : Option Addr) (mab dab : Nat) (Eab : Option Addr) (uab vab : Nat) (w : World) (hT : zan w) (haa : zal w r baa Baa maa daa Eaa uaa vaa) (hab : zal w s bab Bab mab dab Eab uab vab) (qaa : zaG maa uaa) (qab : zaG mab uab) (h1 : r ≠ 0) (h2 : s ≠ 0) (h3 : r.den = 1) (h4 : s.den ≠ 1) :
  Calls Tryd.prog 9 #[.agg #[.bool baa, .slice Baa maa daa, .slice Eaa uaa vaa], .agg #[.bool bab, .slice Bab mab dab, .slice Eab uab vab]] w (zaQ w (r * s)) := by
 have HIC := Lib.hid (intC (T := zan))
 have HGC := Lib.hid gcdC
 have HT := Lib.hid (fun w' (hb : Below w.heap.size w w') => hT.on hb)
 have HTB := HT
 obtain ⟨K, hKe⟩ : ∃ K, 67108864 = K := ⟨_, rfl⟩
 have hKK : K ≤ 67108864 := by omega
 have hK0 : 0 < K := by omega
 have HMP := Lib.hid (zfM r s)
 obtain ⟨sr, hsr⟩ : ∃ s, decide (r.num < 0) = s := ⟨_, rfl⟩
 obtain ⟨ss, hss⟩ : ∃ q, decide (s.num < 0) = q := ⟨_, rfl⟩
 rw [hsr, hss] at HMP
 have HSR := Lib.hid hsr
 have HSS := Lib.hid hss
 clear hsr hss
 have H1 := Lib.hid h1
 have H2 := Lib.hid h2
 have H3 := Lib.hid h3
 have H4 := Lib.hid h4
 have HNaa := Lib.hid (fun w' (b : Below w.heap.size w w') => haa.below b)
 obtain ⟨xaa, hxaa, hxwaa⟩ := haa.2
 have HXaa := Lib.hid hxaa
 have HZaa : Hid (SzQ K r) := zaB haa qaa hKe
 have HZaap : Hid (Sz K r.num.natAbs) := HZaa.out.num
 have HZaaq : Hid (Sz K xaa) := zao HZaa.out.den hxaa
 have HNaap := Lib.hid (fun w' (b : Below w.heap.size w w') => haa.1.below b)
 have HNaaq := Lib.hid (fun w' (b : Below w.heap.size w w') => hxwaa.below b)
 clear haa qaa hxaa hxwaa
 have HNab := Lib.hid (fun w' (b : Below w.heap.size w w') => hab.below b)
 obtain ⟨xab, hxab, hxwab⟩ := hab.2
 have HXab := Lib.hid hxab
 have HZab : Hid (SzQ K s) := zaB hab qab hKe
 have HZabp : Hid (Sz K s.num.natAbs) := HZab.out.num
 have HZabq : Hid (Sz K xab) := zao HZab.out.den hxab
 have HNabp := Lib.hid (fun w' (b : Below w.heap.size w w') => hab.1.below b)
 have HNabq := Lib.hid (fun w' (b : Below w.heap.size w w') => hxwab.below b)
 clear hab qab hxab hxwab
 clear hT hKe h1 h2 h3 h4
 go_enter Tryd.func9, Tryd.ntmps9
 have hB := Below.refl w.heap.size w
 obtain ⟨bx1, bx2, bx3, bx4, bz⟩ := zbd w 33 33 33 #[.bool baa, .slice Baa maa daa, .slice Eaa uaa vaa] #[.bool bab, .slice Bab mab dab, .slice Eab uab vab] #[.bool false, .slice none 0 0, .slice none 0 0]
 have hB := zab hB bx1
 obtain ⟨g1, e1, i1⟩ := bx2.c3
 obtain ⟨g2, e2, i2⟩ := bx3.c3
 have k3 := bx4
 clear bx1 bx2 bx3 bx4 bz
 go_wp2_with fail
 generalize ((w.alloc (.cells #[.bool baa, .slice Baa maa daa, .slice Eaa uaa vaa] 33)).alloc (.cells #[.bool bab, .slice Bab mab dab, .slice Eab uab vab] 33)).alloc (.cells #[.bool false, .slice none 0 0, .slice none 0 0] 33) = W1 at *
 (with_reducible refine (zas (decide_eq_false H1.out) (zaK (r) baa Baa maa daa Eaa uaa vaa _ (HT.out _ hB) (HNaa.out _ hB) (SzQ.fit HZaa.out (HNaa.out _ hB) (by omega)))).mono ?_)
 rintro e wc2 ⟨rfl, hb⟩
 have hB := zab hB hb
 have g1 := zaa hb g1
 have e1 := zaa hb e1
 have i1 := zaa hb i1
 have g2 := zaa hb g2
 have e2 := zaa hb e2
 have i2 := zaa hb i2
 have k3 := zac hb k3
 clear hb 
 go_wp2_with fail
 (with_reducible refine (zas (decide_eq_false H2.out) (zaK (s) bab Bab mab dab Eab uab vab _ (HT.out _ hB) (HNab.out _ hB) (SzQ.fit HZab.out (HNab.out _ hB) (by omega)))).mono ?_)
 rintro e wc3 ⟨rfl, hb⟩
 have hB := zab hB hb
 have g1 := zaa hb g1
 have e1 := zaa hb e1
 have i1 := zaa hb i1
 have g2 := zaa hb g2
 have e2 := zaa hb e2
 have i2 := zaa hb i2
 have k3 := zac hb k3
 clear hb 
 go_wp2_with fail
 (with_reducible refine (zas (decide_eq_true H3.out) (zaV (r) baa Baa maa daa Eaa uaa vaa _ (HT.out _ hB) (HNaa.out _ hB) (SzQ.fit HZaa.out (HNaa.out _ hB) (by omega)))).mono ?_)
 rintro e wc4 ⟨rfl, hb⟩
 have hB := zab hB hb
 have g1 := zaa hb g1
 have e1 := zaa hb e1
 have i1 := zaa hb i1
 have g2 := zaa hb g2
 have e2 := zaa hb e2
 have i2 := zaa hb i2
 have k3 := zac hb k3
 clear hb 
 go_wp2_with fail
 (with_reducible refine (zas (decide_eq_false H4.out) (zaV (s) bab Bab mab dab Eab uab vab _ (HT.out _ hB) (HNab.out _ hB) (SzQ.fit HZab.out (HNab.out _ hB) (by omega)))).mono ?_)
 rintro e wc5 ⟨rfl, hb⟩
 have hB := zab hB hb
 have g1 := zaa hb g1
 have e1 := zaa hb e1
 have i1 := zaa hb i1
 have g2 := zaa hb g2
 have e2 := zaa hb e2
 have i2 := zaa hb i2
 have k3 := zac hb k3
 clear hb 
 go_wp2_with fail
 have HZ4 : Hid (Sz (K) (r.num.natAbs)) := HZaap.out
 have C0 := Lib.hid (fun w' (h : Below wc5.heap.size wc5 w') => HIC.out.abs (r.num) baa Baa maa daa w' (HT.out _ (zab hB h)) (HNaap.out _ (zab hB h)) (by have := Sz.words HZaap.out (HNaap.out _ hB).words; omega))
 have HZ5 : Hid (Sz (K) (s.den)) := SzQ.den HZab.out
 have C1 := Lib.hid (fun w' (h : Below wc5.heap.size wc5 w') => zaZ (s) bab Bab mab dab Eab uab vab w' (HT.out _ (zab hB h)) (HNab.out _ (zab hB h)) (SzQ.fit HZab.out (HNab.out _ hB) (by omega)))
 have HZ6 : Hid (Sz (K) (r.num.natAbs / Nat.gcd r.num.natAbs s.den)) := Sz.of_le HZ4.out (Nat.div_le_self _ _)
 have HZ7 : Hid (Sz (K) (s.den / Nat.gcd r.num.natAbs s.den)) := Sz.of_le HZ5.out (Nat.div_le_self _ _)
 have C2 := Lib.hid (fun w' (h : Below wc5.heap.size wc5 w') B4 m4 d4 (hw4 : zae w' (r.num.natAbs) B4 m4 d4) B5 m5 d5 (hw5 : zae w' (s.den) B5 m5 d5) => HGC.out.reduce (r.num.natAbs) (s.den) B4 B5 m4 m5 d4 d5 w' hw4 hw5 (by have := Sz.words HZ4.out hw4; omega) (by have := Sz.words HZ5.out hw5; omega) (HTB.out _ (zab hB h)))
 have lt3_m5 := k3.lt
 have GG := Lib.hid (fun w' (h : Below wc5.heap.size wc5 w') => (csc (zaa h g1) (csc (zaa h e1) (csc (zaa h i1) (csc (zaa h g2) (csc (zaa h e2) (csc (zaa h i2) csn)))))))
 refine rgB (fun hHeld => ?_)
 refine tl 0 GG.out ?_
 try simp only [sb]
 refine tl 1 GG.out ?_
 try simp only [sb]
 refine tl 3 GG.out ?_
 try simp only [sb]
 refine zaH (L := #[true, true, true, true, true, true, true, true, true, true, true, true, true])
  (J := fun a0 l a w' => ∃ (fl2 fl4 fl5 fl6 fl7 fl8 fl9 fl10 fl11 fl12 : Bool) (B4 : Option Addr) (m4 d4 : Nat) (B5 : Option Addr) (m5 d5 : Nat) (B6 : Option Addr) (m6 d6 : Nat) (B7 : Option Addr) (m7 d7 ad9 ad10 : Nat), l = #[true, true, fl2, true, fl4, fl5, fl6, fl7, fl8, fl9, fl10, fl11, fl12] ∧ zbm [32, 34, 35, 29, 36, 37, 5, 6] a0 a ∧ Hid (Below wc5.heap.size wc5 w') ∧
    Hid (Gd fl2 (a.tmps.getD 32 undef = .agg #[.slice B4 m4 d4] ∧ zae w' (r.num.natAbs) B4 m4 d4)) ∧
    Hid (Gd fl4 (a.tmps.getD 34 undef = .agg #[.slice B5 m5 d5] ∧ zae w' (s.den) B5 m5 d5)) ∧
    Hid (Gd fl5 (a.tmps.getD 35 undef = .tuple #[.agg #[.slice B6 m6 d6], .agg #[.slice B7 m7 d7]] ∧ zae w' (r.num.natAbs / Nat.gcd r.num.natAbs s.den) B6 m6 d6 ∧ zae w' (s.den / Nat.gcd r.num.natAbs s.den) B7 m7 d7)) ∧
    Hid (Gd fl6 (a.tmps.getD 29 undef = .tuple #[.agg #[.slice B6 m6 d6], .agg #[.slice B7 m7 d7]])) ∧
    Hid (Gd fl7 (a.tmps.getD 36 undef = .agg #[.slice B6 m6 d6])) ∧
    Hid (Gd fl8 (a.tmps.getD 37 undef = .agg #[.slice B7 m7 d7])) ∧
    Hid (Gd fl9 (a.tmps.getD 5 undef = .pointer (some ⟨ad9, 0, none⟩) ∧ wc5.heap.size ≤ ad9 ∧ Blk w' ad9 29 (bif fl11 then #[.slice B6 m6 d6] else #[.slice none 0 0]))) ∧
    Hid (Gd fl10 (a.tmps.getD 6 undef = .pointer (some ⟨ad10, 0, none⟩) ∧ wc5.heap.size ≤ ad10 ∧ Blk w' ad10 29 (bif fl12 then #[.slice B7 m7 d7] else #[.slice none 0 0]))) ∧
    Hid (Gd fl9 (Gd fl10 (ad9 ≠ ad10))) ∧
    Hid (Gd fl4 (fl2 = true)) ∧
    Hid (Gd fl5 (fl2 = true)) ∧
    Hid (Gd fl5 (fl4 = true)) ∧
    Hid (Gd fl6 (fl5 = true)) ∧
    Hid (Gd fl7 (fl6 = true)) ∧
    Hid (Gd fl8 (fl6 = true)) ∧
    Hid (Gd fl11 (fl5 = true)) ∧
    Hid (Gd fl11 (fl7 = true)) ∧
    Hid (Gd fl11 (fl9 = true)) ∧
    Hid (Gd fl12 (fl8 = true)) ∧
    Hid (Gd fl12 (fl10 = true)) ∧
    Hid (Gd fl12 (fl11 = true)))
  (by rfl) ?_ ?_ ?_
 ·exact ⟨false, false, false, false, false, false, false, false, false, false, none, 0, 0, none, 0, 0, none, 0, 0, none, 0, 0, 0, 0, by kernel_rfl, zbm.refl _ _, hHeld, Gd.no, Gd.no, Gd.no, Gd.no, Gd.no, Gd.no, Gd.no, Gd.no, Gd.no, Gd.no, Gd.no, Gd.no, Gd.no, Gd.no, Gd.no, Gd.no, Gd.no, Gd.no, Gd.no, Gd.no, Gd.no⟩
 ·intro OPS Ac0 Q0 hO hAs hA
  have RB31 : Ac0.tmps.getD 31 undef = .agg #[.bool baa, .slice Baa maa daa] := (hA 31 undef).trans (by kernel_rfl)
  have RB33 : Ac0.tmps.getD 33 undef = .agg #[.bool bab, .slice Bab mab dab, .slice Eab uab vab] := (hA 33 undef).trans (by kernel_rfl)
  have hsz : Ac0.tmps.size = 61 := hAs.trans (by kernel_rfl)
  clear hAs hA
  refine ⟨?_, ?_⟩
  ·rintro l a w' ⟨fl2, fl4, fl5, fl6, fl7, fl8, fl9, fl10, fl11, fl12, B4, m4, d4, B5, m5, d5, B6, m6, d6, B7, m7, d7, ad9, ad10, rfl, -⟩ hr
   obtain rfl : fl2 = true := als 2 hr hO
   obtain rfl : fl4 = true := als 4 hr hO
   obtain rfl : fl5 = true := als 5 hr hO
   obtain rfl : fl6 = true := als 6 hr hO
   obtain rfl : fl7 = true := als 7 hr hO
   obtain rfl : fl8 = true := als 8 hr hO
   obtain rfl : fl9 = true := als 9 hr hO
   obtain rfl : fl10 = true := als 10 hr hO
   obtain rfl : fl11 = true := als 11 hr hO
   obtain rfl : fl12 = true := als 12 hr hO
   rfl
  ·rintro l a w' i ⟨fl2, fl4, fl5, fl6, fl7, fl8, fl9, fl10, fl11, fl12, B4, m4, d4, B5, m5, d5, B6, m6, d6, B7, m7, d7, ad9, ad10, rfl, HKp, hBi, qf2, qf4, qf5, qf6, qf7, qf8, qf9, qf10, qn9_10, qd4_2, qd5_2, qd5_4, qd6_5, qd7_6, qd8_6, qd11_5, qd11_7, qd11_9, qd12_8, qd12_10, qd12_11⟩ hne hi
   have hlt : i < 13 := by have := zbe hi; rw [hO] at this; exact this
   rcases (show i = 0 ∨ i = 1 ∨ i = 2 ∨ i = 3 ∨ i = 4 ∨ i = 5 ∨ i = 6 ∨ i = 7 ∨ i = 8 ∨ i = 9 ∨ i = 10 ∨ i = 11 ∨ i = 12 by omega) with rfl | rfl | rfl | rfl | rfl | rfl | rfl | rfl | rfl | rfl | rfl | rfl | rfl
   ·cases (zaf hi : true = false)
   ·cases (zaf hi : true = false)
   ·obtain rfl : fl2 = false := zaf hi
    obtain rfl : fl4 = false := Gd.off qd4_2.out
    obtain rfl : fl5 = false := Gd.off qd5_2.out
    obtain rfl : fl6 = false := Gd.off qd6_5.out
    obtain rfl : fl7 = false := Gd.off qd7_6.out
    obtain rfl : fl8 = false := Gd.off qd8_6.out
    obtain rfl : fl11 = false := Gd.off qd11_5.out
    obtain rfl : fl12 = false := Gd.off qd12_8.out
    have rd31 := HKp.get 31 (by decide) RB31
    refine wog hO (fun K' hK => ?_)
    go_simp
    refine (C0.out w' hBi.out).mono ?_
    rintro e w2 ⟨nB4, nm4, nd4, rfl, nhw4, hb⟩
    exact hK.out _ _ ⟨zab hBi.out hb, true, false, false, false, false, false, fl9, fl10, false, false, nB4, nm4, nd4, B5, m5, d5, B6, m6, d6, B7, m7, d7, ad9, ad10, by rfl, HKp.put (by decide) _, zab hBi.out hb, Gd.yes ⟨zap (HKp.lt (by rw [hsz]; decide)) _, nhw4⟩, Gd.no, Gd.no, Gd.no, Gd.no, Gd.no, kq qf9.out fun h => ⟨h.1, zac hb h.2⟩, kq qf10.out fun h => ⟨h.1, zac hb h.2⟩, qn9_10, Gd.no, Gd.no, Gd.no, Gd.no, Gd.no, Gd.no, Gd.no, Gd.no, Gd.no, Gd.no, Gd.no, Gd.no⟩
   ·cases (zaf hi : true = false)
   ·obtain rfl : fl4 = false := zaf hi
    obtain rfl : fl2 = true := rdp 2 1 hi hO
    obtain rfl : fl5 = false := Gd.off qd5_4.out
    obtain rfl : fl6 = false := Gd.off qd6_5.out
    obtain rfl : fl7 = false := Gd.off qd7_6.out
    obtain rfl : fl8 = false := Gd.off qd8_6.out
    obtain rfl : fl11 = false := Gd.off qd11_5.out
    obtain rfl : fl12 = false := Gd.off qd12_8.out
    have rd33 := HKp.get 33 (by decide) RB33
    refine wog hO (fun K' hK => ?_)
    go_simp
    refine (C1.out w' hBi.out).mono ?_
    rintro e w2 ⟨nB5, nm5, nd5, rfl, nhw5, hb⟩
    exact hK.out _ _ ⟨zab hBi.out hb, true, true, false, false, false, false, fl9, fl10, false, false, B4, m4, d4, nB5, nm5, nd5, B6, m6, d6, B7, m7, d7, ad9, ad10, by rfl, HKp.put (by decide) _, zab hBi.out hb, kq qf2.out fun h => (h).below hb, Gd.yes ⟨zap (HKp.lt (by rw [hsz]; decide)) _, nhw5⟩, Gd.no, Gd.no, Gd.no, Gd.no, kq qf9.out fun h => ⟨h.1, zac hb h.2⟩, kq qf10.out fun h => ⟨h.1, zac hb h.2⟩, qn9_10, fun _ => rfl, Gd.no, Gd.no, Gd.no, Gd.no, Gd.no, Gd.no, Gd.no, Gd.no, Gd.no, Gd.no, Gd.no⟩
   ·obtain rfl : fl5 = false := zaf hi
    obtain rfl : fl2 = true := rdp 2 0 hi hO
    obtain rfl : fl4 = true := rdp 4 1 hi hO
    obtain rfl : fl6 = false := Gd.off qd6_5.out
    obtain rfl : fl7 = false := Gd.off qd7_6.out
    obtain rfl : fl8 = false := Gd.off qd8_6.out
    obtain rfl : fl11 = false := Gd.off qd11_5.out
    obtain rfl : fl12 = false := Gd.off qd12_8.out
    have rd32 := qf2.out.get.1
    have rd34 := qf4.out.get.1
    have hw4 := qf2.out.get.2
    have hw5 := qf4.out.get.2
    refine wog hO (fun K' hK => ?_)
    go_simp
    refine (C2.out w' hBi.out _ _ _ hw4 _ _ _ hw5).mono ?_
    rintro e w2 ⟨nB6, nm6, nd6, nB7, nm7, nd7, rfl, nhw6, nhw7, hb⟩
    exact hK.out _ _ ⟨zab hBi.out hb, true, true, true, false, false, false, fl9, fl10, false, false, B4, m4, d4, B5, m5, d5, nB6, nm6, nd6, nB7, nm7, nd7, ad9, ad10, by rfl, HKp.put (by decide) _, zab hBi.out hb, kq qf2.out fun h => (h).below hb, kq qf4.out fun h => (h).below hb, Gd.yes ⟨zap (HKp.lt (by rw [hsz]; decide)) _, nhw6, nhw7⟩, Gd.no, Gd.no, Gd.no, kq qf9.out fun h => ⟨h.1, zac hb h.2⟩, kq qf10.out fun h => ⟨h.1, zac hb h.2⟩, qn9_10, fun _ => rfl, fun _ => rfl, fun _ => rfl, Gd.no, Gd.no, Gd.no, Gd.no, Gd.no, Gd.no, Gd.no, Gd.no, Gd.no⟩
   ·obtain rfl : fl6 = false := zaf hi
    obtain rfl : fl5 = true := rdp 5 0 hi hO
    obtain rfl : fl2 = true := qd5_2.out.get
    obtain rfl : fl4 = true := qd5_4.out.get
    obtain rfl : fl7 = false := Gd.off qd7_6.out
    obtain rfl : fl8 = false := Gd.off qd8_6.out
    obtain rfl : fl11 = false := Gd.off qd11_7.out
    obtain rfl : fl12 = false := Gd.off qd12_8.out
    have rd35 := qf5.out.get.1
    refine wog hO (fun K' hK => ?_)
    refine zaW (x := 35) (Or.inl rfl) rd35 ?_
    exact hK.out _ _ ⟨hBi.out, true, true, true, true, false, false, fl9, fl10, false, false, B4, m4, d4, B5, m5, d5, B6, m6, d6, B7, m7, d7, ad9, ad10, by rfl, HKp.put (by decide) _, hBi.out, kq qf2.out fun h => (h), kq qf4.out fun h => (h), kq qf5.out fun h => ⟨(h.1), (h.2)⟩, Gd.yes (zap (HKp.lt (by rw [hsz]; decide)) _), Gd.no, Gd.no, kq qf9.out id, kq qf10.out id, qn9_10, fun _ => rfl, fun _ => rfl, fun _ => rfl, fun _ => rfl, Gd.no, Gd.no, Gd.no, Gd.no, Gd.no, Gd.no, Gd.no, Gd.no⟩
   ·obtain rfl : fl7 = false := zaf hi
    obtain rfl : fl6 = true := rdp 6 0 hi hO
    obtain rfl : fl5 = true := qd6_5.out.get
    obtain rfl : fl2 = true := qd5_2.out.get
    obtain rfl : fl4 = true := qd5_4.out.get
    obtain rfl : fl11 = false := Gd.off qd11_7.out
    obtain rfl : fl12 = false := Gd.off qd12_11.out
    have rd29 := qf6.out.get
    refine wog hO (fun K' hK => ?_)
    refine zax (x := 29) (k := 0) rfl rd29 rfl ?_
    exact hK.out _ _ ⟨hBi.out, true, true, true, true, true, fl8, fl9, fl10, false, false, B4, m4, d4, B5, m5, d5, B6, m6, d6, B7, m7, d7, ad9, ad10, by rfl, HKp.put (by decide) _, hBi.out, kq qf2.out fun h => (h), kq qf4.out fun h => (h), kq qf5.out fun h => ⟨(h.1), (h.2)⟩, kq0 qf6.out, Gd.yes (zap (HKp.lt (by rw [hsz]; decide)) _), kq0 qf8.out, kq qf9.out id, kq qf10.out id, qn9_10, fun _ => rfl, fun _ => rfl, fun _ => rfl, fun _ => rfl, fun _ => rfl, fun _ => rfl, Gd.no, Gd.no, Gd.no, Gd.no, Gd.no, Gd.no⟩
   ·obtain rfl : fl8 = false := zaf hi
    obtain rfl : fl6 = true := rdp 6 0 hi hO
    obtain rfl : fl5 = true := qd6_5.out.get
    obtain rfl : fl2 = true := qd5_2.out.get
    obtain rfl : fl4 = true := qd5_4.out.get
    obtain rfl : fl12 = false := Gd.off qd12_8.out
    have rd29 := qf6.out.get
    refine wog hO (fun K' hK => ?_)
    refine zax (x := 29) (k := 1) rfl rd29 rfl ?_
    exact hK.out _ _ ⟨hBi.out, true, true, true, true, fl7, true, fl9, fl10, fl11, false, B4, m4, d4, B5, m5, d5, B6, m6, d6, B7, m7, d7, ad9, ad10, by rfl, HKp.put (by decide) _, hBi.out, kq qf2.out fun h => (h), kq qf4.out fun h => (h), kq qf5.out fun h => ⟨(h.1), (h.2)⟩, kq0 qf6.out, kq0 qf7.out, Gd.yes (zap (HKp.lt (by rw [hsz]; decide)) _), kq qf9.out id, kq qf10.out id, qn9_10, fun _ => rfl, fun _ => rfl, fun _ => rfl, fun _ => rfl, fun _ => rfl, fun _ => rfl, fun _ => rfl, qd11_7, qd11_9, Gd.no, Gd.no, Gd.no⟩
   ·obtain rfl : fl9 = false := zaf hi
    obtain rfl : fl11 = false := Gd.off qd11_9.out
    obtain rfl : fl12 = false := Gd.off qd12_11.out
    refine wog hO (fun K' hK => ?_)
    go_simp
    have hb := zaz w' (.cells #[.slice none 0 0] 29)
    exact hK.out _ _ ⟨zab hBi.out hb, fl2, fl4, fl5, fl6, fl7, fl8, true, fl10, false, false, B4, m4, d4, B5, m5, d5, B6, m6, d6, B7, m7, d7, w'.heap.size, ad10, by rfl, HKp.put (by decide) _, zab hBi.out hb, kq qf2.out fun h => (h).below hb, kq qf4.out fun h => (h).below hb, kq qf5.out fun h => ⟨(h.1).below hb, (h.2).below hb⟩, kq0 qf6.out, kq0 qf7.out, kq0 qf8.out, Gd.yes ⟨zap (HKp.lt (by rw [hsz]; decide)) _, hBi.out.size, Blk.new w' _ _⟩, kq qf10.out fun h => ⟨h.1, zac hb h.2⟩, Gd.yes (qf10.out.mono fun h => by have := Blk.lt h.2.2; omega), qd4_2, qd5_2, qd5_4, qd6_5, qd7_6, qd8_6, Gd.no, Gd.no, Gd.no, Gd.no, Gd.no, Gd.no⟩
   ·obtain rfl : fl10 = false := zaf hi
    obtain rfl : fl12 = false := Gd.off qd12_10.out
    refine wog hO (fun K' hK => ?_)
    go_simp
    have hb := zaz w' (.cells #[.slice none 0 0] 29)
    exact hK.out _ _ ⟨zab hBi.out hb, fl2, fl4, fl5, fl6, fl7, fl8, fl9, true, fl11, false, B4, m4, d4, B5, m5, d5, B6, m6, d6, B7, m7, d7, ad9, w'.heap.size, by rfl, HKp.put (by decide) _, zab hBi.out hb, kq qf2.out fun h => (h).below hb, kq qf4.out fun h => (h).below hb, kq qf5.out fun h => ⟨(h.1).below hb, (h.2).below hb⟩, kq0 qf6.out, kq0 qf7.out, kq0 qf8.out, kq qf9.out fun h => ⟨h.1, zac hb h.2⟩, Gd.yes ⟨zap (HKp.lt (by rw [hsz]; decide)) _, hBi.out.size, Blk.new w' _ _⟩, qf9.out.mono fun h => Gd.yes (by have := Blk.lt h.2.2; omega), qd4_2, qd5_2, qd5_4, qd6_5, qd7_6, qd8_6, qd11_5, qd11_7, qd11_9, Gd.no, Gd.no, Gd.no⟩
   ·obtain rfl : fl11 = false := zaf hi
    obtain rfl : fl2 = true := rdp 2 5 hi hO
    obtain rfl : fl4 = true := rdp 4 7 hi hO
    obtain rfl : fl5 = true := rdp 5 2 hi hO
    obtain rfl : fl6 = true := rdp 6 9 hi hO
    obtain rfl : fl7 = true := rdp 7 1 hi hO
    obtain rfl : fl9 = true := rdp 9 0 hi hO
    obtain rfl : fl10 = true := rdp 10 13 hi hO
    obtain rfl : fl12 = false := Gd.off qd12_11.out
    have rd5 := qf9.out.get.1
    have rd36 := qf7.out.get
    obtain ⟨_, hg, hk⟩ := qf9.out.get
    have hk : Blk w' ad9 29 #[.slice none 0 0] := hk
    obtain ⟨sc0, sf0⟩ := st1 hk
    have hj0 := sn1 hk (.slice B6 m6 d6)
    have hBn := bl1 (.slice B6 m6 d6) hg hBi.out
    refine wog hO (fun K' hK => ?_)
    go_simp
    exact hK.out _ _ ⟨hBn, true, true, true, true, true, fl8, true, true, true, false, B4, m4, d4, B5, m5, d5, B6, m6, d6, B7, m7, d7, ad9, ad10, by rfl, HKp, hBn, qf2.out.mono fun h => ⟨h.1, zaj (h.2) hk zaR (zaN _ _ _)⟩, qf4.out.mono fun h => ⟨h.1, zaj (h.2) hk zaR (zaN _ _ _)⟩, qf5.out.mono fun h => ⟨h.1, zaj (h.2.1) hk zaR (zaN _ _ _), zaj (h.2.2) hk zaR (zaN _ _ _)⟩, qf6.out.mono fun h => h, qf7.out.mono fun h => h, qf8.out.mono fun h => h, qf9.out.mono fun h => ⟨h.1, h.2.1, hj0⟩, fun hf9 => (fun h => ⟨h.1, h.2.1, Blk.far (p := ⟨ad9, 0, none⟩) (h.2.2) (Ne.symm (qn9_10.out rfl hf9)) (.slice B6 m6 d6)⟩) (qf10.out hf9), qn9_10, fun _ => rfl, fun _ => rfl, fun _ => rfl, fun _ => rfl, fun _ => rfl, fun _ => rfl, fun _ => rfl, fun _ => rfl, fun _ => rfl, Gd.no, Gd.no, Gd.no⟩
   ·obtain rfl : fl12 = false := zaf hi
    obtain rfl : fl2 = true := rdp 2 5 hi hO
    obtain rfl : fl4 = true := rdp 4 7 hi hO
    obtain rfl : fl5 = true := rdp 5 8 hi hO
    obtain rfl : fl6 = true := rdp 6 9 hi hO
    obtain rfl : fl7 = true := rdp 7 10 hi hO
    obtain rfl : fl8 = true := rdp 8 1 hi hO
    obtain rfl : fl9 = true := rdp 9 12 hi hO
    obtain rfl : fl10 = true := rdp 10 0 hi hO
    obtain rfl : fl11 = true := rdp 11 2 hi hO
    have rd6 := qf10.out.get.1
    have rd37 := qf8.out.get
    obtain ⟨_, hg, hk⟩ := qf10.out.get
    have hk : Blk w' ad10 29 #[.slice none 0 0] := hk
    obtain ⟨sc0, sf0⟩ := st1 hk
    have hj0 := sn1 hk (.slice B7 m7 d7)
    have hBn := bl1 (.slice B7 m7 d7) hg hBi.out
    refine wog hO (fun K' hK => ?_)
    go_simp
    exact hK.out _ _ ⟨hBn, true, true, true, true, true, true, true, true, true, true, B4, m4, d4, B5, m5, d5, B6, m6, d6, B7, m7, d7, ad9, ad10, by rfl, HKp, hBn, qf2.out.mono fun h => ⟨h.1, zaj (h.2) hk zaR (zaN _ _ _)⟩, qf4.out.mono fun h => ⟨h.1, zaj (h.2) hk zaR (zaN _ _ _)⟩, qf5.out.mono fun h => ⟨h.1, zaj (h.2.1) hk zaR (zaN _ _ _), zaj (h.2.2) hk zaR (zaN _ _ _)⟩, qf6.out.mono fun h => h, qf7.out.mono fun h => h, qf8.out.mono fun h => h, fun hf9 => (fun h => ⟨h.1, h.2.1, Blk.far (p := ⟨ad10, 0, none⟩) (h.2.2) (qn9_10.out hf9 rfl) (.slice B7 m7 d7)⟩) (qf9.out hf9), qf10.out.mono fun h => ⟨h.1, h.2.1, hj0⟩, qn9_10, fun _ => rfl, fun _ => rfl, fun _ => rfl, fun _ => rfl, fun _ => rfl, fun _ => rfl, fun _ => rfl, fun _ => rfl, fun _ => rfl, fun _ => rfl, fun _ => rfl, fun _ => rfl⟩
 rintro a wm6 ⟨fl2, fl4, fl5, fl6, fl7, fl8, fl9, fl10, fl11, fl12, B4, m4, d4, B5, m5, d5, B6, m6, d6, B7, m7, d7, ad9, ad10, hl, HKp, hBi, qf2, qf4, qf5, qf6, qf7, qf8, qf9, qf10, qn9_10, qd4_2, qd5_2, qd5_4, qd6_5, qd7_6, qd8_6, qd11_5, qd11_7, qd11_9, qd12_8, qd12_10, qd12_11⟩
 have xx2 : fl2 = true := gdl 2 hl
 subst xx2
 have xx4 : fl4 = true := gdl 4 hl
 subst xx4
 have xx5 : fl5 = true := gdl 5 hl
 subst xx5
 have xx6 : fl6 = true := gdl 6 hl
 subst xx6
 have xx7 : fl7 = true := gdl 7 hl
 subst xx7
 have xx8 : fl8 = true := gdl 8 hl
 subst xx8
 have xx9 : fl9 = true := gdl 9 hl
 subst xx9
 have xx10 : fl10 = true := gdl 10 hl
 subst xx10
 have xx11 : fl11 = true := gdl 11 hl
 subst xx11
 have xx12 : fl12 = true := gdl 12 hl
 subst xx12
 obtain ⟨rv2, hw4⟩ := qf2.out.get
 obtain ⟨rv4, hw5⟩ := qf4.out.get
 obtain ⟨rv5, hw6, hw7⟩ := qf5.out.get
 have rv6 := qf6.out.get
 have rv7 := qf7.out.get
 have rv8 := qf8.out.get
 obtain ⟨rv9, hg9, hk9⟩ := qf9.out.get
 obtain ⟨rv10, hg10, hk10⟩ := qf10.out.get
 obtain rfl := HKp.eq [(32, .agg #[.slice B4 m4 d4]), (34, .agg #[.slice B5 m5 d5]), (35, .tuple #[.agg #[.slice B6 m6 d6], .agg #[.slice B7 m7 d7]]), (29, .tuple #[.agg #[.slice B6 m6 d6], .agg #[.slice B7 m7 d7]]), (36, .agg #[.slice B6 m6 d6]), (37, .agg #[.slice B7 m7 d7]), (5, .pointer (some ⟨ad9, 0, none⟩)), (6, .pointer (some ⟨ad10, 0, none⟩))] rfl (by
  intro p hp
  simp only [List.mem_cons, List.not_mem_nil, or_false] at hp
  rcases hp with rfl | rfl | rfl | rfl | rfl | rfl | rfl | rfl
  ·exact rv2
  ·exact rv4
  ·exact rv5
  ·exact rv6
  ·exact rv7
  ·exact rv8
  ·exact rv9
  ·exact rv10)
 have hBv := hBi.out
 clear hl hBi HKp qf2 qf4 qf5 qf6 qf7 qf8 qf9 qf10 qn9_10 qd4_2 qd5_2 qd5_4 qd6_5 qd7_6 qd8_6 qd11_5 qd11_7 qd11_9 qd12_8 qd12_10 qd12_11 rv2 rv4 rv5 rv6 rv7 rv8 rv9 rv10
 have hk9 : Blk wm6 ad9 29 #[.slice B6 m6 d6] := hk9
 have hk10 : Blk wm6 ad10 29 #[.slice B7 m7 d7] := hk10
 rw [show due #[true, true, true, true, true, true, true, true, true, true, true, true, true] = 0 from rfl]
 simp only [zbj, List.foldl, Act.put, List.setIfInBounds_toArray, List.set_cons_zero, List.set_cons_succ]
 refine wpAnyH_done (by kernel_rfl) ?_ _
 refine NoPanic.normal ?_
 have hB := zab hB hBv
 have g1 := zaa hBv g1
 have e1 := zaa hBv e1
 have i1 := zaa hBv i1
 have g2 := zaa hBv g2
 have e2 := zaa hBv e2
 have i2 := zaa hBv i2
 have k3 := zac hBv k3
 obtain ⟨ad9_8, hga⟩ : ∃ x, x = ad9 := ⟨_, rfl⟩
 subst hga
 have g8 := hk9.c1
 obtain ⟨ad10_9, hga⟩ : ∃ x, x = ad10 := ⟨_, rfl⟩
 subst hga
 have g9 := hk10.c1
 have HN4 := Lib.hid hw4
 have HN5 := Lib.hid hw5
 have HN6 := Lib.hid hw6
 have HN7 := Lib.hid hw7
 clear hBv hk9 hk10 hw4 hw5 hw6 hw7 GG
 clear C0 C1 C2
 go_wp2_with fail
 have HZ10 : Hid (Sz (K) (s.num.natAbs)) := HZabp.out
 have C0 := Lib.hid (fun w' (h : Below wm6.heap.size wm6 w') => HIC.out.abs (s.num) bab Bab mab dab w' (HT.out _ (zab hB h)) (HNabp.out _ (zab hB h)) (by have := Sz.words HZabp.out (HNabp.out _ hB).words; omega))
 have HZ11 : Hid (Sz (K) (r.den)) := SzQ.den HZaa.out
 have C1 := Lib.hid (fun w' (h : Below wm6.heap.size wm6 w') => zaZ (r) baa Baa maa daa Eaa uaa vaa w' (HT.out _ (zab hB h)) (HNaa.out _ (zab hB h)) (SzQ.fit HZaa.out (HNaa.out _ hB) (by omega)))
 have HZ12 : Hid (Sz (K) (s.num.natAbs / Nat.gcd s.num.natAbs r.den)) := Sz.of_le HZ10.out (Nat.div_le_self _ _)
 have HZ13 : Hid (Sz (K) (r.den / Nat.gcd s.num.natAbs r.den)) := Sz.of_le HZ11.out (Nat.div_le_self _ _)
 have C2 := Lib.hid (fun w' (h : Below wm6.heap.size wm6 w') B10 m10 d10 (hw10 : zae w' (s.num.natAbs) B10 m10 d10) B11 m11 d11 (hw11 : zae w' (r.den) B11 m11 d11) => HGC.out.reduce (s.num.natAbs) (r.den) B10 B11 m10 m11 d10 d11 w' hw10 hw11 (by have := Sz.words HZ10.out hw10; omega) (by have := Sz.words HZ11.out hw11; omega) (HTB.out _ (zab hB h)))
 have lt3_m6 := k3.lt
 have GG := Lib.hid (fun w' (h : Below wm6.heap.size wm6 w') => (csc (zaa h g2) (csc (zaa h e2) (csc (zaa h i2) (csc (zaa h g1) (csc (zaa h e1) (csc (zaa h i1) csn)))))))
 refine rgB (fun hHeld => ?_)
 refine tl 0 GG.out ?_
 try simp only [sb]
 refine tl 1 GG.out ?_
 try simp only [sb]
 refine tl 3 GG.out ?_
 try simp only [sb]
 refine zaH (L := #[true, true, true, true, true, true, true, true, true, true, true, true, true])
  (J := fun a0 l a w' => ∃ (fl2 fl4 fl5 fl6 fl7 fl8 fl9 fl10 fl11 fl12 : Bool) (B10 : Option Addr) (m10 d10 : Nat) (B11 : Option Addr) (m11 d11 : Nat) (B12 : Option Addr) (m12 d12 : Nat) (B13 : Option Addr) (m13 d13 ad9 ad10 : Nat), l = #[true, true, fl2, true, fl4, fl5, fl6, fl7, fl8, fl9, fl10, fl11, fl12] ∧ zbm [41, 43, 44, 38, 45, 46, 7, 8] a0 a ∧ Hid (Below wm6.heap.size wm6 w') ∧
    Hid (Gd fl2 (a.tmps.getD 41 undef = .agg #[.slice B10 m10 d10] ∧ zae w' (s.num.natAbs) B10 m10 d10)) ∧
    Hid (Gd fl4 (a.tmps.getD 43 undef = .agg #[.slice B11 m11 d11] ∧ zae w' (r.den) B11 m11 d11)) ∧
    Hid (Gd fl5 (a.tmps.getD 44 undef = .tuple #[.agg #[.slice B12 m12 d12], .agg #[.slice B13 m13 d13]] ∧ zae w' (s.num.natAbs / Nat.gcd s.num.natAbs r.den) B12 m12 d12 ∧ zae w' (r.den / Nat.gcd s.num.natAbs r.den) B13 m13 d13)) ∧
    Hid (Gd fl6 (a.tmps.getD 38 undef = .tuple #[.agg #[.slice B12 m12 d12], .agg #[.slice B13 m13 d13]])) ∧
    Hid (Gd fl7 (a.tmps.getD 45 undef = .agg #[.slice B12 m12 d12])) ∧
    Hid (Gd fl8 (a.tmps.getD 46 undef = .agg #[.slice B13 m13 d13])) ∧
    Hid (Gd fl9 (a.tmps.getD 7 undef = .pointer (some ⟨ad9, 0, none⟩) ∧ wm6.heap.size ≤ ad9 ∧ Blk w' ad9 29 (bif fl11 then #[.slice B12 m12 d12] else #[.slice none 0 0]))) ∧
    Hid (Gd fl10 (a.tmps.getD 8 undef = .pointer (some ⟨ad10, 0, none⟩) ∧ wm6.heap.size ≤ ad10 ∧ Blk w' ad10 29 (bif fl12 then #[.slice B13 m13 d13] else #[.slice none 0 0]))) ∧
    Hid (Gd fl9 (Gd fl10 (ad9 ≠ ad10))) ∧
    Hid (Gd fl4 (fl2 = true)) ∧
    Hid (Gd fl5 (fl2 = true)) ∧
    Hid (Gd fl5 (fl4 = true)) ∧
    Hid (Gd fl6 (fl5 = true)) ∧
    Hid (Gd fl7 (fl6 = true)) ∧
    Hid (Gd fl8 (fl6 = true)) ∧
    Hid (Gd fl11 (fl5 = true)) ∧
    Hid (Gd fl11 (fl7 = true)) ∧
    Hid (Gd fl11 (fl9 = true)) ∧
    Hid (Gd fl12 (fl8 = true)) ∧
    Hid (Gd fl12 (fl10 = true)) ∧
    Hid (Gd fl12 (fl11 = true)))
  (by rfl) ?_ ?_ ?_
 ·exact ⟨false, false, false, false, false, false, false, false, false, false, none, 0, 0, none, 0, 0, none, 0, 0, none, 0, 0, 0, 0, by kernel_rfl, zbm.refl _ _, hHeld, Gd.no, Gd.no, Gd.no, Gd.no, Gd.no, Gd.no, Gd.no, Gd.no, Gd.no, Gd.no, Gd.no, Gd.no, Gd.no, Gd.no, Gd.no, Gd.no, Gd.no, Gd.no, Gd.no, Gd.no, Gd.no⟩
 ·intro OPS Ac0 Q0 hO hAs hA
  have RB40 : Ac0.tmps.getD 40 undef = .agg #[.bool bab, .slice Bab mab dab] := (hA 40 undef).trans (by kernel_rfl)
  have RB42 : Ac0.tmps.getD 42 undef = .agg #[.bool baa, .slice Baa maa daa, .slice Eaa uaa vaa] := (hA 42 undef).trans (by kernel_rfl)
  have hsz : Ac0.tmps.size = 61 := hAs.trans (by kernel_rfl)
  clear hAs hA
  refine ⟨?_, ?_⟩
  ·rintro l a w' ⟨fl2, fl4, fl5, fl6, fl7, fl8, fl9, fl10, fl11, fl12, B10, m10, d10, B11, m11, d11, B12, m12, d12, B13, m13, d13, ad9, ad10, rfl, -⟩ hr
   obtain rfl : fl2 = true := als 2 hr hO
   obtain rfl : fl4 = true := als 4 hr hO
   obtain rfl : fl5 = true := als 5 hr hO
   obtain rfl : fl6 = true := als 6 hr hO
   obtain rfl : fl7 = true := als 7 hr hO
   obtain rfl : fl8 = true := als 8 hr hO
   obtain rfl : fl9 = true := als 9 hr hO
   obtain rfl : fl10 = true := als 10 hr hO
   obtain rfl : fl11 = true := als 11 hr hO
   obtain rfl : fl12 = true := als 12 hr hO
   rfl
  ·rintro l a w' i ⟨fl2, fl4, fl5, fl6, fl7, fl8, fl9, fl10, fl11, fl12, B10, m10, d10, B11, m11, d11, B12, m12, d12, B13, m13, d13, ad9, ad10, rfl, HKp, hBi, qf2, qf4, qf5, qf6, qf7, qf8, qf9, qf10, qn9_10, qd4_2, qd5_2, qd5_4, qd6_5, qd7_6, qd8_6, qd11_5, qd11_7, qd11_9, qd12_8, qd12_10, qd12_11⟩ hne hi
   have hlt : i < 13 := by have := zbe hi; rw [hO] at this; exact this
   rcases (show i = 0 ∨ i = 1 ∨ i = 2 ∨ i = 3 ∨ i = 4 ∨ i = 5 ∨ i = 6 ∨ i = 7 ∨ i = 8 ∨ i = 9 ∨ i = 10 ∨ i = 11 ∨ i = 12 by omega) with rfl | rfl | rfl | rfl | rfl | rfl | rfl | rfl | rfl | rfl | rfl | rfl | rfl
   ·cases (zaf hi : true = false)
   ·cases (zaf hi : true = false)
   ·obtain rfl : fl2 = false := zaf hi
    obtain rfl : fl4 = false := Gd.off qd4_2.out
    obtain rfl : fl5 = false := Gd.off qd5_2.out
    obtain rfl : fl6 = false := Gd.off qd6_5.out
    obtain rfl : fl7 = false := Gd.off qd7_6.out
    obtain rfl : fl8 = false := Gd.off qd8_6.out
    obtain rfl : fl11 = false := Gd.off qd11_5.out
    obtain rfl : fl12 = false := Gd.off qd12_8.out
    have rd40 := HKp.get 40 (by decide) RB40
    refine wog hO (fun K' hK => ?_)
    go_simp
    refine (C0.out w' hBi.out).mono ?_
    rintro e w2 ⟨nB10, nm10, nd10, rfl, nhw10, hb⟩
    exact hK.out _ _ ⟨zab hBi.out hb, true, false, false, false, false, false, fl9, fl10, false, false, nB10, nm10, nd10, B11, m11, d11, B12, m12, d12, B13, m13, d13, ad9, ad10, by rfl, HKp.put (by decide) _, zab hBi.out hb, Gd.yes ⟨zap (HKp.lt (by rw [hsz]; decide)) _, nhw10⟩, Gd.no, Gd.no, Gd.no, Gd.no, Gd.no, kq qf9.out fun h => ⟨h.1, zac hb h.2⟩, kq qf10.out fun h => ⟨h.1, zac hb h.2⟩, qn9_10, Gd.no, Gd.no, Gd.no, Gd.no, Gd.no, Gd.no, Gd.no, Gd.no, Gd.no, Gd.no, Gd.no, Gd.no⟩
   ·cases (zaf hi : true = false)
   ·obtain rfl : fl4 = false := zaf hi
    obtain rfl : fl2 = true := rdp 2 1 hi hO
    obtain rfl : fl5 = false := Gd.off qd5_4.out
    obtain rfl : fl6 = false := Gd.off qd6_5.out
    obtain rfl : fl7 = false := Gd.off qd7_6.out
    obtain rfl : fl8 = false := Gd.off qd8_6.out
    obtain rfl : fl11 = false := Gd.off qd11_5.out
    obtain rfl : fl12 = false := Gd.off qd12_8.out
    have rd42 := HKp.get 42 (by decide) RB42
    refine wog hO (fun K' hK => ?_)
    go_simp
    refine (C1.out w' hBi.out).mono ?_
    rintro e w2 ⟨nB11, nm11, nd11, rfl, nhw11, hb⟩
    exact hK.out _ _ ⟨zab hBi.out hb, true, true, false, false, false, false, fl9, fl10, false, false, B10, m10, d10, nB11, nm11, nd11, B12, m12, d12, B13, m13, d13, ad9, ad10, by rfl, HKp.put (by decide) _, zab hBi.out hb, kq qf2.out fun h => (h).below hb, Gd.yes ⟨zap (HKp.lt (by rw [hsz]; decide)) _, nhw11⟩, Gd.no, Gd.no, Gd.no, Gd.no, kq qf9.out fun h => ⟨h.1, zac hb h.2⟩, kq qf10.out fun h => ⟨h.1, zac hb h.2⟩, qn9_10, fun _ => rfl, Gd.no, Gd.no, Gd.no, Gd.no, Gd.no, Gd.no, Gd.no, Gd.no, Gd.no, Gd.no, Gd.no⟩
   ·obtain rfl : fl5 = false := zaf hi
    obtain rfl : fl2 = true := rdp 2 0 hi hO
    obtain rfl : fl4 = true := rdp 4 1 hi hO
    obtain rfl : fl6 = false := Gd.off qd6_5.out
    obtain rfl : fl7 = false := Gd.off qd7_6.out
    obtain rfl : fl8 = false := Gd.off qd8_6.out
    obtain rfl : fl11 = false := Gd.off qd11_5.out
    obtain rfl : fl12 = false := Gd.off qd12_8.out
    have rd41 := qf2.out.get.1
    have rd43 := qf4.out.get.1
    have hw10 := qf2.out.get.2
    have hw11 := qf4.out.get.2
    refine wog hO (fun K' hK => ?_)
    go_simp
    refine (C2.out w' hBi.out _ _ _ hw10 _ _ _ hw11).mono ?_
    rintro e w2 ⟨nB12, nm12, nd12, nB13, nm13, nd13, rfl, nhw12, nhw13, hb⟩
    exact hK.out _ _ ⟨zab hBi.out hb, true, true, true, false, false, false, fl9, fl10, false, false, B10, m10, d10, B11, m11, d11, nB12, nm12, nd12, nB13, nm13, nd13, ad9, ad10, by rfl, HKp.put (by decide) _, zab hBi.out hb, kq qf2.out fun h => (h).below hb, kq qf4.out fun h => (h).below hb, Gd.yes ⟨zap (HKp.lt (by rw [hsz]; decide)) _, nhw12, nhw13⟩, Gd.no, Gd.no, Gd.no, kq qf9.out fun h => ⟨h.1, zac hb h.2⟩, kq qf10.out fun h => ⟨h.1, zac hb h.2⟩, qn9_10, fun _ => rfl, fun _ => rfl, fun _ => rfl, Gd.no, Gd.no, Gd.no, Gd.no, Gd.no, Gd.no, Gd.no, Gd.no, Gd.no⟩
   ·obtain rfl : fl6 = false := zaf hi
    obtain rfl : fl5 = true := rdp 5 0 hi hO
    obtain rfl : fl2 = true := qd5_2.out.get
    obtain rfl : fl4 = true := qd5_4.out.get
    obtain rfl : fl7 = false := Gd.off qd7_6.out
    obtain rfl : fl8 = false := Gd.off qd8_6.out
    obtain rfl : fl11 = false := Gd.off qd11_7.out
    obtain rfl : fl12 = false := Gd.off qd12_8.out
    have rd44 := qf5.out.get.1
    refine wog hO (fun K' hK => ?_)
    refine zaW (x := 44) (Or.inl rfl) rd44 ?_
    exact hK.out _ _ ⟨hBi.out, true, true, true, true, false, false, fl9, fl10, false, false, B10, m10, d10, B11, m11, d11, B12, m12, d12, B13, m13, d13, ad9, ad10, by rfl, HKp.put (by decide) _, hBi.out, kq qf2.out fun h => (h), kq qf4.out fun h => (h), kq qf5.out fun h => ⟨(h.1), (h.2)⟩, Gd.yes (zap (HKp.lt (by rw [hsz]; decide)) _), Gd.no, Gd.no, kq qf9.out id, kq qf10.out id, qn9_10, fun _ => rfl, fun _ => rfl, fun _ => rfl, fun _ => rfl, Gd.no, Gd.no, Gd.no, Gd.no, Gd.no, Gd.no, Gd.no, Gd.no⟩
   ·obtain rfl : fl7 = false := zaf hi
    obtain rfl : fl6 = true := rdp 6 0 hi hO
    obtain rfl : fl5 = true := qd6_5.out.get
    obtain rfl : fl2 = true := qd5_2.out.get
    obtain rfl : fl4 = true := qd5_4.out.get
    obtain rfl : fl11 = false := Gd.off qd11_7.out
    obtain rfl : fl12 = false := Gd.off qd12_11.out
    have rd38 := qf6.out.get
    refine wog hO (fun K' hK => ?_)
    refine zax (x := 38) (k := 0) rfl rd38 rfl ?_
    exact hK.out _ _ ⟨hBi.out, true, true, true, true, true, fl8, fl9, fl10, false, false, B10, m10, d10, B11, m11, d11, B12, m12, d12, B13, m13, d13, ad9, ad10, by rfl, HKp.put (by decide) _, hBi.out, kq qf2.out fun h => (h), kq qf4.out fun h => (h), kq qf5.out fun h => ⟨(h.1), (h.2)⟩, kq0 qf6.out, Gd.yes (zap (HKp.lt (by rw [hsz]; decide)) _), kq0 qf8.out, kq qf9.out id, kq qf10.out id, qn9_10, fun _ => rfl, fun _ => rfl, fun _ => rfl, fun _ => rfl, fun _ => rfl, fun _ => rfl, Gd.no, Gd.no, Gd.no, Gd.no, Gd.no, Gd.no⟩
   ·obtain rfl : fl8 = false := zaf hi
    obtain rfl : fl6 = true := rdp 6 0 hi hO
    obtain rfl : fl5 = true := qd6_5.out.get
    obtain rfl : fl2 = true := qd5_2.out.get
    obtain rfl : fl4 = true := qd5_4.out.get
    obtain rfl : fl12 = false := Gd.off qd12_8.out
    have rd38 := qf6.out.get
    refine wog hO (fun K' hK => ?_)
    refine zax (x := 38) (k := 1) rfl rd38 rfl ?_
    exact hK.out _ _ ⟨hBi.out, true, true, true, true, fl7, true, fl9, fl10, fl11, false, B10, m10, d10, B11, m11, d11, B12, m12, d12, B13, m13, d13, ad9, ad10, by rfl, HKp.put (by decide) _, hBi.out, kq qf2.out fun h => (h), kq qf4.out fun h => (h), kq qf5.out fun h => ⟨(h.1), (h.2)⟩, kq0 qf6.out, kq0 qf7.out, Gd.yes (zap (HKp.lt (by rw [hsz]; decide)) _), kq qf9.out id, kq qf10.out id, qn9_10, fun _ => rfl, fun _ => rfl, fun _ => rfl, fun _ => rfl, fun _ => rfl, fun _ => rfl, fun _ => rfl, qd11_7, qd11_9, Gd.no, Gd.no, Gd.no⟩
   ·obtain rfl : fl9 = false := zaf hi
    obtain rfl : fl11 = false := Gd.off qd11_9.out
    obtain rfl : fl12 = false := Gd.off qd12_11.out
    refine wog hO (fun K' hK => ?_)
    go_simp
    have hb := zaz w' (.cells #[.slice none 0 0] 29)
    exact hK.out _ _ ⟨zab hBi.out hb, fl2, fl4, fl5, fl6, fl7, fl8, true, fl10, false, false, B10, m10, d10, B11, m11, d11, B12, m12, d12, B13, m13, d13, w'.heap.size, ad10, by rfl, HKp.put (by decide) _, zab hBi.out hb, kq qf2.out fun h => (h).below hb, kq qf4.out fun h => (h).below hb, kq qf5.out fun h => ⟨(h.1).below hb, (h.2).below hb⟩, kq0 qf6.out, kq0 qf7.out, kq0 qf8.out, Gd.yes ⟨zap (HKp.lt (by rw [hsz]; decide)) _, hBi.out.size, Blk.new w' _ _⟩, kq qf10.out fun h => ⟨h.1, zac hb h.2⟩, Gd.yes (qf10.out.mono fun h => by have := Blk.lt h.2.2; omega), qd4_2, qd5_2, qd5_4, qd6_5, qd7_6, qd8_6, Gd.no, Gd.no, Gd.no, Gd.no, Gd.no, Gd.no⟩
   ·obtain rfl : fl10 = false := zaf hi
    obtain rfl : fl12 = false := Gd.off qd12_10.out
    refine wog hO (fun K' hK => ?_)
    go_simp
    have hb := zaz w' (.cells #[.slice none 0 0] 29)
    exact hK.out _ _ ⟨zab hBi.out hb, fl2, fl4, fl5, fl6, fl7, fl8, fl9, true, fl11, false, B10, m10, d10, B11, m11, d11, B12, m12, d12, B13, m13, d13, ad9, w'.heap.size, by rfl, HKp.put (by decide) _, zab hBi.out hb, kq qf2.out fun h => (h).below hb, kq qf4.out fun h => (h).below hb, kq qf5.out fun h => ⟨(h.1).below hb, (h.2).below hb⟩, kq0 qf6.out, kq0 qf7.out, kq0 qf8.out, kq qf9.out fun h => ⟨h.1, zac hb h.2⟩, Gd.yes ⟨zap (HKp.lt (by rw [hsz]; decide)) _, hBi.out.size, Blk.new w' _ _⟩, qf9.out.mono fun h => Gd.yes (by have := Blk.lt h.2.2; omega), qd4_2, qd5_2, qd5_4, qd6_5, qd7_6, qd8_6, qd11_5, qd11_7, qd11_9, Gd.no, Gd.no, Gd.no⟩
   ·obtain rfl : fl11 = false := zaf hi
    obtain rfl : fl2 = true := rdp 2 5 hi hO
    obtain rfl : fl4 = true := rdp 4 7 hi hO
    obtain rfl : fl5 = true := rdp 5 2 hi hO
    obtain rfl : fl6 = true := rdp 6 9 hi hO
    obtain rfl : fl7 = true := rdp 7 1 hi hO
    obtain rfl : fl9 = true := rdp 9 0 hi hO
    obtain rfl : fl10 = true := rdp 10 13 hi hO
    obtain rfl : fl12 = false := Gd.off qd12_11.out
    have rd7 := qf9.out.get.1
    have rd45 := qf7.out.get
    obtain ⟨_, hg, hk⟩ := qf9.out.get
    have hk : Blk w' ad9 29 #[.slice none 0 0] := hk
    obtain ⟨sc0, sf0⟩ := st1 hk
    have hj0 := sn1 hk (.slice B12 m12 d12)
    have hBn := bl1 (.slice B12 m12 d12) hg hBi.out
    refine wog hO (fun K' hK => ?_)
    go_simp
    exact hK.out _ _ ⟨hBn, true, true, true, true, true, fl8, true, true, true, false, B10, m10, d10, B11, m11, d11, B12, m12, d12, B13, m13, d13, ad9, ad10, by rfl, HKp, hBn, qf2.out.mono fun h => ⟨h.1, zaj (h.2) hk zaR (zaN _ _ _)⟩, qf4.out.mono fun h => ⟨h.1, zaj (h.2) hk zaR (zaN _ _ _)⟩, qf5.out.mono fun h => ⟨h.1, zaj (h.2.1) hk zaR (zaN _ _ _), zaj (h.2.2) hk zaR (zaN _ _ _)⟩, qf6.out.mono fun h => h, qf7.out.mono fun h => h, qf8.out.mono fun h => h, qf9.out.mono fun h => ⟨h.1, h.2.1, hj0⟩, fun hf9 => (fun h => ⟨h.1, h.2.1, Blk.far (p := ⟨ad9, 0, none⟩) (h.2.2) (Ne.symm (qn9_10.out rfl hf9)) (.slice B12 m12 d12)⟩) (qf10.out hf9), qn9_10, fun _ => rfl, fun _ => rfl, fun _ => rfl, fun _ => rfl, fun _ => rfl, fun _ => rfl, fun _ => rfl, fun _ => rfl, fun _ => rfl, Gd.no, Gd.no, Gd.no⟩
   ·obtain rfl : fl12 = false := zaf hi
    obtain rfl : fl2 = true := rdp 2 5 hi hO
    obtain rfl : fl4 = true := rdp 4 7 hi hO
    obtain rfl : fl5 = true := rdp 5 8 hi hO
    obtain rfl : fl6 = true := rdp 6 9 hi hO
    obtain rfl : fl7 = true := rdp 7 10 hi hO
    obtain rfl : fl8 = true := rdp 8 1 hi hO
    obtain rfl : fl9 = true := rdp 9 12 hi hO
    obtain rfl : fl10 = true := rdp 10 0 hi hO
    obtain rfl : fl11 = true := rdp 11 2 hi hO
    have rd8 := qf10.out.get.1
    have rd46 := qf8.out.get
    obtain ⟨_, hg, hk⟩ := qf10.out.get
    have hk : Blk w' ad10 29 #[.slice none 0 0] := hk
    obtain ⟨sc0, sf0⟩ := st1 hk
    have hj0 := sn1 hk (.slice B13 m13 d13)
    have hBn := bl1 (.slice B13 m13 d13) hg hBi.out
    refine wog hO (fun K' hK => ?_)
    go_simp
    exact hK.out _ _ ⟨hBn, true, true, true, true, true, true, true, true, true, true, B10, m10, d10, B11, m11, d11, B12, m12, d12, B13, m13, d13, ad9, ad10, by rfl, HKp, hBn, qf2.out.mono fun h => ⟨h.1, zaj (h.2) hk zaR (zaN _ _ _)⟩, qf4.out.mono fun h => ⟨h.1, zaj (h.2) hk zaR (zaN _ _ _)⟩, qf5.out.mono fun h => ⟨h.1, zaj (h.2.1) hk zaR (zaN _ _ _), zaj (h.2.2) hk zaR (zaN _ _ _)⟩, qf6.out.mono fun h => h, qf7.out.mono fun h => h, qf8.out.mono fun h => h, fun hf9 => (fun h => ⟨h.1, h.2.1, Blk.far (p := ⟨ad10, 0, none⟩) (h.2.2) (qn9_10.out hf9 rfl) (.slice B13 m13 d13)⟩) (qf9.out hf9), qf10.out.mono fun h => ⟨h.1, h.2.1, hj0⟩, qn9_10, fun _ => rfl, fun _ => rfl, fun _ => rfl, fun _ => rfl, fun _ => rfl, fun _ => rfl, fun _ => rfl, fun _ => rfl, fun _ => rfl, fun _ => rfl, fun _ => rfl, fun _ => rfl⟩
 rintro a wm7 ⟨fl2, fl4, fl5, fl6, fl7, fl8, fl9, fl10, fl11, fl12, B10, m10, d10, B11, m11, d11, B12, m12, d12, B13, m13, d13, ad9, ad10, hl, HKp, hBi, qf2, qf4, qf5, qf6, qf7, qf8, qf9, qf10, qn9_10, qd4_2, qd5_2, qd5_4, qd6_5, qd7_6, qd8_6, qd11_5, qd11_7, qd11_9, qd12_8, qd12_10, qd12_11⟩
 have xx2 : fl2 = true := gdl 2 hl
 subst xx2
 have xx4 : fl4 = true := gdl 4 hl
 subst xx4
 have xx5 : fl5 = true := gdl 5 hl
 subst xx5
 have xx6 : fl6 = true := gdl 6 hl
 subst xx6
 have xx7 : fl7 = true := gdl 7 hl
 subst xx7
 have xx8 : fl8 = true := gdl 8 hl
 subst xx8
 have xx9 : fl9 = true := gdl 9 hl
 subst xx9
 have xx10 : fl10 = true := gdl 10 hl
 subst xx10
 have xx11 : fl11 = true := gdl 11 hl
 subst xx11
 have xx12 : fl12 = true := gdl 12 hl
 subst xx12
 obtain ⟨rv2, hw10⟩ := qf2.out.get
 obtain ⟨rv4, hw11⟩ := qf4.out.get
 obtain ⟨rv5, hw12, hw13⟩ := qf5.out.get
 have rv6 := qf6.out.get
 have rv7 := qf7.out.get
 have rv8 := qf8.out.get
 obtain ⟨rv9, hg9, hk9⟩ := qf9.out.get
 obtain ⟨rv10, hg10, hk10⟩ := qf10.out.get
 obtain rfl := HKp.eq [(41, .agg #[.slice B10 m10 d10]), (43, .agg #[.slice B11 m11 d11]), (44, .tuple #[.agg #[.slice B12 m12 d12], .agg #[.slice B13 m13 d13]]), (38, .tuple #[.agg #[.slice B12 m12 d12], .agg #[.slice B13 m13 d13]]), (45, .agg #[.slice B12 m12 d12]), (46, .agg #[.slice B13 m13 d13]), (7, .pointer (some ⟨ad9, 0, none⟩)), (8, .pointer (some ⟨ad10, 0, none⟩))] rfl (by
  intro p hp
  simp only [List.mem_cons, List.not_mem_nil, or_false] at hp
  rcases hp with rfl | rfl | rfl | rfl | rfl | rfl | rfl | rfl
  ·exact rv2
  ·exact rv4
  ·exact rv5
  ·exact rv6
  ·exact rv7
  ·exact rv8
  ·exact rv9
  ·exact rv10)
 have hBv := hBi.out
 clear hl hBi HKp qf2 qf4 qf5 qf6 qf7 qf8 qf9 qf10 qn9_10 qd4_2 qd5_2 qd5_4 qd6_5 qd7_6 qd8_6 qd11_5 qd11_7 qd11_9 qd12_8 qd12_10 qd12_11 rv2 rv4 rv5 rv6 rv7 rv8 rv9 rv10
 have hk9 : Blk wm7 ad9 29 #[.slice B12 m12 d12] := hk9
 have hk10 : Blk wm7 ad10 29 #[.slice B13 m13 d13] := hk10
 rw [show due #[true, true, true, true, true, true, true, true, true, true, true, true, true] = 0 from rfl]
 simp only [zbj, List.foldl, Act.put, List.setIfInBounds_toArray, List.set_cons_zero, List.set_cons_succ]
 refine wpAnyH_done (by kernel_rfl) ?_ _
 refine NoPanic.normal ?_
 have hB := zab hB hBv
 have g1 := zaa hBv g1
 have e1 := zaa hBv e1
 have i1 := zaa hBv i1
 have g2 := zaa hBv g2
 have e2 := zaa hBv e2
 have i2 := zaa hBv i2
 have k3 := zac hBv k3
 have g8 := zaa hBv g8
 have g9 := zaa hBv g9
 have HN4 := Lib.hid (HN4.out.below hBv)
 have HN5 := Lib.hid (HN5.out.below hBv)
 have HN6 := Lib.hid (HN6.out.below hBv)
 have HN7 := Lib.hid (HN7.out.below hBv)
 obtain ⟨ad9_14, hga⟩ : ∃ x, x = ad9 := ⟨_, rfl⟩
 subst hga
 have g14 := hk9.c1
 obtain ⟨ad10_15, hga⟩ : ∃ x, x = ad10 := ⟨_, rfl⟩
 subst hga
 have g15 := hk10.c1
 have HN10 := Lib.hid hw10
 have HN11 := Lib.hid hw11
 have HN12 := Lib.hid hw12
 have HN13 := Lib.hid hw13
 clear hBv hk9 hk10 hw10 hw11 hw12 hw13 GG
 clear C0 C1 C2
 go_wp2_with fail
 have C0 := Lib.hid (fun w' (h : Below wm7.heap.size wm7 w') => zas (HSR.out) (HIC.out.belowI (r.num) baa Baa maa daa w' (HT.out _ (zab hB h)) (HNaap.out _ (zab hB h)) (by have := Sz.words HZaap.out (HNaap.out _ hB).words; omega)))
 have C1 := Lib.hid (fun w' (h : Below wm7.heap.size wm7 w') => zas (HSS.out) (HIC.out.belowI (s.num) bab Bab mab dab w' (HT.out _ (zab hB h)) (HNabp.out _ (zab hB h)) (by have := Sz.words HZabp.out (HNabp.out _ hB).words; omega)))
 have HZ16 : Hid (Sz (K + K) ((r.num.natAbs / Nat.gcd r.num.natAbs s.den) * (s.num.natAbs / Nat.gcd s.num.natAbs r.den))) := Sz.mul HZ6.out HZ12.out
 have C2 := Lib.hid (fun w' (h : Below wm7.heap.size wm7 w') => zcz (r.num.natAbs / Nat.gcd r.num.natAbs s.den) (s.num.natAbs / Nat.gcd s.num.natAbs r.den) B6 B12 m6 m12 d6 d12 w' (HN6.out.below h) (HN12.out.below h) (by have := Sz.words HZ6.out HN6.out; omega) (by have := Sz.words HZ12.out HN12.out; omega))
 have HZ17 : Hid (Sz (K + K) ((r.den / Nat.gcd s.num.natAbs r.den) * (s.den / Nat.gcd r.num.natAbs s.den))) := Sz.mul HZ13.out HZ7.out
 have C3 := Lib.hid (fun w' (h : Below wm7.heap.size wm7 w') => zcz (r.den / Nat.gcd s.num.natAbs r.den) (s.den / Nat.gcd r.num.natAbs s.den) B13 B7 m13 m7 d13 d7 w' (HN13.out.below h) (HN7.out.below h) (by have := Sz.words HZ13.out HN13.out; omega) (by have := Sz.words HZ7.out HN7.out; omega))
 have C4 := Lib.hid (fun w' (h : Below wm7.heap.size wm7 w') B16 m16 d16 (hw16 : zae w' ((r.num.natAbs / Nat.gcd r.num.natAbs s.den) * (s.num.natAbs / Nat.gcd s.num.natAbs r.den)) B16 m16 d16) B17 m17 d17 (hw17 : zae w' ((r.den / Nat.gcd s.num.natAbs r.den) * (s.den / Nat.gcd r.num.natAbs s.den)) B17 m17 d17) => zbO (r * s) (!(sr == ss)) ((r.num.natAbs / Nat.gcd r.num.natAbs s.den) * (s.num.natAbs / Nat.gcd s.num.natAbs r.den)) ((r.den / Nat.gcd s.num.natAbs r.den) * (s.den / Nat.gcd r.num.natAbs s.den)) B16 m16 d16 B17 m17 d17 w' (HT.out _ (zab hB h)) hw16 hw17 (by have := Sz.words HZ16.out hw16; omega) (by have := Sz.words HZ17.out hw17; omega) (HMP.out.1) (HMP.out.2))
 have hBw := (Below.refl wm7.heap.size wm7).drew
 refine rg (csc g1 (csc e1 (csc i1 (csc g2 (csc e2 (csc i2 (csc g8 (csc g14 (csc g15 (csc g9 csn)))))))))) (fun hHeld => ?_)
 refine tk 0 ?_
 try simp only [sb]
 refine tk 1 ?_
 try simp only [sb]
 refine tk 3 ?_
 try simp only [sb]
 refine tk 4 ?_
 try simp only [sb]
 refine tk 7 ?_
 try simp only [sb]
 refine tk 8 ?_
 try simp only [sb]
 refine tk 10 ?_
 try simp only [sb]
 refine tk 11 ?_
 try simp only [sb]
 refine rc 2 (fun K hK => ?_)
 go_simp
 go_at_call 40; (with_reducible refine (C0.out _ hBw).mono ?_); rintro e wa8 ⟨rfl, hb⟩; have hBw := zab hBw hb; refine hK.out _ _ (Cs.below hHeld hb) (fun hHeld => ?_); clear hK K hb
 try simp only [sb]
 refine rc 5 (fun K hK => ?_)
 go_simp
 go_at_call 40; (with_reducible refine (C1.out _ hBw).mono ?_); rintro e wa9 ⟨rfl, hb⟩; have hBw := zab hBw hb; refine hK.out _ _ (Cs.below hHeld hb) (fun hHeld => ?_); clear hK K hb
 try simp only [sb]
 refine tk 6 ?_
 try simp only [sb]
 refine rc 9 (fun K hK => ?_)
 go_simp
 go_at_call 41; (with_reducible refine (C2.out _ hBw).mono ?_); rintro e wa10 ⟨B16, m16, d16, rfl, hw16, hb, _⟩; have hBw := zab hBw hb; refine hK.out _ _ (Cs.below hHeld hb) (fun hHeld => ?_); clear hK K hb
 try simp only [sb]
 refine rc 12 (fun K hK => ?_)
 go_simp
 go_at_call 41; (with_reducible refine (C3.out _ hBw).mono ?_); rintro e wa11 ⟨B17, m17, d17, rfl, hw17, hb, _⟩; have hBw := zab hBw hb; have hw16 := hw16.below hb; refine hK.out _ _ (Cs.below hHeld hb) (fun hHeld => ?_); clear hK K hb
 try simp only [sb]
 refine rc 13 (fun K hK => ?_)
 go_simp
 go_at_call 39; (with_reducible refine (C4.out _ hBw _ _ _ hw16 _ _ _ hw17).mono ?_); rintro e wa12 ⟨b18, B18, m18, d18, E18, u18, v18, rfl, hw18, hb⟩; have hBw := zab hBw hb; have hw16 := hw16.below hb; have hw17 := hw17.below hb; refine hK.out _ _ (Cs.below hHeld hb) (fun hHeld => ?_); clear hK K hb
 try simp only [sb]
 obtain ⟨sc0, sf0, sc1, sf1, sc2, sf2⟩ := st3 (zac hBw k3) (.bool b18) (.slice B18 m18 d18)
 refine rc 14 (fun K hK => ?_)
 go_simp
 refine hK.out _ _ (cs3 (.bool b18) (.slice B18 m18 d18) (.slice E18 u18 v18) hHeld) (fun hHeld => ?_); clear hK K
 try simp only [sb]
 refine rdn ?_
 have hB := zab hB hBw
 have g1 := zaa hBw g1
 have e1 := zaa hBw e1
 have i1 := zaa hBw i1
 have g2 := zaa hBw g2
 have e2 := zaa hBw e2
 have i2 := zaa hBw i2
 have k3 := zac hBw k3
 have g8 := zaa hBw g8
 have g9 := zaa hBw g9
 have HN4 := Lib.hid (HN4.out.below hBw)
 have HN5 := Lib.hid (HN5.out.below hBw)
 have HN6 := Lib.hid (HN6.out.below hBw)
 have HN7 := Lib.hid (HN7.out.below hBw)
 have g14 := zaa hBw g14
 have g15 := zaa hBw g15
 have HN10 := Lib.hid (HN10.out.below hBw)
 have HN11 := Lib.hid (HN11.out.below hBw)
 have HN12 := Lib.hid (HN12.out.below hBw)
 have HN13 := Lib.hid (HN13.out.below hBw)
 have HN16 := Lib.hid hw16
 have HN17 := Lib.hid hw17
 have HN18 := Lib.hid hw18
 clear hBw hHeld hw16 hw17 hw18 C0 C1 C2 C3 C4
 obtain ⟨r0, r1, r2⟩ := (sn3 k3 (.bool b18) (.slice B18 m18 d18) (.slice E18 u18 v18)).c3
 have HG := Lib.hid (gq3 (HN18.out) k3 hB (by omega))
 go_wp2
 refine bodyPost_ret (v := .agg #[.bool b18, .slice B18 m18 d18, .slice E18 u18 v18]) (by simp [results, Tryd.results9, go_sem, r0, r1, r2]) rfl ?_
 exact HG.out
theorem rat_mul (r s : Rat) (baa : Bool) (Baa : Option Addr) (maa daa : Nat) (Eaa : Option Addr) (uaa vaa : Nat) (bab : Bool) (Bab : Option Addr) (mab dab : Nat) (Eab : Option Addr) (uab vab : Nat) (w : World) (hT : zan w) (haa : zal w r baa Baa maa daa Eaa uaa vaa) (hab : zal w s bab Bab mab dab Eab uab vab) (qaa : zaG maa uaa) (qab : zaG mab uab) :
  Calls Tryd.prog 9 #[.agg #[.bool baa, .slice Baa maa daa, .slice Eaa uaa vaa], .agg #[.bool bab, .slice Bab mab dab, .slice Eab uab vab]] w (zaQ w (r * s)) := by
 by_cases h1 : r = 0
 ·exact zjs r s baa Baa maa daa Eaa uaa vaa bab Bab mab dab Eab uab vab w hT haa hab qaa qab h1
 ·by_cases h2 : s = 0
  ·exact zjP r s baa Baa maa daa Eaa uaa vaa bab Bab mab dab Eab uab vab w hT haa hab qaa qab h1 h2
  ·by_cases h3 : r.den = 1
   ·by_cases h4 : s.den = 1
    ·exact zjn r s baa Baa maa daa Eaa uaa vaa bab Bab mab dab Eab uab vab w hT haa hab qaa qab h1 h2 h3 h4
    ·exact zjj r s baa Baa maa daa Eaa uaa vaa bab Bab mab dab Eab uab vab w hT haa hab qaa qab h1 h2 h3 h4
   ·exact zjb r s baa Baa maa daa Eaa uaa vaa bab Bab mab dab Eab uab vab w hT haa hab qaa qab h1 h2 h3
end Go.Proofs.YtgigccjiblaefaaDoor
