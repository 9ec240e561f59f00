/- What this claim leans on. -/
import Derived.Test.YtgigccjiblaefaaDoorSBun7b
import Derived.Test.YtgigccjiblaefaaDoorSJ8Lib
import Derived.Test.YtgigccjiblaefaaDoorSMeet3
namespace Go.Proofs.YtgigccjiblaefaaDoor
open Go Go.RowKit
set_option maxRecDepth 100000
set_option linter.unusedVariables false
set_option linter.unusedSimpArgs false
set_option maxHeartbeats 16000000 in
theorem zeU (z : Int) (baa : Bool) (Baa : Option Addr) (maa daa : Nat) (w : World) (hT : zal w) (haa : zao w z baa Baa maa daa) (qaa : maa ≤ 268435456) :
  Calls Tryd.prog 44 #[.agg #[.bool baa, .slice Baa maa daa]] w (zav w z) := by
 have HIC := Lib.hid (intC (T := zal))
 have HGC := Lib.hid gcdC
 have HT := Lib.hid (fun w' (hb : Below w.heap.size w w') => hT.on hb)
 have HTB := HT
 obtain ⟨K, hKe⟩ : ∃ K, 268435456 = K := ⟨_, rfl⟩
 have hKK : K ≤ 268435456 := by omega
 have hK0 : 0 < K := by omega
 have HV := Lib.hid (zja z)
 obtain ⟨sb, hsb⟩ : ∃ s, decide (z < 0) = s := ⟨_, rfl⟩
 rw [hsb] at HV
 have HSB := Lib.hid hsb
 clear hsb
 have HNaa := Lib.hid (fun w' (b : Below w.heap.size w w') => haa.below b)
 have HZaa : Hid (Sz K z.natAbs) := Sz.of_words haa.words (by omega)
 clear haa qaa
 clear hT hKe
 go_enter Tryd.func44, Tryd.ntmps44
 have hB := Below.refl w.heap.size w
 obtain ⟨bx1, bx2, bx3, bz⟩ := zaQ w 31 31 #[.bool baa, .slice Baa maa daa] #[.bool false, .slice none 0 0]
 have hB := zab hB bx1
 obtain ⟨g1, e1⟩ := bx2.c2
 have k2 := bx3
 clear bx1 bx2 bx3 bz
 go_wp2_with fail
 generalize (w.alloc (.cells #[.bool baa, .slice Baa maa daa] 31)).alloc (.cells #[.bool false, .slice none 0 0] 31) = W1 at *
 have C0 := Lib.hid (fun w' (h : Below W1.heap.size W1 w') => zax (HSB.out) (HIC.out.belowI (z) baa Baa maa daa w' (HT.out _ (zab hB h)) (HNaa.out _ (zab hB h)) (by have := Sz.words HZaa.out (HNaa.out _ hB).words; omega)))
 have HZ3 : Hid (Sz (K) (z.natAbs)) := HZaa.out
 have C1 := Lib.hid (fun w' (h : Below W1.heap.size W1 w') => HIC.out.abs (z) baa Baa maa daa w' (HT.out _ (zab hB h)) (HNaa.out _ (zab hB h)) (by have := Sz.words HZaa.out (HNaa.out _ hB).words; omega))
 have HZ4 : Hid (Sz (K) (zau sb z.natAbs).natAbs) := (by rw [zbf]; exact HZ3.out)
 have C2 := Lib.hid (fun w' (h : Below W1.heap.size W1 w') B3 m3 d3 (hw3 : zae w' (z.natAbs) B3 m3 d3) => HIC.out.new sb (z.natAbs) B3 m3 d3 w' (HT.out _ (zab hB h)) hw3 (by have := Sz.words HZ3.out hw3; omega))
 have hBw := (Below.refl W1.heap.size W1).drew
 refine rg (csc g1 (csc e1 csn)) (fun hHeld => ?_)
 refine tk 0 ?_
 try simp only [sb]
 refine tk 2 ?_
 try simp only [sb]
 refine rc 1 (fun K hK => ?_)
 go_simp
 go_at_call 40; (with_reducible refine (C0.out _ hBw).mono ?_); rintro e wa2 ⟨rfl, hb⟩; have hBw := zab hBw hb; refine hK.out _ _ (Cs.below hHeld hb) (fun hHeld => ?_); clear hK K hb
 try simp only [sb]
 refine rc 3 (fun K hK => ?_)
 go_simp
 go_at_call 38; (with_reducible refine (C1.out _ hBw).mono ?_); rintro e wa3 ⟨B3, m3, d3, rfl, hw3, hb⟩; have hBw := zab hBw hb; refine hK.out _ _ (Cs.below hHeld hb) (fun hHeld => ?_); clear hK K hb
 try simp only [sb]
 refine rc 4 (fun K hK => ?_)
 go_simp
 go_at_call 29; (with_reducible refine (C2.out _ hBw _ _ _ hw3).mono ?_); rintro e wa4 ⟨b4, B4, m4, d4, rfl, hw4, hb⟩; have hBw := zab hBw hb; have hw3 := hw3.below hb; refine hK.out _ _ (Cs.below hHeld hb) (fun hHeld => ?_); clear hK K hb
 try simp only [sb]
 obtain ⟨sc0, sf0, sc1, sf1⟩ := st2 (zac hBw k2) (.bool b4)
 refine rc 5 (fun K hK => ?_)
 go_simp
 refine hK.out _ _ (cs2 (.bool b4) (.slice B4 m4 d4) hHeld) (fun hHeld => ?_); clear hK K
 try simp only [sb]
 refine rdn ?_
 have hB := zab hB hBw
 have g1 := zaa hBw g1
 have e1 := zaa hBw e1
 have k2 := zac hBw k2
 have HN3 := Lib.hid hw3
 have HN4 := Lib.hid hw4
 clear hBw hHeld hw3 hw4 C0 C1 C2
 obtain ⟨r0, r1⟩ := (sn2 k2 (.bool b4) (.slice B4 m4 d4)).c2
 have HG := Lib.hid (gi2 (zao.to8 HV.out HN4.out) k2 hB (by omega))
 go_wp2
 refine bodyPost_ret (v := .agg #[.bool b4, .slice B4 m4 d4]) (by simp [results, Tryd.results44, go_sem, r0, r1]) rfl ?_
 exact HG.out
set_option maxHeartbeats 16000000 in
theorem zdq (z : Int) (k : Nat) (baa : Bool) (Baa : Option Addr) (maa daa : Nat) (Bab : Option Addr) (mab dab : Nat) (w : World) (hT : zal w) (haa : zao w z baa Baa maa daa) (hab : zae w k Bab mab dab) (qaa : maa ≤ 134217728) (qab : mab ≤ 134217728) :
  Calls Tryd.prog 30 #[.agg #[.bool baa, .slice Baa maa daa], .agg #[.slice Bab mab dab]] w (zav w (z * ((k : Nat) : Int))) := by
 have HIC := Lib.hid (intC (T := zal))
 have HGC := Lib.hid gcdC
 have HT := Lib.hid (fun w' (hb : Below w.heap.size w w') => hT.on hb)
 have HTB := HT
 obtain ⟨K, hKe⟩ : ∃ K, 134217728 = K := ⟨_, rfl⟩
 have hKK : K ≤ 134217728 := by omega
 have hK0 : 0 < K := by omega
 have HNaa := Lib.hid (fun w' (b : Below w.heap.size w w') => haa.below b)
 have HZaa : Hid (Sz K z.natAbs) := Sz.of_words haa.words (by omega)
 clear haa qaa
 have HNab := Lib.hid (fun w' (b : Below w.heap.size w w') => hab.below b)
 have HZab : Hid (Sz K k) := Sz.of_words hab (by omega)
 clear hab qab
 clear hT hKe
 go_enter Tryd.func30, Tryd.ntmps30
 have hB := Below.refl w.heap.size w
 obtain ⟨bx1, bx2, bx3, bx4, bz⟩ := zbg w 31 29 31 #[.bool baa, .slice Baa maa daa] #[.slice Bab mab dab] #[.bool false, .slice none 0 0]
 have hB := zab hB bx1
 obtain ⟨g1, e1⟩ := bx2.c2
 have g2 := bx3.c1
 have k3 := bx4
 clear bx1 bx2 bx3 bx4 bz
 go_wp2_with fail
 generalize ((w.alloc (.cells #[.bool baa, .slice Baa maa daa] 31)).alloc (.cells #[.slice Bab mab dab] 29)).alloc (.cells #[.bool false, .slice none 0 0] 31) = W1 at *
 have HZ4 : Hid (Sz (K) (((k : Nat) : Int)).natAbs) := (by rw [Int.natAbs_natCast]; exact HZab.out)
 have C0 := Lib.hid (fun w' (h : Below W1.heap.size W1 w') => zdX HIC.out (k) Bab mab dab w' (HT.out _ (zab hB h)) (HNab.out _ (zab hB h)) (by have := Sz.words HZab.out (HNab.out _ hB); omega))
 have HZ5 : Hid (Sz (K + K) (z * (((k : Nat) : Int))).natAbs) := SzI.mul HZaa.out HZ4.out
 have C1 := Lib.hid (fun w' (h : Below W1.heap.size W1 w') b4 B4 m4 d4 (hw4 : zao w' (((k : Nat) : Int)) b4 B4 m4 d4) => HIC.out.mul (z) (((k : Nat) : Int)) baa b4 Baa B4 maa m4 daa d4 w' (HT.out _ (zab hB h)) (HNaa.out _ (zab hB h)) hw4 (by have := Sz.words HZaa.out (HNaa.out _ hB).words; omega) (by have := Sz.words HZ4.out hw4.words; omega))
 have hBw := (Below.refl W1.heap.size W1).drew
 refine rg (csc g1 (csc e1 (csc g2 csn))) (fun hHeld => ?_)
 refine tk 0 ?_
 try simp only [sb]
 refine tk 1 ?_
 try simp only [sb]
 refine rc 2 (fun K hK => ?_)
 go_simp
 go_at_call 29; (with_reducible refine (C0.out _ hBw).mono ?_); rintro e wa2 ⟨b4, B4, m4, d4, rfl, hw4, hb⟩; have hBw := zab hBw hb; refine hK.out _ _ (Cs.below hHeld hb) (fun hHeld => ?_); clear hK K hb
 try simp only [sb]
 refine rc 3 (fun K hK => ?_)
 go_simp
 go_at_call 36; (with_reducible refine (C1.out _ hBw _ _ _ _ hw4).mono ?_); rintro e wa3 ⟨b5, B5, m5, d5, rfl, hw5, hb⟩; have hBw := zab hBw hb; have hw4 := hw4.below hb; refine hK.out _ _ (Cs.below hHeld hb) (fun hHeld => ?_); clear hK K hb
 try simp only [sb]
 obtain ⟨sc0, sf0, sc1, sf1⟩ := st2 (zac hBw k3) (.bool b5)
 refine rc 4 (fun K hK => ?_)
 go_simp
 refine hK.out _ _ (cs2 (.bool b5) (.slice B5 m5 d5) hHeld) (fun hHeld => ?_); clear hK K
 try simp only [sb]
 refine rdn ?_
 have hB := zab hB hBw
 have g1 := zaa hBw g1
 have e1 := zaa hBw e1
 have g2 := zaa hBw g2
 have k3 := zac hBw k3
 have HN4 := Lib.hid hw4
 have HN5 := Lib.hid hw5
 clear hBw hHeld hw4 hw5 C0 C1
 obtain ⟨r0, r1⟩ := (sn2 k3 (.bool b5) (.slice B5 m5 d5)).c2
 have HG := Lib.hid (gi2 (HN5.out) k3 hB (by omega))
 go_wp2
 refine bodyPost_ret (v := .agg #[.bool b5, .slice B5 m5 d5]) (by simp [results, Tryd.results30, go_sem, r0, r1]) rfl ?_
 exact HG.out
set_option maxHeartbeats 16000000 in
theorem zhD (r : Rat) (baa : Bool) (Baa : Option Addr) (maa daa : Nat) (Eaa : Option Addr) (uaa vaa : Nat) (w : World) (hT : zal w) (haa : zam w r baa Baa maa daa Eaa uaa vaa) (qaa : zaF maa uaa) (hd : r.den = 1) :
  Calls Tryd.prog 33 #[.agg #[.bool baa, .slice Baa maa daa, .slice Eaa uaa vaa]] w (fun e w' => e = .returned (.bool true) ∧ Below w.heap.size w w') := by
 have HIC := Lib.hid (intC (T := zal))
 have HGC := Lib.hid gcdC
 have HT := Lib.hid (fun w' (hb : Below w.heap.size w w') => hT.on hb)
 have HTB := HT
 obtain ⟨K, hKe⟩ : ∃ K, 67108864 = K := ⟨_, rfl⟩
 have hKK : K ≤ 67108864 := by omega
 have hK0 : 0 < K := by omega
 have HNaa := Lib.hid (fun w' (b : Below w.heap.size w w') => haa.below b)
 obtain ⟨xaa, hxaa, hxwaa⟩ := haa.2
 have HXaa := Lib.hid hxaa
 have HZaa : Hid (SzQ K r) := zaB haa qaa hKe
 have HZaap : Hid (Sz K r.num.natAbs) := HZaa.out.num
 have HZaaq : Hid (Sz K xaa) := zap HZaa.out.den hxaa
 have HNaap := Lib.hid (fun w' (b : Below w.heap.size w w') => haa.1.below b)
 have HNaaq := Lib.hid (fun w' (b : Below w.heap.size w w') => hxwaa.below b)
 clear haa qaa hxaa hxwaa
 have HX0 := Lib.hid (zdB HXaa.out hd)
 clear hT hKe hd
 go_enter Tryd.func33, Tryd.ntmps33
 have hB := Below.refl w.heap.size w
 obtain ⟨bx1, bx2, bz⟩ := zaS w 33 #[.bool baa, .slice Baa maa daa, .slice Eaa uaa vaa]
 have hB := zab hB bx1
 obtain ⟨g1, e1, i1⟩ := bx2.c3
 clear bx1 bx2 bz
 go_wp2_with fail
 generalize w.alloc (.cells #[.bool baa, .slice Baa maa daa, .slice Eaa uaa vaa] 33) = W1 at *
 (with_reducible refine (zbr HX0.out (HNaaq.out _ hB)).mono ?_)
 rintro e wc2 ⟨rfl, hb⟩
 have hB := zab hB hb
 have g1 := zaa hb g1
 have e1 := zaa hb e1
 have i1 := zaa hb i1
 clear hb 
 go_wp2
 go_ret
 exact ⟨by first | rfl | simp, hB⟩
set_option maxHeartbeats 16000000 in
theorem zhA (r : Rat) (baa : Bool) (Baa : Option Addr) (maa daa : Nat) (Eaa : Option Addr) (uaa vaa : Nat) (w : World) (hT : zal w) (haa : zam w r baa Baa maa daa Eaa uaa vaa) (qaa : zaF maa uaa) (hd : r.den ≠ 1) :
  Calls Tryd.prog 33 #[.agg #[.bool baa, .slice Baa maa daa, .slice Eaa uaa vaa]] w (fun e w' => e = .returned (.bool false) ∧ Below w.heap.size w w') := by
 have HIC := Lib.hid (intC (T := zal))
 have HGC := Lib.hid gcdC
 have HT := Lib.hid (fun w' (hb : Below w.heap.size w w') => hT.on hb)
 have HTB := HT
 obtain ⟨K, hKe⟩ : ∃ K, 67108864 = K := ⟨_, rfl⟩
 have hKK : K ≤ 67108864 := by omega
 have hK0 : 0 < K := by omega
 have HNaa := Lib.hid (fun w' (b : Below w.heap.size w w') => haa.below b)
 obtain ⟨xaa, hxaa, hxwaa⟩ := haa.2
 have HXaa := Lib.hid hxaa
 have HZaa : Hid (SzQ K r) := zaB haa qaa hKe
 have HZaap : Hid (Sz K r.num.natAbs) := HZaa.out.num
 have HZaaq : Hid (Sz K xaa) := zap HZaa.out.den hxaa
 have HNaap := Lib.hid (fun w' (b : Below w.heap.size w w') => haa.1.below b)
 have HNaaq := Lib.hid (fun w' (b : Below w.heap.size w w') => hxwaa.below b)
 clear haa qaa hxaa hxwaa
 have HX0 := Lib.hid (zcm HXaa.out hd).1
 clear hT hKe hd
 go_enter Tryd.func33, Tryd.ntmps33
 have hB := Below.refl w.heap.size w
 obtain ⟨bx1, bx2, bz⟩ := zaS w 33 #[.bool baa, .slice Baa maa daa, .slice Eaa uaa vaa]
 have hB := zab hB bx1
 obtain ⟨g1, e1, i1⟩ := bx2.c3
 clear bx1 bx2 bz
 go_wp2_with fail
 generalize w.alloc (.cells #[.bool baa, .slice Baa maa daa, .slice Eaa uaa vaa] 33) = W1 at *
 (with_reducible refine (zbC HX0.out (HNaaq.out _ hB)).mono ?_)
 rintro e wc2 ⟨rfl, hb⟩
 have hB := zab hB hb
 have g1 := zaa hb g1
 have e1 := zaa hb e1
 have i1 := zaa hb i1
 clear hb 
 go_wp2
 go_ret
 exact ⟨by first | rfl | simp, hB⟩
theorem zbz (r : Rat) (baa : Bool) (Baa : Option Addr) (maa daa : Nat) (Eaa : Option Addr) (uaa vaa : Nat) (w : World) (hT : zal w) (haa : zam w r baa Baa maa daa Eaa uaa vaa) (qaa : zaF maa uaa) :
  Calls Tryd.prog 33 #[.agg #[.bool baa, .slice Baa maa daa, .slice Eaa uaa vaa]] w (fun e w' => e = .returned (.bool (decide (r.den = 1))) ∧ Below w.heap.size w w') := by
 by_cases hd : r.den = 1
 ·rw [decide_eq_true hd]; exact zhD r baa Baa maa daa Eaa uaa vaa w hT haa qaa hd
 ·rw [decide_eq_false hd]; exact zhA r baa Baa maa daa Eaa uaa vaa w hT haa qaa hd
end Go.Proofs.YtgigccjiblaefaaDoor
