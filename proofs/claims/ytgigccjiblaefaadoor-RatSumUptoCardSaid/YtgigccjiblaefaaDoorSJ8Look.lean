/- What this claim leans on. -/
import Derived.Test.YtgigccjiblaefaaDoorSJ8Small
namespace Go.Proofs.YtgigccjiblaefaaDoor
open Go Go.RowKit
set_option maxRecDepth 100000
set_option linter.unusedVariables false
set_option linter.unusedSimpArgs false
set_option maxHeartbeats 16000000 in
theorem zgv (r : Rat) (baa : Bool) (Baa : Option Addr) (maa daa : Nat) (Eaa : Option Addr) (uaa vaa : Nat) (w : World) (hT : zal w) (haa : zam w r baa Baa maa daa Eaa uaa vaa) (qaa : zaF maa uaa) (hd : r.den = 1) :
  Calls Tryd.prog 31 #[.agg #[.bool baa, .slice Baa maa daa, .slice Eaa uaa vaa]] w (zcI w r.den) := by
 have HIC := Lib.hid (intC (T := zal))
 have HGC := Lib.hid gcdC
 have HT := Lib.hid (fun w' (hb : Below w.heap.size w w') => hT.on hb)
 have HTB := HT
 obtain ⟨K, hKe⟩ : ∃ K, 67108864 = K := ⟨_, rfl⟩
 have hKK : K ≤ 67108864 := by omega
 have hK0 : 0 < K := by omega
 have HNaa := Lib.hid (fun w' (b : Below w.heap.size w w') => haa.below b)
 obtain ⟨xaa, hxaa, hxwaa⟩ := haa.2
 have HXaa := Lib.hid hxaa
 have HZaa : Hid (SzQ K r) := zaB haa qaa hKe
 have HZaap : Hid (Sz K r.num.natAbs) := HZaa.out.num
 have HZaaq : Hid (Sz K xaa) := zap HZaa.out.den hxaa
 have HNaap := Lib.hid (fun w' (b : Below w.heap.size w w') => haa.1.below b)
 have HNaaq := Lib.hid (fun w' (b : Below w.heap.size w w') => hxwaa.below b)
 clear haa qaa hxaa hxwaa
 have HD1 := Lib.hid hd
 clear hT hKe hd
 go_enter Tryd.func31, Tryd.ntmps31
 have hB := Below.refl w.heap.size w
 obtain ⟨bx1, bx2, bx3, bz⟩ := zaQ w 33 29 #[.bool baa, .slice Baa maa daa, .slice Eaa uaa vaa] #[.slice none 0 0]
 have hB := zab hB bx1
 obtain ⟨g1, e1, i1⟩ := bx2.c3
 have k2 := bx3
 clear bx1 bx2 bx3 bz
 go_wp2_with fail
 generalize (w.alloc (.cells #[.bool baa, .slice Baa maa daa, .slice Eaa uaa vaa] 33)).alloc (.cells #[.slice none 0 0] 29) = W1 at *
 (with_reducible refine (zax (decide_eq_true HD1.out) (zbz (r) baa Baa maa daa Eaa uaa vaa _ (HT.out _ hB) (HNaa.out _ hB) (SzQ.fit HZaa.out (HNaa.out _ hB) (by omega)))).mono ?_)
 rintro e wc2 ⟨rfl, hb⟩
 have hB := zab hB hb
 have g1 := zaa hb g1
 have e1 := zaa hb e1
 have i1 := zaa hb i1
 have k2 := zac hb k2
 clear hb 
 have lt1_2 : w.heap.size < wc2.heap.size := World.block_lt_of_cell? wc2 ⟨w.heap.size, 0, none⟩ g1
 have lt2_2 : w.heap.size + 1 < wc2.heap.size := k2.lt
 have hq2 := hB.size
 obtain ⟨bx1, bx2, bz⟩ := zaS wc2 52 #[.int .u64 1]
 have hB := zab hB bx1
 have g1 := zaa bx1 g1
 have e1 := zaa bx1 e1
 have i1 := zaa bx1 i1
 have k2 := zac bx1 k2
 have k3 := bx2
 clear bx1 bx2 bz
 go_wp2_with fail
 generalize wc2.alloc (.cells #[.int .u64 1] 52) = W3 at *
 generalize wc2.heap.size = q3 at *
 have HZ4 : Hid (Sz (1) (1)) := (by show (1 : Nat) < 18446744073709551616 ^ 1; decide)
 (with_reducible refine (zeG _ [1] _ _ 1 (1) k3 rfl rfl (dgs1 1 (by decide)) rfl (by decide)).mono ?_)
 rintro e wc4 ⟨B4, m4, d4, rfl, hw4, hb, _⟩
 have hB := zab hB hb
 have g1 := zaa hb g1
 have e1 := zaa hb e1
 have i1 := zaa hb i1
 have k2 := zac hb k2
 have k3 := zac hb k3
 have HN4 := Lib.hid hw4
 clear hb hw4
 obtain ⟨sc0, sf0⟩ := st1 k2
 have r0 := (sn1 k2 (.slice B4 m4 d4)).c1
 have HG := Lib.hid (gn1 (zae.to8 HD1.out.symm HN4.out) k2 hB (by omega))
 go_wp2
 refine bodyPost_ret (v := .agg #[.slice B4 m4 d4]) (by simp [results, Tryd.results31, go_sem, r0]) rfl ?_
 exact HG.out
set_option maxHeartbeats 16000000 in
theorem zfZ (r : Rat) (baa : Bool) (Baa : Option Addr) (maa daa : Nat) (Eaa : Option Addr) (uaa vaa : Nat) (w : World) (hT : zal w) (haa : zam w r baa Baa maa daa Eaa uaa vaa) (qaa : zaF maa uaa) (hd : r.den ≠ 1) :
  Calls Tryd.prog 31 #[.agg #[.bool baa, .slice Baa maa daa, .slice Eaa uaa vaa]] w (zcI w r.den) := by
 have HIC := Lib.hid (intC (T := zal))
 have HGC := Lib.hid gcdC
 have HT := Lib.hid (fun w' (hb : Below w.heap.size w w') => hT.on hb)
 have HTB := HT
 obtain ⟨K, hKe⟩ : ∃ K, 67108864 = K := ⟨_, rfl⟩
 have hKK : K ≤ 67108864 := by omega
 have hK0 : 0 < K := by omega
 have HNaa := Lib.hid (fun w' (b : Below w.heap.size w w') => haa.below b)
 obtain ⟨xaa, hxaa, hxwaa⟩ := haa.2
 have HXaa := Lib.hid hxaa
 have HZaa : Hid (SzQ K r) := zaB haa qaa hKe
 have HZaap : Hid (Sz K r.num.natAbs) := HZaa.out.num
 have HZaaq : Hid (Sz K xaa) := zap HZaa.out.den hxaa
 have HNaap := Lib.hid (fun w' (b : Below w.heap.size w w') => haa.1.below b)
 have HNaaq := Lib.hid (fun w' (b : Below w.heap.size w w') => hxwaa.below b)
 clear haa qaa hxaa hxwaa
 have HD1 := Lib.hid hd
 have HD2 := Lib.hid (zcm HXaa.out hd).2
 clear hT hKe hd
 go_enter Tryd.func31, Tryd.ntmps31
 have hB := Below.refl w.heap.size w
 obtain ⟨bx1, bx2, bx3, bz⟩ := zaQ w 33 29 #[.bool baa, .slice Baa maa daa, .slice Eaa uaa vaa] #[.slice none 0 0]
 have hB := zab hB bx1
 obtain ⟨g1, e1, i1⟩ := bx2.c3
 have k2 := bx3
 clear bx1 bx2 bx3 bz
 go_wp2_with fail
 generalize (w.alloc (.cells #[.bool baa, .slice Baa maa daa, .slice Eaa uaa vaa] 33)).alloc (.cells #[.slice none 0 0] 29) = W1 at *
 (with_reducible refine (zax (decide_eq_false HD1.out) (zbz (r) baa Baa maa daa Eaa uaa vaa _ (HT.out _ hB) (HNaa.out _ hB) (SzQ.fit HZaa.out (HNaa.out _ hB) (by omega)))).mono ?_)
 rintro e wc2 ⟨rfl, hb⟩
 have hB := zab hB hb
 have g1 := zaa hb g1
 have e1 := zaa hb e1
 have i1 := zaa hb i1
 have k2 := zac hb k2
 clear hb 
 obtain ⟨sc0, sf0⟩ := st1 k2
 have r0 := (sn1 k2 (.slice Eaa uaa vaa)).c1
 have HG := Lib.hid (gn1 (zae.to8 HD2.out (HNaaq.out _ hB)) k2 hB (by omega))
 go_wp2
 refine bodyPost_ret (v := .agg #[.slice Eaa uaa vaa]) (by simp [results, Tryd.results31, go_sem, r0]) rfl ?_
 exact HG.out
theorem zbt (r : Rat) (baa : Bool) (Baa : Option Addr) (maa daa : Nat) (Eaa : Option Addr) (uaa vaa : Nat) (w : World) (hT : zal w) (haa : zam w r baa Baa maa daa Eaa uaa vaa) (qaa : zaF maa uaa) :
  Calls Tryd.prog 31 #[.agg #[.bool baa, .slice Baa maa daa, .slice Eaa uaa vaa]] w (zcI w r.den) := by
 by_cases hd : r.den = 1
 ·exact zgv r baa Baa maa daa Eaa uaa vaa w hT haa qaa hd
 ·exact zfZ r baa Baa maa daa Eaa uaa vaa w hT haa qaa hd
set_option maxHeartbeats 16000000 in
theorem zfA (r : Rat) (baa : Bool) (Baa : Option Addr) (maa daa : Nat) (Eaa : Option Addr) (uaa vaa : Nat) (w : World) (hT : zal w) (haa : zam w r baa Baa maa daa Eaa uaa vaa) (qaa : zaF maa uaa) :
  Calls Tryd.prog 32 #[.agg #[.bool baa, .slice Baa maa daa, .slice Eaa uaa vaa]] w (zaU w r) := by
 have HIC := Lib.hid (intC (T := zal))
 have HGC := Lib.hid gcdC
 have HT := Lib.hid (fun w' (hb : Below w.heap.size w w') => hT.on hb)
 have HTB := HT
 obtain ⟨K, hKe⟩ : ∃ K, 67108864 = K := ⟨_, rfl⟩
 have hKK : K ≤ 67108864 := by omega
 have hK0 : 0 < K := by omega
 have HNaa := Lib.hid (fun w' (b : Below w.heap.size w w') => haa.below b)
 obtain ⟨xaa, hxaa, hxwaa⟩ := haa.2
 have HXaa := Lib.hid hxaa
 have HZaa : Hid (SzQ K r) := zaB haa qaa hKe
 have HZaap : Hid (Sz K r.num.natAbs) := HZaa.out.num
 have HZaaq : Hid (Sz K xaa) := zap HZaa.out.den hxaa
 have HNaap := Lib.hid (fun w' (b : Below w.heap.size w w') => haa.1.below b)
 have HNaaq := Lib.hid (fun w' (b : Below w.heap.size w w') => hxwaa.below b)
 clear haa qaa hxaa hxwaa
 clear hT hKe
 go_enter Tryd.func32, Tryd.ntmps32
 have hB := Below.refl w.heap.size w
 obtain ⟨bx1, bx2, bx3, bz⟩ := zaQ w 33 33 #[.bool baa, .slice Baa maa daa, .slice Eaa uaa vaa] #[.bool false, .slice none 0 0, .slice none 0 0]
 have hB := zab hB bx1
 obtain ⟨g1, e1, i1⟩ := bx2.c3
 have k2 := bx3
 clear bx1 bx2 bx3 bz
 go_wp2_with fail
 generalize (w.alloc (.cells #[.bool baa, .slice Baa maa daa, .slice Eaa uaa vaa] 33)).alloc (.cells #[.bool false, .slice none 0 0, .slice none 0 0] 33) = W1 at *
 have HZ3 : Hid (Sz (K) (r.num).natAbs) := HZaap.out
 have C0 := Lib.hid (fun w' (h : Below W1.heap.size W1 w') => zeU (r.num) baa Baa maa daa w' (HT.out _ (zab hB h)) (HNaap.out _ (zab hB h)) (by have := Sz.words HZaap.out (HNaap.out _ hB).words; omega))
 have HZ4 : Hid (Sz (K) (xaa)) := HZaaq.out
 have C1 := Lib.hid (fun w' (h : Below W1.heap.size W1 w') => zfP (xaa) Eaa uaa vaa w' (HNaaq.out _ (zab hB h)) (by have := Sz.words HZaaq.out (HNaaq.out _ hB); omega))
 have HZ5 : Hid (Sz (K) (xaa)) := HZ4.out
 have C2 := Lib.hid (fun w' (h : Below W1.heap.size W1 w') B4 m4 d4 (hw4 : zae w' (xaa) B4 m4 d4) => of_row (xaa) B4 m4 d4 w' hw4 (by have := Sz.words HZ4.out hw4; omega))
 have hBw := (Below.refl W1.heap.size W1).drew
 refine rg (csc g1 (csc e1 (csc i1 csn))) (fun hHeld => ?_)
 refine tk 0 ?_
 try simp only [sb]
 refine tk 1 ?_
 try simp only [sb]
 refine tk 3 ?_
 try simp only [sb]
 refine tk 4 ?_
 try simp only [sb]
 refine rc 2 (fun K hK => ?_)
 go_simp
 go_at_call 44; (with_reducible refine (C0.out _ hBw).mono ?_); rintro e wa2 ⟨b3, B3, m3, d3, rfl, hw3, hb⟩; have hBw := zab hBw hb; refine hK.out _ _ (Cs.below hHeld hb) (fun hHeld => ?_); clear hK K hb
 try simp only [sb]
 refine rc 5 (fun K hK => ?_)
 go_simp
 go_at_call 45; (with_reducible refine (C1.out _ hBw).mono ?_); rintro e wa3 ⟨B4, m4, d4, rfl, hw4, hb⟩; have hBw := zab hBw hb; have hw3 := hw3.below hb; refine hK.out _ _ (Cs.below hHeld hb) (fun hHeld => ?_); clear hK K hb
 try simp only [sb]
 refine rc 6 (fun K hK => ?_)
 go_simp
 go_at_call 25; (with_reducible refine (C2.out _ hBw _ _ _ hw4).mono ?_); rintro e wa4 ⟨B5, m5, d5, rfl, hw5, hb⟩; have hBw := zab hBw hb; have hw3 := hw3.below hb; have hw4 := hw4.below hb; refine hK.out _ _ (Cs.below hHeld hb) (fun hHeld => ?_); clear hK K hb
 try simp only [sb]
 refine tk 7 ?_
 try simp only [sb]
 obtain ⟨sc0, sf0, sc1, sf1, sc2, sf2⟩ := st3 (zac hBw k2) (.bool b3) (.slice B3 m3 d3)
 refine rc 8 (fun K hK => ?_)
 go_simp
 refine hK.out _ _ (cs3 (.bool b3) (.slice B3 m3 d3) (.slice B5 m5 d5) hHeld) (fun hHeld => ?_); clear hK K
 try simp only [sb]
 refine rdn ?_
 have hB := zab hB hBw
 have g1 := zaa hBw g1
 have e1 := zaa hBw e1
 have i1 := zaa hBw i1
 have k2 := zac hBw k2
 have HN3 := Lib.hid hw3
 have HN4 := Lib.hid hw4
 have HN5 := Lib.hid hw5
 clear hBw hHeld hw3 hw4 hw5 C0 C1 C2
 obtain ⟨r0, r1, r2⟩ := (sn3 k2 (.bool b3) (.slice B3 m3 d3) (.slice B5 m5 d5)).c3
 have HG := Lib.hid (gq3 (⟨HN3.out, ⟨xaa, HXaa.out, HN5.out⟩⟩) k2 hB (by omega))
 go_wp2
 refine bodyPost_ret (v := .agg #[.bool b3, .slice B3 m3 d3, .slice B5 m5 d5]) (by simp [results, Tryd.results32, go_sem, r0, r1, r2]) rfl ?_
 exact HG.out
set_option maxHeartbeats 16000000 in
theorem zgE (r : Rat) (baa : Bool) (Baa : Option Addr) (maa daa : Nat) (Eaa : Option Addr) (uaa vaa : Nat) (w : World) (hT : zal w) (haa : zam w r baa Baa maa daa Eaa uaa vaa) (qaa : zaF maa uaa) :
  Calls Tryd.prog 20 #[.agg #[.bool baa, .slice Baa maa daa, .slice Eaa uaa vaa]] w (zcI w r.den) := by
 have HIC := Lib.hid (intC (T := zal))
 have HGC := Lib.hid gcdC
 have HT := Lib.hid (fun w' (hb : Below w.heap.size w w') => hT.on hb)
 have HTB := HT
 obtain ⟨K, hKe⟩ : ∃ K, 67108864 = K := ⟨_, rfl⟩
 have hKK : K ≤ 67108864 := by omega
 have hK0 : 0 < K := by omega
 have HNaa := Lib.hid (fun w' (b : Below w.heap.size w w') => haa.below b)
 obtain ⟨xaa, hxaa, hxwaa⟩ := haa.2
 have HXaa := Lib.hid hxaa
 have HZaa : Hid (SzQ K r) := zaB haa qaa hKe
 have HZaap : Hid (Sz K r.num.natAbs) := HZaa.out.num
 have HZaaq : Hid (Sz K xaa) := zap HZaa.out.den hxaa
 have HNaap := Lib.hid (fun w' (b : Below w.heap.size w w') => haa.1.below b)
 have HNaaq := Lib.hid (fun w' (b : Below w.heap.size w w') => hxwaa.below b)
 clear haa qaa hxaa hxwaa
 clear hT hKe
 go_enter Tryd.func20, Tryd.ntmps20
 have hB := Below.refl w.heap.size w
 obtain ⟨bx1, bx2, bx3, bz⟩ := zaQ w 33 29 #[.bool baa, .slice Baa maa daa, .slice Eaa uaa vaa] #[.slice none 0 0]
 have hB := zab hB bx1
 obtain ⟨g1, e1, i1⟩ := bx2.c3
 have k2 := bx3
 clear bx1 bx2 bx3 bz
 go_wp2_with fail
 generalize (w.alloc (.cells #[.bool baa, .slice Baa maa daa, .slice Eaa uaa vaa] 33)).alloc (.cells #[.slice none 0 0] 29) = W1 at *
 have HZ3 : Hid (Sz (K) (r.den)) := SzQ.den HZaa.out
 (with_reducible refine (zbt (r) baa Baa maa daa Eaa uaa vaa _ (HT.out _ hB) (HNaa.out _ hB) (SzQ.fit HZaa.out (HNaa.out _ hB) (by omega))).mono ?_)
 rintro e wc2 ⟨B3, m3, d3, rfl, hw3, hb⟩
 have hB := zab hB hb
 have g1 := zaa hb g1
 have e1 := zaa hb e1
 have i1 := zaa hb i1
 have k2 := zac hb k2
 have HN3 := Lib.hid hw3
 clear hb hw3
 go_wp2_with fail
 have HZ4 : Hid (Sz (K) (r.den)) := HZ3.out
 (with_reducible refine (zfP (r.den) B3 m3 d3 _ HN3.out (by have := Sz.words HZ3.out HN3.out; omega)).mono ?_)
 rintro e wc3 ⟨B4, m4, d4, rfl, hw4, hb⟩
 have hB := zab hB hb
 have g1 := zaa hb g1
 have e1 := zaa hb e1
 have i1 := zaa hb i1
 have k2 := zac hb k2
 have HN3 := Lib.hid (HN3.out.below hb)
 have HN4 := Lib.hid hw4
 clear hb hw4
 go_wp2_with fail
 have HZ5 : Hid (Sz (K) (r.den)) := HZ4.out
 (with_reducible refine (of_row (r.den) B4 m4 d4 _ HN4.out (by have := Sz.words HZ4.out HN4.out; omega)).mono ?_)
 rintro e wc4 ⟨B5, m5, d5, rfl, hw5, hb⟩
 have hB := zab hB hb
 have g1 := zaa hb g1
 have e1 := zaa hb e1
 have i1 := zaa hb i1
 have k2 := zac hb k2
 have HN3 := Lib.hid (HN3.out.below hb)
 have HN4 := Lib.hid (HN4.out.below hb)
 have HN5 := Lib.hid hw5
 clear hb hw5
 obtain ⟨sc0, sf0⟩ := st1 k2
 have r0 := (sn1 k2 (.slice B5 m5 d5)).c1
 have HG := Lib.hid (gn1 (HN5.out) k2 hB (by omega))
 go_wp2
 refine bodyPost_ret (v := .agg #[.slice B5 m5 d5]) (by simp [results, Tryd.results20, go_sem, r0]) rfl ?_
 exact HG.out
set_option maxHeartbeats 16000000 in
theorem rat_num (r : Rat) (baa : Bool) (Baa : Option Addr) (maa daa : Nat) (Eaa : Option Addr) (uaa vaa : Nat) (w : World) (hT : zal w) (haa : zam w r baa Baa maa daa Eaa uaa vaa) (qaa : zaF maa uaa) :
  Calls Tryd.prog 17 #[.agg #[.bool baa, .slice Baa maa daa, .slice Eaa uaa vaa]] w (zav w r.num) := by
 have HIC := Lib.hid (intC (T := zal))
 have HGC := Lib.hid gcdC
 have HT := Lib.hid (fun w' (hb : Below w.heap.size w w') => hT.on hb)
 have HTB := HT
 obtain ⟨K, hKe⟩ : ∃ K, 67108864 = K := ⟨_, rfl⟩
 have hKK : K ≤ 67108864 := by omega
 have hK0 : 0 < K := by omega
 have HNaa := Lib.hid (fun w' (b : Below w.heap.size w w') => haa.below b)
 obtain ⟨xaa, hxaa, hxwaa⟩ := haa.2
 have HXaa := Lib.hid hxaa
 have HZaa : Hid (SzQ K r) := zaB haa qaa hKe
 have HZaap : Hid (Sz K r.num.natAbs) := HZaa.out.num
 have HZaaq : Hid (Sz K xaa) := zap HZaa.out.den hxaa
 have HNaap := Lib.hid (fun w' (b : Below w.heap.size w w') => haa.1.below b)
 have HNaaq := Lib.hid (fun w' (b : Below w.heap.size w w') => hxwaa.below b)
 clear haa qaa hxaa hxwaa
 clear hT hKe
 go_enter Tryd.func17, Tryd.ntmps17
 have hB := Below.refl w.heap.size w
 obtain ⟨bx1, bx2, bx3, bz⟩ := zaQ w 33 31 #[.bool baa, .slice Baa maa daa, .slice Eaa uaa vaa] #[.bool false, .slice none 0 0]
 have hB := zab hB bx1
 obtain ⟨g1, e1, i1⟩ := bx2.c3
 have k2 := bx3
 clear bx1 bx2 bx3 bz
 go_wp2_with fail
 generalize (w.alloc (.cells #[.bool baa, .slice Baa maa daa, .slice Eaa uaa vaa] 33)).alloc (.cells #[.bool false, .slice none 0 0] 31) = W1 at *
 have HZ3 : Hid (Sz (K) (r.num).natAbs) := HZaap.out
 (with_reducible refine (zeU (r.num) baa Baa maa daa _ (HT.out _ hB) (HNaap.out _ hB) (by have := Sz.words HZaap.out (HNaap.out _ hB).words; omega)).mono ?_)
 rintro e wc2 ⟨b3, B3, m3, d3, rfl, hw3, hb⟩
 have hB := zab hB hb
 have g1 := zaa hb g1
 have e1 := zaa hb e1
 have i1 := zaa hb i1
 have k2 := zac hb k2
 have HN3 := Lib.hid hw3
 clear hb hw3
 obtain ⟨sc0, sf0, sc1, sf1⟩ := st2 k2 (.bool b3)
 obtain ⟨r0, r1⟩ := (sn2 k2 (.bool b3) (.slice B3 m3 d3)).c2
 have HG := Lib.hid (gi2 (HN3.out) k2 hB (by omega))
 go_wp2
 refine bodyPost_ret (v := .agg #[.bool b3, .slice B3 m3 d3]) (by simp [results, Tryd.results17, go_sem, r0, r1]) rfl ?_
 exact HG.out
set_option maxHeartbeats 16000000 in
theorem zik (r : Rat) (baa : Bool) (Baa : Option Addr) (maa daa : Nat) (Eaa : Option Addr) (uaa vaa : Nat) (w : World) (hT : zal w) (haa : zam w r baa Baa maa daa Eaa uaa vaa) (qaa : zaF maa uaa) (v : Int) (hv : zeC r.num = v) :
  Calls Tryd.prog 10 #[.agg #[.bool baa, .slice Baa maa daa, .slice Eaa uaa vaa]] w (zbA w v) := by
 have HIC := Lib.hid (intC (T := zal))
 have HGC := Lib.hid gcdC
 have HT := Lib.hid (fun w' (hb : Below w.heap.size w w') => hT.on hb)
 have HTB := HT
 obtain ⟨K, hKe⟩ : ∃ K, 67108864 = K := ⟨_, rfl⟩
 have hKK : K ≤ 67108864 := by omega
 have hK0 : 0 < K := by omega
 have HV := Lib.hid hv
 have HNaa := Lib.hid (fun w' (b : Below w.heap.size w w') => haa.below b)
 obtain ⟨xaa, hxaa, hxwaa⟩ := haa.2
 have HXaa := Lib.hid hxaa
 have HZaa : Hid (SzQ K r) := zaB haa qaa hKe
 have HZaap : Hid (Sz K r.num.natAbs) := HZaa.out.num
 have HZaaq : Hid (Sz K xaa) := zap HZaa.out.den hxaa
 have HNaap := Lib.hid (fun w' (b : Below w.heap.size w w') => haa.1.below b)
 have HNaaq := Lib.hid (fun w' (b : Below w.heap.size w w') => hxwaa.below b)
 clear haa qaa hxaa hxwaa
 clear hT hKe hv
 go_enter Tryd.func10, Tryd.ntmps10
 have hB := Below.refl w.heap.size w
 obtain ⟨bx1, bx2, bz⟩ := zaS w 33 #[.bool baa, .slice Baa maa daa, .slice Eaa uaa vaa]
 have hB := zab hB bx1
 obtain ⟨g1, e1, i1⟩ := bx2.c3
 clear bx1 bx2 bz
 go_wp2_with fail
 generalize w.alloc (.cells #[.bool baa, .slice Baa maa daa, .slice Eaa uaa vaa] 33) = W1 at *
 (with_reducible refine (zbh (v := v) (HV.out) (HIC.out.sign (r.num) baa Baa maa daa _ (HT.out _ hB) (HNaap.out _ hB) (by have := Sz.words HZaap.out (HNaap.out _ hB).words; omega))).mono ?_)
 rintro e wc2 ⟨rfl, hb⟩
 have hB := zab hB hb
 have g1 := zaa hb g1
 have e1 := zaa hb e1
 have i1 := zaa hb i1
 clear hb 
 go_wp2
 go_ret
 exact ⟨by first | rfl | simp, hB⟩
theorem zfm (r : Rat) (baa : Bool) (Baa : Option Addr) (maa daa : Nat) (Eaa : Option Addr) (uaa vaa : Nat) (w : World) (hT : zal w) (haa : zam w r baa Baa maa daa Eaa uaa vaa) (qaa : zaF maa uaa) :
  Calls Tryd.prog 10 #[.agg #[.bool baa, .slice Baa maa daa, .slice Eaa uaa vaa]] w (zbA w (sgnQ r)) := by
 exact zik r baa Baa maa daa Eaa uaa vaa w hT haa qaa (sgnQ r) rfl
set_option maxHeartbeats 16000000 in
theorem zin (r : Rat) (baa : Bool) (Baa : Option Addr) (maa daa : Nat) (Eaa : Option Addr) (uaa vaa : Nat) (w : World) (hT : zal w) (haa : zam w r baa Baa maa daa Eaa uaa vaa) (qaa : zaF maa uaa) (h0 : r = 0) :
  Calls Tryd.prog 13 #[.agg #[.bool baa, .slice Baa maa daa, .slice Eaa uaa vaa]] w (fun e w' => e = .returned (.bool true) ∧ Below w.heap.size w w') := by
 have HIC := Lib.hid (intC (T := zal))
 have HGC := Lib.hid gcdC
 have HT := Lib.hid (fun w' (hb : Below w.heap.size w w') => hT.on hb)
 have HTB := HT
 obtain ⟨K, hKe⟩ : ∃ K, 67108864 = K := ⟨_, rfl⟩
 have hKK : K ≤ 67108864 := by omega
 have hK0 : 0 < K := by omega
 have HNaa := Lib.hid (fun w' (b : Below w.heap.size w w') => haa.below b)
 obtain ⟨xaa, hxaa, hxwaa⟩ := haa.2
 have HXaa := Lib.hid hxaa
 have HZaa : Hid (SzQ K r) := zaB haa qaa hKe
 have HZaap : Hid (Sz K r.num.natAbs) := HZaa.out.num
 have HZaaq : Hid (Sz K xaa) := zap HZaa.out.den hxaa
 have HNaap := Lib.hid (fun w' (b : Below w.heap.size w w') => haa.1.below b)
 have HNaaq := Lib.hid (fun w' (b : Below w.heap.size w w') => hxwaa.below b)
 clear haa qaa hxaa hxwaa
 have HV : Hid (sgnQ r = 0) := by show _ = _; rw [h0]; rfl
 clear hT hKe h0
 go_enter Tryd.func13, Tryd.ntmps13
 have hB := Below.refl w.heap.size w
 obtain ⟨bx1, bx2, bz⟩ := zaS w 33 #[.bool baa, .slice Baa maa daa, .slice Eaa uaa vaa]
 have hB := zab hB bx1
 obtain ⟨g1, e1, i1⟩ := bx2.c3
 clear bx1 bx2 bz
 go_wp2_with fail
 generalize w.alloc (.cells #[.bool baa, .slice Baa maa daa, .slice Eaa uaa vaa] 33) = W1 at *
 (with_reducible refine (zbh (v := 0) (HV.out) (zfm (r) baa Baa maa daa Eaa uaa vaa _ (HT.out _ hB) (HNaa.out _ hB) (SzQ.fit HZaa.out (HNaa.out _ hB) (by omega)))).mono ?_)
 rintro e wc2 ⟨rfl, hb⟩
 have hB := zab hB hb
 have g1 := zaa hb g1
 have e1 := zaa hb e1
 have i1 := zaa hb i1
 clear hb 
 go_wp2
 go_ret
 exact ⟨by first | rfl | simp, hB⟩
set_option maxHeartbeats 16000000 in
theorem zif (r : Rat) (baa : Bool) (Baa : Option Addr) (maa daa : Nat) (Eaa : Option Addr) (uaa vaa : Nat) (w : World) (hT : zal w) (haa : zam w r baa Baa maa daa Eaa uaa vaa) (qaa : zaF maa uaa) (h0 : r ≠ 0) :
  Calls Tryd.prog 13 #[.agg #[.bool baa, .slice Baa maa daa, .slice Eaa uaa vaa]] w (fun e w' => e = .returned (.bool false) ∧ Below w.heap.size w w') := by
 have HIC := Lib.hid (intC (T := zal))
 have HGC := Lib.hid gcdC
 have HT := Lib.hid (fun w' (hb : Below w.heap.size w w') => hT.on hb)
 have HTB := HT
 obtain ⟨K, hKe⟩ : ∃ K, 67108864 = K := ⟨_, rfl⟩
 have hKK : K ≤ 67108864 := by omega
 have hK0 : 0 < K := by omega
 have HNaa := Lib.hid (fun w' (b : Below w.heap.size w w') => haa.below b)
 obtain ⟨xaa, hxaa, hxwaa⟩ := haa.2
 have HXaa := Lib.hid hxaa
 have HZaa : Hid (SzQ K r) := zaB haa qaa hKe
 have HZaap : Hid (Sz K r.num.natAbs) := HZaa.out.num
 have HZaaq : Hid (Sz K xaa) := zap HZaa.out.den hxaa
 have HNaap := Lib.hid (fun w' (b : Below w.heap.size w w') => haa.1.below b)
 have HNaaq := Lib.hid (fun w' (b : Below w.heap.size w w') => hxwaa.below b)
 clear haa qaa hxaa hxwaa
 obtain ⟨sg, hsg⟩ : ∃ s, sgnQ r = s := ⟨_, rfl⟩
 have HV := Lib.hid hsg
 have kb1 : (sg == 0) = false := by
  rw [beq_eq_false_iff_ne]
  intro h9
  rw [h9] at hsg
  refine h0 (Rat.num_eq_zero.1 ?_)
  unfold sgnQ zeC at hsg
  split at hsg
  ·omega
  ·split at hsg <;> omega
 clear hT hKe h0 hsg
 go_enter Tryd.func13, Tryd.ntmps13
 have hB := Below.refl w.heap.size w
 obtain ⟨bx1, bx2, bz⟩ := zaS w 33 #[.bool baa, .slice Baa maa daa, .slice Eaa uaa vaa]
 have hB := zab hB bx1
 obtain ⟨g1, e1, i1⟩ := bx2.c3
 clear bx1 bx2 bz
 go_wp2_with fail
 generalize w.alloc (.cells #[.bool baa, .slice Baa maa daa, .slice Eaa uaa vaa] 33) = W1 at *
 (with_reducible refine (zbh (v := sg) (HV.out) (zfm (r) baa Baa maa daa Eaa uaa vaa _ (HT.out _ hB) (HNaa.out _ hB) (SzQ.fit HZaa.out (HNaa.out _ hB) (by omega)))).mono ?_)
 rintro e wc2 ⟨rfl, hb⟩
 have hB := zab hB hb
 have g1 := zaa hb g1
 have e1 := zaa hb e1
 have i1 := zaa hb i1
 clear hb 
 go_wp2
 go_ret
 exact ⟨by first | rfl | simp, hB⟩
theorem zbe (r : Rat) (baa : Bool) (Baa : Option Addr) (maa daa : Nat) (Eaa : Option Addr) (uaa vaa : Nat) (w : World) (hT : zal w) (haa : zam w r baa Baa maa daa Eaa uaa vaa) (qaa : zaF maa uaa) :
  Calls Tryd.prog 13 #[.agg #[.bool baa, .slice Baa maa daa, .slice Eaa uaa vaa]] w (fun e w' => e = .returned (.bool (decide (r = 0))) ∧ Below w.heap.size w w') := by
 by_cases h0 : r = 0
 ·rw [decide_eq_true h0]; exact zin r baa Baa maa daa Eaa uaa vaa w hT haa qaa h0
 ·rw [decide_eq_false h0]; exact zif r baa Baa maa daa Eaa uaa vaa w hT haa qaa h0
end Go.Proofs.YtgigccjiblaefaaDoor
