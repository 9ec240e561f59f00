/- What this claim leans on. -/
import Derived.Test.YtgigccjiblaefaaGreatDoorOJ8Ord
namespace Go.Proofs.YtgigccjiblaefaaGreatDoor
open Go Go.RowKit
set_option maxHeartbeats 16000000
set_option maxRecDepth 100000
set_option linter.unusedVariables false
set_option linter.unusedSimpArgs false
theorem zlO (r : Rat) (s : Rat) (baa : Bool) (Baa : oA9) (maa daa : Nat) (Eaa : oA9) (uaa vaa : Nat) (bab : Bool) (Bab : oA9) (mab dab : Nat) (Eab : oA9) (uab vab : Nat) (w : World) (hT : zao w) (haa : zam w r baa Baa maa daa Eaa uaa vaa) (hab : zam w s bab Bab mab dab Eab uab vab) (qaa : zaG maa uaa) (qab : zaG mab uab) (h0 : zce s r < 0) :
  Calls Tryz.prog 39 #[.agg #[.bool baa,.slice Baa maa daa,.slice Eaa uaa vaa],.agg #[.bool bab,.slice Bab mab dab,.slice Eab uab vab]] w (zaV w (zdP r s)) := by
 have HIC := lh9 (intC (T := zao))
 have HGC := lh9 gcdC
 have HT := lh9 (fun w' (hb : Below w.heap.size w w') => hT.on hb)
 have HTB := HT
 obtain ⟨K,hKe⟩ : ∃ K,67108864 = K := ⟨_,rfl⟩
 have hKK : K ≤ 67108864 := by omega
 have hK0 : 0 < K := by omega
 obtain ⟨c,hc⟩ : ∃ c,zce s r = c := ⟨_,rfl⟩
 have HC := lh9 hc
 have hcc : zce r s = -c := by rw [zfd,hc]
 have HE : Hid (s = zdP r s) := by show _ = _; unfold zdP; rw [if_neg (by omega)]
 rw [hc] at h0
 have hd1 : decide (c < 0) = true := by simp; omega
 clear hc hcc
 have HNaa := lh9 (fun w' (b : Below w.heap.size w w') => haa.below b)
 obtain ⟨xaa,hxaa,hxwaa⟩ := haa.2
 have HXaa := lh9 hxaa
 have HZaa : Hid (SzQ K r) := zaF haa qaa hKe
 have HZaap : Hid (Sz K r.num.natAbs) := HZaa.out.num
 have HZaaq : Hid (Sz K xaa) := zar HZaa.out.den hxaa
 have HNaap := lh9 (fun w' (b : Below w.heap.size w w') => haa.1.below b)
 have HNaaq := lh9 (fun w' (b : Below w.heap.size w w') => hxwaa.below b)
 clear haa qaa hxaa hxwaa
 have HNab := lh9 (fun w' (b : Below w.heap.size w w') => hab.below b)
 obtain ⟨xab,hxab,hxwab⟩ := hab.2
 have HXab := lh9 hxab
 have HZab : Hid (SzQ K s) := zaF hab qab hKe
 have HZabp : Hid (Sz K s.num.natAbs) := HZab.out.num
 have HZabq : Hid (Sz K xab) := zar HZab.out.den hxab
 have HNabp := lh9 (fun w' (b : Below w.heap.size w w') => hab.1.below b)
 have HNabq := lh9 (fun w' (b : Below w.heap.size w w') => hxwab.below b)
 clear hab qab hxab hxwab
 clear hT hKe h0
 go_enter Tryz.func39,Tryz.ntmps39
 have hB := Below.refl w.heap.size w
 obtain ⟨bx1,bx2,bx3,bx4,bz⟩ := zbl w 31 31 31 #[.bool baa,.slice Baa maa daa,.slice Eaa uaa vaa] #[.bool bab,.slice Bab mab dab,.slice Eab uab vab] #[.bool false,.slice none 0 0,.slice none 0 0]
 have hB := zad hB bx1
 obtain ⟨g1,e1,i1⟩ := bx2.c3
 obtain ⟨g2,e2,i2⟩ := bx3.c3
 have k3 := bx4
 clear bx1 bx2 bx3 bx4 bz
 go_wp2_with fail
 generalize ((w.alloc (.cells #[.bool baa,.slice Baa maa daa,.slice Eaa uaa vaa] 31)).alloc (.cells #[.bool bab,.slice Bab mab dab,.slice Eab uab vab] 31)).alloc (.cells #[.bool false,.slice none 0 0,.slice none 0 0] 31) = W1 at *
 (with_reducible refine (zaZ (v := c) (HC.out) (zeT (s) (r) bab Bab mab dab Eab uab vab baa Baa maa daa Eaa uaa vaa _ (HT.out _ hB) (HNab.out _ hB) (HNaa.out _ hB) (szq HZab (HNab.out _ hB)) (szq HZaa (HNaa.out _ hB)))).mono ?_)
 rintro e wc2 ⟨rfl,hb⟩
 have hB := zad hB hb
 have g1 := zac hb g1
 have e1 := zac hb e1
 have i1 := zac hb i1
 have g2 := zac hb g2
 have e2 := zac hb e2
 have i2 := zac hb i2
 have k3 := zae hb k3
 clear hb 
 go_wp2_with fail
 have HZ4 : Hid (SzQ (K) (s)) := HZab.out
 (with_reducible refine (zcK (s) bab Bab mab dab Eab uab vab _ (HT.out _ hB) (HNab.out _ hB) (szq HZab (HNab.out _ hB))).mono ?_)
 rintro e wc3 ⟨b4,B4,m4,d4,E4,u4,v4,rfl,hw4,hb⟩
 have hB := zad hB hb
 have g1 := zac hb g1
 have e1 := zac hb e1
 have i1 := zac hb i1
 have g2 := zac hb g2
 have e2 := zac hb e2
 have i2 := zac hb i2
 have k3 := zae hb k3
 have HN4 := lh9 hw4
 clear hb hw4
 obtain ⟨sc0,sf0,sc1,sf1,sc2,sf2⟩ := st3 k3 (.bool b4) (.slice B4 m4 d4)
 obtain ⟨r0,r1,r2⟩ := (sn3 k3 (.bool b4) (.slice B4 m4 d4) (.slice E4 u4 v4)).c3
 have HG := lh9 (gq3 (zam.to HE.out HN4.out) k3 hB (by omega))
 go_wp2
 refine bodyPost_ret (v := .agg #[.bool b4,.slice B4 m4 d4,.slice E4 u4 v4]) (by simp [results,Tryz.results39,go_sem,r0,r1,r2]) rfl ?_
 exact HG.out
theorem zle (r : Rat) (s : Rat) (baa : Bool) (Baa : oA9) (maa daa : Nat) (Eaa : oA9) (uaa vaa : Nat) (bab : Bool) (Bab : oA9) (mab dab : Nat) (Eab : oA9) (uab vab : Nat) (w : World) (hT : zao w) (haa : zam w r baa Baa maa daa Eaa uaa vaa) (hab : zam w s bab Bab mab dab Eab uab vab) (qaa : zaG maa uaa) (qab : zaG mab uab) (h0 : ¬ (zce s r < 0)) :
  Calls Tryz.prog 39 #[.agg #[.bool baa,.slice Baa maa daa,.slice Eaa uaa vaa],.agg #[.bool bab,.slice Bab mab dab,.slice Eab uab vab]] w (zaV w (zdP r s)) := by
 have HIC := lh9 (intC (T := zao))
 have HGC := lh9 gcdC
 have HT := lh9 (fun w' (hb : Below w.heap.size w w') => hT.on hb)
 have HTB := HT
 obtain ⟨K,hKe⟩ : ∃ K,67108864 = K := ⟨_,rfl⟩
 have hKK : K ≤ 67108864 := by omega
 have hK0 : 0 < K := by omega
 obtain ⟨c,hc⟩ : ∃ c,zce s r = c := ⟨_,rfl⟩
 have HC := lh9 hc
 have hcc : zce r s = -c := by rw [zfd,hc]
 rw [hc] at h0
 have HE : Hid (r = zdP r s) := by
  show _ = _
  unfold zdP
  rw [if_pos (by omega)]
 have hd1 : decide (c < 0) = false := by simp; omega
 clear hc hcc
 have HNaa := lh9 (fun w' (b : Below w.heap.size w w') => haa.below b)
 obtain ⟨xaa,hxaa,hxwaa⟩ := haa.2
 have HXaa := lh9 hxaa
 have HZaa : Hid (SzQ K r) := zaF haa qaa hKe
 have HZaap : Hid (Sz K r.num.natAbs) := HZaa.out.num
 have HZaaq : Hid (Sz K xaa) := zar HZaa.out.den hxaa
 have HNaap := lh9 (fun w' (b : Below w.heap.size w w') => haa.1.below b)
 have HNaaq := lh9 (fun w' (b : Below w.heap.size w w') => hxwaa.below b)
 clear haa qaa hxaa hxwaa
 have HNab := lh9 (fun w' (b : Below w.heap.size w w') => hab.below b)
 obtain ⟨xab,hxab,hxwab⟩ := hab.2
 have HXab := lh9 hxab
 have HZab : Hid (SzQ K s) := zaF hab qab hKe
 have HZabp : Hid (Sz K s.num.natAbs) := HZab.out.num
 have HZabq : Hid (Sz K xab) := zar HZab.out.den hxab
 have HNabp := lh9 (fun w' (b : Below w.heap.size w w') => hab.1.below b)
 have HNabq := lh9 (fun w' (b : Below w.heap.size w w') => hxwab.below b)
 clear hab qab hxab hxwab
 clear hT hKe h0
 go_enter Tryz.func39,Tryz.ntmps39
 have hB := Below.refl w.heap.size w
 obtain ⟨bx1,bx2,bx3,bx4,bz⟩ := zbl w 31 31 31 #[.bool baa,.slice Baa maa daa,.slice Eaa uaa vaa] #[.bool bab,.slice Bab mab dab,.slice Eab uab vab] #[.bool false,.slice none 0 0,.slice none 0 0]
 have hB := zad hB bx1
 obtain ⟨g1,e1,i1⟩ := bx2.c3
 obtain ⟨g2,e2,i2⟩ := bx3.c3
 have k3 := bx4
 clear bx1 bx2 bx3 bx4 bz
 go_wp2_with fail
 generalize ((w.alloc (.cells #[.bool baa,.slice Baa maa daa,.slice Eaa uaa vaa] 31)).alloc (.cells #[.bool bab,.slice Bab mab dab,.slice Eab uab vab] 31)).alloc (.cells #[.bool false,.slice none 0 0,.slice none 0 0] 31) = W1 at *
 (with_reducible refine (zaZ (v := c) (HC.out) (zeT (s) (r) bab Bab mab dab Eab uab vab baa Baa maa daa Eaa uaa vaa _ (HT.out _ hB) (HNab.out _ hB) (HNaa.out _ hB) (szq HZab (HNab.out _ hB)) (szq HZaa (HNaa.out _ hB)))).mono ?_)
 rintro e wc2 ⟨rfl,hb⟩
 have hB := zad hB hb
 have g1 := zac hb g1
 have e1 := zac hb e1
 have i1 := zac hb i1
 have g2 := zac hb g2
 have e2 := zac hb e2
 have i2 := zac hb i2
 have k3 := zae hb k3
 clear hb 
 go_wp2_with fail
 have HZ4 : Hid (SzQ (K) (r)) := HZaa.out
 (with_reducible refine (zcK (r) baa Baa maa daa Eaa uaa vaa _ (HT.out _ hB) (HNaa.out _ hB) (szq HZaa (HNaa.out _ hB))).mono ?_)
 rintro e wc3 ⟨b4,B4,m4,d4,E4,u4,v4,rfl,hw4,hb⟩
 have hB := zad hB hb
 have g1 := zac hb g1
 have e1 := zac hb e1
 have i1 := zac hb i1
 have g2 := zac hb g2
 have e2 := zac hb e2
 have i2 := zac hb i2
 have k3 := zae hb k3
 have HN4 := lh9 hw4
 clear hb hw4
 obtain ⟨sc0,sf0,sc1,sf1,sc2,sf2⟩ := st3 k3 (.bool b4) (.slice B4 m4 d4)
 obtain ⟨r0,r1,r2⟩ := (sn3 k3 (.bool b4) (.slice B4 m4 d4) (.slice E4 u4 v4)).c3
 have HG := lh9 (gq3 (zam.to HE.out HN4.out) k3 hB (by omega))
 go_wp2
 refine bodyPost_ret (v := .agg #[.bool b4,.slice B4 m4 d4,.slice E4 u4 v4]) (by simp [results,Tryz.results39,go_sem,r0,r1,r2]) rfl ?_
 exact HG.out
theorem rat_min (r s : Rat) (baa : Bool) (Baa : oA9) (maa daa : Nat) (Eaa : oA9) (uaa vaa : Nat) (bab : Bool) (Bab : oA9) (mab dab : Nat) (Eab : oA9) (uab vab : Nat) (w : World) (hT : zao w) (haa : zam w r baa Baa maa daa Eaa uaa vaa) (hab : zam w s bab Bab mab dab Eab uab vab) (qaa : zaG maa uaa) (qab : zaG mab uab) :
  Calls Tryz.prog 39 #[.agg #[.bool baa,.slice Baa maa daa,.slice Eaa uaa vaa],.agg #[.bool bab,.slice Bab mab dab,.slice Eab uab vab]] w (zaV w (zdP r s)) := by
 by_cases h0 : zce s r < 0
 ·exact zlO r s baa Baa maa daa Eaa uaa vaa bab Bab mab dab Eab uab vab w hT haa hab qaa qab h0
 ·exact zle r s baa Baa maa daa Eaa uaa vaa bab Bab mab dab Eab uab vab w hT haa hab qaa qab h0
theorem zlg (r : Rat) (s : Rat) (baa : Bool) (Baa : oA9) (maa daa : Nat) (Eaa : oA9) (uaa vaa : Nat) (bab : Bool) (Bab : oA9) (mab dab : Nat) (Eab : oA9) (uab vab : Nat) (w : World) (hT : zao w) (haa : zam w r baa Baa maa daa Eaa uaa vaa) (hab : zam w s bab Bab mab dab Eab uab vab) (qaa : zaG maa uaa) (qab : zaG mab uab) (h0 : 0 < zce s r) :
  Calls Tryz.prog 40 #[.agg #[.bool baa,.slice Baa maa daa,.slice Eaa uaa vaa],.agg #[.bool bab,.slice Bab mab dab,.slice Eab uab vab]] w (zaV w (zdQ r s)) := by
 have HIC := lh9 (intC (T := zao))
 have HGC := lh9 gcdC
 have HT := lh9 (fun w' (hb : Below w.heap.size w w') => hT.on hb)
 have HTB := HT
 obtain ⟨K,hKe⟩ : ∃ K,67108864 = K := ⟨_,rfl⟩
 have hKK : K ≤ 67108864 := by omega
 have hK0 : 0 < K := by omega
 obtain ⟨c,hc⟩ : ∃ c,zce s r = c := ⟨_,rfl⟩
 have HC := lh9 hc
 have hcc : zce r s = -c := by rw [zfd,hc]
 have HE : Hid (s = zdQ r s) := by show _ = _; unfold zdQ; rw [if_pos (by omega)]
 rw [hc] at h0
 have hd1 : decide (c > 0) = true := by simp; omega
 have hd2 : decide (0 < c) = true := by simp; omega
 clear hc hcc
 have HNaa := lh9 (fun w' (b : Below w.heap.size w w') => haa.below b)
 obtain ⟨xaa,hxaa,hxwaa⟩ := haa.2
 have HXaa := lh9 hxaa
 have HZaa : Hid (SzQ K r) := zaF haa qaa hKe
 have HZaap : Hid (Sz K r.num.natAbs) := HZaa.out.num
 have HZaaq : Hid (Sz K xaa) := zar HZaa.out.den hxaa
 have HNaap := lh9 (fun w' (b : Below w.heap.size w w') => haa.1.below b)
 have HNaaq := lh9 (fun w' (b : Below w.heap.size w w') => hxwaa.below b)
 clear haa qaa hxaa hxwaa
 have HNab := lh9 (fun w' (b : Below w.heap.size w w') => hab.below b)
 obtain ⟨xab,hxab,hxwab⟩ := hab.2
 have HXab := lh9 hxab
 have HZab : Hid (SzQ K s) := zaF hab qab hKe
 have HZabp : Hid (Sz K s.num.natAbs) := HZab.out.num
 have HZabq : Hid (Sz K xab) := zar HZab.out.den hxab
 have HNabp := lh9 (fun w' (b : Below w.heap.size w w') => hab.1.below b)
 have HNabq := lh9 (fun w' (b : Below w.heap.size w w') => hxwab.below b)
 clear hab qab hxab hxwab
 clear hT hKe h0
 go_enter Tryz.func40,Tryz.ntmps40
 have hB := Below.refl w.heap.size w
 obtain ⟨bx1,bx2,bx3,bx4,bz⟩ := zbl w 31 31 31 #[.bool baa,.slice Baa maa daa,.slice Eaa uaa vaa] #[.bool bab,.slice Bab mab dab,.slice Eab uab vab] #[.bool false,.slice none 0 0,.slice none 0 0]
 have hB := zad hB bx1
 obtain ⟨g1,e1,i1⟩ := bx2.c3
 obtain ⟨g2,e2,i2⟩ := bx3.c3
 have k3 := bx4
 clear bx1 bx2 bx3 bx4 bz
 go_wp2_with fail
 generalize ((w.alloc (.cells #[.bool baa,.slice Baa maa daa,.slice Eaa uaa vaa] 31)).alloc (.cells #[.bool bab,.slice Bab mab dab,.slice Eab uab vab] 31)).alloc (.cells #[.bool false,.slice none 0 0,.slice none 0 0] 31) = W1 at *
 (with_reducible refine (zaZ (v := c) (HC.out) (zeT (s) (r) bab Bab mab dab Eab uab vab baa Baa maa daa Eaa uaa vaa _ (HT.out _ hB) (HNab.out _ hB) (HNaa.out _ hB) (szq HZab (HNab.out _ hB)) (szq HZaa (HNaa.out _ hB)))).mono ?_)
 rintro e wc2 ⟨rfl,hb⟩
 have hB := zad hB hb
 have g1 := zac hb g1
 have e1 := zac hb e1
 have i1 := zac hb i1
 have g2 := zac hb g2
 have e2 := zac hb e2
 have i2 := zac hb i2
 have k3 := zae hb k3
 clear hb 
 go_wp2_with fail
 have HZ4 : Hid (SzQ (K) (s)) := HZab.out
 (with_reducible refine (zcK (s) bab Bab mab dab Eab uab vab _ (HT.out _ hB) (HNab.out _ hB) (szq HZab (HNab.out _ hB))).mono ?_)
 rintro e wc3 ⟨b4,B4,m4,d4,E4,u4,v4,rfl,hw4,hb⟩
 have hB := zad hB hb
 have g1 := zac hb g1
 have e1 := zac hb e1
 have i1 := zac hb i1
 have g2 := zac hb g2
 have e2 := zac hb e2
 have i2 := zac hb i2
 have k3 := zae hb k3
 have HN4 := lh9 hw4
 clear hb hw4
 obtain ⟨sc0,sf0,sc1,sf1,sc2,sf2⟩ := st3 k3 (.bool b4) (.slice B4 m4 d4)
 obtain ⟨r0,r1,r2⟩ := (sn3 k3 (.bool b4) (.slice B4 m4 d4) (.slice E4 u4 v4)).c3
 have HG := lh9 (gq3 (zam.to HE.out HN4.out) k3 hB (by omega))
 go_wp2
 refine bodyPost_ret (v := .agg #[.bool b4,.slice B4 m4 d4,.slice E4 u4 v4]) (by simp [results,Tryz.results40,go_sem,r0,r1,r2]) rfl ?_
 exact HG.out
theorem zlH (r : Rat) (s : Rat) (baa : Bool) (Baa : oA9) (maa daa : Nat) (Eaa : oA9) (uaa vaa : Nat) (bab : Bool) (Bab : oA9) (mab dab : Nat) (Eab : oA9) (uab vab : Nat) (w : World) (hT : zao w) (haa : zam w r baa Baa maa daa Eaa uaa vaa) (hab : zam w s bab Bab mab dab Eab uab vab) (qaa : zaG maa uaa) (qab : zaG mab uab) (h0 : ¬ (0 < zce s r)) :
  Calls Tryz.prog 40 #[.agg #[.bool baa,.slice Baa maa daa,.slice Eaa uaa vaa],.agg #[.bool bab,.slice Bab mab dab,.slice Eab uab vab]] w (zaV w (zdQ r s)) := by
 have HIC := lh9 (intC (T := zao))
 have HGC := lh9 gcdC
 have HT := lh9 (fun w' (hb : Below w.heap.size w w') => hT.on hb)
 have HTB := HT
 obtain ⟨K,hKe⟩ : ∃ K,67108864 = K := ⟨_,rfl⟩
 have hKK : K ≤ 67108864 := by omega
 have hK0 : 0 < K := by omega
 obtain ⟨c,hc⟩ : ∃ c,zce s r = c := ⟨_,rfl⟩
 have HC := lh9 hc
 have hcc : zce r s = -c := by rw [zfd,hc]
 rw [hc] at h0
 have HE : Hid (r = zdQ r s) := by
  show _ = _
  unfold zdQ
  by_cases h9 : zce r s ≤ 0
  ·rw [if_pos h9]; exact (zih r s).1 (by omega)
  ·rw [if_neg h9]
 have hd1 : decide (c > 0) = false := by simp; omega
 have hd2 : decide (0 < c) = false := by simp; omega
 clear hc hcc
 have HNaa := lh9 (fun w' (b : Below w.heap.size w w') => haa.below b)
 obtain ⟨xaa,hxaa,hxwaa⟩ := haa.2
 have HXaa := lh9 hxaa
 have HZaa : Hid (SzQ K r) := zaF haa qaa hKe
 have HZaap : Hid (Sz K r.num.natAbs) := HZaa.out.num
 have HZaaq : Hid (Sz K xaa) := zar HZaa.out.den hxaa
 have HNaap := lh9 (fun w' (b : Below w.heap.size w w') => haa.1.below b)
 have HNaaq := lh9 (fun w' (b : Below w.heap.size w w') => hxwaa.below b)
 clear haa qaa hxaa hxwaa
 have HNab := lh9 (fun w' (b : Below w.heap.size w w') => hab.below b)
 obtain ⟨xab,hxab,hxwab⟩ := hab.2
 have HXab := lh9 hxab
 have HZab : Hid (SzQ K s) := zaF hab qab hKe
 have HZabp : Hid (Sz K s.num.natAbs) := HZab.out.num
 have HZabq : Hid (Sz K xab) := zar HZab.out.den hxab
 have HNabp := lh9 (fun w' (b : Below w.heap.size w w') => hab.1.below b)
 have HNabq := lh9 (fun w' (b : Below w.heap.size w w') => hxwab.below b)
 clear hab qab hxab hxwab
 clear hT hKe h0
 go_enter Tryz.func40,Tryz.ntmps40
 have hB := Below.refl w.heap.size w
 obtain ⟨bx1,bx2,bx3,bx4,bz⟩ := zbl w 31 31 31 #[.bool baa,.slice Baa maa daa,.slice Eaa uaa vaa] #[.bool bab,.slice Bab mab dab,.slice Eab uab vab] #[.bool false,.slice none 0 0,.slice none 0 0]
 have hB := zad hB bx1
 obtain ⟨g1,e1,i1⟩ := bx2.c3
 obtain ⟨g2,e2,i2⟩ := bx3.c3
 have k3 := bx4
 clear bx1 bx2 bx3 bx4 bz
 go_wp2_with fail
 generalize ((w.alloc (.cells #[.bool baa,.slice Baa maa daa,.slice Eaa uaa vaa] 31)).alloc (.cells #[.bool bab,.slice Bab mab dab,.slice Eab uab vab] 31)).alloc (.cells #[.bool false,.slice none 0 0,.slice none 0 0] 31) = W1 at *
 (with_reducible refine (zaZ (v := c) (HC.out) (zeT (s) (r) bab Bab mab dab Eab uab vab baa Baa maa daa Eaa uaa vaa _ (HT.out _ hB) (HNab.out _ hB) (HNaa.out _ hB) (szq HZab (HNab.out _ hB)) (szq HZaa (HNaa.out _ hB)))).mono ?_)
 rintro e wc2 ⟨rfl,hb⟩
 have hB := zad hB hb
 have g1 := zac hb g1
 have e1 := zac hb e1
 have i1 := zac hb i1
 have g2 := zac hb g2
 have e2 := zac hb e2
 have i2 := zac hb i2
 have k3 := zae hb k3
 clear hb 
 go_wp2_with fail
 have HZ4 : Hid (SzQ (K) (r)) := HZaa.out
 (with_reducible refine (zcK (r) baa Baa maa daa Eaa uaa vaa _ (HT.out _ hB) (HNaa.out _ hB) (szq HZaa (HNaa.out _ hB))).mono ?_)
 rintro e wc3 ⟨b4,B4,m4,d4,E4,u4,v4,rfl,hw4,hb⟩
 have hB := zad hB hb
 have g1 := zac hb g1
 have e1 := zac hb e1
 have i1 := zac hb i1
 have g2 := zac hb g2
 have e2 := zac hb e2
 have i2 := zac hb i2
 have k3 := zae hb k3
 have HN4 := lh9 hw4
 clear hb hw4
 obtain ⟨sc0,sf0,sc1,sf1,sc2,sf2⟩ := st3 k3 (.bool b4) (.slice B4 m4 d4)
 obtain ⟨r0,r1,r2⟩ := (sn3 k3 (.bool b4) (.slice B4 m4 d4) (.slice E4 u4 v4)).c3
 have HG := lh9 (gq3 (zam.to HE.out HN4.out) k3 hB (by omega))
 go_wp2
 refine bodyPost_ret (v := .agg #[.bool b4,.slice B4 m4 d4,.slice E4 u4 v4]) (by simp [results,Tryz.results40,go_sem,r0,r1,r2]) rfl ?_
 exact HG.out
theorem rat_max (r s : Rat) (baa : Bool) (Baa : oA9) (maa daa : Nat) (Eaa : oA9) (uaa vaa : Nat) (bab : Bool) (Bab : oA9) (mab dab : Nat) (Eab : oA9) (uab vab : Nat) (w : World) (hT : zao w) (haa : zam w r baa Baa maa daa Eaa uaa vaa) (hab : zam w s bab Bab mab dab Eab uab vab) (qaa : zaG maa uaa) (qab : zaG mab uab) :
  Calls Tryz.prog 40 #[.agg #[.bool baa,.slice Baa maa daa,.slice Eaa uaa vaa],.agg #[.bool bab,.slice Bab mab dab,.slice Eab uab vab]] w (zaV w (zdQ r s)) := by
 by_cases h0 : 0 < zce s r
 ·exact zlg r s baa Baa maa daa Eaa uaa vaa bab Bab mab dab Eab uab vab w hT haa hab qaa qab h0
 ·exact zlH r s baa Baa maa daa Eaa uaa vaa bab Bab mab dab Eab uab vab w hT haa hab qaa qab h0
end Go.Proofs.YtgigccjiblaefaaGreatDoor
