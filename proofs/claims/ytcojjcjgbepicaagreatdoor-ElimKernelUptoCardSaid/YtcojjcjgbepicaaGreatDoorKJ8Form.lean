/- What this claim leans on. -/
import Derived.Test.YtcojjcjgbepicaaGreatDoorKJ8Lib
namespace Go.Proofs.YtcojjcjgbepicaaGreatDoor
open Go Go.RowKit
set_option maxHeartbeats 16000000
set_option maxRecDepth 100000
set_option linter.unusedVariables false
set_option linter.unusedSimpArgs false
theorem zkF (r:Rat)(s:Bool)(x:Nat)(y:Nat)(Baa:oA9)(maa daa:Nat)(Bab:oA9)(mab dab:Nat)(w:World)(hT:zai w)(haa:zad w x Baa maa daa)(hab:zad w y Bab mab dab)(qaa:maa<=268435456)(qab:mab<=268435456)(hn:r.num=zaR s x)(hd:r.den=y)(hy:y=1):
  Calls Tryz.prog 107 #[.bool s,.agg #[.slice Baa maa daa],.agg #[.slice Bab mab dab]] w (zaJ w r):=by
 have HIC:=lh9 (zbH (T:=zai))
 have HT:=lh9 (λw' (hb:Below w.heap.size w w')=>hT.on hb)
 have HTB:=HT
 obtain⟨K,hKe⟩:∃K,268435456=K:=⟨_,rfl⟩
 have hKK:K<=268435456:=by omega
 have hK0:0<K:=by omega
 have HRN:=lh9 hn
 have HRD:Hid (r.den=1):=hd.trans hy
 have HM1:Hid (mab<=1):=len_one hab hy
 have HW1:Hid (((wd y 0:Nat):Int)=1):=by show _=_;rw [hy];rfl
 have HNaa:=lh9 (λw' (b:Below w.heap.size w w')=>haa.below b)
 have HZaa:Hid (Sz K x):=Sz.of_words haa (by omega)
 clear haa qaa
 have HNab:=lh9 (λw' (b:Below w.heap.size w w')=>hab.below b)
 have HZab:Hid (Sz K y):=Sz.of_words hab (by omega)
 clear hab qab
 clear hT hKe hn hd hy
 go_enter Tryz.func107,Tryz.ntmps107
 have hB:=Below.refl w.heap.size w
 have kk2:=(zbA w 49 49 53 #[.slice Baa maa daa] #[.slice Bab mab dab] #[.bool false,.slice none 0 0,.slice none 0 0]).2.2.1
 obtain⟨bx1,bx2,bx3,bx4,bz⟩:=zbA w 49 49 53 #[.slice Baa maa daa] #[.slice Bab mab dab] #[.bool false,.slice none 0 0,.slice none 0 0]
 have hB:=zaa hB bx1
 have g1:=bx2.c1
 have g2:=bx3.c1
 have k3:=bx4
 clear bx1 bx2 bx3 bx4 bz
 go_wp2_with fail
 generalize ((w.alloc (.cells #[.slice Baa maa daa] 49)).alloc (.cells #[.slice Bab mab dab] 49)).alloc (.cells #[.bool false,.slice none 0 0,.slice none 0 0] 53)=W1 at*
 have k2:=kk2
 clear kk2
 (with_reducible refine(zop (HW1.out) (zcV (y) Bab mab dab _ (HNab.out _ hB) HM1.out)).mono ?_)
 rintro e wc2 ⟨rfl,hb⟩
 have hB:=zaa hB hb
 have g1:=zac hb g1
 have g2:=zac hb g2
 have k3:=zab hb k3
 have k2:=zab hb k2
 clear hb 
 have HN4:=lh9 (zeO wc2)
 obtain⟨sc0,sf0⟩:=st1 k2
 have kz0:=sn1 k2 (.slice none 0 0)
 have g1:=zag (q:=⟨w.heap.size+1,0,none⟩) (.slice none 0 0) (by show w.heap.size≠w.heap.size+1;omega) (g1)
 have k3:=Blk.far (p:=⟨w.heap.size+1,0,none⟩) (k3) (by show w.heap.size+1+1≠w.heap.size+1;omega) (.slice none 0 0)
 have HN4:=lh9 (zat HN4.out k2 (NoU.s1 _ _ _) (zbS _ _ (.slice none 0 0)))
 have hB:=bl1 (.slice none 0 0) (by show w.heap.size<=w.heap.size+1;omega) hB
 have g2:(wc2.setCell ⟨w.heap.size+1,0,none⟩ (.slice none 0 0)).cell? ⟨w.heap.size+1,0,none⟩=some (.slice none 0 0):=kz0.cell 0
 have k2:=kz0
 go_wp2_with fail
 clear sc0 sf0 kz0
 generalize wc2.setCell ⟨w.heap.size+1,0,none⟩ (.slice none 0 0)=W3 at*
 go_wp2_with fail
 have HZ5:Hid (Sz (K) (zaR s x).natAbs):=(by rw [zdM];exact HZaa.out)
 have C0:=lh9 (λw' (h:Below W3.heap.size W3 w')=>HIC.out.new s (x) Baa maa daa w' (HT.out _ (zaa hB h)) (HNaa.out _ (zaa hB h)) (szw HZaa (HNaa.out _ hB)))
 have hBw:=(Below.refl W3.heap.size W3).drew
 refine rg (csc g1 (csc g2 csn)) (λhHeld=>?_)
 refine tk 0 ?_
 refine tk 1 ?_
 refine tk 3 ?_
 refine rc 2 (λK hK=>?_)
 go_simp
 go_at_call 161;(with_reducible refine(C0.out _ hBw).mono ?_);rintro e wa4 ⟨b5,B5,m5,d5,rfl,hw5,hb⟩;have hBw:=zaa hBw hb;refine hK.out _ _ (Cs.below hHeld hb) (λhHeld=>?_);clear hK K hb
 try simp only [sb9]
 refine tk 4 ?_
 obtain⟨sc0,sf0,sc1,sf1,sc2,sf2⟩:=st3 (zab hBw k3) (.bool b5) (.slice B5 m5 d5)
 refine rc 5 (λK hK=>?_)
 go_simp
 refine hK.out _ _ (cs3 (.bool b5) (.slice B5 m5 d5) (.slice none 0 0) hHeld) (λhHeld=>?_);clear hK K
 try simp only [sb9]
 refine rdn ?_
 have hB:=zaa hB hBw
 have g1:=zac hBw g1
 have k3:=zab hBw k3
 have k2:=zab hBw k2
 have HN4:=lh9 (HN4.out.below hBw)
 have g2:=zac hBw g2
 have HN5:=lh9 hw5
 clear hBw hHeld hw5 C0
 obtain⟨r0,r1,r2⟩:=(sn3 k3 (.bool b5) (.slice B5 m5 d5) (.slice none 0 0)).c3
 have HG:=lh9 (gq3 (zpq HRN.out HRD.out HN5.out HN4.out) k3 hB (by omega))
 go_wp2
 refine bodyPost_ret (v:=.agg #[.bool b5,.slice B5 m5 d5,.slice none 0 0]) (by simp [results,Tryz.results107,go_sem,r0,r1,r2]) rfl ?_
 exact HG.out
theorem zkG (r:Rat)(s:Bool)(x:Nat)(y:Nat)(Baa:oA9)(maa daa:Nat)(Bab:oA9)(mab dab:Nat)(w:World)(hT:zai w)(haa:zad w x Baa maa daa)(hab:zad w y Bab mab dab)(qaa:maa<=268435456)(qab:mab<=268435456)(hn:r.num=zaR s x)(hd:r.den=y)(hy:y≠1)(hm:mab<=1):
  Calls Tryz.prog 107 #[.bool s,.agg #[.slice Baa maa daa],.agg #[.slice Bab mab dab]] w (zaJ w r):=by
 have HIC:=lh9 (zbH (T:=zai))
 have HT:=lh9 (λw' (hb:Below w.heap.size w w')=>hT.on hb)
 have HTB:=HT
 obtain⟨K,hKe⟩:∃K,268435456=K:=⟨_,rfl⟩
 have hKK:K<=268435456:=by omega
 have hK0:0<K:=by omega
 have HRN:=lh9 hn
 have HRD:=lh9 hd
 have HY:=lh9 hy
 have HM1:=lh9 hm
 have HW1:Hid (((wd y 0:Nat):Int)=(y:Int)):=by show _=_;rw [wd0 (zoU hab hm)]
 have kb1:((y:Int)==1)=false:=by rw [beq_eq_false_iff_ne];omega
 have HNaa:=lh9 (λw' (b:Below w.heap.size w w')=>haa.below b)
 have HZaa:Hid (Sz K x):=Sz.of_words haa (by omega)
 clear haa qaa
 have HNab:=lh9 (λw' (b:Below w.heap.size w w')=>hab.below b)
 have HZab:Hid (Sz K y):=Sz.of_words hab (by omega)
 clear hab qab
 clear hT hKe hn hd hy hm
 go_enter Tryz.func107,Tryz.ntmps107
 have hB:=Below.refl w.heap.size w
 have kk2:=(zbA w 49 49 53 #[.slice Baa maa daa] #[.slice Bab mab dab] #[.bool false,.slice none 0 0,.slice none 0 0]).2.2.1
 obtain⟨bx1,bx2,bx3,bx4,bz⟩:=zbA w 49 49 53 #[.slice Baa maa daa] #[.slice Bab mab dab] #[.bool false,.slice none 0 0,.slice none 0 0]
 have hB:=zaa hB bx1
 have g1:=bx2.c1
 have g2:=bx3.c1
 have k3:=bx4
 clear bx1 bx2 bx3 bx4 bz
 go_wp2_with fail
 generalize ((w.alloc (.cells #[.slice Baa maa daa] 49)).alloc (.cells #[.slice Bab mab dab] 49)).alloc (.cells #[.bool false,.slice none 0 0,.slice none 0 0] 53)=W1 at*
 have k2:=kk2
 clear kk2
 (with_reducible refine(zop (HW1.out) (zcV (y) Bab mab dab _ (HNab.out _ hB) HM1.out)).mono ?_)
 rintro e wc2 ⟨rfl,hb⟩
 have hB:=zaa hB hb
 have g1:=zac hb g1
 have g2:=zac hb g2
 have k3:=zab hb k3
 have k2:=zab hb k2
 clear hb 
 go_wp2_with fail
 have HZ4:Hid (Sz (K) (zaR s x).natAbs):=(by rw [zdM];exact HZaa.out)
 have C0:=lh9 (λw' (h:Below wc2.heap.size wc2 w')=>HIC.out.new s (x) Baa maa daa w' (HT.out _ (zaa hB h)) (HNaa.out _ (zaa hB h)) (szw HZaa (HNaa.out _ hB)))
 have hBw:=(Below.refl wc2.heap.size wc2).drew
 refine rg (csc g1 (csc g2 csn)) (λhHeld=>?_)
 refine tk 0 ?_
 refine tk 1 ?_
 refine tk 3 ?_
 refine rc 2 (λK hK=>?_)
 go_simp
 go_at_call 161;(with_reducible refine(C0.out _ hBw).mono ?_);rintro e wa3 ⟨b4,B4,m4,d4,rfl,hw4,hb⟩;have hBw:=zaa hBw hb;refine hK.out _ _ (Cs.below hHeld hb) (λhHeld=>?_);clear hK K hb
 try simp only [sb9]
 refine tk 4 ?_
 obtain⟨sc0,sf0,sc1,sf1,sc2,sf2⟩:=st3 (zab hBw k3) (.bool b4) (.slice B4 m4 d4)
 refine rc 5 (λK hK=>?_)
 go_simp
 refine hK.out _ _ (cs3 (.bool b4) (.slice B4 m4 d4) (.slice Bab mab dab) hHeld) (λhHeld=>?_);clear hK K
 try simp only [sb9]
 refine rdn ?_
 have hB:=zaa hB hBw
 have g1:=zac hBw g1
 have g2:=zac hBw g2
 have k3:=zab hBw k3
 have k2:=zab hBw k2
 have HN4:=lh9 hw4
 clear hBw hHeld hw4 C0
 obtain⟨r0,r1,r2⟩:=(sn3 k3 (.bool b4) (.slice B4 m4 d4) (.slice Bab mab dab)).c3
 have HG:=lh9 (gq3 (ziP HRN.out HRD.out HY.out HN4.out (HNab.out _ hB)) k3 hB (by omega))
 go_wp2
 refine bodyPost_ret (v:=.agg #[.bool b4,.slice B4 m4 d4,.slice Bab mab dab]) (by simp [results,Tryz.results107,go_sem,r0,r1,r2]) rfl ?_
 exact HG.out
theorem zkH (r:Rat)(s:Bool)(x:Nat)(y:Nat)(Baa:oA9)(maa daa:Nat)(Bab:oA9)(mab dab:Nat)(w:World)(hT:zai w)(haa:zad w x Baa maa daa)(hab:zad w y Bab mab dab)(qaa:maa<=268435456)(qab:mab<=268435456)(hn:r.num=zaR s x)(hd:r.den=y)(hy:y≠1)(hm:1<mab):
  Calls Tryz.prog 107 #[.bool s,.agg #[.slice Baa maa daa],.agg #[.slice Bab mab dab]] w (zaJ w r):=by
 have HIC:=lh9 (zbH (T:=zai))
 have HT:=lh9 (λw' (hb:Below w.heap.size w w')=>hT.on hb)
 have HTB:=HT
 obtain⟨K,hKe⟩:∃K,268435456=K:=⟨_,rfl⟩
 have hKK:K<=268435456:=by omega
 have hK0:0<K:=by omega
 have HRN:=lh9 hn
 have HRD:=lh9 hd
 have HY:=lh9 hy
 have HM1:=lh9 hm
 have HNaa:=lh9 (λw' (b:Below w.heap.size w w')=>haa.below b)
 have HZaa:Hid (Sz K x):=Sz.of_words haa (by omega)
 clear haa qaa
 have HNab:=lh9 (λw' (b:Below w.heap.size w w')=>hab.below b)
 have HZab:Hid (Sz K y):=Sz.of_words hab (by omega)
 clear hab qab
 clear hT hKe hn hd hy hm
 go_enter Tryz.func107,Tryz.ntmps107
 have hB:=Below.refl w.heap.size w
 have kk2:=(zbA w 49 49 53 #[.slice Baa maa daa] #[.slice Bab mab dab] #[.bool false,.slice none 0 0,.slice none 0 0]).2.2.1
 obtain⟨bx1,bx2,bx3,bx4,bz⟩:=zbA w 49 49 53 #[.slice Baa maa daa] #[.slice Bab mab dab] #[.bool false,.slice none 0 0,.slice none 0 0]
 have hB:=zaa hB bx1
 have g1:=bx2.c1
 have g2:=bx3.c1
 have k3:=bx4
 clear bx1 bx2 bx3 bx4 bz
 go_wp2_with fail
 generalize ((w.alloc (.cells #[.slice Baa maa daa] 49)).alloc (.cells #[.slice Bab mab dab] 49)).alloc (.cells #[.bool false,.slice none 0 0,.slice none 0 0] 53)=W1 at*
 have k2:=kk2
 clear kk2
 (with_reducible refine(zcG Bab mab dab _ HM1.out).mono ?_)
 rintro e wc2 ⟨rfl,hb⟩
 have hB:=zaa hB hb
 have g1:=zac hb g1
 have g2:=zac hb g2
 have k3:=zab hb k3
 have k2:=zab hb k2
 clear hb 
 go_wp2_with fail
 have HZ4:Hid (Sz (K) (zaR s x).natAbs):=(by rw [zdM];exact HZaa.out)
 have C0:=lh9 (λw' (h:Below wc2.heap.size wc2 w')=>HIC.out.new s (x) Baa maa daa w' (HT.out _ (zaa hB h)) (HNaa.out _ (zaa hB h)) (szw HZaa (HNaa.out _ hB)))
 have hBw:=(Below.refl wc2.heap.size wc2).drew
 refine rg (csc g1 (csc g2 csn)) (λhHeld=>?_)
 refine tk 0 ?_
 refine tk 1 ?_
 refine tk 3 ?_
 refine rc 2 (λK hK=>?_)
 go_simp
 go_at_call 161;(with_reducible refine(C0.out _ hBw).mono ?_);rintro e wa3 ⟨b4,B4,m4,d4,rfl,hw4,hb⟩;have hBw:=zaa hBw hb;refine hK.out _ _ (Cs.below hHeld hb) (λhHeld=>?_);clear hK K hb
 try simp only [sb9]
 refine tk 4 ?_
 obtain⟨sc0,sf0,sc1,sf1,sc2,sf2⟩:=st3 (zab hBw k3) (.bool b4) (.slice B4 m4 d4)
 refine rc 5 (λK hK=>?_)
 go_simp
 refine hK.out _ _ (cs3 (.bool b4) (.slice B4 m4 d4) (.slice Bab mab dab) hHeld) (λhHeld=>?_);clear hK K
 try simp only [sb9]
 refine rdn ?_
 have hB:=zaa hB hBw
 have g1:=zac hBw g1
 have g2:=zac hBw g2
 have k3:=zab hBw k3
 have k2:=zab hBw k2
 have HN4:=lh9 hw4
 clear hBw hHeld hw4 C0
 obtain⟨r0,r1,r2⟩:=(sn3 k3 (.bool b4) (.slice B4 m4 d4) (.slice Bab mab dab)).c3
 have HG:=lh9 (gq3 (ziP HRN.out HRD.out HY.out HN4.out (HNab.out _ hB)) k3 hB (by omega))
 go_wp2
 refine bodyPost_ret (v:=.agg #[.bool b4,.slice B4 m4 d4,.slice Bab mab dab]) (by simp [results,Tryz.results107,go_sem,r0,r1,r2]) rfl ?_
 exact HG.out
theorem zdK (r:Rat)(s:Bool)(x:Nat)(y:Nat)(Baa:oA9)(maa daa:Nat)(Bab:oA9)(mab dab:Nat)(w:World)(hT:zai w)(haa:zad w x Baa maa daa)(hab:zad w y Bab mab dab)(qaa:maa<=268435456)(qab:mab<=268435456)(hn:r.num=zaR s x)(hd:r.den=y):
  Calls Tryz.prog 107 #[.bool s,.agg #[.slice Baa maa daa],.agg #[.slice Bab mab dab]] w (zaJ w r):=by
 by_cases hy:y=1
 ·exact zkF r s x y Baa maa daa Bab mab dab w hT haa hab qaa qab hn hd hy
 ·by_cases hm:mab<=1
  ·exact zkG r s x y Baa maa daa Bab mab dab w hT haa hab qaa qab hn hd hy hm
  ·exact zkH r s x y Baa maa daa Bab mab dab w hT haa hab qaa qab hn hd hy (by omega)
