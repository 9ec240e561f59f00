/- What this claim leans on. -/
import Derived.Test.YtlgnacmgepnamaaGreatDoorMVPair
import Derived.Test.YtlgnacmgepnamaaGreatDoorMR7Ref
namespace Go.Proofs.YtlgnacmgepnamaaGreatDoor
open Go Go.RowKit
set_option maxHeartbeats 16000000
set_option maxRecDepth 100000
set_option linter.unusedVariables false
set_option linter.unusedSimpArgs false
theorem zkN (r:Rat)(s:Bool)(x:Nat)(y:Nat)(Baa:oA9)(maa daa:Nat)(Bab:oA9)(mab dab:Nat)(w:World)(hT:zao w)(haa:zag w x Baa maa daa)(hab:zag w y Bab mab dab)(qaa:maa<=268435456)(qab:mab<=268435456)(hn:r.num=zbc s x)(hd:r.den=y)(hy:y=1):
  Calls Tryz.prog 128 #[.bool s,.agg #[.slice Baa maa daa],.agg #[.slice Bab mab dab]] w (zaP w r):=by
 have HIC:=lh9 (zbY (T:=zao))
 have HT:=lh9 (λw' (hb:Below w.heap.size w w')=>hT.on hb)
 have HTB:=HT
 obtain⟨K,hKe⟩:∃K,268435456=K:=⟨_,rfl⟩
 have hKK:K<=268435456:=by omega
 have hK0:0<K:=by omega
 have HRN:=lh9 hn
 have HRD:Hid (r.den=1):=hd.trans hy
 have HM1:Hid (mab<=1):=len_one hab hy
 have HW1:Hid (((wd y 0:Nat):Int)=1):=by show _=_;rw [hy];rfl
 have HNaa:=lh9 (λw' (b:Below w.heap.size w w')=>haa.below b)
 have HZaa:Hid (Sz K x):=Sz.of_words haa (by omega)
 clear haa qaa
 have HNab:=lh9 (λw' (b:Below w.heap.size w w')=>hab.below b)
 have HZab:Hid (Sz K y):=Sz.of_words hab (by omega)
 clear hab qab
 clear hT hKe hn hd hy
 go_enter Tryz.func128,Tryz.ntmps128
 have hB:=Below.refl w.heap.size w
 have kk2:=(zbm w 44 44 48 #[.slice Baa maa daa] #[.slice Bab mab dab] #[.bool false,.slice none 0 0,.slice none 0 0]).2.2.1
 obtain⟨bx1,bx2,bx3,bx4,bz⟩:=zbm w 44 44 48 #[.slice Baa maa daa] #[.slice Bab mab dab] #[.bool false,.slice none 0 0,.slice none 0 0]
 have hB:=zac hB bx1
 have g1:=bx2.c1
 have g2:=bx3.c1
 have k3:=bx4
 clear bx1 bx2 bx3 bx4 bz
 go_wp2_with fail
 generalize ((w.alloc (.cells #[.slice Baa maa daa] 44)).alloc (.cells #[.slice Bab mab dab] 44)).alloc (.cells #[.bool false,.slice none 0 0,.slice none 0 0] 48)=W1 at*
 have k2:=kk2
 clear kk2
 (with_reducible refine(zoH (HW1.out) (zcY (y) Bab mab dab _ (HNab.out _ hB) HM1.out)).mono ?_)
 rintro e wc2 ⟨rfl,hb⟩
 have hB:=zac hB hb
 have g1:=zae hb g1
 have g2:=zae hb g2
 have k3:=zad hb k3
 have k2:=zad hb k2
 clear hb 
 have HN4:=lh9 (zeR wc2)
 obtain⟨sc0,sf0⟩:=st1 k2
 have kz0:=sn1 k2 (.slice none 0 0)
 have g1:=zah (q:=⟨w.heap.size+1,0,none⟩) (.slice none 0 0) (by show w.heap.size≠w.heap.size+1;omega) (g1)
 have k3:=Blk.far (p:=⟨w.heap.size+1,0,none⟩) (k3) (by show w.heap.size+1+1≠w.heap.size+1;omega) (.slice none 0 0)
 have HN4:=lh9 (zax HN4.out k2 (NoU.s1 _ _ _) (zbP _ _ (.slice none 0 0)))
 have hB:=bl1 (.slice none 0 0) (by show w.heap.size<=w.heap.size+1;omega) hB
 have g2:(wc2.setCell ⟨w.heap.size+1,0,none⟩ (.slice none 0 0)).cell? ⟨w.heap.size+1,0,none⟩=some (.slice none 0 0):=kz0.cell 0
 have k2:=kz0
 go_wp2_with fail
 clear sc0 sf0 kz0
 generalize wc2.setCell ⟨w.heap.size+1,0,none⟩ (.slice none 0 0)=W3 at*
 go_wp2_with fail
 have HZ5:Hid (Sz (K) (zbc s x).natAbs):=(by rw [zdV];exact HZaa.out)
 have C0:=lh9 (λw' (h:Below W3.heap.size W3 w')=>HIC.out.new s (x) Baa maa daa w' (HT.out _ (zac hB h)) (HNaa.out _ (zac hB h)) (szw HZaa (HNaa.out _ hB)))
 have hBw:=(Below.refl W3.heap.size W3).drew
 refine rg (csc g1 (csc g2 csn)) (λhHeld=>?_)
 refine tk 0 ?_
 refine tk 1 ?_
 refine tk 3 ?_
 refine rc 2 (λK hK=>?_)
 go_simp
 go_at_call 129;(with_reducible refine(C0.out _ hBw).mono ?_);rintro e wa4 ⟨b5,B5,m5,d5,rfl,hw5,hb⟩;have hBw:=zac hBw hb;refine hK.out _ _ (Cs.below hHeld hb) (λhHeld=>?_);clear hK K hb
 try simp only [sb9]
 refine tk 4 ?_
 obtain⟨sc0,sf0,sc1,sf1,sc2,sf2⟩:=st3 (zad hBw k3) (.bool b5) (.slice B5 m5 d5)
 refine rc 5 (λK hK=>?_)
 go_simp
 refine hK.out _ _ (cs3 (.bool b5) (.slice B5 m5 d5) (.slice none 0 0) hHeld) (λhHeld=>?_);clear hK K
 try simp only [sb9]
 refine rdn ?_
 have hB:=zac hB hBw
 have g1:=zae hBw g1
 have k3:=zad hBw k3
 have k2:=zad hBw k2
 have HN4:=lh9 (HN4.out.below hBw)
 have g2:=zae hBw g2
 have HN5:=lh9 hw5
 clear hBw hHeld hw5 C0
 obtain⟨r0,r1,r2⟩:=(sn3 k3 (.bool b5) (.slice B5 m5 d5) (.slice none 0 0)).c3
 have HG:=lh9 (gq3 (zpC HRN.out HRD.out HN5.out HN4.out) k3 hB (by omega))
 go_wp2
 refine bodyPost_ret (v:=.agg #[.bool b5,.slice B5 m5 d5,.slice none 0 0]) (by simp [results,Tryz.results128,go_sem,r0,r1,r2]) rfl ?_
 exact HG.out
theorem zkO (r:Rat)(s:Bool)(x:Nat)(y:Nat)(Baa:oA9)(maa daa:Nat)(Bab:oA9)(mab dab:Nat)(w:World)(hT:zao w)(haa:zag w x Baa maa daa)(hab:zag w y Bab mab dab)(qaa:maa<=268435456)(qab:mab<=268435456)(hn:r.num=zbc s x)(hd:r.den=y)(hy:y≠1)(hm:mab<=1):
  Calls Tryz.prog 128 #[.bool s,.agg #[.slice Baa maa daa],.agg #[.slice Bab mab dab]] w (zaP w r):=by
 have HIC:=lh9 (zbY (T:=zao))
 have HT:=lh9 (λw' (hb:Below w.heap.size w w')=>hT.on hb)
 have HTB:=HT
 obtain⟨K,hKe⟩:∃K,268435456=K:=⟨_,rfl⟩
 have hKK:K<=268435456:=by omega
 have hK0:0<K:=by omega
 have HRN:=lh9 hn
 have HRD:=lh9 hd
 have HY:=lh9 hy
 have HM1:=lh9 hm
 have HW1:Hid (((wd y 0:Nat):Int)=(y:Int)):=by show _=_;rw [wd0 (zpg hab hm)]
 have kb1:((y:Int)==1)=false:=by rw [beq_eq_false_iff_ne];omega
 have HNaa:=lh9 (λw' (b:Below w.heap.size w w')=>haa.below b)
 have HZaa:Hid (Sz K x):=Sz.of_words haa (by omega)
 clear haa qaa
 have HNab:=lh9 (λw' (b:Below w.heap.size w w')=>hab.below b)
 have HZab:Hid (Sz K y):=Sz.of_words hab (by omega)
 clear hab qab
 clear hT hKe hn hd hy hm
 go_enter Tryz.func128,Tryz.ntmps128
 have hB:=Below.refl w.heap.size w
 have kk2:=(zbm w 44 44 48 #[.slice Baa maa daa] #[.slice Bab mab dab] #[.bool false,.slice none 0 0,.slice none 0 0]).2.2.1
 obtain⟨bx1,bx2,bx3,bx4,bz⟩:=zbm w 44 44 48 #[.slice Baa maa daa] #[.slice Bab mab dab] #[.bool false,.slice none 0 0,.slice none 0 0]
 have hB:=zac hB bx1
 have g1:=bx2.c1
 have g2:=bx3.c1
 have k3:=bx4
 clear bx1 bx2 bx3 bx4 bz
 go_wp2_with fail
 generalize ((w.alloc (.cells #[.slice Baa maa daa] 44)).alloc (.cells #[.slice Bab mab dab] 44)).alloc (.cells #[.bool false,.slice none 0 0,.slice none 0 0] 48)=W1 at*
 have k2:=kk2
 clear kk2
 (with_reducible refine(zoH (HW1.out) (zcY (y) Bab mab dab _ (HNab.out _ hB) HM1.out)).mono ?_)
 rintro e wc2 ⟨rfl,hb⟩
 have hB:=zac hB hb
 have g1:=zae hb g1
 have g2:=zae hb g2
 have k3:=zad hb k3
 have k2:=zad hb k2
 clear hb 
 go_wp2_with fail
 have HZ4:Hid (Sz (K) (zbc s x).natAbs):=(by rw [zdV];exact HZaa.out)
 have C0:=lh9 (λw' (h:Below wc2.heap.size wc2 w')=>HIC.out.new s (x) Baa maa daa w' (HT.out _ (zac hB h)) (HNaa.out _ (zac hB h)) (szw HZaa (HNaa.out _ hB)))
 have hBw:=(Below.refl wc2.heap.size wc2).drew
 refine rg (csc g1 (csc g2 csn)) (λhHeld=>?_)
 refine tk 0 ?_
 refine tk 1 ?_
 refine tk 3 ?_
 refine rc 2 (λK hK=>?_)
 go_simp
 go_at_call 129;(with_reducible refine(C0.out _ hBw).mono ?_);rintro e wa3 ⟨b4,B4,m4,d4,rfl,hw4,hb⟩;have hBw:=zac hBw hb;refine hK.out _ _ (Cs.below hHeld hb) (λhHeld=>?_);clear hK K hb
 try simp only [sb9]
 refine tk 4 ?_
 obtain⟨sc0,sf0,sc1,sf1,sc2,sf2⟩:=st3 (zad hBw k3) (.bool b4) (.slice B4 m4 d4)
 refine rc 5 (λK hK=>?_)
 go_simp
 refine hK.out _ _ (cs3 (.bool b4) (.slice B4 m4 d4) (.slice Bab mab dab) hHeld) (λhHeld=>?_);clear hK K
 try simp only [sb9]
 refine rdn ?_
 have hB:=zac hB hBw
 have g1:=zae hBw g1
 have g2:=zae hBw g2
 have k3:=zad hBw k3
 have k2:=zad hBw k2
 have HN4:=lh9 hw4
 clear hBw hHeld hw4 C0
 obtain⟨r0,r1,r2⟩:=(sn3 k3 (.bool b4) (.slice B4 m4 d4) (.slice Bab mab dab)).c3
 have HG:=lh9 (gq3 (ziH HRN.out HRD.out HY.out HN4.out (HNab.out _ hB)) k3 hB (by omega))
 go_wp2
 refine bodyPost_ret (v:=.agg #[.bool b4,.slice B4 m4 d4,.slice Bab mab dab]) (by simp [results,Tryz.results128,go_sem,r0,r1,r2]) rfl ?_
 exact HG.out
theorem zkP (r:Rat)(s:Bool)(x:Nat)(y:Nat)(Baa:oA9)(maa daa:Nat)(Bab:oA9)(mab dab:Nat)(w:World)(hT:zao w)(haa:zag w x Baa maa daa)(hab:zag w y Bab mab dab)(qaa:maa<=268435456)(qab:mab<=268435456)(hn:r.num=zbc s x)(hd:r.den=y)(hy:y≠1)(hm:1<mab):
  Calls Tryz.prog 128 #[.bool s,.agg #[.slice Baa maa daa],.agg #[.slice Bab mab dab]] w (zaP w r):=by
 have HIC:=lh9 (zbY (T:=zao))
 have HT:=lh9 (λw' (hb:Below w.heap.size w w')=>hT.on hb)
 have HTB:=HT
 obtain⟨K,hKe⟩:∃K,268435456=K:=⟨_,rfl⟩
 have hKK:K<=268435456:=by omega
 have hK0:0<K:=by omega
 have HRN:=lh9 hn
 have HRD:=lh9 hd
 have HY:=lh9 hy
 have HM1:=lh9 hm
 have HNaa:=lh9 (λw' (b:Below w.heap.size w w')=>haa.below b)
 have HZaa:Hid (Sz K x):=Sz.of_words haa (by omega)
 clear haa qaa
 have HNab:=lh9 (λw' (b:Below w.heap.size w w')=>hab.below b)
 have HZab:Hid (Sz K y):=Sz.of_words hab (by omega)
 clear hab qab
 clear hT hKe hn hd hy hm
 go_enter Tryz.func128,Tryz.ntmps128
 have hB:=Below.refl w.heap.size w
 have kk2:=(zbm w 44 44 48 #[.slice Baa maa daa] #[.slice Bab mab dab] #[.bool false,.slice none 0 0,.slice none 0 0]).2.2.1
 obtain⟨bx1,bx2,bx3,bx4,bz⟩:=zbm w 44 44 48 #[.slice Baa maa daa] #[.slice Bab mab dab] #[.bool false,.slice none 0 0,.slice none 0 0]
 have hB:=zac hB bx1
 have g1:=bx2.c1
 have g2:=bx3.c1
 have k3:=bx4
 clear bx1 bx2 bx3 bx4 bz
 go_wp2_with fail
 generalize ((w.alloc (.cells #[.slice Baa maa daa] 44)).alloc (.cells #[.slice Bab mab dab] 44)).alloc (.cells #[.bool false,.slice none 0 0,.slice none 0 0] 48)=W1 at*
 have k2:=kk2
 clear kk2
 (with_reducible refine(zcA Bab mab dab _ HM1.out).mono ?_)
 rintro e wc2 ⟨rfl,hb⟩
 have hB:=zac hB hb
 have g1:=zae hb g1
 have g2:=zae hb g2
 have k3:=zad hb k3
 have k2:=zad hb k2
 clear hb 
 go_wp2_with fail
 have HZ4:Hid (Sz (K) (zbc s x).natAbs):=(by rw [zdV];exact HZaa.out)
 have C0:=lh9 (λw' (h:Below wc2.heap.size wc2 w')=>HIC.out.new s (x) Baa maa daa w' (HT.out _ (zac hB h)) (HNaa.out _ (zac hB h)) (szw HZaa (HNaa.out _ hB)))
 have hBw:=(Below.refl wc2.heap.size wc2).drew
 refine rg (csc g1 (csc g2 csn)) (λhHeld=>?_)
 refine tk 0 ?_
 refine tk 1 ?_
 refine tk 3 ?_
 refine rc 2 (λK hK=>?_)
 go_simp
 go_at_call 129;(with_reducible refine(C0.out _ hBw).mono ?_);rintro e wa3 ⟨b4,B4,m4,d4,rfl,hw4,hb⟩;have hBw:=zac hBw hb;refine hK.out _ _ (Cs.below hHeld hb) (λhHeld=>?_);clear hK K hb
 try simp only [sb9]
 refine tk 4 ?_
 obtain⟨sc0,sf0,sc1,sf1,sc2,sf2⟩:=st3 (zad hBw k3) (.bool b4) (.slice B4 m4 d4)
 refine rc 5 (λK hK=>?_)
 go_simp
 refine hK.out _ _ (cs3 (.bool b4) (.slice B4 m4 d4) (.slice Bab mab dab) hHeld) (λhHeld=>?_);clear hK K
 try simp only [sb9]
 refine rdn ?_
 have hB:=zac hB hBw
 have g1:=zae hBw g1
 have g2:=zae hBw g2
 have k3:=zad hBw k3
 have k2:=zad hBw k2
 have HN4:=lh9 hw4
 clear hBw hHeld hw4 C0
 obtain⟨r0,r1,r2⟩:=(sn3 k3 (.bool b4) (.slice B4 m4 d4) (.slice Bab mab dab)).c3
 have HG:=lh9 (gq3 (ziH HRN.out HRD.out HY.out HN4.out (HNab.out _ hB)) k3 hB (by omega))
 go_wp2
 refine bodyPost_ret (v:=.agg #[.bool b4,.slice B4 m4 d4,.slice Bab mab dab]) (by simp [results,Tryz.results128,go_sem,r0,r1,r2]) rfl ?_
 exact HG.out
theorem zgc (r:Rat)(s:Bool)(x:Nat)(y:Nat)(Baa:oA9)(maa daa:Nat)(Bab:oA9)(mab dab:Nat)(w:World)(hT:zao w)(haa:zag w x Baa maa daa)(hab:zag w y Bab mab dab)(qaa:maa<=268435456)(qab:mab<=268435456)(hn:r.num=zbc s x)(hd:r.den=y):
  Calls Tryz.prog 128 #[.bool s,.agg #[.slice Baa maa daa],.agg #[.slice Bab mab dab]] w (zaP w r):=by
 by_cases hy:y=1
 ·exact zkN r s x y Baa maa daa Bab mab dab w hT haa hab qaa qab hn hd hy
 ·by_cases hm:mab<=1
  ·exact zkO r s x y Baa maa daa Bab mab dab w hT haa hab qaa qab hn hd hy hm
  ·exact zkP r s x y Baa maa daa Bab mab dab w hT haa hab qaa qab hn hd hy (by omega)
theorem szh {K B x n c:Nat}{A:oA9}{w:World}(h:Hid (Sz K x))(k:zak w x A n c)(e:4*K<=B:=by omega):n<=B:=Nat.le_trans (h.out.holds' k) e
theorem szr {K B n c:Nat}{z:Int}{b:Bool}{A:oA9}{w:World}(h:Hid (Sz K z.natAbs))(k:zaU w z b A n c)(e:4*K<=B:=by omega):n<=B:=Nat.le_trans (h.out.holds' k.holds) e
theorem zjC {w w':World}{x:Nat}{A:oA9}{n c g:Nat}{t:TypeId}{cs:Array Value}(h:zak w x A n c)(hk:Blk w g t cs)(hcs:NoU cs)(ho:zde g w w'):zak w' x A n c:=⟨zjT h.1 hk hcs ho,h.2⟩
theorem zeO {w w':World}{z:Int}{b:Bool}{A:oA9}{n c g:Nat}{t:TypeId}{cs:Array Value}(h:zaU w z b A n c)(hk:Blk w g t cs)(hcs:NoU cs)(ho:zde g w w'):zaU w' z b A n c:=⟨h.1,zjC h.2 hk hcs ho⟩
theorem zkB {T:World->Prop}(hTb:∀w w',T w->Below w.heap.size w w'->T w')(IC:IntC T)(z:Int)(bp:Bool)(Bp:oA9)(mp dp:Nat)(bq:Bool)(Bq:oA9)(mq dq:Nat)(K:Nat)(hKK:K<=16777216)(w:World)(sz:Sz K z.natAbs)(hp:zaF w z bp Bp mp dp)(hq:zaU w z bq Bq mq dq)(hT:T w)(h:z<0):
  Calls Tryz.prog 95 #[.agg #[.bool bp,.slice Bp mp dp],.agg #[.bool bq,.slice Bq mq dq]] w λe w'=>e=.returned (.bool true)/\Below w.heap.size w w':=by
 have HIC:=lh9 IC
 have HT:=lh9 (λw' (hb:Below w.heap.size w w')=>hTb w w' hT hb)
 have HNp:=lh9 hp
 have HNq:=lh9 hq
 have HZp:=lh9 sz
 have HZq:=lh9 sz
 have Hh:=lh9 h
 clear IC hT hp hq sz h
 go_enter Tryz.func95,Tryz.ntmps95
 have hB:=Below.refl w.heap.size w
 obtain rfl:bq=true:=(HNq.out).1.trans (decide_eq_true (by have:=Hh.out;omega))
 obtain⟨bx1,bx2,bx3,bz⟩:=zbl w 46 92 #[.bool bp,.slice Bp mp dp] #[.bool true,.slice Bq mq dq]
 have hB:=zac hB bx1
 have HNp:=lh9 (HNp.out.below bx1)
 have HNq:=lh9 (HNq.out.below bx1)
 obtain⟨g1,e1⟩:=bx2.c2
 obtain⟨g2,e2⟩:=bx3.c2
 clear bx1 bx2 bx3 bz
 go_wp2_with fail
 generalize (w.alloc (.cells #[.bool bp,.slice Bp mp dp] 46)).alloc (.cells #[.bool true,.slice Bq mq dq] 92)=W1 at*
 have C0:=lh9 (λw' (h:Below W1.heap.size W1 w')=>zgT (b:=true) (decide_eq_true (by have:=Hh.out;omega)) (HIC.out.belowI (z) bp Bp mp dp w' (HT.out _ (zac hB h)) (HNp.out.below h) (by have:=Sz.words HZp.out HNp.out.words;omega)))
 have C1:=lh9 (λw' (h:Below W1.heap.size W1 w')=>zky (v:=-1) ((sgn_neg Hh.out)) (HIC.out.sign (z) bp Bp mp dp w' (HT.out _ (zac hB h)) (HNp.out.below h) (by have:=Sz.words HZp.out HNp.out.words;omega)))
 have HZ3:Hid (Sz (K) (z.natAbs)):=HZp.out
 have C2:=lh9 (λw' (h:Below W1.heap.size W1 w')=>HIC.out.abs (z) bp Bp mp dp w' (HT.out _ (zac hB h)) (HNp.out.below h) (by have:=Sz.words HZp.out HNp.out.words;omega))
 have C3:=lh9 (λw' (h:Below W1.heap.size W1 w') B3 m3 d3 (hw3:zag w' (z.natAbs) B3 m3 d3)=>zdK (z.natAbs) B3 Bq m3 d3 mq dq w' hw3 (HNq.out.below h).2 (by have:=Sz.words HZ3.out hw3;omega) (by have:=Sz.holds' HZq.out HNq.out.2;omega))
 have hBw:=(Below.refl W1.heap.size W1).drew
 refine rg (csc g1 (csc e1 (csc g2 (csc e2 csn)))) (λhHeld=>?_)
 refine tk 0 ?_
 refine tk 2 ?_
 refine tk 3 ?_
 refine rc 1 (λK hK=>?_)
 go_simp
 go_at_call 123;(with_reducible refine(C0.out _ hBw).mono ?_);rintro e wa2 ⟨rfl,hb⟩;have hBw:=zac hBw hb;refine hK.out _ _ (Cs.below hHeld hb) (λhHeld=>?_);clear hK K hb
 try simp only [sb9]
 refine tk 4 ?_
 refine tk 5 ?_
 refine tk 6 ?_
 refine tk 8 ?_
 refine rc 7 (λK hK=>?_)
 go_simp
 go_at_call 108;(with_reducible refine(C1.out _ hBw).mono ?_);rintro e wa3 ⟨rfl,hb⟩;have hBw:=zac hBw hb;refine hK.out _ _ (Cs.below hHeld hb) (λhHeld=>?_);clear hK K hb
 try simp only [sb9]
 refine tk 9 ?_
 refine tk 10 ?_
 refine tk 11 ?_
 refine tk 12 ?_
 refine tk 14 ?_
 refine tk 15 ?_
 refine rc 13 (λK hK=>?_)
 go_simp
 go_at_call 117;(with_reducible refine(C2.out _ hBw).mono ?_);rintro e wa4 ⟨B3,m3,d3,rfl,hw3,hb⟩;have hBw:=zac hBw hb;refine hK.out _ _ (Cs.below hHeld hb) (λhHeld=>?_);clear hK K hb
 try simp only [sb9]
 refine rc 16 (λK hK=>?_)
 go_simp
 go_at_call 96;(with_reducible refine(C3.out _ hBw _ _ _ hw3).mono ?_);rintro e wa5 ⟨rfl,hb⟩;have hBw:=zac hBw hb;have hw3:=hw3.below hb;refine hK.out _ _ (Cs.below hHeld hb) (λhHeld=>?_);clear hK K hb
 try simp only [sb9]
 refine tk 17 ?_
 refine tk 18 ?_
 refine rdn ?_
 have hB:=zac hB hBw
 have g1:=zae hBw g1
 have e1:=zae hBw e1
 have g2:=zae hBw g2
 have e2:=zae hBw e2
 clear hBw hHeld hw3 C0 C1 C2 C3
 go_wp2
 go_ret
 exact⟨by first|rfl|simp,hB⟩
theorem zkz {T:World->Prop}(hTb:∀w w',T w->Below w.heap.size w w'->T w')(IC:IntC T)(z:Int)(bp:Bool)(Bp:oA9)(mp dp:Nat)(bq:Bool)(Bq:oA9)(mq dq:Nat)(K:Nat)(hKK:K<=16777216)(w:World)(sz:Sz K z.natAbs)(hp:zaF w z bp Bp mp dp)(hq:zaU w z bq Bq mq dq)(hT:T w)(h:z=0):
  Calls Tryz.prog 95 #[.agg #[.bool bp,.slice Bp mp dp],.agg #[.bool bq,.slice Bq mq dq]] w λe w'=>e=.returned (.bool true)/\Below w.heap.size w w':=by
 have HIC:=lh9 IC
 have HT:=lh9 (λw' (hb:Below w.heap.size w w')=>hTb w w' hT hb)
 have HNp:=lh9 hp
 have HNq:=lh9 hq
 have HZp:=lh9 sz
 have HZq:=lh9 sz
 have Hh:=lh9 h
 clear IC hT hp hq sz h
 go_enter Tryz.func95,Tryz.ntmps95
 have hB:=Below.refl w.heap.size w
 obtain rfl:bq=false:=(HNq.out).1.trans (decide_eq_false (by have:=Hh.out;omega))
 have hqq:=zie (HNq.out).2 (by have:=Hh.out;omega)
 have hrq:((mq:Int)==0)=true:=by rw [beq_iff_eq];omega
 clear hqq
 obtain⟨bx1,bx2,bx3,bz⟩:=zbl w 46 92 #[.bool bp,.slice Bp mp dp] #[.bool false,.slice Bq mq dq]
 have hB:=zac hB bx1
 have HNp:=lh9 (HNp.out.below bx1)
 have HNq:=lh9 (HNq.out.below bx1)
 obtain⟨g1,e1⟩:=bx2.c2
 obtain⟨g2,e2⟩:=bx3.c2
 clear bx1 bx2 bx3 bz
 go_wp2_with fail
 generalize (w.alloc (.cells #[.bool bp,.slice Bp mp dp] 46)).alloc (.cells #[.bool false,.slice Bq mq dq] 92)=W1 at*
 have C0:=lh9 (λw' (h:Below W1.heap.size W1 w')=>zgT (b:=false) (decide_eq_false (by have:=Hh.out;omega)) (HIC.out.belowI (z) bp Bp mp dp w' (HT.out _ (zac hB h)) (HNp.out.below h) (by have:=Sz.words HZp.out HNp.out.words;omega)))
 have C1:=lh9 (λw' (h:Below W1.heap.size W1 w')=>zky (v:=0) (((sgnZ_eq _).2 Hh.out)) (HIC.out.sign (z) bp Bp mp dp w' (HT.out _ (zac hB h)) (HNp.out.below h) (by have:=Sz.words HZp.out HNp.out.words;omega)))
 have HZ3:Hid (Sz (K) (z.natAbs)):=HZp.out
 have C2:=lh9 (λw' (h:Below W1.heap.size W1 w')=>HIC.out.abs (z) bp Bp mp dp w' (HT.out _ (zac hB h)) (HNp.out.below h) (by have:=Sz.words HZp.out HNp.out.words;omega))
 have C3:=lh9 (λw' (h:Below W1.heap.size W1 w') B3 m3 d3 (hw3:zag w' (z.natAbs) B3 m3 d3)=>zdK (z.natAbs) B3 Bq m3 d3 mq dq w' hw3 (HNq.out.below h).2 (by have:=Sz.words HZ3.out hw3;omega) (by have:=Sz.holds' HZq.out HNq.out.2;omega))
 have hBw:=(Below.refl W1.heap.size W1).drew
 refine rg (csc g1 (csc e1 (csc g2 (csc e2 csn)))) (λhHeld=>?_)
 refine tk 0 ?_
 refine tk 2 ?_
 refine tk 3 ?_
 refine rc 1 (λK hK=>?_)
 go_simp
 go_at_call 123;(with_reducible refine(C0.out _ hBw).mono ?_);rintro e wa2 ⟨rfl,hb⟩;have hBw:=zac hBw hb;refine hK.out _ _ (Cs.below hHeld hb) (λhHeld=>?_);clear hK K hb
 try simp only [sb9]
 refine tk 4 ?_
 refine tk 5 ?_
 refine tk 6 ?_
 refine tk 8 ?_
 refine rc 7 (λK hK=>?_)
 go_simp
 go_at_call 108;(with_reducible refine(C1.out _ hBw).mono ?_);rintro e wa3 ⟨rfl,hb⟩;have hBw:=zac hBw hb;refine hK.out _ _ (Cs.below hHeld hb) (λhHeld=>?_);clear hK K hb
 try simp only [sb9]
 refine tk 9 ?_
 refine tk 10 ?_
 refine tk 11 ?_
 refine tk 12 ?_
 refine tk 14 ?_
 refine tk 15 ?_
 refine rc 13 (λK hK=>?_)
 go_simp
 go_at_call 117;(with_reducible refine(C2.out _ hBw).mono ?_);rintro e wa4 ⟨B3,m3,d3,rfl,hw3,hb⟩;have hBw:=zac hBw hb;refine hK.out _ _ (Cs.below hHeld hb) (λhHeld=>?_);clear hK K hb
 try simp only [sb9]
 refine rc 16 (λK hK=>?_)
 go_simp
 go_at_call 96;(with_reducible refine(C3.out _ hBw _ _ _ hw3).mono ?_);rintro e wa5 ⟨rfl,hb⟩;have hBw:=zac hBw hb;have hw3:=hw3.below hb;refine hK.out _ _ (Cs.below hHeld hb) (λhHeld=>?_);clear hK K hb
 try simp only [sb9]
 refine tk 17 ?_
 refine tk 18 ?_
 refine rdn ?_
 have hB:=zac hB hBw
 have g1:=zae hBw g1
 have e1:=zae hBw e1
 have g2:=zae hBw g2
 have e2:=zae hBw e2
 clear hBw hHeld hw3 C0 C1 C2 C3
 go_wp2
 go_ret
 exact⟨by first|rfl|simp,hB⟩
theorem zkA {T:World->Prop}(hTb:∀w w',T w->Below w.heap.size w w'->T w')(IC:IntC T)(z:Int)(bp:Bool)(Bp:oA9)(mp dp:Nat)(bq:Bool)(Bq:oA9)(mq dq:Nat)(K:Nat)(hKK:K<=16777216)(w:World)(sz:Sz K z.natAbs)(hp:zaF w z bp Bp mp dp)(hq:zaU w z bq Bq mq dq)(hT:T w)(h:0<z):
  Calls Tryz.prog 95 #[.agg #[.bool bp,.slice Bp mp dp],.agg #[.bool bq,.slice Bq mq dq]] w λe w'=>e=.returned (.bool true)/\Below w.heap.size w w':=by
 have HIC:=lh9 IC
 have HT:=lh9 (λw' (hb:Below w.heap.size w w')=>hTb w w' hT hb)
 have HNp:=lh9 hp
 have HNq:=lh9 hq
 have HZp:=lh9 sz
 have HZq:=lh9 sz
 have Hh:=lh9 h
 clear IC hT hp hq sz h
 go_enter Tryz.func95,Tryz.ntmps95
 have hB:=Below.refl w.heap.size w
 obtain rfl:bq=false:=(HNq.out).1.trans (decide_eq_false (by have:=Hh.out;omega))
 have hqq:=zku (HNq.out).2 (by have:=Hh.out;omega)
 have hrq:((mq:Int)==0)=false:=by rw [beq_eq_false_iff_ne];omega
 clear hqq
 obtain⟨bx1,bx2,bx3,bz⟩:=zbl w 46 92 #[.bool bp,.slice Bp mp dp] #[.bool false,.slice Bq mq dq]
 have hB:=zac hB bx1
 have HNp:=lh9 (HNp.out.below bx1)
 have HNq:=lh9 (HNq.out.below bx1)
 obtain⟨g1,e1⟩:=bx2.c2
 obtain⟨g2,e2⟩:=bx3.c2
 clear bx1 bx2 bx3 bz
 go_wp2_with fail
 generalize (w.alloc (.cells #[.bool bp,.slice Bp mp dp] 46)).alloc (.cells #[.bool false,.slice Bq mq dq] 92)=W1 at*
 have C0:=lh9 (λw' (h:Below W1.heap.size W1 w')=>zgT (b:=false) (decide_eq_false (by have:=Hh.out;omega)) (HIC.out.belowI (z) bp Bp mp dp w' (HT.out _ (zac hB h)) (HNp.out.below h) (by have:=Sz.words HZp.out HNp.out.words;omega)))
 have C1:=lh9 (λw' (h:Below W1.heap.size W1 w')=>zky (v:=1) ((sgn_pos Hh.out)) (HIC.out.sign (z) bp Bp mp dp w' (HT.out _ (zac hB h)) (HNp.out.below h) (by have:=Sz.words HZp.out HNp.out.words;omega)))
 have HZ3:Hid (Sz (K) (z.natAbs)):=HZp.out
 have C2:=lh9 (λw' (h:Below W1.heap.size W1 w')=>HIC.out.abs (z) bp Bp mp dp w' (HT.out _ (zac hB h)) (HNp.out.below h) (by have:=Sz.words HZp.out HNp.out.words;omega))
 have C3:=lh9 (λw' (h:Below W1.heap.size W1 w') B3 m3 d3 (hw3:zag w' (z.natAbs) B3 m3 d3)=>zdK (z.natAbs) B3 Bq m3 d3 mq dq w' hw3 (HNq.out.below h).2 (by have:=Sz.words HZ3.out hw3;omega) (by have:=Sz.holds' HZq.out HNq.out.2;omega))
 have hBw:=(Below.refl W1.heap.size W1).drew
 refine rg (csc g1 (csc e1 (csc g2 (csc e2 csn)))) (λhHeld=>?_)
 refine tk 0 ?_
 refine tk 2 ?_
 refine tk 3 ?_
 refine rc 1 (λK hK=>?_)
 go_simp
 go_at_call 123;(with_reducible refine(C0.out _ hBw).mono ?_);rintro e wa2 ⟨rfl,hb⟩;have hBw:=zac hBw hb;refine hK.out _ _ (Cs.below hHeld hb) (λhHeld=>?_);clear hK K hb
 try simp only [sb9]
 refine tk 4 ?_
 refine tk 5 ?_
 refine tk 6 ?_
 refine tk 8 ?_
 refine rc 7 (λK hK=>?_)
 go_simp
 go_at_call 108;(with_reducible refine(C1.out _ hBw).mono ?_);rintro e wa3 ⟨rfl,hb⟩;have hBw:=zac hBw hb;refine hK.out _ _ (Cs.below hHeld hb) (λhHeld=>?_);clear hK K hb
 try simp only [sb9]
 refine tk 9 ?_
 refine tk 10 ?_
 refine tk 11 ?_
 refine tk 12 ?_
 refine tk 14 ?_
 refine tk 15 ?_
 refine rc 13 (λK hK=>?_)
 go_simp
 go_at_call 117;(with_reducible refine(C2.out _ hBw).mono ?_);rintro e wa4 ⟨B3,m3,d3,rfl,hw3,hb⟩;have hBw:=zac hBw hb;refine hK.out _ _ (Cs.below hHeld hb) (λhHeld=>?_);clear hK K hb
 try simp only [sb9]
 refine rc 16 (λK hK=>?_)
 go_simp
 go_at_call 96;(with_reducible refine(C3.out _ hBw _ _ _ hw3).mono ?_);rintro e wa5 ⟨rfl,hb⟩;have hBw:=zac hBw hb;have hw3:=hw3.below hb;refine hK.out _ _ (Cs.below hHeld hb) (λhHeld=>?_);clear hK K hb
 try simp only [sb9]
 refine tk 17 ?_
 refine tk 18 ?_
 refine rdn ?_
 have hB:=zac hB hBw
 have g1:=zae hBw g1
 have e1:=zae hBw e1
 have g2:=zae hBw g2
 have e2:=zae hBw e2
 clear hBw hHeld hw3 C0 C1 C2 C3
 go_wp2
 go_ret
 exact⟨by first|rfl|simp,hB⟩
theorem zgV {T:World->Prop}(hTb:∀w w',T w->Below w.heap.size w w'->T w')(IC:IntC T)(z:Int)(bp:Bool)(Bp:oA9)(mp dp:Nat)(bq:Bool)(Bq:oA9)(mq dq:Nat)(K:Nat)(hKK:K<=16777216)(w:World)(sz:Sz K z.natAbs)(hp:zaF w z bp Bp mp dp)(hq:zaU w z bq Bq mq dq)(hT:T w):
  Calls Tryz.prog 95 #[.agg #[.bool bp,.slice Bp mp dp],.agg #[.bool bq,.slice Bq mq dq]] w λe w'=>e=.returned (.bool true)/\Below w.heap.size w w':=by
 rcases Int.lt_trichotomy z 0 with h|h|h
 ·exact zkB hTb IC z bp Bp mp dp bq Bq mq dq K hKK w sz hp hq hT h
 ·exact zkz hTb IC z bp Bp mp dp bq Bq mq dq K hKK w sz hp hq hT h
 ·exact zkA hTb IC z bp Bp mp dp bq Bq mq dq K hKK w sz hp hq hT h
