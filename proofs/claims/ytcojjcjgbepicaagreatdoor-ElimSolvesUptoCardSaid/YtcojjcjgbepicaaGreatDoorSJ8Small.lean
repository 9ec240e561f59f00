/- What this claim leans on. -/
import Derived.Test.YtcojjcjgbepicaaGreatDoorSVRow
namespace Go.Proofs.YtcojjcjgbepicaaGreatDoor
open Go Go.RowKit
set_option maxHeartbeats 16000000
set_option maxRecDepth 100000
set_option linter.unusedVariables false
set_option linter.unusedSimpArgs false
theorem zgl (z:Int)(baa:Bool)(Baa:oA9)(maa daa:Nat)(w:World)(hT:zaj w)(haa:zaB w z baa Baa maa daa)(qaa:maa<=268435456):
  Calls Tryz.prog 148 #[.agg #[.bool baa,.slice Baa maa daa]] w (zaV w z):=by
 have HIC:=lh9 (zbO (T:=zaj))
 have HT:=lh9 (λw' (hb:Below w.heap.size w w')=>hT.on hb)
 have HTB:=HT
 obtain⟨K,hKe⟩:∃K,268435456=K:=⟨_,rfl⟩
 have hKK:K<=268435456:=by omega
 have hK0:0<K:=by omega
 have HV:=lh9 (zpv z)
 obtain⟨sb,hsb⟩:∃s,decide (z<0)=s:=⟨_,rfl⟩
 rw [hsb] at HV
 have HSB:=lh9 hsb
 clear hsb
 have HNaa:=lh9 (λw' (b:Below w.heap.size w w')=>haa.below b)
 have HZaa:Hid (Sz K z.natAbs):=Sz.of_words haa.words (by omega)
 clear haa qaa
 clear hT hKe
 go_enter Tryz.func148,Tryz.ntmps148
 have hB:=Below.refl w.heap.size w
 obtain⟨bx1,bx2,bx3,bz⟩:=zbC w 51 51 #[.bool baa,.slice Baa maa daa] #[.bool false,.slice none 0 0]
 have hB:=zaa hB bx1
 obtain⟨g1,e1⟩:=bx2.c2
 have k2:=bx3
 clear bx1 bx2 bx3 bz
 go_wp2_with fail
 generalize (w.alloc (.cells #[.bool baa,.slice Baa maa daa] 51)).alloc (.cells #[.bool false,.slice none 0 0] 51)=W1 at*
 have C0:=lh9 (λw' (h:Below W1.heap.size W1 w')=>zav (HSB.out) (HIC.out.belowI (z) baa Baa maa daa w' (HT.out _ (zaa hB h)) (HNaa.out _ (zaa hB h)) (szi HZaa (HNaa.out _ hB))))
 have HZ3:Hid (Sz (K) (z.natAbs)):=HZaa.out
 have C1:=lh9 (λw' (h:Below W1.heap.size W1 w')=>HIC.out.abs (z) baa Baa maa daa w' (HT.out _ (zaa hB h)) (HNaa.out _ (zaa hB h)) (szi HZaa (HNaa.out _ hB)))
 have HZ4:Hid (Sz (K) (zaS sb z.natAbs).natAbs):=(by rw [zdR];exact HZ3.out)
 have C2:=lh9 (λw' (h:Below W1.heap.size W1 w') B3 m3 d3 (hw3:zad w' (z.natAbs) B3 m3 d3)=>HIC.out.new sb (z.natAbs) B3 m3 d3 w' (HT.out _ (zaa hB h)) hw3 (szw HZ3 hw3))
 have hBw:=(Below.refl W1.heap.size W1).drew
 refine rg (csc g1 (csc e1 csn)) (λhHeld=>?_)
 refine tk 0 ?_
 refine tk 2 ?_
 refine rc 1 (λK hK=>?_)
 go_simp
 go_at_call 108;(with_reducible refine(C0.out _ hBw).mono ?_);rintro e wa2 ⟨rfl,hb⟩;have hBw:=zaa hBw hb;refine hK.out _ _ (Cs.below hHeld hb) (λhHeld=>?_);clear hK K hb
 try simp only [sb9]
 refine rc 3 (λK hK=>?_)
 go_simp
 go_at_call 109;(with_reducible refine(C1.out _ hBw).mono ?_);rintro e wa3 ⟨B3,m3,d3,rfl,hw3,hb⟩;have hBw:=zaa hBw hb;refine hK.out _ _ (Cs.below hHeld hb) (λhHeld=>?_);clear hK K hb
 try simp only [sb9]
 refine rc 4 (λK hK=>?_)
 go_simp
 go_at_call 161;(with_reducible refine(C2.out _ hBw _ _ _ hw3).mono ?_);rintro e wa4 ⟨b4,B4,m4,d4,rfl,hw4,hb⟩;have hBw:=zaa hBw hb;have hw3:=hw3.below hb;refine hK.out _ _ (Cs.below hHeld hb) (λhHeld=>?_);clear hK K hb
 try simp only [sb9]
 obtain⟨sc0,sf0,sc1,sf1⟩:=st2 (zab hBw k2) (.bool b4)
 refine rc 5 (λK hK=>?_)
 go_simp
 refine hK.out _ _ (cs2 (.bool b4) (.slice B4 m4 d4) hHeld) (λhHeld=>?_);clear hK K
 try simp only [sb9]
 refine rdn ?_
 have hB:=zaa hB hBw
 have g1:=zac hBw g1
 have e1:=zac hBw e1
 have k2:=zab hBw k2
 have HN4:=lh9 hw4
 clear hBw hHeld hw3 hw4 C0 C1 C2
 obtain⟨r0,r1⟩:=(sn2 k2 (.bool b4) (.slice B4 m4 d4)).c2
 have HG:=lh9 (gi2 (zaB.to8 HV.out HN4.out) k2 hB (by omega))
 go_wp2
 refine bodyPost_ret (v:=.agg #[.bool b4,.slice B4 m4 d4]) (by simp [results,Tryz.results148,go_sem,r0,r1]) rfl ?_
 exact HG.out
theorem zfK (z:Int)(k:Nat)(baa:Bool)(Baa:oA9)(maa daa:Nat)(Bab:oA9)(mab dab:Nat)(w:World)(hT:zaj w)(haa:zaB w z baa Baa maa daa)(hab:zad w k Bab mab dab)(qaa:maa<=134217728)(qab:mab<=134217728):
  Calls Tryz.prog 191 #[.agg #[.bool baa,.slice Baa maa daa],.agg #[.slice Bab mab dab]] w (zaV w (z*((k:Nat):Int))):=by
 have HIC:=lh9 (zbO (T:=zaj))
 have HT:=lh9 (λw' (hb:Below w.heap.size w w')=>hT.on hb)
 have HTB:=HT
 obtain⟨K,hKe⟩:∃K,134217728=K:=⟨_,rfl⟩
 have hKK:K<=134217728:=by omega
 have hK0:0<K:=by omega
 have HNaa:=lh9 (λw' (b:Below w.heap.size w w')=>haa.below b)
 have HZaa:Hid (Sz K z.natAbs):=Sz.of_words haa.words (by omega)
 clear haa qaa
 have HNab:=lh9 (λw' (b:Below w.heap.size w w')=>hab.below b)
 have HZab:Hid (Sz K k):=Sz.of_words hab (by omega)
 clear hab qab
 clear hT hKe
 go_enter Tryz.func191,Tryz.ntmps191
 have hB:=Below.refl w.heap.size w
 obtain⟨bx1,bx2,bx3,bx4,bz⟩:=zbA w 51 49 51 #[.bool baa,.slice Baa maa daa] #[.slice Bab mab dab] #[.bool false,.slice none 0 0]
 have hB:=zaa hB bx1
 obtain⟨g1,e1⟩:=bx2.c2
 have g2:=bx3.c1
 have k3:=bx4
 clear bx1 bx2 bx3 bx4 bz
 go_wp2_with fail
 generalize ((w.alloc (.cells #[.bool baa,.slice Baa maa daa] 51)).alloc (.cells #[.slice Bab mab dab] 49)).alloc (.cells #[.bool false,.slice none 0 0] 51)=W1 at*
 have HZ4:Hid (Sz (K) (((k:Nat):Int)).natAbs):=(by rw [Int.natAbs_natCast];exact HZab.out)
 have C0:=lh9 (λw' (h:Below W1.heap.size W1 w')=>inew_pos HIC.out (k) Bab mab dab w' (HT.out _ (zaa hB h)) (HNab.out _ (zaa hB h)) (szw HZab (HNab.out _ hB)))
 have HZ5:Hid (Sz (K+K) (z*(((k:Nat):Int))).natAbs):=SzI.mul HZaa.out HZ4.out
 have C1:=lh9 (λw' (h:Below W1.heap.size W1 w') b4 B4 m4 d4 (hw4:zaB w' (((k:Nat):Int)) b4 B4 m4 d4)=>HIC.out.mul (z) (((k:Nat):Int)) baa b4 Baa B4 maa m4 daa d4 w' (HT.out _ (zaa hB h)) (HNaa.out _ (zaa hB h)) hw4 (szi HZaa (HNaa.out _ hB)) (szi HZ4 hw4))
 have hBw:=(Below.refl W1.heap.size W1).drew
 refine rg (csc g1 (csc e1 (csc g2 csn))) (λhHeld=>?_)
 refine tk 0 ?_
 refine tk 1 ?_
 refine rc 2 (λK hK=>?_)
 go_simp
 go_at_call 161;(with_reducible refine(C0.out _ hBw).mono ?_);rintro e wa2 ⟨b4,B4,m4,d4,rfl,hw4,hb⟩;have hBw:=zaa hBw hb;refine hK.out _ _ (Cs.below hHeld hb) (λhHeld=>?_);clear hK K hb
 try simp only [sb9]
 refine rc 3 (λK hK=>?_)
 go_simp
 go_at_call 121;(with_reducible refine(C1.out _ hBw _ _ _ _ hw4).mono ?_);rintro e wa3 ⟨b5,B5,m5,d5,rfl,hw5,hb⟩;have hBw:=zaa hBw hb;have hw4:=hw4.below hb;refine hK.out _ _ (Cs.below hHeld hb) (λhHeld=>?_);clear hK K hb
 try simp only [sb9]
 obtain⟨sc0,sf0,sc1,sf1⟩:=st2 (zab hBw k3) (.bool b5)
 refine rc 4 (λK hK=>?_)
 go_simp
 refine hK.out _ _ (cs2 (.bool b5) (.slice B5 m5 d5) hHeld) (λhHeld=>?_);clear hK K
 try simp only [sb9]
 refine rdn ?_
 have hB:=zaa hB hBw
 have g1:=zac hBw g1
 have e1:=zac hBw e1
 have g2:=zac hBw g2
 have k3:=zab hBw k3
 have HN5:=lh9 hw5
 clear hBw hHeld hw4 hw5 C0 C1
 obtain⟨r0,r1⟩:=(sn2 k3 (.bool b5) (.slice B5 m5 d5)).c2
 have HG:=lh9 (gi2 (HN5.out) k3 hB (by omega))
 go_wp2
 refine bodyPost_ret (v:=.agg #[.bool b5,.slice B5 m5 d5]) (by simp [results,Tryz.results191,go_sem,r0,r1]) rfl ?_
 exact HG.out
theorem zmc (r:Rat)(baa:Bool)(Baa:oA9)(maa daa:Nat)(Eaa:oA9)(uaa vaa:Nat)(w:World)(hT:zaj w)(haa:zah w r baa Baa maa daa Eaa uaa vaa)(qaa:zaO maa uaa)(hd:r.den=1):
  Calls Tryz.prog 90 #[.agg #[.bool baa,.slice Baa maa daa,.slice Eaa uaa vaa]] w (λe w'=>e=.returned (.bool true)/\Below w.heap.size w w'):=by
 have HT:=lh9 (λw' (hb:Below w.heap.size w w')=>hT.on hb)
 have HTB:=HT
 obtain⟨K,hKe⟩:∃K,67108864=K:=⟨_,rfl⟩
 have hKK:K<=67108864:=by omega
 have hK0:0<K:=by omega
 obtain⟨xaa,hxaa,hxwaa⟩:=haa.2
 have HXaa:=lh9 hxaa
 have HZaa:Hid (SzQ K r):=zaG haa qaa hKe
 have HZaap:Hid (Sz K r.num.natAbs):=HZaa.out.num
 have HZaaq:Hid (Sz K xaa):=zar HZaa.out.den hxaa
 have HNaaq:=lh9 (λw' (b:Below w.heap.size w w')=>hxwaa.below b)
 clear haa qaa hxaa hxwaa
 have HX0:=lh9 (zgn HXaa.out hd)
 clear hT hKe hd
 go_enter Tryz.func90,Tryz.ntmps90
 have hB:=Below.refl w.heap.size w
 obtain⟨bx1,bx2,bz⟩:=zaw w 53 #[.bool baa,.slice Baa maa daa,.slice Eaa uaa vaa]
 have hB:=zaa hB bx1
 obtain⟨g1,e1,i1⟩:=bx2.c3
 clear bx1 bx2 bz
 go_wp2_with fail
 generalize w.alloc (.cells #[.bool baa,.slice Baa maa daa,.slice Eaa uaa vaa] 53)=W1 at*
 (with_reducible refine(zdU HX0.out (HNaaq.out _ hB)).mono ?_)
 rintro e wc2 ⟨rfl,hb⟩
 have hB:=zaa hB hb
 have g1:=zac hb g1
 have e1:=zac hb e1
 have i1:=zac hb i1
 clear hb 
 go_wp2
 go_ret
 exact⟨by first|rfl|simp,hB⟩
theorem zmb (r:Rat)(baa:Bool)(Baa:oA9)(maa daa:Nat)(Eaa:oA9)(uaa vaa:Nat)(w:World)(hT:zaj w)(haa:zah w r baa Baa maa daa Eaa uaa vaa)(qaa:zaO maa uaa)(hd:r.den≠1):
  Calls Tryz.prog 90 #[.agg #[.bool baa,.slice Baa maa daa,.slice Eaa uaa vaa]] w (λe w'=>e=.returned (.bool false)/\Below w.heap.size w w'):=by
 have HT:=lh9 (λw' (hb:Below w.heap.size w w')=>hT.on hb)
 have HTB:=HT
 obtain⟨K,hKe⟩:∃K,67108864=K:=⟨_,rfl⟩
 have hKK:K<=67108864:=by omega
 have hK0:0<K:=by omega
 obtain⟨xaa,hxaa,hxwaa⟩:=haa.2
 have HXaa:=lh9 hxaa
 have HZaa:Hid (SzQ K r):=zaG haa qaa hKe
 have HZaap:Hid (Sz K r.num.natAbs):=HZaa.out.num
 have HZaaq:Hid (Sz K xaa):=zar HZaa.out.den hxaa
 have HNaaq:=lh9 (λw' (b:Below w.heap.size w w')=>hxwaa.below b)
 clear haa qaa hxaa hxwaa
 have HX0:=lh9 (zec HXaa.out hd).1
 clear hT hKe hd
 go_enter Tryz.func90,Tryz.ntmps90
 have hB:=Below.refl w.heap.size w
 obtain⟨bx1,bx2,bz⟩:=zaw w 53 #[.bool baa,.slice Baa maa daa,.slice Eaa uaa vaa]
 have hB:=zaa hB bx1
 obtain⟨g1,e1,i1⟩:=bx2.c3
 clear bx1 bx2 bz
 go_wp2_with fail
 generalize w.alloc (.cells #[.bool baa,.slice Baa maa daa,.slice Eaa uaa vaa] 53)=W1 at*
 (with_reducible refine(zef HX0.out (HNaaq.out _ hB)).mono ?_)
 rintro e wc2 ⟨rfl,hb⟩
 have hB:=zaa hB hb
 have g1:=zac hb g1
 have e1:=zac hb e1
 have i1:=zac hb i1
 clear hb 
 go_wp2
 go_ret
 exact⟨by first|rfl|simp,hB⟩
theorem zbm (r:Rat)(baa:Bool)(Baa:oA9)(maa daa:Nat)(Eaa:oA9)(uaa vaa:Nat)(w:World)(hT:zaj w)(haa:zah w r baa Baa maa daa Eaa uaa vaa)(qaa:zaO maa uaa):
  Calls Tryz.prog 90 #[.agg #[.bool baa,.slice Baa maa daa,.slice Eaa uaa vaa]] w (λe w'=>e=.returned (.bool (decide (r.den=1)))/\Below w.heap.size w w'):=by
 by_cases hd:r.den=1
 ·rw [decide_eq_true hd];exact zmc r baa Baa maa daa Eaa uaa vaa w hT haa qaa hd
 ·rw [decide_eq_false hd];exact zmb r baa Baa maa daa Eaa uaa vaa w hT haa qaa hd
theorem zkV (r:Rat)(s:Bool)(x:Nat)(y:Nat)(Baa:oA9)(maa daa:Nat)(Bab:oA9)(mab dab:Nat)(w:World)(hT:zaj w)(haa:zad w x Baa maa daa)(hab:zad w y Bab mab dab)(qaa:maa<=268435456)(qab:mab<=268435456)(hn:r.num=zaS s x)(hd:r.den=y)(hy:y=1):
  Calls Tryz.prog 107 #[.bool s,.agg #[.slice Baa maa daa],.agg #[.slice Bab mab dab]] w (zaI w r):=by
 have HIC:=lh9 (zbO (T:=zaj))
 have HT:=lh9 (λw' (hb:Below w.heap.size w w')=>hT.on hb)
 have HTB:=HT
 obtain⟨K,hKe⟩:∃K,268435456=K:=⟨_,rfl⟩
 have hKK:K<=268435456:=by omega
 have hK0:0<K:=by omega
 have HRN:=lh9 hn
 have HRD:Hid (r.den=1):=hd.trans hy
 have HM1:Hid (mab<=1):=len_one hab hy
 have HW1:Hid (((wd y 0:Nat):Int)=1):=by show _=_;rw [hy];rfl
 have HNaa:=lh9 (λw' (b:Below w.heap.size w w')=>haa.below b)
 have HZaa:Hid (Sz K x):=Sz.of_words haa (by omega)
 clear haa qaa
 have HNab:=lh9 (λw' (b:Below w.heap.size w w')=>hab.below b)
 have HZab:Hid (Sz K y):=Sz.of_words hab (by omega)
 clear hab qab
 clear hT hKe hn hd hy
 go_enter Tryz.func107,Tryz.ntmps107
 have hB:=Below.refl w.heap.size w
 have kk2:=(zbA w 49 49 53 #[.slice Baa maa daa] #[.slice Bab mab dab] #[.bool false,.slice none 0 0,.slice none 0 0]).2.2.1
 obtain⟨bx1,bx2,bx3,bx4,bz⟩:=zbA w 49 49 53 #[.slice Baa maa daa] #[.slice Bab mab dab] #[.bool false,.slice none 0 0,.slice none 0 0]
 have hB:=zaa hB bx1
 have g1:=bx2.c1
 have g2:=bx3.c1
 have k3:=bx4
 clear bx1 bx2 bx3 bx4 bz
 go_wp2_with fail
 generalize ((w.alloc (.cells #[.slice Baa maa daa] 49)).alloc (.cells #[.slice Bab mab dab] 49)).alloc (.cells #[.bool false,.slice none 0 0,.slice none 0 0] 53)=W1 at*
 have k2:=kk2
 clear kk2
 (with_reducible refine(zou (HW1.out) (zcW (y) Bab mab dab _ (HNab.out _ hB) HM1.out)).mono ?_)
 rintro e wc2 ⟨rfl,hb⟩
 have hB:=zaa hB hb
 have g1:=zac hb g1
 have g2:=zac hb g2
 have k3:=zab hb k3
 have k2:=zab hb k2
 clear hb 
 have HN4:=lh9 (zeR wc2)
 obtain⟨sc0,sf0⟩:=st1 k2
 have kz0:=sn1 k2 (.slice none 0 0)
 have g1:=zag (q:=⟨w.heap.size+1,0,none⟩) (.slice none 0 0) (by show w.heap.size≠w.heap.size+1;omega) (g1)
 have k3:=Blk.far (p:=⟨w.heap.size+1,0,none⟩) (k3) (by show w.heap.size+1+1≠w.heap.size+1;omega) (.slice none 0 0)
 have HN4:=lh9 (zat HN4.out k2 (NoU.s1 _ _ _) (zbS _ _ (.slice none 0 0)))
 have hB:=bl1 (.slice none 0 0) (by show w.heap.size<=w.heap.size+1;omega) hB
 have g2:(wc2.setCell ⟨w.heap.size+1,0,none⟩ (.slice none 0 0)).cell? ⟨w.heap.size+1,0,none⟩=some (.slice none 0 0):=kz0.cell 0
 have k2:=kz0
 go_wp2_with fail
 clear sc0 sf0 kz0
 generalize wc2.setCell ⟨w.heap.size+1,0,none⟩ (.slice none 0 0)=W3 at*
 go_wp2_with fail
 have HZ5:Hid (Sz (K) (zaS s x).natAbs):=(by rw [zdR];exact HZaa.out)
 have C0:=lh9 (λw' (h:Below W3.heap.size W3 w')=>HIC.out.new s (x) Baa maa daa w' (HT.out _ (zaa hB h)) (HNaa.out _ (zaa hB h)) (szw HZaa (HNaa.out _ hB)))
 have hBw:=(Below.refl W3.heap.size W3).drew
 refine rg (csc g1 (csc g2 csn)) (λhHeld=>?_)
 refine tk 0 ?_
 refine tk 1 ?_
 refine tk 3 ?_
 refine rc 2 (λK hK=>?_)
 go_simp
 go_at_call 161;(with_reducible refine(C0.out _ hBw).mono ?_);rintro e wa4 ⟨b5,B5,m5,d5,rfl,hw5,hb⟩;have hBw:=zaa hBw hb;refine hK.out _ _ (Cs.below hHeld hb) (λhHeld=>?_);clear hK K hb
 try simp only [sb9]
 refine tk 4 ?_
 obtain⟨sc0,sf0,sc1,sf1,sc2,sf2⟩:=st3 (zab hBw k3) (.bool b5) (.slice B5 m5 d5)
 refine rc 5 (λK hK=>?_)
 go_simp
 refine hK.out _ _ (cs3 (.bool b5) (.slice B5 m5 d5) (.slice none 0 0) hHeld) (λhHeld=>?_);clear hK K
 try simp only [sb9]
 refine rdn ?_
 have hB:=zaa hB hBw
 have g1:=zac hBw g1
 have k3:=zab hBw k3
 have k2:=zab hBw k2
 have HN4:=lh9 (HN4.out.below hBw)
 have g2:=zac hBw g2
 have HN5:=lh9 hw5
 clear hBw hHeld hw5 C0
 obtain⟨r0,r1,r2⟩:=(sn3 k3 (.bool b5) (.slice B5 m5 d5) (.slice none 0 0)).c3
 have HG:=lh9 (gq3 (zpq HRN.out HRD.out HN5.out HN4.out) k3 hB (by omega))
 go_wp2
 refine bodyPost_ret (v:=.agg #[.bool b5,.slice B5 m5 d5,.slice none 0 0]) (by simp [results,Tryz.results107,go_sem,r0,r1,r2]) rfl ?_
 exact HG.out
theorem zkW (r:Rat)(s:Bool)(x:Nat)(y:Nat)(Baa:oA9)(maa daa:Nat)(Bab:oA9)(mab dab:Nat)(w:World)(hT:zaj w)(haa:zad w x Baa maa daa)(hab:zad w y Bab mab dab)(qaa:maa<=268435456)(qab:mab<=268435456)(hn:r.num=zaS s x)(hd:r.den=y)(hy:y≠1)(hm:mab<=1):
  Calls Tryz.prog 107 #[.bool s,.agg #[.slice Baa maa daa],.agg #[.slice Bab mab dab]] w (zaI w r):=by
 have HIC:=lh9 (zbO (T:=zaj))
 have HT:=lh9 (λw' (hb:Below w.heap.size w w')=>hT.on hb)
 have HTB:=HT
 obtain⟨K,hKe⟩:∃K,268435456=K:=⟨_,rfl⟩
 have hKK:K<=268435456:=by omega
 have hK0:0<K:=by omega
 have HRN:=lh9 hn
 have HRD:=lh9 hd
 have HY:=lh9 hy
 have HM1:=lh9 hm
 have HW1:Hid (((wd y 0:Nat):Int)=(y:Int)):=by show _=_;rw [wd0 (zoV hab hm)]
 have kb1:((y:Int)==1)=false:=by rw [beq_eq_false_iff_ne];omega
 have HNaa:=lh9 (λw' (b:Below w.heap.size w w')=>haa.below b)
 have HZaa:Hid (Sz K x):=Sz.of_words haa (by omega)
 clear haa qaa
 have HNab:=lh9 (λw' (b:Below w.heap.size w w')=>hab.below b)
 have HZab:Hid (Sz K y):=Sz.of_words hab (by omega)
 clear hab qab
 clear hT hKe hn hd hy hm
 go_enter Tryz.func107,Tryz.ntmps107
 have hB:=Below.refl w.heap.size w
 have kk2:=(zbA w 49 49 53 #[.slice Baa maa daa] #[.slice Bab mab dab] #[.bool false,.slice none 0 0,.slice none 0 0]).2.2.1
 obtain⟨bx1,bx2,bx3,bx4,bz⟩:=zbA w 49 49 53 #[.slice Baa maa daa] #[.slice Bab mab dab] #[.bool false,.slice none 0 0,.slice none 0 0]
 have hB:=zaa hB bx1
 have g1:=bx2.c1
 have g2:=bx3.c1
 have k3:=bx4
 clear bx1 bx2 bx3 bx4 bz
 go_wp2_with fail
 generalize ((w.alloc (.cells #[.slice Baa maa daa] 49)).alloc (.cells #[.slice Bab mab dab] 49)).alloc (.cells #[.bool false,.slice none 0 0,.slice none 0 0] 53)=W1 at*
 have k2:=kk2
 clear kk2
 (with_reducible refine(zou (HW1.out) (zcW (y) Bab mab dab _ (HNab.out _ hB) HM1.out)).mono ?_)
 rintro e wc2 ⟨rfl,hb⟩
 have hB:=zaa hB hb
 have g1:=zac hb g1
 have g2:=zac hb g2
 have k3:=zab hb k3
 have k2:=zab hb k2
 clear hb 
 go_wp2_with fail
 have HZ4:Hid (Sz (K) (zaS s x).natAbs):=(by rw [zdR];exact HZaa.out)
 have C0:=lh9 (λw' (h:Below wc2.heap.size wc2 w')=>HIC.out.new s (x) Baa maa daa w' (HT.out _ (zaa hB h)) (HNaa.out _ (zaa hB h)) (szw HZaa (HNaa.out _ hB)))
 have hBw:=(Below.refl wc2.heap.size wc2).drew
 refine rg (csc g1 (csc g2 csn)) (λhHeld=>?_)
 refine tk 0 ?_
 refine tk 1 ?_
 refine tk 3 ?_
 refine rc 2 (λK hK=>?_)
 go_simp
 go_at_call 161;(with_reducible refine(C0.out _ hBw).mono ?_);rintro e wa3 ⟨b4,B4,m4,d4,rfl,hw4,hb⟩;have hBw:=zaa hBw hb;refine hK.out _ _ (Cs.below hHeld hb) (λhHeld=>?_);clear hK K hb
 try simp only [sb9]
 refine tk 4 ?_
 obtain⟨sc0,sf0,sc1,sf1,sc2,sf2⟩:=st3 (zab hBw k3) (.bool b4) (.slice B4 m4 d4)
 refine rc 5 (λK hK=>?_)
 go_simp
 refine hK.out _ _ (cs3 (.bool b4) (.slice B4 m4 d4) (.slice Bab mab dab) hHeld) (λhHeld=>?_);clear hK K
 try simp only [sb9]
 refine rdn ?_
 have hB:=zaa hB hBw
 have g1:=zac hBw g1
 have g2:=zac hBw g2
 have k3:=zab hBw k3
 have k2:=zab hBw k2
 have HN4:=lh9 hw4
 clear hBw hHeld hw4 C0
 obtain⟨r0,r1,r2⟩:=(sn3 k3 (.bool b4) (.slice B4 m4 d4) (.slice Bab mab dab)).c3
 have HG:=lh9 (gq3 (ziU HRN.out HRD.out HY.out HN4.out (HNab.out _ hB)) k3 hB (by omega))
 go_wp2
 refine bodyPost_ret (v:=.agg #[.bool b4,.slice B4 m4 d4,.slice Bab mab dab]) (by simp [results,Tryz.results107,go_sem,r0,r1,r2]) rfl ?_
 exact HG.out
theorem zkX (r:Rat)(s:Bool)(x:Nat)(y:Nat)(Baa:oA9)(maa daa:Nat)(Bab:oA9)(mab dab:Nat)(w:World)(hT:zaj w)(haa:zad w x Baa maa daa)(hab:zad w y Bab mab dab)(qaa:maa<=268435456)(qab:mab<=268435456)(hn:r.num=zaS s x)(hd:r.den=y)(hy:y≠1)(hm:1<mab):
  Calls Tryz.prog 107 #[.bool s,.agg #[.slice Baa maa daa],.agg #[.slice Bab mab dab]] w (zaI w r):=by
 have HIC:=lh9 (zbO (T:=zaj))
 have HT:=lh9 (λw' (hb:Below w.heap.size w w')=>hT.on hb)
 have HTB:=HT
 obtain⟨K,hKe⟩:∃K,268435456=K:=⟨_,rfl⟩
 have hKK:K<=268435456:=by omega
 have hK0:0<K:=by omega
 have HRN:=lh9 hn
 have HRD:=lh9 hd
 have HY:=lh9 hy
 have HM1:=lh9 hm
 have HNaa:=lh9 (λw' (b:Below w.heap.size w w')=>haa.below b)
 have HZaa:Hid (Sz K x):=Sz.of_words haa (by omega)
 clear haa qaa
 have HNab:=lh9 (λw' (b:Below w.heap.size w w')=>hab.below b)
 have HZab:Hid (Sz K y):=Sz.of_words hab (by omega)
 clear hab qab
 clear hT hKe hn hd hy hm
 go_enter Tryz.func107,Tryz.ntmps107
 have hB:=Below.refl w.heap.size w
 have kk2:=(zbA w 49 49 53 #[.slice Baa maa daa] #[.slice Bab mab dab] #[.bool false,.slice none 0 0,.slice none 0 0]).2.2.1
 obtain⟨bx1,bx2,bx3,bx4,bz⟩:=zbA w 49 49 53 #[.slice Baa maa daa] #[.slice Bab mab dab] #[.bool false,.slice none 0 0,.slice none 0 0]
 have hB:=zaa hB bx1
 have g1:=bx2.c1
 have g2:=bx3.c1
 have k3:=bx4
 clear bx1 bx2 bx3 bx4 bz
 go_wp2_with fail
 generalize ((w.alloc (.cells #[.slice Baa maa daa] 49)).alloc (.cells #[.slice Bab mab dab] 49)).alloc (.cells #[.bool false,.slice none 0 0,.slice none 0 0] 53)=W1 at*
 have k2:=kk2
 clear kk2
 (with_reducible refine(zcE Bab mab dab _ HM1.out).mono ?_)
 rintro e wc2 ⟨rfl,hb⟩
 have hB:=zaa hB hb
 have g1:=zac hb g1
 have g2:=zac hb g2
 have k3:=zab hb k3
 have k2:=zab hb k2
 clear hb 
 go_wp2_with fail
 have HZ4:Hid (Sz (K) (zaS s x).natAbs):=(by rw [zdR];exact HZaa.out)
 have C0:=lh9 (λw' (h:Below wc2.heap.size wc2 w')=>HIC.out.new s (x) Baa maa daa w' (HT.out _ (zaa hB h)) (HNaa.out _ (zaa hB h)) (szw HZaa (HNaa.out _ hB)))
 have hBw:=(Below.refl wc2.heap.size wc2).drew
 refine rg (csc g1 (csc g2 csn)) (λhHeld=>?_)
 refine tk 0 ?_
 refine tk 1 ?_
 refine tk 3 ?_
 refine rc 2 (λK hK=>?_)
 go_simp
 go_at_call 161;(with_reducible refine(C0.out _ hBw).mono ?_);rintro e wa3 ⟨b4,B4,m4,d4,rfl,hw4,hb⟩;have hBw:=zaa hBw hb;refine hK.out _ _ (Cs.below hHeld hb) (λhHeld=>?_);clear hK K hb
 try simp only [sb9]
 refine tk 4 ?_
 obtain⟨sc0,sf0,sc1,sf1,sc2,sf2⟩:=st3 (zab hBw k3) (.bool b4) (.slice B4 m4 d4)
 refine rc 5 (λK hK=>?_)
 go_simp
 refine hK.out _ _ (cs3 (.bool b4) (.slice B4 m4 d4) (.slice Bab mab dab) hHeld) (λhHeld=>?_);clear hK K
 try simp only [sb9]
 refine rdn ?_
 have hB:=zaa hB hBw
 have g1:=zac hBw g1
 have g2:=zac hBw g2
 have k3:=zab hBw k3
 have k2:=zab hBw k2
 have HN4:=lh9 hw4
 clear hBw hHeld hw4 C0
 obtain⟨r0,r1,r2⟩:=(sn3 k3 (.bool b4) (.slice B4 m4 d4) (.slice Bab mab dab)).c3
 have HG:=lh9 (gq3 (ziU HRN.out HRD.out HY.out HN4.out (HNab.out _ hB)) k3 hB (by omega))
 go_wp2
 refine bodyPost_ret (v:=.agg #[.bool b4,.slice B4 m4 d4,.slice Bab mab dab]) (by simp [results,Tryz.results107,go_sem,r0,r1,r2]) rfl ?_
 exact HG.out
theorem zdO (r:Rat)(s:Bool)(x:Nat)(y:Nat)(Baa:oA9)(maa daa:Nat)(Bab:oA9)(mab dab:Nat)(w:World)(hT:zaj w)(haa:zad w x Baa maa daa)(hab:zad w y Bab mab dab)(qaa:maa<=268435456)(qab:mab<=268435456)(hn:r.num=zaS s x)(hd:r.den=y):
  Calls Tryz.prog 107 #[.bool s,.agg #[.slice Baa maa daa],.agg #[.slice Bab mab dab]] w (zaI w r):=by
 by_cases hy:y=1
 ·exact zkV r s x y Baa maa daa Bab mab dab w hT haa hab qaa qab hn hd hy
 ·by_cases hm:mab<=1
  ·exact zkW r s x y Baa maa daa Bab mab dab w hT haa hab qaa qab hn hd hy hm
  ·exact zkX r s x y Baa maa daa Bab mab dab w hT haa hab qaa qab hn hd hy (by omega)
