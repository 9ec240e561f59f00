/- What this claim leans on. -/
import Derived.Test.YtghpdeciaaagnaaGreatDoorIJ8Look
namespace Go.Proofs.YtghpdeciaaagnaaGreatDoor
open Go Go.RowKit
set_option maxHeartbeats 16000000
set_option maxRecDepth 100000
set_option linter.unusedVariables false
set_option linter.unusedSimpArgs false
theorem zll {K x:Nat}(h:Sz K x):bitLen x<=64*K:=zey _ _ (by
 unfold Sz at h
 rw [show(18446744073709551616:Nat)=2^64 from rfl,<-Nat.pow_mul] at h
 exact h)
theorem zqO (r:Rat)(s:Rat)(baa:Bool)(Baa:oA9)(maa daa:Nat)(Eaa:oA9)(uaa vaa:Nat)(bab:Bool)(Bab:oA9)(mab dab:Nat)(Eab:oA9)(uab vab:Nat)(w:World)(hT:zai w)(haa:zah w r baa Baa maa daa Eaa uaa vaa)(hab:zah w s bab Bab mab dab Eab uab vab)(qaa:zaT maa uaa)(qab:zaT mab uab)(v:Int)(hv:zhM (r.num*((s.den:Nat):Int)) (s.num*((r.den:Nat):Int))=v):
  Calls Tryz.prog 174 #[.agg #[.bool baa,.slice Baa maa daa,.slice Eaa uaa vaa],.agg #[.bool bab,.slice Bab mab dab,.slice Eab uab vab]] w (zcH w v):=by
 have HIC:=lh9 (zbV (T:=zai))
 have HT:=lh9 (λw' (hb:Below w.heap.size w w')=>hT.on hb)
 have HTB:=HT
 obtain⟨K,hKe⟩:∃K,67108864=K:=⟨_,rfl⟩
 have hKK:K<=67108864:=by omega
 have hK0:0<K:=by omega
 have HV:=lh9 hv
 have HNaa:=lh9 (λw' (b:Below w.heap.size w w')=>haa.below b)
 obtain⟨xaa,hxaa,hxwaa⟩:=haa.2
 have HZaa:Hid (SzQ K r):=zaM haa qaa hKe
 have HZaap:Hid (Sz K r.num.natAbs):=HZaa.out.num
 have HZaaq:Hid (Sz K xaa):=zar HZaa.out.den hxaa
 have HNaap:=lh9 (λw' (b:Below w.heap.size w w')=>haa.1.below b)
 clear haa qaa hxaa hxwaa
 have HNab:=lh9 (λw' (b:Below w.heap.size w w')=>hab.below b)
 obtain⟨xab,hxab,hxwab⟩:=hab.2
 have HZab:Hid (SzQ K s):=zaM hab qab hKe
 have HZabp:Hid (Sz K s.num.natAbs):=HZab.out.num
 have HZabq:Hid (Sz K xab):=zar HZab.out.den hxab
 have HNabp:=lh9 (λw' (b:Below w.heap.size w w')=>hab.1.below b)
 clear hab qab hxab hxwab
 clear hT hKe hv
 go_enter Tryz.func174,Tryz.ntmps174
 have hB:=Below.refl w.heap.size w
 obtain⟨bx1,bx2,bx3,bz⟩:=zbI w 41 41 #[.bool baa,.slice Baa maa daa,.slice Eaa uaa vaa] #[.bool bab,.slice Bab mab dab,.slice Eab uab vab]
 have hB:=zab hB bx1
 obtain⟨g1,e1,i1⟩:=bx2.c3
 obtain⟨g2,e2,i2⟩:=bx3.c3
 clear bx1 bx2 bx3 bz
 go_wp2_with fail
 generalize (w.alloc (.cells #[.bool baa,.slice Baa maa daa,.slice Eaa uaa vaa] 41)).alloc (.cells #[.bool bab,.slice Bab mab dab,.slice Eab uab vab] 41)=W1 at*
 have HZ3:Hid (Sz (K) (s.den)):=SzQ.den HZab.out
 have C0:=lh9 (λw' (h:Below W1.heap.size W1 w')=>zcA (s) bab Bab mab dab Eab uab vab w' (HT.out _ (zab hB h)) (HNab.out _ (zab hB h)) (szq HZab (HNab.out _ hB)))
 have HZ4:Hid (Sz (K+K) (r.num*((s.den:Nat):Int)).natAbs):=zhB HZaap.out HZ3.out
 have C1:=lh9 (λw' (h:Below W1.heap.size W1 w') B3 m3 d3 (hw3:zad w' (s.den) B3 m3 d3)=>zgh (r.num) (s.den) baa Baa maa daa B3 m3 d3 w' (HT.out _ (zab hB h)) (HNaap.out _ (zab hB h)) hw3 (szi HZaap (HNaap.out _ hB)) (szw HZ3 hw3))
 have HZ5:Hid (Sz (K) (r.den)):=SzQ.den HZaa.out
 have C2:=lh9 (λw' (h:Below W1.heap.size W1 w')=>zcA (r) baa Baa maa daa Eaa uaa vaa w' (HT.out _ (zab hB h)) (HNaa.out _ (zab hB h)) (szq HZaa (HNaa.out _ hB)))
 have HZ6:Hid (Sz (K+K) (s.num*((r.den:Nat):Int)).natAbs):=zhB HZabp.out HZ5.out
 have C3:=lh9 (λw' (h:Below W1.heap.size W1 w') B5 m5 d5 (hw5:zad w' (r.den) B5 m5 d5)=>zgh (s.num) (r.den) bab Bab mab dab B5 m5 d5 w' (HT.out _ (zab hB h)) (HNabp.out _ (zab hB h)) hw5 (szi HZabp (HNabp.out _ hB)) (szw HZ5 hw5))
 have C4:=lh9 (λw' (h:Below W1.heap.size W1 w') b4 B4 m4 d4 (hw4:zaG w' (r.num*((s.den:Nat):Int)) b4 B4 m4 d4) b6 B6 m6 d6 (hw6:zaG w' (s.num*((r.den:Nat):Int)) b6 B6 m6 d6)=>zct (v:=v) (HV.out) (HIC.out.cmp (r.num*((s.den:Nat):Int)) (s.num*((r.den:Nat):Int)) b4 b6 B4 B6 m4 m6 d4 d6 w' (HT.out _ (zab hB h)) hw4 hw6 (szi HZ4 hw4) (szi HZ6 hw6)))
 have hBw:=(Below.refl W1.heap.size W1).drew
 refine rg (csc g1 (csc e1 (csc i1 (csc g2 (csc e2 (csc i2 csn)))))) (λhHeld=>?_)
 refine tk 0 ?_
 refine tk 1 ?_
 refine tk 2 ?_
 refine tk 5 ?_
 refine tk 6 ?_
 refine tk 7 ?_
 refine rc 3 (λK hK=>?_)
 go_simp
 go_at_call 105;(with_reducible refine(C0.out _ hBw).mono ?_);rintro e wa2 ⟨B3,m3,d3,rfl,hw3,hb⟩;have hBw:=zab hBw hb;refine hK.out _ _ (Cs.below hHeld hb) (λhHeld=>?_);clear hK K hb
 try simp only [sb9]
 refine rc 4 (λK hK=>?_)
 go_simp
 go_at_call 203;(with_reducible refine(C1.out _ hBw _ _ _ hw3).mono ?_);rintro e wa3 ⟨b4,B4,m4,d4,rfl,hw4,hb⟩;have hBw:=zab hBw hb;have hw3:=hw3.below hb;refine hK.out _ _ (Cs.below hHeld hb) (λhHeld=>?_);clear hK K hb
 try simp only [sb9]
 refine rc 8 (λK hK=>?_)
 go_simp
 go_at_call 105;(with_reducible refine(C2.out _ hBw).mono ?_);rintro e wa4 ⟨B5,m5,d5,rfl,hw5,hb⟩;have hBw:=zab hBw hb;have hw3:=hw3.below hb;have hw4:=hw4.below hb;refine hK.out _ _ (Cs.below hHeld hb) (λhHeld=>?_);clear hK K hb
 try simp only [sb9]
 refine rc 9 (λK hK=>?_)
 go_simp
 go_at_call 203;(with_reducible refine(C3.out _ hBw _ _ _ hw5).mono ?_);rintro e wa5 ⟨b6,B6,m6,d6,rfl,hw6,hb⟩;have hBw:=zab hBw hb;have hw3:=hw3.below hb;have hw4:=hw4.below hb;have hw5:=hw5.below hb;refine hK.out _ _ (Cs.below hHeld hb) (λhHeld=>?_);clear hK K hb
 try simp only [sb9]
 refine rc 10 (λK hK=>?_)
 go_simp
 go_at_call 100;(with_reducible refine(C4.out _ hBw _ _ _ _ hw4 _ _ _ _ hw6).mono ?_);rintro e wa6 ⟨rfl,hb⟩;have hBw:=zab hBw hb;have hw3:=hw3.below hb;have hw4:=hw4.below hb;have hw5:=hw5.below hb;have hw6:=hw6.below hb;refine hK.out _ _ (Cs.below hHeld hb) (λhHeld=>?_);clear hK K hb
 try simp only [sb9]
 refine tk 11 ?_
 refine rdn ?_
 have hB:=zab hB hBw
 have g1:=zac hBw g1
 have e1:=zac hBw e1
 have i1:=zac hBw i1
 have g2:=zac hBw g2
 have e2:=zac hBw e2
 have i2:=zac hBw i2
 clear hBw hHeld hw3 hw4 hw5 hw6 C0 C1 C2 C3 C4
 go_wp2
 go_ret
 exact⟨by first|rfl|simp,hB⟩
theorem zpG (r s:Rat)(baa:Bool)(Baa:oA9)(maa daa:Nat)(Eaa:oA9)(uaa vaa:Nat)(bab:Bool)(Bab:oA9)(mab dab:Nat)(Eab:oA9)(uab vab:Nat)(w:World)(hT:zai w)(haa:zah w r baa Baa maa daa Eaa uaa vaa)(hab:zah w s bab Bab mab dab Eab uab vab)(qaa:zaT maa uaa)(qab:zaT mab uab):
  Calls Tryz.prog 174 #[.agg #[.bool baa,.slice Baa maa daa,.slice Eaa uaa vaa],.agg #[.bool bab,.slice Bab mab dab,.slice Eab uab vab]] w (zcH w (zgG r s)):=by
 exact zqO r s baa Baa maa daa Eaa uaa vaa bab Bab mab dab Eab uab vab w hT haa hab qaa qab (zgG r s) (znZ r s).symm
theorem zoR (r:Rat)(s:Rat)(baa:Bool)(Baa:oA9)(maa daa:Nat)(Eaa:oA9)(uaa vaa:Nat)(bab:Bool)(Bab:oA9)(mab dab:Nat)(Eab:oA9)(uab vab:Nat)(w:World)(hT:zai w)(haa:zah w r baa Baa maa daa Eaa uaa vaa)(hab:zah w s bab Bab mab dab Eab uab vab)(qaa:zaT maa uaa)(qab:zaT mab uab)(h0:r.num≠s.num):
  Calls Tryz.prog 37 #[.agg #[.bool baa,.slice Baa maa daa,.slice Eaa uaa vaa],.agg #[.bool bab,.slice Bab mab dab,.slice Eab uab vab]] w (λe w'=>e=.returned (.bool false)/\Below w.heap.size w w'):=by
 have HIC:=lh9 (zbV (T:=zai))
 have HT:=lh9 (λw' (hb:Below w.heap.size w w')=>hT.on hb)
 have HTB:=HT
 obtain⟨K,hKe⟩:∃K,67108864=K:=⟨_,rfl⟩
 have hKK:K<=67108864:=by omega
 have hK0:0<K:=by omega
 obtain⟨c,hc⟩:∃c,zhM r.num s.num=c:=⟨_,rfl⟩
 have HC:=lh9 hc
 have kb1:(c==0)=false:=by
  rw [beq_eq_false_iff_ne]
  intro h9
  rw [h9] at hc
  exact h0 ((ziG _ _).1 hc)
 clear hc
 obtain⟨xaa,hxaa,hxwaa⟩:=haa.2
 have HZaa:Hid (SzQ K r):=zaM haa qaa hKe
 have HZaap:Hid (Sz K r.num.natAbs):=HZaa.out.num
 have HZaaq:Hid (Sz K xaa):=zar HZaa.out.den hxaa
 have HNaap:=lh9 (λw' (b:Below w.heap.size w w')=>haa.1.below b)
 clear haa qaa hxaa hxwaa
 obtain⟨xab,hxab,hxwab⟩:=hab.2
 have HZab:Hid (SzQ K s):=zaM hab qab hKe
 have HZabp:Hid (Sz K s.num.natAbs):=HZab.out.num
 have HZabq:Hid (Sz K xab):=zar HZab.out.den hxab
 have HNabp:=lh9 (λw' (b:Below w.heap.size w w')=>hab.1.below b)
 clear hab qab hxab hxwab
 clear hT hKe h0
 go_enter Tryz.func37,Tryz.ntmps37
 have hB:=Below.refl w.heap.size w
 obtain⟨bx1,bx2,bx3,bz⟩:=zbI w 41 41 #[.bool baa,.slice Baa maa daa,.slice Eaa uaa vaa] #[.bool bab,.slice Bab mab dab,.slice Eab uab vab]
 have hB:=zab hB bx1
 obtain⟨g1,e1,i1⟩:=bx2.c3
 obtain⟨g2,e2,i2⟩:=bx3.c3
 clear bx1 bx2 bx3 bz
 go_wp2_with fail
 generalize (w.alloc (.cells #[.bool baa,.slice Baa maa daa,.slice Eaa uaa vaa] 41)).alloc (.cells #[.bool bab,.slice Bab mab dab,.slice Eab uab vab] 41)=W1 at*
 (with_reducible refine(zct (v:=c) (HC.out) (HIC.out.cmp (r.num) (s.num) baa bab Baa Bab maa mab daa dab _ (HT.out _ hB) (HNaap.out _ hB) (HNabp.out _ hB) (szi HZaap (HNaap.out _ hB)) (szi HZabp (HNabp.out _ hB)))).mono ?_)
 rintro e wc2 ⟨rfl,hb⟩
 have hB:=zab hB hb
 have g1:=zac hb g1
 have e1:=zac hb e1
 have i1:=zac hb i1
 have g2:=zac hb g2
 have e2:=zac hb e2
 have i2:=zac hb i2
 clear hb 
 go_wp2
 go_ret
 exact⟨by first|rfl|simp,hB⟩
theorem zoS (r:Rat)(s:Rat)(baa:Bool)(Baa:oA9)(maa daa:Nat)(Eaa:oA9)(uaa vaa:Nat)(bab:Bool)(Bab:oA9)(mab dab:Nat)(Eab:oA9)(uab vab:Nat)(w:World)(hT:zai w)(haa:zah w r baa Baa maa daa Eaa uaa vaa)(hab:zah w s bab Bab mab dab Eab uab vab)(qaa:zaT maa uaa)(qab:zaT mab uab)(h0:r.num=s.num)(h1:r.den≠s.den):
  Calls Tryz.prog 37 #[.agg #[.bool baa,.slice Baa maa daa,.slice Eaa uaa vaa],.agg #[.bool bab,.slice Bab mab dab,.slice Eab uab vab]] w (λe w'=>e=.returned (.bool false)/\Below w.heap.size w w'):=by
 have HIC:=lh9 (zbV (T:=zai))
 have HT:=lh9 (λw' (hb:Below w.heap.size w w')=>hT.on hb)
 have HTB:=HT
 obtain⟨K,hKe⟩:∃K,67108864=K:=⟨_,rfl⟩
 have hKK:K<=67108864:=by omega
 have hK0:0<K:=by omega
 obtain⟨xaa,hxaa,hxwaa⟩:=haa.2
 have HXaa:=lh9 hxaa
 have HZaa:Hid (SzQ K r):=zaM haa qaa hKe
 have HZaap:Hid (Sz K r.num.natAbs):=HZaa.out.num
 have HZaaq:Hid (Sz K xaa):=zar HZaa.out.den hxaa
 have HNaap:=lh9 (λw' (b:Below w.heap.size w w')=>haa.1.below b)
 have HNaaq:=lh9 (λw' (b:Below w.heap.size w w')=>hxwaa.below b)
 clear haa qaa hxaa hxwaa
 obtain⟨xab,hxab,hxwab⟩:=hab.2
 have HXab:=lh9 hxab
 have HZab:Hid (SzQ K s):=zaM hab qab hKe
 have HZabp:Hid (Sz K s.num.natAbs):=HZab.out.num
 have HZabq:Hid (Sz K xab):=zar HZab.out.den hxab
 have HNabp:=lh9 (λw' (b:Below w.heap.size w w')=>hab.1.below b)
 have HNabq:=lh9 (λw' (b:Below w.heap.size w w')=>hxwab.below b)
 clear hab qab hxab hxwab
 have HC0:Hid (zhM r.num s.num=0):=(ziG _ _).2 h0
 have hxn:xaa≠xab:=λh9=>h1 (by rw [HXaa.out.1,HXab.out.1,h9])
 obtain⟨c,hc⟩:∃c,zcC xaa xab=c:=⟨_,rfl⟩
 have HC:=lh9 hc
 have kb1:(c==0)=false:=by
  rw [beq_eq_false_iff_ne]
  intro h9
  rw [h9] at hc
  rcases Nat.lt_trichotomy xaa xab with h8|h8|h8
  ·rw [zei h8] at hc;omega
  ·exact hxn h8
  ·rw [zeX h8] at hc;omega
 clear hc
 clear hxn
 clear hT hKe h0 h1
 go_enter Tryz.func37,Tryz.ntmps37
 have hB:=Below.refl w.heap.size w
 obtain⟨bx1,bx2,bx3,bz⟩:=zbI w 41 41 #[.bool baa,.slice Baa maa daa,.slice Eaa uaa vaa] #[.bool bab,.slice Bab mab dab,.slice Eab uab vab]
 have hB:=zab hB bx1
 obtain⟨g1,e1,i1⟩:=bx2.c3
 obtain⟨g2,e2,i2⟩:=bx3.c3
 clear bx1 bx2 bx3 bz
 go_wp2_with fail
 generalize (w.alloc (.cells #[.bool baa,.slice Baa maa daa,.slice Eaa uaa vaa] 41)).alloc (.cells #[.bool bab,.slice Bab mab dab,.slice Eab uab vab] 41)=W1 at*
 (with_reducible refine(zct (v:=0) (HC0.out) (HIC.out.cmp (r.num) (s.num) baa bab Baa Bab maa mab daa dab _ (HT.out _ hB) (HNaap.out _ hB) (HNabp.out _ hB) (szi HZaap (HNaap.out _ hB)) (szi HZabp (HNabp.out _ hB)))).mono ?_)
 rintro e wc2 ⟨rfl,hb⟩
 have hB:=zab hB hb
 have g1:=zac hb g1
 have e1:=zac hb e1
 have i1:=zac hb i1
 have g2:=zac hb g2
 have e2:=zac hb e2
 have i2:=zac hb i2
 clear hb 
 go_wp2_with fail
 (with_reducible refine(zct (v:=c) (HC.out) (zfe (xaa) (xab) Eaa Eab uaa uab vaa vab _ (HNaaq.out _ hB) (HNabq.out _ hB) (szw HZaaq (HNaaq.out _ hB)) (szw HZabq (HNabq.out _ hB)))).mono ?_)
 rintro e wc3 ⟨rfl,hb⟩
 have hB:=zab hB hb
 have g1:=zac hb g1
 have e1:=zac hb e1
 have i1:=zac hb i1
 have g2:=zac hb g2
 have e2:=zac hb e2
 have i2:=zac hb i2
 clear hb 
 go_wp2
 go_ret
 exact⟨by first|rfl|simp,hB⟩
theorem zoT (r:Rat)(s:Rat)(baa:Bool)(Baa:oA9)(maa daa:Nat)(Eaa:oA9)(uaa vaa:Nat)(bab:Bool)(Bab:oA9)(mab dab:Nat)(Eab:oA9)(uab vab:Nat)(w:World)(hT:zai w)(haa:zah w r baa Baa maa daa Eaa uaa vaa)(hab:zah w s bab Bab mab dab Eab uab vab)(qaa:zaT maa uaa)(qab:zaT mab uab)(h0:r.num=s.num)(h1:r.den=s.den):
  Calls Tryz.prog 37 #[.agg #[.bool baa,.slice Baa maa daa,.slice Eaa uaa vaa],.agg #[.bool bab,.slice Bab mab dab,.slice Eab uab vab]] w (λe w'=>e=.returned (.bool true)/\Below w.heap.size w w'):=by
 have HIC:=lh9 (zbV (T:=zai))
 have HT:=lh9 (λw' (hb:Below w.heap.size w w')=>hT.on hb)
 have HTB:=HT
 obtain⟨K,hKe⟩:∃K,67108864=K:=⟨_,rfl⟩
 have hKK:K<=67108864:=by omega
 have hK0:0<K:=by omega
 obtain⟨xaa,hxaa,hxwaa⟩:=haa.2
 have HXaa:=lh9 hxaa
 have HZaa:Hid (SzQ K r):=zaM haa qaa hKe
 have HZaap:Hid (Sz K r.num.natAbs):=HZaa.out.num
 have HZaaq:Hid (Sz K xaa):=zar HZaa.out.den hxaa
 have HNaap:=lh9 (λw' (b:Below w.heap.size w w')=>haa.1.below b)
 have HNaaq:=lh9 (λw' (b:Below w.heap.size w w')=>hxwaa.below b)
 clear haa qaa hxaa hxwaa
 obtain⟨xab,hxab,hxwab⟩:=hab.2
 have HXab:=lh9 hxab
 have HZab:Hid (SzQ K s):=zaM hab qab hKe
 have HZabp:Hid (Sz K s.num.natAbs):=HZab.out.num
 have HZabq:Hid (Sz K xab):=zar HZab.out.den hxab
 have HNabp:=lh9 (λw' (b:Below w.heap.size w w')=>hab.1.below b)
 have HNabq:=lh9 (λw' (b:Below w.heap.size w w')=>hxwab.below b)
 clear hab qab hxab hxwab
 have HC0:Hid (zhM r.num s.num=0):=(ziG _ _).2 h0
 have HC1:Hid (zcC xaa xab=0):=by
  have e:xaa=xab:=by
   by_cases h9:r.den=1
   ·rw [zgR HXaa.out h9,zgR HXab.out (h1▸h9)]
   ·rw [(zeo HXaa.out h9).2,(zeo HXab.out (h1▸h9)).2,h1]
  show _=_
  rw [e]
  exact zgc rfl
 clear hT hKe h0 h1
 go_enter Tryz.func37,Tryz.ntmps37
 have hB:=Below.refl w.heap.size w
 obtain⟨bx1,bx2,bx3,bz⟩:=zbI w 41 41 #[.bool baa,.slice Baa maa daa,.slice Eaa uaa vaa] #[.bool bab,.slice Bab mab dab,.slice Eab uab vab]
 have hB:=zab hB bx1
 obtain⟨g1,e1,i1⟩:=bx2.c3
 obtain⟨g2,e2,i2⟩:=bx3.c3
 clear bx1 bx2 bx3 bz
 go_wp2_with fail
 generalize (w.alloc (.cells #[.bool baa,.slice Baa maa daa,.slice Eaa uaa vaa] 41)).alloc (.cells #[.bool bab,.slice Bab mab dab,.slice Eab uab vab] 41)=W1 at*
 (with_reducible refine(zct (v:=0) (HC0.out) (HIC.out.cmp (r.num) (s.num) baa bab Baa Bab maa mab daa dab _ (HT.out _ hB) (HNaap.out _ hB) (HNabp.out _ hB) (szi HZaap (HNaap.out _ hB)) (szi HZabp (HNabp.out _ hB)))).mono ?_)
 rintro e wc2 ⟨rfl,hb⟩
 have hB:=zab hB hb
 have g1:=zac hb g1
 have e1:=zac hb e1
 have i1:=zac hb i1
 have g2:=zac hb g2
 have e2:=zac hb e2
 have i2:=zac hb i2
 clear hb 
 go_wp2_with fail
 (with_reducible refine(zct (v:=0) (HC1.out) (zfe (xaa) (xab) Eaa Eab uaa uab vaa vab _ (HNaaq.out _ hB) (HNabq.out _ hB) (szw HZaaq (HNaaq.out _ hB)) (szw HZabq (HNabq.out _ hB)))).mono ?_)
 rintro e wc3 ⟨rfl,hb⟩
 have hB:=zab hB hb
 have g1:=zac hb g1
 have e1:=zac hb e1
 have i1:=zac hb i1
 have g2:=zac hb g2
 have e2:=zac hb e2
 have i2:=zac hb i2
 clear hb 
 go_wp2
 go_ret
 exact⟨by first|rfl|simp,hB⟩
theorem zno (r s:Rat)(baa:Bool)(Baa:oA9)(maa daa:Nat)(Eaa:oA9)(uaa vaa:Nat)(bab:Bool)(Bab:oA9)(mab dab:Nat)(Eab:oA9)(uab vab:Nat)(w:World)(hT:zai w)(haa:zah w r baa Baa maa daa Eaa uaa vaa)(hab:zah w s bab Bab mab dab Eab uab vab)(qaa:zaT maa uaa)(qab:zaT mab uab):
  Calls Tryz.prog 37 #[.agg #[.bool baa,.slice Baa maa daa,.slice Eaa uaa vaa],.agg #[.bool bab,.slice Bab mab dab,.slice Eab uab vab]] w (λe w'=>e=.returned (.bool (decide (r=s)))/\Below w.heap.size w w'):=by
 by_cases h0:r.num=s.num
 ·by_cases h1:r.den=s.den
  ·rw [decide_eq_true (Rat.ext h0 h1)];exact zoT r s baa Baa maa daa Eaa uaa vaa bab Bab mab dab Eab uab vab w hT haa hab qaa qab h0 h1
  ·rw [decide_eq_false (λh9=>h1 (by rw [h9]))];exact zoS r s baa Baa maa daa Eaa uaa vaa bab Bab mab dab Eab uab vab w hT haa hab qaa qab h0 h1
 ·rw [decide_eq_false (λh9=>h0 (by rw [h9]))];exact zoR r s baa Baa maa daa Eaa uaa vaa bab Bab mab dab Eab uab vab w hT haa hab qaa qab h0
theorem rat_bits (r:Rat)(baa:Bool)(Baa:oA9)(maa daa:Nat)(Eaa:oA9)(uaa vaa:Nat)(w:World)(hT:zai w)(haa:zah w r baa Baa maa daa Eaa uaa vaa)(qaa:zaT maa uaa):
  Calls Tryz.prog 80 #[.agg #[.bool baa,.slice Baa maa daa,.slice Eaa uaa vaa]] w (zcH w ((bitLen r.num.natAbs+bitLen r.den:Nat):Int)):=by
 have HIC:=lh9 (zbV (T:=zai))
 have HT:=lh9 (λw' (hb:Below w.heap.size w w')=>hT.on hb)
 have HTB:=HT
 obtain⟨K,hKe⟩:∃K,67108864=K:=⟨_,rfl⟩
 have hKK:K<=67108864:=by omega
 have hK0:0<K:=by omega
 obtain⟨pa,hpa⟩:∃v,((bitLen r.num.natAbs:Nat):Int)=v:=⟨_,rfl⟩
 obtain⟨pb,hpb⟩:∃v,((bitLen r.den:Nat):Int)=v:=⟨_,rfl⟩
 have HPA:=lh9 hpa
 have HPB:=lh9 hpb
 have HNaa:=lh9 (λw' (b:Below w.heap.size w w')=>haa.below b)
 obtain⟨xaa,hxaa,hxwaa⟩:=haa.2
 have HZaa:Hid (SzQ K r):=zaM haa qaa hKe
 have HZaap:Hid (Sz K r.num.natAbs):=HZaa.out.num
 have HZaaq:Hid (Sz K xaa):=zar HZaa.out.den hxaa
 have HNaap:=lh9 (λw' (b:Below w.heap.size w w')=>haa.1.below b)
 clear haa qaa hxaa hxwaa
 have hs1:=zll HZaa.out.num
 have hs2:=zll HZaa.out.den
 have HTT:Hid (IntKind.i64.wrap (pa+pb)=((bitLen r.num.natAbs+bitLen r.den:Nat):Int)):=by
  show _=_
  rw [IntKind.wrap_i64]
  omega
 clear hT hKe hpa hpb hs1 hs2
 go_enter Tryz.func80,Tryz.ntmps80
 have hB:=Below.refl w.heap.size w
 obtain⟨bx1,bx2,bz⟩:=zav w 41 #[.bool baa,.slice Baa maa daa,.slice Eaa uaa vaa]
 have hB:=zab hB bx1
 obtain⟨g1,e1,i1⟩:=bx2.c3
 clear bx1 bx2 bz
 go_wp2_with fail
 generalize w.alloc (.cells #[.bool baa,.slice Baa maa daa,.slice Eaa uaa vaa] 41)=W1 at*
 have HZ2:Hid (Sz (K) (r.num.natAbs)):=HZaap.out
 have C0:=lh9 (λw' (h:Below W1.heap.size W1 w')=>HIC.out.abs (r.num) baa Baa maa daa w' (HT.out _ (zab hB h)) (HNaap.out _ (zab hB h)) (szi HZaap (HNaap.out _ hB)))
 have C1:=lh9 (λw' (h:Below W1.heap.size W1 w') B2 m2 d2 (hw2:zad w' (r.num.natAbs) B2 m2 d2)=>zct (v:=pa) (HPA.out) (zmy (r.num.natAbs) B2 m2 d2 w' hw2 (szw HZ2 hw2)))
 have HZ3:Hid (Sz (K) (r.den)):=SzQ.den HZaa.out
 have C2:=lh9 (λw' (h:Below W1.heap.size W1 w')=>zcA (r) baa Baa maa daa Eaa uaa vaa w' (HT.out _ (zab hB h)) (HNaa.out _ (zab hB h)) (szq HZaa (HNaa.out _ hB)))
 have C3:=lh9 (λw' (h:Below W1.heap.size W1 w') B3 m3 d3 (hw3:zad w' (r.den) B3 m3 d3)=>zct (v:=pb) (HPB.out) (zmy (r.den) B3 m3 d3 w' hw3 (szw HZ3 hw3)))
 have hBw:=(Below.refl W1.heap.size W1).drew
 refine rg (csc g1 (csc e1 (csc i1 csn))) (λhHeld=>?_)
 refine tk 0 ?_
 refine tk 1 ?_
 refine tk 4 ?_
 refine rc 2 (λK hK=>?_)
 go_simp
 go_at_call 104;(with_reducible refine(C0.out _ hBw).mono ?_);rintro e wa2 ⟨B2,m2,d2,rfl,hw2,hb⟩;have hBw:=zab hBw hb;refine hK.out _ _ (Cs.below hHeld hb) (λhHeld=>?_);clear hK K hb
 try simp only [sb9]
 refine rc 3 (λK hK=>?_)
 go_simp
 go_at_call 151;(with_reducible refine(C1.out _ hBw _ _ _ hw2).mono ?_);rintro e wa3 ⟨rfl,hb⟩;have hBw:=zab hBw hb;have hw2:=hw2.below hb;refine hK.out _ _ (Cs.below hHeld hb) (λhHeld=>?_);clear hK K hb
 try simp only [sb9]
 refine rc 5 (λK hK=>?_)
 go_simp
 go_at_call 105;(with_reducible refine(C2.out _ hBw).mono ?_);rintro e wa4 ⟨B3,m3,d3,rfl,hw3,hb⟩;have hBw:=zab hBw hb;have hw2:=hw2.below hb;refine hK.out _ _ (Cs.below hHeld hb) (λhHeld=>?_);clear hK K hb
 try simp only [sb9]
 refine rc 6 (λK hK=>?_)
 go_simp
 go_at_call 151;(with_reducible refine(C3.out _ hBw _ _ _ hw3).mono ?_);rintro e wa5 ⟨rfl,hb⟩;have hBw:=zab hBw hb;have hw2:=hw2.below hb;have hw3:=hw3.below hb;refine hK.out _ _ (Cs.below hHeld hb) (λhHeld=>?_);clear hK K hb
 try simp only [sb9]
 refine tk 7 ?_
 refine tk 8 ?_
 refine rdn ?_
 have hB:=zab hB hBw
 have g1:=zac hBw g1
 have e1:=zac hBw e1
 have i1:=zac hBw i1
 clear hBw hHeld hw2 hw3 C0 C1 C2 C3
 go_wp2
 go_ret
 exact⟨by rw [<-HTT.out];rfl,hB⟩
