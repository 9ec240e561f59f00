/- What this claim leans on. -/
import Derived.Test.YtlgnacmgepnamaaGreatDoorKJ8Form
namespace Go.Proofs.YtlgnacmgepnamaaGreatDoor
open Go Go.RowKit
set_option maxHeartbeats 16000000
set_option maxRecDepth 100000
set_option linter.unusedVariables false
set_option linter.unusedSimpArgs false
theorem zek {K x:Nat}(h:Sz K x):bitLen x<=64*K:=zcY _ _ (by
 unfold Sz at h
 rw [show(18446744073709551616:Nat)=2^64 from rfl,<-Nat.pow_mul] at h
 exact h)
theorem zgR (x y:Nat)(v:Int)(A:oA9)(D:oA9)(n m c d:Nat)(w:World)(hA:zak w x A n c)(hD:zak w y D m d)(hn:n<=1099511627776)(hm:m<=1099511627776)(hv:zbh x y=v):
  Calls Tryz.prog 94 #[.slice A n c,.slice D m d] w (zbK w v):=by
 refine(zgz x y A D n m c d w hA hD hn hm).mono ?_
 rintro e w' ⟨rfl,q,rfl⟩
 exact⟨by rw [hv],zaW (Below.refl _ _) _⟩
theorem zdc (x:Nat)(v:Int)(A:oA9)(n c:Nat)(w:World)(hA:zak w x A n c)(hn:n<=274877906944)(hv:((bitLen x:Nat):Int)=v):
  Calls Tryz.prog 98 #[.slice A n c] w (zbK w v):=by
 refine(zjH x A n c w hA hn).mono ?_
 rintro e w' ⟨rfl,rfl⟩
 exact⟨by rw [hv],Below.refl _ _⟩
theorem zlw {T:World->Prop}{M:Nat->Prop}(hTb:∀w w',T w->Below w.heap.size w w'->T w')(IC:IntC T)(QC:RatC T M)(r:Rat)(K:Nat)(bx:Bool)(Bx:oA9)(mx dx:Nat)(Ex:oA9)(ux vx:Nat)(bab:Bool)(Bab:oA9)(mab dab:Nat)(Eab:oA9)(uab vab:Nat)(w:World)(hK:K<=16777216)(hz:SzQ K r)(h:zan w r bx Bx mx dx Ex ux vx)(k:zca w r bab Bab mab dab Eab uab vab)(hT:T w)(hz0:r=0)(ho:r.den=1):
  Calls Tryz.prog 56 #[.agg #[.bool bx,.slice Bx mx dx,.slice Ex ux vx],.agg #[.bool bab,.slice Bab mab dab,.slice Eab uab vab]] w λe w'=>e=.returned (.bool true)/\Below w.heap.size w w':=by
 have HIC:=lh9 IC
 have HQC:=lh9 QC
 have HT:=lh9 (λw' (hb:Below w.heap.size w w')=>hTb w w' hT hb)
 have HZx:=lh9 hz
 have HNx:=lh9 h
 have HZab:=lh9 hz
 have HNab:=lh9 k
 have Hz0:=lh9 hz0
 have HO:=lh9 ho
 have HC:Hid (zbh r.den 1=0):=by rw [ho];rfl
 obtain⟨tb,htb⟩:∃v,((bitLen r.num.natAbs+bitLen r.den:Nat):Int)=v:=⟨_,rfl⟩
 obtain⟨pa,hpa⟩:∃v,((bitLen r.num.natAbs:Nat):Int)=v:=⟨_,rfl⟩
 obtain⟨pb,hpb⟩:∃v,((bitLen r.den:Nat):Int)=v:=⟨_,rfl⟩
 have HTB:=lh9 htb
 have HPA:=lh9 hpa
 have HPB:=lh9 hpb
 have hs1:=zek hz.num
 have hs2:=zek hz.den
 have htt:tb=IntKind.i64.wrap (pa+pb):=by rw [IntKind.wrap_i64];omega
 have hab0:((mab:Int)==0)=true:=by have:=zhX k.1.2 (by rw [hz0];rfl);rw [beq_iff_eq];omega
 have HNabp:=lh9 HNab.out.1
 have HNabq:=lh9 HNab.out.2
 have HZabp:Hid (Sz K r.num.natAbs):=HZab.out.num
 have HZabq:Hid (Sz K r.den):=HZab.out.den
 have HNabr:=lh9 HNab.out.1.2
 have HZabr:=HZabp
 clear IC QC hT hz h k hz0 ho htb hpa hpb hs1 hs2
 go_enter Tryz.func56,Tryz.ntmps56
 have hB:=Below.refl w.heap.size w
 have gm2_2_0:((w.alloc (.cells #[.bool bx,.slice Bx mx dx,.slice Ex ux vx] 48)).alloc (.cells #[.bool bab,.slice Bab mab dab,.slice Eab uab vab] 94)).cell? ⟨w.heap.size+1,0,none⟩=some (.bool bab):=by
  obtain⟨c1,c2,c3,_⟩:=zbe w 48 94 #[.bool bx,.slice Bx mx dx,.slice Ex ux vx] #[.bool bab,.slice Bab mab dab,.slice Eab uab vab]
  exact c3.cell 0
 have gm2_2_1:((w.alloc (.cells #[.bool bx,.slice Bx mx dx,.slice Ex ux vx] 48)).alloc (.cells #[.bool bab,.slice Bab mab dab,.slice Eab uab vab] 94)).cell? ⟨w.heap.size+1,1,none⟩=some (.slice Bab mab dab):=by
  obtain⟨c1,c2,c3,_⟩:=zbe w 48 94 #[.bool bx,.slice Bx mx dx,.slice Ex ux vx] #[.bool bab,.slice Bab mab dab,.slice Eab uab vab]
  exact c3.cell 1
 have gm2_2_2:((w.alloc (.cells #[.bool bx,.slice Bx mx dx,.slice Ex ux vx] 48)).alloc (.cells #[.bool bab,.slice Bab mab dab,.slice Eab uab vab] 94)).cell? ⟨w.heap.size+1,2,none⟩=some (.slice Eab uab vab):=by
  obtain⟨c1,c2,c3,_⟩:=zbe w 48 94 #[.bool bx,.slice Bx mx dx,.slice Ex ux vx] #[.bool bab,.slice Bab mab dab,.slice Eab uab vab]
  exact c3.cell 2
 obtain⟨bx1,bx2,bx3,bx4,bz⟩:=zbq w 48 94 3 #[.bool bx,.slice Bx mx dx,.slice Ex ux vx] #[.bool bab,.slice Bab mab dab,.slice Eab uab vab] #[.int .i64 1]
 have hB:=zac hB bx1
 have HNx:=lh9 (HNx.out.below bx1)
 have HNabp:=lh9 (HNabp.out.below bx1)
 have HNabq:=lh9 (HNabq.out.below bx1)
 have HNabr:=lh9 (HNabr.out.below bx1)
 obtain⟨g1,e1,i1⟩:=bx2.c3
 obtain⟨g2,e2,i2⟩:=bx3.c3
 have k3:=bx4
 clear bx1 bx2 bx3 bx4 bz
 go_wp2_with fail
 clear gm2_2_0 gm2_2_1 gm2_2_2
 generalize ((w.alloc (.cells #[.bool bx,.slice Bx mx dx,.slice Ex ux vx] 48)).alloc (.cells #[.bool bab,.slice Bab mab dab,.slice Eab uab vab] 94)).alloc (.cells #[.int .i64 1] 3)=W1 at*
 go_wp2_with fail
 have HN4:=lh9 (zdG k3)
 have HZ4:Hid (Sz 1 1):=zcA (by decide)
 (with_reducible refine(zgR (r.den) (1) (0) Eab (some ⟨w.heap.size+1+1,0,none⟩) uab 1 vab 1 _ HNabq.out HN4.out (szh HZabq HNabq.out) (szh HZ4 HN4.out) HC.out).mono ?_)
 rintro e wc2 ⟨rfl,hb⟩
 have hB:=zac hB hb
 have HNx:=lh9 (HNx.out.below hb)
 have HNabp:=lh9 (HNabp.out.below hb)
 have HNabq:=lh9 (HNabq.out.below hb)
 have HNabr:=lh9 (HNabr.out.below hb)
 have g1:=zad hb g1
 have e1:=zad hb e1
 have i1:=zad hb i1
 have g2:=zad hb g2
 have e2:=zad hb e2
 have i2:=zad hb i2
 have k3:=zae hb k3
 clear hb 
 go_wp2_with fail
 have HZ5:Hid (Sz (K) (r.num).natAbs):=SzQ.num HZx.out
 have C0:=lh9 (λw' (h:Below wc2.heap.size wc2 w')=>HQC.out.num (r) bx Bx mx dx Ex ux vx w' (HT.out _ (zac hB h)) (HNx.out.below h) (szq HZx HNx.out))
 have C1:=lh9 (λw' (h:Below wc2.heap.size wc2 w') b5 B5 m5 d5 (hw5:zaC w' (r.num) b5 B5 m5 d5)=>zgM hTb HIC.out (r.num) b5 B5 m5 d5 bab Bab mab dab (K) (by omega) w' HZ5.out hw5 (HNabp.out.below h) (HT.out _ (zac hB h)))
 have HZ6:Hid (Sz (K) (r.den)):=SzQ.den HZx.out
 have C2:=lh9 (λw' (h:Below wc2.heap.size wc2 w')=>HQC.out.den (r) bx Bx mx dx Ex ux vx w' (HT.out _ (zac hB h)) (HNx.out.below h) (szq HZx HNx.out))
 have C3:=lh9 (λw' (h:Below wc2.heap.size wc2 w') B6 m6 d6 (hw6:zaf w' (r.den) B6 m6 d6)=>zdA (r.den) B6 Eab m6 d6 uab vab w' hw6 (HNabq.out.below h) (szw HZ6 hw6) (szh HZabq HNabq.out))
 have C4:=lh9 (λw' (h:Below wc2.heap.size wc2 w')=>zax (decide_eq_true HO.out) (HQC.out.isInt (r) bx Bx mx dx Ex ux vx w' (HT.out _ (zac hB h)) (HNx.out.below h) (szq HZx HNx.out)))
 have C5:=lh9 (λw' (h:Below wc2.heap.size wc2 w')=>zax (decide_eq_true Hz0.out) (HQC.out.zero (r) bx Bx mx dx Ex ux vx w' (HT.out _ (zac hB h)) (HNx.out.below h) (szq HZx HNx.out)))
 have C6:=lh9 (λw' (h:Below wc2.heap.size wc2 w')=>zbz (v:=tb) (HTB.out) (HQC.out.bits (r) bx Bx mx dx Ex ux vx w' (HT.out _ (zac hB h)) (HNx.out.below h) (szq HZx HNx.out)))
 have C7:=lh9 (λw' (h:Below wc2.heap.size wc2 w')=>zdc (r.num.natAbs) pa Bab mab dab w' (HNabr.out.below h) (szh HZabr HNabr.out) HPA.out)
 have C8:=lh9 (λw' (h:Below wc2.heap.size wc2 w')=>zdc (r.den) pb Eab uab vab w' (HNabq.out.below h) (szh HZabq HNabq.out) HPB.out)
 have hBw:=(Below.refl wc2.heap.size wc2).drew
 refine rg (csc g1 (csc e1 (csc i1 (csc g2 (csc e2 (csc i2 csn)))))) (λhHeld=>?_)
 refine tk 0 ?_
 refine tk 2 ?_
 refine tk 3 ?_
 refine rc 1 (λK hK=>?_)
 go_simp
 go_at_call 59;(with_reducible refine(C0.out _ hBw).mono ?_);rintro e wa3 ⟨b5,B5,m5,d5,rfl,hw5,hb⟩;have hBw:=zac hBw hb;refine hK.out _ _ (Cs.below hHeld hb) (λhHeld=>?_);clear hK K hb
 try simp only [sb9]
 refine rc 4 (λK hK=>?_)
 go_simp
 go_at_call 95;(with_reducible refine(C1.out _ hBw _ _ _ _ hw5).mono ?_);rintro e wa4 ⟨rfl,hb⟩;have hBw:=zac hBw hb;have hw5:=hw5.below hb;refine hK.out _ _ (Cs.below hHeld hb) (λhHeld=>?_);clear hK K hb
 try simp only [sb9]
 refine tk 5 ?_
 refine tk 6 ?_
 refine tk 8 ?_
 refine tk 9 ?_
 refine rc 7 (λK hK=>?_)
 go_simp
 go_at_call 61;(with_reducible refine(C2.out _ hBw).mono ?_);rintro e wa5 ⟨B6,m6,d6,rfl,hw6,hb⟩;have hBw:=zac hBw hb;have hw5:=hw5.below hb;refine hK.out _ _ (Cs.below hHeld hb) (λhHeld=>?_);clear hK K hb
 try simp only [sb9]
 refine rc 10 (λK hK=>?_)
 go_simp
 go_at_call 96;(with_reducible refine(C3.out _ hBw _ _ _ hw6).mono ?_);rintro e wa6 ⟨rfl,hb⟩;have hBw:=zac hBw hb;have hw5:=hw5.below hb;have hw6:=hw6.below hb;refine hK.out _ _ (Cs.below hHeld hb) (λhHeld=>?_);clear hK K hb
 try simp only [sb9]
 refine tk 11 ?_
 refine tk 12 ?_
 refine tk 13 ?_
 refine tk 15 ?_
 refine rc 14 (λK hK=>?_)
 go_simp
 go_at_call 97;(with_reducible refine(C4.out _ hBw).mono ?_);rintro e wa7 ⟨rfl,hb⟩;have hBw:=zac hBw hb;have hw5:=hw5.below hb;have hw6:=hw6.below hb;refine hK.out _ _ (Cs.below hHeld hb) (λhHeld=>?_);clear hK K hb
 try simp only [sb9]
 refine tk 16 ?_
 refine tk 17 ?_
 refine tk 18 ?_
 refine tk 19 ?_
 refine tk 21 ?_
 refine tk 22 ?_
 refine tk 23 ?_
 refine tk 24 ?_
 refine tk 25 ?_
 refine rc 20 (λK hK=>?_)
 go_simp
 go_at_call 25;(with_reducible refine(C5.out _ hBw).mono ?_);rintro e wa8 ⟨rfl,hb⟩;have hBw:=zac hBw hb;have hw5:=hw5.below hb;have hw6:=hw6.below hb;refine hK.out _ _ (Cs.below hHeld hb) (λhHeld=>?_);clear hK K hb
 try simp only [sb9]
 refine tk 26 ?_
 refine tk 27 ?_
 refine tk 28 ?_
 refine tk 29 ?_
 refine tk 31 ?_
 refine tk 32 ?_
 refine tk 33 ?_
 refine tk 35 ?_
 refine tk 36 ?_
 refine rc 30 (λK hK=>?_)
 go_simp
 go_at_call 83;(with_reducible refine(C6.out _ hBw).mono ?_);rintro e wa9 ⟨rfl,hb⟩;have hBw:=zac hBw hb;have hw5:=hw5.below hb;have hw6:=hw6.below hb;refine hK.out _ _ (Cs.below hHeld hb) (λhHeld=>?_);clear hK K hb
 try simp only [sb9]
 refine rc 34 (λK hK=>?_)
 go_simp
 go_at_call 98;(with_reducible refine(C7.out _ hBw).mono ?_);rintro e wa10 ⟨rfl,hb⟩;have hBw:=zac hBw hb;have hw5:=hw5.below hb;have hw6:=hw6.below hb;refine hK.out _ _ (Cs.below hHeld hb) (λhHeld=>?_);clear hK K hb
 try simp only [sb9]
 refine rc 37 (λK hK=>?_)
 go_simp
 go_at_call 98;(with_reducible refine(C8.out _ hBw).mono ?_);rintro e wa11 ⟨rfl,hb⟩;have hBw:=zac hBw hb;have hw5:=hw5.below hb;have hw6:=hw6.below hb;refine hK.out _ _ (Cs.below hHeld hb) (λhHeld=>?_);clear hK K hb
 try simp only [sb9]
 refine tk 38 ?_
 refine tk 39 ?_
 refine tk 40 ?_
 refine tk 41 ?_
 refine rdn ?_
 have hB:=zac hB hBw
 have g1:=zad hBw g1
 have e1:=zad hBw e1
 have i1:=zad hBw i1
 have g2:=zad hBw g2
 have e2:=zad hBw e2
 have i2:=zad hBw i2
 have k3:=zae hBw k3
 clear hBw hHeld hw5 hw6 C0 C1 C2 C3 C4 C5 C6 C7 C8
 go_wp2
 go_ret
 exact⟨by first|rfl|simp,hB⟩
theorem zlx {T:World->Prop}{M:Nat->Prop}(hTb:∀w w',T w->Below w.heap.size w w'->T w')(IC:IntC T)(QC:RatC T M)(r:Rat)(K:Nat)(bx:Bool)(Bx:oA9)(mx dx:Nat)(Ex:oA9)(ux vx:Nat)(bab:Bool)(Bab:oA9)(mab dab:Nat)(Eab:oA9)(uab vab:Nat)(w:World)(hK:K<=16777216)(hz:SzQ K r)(h:zan w r bx Bx mx dx Ex ux vx)(k:zca w r bab Bab mab dab Eab uab vab)(hT:T w)(hz0:r≠0)(ho:r.den=1):
  Calls Tryz.prog 56 #[.agg #[.bool bx,.slice Bx mx dx,.slice Ex ux vx],.agg #[.bool bab,.slice Bab mab dab,.slice Eab uab vab]] w λe w'=>e=.returned (.bool true)/\Below w.heap.size w w':=by
 have HIC:=lh9 IC
 have HQC:=lh9 QC
 have HT:=lh9 (λw' (hb:Below w.heap.size w w')=>hTb w w' hT hb)
 have HZx:=lh9 hz
 have HNx:=lh9 h
 have HZab:=lh9 hz
 have HNab:=lh9 k
 have Hz0:=lh9 hz0
 have HO:=lh9 ho
 have HC:Hid (zbh r.den 1=0):=by rw [ho];rfl
 obtain⟨tb,htb⟩:∃v,((bitLen r.num.natAbs+bitLen r.den:Nat):Int)=v:=⟨_,rfl⟩
 obtain⟨pa,hpa⟩:∃v,((bitLen r.num.natAbs:Nat):Int)=v:=⟨_,rfl⟩
 obtain⟨pb,hpb⟩:∃v,((bitLen r.den:Nat):Int)=v:=⟨_,rfl⟩
 have HTB:=lh9 htb
 have HPA:=lh9 hpa
 have HPB:=lh9 hpb
 have hs1:=zek hz.num
 have hs2:=zek hz.den
 have htt:tb=IntKind.i64.wrap (pa+pb):=by rw [IntKind.wrap_i64];omega
 have hab0:((mab:Int)==0)=false:=by have:=zkf k.1.2 (λh9=>hz0 (Rat.num_eq_zero.1 (by omega)));rw [beq_eq_false_iff_ne];omega
 have HNabp:=lh9 HNab.out.1
 have HNabq:=lh9 HNab.out.2
 have HZabp:Hid (Sz K r.num.natAbs):=HZab.out.num
 have HZabq:Hid (Sz K r.den):=HZab.out.den
 have HNabr:=lh9 HNab.out.1.2
 have HZabr:=HZabp
 clear IC QC hT hz h k hz0 ho htb hpa hpb hs1 hs2
 go_enter Tryz.func56,Tryz.ntmps56
 have hB:=Below.refl w.heap.size w
 have gm2_2_0:((w.alloc (.cells #[.bool bx,.slice Bx mx dx,.slice Ex ux vx] 48)).alloc (.cells #[.bool bab,.slice Bab mab dab,.slice Eab uab vab] 94)).cell? ⟨w.heap.size+1,0,none⟩=some (.bool bab):=by
  obtain⟨c1,c2,c3,_⟩:=zbe w 48 94 #[.bool bx,.slice Bx mx dx,.slice Ex ux vx] #[.bool bab,.slice Bab mab dab,.slice Eab uab vab]
  exact c3.cell 0
 have gm2_2_1:((w.alloc (.cells #[.bool bx,.slice Bx mx dx,.slice Ex ux vx] 48)).alloc (.cells #[.bool bab,.slice Bab mab dab,.slice Eab uab vab] 94)).cell? ⟨w.heap.size+1,1,none⟩=some (.slice Bab mab dab):=by
  obtain⟨c1,c2,c3,_⟩:=zbe w 48 94 #[.bool bx,.slice Bx mx dx,.slice Ex ux vx] #[.bool bab,.slice Bab mab dab,.slice Eab uab vab]
  exact c3.cell 1
 have gm2_2_2:((w.alloc (.cells #[.bool bx,.slice Bx mx dx,.slice Ex ux vx] 48)).alloc (.cells #[.bool bab,.slice Bab mab dab,.slice Eab uab vab] 94)).cell? ⟨w.heap.size+1,2,none⟩=some (.slice Eab uab vab):=by
  obtain⟨c1,c2,c3,_⟩:=zbe w 48 94 #[.bool bx,.slice Bx mx dx,.slice Ex ux vx] #[.bool bab,.slice Bab mab dab,.slice Eab uab vab]
  exact c3.cell 2
 obtain⟨bx1,bx2,bx3,bx4,bz⟩:=zbq w 48 94 3 #[.bool bx,.slice Bx mx dx,.slice Ex ux vx] #[.bool bab,.slice Bab mab dab,.slice Eab uab vab] #[.int .i64 1]
 have hB:=zac hB bx1
 have HNx:=lh9 (HNx.out.below bx1)
 have HNabp:=lh9 (HNabp.out.below bx1)
 have HNabq:=lh9 (HNabq.out.below bx1)
 have HNabr:=lh9 (HNabr.out.below bx1)
 obtain⟨g1,e1,i1⟩:=bx2.c3
 obtain⟨g2,e2,i2⟩:=bx3.c3
 have k3:=bx4
 clear bx1 bx2 bx3 bx4 bz
 go_wp2_with fail
 clear gm2_2_0 gm2_2_1 gm2_2_2
 generalize ((w.alloc (.cells #[.bool bx,.slice Bx mx dx,.slice Ex ux vx] 48)).alloc (.cells #[.bool bab,.slice Bab mab dab,.slice Eab uab vab] 94)).alloc (.cells #[.int .i64 1] 3)=W1 at*
 go_wp2_with fail
 have HN4:=lh9 (zdG k3)
 have HZ4:Hid (Sz 1 1):=zcA (by decide)
 (with_reducible refine(zgR (r.den) (1) (0) Eab (some ⟨w.heap.size+1+1,0,none⟩) uab 1 vab 1 _ HNabq.out HN4.out (szh HZabq HNabq.out) (szh HZ4 HN4.out) HC.out).mono ?_)
 rintro e wc2 ⟨rfl,hb⟩
 have hB:=zac hB hb
 have HNx:=lh9 (HNx.out.below hb)
 have HNabp:=lh9 (HNabp.out.below hb)
 have HNabq:=lh9 (HNabq.out.below hb)
 have HNabr:=lh9 (HNabr.out.below hb)
 have g1:=zad hb g1
 have e1:=zad hb e1
 have i1:=zad hb i1
 have g2:=zad hb g2
 have e2:=zad hb e2
 have i2:=zad hb i2
 have k3:=zae hb k3
 clear hb 
 go_wp2_with fail
 have HZ5:Hid (Sz (K) (r.num).natAbs):=SzQ.num HZx.out
 have C0:=lh9 (λw' (h:Below wc2.heap.size wc2 w')=>HQC.out.num (r) bx Bx mx dx Ex ux vx w' (HT.out _ (zac hB h)) (HNx.out.below h) (szq HZx HNx.out))
 have C1:=lh9 (λw' (h:Below wc2.heap.size wc2 w') b5 B5 m5 d5 (hw5:zaC w' (r.num) b5 B5 m5 d5)=>zgM hTb HIC.out (r.num) b5 B5 m5 d5 bab Bab mab dab (K) (by omega) w' HZ5.out hw5 (HNabp.out.below h) (HT.out _ (zac hB h)))
 have HZ6:Hid (Sz (K) (r.den)):=SzQ.den HZx.out
 have C2:=lh9 (λw' (h:Below wc2.heap.size wc2 w')=>HQC.out.den (r) bx Bx mx dx Ex ux vx w' (HT.out _ (zac hB h)) (HNx.out.below h) (szq HZx HNx.out))
 have C3:=lh9 (λw' (h:Below wc2.heap.size wc2 w') B6 m6 d6 (hw6:zaf w' (r.den) B6 m6 d6)=>zdA (r.den) B6 Eab m6 d6 uab vab w' hw6 (HNabq.out.below h) (szw HZ6 hw6) (szh HZabq HNabq.out))
 have C4:=lh9 (λw' (h:Below wc2.heap.size wc2 w')=>zax (decide_eq_true HO.out) (HQC.out.isInt (r) bx Bx mx dx Ex ux vx w' (HT.out _ (zac hB h)) (HNx.out.below h) (szq HZx HNx.out)))
 have C5:=lh9 (λw' (h:Below wc2.heap.size wc2 w')=>zax (decide_eq_false Hz0.out) (HQC.out.zero (r) bx Bx mx dx Ex ux vx w' (HT.out _ (zac hB h)) (HNx.out.below h) (szq HZx HNx.out)))
 have C6:=lh9 (λw' (h:Below wc2.heap.size wc2 w')=>zbz (v:=tb) (HTB.out) (HQC.out.bits (r) bx Bx mx dx Ex ux vx w' (HT.out _ (zac hB h)) (HNx.out.below h) (szq HZx HNx.out)))
 have C7:=lh9 (λw' (h:Below wc2.heap.size wc2 w')=>zdc (r.num.natAbs) pa Bab mab dab w' (HNabr.out.below h) (szh HZabr HNabr.out) HPA.out)
 have C8:=lh9 (λw' (h:Below wc2.heap.size wc2 w')=>zdc (r.den) pb Eab uab vab w' (HNabq.out.below h) (szh HZabq HNabq.out) HPB.out)
 have hBw:=(Below.refl wc2.heap.size wc2).drew
 refine rg (csc g1 (csc e1 (csc i1 (csc g2 (csc e2 (csc i2 csn)))))) (λhHeld=>?_)
 refine tk 0 ?_
 refine tk 2 ?_
 refine tk 3 ?_
 refine rc 1 (λK hK=>?_)
 go_simp
 go_at_call 59;(with_reducible refine(C0.out _ hBw).mono ?_);rintro e wa3 ⟨b5,B5,m5,d5,rfl,hw5,hb⟩;have hBw:=zac hBw hb;refine hK.out _ _ (Cs.below hHeld hb) (λhHeld=>?_);clear hK K hb
 try simp only [sb9]
 refine rc 4 (λK hK=>?_)
 go_simp
 go_at_call 95;(with_reducible refine(C1.out _ hBw _ _ _ _ hw5).mono ?_);rintro e wa4 ⟨rfl,hb⟩;have hBw:=zac hBw hb;have hw5:=hw5.below hb;refine hK.out _ _ (Cs.below hHeld hb) (λhHeld=>?_);clear hK K hb
 try simp only [sb9]
 refine tk 5 ?_
 refine tk 6 ?_
 refine tk 8 ?_
 refine tk 9 ?_
 refine rc 7 (λK hK=>?_)
 go_simp
 go_at_call 61;(with_reducible refine(C2.out _ hBw).mono ?_);rintro e wa5 ⟨B6,m6,d6,rfl,hw6,hb⟩;have hBw:=zac hBw hb;have hw5:=hw5.below hb;refine hK.out _ _ (Cs.below hHeld hb) (λhHeld=>?_);clear hK K hb
 try simp only [sb9]
 refine rc 10 (λK hK=>?_)
 go_simp
 go_at_call 96;(with_reducible refine(C3.out _ hBw _ _ _ hw6).mono ?_);rintro e wa6 ⟨rfl,hb⟩;have hBw:=zac hBw hb;have hw5:=hw5.below hb;have hw6:=hw6.below hb;refine hK.out _ _ (Cs.below hHeld hb) (λhHeld=>?_);clear hK K hb
 try simp only [sb9]
 refine tk 11 ?_
 refine tk 12 ?_
 refine tk 13 ?_
 refine tk 15 ?_
 refine rc 14 (λK hK=>?_)
 go_simp
 go_at_call 97;(with_reducible refine(C4.out _ hBw).mono ?_);rintro e wa7 ⟨rfl,hb⟩;have hBw:=zac hBw hb;have hw5:=hw5.below hb;have hw6:=hw6.below hb;refine hK.out _ _ (Cs.below hHeld hb) (λhHeld=>?_);clear hK K hb
 try simp only [sb9]
 refine tk 16 ?_
 refine tk 17 ?_
 refine tk 18 ?_
 refine tk 19 ?_
 refine tk 21 ?_
 refine tk 22 ?_
 refine tk 23 ?_
 refine tk 24 ?_
 refine tk 25 ?_
 refine rc 20 (λK hK=>?_)
 go_simp
 go_at_call 25;(with_reducible refine(C5.out _ hBw).mono ?_);rintro e wa8 ⟨rfl,hb⟩;have hBw:=zac hBw hb;have hw5:=hw5.below hb;have hw6:=hw6.below hb;refine hK.out _ _ (Cs.below hHeld hb) (λhHeld=>?_);clear hK K hb
 try simp only [sb9]
 refine tk 26 ?_
 refine tk 27 ?_
 refine tk 28 ?_
 refine tk 29 ?_
 refine tk 31 ?_
 refine tk 32 ?_
 refine tk 33 ?_
 refine tk 35 ?_
 refine tk 36 ?_
 refine rc 30 (λK hK=>?_)
 go_simp
 go_at_call 83;(with_reducible refine(C6.out _ hBw).mono ?_);rintro e wa9 ⟨rfl,hb⟩;have hBw:=zac hBw hb;have hw5:=hw5.below hb;have hw6:=hw6.below hb;refine hK.out _ _ (Cs.below hHeld hb) (λhHeld=>?_);clear hK K hb
 try simp only [sb9]
 refine rc 34 (λK hK=>?_)
 go_simp
 go_at_call 98;(with_reducible refine(C7.out _ hBw).mono ?_);rintro e wa10 ⟨rfl,hb⟩;have hBw:=zac hBw hb;have hw5:=hw5.below hb;have hw6:=hw6.below hb;refine hK.out _ _ (Cs.below hHeld hb) (λhHeld=>?_);clear hK K hb
 try simp only [sb9]
 refine rc 37 (λK hK=>?_)
 go_simp
 go_at_call 98;(with_reducible refine(C8.out _ hBw).mono ?_);rintro e wa11 ⟨rfl,hb⟩;have hBw:=zac hBw hb;have hw5:=hw5.below hb;have hw6:=hw6.below hb;refine hK.out _ _ (Cs.below hHeld hb) (λhHeld=>?_);clear hK K hb
 try simp only [sb9]
 refine tk 38 ?_
 refine tk 39 ?_
 refine tk 40 ?_
 refine tk 41 ?_
 refine rdn ?_
 have hB:=zac hB hBw
 have g1:=zad hBw g1
 have e1:=zad hBw e1
 have i1:=zad hBw i1
 have g2:=zad hBw g2
 have e2:=zad hBw e2
 have i2:=zad hBw i2
 have k3:=zae hBw k3
 clear hBw hHeld hw5 hw6 C0 C1 C2 C3 C4 C5 C6 C7 C8
 go_wp2
 go_ret
 exact⟨by first|rfl|simp,hB⟩
theorem zly {T:World->Prop}{M:Nat->Prop}(hTb:∀w w',T w->Below w.heap.size w w'->T w')(IC:IntC T)(QC:RatC T M)(r:Rat)(K:Nat)(bx:Bool)(Bx:oA9)(mx dx:Nat)(Ex:oA9)(ux vx:Nat)(bab:Bool)(Bab:oA9)(mab dab:Nat)(Eab:oA9)(uab vab:Nat)(w:World)(hK:K<=16777216)(hz:SzQ K r)(h:zan w r bx Bx mx dx Ex ux vx)(k:zca w r bab Bab mab dab Eab uab vab)(hT:T w)(hz0:r≠0)(ho:r.den≠1):
  Calls Tryz.prog 56 #[.agg #[.bool bx,.slice Bx mx dx,.slice Ex ux vx],.agg #[.bool bab,.slice Bab mab dab,.slice Eab uab vab]] w λe w'=>e=.returned (.bool true)/\Below w.heap.size w w':=by
 have HIC:=lh9 IC
 have HQC:=lh9 QC
 have HT:=lh9 (λw' (hb:Below w.heap.size w w')=>hTb w w' hT hb)
 have HZx:=lh9 hz
 have HNx:=lh9 h
 have HZab:=lh9 hz
 have HNab:=lh9 k
 have Hz0:=lh9 hz0
 have HO:=lh9 ho
 have HC:Hid (zbh r.den 1=1):=zcv (by have:=r.den_nz;omega)
 obtain⟨tb,htb⟩:∃v,((bitLen r.num.natAbs+bitLen r.den:Nat):Int)=v:=⟨_,rfl⟩
 obtain⟨pa,hpa⟩:∃v,((bitLen r.num.natAbs:Nat):Int)=v:=⟨_,rfl⟩
 obtain⟨pb,hpb⟩:∃v,((bitLen r.den:Nat):Int)=v:=⟨_,rfl⟩
 have HTB:=lh9 htb
 have HPA:=lh9 hpa
 have HPB:=lh9 hpb
 have hs1:=zek hz.num
 have hs2:=zek hz.den
 have htt:tb=IntKind.i64.wrap (pa+pb):=by rw [IntKind.wrap_i64];omega
 have hab0:((mab:Int)==0)=false:=by have:=zkf k.1.2 (λh9=>hz0 (Rat.num_eq_zero.1 (by omega)));rw [beq_eq_false_iff_ne];omega
 have HNabp:=lh9 HNab.out.1
 have HNabq:=lh9 HNab.out.2
 have HZabp:Hid (Sz K r.num.natAbs):=HZab.out.num
 have HZabq:Hid (Sz K r.den):=HZab.out.den
 have HNabr:=lh9 HNab.out.1.2
 have HZabr:=HZabp
 clear IC QC hT hz h k hz0 ho htb hpa hpb hs1 hs2
 go_enter Tryz.func56,Tryz.ntmps56
 have hB:=Below.refl w.heap.size w
 have gm2_2_0:((w.alloc (.cells #[.bool bx,.slice Bx mx dx,.slice Ex ux vx] 48)).alloc (.cells #[.bool bab,.slice Bab mab dab,.slice Eab uab vab] 94)).cell? ⟨w.heap.size+1,0,none⟩=some (.bool bab):=by
  obtain⟨c1,c2,c3,_⟩:=zbe w 48 94 #[.bool bx,.slice Bx mx dx,.slice Ex ux vx] #[.bool bab,.slice Bab mab dab,.slice Eab uab vab]
  exact c3.cell 0
 have gm2_2_1:((w.alloc (.cells #[.bool bx,.slice Bx mx dx,.slice Ex ux vx] 48)).alloc (.cells #[.bool bab,.slice Bab mab dab,.slice Eab uab vab] 94)).cell? ⟨w.heap.size+1,1,none⟩=some (.slice Bab mab dab):=by
  obtain⟨c1,c2,c3,_⟩:=zbe w 48 94 #[.bool bx,.slice Bx mx dx,.slice Ex ux vx] #[.bool bab,.slice Bab mab dab,.slice Eab uab vab]
  exact c3.cell 1
 have gm2_2_2:((w.alloc (.cells #[.bool bx,.slice Bx mx dx,.slice Ex ux vx] 48)).alloc (.cells #[.bool bab,.slice Bab mab dab,.slice Eab uab vab] 94)).cell? ⟨w.heap.size+1,2,none⟩=some (.slice Eab uab vab):=by
  obtain⟨c1,c2,c3,_⟩:=zbe w 48 94 #[.bool bx,.slice Bx mx dx,.slice Ex ux vx] #[.bool bab,.slice Bab mab dab,.slice Eab uab vab]
  exact c3.cell 2
 obtain⟨bx1,bx2,bx3,bx4,bz⟩:=zbq w 48 94 3 #[.bool bx,.slice Bx mx dx,.slice Ex ux vx] #[.bool bab,.slice Bab mab dab,.slice Eab uab vab] #[.int .i64 1]
 have hB:=zac hB bx1
 have HNx:=lh9 (HNx.out.below bx1)
 have HNabp:=lh9 (HNabp.out.below bx1)
 have HNabq:=lh9 (HNabq.out.below bx1)
 have HNabr:=lh9 (HNabr.out.below bx1)
 obtain⟨g1,e1,i1⟩:=bx2.c3
 obtain⟨g2,e2,i2⟩:=bx3.c3
 have k3:=bx4
 clear bx1 bx2 bx3 bx4 bz
 go_wp2_with fail
 clear gm2_2_0 gm2_2_1 gm2_2_2
 generalize ((w.alloc (.cells #[.bool bx,.slice Bx mx dx,.slice Ex ux vx] 48)).alloc (.cells #[.bool bab,.slice Bab mab dab,.slice Eab uab vab] 94)).alloc (.cells #[.int .i64 1] 3)=W1 at*
 go_wp2_with fail
 have HN4:=lh9 (zdG k3)
 have HZ4:Hid (Sz 1 1):=zcA (by decide)
 (with_reducible refine(zgR (r.den) (1) (1) Eab (some ⟨w.heap.size+1+1,0,none⟩) uab 1 vab 1 _ HNabq.out HN4.out (szh HZabq HNabq.out) (szh HZ4 HN4.out) HC.out).mono ?_)
 rintro e wc2 ⟨rfl,hb⟩
 have hB:=zac hB hb
 have HNx:=lh9 (HNx.out.below hb)
 have HNabp:=lh9 (HNabp.out.below hb)
 have HNabq:=lh9 (HNabq.out.below hb)
 have HNabr:=lh9 (HNabr.out.below hb)
 have g1:=zad hb g1
 have e1:=zad hb e1
 have i1:=zad hb i1
 have g2:=zad hb g2
 have e2:=zad hb e2
 have i2:=zad hb i2
 have k3:=zae hb k3
 clear hb 
 go_wp2_with fail
 have HZ5:Hid (Sz (K) (r.num).natAbs):=SzQ.num HZx.out
 have C0:=lh9 (λw' (h:Below wc2.heap.size wc2 w')=>HQC.out.num (r) bx Bx mx dx Ex ux vx w' (HT.out _ (zac hB h)) (HNx.out.below h) (szq HZx HNx.out))
 have C1:=lh9 (λw' (h:Below wc2.heap.size wc2 w') b5 B5 m5 d5 (hw5:zaC w' (r.num) b5 B5 m5 d5)=>zgM hTb HIC.out (r.num) b5 B5 m5 d5 bab Bab mab dab (K) (by omega) w' HZ5.out hw5 (HNabp.out.below h) (HT.out _ (zac hB h)))
 have HZ6:Hid (Sz (K) (r.den)):=SzQ.den HZx.out
 have C2:=lh9 (λw' (h:Below wc2.heap.size wc2 w')=>HQC.out.den (r) bx Bx mx dx Ex ux vx w' (HT.out _ (zac hB h)) (HNx.out.below h) (szq HZx HNx.out))
 have C3:=lh9 (λw' (h:Below wc2.heap.size wc2 w') B6 m6 d6 (hw6:zaf w' (r.den) B6 m6 d6)=>zdA (r.den) B6 Eab m6 d6 uab vab w' hw6 (HNabq.out.below h) (szw HZ6 hw6) (szh HZabq HNabq.out))
 have C4:=lh9 (λw' (h:Below wc2.heap.size wc2 w')=>zax (decide_eq_false HO.out) (HQC.out.isInt (r) bx Bx mx dx Ex ux vx w' (HT.out _ (zac hB h)) (HNx.out.below h) (szq HZx HNx.out)))
 have C5:=lh9 (λw' (h:Below wc2.heap.size wc2 w')=>zax (decide_eq_false Hz0.out) (HQC.out.zero (r) bx Bx mx dx Ex ux vx w' (HT.out _ (zac hB h)) (HNx.out.below h) (szq HZx HNx.out)))
 have C6:=lh9 (λw' (h:Below wc2.heap.size wc2 w')=>zbz (v:=tb) (HTB.out) (HQC.out.bits (r) bx Bx mx dx Ex ux vx w' (HT.out _ (zac hB h)) (HNx.out.below h) (szq HZx HNx.out)))
 have C7:=lh9 (λw' (h:Below wc2.heap.size wc2 w')=>zdc (r.num.natAbs) pa Bab mab dab w' (HNabr.out.below h) (szh HZabr HNabr.out) HPA.out)
 have C8:=lh9 (λw' (h:Below wc2.heap.size wc2 w')=>zdc (r.den) pb Eab uab vab w' (HNabq.out.below h) (szh HZabq HNabq.out) HPB.out)
 have hBw:=(Below.refl wc2.heap.size wc2).drew
 refine rg (csc g1 (csc e1 (csc i1 (csc g2 (csc e2 (csc i2 csn)))))) (λhHeld=>?_)
 refine tk 0 ?_
 refine tk 2 ?_
 refine tk 3 ?_
 refine rc 1 (λK hK=>?_)
 go_simp
 go_at_call 59;(with_reducible refine(C0.out _ hBw).mono ?_);rintro e wa3 ⟨b5,B5,m5,d5,rfl,hw5,hb⟩;have hBw:=zac hBw hb;refine hK.out _ _ (Cs.below hHeld hb) (λhHeld=>?_);clear hK K hb
 try simp only [sb9]
 refine rc 4 (λK hK=>?_)
 go_simp
 go_at_call 95;(with_reducible refine(C1.out _ hBw _ _ _ _ hw5).mono ?_);rintro e wa4 ⟨rfl,hb⟩;have hBw:=zac hBw hb;have hw5:=hw5.below hb;refine hK.out _ _ (Cs.below hHeld hb) (λhHeld=>?_);clear hK K hb
 try simp only [sb9]
 refine tk 5 ?_
 refine tk 6 ?_
 refine tk 8 ?_
 refine tk 9 ?_
 refine rc 7 (λK hK=>?_)
 go_simp
 go_at_call 61;(with_reducible refine(C2.out _ hBw).mono ?_);rintro e wa5 ⟨B6,m6,d6,rfl,hw6,hb⟩;have hBw:=zac hBw hb;have hw5:=hw5.below hb;refine hK.out _ _ (Cs.below hHeld hb) (λhHeld=>?_);clear hK K hb
 try simp only [sb9]
 refine rc 10 (λK hK=>?_)
 go_simp
 go_at_call 96;(with_reducible refine(C3.out _ hBw _ _ _ hw6).mono ?_);rintro e wa6 ⟨rfl,hb⟩;have hBw:=zac hBw hb;have hw5:=hw5.below hb;have hw6:=hw6.below hb;refine hK.out _ _ (Cs.below hHeld hb) (λhHeld=>?_);clear hK K hb
 try simp only [sb9]
 refine tk 11 ?_
 refine tk 12 ?_
 refine tk 13 ?_
 refine tk 15 ?_
 refine rc 14 (λK hK=>?_)
 go_simp
 go_at_call 97;(with_reducible refine(C4.out _ hBw).mono ?_);rintro e wa7 ⟨rfl,hb⟩;have hBw:=zac hBw hb;have hw5:=hw5.below hb;have hw6:=hw6.below hb;refine hK.out _ _ (Cs.below hHeld hb) (λhHeld=>?_);clear hK K hb
 try simp only [sb9]
 refine tk 16 ?_
 refine tk 17 ?_
 refine tk 18 ?_
 refine tk 19 ?_
 refine tk 21 ?_
 refine tk 22 ?_
 refine tk 23 ?_
 refine tk 24 ?_
 refine tk 25 ?_
 refine rc 20 (λK hK=>?_)
 go_simp
 go_at_call 25;(with_reducible refine(C5.out _ hBw).mono ?_);rintro e wa8 ⟨rfl,hb⟩;have hBw:=zac hBw hb;have hw5:=hw5.below hb;have hw6:=hw6.below hb;refine hK.out _ _ (Cs.below hHeld hb) (λhHeld=>?_);clear hK K hb
 try simp only [sb9]
 refine tk 26 ?_
 refine tk 27 ?_
 refine tk 28 ?_
 refine tk 29 ?_
 refine tk 31 ?_
 refine tk 32 ?_
 refine tk 33 ?_
 refine tk 35 ?_
 refine tk 36 ?_
 refine rc 30 (λK hK=>?_)
 go_simp
 go_at_call 83;(with_reducible refine(C6.out _ hBw).mono ?_);rintro e wa9 ⟨rfl,hb⟩;have hBw:=zac hBw hb;have hw5:=hw5.below hb;have hw6:=hw6.below hb;refine hK.out _ _ (Cs.below hHeld hb) (λhHeld=>?_);clear hK K hb
 try simp only [sb9]
 refine rc 34 (λK hK=>?_)
 go_simp
 go_at_call 98;(with_reducible refine(C7.out _ hBw).mono ?_);rintro e wa10 ⟨rfl,hb⟩;have hBw:=zac hBw hb;have hw5:=hw5.below hb;have hw6:=hw6.below hb;refine hK.out _ _ (Cs.below hHeld hb) (λhHeld=>?_);clear hK K hb
 try simp only [sb9]
 refine rc 37 (λK hK=>?_)
 go_simp
 go_at_call 98;(with_reducible refine(C8.out _ hBw).mono ?_);rintro e wa11 ⟨rfl,hb⟩;have hBw:=zac hBw hb;have hw5:=hw5.below hb;have hw6:=hw6.below hb;refine hK.out _ _ (Cs.below hHeld hb) (λhHeld=>?_);clear hK K hb
 try simp only [sb9]
 refine tk 38 ?_
 refine tk 39 ?_
 refine tk 40 ?_
 refine tk 41 ?_
 refine rdn ?_
 have hB:=zac hB hBw
 have g1:=zad hBw g1
 have e1:=zad hBw e1
 have i1:=zad hBw i1
 have g2:=zad hBw g2
 have e2:=zad hBw e2
 have i2:=zad hBw i2
 have k3:=zae hBw k3
 clear hBw hHeld hw5 hw6 C0 C1 C2 C3 C4 C5 C6 C7 C8
 go_wp2
 go_ret
 exact⟨by first|rfl|simp,hB⟩
theorem zjr {T:World->Prop}{M:Nat->Prop}(hTb:∀w w',T w->Below w.heap.size w w'->T w')(IC:IntC T)(QC:RatC T M)(r:Rat)(K:Nat)(bx:Bool)(Bx:oA9)(mx dx:Nat)(Ex:oA9)(ux vx:Nat)(bab:Bool)(Bab:oA9)(mab dab:Nat)(Eab:oA9)(uab vab:Nat)(w:World)(hK:K<=16777216)(hz:SzQ K r)(h:zan w r bx Bx mx dx Ex ux vx)(k:zca w r bab Bab mab dab Eab uab vab)(hT:T w):
  Calls Tryz.prog 56 #[.agg #[.bool bx,.slice Bx mx dx,.slice Ex ux vx],.agg #[.bool bab,.slice Bab mab dab,.slice Eab uab vab]] w λe w'=>e=.returned (.bool true)/\Below w.heap.size w w':=by
 by_cases hz0:r=0
 ·exact zlw hTb IC QC r K bx Bx mx dx Ex ux vx bab Bab mab dab Eab uab vab w hK hz h k hT hz0 (by rw [hz0];rfl)
 ·by_cases ho:r.den=1
  ·exact zlx hTb IC QC r K bx Bx mx dx Ex ux vx bab Bab mab dab Eab uab vab w hK hz h k hT hz0 ho
  ·exact zly hTb IC QC r K bx Bx mx dx Ex ux vx bab Bab mab dab Eab uab vab w hK hz h k hT hz0 ho
