/- What this claim leans on. -/
import Derived.Test.YtghpdeciaaagnaaGreatDoorIVPair
namespace Go.Proofs.YtghpdeciaaagnaaGreatDoor
open Go Go.RowKit
set_option maxHeartbeats 16000000
set_option maxRecDepth 100000
set_option linter.unusedVariables false
set_option linter.unusedSimpArgs false
theorem zlX (r:Rat)(baa:Bool)(Baa:oA9)(maa daa:Nat)(Eaa:oA9)(uaa vaa:Nat)(w:World)(hT:zai w)(haa:zah w r baa Baa maa daa Eaa uaa vaa)(qaa:zaT maa uaa)(hd:r.den=1):
  Calls Tryz.prog 105 #[.agg #[.bool baa,.slice Baa maa daa,.slice Eaa uaa vaa]] w (zeQ w r.den):=by
 have HT:=lh9 (λw' (hb:Below w.heap.size w w')=>hT.on hb)
 have HTB:=HT
 obtain⟨K,hKe⟩:∃K,67108864=K:=⟨_,rfl⟩
 have hKK:K<=67108864:=by omega
 have hK0:0<K:=by omega
 have HNaa:=lh9 (λw' (b:Below w.heap.size w w')=>haa.below b)
 obtain⟨xaa,hxaa,hxwaa⟩:=haa.2
 have HZaa:Hid (SzQ K r):=zaM haa qaa hKe
 have HZaap:Hid (Sz K r.num.natAbs):=HZaa.out.num
 have HZaaq:Hid (Sz K xaa):=zar HZaa.out.den hxaa
 clear haa qaa hxaa hxwaa
 have HD1:=lh9 hd
 clear hT hKe hd
 go_enter Tryz.func105,Tryz.ntmps105
 have hB:=Below.refl w.heap.size w
 obtain⟨bx1,bx2,bx3,bz⟩:=zbI w 41 37 #[.bool baa,.slice Baa maa daa,.slice Eaa uaa vaa] #[.slice none 0 0]
 have hB:=zab hB bx1
 obtain⟨g1,e1,i1⟩:=bx2.c3
 have k2:=bx3
 clear bx1 bx2 bx3 bz
 go_wp2_with fail
 generalize (w.alloc (.cells #[.bool baa,.slice Baa maa daa,.slice Eaa uaa vaa] 41)).alloc (.cells #[.slice none 0 0] 37)=W1 at*
 (with_reducible refine(zay (decide_eq_true HD1.out) (zby (r) baa Baa maa daa Eaa uaa vaa _ (HT.out _ hB) (HNaa.out _ hB) (szq HZaa (HNaa.out _ hB)))).mono ?_)
 rintro e wc2 ⟨rfl,hb⟩
 have hB:=zab hB hb
 have g1:=zac hb g1
 have e1:=zac hb e1
 have i1:=zac hb i1
 have k2:=zaa hb k2
 clear hb 
 have lt1_2:w.heap.size<wc2.heap.size:=World.block_lt_of_cell? wc2 ⟨w.heap.size,0,none⟩ g1
 have lt2_2:w.heap.size+1<wc2.heap.size:=k2.lt
 have hq2:=hB.size
 obtain⟨bx1,bx2,bz⟩:=zav wc2 160 #[.int .u64 1]
 have hB:=zab hB bx1
 have g1:=zac bx1 g1
 have e1:=zac bx1 e1
 have i1:=zac bx1 i1
 have k2:=zaa bx1 k2
 have k3:=bx2
 clear bx1 bx2 bz
 go_wp2_with fail
 generalize wc2.alloc (.cells #[.int .u64 1] 160)=W3 at*
 generalize wc2.heap.size=q3 at*
 have HZ4:Hid (Sz (1) (1)):=(by show(1:Nat)<18446744073709551616^1;decide)
 (with_reducible refine(zpE _ [1] _ _ 1 (1) k3 rfl rfl (dgs1 1 (by decide)) rfl (by decide)).mono ?_)
 rintro e wc4 ⟨B4,m4,d4,rfl,hw4,hb,_⟩
 have hB:=zab hB hb
 have g1:=zac hb g1
 have e1:=zac hb e1
 have i1:=zac hb i1
 have k2:=zaa hb k2
 have k3:=zaa hb k3
 have HN4:=lh9 hw4
 clear hb hw4
 obtain⟨sc0,sf0⟩:=st1 k2
 have r0:=(sn1 k2 (.slice B4 m4 d4)).c1
 have HG:=lh9 (gn1 (zad.to8 HD1.out.symm HN4.out) k2 hB (by omega))
 go_wp2
 refine bodyPost_ret (v:=.agg #[.slice B4 m4 d4]) (by simp [results,Tryz.results105,go_sem,r0]) rfl ?_
 exact HG.out
theorem zlW (r:Rat)(baa:Bool)(Baa:oA9)(maa daa:Nat)(Eaa:oA9)(uaa vaa:Nat)(w:World)(hT:zai w)(haa:zah w r baa Baa maa daa Eaa uaa vaa)(qaa:zaT maa uaa)(hd:r.den≠1):
  Calls Tryz.prog 105 #[.agg #[.bool baa,.slice Baa maa daa,.slice Eaa uaa vaa]] w (zeQ w r.den):=by
 have HT:=lh9 (λw' (hb:Below w.heap.size w w')=>hT.on hb)
 have HTB:=HT
 obtain⟨K,hKe⟩:∃K,67108864=K:=⟨_,rfl⟩
 have hKK:K<=67108864:=by omega
 have hK0:0<K:=by omega
 have HNaa:=lh9 (λw' (b:Below w.heap.size w w')=>haa.below b)
 obtain⟨xaa,hxaa,hxwaa⟩:=haa.2
 have HXaa:=lh9 hxaa
 have HZaa:Hid (SzQ K r):=zaM haa qaa hKe
 have HZaap:Hid (Sz K r.num.natAbs):=HZaa.out.num
 have HZaaq:Hid (Sz K xaa):=zar HZaa.out.den hxaa
 have HNaaq:=lh9 (λw' (b:Below w.heap.size w w')=>hxwaa.below b)
 clear haa qaa hxaa hxwaa
 have HD1:=lh9 hd
 have HD2:=lh9 (zeo HXaa.out hd).2
 clear hT hKe hd
 go_enter Tryz.func105,Tryz.ntmps105
 have hB:=Below.refl w.heap.size w
 obtain⟨bx1,bx2,bx3,bz⟩:=zbI w 41 37 #[.bool baa,.slice Baa maa daa,.slice Eaa uaa vaa] #[.slice none 0 0]
 have hB:=zab hB bx1
 obtain⟨g1,e1,i1⟩:=bx2.c3
 have k2:=bx3
 clear bx1 bx2 bx3 bz
 go_wp2_with fail
 generalize (w.alloc (.cells #[.bool baa,.slice Baa maa daa,.slice Eaa uaa vaa] 41)).alloc (.cells #[.slice none 0 0] 37)=W1 at*
 (with_reducible refine(zay (decide_eq_false HD1.out) (zby (r) baa Baa maa daa Eaa uaa vaa _ (HT.out _ hB) (HNaa.out _ hB) (szq HZaa (HNaa.out _ hB)))).mono ?_)
 rintro e wc2 ⟨rfl,hb⟩
 have hB:=zab hB hb
 have g1:=zac hb g1
 have e1:=zac hb e1
 have i1:=zac hb i1
 have k2:=zaa hb k2
 clear hb 
 obtain⟨sc0,sf0⟩:=st1 k2
 have r0:=(sn1 k2 (.slice Eaa uaa vaa)).c1
 have HG:=lh9 (gn1 (zad.to8 HD2.out (HNaaq.out _ hB)) k2 hB (by omega))
 go_wp2
 refine bodyPost_ret (v:=.agg #[.slice Eaa uaa vaa]) (by simp [results,Tryz.results105,go_sem,r0]) rfl ?_
 exact HG.out
theorem zcA (r:Rat)(baa:Bool)(Baa:oA9)(maa daa:Nat)(Eaa:oA9)(uaa vaa:Nat)(w:World)(hT:zai w)(haa:zah w r baa Baa maa daa Eaa uaa vaa)(qaa:zaT maa uaa):
  Calls Tryz.prog 105 #[.agg #[.bool baa,.slice Baa maa daa,.slice Eaa uaa vaa]] w (zeQ w r.den):=by
 by_cases hd:r.den=1
 ·exact zlX r baa Baa maa daa Eaa uaa vaa w hT haa qaa hd
 ·exact zlW r baa Baa maa daa Eaa uaa vaa w hT haa qaa hd
theorem zla (r:Rat)(baa:Bool)(Baa:oA9)(maa daa:Nat)(Eaa:oA9)(uaa vaa:Nat)(w:World)(hT:zai w)(haa:zah w r baa Baa maa daa Eaa uaa vaa)(qaa:zaT maa uaa):
  Calls Tryz.prog 176 #[.agg #[.bool baa,.slice Baa maa daa,.slice Eaa uaa vaa]] w (zaH w r):=by
 have HT:=lh9 (λw' (hb:Below w.heap.size w w')=>hT.on hb)
 have HTB:=HT
 obtain⟨K,hKe⟩:∃K,67108864=K:=⟨_,rfl⟩
 have hKK:K<=67108864:=by omega
 have hK0:0<K:=by omega
 obtain⟨xaa,hxaa,hxwaa⟩:=haa.2
 have HXaa:=lh9 hxaa
 have HZaa:Hid (SzQ K r):=zaM haa qaa hKe
 have HZaap:Hid (Sz K r.num.natAbs):=HZaa.out.num
 have HZaaq:Hid (Sz K xaa):=zar HZaa.out.den hxaa
 have HNaap:=lh9 (λw' (b:Below w.heap.size w w')=>haa.1.below b)
 have HNaaq:=lh9 (λw' (b:Below w.heap.size w w')=>hxwaa.below b)
 clear haa qaa hxaa hxwaa
 clear hT hKe
 go_enter Tryz.func176,Tryz.ntmps176
 have hB:=Below.refl w.heap.size w
 obtain⟨bx1,bx2,bx3,bz⟩:=zbI w 41 41 #[.bool baa,.slice Baa maa daa,.slice Eaa uaa vaa] #[.bool false,.slice none 0 0,.slice none 0 0]
 have hB:=zab hB bx1
 obtain⟨g1,e1,i1⟩:=bx2.c3
 have k2:=bx3
 clear bx1 bx2 bx3 bz
 go_wp2_with fail
 generalize (w.alloc (.cells #[.bool baa,.slice Baa maa daa,.slice Eaa uaa vaa] 41)).alloc (.cells #[.bool false,.slice none 0 0,.slice none 0 0] 41)=W1 at*
 have HZ3:Hid (Sz (K) (r.num).natAbs):=HZaap.out
 have C0:=lh9 (λw' (h:Below W1.heap.size W1 w')=>zgN (r.num) baa Baa maa daa w' (HT.out _ (zab hB h)) (HNaap.out _ (zab hB h)) (szi HZaap (HNaap.out _ hB)))
 have HZ4:Hid (Sz (K) (xaa)):=HZaaq.out
 have C1:=lh9 (λw' (h:Below W1.heap.size W1 w')=>zlu (xaa) Eaa uaa vaa w' (HNaaq.out _ (zab hB h)) (szw HZaaq (HNaaq.out _ hB)))
 have HZ5:Hid (Sz (K) (xaa)):=HZ4.out
 have C2:=lh9 (λw' (h:Below W1.heap.size W1 w') B4 m4 d4 (hw4:zad w' (xaa) B4 m4 d4)=>of_row (xaa) B4 m4 d4 w' hw4 (szw HZ4 hw4))
 have hBw:=(Below.refl W1.heap.size W1).drew
 refine rg (csc g1 (csc e1 (csc i1 csn))) (λhHeld=>?_)
 refine tk 0 ?_
 refine tk 1 ?_
 refine tk 3 ?_
 refine tk 4 ?_
 refine rc 2 (λK hK=>?_)
 go_simp
 go_at_call 144;(with_reducible refine(C0.out _ hBw).mono ?_);rintro e wa2 ⟨b3,B3,m3,d3,rfl,hw3,hb⟩;have hBw:=zab hBw hb;refine hK.out _ _ (Cs.below hHeld hb) (λhHeld=>?_);clear hK K hb
 try simp only [sb9]
 refine rc 5 (λK hK=>?_)
 go_simp
 go_at_call 146;(with_reducible refine(C1.out _ hBw).mono ?_);rintro e wa3 ⟨B4,m4,d4,rfl,hw4,hb⟩;have hBw:=zab hBw hb;have hw3:=hw3.below hb;refine hK.out _ _ (Cs.below hHeld hb) (λhHeld=>?_);clear hK K hb
 try simp only [sb9]
 refine rc 6 (λK hK=>?_)
 go_simp
 go_at_call 149;(with_reducible refine(C2.out _ hBw _ _ _ hw4).mono ?_);rintro e wa4 ⟨B5,m5,d5,rfl,hw5,hb⟩;have hBw:=zab hBw hb;have hw3:=hw3.below hb;have hw4:=hw4.below hb;refine hK.out _ _ (Cs.below hHeld hb) (λhHeld=>?_);clear hK K hb
 try simp only [sb9]
 refine tk 7 ?_
 obtain⟨sc0,sf0,sc1,sf1,sc2,sf2⟩:=st3 (zaa hBw k2) (.bool b3) (.slice B3 m3 d3)
 refine rc 8 (λK hK=>?_)
 go_simp
 refine hK.out _ _ (cs3 (.bool b3) (.slice B3 m3 d3) (.slice B5 m5 d5) hHeld) (λhHeld=>?_);clear hK K
 try simp only [sb9]
 refine rdn ?_
 have hB:=zab hB hBw
 have g1:=zac hBw g1
 have e1:=zac hBw e1
 have i1:=zac hBw i1
 have k2:=zaa hBw k2
 have HN3:=lh9 hw3
 have HN5:=lh9 hw5
 clear hBw hHeld hw3 hw4 hw5 C0 C1 C2
 obtain⟨r0,r1,r2⟩:=(sn3 k2 (.bool b3) (.slice B3 m3 d3) (.slice B5 m5 d5)).c3
 have HG:=lh9 (gq3 (⟨HN3.out,⟨xaa,HXaa.out,HN5.out⟩⟩) k2 hB (by omega))
 go_wp2
 refine bodyPost_ret (v:=.agg #[.bool b3,.slice B3 m3 d3,.slice B5 m5 d5]) (by simp [results,Tryz.results176,go_sem,r0,r1,r2]) rfl ?_
 exact HG.out
theorem of_row2 (x:Nat)(A:oA9)(n c:Nat)(w:World)(h:zad w x A n c)(hn:n<=1099511627776):Calls Tryz.prog 149 #[.slice A n c] w (zaO w x):=by
 have k:=zcT A n c _ w h.1 (zcS (by decide) x) h.2.1 h.2.2 hn
 rwa [zdz (by decide)] at k
theorem gn2 {w W W3:World}{x g:Nat}{t:TypeId}{A:oA9}{n c:Nat}{q:oA9}{r s:Nat}(h:zad W x A n c)(hf:zew W3 A)(h3:w.heap.size<=W3.heap.size)(k:Blk W g t #[.slice q r s])(hB:Below w.heap.size w W)(hg:w.heap.size<=g):zaO w x (.returned (.agg #[.slice A n c])) (W.setCell ⟨g,0,none⟩ (.slice A n c)):=
 ⟨_,_,_,rfl,zat h k (NoU.s1 _ _ _) (zcg _ _ _),bl1 _ hg hB,λad e=>Nat.le_trans h3 (hf ad e)⟩
theorem znl (r:Rat)(baa:Bool)(Baa:oA9)(maa daa:Nat)(Eaa:oA9)(uaa vaa:Nat)(w:World)(hT:zai w)(haa:zah w r baa Baa maa daa Eaa uaa vaa)(qaa:zaT maa uaa):
  Calls Tryz.prog 78 #[.agg #[.bool baa,.slice Baa maa daa,.slice Eaa uaa vaa]] w (zaO w r.den):=by
 have HT:=lh9 (λw' (hb:Below w.heap.size w w')=>hT.on hb)
 have HTB:=HT
 obtain⟨K,hKe⟩:∃K,67108864=K:=⟨_,rfl⟩
 have hKK:K<=67108864:=by omega
 have hK0:0<K:=by omega
 have HNaa:=lh9 (λw' (b:Below w.heap.size w w')=>haa.below b)
 obtain⟨xaa,hxaa,hxwaa⟩:=haa.2
 have HZaa:Hid (SzQ K r):=zaM haa qaa hKe
 have HZaap:Hid (Sz K r.num.natAbs):=HZaa.out.num
 have HZaaq:Hid (Sz K xaa):=zar HZaa.out.den hxaa
 clear haa qaa hxaa hxwaa
 clear hT hKe
 go_enter Tryz.func78,Tryz.ntmps78
 have hB:=Below.refl w.heap.size w
 obtain⟨bx1,bx2,bx3,bz⟩:=zbI w 41 37 #[.bool baa,.slice Baa maa daa,.slice Eaa uaa vaa] #[.slice none 0 0]
 have hB:=zab hB bx1
 obtain⟨g1,e1,i1⟩:=bx2.c3
 have k2:=bx3
 clear bx1 bx2 bx3 bz
 go_wp2_with fail
 generalize (w.alloc (.cells #[.bool baa,.slice Baa maa daa,.slice Eaa uaa vaa] 41)).alloc (.cells #[.slice none 0 0] 37)=W1 at*
 have HZ3:Hid (Sz (K) (r.den)):=SzQ.den HZaa.out
 (with_reducible refine(zcA (r) baa Baa maa daa Eaa uaa vaa _ (HT.out _ hB) (HNaa.out _ hB) (szq HZaa (HNaa.out _ hB))).mono ?_)
 rintro e wc2 ⟨B3,m3,d3,rfl,hw3,hb⟩
 have hB:=zab hB hb
 have g1:=zac hb g1
 have e1:=zac hb e1
 have i1:=zac hb i1
 have k2:=zaa hb k2
 have HN3:=lh9 hw3
 clear hb hw3
 go_wp2_with fail
 have HZ4:Hid (Sz (K) (r.den)):=HZ3.out
 (with_reducible refine(zlu (r.den) B3 m3 d3 _ HN3.out (szw HZ3 HN3.out)).mono ?_)
 rintro e wc3 ⟨B4,m4,d4,rfl,hw4,hb⟩
 have hB:=zab hB hb
 have g1:=zac hb g1
 have e1:=zac hb e1
 have i1:=zac hb i1
 have k2:=zaa hb k2
 have HN4:=lh9 hw4
 clear hb hw4
 go_wp2_with fail
 have HZ5:Hid (Sz (K) (r.den)):=HZ4.out
 (with_reducible refine(of_row2 (r.den) B4 m4 d4 _ HN4.out (szw HZ4 HN4.out)).mono ?_)
 rintro e wc4 ⟨B5,m5,d5,rfl,hw5,hb,hf5⟩
 have hq3:=hB.size
 have hB:=zab hB hb
 have g1:=zac hb g1
 have e1:=zac hb e1
 have i1:=zac hb i1
 have k2:=zaa hb k2
 have HN5:=lh9 hw5
 clear hb hw5
 obtain⟨sc0,sf0⟩:=st1 k2
 have r0:=(sn1 k2 (.slice B5 m5 d5)).c1
 have HG:=lh9 (gn2 (HN5.out) hf5 hq3 k2 hB (by omega))
 go_wp2
 refine bodyPost_ret (v:=.agg #[.slice B5 m5 d5]) (by simp [results,Tryz.results78,go_sem,r0]) rfl ?_
 exact HG.out
theorem zlY (r:Rat)(baa:Bool)(Baa:oA9)(maa daa:Nat)(Eaa:oA9)(uaa vaa:Nat)(w:World)(hT:zai w)(haa:zah w r baa Baa maa daa Eaa uaa vaa)(qaa:zaT maa uaa):
  Calls Tryz.prog 78 #[.agg #[.bool baa,.slice Baa maa daa,.slice Eaa uaa vaa]] w (zeQ w r.den):=
 (znl r baa Baa maa daa Eaa uaa vaa w hT haa qaa).mono λ_ _ ⟨A,n,c,e,h,hb,_⟩=>⟨A,n,c,e,h,hb⟩
theorem zmc (r:Rat)(baa:Bool)(Baa:oA9)(maa daa:Nat)(Eaa:oA9)(uaa vaa:Nat)(w:World)(hT:zai w)(haa:zah w r baa Baa maa daa Eaa uaa vaa)(qaa:zaT maa uaa):
  Calls Tryz.prog 76 #[.agg #[.bool baa,.slice Baa maa daa,.slice Eaa uaa vaa]] w (zbc w r.num):=by
 have HT:=lh9 (λw' (hb:Below w.heap.size w w')=>hT.on hb)
 have HTB:=HT
 obtain⟨K,hKe⟩:∃K,67108864=K:=⟨_,rfl⟩
 have hKK:K<=67108864:=by omega
 have hK0:0<K:=by omega
 obtain⟨xaa,hxaa,hxwaa⟩:=haa.2
 have HZaa:Hid (SzQ K r):=zaM haa qaa hKe
 have HZaap:Hid (Sz K r.num.natAbs):=HZaa.out.num
 have HZaaq:Hid (Sz K xaa):=zar HZaa.out.den hxaa
 have HNaap:=lh9 (λw' (b:Below w.heap.size w w')=>haa.1.below b)
 clear haa qaa hxaa hxwaa
 clear hT hKe
 go_enter Tryz.func76,Tryz.ntmps76
 have hB:=Below.refl w.heap.size w
 obtain⟨bx1,bx2,bx3,bz⟩:=zbI w 41 39 #[.bool baa,.slice Baa maa daa,.slice Eaa uaa vaa] #[.bool false,.slice none 0 0]
 have hB:=zab hB bx1
 obtain⟨g1,e1,i1⟩:=bx2.c3
 have k2:=bx3
 clear bx1 bx2 bx3 bz
 go_wp2_with fail
 generalize (w.alloc (.cells #[.bool baa,.slice Baa maa daa,.slice Eaa uaa vaa] 41)).alloc (.cells #[.bool false,.slice none 0 0] 39)=W1 at*
 have HZ3:Hid (Sz (K) (r.num).natAbs):=HZaap.out
 (with_reducible refine(zgN (r.num) baa Baa maa daa _ (HT.out _ hB) (HNaap.out _ hB) (szi HZaap (HNaap.out _ hB))).mono ?_)
 rintro e wc2 ⟨b3,B3,m3,d3,rfl,hw3,hb⟩
 have hB:=zab hB hb
 have g1:=zac hb g1
 have e1:=zac hb e1
 have i1:=zac hb i1
 have k2:=zaa hb k2
 have HN3:=lh9 hw3
 clear hb hw3
 obtain⟨sc0,sf0,sc1,sf1⟩:=st2 k2 (.bool b3)
 obtain⟨r0,r1⟩:=(sn2 k2 (.bool b3) (.slice B3 m3 d3)).c2
 have HG:=lh9 (gi2 (HN3.out) k2 hB (by omega))
 go_wp2
 refine bodyPost_ret (v:=.agg #[.bool b3,.slice B3 m3 d3]) (by simp [results,Tryz.results76,go_sem,r0,r1]) rfl ?_
 exact HG.out
theorem zoU (r:Rat)(baa:Bool)(Baa:oA9)(maa daa:Nat)(Eaa:oA9)(uaa vaa:Nat)(w:World)(hT:zai w)(haa:zah w r baa Baa maa daa Eaa uaa vaa)(qaa:zaT maa uaa)(v:Int)(hv:ziB r.num=v):
  Calls Tryz.prog 66 #[.agg #[.bool baa,.slice Baa maa daa,.slice Eaa uaa vaa]] w (zcH w v):=by
 have HIC:=lh9 (zbV (T:=zai))
 have HT:=lh9 (λw' (hb:Below w.heap.size w w')=>hT.on hb)
 have HTB:=HT
 obtain⟨K,hKe⟩:∃K,67108864=K:=⟨_,rfl⟩
 have hKK:K<=67108864:=by omega
 have hK0:0<K:=by omega
 have HV:=lh9 hv
 obtain⟨xaa,hxaa,hxwaa⟩:=haa.2
 have HZaa:Hid (SzQ K r):=zaM haa qaa hKe
 have HZaap:Hid (Sz K r.num.natAbs):=HZaa.out.num
 have HZaaq:Hid (Sz K xaa):=zar HZaa.out.den hxaa
 have HNaap:=lh9 (λw' (b:Below w.heap.size w w')=>haa.1.below b)
 clear haa qaa hxaa hxwaa
 clear hT hKe hv
 go_enter Tryz.func66,Tryz.ntmps66
 have hB:=Below.refl w.heap.size w
 obtain⟨bx1,bx2,bz⟩:=zav w 41 #[.bool baa,.slice Baa maa daa,.slice Eaa uaa vaa]
 have hB:=zab hB bx1
 obtain⟨g1,e1,i1⟩:=bx2.c3
 clear bx1 bx2 bz
 go_wp2_with fail
 generalize w.alloc (.cells #[.bool baa,.slice Baa maa daa,.slice Eaa uaa vaa] 41)=W1 at*
 (with_reducible refine(zct (v:=v) (HV.out) (HIC.out.sign (r.num) baa Baa maa daa _ (HT.out _ hB) (HNaap.out _ hB) (szi HZaap (HNaap.out _ hB)))).mono ?_)
 rintro e wc2 ⟨rfl,hb⟩
 have hB:=zab hB hb
 have g1:=zac hb g1
 have e1:=zac hb e1
 have i1:=zac hb i1
 clear hb 
 go_wp2
 go_ret
 exact⟨by first|rfl|simp,hB⟩
theorem zjR (r:Rat)(baa:Bool)(Baa:oA9)(maa daa:Nat)(Eaa:oA9)(uaa vaa:Nat)(w:World)(hT:zai w)(haa:zah w r baa Baa maa daa Eaa uaa vaa)(qaa:zaT maa uaa):
  Calls Tryz.prog 66 #[.agg #[.bool baa,.slice Baa maa daa,.slice Eaa uaa vaa]] w (zcH w (sgnQ r)):=by
 exact zoU r baa Baa maa daa Eaa uaa vaa w hT haa qaa (sgnQ r) rfl
theorem zoW (r:Rat)(baa:Bool)(Baa:oA9)(maa daa:Nat)(Eaa:oA9)(uaa vaa:Nat)(w:World)(hT:zai w)(haa:zah w r baa Baa maa daa Eaa uaa vaa)(qaa:zaT maa uaa)(h0:r=0):
  Calls Tryz.prog 17 #[.agg #[.bool baa,.slice Baa maa daa,.slice Eaa uaa vaa]] w (λe w'=>e=.returned (.bool true)/\Below w.heap.size w w'):=by
 have HT:=lh9 (λw' (hb:Below w.heap.size w w')=>hT.on hb)
 have HTB:=HT
 obtain⟨K,hKe⟩:∃K,67108864=K:=⟨_,rfl⟩
 have hKK:K<=67108864:=by omega
 have hK0:0<K:=by omega
 have HNaa:=lh9 (λw' (b:Below w.heap.size w w')=>haa.below b)
 obtain⟨xaa,hxaa,hxwaa⟩:=haa.2
 have HZaa:Hid (SzQ K r):=zaM haa qaa hKe
 have HZaap:Hid (Sz K r.num.natAbs):=HZaa.out.num
 have HZaaq:Hid (Sz K xaa):=zar HZaa.out.den hxaa
 clear haa qaa hxaa hxwaa
 have HV:Hid (sgnQ r=0):=by show _=_;rw [h0];rfl
 clear hT hKe h0
 go_enter Tryz.func17,Tryz.ntmps17
 have hB:=Below.refl w.heap.size w
 obtain⟨bx1,bx2,bz⟩:=zav w 41 #[.bool baa,.slice Baa maa daa,.slice Eaa uaa vaa]
 have hB:=zab hB bx1
 obtain⟨g1,e1,i1⟩:=bx2.c3
 clear bx1 bx2 bz
 go_wp2_with fail
 generalize w.alloc (.cells #[.bool baa,.slice Baa maa daa,.slice Eaa uaa vaa] 41)=W1 at*
 (with_reducible refine(zct (v:=0) (HV.out) (zjR (r) baa Baa maa daa Eaa uaa vaa _ (HT.out _ hB) (HNaa.out _ hB) (szq HZaa (HNaa.out _ hB)))).mono ?_)
 rintro e wc2 ⟨rfl,hb⟩
 have hB:=zab hB hb
 have g1:=zac hb g1
 have e1:=zac hb e1
 have i1:=zac hb i1
 clear hb 
 go_wp2
 go_ret
 exact⟨by first|rfl|simp,hB⟩
theorem zoV (r:Rat)(baa:Bool)(Baa:oA9)(maa daa:Nat)(Eaa:oA9)(uaa vaa:Nat)(w:World)(hT:zai w)(haa:zah w r baa Baa maa daa Eaa uaa vaa)(qaa:zaT maa uaa)(h0:r≠0):
  Calls Tryz.prog 17 #[.agg #[.bool baa,.slice Baa maa daa,.slice Eaa uaa vaa]] w (λe w'=>e=.returned (.bool false)/\Below w.heap.size w w'):=by
 have HT:=lh9 (λw' (hb:Below w.heap.size w w')=>hT.on hb)
 have HTB:=HT
 obtain⟨K,hKe⟩:∃K,67108864=K:=⟨_,rfl⟩
 have hKK:K<=67108864:=by omega
 have hK0:0<K:=by omega
 have HNaa:=lh9 (λw' (b:Below w.heap.size w w')=>haa.below b)
 obtain⟨xaa,hxaa,hxwaa⟩:=haa.2
 have HZaa:Hid (SzQ K r):=zaM haa qaa hKe
 have HZaap:Hid (Sz K r.num.natAbs):=HZaa.out.num
 have HZaaq:Hid (Sz K xaa):=zar HZaa.out.den hxaa
 clear haa qaa hxaa hxwaa
 obtain⟨sg,hsg⟩:∃s,sgnQ r=s:=⟨_,rfl⟩
 have HV:=lh9 hsg
 have kb1:(sg==0)=false:=by
  rw [beq_eq_false_iff_ne]
  intro h9
  rw [h9] at hsg
  refine h0 (Rat.num_eq_zero.1 ?_)
  unfold sgnQ ziB at hsg
  split at hsg
  ·omega
  ·split at hsg<;>omega
 clear hT hKe h0 hsg
 go_enter Tryz.func17,Tryz.ntmps17
 have hB:=Below.refl w.heap.size w
 obtain⟨bx1,bx2,bz⟩:=zav w 41 #[.bool baa,.slice Baa maa daa,.slice Eaa uaa vaa]
 have hB:=zab hB bx1
 obtain⟨g1,e1,i1⟩:=bx2.c3
 clear bx1 bx2 bz
 go_wp2_with fail
 generalize w.alloc (.cells #[.bool baa,.slice Baa maa daa,.slice Eaa uaa vaa] 41)=W1 at*
 (with_reducible refine(zct (v:=sg) (HV.out) (zjR (r) baa Baa maa daa Eaa uaa vaa _ (HT.out _ hB) (HNaa.out _ hB) (szq HZaa (HNaa.out _ hB)))).mono ?_)
 rintro e wc2 ⟨rfl,hb⟩
 have hB:=zab hB hb
 have g1:=zac hb g1
 have e1:=zac hb e1
 have i1:=zac hb i1
 clear hb 
 go_wp2
 go_ret
 exact⟨by first|rfl|simp,hB⟩
theorem zbb (r:Rat)(baa:Bool)(Baa:oA9)(maa daa:Nat)(Eaa:oA9)(uaa vaa:Nat)(w:World)(hT:zai w)(haa:zah w r baa Baa maa daa Eaa uaa vaa)(qaa:zaT maa uaa):
  Calls Tryz.prog 17 #[.agg #[.bool baa,.slice Baa maa daa,.slice Eaa uaa vaa]] w (λe w'=>e=.returned (.bool (decide (r=0)))/\Below w.heap.size w w'):=by
 by_cases h0:r=0
 ·rw [decide_eq_true h0];exact zoW r baa Baa maa daa Eaa uaa vaa w hT haa qaa h0
 ·rw [decide_eq_false h0];exact zoV r baa Baa maa daa Eaa uaa vaa w hT haa qaa h0
