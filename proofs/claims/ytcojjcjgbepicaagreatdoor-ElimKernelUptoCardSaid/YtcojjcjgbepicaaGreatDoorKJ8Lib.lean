/- What this claim leans on. -/
import Derived.Test.YtcojjcjgbepicaaGreatDoorKEList
namespace Go.Proofs.YtcojjcjgbepicaaGreatDoor
open Go Go.RowKit
set_option maxHeartbeats 16000000
set_option maxRecDepth 100000
set_option linter.unusedVariables false
set_option linter.unusedSimpArgs false
theorem zad.to8 {w:World}{x y:Nat}{A:oA9}{n c:Nat}(e:x=y)(h:zad w x A n c):zad w y A n c:=e▸h
theorem zaA.to8 {w:World}{x y:Int}{b:Bool}{A:oA9}{n c:Nat}(e:x=y)(h:zaA w x b A n c):zaA w y b A n c:=e▸h
theorem zjZ (x:Nat)(A:oA9)(n c:Nat)(w:World)(h:zad w x A n c)(hn:n<=1099511627776):
  Calls Tryz.prog 150 #[.agg #[.slice A n c]] w λe w'=>∃(B:oA9) (m d:Nat),e=.returned (.slice B m d)/\zad w' x B m d/\Below w.heap.size w w':=by
 refine(zde x A n c w h hn).mono ?_
 rintro e w' ⟨B,d,rfl,h1,h2,h3,h4⟩
 exact⟨B,_,d,rfl,⟨h1,h2,h3.1⟩,h4⟩
theorem of_row (x:Nat)(A:oA9)(n c:Nat)(w:World)(h:zad w x A n c)(hn:n<=1099511627776):
  Calls Tryz.prog 153 #[.slice A n c] w λe w'=>∃(B:oA9) (m d:Nat),e=.returned (.agg #[.slice B m d])/\zad w' x B m d/\Below w.heap.size w w':=by
 have k:=zcN A n c _ w h.1 (zcM (by decide) x) h.2.1 h.2.2 hn
 rw [zdm (by decide)] at k
 refine k.mono ?_
 rintro e w' ⟨B,m,d,rfl,h1,h2,_⟩
 exact⟨B,m,d,rfl,h1,h2⟩
theorem zop {P:Program}{f:FuncId}{args:Array Value}{w:World}{z v:Int}(e:z=v)(h:Calls P f args w λe w'=>e=.returned (.tuple #[.int .u64 z,.bool true])/\Below w.heap.size w w'):Calls P f args w λe w'=>e=.returned (.tuple #[.int .u64 v,.bool true])/\Below w.heap.size w w':=by
 subst e;exact h
theorem zla (x:Nat)(A:oA9)(n c:Nat)(w:World)(hA:zad w x A n c)(hn:n<=1099511627776):Calls Tryz.prog 155 #[.agg #[.slice A n c]] w (zcf w ((bitLen x:Nat):Int)):=ziE x A n c w hA hn
theorem zgP {K K':Nat}{z:Int}{k:Nat}(h:Sz K z.natAbs)(h':Sz K' k):Sz (K+K') (z*((k:Nat):Int)).natAbs:=by
 rw [Int.natAbs_mul,Int.natAbs_natCast]
 exact h.mul h'
theorem zaq {K q x:Nat}(h:Sz K q)(e:q=(if x=0 then 1 else x)/\x≠1):Sz K x:=h.of_le (by rw [e.1];split<;>omega)
theorem zaG {w:World}{r:Rat}{b:Bool}{A:oA9}{n c:Nat}{E:oA9}{k f K:Nat}(h:zah w r b A n c E k f)(q:zaM n k)(hK:67108864=K):SzQ K r:=by
 obtain⟨x,e,hx⟩:=h.2
 have h1:Sz K r.num.natAbs:=Sz.of_words h.1.2 (by have:=q.1;omega)
 have h2:Sz K x:=Sz.of_words hx (by have:=q.2;omega)
 refine⟨h1,?_⟩
 rw [e.1]
 split
 ·exact zeM (by omega)
 ·exact h2
theorem zeO (w:World):zad w 0 none 0 0:=by
 refine⟨⟨by rw [show dg 18446744073709551616 0=[] from by rw [dg];rfl];rfl,λh=>absurd h (by decide)⟩,Nat.le_refl _,by decide⟩
theorem zfq (w:World):zah w (0:Rat) false none 0 0 none 0 0:=⟨⟨rfl,zeO w⟩,⟨0,⟨rfl,by decide⟩,zeO w⟩⟩
theorem zev {w:World}{z:Int}{b:Bool}{A:oA9}{n c:Nat}(h:zaA w z b A n c):zah w (z:Rat) b A n c none 0 0:=⟨by rw [Rat.num_intCast];exact h,⟨0,⟨by rw [Rat.den_intCast];rfl,by decide⟩,zeO w⟩⟩
theorem zpq {w:World}{r:Rat}{z:Int}{b:Bool}{A:oA9}{n c:Nat}{E:oA9}{k f:Nat}(hn:r.num=z)(hd:r.den=1)(h:zaA w z b A n c)(q:zad w 0 E k f):zah w r b A n c E k f:=
 ⟨by rw [hn];exact h,⟨0,⟨by rw [hd];rfl,by decide⟩,q⟩⟩
theorem ziP {w:World}{r:Rat}{z:Int}{y:Nat}{b:Bool}{A:oA9}{n c:Nat}{E:oA9}{k f:Nat}(hn:r.num=z)(hd:r.den=y)(hy:y≠1)(h:zaA w z b A n c)(q:zad w y E k f):zah w r b A n c E k f:=
 ⟨by rw [hn];exact h,⟨y,⟨by rw [if_neg (λh0=>r.den_nz (by rw [hd,h0]))];exact hd,hy⟩,q⟩⟩
theorem zgj {q x:Nat}(e:q=(if x=0 then 1 else x)/\x≠1)(h:q=1):x=0:=by
 refine Decidable.byContradiction λh0=>?_
 rw [if_neg h0] at e
 omega
theorem zdW {q x:Nat}(e:q=(if x=0 then 1 else x)/\x≠1)(h:q≠1):x≠0/\x=q:=by
 have h0:x≠0:=λh0=>h (by rw [e.1,if_pos h0])
 refine⟨h0,?_⟩
 have:=e.1
 rw [if_neg h0] at this
 exact this.symm
theorem zpv (z:Int):zaR (decide (z<0)) z.natAbs=z:=by
 unfold zaR
 by_cases h:z<0
 ·rw [decide_eq_true h,if_pos rfl];omega
 ·rw [decide_eq_false h,if_neg (by decide)];omega
theorem zoU {w:World}{x:Nat}{A:oA9}{n c:Nat}(h:zad w x A n c)(hn:n<=1):x<18446744073709551616:=ziH h.len hn
theorem len_one {w:World}{x:Nat}{A:oA9}{n c:Nat}(h:zad w x A n c)(hx:x=1):n<=1:=by
 have h1:Sz 1 x:=by rw [hx];exact zeM (by decide)
 exact h1.words h
theorem zni (p d:Int)(hd:d≠0):(Rat.divInt p d).num=zaR (decide (p<0) !=decide (d<0)) (p.natAbs / Nat.gcd p.natAbs d.natAbs)/\(Rat.divInt p d).den=d.natAbs / Nat.gcd p.natAbs d.natAbs:=by
 refine⟨?_,made_den p d hd⟩
 have h1:=made_num p d hd
 have h2:=zoV p d hd
 rw [<-h1]
 generalize (Rat.divInt p d).num=z at*
 unfold zaR
 by_cases hp:p<0
 ·by_cases hq:d<0
  ·rw [decide_eq_true hp,decide_eq_true hq];simp;omega
  ·rw [decide_eq_true hp,decide_eq_false hq];simp;omega
 ·by_cases hq:d<0
  ·rw [decide_eq_false hp,decide_eq_true hq];simp
   by_cases h0:p=0
   ·subst h0;simp at h1;omega
   ·omega
  ·rw [decide_eq_false hp,decide_eq_false hq];simp;omega
theorem zgi (z:Int)(baa:Bool)(Baa:oA9)(maa daa:Nat)(w:World)(hT:zai w)(haa:zaA w z baa Baa maa daa)(qaa:maa<=268435456):
  Calls Tryz.prog 148 #[.agg #[.bool baa,.slice Baa maa daa]] w (zaT w z):=by
 have HIC:=lh9 (zbH (T:=zai))
 have HT:=lh9 (λw' (hb:Below w.heap.size w w')=>hT.on hb)
 have HTB:=HT
 obtain⟨K,hKe⟩:∃K,268435456=K:=⟨_,rfl⟩
 have hKK:K<=268435456:=by omega
 have hK0:0<K:=by omega
 have HV:=lh9 (zpv z)
 obtain⟨sb,hsb⟩:∃s,decide (z<0)=s:=⟨_,rfl⟩
 rw [hsb] at HV
 have HSB:=lh9 hsb
 clear hsb
 have HNaa:=lh9 (λw' (b:Below w.heap.size w w')=>haa.below b)
 have HZaa:Hid (Sz K z.natAbs):=Sz.of_words haa.words (by omega)
 clear haa qaa
 clear hT hKe
 go_enter Tryz.func148,Tryz.ntmps148
 have hB:=Below.refl w.heap.size w
 obtain⟨bx1,bx2,bx3,bz⟩:=zbC w 51 51 #[.bool baa,.slice Baa maa daa] #[.bool false,.slice none 0 0]
 have hB:=zaa hB bx1
 obtain⟨g1,e1⟩:=bx2.c2
 have k2:=bx3
 clear bx1 bx2 bx3 bz
 go_wp2_with fail
 generalize (w.alloc (.cells #[.bool baa,.slice Baa maa daa] 51)).alloc (.cells #[.bool false,.slice none 0 0] 51)=W1 at*
 have C0:=lh9 (λw' (h:Below W1.heap.size W1 w')=>zau (HSB.out) (HIC.out.belowI (z) baa Baa maa daa w' (HT.out _ (zaa hB h)) (HNaa.out _ (zaa hB h)) (szi HZaa (HNaa.out _ hB))))
 have HZ3:Hid (Sz (K) (z.natAbs)):=HZaa.out
 have C1:=lh9 (λw' (h:Below W1.heap.size W1 w')=>HIC.out.abs (z) baa Baa maa daa w' (HT.out _ (zaa hB h)) (HNaa.out _ (zaa hB h)) (szi HZaa (HNaa.out _ hB)))
 have HZ4:Hid (Sz (K) (zaR sb z.natAbs).natAbs):=(by rw [zdM];exact HZ3.out)
 have C2:=lh9 (λw' (h:Below W1.heap.size W1 w') B3 m3 d3 (hw3:zad w' (z.natAbs) B3 m3 d3)=>HIC.out.new sb (z.natAbs) B3 m3 d3 w' (HT.out _ (zaa hB h)) hw3 (szw HZ3 hw3))
 have hBw:=(Below.refl W1.heap.size W1).drew
 refine rg (csc g1 (csc e1 csn)) (λhHeld=>?_)
 refine tk 0 ?_
 refine tk 2 ?_
 refine rc 1 (λK hK=>?_)
 go_simp
 go_at_call 108;(with_reducible refine(C0.out _ hBw).mono ?_);rintro e wa2 ⟨rfl,hb⟩;have hBw:=zaa hBw hb;refine hK.out _ _ (Cs.below hHeld hb) (λhHeld=>?_);clear hK K hb
 try simp only [sb9]
 refine rc 3 (λK hK=>?_)
 go_simp
 go_at_call 109;(with_reducible refine(C1.out _ hBw).mono ?_);rintro e wa3 ⟨B3,m3,d3,rfl,hw3,hb⟩;have hBw:=zaa hBw hb;refine hK.out _ _ (Cs.below hHeld hb) (λhHeld=>?_);clear hK K hb
 try simp only [sb9]
 refine rc 4 (λK hK=>?_)
 go_simp
 go_at_call 161;(with_reducible refine(C2.out _ hBw _ _ _ hw3).mono ?_);rintro e wa4 ⟨b4,B4,m4,d4,rfl,hw4,hb⟩;have hBw:=zaa hBw hb;have hw3:=hw3.below hb;refine hK.out _ _ (Cs.below hHeld hb) (λhHeld=>?_);clear hK K hb
 try simp only [sb9]
 obtain⟨sc0,sf0,sc1,sf1⟩:=st2 (zab hBw k2) (.bool b4)
 refine rc 5 (λK hK=>?_)
 go_simp
 refine hK.out _ _ (cs2 (.bool b4) (.slice B4 m4 d4) hHeld) (λhHeld=>?_);clear hK K
 try simp only [sb9]
 refine rdn ?_
 have hB:=zaa hB hBw
 have g1:=zac hBw g1
 have e1:=zac hBw e1
 have k2:=zab hBw k2
 have HN4:=lh9 hw4
 clear hBw hHeld hw3 hw4 C0 C1 C2
 obtain⟨r0,r1⟩:=(sn2 k2 (.bool b4) (.slice B4 m4 d4)).c2
 have HG:=lh9 (gi2 (zaA.to8 HV.out HN4.out) k2 hB (by omega))
 go_wp2
 refine bodyPost_ret (v:=.agg #[.bool b4,.slice B4 m4 d4]) (by simp [results,Tryz.results148,go_sem,r0,r1]) rfl ?_
 exact HG.out
theorem zfG (z:Int)(k:Nat)(baa:Bool)(Baa:oA9)(maa daa:Nat)(Bab:oA9)(mab dab:Nat)(w:World)(hT:zai w)(haa:zaA w z baa Baa maa daa)(hab:zad w k Bab mab dab)(qaa:maa<=134217728)(qab:mab<=134217728):
  Calls Tryz.prog 191 #[.agg #[.bool baa,.slice Baa maa daa],.agg #[.slice Bab mab dab]] w (zaT w (z*((k:Nat):Int))):=by
 have HIC:=lh9 (zbH (T:=zai))
 have HT:=lh9 (λw' (hb:Below w.heap.size w w')=>hT.on hb)
 have HTB:=HT
 obtain⟨K,hKe⟩:∃K,134217728=K:=⟨_,rfl⟩
 have hKK:K<=134217728:=by omega
 have hK0:0<K:=by omega
 have HNaa:=lh9 (λw' (b:Below w.heap.size w w')=>haa.below b)
 have HZaa:Hid (Sz K z.natAbs):=Sz.of_words haa.words (by omega)
 clear haa qaa
 have HNab:=lh9 (λw' (b:Below w.heap.size w w')=>hab.below b)
 have HZab:Hid (Sz K k):=Sz.of_words hab (by omega)
 clear hab qab
 clear hT hKe
 go_enter Tryz.func191,Tryz.ntmps191
 have hB:=Below.refl w.heap.size w
 obtain⟨bx1,bx2,bx3,bx4,bz⟩:=zbA w 51 49 51 #[.bool baa,.slice Baa maa daa] #[.slice Bab mab dab] #[.bool false,.slice none 0 0]
 have hB:=zaa hB bx1
 obtain⟨g1,e1⟩:=bx2.c2
 have g2:=bx3.c1
 have k3:=bx4
 clear bx1 bx2 bx3 bx4 bz
 go_wp2_with fail
 generalize ((w.alloc (.cells #[.bool baa,.slice Baa maa daa] 51)).alloc (.cells #[.slice Bab mab dab] 49)).alloc (.cells #[.bool false,.slice none 0 0] 51)=W1 at*
 have HZ4:Hid (Sz (K) (((k:Nat):Int)).natAbs):=(by rw [Int.natAbs_natCast];exact HZab.out)
 have C0:=lh9 (λw' (h:Below W1.heap.size W1 w')=>inew_pos HIC.out (k) Bab mab dab w' (HT.out _ (zaa hB h)) (HNab.out _ (zaa hB h)) (szw HZab (HNab.out _ hB)))
 have HZ5:Hid (Sz (K+K) (z*(((k:Nat):Int))).natAbs):=SzI.mul HZaa.out HZ4.out
 have C1:=lh9 (λw' (h:Below W1.heap.size W1 w') b4 B4 m4 d4 (hw4:zaA w' (((k:Nat):Int)) b4 B4 m4 d4)=>HIC.out.mul (z) (((k:Nat):Int)) baa b4 Baa B4 maa m4 daa d4 w' (HT.out _ (zaa hB h)) (HNaa.out _ (zaa hB h)) hw4 (szi HZaa (HNaa.out _ hB)) (szi HZ4 hw4))
 have hBw:=(Below.refl W1.heap.size W1).drew
 refine rg (csc g1 (csc e1 (csc g2 csn))) (λhHeld=>?_)
 refine tk 0 ?_
 refine tk 1 ?_
 refine rc 2 (λK hK=>?_)
 go_simp
 go_at_call 161;(with_reducible refine(C0.out _ hBw).mono ?_);rintro e wa2 ⟨b4,B4,m4,d4,rfl,hw4,hb⟩;have hBw:=zaa hBw hb;refine hK.out _ _ (Cs.below hHeld hb) (λhHeld=>?_);clear hK K hb
 try simp only [sb9]
 refine rc 3 (λK hK=>?_)
 go_simp
 go_at_call 121;(with_reducible refine(C1.out _ hBw _ _ _ _ hw4).mono ?_);rintro e wa3 ⟨b5,B5,m5,d5,rfl,hw5,hb⟩;have hBw:=zaa hBw hb;have hw4:=hw4.below hb;refine hK.out _ _ (Cs.below hHeld hb) (λhHeld=>?_);clear hK K hb
 try simp only [sb9]
 obtain⟨sc0,sf0,sc1,sf1⟩:=st2 (zab hBw k3) (.bool b5)
 refine rc 4 (λK hK=>?_)
 go_simp
 refine hK.out _ _ (cs2 (.bool b5) (.slice B5 m5 d5) hHeld) (λhHeld=>?_);clear hK K
 try simp only [sb9]
 refine rdn ?_
 have hB:=zaa hB hBw
 have g1:=zac hBw g1
 have e1:=zac hBw e1
 have g2:=zac hBw g2
 have k3:=zab hBw k3
 have HN5:=lh9 hw5
 clear hBw hHeld hw4 hw5 C0 C1
 obtain⟨r0,r1⟩:=(sn2 k3 (.bool b5) (.slice B5 m5 d5)).c2
 have HG:=lh9 (gi2 (HN5.out) k3 hB (by omega))
 go_wp2
 refine bodyPost_ret (v:=.agg #[.bool b5,.slice B5 m5 d5]) (by simp [results,Tryz.results191,go_sem,r0,r1]) rfl ?_
 exact HG.out
theorem zlQ (r:Rat)(baa:Bool)(Baa:oA9)(maa daa:Nat)(Eaa:oA9)(uaa vaa:Nat)(w:World)(hT:zai w)(haa:zah w r baa Baa maa daa Eaa uaa vaa)(qaa:zaM maa uaa)(hd:r.den=1):
  Calls Tryz.prog 90 #[.agg #[.bool baa,.slice Baa maa daa,.slice Eaa uaa vaa]] w (λe w'=>e=.returned (.bool true)/\Below w.heap.size w w'):=by
 have HT:=lh9 (λw' (hb:Below w.heap.size w w')=>hT.on hb)
 have HTB:=HT
 obtain⟨K,hKe⟩:∃K,67108864=K:=⟨_,rfl⟩
 have hKK:K<=67108864:=by omega
 have hK0:0<K:=by omega
 obtain⟨xaa,hxaa,hxwaa⟩:=haa.2
 have HXaa:=lh9 hxaa
 have HZaa:Hid (SzQ K r):=zaG haa qaa hKe
 have HZaap:Hid (Sz K r.num.natAbs):=HZaa.out.num
 have HZaaq:Hid (Sz K xaa):=zaq HZaa.out.den hxaa
 have HNaaq:=lh9 (λw' (b:Below w.heap.size w w')=>hxwaa.below b)
 clear haa qaa hxaa hxwaa
 have HX0:=lh9 (zgj HXaa.out hd)
 clear hT hKe hd
 go_enter Tryz.func90,Tryz.ntmps90
 have hB:=Below.refl w.heap.size w
 obtain⟨bx1,bx2,bz⟩:=zax w 53 #[.bool baa,.slice Baa maa daa,.slice Eaa uaa vaa]
 have hB:=zaa hB bx1
 obtain⟨g1,e1,i1⟩:=bx2.c3
 clear bx1 bx2 bz
 go_wp2_with fail
 generalize w.alloc (.cells #[.bool baa,.slice Baa maa daa,.slice Eaa uaa vaa] 53)=W1 at*
 (with_reducible refine(zdO HX0.out (HNaaq.out _ hB)).mono ?_)
 rintro e wc2 ⟨rfl,hb⟩
 have hB:=zaa hB hb
 have g1:=zac hb g1
 have e1:=zac hb e1
 have i1:=zac hb i1
 clear hb 
 go_wp2
 go_ret
 exact⟨by first|rfl|simp,hB⟩
theorem zlP (r:Rat)(baa:Bool)(Baa:oA9)(maa daa:Nat)(Eaa:oA9)(uaa vaa:Nat)(w:World)(hT:zai w)(haa:zah w r baa Baa maa daa Eaa uaa vaa)(qaa:zaM maa uaa)(hd:r.den≠1):
  Calls Tryz.prog 90 #[.agg #[.bool baa,.slice Baa maa daa,.slice Eaa uaa vaa]] w (λe w'=>e=.returned (.bool false)/\Below w.heap.size w w'):=by
 have HT:=lh9 (λw' (hb:Below w.heap.size w w')=>hT.on hb)
 have HTB:=HT
 obtain⟨K,hKe⟩:∃K,67108864=K:=⟨_,rfl⟩
 have hKK:K<=67108864:=by omega
 have hK0:0<K:=by omega
 obtain⟨xaa,hxaa,hxwaa⟩:=haa.2
 have HXaa:=lh9 hxaa
 have HZaa:Hid (SzQ K r):=zaG haa qaa hKe
 have HZaap:Hid (Sz K r.num.natAbs):=HZaa.out.num
 have HZaaq:Hid (Sz K xaa):=zaq HZaa.out.den hxaa
 have HNaaq:=lh9 (λw' (b:Below w.heap.size w w')=>hxwaa.below b)
 clear haa qaa hxaa hxwaa
 have HX0:=lh9 (zdW HXaa.out hd).1
 clear hT hKe hd
 go_enter Tryz.func90,Tryz.ntmps90
 have hB:=Below.refl w.heap.size w
 obtain⟨bx1,bx2,bz⟩:=zax w 53 #[.bool baa,.slice Baa maa daa,.slice Eaa uaa vaa]
 have hB:=zaa hB bx1
 obtain⟨g1,e1,i1⟩:=bx2.c3
 clear bx1 bx2 bz
 go_wp2_with fail
 generalize w.alloc (.cells #[.bool baa,.slice Baa maa daa,.slice Eaa uaa vaa] 53)=W1 at*
 (with_reducible refine(zdZ HX0.out (HNaaq.out _ hB)).mono ?_)
 rintro e wc2 ⟨rfl,hb⟩
 have hB:=zaa hB hb
 have g1:=zac hb g1
 have e1:=zac hb e1
 have i1:=zac hb i1
 clear hb 
 go_wp2
 go_ret
 exact⟨by first|rfl|simp,hB⟩
theorem zbl (r:Rat)(baa:Bool)(Baa:oA9)(maa daa:Nat)(Eaa:oA9)(uaa vaa:Nat)(w:World)(hT:zai w)(haa:zah w r baa Baa maa daa Eaa uaa vaa)(qaa:zaM maa uaa):
  Calls Tryz.prog 90 #[.agg #[.bool baa,.slice Baa maa daa,.slice Eaa uaa vaa]] w (λe w'=>e=.returned (.bool (decide (r.den=1)))/\Below w.heap.size w w'):=by
 by_cases hd:r.den=1
 ·rw [decide_eq_true hd];exact zlQ r baa Baa maa daa Eaa uaa vaa w hT haa qaa hd
 ·rw [decide_eq_false hd];exact zlP r baa Baa maa daa Eaa uaa vaa w hT haa qaa hd
def zbP (l:Rat)(row:List Rat):Rat:=row.foldl (λl x=>l*(((l*x).den:Nat):Rat)) l
def zaK (row:List Rat):Rat:=zbP 1 row
def zeX (x:Rat):Prop:=∃z:Int,x=(z:Rat)
theorem zeX.mul {x y:Rat}(h:zeX x)(k:zeX y):zeX (x*y):=by
 obtain⟨z,rfl⟩:=h;obtain⟨t,rfl⟩:=k;exact⟨z*t,(Rat.intCast_mul z t).symm⟩
theorem zeX.nat (n:Nat):zeX (n:Rat):=⟨n,(Rat.intCast_natCast n).symm⟩
theorem den_ne (x:Rat):((x.den:Nat):Rat)≠0:=λh=>x.den_nz (by
 have:((x.den:Nat):Rat)=((0:Nat):Rat):=h
 exact Rat.natCast_inj.1 this)
theorem den_int (x:Rat):zeX (((x.den:Nat):Rat)*x):=⟨x.num,by rw [Rat.mul_comm];exact zdq x⟩
theorem zdN (l x:Rat)(row:List Rat):zbP l (x::row)=zbP (l*(((l*x).den:Nat):Rat)) row:=rfl
theorem zjc:∀{row:List Rat} {l:Rat},l≠0->zbP l row≠0
 |[],_,h=>h
 |x::row,l,h=>by
   rw [zdN]
   refine zjc λe=>?_
   rcases Rat.mul_eq_zero.1 e with e|e
   ·exact h e
   ·exact den_ne _ e
theorem zgR:∀{row:List Rat} {l:Rat},∃q:Rat,zeX q/\zbP l row=q*l
 |[],l=>⟨1,⟨1,by decide+kernel⟩,(Rat.one_mul l).symm⟩
 |x::row,l=>by
   obtain⟨q,hq,e⟩:=zgR (row:=row) (l:=l*(((l*x).den:Nat):Rat))
   exact⟨q*(((l*x).den:Nat):Rat),hq.mul (zeX.nat _),by rw [zdN,e];grind⟩
theorem zjV:∀{row:List Rat} {l:Rat},∀x ∈ row,zeX (zbP l row*x)
 |x::row,l,y,h=>by
   rcases List.mem_cons.1 h with rfl|h
   ·obtain⟨q,hq,e⟩:=zgR (row:=row) (l:=l*(((l*y).den:Nat):Rat))
    rw [zdN,e]
    have:=hq.mul (den_int (l*y))
    rw [show q*(l*(((l*y).den:Nat):Rat))*y=q*((((l*y).den:Nat):Rat)*(l*y)) by grind]
    exact this
   ·rw [zdN];exact zjV y h
theorem den_dvd {q z:Int}{r:Rat}(h:(q:Rat)*r=(z:Rat)):(r.den:Int)∣ q:=by
 have h1:(q:Rat)*(r*((r.den:Nat):Rat))=(z:Rat)*((r.den:Nat):Rat):=by rw [<-h];grind
 rw [zdq,<-Rat.intCast_mul,<-Rat.intCast_natCast,<-Rat.intCast_mul] at h1
 have h2:q*r.num=z*(r.den:Int):=Rat.intCast_inj.1 h1
 have h3:r.den ∣ q.natAbs*r.num.natAbs:=by
  rw [<-Int.natAbs_mul,h2,Int.natAbs_mul]
  exact⟨z.natAbs,by rw [Nat.mul_comm];rfl⟩
 have h4:r.den ∣ q.natAbs:=Nat.Coprime.dvd_of_dvd_mul_right r.reduced.symm h3
 exact Int.ofNat_dvd_left.2 h4
theorem LI.int {K:Nat}{x:Rat}(h:LI K x):zeX x:=by obtain⟨z,e,_⟩:=h;exact⟨z,e⟩
theorem LI.of_mul {K:Nat}{q x y:Rat}(h:LI K y)(hq:zeX q)(hx:zeX x)(e:y=q*x)(h0:q≠0):LI K x:=by
 obtain⟨z,rfl⟩:=hq;obtain⟨t,rfl⟩:=hx;obtain⟨v,rfl,hv⟩:=h
 refine⟨t,rfl,hv.of_le ?_⟩
 rw [<-Rat.intCast_mul] at e
 rw [Rat.intCast_inj.1 e,Int.natAbs_mul]
 have:z≠0:=λhz=>h0 (by rw [hz];rfl)
 exact Nat.le_mul_of_pos_left _ (Int.natAbs_pos.2 this)
theorem zpK {row:List Rat}{l:Rat}(h:zeX l):zeX (zbP l row):=by
 obtain⟨q,hq,e⟩:=zgR (row:=row) (l:=l);rw [e];exact hq.mul h
theorem one_int:zeX 1:=⟨1,by decide+kernel⟩
theorem zjX (row:List Rat):zaK row≠0:=zjc (by decide+kernel)
theorem zmi:∀{row:List Rat} {l:Rat} {K L:Nat},LI L l->(∀x ∈ row,SzQ K x)->LI (L+row.length*K) (zbP l row)
 |[],l,K,L,hl,_=>by rw [List.length_nil,Nat.zero_mul];exact hl
 |x::row,l,K,L,hl,h=>by
   rw [zdN]
   have h1:LI K (((l*x).den:Nat):Rat):=by
    obtain⟨z,hz,_⟩:=hl
    have hd:(l*x).den ∣ x.den:=by
     have:((x.den:Int):Rat)*(l*x)=((z*x.num:Int):Rat):=by
      rw [Rat.intCast_mul,<-hz,<-zdq x,Rat.intCast_natCast];grind
     exact Int.natCast_dvd_natCast.1 (den_dvd this)
    exact⟨((l*x).den:Int),(Rat.intCast_natCast _).symm,((h x List.mem_cons_self).den).of_le (Nat.le_of_dvd (Nat.pos_of_ne_zero x.den_nz) hd)⟩
   refine(zmi (K:=K) (hl.mul h1) λy hy=>h y (List.mem_cons_of_mem _ hy)).up ?_
   rw [List.length_cons,Nat.succ_mul];omega
theorem num_le {l x:Rat}{L K:Nat}(hl:LI L l)(hx:SzQ K x)(hi:zeX (l*x)):LI (L+K) (l*x):=by
 obtain⟨z,hz,hz2⟩:=hl
 obtain⟨t,ht⟩:=hi
 refine⟨t,ht,?_⟩
 -- t*den=z*num
 have h1:t*(x.den:Int)=z*x.num:=by
  have:(t:Rat)*((x.den:Nat):Rat)=(z:Rat)*(x.num:Rat):=by
   rw [<-ht,hz,<-zdq x];grind
  rw [<-Rat.intCast_natCast,<-Rat.intCast_mul,<-Rat.intCast_mul] at this
  exact Rat.intCast_inj.1 this
 have h2:t.natAbs*x.den=z.natAbs*x.num.natAbs:=by
  rw [<-Int.natAbs_mul,<-h1,Int.natAbs_mul];rfl
 refine(hz2.mul hx.num).of_le ?_
 rw [<-h2]
 exact Nat.le_mul_of_pos_right _ (Nat.pos_of_ne_zero x.den_nz)
theorem zjW {row:List Rat}{K n:Nat}(hn:row.length<=n)(h:∀x ∈ row,SzQ K x):LI (1+(n+1)*K) (zaK row)/\∀x ∈ row,LI (1+(n+1)*K) (zaK row*x):=by
 have h1:=zmi (K:=K) LI.one h
 have hm:row.length*K<=n*K:=Nat.mul_le_mul_right _ hn
 have hs:(n+1)*K=n*K+K:=Nat.succ_mul n K
 exact⟨h1.up (by omega),λx hx=>(num_le h1 (h x hx) (zjV x hx)).up (by omega)⟩
theorem znJ {row:List Rat}{K k:Nat}(h:LI K (zaK row)):LI K (zaK (row.take k)):=by
 obtain⟨q,hq,e⟩:=zgR (row:=row.drop k) (l:=zaK (row.take k))
 have e2:zbP (zaK (row.take k)) (row.drop k)=zaK row:=by
  unfold zaK zbP
  rw [<-List.foldl_append,List.take_append_drop]
 rw [e2] at e
 exact h.of_mul hq (zpK one_int) e λhz=>zjX row (by rw [e,hz,Rat.zero_mul])
theorem znI {row:List Rat}{k:Nat}(h:k<row.length):zaK (row.take (k+1))=zaK (row.take k)*(((zaK (row.take k)*row.getD k 0).den:Nat):Rat):=by
 unfold zaK zbP
 rw [List.take_succ_eq_append_getElem h,List.foldl_append,List.getD_eq_getElem?_getD,List.getElem?_eq_getElem h]
 rfl
theorem num_div {x:Rat}(h:x.den≠1):(x.num:Rat) / x=((x.den:Nat):Rat):=by
 have hx:x≠0:=λe=>h (by rw [e];rfl)
 have:=zdq x
 rw [<-this]
 grind
