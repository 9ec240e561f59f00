/- What this claim leans on. -/
import Derived.Test.YtlgnacmgepnamaaGreatDoorKVMath
import Derived.Test.YtlgnacmgepnamaaGreatDoorKD8Form
namespace Go.Proofs.YtlgnacmgepnamaaGreatDoor
open Go Go.RowKit
set_option maxHeartbeats 16000000
set_option linter.unusedVariables false
theorem Sz.len16' {K x:Nat}(h:Sz K x):(dg 65536 x).length<=4*K:=zbj (by decide) _ _ (by rw [zeZ];exact h)
theorem Sz.holds' {K x:Nat}(h:Sz K x){w:World}{A:oA9}{n c:Nat}(hw:zak w x A n c):n<=4*K:=by rw [hw.len];exact h.len16'
theorem zov (cs:Array Value)(l:List Nat)(w:World)(g n x:Nat)(hk:Blk w g 121 cs)(hn:cs.size=n)(hv:cs.toList=zat .u64 l)(hd:Dgs 18446744073709551616 l)(hx:dv 18446744073709551616 l=x)(hs:n<=1000):
  Calls Tryz.prog 93 #[.slice (some ⟨g,0,none⟩) n n] w (zbw w x):=by
 have hl:l.length=n:=by
  have h:=congrArg List.length hv
  rw [zaz] at h
  rw [<-h];simpa using hn
 have:=ref2_of (some ⟨g,0,none⟩) n n l w (zcZ hk hn (by rw [hv,List.take_of_length_le (by rw [zaz];omega)]) hl) hd (by omega)
 rw [hx] at this
 exact this
set_option maxRecDepth 100000
def SaysYes (w:World)(e:Ending)(w':World):Prop:=e=.returned (.bool true)/\Below w.heap.size w w'
theorem zdA (x:Nat)(A D:oA9)(n c m d:Nat)(w:World)(hA:zaf w x A n c)(hD:zak w x D m d)(hn:n<=1099511627776)(hm:m<=1099511627776):
  Calls Tryz.prog 96 #[.agg #[.slice A n c],.slice D m d] w (SaysYes w):=by
 have HW:=(λw' (hb:Below w.heap.size w w')=>zcE x A n c w' (hA.below hb) hn)
 have HR:=lh9 (λw' (hb:Below w.heap.size w w')=>ziC x D m d w' (hD.below hb) hm)
 have HI:=lh9 (λw' (hb:Below w.heap.size w w') A1 c1 (h:zas w' w'.heap.size 1 A1 n (zat .u64 (dg 18446744073709551616 x)))=>ref2_is x D A1 m d n c1 w' (hD.below hb) hm h hn)
 have hlen:=hA.len
 unfold zeM at HW HR
 rw [hlen] at HW HR
 have HWS:=lh9 HW
 have HRS:=lh9 HR
 clear HW HR hlen hA hD
 go_enter Tryz.func96,Tryz.ntmps96
 go_wp2_with fail
 obtain⟨b1,b2,b5⟩:=zaA w 44 #[.slice A n c]
 refine(HWS.out _ b1).mono ?_
 rintro e w1 ⟨A1,c1,rfl,hr1,h1,⟨h2,_⟩,hb⟩
 have hB:=zac b1 hb
 have g1:w1.cell? ⟨w.heap.size,0,none⟩=some (.slice A n c):=zad hb (b2.cell 0)
 clear hb b1 b2 b5
 go_wp2_with fail
 refine(HI.out _ hB A1 c1 hr1).mono ?_
 rintro e w2 ⟨rfl,hb⟩
 have hB:=zac hB hb
 have g1:=zad hb g1
 clear hb hr1
 go_wp2_with fail
 refine(zbs x _ _ _ _).mono ?_
 rintro e w3 ⟨rfl,hb⟩
 have hB:=zac hB hb
 clear hb g1
 go_wp2_with fail
 refine(HRS.out _ hB).mono ?_
 rintro e w4 ⟨A2,c2,rfl,_,_,_,hb⟩
 have hB:=zac hB hb
 clear hb
 go_wp2
 go_ret
 exact⟨rfl,hB⟩
set_option linter.unusedSimpArgs false
theorem zbJ {T:World->Prop}:IntC T where
 new s x A n c w _ hA hn:=zlr s x A n c w hA (by omega)
 of z w _ h1 h2:=zmT z w h1 h2
 belowI z b A n c w _ hA hn:=ziS z b A n c w hA
 abs z b A n c w _ hA hn:=(zln z b A n c w hA (by omega)).mono λ_ _ ⟨A',n',c',he,hw,hb,_⟩=>⟨A',n',c',he,hw,hb⟩
 sign z b A n c w _ hA hn:=zki z b A n c w hA
 cmp x y b b' A D n m c d w _ hA hD hn hm:=zlp x y b b' A D n m c d w hA hD (by omega) (by omega)
 add x y b b' A D n m c d w _ hA hD hn hm:=zlo x y b b' A D n m c d w hA hD (by omega) (by omega)
 mul x y b b' A D n m c d w _ hA hD hn hm:=zlq x y b b' A D n m c d w hA hD (by omega) (by omega)
theorem zaf.to8 {w:World}{x y:Nat}{A:oA9}{n c:Nat}(e:x=y)(h:zaf w x A n c):zaf w y A n c:=e▸h
theorem zaC.to8 {w:World}{x y:Int}{b:Bool}{A:oA9}{n c:Nat}(e:x=y)(h:zaC w x b A n c):zaC w y b A n c:=e▸h
theorem zjR (x:Nat)(A:oA9)(n c:Nat)(w:World)(h:zaf w x A n c)(hn:n<=1099511627776):
  Calls Tryz.prog 106 #[.agg #[.slice A n c]] w λe w'=>∃(B:oA9) (m d:Nat),e=.returned (.slice B m d)/\zaf w' x B m d/\Below w.heap.size w w':=by
 refine(zcE x A n c w h hn).mono ?_
 rintro e w' ⟨B,d,rfl,h1,h2,h3,h4⟩
 exact⟨B,_,d,rfl,⟨h1,h2,h3.1⟩,h4⟩
theorem of_row (x:Nat)(A:oA9)(n c:Nat)(w:World)(h:zaf w x A n c)(hn:n<=1099511627776):
  Calls Tryz.prog 104 #[.slice A n c] w λe w'=>∃(B:oA9) (m d:Nat),e=.returned (.agg #[.slice B m d])/\zaf w' x B m d/\Below w.heap.size w w':=by
 have k:=zcz A n c _ w h.1 (zbU (by decide) x) h.2.1 h.2.2 hn
 rw [zcD (by decide)] at k
 refine k.mono ?_
 rintro e w' ⟨B,m,d,rfl,h1,h2,_⟩
 exact⟨B,m,d,rfl,h1,h2⟩
theorem zoB {P:Program}{f:FuncId}{args:Array Value}{w:World}{z v:Int}(e:z=v)(h:Calls P f args w λe w'=>e=.returned (.tuple #[.int .u64 z,.bool true])/\Below w.heap.size w w'):Calls P f args w λe w'=>e=.returned (.tuple #[.int .u64 v,.bool true])/\Below w.heap.size w w':=by
 subst e;exact h
theorem zkW (x:Nat)(A:oA9)(n c:Nat)(w:World)(hA:zaf w x A n c)(hn:n<=1099511627776):Calls Tryz.prog 118 #[.agg #[.slice A n c]] w (zbK w ((bitLen x:Nat):Int)):=zio x A n c w hA hn
theorem zgD {K K':Nat}{z:Int}{k:Nat}(h:Sz K z.natAbs)(h':Sz K' k):Sz (K+K') (z*((k:Nat):Int)).natAbs:=by
 rw [Int.natAbs_mul,Int.natAbs_natCast]
 exact h.mul h'
theorem zaw {K q x:Nat}(h:Sz K q)(e:q=(if x=0 then 1 else x)/\x≠1):Sz K x:=h.of_le (by rw [e.1];split<;>omega)
theorem zaO {w:World}{r:Rat}{b:Bool}{A:oA9}{n c:Nat}{E:oA9}{k f K:Nat}(h:zan w r b A n c E k f)(q:zaQ n k)(hK:67108864=K):SzQ K r:=by
 obtain⟨x,e,hx⟩:=h.2
 have h1:Sz K r.num.natAbs:=Sz.of_words h.1.2 (by have:=q.1;omega)
 have h2:Sz K x:=Sz.of_words hx (by have:=q.2;omega)
 refine⟨h1,?_⟩
 rw [e.1]
 split
 ·exact zcA (by omega)
 ·exact h2
theorem zeC (w:World):zaf w 0 none 0 0:=by
 refine⟨⟨by rw [show dg 18446744073709551616 0=[] from by rw [dg];rfl];rfl,λh=>absurd h (by decide)⟩,Nat.le_refl _,by decide⟩
theorem zhi (w:World):zan w (0:Rat) false none 0 0 none 0 0:=⟨⟨rfl,zeC w⟩,⟨0,⟨rfl,by decide⟩,zeC w⟩⟩
theorem zfk {w:World}{z:Int}{b:Bool}{A:oA9}{n c:Nat}(h:zaC w z b A n c):zan w (z:Rat) b A n c none 0 0:=⟨by rw [Rat.num_intCast];exact h,⟨0,⟨by rw [Rat.den_intCast];rfl,by decide⟩,zeC w⟩⟩
theorem zpy {w:World}{r:Rat}{z:Int}{b:Bool}{A:oA9}{n c:Nat}{E:oA9}{k f:Nat}(hn:r.num=z)(hd:r.den=1)(h:zaC w z b A n c)(q:zaf w 0 E k f):zan w r b A n c E k f:=
 ⟨by rw [hn];exact h,⟨0,⟨by rw [hd];rfl,by decide⟩,q⟩⟩
theorem ziz {w:World}{r:Rat}{z:Int}{y:Nat}{b:Bool}{A:oA9}{n c:Nat}{E:oA9}{k f:Nat}(hn:r.num=z)(hd:r.den=y)(hy:y≠1)(h:zaC w z b A n c)(q:zaf w y E k f):zan w r b A n c E k f:=
 ⟨by rw [hn];exact h,⟨y,⟨by rw [if_neg (λh0=>r.den_nz (by rw [hd,h0]))];exact hd,hy⟩,q⟩⟩
theorem zfW {q x:Nat}(e:q=(if x=0 then 1 else x)/\x≠1)(h:q=1):x=0:=by
 refine Decidable.byContradiction λh0=>?_
 rw [if_neg h0] at e
 omega
theorem zdV {q x:Nat}(e:q=(if x=0 then 1 else x)/\x≠1)(h:q≠1):x≠0/\x=q:=by
 have h0:x≠0:=λh0=>h (by rw [e.1,if_pos h0])
 refine⟨h0,?_⟩
 have:=e.1
 rw [if_neg h0] at this
 exact this.symm
theorem zpG (z:Int):zaU (decide (z<0)) z.natAbs=z:=by
 unfold zaU
 by_cases h:z<0
 ·rw [decide_eq_true h,if_pos rfl];omega
 ·rw [decide_eq_false h,if_neg (by decide)];omega
theorem zpc {w:World}{x:Nat}{A:oA9}{n c:Nat}(h:zaf w x A n c)(hn:n<=1):x<18446744073709551616:=zir h.len hn
theorem len_one {w:World}{x:Nat}{A:oA9}{n c:Nat}(h:zaf w x A n c)(hx:x=1):n<=1:=by
 have h1:Sz 1 x:=by rw [hx];exact zcA (by decide)
 exact h1.words h
theorem znm (p d:Int)(hd:d≠0):(Rat.divInt p d).num=zaU (decide (p<0) !=decide (d<0)) (p.natAbs / Nat.gcd p.natAbs d.natAbs)/\(Rat.divInt p d).den=d.natAbs / Nat.gcd p.natAbs d.natAbs:=by
 refine⟨?_,zlD p d hd⟩
 have h1:=zlE p d hd
 have h2:=zju p d hd
 rw [<-h1]
 generalize (Rat.divInt p d).num=z at*
 unfold zaU
 by_cases hp:p<0
 ·by_cases hq:d<0
  ·rw [decide_eq_true hp,decide_eq_true hq];simp;omega
  ·rw [decide_eq_true hp,decide_eq_false hq];simp;omega
 ·by_cases hq:d<0
  ·rw [decide_eq_false hp,decide_eq_true hq];simp
   by_cases h0:p=0
   ·subst h0;simp at h1;omega
   ·omega
  ·rw [decide_eq_false hp,decide_eq_false hq];simp;omega
theorem ziw (z:Int)(baa:Bool)(Baa:oA9)(maa daa:Nat)(w:World)(hT:zal w)(haa:zaC w z baa Baa maa daa)(qaa:maa<=268435456):
  Calls Tryz.prog 100 #[.agg #[.bool baa,.slice Baa maa daa]] w (zaT w z):=by
 have HIC:=lh9 (zbJ (T:=zal))
 have HT:=lh9 (λw' (hb:Below w.heap.size w w')=>hT.on hb)
 have HTB:=HT
 obtain⟨K,hKe⟩:∃K,268435456=K:=⟨_,rfl⟩
 have hKK:K<=268435456:=by omega
 have hK0:0<K:=by omega
 have HV:=lh9 (zpG z)
 obtain⟨sb,hsb⟩:∃s,decide (z<0)=s:=⟨_,rfl⟩
 rw [hsb] at HV
 have HSB:=lh9 hsb
 clear hsb
 have HNaa:=lh9 (λw' (b:Below w.heap.size w w')=>haa.below b)
 have HZaa:Hid (Sz K z.natAbs):=Sz.of_words haa.words (by omega)
 clear haa qaa
 clear hT hKe
 go_enter Tryz.func100,Tryz.ntmps100
 have hB:=Below.refl w.heap.size w
 obtain⟨bx1,bx2,bx3,bz⟩:=zbe w 46 46 #[.bool baa,.slice Baa maa daa] #[.bool false,.slice none 0 0]
 have hB:=zac hB bx1
 obtain⟨g1,e1⟩:=bx2.c2
 have k2:=bx3
 clear bx1 bx2 bx3 bz
 go_wp2_with fail
 generalize (w.alloc (.cells #[.bool baa,.slice Baa maa daa] 46)).alloc (.cells #[.bool false,.slice none 0 0] 46)=W1 at*
 have C0:=lh9 (λw' (h:Below W1.heap.size W1 w')=>zax (HSB.out) (HIC.out.belowI (z) baa Baa maa daa w' (HT.out _ (zac hB h)) (HNaa.out _ (zac hB h)) (szi HZaa (HNaa.out _ hB))))
 have HZ3:Hid (Sz (K) (z.natAbs)):=HZaa.out
 have C1:=lh9 (λw' (h:Below W1.heap.size W1 w')=>HIC.out.abs (z) baa Baa maa daa w' (HT.out _ (zac hB h)) (HNaa.out _ (zac hB h)) (szi HZaa (HNaa.out _ hB)))
 have HZ4:Hid (Sz (K) (zaU sb z.natAbs).natAbs):=(by rw [zdM];exact HZ3.out)
 have C2:=lh9 (λw' (h:Below W1.heap.size W1 w') B3 m3 d3 (hw3:zaf w' (z.natAbs) B3 m3 d3)=>HIC.out.new sb (z.natAbs) B3 m3 d3 w' (HT.out _ (zac hB h)) hw3 (szw HZ3 hw3))
 have hBw:=(Below.refl W1.heap.size W1).drew
 refine rg (csc g1 (csc e1 csn)) (λhHeld=>?_)
 refine tk 0 ?_
 refine tk 2 ?_
 refine rc 1 (λK hK=>?_)
 go_simp
 go_at_call 123;(with_reducible refine(C0.out _ hBw).mono ?_);rintro e wa2 ⟨rfl,hb⟩;have hBw:=zac hBw hb;refine hK.out _ _ (Cs.below hHeld hb) (λhHeld=>?_);clear hK K hb
 try simp only [sb9]
 refine rc 3 (λK hK=>?_)
 go_simp
 go_at_call 117;(with_reducible refine(C1.out _ hBw).mono ?_);rintro e wa3 ⟨B3,m3,d3,rfl,hw3,hb⟩;have hBw:=zac hBw hb;refine hK.out _ _ (Cs.below hHeld hb) (λhHeld=>?_);clear hK K hb
 try simp only [sb9]
 refine rc 4 (λK hK=>?_)
 go_simp
 go_at_call 129;(with_reducible refine(C2.out _ hBw _ _ _ hw3).mono ?_);rintro e wa4 ⟨b4,B4,m4,d4,rfl,hw4,hb⟩;have hBw:=zac hBw hb;have hw3:=hw3.below hb;refine hK.out _ _ (Cs.below hHeld hb) (λhHeld=>?_);clear hK K hb
 try simp only [sb9]
 obtain⟨sc0,sf0,sc1,sf1⟩:=st2 (zae hBw k2) (.bool b4)
 refine rc 5 (λK hK=>?_)
 go_simp
 refine hK.out _ _ (cs2 (.bool b4) (.slice B4 m4 d4) hHeld) (λhHeld=>?_);clear hK K
 try simp only [sb9]
 refine rdn ?_
 have hB:=zac hB hBw
 have g1:=zad hBw g1
 have e1:=zad hBw e1
 have k2:=zae hBw k2
 have HN4:=lh9 hw4
 clear hBw hHeld hw3 hw4 C0 C1 C2
 obtain⟨r0,r1⟩:=(sn2 k2 (.bool b4) (.slice B4 m4 d4)).c2
 have HG:=lh9 (gi2 (zaC.to8 HV.out HN4.out) k2 hB (by omega))
 go_wp2
 refine bodyPost_ret (v:=.agg #[.bool b4,.slice B4 m4 d4]) (by simp [results,Tryz.results100,go_sem,r0,r1]) rfl ?_
 exact HG.out
theorem zft (z:Int)(k:Nat)(baa:Bool)(Baa:oA9)(maa daa:Nat)(Bab:oA9)(mab dab:Nat)(w:World)(hT:zal w)(haa:zaC w z baa Baa maa daa)(hab:zaf w k Bab mab dab)(qaa:maa<=134217728)(qab:mab<=134217728):
  Calls Tryz.prog 147 #[.agg #[.bool baa,.slice Baa maa daa],.agg #[.slice Bab mab dab]] w (zaT w (z*((k:Nat):Int))):=by
 have HIC:=lh9 (zbJ (T:=zal))
 have HT:=lh9 (λw' (hb:Below w.heap.size w w')=>hT.on hb)
 have HTB:=HT
 obtain⟨K,hKe⟩:∃K,134217728=K:=⟨_,rfl⟩
 have hKK:K<=134217728:=by omega
 have hK0:0<K:=by omega
 have HNaa:=lh9 (λw' (b:Below w.heap.size w w')=>haa.below b)
 have HZaa:Hid (Sz K z.natAbs):=Sz.of_words haa.words (by omega)
 clear haa qaa
 have HNab:=lh9 (λw' (b:Below w.heap.size w w')=>hab.below b)
 have HZab:Hid (Sz K k):=Sz.of_words hab (by omega)
 clear hab qab
 clear hT hKe
 go_enter Tryz.func147,Tryz.ntmps147
 have hB:=Below.refl w.heap.size w
 obtain⟨bx1,bx2,bx3,bx4,bz⟩:=zbq w 46 44 46 #[.bool baa,.slice Baa maa daa] #[.slice Bab mab dab] #[.bool false,.slice none 0 0]
 have hB:=zac hB bx1
 obtain⟨g1,e1⟩:=bx2.c2
 have g2:=bx3.c1
 have k3:=bx4
 clear bx1 bx2 bx3 bx4 bz
 go_wp2_with fail
 generalize ((w.alloc (.cells #[.bool baa,.slice Baa maa daa] 46)).alloc (.cells #[.slice Bab mab dab] 44)).alloc (.cells #[.bool false,.slice none 0 0] 46)=W1 at*
 have HZ4:Hid (Sz (K) (((k:Nat):Int)).natAbs):=(by rw [Int.natAbs_natCast];exact HZab.out)
 have C0:=lh9 (λw' (h:Below W1.heap.size W1 w')=>inew_pos HIC.out (k) Bab mab dab w' (HT.out _ (zac hB h)) (HNab.out _ (zac hB h)) (szw HZab (HNab.out _ hB)))
 have HZ5:Hid (Sz (K+K) (z*(((k:Nat):Int))).natAbs):=SzI.mul HZaa.out HZ4.out
 have C1:=lh9 (λw' (h:Below W1.heap.size W1 w') b4 B4 m4 d4 (hw4:zaC w' (((k:Nat):Int)) b4 B4 m4 d4)=>HIC.out.mul (z) (((k:Nat):Int)) baa b4 Baa B4 maa m4 daa d4 w' (HT.out _ (zac hB h)) (HNaa.out _ (zac hB h)) hw4 (szi HZaa (HNaa.out _ hB)) (szi HZ4 hw4))
 have hBw:=(Below.refl W1.heap.size W1).drew
 refine rg (csc g1 (csc e1 (csc g2 csn))) (λhHeld=>?_)
 refine tk 0 ?_
 refine tk 1 ?_
 refine rc 2 (λK hK=>?_)
 go_simp
 go_at_call 129;(with_reducible refine(C0.out _ hBw).mono ?_);rintro e wa2 ⟨b4,B4,m4,d4,rfl,hw4,hb⟩;have hBw:=zac hBw hb;refine hK.out _ _ (Cs.below hHeld hb) (λhHeld=>?_);clear hK K hb
 try simp only [sb9]
 refine rc 3 (λK hK=>?_)
 go_simp
 go_at_call 155;(with_reducible refine(C1.out _ hBw _ _ _ _ hw4).mono ?_);rintro e wa3 ⟨b5,B5,m5,d5,rfl,hw5,hb⟩;have hBw:=zac hBw hb;have hw4:=hw4.below hb;refine hK.out _ _ (Cs.below hHeld hb) (λhHeld=>?_);clear hK K hb
 try simp only [sb9]
 obtain⟨sc0,sf0,sc1,sf1⟩:=st2 (zae hBw k3) (.bool b5)
 refine rc 4 (λK hK=>?_)
 go_simp
 refine hK.out _ _ (cs2 (.bool b5) (.slice B5 m5 d5) hHeld) (λhHeld=>?_);clear hK K
 try simp only [sb9]
 refine rdn ?_
 have hB:=zac hB hBw
 have g1:=zad hBw g1
 have e1:=zad hBw e1
 have g2:=zad hBw g2
 have k3:=zae hBw k3
 have HN5:=lh9 hw5
 clear hBw hHeld hw4 hw5 C0 C1
 obtain⟨r0,r1⟩:=(sn2 k3 (.bool b5) (.slice B5 m5 d5)).c2
 have HG:=lh9 (gi2 (HN5.out) k3 hB (by omega))
 go_wp2
 refine bodyPost_ret (v:=.agg #[.bool b5,.slice B5 m5 d5]) (by simp [results,Tryz.results147,go_sem,r0,r1]) rfl ?_
 exact HG.out
theorem zlW (r:Rat)(baa:Bool)(Baa:oA9)(maa daa:Nat)(Eaa:oA9)(uaa vaa:Nat)(w:World)(hT:zal w)(haa:zan w r baa Baa maa daa Eaa uaa vaa)(qaa:zaQ maa uaa)(hd:r.den=1):
  Calls Tryz.prog 97 #[.agg #[.bool baa,.slice Baa maa daa,.slice Eaa uaa vaa]] w (λe w'=>e=.returned (.bool true)/\Below w.heap.size w w'):=by
 have HT:=lh9 (λw' (hb:Below w.heap.size w w')=>hT.on hb)
 have HTB:=HT
 obtain⟨K,hKe⟩:∃K,67108864=K:=⟨_,rfl⟩
 have hKK:K<=67108864:=by omega
 have hK0:0<K:=by omega
 obtain⟨xaa,hxaa,hxwaa⟩:=haa.2
 have HXaa:=lh9 hxaa
 have HZaa:Hid (SzQ K r):=zaO haa qaa hKe
 have HZaap:Hid (Sz K r.num.natAbs):=HZaa.out.num
 have HZaaq:Hid (Sz K xaa):=zaw HZaa.out.den hxaa
 have HNaaq:=lh9 (λw' (b:Below w.heap.size w w')=>hxwaa.below b)
 clear haa qaa hxaa hxwaa
 have HX0:=lh9 (zfW HXaa.out hd)
 clear hT hKe hd
 go_enter Tryz.func97,Tryz.ntmps97
 have hB:=Below.refl w.heap.size w
 obtain⟨bx1,bx2,bz⟩:=zaA w 48 #[.bool baa,.slice Baa maa daa,.slice Eaa uaa vaa]
 have hB:=zac hB bx1
 obtain⟨g1,e1,i1⟩:=bx2.c3
 clear bx1 bx2 bz
 go_wp2_with fail
 generalize w.alloc (.cells #[.bool baa,.slice Baa maa daa,.slice Eaa uaa vaa] 48)=W1 at*
 (with_reducible refine(zdO HX0.out (HNaaq.out _ hB)).mono ?_)
 rintro e wc2 ⟨rfl,hb⟩
 have hB:=zac hB hb
 have g1:=zad hb g1
 have e1:=zad hb e1
 have i1:=zad hb i1
 clear hb 
 go_wp2
 go_ret
 exact⟨by first|rfl|simp,hB⟩
theorem zlV (r:Rat)(baa:Bool)(Baa:oA9)(maa daa:Nat)(Eaa:oA9)(uaa vaa:Nat)(w:World)(hT:zal w)(haa:zan w r baa Baa maa daa Eaa uaa vaa)(qaa:zaQ maa uaa)(hd:r.den≠1):
  Calls Tryz.prog 97 #[.agg #[.bool baa,.slice Baa maa daa,.slice Eaa uaa vaa]] w (λe w'=>e=.returned (.bool false)/\Below w.heap.size w w'):=by
 have HT:=lh9 (λw' (hb:Below w.heap.size w w')=>hT.on hb)
 have HTB:=HT
 obtain⟨K,hKe⟩:∃K,67108864=K:=⟨_,rfl⟩
 have hKK:K<=67108864:=by omega
 have hK0:0<K:=by omega
 obtain⟨xaa,hxaa,hxwaa⟩:=haa.2
 have HXaa:=lh9 hxaa
 have HZaa:Hid (SzQ K r):=zaO haa qaa hKe
 have HZaap:Hid (Sz K r.num.natAbs):=HZaa.out.num
 have HZaaq:Hid (Sz K xaa):=zaw HZaa.out.den hxaa
 have HNaaq:=lh9 (λw' (b:Below w.heap.size w w')=>hxwaa.below b)
 clear haa qaa hxaa hxwaa
 have HX0:=lh9 (zdV HXaa.out hd).1
 clear hT hKe hd
 go_enter Tryz.func97,Tryz.ntmps97
 have hB:=Below.refl w.heap.size w
 obtain⟨bx1,bx2,bz⟩:=zaA w 48 #[.bool baa,.slice Baa maa daa,.slice Eaa uaa vaa]
 have hB:=zac hB bx1
 obtain⟨g1,e1,i1⟩:=bx2.c3
 clear bx1 bx2 bz
 go_wp2_with fail
 generalize w.alloc (.cells #[.bool baa,.slice Baa maa daa,.slice Eaa uaa vaa] 48)=W1 at*
 (with_reducible refine(zdW HX0.out (HNaaq.out _ hB)).mono ?_)
 rintro e wc2 ⟨rfl,hb⟩
 have hB:=zac hB hb
 have g1:=zad hb g1
 have e1:=zad hb e1
 have i1:=zad hb i1
 clear hb 
 go_wp2
 go_ret
 exact⟨by first|rfl|simp,hB⟩
theorem zbu (r:Rat)(baa:Bool)(Baa:oA9)(maa daa:Nat)(Eaa:oA9)(uaa vaa:Nat)(w:World)(hT:zal w)(haa:zan w r baa Baa maa daa Eaa uaa vaa)(qaa:zaQ maa uaa):
  Calls Tryz.prog 97 #[.agg #[.bool baa,.slice Baa maa daa,.slice Eaa uaa vaa]] w (λe w'=>e=.returned (.bool (decide (r.den=1)))/\Below w.heap.size w w'):=by
 by_cases hd:r.den=1
 ·rw [decide_eq_true hd];exact zlW r baa Baa maa daa Eaa uaa vaa w hT haa qaa hd
 ·rw [decide_eq_false hd];exact zlV r baa Baa maa daa Eaa uaa vaa w hT haa qaa hd
theorem zkD (x y:Nat)(A D:oA9)(n m c d:Nat)(w:World)(hA:zak w x A n c)(hD:zak w y D m d)(hn:n<=1073741824)(hm:m<=1073741824):
  Calls Tryz.prog 139 #[.slice A n c,.slice D m d] w (GivesH w (Nat.gcd x y)):=by
 by_cases hx:x=0
 ·have e:n=0:=by rw [hA.len,hx,zcL];rfl
  have HD:=lh9 hD
  have hg:Nat.gcd x y=y:=by rw [hx,Nat.gcd_zero_left]
  rw [hg]
  subst e
  clear hA hD hx hg
  go_enter Tryz.func139,Tryz.ntmps139
  go_wp2
  go_ret
  exact⟨D,m,d,rfl,HD.out,Below.refl _ _⟩
 ·by_cases hy:y=0
  ·have e:m=0:=by rw [hD.len,hy,zcL];rfl
   have hn0:=zee hA hx
   have z1:((n:Int)==0)=false:=by simp;omega
   have HA:=lh9 hA
   have hg:Nat.gcd x y=x:=by rw [hy,Nat.gcd_zero_right]
   rw [hg]
   subst e
   clear hA hD hx hy hg hn0
   go_enter Tryz.func139,Tryz.ntmps139
   go_wp2
   go_ret
   exact⟨A,n,c,rfl,HA.out,Below.refl _ _⟩
  ·refine(ref5_gcd x y A D n m c d w hA hD hn hm hx hy).mono λe w' hg=>?_
   obtain⟨A',n',c',he,hh,hb⟩:=hg.elim
   exact⟨A',n',c',he,hh,hb⟩
