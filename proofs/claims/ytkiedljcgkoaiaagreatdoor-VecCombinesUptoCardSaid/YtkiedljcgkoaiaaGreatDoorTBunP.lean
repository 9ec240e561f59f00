/- What this claim leans on. -/
import Derived.Test.YtkiedljcgkoaiaaGreatDoorTVArgs
import Derived.Test.YtkiedljcgkoaiaaGreatDoorTBunU
namespace Go.Proofs.YtkiedljcgkoaiaaGreatDoor
open Go Go.RowKit
set_option maxHeartbeats 16000000
set_option linter.unusedVariables false
theorem Sz.len16' {K x : Nat} (h : Sz K x) : (dg 65536 x).length ≤ 4 * K:=zaz (by decide) _ _ (by rw [zey]; exact h)
theorem Sz.holds' {K x : Nat} (h : Sz K x) {w : World} {A : oA9} {n c : Nat} (hw : zai w x A n c) : n ≤ 4 * K:=by rw [hw.len]; exact h.len16'
theorem zmB (cs : Array Value) (l : List Nat) (w : World) (g n x : Nat) (hk : Blk w g 83 cs) (hn : cs.size = n) (hv : cs.toList = zar .u64 l) (hd : Dgs 18446744073709551616 l) (hx : dv 18446744073709551616 l = x) (hs : n ≤ 1000) :
  Calls Tryz.prog 51 #[.slice (some ⟨g,0,none⟩) n n] w (zbe w x):=by
 have hl : l.length = n:=by
  have h:=congrArg List.length hv
  rw [zax] at h
  rw [← h]; simpa using hn
 have:=ref2_of (some ⟨g,0,none⟩) n n l w (zcv hk hn (by rw [hv,List.take_of_length_le (by rw [zax]; omega)]) hl) hd (by omega)
 rw [hx] at this
 exact this
set_option maxRecDepth 100000
set_option linter.unusedSimpArgs false
theorem zbF {T : World → Prop} : IntC T where
 new s x A n c w _ hA hn:=zjW s x A n c w hA (by omega)
 of z w _ h1 h2:=zlp z w h1 h2
 belowI z b A n c w _ hA hn:=zhV z b A n c w hA
 abs z b A n c w _ hA hn:=(zjS z b A n c w hA (by omega)).mono fun _ _ ⟨A',n',c',he,hw,hb,_⟩ => ⟨A',n',c',he,hw,hb⟩
 sign z b A n c w _ hA hn:=zja z b A n c w hA
 cmp x y b b' A D n m c d w _ hA hD hn hm:=zjU x y b b' A D n m c d w hA hD (by omega) (by omega)
 add x y b b' A D n m c d w _ hA hD hn hm:=zjT x y b b' A D n m c d w hA hD (by omega) (by omega)
 mul x y b b' A D n m c d w _ hA hD hn hm:=zjV x y b b' A D n m c d w hA hD (by omega) (by omega)
theorem zag.to8 {w : World} {x y : Nat} {A : oA9} {n c : Nat} (e : x = y) (h : zag w x A n c) : zag w y A n c:=e ▸ h
theorem zay.to8 {w : World} {x y : Int} {b : Bool} {A : oA9} {n c : Nat} (e : x = y) (h : zay w x b A n c) : zay w y b A n c:=e ▸ h
theorem ziM (x : Nat) (A : oA9) (n c : Nat) (w : World) (h : zag w x A n c) (hn : n ≤ 1099511627776) :
  Calls Tryz.prog 85 #[.agg #[.slice A n c]] w fun e w' => ∃ (B : oA9) (m d : Nat),e = .returned (.slice B m d) ∧ zag w' x B m d ∧ Below w.heap.size w w':=by
 refine (zcx x A n c w h hn).mono ?_
 rintro e w' ⟨B,d,rfl,h1,h2,h3,h4⟩
 exact ⟨B,_,d,rfl,⟨h1,h2,h3.1⟩,h4⟩
theorem of_row (x : Nat) (A : oA9) (n c : Nat) (w : World) (h : zag w x A n c) (hn : n ≤ 1099511627776) :
  Calls Tryz.prog 88 #[.slice A n c] w fun e w' => ∃ (B : oA9) (m d : Nat),e = .returned (.agg #[.slice B m d]) ∧ zag w' x B m d ∧ Below w.heap.size w w':=by
 have k:=zcd A n c _ w h.1 (zbP (by decide) x) h.2.1 h.2.2 hn
 rw [zco (by decide)] at k
 refine k.mono ?_
 rintro e w' ⟨B,m,d,rfl,h1,h2,_⟩
 exact ⟨B,m,d,rfl,h1,h2⟩
theorem zmH {P : Program} {f : FuncId} {args : Array Value} {w : World} {z v : Int} (e : z = v) (h : Calls P f args w fun e w' => e = .returned (.tuple #[.int .u64 z,.bool true]) ∧ Below w.heap.size w w') : Calls P f args w fun e w' => e = .returned (.tuple #[.int .u64 v,.bool true]) ∧ Below w.heap.size w w':=by
 subst e; exact h
theorem zjB (x : Nat) (A : oA9) (n c : Nat) (w : World) (hA : zag w x A n c) (hn : n ≤ 1099511627776) : Calls Tryz.prog 90 #[.agg #[.slice A n c]] w (zbh w ((bitLen x : Nat) : Int)):=zht x A n c w hA hn
theorem zfW {K K' : Nat} {z : Int} {k : Nat} (h : Sz K z.natAbs) (h' : Sz K' k) : Sz (K + K') (z * ((k : Nat) : Int)).natAbs:=by
 rw [Int.natAbs_mul,Int.natAbs_natCast]
 exact h.mul h'
theorem zas {K q x : Nat} (h : Sz K q) (e : q = (if x = 0 then 1 else x) ∧ x ≠ 1) : Sz K x:=h.of_le (by rw [e.1]; split <;> omega)
theorem zaD {w : World} {r : Rat} {b : Bool} {A : oA9} {n c : Nat} {E : oA9} {k f K : Nat} (h : zan w r b A n c E k f) (q : zaK n k) (hK : 67108864 = K) : SzQ K r:=by
 obtain ⟨x,e,hx⟩:=h.2
 have h1 : Sz K r.num.natAbs:=Sz.of_words h.1.2 (by have:=q.1; omega)
 have h2 : Sz K x:=Sz.of_words hx (by have:=q.2; omega)
 refine ⟨h1,?_⟩
 rw [e.1]
 split
 ·exact zdY (by omega)
 ·exact h2
theorem zec (w : World) : zag w 0 none 0 0:=by
 refine ⟨⟨by rw [show dg 18446744073709551616 0 = [] from by rw [dg]; rfl]; rfl,fun h => absurd h (by decide)⟩,Nat.le_refl _,by decide⟩
theorem zgB (w : World) : zan w (0 : Rat) false none 0 0 none 0 0:=⟨⟨rfl,zec w⟩,⟨0,⟨rfl,by decide⟩,zec w⟩⟩
theorem zeJ {w : World} {z : Int} {b : Bool} {A : oA9} {n c : Nat} (h : zay w z b A n c) : zan w (z : Rat) b A n c none 0 0:=⟨by rw [Rat.num_intCast]; exact h,⟨0,⟨by rw [Rat.den_intCast]; rfl,by decide⟩,zec w⟩⟩
theorem zny {w : World} {r : Rat} {z : Int} {b : Bool} {A : oA9} {n c : Nat} {E : oA9} {k f : Nat} (hn : r.num = z) (hd : r.den = 1) (h : zay w z b A n c) (q : zag w 0 E k f) : zan w r b A n c E k f :=
 ⟨by rw [hn]; exact h,⟨0,⟨by rw [hd]; rfl,by decide⟩,q⟩⟩
theorem zhA {w : World} {r : Rat} {z : Int} {y : Nat} {b : Bool} {A : oA9} {n c : Nat} {E : oA9} {k f : Nat} (hn : r.num = z) (hd : r.den = y) (hy : y ≠ 1) (h : zay w z b A n c) (q : zag w y E k f) : zan w r b A n c E k f :=
 ⟨by rw [hn]; exact h,⟨y,⟨by rw [if_neg (fun h0 => r.den_nz (by rw [hd,h0]))]; exact hd,hy⟩,q⟩⟩
theorem zfo {q x : Nat} (e : q = (if x = 0 then 1 else x) ∧ x ≠ 1) (h : q = 1) : x = 0:=by
 refine Decidable.byContradiction fun h0 => ?_
 rw [if_neg h0] at e
 omega
theorem zdn {q x : Nat} (e : q = (if x = 0 then 1 else x) ∧ x ≠ 1) (h : q ≠ 1) : x ≠ 0 ∧ x = q:=by
 have h0 : x ≠ 0:=fun h0 => h (by rw [e.1,if_pos h0])
 refine ⟨h0,?_⟩
 have:=e.1
 rw [if_neg h0] at this
 exact this.symm
theorem znD (z : Int) : zaN (decide (z < 0)) z.natAbs = z:=by
 unfold zaN
 by_cases h : z < 0
 ·rw [decide_eq_true h,if_pos rfl]; omega
 ·rw [decide_eq_false h,if_neg (by decide)]; omega
theorem znd {w : World} {x : Nat} {A : oA9} {n c : Nat} (h : zag w x A n c) (hn : n ≤ 1) : x < 18446744073709551616:=zhv h.len hn
theorem len_one {w : World} {x : Nat} {A : oA9} {n c : Nat} (h : zag w x A n c) (hx : x = 1) : n ≤ 1:=by
 have h1 : Sz 1 x:=by rw [hx]; exact zdY (by decide)
 exact h1.words h
theorem zly (p d : Int) (hd : d ≠ 0) : (Rat.divInt p d).num = zaN (decide (p < 0) != decide (d < 0)) (p.natAbs / Nat.gcd p.natAbs d.natAbs) ∧ (Rat.divInt p d).den = d.natAbs / Nat.gcd p.natAbs d.natAbs:=by
 refine ⟨?_,zkf p d hd⟩
 have h1:=zkg p d hd
 have h2:=ziu p d hd
 rw [← h1]
 generalize (Rat.divInt p d).num = z at *
 unfold zaN
 by_cases hp : p < 0
 ·by_cases hq : d < 0
  ·rw [decide_eq_true hp,decide_eq_true hq]; simp; omega
  ·rw [decide_eq_true hp,decide_eq_false hq]; simp; omega
 ·by_cases hq : d < 0
  ·rw [decide_eq_false hp,decide_eq_true hq]; simp
   by_cases h0 : p = 0
   ·subst h0; simp at h1; omega
   ·omega
  ·rw [decide_eq_false hp,decide_eq_false hq]; simp; omega
theorem zhy (z : Int) (baa : Bool) (Baa : oA9) (maa daa : Nat) (w : World) (hT : zam w) (haa : zay w z baa Baa maa daa) (qaa : maa ≤ 268435456) :
  Calls Tryz.prog 83 #[.agg #[.bool baa,.slice Baa maa daa]] w (zaO w z):=by
 have HIC:=lh9 (zbF (T:=zam))
 have HGC:=lh9 zbK
 have HT:=lh9 (fun w' (hb : Below w.heap.size w w') => hT.on hb)
 have HTB:=HT
 obtain ⟨K,hKe⟩ : ∃ K,268435456 = K:=⟨_,rfl⟩
 have hKK : K ≤ 268435456:=by omega
 have hK0 : 0 < K:=by omega
 have HV:=lh9 (znD z)
 obtain ⟨sb,hsb⟩ : ∃ s,decide (z < 0) = s:=⟨_,rfl⟩
 rw [hsb] at HV
 have HSB:=lh9 hsb
 clear hsb
 have HNaa:=lh9 (fun w' (b : Below w.heap.size w w') => haa.below b)
 have HZaa : Hid (Sz K z.natAbs):=Sz.of_words haa.words (by omega)
 clear haa qaa
 clear hT hKe
 go_enter Tryz.func83,Tryz.ntmps83
 have hB:=Below.refl w.heap.size w
 obtain ⟨bx1,bx2,bx3,bz⟩:=zbx w 42 42 #[.bool baa,.slice Baa maa daa] #[.bool false,.slice none 0 0]
 have hB:=zac hB bx1
 obtain ⟨g1,e1⟩:=bx2.c2
 have k2:=bx3
 clear bx1 bx2 bx3 bz
 go_wp2_with fail
 generalize (w.alloc (.cells #[.bool baa,.slice Baa maa daa] 42)).alloc (.cells #[.bool false,.slice none 0 0] 42) = W1 at *
 have C0:=lh9 (fun w' (h : Below W1.heap.size W1 w') => zaw (HSB.out) (HIC.out.belowI (z) baa Baa maa daa w' (HT.out _ (zac hB h)) (HNaa.out _ (zac hB h)) (szi HZaa (HNaa.out _ hB))))
 have HZ3 : Hid (Sz (K) (z.natAbs)):=HZaa.out
 have C1:=lh9 (fun w' (h : Below W1.heap.size W1 w') => HIC.out.abs (z) baa Baa maa daa w' (HT.out _ (zac hB h)) (HNaa.out _ (zac hB h)) (szi HZaa (HNaa.out _ hB)))
 have HZ4 : Hid (Sz (K) (zaN sb z.natAbs).natAbs):=(by rw [zcZ]; exact HZ3.out)
 have C2:=lh9 (fun w' (h : Below W1.heap.size W1 w') B3 m3 d3 (hw3 : zag w' (z.natAbs) B3 m3 d3) => HIC.out.new sb (z.natAbs) B3 m3 d3 w' (HT.out _ (zac hB h)) hw3 (szw HZ3 hw3))
 have hBw:=(Below.refl W1.heap.size W1).drew
 refine rg (csc g1 (csc e1 csn)) (fun hHeld => ?_)
 refine tk 0 ?_
 refine tk 2 ?_
 refine rc 1 (fun K hK => ?_)
 go_simp
 go_at_call 78; (with_reducible refine (C0.out _ hBw).mono ?_); rintro e wa2 ⟨rfl,hb⟩; have hBw:=zac hBw hb; refine hK.out _ _ (Cs.below hHeld hb) (fun hHeld => ?_); clear hK K hb
 try simp only [sb9]
 refine rc 3 (fun K hK => ?_)
 go_simp
 go_at_call 75; (with_reducible refine (C1.out _ hBw).mono ?_); rintro e wa3 ⟨B3,m3,d3,rfl,hw3,hb⟩; have hBw:=zac hBw hb; refine hK.out _ _ (Cs.below hHeld hb) (fun hHeld => ?_); clear hK K hb
 try simp only [sb9]
 refine rc 4 (fun K hK => ?_)
 go_simp
 go_at_call 112; (with_reducible refine (C2.out _ hBw _ _ _ hw3).mono ?_); rintro e wa4 ⟨b4,B4,m4,d4,rfl,hw4,hb⟩; have hBw:=zac hBw hb; have hw3:=hw3.below hb; refine hK.out _ _ (Cs.below hHeld hb) (fun hHeld => ?_); clear hK K hb
 try simp only [sb9]
 obtain ⟨sc0,sf0,sc1,sf1⟩:=st2 (zae hBw k2) (.bool b4)
 refine rc 5 (fun K hK => ?_)
 go_simp
 refine hK.out _ _ (cs2 (.bool b4) (.slice B4 m4 d4) hHeld) (fun hHeld => ?_); clear hK K
 try simp only [sb9]
 refine rdn ?_
 have hB:=zac hB hBw
 have g1:=zad hBw g1
 have e1:=zad hBw e1
 have k2:=zae hBw k2
 have HN3:=lh9 hw3
 have HN4:=lh9 hw4
 clear hBw hHeld hw3 hw4 C0 C1 C2
 obtain ⟨r0,r1⟩:=(sn2 k2 (.bool b4) (.slice B4 m4 d4)).c2
 have HG:=lh9 (gi2 (zay.to8 HV.out HN4.out) k2 hB (by omega))
 go_wp2
 refine bodyPost_ret (v:=.agg #[.bool b4,.slice B4 m4 d4]) (by simp [results,Tryz.results83,go_sem,r0,r1]) rfl ?_
 exact HG.out
theorem zeP (z : Int) (k : Nat) (baa : Bool) (Baa : oA9) (maa daa : Nat) (Bab : oA9) (mab dab : Nat) (w : World) (hT : zam w) (haa : zay w z baa Baa maa daa) (hab : zag w k Bab mab dab) (qaa : maa ≤ 134217728) (qab : mab ≤ 134217728) :
  Calls Tryz.prog 96 #[.agg #[.bool baa,.slice Baa maa daa],.agg #[.slice Bab mab dab]] w (zaO w (z * ((k : Nat) : Int))):=by
 have HIC:=lh9 (zbF (T:=zam))
 have HGC:=lh9 zbK
 have HT:=lh9 (fun w' (hb : Below w.heap.size w w') => hT.on hb)
 have HTB:=HT
 obtain ⟨K,hKe⟩ : ∃ K,134217728 = K:=⟨_,rfl⟩
 have hKK : K ≤ 134217728:=by omega
 have hK0 : 0 < K:=by omega
 have HNaa:=lh9 (fun w' (b : Below w.heap.size w w') => haa.below b)
 have HZaa : Hid (Sz K z.natAbs):=Sz.of_words haa.words (by omega)
 clear haa qaa
 have HNab:=lh9 (fun w' (b : Below w.heap.size w w') => hab.below b)
 have HZab : Hid (Sz K k):=Sz.of_words hab (by omega)
 clear hab qab
 clear hT hKe
 go_enter Tryz.func96,Tryz.ntmps96
 have hB:=Below.refl w.heap.size w
 obtain ⟨bx1,bx2,bx3,bx4,bz⟩:=zbt w 42 40 42 #[.bool baa,.slice Baa maa daa] #[.slice Bab mab dab] #[.bool false,.slice none 0 0]
 have hB:=zac hB bx1
 obtain ⟨g1,e1⟩:=bx2.c2
 have g2:=bx3.c1
 have k3:=bx4
 clear bx1 bx2 bx3 bx4 bz
 go_wp2_with fail
 generalize ((w.alloc (.cells #[.bool baa,.slice Baa maa daa] 42)).alloc (.cells #[.slice Bab mab dab] 40)).alloc (.cells #[.bool false,.slice none 0 0] 42) = W1 at *
 have HZ4 : Hid (Sz (K) (((k : Nat) : Int)).natAbs):=(by rw [Int.natAbs_natCast]; exact HZab.out)
 have C0:=lh9 (fun w' (h : Below W1.heap.size W1 w') => inew_pos HIC.out (k) Bab mab dab w' (HT.out _ (zac hB h)) (HNab.out _ (zac hB h)) (szw HZab (HNab.out _ hB)))
 have HZ5 : Hid (Sz (K + K) (z * (((k : Nat) : Int))).natAbs):=SzI.mul HZaa.out HZ4.out
 have C1:=lh9 (fun w' (h : Below W1.heap.size W1 w') b4 B4 m4 d4 (hw4 : zay w' (((k : Nat) : Int)) b4 B4 m4 d4) => HIC.out.mul (z) (((k : Nat) : Int)) baa b4 Baa B4 maa m4 daa d4 w' (HT.out _ (zac hB h)) (HNaa.out _ (zac hB h)) hw4 (szi HZaa (HNaa.out _ hB)) (szi HZ4 hw4))
 have hBw:=(Below.refl W1.heap.size W1).drew
 refine rg (csc g1 (csc e1 (csc g2 csn))) (fun hHeld => ?_)
 refine tk 0 ?_
 refine tk 1 ?_
 refine rc 2 (fun K hK => ?_)
 go_simp
 go_at_call 112; (with_reducible refine (C0.out _ hBw).mono ?_); rintro e wa2 ⟨b4,B4,m4,d4,rfl,hw4,hb⟩; have hBw:=zac hBw hb; refine hK.out _ _ (Cs.below hHeld hb) (fun hHeld => ?_); clear hK K hb
 try simp only [sb9]
 refine rc 3 (fun K hK => ?_)
 go_simp
 go_at_call 73; (with_reducible refine (C1.out _ hBw _ _ _ _ hw4).mono ?_); rintro e wa3 ⟨b5,B5,m5,d5,rfl,hw5,hb⟩; have hBw:=zac hBw hb; have hw4:=hw4.below hb; refine hK.out _ _ (Cs.below hHeld hb) (fun hHeld => ?_); clear hK K hb
 try simp only [sb9]
 obtain ⟨sc0,sf0,sc1,sf1⟩:=st2 (zae hBw k3) (.bool b5)
 refine rc 4 (fun K hK => ?_)
 go_simp
 refine hK.out _ _ (cs2 (.bool b5) (.slice B5 m5 d5) hHeld) (fun hHeld => ?_); clear hK K
 try simp only [sb9]
 refine rdn ?_
 have hB:=zac hB hBw
 have g1:=zad hBw g1
 have e1:=zad hBw e1
 have g2:=zad hBw g2
 have k3:=zae hBw k3
 have HN4:=lh9 hw4
 have HN5:=lh9 hw5
 clear hBw hHeld hw4 hw5 C0 C1
 obtain ⟨r0,r1⟩:=(sn2 k3 (.bool b5) (.slice B5 m5 d5)).c2
 have HG:=lh9 (gi2 (HN5.out) k3 hB (by omega))
 go_wp2
 refine bodyPost_ret (v:=.agg #[.bool b5,.slice B5 m5 d5]) (by simp [results,Tryz.results96,go_sem,r0,r1]) rfl ?_
 exact HG.out
theorem zku (r : Rat) (baa : Bool) (Baa : oA9) (maa daa : Nat) (Eaa : oA9) (uaa vaa : Nat) (w : World) (hT : zam w) (haa : zan w r baa Baa maa daa Eaa uaa vaa) (qaa : zaK maa uaa) (hd : r.den = 1) :
  Calls Tryz.prog 57 #[.agg #[.bool baa,.slice Baa maa daa,.slice Eaa uaa vaa]] w (fun e w' => e = .returned (.bool true) ∧ Below w.heap.size w w'):=by
 have HIC:=lh9 (zbF (T:=zam))
 have HGC:=lh9 zbK
 have HT:=lh9 (fun w' (hb : Below w.heap.size w w') => hT.on hb)
 have HTB:=HT
 obtain ⟨K,hKe⟩ : ∃ K,67108864 = K:=⟨_,rfl⟩
 have hKK : K ≤ 67108864:=by omega
 have hK0 : 0 < K:=by omega
 have HNaa:=lh9 (fun w' (b : Below w.heap.size w w') => haa.below b)
 obtain ⟨xaa,hxaa,hxwaa⟩:=haa.2
 have HXaa:=lh9 hxaa
 have HZaa : Hid (SzQ K r):=zaD haa qaa hKe
 have HZaap : Hid (Sz K r.num.natAbs):=HZaa.out.num
 have HZaaq : Hid (Sz K xaa):=zas HZaa.out.den hxaa
 have HNaap:=lh9 (fun w' (b : Below w.heap.size w w') => haa.1.below b)
 have HNaaq:=lh9 (fun w' (b : Below w.heap.size w w') => hxwaa.below b)
 clear haa qaa hxaa hxwaa
 have HX0:=lh9 (zfo HXaa.out hd)
 clear hT hKe hd
 go_enter Tryz.func57,Tryz.ntmps57
 have hB:=Below.refl w.heap.size w
 obtain ⟨bx1,bx2,bz⟩:=zaR w 44 #[.bool baa,.slice Baa maa daa,.slice Eaa uaa vaa]
 have hB:=zac hB bx1
 obtain ⟨g1,e1,i1⟩:=bx2.c3
 clear bx1 bx2 bz
 go_wp2_with fail
 generalize w.alloc (.cells #[.bool baa,.slice Baa maa daa,.slice Eaa uaa vaa] 44) = W1 at *
 (with_reducible refine (zdd HX0.out (HNaaq.out _ hB)).mono ?_)
 rintro e wc2 ⟨rfl,hb⟩
 have hB:=zac hB hb
 have g1:=zad hb g1
 have e1:=zad hb e1
 have i1:=zad hb i1
 clear hb 
 go_wp2
 go_ret
 exact ⟨by first | rfl | simp,hB⟩
theorem zkt (r : Rat) (baa : Bool) (Baa : oA9) (maa daa : Nat) (Eaa : oA9) (uaa vaa : Nat) (w : World) (hT : zam w) (haa : zan w r baa Baa maa daa Eaa uaa vaa) (qaa : zaK maa uaa) (hd : r.den ≠ 1) :
  Calls Tryz.prog 57 #[.agg #[.bool baa,.slice Baa maa daa,.slice Eaa uaa vaa]] w (fun e w' => e = .returned (.bool false) ∧ Below w.heap.size w w'):=by
 have HIC:=lh9 (zbF (T:=zam))
 have HGC:=lh9 zbK
 have HT:=lh9 (fun w' (hb : Below w.heap.size w w') => hT.on hb)
 have HTB:=HT
 obtain ⟨K,hKe⟩ : ∃ K,67108864 = K:=⟨_,rfl⟩
 have hKK : K ≤ 67108864:=by omega
 have hK0 : 0 < K:=by omega
 have HNaa:=lh9 (fun w' (b : Below w.heap.size w w') => haa.below b)
 obtain ⟨xaa,hxaa,hxwaa⟩:=haa.2
 have HXaa:=lh9 hxaa
 have HZaa : Hid (SzQ K r):=zaD haa qaa hKe
 have HZaap : Hid (Sz K r.num.natAbs):=HZaa.out.num
 have HZaaq : Hid (Sz K xaa):=zas HZaa.out.den hxaa
 have HNaap:=lh9 (fun w' (b : Below w.heap.size w w') => haa.1.below b)
 have HNaaq:=lh9 (fun w' (b : Below w.heap.size w w') => hxwaa.below b)
 clear haa qaa hxaa hxwaa
 have HX0:=lh9 (zdn HXaa.out hd).1
 clear hT hKe hd
 go_enter Tryz.func57,Tryz.ntmps57
 have hB:=Below.refl w.heap.size w
 obtain ⟨bx1,bx2,bz⟩:=zaR w 44 #[.bool baa,.slice Baa maa daa,.slice Eaa uaa vaa]
 have hB:=zac hB bx1
 obtain ⟨g1,e1,i1⟩:=bx2.c3
 clear bx1 bx2 bz
 go_wp2_with fail
 generalize w.alloc (.cells #[.bool baa,.slice Baa maa daa,.slice Eaa uaa vaa] 44) = W1 at *
 (with_reducible refine (zdo HX0.out (HNaaq.out _ hB)).mono ?_)
 rintro e wc2 ⟨rfl,hb⟩
 have hB:=zac hB hb
 have g1:=zad hb g1
 have e1:=zad hb e1
 have i1:=zad hb i1
 clear hb 
 go_wp2
 go_ret
 exact ⟨by first | rfl | simp,hB⟩
theorem zbk (r : Rat) (baa : Bool) (Baa : oA9) (maa daa : Nat) (Eaa : oA9) (uaa vaa : Nat) (w : World) (hT : zam w) (haa : zan w r baa Baa maa daa Eaa uaa vaa) (qaa : zaK maa uaa) :
  Calls Tryz.prog 57 #[.agg #[.bool baa,.slice Baa maa daa,.slice Eaa uaa vaa]] w (fun e w' => e = .returned (.bool (decide (r.den = 1))) ∧ Below w.heap.size w w'):=by
 by_cases hd : r.den = 1
 ·rw [decide_eq_true hd]; exact zku r baa Baa maa daa Eaa uaa vaa w hT haa qaa hd
 ·rw [decide_eq_false hd]; exact zkt r baa Baa maa daa Eaa uaa vaa w hT haa qaa hd
theorem zjn (x y : Nat) (A D : oA9) (n m c d : Nat) (w : World) (hA : zai w x A n c) (hD : zai w y D m d) (hn : n ≤ 1073741824) (hm : m ≤ 1073741824) :
  Calls Tryz.prog 71 #[.slice A n c,.slice D m d] w (GivesH w (Nat.gcd x y)):=by
 by_cases hx : x = 0
 ·have e : n = 0:=by rw [hA.len,hx,zcn]; rfl
  have HD:=lh9 hD
  have hg : Nat.gcd x y = y:=by rw [hx,Nat.gcd_zero_left]
  rw [hg]
  subst e
  clear hA hD hx hg
  go_enter Tryz.func71,Tryz.ntmps71
  go_wp2
  go_ret
  exact ⟨D,m,d,rfl,HD.out,Below.refl _ _⟩
 ·by_cases hy : y = 0
  ·have e : m = 0:=by rw [hD.len,hy,zcn]; rfl
   have hn0:=zdC hA hx
   have z1 : ((n : Int) == 0) = false:=by simp; omega
   have HA:=lh9 hA
   have hg : Nat.gcd x y = x:=by rw [hy,Nat.gcd_zero_right]
   rw [hg]
   subst e
   clear hA hD hx hy hg hn0
   go_enter Tryz.func71,Tryz.ntmps71
   go_wp2
   go_ret
   exact ⟨A,n,c,rfl,HA.out,Below.refl _ _⟩
  ·refine (ref5_gcd x y A D n m c d w hA hD hn hm hx hy).mono fun e w' hg => ?_
   obtain ⟨A',n',c',he,hh,hb⟩:=hg.elim
   exact ⟨A',n',c',he,hh,hb⟩
theorem zho {w : World} {g : Nat} (h : Blk w g 3 #[.int .i64 1]) : zai w 1 (some ⟨g,0,none⟩) 1 1:=by
 have e : dg 65536 1 = [1]:=by
  rw [zdi (by decide) (by decide)]
  rfl
 refine ⟨?_,Nat.le_refl _,by omega⟩
 rw [e]
 refine ⟨rfl,fun _ => ⟨_,rfl,h.lt,fun j u hu => ?_⟩⟩
 match j,hu with
 | 0,hu => simp [zar] at hu; subst hu; exact h.cell 0
theorem zbg (x : Nat) (v : Int) (A : oA9) (n c : Nat) (w : World) (hA : zai w x A n c) (hn : n ≤ 274877906944) (hv : ((bitLen x : Nat) : Int) = v) :
  Calls Tryz.prog 25 #[.slice A n c] w (zbh w v):=by
 refine (ziE x A n c w hA hn).mono ?_
 rintro e w' ⟨rfl,rfl⟩
 exact ⟨by rw [hv],Below.refl _ _⟩
end Go.Proofs.YtkiedljcgkoaiaaGreatDoor
