/- What this claim leans on. -/
import Derived.Test.YtkiedljcgkoaiaaGreatDoorXVArgs
namespace Go.Proofs.YtkiedljcgkoaiaaGreatDoor
open Go Go.RowKit
set_option maxHeartbeats 16000000
set_option maxRecDepth 100000
set_option linter.unusedVariables false
set_option linter.unusedSimpArgs false
theorem zgc (z : Int) (baa : Bool) (Baa : oA9) (maa daa : Nat) (w : World) (hT : zaj w) (haa : zau w z baa Baa maa daa) (qaa : maa ≤ 268435456) :
  Calls Tryz.prog 83 #[.agg #[.bool baa,.slice Baa maa daa]] w (zaD w z):=by
 have HIC:=lh9 (zbl (T:=zaj))
 have HGC:=lh9 zbo
 have HT:=lh9 (fun w' (hb : Below w.heap.size w w') => hT.on hb)
 have HTB:=HT
 obtain ⟨K,hKe⟩ : ∃ K,268435456 = K:=⟨_,rfl⟩
 have hKK : K ≤ 268435456:=by omega
 have hK0 : 0 < K:=by omega
 have HV:=lh9 (zla z)
 obtain ⟨sb,hsb⟩ : ∃ s,decide (z < 0) = s:=⟨_,rfl⟩
 rw [hsb] at HV
 have HSB:=lh9 hsb
 clear hsb
 have HNaa:=lh9 (fun w' (b : Below w.heap.size w w') => haa.below b)
 have HZaa : Hid (Sz K z.natAbs):=Sz.of_words haa.words (by omega)
 clear haa qaa
 clear hT hKe
 go_enter Tryz.func83,Tryz.ntmps83
 have hB:=Below.refl w.heap.size w
 obtain ⟨bx1,bx2,bx3,bz⟩:=zbs w 42 42 #[.bool baa,.slice Baa maa daa] #[.bool false,.slice none 0 0]
 have hB:=zaa hB bx1
 obtain ⟨g1,e1⟩:=bx2.c2
 have k2:=bx3
 clear bx1 bx2 bx3 bz
 go_wp2_with fail
 generalize (w.alloc (.cells #[.bool baa,.slice Baa maa daa] 42)).alloc (.cells #[.bool false,.slice none 0 0] 42) = W1 at *
 have C0:=lh9 (fun w' (h : Below W1.heap.size W1 w') => zar (HSB.out) (HIC.out.belowI (z) baa Baa maa daa w' (HT.out _ (zaa hB h)) (HNaa.out _ (zaa hB h)) (szi HZaa (HNaa.out _ hB))))
 have HZ3 : Hid (Sz (K) (z.natAbs)):=HZaa.out
 have C1:=lh9 (fun w' (h : Below W1.heap.size W1 w') => HIC.out.abs (z) baa Baa maa daa w' (HT.out _ (zaa hB h)) (HNaa.out _ (zaa hB h)) (szi HZaa (HNaa.out _ hB)))
 have HZ4 : Hid (Sz (K) (zaC sb z.natAbs).natAbs):=(by rw [zcu]; exact HZ3.out)
 have C2:=lh9 (fun w' (h : Below W1.heap.size W1 w') B3 m3 d3 (hw3 : zad w' (z.natAbs) B3 m3 d3) => HIC.out.new sb (z.natAbs) B3 m3 d3 w' (HT.out _ (zaa hB h)) hw3 (szw HZ3 hw3))
 have hBw:=(Below.refl W1.heap.size W1).drew
 refine rg (csc g1 (csc e1 csn)) (fun hHeld => ?_)
 refine tk 0 ?_
 refine tk 2 ?_
 refine rc 1 (fun K hK => ?_)
 go_simp
 go_at_call 78; (with_reducible refine (C0.out _ hBw).mono ?_); rintro e wa2 ⟨rfl,hb⟩; have hBw:=zaa hBw hb; refine hK.out _ _ (Cs.below hHeld hb) (fun hHeld => ?_); clear hK K hb
 try simp only [sb9]
 refine rc 3 (fun K hK => ?_)
 go_simp
 go_at_call 75; (with_reducible refine (C1.out _ hBw).mono ?_); rintro e wa3 ⟨B3,m3,d3,rfl,hw3,hb⟩; have hBw:=zaa hBw hb; refine hK.out _ _ (Cs.below hHeld hb) (fun hHeld => ?_); clear hK K hb
 try simp only [sb9]
 refine rc 4 (fun K hK => ?_)
 go_simp
 go_at_call 112; (with_reducible refine (C2.out _ hBw _ _ _ hw3).mono ?_); rintro e wa4 ⟨b4,B4,m4,d4,rfl,hw4,hb⟩; have hBw:=zaa hBw hb; have hw3:=hw3.below hb; refine hK.out _ _ (Cs.below hHeld hb) (fun hHeld => ?_); clear hK K hb
 try simp only [sb9]
 obtain ⟨sc0,sf0,sc1,sf1⟩:=st2 (zac hBw k2) (.bool b4)
 refine rc 5 (fun K hK => ?_)
 go_simp
 refine hK.out _ _ (cs2 (.bool b4) (.slice B4 m4 d4) hHeld) (fun hHeld => ?_); clear hK K
 try simp only [sb9]
 refine rdn ?_
 have hB:=zaa hB hBw
 have g1:=zab hBw g1
 have e1:=zab hBw e1
 have k2:=zac hBw k2
 have HN3:=lh9 hw3
 have HN4:=lh9 hw4
 clear hBw hHeld hw3 hw4 C0 C1 C2
 obtain ⟨r0,r1⟩:=(sn2 k2 (.bool b4) (.slice B4 m4 d4)).c2
 have HG:=lh9 (gi2 (zau.to8 HV.out HN4.out) k2 hB (by omega))
 go_wp2
 refine bodyPost_ret (v:=.agg #[.bool b4,.slice B4 m4 d4]) (by simp [results,Tryz.results83,go_sem,r0,r1]) rfl ?_
 exact HG.out
theorem zdT (z : Int) (k : Nat) (baa : Bool) (Baa : oA9) (maa daa : Nat) (Bab : oA9) (mab dab : Nat) (w : World) (hT : zaj w) (haa : zau w z baa Baa maa daa) (hab : zad w k Bab mab dab) (qaa : maa ≤ 134217728) (qab : mab ≤ 134217728) :
  Calls Tryz.prog 96 #[.agg #[.bool baa,.slice Baa maa daa],.agg #[.slice Bab mab dab]] w (zaD w (z * ((k : Nat) : Int))):=by
 have HIC:=lh9 (zbl (T:=zaj))
 have HGC:=lh9 zbo
 have HT:=lh9 (fun w' (hb : Below w.heap.size w w') => hT.on hb)
 have HTB:=HT
 obtain ⟨K,hKe⟩ : ∃ K,134217728 = K:=⟨_,rfl⟩
 have hKK : K ≤ 134217728:=by omega
 have hK0 : 0 < K:=by omega
 have HNaa:=lh9 (fun w' (b : Below w.heap.size w w') => haa.below b)
 have HZaa : Hid (Sz K z.natAbs):=Sz.of_words haa.words (by omega)
 clear haa qaa
 have HNab:=lh9 (fun w' (b : Below w.heap.size w w') => hab.below b)
 have HZab : Hid (Sz K k):=Sz.of_words hab (by omega)
 clear hab qab
 clear hT hKe
 go_enter Tryz.func96,Tryz.ntmps96
 have hB:=Below.refl w.heap.size w
 obtain ⟨bx1,bx2,bx3,bx4,bz⟩:=zbb w 42 40 42 #[.bool baa,.slice Baa maa daa] #[.slice Bab mab dab] #[.bool false,.slice none 0 0]
 have hB:=zaa hB bx1
 obtain ⟨g1,e1⟩:=bx2.c2
 have g2:=bx3.c1
 have k3:=bx4
 clear bx1 bx2 bx3 bx4 bz
 go_wp2_with fail
 generalize ((w.alloc (.cells #[.bool baa,.slice Baa maa daa] 42)).alloc (.cells #[.slice Bab mab dab] 40)).alloc (.cells #[.bool false,.slice none 0 0] 42) = W1 at *
 have HZ4 : Hid (Sz (K) (((k : Nat) : Int)).natAbs):=(by rw [Int.natAbs_natCast]; exact HZab.out)
 have C0:=lh9 (fun w' (h : Below W1.heap.size W1 w') => inew_pos HIC.out (k) Bab mab dab w' (HT.out _ (zaa hB h)) (HNab.out _ (zaa hB h)) (szw HZab (HNab.out _ hB)))
 have HZ5 : Hid (Sz (K + K) (z * (((k : Nat) : Int))).natAbs):=SzI.mul HZaa.out HZ4.out
 have C1:=lh9 (fun w' (h : Below W1.heap.size W1 w') b4 B4 m4 d4 (hw4 : zau w' (((k : Nat) : Int)) b4 B4 m4 d4) => HIC.out.mul (z) (((k : Nat) : Int)) baa b4 Baa B4 maa m4 daa d4 w' (HT.out _ (zaa hB h)) (HNaa.out _ (zaa hB h)) hw4 (szi HZaa (HNaa.out _ hB)) (szi HZ4 hw4))
 have hBw:=(Below.refl W1.heap.size W1).drew
 refine rg (csc g1 (csc e1 (csc g2 csn))) (fun hHeld => ?_)
 refine tk 0 ?_
 refine tk 1 ?_
 refine rc 2 (fun K hK => ?_)
 go_simp
 go_at_call 112; (with_reducible refine (C0.out _ hBw).mono ?_); rintro e wa2 ⟨b4,B4,m4,d4,rfl,hw4,hb⟩; have hBw:=zaa hBw hb; refine hK.out _ _ (Cs.below hHeld hb) (fun hHeld => ?_); clear hK K hb
 try simp only [sb9]
 refine rc 3 (fun K hK => ?_)
 go_simp
 go_at_call 73; (with_reducible refine (C1.out _ hBw _ _ _ _ hw4).mono ?_); rintro e wa3 ⟨b5,B5,m5,d5,rfl,hw5,hb⟩; have hBw:=zaa hBw hb; have hw4:=hw4.below hb; refine hK.out _ _ (Cs.below hHeld hb) (fun hHeld => ?_); clear hK K hb
 try simp only [sb9]
 obtain ⟨sc0,sf0,sc1,sf1⟩:=st2 (zac hBw k3) (.bool b5)
 refine rc 4 (fun K hK => ?_)
 go_simp
 refine hK.out _ _ (cs2 (.bool b5) (.slice B5 m5 d5) hHeld) (fun hHeld => ?_); clear hK K
 try simp only [sb9]
 refine rdn ?_
 have hB:=zaa hB hBw
 have g1:=zab hBw g1
 have e1:=zab hBw e1
 have g2:=zab hBw g2
 have k3:=zac hBw k3
 have HN4:=lh9 hw4
 have HN5:=lh9 hw5
 clear hBw hHeld hw4 hw5 C0 C1
 obtain ⟨r0,r1⟩:=(sn2 k3 (.bool b5) (.slice B5 m5 d5)).c2
 have HG:=lh9 (gi2 (HN5.out) k3 hB (by omega))
 go_wp2
 refine bodyPost_ret (v:=.agg #[.bool b5,.slice B5 m5 d5]) (by simp [results,Tryz.results96,go_sem,r0,r1]) rfl ?_
 exact HG.out
theorem zis (r : Rat) (baa : Bool) (Baa : oA9) (maa daa : Nat) (Eaa : oA9) (uaa vaa : Nat) (w : World) (hT : zaj w) (haa : zak w r baa Baa maa daa Eaa uaa vaa) (qaa : zaz maa uaa) (hd : r.den = 1) :
  Calls Tryz.prog 57 #[.agg #[.bool baa,.slice Baa maa daa,.slice Eaa uaa vaa]] w (fun e w' => e = .returned (.bool true) ∧ Below w.heap.size w w'):=by
 have HIC:=lh9 (zbl (T:=zaj))
 have HGC:=lh9 zbo
 have HT:=lh9 (fun w' (hb : Below w.heap.size w w') => hT.on hb)
 have HTB:=HT
 obtain ⟨K,hKe⟩ : ∃ K,67108864 = K:=⟨_,rfl⟩
 have hKK : K ≤ 67108864:=by omega
 have hK0 : 0 < K:=by omega
 have HNaa:=lh9 (fun w' (b : Below w.heap.size w w') => haa.below b)
 obtain ⟨xaa,hxaa,hxwaa⟩:=haa.2
 have HXaa:=lh9 hxaa
 have HZaa : Hid (SzQ K r):=zaw haa qaa hKe
 have HZaap : Hid (Sz K r.num.natAbs):=HZaa.out.num
 have HZaaq : Hid (Sz K xaa):=zan HZaa.out.den hxaa
 have HNaap:=lh9 (fun w' (b : Below w.heap.size w w') => haa.1.below b)
 have HNaaq:=lh9 (fun w' (b : Below w.heap.size w w') => hxwaa.below b)
 clear haa qaa hxaa hxwaa
 have HX0:=lh9 (zem HXaa.out hd)
 clear hT hKe hd
 go_enter Tryz.func57,Tryz.ntmps57
 have hB:=Below.refl w.heap.size w
 obtain ⟨bx1,bx2,bz⟩:=zaG w 44 #[.bool baa,.slice Baa maa daa,.slice Eaa uaa vaa]
 have hB:=zaa hB bx1
 obtain ⟨g1,e1,i1⟩:=bx2.c3
 clear bx1 bx2 bz
 go_wp2_with fail
 generalize w.alloc (.cells #[.bool baa,.slice Baa maa daa,.slice Eaa uaa vaa] 44) = W1 at *
 (with_reducible refine (zcv HX0.out (HNaaq.out _ hB)).mono ?_)
 rintro e wc2 ⟨rfl,hb⟩
 have hB:=zaa hB hb
 have g1:=zab hb g1
 have e1:=zab hb e1
 have i1:=zab hb i1
 clear hb 
 go_wp2
 go_ret
 exact ⟨by first | rfl | simp,hB⟩
theorem zir (r : Rat) (baa : Bool) (Baa : oA9) (maa daa : Nat) (Eaa : oA9) (uaa vaa : Nat) (w : World) (hT : zaj w) (haa : zak w r baa Baa maa daa Eaa uaa vaa) (qaa : zaz maa uaa) (hd : r.den ≠ 1) :
  Calls Tryz.prog 57 #[.agg #[.bool baa,.slice Baa maa daa,.slice Eaa uaa vaa]] w (fun e w' => e = .returned (.bool false) ∧ Below w.heap.size w w'):=by
 have HIC:=lh9 (zbl (T:=zaj))
 have HGC:=lh9 zbo
 have HT:=lh9 (fun w' (hb : Below w.heap.size w w') => hT.on hb)
 have HTB:=HT
 obtain ⟨K,hKe⟩ : ∃ K,67108864 = K:=⟨_,rfl⟩
 have hKK : K ≤ 67108864:=by omega
 have hK0 : 0 < K:=by omega
 have HNaa:=lh9 (fun w' (b : Below w.heap.size w w') => haa.below b)
 obtain ⟨xaa,hxaa,hxwaa⟩:=haa.2
 have HXaa:=lh9 hxaa
 have HZaa : Hid (SzQ K r):=zaw haa qaa hKe
 have HZaap : Hid (Sz K r.num.natAbs):=HZaa.out.num
 have HZaaq : Hid (Sz K xaa):=zan HZaa.out.den hxaa
 have HNaap:=lh9 (fun w' (b : Below w.heap.size w w') => haa.1.below b)
 have HNaaq:=lh9 (fun w' (b : Below w.heap.size w w') => hxwaa.below b)
 clear haa qaa hxaa hxwaa
 have HX0:=lh9 (zcC HXaa.out hd).1
 clear hT hKe hd
 go_enter Tryz.func57,Tryz.ntmps57
 have hB:=Below.refl w.heap.size w
 obtain ⟨bx1,bx2,bz⟩:=zaG w 44 #[.bool baa,.slice Baa maa daa,.slice Eaa uaa vaa]
 have hB:=zaa hB bx1
 obtain ⟨g1,e1,i1⟩:=bx2.c3
 clear bx1 bx2 bz
 go_wp2_with fail
 generalize w.alloc (.cells #[.bool baa,.slice Baa maa daa,.slice Eaa uaa vaa] 44) = W1 at *
 (with_reducible refine (zcE HX0.out (HNaaq.out _ hB)).mono ?_)
 rintro e wc2 ⟨rfl,hb⟩
 have hB:=zaa hB hb
 have g1:=zab hb g1
 have e1:=zab hb e1
 have i1:=zab hb i1
 clear hb 
 go_wp2
 go_ret
 exact ⟨by first | rfl | simp,hB⟩
theorem zaS (r : Rat) (baa : Bool) (Baa : oA9) (maa daa : Nat) (Eaa : oA9) (uaa vaa : Nat) (w : World) (hT : zaj w) (haa : zak w r baa Baa maa daa Eaa uaa vaa) (qaa : zaz maa uaa) :
  Calls Tryz.prog 57 #[.agg #[.bool baa,.slice Baa maa daa,.slice Eaa uaa vaa]] w (fun e w' => e = .returned (.bool (decide (r.den = 1))) ∧ Below w.heap.size w w'):=by
 by_cases hd : r.den = 1
 ·rw [decide_eq_true hd]; exact zis r baa Baa maa daa Eaa uaa vaa w hT haa qaa hd
 ·rw [decide_eq_false hd]; exact zir r baa Baa maa daa Eaa uaa vaa w hT haa qaa hd
end Go.Proofs.YtkiedljcgkoaiaaGreatDoor
