/- What this claim leans on. -/
import Derived.Test.YtedbgdlbgohiiaaGreatDoorBMOf
namespace Go.Proofs.YtedbgdlbgohiiaaGreatDoor
open Go Go.RowKit
set_option maxHeartbeats 16000000
set_option maxRecDepth 100000
set_option linter.unusedVariables false
set_option linter.unusedSimpArgs false
theorem zdH.below {w w' : World} {A : oA9} {n : Nat} {zs : List Int} (h : zdH w A n zs) (hb : Below w.heap.size w w') : zdH w' A n zs:=⟨h.len,h.ints,fun i hi => by
 obtain ⟨ad,e,hc⟩:=h.num i hi
 exact ⟨ad,e,zab hb hc⟩⟩
def zhq (n : Nat) (zs : List Int) (M : List (List Rat)) : List (List Rat):=zbw n zs.length fun a b => atM M a (zs.getD b 0).toNat
theorem zmj {zs : List Int} {m b : Nat} (h : zhl zs m = false) (hb : b < zs.length) : ∃ k : Nat,zs.getD b 0 = (k : Int) ∧ k < m:=by
 unfold zhl at h
 have:=List.any_eq_false.1 h (zs.getD b 0) (List.mem_of_getElem? (zcB hb))
 simp at this
 exact inB_yes this
section
variable {A : oA9} {n c m K : Nat} {MM : List (List Rat)} {w : World} {Q : oA9} {q qc : Nat} {zs : List Int}
theorem mat_pick (hT : zaj w) (h : zat w A n c m MM) (z : zau K MM) (hz : zdH w Q q zs) (hq : q ≤ 64) (hs : zhl zs m = false) (hK : K + 2 ≤ 67108864:=by omega) :
  Calls Tryz.prog 52 #[.agg #[.slice A n c,.int .i64 (m : Int)],.slice Q q qc] w (zbq w n q (zhq n zs MM)):=by
 obtain ⟨hn,hm⟩:=And.intro h.hn h.hm
 have hl:=hz.len
 obtain ⟨bx,by0,by1,by2,bz⟩:=zbh w 28 63 28 #[.slice A n c,.int .i64 (m : Int)] #[.slice Q q qc] #[.slice none 0 0,.int .i64 0]
 have HK0:=lh9 by0
 have HK1:=lh9 by1
 have HK2:=lh9 by2
 have HB:=lh9 bx
 have hmf:=zlp
 have HR:=fun W => lh9 (zaW A n c (m : Int) W)
 have HMY:=fun W => lh9 (zgc (zfB hn hq) W)
 have HCF : Hid (∀ W,Below w.heap.size w W → Blk W w.heap.size 28 #[.slice A n c,.int .i64 (m : Int)] → Calls Tryz.prog 93 #[.slice Q q qc,.func (.func 92) #[] #[.pointer (some ⟨w.heap.size,0,none⟩)]] W (fun e w' => e = .returned (.bool false) ∧ Below W.heap.size W w')):=fun W hb hk => by
  have:=zfX (q:=qc) (hz.below hb) hk (by omega)
  rw [hs] at this
  exact this
 have HM : ∀ W,Below w.heap.size w W → Blk W w.heap.size 28 #[.slice A n c,.int .i64 (m : Int)] → Blk W (w.heap.size + 1) 63 #[.slice Q q qc] → ∀ z9 : Int,z9 = (q : Int) → Hid (Calls Tryz.prog 56 #[.int .i64 (n : Int),.int .i64 z9,.func (.func 94) #[] #[.pointer (some ⟨w.heap.size,0,none⟩),.pointer (some ⟨w.heap.size + 1,0,none⟩)]] W (zba W n q (zhq n zs MM))):=fun W hW k0 k1 z9 hz9 => by
  subst hz9
  have hh:=h.keep hW
  have hz2:=hz.below hW
  have q9:=zcZ (K:=K) (fun a b => atM MM a (zs.getD b 0).toNat) 94 #[.pointer (some ⟨w.heap.size,0,none⟩),.pointer (some ⟨w.heap.size + 1,0,none⟩)] n q W (hT.on hW) ⟨en_pick2,fun a b ha hb9 w' hb => by
   obtain ⟨k,hk1,hk2⟩:=zmj hs (show b < zs.length by omega)
   obtain ⟨ap,e,hc⟩:=(hz2.below hb).num b hb9
   subst e
   rw [hk1] at hc
   dsimp only
   rw [hk1,Int.toNat_natCast]
   exact cl_pick (hh.keep hb) (zac hb k0) (zac hb k1) hc ha hb9 hk2⟩ (fun a b ha hb9 => by
   obtain ⟨k,hk1,hk2⟩:=zmj hs (show b < zs.length by omega)
   rw [hk1,Int.toNat_natCast]
   exact z.at_ h.dims ha hk2) hn hq hK
  unfold zhq
  rw [hl]
  exact q9
 clear bx bz by0 by1 by2 hT h z hz hs hl
 obtain ⟨p0_0,p0_1⟩:=HK0.out.c2
 have p1_0:=HK1.out.c1
 go_enter Tryz.func52,Tryz.ntmps52
 go_wp2_with fail
 generalize ((w.alloc (.cells #[.slice A n c,.int .i64 (m : Int)] 28)).alloc (.cells #[.slice Q q qc] 63)).alloc (.cells #[.slice none 0 0,.int .i64 0] 28) = W1 at *
 refine rg (csc p0_0 (csc p0_1 (csc p1_0 csn))) (fun hHeld => ?_)
 clear p0_0 p0_1 p1_0
 have hbd:=(Below.refl W1.heap.size W1).drew
 have HB:=lh9 (zaa HB.out hbd)
 have HK0:=lh9 (zac hbd HK0.out)
 have HK1:=lh9 (zac hbd HK1.out)
 have HK2:=lh9 (zac hbd HK2.out)
 clear hbd
 generalize W1.drew = D at *
 refine tk 0 ?_
 refine tk 2 ?_
 refine tk 3 ?_
 refine rc 1 (fun KK hK9 => ?_)
 go_simp
 refine ((HR _).out).mono ?_
 rintro e w2 ⟨rfl,hb⟩
 refine hK9.out _ _ (Cs.below hHeld hb) (fun hHeld => ?_)
 clear hK9 KK
 have HB:=lh9 (zaa HB.out hb)
 have HK0:=lh9 (zac hb HK0.out)
 have HK1:=lh9 (zac hb HK1.out)
 have HK2:=lh9 (zac hb HK2.out)
 clear hb
 refine rc 4 (fun KK hK9 => ?_)
 go_simp
 refine ((HMY _).out).mono ?_
 rintro e w2 ⟨rfl,rfl⟩
 refine hK9.out _ _ hHeld (fun hHeld => ?_)
 clear hK9 KK
 refine tk 5 ?_
 refine tk 6 ?_
 refine tk 7 ?_
 refine tk 8 ?_
 refine rc 9 (fun KK hK9 => ?_)
 go_simp
 refine (HCF.out _ HB.out HK0.out).mono ?_
 rintro e w2 ⟨rfl,hb⟩
 refine hK9.out _ _ (Cs.below hHeld hb) (fun hHeld => ?_)
 clear hK9 KK
 have HB:=lh9 (zaa HB.out hb)
 have HK0:=lh9 (zac hb HK0.out)
 have HK1:=lh9 (zac hb HK1.out)
 have HK2:=lh9 (zac hb HK2.out)
 clear hb
 refine tk 10 ?_
 refine rdn ?_
 clear hHeld
 obtain ⟨p0_0,p0_1⟩:=HK0.out.c2
 have p1_0:=HK1.out.c1
 go_wp2_with fail
 refine rg (csc p0_0 (csc p0_1 (csc p1_0 csn))) (fun hHeld => ?_)
 clear p0_0 p0_1 p1_0
 have hbd:=(Below.refl w2.heap.size w2).drew
 have HB:=lh9 (zaa HB.out hbd)
 have HK0:=lh9 (zac hbd HK0.out)
 have HK1:=lh9 (zac hbd HK1.out)
 have HK2:=lh9 (zac hbd HK2.out)
 clear hbd
 generalize w2.drew = D at *
 refine tk 0 ?_
 refine tk 2 ?_
 refine tk 3 ?_
 refine tk 4 ?_
 refine rc 1 (fun KK hK9 => ?_)
 go_simp
 refine ((HR _).out).mono ?_
 rintro e w2 ⟨rfl,hb⟩
 refine hK9.out _ _ (Cs.below hHeld hb) (fun hHeld => ?_)
 clear hK9 KK
 have HB:=lh9 (zaa HB.out hb)
 have HK0:=lh9 (zac hb HK0.out)
 have HK1:=lh9 (zac hb HK1.out)
 have HK2:=lh9 (zac hb HK2.out)
 clear hb
 refine rc 5 (fun KK hK9 => ?_)
 go_simp
 refine (HM _ HB.out HK0.out HK1.out _ (by rfl)).out.mono ?_
 rintro e w3 ⟨A3,c3,rfl,hm3,hf3,hb⟩
 refine hK9.out _ _ (Cs.below hHeld hb) (fun hHeld => ?_)
 clear hK9 KK
 have hk3:=zac hb HK2.out
 obtain ⟨sc0,sf0,sc1,sf1⟩:=st2 hk3 (.slice A3 (n) c3)
 obtain ⟨r0,r1⟩:=(sn2 hk3 (.slice A3 (n) c3) (.int .i64 ((q : Nat) : Int))).c2
 have HG:=lh9 (gmb2 hm3 (fun ad e => Nat.lt_of_lt_of_le HK2.out.lt (hf3 ad e)) hk3 (zaa HB.out hb) (by omega))
 clear hb hk3 hm3 hf3 HB HM HK0 HK1 HK2
 refine rc 6 (fun KK hK9 => ?_)
 go_simp
 refine hK9.out _ _ ?_ (fun hHeld => ?_)
 ·refine Cs.far hHeld (zdf _ _ _ _) ⟨by show w.heap.size ≠ w.heap.size + 1 + 1; omega,by show w.heap.size ≠ w.heap.size + 1 + 1; omega,by show w.heap.size + 1 ≠ w.heap.size + 1 + 1; omega,trivial⟩
 clear hK9 KK
 refine tk 7 ?_
 refine rdn ?_
 clear hHeld sc0 sf0 sc1 sf1
 go_wp2
 refine bodyPost_ret (v:=.tuple #[.agg #[.slice A3 (n) c3,.int .i64 ((q : Nat) : Int)],.bool true]) (by simp [results,Tryz.results52,go_sem,r0,r1]) rfl ?_
 exact HG.out
end
theorem zmh {T : World → Prop} {M : Nat → Prop} (hTb : ∀ w w',T w → Below w.heap.size w w' → T w') (IC : IntC T) (QC : RatC T M) (p q : Int) (r : Rat) (K : Nat) (bx : Bool) (Bx : oA9) (mx dx : Nat) (Ex : oA9) (ux vx : Nat) (w : World) (hK : K ≤ 16777216) (hz : SzQ K r) (h : zai w r bx Bx mx dx Ex ux vx) (hT : T w) (hp1 : -9223372036854775808 ≤ p) (hp2 : p ≤ 9223372036854775807) (hq1 : -9223372036854775808 ≤ q) (hq2 : q ≤ 9223372036854775807) (hq0 : q ≠ 0) (he : r = Rat.divInt p q) :
  Calls Tryz.prog 19 #[.agg #[.bool bx,.slice Bx mx dx,.slice Ex ux vx],.int .i64 p,.int .i64 q] w fun e w' => e = .returned (.bool true) ∧ Below w.heap.size w w':=by
 have HIC:=lh9 IC
 have HQC:=lh9 QC
 have HT:=lh9 (fun w' (hb : Below w.heap.size w w') => hTb w w' hT hb)
 have HE:=lh9 he
 have HZx:=lh9 hz
 have HNx:=lh9 h
 clear IC QC hT he hz h
 go_enter Tryz.func19,Tryz.ntmps19
 have hB:=Below.refl w.heap.size w
 obtain ⟨bx1,bx2,bz⟩:=zaC w 48 #[.bool bx,.slice Bx mx dx,.slice Ex ux vx]
 have hB:=zaa hB bx1
 have HNx:=lh9 (HNx.out.below bx1)
 obtain ⟨g1,e1,i1⟩:=bx2.c3
 clear bx1 bx2 bz
 go_wp2_with fail
 generalize w.alloc (.cells #[.bool bx,.slice Bx mx dx,.slice Ex ux vx] 48) = W1 at *
 have HZ2 : Hid (SzQ (1) (Rat.divInt p q)):=SzQ.made (K:=1) (by show Int.natAbs p < 18446744073709551616 ^ 1; have e1 : -9223372036854775808 ≤ p:=hp1; have e2 : p ≤ 9223372036854775807:=hp2; omega) (by show Int.natAbs q < 18446744073709551616 ^ 1; have e1 : -9223372036854775808 ≤ q:=hq1; have e2 : q ≤ 9223372036854775807:=hq2; omega) (by decide)
 (with_reducible refine (HQC.out.of p q _ (HT.out _ hB) hp1 hp2 hq1 hq2 hq0).mono ?_)
 rintro e wc2 ⟨b2,B2,m2,d2,E2,u2,v2,rfl,hw2,hb⟩
 have hB:=zaa hB hb
 have HNx:=lh9 (HNx.out.below hb)
 have g1:=zab hb g1
 have e1:=zab hb e1
 have i1:=zab hb i1
 have HN2:=lh9 hw2
 clear hb hw2
 obtain ⟨bx1,bx2,bz⟩:=zaC wc2 48 #[.bool b2,.slice B2 m2 d2,.slice E2 u2 v2]
 have hB:=zaa hB bx1
 have HNx:=lh9 (HNx.out.below bx1)
 have g1:=zab bx1 g1
 have e1:=zab bx1 e1
 have i1:=zab bx1 i1
 have HN2:=lh9 (HN2.out.below bx1)
 obtain ⟨g3,e3,i3⟩:=bx2.c3
 clear bx1 bx2 bz
 go_wp2_with fail
 generalize wc2.alloc (.cells #[.bool b2,.slice B2 m2 d2,.slice E2 u2 v2] 48) = W3 at *
 generalize wc2.heap.size = q3 at *
 have C0:=lh9 (fun w' (h : Below W3.heap.size W3 w') => zax (decide_eq_true HE.out) (HQC.out.same (r) (Rat.divInt p q) bx b2 Bx B2 mx m2 dx d2 Ex E2 ux u2 vx v2 w' (HT.out _ (zaa hB h)) (HNx.out.below h) (HN2.out.below h) (szq HZx HNx.out) (szq HZ2 HN2.out)))
 have HZ4 : Hid (Sz (K) (r.num).natAbs):=SzQ.num HZx.out
 have C1:=lh9 (fun w' (h : Below W3.heap.size W3 w') => HQC.out.num (r) bx Bx mx dx Ex ux vx w' (HT.out _ (zaa hB h)) (HNx.out.below h) (szq HZx HNx.out))
 have HZ5 : Hid (Sz (1) ((Rat.divInt p q).num).natAbs):=SzQ.num HZ2.out
 have C2:=lh9 (fun w' (h : Below W3.heap.size W3 w') => HQC.out.num (Rat.divInt p q) b2 B2 m2 d2 E2 u2 v2 w' (HT.out _ (zaa hB h)) (HN2.out.below h) (szq HZ2 HN2.out))
 have C3:=lh9 (fun w' (h : Below W3.heap.size W3 w') b4 B4 m4 d4 (hw4 : zaF w' (r.num) b4 B4 m4 d4) b5 B5 m5 d5 (hw5 : zaF w' ((Rat.divInt p q).num) b5 B5 m5 d5) => icmp_eq (by rw [HE.out]) (HIC.out.cmp (r.num) ((Rat.divInt p q).num) b4 b5 B4 B5 m4 m5 d4 d5 w' (HT.out _ (zaa hB h)) hw4 hw5 (by have:=Sz.words HZ4.out hw4.words; omega) (by have:=Sz.words HZ5.out hw5.words; omega)))
 have HZ6 : Hid (Sz (K) (r.den)):=SzQ.den HZx.out
 have C4:=lh9 (fun w' (h : Below W3.heap.size W3 w') => HQC.out.den (r) bx Bx mx dx Ex ux vx w' (HT.out _ (zaa hB h)) (HNx.out.below h) (szq HZx HNx.out))
 have HZ7 : Hid (Sz (1) ((Rat.divInt p q).den)):=SzQ.den HZ2.out
 have C5:=lh9 (fun w' (h : Below W3.heap.size W3 w') => HQC.out.den (Rat.divInt p q) b2 B2 m2 d2 E2 u2 v2 w' (HT.out _ (zaa hB h)) (HN2.out.below h) (szq HZ2 HN2.out))
 have C6:=lh9 (fun w' (h : Below W3.heap.size W3 w') B6 m6 d6 (hw6 : zad w' (r.den) B6 m6 d6) B7 m7 d7 (hw7 : zad w' ((Rat.divInt p q).den) B7 m7 d7) => cmpEq (x:=r.den) (y:=(Rat.divInt p q).den) (by rw [HE.out]) hw6 hw7 (szw HZ6 hw6) (szw HZ7 hw7))
 have hBw:=(Below.refl W3.heap.size W3).drew
 refine rg (csc g1 (csc e1 (csc i1 (csc g3 (csc e3 (csc i3 csn)))))) (fun hHeld => ?_)
 refine tk 0 ?_
 refine tk 1 ?_
 refine tk 2 ?_
 refine tk 3 ?_
 refine rc 4 (fun K hK => ?_)
 go_simp
 go_at_call 44; (with_reducible refine (C0.out _ hBw).mono ?_); rintro e wa4 ⟨rfl,hb⟩; have hBw:=zaa hBw hb; refine hK.out _ _ (Cs.below hHeld hb) (fun hHeld => ?_); clear hK K hb
 try simp only [sb9]
 refine tk 5 ?_
 refine tk 6 ?_
 refine tk 7 ?_
 refine tk 9 ?_
 refine rc 8 (fun K hK => ?_)
 go_simp
 go_at_call 63; (with_reducible refine (C1.out _ hBw).mono ?_); rintro e wa5 ⟨b4,B4,m4,d4,rfl,hw4,hb⟩; have hBw:=zaa hBw hb; refine hK.out _ _ (Cs.below hHeld hb) (fun hHeld => ?_); clear hK K hb
 try simp only [sb9]
 refine rc 10 (fun K hK => ?_)
 go_simp
 go_at_call 63; (with_reducible refine (C2.out _ hBw).mono ?_); rintro e wa6 ⟨b5,B5,m5,d5,rfl,hw5,hb⟩; have hBw:=zaa hBw hb; have hw4:=hw4.below hb; refine hK.out _ _ (Cs.below hHeld hb) (fun hHeld => ?_); clear hK K hb
 try simp only [sb9]
 refine rc 11 (fun K hK => ?_)
 go_simp
 go_at_call 62; (with_reducible refine (C3.out _ hBw _ _ _ _ hw4 _ _ _ _ hw5).mono ?_); rintro e wa7 ⟨rfl,hb⟩; have hBw:=zaa hBw hb; have hw4:=hw4.below hb; have hw5:=hw5.below hb; refine hK.out _ _ (Cs.below hHeld hb) (fun hHeld => ?_); clear hK K hb
 try simp only [sb9]
 refine tk 12 ?_
 refine tk 13 ?_
 refine tk 14 ?_
 refine tk 15 ?_
 refine tk 17 ?_
 refine rc 16 (fun K hK => ?_)
 go_simp
 go_at_call 65; (with_reducible refine (C4.out _ hBw).mono ?_); rintro e wa8 ⟨B6,m6,d6,rfl,hw6,hb⟩; have hBw:=zaa hBw hb; have hw4:=hw4.below hb; have hw5:=hw5.below hb; refine hK.out _ _ (Cs.below hHeld hb) (fun hHeld => ?_); clear hK K hb
 try simp only [sb9]
 refine rc 18 (fun K hK => ?_)
 go_simp
 go_at_call 65; (with_reducible refine (C5.out _ hBw).mono ?_); rintro e wa9 ⟨B7,m7,d7,rfl,hw7,hb⟩; have hBw:=zaa hBw hb; have hw4:=hw4.below hb; have hw5:=hw5.below hb; have hw6:=hw6.below hb; refine hK.out _ _ (Cs.below hHeld hb) (fun hHeld => ?_); clear hK K hb
 try simp only [sb9]
 refine rc 19 (fun K hK => ?_)
 go_simp
 go_at_call 64; (with_reducible refine (C6.out _ hBw _ _ _ hw6 _ _ _ hw7).mono ?_); rintro e wa10 ⟨rfl,hb⟩; have hBw:=zaa hBw hb; have hw4:=hw4.below hb; have hw5:=hw5.below hb; have hw6:=hw6.below hb; have hw7:=hw7.below hb; refine hK.out _ _ (Cs.below hHeld hb) (fun hHeld => ?_); clear hK K hb
 try simp only [sb9]
 refine tk 20 ?_
 refine tk 21 ?_
 refine tk 22 ?_
 refine rdn ?_
 have hB:=zaa hB hBw
 have HNx:=lh9 (HNx.out.below hBw)
 have g1:=zab hBw g1
 have e1:=zab hBw e1
 have i1:=zab hBw i1
 have HN2:=lh9 (HN2.out.below hBw)
 have g3:=zab hBw g3
 have e3:=zab hBw e3
 have i3:=zab hBw i3
 have HN4:=lh9 hw4
 have HN5:=lh9 hw5
 have HN6:=lh9 hw6
 have HN7:=lh9 hw7
 clear hBw hHeld hw4 hw5 hw6 hw7 C0 C1 C2 C3 C4 C5 C6
 go_wp2
 go_ret
 exact ⟨by first | rfl | simp,hB⟩
end Go.Proofs.YtedbgdlbgohiiaaGreatDoor
