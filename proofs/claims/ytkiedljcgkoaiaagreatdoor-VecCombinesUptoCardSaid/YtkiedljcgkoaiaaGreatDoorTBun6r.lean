/- What this claim leans on. -/
import Derived.Test.YtkiedljcgkoaiaaGreatDoorTBunR
import Derived.Test.YtkiedljcgkoaiaaGreatDoorTBunY
namespace Go.Proofs.YtkiedljcgkoaiaaGreatDoor
open Go Go.RowKit
set_option maxHeartbeats 16000000
set_option maxRecDepth 100000
set_option linter.unusedVariables false
theorem znB (x mm : Nat) (A : oA9) (n c : Nat) (w : World) (hA : zai w x A n c) (hn : n ≤ 274877906944) (hm0 : 0 < mm) (hm1 : mm ≤ 32768) :
  Calls Tryz.prog 123 #[.slice A n c,.int .i64 mm] w (zie w x mm):=by
 obtain ⟨i0,hi0,hz0,hz1,hz2⟩:=info_parts zhq
 have HLN:=lh9 hA.len
 have hR:=hA.1
 clear hA
 obtain ⟨Z,hZ⟩ : ∃ Z,madeCells (Value.cells (.int .i64 0)) (n * i0.size) = Z:=⟨_,rfl⟩
 have HZ : Hid (Z.size = n):=by show _ = _; rw [← hZ,size_madeCells,hz1,Nat.mul_one]
 have hmk : ∀ W : World,(Instr.makeSlice 31 (.int .i64 (n : Int)) (.int .i64 (n : Int))).run Tryz.prog W = .ok (.slice (some ⟨W.heap.size,0,none⟩) n n) (W.alloc (.cells Z 3)):=fun W => by
  rw [← hZ]; exact zaU _ _ i0 _ Tryz.underlying31 hi0 hz0 _ _ n n (Nat.le_refl _) (by rw [hz2]; omega) (by omega) W
 clear hZ
 go_enter Tryz.func123,Tryz.ntmps123
 go_wp2
 clear hmk
 go_loopg [7,8,9] (n + 1) (fun g s i _ wr => ∃ (k left : Nat) (cs : Array Value) (out : List Nat),k ≤ n ∧ k < g ∧ i = .int .i64 ((k : Int) - 1) ∧ s = .int .i64 left ∧ zdN x mm n k out left ∧
   Blk wr w.heap.size 3 cs ∧ cs.size = n ∧ cs.toList.drop k = zar .i64 out ∧ Below w.heap.size w wr)
 case atStart => exact ⟨n,0,Z,[],Nat.le_refl _,by omega,rfl,rfl,zdN.start hm0 (by have:=HLN.out; omega),Blk.new w _ _,HZ.out,by rw [List.drop_of_length_le (by have:=HZ.out; simp; omega)]; rfl,(Below.refl _ _).alloc (Nat.le_refl _) _⟩
 case round =>
  obtain ⟨k,left,cs,out,hk,hg,rfl,rfl,hat,hB,hsz,hdr,hbl⟩:=hrel
  by_cases hk0 : k = 0
  ·subst hk0
   obtain ⟨f1,f2⟩:=hat.done
   have hlen : out.length = n:=by have:=hat.len; omega
   have hrd : zaq wr wr.heap.size 1 (some ⟨w.heap.size,0,none⟩) n (zar .i64 out):=by
    refine ⟨by rw [zax]; omega,fun _ => ⟨_,rfl,hB.lt,fun j u hu => ?_⟩⟩
    have e : (⟨w.heap.size,0,none⟩ : Addr).add j = ⟨w.heap.size,j,none⟩:=by unfold Addr.add; split <;> simp_all
    rw [e,hB.cell j,← Array.getElem?_toList]
    rw [List.drop_zero] at hdr
    rw [hdr]; exact hu
   have T:=zgi (some ⟨w.heap.size,0,none⟩) n n out wr hrd hat.dgs (Nat.le_refl _) (by omega) (by omega)
   rw [f1] at T
   have HT:=lh9 T
   have F2:=lh9 f2
   clear T hrd f1 f2 hat hdr hsz hlen
   go_wp2_with fail
   refine HT.out.mono ?_
   intro e w2 hg2
   have hg3:=hg2.from_ hbl
   obtain ⟨A2,n2,c2,rfl,hh2,hb2⟩:=hg2.elim
   have HG3:=lh9 hg3
   clear hg2 hh2 hb2 hg3
   go_wp2_with fail
   go_ret2
   exact ⟨_,by rw [← F2.out]; rfl,HG3.out⟩
  ·obtain ⟨j,rfl⟩ : ∃ j,k = j + 1:=⟨k - 1,by omega⟩
   obtain ⟨ad,rfl,hadb,hc0⟩:=zbo hR (k:=j) (by omega)
   have hc1 : wr.cell? (ad.add j) = some (.int .i64 ((dg 65536 x).getD j 0 : Nat)):=(hbl.cell (by rw [zav]; exact hadb)).trans hc0
   rw [zeU] at hc1
   have ha1 : x / 65536 ^ j % 65536 < 65536:=Nat.mod_lt _ (by decide)
   have hst:=hat.step hk rfl
   have hleft:=hat.rest
   obtain ⟨a,ha⟩ : ∃ b,x / 65536 ^ j % 65536 = b:=⟨_,rfl⟩
   rw [ha] at hc1 ha1 hst
   have hfr:=hB.frozen j
   have hcell : ∃ u,wr.cell? ⟨w.heap.size,j,none⟩ = some u:=by
    rw [hB.cell j]
    exact ⟨cs[j]'(by omega),Array.getElem?_eq_getElem (by omega)⟩
   obtain ⟨u,hu⟩:=hcell
   have HST:=lh9 hst
   have HS:=lh9 hsz
   have HD:=lh9 hdr
   clear hst ha hat hc0 hsz hdr
   go_wp2
   go_roundg (j + 1)
   case measure => omega
   case rel => exact ⟨j,(left * 65536 + a) % mm,cs.setIfInBounds j (.int .i64 (((left : Int) * 65536 + (a : Int)) / (mm : Int))),_,by omega,by omega,by go_num,by go_num,HST.out,hB.set_ _ _,by simpa using HS.out,by rw [drop_set _ _ _ (by have:=HS.out; omega),HD.out]; simp [zar],hbl.setCell (Nat.le_refl _) _⟩
set_option linter.unusedSimpArgs false
def BackD (b x y : Nat) (D : List Nat) : Prop:=D ++ dg b y = dg b x
theorem BackD.step {b x y : Nat} {D : List Nat} (h : BackD b x y D) (hb : 2 ≤ b) (hy : y ≠ 0) : BackD b x (y / b) (D ++ [y % b]):=by
 unfold BackD at h ⊢
 rw [← h,zdi hb hy,List.append_assoc]
 rfl
theorem zmm {T : World → Prop} {M : Nat → Prop} (hTb : ∀ w w',T w → Below w.heap.size w w' → T w') (IC : IntC T) (QC : RatC T M) (p q : Int) (r : Rat) (K : Nat) (bx : Bool) (Bx : oA9) (mx dx : Nat) (Ex : oA9) (ux vx : Nat) (w : World) (hK : K ≤ 16777216) (hz : SzQ K r) (h : zan w r bx Bx mx dx Ex ux vx) (hT : T w) (hp1 : -9223372036854775808 ≤ p) (hp2 : p ≤ 9223372036854775807) (hq1 : -9223372036854775808 ≤ q) (hq2 : q ≤ 9223372036854775807) (hq0 : q ≠ 0) (he : r = Rat.divInt p q) :
  Calls Tryz.prog 35 #[.agg #[.bool bx,.slice Bx mx dx,.slice Ex ux vx],.int .i64 p,.int .i64 q] w fun e w' => e = .returned (.bool true) ∧ Below w.heap.size w w':=by
 have HIC:=lh9 IC
 have HQC:=lh9 QC
 have HT:=lh9 (fun w' (hb : Below w.heap.size w w') => hTb w w' hT hb)
 have HE:=lh9 he
 have HZx:=lh9 hz
 have HNx:=lh9 h
 clear IC QC hT he hz h
 go_enter Tryz.func35,Tryz.ntmps35
 have hB:=Below.refl w.heap.size w
 obtain ⟨bx1,bx2,bz⟩:=zaR w 44 #[.bool bx,.slice Bx mx dx,.slice Ex ux vx]
 have hB:=zac hB bx1
 have HNx:=lh9 (HNx.out.below bx1)
 obtain ⟨g1,e1,i1⟩:=bx2.c3
 clear bx1 bx2 bz
 go_wp2_with fail
 generalize w.alloc (.cells #[.bool bx,.slice Bx mx dx,.slice Ex ux vx] 44) = W1 at *
 have HZ2 : Hid (SzQ (1) (Rat.divInt p q)):=SzQ.made (K:=1) (by show Int.natAbs p < 18446744073709551616 ^ 1; have e1 : -9223372036854775808 ≤ p:=hp1; have e2 : p ≤ 9223372036854775807:=hp2; omega) (by show Int.natAbs q < 18446744073709551616 ^ 1; have e1 : -9223372036854775808 ≤ q:=hq1; have e2 : q ≤ 9223372036854775807:=hq2; omega) (by decide)
 (with_reducible refine (HQC.out.of p q _ (HT.out _ hB) hp1 hp2 hq1 hq2 hq0).mono ?_)
 rintro e wc2 ⟨b2,B2,m2,d2,E2,u2,v2,rfl,hw2,hb⟩
 have hB:=zac hB hb
 have HNx:=lh9 (HNx.out.below hb)
 have g1:=zad hb g1
 have e1:=zad hb e1
 have i1:=zad hb i1
 have HN2:=lh9 hw2
 clear hb hw2
 obtain ⟨bx1,bx2,bz⟩:=zaR wc2 44 #[.bool b2,.slice B2 m2 d2,.slice E2 u2 v2]
 have hB:=zac hB bx1
 have HNx:=lh9 (HNx.out.below bx1)
 have g1:=zad bx1 g1
 have e1:=zad bx1 e1
 have i1:=zad bx1 i1
 have HN2:=lh9 (HN2.out.below bx1)
 obtain ⟨g3,e3,i3⟩:=bx2.c3
 clear bx1 bx2 bz
 go_wp2_with fail
 generalize wc2.alloc (.cells #[.bool b2,.slice B2 m2 d2,.slice E2 u2 v2] 44) = W3 at *
 generalize wc2.heap.size = q3 at *
 have C0:=lh9 (fun w' (h : Below W3.heap.size W3 w') => zaw (decide_eq_true HE.out) (HQC.out.same (r) (Rat.divInt p q) bx b2 Bx B2 mx m2 dx d2 Ex E2 ux u2 vx v2 w' (HT.out _ (zac hB h)) (HNx.out.below h) (HN2.out.below h) (szq HZx HNx.out) (szq HZ2 HN2.out)))
 have HZ4 : Hid (Sz (K) (r.num).natAbs):=SzQ.num HZx.out
 have C1:=lh9 (fun w' (h : Below W3.heap.size W3 w') => HQC.out.num (r) bx Bx mx dx Ex ux vx w' (HT.out _ (zac hB h)) (HNx.out.below h) (szq HZx HNx.out))
 have HZ5 : Hid (Sz (1) ((Rat.divInt p q).num).natAbs):=SzQ.num HZ2.out
 have C2:=lh9 (fun w' (h : Below W3.heap.size W3 w') => HQC.out.num (Rat.divInt p q) b2 B2 m2 d2 E2 u2 v2 w' (HT.out _ (zac hB h)) (HN2.out.below h) (szq HZ2 HN2.out))
 have C3:=lh9 (fun w' (h : Below W3.heap.size W3 w') b4 B4 m4 d4 (hw4 : zay w' (r.num) b4 B4 m4 d4) b5 B5 m5 d5 (hw5 : zay w' ((Rat.divInt p q).num) b5 B5 m5 d5) => icmp_eq (by rw [HE.out]) (HIC.out.cmp (r.num) ((Rat.divInt p q).num) b4 b5 B4 B5 m4 m5 d4 d5 w' (HT.out _ (zac hB h)) hw4 hw5 (by have:=Sz.words HZ4.out hw4.words; omega) (by have:=Sz.words HZ5.out hw5.words; omega)))
 have HZ6 : Hid (Sz (K) (r.den)):=SzQ.den HZx.out
 have C4:=lh9 (fun w' (h : Below W3.heap.size W3 w') => HQC.out.den (r) bx Bx mx dx Ex ux vx w' (HT.out _ (zac hB h)) (HNx.out.below h) (szq HZx HNx.out))
 have HZ7 : Hid (Sz (1) ((Rat.divInt p q).den)):=SzQ.den HZ2.out
 have C5:=lh9 (fun w' (h : Below W3.heap.size W3 w') => HQC.out.den (Rat.divInt p q) b2 B2 m2 d2 E2 u2 v2 w' (HT.out _ (zac hB h)) (HN2.out.below h) (szq HZ2 HN2.out))
 have C6:=lh9 (fun w' (h : Below W3.heap.size W3 w') B6 m6 d6 (hw6 : zag w' (r.den) B6 m6 d6) B7 m7 d7 (hw7 : zag w' ((Rat.divInt p q).den) B7 m7 d7) => cmpEq (x:=r.den) (y:=(Rat.divInt p q).den) (by rw [HE.out]) hw6 hw7 (szw HZ6 hw6) (szw HZ7 hw7))
 have hBw:=(Below.refl W3.heap.size W3).drew
 refine rg (csc g1 (csc e1 (csc i1 (csc g3 (csc e3 (csc i3 csn)))))) (fun hHeld => ?_)
 refine tk 0 ?_
 refine tk 1 ?_
 refine tk 2 ?_
 refine tk 3 ?_
 refine rc 4 (fun K hK => ?_)
 go_simp
 go_at_call 37; (with_reducible refine (C0.out _ hBw).mono ?_); rintro e wa4 ⟨rfl,hb⟩; have hBw:=zac hBw hb; refine hK.out _ _ (Cs.below hHeld hb) (fun hHeld => ?_); clear hK K hb
 try simp only [sb9]
 refine tk 5 ?_
 refine tk 6 ?_
 refine tk 7 ?_
 refine tk 9 ?_
 refine rc 8 (fun K hK => ?_)
 go_simp
 go_at_call 54; (with_reducible refine (C1.out _ hBw).mono ?_); rintro e wa5 ⟨b4,B4,m4,d4,rfl,hw4,hb⟩; have hBw:=zac hBw hb; refine hK.out _ _ (Cs.below hHeld hb) (fun hHeld => ?_); clear hK K hb
 try simp only [sb9]
 refine rc 10 (fun K hK => ?_)
 go_simp
 go_at_call 54; (with_reducible refine (C2.out _ hBw).mono ?_); rintro e wa6 ⟨b5,B5,m5,d5,rfl,hw5,hb⟩; have hBw:=zac hBw hb; have hw4:=hw4.below hb; refine hK.out _ _ (Cs.below hHeld hb) (fun hHeld => ?_); clear hK K hb
 try simp only [sb9]
 refine rc 11 (fun K hK => ?_)
 go_simp
 go_at_call 64; (with_reducible refine (C3.out _ hBw _ _ _ _ hw4 _ _ _ _ hw5).mono ?_); rintro e wa7 ⟨rfl,hb⟩; have hBw:=zac hBw hb; have hw4:=hw4.below hb; have hw5:=hw5.below hb; refine hK.out _ _ (Cs.below hHeld hb) (fun hHeld => ?_); clear hK K hb
 try simp only [sb9]
 refine tk 12 ?_
 refine tk 13 ?_
 refine tk 14 ?_
 refine tk 15 ?_
 refine tk 17 ?_
 refine rc 16 (fun K hK => ?_)
 go_simp
 go_at_call 56; (with_reducible refine (C4.out _ hBw).mono ?_); rintro e wa8 ⟨B6,m6,d6,rfl,hw6,hb⟩; have hBw:=zac hBw hb; have hw4:=hw4.below hb; have hw5:=hw5.below hb; refine hK.out _ _ (Cs.below hHeld hb) (fun hHeld => ?_); clear hK K hb
 try simp only [sb9]
 refine rc 18 (fun K hK => ?_)
 go_simp
 go_at_call 56; (with_reducible refine (C5.out _ hBw).mono ?_); rintro e wa9 ⟨B7,m7,d7,rfl,hw7,hb⟩; have hBw:=zac hBw hb; have hw4:=hw4.below hb; have hw5:=hw5.below hb; have hw6:=hw6.below hb; refine hK.out _ _ (Cs.below hHeld hb) (fun hHeld => ?_); clear hK K hb
 try simp only [sb9]
 refine rc 19 (fun K hK => ?_)
 go_simp
 go_at_call 65; (with_reducible refine (C6.out _ hBw _ _ _ hw6 _ _ _ hw7).mono ?_); rintro e wa10 ⟨rfl,hb⟩; have hBw:=zac hBw hb; have hw4:=hw4.below hb; have hw5:=hw5.below hb; have hw6:=hw6.below hb; have hw7:=hw7.below hb; refine hK.out _ _ (Cs.below hHeld hb) (fun hHeld => ?_); clear hK K hb
 try simp only [sb9]
 refine tk 20 ?_
 refine tk 21 ?_
 refine tk 22 ?_
 refine rdn ?_
 have hB:=zac hB hBw
 have HNx:=lh9 (HNx.out.below hBw)
 have g1:=zad hBw g1
 have e1:=zad hBw e1
 have i1:=zad hBw i1
 have HN2:=lh9 (HN2.out.below hBw)
 have g3:=zad hBw g3
 have e3:=zad hBw e3
 have i3:=zad hBw i3
 have HN4:=lh9 hw4
 have HN5:=lh9 hw5
 have HN6:=lh9 hw6
 have HN7:=lh9 hw7
 clear hBw hHeld hw4 hw5 hw6 hw7 C0 C1 C2 C3 C4 C5 C6
 go_wp2
 go_ret
 exact ⟨by first | rfl | simp,hB⟩
end Go.Proofs.YtkiedljcgkoaiaaGreatDoor
