/- What this claim leans on. -/
import Derived.Test.YtedbgdlbgohiiaaGreatDoorTVPair
import Derived.Deep.Matrix
namespace Go.Proofs.YtedbgdlbgohiiaaGreatDoor
open Go Go.RowKit
open Go.ChangeShapes Go.WideShapes Go.ChangeAt
set_option maxHeartbeats 16000000
set_option linter.unusedVariables false
namespace UA
set_option maxHeartbeats 16000000
theorem one_le {H : Type} (d : DataW H) : 1 ≤ Rows.uptoBulk d:=by
 cases d with
 | lit l => cases l <;> simp [Rows.uptoBulk]
 | nil => simp [Rows.uptoBulk]
 | ptr d => simp [Rows.uptoBulk]
 | slice elems spare => simp [Rows.uptoBulk]
 | agg parts => simp [Rows.uptoBulk]
 | iface t d => simp [Rows.uptoBulk]
 | map entries => simp [Rows.uptoBulk]
 | held h => simp [Rows.uptoBulk]
theorem zhN {H : Type} (l : List (DataW H)) : l.length ≤ Rows.uptoBulkAll l:=by
 induction l with
 | nil => simp [Rows.uptoBulkAll]
 | cons x r ih => have:=one_le x; simp only [Rows.uptoBulkAll,List.length_cons]; omega
theorem slice_le {H : Type} (elems spare : List (DataW H)) : elems.length + spare.length + 1 ≤ Rows.uptoBulk (.slice elems spare):=by
 have h1:=zhN elems
 have h2:=zhN spare
 simp only [Rows.uptoBulk]
 omega
end UA
end Go.Proofs.YtedbgdlbgohiiaaGreatDoor
namespace Go.Proofs.YtedbgdlbgohiiaaGreatDoor
open Go Go.RowKit
open Go.ChangeShapes Go.WideShapes Go.ChangeAt Go.Deep
set_option maxHeartbeats 16000000
set_option linter.unusedVariables false
end Go.Proofs.YtedbgdlbgohiiaaGreatDoor
namespace Go.Proofs.YtedbgdlbgohiiaaGreatDoor
open Go Go.RowKit
open Go.ChangeShapes Go.WideShapes Go.ChangeAt Go.Deep
set_option maxHeartbeats 16000000
set_option linter.unusedVariables false
end Go.Proofs.YtedbgdlbgohiiaaGreatDoor
namespace Go.Proofs.YtedbgdlbgohiiaaGreatDoor
open Go Go.RowKit
open Go.ChangeShapes Go.WideShapes Go.ChangeAt Go.Deep
set_option maxHeartbeats 16000000
set_option linter.unusedVariables false
namespace UA
set_option maxHeartbeats 16000000
theorem mem_le {H : Type} {d : DataW H} {l : List (DataW H)} (h : d ∈ l) : Rows.uptoBulk d ≤ Rows.uptoBulkAll l:=by
 induction l with
 | nil => cases h
 | cons x r ih =>
   simp only [Rows.uptoBulkAll]
   rcases List.mem_cons.1 h with rfl | h
   ·omega
   ·have:=ih h; omega
end UA
end Go.Proofs.YtedbgdlbgohiiaaGreatDoor
namespace Go.Proofs.YtedbgdlbgohiiaaGreatDoor
open Go Go.RowKit
set_option maxHeartbeats 16000000
set_option linter.unusedVariables false
theorem zbD {P : Program} {f : FuncId} {args : Array Value} {w : World} {z v : Int} (e : z = v) (h : Calls P f args w (zbP w z)) : Calls P f args w fun e w' => e = .returned (.int .i64 v) ∧ Below w.heap.size w w':=by
 subst e; exact h
theorem zat {P : Program} {f : FuncId} {args : Array Value} {w : World} {b t : Bool} (e : b = t) (h : Calls P f args w fun e w' => e = .returned (.bool b) ∧ Below w.heap.size w w') : Calls P f args w fun e w' => e = .returned (.bool t) ∧ Below w.heap.size w w':=by
 subst e; exact h
theorem inew_pos {T : World → Prop} (IC : IntC T) (x : Nat) (A : oA9) (n c : Nat) (w : World) (hT : T w) (h : zad w x A n c) (hn : n ≤ 268435456) : Calls Tryz.prog 130 #[.bool false,.agg #[.slice A n c]] w (zaQ w (x : Int)) :=
 IC.new false x A n c w hT h hn
end Go.Proofs.YtedbgdlbgohiiaaGreatDoor
namespace Go.Proofs.YtedbgdlbgohiiaaGreatDoor
open Go Go.RowKit
set_option maxHeartbeats 16000000
set_option maxRecDepth 100000
set_option linter.unusedVariables false
set_option linter.unusedSimpArgs false
end Go.Proofs.YtedbgdlbgohiiaaGreatDoor
namespace Go.Proofs.YtedbgdlbgohiiaaGreatDoor
open Go Go.RowKit
set_option maxHeartbeats 16000000
set_option maxRecDepth 100000
set_option linter.unusedVariables false
set_option linter.unusedSimpArgs false
end Go.Proofs.YtedbgdlbgohiiaaGreatDoor
namespace Go.Proofs.YtedbgdlbgohiiaaGreatDoor
open Go Go.RowKit
set_option maxHeartbeats 16000000
set_option linter.unusedVariables false
theorem zbB {T : World → Prop} : IntC T where
 new s x A n c w _ hA hn:=zjo s x A n c w hA (by omega)
 of z w _ h1 h2:=zkv z w h1 h2
 belowI z b A n c w _ hA hn:=zhx z b A n c w hA
 abs z b A n c w _ hA hn:=(zjk z b A n c w hA (by omega)).mono fun _ _ ⟨A',n',c',he,hw,hb,_⟩ => ⟨A',n',c',he,hw,hb⟩
 sign z b A n c w _ hA hn:=zit z b A n c w hA
 cmp x y b b' A D n m c d w _ hA hD hn hm:=zjm x y b b' A D n m c d w hA hD (by omega) (by omega)
 add x y b b' A D n m c d w _ hA hD hn hm:=zjl x y b b' A D n m c d w hA hD (by omega) (by omega)
 mul x y b b' A D n m c d w _ hA hD hn hm:=zjn x y b b' A D n m c d w hA hD (by omega) (by omega)
end Go.Proofs.YtedbgdlbgohiiaaGreatDoor
namespace Go.Proofs.YtedbgdlbgohiiaaGreatDoor
open Go Go.RowKit
set_option maxHeartbeats 16000000
set_option maxRecDepth 100000
set_option linter.unusedVariables false
set_option linter.unusedSimpArgs false
theorem ziJ (p : Int) (w : World) (hT : zak w) (hp1 : -9223372036854775808 ≤ p) (hp2 : p ≤ 9223372036854775807) :
  Calls Tryz.prog 27 #[.int .i64 p] w (zaG w (p : Rat)):=by
 have HIC:=lh9 (zbB (T:=zak))
 have HGC:=lh9 zbH
 have HT:=lh9 (fun w' (hb : Below w.heap.size w w') => hT.on hb)
 have HTB:=HT
 obtain ⟨K,hKe⟩ : ∃ K,67108864 = K:=⟨_,rfl⟩
 have hKK : K ≤ 67108864:=by omega
 have hK0 : 0 < K:=by omega
 clear hT hKe
 go_enter Tryz.func27,Tryz.ntmps27
 have hB:=Below.refl w.heap.size w
 obtain ⟨bx1,bx2,bz⟩:=zaE w 48 #[.bool false,.slice none 0 0,.slice none 0 0]
 have hB:=zaa hB bx1
 have k1:=bx2
 clear bx1 bx2 bz
 go_wp2_with fail
 generalize w.alloc (.cells #[.bool false,.slice none 0 0,.slice none 0 0] 48) = W1 at *
 have HZ2 : Hid (Sz (1) (p).natAbs):=(by show Int.natAbs p < 18446744073709551616 ^ 1; have e1 : -9223372036854775808 ≤ p:=hp1; have e2 : p ≤ 9223372036854775807:=hp2; omega)
 (with_reducible refine (HIC.out.of p _ (HT.out _ hB) hp1 hp2).mono ?_)
 rintro e wc2 ⟨b2,B2,m2,d2,rfl,hw2,hb⟩
 have hB:=zaa hB hb
 have k1:=zac hb k1
 have HN2:=lh9 hw2
 clear hb hw2
 obtain ⟨sc0,sf0,sc1,sf1,sc2,sf2⟩:=st3 k1 (.bool b2) (.slice B2 m2 d2)
 obtain ⟨r0,r1,r2⟩:=(sn3 k1 (.bool b2) (.slice B2 m2 d2) (.slice none 0 0)).c3
 have HG:=lh9 (gq3 (zeg HN2.out) k1 hB (by omega))
 go_wp2
 refine bodyPost_ret (v:=.agg #[.bool b2,.slice B2 m2 d2,.slice none 0 0]) (by simp [results,Tryz.results27,go_sem,r0,r1,r2]) rfl ?_
 exact HG.out
end Go.Proofs.YtedbgdlbgohiiaaGreatDoor
namespace Go.Proofs.YtedbgdlbgohiiaaGreatDoor
open Go Go.RowKit
set_option maxHeartbeats 16000000
set_option maxRecDepth 100000
set_option linter.unusedVariables false
set_option linter.unusedSimpArgs false
def RefIn (w : World) (z : Int) (b : Bool) (A : oA9) (n c : Nat) : Prop:=b = decide (z < 0) ∧ zct w z.natAbs A n c
theorem RefIn.below {w w' : World} {z : Int} {b : Bool} {A : oA9} {n c : Nat} (h : RefIn w z b A n c) (hb : Below w.heap.size w w') : RefIn w' z b A n c:=⟨h.1,h.2.below hb⟩
end Go.Proofs.YtedbgdlbgohiiaaGreatDoor
namespace Go.Proofs.YtedbgdlbgohiiaaGreatDoor
open Go Go.RowKit
set_option maxHeartbeats 16000000
set_option maxRecDepth 100000
set_option linter.unusedVariables false
set_option linter.unusedSimpArgs false
def RefQ (w : World) (r : Rat) (b : Bool) (A : oA9) (n c : Nat) (E : oA9) (k f : Nat) : Prop:=RefIn w r.num b A n c ∧ zct w r.den E k f
theorem RefQ.below {w w' : World} {r : Rat} {b : Bool} {A : oA9} {n c : Nat} {E : oA9} {k f : Nat} (h : RefQ w r b A n c E k f) (hb : Below w.heap.size w w') : RefQ w' r b A n c E k f:=⟨h.1.below hb,h.2.below hb⟩
end Go.Proofs.YtedbgdlbgohiiaaGreatDoor
namespace Go.Proofs.YtedbgdlbgohiiaaGreatDoor
open Go Go.RowKit
set_option maxHeartbeats 16000000
set_option maxRecDepth 100000
set_option linter.unusedVariables false
set_option linter.unusedSimpArgs false
theorem zlr {T : World → Prop} {M : Nat → Prop} (hTb : ∀ w w',T w → Below w.heap.size w w' → T w') (IC : IntC T) (QC : RatC T M) (p q : Int) (r : Rat) (K : Nat) (bx : Bool) (Bx : oA9) (mx dx : Nat) (Ex : oA9) (ux vx : Nat) (w : World) (hK : K ≤ 16777216) (hz : SzQ K r) (h : zaj w r bx Bx mx dx Ex ux vx) (hT : T w) (hp1 : -9223372036854775808 ≤ p) (hp2 : p ≤ 9223372036854775807) (hq1 : -9223372036854775808 ≤ q) (hq2 : q ≤ 9223372036854775807) (hq0 : q ≠ 0) (he : r = Rat.divInt p q) :
  Calls Tryz.prog 19 #[.agg #[.bool bx,.slice Bx mx dx,.slice Ex ux vx],.int .i64 p,.int .i64 q] w fun e w' => e = .returned (.bool true) ∧ Below w.heap.size w w':=by
 have HIC:=lh9 IC
 have HQC:=lh9 QC
 have HT:=lh9 (fun w' (hb : Below w.heap.size w w') => hTb w w' hT hb)
 have HE:=lh9 he
 have HZx:=lh9 hz
 have HNx:=lh9 h
 clear IC QC hT he hz h
 go_enter Tryz.func19,Tryz.ntmps19
 have hB:=Below.refl w.heap.size w
 obtain ⟨bx1,bx2,bz⟩:=zaE w 48 #[.bool bx,.slice Bx mx dx,.slice Ex ux vx]
 have hB:=zaa hB bx1
 have HNx:=lh9 (HNx.out.below bx1)
 obtain ⟨g1,e1,i1⟩:=bx2.c3
 clear bx1 bx2 bz
 go_wp2_with fail
 generalize w.alloc (.cells #[.bool bx,.slice Bx mx dx,.slice Ex ux vx] 48) = W1 at *
 have HZ2 : Hid (SzQ (1) (Rat.divInt p q)):=SzQ.made (K:=1) (by show Int.natAbs p < 18446744073709551616 ^ 1; have e1 : -9223372036854775808 ≤ p:=hp1; have e2 : p ≤ 9223372036854775807:=hp2; omega) (by show Int.natAbs q < 18446744073709551616 ^ 1; have e1 : -9223372036854775808 ≤ q:=hq1; have e2 : q ≤ 9223372036854775807:=hq2; omega) (by decide)
 (with_reducible refine (HQC.out.of p q _ (HT.out _ hB) hp1 hp2 hq1 hq2 hq0).mono ?_)
 rintro e wc2 ⟨b2,B2,m2,d2,E2,u2,v2,rfl,hw2,hb⟩
 have hB:=zaa hB hb
 have HNx:=lh9 (HNx.out.below hb)
 have g1:=zab hb g1
 have e1:=zab hb e1
 have i1:=zab hb i1
 have HN2:=lh9 hw2
 clear hb hw2
 obtain ⟨bx1,bx2,bz⟩:=zaE wc2 48 #[.bool b2,.slice B2 m2 d2,.slice E2 u2 v2]
 have hB:=zaa hB bx1
 have HNx:=lh9 (HNx.out.below bx1)
 have g1:=zab bx1 g1
 have e1:=zab bx1 e1
 have i1:=zab bx1 i1
 have HN2:=lh9 (HN2.out.below bx1)
 obtain ⟨g3,e3,i3⟩:=bx2.c3
 clear bx1 bx2 bz
 go_wp2_with fail
 generalize wc2.alloc (.cells #[.bool b2,.slice B2 m2 d2,.slice E2 u2 v2] 48) = W3 at *
 generalize wc2.heap.size = q3 at *
 have C0:=lh9 (fun w' (h : Below W3.heap.size W3 w') => zat (decide_eq_true HE.out) (HQC.out.same (r) (Rat.divInt p q) bx b2 Bx B2 mx m2 dx d2 Ex E2 ux u2 vx v2 w' (HT.out _ (zaa hB h)) (HNx.out.below h) (HN2.out.below h) (szq HZx HNx.out) (szq HZ2 HN2.out)))
 have HZ4 : Hid (Sz (K) (r.num).natAbs):=SzQ.num HZx.out
 have C1:=lh9 (fun w' (h : Below W3.heap.size W3 w') => HQC.out.num (r) bx Bx mx dx Ex ux vx w' (HT.out _ (zaa hB h)) (HNx.out.below h) (szq HZx HNx.out))
 have HZ5 : Hid (Sz (1) ((Rat.divInt p q).num).natAbs):=SzQ.num HZ2.out
 have C2:=lh9 (fun w' (h : Below W3.heap.size W3 w') => HQC.out.num (Rat.divInt p q) b2 B2 m2 d2 E2 u2 v2 w' (HT.out _ (zaa hB h)) (HN2.out.below h) (szq HZ2 HN2.out))
 have C3:=lh9 (fun w' (h : Below W3.heap.size W3 w') b4 B4 m4 d4 (hw4 : zaA w' (r.num) b4 B4 m4 d4) b5 B5 m5 d5 (hw5 : zaA w' ((Rat.divInt p q).num) b5 B5 m5 d5) => icmp_eq (by rw [HE.out]) (HIC.out.cmp (r.num) ((Rat.divInt p q).num) b4 b5 B4 B5 m4 m5 d4 d5 w' (HT.out _ (zaa hB h)) hw4 hw5 (by have:=Sz.words HZ4.out hw4.words; omega) (by have:=Sz.words HZ5.out hw5.words; omega)))
 have HZ6 : Hid (Sz (K) (r.den)):=SzQ.den HZx.out
 have C4:=lh9 (fun w' (h : Below W3.heap.size W3 w') => HQC.out.den (r) bx Bx mx dx Ex ux vx w' (HT.out _ (zaa hB h)) (HNx.out.below h) (szq HZx HNx.out))
 have HZ7 : Hid (Sz (1) ((Rat.divInt p q).den)):=SzQ.den HZ2.out
 have C5:=lh9 (fun w' (h : Below W3.heap.size W3 w') => HQC.out.den (Rat.divInt p q) b2 B2 m2 d2 E2 u2 v2 w' (HT.out _ (zaa hB h)) (HN2.out.below h) (szq HZ2 HN2.out))
 have C6:=lh9 (fun w' (h : Below W3.heap.size W3 w') B6 m6 d6 (hw6 : zad w' (r.den) B6 m6 d6) B7 m7 d7 (hw7 : zad w' ((Rat.divInt p q).den) B7 m7 d7) => cmpEq (x:=r.den) (y:=(Rat.divInt p q).den) (by rw [HE.out]) hw6 hw7 (szw HZ6 hw6) (szw HZ7 hw7))
 have hBw:=(Below.refl W3.heap.size W3).drew
 refine rg (csc g1 (csc e1 (csc i1 (csc g3 (csc e3 (csc i3 csn)))))) (fun hHeld => ?_)
 refine tk 0 ?_
 refine tk 1 ?_
 refine tk 2 ?_
 refine tk 3 ?_
 refine rc 4 (fun K hK => ?_)
 go_simp
 go_at_call 44; (with_reducible refine (C0.out _ hBw).mono ?_); rintro e wa4 ⟨rfl,hb⟩; have hBw:=zaa hBw hb; refine hK.out _ _ (Cs.below hHeld hb) (fun hHeld => ?_); clear hK K hb
 try simp only [sb9]
 refine tk 5 ?_
 refine tk 6 ?_
 refine tk 7 ?_
 refine tk 9 ?_
 refine rc 8 (fun K hK => ?_)
 go_simp
 go_at_call 63; (with_reducible refine (C1.out _ hBw).mono ?_); rintro e wa5 ⟨b4,B4,m4,d4,rfl,hw4,hb⟩; have hBw:=zaa hBw hb; refine hK.out _ _ (Cs.below hHeld hb) (fun hHeld => ?_); clear hK K hb
 try simp only [sb9]
 refine rc 10 (fun K hK => ?_)
 go_simp
 go_at_call 63; (with_reducible refine (C2.out _ hBw).mono ?_); rintro e wa6 ⟨b5,B5,m5,d5,rfl,hw5,hb⟩; have hBw:=zaa hBw hb; have hw4:=hw4.below hb; refine hK.out _ _ (Cs.below hHeld hb) (fun hHeld => ?_); clear hK K hb
 try simp only [sb9]
 refine rc 11 (fun K hK => ?_)
 go_simp
 go_at_call 62; (with_reducible refine (C3.out _ hBw _ _ _ _ hw4 _ _ _ _ hw5).mono ?_); rintro e wa7 ⟨rfl,hb⟩; have hBw:=zaa hBw hb; have hw4:=hw4.below hb; have hw5:=hw5.below hb; refine hK.out _ _ (Cs.below hHeld hb) (fun hHeld => ?_); clear hK K hb
 try simp only [sb9]
 refine tk 12 ?_
 refine tk 13 ?_
 refine tk 14 ?_
 refine tk 15 ?_
 refine tk 17 ?_
 refine rc 16 (fun K hK => ?_)
 go_simp
 go_at_call 65; (with_reducible refine (C4.out _ hBw).mono ?_); rintro e wa8 ⟨B6,m6,d6,rfl,hw6,hb⟩; have hBw:=zaa hBw hb; have hw4:=hw4.below hb; have hw5:=hw5.below hb; refine hK.out _ _ (Cs.below hHeld hb) (fun hHeld => ?_); clear hK K hb
 try simp only [sb9]
 refine rc 18 (fun K hK => ?_)
 go_simp
 go_at_call 65; (with_reducible refine (C5.out _ hBw).mono ?_); rintro e wa9 ⟨B7,m7,d7,rfl,hw7,hb⟩; have hBw:=zaa hBw hb; have hw4:=hw4.below hb; have hw5:=hw5.below hb; have hw6:=hw6.below hb; refine hK.out _ _ (Cs.below hHeld hb) (fun hHeld => ?_); clear hK K hb
 try simp only [sb9]
 refine rc 19 (fun K hK => ?_)
 go_simp
 go_at_call 64; (with_reducible refine (C6.out _ hBw _ _ _ hw6 _ _ _ hw7).mono ?_); rintro e wa10 ⟨rfl,hb⟩; have hBw:=zaa hBw hb; have hw4:=hw4.below hb; have hw5:=hw5.below hb; have hw6:=hw6.below hb; have hw7:=hw7.below hb; refine hK.out _ _ (Cs.below hHeld hb) (fun hHeld => ?_); clear hK K hb
 try simp only [sb9]
 refine tk 20 ?_
 refine tk 21 ?_
 refine tk 22 ?_
 refine rdn ?_
 have hB:=zaa hB hBw
 have HNx:=lh9 (HNx.out.below hBw)
 have g1:=zab hBw g1
 have e1:=zab hBw e1
 have i1:=zab hBw i1
 have HN2:=lh9 (HN2.out.below hBw)
 have g3:=zab hBw g3
 have e3:=zab hBw e3
 have i3:=zab hBw i3
 have HN4:=lh9 hw4
 have HN5:=lh9 hw5
 have HN6:=lh9 hw6
 have HN7:=lh9 hw7
 clear hBw hHeld hw4 hw5 hw6 hw7 C0 C1 C2 C3 C4 C5 C6
 go_wp2
 go_ret
 exact ⟨by first | rfl | simp,hB⟩
end Go.Proofs.YtedbgdlbgohiiaaGreatDoor
