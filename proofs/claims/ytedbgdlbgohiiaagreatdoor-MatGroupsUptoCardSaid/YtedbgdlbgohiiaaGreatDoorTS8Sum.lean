/- What this claim leans on. -/
import Derived.Test.YtedbgdlbgohiiaaGreatDoorTJ8Add
namespace Go.Proofs.YtedbgdlbgohiiaaGreatDoor
open Go Go.RowKit
set_option maxHeartbeats 16000000
set_option maxRecDepth 100000
set_option linter.unusedVariables false
set_option linter.unusedSimpArgs false
structure zgA (w : World) (A : oA9) (n c : Nat) (rs : List Rat) : Prop where
 len : rs.length = n
 fits : n ≤ c
 most : c ≤ 9223372036854775807
 num : ∀ i,i < n → ∃ (ad : Addr) (b : Bool) (B : oA9) (m d : Nat) (E : oA9) (u v : Nat),A = some ad ∧ ad.block < w.heap.size ∧ w.cell? (ad.add (i * 3)) = some (.bool b) ∧ w.cell? (ad.add (i * 3 + 1)) = some (.slice B m d) ∧ w.cell? (ad.add (i * 3 + 2)) = some (.slice E u v) ∧ zaj w (rs.getD i 0) b B m d E u v
theorem zgA.below {w w' : World} {A : oA9} {n c : Nat} {rs : List Rat} (h : zgA w A n c rs) (hb : Below w.heap.size w w') : zgA w' A n c rs :=
 ⟨h.len,h.fits,h.most,fun i hi => by
  obtain ⟨ad,b,B,m,d,E,u,v,e,h1,h2,h3,h4,h5⟩:=h.num i hi
  exact ⟨ad,b,B,m,d,E,u,v,e,Nat.lt_of_lt_of_le h1 hb.size,zab hb h2,zab hb h3,zab hb h4,h5.below hb⟩⟩
def zgo (rs : List Rat) : Rat:=rs.foldl (fun a b => a + b) 0
theorem zmY (rs : List Rat) (r : Rat) : zgo (rs ++ [r]) = zgo rs + r:=by unfold zgo; rw [List.foldl_append]; rfl
theorem zmZ (rs : List Rat) (k : Nat) (h : k < rs.length) : zgo (rs.take (k + 1)) = zgo (rs.take k) + rs.getD k 0:=by
 rw [List.take_succ_eq_append_getElem h,zmY,List.getD_eq_getElem?_getD,List.getElem?_eq_getElem h]
 rfl
theorem zkV {w : World} {r : Rat} {b : Bool} {A E : oA9} {n c k f g : Nat} {t : TypeId} {p : Bool} {q q2 : oA9} {r1 s r2 s2 : Nat} (h : zaj w r b A n c E k f) (kd : Blk w g t #[.bool p,.slice q r1 s,.slice q2 r2 s2]) (x y z : Value) :
  zaj (((w.setCell ⟨g,0,none⟩ x).setCell ⟨g,1,none⟩ y).setCell ⟨g,2,none⟩ z) r b A n c E k f:=zgM h kd (NoU.s3 _ _ _ _ _ _ _) (off3 _ _ _ _ _)
theorem blk_far3 {w : World} {g g' : Nat} {t : TypeId} {cs : Array Value} (h : Blk w g t cs) (hne : g ≠ g') (x y z : Value) : Blk (((w.setCell ⟨g',0,none⟩ x).setCell ⟨g',1,none⟩ y).setCell ⟨g',2,none⟩ z) g t cs:=((h.far (p:=⟨g',0,none⟩) hne x).far (p:=⟨g',1,none⟩) hne y).far (p:=⟨g',2,none⟩) hne z
theorem cell_q1 {w : World} {ad : Addr} {k : Nat} {v : Value} (h : w.cell? (ad.add (k + 1)) = some v) : w.cell? ⟨(ad.add k).block,(ad.add k).off + 1,none⟩ = some v:=by
 rw [← Go.Deep.add_add] at h
 exact h
theorem cell_q2 {w : World} {ad : Addr} {k : Nat} {v : Value} (h : w.cell? (ad.add (k + 2)) = some v) : w.cell? ⟨(ad.add k).block,(ad.add k).off + 2,none⟩ = some v:=by
 rw [← Go.Deep.add_add] at h
 exact h
theorem rat_sum (rs : List Rat) (A : oA9) (n c K : Nat) (w : World) (hT : zak w) (h : zgA w A n c rs) (hn : n ≤ 1073741824) (hK : K ≤ 67108864) (he : ∀ i,i < n → SzQ K (rs.getD i 0)) (hs : ∀ k,k ≤ n → SzQ K (zgo (rs.take k))) :
  Calls Tryz.prog 68 #[.slice A n c] w (zaH w (zgo rs)):=by
 have HTB:=lh9 (fun w' (h : Below w.heap.size w w') => hT.on h)
 have HN:=lh9 (fun w' (hb : Below w.heap.size w w') => h.below hb)
 have HS:=lh9 hs
 have HE:=lh9 he
 have HSU:=lh9 (fun k (hk : k < n) => zmZ rs k (by rw [h.len]; exact hk))
 have HF : Hid (zgo (rs.take n) = zgo rs):=by
  show _ = _
  rw [List.take_of_length_le (by rw [h.len]; exact Nat.le_refl _)]
 clear h hs he hT
 go_enter Tryz.func68,Tryz.ntmps68
 go_wp2_with fail
 obtain ⟨hB,hk1,hp,b5⟩:=zbs w 48 48 #[.bool false,.slice none 0 0,.slice none 0 0] #[.bool false,.slice none 0 0,.slice none 0 0]
 generalize hV : (w.alloc (.cells #[.bool false,.slice none 0 0,.slice none 0 0] 48)).alloc (.cells #[.bool false,.slice none 0 0,.slice none 0 0] 48) = V1 at *
 clear hV b5
 obtain ⟨gp,hgp⟩ : ∃ g,w.heap.size + 1 = g:=⟨_,rfl⟩
 rw [hgp] at hp ⊢
 have hgw : w.heap.size < gp:=by omega
 go_loopg [9] (n + 1) (fun g ix wr => ∃ (k : Nat) (b : Bool) (Ap : oA9) (np cp : Nat) (Ep : oA9) (kp fp : Nat),k ≤ n ∧ n < g + k ∧ ix = .int .i64 k ∧ zaj wr (zgo (rs.take k)) b Ap np cp Ep kp fp ∧ Blk wr gp 48 #[.bool b,.slice Ap np cp,.slice Ep kp fp] ∧ Below w.heap.size w wr ∧ Blk wr w.heap.size 48 #[.bool false,.slice none 0 0,.slice none 0 0])
 case atStart => exact ⟨0,false,none,0,0,none,0,0,Nat.zero_le _,by omega,rfl,zgh _,hp,hB,hk1⟩
 case round =>
  clear hp hB hk1 hgp
  obtain ⟨k,b,Ap,np,cp,Ep,kp,fp,hkn,hg,rfl,hw,hp,hB,hk1⟩:=hrel
  by_cases hlt : k < n
  ·obtain ⟨ad,b1,B1,m1,d1,E1,u1,v1,rfl,hadb,hc0,hc1,hc2,hx⟩:=(HN.out _ hB).num k hlt
   have HM:=lh9 (fun w' (hb : Below wr.heap.size wr w') => zlJ (zgo (rs.take k)) (rs.getD k 0) b Ap np cp Ep kp fp b1 B1 m1 d1 E1 u1 v1 w' (HTB.out _ (zaa hB hb)) (hw.below hb) (hx.below hb) (SzQ.fit (HS.out k hkn) hw hK) (SzQ.fit (HE.out k hlt) hx hK))
   have hc1:=cell_q1 hc1
   have hc2:=cell_q2 hc2
   have i1 : (0 : Int) ≤ (k : Int):=by omega
   have i2 : (k : Int) < (n : Int):=by omega
   obtain ⟨p0,p1,p2⟩:=hp.c3
   obtain ⟨st,d2,d3⟩:=zaz wr 48 #[.bool b1,.slice B1 m1 d1,.slice E1 u1 v1]
   obtain ⟨q0,q1,q2⟩:=d2.c3
   have p3:=zab st p0
   have p4:=zab st p1
   have p5:=zab st p2
   have HM2:=lh9 (HM.out _ st)
   have HB1:=lh9 (zaa hB st)
   have HP1:=lh9 (zac st hp)
   have HK2:=lh9 (zac st hk1)
   clear hw hx hB hp hk1 HM st d2 d3
   go_wp2_with fail
   refine HM2.out.mono ?_
   rintro e w3 ⟨b3,A3,n3,c3,E3,k3,f3,rfl,hw3,hb⟩
   rw [← HSU.out k hlt] at hw3
   have hB3:=zaa HB1.out hb
   have hp3:=zac hb HP1.out
   have hk3:=zac hb HK2.out
   obtain ⟨sc0,sf0,sc1,sf1,sc2,sf2⟩:=st3 hp3 (.bool b3) (.slice A3 n3 c3)
   have hw4:=zkV hw3 hp3 (.bool b3) (.slice A3 n3 c3) (.slice E3 k3 f3)
   have hB4:=bl3 (.bool b3) (.slice A3 n3 c3) (.slice E3 k3 f3) (by show w.heap.size ≤ gp; omega) hB3
   have hp4:=sn3 hp3 (.bool b3) (.slice A3 n3 c3) (.slice E3 k3 f3)
   have hk4:=blk_far3 hk3 (by show w.heap.size ≠ gp; omega) (.bool b3) (.slice A3 n3 c3) (.slice E3 k3 f3)
   clear hb hB3 hp3 hk3 hw3 HM2 HB1 HP1 HK2 hc0 hc1 hc2 p0 p1 p2 p3 p4 p5 q0 q1 q2
   go_wp2
   go_roundg (n - k)
   case measure => omega
   case rel => exact ⟨k + 1,b3,A3,n3,c3,E3,k3,f3,by omega,by omega,by go_num,hw4,hp4,hB4,hk4⟩
  ·have hkn : k = n:=by omega
   subst hkn
   rw [HF.out] at hw
   obtain ⟨p0,p1,p2⟩:=hp.c3
   obtain ⟨sc0,sf0,sc1,sf1,sc2,sf2⟩:=st3 hk1 (.bool b) (.slice Ap np cp)
   obtain ⟨r0,r1,r2⟩:=(sn3 hk1 (.bool b) (.slice Ap np cp) (.slice Ep kp fp)).c3
   have HG:=lh9 (gq3 hw hk1 hB (Nat.le_refl _))
   clear hw hp hk1 hB
   go_wp2
   refine bodyPost_ret (v:=.agg #[.bool b,.slice Ap np cp,.slice Ep kp fp]) (by simp [results,Tryz.results68,go_sem,r0,r1,r2]) rfl ?_
   exact HG.out
theorem zlx {T : World → Prop} {M : Nat → Prop} (hTb : ∀ w w',T w → Below w.heap.size w w' → T w') (IC : IntC T) (QC : RatC T M) (p q : Int) (r : Rat) (K : Nat) (bx : Bool) (Bx : oA9) (mx dx : Nat) (Ex : oA9) (ux vx : Nat) (w : World) (hK : K ≤ 16777216) (hz : SzQ K r) (h : zaj w r bx Bx mx dx Ex ux vx) (hT : T w) (hp1 : -9223372036854775808 ≤ p) (hp2 : p ≤ 9223372036854775807) (hq1 : -9223372036854775808 ≤ q) (hq2 : q ≤ 9223372036854775807) (hq0 : q ≠ 0) (he : r = Rat.divInt p q) :
  Calls Tryz.prog 19 #[.agg #[.bool bx,.slice Bx mx dx,.slice Ex ux vx],.int .i64 p,.int .i64 q] w fun e w' => e = .returned (.bool true) ∧ Below w.heap.size w w':=by
 have HIC:=lh9 IC
 have HQC:=lh9 QC
 have HT:=lh9 (fun w' (hb : Below w.heap.size w w') => hTb w w' hT hb)
 have HE:=lh9 he
 have HZx:=lh9 hz
 have HNx:=lh9 h
 clear IC QC hT he hz h
 go_enter Tryz.func19,Tryz.ntmps19
 have hB:=Below.refl w.heap.size w
 obtain ⟨bx1,bx2,bz⟩:=zaz w 48 #[.bool bx,.slice Bx mx dx,.slice Ex ux vx]
 have hB:=zaa hB bx1
 have HNx:=lh9 (HNx.out.below bx1)
 obtain ⟨g1,e1,i1⟩:=bx2.c3
 clear bx1 bx2 bz
 go_wp2_with fail
 generalize w.alloc (.cells #[.bool bx,.slice Bx mx dx,.slice Ex ux vx] 48) = W1 at *
 have HZ2 : Hid (SzQ (1) (Rat.divInt p q)):=SzQ.made (K:=1) (by show Int.natAbs p < 18446744073709551616 ^ 1; have e1 : -9223372036854775808 ≤ p:=hp1; have e2 : p ≤ 9223372036854775807:=hp2; omega) (by show Int.natAbs q < 18446744073709551616 ^ 1; have e1 : -9223372036854775808 ≤ q:=hq1; have e2 : q ≤ 9223372036854775807:=hq2; omega) (by decide)
 (with_reducible refine (HQC.out.of p q _ (HT.out _ hB) hp1 hp2 hq1 hq2 hq0).mono ?_)
 rintro e wc2 ⟨b2,B2,m2,d2,E2,u2,v2,rfl,hw2,hb⟩
 have hB:=zaa hB hb
 have HNx:=lh9 (HNx.out.below hb)
 have g1:=zab hb g1
 have e1:=zab hb e1
 have i1:=zab hb i1
 have HN2:=lh9 hw2
 clear hb hw2
 obtain ⟨bx1,bx2,bz⟩:=zaz wc2 48 #[.bool b2,.slice B2 m2 d2,.slice E2 u2 v2]
 have hB:=zaa hB bx1
 have HNx:=lh9 (HNx.out.below bx1)
 have g1:=zab bx1 g1
 have e1:=zab bx1 e1
 have i1:=zab bx1 i1
 have HN2:=lh9 (HN2.out.below bx1)
 obtain ⟨g3,e3,i3⟩:=bx2.c3
 clear bx1 bx2 bz
 go_wp2_with fail
 generalize wc2.alloc (.cells #[.bool b2,.slice B2 m2 d2,.slice E2 u2 v2] 48) = W3 at *
 generalize wc2.heap.size = q3 at *
 have C0:=lh9 (fun w' (h : Below W3.heap.size W3 w') => zaw (decide_eq_true HE.out) (HQC.out.same (r) (Rat.divInt p q) bx b2 Bx B2 mx m2 dx d2 Ex E2 ux u2 vx v2 w' (HT.out _ (zaa hB h)) (HNx.out.below h) (HN2.out.below h) (szq HZx HNx.out) (szq HZ2 HN2.out)))
 have HZ4 : Hid (Sz (K) (r.num).natAbs):=SzQ.num HZx.out
 have C1:=lh9 (fun w' (h : Below W3.heap.size W3 w') => HQC.out.num (r) bx Bx mx dx Ex ux vx w' (HT.out _ (zaa hB h)) (HNx.out.below h) (szq HZx HNx.out))
 have HZ5 : Hid (Sz (1) ((Rat.divInt p q).num).natAbs):=SzQ.num HZ2.out
 have C2:=lh9 (fun w' (h : Below W3.heap.size W3 w') => HQC.out.num (Rat.divInt p q) b2 B2 m2 d2 E2 u2 v2 w' (HT.out _ (zaa hB h)) (HN2.out.below h) (szq HZ2 HN2.out))
 have C3:=lh9 (fun w' (h : Below W3.heap.size W3 w') b4 B4 m4 d4 (hw4 : zaB w' (r.num) b4 B4 m4 d4) b5 B5 m5 d5 (hw5 : zaB w' ((Rat.divInt p q).num) b5 B5 m5 d5) => icmp_eq (by rw [HE.out]) (HIC.out.cmp (r.num) ((Rat.divInt p q).num) b4 b5 B4 B5 m4 m5 d4 d5 w' (HT.out _ (zaa hB h)) hw4 hw5 (by have:=Sz.words HZ4.out hw4.words; omega) (by have:=Sz.words HZ5.out hw5.words; omega)))
 have HZ6 : Hid (Sz (K) (r.den)):=SzQ.den HZx.out
 have C4:=lh9 (fun w' (h : Below W3.heap.size W3 w') => HQC.out.den (r) bx Bx mx dx Ex ux vx w' (HT.out _ (zaa hB h)) (HNx.out.below h) (szq HZx HNx.out))
 have HZ7 : Hid (Sz (1) ((Rat.divInt p q).den)):=SzQ.den HZ2.out
 have C5:=lh9 (fun w' (h : Below W3.heap.size W3 w') => HQC.out.den (Rat.divInt p q) b2 B2 m2 d2 E2 u2 v2 w' (HT.out _ (zaa hB h)) (HN2.out.below h) (szq HZ2 HN2.out))
 have C6:=lh9 (fun w' (h : Below W3.heap.size W3 w') B6 m6 d6 (hw6 : zad w' (r.den) B6 m6 d6) B7 m7 d7 (hw7 : zad w' ((Rat.divInt p q).den) B7 m7 d7) => cmpEq (x:=r.den) (y:=(Rat.divInt p q).den) (by rw [HE.out]) hw6 hw7 (szw HZ6 hw6) (szw HZ7 hw7))
 have hBw:=(Below.refl W3.heap.size W3).drew
 refine rg (csc g1 (csc e1 (csc i1 (csc g3 (csc e3 (csc i3 csn)))))) (fun hHeld => ?_)
 refine tk 0 ?_
 refine tk 1 ?_
 refine tk 2 ?_
 refine tk 3 ?_
 refine rc 4 (fun K hK => ?_)
 go_simp
 go_at_call 44; (with_reducible refine (C0.out _ hBw).mono ?_); rintro e wa4 ⟨rfl,hb⟩; have hBw:=zaa hBw hb; refine hK.out _ _ (Cs.below hHeld hb) (fun hHeld => ?_); clear hK K hb
 try simp only [sb9]
 refine tk 5 ?_
 refine tk 6 ?_
 refine tk 7 ?_
 refine tk 9 ?_
 refine rc 8 (fun K hK => ?_)
 go_simp
 go_at_call 63; (with_reducible refine (C1.out _ hBw).mono ?_); rintro e wa5 ⟨b4,B4,m4,d4,rfl,hw4,hb⟩; have hBw:=zaa hBw hb; refine hK.out _ _ (Cs.below hHeld hb) (fun hHeld => ?_); clear hK K hb
 try simp only [sb9]
 refine rc 10 (fun K hK => ?_)
 go_simp
 go_at_call 63; (with_reducible refine (C2.out _ hBw).mono ?_); rintro e wa6 ⟨b5,B5,m5,d5,rfl,hw5,hb⟩; have hBw:=zaa hBw hb; have hw4:=hw4.below hb; refine hK.out _ _ (Cs.below hHeld hb) (fun hHeld => ?_); clear hK K hb
 try simp only [sb9]
 refine rc 11 (fun K hK => ?_)
 go_simp
 go_at_call 62; (with_reducible refine (C3.out _ hBw _ _ _ _ hw4 _ _ _ _ hw5).mono ?_); rintro e wa7 ⟨rfl,hb⟩; have hBw:=zaa hBw hb; have hw4:=hw4.below hb; have hw5:=hw5.below hb; refine hK.out _ _ (Cs.below hHeld hb) (fun hHeld => ?_); clear hK K hb
 try simp only [sb9]
 refine tk 12 ?_
 refine tk 13 ?_
 refine tk 14 ?_
 refine tk 15 ?_
 refine tk 17 ?_
 refine rc 16 (fun K hK => ?_)
 go_simp
 go_at_call 65; (with_reducible refine (C4.out _ hBw).mono ?_); rintro e wa8 ⟨B6,m6,d6,rfl,hw6,hb⟩; have hBw:=zaa hBw hb; have hw4:=hw4.below hb; have hw5:=hw5.below hb; refine hK.out _ _ (Cs.below hHeld hb) (fun hHeld => ?_); clear hK K hb
 try simp only [sb9]
 refine rc 18 (fun K hK => ?_)
 go_simp
 go_at_call 65; (with_reducible refine (C5.out _ hBw).mono ?_); rintro e wa9 ⟨B7,m7,d7,rfl,hw7,hb⟩; have hBw:=zaa hBw hb; have hw4:=hw4.below hb; have hw5:=hw5.below hb; have hw6:=hw6.below hb; refine hK.out _ _ (Cs.below hHeld hb) (fun hHeld => ?_); clear hK K hb
 try simp only [sb9]
 refine rc 19 (fun K hK => ?_)
 go_simp
 go_at_call 64; (with_reducible refine (C6.out _ hBw _ _ _ hw6 _ _ _ hw7).mono ?_); rintro e wa10 ⟨rfl,hb⟩; have hBw:=zaa hBw hb; have hw4:=hw4.below hb; have hw5:=hw5.below hb; have hw6:=hw6.below hb; have hw7:=hw7.below hb; refine hK.out _ _ (Cs.below hHeld hb) (fun hHeld => ?_); clear hK K hb
 try simp only [sb9]
 refine tk 20 ?_
 refine tk 21 ?_
 refine tk 22 ?_
 refine rdn ?_
 have hB:=zaa hB hBw
 have HNx:=lh9 (HNx.out.below hBw)
 have g1:=zab hBw g1
 have e1:=zab hBw e1
 have i1:=zab hBw i1
 have HN2:=lh9 (HN2.out.below hBw)
 have g3:=zab hBw g3
 have e3:=zab hBw e3
 have i3:=zab hBw i3
 have HN4:=lh9 hw4
 have HN5:=lh9 hw5
 have HN6:=lh9 hw6
 have HN7:=lh9 hw7
 clear hBw hHeld hw4 hw5 hw6 hw7 C0 C1 C2 C3 C4 C5 C6
 go_wp2
 go_ret
 exact ⟨by first | rfl | simp,hB⟩
end Go.Proofs.YtedbgdlbgohiiaaGreatDoor
