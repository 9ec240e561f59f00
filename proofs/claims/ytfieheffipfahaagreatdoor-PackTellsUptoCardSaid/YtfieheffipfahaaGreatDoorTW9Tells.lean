/- What this claim leans on. -/
import Derived.Test.YtfieheffipfahaaGreatDoorTR9D
namespace Go.Proofs.YtfieheffipfahaaGreatDoor
open Go Go.RowKit
set_option maxHeartbeats 16000000
set_option maxRecDepth 100000
set_option linter.unusedVariables false
set_option linter.unusedSimpArgs false
theorem znR (x : Rat) : (zfi x).named := by
 unfold zfi
 split
 ·exact .inr rfl
 ·split
  ·exact .inl rfl
  ·trivial
theorem fOf_sz40 {w : World} {s : Bool} {A E : oA9} {n c u v : Nat} {l e : List Nat} (h : zav w A n c l) (k : zav w E u v e) (hn : n ≤ 40) (hu : u ≤ 40) : SzQ 40 (fOf s l e) := by
 have hs : ∀ {A : oA9} {n c : Nat} {l : List Nat},zav w A n c l → n ≤ 40 → Sz 40 (dv 18446744073709551616 l) := fun {A n c l} h hn => by
  have h1 := zbu h.dgs
  rw [h.reads.len_] at h1
  exact Nat.lt_of_lt_of_le h1 (Nat.pow_le_pow_right (by decide) hn)
 exact SzQ.made (by rw [zgb]; exact hs h hn) (by rw [Int.natAbs_natCast]; exact dOf_sz (hs k hu) (by decide)) (by decide)
theorem zim (s0 : Bool) (A0 : oA9) (n0 c0 : Nat) (l0 : List Nat) (E0 : oA9) (u0 v0 : Nat) (e0 : List Nat) (w : World) (h0 : zav w A0 n0 c0 l0) (k0 : zav w E0 u0 v0 e0) (hT : Tab9 w) (hs : ¬ (n0 ≤ 40 ∧ u0 ≤ 40)) :
  Calls Tryz.prog 3 #[.agg #[.bool s0,.slice A0 n0 c0,.slice E0 u0 v0]] w fun e w' => e = .returned (.bool true) ∧ Below w.heap.size w w' := by
 have HT := lh9 (fun w' (hb : Below w.heap.size w w') => hT.on hb)
 have HAW := lh9 (fun w' (hb : Below w.heap.size w w') => zhJ w' (hT.on hb))
 clear h0 k0
 obtain ⟨bx1,bx2,bz⟩ := zaA w 26 #[.bool s0,.slice A0 n0 c0,.slice E0 u0 v0]
 have hB := bx1
 have kp := bx2
 clear bx1 bx2 bz
 go_enter Tryz.func3,Tryz.ntmps3
 go_wp2_with fail
 refine (HAW.out _ hB).mono ?_
 rintro e w1 ⟨rfl,hb⟩
 have kp := zae hb kp
 have hB := zac hB hb
 clear hb HAW
 obtain ⟨g1,e1,i1⟩ := kp.c3
 by_cases hn : n0 ≤ 40
 ·have j1 : ¬ ((40 : Int) < (n0 : Int)) := by omega
  have j2 : (40 : Int) < (u0 : Int) := by omega
  clear hs hn
  go_wp2
  go_ret
  exact ⟨rfl,hB⟩
 ·have j1 : (40 : Int) < (n0 : Int) := by omega
  clear hs hn
  go_wp2
  go_ret
  exact ⟨rfl,hB⟩
theorem zgR (s0 : Bool) (A0 : oA9) (n0 c0 : Nat) (l0 : List Nat) (E0 : oA9) (u0 v0 : Nat) (e0 : List Nat) (w : World) (h0 : zav w A0 n0 c0 l0) (k0 : zav w E0 u0 v0 e0) (hT : Tab9 w) (hs0 : n0 ≤ 40) (hs1 : u0 ≤ 40) :
  Calls Tryz.prog 3 #[.agg #[.bool s0,.slice A0 n0 c0,.slice E0 u0 v0]] w fun e w' => e = .returned (.bool true) ∧ Below w.heap.size w w' := by
 have HT := lh9 (fun w' (hb : Below w.heap.size w w') => hT.on hb)
 have HAW := lh9 (fun w' (hb : Below w.heap.size w w') => zhJ w' (hT.on hb))
 have HM0 := lh9 (fun w' (hb : Below w.heap.size w w') => make9 s0 A0 n0 c0 l0 E0 u0 v0 e0 w w' h0 k0 hb (hT.on hb))
 have HRF := lh9 (fun w' (hb : Below w.heap.size w w') => law8_ref s0 A0 n0 c0 l0 E0 u0 v0 e0 w' ⟨(h0.reads.below hb).more hb.size,h0.dgs,h0.fits,h0.small⟩ ⟨(k0.reads.below hb).more hb.size,k0.dgs,k0.fits,k0.small⟩)
 have S0 : SzQ 40 (fOf s0 l0 e0) := fOf_sz40 h0 k0 hs0 hs1
 obtain ⟨x,hz0⟩ : ∃ x,fOf s0 l0 e0 = x := ⟨_,rfl⟩
 rw [hz0] at HM0 HRF S0
 have HE := lh9 (fun w' b A n c E u v h hz h2 => zgH x b A n c E u v w' h hz h2)
 unfold zdC at HE
 have HG := lh9 (fun b A n c E u v w' h hn hu => zlq x b A n c E u v w' h hn hu)
 unfold zda at HG
 have HLK := lh9 (fun v w' h hg => znY (zfi x) v w' h hg (znR x))
 have HT1 := lh9 (fun w' b A n c E u v hT h hq => ziT x b A n c E u v w' hT h hq)
 have HT2 := lh9 (fun b A n c E u v w' h hn hu => zom x b A n c E u v w' h hn hu)
 obtain ⟨EE,hEE⟩ : ∃ b,zfi x = b := ⟨_,rfl⟩
 obtain ⟨EL,hEL⟩ : ∃ b,encL x = b := ⟨_,rfl⟩
 obtain ⟨TX,hTX⟩ : ∃ b,zas (zdM x) = b := ⟨_,rfl⟩
 obtain ⟨en,hen⟩ : ∃ b,EE.n = b := ⟨_,rfl⟩
 obtain ⟨es,hes⟩ : ∃ b,EE.s = b := ⟨_,rfl⟩
 obtain ⟨ek,hek⟩ : ∃ b,EE.k = b := ⟨_,rfl⟩
 simp only [hEE,hEL,hTX,hen,hes,hek] at HE HG HLK HT1 HT2
 obtain ⟨K,hK⟩ : ∃ K,40 = K := ⟨_,rfl⟩
 have hKK : K ≤ 40 := by omega
 rw [hK] at S0
 have HS0 := lh9 S0
 have j1 : ¬ ((40 : Int) < (n0 : Int)) := by omega
 have j2 : ¬ ((40 : Int) < (u0 : Int)) := by omega
 clear hT h0 k0 S0 hz0 hK hEE hEL hTX hen hes hek hs0 hs1
 go_enter Tryz.func3,Tryz.ntmps3
 have hB := Below.refl w.heap.size w
 obtain ⟨bx1,bx2,bz⟩ := zaA w 26 #[.bool s0,.slice A0 n0 c0,.slice E0 u0 v0]
 have hB := zac hB bx1
 obtain ⟨g1,e1,i1⟩ := bx2.c3
 clear bx1 bx2 bz
 go_wp2_with fail
 generalize w.alloc (.cells #[.bool s0,.slice A0 n0 c0,.slice E0 u0 v0] 26) = W1 at *
 (with_reducible refine (HAW.out _ hB).mono ?_)
 rintro e wc2 ⟨rfl,hb⟩
 have hB := zac hB hb
 have g1 := zad hb g1
 have e1 := zad hb e1
 have i1 := zad hb i1
 clear hb 
 go_wp2_with fail
 have HZ2 : Hid (SzQ (K) (x)) := HS0.out
 have C0 := lh9 (fun w' (h : Below wc2.heap.size wc2 w') => HM0.out _ (zac hB h))
 have HZ3 : Hid (SzQ (K) (x)) := HS0.out
 have C1 := lh9 (fun w' (h : Below wc2.heap.size wc2 w') => HRF.out _ (zac hB h))
 have GG := lh9 (fun w' (h : Below wc2.heap.size wc2 w') => (csc (zad h g1) (csc (zad h e1) (csc (zad h i1) csn))))
 refine rgB (fun hHeld => ?_)
 refine tl 0 GG.out ?_
 refine tl 2 GG.out ?_
 refine zbo (L := #[true,true,true,true,true,true,true,true])
  (J := fun a0 l a w' => ∃ (fl1 fl3 fl4 fl5 fl6 fl7 b2 : Bool) (B2 : oA9) (m2 d2 : Nat) (E2 : oA9) (u2 v2 : Nat) (b3 : Bool) (B3 : oA9) (m3 d3 : Nat) (E3 : oA9) (u3 v3 ad4 ad5 : Nat),l = #[true,fl1,true,fl3,fl4,fl5,fl6,fl7] ∧ zcB [23,25,3,4] a0 a ∧ Hid (Below wc2.heap.size wc2 w') ∧
    Hid (Gd fl1 (a.tmps.getD 23 undef = .agg #[.bool b2,.slice B2 m2 d2,.slice E2 u2 v2] ∧ zau w' (x) b2 B2 m2 d2 E2 u2 v2)) ∧
    Hid (Gd fl3 (a.tmps.getD 25 undef = .agg #[.bool b3,.slice B3 m3 d3,.slice E3 u3 v3] ∧ zeo w' (x) b3 B3 m3 d3 E3 u3 v3)) ∧
    Hid (Gd fl4 (a.tmps.getD 3 undef = .pointer (some ⟨ad4,0,none⟩) ∧ wc2.heap.size ≤ ad4 ∧ Blk w' ad4 33 (bif fl6 then #[.bool b2,.slice B2 m2 d2,.slice E2 u2 v2] else #[.bool false,.slice none 0 0,.slice none 0 0]))) ∧
    Hid (Gd fl5 (a.tmps.getD 4 undef = .pointer (some ⟨ad5,0,none⟩) ∧ wc2.heap.size ≤ ad5 ∧ Blk w' ad5 40 (bif fl7 then #[.bool b3,.slice B3 m3 d3,.slice E3 u3 v3] else #[.bool false,.slice none 0 0,.slice none 0 0]))) ∧
    Hid (Gd fl4 (Gd fl5 (ad4 ≠ ad5))) ∧
    Hid (Gd fl3 (fl1 = true)) ∧
    Hid (Gd fl6 (fl1 = true)) ∧
    Hid (Gd fl6 (fl3 = true)) ∧
    Hid (Gd fl6 (fl4 = true)) ∧
    Hid (Gd fl7 (fl3 = true)) ∧
    Hid (Gd fl7 (fl5 = true)) ∧
    Hid (Gd fl7 (fl6 = true)))
  (by rfl) ?_ ?_ ?_
 ·exact ⟨false,false,false,false,false,false,false,none,0,0,none,0,0,false,none,0,0,none,0,0,0,0,by kernel_rfl,zcB.refl _ _,hHeld,Gd.no,Gd.no,Gd.no,Gd.no,Gd.no,Gd.no,Gd.no,Gd.no,Gd.no,Gd.no,Gd.no,Gd.no⟩
 ·intro OPS Ac0 Q0 hO hAs hA
  have RB22 : Ac0.tmps.getD 22 undef = .agg #[.bool s0,.slice A0 n0 c0,.slice E0 u0 v0] := (hA 22 undef).trans (by kernel_rfl)
  have RB24 : Ac0.tmps.getD 24 undef = .agg #[.bool s0,.slice A0 n0 c0,.slice E0 u0 v0] := (hA 24 undef).trans (by kernel_rfl)
  have hsz : Ac0.tmps.size = 53 := hAs.trans (by kernel_rfl)
  clear hAs hA
  refine ⟨?_,?_⟩
  ·rintro l a w' ⟨fl1,fl3,fl4,fl5,fl6,fl7,b2,B2,m2,d2,E2,u2,v2,b3,B3,m3,d3,E3,u3,v3,ad4,ad5,rfl,-⟩ hr
   obtain rfl : fl1 = true := als 1 hr hO
   obtain rfl : fl3 = true := als 3 hr hO
   obtain rfl : fl4 = true := als 4 hr hO
   obtain rfl : fl5 = true := als 5 hr hO
   obtain rfl : fl6 = true := als 6 hr hO
   obtain rfl : fl7 = true := als 7 hr hO
   rfl
  ·rintro l a w' i ⟨fl1,fl3,fl4,fl5,fl6,fl7,b2,B2,m2,d2,E2,u2,v2,b3,B3,m3,d3,E3,u3,v3,ad4,ad5,rfl,HKp,hBi,qf1,qf3,qf4,qf5,qn4_5,qd3_1,qd6_1,qd6_3,qd6_4,qd7_3,qd7_5,qd7_6⟩ hne hi
   have hlt : i < 8 := by have := zcM hi; rw [hO] at this; exact this
   rcases (show i = 0 ∨ i = 1 ∨ i = 2 ∨ i = 3 ∨ i = 4 ∨ i = 5 ∨ i = 6 ∨ i = 7 by omega) with rfl | rfl | rfl | rfl | rfl | rfl | rfl | rfl
   ·cases (zai hi : true = false)
   ·obtain rfl : fl1 = false := zai hi
    obtain rfl : fl3 = false := Gd.off qd3_1.out
    obtain rfl : fl6 = false := Gd.off qd6_1.out
    obtain rfl : fl7 = false := Gd.off qd7_3.out
    have rd22 := HKp.get 22 (by decide) RB22
    refine wog hO (fun K' hK => ?_)
    go_simp
    refine (C0.out w' hBi.out).mono ?_
    rintro e w2 ⟨nb2,nB2,nm2,nd2,nE2,nu2,nv2,rfl,nhw2,hb⟩
    exact hK.out _ _ ⟨zac hBi.out hb,true,false,fl4,fl5,false,false,nb2,nB2,nm2,nd2,nE2,nu2,nv2,b3,B3,m3,d3,E3,u3,v3,ad4,ad5,by rfl,HKp.put (by decide) _,zac hBi.out hb,Gd.yes ⟨zaB (HKp.lt (by rw [hsz]; decide)) _,nhw2⟩,Gd.no,kq qf4.out fun h => ⟨h.1,zae hb h.2⟩,kq qf5.out fun h => ⟨h.1,zae hb h.2⟩,qn4_5,Gd.no,Gd.no,Gd.no,Gd.no,Gd.no,Gd.no,Gd.no⟩
   ·cases (zai hi : true = false)
   ·obtain rfl : fl3 = false := zai hi
    obtain rfl : fl1 = true := rdp 1 1 hi hO
    obtain rfl : fl6 = false := Gd.off qd6_3.out
    obtain rfl : fl7 = false := Gd.off qd7_3.out
    have rd24 := HKp.get 24 (by decide) RB24
    refine wog hO (fun K' hK => ?_)
    go_simp
    refine (C1.out w' hBi.out).mono ?_
    rintro e w2 ⟨nb3,nB3,nm3,nd3,nE3,nu3,nv3,rfl,nhw3,hb⟩
    exact hK.out _ _ ⟨zac hBi.out hb,true,true,fl4,fl5,false,false,b2,B2,m2,d2,E2,u2,v2,nb3,nB3,nm3,nd3,nE3,nu3,nv3,ad4,ad5,by rfl,HKp.put (by decide) _,zac hBi.out hb,kq qf1.out fun h => (h).below hb,Gd.yes ⟨zaB (HKp.lt (by rw [hsz]; decide)) _,nhw3⟩,kq qf4.out fun h => ⟨h.1,zae hb h.2⟩,kq qf5.out fun h => ⟨h.1,zae hb h.2⟩,qn4_5,fun _ => rfl,Gd.no,Gd.no,Gd.no,Gd.no,Gd.no,Gd.no⟩
   ·obtain rfl : fl4 = false := zai hi
    obtain rfl : fl6 = false := Gd.off qd6_4.out
    obtain rfl : fl7 = false := Gd.off qd7_6.out
    refine wog hO (fun K' hK => ?_)
    go_simp
    have hb := zbH w' (.cells #[.bool false,.slice none 0 0,.slice none 0 0] 33)
    exact hK.out _ _ ⟨zac hBi.out hb,fl1,fl3,true,fl5,false,false,b2,B2,m2,d2,E2,u2,v2,b3,B3,m3,d3,E3,u3,v3,w'.heap.size,ad5,by rfl,HKp.put (by decide) _,zac hBi.out hb,kq qf1.out fun h => (h).below hb,kq qf3.out fun h => (h).below hb,Gd.yes ⟨zaB (HKp.lt (by rw [hsz]; decide)) _,hBi.out.size,Blk.new w' _ _⟩,kq qf5.out fun h => ⟨h.1,zae hb h.2⟩,Gd.yes (qf5.out.mono fun h => by have := Blk.lt h.2.2; omega),qd3_1,Gd.no,Gd.no,Gd.no,Gd.no,Gd.no,Gd.no⟩
   ·obtain rfl : fl5 = false := zai hi
    obtain rfl : fl7 = false := Gd.off qd7_5.out
    refine wog hO (fun K' hK => ?_)
    go_simp
    have hb := zbH w' (.cells #[.bool false,.slice none 0 0,.slice none 0 0] 40)
    exact hK.out _ _ ⟨zac hBi.out hb,fl1,fl3,fl4,true,fl6,false,b2,B2,m2,d2,E2,u2,v2,b3,B3,m3,d3,E3,u3,v3,ad4,w'.heap.size,by rfl,HKp.put (by decide) _,zac hBi.out hb,kq qf1.out fun h => (h).below hb,kq qf3.out fun h => (h).below hb,kq qf4.out fun h => ⟨h.1,zae hb h.2⟩,Gd.yes ⟨zaB (HKp.lt (by rw [hsz]; decide)) _,hBi.out.size,Blk.new w' _ _⟩,qf4.out.mono fun h => Gd.yes (by have := Blk.lt h.2.2; omega),qd3_1,qd6_1,qd6_3,qd6_4,Gd.no,Gd.no,Gd.no⟩
   ·obtain rfl : fl6 = false := zai hi
    obtain rfl : fl1 = true := rdp 1 1 hi hO
    obtain rfl : fl3 = true := rdp 3 2 hi hO
    obtain rfl : fl4 = true := rdp 4 0 hi hO
    obtain rfl : fl5 = true := rdp 5 8 hi hO
    obtain rfl : fl7 = false := Gd.off qd7_6.out
    have rd3 := qf4.out.get.1
    have rd23 := qf1.out.get.1
    obtain ⟨_,hg,hk⟩ := qf4.out.get
    have hk : Blk w' ad4 33 #[.bool false,.slice none 0 0,.slice none 0 0] := hk
    obtain ⟨sc0,sf0,sc1,sf1,sc2,sf2⟩ := st3 hk (.bool b2) (.slice B2 m2 d2)
    have hj2 := sn3 hk (.bool b2) (.slice B2 m2 d2) (.slice E2 u2 v2)
    have hBn := bl3 (.bool b2) (.slice B2 m2 d2) (.slice E2 u2 v2) hg hBi.out
    refine wog hO (fun K' hK => ?_)
    go_simp
    exact hK.out _ _ ⟨hBn,true,true,true,true,true,false,b2,B2,m2,d2,E2,u2,v2,b3,B3,m3,d3,E3,u3,v3,ad4,ad5,by rfl,HKp,hBn,qf1.out.mono fun h => ⟨h.1,zbC (h.2) hk zek (zcL _ _ _ _ _)⟩,qf3.out.mono fun h => ⟨h.1,zgm (h.2) hk zek (zcL _ _ _ _ _)⟩,qf4.out.mono fun h => ⟨h.1,h.2.1,hj2⟩,fun hf9 => (fun h => ⟨h.1,h.2.1,Blk.far (p := ⟨ad4,2,none⟩) (Blk.far (p := ⟨ad4,1,none⟩) (Blk.far (p := ⟨ad4,0,none⟩) (h.2.2) (Ne.symm (qn4_5.out rfl hf9)) (.bool b2)) (Ne.symm (qn4_5.out rfl hf9)) (.slice B2 m2 d2)) (Ne.symm (qn4_5.out rfl hf9)) (.slice E2 u2 v2)⟩) (qf5.out hf9),qn4_5,fun _ => rfl,fun _ => rfl,fun _ => rfl,fun _ => rfl,Gd.no,Gd.no,Gd.no⟩
   ·obtain rfl : fl7 = false := zai hi
    obtain rfl : fl1 = true := rdp 1 4 hi hO
    obtain rfl : fl3 = true := rdp 3 1 hi hO
    obtain rfl : fl4 = true := rdp 4 7 hi hO
    obtain rfl : fl5 = true := rdp 5 0 hi hO
    obtain rfl : fl6 = true := rdp 6 2 hi hO
    have rd4 := qf5.out.get.1
    have rd25 := qf3.out.get.1
    obtain ⟨_,hg,hk⟩ := qf5.out.get
    have hk : Blk w' ad5 40 #[.bool false,.slice none 0 0,.slice none 0 0] := hk
    obtain ⟨sc0,sf0,sc1,sf1,sc2,sf2⟩ := st3 hk (.bool b3) (.slice B3 m3 d3)
    have hj2 := sn3 hk (.bool b3) (.slice B3 m3 d3) (.slice E3 u3 v3)
    have hBn := bl3 (.bool b3) (.slice B3 m3 d3) (.slice E3 u3 v3) hg hBi.out
    refine wog hO (fun K' hK => ?_)
    go_simp
    exact hK.out _ _ ⟨hBn,true,true,true,true,true,true,b2,B2,m2,d2,E2,u2,v2,b3,B3,m3,d3,E3,u3,v3,ad4,ad5,by rfl,HKp,hBn,qf1.out.mono fun h => ⟨h.1,zbC (h.2) hk zek (zcL _ _ _ _ _)⟩,qf3.out.mono fun h => ⟨h.1,zgm (h.2) hk zek (zcL _ _ _ _ _)⟩,fun hf9 => (fun h => ⟨h.1,h.2.1,Blk.far (p := ⟨ad5,2,none⟩) (Blk.far (p := ⟨ad5,1,none⟩) (Blk.far (p := ⟨ad5,0,none⟩) (h.2.2) (qn4_5.out hf9 rfl) (.bool b3)) (qn4_5.out hf9 rfl) (.slice B3 m3 d3)) (qn4_5.out hf9 rfl) (.slice E3 u3 v3)⟩) (qf4.out hf9),qf5.out.mono fun h => ⟨h.1,h.2.1,hj2⟩,qn4_5,fun _ => rfl,fun _ => rfl,fun _ => rfl,fun _ => rfl,fun _ => rfl,fun _ => rfl,fun _ => rfl⟩
 rintro a wm3 ⟨fl1,fl3,fl4,fl5,fl6,fl7,b2,B2,m2,d2,E2,u2,v2,b3,B3,m3,d3,E3,u3,v3,ad4,ad5,hl,HKp,hBi,qf1,qf3,qf4,qf5,qn4_5,qd3_1,qd6_1,qd6_3,qd6_4,qd7_3,qd7_5,qd7_6⟩
 have xx1 : fl1 = true := gdl 1 hl
 subst xx1
 have xx3 : fl3 = true := gdl 3 hl
 subst xx3
 have xx4 : fl4 = true := gdl 4 hl
 subst xx4
 have xx5 : fl5 = true := gdl 5 hl
 subst xx5
 have xx6 : fl6 = true := gdl 6 hl
 subst xx6
 have xx7 : fl7 = true := gdl 7 hl
 subst xx7
 obtain ⟨rv1,hw2⟩ := qf1.out.get
 obtain ⟨rv3,hw3⟩ := qf3.out.get
 obtain ⟨rv4,hg4,hk4⟩ := qf4.out.get
 obtain ⟨rv5,hg5,hk5⟩ := qf5.out.get
 obtain rfl := HKp.eq [(23,.agg #[.bool b2,.slice B2 m2 d2,.slice E2 u2 v2]),(25,.agg #[.bool b3,.slice B3 m3 d3,.slice E3 u3 v3]),(3,.pointer (some ⟨ad4,0,none⟩)),(4,.pointer (some ⟨ad5,0,none⟩))] rfl (by
  intro p hp
  simp only [List.mem_cons,List.not_mem_nil,or_false] at hp
  rcases hp with rfl | rfl | rfl | rfl
  ·exact rv1
  ·exact rv3
  ·exact rv4
  ·exact rv5)
 have hBv := hBi.out
 clear hl hBi HKp qf1 qf3 qf4 qf5 qn4_5 qd3_1 qd6_1 qd6_3 qd6_4 qd7_3 qd7_5 qd7_6 rv1 rv3 rv4 rv5
 have hk4 : Blk wm3 ad4 33 #[.bool b2,.slice B2 m2 d2,.slice E2 u2 v2] := hk4
 have hk5 : Blk wm3 ad5 40 #[.bool b3,.slice B3 m3 d3,.slice E3 u3 v3] := hk5
 rw [show due #[true,true,true,true,true,true,true,true] = 0 from rfl]
 simp only [zcv,List.foldl,Act.put,List.setIfInBounds_toArray,List.set_cons_zero,List.set_cons_succ]
 refine wpAnyH_done (by kernel_rfl) ?_ _
 refine NoPanic.normal ?_
 have hB := zac hB hBv
 have g1 := zad hBv g1
 have e1 := zad hBv e1
 have i1 := zad hBv i1
 obtain ⟨ad4_4,hga⟩ : ∃ x,x = ad4 := ⟨_,rfl⟩
 subst hga
 obtain ⟨g4,e4,i4⟩ := hk4.c3
 obtain ⟨ad5_5,hga⟩ : ∃ x,x = ad5 := ⟨_,rfl⟩
 subst hga
 obtain ⟨g5,e5,i5⟩ := hk5.c3
 have HN2 := lh9 hw2
 have HN3 := lh9 hw3
 clear hBv hk4 hg4 hk5 hg5 hw2 hw3 GG
 clear C0 C1
 have hx := HN2.out
 have hq := HN3.out
 clear HN2 HN3 HM0 HRF HAW g1 e1 i1
 have hq1 : m3 ≤ 1048576 := szh9 HZ3.out.num hq.1.2 (by omega)
 have hq2 : u3 ≤ 1048576 := szh9 HZ3.out.den hq.2 (by omega)
 go_wp2_with fail
 refine (HE.out _ b2 B2 m2 d2 E2 u2 v2 (HT.out _ hB).1 hx (szq HZ2 hx)).mono ?_
 rintro e w1 ⟨v5,ev6,rfl,hr5,he6,hb⟩
 have g4 := zad hb g4
 have e4 := zad hb e4
 have i4 := zad hb i4
 have g5 := zad hb g5
 have e5 := zad hb e5
 have i5 := zad hb i5
 have hx := hx.below hb
 have hq := hq.below hb
 have hB := zac hB hb
 clear hb HE
 go_wp2_with fail
 refine (HG.out b3 B3 m3 d3 E3 u3 v3 _ hq hq1 hq2).mono ?_
 rintro e w2 ⟨v7,rfl,hr7,hb⟩
 have g4 := zad hb g4
 have e4 := zad hb e4
 have i4 := zad hb i4
 have g5 := zad hb g5
 have e5 := zad hb e5
 have i5 := zad hb i5
 have hx := hx.below hb
 have hq := hq.below hb
 have hr5 := hr5.below hb
 have he6 := he6.below hb
 have hB := zac hB hb
 clear hb HG
 obtain ⟨bx1,bx2,bz⟩ := zaA w2 49 #[.int .i64 en,.string es,.int .i64 ek]
 have g4 := zad bx1 g4
 have e4 := zad bx1 e4
 have i4 := zad bx1 i4
 have g5 := zad bx1 g5
 have e5 := zad bx1 e5
 have i5 := zad bx1 i5
 have hx := hx.below bx1
 have hq := hq.below bx1
 have hr5 := hr5.below bx1
 have he6 := he6.below bx1
 have hr7 := hr7.below bx1
 have hB := zac hB bx1
 have kf := bx2
 clear bx1 bx2 bz
 go_upto_region 8 with fail
 generalize w2.alloc (.cells #[.int .i64 en,.string es,.int .i64 ek] 49) = X3 at *
 obtain ⟨qf,hq⟩ : ∃ q,w2.heap.size = q := ⟨_,rfl⟩
 rw [hq] at kf ⊢
 clear hq
 obtain ⟨A5,c5,rfl,-,-,hrd5⟩ := hr5.reads
 obtain ⟨A7,c7,rfl,-,-,hrd7⟩ := hr7.reads
 have HC5 := lh9 (fun w' (hb : Below X3.heap.size X3 w') => zcw (P := Tryz.prog) (c := c5) 42 9 5 Tryz.underlying42 Tryz.underlying5 Tryz.underlying9 (hrd5.below hb))
 have HC7 := lh9 (fun w' (hb : Below X3.heap.size X3 w') => zcw (P := Tryz.prog) (c := c7) 42 9 5 Tryz.underlying42 Tryz.underlying5 Tryz.underlying9 (hrd7.below hb))
 obtain ⟨TT,hTT⟩ : ∃ q,strL EL = q := ⟨_,rfl⟩
 obtain ⟨NL,hNL⟩ : ∃ q,EL.length = q := ⟨_,rfl⟩
 rw [hTT,hNL] at HC5 HC7
 rw [hNL]
 obtain ⟨g8,e8,i8⟩ := kf.c3
 clear hTT hNL hrd5 hrd7 hr5 hr7 kf
 have hBw := (Below.refl X3.heap.size X3).drew
 refine rg9 (csc g8 (csc e8 (csc i8 (csc g4 (csc e4 (csc i4 (csc g5 (csc e5 (csc i5 csn))))))))) (fun hHeld => ?_)
 have g4 := zad hBw g4
 have e4 := zad hBw e4
 have i4 := zad hBw i4
 have g5 := zad hBw g5
 have e5 := zad hBw e5
 have i5 := zad hBw i5
 have hx := hx.below hBw
 have hq := hq.below hBw
 have he6 := he6.below hBw
 have hB := zac hB hBw
 generalize hDD : X3.drew = D4 at *
 clear hBw hDD
 clear g8 e8 i8 g4 e4 i4 g5 e5 i5
 refine tk 0 ?_
 refine tk 1 ?_ (h6 := by intro w' hS; have h9 := HC5.out _ hS.2; go_simp; try with_reducible rfl)
 refine tk 2 ?_
 refine tk 3 ?_ (h6 := by intro w' hS; have h9 := HC7.out _ hS.2; go_simp; try with_reducible rfl)
 refine tk 4 ?_
 refine tk 5 ?_
 refine tk 6 ?_
 refine tk 7 ?_
 refine rc 8 (fun K hK => ?_)
 go_simp
 refine (HLK.out ev6 _ he6 (HT.out _ hB).2).mono ?_
 rintro e w5 ⟨rfl,hb⟩
 have hx := hx.below hb
 have hq := hq.below hb
 have he6 := he6.below hb
 have hB := zac hB hb
 refine hK.out _ _ ⟨hHeld.1.below hb,zac hHeld.2 hb⟩ (fun hHeld => ?_); clear hK K
 try simp only [sb9]
 clear hb HLK HC5 HC7
 refine tk 9 ?_
 refine tk 10 ?_
 refine tk 11 ?_
 refine tk 13 ?_
 refine rc 12 (fun K hK => ?_)
 go_simp
 refine (HT1.out _ b2 B2 m2 d2 E2 u2 v2 (HT.out _ hB).1 hx (szq HZ2 hx)).mono ?_
 rintro e w6 ⟨rfl,hb⟩
 have hx := hx.below hb
 have hq := hq.below hb
 have he6 := he6.below hb
 have hB := zac hB hb
 refine hK.out _ _ ⟨hHeld.1.below hb,zac hHeld.2 hb⟩ (fun hHeld => ?_); clear hK K
 try simp only [sb9]
 clear hb HT1
 refine rc 14 (fun K hK => ?_)
 go_simp
 refine (HT2.out b3 B3 m3 d3 E3 u3 v3 _ hq hq1 hq2).mono ?_
 rintro e w7 ⟨rfl,hb⟩
 have hx := hx.below hb
 have hq := hq.below hb
 have he6 := he6.below hb
 have hB := zac hB hb
 refine hK.out _ _ ⟨hHeld.1.below hb,zac hHeld.2 hb⟩ (fun hHeld => ?_); clear hK K
 try simp only [sb9]
 clear hb HT2
 refine tk 15 ?_
 refine tk 16 ?_
 refine tk 17 ?_
 refine rdn ?_
 clear hHeld hx hq he6
 go_wp2
 go_ret
 exact ⟨by first | rfl | simp,hB⟩
theorem packTells_core (s0 : Bool) (A0 : oA9) (n0 c0 : Nat) (l0 : List Nat) (E0 : oA9) (u0 v0 : Nat) (e0 : List Nat) (w : World) (h0 : zav w A0 n0 c0 l0) (k0 : zav w E0 u0 v0 e0) (hT : Tab9 w) :
  Calls Tryz.prog 3 #[.agg #[.bool s0,.slice A0 n0 c0,.slice E0 u0 v0]] w fun e w' => e = .returned (.bool true) ∧ Below w.heap.size w w' := by
 by_cases hs : n0 ≤ 40 ∧ u0 ≤ 40
 ·exact zgR s0 A0 n0 c0 l0 E0 u0 v0 e0 w h0 k0 hT hs.1 hs.2
 ·exact zim s0 A0 n0 c0 l0 E0 u0 v0 e0 w h0 k0 hT hs
end Go.Proofs.YtfieheffipfahaaGreatDoor
