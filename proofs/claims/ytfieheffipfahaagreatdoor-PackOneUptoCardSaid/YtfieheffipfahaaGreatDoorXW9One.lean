/- What this claim leans on. -/
import Derived.Test.YtfieheffipfahaaGreatDoorXBase
namespace Go.Proofs.YtfieheffipfahaaGreatDoor
open Go Go.RowKit
set_option maxHeartbeats 16000000
set_option maxRecDepth 100000
set_option linter.unusedVariables false
set_option linter.unusedSimpArgs false
theorem packOne_core (s0 : Bool) (A0 : oA9) (n0 c0 : Nat) (l0 : List Nat) (E0 : oA9) (u0 v0 : Nat) (e0 : List Nat) (s1 : Bool) (A1 : oA9) (n1 c1 : Nat) (l1 : List Nat) (E1 : oA9) (u1 v1 : Nat) (e1 : List Nat) (w : World) (h0 : zaK w A0 n0 c0 l0) (k0 : zaK w E0 u0 v0 e0) (h1 : zaK w A1 n1 c1 l1) (k1 : zaK w E1 u1 v1 e1) (hT : zhs w) :
  Calls Tryz.prog 7 #[.agg #[.bool s0,.slice A0 n0 c0,.slice E0 u0 v0],.agg #[.bool s1,.slice A1 n1 c1,.slice E1 u1 v1]] w fun e w' => e = .returned (.bool true) ∧ Below w.heap.size w w' := by
 have HT := lh9 (fun w' (hb : Below w.heap.size w w') => hT.on hb)
 have HAW := lh9 (fun w' (hb : Below w.heap.size w w') => zdn w' (hT.on hb))
 have HM0 := lh9 (fun w' (hb : Below w.heap.size w w') => zlo s0 A0 n0 c0 l0 E0 u0 v0 e0 w w' h0 k0 hb (hT.on hb))
 have S0 : SzQ 1048576 (fOf s0 l0 e0) := zhQ h0 k0
 obtain ⟨x,hz0⟩ : ∃ x,fOf s0 l0 e0 = x := ⟨_,rfl⟩
 rw [hz0] at HM0 S0
 have HM1 := lh9 (fun w' (hb : Below w.heap.size w w') => zlo s1 A1 n1 c1 l1 E1 u1 v1 e1 w w' h1 k1 hb (hT.on hb))
 have S1 : SzQ 1048576 (fOf s1 l1 e1) := zhQ h1 k1
 obtain ⟨y,hz1⟩ : ∃ x,fOf s1 l1 e1 = x := ⟨_,rfl⟩
 rw [hz1] at HM1 S1
 have HE := lh9 (fun x w' b A n c E u v h hz h2 => zcU x b A n c E u v w' h hz h2)
 unfold zcB at HE
 have HEX := lh9 (zeY x)
 have HEY := lh9 (zeY y)
 have HON := lh9 (fun n (hn : n = min (zaB x).length (zaB y).length) => zlx (r := x) (s := y) n hn)
 have HTE : Hid (((zaw (zbX x)).toList == (zaw (zbX y)).toList) = decide (x = y)) := znD _ _ _ (decide_eq_decide.2 (text_one x y))
 obtain ⟨K,hK⟩ : ∃ K,1048576 = K := ⟨_,rfl⟩
 have hKK : K ≤ 1048576 := by omega
 rw [hK] at S0 S1
 have HS0 := lh9 S0
 have HS1 := lh9 S1
 clear hT h0 k0 h1 k1 S0 S1 hz0 hz1 hK
 go_enter Tryz.func7,Tryz.ntmps7
 have hB := Below.refl w.heap.size w
 obtain ⟨bx1,bx2,bx3,bz⟩ := zcm w 26 26 #[.bool s0,.slice A0 n0 c0,.slice E0 u0 v0] #[.bool s1,.slice A1 n1 c1,.slice E1 u1 v1]
 have hB := zaa hB bx1
 obtain ⟨g1,e1,i1⟩ := bx2.c3
 obtain ⟨g2,e2,i2⟩ := bx3.c3
 clear bx1 bx2 bx3 bz
 go_wp2_with fail
 generalize (w.alloc (.cells #[.bool s0,.slice A0 n0 c0,.slice E0 u0 v0] 26)).alloc (.cells #[.bool s1,.slice A1 n1 c1,.slice E1 u1 v1] 26) = W1 at *
 (with_reducible refine (HAW.out _ hB).mono ?_)
 rintro e wc2 ⟨rfl,hb⟩
 have hB := zaa hB hb
 have g1 := zab hb g1
 have e1 := zab hb e1
 have i1 := zab hb i1
 have g2 := zab hb g2
 have e2 := zab hb e2
 have i2 := zab hb i2
 clear hb 
 go_wp2_with fail
 have HZ3 : Hid (SzQ (K) (x)) := HS0.out
 have C0 := lh9 (fun w' (h : Below wc2.heap.size wc2 w') => HM0.out _ (zaa hB h))
 have HZ4 : Hid (SzQ (K) (y)) := HS1.out
 have C1 := lh9 (fun w' (h : Below wc2.heap.size wc2 w') => HM1.out _ (zaa hB h))
 have GG := lh9 (fun w' (h : Below wc2.heap.size wc2 w') => (csc (zab h g1) (csc (zab h e1) (csc (zab h i1) (csc (zab h g2) (csc (zab h e2) (csc (zab h i2) csn)))))))
 refine rgB (fun hHeld => ?_)
 refine tl 0 GG.out ?_
 refine tl 2 GG.out ?_
 refine zaU (L := #[true,true,true,true,true,true,true,true])
  (J := fun a0 l a w' => ∃ (fl1 fl3 fl4 fl5 fl6 fl7 b3 : Bool) (B3 : oA9) (m3 d3 : Nat) (E3 : oA9) (u3 v3 : Nat) (b4 : Bool) (B4 : oA9) (m4 d4 : Nat) (E4 : oA9) (u4 v4 ad4 ad5 : Nat),l = #[true,fl1,true,fl3,fl4,fl5,fl6,fl7] ∧ zbP [15,17,5,6] a0 a ∧ Hid (Below wc2.heap.size wc2 w') ∧
    Hid (Gd fl1 (a.tmps.getD 15 undef = .agg #[.bool b3,.slice B3 m3 d3,.slice E3 u3 v3] ∧ zay w' (x) b3 B3 m3 d3 E3 u3 v3)) ∧
    Hid (Gd fl3 (a.tmps.getD 17 undef = .agg #[.bool b4,.slice B4 m4 d4,.slice E4 u4 v4] ∧ zay w' (y) b4 B4 m4 d4 E4 u4 v4)) ∧
    Hid (Gd fl4 (a.tmps.getD 5 undef = .pointer (some ⟨ad4,0,none⟩) ∧ wc2.heap.size ≤ ad4 ∧ Blk w' ad4 33 (bif fl6 then #[.bool b3,.slice B3 m3 d3,.slice E3 u3 v3] else #[.bool false,.slice none 0 0,.slice none 0 0]))) ∧
    Hid (Gd fl5 (a.tmps.getD 6 undef = .pointer (some ⟨ad5,0,none⟩) ∧ wc2.heap.size ≤ ad5 ∧ Blk w' ad5 33 (bif fl7 then #[.bool b4,.slice B4 m4 d4,.slice E4 u4 v4] else #[.bool false,.slice none 0 0,.slice none 0 0]))) ∧
    Hid (Gd fl4 (Gd fl5 (ad4 ≠ ad5))) ∧
    Hid (Gd fl3 (fl1 = true)) ∧
    Hid (Gd fl6 (fl1 = true)) ∧
    Hid (Gd fl6 (fl3 = true)) ∧
    Hid (Gd fl6 (fl4 = true)) ∧
    Hid (Gd fl7 (fl3 = true)) ∧
    Hid (Gd fl7 (fl5 = true)) ∧
    Hid (Gd fl7 (fl6 = true)))
  (by rfl) ?_ ?_ ?_
 ·exact ⟨false,false,false,false,false,false,false,none,0,0,none,0,0,false,none,0,0,none,0,0,0,0,by kernel_rfl,zbP.refl _ _,hHeld,Gd.no,Gd.no,Gd.no,Gd.no,Gd.no,Gd.no,Gd.no,Gd.no,Gd.no,Gd.no,Gd.no,Gd.no⟩
 ·intro OPS Ac0 Q0 hO hAs hA
  have RB14 : Ac0.tmps.getD 14 undef = .agg #[.bool s0,.slice A0 n0 c0,.slice E0 u0 v0] := (hA 14 undef).trans (by kernel_rfl)
  have RB16 : Ac0.tmps.getD 16 undef = .agg #[.bool s1,.slice A1 n1 c1,.slice E1 u1 v1] := (hA 16 undef).trans (by kernel_rfl)
  have hsz : Ac0.tmps.size = 61 := hAs.trans (by kernel_rfl)
  clear hAs hA
  refine ⟨?_,?_⟩
  ·rintro l a w' ⟨fl1,fl3,fl4,fl5,fl6,fl7,b3,B3,m3,d3,E3,u3,v3,b4,B4,m4,d4,E4,u4,v4,ad4,ad5,rfl,-⟩ hr
   obtain rfl : fl1 = true := als 1 hr hO
   obtain rfl : fl3 = true := als 3 hr hO
   obtain rfl : fl4 = true := als 4 hr hO
   obtain rfl : fl5 = true := als 5 hr hO
   obtain rfl : fl6 = true := als 6 hr hO
   obtain rfl : fl7 = true := als 7 hr hO
   rfl
  ·rintro l a w' i ⟨fl1,fl3,fl4,fl5,fl6,fl7,b3,B3,m3,d3,E3,u3,v3,b4,B4,m4,d4,E4,u4,v4,ad4,ad5,rfl,HKp,hBi,qf1,qf3,qf4,qf5,qn4_5,qd3_1,qd6_1,qd6_3,qd6_4,qd7_3,qd7_5,qd7_6⟩ hne hi
   have hlt : i < 8 := by have := zby hi; rw [hO] at this; exact this
   rcases (show i = 0 ∨ i = 1 ∨ i = 2 ∨ i = 3 ∨ i = 4 ∨ i = 5 ∨ i = 6 ∨ i = 7 by omega) with rfl | rfl | rfl | rfl | rfl | rfl | rfl | rfl
   ·cases (zad hi : true = false)
   ·obtain rfl : fl1 = false := zad hi
    obtain rfl : fl3 = false := Gd.off qd3_1.out
    obtain rfl : fl6 = false := Gd.off qd6_1.out
    obtain rfl : fl7 = false := Gd.off qd7_3.out
    have rd14 := HKp.get 14 (by decide) RB14
    refine wog hO (fun K' hK => ?_)
    go_simp
    refine (C0.out w' hBi.out).mono ?_
    rintro e w2 ⟨nb3,nB3,nm3,nd3,nE3,nu3,nv3,rfl,nhw3,hb⟩
    exact hK.out _ _ ⟨zaa hBi.out hb,true,false,fl4,fl5,false,false,nb3,nB3,nm3,nd3,nE3,nu3,nv3,b4,B4,m4,d4,E4,u4,v4,ad4,ad5,by rfl,HKp.put (by decide) _,zaa hBi.out hb,Gd.yes ⟨zaq (HKp.lt (by rw [hsz]; decide)) _,nhw3⟩,Gd.no,kq qf4.out fun h => ⟨h.1,zac hb h.2⟩,kq qf5.out fun h => ⟨h.1,zac hb h.2⟩,qn4_5,Gd.no,Gd.no,Gd.no,Gd.no,Gd.no,Gd.no,Gd.no⟩
   ·cases (zad hi : true = false)
   ·obtain rfl : fl3 = false := zad hi
    obtain rfl : fl1 = true := rdp 1 1 hi hO
    obtain rfl : fl6 = false := Gd.off qd6_3.out
    obtain rfl : fl7 = false := Gd.off qd7_3.out
    have rd16 := HKp.get 16 (by decide) RB16
    refine wog hO (fun K' hK => ?_)
    go_simp
    refine (C1.out w' hBi.out).mono ?_
    rintro e w2 ⟨nb4,nB4,nm4,nd4,nE4,nu4,nv4,rfl,nhw4,hb⟩
    exact hK.out _ _ ⟨zaa hBi.out hb,true,true,fl4,fl5,false,false,b3,B3,m3,d3,E3,u3,v3,nb4,nB4,nm4,nd4,nE4,nu4,nv4,ad4,ad5,by rfl,HKp.put (by decide) _,zaa hBi.out hb,kq qf1.out fun h => (h).below hb,Gd.yes ⟨zaq (HKp.lt (by rw [hsz]; decide)) _,nhw4⟩,kq qf4.out fun h => ⟨h.1,zac hb h.2⟩,kq qf5.out fun h => ⟨h.1,zac hb h.2⟩,qn4_5,fun _ => rfl,Gd.no,Gd.no,Gd.no,Gd.no,Gd.no,Gd.no⟩
   ·obtain rfl : fl4 = false := zad hi
    obtain rfl : fl6 = false := Gd.off qd6_4.out
    obtain rfl : fl7 = false := Gd.off qd7_6.out
    refine wog hO (fun K' hK => ?_)
    go_simp
    have hb := zbg w' (.cells #[.bool false,.slice none 0 0,.slice none 0 0] 33)
    exact hK.out _ _ ⟨zaa hBi.out hb,fl1,fl3,true,fl5,false,false,b3,B3,m3,d3,E3,u3,v3,b4,B4,m4,d4,E4,u4,v4,w'.heap.size,ad5,by rfl,HKp.put (by decide) _,zaa hBi.out hb,kq qf1.out fun h => (h).below hb,kq qf3.out fun h => (h).below hb,Gd.yes ⟨zaq (HKp.lt (by rw [hsz]; decide)) _,hBi.out.size,Blk.new w' _ _⟩,kq qf5.out fun h => ⟨h.1,zac hb h.2⟩,Gd.yes (qf5.out.mono fun h => by have := Blk.lt h.2.2; omega),qd3_1,Gd.no,Gd.no,Gd.no,Gd.no,Gd.no,Gd.no⟩
   ·obtain rfl : fl5 = false := zad hi
    obtain rfl : fl7 = false := Gd.off qd7_5.out
    refine wog hO (fun K' hK => ?_)
    go_simp
    have hb := zbg w' (.cells #[.bool false,.slice none 0 0,.slice none 0 0] 33)
    exact hK.out _ _ ⟨zaa hBi.out hb,fl1,fl3,fl4,true,fl6,false,b3,B3,m3,d3,E3,u3,v3,b4,B4,m4,d4,E4,u4,v4,ad4,w'.heap.size,by rfl,HKp.put (by decide) _,zaa hBi.out hb,kq qf1.out fun h => (h).below hb,kq qf3.out fun h => (h).below hb,kq qf4.out fun h => ⟨h.1,zac hb h.2⟩,Gd.yes ⟨zaq (HKp.lt (by rw [hsz]; decide)) _,hBi.out.size,Blk.new w' _ _⟩,qf4.out.mono fun h => Gd.yes (by have := Blk.lt h.2.2; omega),qd3_1,qd6_1,qd6_3,qd6_4,Gd.no,Gd.no,Gd.no⟩
   ·obtain rfl : fl6 = false := zad hi
    obtain rfl : fl1 = true := rdp 1 1 hi hO
    obtain rfl : fl3 = true := rdp 3 2 hi hO
    obtain rfl : fl4 = true := rdp 4 0 hi hO
    obtain rfl : fl5 = true := rdp 5 8 hi hO
    obtain rfl : fl7 = false := Gd.off qd7_6.out
    have rd5 := qf4.out.get.1
    have rd15 := qf1.out.get.1
    obtain ⟨_,hg,hk⟩ := qf4.out.get
    have hk : Blk w' ad4 33 #[.bool false,.slice none 0 0,.slice none 0 0] := hk
    obtain ⟨sc0,sf0,sc1,sf1,sc2,sf2⟩ := st3 hk (.bool b3) (.slice B3 m3 d3)
    have hj2 := sn3 hk (.bool b3) (.slice B3 m3 d3) (.slice E3 u3 v3)
    have hBn := bl3 (.bool b3) (.slice B3 m3 d3) (.slice E3 u3 v3) hg hBi.out
    refine wog hO (fun K' hK => ?_)
    go_simp
    exact hK.out _ _ ⟨hBn,true,true,true,true,true,false,b3,B3,m3,d3,E3,u3,v3,b4,B4,m4,d4,E4,u4,v4,ad4,ad5,by rfl,HKp,hBn,qf1.out.mono fun h => ⟨h.1,zaZ (h.2) hk zcu (zca _ _ _ _ _)⟩,qf3.out.mono fun h => ⟨h.1,zaZ (h.2) hk zcu (zca _ _ _ _ _)⟩,qf4.out.mono fun h => ⟨h.1,h.2.1,hj2⟩,fun hf9 => (fun h => ⟨h.1,h.2.1,Blk.far (p := ⟨ad4,2,none⟩) (Blk.far (p := ⟨ad4,1,none⟩) (Blk.far (p := ⟨ad4,0,none⟩) (h.2.2) (Ne.symm (qn4_5.out rfl hf9)) (.bool b3)) (Ne.symm (qn4_5.out rfl hf9)) (.slice B3 m3 d3)) (Ne.symm (qn4_5.out rfl hf9)) (.slice E3 u3 v3)⟩) (qf5.out hf9),qn4_5,fun _ => rfl,fun _ => rfl,fun _ => rfl,fun _ => rfl,Gd.no,Gd.no,Gd.no⟩
   ·obtain rfl : fl7 = false := zad hi
    obtain rfl : fl1 = true := rdp 1 4 hi hO
    obtain rfl : fl3 = true := rdp 3 1 hi hO
    obtain rfl : fl4 = true := rdp 4 7 hi hO
    obtain rfl : fl5 = true := rdp 5 0 hi hO
    obtain rfl : fl6 = true := rdp 6 2 hi hO
    have rd6 := qf5.out.get.1
    have rd17 := qf3.out.get.1
    obtain ⟨_,hg,hk⟩ := qf5.out.get
    have hk : Blk w' ad5 33 #[.bool false,.slice none 0 0,.slice none 0 0] := hk
    obtain ⟨sc0,sf0,sc1,sf1,sc2,sf2⟩ := st3 hk (.bool b4) (.slice B4 m4 d4)
    have hj2 := sn3 hk (.bool b4) (.slice B4 m4 d4) (.slice E4 u4 v4)
    have hBn := bl3 (.bool b4) (.slice B4 m4 d4) (.slice E4 u4 v4) hg hBi.out
    refine wog hO (fun K' hK => ?_)
    go_simp
    exact hK.out _ _ ⟨hBn,true,true,true,true,true,true,b3,B3,m3,d3,E3,u3,v3,b4,B4,m4,d4,E4,u4,v4,ad4,ad5,by rfl,HKp,hBn,qf1.out.mono fun h => ⟨h.1,zaZ (h.2) hk zcu (zca _ _ _ _ _)⟩,qf3.out.mono fun h => ⟨h.1,zaZ (h.2) hk zcu (zca _ _ _ _ _)⟩,fun hf9 => (fun h => ⟨h.1,h.2.1,Blk.far (p := ⟨ad5,2,none⟩) (Blk.far (p := ⟨ad5,1,none⟩) (Blk.far (p := ⟨ad5,0,none⟩) (h.2.2) (qn4_5.out hf9 rfl) (.bool b4)) (qn4_5.out hf9 rfl) (.slice B4 m4 d4)) (qn4_5.out hf9 rfl) (.slice E4 u4 v4)⟩) (qf4.out hf9),qf5.out.mono fun h => ⟨h.1,h.2.1,hj2⟩,qn4_5,fun _ => rfl,fun _ => rfl,fun _ => rfl,fun _ => rfl,fun _ => rfl,fun _ => rfl,fun _ => rfl⟩
 rintro a wm3 ⟨fl1,fl3,fl4,fl5,fl6,fl7,b3,B3,m3,d3,E3,u3,v3,b4,B4,m4,d4,E4,u4,v4,ad4,ad5,hl,HKp,hBi,qf1,qf3,qf4,qf5,qn4_5,qd3_1,qd6_1,qd6_3,qd6_4,qd7_3,qd7_5,qd7_6⟩
 have xx1 : fl1 = true := gdl 1 hl
 subst xx1
 have xx3 : fl3 = true := gdl 3 hl
 subst xx3
 have xx4 : fl4 = true := gdl 4 hl
 subst xx4
 have xx5 : fl5 = true := gdl 5 hl
 subst xx5
 have xx6 : fl6 = true := gdl 6 hl
 subst xx6
 have xx7 : fl7 = true := gdl 7 hl
 subst xx7
 obtain ⟨rv1,hw3⟩ := qf1.out.get
 obtain ⟨rv3,hw4⟩ := qf3.out.get
 obtain ⟨rv4,hg4,hk4⟩ := qf4.out.get
 obtain ⟨rv5,hg5,hk5⟩ := qf5.out.get
 obtain rfl := HKp.eq [(15,.agg #[.bool b3,.slice B3 m3 d3,.slice E3 u3 v3]),(17,.agg #[.bool b4,.slice B4 m4 d4,.slice E4 u4 v4]),(5,.pointer (some ⟨ad4,0,none⟩)),(6,.pointer (some ⟨ad5,0,none⟩))] rfl (by
  intro p hp
  simp only [List.mem_cons,List.not_mem_nil,or_false] at hp
  rcases hp with rfl | rfl | rfl | rfl
  ·exact rv1
  ·exact rv3
  ·exact rv4
  ·exact rv5)
 have hBv := hBi.out
 clear hl hBi HKp qf1 qf3 qf4 qf5 qn4_5 qd3_1 qd6_1 qd6_3 qd6_4 qd7_3 qd7_5 qd7_6 rv1 rv3 rv4 rv5
 have hk4 : Blk wm3 ad4 33 #[.bool b3,.slice B3 m3 d3,.slice E3 u3 v3] := hk4
 have hk5 : Blk wm3 ad5 33 #[.bool b4,.slice B4 m4 d4,.slice E4 u4 v4] := hk5
 rw [show due #[true,true,true,true,true,true,true,true] = 0 from rfl]
 simp only [zbK,List.foldl,Act.put,List.setIfInBounds_toArray,List.set_cons_zero,List.set_cons_succ]
 refine wpAnyH_done (by kernel_rfl) ?_ _
 refine NoPanic.normal ?_
 have hB := zaa hB hBv
 have g1 := zab hBv g1
 have e1 := zab hBv e1
 have i1 := zab hBv i1
 have g2 := zab hBv g2
 have e2 := zab hBv e2
 have i2 := zab hBv i2
 obtain ⟨ad4_5,hga⟩ : ∃ x,x = ad4 := ⟨_,rfl⟩
 subst hga
 obtain ⟨g5,e5,i5⟩ := hk4.c3
 obtain ⟨ad5_6,hga⟩ : ∃ x,x = ad5 := ⟨_,rfl⟩
 subst hga
 obtain ⟨g6,e6,i6⟩ := hk5.c3
 have HN3 := lh9 hw3
 have HN4 := lh9 hw4
 clear hBv hk4 hg4 hk5 hg5 hw3 hw4 GG
 clear C0 C1
 have hx := HN3.out
 have hy := HN4.out
 clear HN3 HN4 HM0 HM1 HAW g1 e1 i1 g2 e2 i2
 go_wp2_with fail
 refine (HE.out x _ b3 B3 m3 d3 E3 u3 v3 (HT.out _ hB).1 hx (szq HZ3 hx)).mono ?_
 rintro e w1 ⟨v7,ev7,rfl,hr7,he7,hb⟩
 have g5 := zab hb g5
 have e5 := zab hb e5
 have i5 := zab hb i5
 have g6 := zab hb g6
 have e6 := zab hb e6
 have i6 := zab hb i6
 have hx := hx.below hb
 have hy := hy.below hb
 have hB := zaa hB hb
 clear hb
 go_wp2_with fail
 refine (HE.out y _ b4 B4 m4 d4 E4 u4 v4 (HT.out _ hB).1 hy (szq HZ4 hy)).mono ?_
 rintro e w2 ⟨v9,ev9,rfl,hr9,he9,hb⟩
 have g5 := zab hb g5
 have e5 := zab hb e5
 have i5 := zab hb i5
 have g6 := zab hb g6
 have e6 := zab hb e6
 have i6 := zab hb i6
 have hx := hx.below hb
 have hy := hy.below hb
 have hr7 := hr7.below hb
 have he7 := he7.below hb
 have hB := zaa hB hb
 clear hb HE
 have HT1 := lh9 (fun w' (hb : Below w.heap.size w w') h hq => zdS x b3 B3 m3 d3 E3 u3 v3 w' (HT.out _ hb).1 h hq)
 have HT2 := lh9 (fun w' (hb : Below w.heap.size w w') h hq => zdS y b4 B4 m4 d4 E4 u4 v4 w' (HT.out _ hb).1 h hq)
 have HSM := lh9 (fun w' (hb : Below w.heap.size w w') h h' hq hq' => zeK x y b3 B3 m3 d3 E3 u3 v3 b4 B4 m4 d4 E4 u4 v4 w' (HT.out _ hb).1 h h' hq hq')
 obtain ⟨S1,hS1⟩ : ∃ q,zaw (zbX x) = q := ⟨_,rfl⟩
 obtain ⟨S2,hS2⟩ : ∃ q,zaw (zbX y) = q := ⟨_,rfl⟩
 obtain ⟨tt,htt⟩ : ∃ q,decide (x = y) = q := ⟨_,rfl⟩
 have ste := HTE.out
 rw [hS1] at HT1 ste
 rw [hS2] at HT2 ste
 rw [htt] at HSM ste
 have HTT := lh9 htt
 have bb1 : (tt == tt) = true := by simp
 have bb2 : (tt != tt) = false := by simp
 clear hS1 hS2 htt HTE
 go_upto_region 6 with fail
 have hBw := (Below.refl w2.heap.size w2).drew
 refine rg (csc g5 (csc e5 (csc i5 (csc g6 (csc e6 (csc i6 csn)))))) (fun hHeld => ?_)
 have g5 := zab hBw g5
 have e5 := zab hBw e5
 have i5 := zab hBw i5
 have g6 := zab hBw g6
 have e6 := zab hBw e6
 have i6 := zab hBw i6
 have hx := hx.below hBw
 have hy := hy.below hBw
 have hr7 := hr7.below hBw
 have he7 := he7.below hBw
 have hr9 := hr9.below hBw
 have he9 := he9.below hBw
 have hB := zaa hB hBw
 generalize w2.drew = D3 at *
 clear hBw
 refine tk 0 ?_
 refine tk 2 ?_
 refine tk 5 ?_
 refine tk 6 ?_
 refine rc 1 (fun K hK => ?_)
 go_simp
 refine (HT1.out _ hB hx (szq HZ3 hx)).mono ?_
 rintro e w4 ⟨rfl,hb⟩
 have g5 := zab hb g5
 have e5 := zab hb e5
 have i5 := zab hb i5
 have g6 := zab hb g6
 have e6 := zab hb e6
 have i6 := zab hb i6
 have hx := hx.below hb
 have hy := hy.below hb
 have hr7 := hr7.below hb
 have he7 := he7.below hb
 have hr9 := hr9.below hb
 have he9 := he9.below hb
 have hB := zaa hB hb
 refine hK.out _ _ (hHeld.below hb) (fun hHeld => ?_); clear hK K
 try simp only [sb9]
 clear hb HT1
 refine rc 3 (fun K hK => ?_)
 go_simp
 refine (HT2.out _ hB hy (szq HZ4 hy)).mono ?_
 rintro e w5 ⟨rfl,hb⟩
 have g5 := zab hb g5
 have e5 := zab hb e5
 have i5 := zab hb i5
 have g6 := zab hb g6
 have e6 := zab hb e6
 have i6 := zab hb i6
 have hx := hx.below hb
 have hy := hy.below hb
 have hr7 := hr7.below hb
 have he7 := he7.below hb
 have hr9 := hr9.below hb
 have he9 := he9.below hb
 have hB := zaa hB hb
 refine hK.out _ _ (hHeld.below hb) (fun hHeld => ?_); clear hK K
 try simp only [sb9]
 clear hb HT2
 refine tk 4 ?_
 refine rc 7 (fun K hK => ?_)
 go_simp
 refine (HSM.out _ hB hx hy (szq HZ3 hx) (szq HZ4 hy)).mono ?_
 rintro e w6 ⟨rfl,hb⟩
 have g5 := zab hb g5
 have e5 := zab hb e5
 have i5 := zab hb i5
 have g6 := zab hb g6
 have e6 := zab hb e6
 have i6 := zab hb i6
 have hx := hx.below hb
 have hy := hy.below hb
 have hr7 := hr7.below hb
 have he7 := he7.below hb
 have hr9 := hr9.below hb
 have he9 := he9.below hb
 have hB := zaa hB hb
 refine hK.out _ _ (hHeld.below hb) (fun hHeld => ?_); clear hK K
 try simp only [sb9]
 clear hb
 refine tk 8 ?_
 refine rdn ?_
 clear hHeld ste
 have n0 := zaH
 have n1 := zaG
 rcases HEX.out with ⟨ex1,ex2,ex3,ex4⟩ | ⟨-,hne,-⟩
 case inr =>
  obtain ⟨et,ex,rfl⟩ := he7.ne hne
  clear HEX HEY HON he7 he9 hr7 hr9 hx hy g5 e5 i5 g6 e6 i6
  go_wp2
  go_ret
  exact ⟨rfl,hB⟩
 case inl =>
 rcases HEY.out with ⟨ey1,ey2,ey3,ey4⟩ | ⟨-,hne,-⟩
 case inr =>
  obtain ⟨et,ex,rfl⟩ := he9.ne hne
  rw [ex1] at he7
  obtain rfl := he7
  clear HEX HEY HON he9 hr7 hr9 hx hy g5 e5 i5 g6 e6 i6
  go_wp2
  go_ret
  exact ⟨rfl,hB⟩
 case inl =>
 rw [ex1] at he7
 rw [ey1] at he9
 obtain rfl := he7
 obtain rfl := he9
 rw [ex2] at hr7
 rw [ey2] at hr9
 obtain ⟨A7,c7,rfl,hc7,hcm7,hrd7⟩ := hr7.reads
 obtain ⟨A9,c9,rfl,hc9,hcm9,hrd9⟩ := hr9.reads
 have hp7 : zat w6 (zaB x) A7 (zaB x).length c7 := ⟨hrd7,ex4,hc7,by unfold maxLen at hcm7; omega⟩
 have hp9 : zat w6 (zaB y) A9 (zaB y).length c9 := ⟨hrd9,ey4,hc9,by unfold maxLen at hcm9; omega⟩
 have hof := fun n hn => HON.out n hn
 have hqx : Hid (Dgs 256 (zaB x)) := ex4
 have hqy : Hid (Dgs 256 (zaB y)) := ey4
 obtain ⟨FX,hFX⟩ : ∃ q,zaB x = q := ⟨_,rfl⟩
 obtain ⟨FY,hFY⟩ : ∃ q,zaB y = q := ⟨_,rfl⟩
 rw [hFX] at hp7 hof hc7 hqx ex3 ⊢
 rw [hFY] at hp9 hof hc9 hqy ey3 ⊢
 obtain ⟨M,hM⟩ : ∃ q,min FX.length FY.length = q := ⟨_,rfl⟩
 have HOF := hof M hM.symm
 obtain ⟨L7,hL7⟩ : ∃ q,FX.length = q := ⟨_,rfl⟩
 obtain ⟨L9,hL9⟩ : ∃ q,FY.length = q := ⟨_,rfl⟩
 rw [hL7] at hp7 hc7 ex3 hM ⊢
 rw [hL9] at hp9 hc9 ey3 hM ⊢
 have q6 : (if L9 < L7 then (L9 : Int) else (L7 : Int)) = (M : Int) := by split <;> omega
 have q7 : (if L7 < L9 then (L7 : Int) else (L9 : Int)) = (M : Int) := by split <;> omega
 have q8 : min (L7 : Int) (L9 : Int) = (M : Int) := by omega
 obtain ⟨B7,hs7,hh7⟩ := zfM (n := L7) (c := c7) (m := M) A7 (by omega) hc7
 obtain ⟨B9,hs9,hh9⟩ := zfM (n := L9) (c := c9) (m := M) A9 (by omega) hc9
 have hq7 := hh7 _ _ hp7
 have hq9 := hh9 _ _ hp9
 have hte : ((zgz (FX.take M)).toList == (zgz (FY.take M)).toList) = tt := by
  rw [strL_eq (hqx.out.take M) (hqy.out.take M),← HTT.out]; exact decide_eq_decide.2 HOF
 obtain ⟨T7,hT7⟩ : ∃ q,zgz (FX.take M) = q := ⟨_,rfl⟩
 obtain ⟨T9,hT9⟩ : ∃ q,zgz (FY.take M) = q := ⟨_,rfl⟩
 have HC7 := lh9 (fun w' (hb : Below w6.heap.size w6 w') => zcF (P := Tryz.prog) (c := c7) 42 9 5 Tryz.underlying42 Tryz.underlying5 Tryz.underlying9 (hq7.below hb).1)
 have HC9 := lh9 (fun w' (hb : Below w6.heap.size w6 w') => zcF (P := Tryz.prog) (c := c9) 42 9 5 Tryz.underlying42 Tryz.underlying5 Tryz.underlying9 (hq9.below hb).1)
 rw [hT7] at HC7 hte
 rw [hT9] at HC9 hte
 clear hp7 hp9 hq7 hq9 hh7 hh9 hT7 hT9 HOF hof hM hL7 hL9 hFX hFY hc7 hc9 hcm7 hcm9 hrd7 hrd9 hr7 hr9 ex1 ex2 ex3 ex4 ey1 ey2 ey3 ey4 hqx hqy HTT HEX HEY HON
 go_upto_region 11 with fail
 have hBw := (Below.refl w6.heap.size w6).drew
 refine rg9 (csc g5 (csc e5 (csc i5 (csc g6 (csc e6 (csc i6 csn)))))) (fun hHeld => ?_)
 have g5 := zab hBw g5
 have e5 := zab hBw e5
 have i5 := zab hBw i5
 have g6 := zab hBw g6
 have e6 := zab hBw e6
 have i6 := zab hBw i6
 have hx := hx.below hBw
 have hy := hy.below hBw
 have hB := zaa hB hBw
 generalize hDD : w6.drew = D7 at *
 clear hBw hDD
 refine tk 0 ?_
 refine tk 1 ?_
 refine tk 2 ?_
 refine tk 3 ?_ (h6 := by intro w' hS; have h9 := HC7.out _ hS.2; go_simp; try with_reducible rfl)
 refine tk 4 ?_
 refine tk 5 ?_
 refine tk 6 ?_
 refine tk 7 ?_ (h6 := by intro w' hS; have h9 := HC9.out _ hS.2; go_simp; try with_reducible rfl)
 refine tk 8 ?_
 refine tk 9 ?_
 refine tk 10 ?_
 refine rc 11 (fun K hK => ?_)
 go_simp
 refine (HSM.out _ hB hx hy (szq HZ3 hx) (szq HZ4 hy)).mono ?_
 rintro e w8 ⟨rfl,hb⟩
 have g5 := zab hb g5
 have e5 := zab hb e5
 have i5 := zab hb i5
 have g6 := zab hb g6
 have e6 := zab hb e6
 have i6 := zab hb i6
 have hx := hx.below hb
 have hy := hy.below hb
 have hB := zaa hB hb
 refine hK.out _ _ ⟨hHeld.1.below hb,zaa hHeld.2 hb⟩ (fun hHeld => ?_); clear hK K
 try simp only [sb9]
 clear hb
 refine tk 12 ?_
 refine tk 13 ?_
 refine rdn ?_
 clear hHeld hx hy g5 e5 i5 g6 e6 i6 HSM HC7 HC9
 go_wp2
 go_ret
 exact ⟨by first | rfl | simp,hB⟩
end Go.Proofs.YtfieheffipfahaaGreatDoor
