/- What this claim leans on. -/
import Derived.Test.YtfieheffipfahaaGreatDoorTMeet3
namespace Go.Proofs.YtfieheffipfahaaGreatDoor
open Go Go.RowKit
set_option maxHeartbeats 16000000
set_option maxRecDepth 100000
set_option linter.unusedVariables false
set_option linter.unusedSimpArgs false
theorem zkQ {T : World → Prop} {M : Nat → Prop} (hTb : ∀ w w',T w → Below w.heap.size w w' → T w') (IC : IntC T) (QC : RatC T M) (s : Bool) (A : oA9) (n c : Nat) (l : List Nat) (E : oA9) (u v : Nat) (e : List Nat) (w : World) (h : zav w A n c l) (k : zav w E u v e) (hT : T w) (hd : dv 18446744073709551616 e = 0) :
  Calls Tryz.prog 11 #[.agg #[.bool s,.slice A n c,.slice E u v]] w (zdx w (fOf s l e)) := by
 have HIC := lh9 IC
 have HQC := lh9 QC
 have HT := lh9 (fun w' (hb : Below w.heap.size w w') => hTb w w' hT hb)
 obtain ⟨K,hK⟩ : ∃ K,1048576 = K := ⟨_,rfl⟩
 have hKK : K ≤ 1048576 := by omega
 have hK0 : 0 < K := by omega
 have HO0 := lh9 (zlN k)
 have HM := lh9 (fun w' (hb : Below w.heap.size w w') => ziL hTb IC s A n c l w' ⟨(h.reads.below hb).more hb.size,h.dgs,h.fits,h.small⟩ (hTb w w' hT hb))
 have hq : Rat.divInt (zOf s l) (((1 : Nat) : Nat) : Int) = fOf s l e := by unfold fOf dOf; rw [if_pos hd]
 have sz0 : Sz 1048576 (dv 18446744073709551616 e) := zdy k
 have sz1 : Sz 1048576 (zOf s l).natAbs := by rw [zgb]; exact zdy h
 rw [hK] at sz0 sz1
 obtain ⟨D0,hD⟩ : ∃ D,dv 18446744073709551616 e = D := ⟨_,rfl⟩
 obtain ⟨z,hz⟩ : ∃ z,zOf s l = z := ⟨_,rfl⟩
 obtain ⟨q,hqq⟩ : ∃ q,fOf s l e = q := ⟨_,rfl⟩
 rw [hD] at HO0 sz0 hd
 rw [hz] at HM sz1 hq
 rw [hqq] at hq ⊢
 have Hd0 := lh9 hd
 have HQ := lh9 hq
 have HS0 := lh9 sz0
 have HSZ := lh9 sz1
 have HSD : Hid (Sz K 1) := zck hK0
 have Hne : Hid ((1 : Nat) ≠ 0) := (show (1 : Nat) ≠ 0 from by decide)
 clear IC QC hT h k hD hz hqq hd hq sz0 sz1 hK
 go_enter Tryz.func11,Tryz.ntmps11
 have hB := Below.refl w.heap.size w
 obtain ⟨bx1,bx2,bx3,bz⟩ := zbQ w 26 33 #[.bool s,.slice A n c,.slice E u v] #[.bool false,.slice none 0 0,.slice none 0 0]
 have hB := zac hB bx1
 obtain ⟨g1,e1,i1⟩ := bx2.c3
 have k2 := bx3
 clear bx1 bx2 bx3 bz
 go_wp2_with fail
 generalize (w.alloc (.cells #[.bool s,.slice A n c,.slice E u v] 26)).alloc (.cells #[.bool false,.slice none 0 0,.slice none 0 0] 33) = W1 at *
 have HZ3 : Hid (Sz (K) (D0)) := HS0.out
 (with_reducible refine (HO0.out _ hB).mono ?_)
 rintro e wc2 ⟨B3,m3,d3,rfl,hw3,hb,_⟩
 have hB := zac hB hb
 have g1 := zad hb g1
 have e1 := zad hb e1
 have i1 := zad hb i1
 have k2 := zae hb k2
 have HN3 := lh9 hw3
 clear hb hw3
 have lt1_2 : w.heap.size < wc2.heap.size := World.block_lt_of_cell? wc2 ⟨w.heap.size,0,none⟩ g1
 have lt2_2 : w.heap.size + 1 < wc2.heap.size := k2.lt
 have hq2 := hB.size
 have kk4 := (zaA wc2 29 #[.slice B3 m3 d3]).2.1
 obtain ⟨bx1,bx2,bz⟩ := zaA wc2 29 #[.slice B3 m3 d3]
 have hB := zac hB bx1
 have g1 := zad bx1 g1
 have e1 := zad bx1 e1
 have i1 := zad bx1 i1
 have k2 := zae bx1 k2
 have HN3 := lh9 (HN3.out.below bx1)
 have g4 := bx2.c1
 clear bx1 bx2 bz
 go_wp2_with fail
 generalize wc2.alloc (.cells #[.slice B3 m3 d3] 29) = W3 at *
 generalize wc2.heap.size = q3 at *
 have k4 := kk4
 clear kk4
 (with_reducible refine (zbI Hd0.out HN3.out).mono ?_)
 rintro e wc4 ⟨rfl,hb⟩
 have hB := zac hB hb
 have g1 := zad hb g1
 have e1 := zad hb e1
 have i1 := zad hb i1
 have k2 := zae hb k2
 have HN3 := lh9 (HN3.out.below hb)
 have g4 := zad hb g4
 have k4 := zae hb k4
 clear hb 
 have lt1_4 : w.heap.size < wc4.heap.size := World.block_lt_of_cell? wc4 ⟨w.heap.size,0,none⟩ g1
 have lt2_4 : w.heap.size + 1 < wc4.heap.size := k2.lt
 have lt4_4 : q3 < wc4.heap.size := World.block_lt_of_cell? wc4 ⟨q3,0,none⟩ g4
 have hq4 := hB.size
 obtain ⟨bx1,bx2,bz⟩ := zaA wc4 81 #[.int .u64 1]
 have hB := zac hB bx1
 have g1 := zad bx1 g1
 have e1 := zad bx1 e1
 have i1 := zad bx1 i1
 have k2 := zae bx1 k2
 have HN3 := lh9 (HN3.out.below bx1)
 have g4 := zad bx1 g4
 have k4 := zae bx1 k4
 have k5 := bx2
 clear bx1 bx2 bz
 go_wp2_with fail
 generalize wc4.alloc (.cells #[.int .u64 1] 81) = W5 at *
 generalize wc4.heap.size = q5 at *
 have HZ6 : Hid (Sz (1) (1)) := (by show (1 : Nat) < 18446744073709551616 ^ 1; decide)
 (with_reducible refine (zea _ [1] _ _ 1 (1) k5 rfl rfl (dgs1 1 (by decide)) rfl (by decide)).mono ?_)
 rintro e wc6 ⟨B6,m6,d6,rfl,hw6,hb,_⟩
 have hB := zac hB hb
 have g1 := zad hb g1
 have e1 := zad hb e1
 have i1 := zad hb i1
 have k2 := zae hb k2
 have HN3 := lh9 (HN3.out.below hb)
 have g4 := zad hb g4
 have k4 := zae hb k4
 have k5 := zae hb k5
 have HN6 := lh9 hw6
 clear hb hw6
 obtain ⟨sc0,sf0⟩ := st1 k4
 have kz0 := sn1 k4 (.slice B6 m6 d6)
 have g1 := zag (q := ⟨q3,0,none⟩) (.slice B6 m6 d6) (by show w.heap.size ≠ q3; omega) (g1)
 have e1 := zag (q := ⟨q3,0,none⟩) (.slice B6 m6 d6) (by show w.heap.size ≠ q3; omega) (e1)
 have i1 := zag (q := ⟨q3,0,none⟩) (.slice B6 m6 d6) (by show w.heap.size ≠ q3; omega) (i1)
 have k2 := Blk.far (p := ⟨q3,0,none⟩) (k2) (by show w.heap.size + 1 ≠ q3; omega) (.slice B6 m6 d6)
 have HN3 := lh9 (zar HN3.out k4 (NoU.s1 _ _ _) (zbF _ _ (.slice B6 m6 d6)))
 have k5 := Blk.far (p := ⟨q3,0,none⟩) (k5) (by show q5 ≠ q3; omega) (.slice B6 m6 d6)
 have HN6 := lh9 (zar HN6.out k4 (NoU.s1 _ _ _) (zbF _ _ (.slice B6 m6 d6)))
 have hB := bl1 (.slice B6 m6 d6) (by show w.heap.size ≤ q3; omega) hB
 have g4 : (wc6.setCell ⟨q3,0,none⟩ (.slice B6 m6 d6)).cell? ⟨q3,0,none⟩ = some (.slice B6 m6 d6) := kz0.cell 0
 have k4 := kz0
 go_wp2_with fail
 clear sc0 sf0 kz0
 generalize wc6.setCell ⟨q3,0,none⟩ (.slice B6 m6 d6) = W7 at *
 go_wp2_with fail
 have HZ7 : Hid (Sz (K) (z).natAbs) := HSZ.out
 have C0 := lh9 (fun w' (h : Below W7.heap.size W7 w') => HM.out _ (zac hB h))
 have HZ8 : Hid (Sz (1) (((1 : Nat) : Int)).natAbs) := (by rw [Int.natAbs_natCast]; exact HZ6.out)
 have C1 := lh9 (fun w' (h : Below W7.heap.size W7 w') => zfL HIC.out (1) B6 m6 d6 w' (HT.out _ (zac hB h)) (HN6.out.below h) (szw HZ6 HN6.out))
 have HZ9 : Hid (SzQ (K) (Rat.divInt z (((1 : Nat) : Int)))) := SzQ.made HSZ.out (by rw [Int.natAbs_natCast]; exact HSD.out) (by omega)
 have C2 := lh9 (fun w' (h : Below W7.heap.size W7 w') b7 B7 m7 d7 (hw7 : zaw w' (z) b7 B7 m7 d7) b8 B8 m8 d8 (hw8 : zaw w' (((1 : Nat) : Int)) b8 B8 m8 d8) => HQC.out.new (z) (((1 : Nat) : Int)) b7 b8 B7 B8 m7 m8 d7 d8 w' (HT.out _ (zac hB h)) hw7 hw8 (szi HZ7 hw7) (szi HZ8 hw8) (by have := Hne.out; omega))
 have lt2_m7 := k2.lt
 have lt4_m7 := k4.lt
 have lt5_m7 := k5.lt
 have GG := lh9 (fun w' (h : Below W7.heap.size W7 w') => (csc (zad h g1) (csc (zad h e1) (csc (zad h i1) (csc (zad h g4) csn)))))
 refine rgB (fun hHeld => ?_)
 refine tl 0 GG.out ?_
 refine tl 1 GG.out ?_
 refine tl 3 GG.out ?_
 refine zbo (L := #[true,true,true,true,true,true,true,true,true,true,true,true])
  (J := fun a0 l a w' => ∃ (fl2 fl4 fl5 fl6 fl7 fl8 fl9 fl10 fl11 b7 : Bool) (B7 : oA9) (m7 d7 : Nat) (b8 : Bool) (B8 : oA9) (m8 d8 : Nat) (b9 : Bool) (B9 : oA9) (m9 d9 : Nat) (E9 : oA9) (u9 v9 ad9 : Nat),l = #[true,true,fl2,true,fl4,fl5,fl6,fl7,fl8,fl9,fl10,fl11] ∧ zcB [16,18,19,13,20,21,4,5] a0 a ∧ Hid (Below W7.heap.size W7 w') ∧
    Hid (Gd fl2 (a.tmps.getD 16 undef = .agg #[.bool b7,.slice B7 m7 d7] ∧ zaw w' (z) b7 B7 m7 d7)) ∧
    Hid (Gd fl4 (a.tmps.getD 18 undef = .agg #[.bool b8,.slice B8 m8 d8] ∧ zaw w' (((1 : Nat) : Int)) b8 B8 m8 d8)) ∧
    Hid (Gd fl5 (a.tmps.getD 19 undef = .tuple #[.agg #[.bool b9,.slice B9 m9 d9,.slice E9 u9 v9],.bool true] ∧ zau w' (Rat.divInt z (((1 : Nat) : Int))) b9 B9 m9 d9 E9 u9 v9)) ∧
    Hid (Gd fl6 (a.tmps.getD 13 undef = .tuple #[.agg #[.bool b9,.slice B9 m9 d9,.slice E9 u9 v9],.bool true])) ∧
    Hid (Gd fl7 (a.tmps.getD 20 undef = .agg #[.bool b9,.slice B9 m9 d9,.slice E9 u9 v9])) ∧
    Hid (Gd fl8 (a.tmps.getD 21 undef = .bool true)) ∧
    Hid (Gd fl11 (a.tmps.getD 5 undef = .bool true)) ∧
    Hid (Gd fl9 (a.tmps.getD 4 undef = .pointer (some ⟨ad9,0,none⟩) ∧ W7.heap.size ≤ ad9 ∧ Blk w' ad9 33 (bif fl10 then #[.bool b9,.slice B9 m9 d9,.slice E9 u9 v9] else #[.bool false,.slice none 0 0,.slice none 0 0]))) ∧
    Hid (Gd fl4 (fl2 = true)) ∧
    Hid (Gd fl5 (fl2 = true)) ∧
    Hid (Gd fl5 (fl4 = true)) ∧
    Hid (Gd fl6 (fl5 = true)) ∧
    Hid (Gd fl7 (fl6 = true)) ∧
    Hid (Gd fl8 (fl6 = true)) ∧
    Hid (Gd fl10 (fl5 = true)) ∧
    Hid (Gd fl10 (fl7 = true)) ∧
    Hid (Gd fl10 (fl9 = true)) ∧
    Hid (Gd fl11 (fl8 = true)) ∧
    Hid (Gd fl11 (fl10 = true)))
  (by rfl) ?_ ?_ ?_
 ·exact ⟨false,false,false,false,false,false,false,false,false,false,none,0,0,false,none,0,0,false,none,0,0,none,0,0,0,by kernel_rfl,zcB.refl _ _,hHeld,Gd.no,Gd.no,Gd.no,Gd.no,Gd.no,Gd.no,Gd.no,Gd.no,Gd.no,Gd.no,Gd.no,Gd.no,Gd.no,Gd.no,Gd.no,Gd.no,Gd.no,Gd.no,Gd.no⟩
 ·intro OPS Ac0 Q0 hO hAs hA
  have RB15 : Ac0.tmps.getD 15 undef = .agg #[.bool s,.slice A n c] := (hA 15 undef).trans (by kernel_rfl)
  have RB17 : Ac0.tmps.getD 17 undef = .agg #[.slice B6 m6 d6] := (hA 17 undef).trans (by kernel_rfl)
  have hsz : Ac0.tmps.size = 23 := hAs.trans (by kernel_rfl)
  clear hAs hA
  refine ⟨?_,?_⟩
  ·rintro l a w' ⟨fl2,fl4,fl5,fl6,fl7,fl8,fl9,fl10,fl11,b7,B7,m7,d7,b8,B8,m8,d8,b9,B9,m9,d9,E9,u9,v9,ad9,rfl,-⟩ hr
   obtain rfl : fl2 = true := als 2 hr hO
   obtain rfl : fl4 = true := als 4 hr hO
   obtain rfl : fl5 = true := als 5 hr hO
   obtain rfl : fl6 = true := als 6 hr hO
   obtain rfl : fl7 = true := als 7 hr hO
   obtain rfl : fl8 = true := als 8 hr hO
   obtain rfl : fl9 = true := als 9 hr hO
   obtain rfl : fl10 = true := als 10 hr hO
   obtain rfl : fl11 = true := als 11 hr hO
   rfl
  ·rintro l a w' i ⟨fl2,fl4,fl5,fl6,fl7,fl8,fl9,fl10,fl11,b7,B7,m7,d7,b8,B8,m8,d8,b9,B9,m9,d9,E9,u9,v9,ad9,rfl,HKp,hBi,qf2,qf4,qf5,qf6,qf7,qf8,qf11,qf9,qd4_2,qd5_2,qd5_4,qd6_5,qd7_6,qd8_6,qd10_5,qd10_7,qd10_9,qd11_8,qd11_10⟩ hne hi
   have hlt : i < 12 := by have := zcM hi; rw [hO] at this; exact this
   rcases (show i = 0 ∨ i = 1 ∨ i = 2 ∨ i = 3 ∨ i = 4 ∨ i = 5 ∨ i = 6 ∨ i = 7 ∨ i = 8 ∨ i = 9 ∨ i = 10 ∨ i = 11 by omega) with rfl | rfl | rfl | rfl | rfl | rfl | rfl | rfl | rfl | rfl | rfl | rfl
   ·cases (zai hi : true = false)
   ·cases (zai hi : true = false)
   ·obtain rfl : fl2 = false := zai hi
    obtain rfl : fl4 = false := Gd.off qd4_2.out
    obtain rfl : fl5 = false := Gd.off qd5_2.out
    obtain rfl : fl6 = false := Gd.off qd6_5.out
    obtain rfl : fl7 = false := Gd.off qd7_6.out
    obtain rfl : fl8 = false := Gd.off qd8_6.out
    obtain rfl : fl10 = false := Gd.off qd10_5.out
    obtain rfl : fl11 = false := Gd.off qd11_8.out
    have rd15 := HKp.get 15 (by decide) RB15
    refine wog hO (fun K' hK => ?_)
    go_simp
    refine (C0.out w' hBi.out).mono ?_
    rintro e w2 ⟨nb7,nB7,nm7,nd7,rfl,nhw7,hb⟩
    exact hK.out _ _ ⟨zac hBi.out hb,true,false,false,false,false,false,fl9,false,false,nb7,nB7,nm7,nd7,b8,B8,m8,d8,b9,B9,m9,d9,E9,u9,v9,ad9,by rfl,HKp.put (by decide) _,zac hBi.out hb,Gd.yes ⟨zaB (HKp.lt (by rw [hsz]; decide)) _,nhw7⟩,Gd.no,Gd.no,Gd.no,Gd.no,Gd.no,Gd.no,kq qf9.out fun h => ⟨h.1,zae hb h.2⟩,Gd.no,Gd.no,Gd.no,Gd.no,Gd.no,Gd.no,Gd.no,Gd.no,Gd.no,Gd.no,Gd.no⟩
   ·cases (zai hi : true = false)
   ·obtain rfl : fl4 = false := zai hi
    obtain rfl : fl2 = true := rdp 2 1 hi hO
    obtain rfl : fl5 = false := Gd.off qd5_4.out
    obtain rfl : fl6 = false := Gd.off qd6_5.out
    obtain rfl : fl7 = false := Gd.off qd7_6.out
    obtain rfl : fl8 = false := Gd.off qd8_6.out
    obtain rfl : fl10 = false := Gd.off qd10_5.out
    obtain rfl : fl11 = false := Gd.off qd11_8.out
    have rd17 := HKp.get 17 (by decide) RB17
    refine wog hO (fun K' hK => ?_)
    go_simp
    refine (C1.out w' hBi.out).mono ?_
    rintro e w2 ⟨nb8,nB8,nm8,nd8,rfl,nhw8,hb⟩
    exact hK.out _ _ ⟨zac hBi.out hb,true,true,false,false,false,false,fl9,false,false,b7,B7,m7,d7,nb8,nB8,nm8,nd8,b9,B9,m9,d9,E9,u9,v9,ad9,by rfl,HKp.put (by decide) _,zac hBi.out hb,kq qf2.out fun h => (h).below hb,Gd.yes ⟨zaB (HKp.lt (by rw [hsz]; decide)) _,nhw8⟩,Gd.no,Gd.no,Gd.no,Gd.no,Gd.no,kq qf9.out fun h => ⟨h.1,zae hb h.2⟩,fun _ => rfl,Gd.no,Gd.no,Gd.no,Gd.no,Gd.no,Gd.no,Gd.no,Gd.no,Gd.no,Gd.no⟩
   ·obtain rfl : fl5 = false := zai hi
    obtain rfl : fl2 = true := rdp 2 0 hi hO
    obtain rfl : fl4 = true := rdp 4 1 hi hO
    obtain rfl : fl6 = false := Gd.off qd6_5.out
    obtain rfl : fl7 = false := Gd.off qd7_6.out
    obtain rfl : fl8 = false := Gd.off qd8_6.out
    obtain rfl : fl10 = false := Gd.off qd10_5.out
    obtain rfl : fl11 = false := Gd.off qd11_8.out
    have rd16 := qf2.out.get.1
    have rd18 := qf4.out.get.1
    have hw7 := qf2.out.get.2
    have hw8 := qf4.out.get.2
    refine wog hO (fun K' hK => ?_)
    go_simp
    refine (C2.out w' hBi.out _ _ _ _ hw7 _ _ _ _ hw8).mono ?_
    rintro e w2 ⟨nb9,nB9,nm9,nd9,nE9,nu9,nv9,rfl,nhw9,hb⟩
    exact hK.out _ _ ⟨zac hBi.out hb,true,true,true,false,false,false,fl9,false,false,b7,B7,m7,d7,b8,B8,m8,d8,nb9,nB9,nm9,nd9,nE9,nu9,nv9,ad9,by rfl,HKp.put (by decide) _,zac hBi.out hb,kq qf2.out fun h => (h).below hb,kq qf4.out fun h => (h).below hb,Gd.yes ⟨zaB (HKp.lt (by rw [hsz]; decide)) _,nhw9⟩,Gd.no,Gd.no,Gd.no,Gd.no,kq qf9.out fun h => ⟨h.1,zae hb h.2⟩,fun _ => rfl,fun _ => rfl,fun _ => rfl,Gd.no,Gd.no,Gd.no,Gd.no,Gd.no,Gd.no,Gd.no,Gd.no⟩
   ·obtain rfl : fl6 = false := zai hi
    obtain rfl : fl5 = true := rdp 5 0 hi hO
    obtain rfl : fl2 = true := qd5_2.out.get
    obtain rfl : fl4 = true := qd5_4.out.get
    obtain rfl : fl7 = false := Gd.off qd7_6.out
    obtain rfl : fl8 = false := Gd.off qd8_6.out
    obtain rfl : fl10 = false := Gd.off qd10_7.out
    obtain rfl : fl11 = false := Gd.off qd11_8.out
    have rd19 := qf5.out.get.1
    refine wog hO (fun K' hK => ?_)
    refine zaZ (x := 19) (Or.inl rfl) rd19 ?_
    exact hK.out _ _ ⟨hBi.out,true,true,true,true,false,false,fl9,false,false,b7,B7,m7,d7,b8,B8,m8,d8,b9,B9,m9,d9,E9,u9,v9,ad9,by rfl,HKp.put (by decide) _,hBi.out,kq qf2.out fun h => (h),kq qf4.out fun h => (h),kq qf5.out fun h => (h),Gd.yes (zaB (HKp.lt (by rw [hsz]; decide)) _),Gd.no,Gd.no,Gd.no,kq qf9.out id,fun _ => rfl,fun _ => rfl,fun _ => rfl,fun _ => rfl,Gd.no,Gd.no,Gd.no,Gd.no,Gd.no,Gd.no,Gd.no⟩
   ·obtain rfl : fl7 = false := zai hi
    obtain rfl : fl6 = true := rdp 6 0 hi hO
    obtain rfl : fl5 = true := qd6_5.out.get
    obtain rfl : fl2 = true := qd5_2.out.get
    obtain rfl : fl4 = true := qd5_4.out.get
    obtain rfl : fl10 = false := Gd.off qd10_7.out
    obtain rfl : fl11 = false := Gd.off qd11_10.out
    have rd13 := qf6.out.get
    refine wog hO (fun K' hK => ?_)
    refine zaJ (x := 13) (k := 0) rfl rd13 rfl ?_
    exact hK.out _ _ ⟨hBi.out,true,true,true,true,true,fl8,fl9,false,false,b7,B7,m7,d7,b8,B8,m8,d8,b9,B9,m9,d9,E9,u9,v9,ad9,by rfl,HKp.put (by decide) _,hBi.out,kq qf2.out fun h => (h),kq qf4.out fun h => (h),kq qf5.out fun h => (h),kq0 qf6.out,Gd.yes (zaB (HKp.lt (by rw [hsz]; decide)) _),kq0 qf8.out,Gd.no,kq qf9.out id,fun _ => rfl,fun _ => rfl,fun _ => rfl,fun _ => rfl,fun _ => rfl,fun _ => rfl,Gd.no,Gd.no,Gd.no,Gd.no,Gd.no⟩
   ·obtain rfl : fl8 = false := zai hi
    obtain rfl : fl6 = true := rdp 6 0 hi hO
    obtain rfl : fl5 = true := qd6_5.out.get
    obtain rfl : fl2 = true := qd5_2.out.get
    obtain rfl : fl4 = true := qd5_4.out.get
    obtain rfl : fl11 = false := Gd.off qd11_8.out
    have rd13 := qf6.out.get
    refine wog hO (fun K' hK => ?_)
    refine zaJ (x := 13) (k := 1) rfl rd13 rfl ?_
    exact hK.out _ _ ⟨hBi.out,true,true,true,true,fl7,true,fl9,fl10,false,b7,B7,m7,d7,b8,B8,m8,d8,b9,B9,m9,d9,E9,u9,v9,ad9,by rfl,HKp.put (by decide) _,hBi.out,kq qf2.out fun h => (h),kq qf4.out fun h => (h),kq qf5.out fun h => (h),kq0 qf6.out,kq0 qf7.out,Gd.yes (zaB (HKp.lt (by rw [hsz]; decide)) _),Gd.no,kq qf9.out id,fun _ => rfl,fun _ => rfl,fun _ => rfl,fun _ => rfl,fun _ => rfl,fun _ => rfl,fun _ => rfl,qd10_7,qd10_9,Gd.no,Gd.no⟩
   ·obtain rfl : fl9 = false := zai hi
    obtain rfl : fl10 = false := Gd.off qd10_9.out
    obtain rfl : fl11 = false := Gd.off qd11_10.out
    refine wog hO (fun K' hK => ?_)
    go_simp
    have hb := zbH w' (.cells #[.bool false,.slice none 0 0,.slice none 0 0] 33)
    exact hK.out _ _ ⟨zac hBi.out hb,fl2,fl4,fl5,fl6,fl7,fl8,true,false,false,b7,B7,m7,d7,b8,B8,m8,d8,b9,B9,m9,d9,E9,u9,v9,w'.heap.size,by rfl,HKp.put (by decide) _,zac hBi.out hb,kq qf2.out fun h => (h).below hb,kq qf4.out fun h => (h).below hb,kq qf5.out fun h => (h).below hb,kq0 qf6.out,kq0 qf7.out,kq0 qf8.out,Gd.no,Gd.yes ⟨zaB (HKp.lt (by rw [hsz]; decide)) _,hBi.out.size,Blk.new w' _ _⟩,qd4_2,qd5_2,qd5_4,qd6_5,qd7_6,qd8_6,Gd.no,Gd.no,Gd.no,Gd.no,Gd.no⟩
   ·obtain rfl : fl10 = false := zai hi
    obtain rfl : fl2 = true := rdp 2 5 hi hO
    obtain rfl : fl4 = true := rdp 4 7 hi hO
    obtain rfl : fl5 = true := rdp 5 2 hi hO
    obtain rfl : fl6 = true := rdp 6 9 hi hO
    obtain rfl : fl7 = true := rdp 7 1 hi hO
    obtain rfl : fl9 = true := rdp 9 0 hi hO
    obtain rfl : fl11 = false := Gd.off qd11_10.out
    have rd4 := qf9.out.get.1
    have rd20 := qf7.out.get
    obtain ⟨_,hg,hk⟩ := qf9.out.get
    have hk : Blk w' ad9 33 #[.bool false,.slice none 0 0,.slice none 0 0] := hk
    obtain ⟨sc0,sf0,sc1,sf1,sc2,sf2⟩ := st3 hk (.bool b9) (.slice B9 m9 d9)
    have hj2 := sn3 hk (.bool b9) (.slice B9 m9 d9) (.slice E9 u9 v9)
    have hBn := bl3 (.bool b9) (.slice B9 m9 d9) (.slice E9 u9 v9) hg hBi.out
    refine wog hO (fun K' hK => ?_)
    go_simp
    exact hK.out _ _ ⟨hBn,true,true,true,true,true,fl8,true,true,false,b7,B7,m7,d7,b8,B8,m8,d8,b9,B9,m9,d9,E9,u9,v9,ad9,by rfl,HKp,hBn,qf2.out.mono fun h => ⟨h.1,zcI (h.2) hk zek (zcL _ _ _ _ _)⟩,qf4.out.mono fun h => ⟨h.1,zcI (h.2) hk zek (zcL _ _ _ _ _)⟩,qf5.out.mono fun h => ⟨h.1,zbC (h.2) hk zek (zcL _ _ _ _ _)⟩,qf6.out.mono fun h => h,qf7.out.mono fun h => h,qf8.out.mono fun h => h,Gd.no,qf9.out.mono fun h => ⟨h.1,h.2.1,hj2⟩,fun _ => rfl,fun _ => rfl,fun _ => rfl,fun _ => rfl,fun _ => rfl,fun _ => rfl,fun _ => rfl,fun _ => rfl,fun _ => rfl,Gd.no,Gd.no⟩
   ·obtain rfl : fl11 = false := zai hi
    obtain rfl : fl2 = true := rdp 2 4 hi hO
    obtain rfl : fl4 = true := rdp 4 6 hi hO
    obtain rfl : fl5 = true := rdp 5 7 hi hO
    obtain rfl : fl6 = true := rdp 6 8 hi hO
    obtain rfl : fl7 = true := rdp 7 9 hi hO
    obtain rfl : fl8 = true := rdp 8 0 hi hO
    obtain rfl : fl9 = true := rdp 9 11 hi hO
    obtain rfl : fl10 = true := rdp 10 1 hi hO
    have rd21 := qf8.out.get
    refine wog hO (fun K' hK => ?_)
    refine zaZ (x := 21) (Or.inr rfl) rd21 ?_
    exact hK.out _ _ ⟨hBi.out,true,true,true,true,true,true,true,true,true,b7,B7,m7,d7,b8,B8,m8,d8,b9,B9,m9,d9,E9,u9,v9,ad9,by rfl,HKp.put (by decide) _,hBi.out,kq qf2.out fun h => (h),kq qf4.out fun h => (h),kq qf5.out fun h => (h),kq0 qf6.out,kq0 qf7.out,kq0 qf8.out,Gd.yes (zaB (HKp.lt (by rw [hsz]; decide)) _),kq qf9.out id,fun _ => rfl,fun _ => rfl,fun _ => rfl,fun _ => rfl,fun _ => rfl,fun _ => rfl,fun _ => rfl,fun _ => rfl,fun _ => rfl,fun _ => rfl,fun _ => rfl⟩
 rintro a wm8 ⟨fl2,fl4,fl5,fl6,fl7,fl8,fl9,fl10,fl11,b7,B7,m7,d7,b8,B8,m8,d8,b9,B9,m9,d9,E9,u9,v9,ad9,hl,HKp,hBi,qf2,qf4,qf5,qf6,qf7,qf8,qf11,qf9,qd4_2,qd5_2,qd5_4,qd6_5,qd7_6,qd8_6,qd10_5,qd10_7,qd10_9,qd11_8,qd11_10⟩
 have xx2 : fl2 = true := gdl 2 hl
 subst xx2
 have xx4 : fl4 = true := gdl 4 hl
 subst xx4
 have xx5 : fl5 = true := gdl 5 hl
 subst xx5
 have xx6 : fl6 = true := gdl 6 hl
 subst xx6
 have xx7 : fl7 = true := gdl 7 hl
 subst xx7
 have xx8 : fl8 = true := gdl 8 hl
 subst xx8
 have xx9 : fl9 = true := gdl 9 hl
 subst xx9
 have xx10 : fl10 = true := gdl 10 hl
 subst xx10
 have xx11 : fl11 = true := gdl 11 hl
 subst xx11
 obtain ⟨rv2,hw7⟩ := qf2.out.get
 obtain ⟨rv4,hw8⟩ := qf4.out.get
 obtain ⟨rv5,hw9⟩ := qf5.out.get
 have rv6 := qf6.out.get
 have rv7 := qf7.out.get
 have rv8 := qf8.out.get
 have rv11 := qf11.out.get
 obtain ⟨rv9,hg9,hk9⟩ := qf9.out.get
 obtain rfl := HKp.eq [(16,.agg #[.bool b7,.slice B7 m7 d7]),(18,.agg #[.bool b8,.slice B8 m8 d8]),(19,.tuple #[.agg #[.bool b9,.slice B9 m9 d9,.slice E9 u9 v9],.bool true]),(13,.tuple #[.agg #[.bool b9,.slice B9 m9 d9,.slice E9 u9 v9],.bool true]),(20,.agg #[.bool b9,.slice B9 m9 d9,.slice E9 u9 v9]),(21,.bool true),(4,.pointer (some ⟨ad9,0,none⟩)),(5,.bool true)] rfl (by
  intro p hp
  simp only [List.mem_cons,List.not_mem_nil,or_false] at hp
  rcases hp with rfl | rfl | rfl | rfl | rfl | rfl | rfl | rfl
  ·exact rv2
  ·exact rv4
  ·exact rv5
  ·exact rv6
  ·exact rv7
  ·exact rv8
  ·exact rv9
  ·exact rv11)
 have hBv := hBi.out
 clear hl hBi HKp qf2 qf4 qf5 qf6 qf7 qf8 qf11 qf9 qd4_2 qd5_2 qd5_4 qd6_5 qd7_6 qd8_6 qd10_5 qd10_7 qd10_9 qd11_8 qd11_10 rv2 rv4 rv5 rv6 rv7 rv8 rv9 rv11
 have hk9 : Blk wm8 ad9 33 #[.bool b9,.slice B9 m9 d9,.slice E9 u9 v9] := hk9
 rw [show due #[true,true,true,true,true,true,true,true,true,true,true,true] = 0 from rfl]
 simp only [zcv,List.foldl,Act.put,List.setIfInBounds_toArray,List.set_cons_zero,List.set_cons_succ]
 refine wpAnyH_done (by kernel_rfl) ?_ _
 refine NoPanic.normal ?_
 have hB := zac hB hBv
 have g1 := zad hBv g1
 have e1 := zad hBv e1
 have i1 := zad hBv i1
 have k2 := zae hBv k2
 have HN3 := lh9 (HN3.out.below hBv)
 have k4 := zae hBv k4
 have k5 := zae hBv k5
 have HN6 := lh9 (HN6.out.below hBv)
 have g4 := zad hBv g4
 obtain ⟨ad9_10,hga⟩ : ∃ x,x = ad9 := ⟨_,rfl⟩
 subst hga
 obtain ⟨g10,e10,i10⟩ := hk9.c3
 have HN7 := lh9 hw7
 have HN8 := lh9 hw8
 have HN9 := lh9 hw9
 clear hBv hk9 hw7 hw8 hw9 GG
 clear C0 C1 C2
 obtain ⟨sc0,sf0,sc1,sf1,sc2,sf2⟩ := st3 k2 (.bool b9) (.slice B9 m9 d9)
 obtain ⟨r0,r1,r2⟩ := (sn3 k2 (.bool b9) (.slice B9 m9 d9) (.slice E9 u9 v9)).c3
 have HG := lh9 (gq3 (zau.to HQ.out HN9.out) k2 hB (by omega))
 go_wp2
 refine bodyPost_ret (v := .agg #[.bool b9,.slice B9 m9 d9,.slice E9 u9 v9]) (by simp [results,Tryz.results11,go_sem,r0,r1,r2]) rfl ?_
 exact HG.out
theorem zkP {T : World → Prop} {M : Nat → Prop} (hTb : ∀ w w',T w → Below w.heap.size w w' → T w') (IC : IntC T) (QC : RatC T M) (s : Bool) (A : oA9) (n c : Nat) (l : List Nat) (E : oA9) (u v : Nat) (e : List Nat) (w : World) (h : zav w A n c l) (k : zav w E u v e) (hT : T w) (hd : dv 18446744073709551616 e ≠ 0) :
  Calls Tryz.prog 11 #[.agg #[.bool s,.slice A n c,.slice E u v]] w (zdx w (fOf s l e)) := by
 have HIC := lh9 IC
 have HQC := lh9 QC
 have HT := lh9 (fun w' (hb : Below w.heap.size w w') => hTb w w' hT hb)
 obtain ⟨K,hK⟩ : ∃ K,1048576 = K := ⟨_,rfl⟩
 have hKK : K ≤ 1048576 := by omega
 have hK0 : 0 < K := by omega
 have HO0 := lh9 (zlN k)
 have HM := lh9 (fun w' (hb : Below w.heap.size w w') => ziL hTb IC s A n c l w' ⟨(h.reads.below hb).more hb.size,h.dgs,h.fits,h.small⟩ (hTb w w' hT hb))
 have hq : Rat.divInt (zOf s l) ((dv 18446744073709551616 e : Nat) : Int) = fOf s l e := by unfold fOf dOf; rw [if_neg hd]
 have sz0 : Sz 1048576 (dv 18446744073709551616 e) := zdy k
 have sz1 : Sz 1048576 (zOf s l).natAbs := by rw [zgb]; exact zdy h
 rw [hK] at sz0 sz1
 obtain ⟨D0,hD⟩ : ∃ D,dv 18446744073709551616 e = D := ⟨_,rfl⟩
 obtain ⟨z,hz⟩ : ∃ z,zOf s l = z := ⟨_,rfl⟩
 obtain ⟨q,hqq⟩ : ∃ q,fOf s l e = q := ⟨_,rfl⟩
 rw [hD] at HO0 sz0 hd hq
 rw [hz] at HM sz1 hq
 rw [hqq] at hq ⊢
 have Hd0 := lh9 hd
 have HQ := lh9 hq
 have HS0 := lh9 sz0
 have HSZ := lh9 sz1
 have HSD : Hid (Sz K D0) := sz0
 have Hne : Hid ((D0 : Nat) ≠ 0) := hd
 clear IC QC hT h k hD hz hqq hd hq sz0 sz1 hK
 go_enter Tryz.func11,Tryz.ntmps11
 have hB := Below.refl w.heap.size w
 obtain ⟨bx1,bx2,bx3,bz⟩ := zbQ w 26 33 #[.bool s,.slice A n c,.slice E u v] #[.bool false,.slice none 0 0,.slice none 0 0]
 have hB := zac hB bx1
 obtain ⟨g1,e1,i1⟩ := bx2.c3
 have k2 := bx3
 clear bx1 bx2 bx3 bz
 go_wp2_with fail
 generalize (w.alloc (.cells #[.bool s,.slice A n c,.slice E u v] 26)).alloc (.cells #[.bool false,.slice none 0 0,.slice none 0 0] 33) = W1 at *
 have HZ3 : Hid (Sz (K) (D0)) := HS0.out
 (with_reducible refine (HO0.out _ hB).mono ?_)
 rintro e wc2 ⟨B3,m3,d3,rfl,hw3,hb,_⟩
 have hB := zac hB hb
 have g1 := zad hb g1
 have e1 := zad hb e1
 have i1 := zad hb i1
 have k2 := zae hb k2
 have HN3 := lh9 hw3
 clear hb hw3
 have lt1_2 : w.heap.size < wc2.heap.size := World.block_lt_of_cell? wc2 ⟨w.heap.size,0,none⟩ g1
 have lt2_2 : w.heap.size + 1 < wc2.heap.size := k2.lt
 have hq2 := hB.size
 have kk4 := (zaA wc2 29 #[.slice B3 m3 d3]).2.1
 obtain ⟨bx1,bx2,bz⟩ := zaA wc2 29 #[.slice B3 m3 d3]
 have hB := zac hB bx1
 have g1 := zad bx1 g1
 have e1 := zad bx1 e1
 have i1 := zad bx1 i1
 have k2 := zae bx1 k2
 have HN3 := lh9 (HN3.out.below bx1)
 have g4 := bx2.c1
 clear bx1 bx2 bz
 go_wp2_with fail
 generalize wc2.alloc (.cells #[.slice B3 m3 d3] 29) = W3 at *
 generalize wc2.heap.size = q3 at *
 have k4 := kk4
 clear kk4
 (with_reducible refine (zbX Hd0.out HN3.out).mono ?_)
 rintro e wc4 ⟨rfl,hb⟩
 have hB := zac hB hb
 have g1 := zad hb g1
 have e1 := zad hb e1
 have i1 := zad hb i1
 have k2 := zae hb k2
 have HN3 := lh9 (HN3.out.below hb)
 have g4 := zad hb g4
 have k4 := zae hb k4
 clear hb 
 go_wp2_with fail
 have HZ5 : Hid (Sz (K) (z).natAbs) := HSZ.out
 have C0 := lh9 (fun w' (h : Below wc4.heap.size wc4 w') => HM.out _ (zac hB h))
 have HZ6 : Hid (Sz (K) (((D0 : Nat) : Int)).natAbs) := (by rw [Int.natAbs_natCast]; exact HZ3.out)
 have C1 := lh9 (fun w' (h : Below wc4.heap.size wc4 w') => zfL HIC.out (D0) B3 m3 d3 w' (HT.out _ (zac hB h)) (HN3.out.below h) (szw HZ3 HN3.out))
 have HZ7 : Hid (SzQ (K) (Rat.divInt z (((D0 : Nat) : Int)))) := SzQ.made HSZ.out (by rw [Int.natAbs_natCast]; exact HSD.out) (by omega)
 have C2 := lh9 (fun w' (h : Below wc4.heap.size wc4 w') b5 B5 m5 d5 (hw5 : zaw w' (z) b5 B5 m5 d5) b6 B6 m6 d6 (hw6 : zaw w' (((D0 : Nat) : Int)) b6 B6 m6 d6) => HQC.out.new (z) (((D0 : Nat) : Int)) b5 b6 B5 B6 m5 m6 d5 d6 w' (HT.out _ (zac hB h)) hw5 hw6 (szi HZ5 hw5) (szi HZ6 hw6) (by have := Hne.out; omega))
 have lt2_m4 := k2.lt
 have lt4_m4 := k4.lt
 have GG := lh9 (fun w' (h : Below wc4.heap.size wc4 w') => (csc (zad h g1) (csc (zad h e1) (csc (zad h i1) (csc (zad h g4) csn)))))
 refine rgB (fun hHeld => ?_)
 refine tl 0 GG.out ?_
 refine tl 1 GG.out ?_
 refine tl 3 GG.out ?_
 refine zbo (L := #[true,true,true,true,true,true,true,true,true,true,true,true])
  (J := fun a0 l a w' => ∃ (fl2 fl4 fl5 fl6 fl7 fl8 fl9 fl10 fl11 b5 : Bool) (B5 : oA9) (m5 d5 : Nat) (b6 : Bool) (B6 : oA9) (m6 d6 : Nat) (b7 : Bool) (B7 : oA9) (m7 d7 : Nat) (E7 : oA9) (u7 v7 ad9 : Nat),l = #[true,true,fl2,true,fl4,fl5,fl6,fl7,fl8,fl9,fl10,fl11] ∧ zcB [16,18,19,13,20,21,4,5] a0 a ∧ Hid (Below wc4.heap.size wc4 w') ∧
    Hid (Gd fl2 (a.tmps.getD 16 undef = .agg #[.bool b5,.slice B5 m5 d5] ∧ zaw w' (z) b5 B5 m5 d5)) ∧
    Hid (Gd fl4 (a.tmps.getD 18 undef = .agg #[.bool b6,.slice B6 m6 d6] ∧ zaw w' (((D0 : Nat) : Int)) b6 B6 m6 d6)) ∧
    Hid (Gd fl5 (a.tmps.getD 19 undef = .tuple #[.agg #[.bool b7,.slice B7 m7 d7,.slice E7 u7 v7],.bool true] ∧ zau w' (Rat.divInt z (((D0 : Nat) : Int))) b7 B7 m7 d7 E7 u7 v7)) ∧
    Hid (Gd fl6 (a.tmps.getD 13 undef = .tuple #[.agg #[.bool b7,.slice B7 m7 d7,.slice E7 u7 v7],.bool true])) ∧
    Hid (Gd fl7 (a.tmps.getD 20 undef = .agg #[.bool b7,.slice B7 m7 d7,.slice E7 u7 v7])) ∧
    Hid (Gd fl8 (a.tmps.getD 21 undef = .bool true)) ∧
    Hid (Gd fl11 (a.tmps.getD 5 undef = .bool true)) ∧
    Hid (Gd fl9 (a.tmps.getD 4 undef = .pointer (some ⟨ad9,0,none⟩) ∧ wc4.heap.size ≤ ad9 ∧ Blk w' ad9 33 (bif fl10 then #[.bool b7,.slice B7 m7 d7,.slice E7 u7 v7] else #[.bool false,.slice none 0 0,.slice none 0 0]))) ∧
    Hid (Gd fl4 (fl2 = true)) ∧
    Hid (Gd fl5 (fl2 = true)) ∧
    Hid (Gd fl5 (fl4 = true)) ∧
    Hid (Gd fl6 (fl5 = true)) ∧
    Hid (Gd fl7 (fl6 = true)) ∧
    Hid (Gd fl8 (fl6 = true)) ∧
    Hid (Gd fl10 (fl5 = true)) ∧
    Hid (Gd fl10 (fl7 = true)) ∧
    Hid (Gd fl10 (fl9 = true)) ∧
    Hid (Gd fl11 (fl8 = true)) ∧
    Hid (Gd fl11 (fl10 = true)))
  (by rfl) ?_ ?_ ?_
 ·exact ⟨false,false,false,false,false,false,false,false,false,false,none,0,0,false,none,0,0,false,none,0,0,none,0,0,0,by kernel_rfl,zcB.refl _ _,hHeld,Gd.no,Gd.no,Gd.no,Gd.no,Gd.no,Gd.no,Gd.no,Gd.no,Gd.no,Gd.no,Gd.no,Gd.no,Gd.no,Gd.no,Gd.no,Gd.no,Gd.no,Gd.no,Gd.no⟩
 ·intro OPS Ac0 Q0 hO hAs hA
  have RB15 : Ac0.tmps.getD 15 undef = .agg #[.bool s,.slice A n c] := (hA 15 undef).trans (by kernel_rfl)
  have RB17 : Ac0.tmps.getD 17 undef = .agg #[.slice B3 m3 d3] := (hA 17 undef).trans (by kernel_rfl)
  have hsz : Ac0.tmps.size = 23 := hAs.trans (by kernel_rfl)
  clear hAs hA
  refine ⟨?_,?_⟩
  ·rintro l a w' ⟨fl2,fl4,fl5,fl6,fl7,fl8,fl9,fl10,fl11,b5,B5,m5,d5,b6,B6,m6,d6,b7,B7,m7,d7,E7,u7,v7,ad9,rfl,-⟩ hr
   obtain rfl : fl2 = true := als 2 hr hO
   obtain rfl : fl4 = true := als 4 hr hO
   obtain rfl : fl5 = true := als 5 hr hO
   obtain rfl : fl6 = true := als 6 hr hO
   obtain rfl : fl7 = true := als 7 hr hO
   obtain rfl : fl8 = true := als 8 hr hO
   obtain rfl : fl9 = true := als 9 hr hO
   obtain rfl : fl10 = true := als 10 hr hO
   obtain rfl : fl11 = true := als 11 hr hO
   rfl
  ·rintro l a w' i ⟨fl2,fl4,fl5,fl6,fl7,fl8,fl9,fl10,fl11,b5,B5,m5,d5,b6,B6,m6,d6,b7,B7,m7,d7,E7,u7,v7,ad9,rfl,HKp,hBi,qf2,qf4,qf5,qf6,qf7,qf8,qf11,qf9,qd4_2,qd5_2,qd5_4,qd6_5,qd7_6,qd8_6,qd10_5,qd10_7,qd10_9,qd11_8,qd11_10⟩ hne hi
   have hlt : i < 12 := by have := zcM hi; rw [hO] at this; exact this
   rcases (show i = 0 ∨ i = 1 ∨ i = 2 ∨ i = 3 ∨ i = 4 ∨ i = 5 ∨ i = 6 ∨ i = 7 ∨ i = 8 ∨ i = 9 ∨ i = 10 ∨ i = 11 by omega) with rfl | rfl | rfl | rfl | rfl | rfl | rfl | rfl | rfl | rfl | rfl | rfl
   ·cases (zai hi : true = false)
   ·cases (zai hi : true = false)
   ·obtain rfl : fl2 = false := zai hi
    obtain rfl : fl4 = false := Gd.off qd4_2.out
    obtain rfl : fl5 = false := Gd.off qd5_2.out
    obtain rfl : fl6 = false := Gd.off qd6_5.out
    obtain rfl : fl7 = false := Gd.off qd7_6.out
    obtain rfl : fl8 = false := Gd.off qd8_6.out
    obtain rfl : fl10 = false := Gd.off qd10_5.out
    obtain rfl : fl11 = false := Gd.off qd11_8.out
    have rd15 := HKp.get 15 (by decide) RB15
    refine wog hO (fun K' hK => ?_)
    go_simp
    refine (C0.out w' hBi.out).mono ?_
    rintro e w2 ⟨nb5,nB5,nm5,nd5,rfl,nhw5,hb⟩
    exact hK.out _ _ ⟨zac hBi.out hb,true,false,false,false,false,false,fl9,false,false,nb5,nB5,nm5,nd5,b6,B6,m6,d6,b7,B7,m7,d7,E7,u7,v7,ad9,by rfl,HKp.put (by decide) _,zac hBi.out hb,Gd.yes ⟨zaB (HKp.lt (by rw [hsz]; decide)) _,nhw5⟩,Gd.no,Gd.no,Gd.no,Gd.no,Gd.no,Gd.no,kq qf9.out fun h => ⟨h.1,zae hb h.2⟩,Gd.no,Gd.no,Gd.no,Gd.no,Gd.no,Gd.no,Gd.no,Gd.no,Gd.no,Gd.no,Gd.no⟩
   ·cases (zai hi : true = false)
   ·obtain rfl : fl4 = false := zai hi
    obtain rfl : fl2 = true := rdp 2 1 hi hO
    obtain rfl : fl5 = false := Gd.off qd5_4.out
    obtain rfl : fl6 = false := Gd.off qd6_5.out
    obtain rfl : fl7 = false := Gd.off qd7_6.out
    obtain rfl : fl8 = false := Gd.off qd8_6.out
    obtain rfl : fl10 = false := Gd.off qd10_5.out
    obtain rfl : fl11 = false := Gd.off qd11_8.out
    have rd17 := HKp.get 17 (by decide) RB17
    refine wog hO (fun K' hK => ?_)
    go_simp
    refine (C1.out w' hBi.out).mono ?_
    rintro e w2 ⟨nb6,nB6,nm6,nd6,rfl,nhw6,hb⟩
    exact hK.out _ _ ⟨zac hBi.out hb,true,true,false,false,false,false,fl9,false,false,b5,B5,m5,d5,nb6,nB6,nm6,nd6,b7,B7,m7,d7,E7,u7,v7,ad9,by rfl,HKp.put (by decide) _,zac hBi.out hb,kq qf2.out fun h => (h).below hb,Gd.yes ⟨zaB (HKp.lt (by rw [hsz]; decide)) _,nhw6⟩,Gd.no,Gd.no,Gd.no,Gd.no,Gd.no,kq qf9.out fun h => ⟨h.1,zae hb h.2⟩,fun _ => rfl,Gd.no,Gd.no,Gd.no,Gd.no,Gd.no,Gd.no,Gd.no,Gd.no,Gd.no,Gd.no⟩
   ·obtain rfl : fl5 = false := zai hi
    obtain rfl : fl2 = true := rdp 2 0 hi hO
    obtain rfl : fl4 = true := rdp 4 1 hi hO
    obtain rfl : fl6 = false := Gd.off qd6_5.out
    obtain rfl : fl7 = false := Gd.off qd7_6.out
    obtain rfl : fl8 = false := Gd.off qd8_6.out
    obtain rfl : fl10 = false := Gd.off qd10_5.out
    obtain rfl : fl11 = false := Gd.off qd11_8.out
    have rd16 := qf2.out.get.1
    have rd18 := qf4.out.get.1
    have hw5 := qf2.out.get.2
    have hw6 := qf4.out.get.2
    refine wog hO (fun K' hK => ?_)
    go_simp
    refine (C2.out w' hBi.out _ _ _ _ hw5 _ _ _ _ hw6).mono ?_
    rintro e w2 ⟨nb7,nB7,nm7,nd7,nE7,nu7,nv7,rfl,nhw7,hb⟩
    exact hK.out _ _ ⟨zac hBi.out hb,true,true,true,false,false,false,fl9,false,false,b5,B5,m5,d5,b6,B6,m6,d6,nb7,nB7,nm7,nd7,nE7,nu7,nv7,ad9,by rfl,HKp.put (by decide) _,zac hBi.out hb,kq qf2.out fun h => (h).below hb,kq qf4.out fun h => (h).below hb,Gd.yes ⟨zaB (HKp.lt (by rw [hsz]; decide)) _,nhw7⟩,Gd.no,Gd.no,Gd.no,Gd.no,kq qf9.out fun h => ⟨h.1,zae hb h.2⟩,fun _ => rfl,fun _ => rfl,fun _ => rfl,Gd.no,Gd.no,Gd.no,Gd.no,Gd.no,Gd.no,Gd.no,Gd.no⟩
   ·obtain rfl : fl6 = false := zai hi
    obtain rfl : fl5 = true := rdp 5 0 hi hO
    obtain rfl : fl2 = true := qd5_2.out.get
    obtain rfl : fl4 = true := qd5_4.out.get
    obtain rfl : fl7 = false := Gd.off qd7_6.out
    obtain rfl : fl8 = false := Gd.off qd8_6.out
    obtain rfl : fl10 = false := Gd.off qd10_7.out
    obtain rfl : fl11 = false := Gd.off qd11_8.out
    have rd19 := qf5.out.get.1
    refine wog hO (fun K' hK => ?_)
    refine zaZ (x := 19) (Or.inl rfl) rd19 ?_
    exact hK.out _ _ ⟨hBi.out,true,true,true,true,false,false,fl9,false,false,b5,B5,m5,d5,b6,B6,m6,d6,b7,B7,m7,d7,E7,u7,v7,ad9,by rfl,HKp.put (by decide) _,hBi.out,kq qf2.out fun h => (h),kq qf4.out fun h => (h),kq qf5.out fun h => (h),Gd.yes (zaB (HKp.lt (by rw [hsz]; decide)) _),Gd.no,Gd.no,Gd.no,kq qf9.out id,fun _ => rfl,fun _ => rfl,fun _ => rfl,fun _ => rfl,Gd.no,Gd.no,Gd.no,Gd.no,Gd.no,Gd.no,Gd.no⟩
   ·obtain rfl : fl7 = false := zai hi
    obtain rfl : fl6 = true := rdp 6 0 hi hO
    obtain rfl : fl5 = true := qd6_5.out.get
    obtain rfl : fl2 = true := qd5_2.out.get
    obtain rfl : fl4 = true := qd5_4.out.get
    obtain rfl : fl10 = false := Gd.off qd10_7.out
    obtain rfl : fl11 = false := Gd.off qd11_10.out
    have rd13 := qf6.out.get
    refine wog hO (fun K' hK => ?_)
    refine zaJ (x := 13) (k := 0) rfl rd13 rfl ?_
    exact hK.out _ _ ⟨hBi.out,true,true,true,true,true,fl8,fl9,false,false,b5,B5,m5,d5,b6,B6,m6,d6,b7,B7,m7,d7,E7,u7,v7,ad9,by rfl,HKp.put (by decide) _,hBi.out,kq qf2.out fun h => (h),kq qf4.out fun h => (h),kq qf5.out fun h => (h),kq0 qf6.out,Gd.yes (zaB (HKp.lt (by rw [hsz]; decide)) _),kq0 qf8.out,Gd.no,kq qf9.out id,fun _ => rfl,fun _ => rfl,fun _ => rfl,fun _ => rfl,fun _ => rfl,fun _ => rfl,Gd.no,Gd.no,Gd.no,Gd.no,Gd.no⟩
   ·obtain rfl : fl8 = false := zai hi
    obtain rfl : fl6 = true := rdp 6 0 hi hO
    obtain rfl : fl5 = true := qd6_5.out.get
    obtain rfl : fl2 = true := qd5_2.out.get
    obtain rfl : fl4 = true := qd5_4.out.get
    obtain rfl : fl11 = false := Gd.off qd11_8.out
    have rd13 := qf6.out.get
    refine wog hO (fun K' hK => ?_)
    refine zaJ (x := 13) (k := 1) rfl rd13 rfl ?_
    exact hK.out _ _ ⟨hBi.out,true,true,true,true,fl7,true,fl9,fl10,false,b5,B5,m5,d5,b6,B6,m6,d6,b7,B7,m7,d7,E7,u7,v7,ad9,by rfl,HKp.put (by decide) _,hBi.out,kq qf2.out fun h => (h),kq qf4.out fun h => (h),kq qf5.out fun h => (h),kq0 qf6.out,kq0 qf7.out,Gd.yes (zaB (HKp.lt (by rw [hsz]; decide)) _),Gd.no,kq qf9.out id,fun _ => rfl,fun _ => rfl,fun _ => rfl,fun _ => rfl,fun _ => rfl,fun _ => rfl,fun _ => rfl,qd10_7,qd10_9,Gd.no,Gd.no⟩
   ·obtain rfl : fl9 = false := zai hi
    obtain rfl : fl10 = false := Gd.off qd10_9.out
    obtain rfl : fl11 = false := Gd.off qd11_10.out
    refine wog hO (fun K' hK => ?_)
    go_simp
    have hb := zbH w' (.cells #[.bool false,.slice none 0 0,.slice none 0 0] 33)
    exact hK.out _ _ ⟨zac hBi.out hb,fl2,fl4,fl5,fl6,fl7,fl8,true,false,false,b5,B5,m5,d5,b6,B6,m6,d6,b7,B7,m7,d7,E7,u7,v7,w'.heap.size,by rfl,HKp.put (by decide) _,zac hBi.out hb,kq qf2.out fun h => (h).below hb,kq qf4.out fun h => (h).below hb,kq qf5.out fun h => (h).below hb,kq0 qf6.out,kq0 qf7.out,kq0 qf8.out,Gd.no,Gd.yes ⟨zaB (HKp.lt (by rw [hsz]; decide)) _,hBi.out.size,Blk.new w' _ _⟩,qd4_2,qd5_2,qd5_4,qd6_5,qd7_6,qd8_6,Gd.no,Gd.no,Gd.no,Gd.no,Gd.no⟩
   ·obtain rfl : fl10 = false := zai hi
    obtain rfl : fl2 = true := rdp 2 5 hi hO
    obtain rfl : fl4 = true := rdp 4 7 hi hO
    obtain rfl : fl5 = true := rdp 5 2 hi hO
    obtain rfl : fl6 = true := rdp 6 9 hi hO
    obtain rfl : fl7 = true := rdp 7 1 hi hO
    obtain rfl : fl9 = true := rdp 9 0 hi hO
    obtain rfl : fl11 = false := Gd.off qd11_10.out
    have rd4 := qf9.out.get.1
    have rd20 := qf7.out.get
    obtain ⟨_,hg,hk⟩ := qf9.out.get
    have hk : Blk w' ad9 33 #[.bool false,.slice none 0 0,.slice none 0 0] := hk
    obtain ⟨sc0,sf0,sc1,sf1,sc2,sf2⟩ := st3 hk (.bool b7) (.slice B7 m7 d7)
    have hj2 := sn3 hk (.bool b7) (.slice B7 m7 d7) (.slice E7 u7 v7)
    have hBn := bl3 (.bool b7) (.slice B7 m7 d7) (.slice E7 u7 v7) hg hBi.out
    refine wog hO (fun K' hK => ?_)
    go_simp
    exact hK.out _ _ ⟨hBn,true,true,true,true,true,fl8,true,true,false,b5,B5,m5,d5,b6,B6,m6,d6,b7,B7,m7,d7,E7,u7,v7,ad9,by rfl,HKp,hBn,qf2.out.mono fun h => ⟨h.1,zcI (h.2) hk zek (zcL _ _ _ _ _)⟩,qf4.out.mono fun h => ⟨h.1,zcI (h.2) hk zek (zcL _ _ _ _ _)⟩,qf5.out.mono fun h => ⟨h.1,zbC (h.2) hk zek (zcL _ _ _ _ _)⟩,qf6.out.mono fun h => h,qf7.out.mono fun h => h,qf8.out.mono fun h => h,Gd.no,qf9.out.mono fun h => ⟨h.1,h.2.1,hj2⟩,fun _ => rfl,fun _ => rfl,fun _ => rfl,fun _ => rfl,fun _ => rfl,fun _ => rfl,fun _ => rfl,fun _ => rfl,fun _ => rfl,Gd.no,Gd.no⟩
   ·obtain rfl : fl11 = false := zai hi
    obtain rfl : fl2 = true := rdp 2 4 hi hO
    obtain rfl : fl4 = true := rdp 4 6 hi hO
    obtain rfl : fl5 = true := rdp 5 7 hi hO
    obtain rfl : fl6 = true := rdp 6 8 hi hO
    obtain rfl : fl7 = true := rdp 7 9 hi hO
    obtain rfl : fl8 = true := rdp 8 0 hi hO
    obtain rfl : fl9 = true := rdp 9 11 hi hO
    obtain rfl : fl10 = true := rdp 10 1 hi hO
    have rd21 := qf8.out.get
    refine wog hO (fun K' hK => ?_)
    refine zaZ (x := 21) (Or.inr rfl) rd21 ?_
    exact hK.out _ _ ⟨hBi.out,true,true,true,true,true,true,true,true,true,b5,B5,m5,d5,b6,B6,m6,d6,b7,B7,m7,d7,E7,u7,v7,ad9,by rfl,HKp.put (by decide) _,hBi.out,kq qf2.out fun h => (h),kq qf4.out fun h => (h),kq qf5.out fun h => (h),kq0 qf6.out,kq0 qf7.out,kq0 qf8.out,Gd.yes (zaB (HKp.lt (by rw [hsz]; decide)) _),kq qf9.out id,fun _ => rfl,fun _ => rfl,fun _ => rfl,fun _ => rfl,fun _ => rfl,fun _ => rfl,fun _ => rfl,fun _ => rfl,fun _ => rfl,fun _ => rfl,fun _ => rfl⟩
 rintro a wm5 ⟨fl2,fl4,fl5,fl6,fl7,fl8,fl9,fl10,fl11,b5,B5,m5,d5,b6,B6,m6,d6,b7,B7,m7,d7,E7,u7,v7,ad9,hl,HKp,hBi,qf2,qf4,qf5,qf6,qf7,qf8,qf11,qf9,qd4_2,qd5_2,qd5_4,qd6_5,qd7_6,qd8_6,qd10_5,qd10_7,qd10_9,qd11_8,qd11_10⟩
 have xx2 : fl2 = true := gdl 2 hl
 subst xx2
 have xx4 : fl4 = true := gdl 4 hl
 subst xx4
 have xx5 : fl5 = true := gdl 5 hl
 subst xx5
 have xx6 : fl6 = true := gdl 6 hl
 subst xx6
 have xx7 : fl7 = true := gdl 7 hl
 subst xx7
 have xx8 : fl8 = true := gdl 8 hl
 subst xx8
 have xx9 : fl9 = true := gdl 9 hl
 subst xx9
 have xx10 : fl10 = true := gdl 10 hl
 subst xx10
 have xx11 : fl11 = true := gdl 11 hl
 subst xx11
 obtain ⟨rv2,hw5⟩ := qf2.out.get
 obtain ⟨rv4,hw6⟩ := qf4.out.get
 obtain ⟨rv5,hw7⟩ := qf5.out.get
 have rv6 := qf6.out.get
 have rv7 := qf7.out.get
 have rv8 := qf8.out.get
 have rv11 := qf11.out.get
 obtain ⟨rv9,hg9,hk9⟩ := qf9.out.get
 obtain rfl := HKp.eq [(16,.agg #[.bool b5,.slice B5 m5 d5]),(18,.agg #[.bool b6,.slice B6 m6 d6]),(19,.tuple #[.agg #[.bool b7,.slice B7 m7 d7,.slice E7 u7 v7],.bool true]),(13,.tuple #[.agg #[.bool b7,.slice B7 m7 d7,.slice E7 u7 v7],.bool true]),(20,.agg #[.bool b7,.slice B7 m7 d7,.slice E7 u7 v7]),(21,.bool true),(4,.pointer (some ⟨ad9,0,none⟩)),(5,.bool true)] rfl (by
  intro p hp
  simp only [List.mem_cons,List.not_mem_nil,or_false] at hp
  rcases hp with rfl | rfl | rfl | rfl | rfl | rfl | rfl | rfl
  ·exact rv2
  ·exact rv4
  ·exact rv5
  ·exact rv6
  ·exact rv7
  ·exact rv8
  ·exact rv9
  ·exact rv11)
 have hBv := hBi.out
 clear hl hBi HKp qf2 qf4 qf5 qf6 qf7 qf8 qf11 qf9 qd4_2 qd5_2 qd5_4 qd6_5 qd7_6 qd8_6 qd10_5 qd10_7 qd10_9 qd11_8 qd11_10 rv2 rv4 rv5 rv6 rv7 rv8 rv9 rv11
 have hk9 : Blk wm5 ad9 33 #[.bool b7,.slice B7 m7 d7,.slice E7 u7 v7] := hk9
 rw [show due #[true,true,true,true,true,true,true,true,true,true,true,true] = 0 from rfl]
 simp only [zcv,List.foldl,Act.put,List.setIfInBounds_toArray,List.set_cons_zero,List.set_cons_succ]
 refine wpAnyH_done (by kernel_rfl) ?_ _
 refine NoPanic.normal ?_
 have hB := zac hB hBv
 have g1 := zad hBv g1
 have e1 := zad hBv e1
 have i1 := zad hBv i1
 have k2 := zae hBv k2
 have HN3 := lh9 (HN3.out.below hBv)
 have g4 := zad hBv g4
 have k4 := zae hBv k4
 obtain ⟨ad9_8,hga⟩ : ∃ x,x = ad9 := ⟨_,rfl⟩
 subst hga
 obtain ⟨g8,e8,i8⟩ := hk9.c3
 have HN5 := lh9 hw5
 have HN6 := lh9 hw6
 have HN7 := lh9 hw7
 clear hBv hk9 hw5 hw6 hw7 GG
 clear C0 C1 C2
 obtain ⟨sc0,sf0,sc1,sf1,sc2,sf2⟩ := st3 k2 (.bool b7) (.slice B7 m7 d7)
 obtain ⟨r0,r1,r2⟩ := (sn3 k2 (.bool b7) (.slice B7 m7 d7) (.slice E7 u7 v7)).c3
 have HG := lh9 (gq3 (zau.to HQ.out HN7.out) k2 hB (by omega))
 go_wp2
 refine bodyPost_ret (v := .agg #[.bool b7,.slice B7 m7 d7,.slice E7 u7 v7]) (by simp [results,Tryz.results11,go_sem,r0,r1,r2]) rfl ?_
 exact HG.out
theorem znX {T : World → Prop} {M : Nat → Prop} (hTb : ∀ w w',T w → Below w.heap.size w w' → T w') (IC : IntC T) (QC : RatC T M) (s : Bool) (A : oA9) (n c : Nat) (l : List Nat) (E : oA9) (u v : Nat) (e : List Nat) (w : World) (h : zav w A n c l) (k : zav w E u v e) (hT : T w) :
  Calls Tryz.prog 11 #[.agg #[.bool s,.slice A n c,.slice E u v]] w (zdx w (fOf s l e)) := by
 by_cases hd : dv 18446744073709551616 e = 0
 ·exact zkQ hTb IC QC s A n c l E u v e w h k hT hd
 ·exact zkP hTb IC QC s A n c l E u v e w h k hT hd
end Go.Proofs.YtfieheffipfahaaGreatDoor
