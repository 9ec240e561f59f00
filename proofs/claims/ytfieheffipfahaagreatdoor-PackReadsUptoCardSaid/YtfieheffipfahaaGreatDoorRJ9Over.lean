/- What this claim leans on. -/
import Derived.Test.YtfieheffipfahaaGreatDoorRJ8Look
import Derived.Test.YtfieheffipfahaaGreatDoorRJ8Make
namespace Go.Proofs.YtfieheffipfahaaGreatDoor
open Go Go.RowKit
set_option maxHeartbeats 16000000
set_option maxRecDepth 100000
set_option linter.unusedVariables false
set_option linter.unusedSimpArgs false
theorem zmO (p : Int) (d : Nat) (baa : Bool) (Baa : oA9) (maa daa : Nat) (Bab : oA9) (mab dab : Nat) (w : World) (hT : zam w) (haa : zaE w p baa Baa maa daa) (hab : zaf w d Bab mab dab) (qaa : maa ≤ 67108864) (qab : mab ≤ 67108864) (hd : d ≠ 0) (he : (Rat.divInt p (d : Int)).den = d) :
  Calls Tryz.prog 51 #[.agg #[.bool baa,.slice Baa maa daa],.agg #[.slice Bab mab dab]] w (zcn w (Rat.divInt p (d : Int)) true):=by
 have HIC:=lh9 (zbh (T:=zam))
 have HT:=lh9 (fun w' (hb : Below w.heap.size w w') => hT.on hb)
 obtain ⟨K,hKe⟩ : ∃ K,67108864 = K:=⟨_,rfl⟩
 have hKK : K ≤ 67108864:=by omega
 have hK0 : 0 < K:=by omega
 have hK9 : 255 ≤ K:=by omega
 have ef1:=zaH
 have ef2:=zaJ
 have ef3:=zaM
 have ef4:=zaN
 have HD : Hid (((d : Nat) : Int) ≠ 0):=by show _ ≠ _; omega
 have HC : Hid (zbs (Rat.divInt p (d : Int)).den d = 0):=zdC he
 have HNaa:=lh9 (fun w' (b : Below w.heap.size w w') => haa.below b)
 have HZaa : Hid (Sz K p.natAbs):=Sz.of_words haa.words (by omega)
 clear haa qaa
 have HNab:=lh9 (fun w' (b : Below w.heap.size w w') => hab.below b)
 have HZab : Hid (Sz K d):=Sz.of_words hab (by omega)
 clear hab qab
 clear hT hKe hd he
 go_enter Tryz.func51,Tryz.ntmps51
 have hB:=Below.refl w.heap.size w
 obtain ⟨bx1,bx2,bx3,bx4,bz⟩:=zbp w 31 29 33 #[.bool baa,.slice Baa maa daa] #[.slice Bab mab dab] #[.bool false,.slice none 0 0,.slice none 0 0]
 have hB:=zac hB bx1
 obtain ⟨g1,e1⟩:=bx2.c2
 have g2:=bx3.c1
 have k3:=bx4
 clear bx1 bx2 bx3 bx4 bz
 go_wp2_with fail
 generalize ((w.alloc (.cells #[.bool baa,.slice Baa maa daa] 31)).alloc (.cells #[.slice Bab mab dab] 29)).alloc (.cells #[.bool false,.slice none 0 0,.slice none 0 0] 33) = W1 at *
 have HZ4 : Hid (Sz (K) (((d : Nat) : Int)).natAbs):=(by rw [Int.natAbs_natCast]; exact HZab.out)
 have C0:=lh9 (fun w' (h : Below W1.heap.size W1 w') => zms HIC.out (d) Bab mab dab w' (HT.out _ (zac hB h)) (HNab.out _ (zac hB h)) (szw HZab (HNab.out _ hB)))
 have HZ5 : Hid (SzQ (K) (Rat.divInt p (((d : Nat) : Int)))):=SzQ.made HZaa.out HZ4.out (by omega)
 have C1:=lh9 (fun w' (h : Below W1.heap.size W1 w') b4 B4 m4 d4 (hw4 : zaE w' (((d : Nat) : Int)) b4 B4 m4 d4) => zhY (p) (((d : Nat) : Int)) baa Baa maa daa b4 B4 m4 d4 w' (HT.out _ (zac hB h)) (HNaa.out _ (zac hB h)) hw4 (szi HZaa (HNaa.out _ hB)) (szi HZ4 hw4) HD.out)
 have lt3_m1:=k3.lt
 have GG:=lh9 (fun w' (h : Below W1.heap.size W1 w') => (csc (zad h g1) (csc (zad h e1) (csc (zad h g2) csn))))
 refine rgB (fun hHeld => ?_)
 refine tl 0 GG.out ?_
 refine tl 1 GG.out ?_
 refine zbk (L:=#[true,true,true,true,true,true,true,true,true,true])
  (J:=fun a0 l a w' => ∃ (fl2 fl3 fl4 fl5 fl6 fl7 fl8 fl9 b4 : Bool) (B4 : oA9) (m4 d4 : Nat) (b5 : Bool) (B5 : oA9) (m5 d5 : Nat) (E5 : oA9) (u5 v5 ad7 : Nat),l = #[true,true,fl2,fl3,fl4,fl5,fl6,fl7,fl8,fl9] ∧ zco [11,12,8,13,14,6,7] a0 a ∧ Hid (Below W1.heap.size W1 w') ∧
    Hid (Gd fl2 (a.tmps.getD 11 undef = .agg #[.bool b4,.slice B4 m4 d4] ∧ zaE w' (((d : Nat) : Int)) b4 B4 m4 d4)) ∧
    Hid (Gd fl3 (a.tmps.getD 12 undef = .tuple #[.agg #[.bool b5,.slice B5 m5 d5,.slice E5 u5 v5],.bool true] ∧ zaF w' (Rat.divInt p (((d : Nat) : Int))) b5 B5 m5 d5 E5 u5 v5)) ∧
    Hid (Gd fl4 (a.tmps.getD 8 undef = .tuple #[.agg #[.bool b5,.slice B5 m5 d5,.slice E5 u5 v5],.bool true])) ∧
    Hid (Gd fl5 (a.tmps.getD 13 undef = .agg #[.bool b5,.slice B5 m5 d5,.slice E5 u5 v5])) ∧
    Hid (Gd fl6 (a.tmps.getD 14 undef = .bool true)) ∧
    Hid (Gd fl9 (a.tmps.getD 7 undef = .bool true)) ∧
    Hid (Gd fl7 (a.tmps.getD 6 undef = .pointer (some ⟨ad7,0,none⟩) ∧ W1.heap.size ≤ ad7 ∧ Blk w' ad7 33 (bif fl8 then #[.bool b5,.slice B5 m5 d5,.slice E5 u5 v5] else #[.bool false,.slice none 0 0,.slice none 0 0]))) ∧
    Hid (Gd fl3 (fl2 = true)) ∧
    Hid (Gd fl4 (fl3 = true)) ∧
    Hid (Gd fl5 (fl4 = true)) ∧
    Hid (Gd fl6 (fl4 = true)) ∧
    Hid (Gd fl8 (fl3 = true)) ∧
    Hid (Gd fl8 (fl5 = true)) ∧
    Hid (Gd fl8 (fl7 = true)) ∧
    Hid (Gd fl9 (fl6 = true)) ∧
    Hid (Gd fl9 (fl8 = true)))
  (by rfl) ?_ ?_ ?_
 ·exact ⟨false,false,false,false,false,false,false,false,false,none,0,0,false,none,0,0,none,0,0,0,by kernel_rfl,zco.refl _ _,hHeld,Gd.no,Gd.no,Gd.no,Gd.no,Gd.no,Gd.no,Gd.no,Gd.no,Gd.no,Gd.no,Gd.no,Gd.no,Gd.no,Gd.no,Gd.no,Gd.no⟩
 ·intro OPS Ac0 Q0 hO hAs hA
  have RB9 : Ac0.tmps.getD 9 undef = .agg #[.bool baa,.slice Baa maa daa]:=(hA 9 undef).trans (by kernel_rfl)
  have RB10 : Ac0.tmps.getD 10 undef = .agg #[.slice Bab mab dab]:=(hA 10 undef).trans (by kernel_rfl)
  have hsz : Ac0.tmps.size = 21:=hAs.trans (by kernel_rfl)
  clear hAs hA
  refine ⟨?_,?_⟩
  ·rintro l a w' ⟨fl2,fl3,fl4,fl5,fl6,fl7,fl8,fl9,b4,B4,m4,d4,b5,B5,m5,d5,E5,u5,v5,ad7,rfl,-⟩ hr
   obtain rfl : fl2 = true:=als 2 hr hO
   obtain rfl : fl3 = true:=als 3 hr hO
   obtain rfl : fl4 = true:=als 4 hr hO
   obtain rfl : fl5 = true:=als 5 hr hO
   obtain rfl : fl6 = true:=als 6 hr hO
   obtain rfl : fl7 = true:=als 7 hr hO
   obtain rfl : fl8 = true:=als 8 hr hO
   obtain rfl : fl9 = true:=als 9 hr hO
   rfl
  ·rintro l a w' i ⟨fl2,fl3,fl4,fl5,fl6,fl7,fl8,fl9,b4,B4,m4,d4,b5,B5,m5,d5,E5,u5,v5,ad7,rfl,HKp,hBi,qf2,qf3,qf4,qf5,qf6,qf9,qf7,qd3_2,qd4_3,qd5_4,qd6_4,qd8_3,qd8_5,qd8_7,qd9_6,qd9_8⟩ hne hi
   have hlt : i < 10:=by have:=zcf hi; rw [hO] at this; exact this
   rcases (show i = 0 ∨ i = 1 ∨ i = 2 ∨ i = 3 ∨ i = 4 ∨ i = 5 ∨ i = 6 ∨ i = 7 ∨ i = 8 ∨ i = 9 by omega) with rfl | rfl | rfl | rfl | rfl | rfl | rfl | rfl | rfl | rfl
   ·cases (zah hi : true = false)
   ·cases (zah hi : true = false)
   ·obtain rfl : fl2 = false:=zah hi
    obtain rfl : fl3 = false:=Gd.off qd3_2.out
    obtain rfl : fl4 = false:=Gd.off qd4_3.out
    obtain rfl : fl5 = false:=Gd.off qd5_4.out
    obtain rfl : fl6 = false:=Gd.off qd6_4.out
    obtain rfl : fl8 = false:=Gd.off qd8_3.out
    obtain rfl : fl9 = false:=Gd.off qd9_6.out
    have rd10:=HKp.get 10 (by decide) RB10
    refine wog hO (fun K' hK => ?_)
    go_simp
    refine (C0.out w' hBi.out).mono ?_
    rintro e w2 ⟨nb4,nB4,nm4,nd4,rfl,nhw4,hb⟩
    exact hK.out _ _ ⟨zac hBi.out hb,true,false,false,false,false,fl7,false,false,nb4,nB4,nm4,nd4,b5,B5,m5,d5,E5,u5,v5,ad7,by rfl,HKp.put (by decide) _,zac hBi.out hb,Gd.yes ⟨zaA (HKp.lt (by rw [hsz]; decide)) _,nhw4⟩,Gd.no,Gd.no,Gd.no,Gd.no,Gd.no,kq qf7.out fun h => ⟨h.1,zae hb h.2⟩,Gd.no,Gd.no,Gd.no,Gd.no,Gd.no,Gd.no,Gd.no,Gd.no,Gd.no⟩
   ·obtain rfl : fl3 = false:=zah hi
    obtain rfl : fl2 = true:=rdp 2 1 hi hO
    obtain rfl : fl4 = false:=Gd.off qd4_3.out
    obtain rfl : fl5 = false:=Gd.off qd5_4.out
    obtain rfl : fl6 = false:=Gd.off qd6_4.out
    obtain rfl : fl8 = false:=Gd.off qd8_3.out
    obtain rfl : fl9 = false:=Gd.off qd9_6.out
    have rd9:=HKp.get 9 (by decide) RB9
    have rd11:=qf2.out.get.1
    have hw4:=qf2.out.get.2
    refine wog hO (fun K' hK => ?_)
    go_simp
    refine (C1.out w' hBi.out _ _ _ _ hw4).mono ?_
    rintro e w2 ⟨nb5,nB5,nm5,nd5,nE5,nu5,nv5,rfl,nhw5,hb⟩
    exact hK.out _ _ ⟨zac hBi.out hb,true,true,false,false,false,fl7,false,false,b4,B4,m4,d4,nb5,nB5,nm5,nd5,nE5,nu5,nv5,ad7,by rfl,HKp.put (by decide) _,zac hBi.out hb,kq qf2.out fun h => (h).below hb,Gd.yes ⟨zaA (HKp.lt (by rw [hsz]; decide)) _,nhw5⟩,Gd.no,Gd.no,Gd.no,Gd.no,kq qf7.out fun h => ⟨h.1,zae hb h.2⟩,fun _ => rfl,Gd.no,Gd.no,Gd.no,Gd.no,Gd.no,Gd.no,Gd.no,Gd.no⟩
   ·obtain rfl : fl4 = false:=zah hi
    obtain rfl : fl3 = true:=rdp 3 0 hi hO
    obtain rfl : fl2 = true:=qd3_2.out.get
    obtain rfl : fl5 = false:=Gd.off qd5_4.out
    obtain rfl : fl6 = false:=Gd.off qd6_4.out
    obtain rfl : fl8 = false:=Gd.off qd8_5.out
    obtain rfl : fl9 = false:=Gd.off qd9_6.out
    have rd12:=qf3.out.get.1
    refine wog hO (fun K' hK => ?_)
    refine zaX (x:=12) (Or.inl rfl) rd12 ?_
    exact hK.out _ _ ⟨hBi.out,true,true,true,false,false,fl7,false,false,b4,B4,m4,d4,b5,B5,m5,d5,E5,u5,v5,ad7,by rfl,HKp.put (by decide) _,hBi.out,kq qf2.out fun h => (h),kq qf3.out fun h => (h),Gd.yes (zaA (HKp.lt (by rw [hsz]; decide)) _),Gd.no,Gd.no,Gd.no,kq qf7.out id,fun _ => rfl,fun _ => rfl,Gd.no,Gd.no,Gd.no,Gd.no,Gd.no,Gd.no,Gd.no⟩
   ·obtain rfl : fl5 = false:=zah hi
    obtain rfl : fl4 = true:=rdp 4 0 hi hO
    obtain rfl : fl3 = true:=qd4_3.out.get
    obtain rfl : fl2 = true:=qd3_2.out.get
    obtain rfl : fl8 = false:=Gd.off qd8_5.out
    obtain rfl : fl9 = false:=Gd.off qd9_8.out
    have rd8:=qf4.out.get
    refine wog hO (fun K' hK => ?_)
    refine zaD (x:=8) (k:=0) rfl rd8 rfl ?_
    exact hK.out _ _ ⟨hBi.out,true,true,true,true,fl6,fl7,false,false,b4,B4,m4,d4,b5,B5,m5,d5,E5,u5,v5,ad7,by rfl,HKp.put (by decide) _,hBi.out,kq qf2.out fun h => (h),kq qf3.out fun h => (h),kq0 qf4.out,Gd.yes (zaA (HKp.lt (by rw [hsz]; decide)) _),kq0 qf6.out,Gd.no,kq qf7.out id,fun _ => rfl,fun _ => rfl,fun _ => rfl,fun _ => rfl,Gd.no,Gd.no,Gd.no,Gd.no,Gd.no⟩
   ·obtain rfl : fl6 = false:=zah hi
    obtain rfl : fl4 = true:=rdp 4 0 hi hO
    obtain rfl : fl3 = true:=qd4_3.out.get
    obtain rfl : fl2 = true:=qd3_2.out.get
    obtain rfl : fl9 = false:=Gd.off qd9_6.out
    have rd8:=qf4.out.get
    refine wog hO (fun K' hK => ?_)
    refine zaD (x:=8) (k:=1) rfl rd8 rfl ?_
    exact hK.out _ _ ⟨hBi.out,true,true,true,fl5,true,fl7,fl8,false,b4,B4,m4,d4,b5,B5,m5,d5,E5,u5,v5,ad7,by rfl,HKp.put (by decide) _,hBi.out,kq qf2.out fun h => (h),kq qf3.out fun h => (h),kq0 qf4.out,kq0 qf5.out,Gd.yes (zaA (HKp.lt (by rw [hsz]; decide)) _),Gd.no,kq qf7.out id,fun _ => rfl,fun _ => rfl,fun _ => rfl,fun _ => rfl,fun _ => rfl,qd8_5,qd8_7,Gd.no,Gd.no⟩
   ·obtain rfl : fl7 = false:=zah hi
    obtain rfl : fl8 = false:=Gd.off qd8_7.out
    obtain rfl : fl9 = false:=Gd.off qd9_8.out
    refine wog hO (fun K' hK => ?_)
    go_simp
    have hb:=zbH w' (.cells #[.bool false,.slice none 0 0,.slice none 0 0] 33)
    exact hK.out _ _ ⟨zac hBi.out hb,fl2,fl3,fl4,fl5,fl6,true,false,false,b4,B4,m4,d4,b5,B5,m5,d5,E5,u5,v5,w'.heap.size,by rfl,HKp.put (by decide) _,zac hBi.out hb,kq qf2.out fun h => (h).below hb,kq qf3.out fun h => (h).below hb,kq0 qf4.out,kq0 qf5.out,kq0 qf6.out,Gd.no,Gd.yes ⟨zaA (HKp.lt (by rw [hsz]; decide)) _,hBi.out.size,Blk.new w' _ _⟩,qd3_2,qd4_3,qd5_4,qd6_4,Gd.no,Gd.no,Gd.no,Gd.no,Gd.no⟩
   ·obtain rfl : fl8 = false:=zah hi
    obtain rfl : fl2 = true:=rdp 2 5 hi hO
    obtain rfl : fl3 = true:=rdp 3 2 hi hO
    obtain rfl : fl4 = true:=rdp 4 7 hi hO
    obtain rfl : fl5 = true:=rdp 5 1 hi hO
    obtain rfl : fl7 = true:=rdp 7 0 hi hO
    obtain rfl : fl9 = false:=Gd.off qd9_8.out
    have rd6:=qf7.out.get.1
    have rd13:=qf5.out.get
    obtain ⟨_,hg,hk⟩:=qf7.out.get
    have hk : Blk w' ad7 33 #[.bool false,.slice none 0 0,.slice none 0 0]:=hk
    obtain ⟨sc0,sf0,sc1,sf1,sc2,sf2⟩:=st3 hk (.bool b5) (.slice B5 m5 d5)
    have hj2:=sn3 hk (.bool b5) (.slice B5 m5 d5) (.slice E5 u5 v5)
    have hBn:=bl3 (.bool b5) (.slice B5 m5 d5) (.slice E5 u5 v5) hg hBi.out
    refine wog hO (fun K' hK => ?_)
    go_simp
    exact hK.out _ _ ⟨hBn,true,true,true,true,fl6,true,true,false,b4,B4,m4,d4,b5,B5,m5,d5,E5,u5,v5,ad7,by rfl,HKp,hBn,qf2.out.mono fun h => ⟨h.1,zcx (h.2) hk zdE (zcy _ _ _ _ _)⟩,qf3.out.mono fun h => ⟨h.1,zbF (h.2) hk zdE (zcy _ _ _ _ _)⟩,qf4.out.mono fun h => h,qf5.out.mono fun h => h,qf6.out.mono fun h => h,Gd.no,qf7.out.mono fun h => ⟨h.1,h.2.1,hj2⟩,fun _ => rfl,fun _ => rfl,fun _ => rfl,fun _ => rfl,fun _ => rfl,fun _ => rfl,fun _ => rfl,Gd.no,Gd.no⟩
   ·obtain rfl : fl9 = false:=zah hi
    obtain rfl : fl2 = true:=rdp 2 4 hi hO
    obtain rfl : fl3 = true:=rdp 3 5 hi hO
    obtain rfl : fl4 = true:=rdp 4 6 hi hO
    obtain rfl : fl5 = true:=rdp 5 7 hi hO
    obtain rfl : fl6 = true:=rdp 6 0 hi hO
    obtain rfl : fl7 = true:=rdp 7 9 hi hO
    obtain rfl : fl8 = true:=rdp 8 1 hi hO
    have rd14:=qf6.out.get
    refine wog hO (fun K' hK => ?_)
    refine zaX (x:=14) (Or.inr rfl) rd14 ?_
    exact hK.out _ _ ⟨hBi.out,true,true,true,true,true,true,true,true,b4,B4,m4,d4,b5,B5,m5,d5,E5,u5,v5,ad7,by rfl,HKp.put (by decide) _,hBi.out,kq qf2.out fun h => (h),kq qf3.out fun h => (h),kq0 qf4.out,kq0 qf5.out,kq0 qf6.out,Gd.yes (zaA (HKp.lt (by rw [hsz]; decide)) _),kq qf7.out id,fun _ => rfl,fun _ => rfl,fun _ => rfl,fun _ => rfl,fun _ => rfl,fun _ => rfl,fun _ => rfl,fun _ => rfl,fun _ => rfl⟩
 rintro a wm2 ⟨fl2,fl3,fl4,fl5,fl6,fl7,fl8,fl9,b4,B4,m4,d4,b5,B5,m5,d5,E5,u5,v5,ad7,hl,HKp,hBi,qf2,qf3,qf4,qf5,qf6,qf9,qf7,qd3_2,qd4_3,qd5_4,qd6_4,qd8_3,qd8_5,qd8_7,qd9_6,qd9_8⟩
 have xx2 : fl2 = true:=gdl 2 hl
 subst xx2
 have xx3 : fl3 = true:=gdl 3 hl
 subst xx3
 have xx4 : fl4 = true:=gdl 4 hl
 subst xx4
 have xx5 : fl5 = true:=gdl 5 hl
 subst xx5
 have xx6 : fl6 = true:=gdl 6 hl
 subst xx6
 have xx7 : fl7 = true:=gdl 7 hl
 subst xx7
 have xx8 : fl8 = true:=gdl 8 hl
 subst xx8
 have xx9 : fl9 = true:=gdl 9 hl
 subst xx9
 obtain ⟨rv2,hw4⟩:=qf2.out.get
 obtain ⟨rv3,hw5⟩:=qf3.out.get
 have rv4:=qf4.out.get
 have rv5:=qf5.out.get
 have rv6:=qf6.out.get
 have rv9:=qf9.out.get
 obtain ⟨rv7,hg7,hk7⟩:=qf7.out.get
 obtain rfl:=HKp.eq [(11,.agg #[.bool b4,.slice B4 m4 d4]),(12,.tuple #[.agg #[.bool b5,.slice B5 m5 d5,.slice E5 u5 v5],.bool true]),(8,.tuple #[.agg #[.bool b5,.slice B5 m5 d5,.slice E5 u5 v5],.bool true]),(13,.agg #[.bool b5,.slice B5 m5 d5,.slice E5 u5 v5]),(14,.bool true),(6,.pointer (some ⟨ad7,0,none⟩)),(7,.bool true)] rfl (by
  intro p hp
  simp only [List.mem_cons,List.not_mem_nil,or_false] at hp
  rcases hp with rfl | rfl | rfl | rfl | rfl | rfl | rfl
  ·exact rv2
  ·exact rv3
  ·exact rv4
  ·exact rv5
  ·exact rv6
  ·exact rv7
  ·exact rv9)
 have hBv:=hBi.out
 clear hl hBi HKp qf2 qf3 qf4 qf5 qf6 qf9 qf7 qd3_2 qd4_3 qd5_4 qd6_4 qd8_3 qd8_5 qd8_7 qd9_6 qd9_8 rv2 rv3 rv4 rv5 rv6 rv7 rv9
 have hk7 : Blk wm2 ad7 33 #[.bool b5,.slice B5 m5 d5,.slice E5 u5 v5]:=hk7
 rw [show due #[true,true,true,true,true,true,true,true,true,true] = 0 from rfl]
 simp only [zcl,List.foldl,Act.put,List.setIfInBounds_toArray,List.set_cons_zero,List.set_cons_succ]
 refine wpAnyH_done (by kernel_rfl) ?_ _
 refine NoPanic.normal ?_
 have lt1_m2:=World.block_lt_of_cell? _ _ g1
 dsimp only at lt1_m2
 have lt2_m2:=World.block_lt_of_cell? _ _ g2
 dsimp only at lt2_m2
 have hB:=zac hB hBv
 have g1:=zad hBv g1
 have e1:=zad hBv e1
 have g2:=zad hBv g2
 have k3:=zae hBv k3
 obtain ⟨ad7_6,hga⟩ : ∃ x,x = ad7:=⟨_,rfl⟩
 subst hga
 obtain ⟨g6,e6,i6⟩:=hk7.c3
 have HN4:=lh9 hw4
 have HN5:=lh9 hw5
 clear hBv hk7 hw4 hw5 GG
 clear C0 C1
 go_wp2_with fail
 have HZ7 : Hid (Sz (K) ((Rat.divInt p (((d : Nat) : Int))).den)):=SzQ.den HZ5.out
 have C0:=lh9 (fun w' (h : Below wm2.heap.size wm2 w') => zhX (Rat.divInt p (((d : Nat) : Int))) b5 B5 m5 d5 E5 u5 v5 w' (HT.out _ (zac hB h)) (HN5.out.below h) (szq HZ5 HN5.out))
 have C1:=lh9 (fun w' (h : Below wm2.heap.size wm2 w') B7 m7 d7 (hw7 : zaf w' ((Rat.divInt p (((d : Nat) : Int))).den) B7 m7 d7) => zbr (v:=0) (HC.out) (zfI ((Rat.divInt p (((d : Nat) : Int))).den) (d) B7 Bab m7 mab d7 dab w' hw7 (HNab.out _ (zac hB h)) (szw HZ7 hw7) (szw HZab (HNab.out _ hB))))
 have hBw:=(Below.refl wm2.heap.size wm2).drew
 refine rg (csc g6 (csc e6 (csc i6 (csc g2 csn)))) (fun hHeld => ?_)
 refine tk 0 ?_
 refine tk 1 ?_
 refine tk 3 ?_
 refine rc 2 (fun K hK => ?_)
 go_simp
 go_at_call 30; (with_reducible refine (C0.out _ hBw).mono ?_); rintro e wa3 ⟨B7,m7,d7,rfl,hw7,hb⟩; have hBw:=zac hBw hb; refine hK.out _ _ (Cs.below hHeld hb) (fun hHeld => ?_); clear hK K hb
 try simp only [sb9]
 refine rc 4 (fun K hK => ?_)
 go_simp
 go_at_call 66; (with_reducible refine (C1.out _ hBw _ _ _ hw7).mono ?_); rintro e wa4 ⟨rfl,hb⟩; have hBw:=zac hBw hb; have hw7:=hw7.below hb; refine hK.out _ _ (Cs.below hHeld hb) (fun hHeld => ?_); clear hK K hb
 try simp only [sb9]
 refine tk 5 ?_
 obtain ⟨sc0,sf0,sc1,sf1,sc2,sf2⟩:=st3 (zae hBw k3) (.bool b5) (.slice B5 m5 d5)
 refine rc 6 (fun K hK => ?_)
 go_simp
 refine hK.out _ _ (cs3 (.bool b5) (.slice B5 m5 d5) (.slice E5 u5 v5) hHeld) (fun hHeld => ?_); clear hK K
 try simp only [sb9]
 refine tk 7 ?_
 refine rdn ?_
 have hB:=zac hB hBw
 have g1:=zad hBw g1
 have e1:=zad hBw e1
 have g2:=zad hBw g2
 have k3:=zae hBw k3
 have g6:=zad hBw g6
 have e6:=zad hBw e6
 have i6:=zad hBw i6
 have HN4:=lh9 (HN4.out.below hBw)
 have HN5:=lh9 (HN5.out.below hBw)
 have HN7:=lh9 hw7
 clear hBw hHeld hw7 C0 C1
 obtain ⟨r0,r1,r2⟩:=(sn3 k3 (.bool b5) (.slice B5 m5 d5) (.slice E5 u5 v5)).c3
 have HG:=lh9 (gb3 true (HN5.out) k3 hB (by omega))
 go_wp2
 refine bodyPost_ret (v:=.tuple #[.agg #[.bool b5,.slice B5 m5 d5,.slice E5 u5 v5],.bool true]) (by simp [results,Tryz.results51,go_sem,r0,r1,r2]) rfl ?_
 exact HG.out
theorem zmN (p : Int) (d : Nat) (baa : Bool) (Baa : oA9) (maa daa : Nat) (Bab : oA9) (mab dab : Nat) (w : World) (hT : zam w) (haa : zaE w p baa Baa maa daa) (hab : zaf w d Bab mab dab) (qaa : maa ≤ 67108864) (qab : mab ≤ 67108864) (hd : d ≠ 0) (he : (Rat.divInt p (d : Int)).den ≠ d) :
  Calls Tryz.prog 51 #[.agg #[.bool baa,.slice Baa maa daa],.agg #[.slice Bab mab dab]] w (zcn w (Rat.divInt p (d : Int)) false):=by
 have HIC:=lh9 (zbh (T:=zam))
 have HT:=lh9 (fun w' (hb : Below w.heap.size w w') => hT.on hb)
 obtain ⟨K,hKe⟩ : ∃ K,67108864 = K:=⟨_,rfl⟩
 have hKK : K ≤ 67108864:=by omega
 have hK0 : 0 < K:=by omega
 have hK9 : 255 ≤ K:=by omega
 have ef1:=zaH
 have ef2:=zaJ
 have ef3:=zaM
 have ef4:=zaN
 have HD : Hid (((d : Nat) : Int) ≠ 0):=by show _ ≠ _; omega
 obtain ⟨c,hc⟩ : ∃ c,zbs (Rat.divInt p (d : Int)).den d = c:=⟨_,rfl⟩
 have HC:=lh9 hc
 have kb1 : (c == 0) = false:=by
  rw [beq_eq_false_iff_ne]
  intro h9
  rw [h9] at hc
  rcases Nat.lt_trichotomy (Rat.divInt p (d : Int)).den d with h8 | h8 | h8
  ·rw [zcL h8] at hc; omega
  ·exact he h8
  ·rw [zcv h8] at hc; omega
 clear hc
 have HNaa:=lh9 (fun w' (b : Below w.heap.size w w') => haa.below b)
 have HZaa : Hid (Sz K p.natAbs):=Sz.of_words haa.words (by omega)
 clear haa qaa
 have HNab:=lh9 (fun w' (b : Below w.heap.size w w') => hab.below b)
 have HZab : Hid (Sz K d):=Sz.of_words hab (by omega)
 clear hab qab
 clear hT hKe hd he
 go_enter Tryz.func51,Tryz.ntmps51
 have hB:=Below.refl w.heap.size w
 obtain ⟨bx1,bx2,bx3,bx4,bz⟩:=zbp w 31 29 33 #[.bool baa,.slice Baa maa daa] #[.slice Bab mab dab] #[.bool false,.slice none 0 0,.slice none 0 0]
 have hB:=zac hB bx1
 obtain ⟨g1,e1⟩:=bx2.c2
 have g2:=bx3.c1
 have k3:=bx4
 clear bx1 bx2 bx3 bx4 bz
 go_wp2_with fail
 generalize ((w.alloc (.cells #[.bool baa,.slice Baa maa daa] 31)).alloc (.cells #[.slice Bab mab dab] 29)).alloc (.cells #[.bool false,.slice none 0 0,.slice none 0 0] 33) = W1 at *
 have HZ4 : Hid (Sz (K) (((d : Nat) : Int)).natAbs):=(by rw [Int.natAbs_natCast]; exact HZab.out)
 have C0:=lh9 (fun w' (h : Below W1.heap.size W1 w') => zms HIC.out (d) Bab mab dab w' (HT.out _ (zac hB h)) (HNab.out _ (zac hB h)) (szw HZab (HNab.out _ hB)))
 have HZ5 : Hid (SzQ (K) (Rat.divInt p (((d : Nat) : Int)))):=SzQ.made HZaa.out HZ4.out (by omega)
 have C1:=lh9 (fun w' (h : Below W1.heap.size W1 w') b4 B4 m4 d4 (hw4 : zaE w' (((d : Nat) : Int)) b4 B4 m4 d4) => zhY (p) (((d : Nat) : Int)) baa Baa maa daa b4 B4 m4 d4 w' (HT.out _ (zac hB h)) (HNaa.out _ (zac hB h)) hw4 (szi HZaa (HNaa.out _ hB)) (szi HZ4 hw4) HD.out)
 have lt3_m1:=k3.lt
 have GG:=lh9 (fun w' (h : Below W1.heap.size W1 w') => (csc (zad h g1) (csc (zad h e1) (csc (zad h g2) csn))))
 refine rgB (fun hHeld => ?_)
 refine tl 0 GG.out ?_
 refine tl 1 GG.out ?_
 refine zbk (L:=#[true,true,true,true,true,true,true,true,true,true])
  (J:=fun a0 l a w' => ∃ (fl2 fl3 fl4 fl5 fl6 fl7 fl8 fl9 b4 : Bool) (B4 : oA9) (m4 d4 : Nat) (b5 : Bool) (B5 : oA9) (m5 d5 : Nat) (E5 : oA9) (u5 v5 ad7 : Nat),l = #[true,true,fl2,fl3,fl4,fl5,fl6,fl7,fl8,fl9] ∧ zco [11,12,8,13,14,6,7] a0 a ∧ Hid (Below W1.heap.size W1 w') ∧
    Hid (Gd fl2 (a.tmps.getD 11 undef = .agg #[.bool b4,.slice B4 m4 d4] ∧ zaE w' (((d : Nat) : Int)) b4 B4 m4 d4)) ∧
    Hid (Gd fl3 (a.tmps.getD 12 undef = .tuple #[.agg #[.bool b5,.slice B5 m5 d5,.slice E5 u5 v5],.bool true] ∧ zaF w' (Rat.divInt p (((d : Nat) : Int))) b5 B5 m5 d5 E5 u5 v5)) ∧
    Hid (Gd fl4 (a.tmps.getD 8 undef = .tuple #[.agg #[.bool b5,.slice B5 m5 d5,.slice E5 u5 v5],.bool true])) ∧
    Hid (Gd fl5 (a.tmps.getD 13 undef = .agg #[.bool b5,.slice B5 m5 d5,.slice E5 u5 v5])) ∧
    Hid (Gd fl6 (a.tmps.getD 14 undef = .bool true)) ∧
    Hid (Gd fl9 (a.tmps.getD 7 undef = .bool true)) ∧
    Hid (Gd fl7 (a.tmps.getD 6 undef = .pointer (some ⟨ad7,0,none⟩) ∧ W1.heap.size ≤ ad7 ∧ Blk w' ad7 33 (bif fl8 then #[.bool b5,.slice B5 m5 d5,.slice E5 u5 v5] else #[.bool false,.slice none 0 0,.slice none 0 0]))) ∧
    Hid (Gd fl3 (fl2 = true)) ∧
    Hid (Gd fl4 (fl3 = true)) ∧
    Hid (Gd fl5 (fl4 = true)) ∧
    Hid (Gd fl6 (fl4 = true)) ∧
    Hid (Gd fl8 (fl3 = true)) ∧
    Hid (Gd fl8 (fl5 = true)) ∧
    Hid (Gd fl8 (fl7 = true)) ∧
    Hid (Gd fl9 (fl6 = true)) ∧
    Hid (Gd fl9 (fl8 = true)))
  (by rfl) ?_ ?_ ?_
 ·exact ⟨false,false,false,false,false,false,false,false,false,none,0,0,false,none,0,0,none,0,0,0,by kernel_rfl,zco.refl _ _,hHeld,Gd.no,Gd.no,Gd.no,Gd.no,Gd.no,Gd.no,Gd.no,Gd.no,Gd.no,Gd.no,Gd.no,Gd.no,Gd.no,Gd.no,Gd.no,Gd.no⟩
 ·intro OPS Ac0 Q0 hO hAs hA
  have RB9 : Ac0.tmps.getD 9 undef = .agg #[.bool baa,.slice Baa maa daa]:=(hA 9 undef).trans (by kernel_rfl)
  have RB10 : Ac0.tmps.getD 10 undef = .agg #[.slice Bab mab dab]:=(hA 10 undef).trans (by kernel_rfl)
  have hsz : Ac0.tmps.size = 21:=hAs.trans (by kernel_rfl)
  clear hAs hA
  refine ⟨?_,?_⟩
  ·rintro l a w' ⟨fl2,fl3,fl4,fl5,fl6,fl7,fl8,fl9,b4,B4,m4,d4,b5,B5,m5,d5,E5,u5,v5,ad7,rfl,-⟩ hr
   obtain rfl : fl2 = true:=als 2 hr hO
   obtain rfl : fl3 = true:=als 3 hr hO
   obtain rfl : fl4 = true:=als 4 hr hO
   obtain rfl : fl5 = true:=als 5 hr hO
   obtain rfl : fl6 = true:=als 6 hr hO
   obtain rfl : fl7 = true:=als 7 hr hO
   obtain rfl : fl8 = true:=als 8 hr hO
   obtain rfl : fl9 = true:=als 9 hr hO
   rfl
  ·rintro l a w' i ⟨fl2,fl3,fl4,fl5,fl6,fl7,fl8,fl9,b4,B4,m4,d4,b5,B5,m5,d5,E5,u5,v5,ad7,rfl,HKp,hBi,qf2,qf3,qf4,qf5,qf6,qf9,qf7,qd3_2,qd4_3,qd5_4,qd6_4,qd8_3,qd8_5,qd8_7,qd9_6,qd9_8⟩ hne hi
   have hlt : i < 10:=by have:=zcf hi; rw [hO] at this; exact this
   rcases (show i = 0 ∨ i = 1 ∨ i = 2 ∨ i = 3 ∨ i = 4 ∨ i = 5 ∨ i = 6 ∨ i = 7 ∨ i = 8 ∨ i = 9 by omega) with rfl | rfl | rfl | rfl | rfl | rfl | rfl | rfl | rfl | rfl
   ·cases (zah hi : true = false)
   ·cases (zah hi : true = false)
   ·obtain rfl : fl2 = false:=zah hi
    obtain rfl : fl3 = false:=Gd.off qd3_2.out
    obtain rfl : fl4 = false:=Gd.off qd4_3.out
    obtain rfl : fl5 = false:=Gd.off qd5_4.out
    obtain rfl : fl6 = false:=Gd.off qd6_4.out
    obtain rfl : fl8 = false:=Gd.off qd8_3.out
    obtain rfl : fl9 = false:=Gd.off qd9_6.out
    have rd10:=HKp.get 10 (by decide) RB10
    refine wog hO (fun K' hK => ?_)
    go_simp
    refine (C0.out w' hBi.out).mono ?_
    rintro e w2 ⟨nb4,nB4,nm4,nd4,rfl,nhw4,hb⟩
    exact hK.out _ _ ⟨zac hBi.out hb,true,false,false,false,false,fl7,false,false,nb4,nB4,nm4,nd4,b5,B5,m5,d5,E5,u5,v5,ad7,by rfl,HKp.put (by decide) _,zac hBi.out hb,Gd.yes ⟨zaA (HKp.lt (by rw [hsz]; decide)) _,nhw4⟩,Gd.no,Gd.no,Gd.no,Gd.no,Gd.no,kq qf7.out fun h => ⟨h.1,zae hb h.2⟩,Gd.no,Gd.no,Gd.no,Gd.no,Gd.no,Gd.no,Gd.no,Gd.no,Gd.no⟩
   ·obtain rfl : fl3 = false:=zah hi
    obtain rfl : fl2 = true:=rdp 2 1 hi hO
    obtain rfl : fl4 = false:=Gd.off qd4_3.out
    obtain rfl : fl5 = false:=Gd.off qd5_4.out
    obtain rfl : fl6 = false:=Gd.off qd6_4.out
    obtain rfl : fl8 = false:=Gd.off qd8_3.out
    obtain rfl : fl9 = false:=Gd.off qd9_6.out
    have rd9:=HKp.get 9 (by decide) RB9
    have rd11:=qf2.out.get.1
    have hw4:=qf2.out.get.2
    refine wog hO (fun K' hK => ?_)
    go_simp
    refine (C1.out w' hBi.out _ _ _ _ hw4).mono ?_
    rintro e w2 ⟨nb5,nB5,nm5,nd5,nE5,nu5,nv5,rfl,nhw5,hb⟩
    exact hK.out _ _ ⟨zac hBi.out hb,true,true,false,false,false,fl7,false,false,b4,B4,m4,d4,nb5,nB5,nm5,nd5,nE5,nu5,nv5,ad7,by rfl,HKp.put (by decide) _,zac hBi.out hb,kq qf2.out fun h => (h).below hb,Gd.yes ⟨zaA (HKp.lt (by rw [hsz]; decide)) _,nhw5⟩,Gd.no,Gd.no,Gd.no,Gd.no,kq qf7.out fun h => ⟨h.1,zae hb h.2⟩,fun _ => rfl,Gd.no,Gd.no,Gd.no,Gd.no,Gd.no,Gd.no,Gd.no,Gd.no⟩
   ·obtain rfl : fl4 = false:=zah hi
    obtain rfl : fl3 = true:=rdp 3 0 hi hO
    obtain rfl : fl2 = true:=qd3_2.out.get
    obtain rfl : fl5 = false:=Gd.off qd5_4.out
    obtain rfl : fl6 = false:=Gd.off qd6_4.out
    obtain rfl : fl8 = false:=Gd.off qd8_5.out
    obtain rfl : fl9 = false:=Gd.off qd9_6.out
    have rd12:=qf3.out.get.1
    refine wog hO (fun K' hK => ?_)
    refine zaX (x:=12) (Or.inl rfl) rd12 ?_
    exact hK.out _ _ ⟨hBi.out,true,true,true,false,false,fl7,false,false,b4,B4,m4,d4,b5,B5,m5,d5,E5,u5,v5,ad7,by rfl,HKp.put (by decide) _,hBi.out,kq qf2.out fun h => (h),kq qf3.out fun h => (h),Gd.yes (zaA (HKp.lt (by rw [hsz]; decide)) _),Gd.no,Gd.no,Gd.no,kq qf7.out id,fun _ => rfl,fun _ => rfl,Gd.no,Gd.no,Gd.no,Gd.no,Gd.no,Gd.no,Gd.no⟩
   ·obtain rfl : fl5 = false:=zah hi
    obtain rfl : fl4 = true:=rdp 4 0 hi hO
    obtain rfl : fl3 = true:=qd4_3.out.get
    obtain rfl : fl2 = true:=qd3_2.out.get
    obtain rfl : fl8 = false:=Gd.off qd8_5.out
    obtain rfl : fl9 = false:=Gd.off qd9_8.out
    have rd8:=qf4.out.get
    refine wog hO (fun K' hK => ?_)
    refine zaD (x:=8) (k:=0) rfl rd8 rfl ?_
    exact hK.out _ _ ⟨hBi.out,true,true,true,true,fl6,fl7,false,false,b4,B4,m4,d4,b5,B5,m5,d5,E5,u5,v5,ad7,by rfl,HKp.put (by decide) _,hBi.out,kq qf2.out fun h => (h),kq qf3.out fun h => (h),kq0 qf4.out,Gd.yes (zaA (HKp.lt (by rw [hsz]; decide)) _),kq0 qf6.out,Gd.no,kq qf7.out id,fun _ => rfl,fun _ => rfl,fun _ => rfl,fun _ => rfl,Gd.no,Gd.no,Gd.no,Gd.no,Gd.no⟩
   ·obtain rfl : fl6 = false:=zah hi
    obtain rfl : fl4 = true:=rdp 4 0 hi hO
    obtain rfl : fl3 = true:=qd4_3.out.get
    obtain rfl : fl2 = true:=qd3_2.out.get
    obtain rfl : fl9 = false:=Gd.off qd9_6.out
    have rd8:=qf4.out.get
    refine wog hO (fun K' hK => ?_)
    refine zaD (x:=8) (k:=1) rfl rd8 rfl ?_
    exact hK.out _ _ ⟨hBi.out,true,true,true,fl5,true,fl7,fl8,false,b4,B4,m4,d4,b5,B5,m5,d5,E5,u5,v5,ad7,by rfl,HKp.put (by decide) _,hBi.out,kq qf2.out fun h => (h),kq qf3.out fun h => (h),kq0 qf4.out,kq0 qf5.out,Gd.yes (zaA (HKp.lt (by rw [hsz]; decide)) _),Gd.no,kq qf7.out id,fun _ => rfl,fun _ => rfl,fun _ => rfl,fun _ => rfl,fun _ => rfl,qd8_5,qd8_7,Gd.no,Gd.no⟩
   ·obtain rfl : fl7 = false:=zah hi
    obtain rfl : fl8 = false:=Gd.off qd8_7.out
    obtain rfl : fl9 = false:=Gd.off qd9_8.out
    refine wog hO (fun K' hK => ?_)
    go_simp
    have hb:=zbH w' (.cells #[.bool false,.slice none 0 0,.slice none 0 0] 33)
    exact hK.out _ _ ⟨zac hBi.out hb,fl2,fl3,fl4,fl5,fl6,true,false,false,b4,B4,m4,d4,b5,B5,m5,d5,E5,u5,v5,w'.heap.size,by rfl,HKp.put (by decide) _,zac hBi.out hb,kq qf2.out fun h => (h).below hb,kq qf3.out fun h => (h).below hb,kq0 qf4.out,kq0 qf5.out,kq0 qf6.out,Gd.no,Gd.yes ⟨zaA (HKp.lt (by rw [hsz]; decide)) _,hBi.out.size,Blk.new w' _ _⟩,qd3_2,qd4_3,qd5_4,qd6_4,Gd.no,Gd.no,Gd.no,Gd.no,Gd.no⟩
   ·obtain rfl : fl8 = false:=zah hi
    obtain rfl : fl2 = true:=rdp 2 5 hi hO
    obtain rfl : fl3 = true:=rdp 3 2 hi hO
    obtain rfl : fl4 = true:=rdp 4 7 hi hO
    obtain rfl : fl5 = true:=rdp 5 1 hi hO
    obtain rfl : fl7 = true:=rdp 7 0 hi hO
    obtain rfl : fl9 = false:=Gd.off qd9_8.out
    have rd6:=qf7.out.get.1
    have rd13:=qf5.out.get
    obtain ⟨_,hg,hk⟩:=qf7.out.get
    have hk : Blk w' ad7 33 #[.bool false,.slice none 0 0,.slice none 0 0]:=hk
    obtain ⟨sc0,sf0,sc1,sf1,sc2,sf2⟩:=st3 hk (.bool b5) (.slice B5 m5 d5)
    have hj2:=sn3 hk (.bool b5) (.slice B5 m5 d5) (.slice E5 u5 v5)
    have hBn:=bl3 (.bool b5) (.slice B5 m5 d5) (.slice E5 u5 v5) hg hBi.out
    refine wog hO (fun K' hK => ?_)
    go_simp
    exact hK.out _ _ ⟨hBn,true,true,true,true,fl6,true,true,false,b4,B4,m4,d4,b5,B5,m5,d5,E5,u5,v5,ad7,by rfl,HKp,hBn,qf2.out.mono fun h => ⟨h.1,zcx (h.2) hk zdE (zcy _ _ _ _ _)⟩,qf3.out.mono fun h => ⟨h.1,zbF (h.2) hk zdE (zcy _ _ _ _ _)⟩,qf4.out.mono fun h => h,qf5.out.mono fun h => h,qf6.out.mono fun h => h,Gd.no,qf7.out.mono fun h => ⟨h.1,h.2.1,hj2⟩,fun _ => rfl,fun _ => rfl,fun _ => rfl,fun _ => rfl,fun _ => rfl,fun _ => rfl,fun _ => rfl,Gd.no,Gd.no⟩
   ·obtain rfl : fl9 = false:=zah hi
    obtain rfl : fl2 = true:=rdp 2 4 hi hO
    obtain rfl : fl3 = true:=rdp 3 5 hi hO
    obtain rfl : fl4 = true:=rdp 4 6 hi hO
    obtain rfl : fl5 = true:=rdp 5 7 hi hO
    obtain rfl : fl6 = true:=rdp 6 0 hi hO
    obtain rfl : fl7 = true:=rdp 7 9 hi hO
    obtain rfl : fl8 = true:=rdp 8 1 hi hO
    have rd14:=qf6.out.get
    refine wog hO (fun K' hK => ?_)
    refine zaX (x:=14) (Or.inr rfl) rd14 ?_
    exact hK.out _ _ ⟨hBi.out,true,true,true,true,true,true,true,true,b4,B4,m4,d4,b5,B5,m5,d5,E5,u5,v5,ad7,by rfl,HKp.put (by decide) _,hBi.out,kq qf2.out fun h => (h),kq qf3.out fun h => (h),kq0 qf4.out,kq0 qf5.out,kq0 qf6.out,Gd.yes (zaA (HKp.lt (by rw [hsz]; decide)) _),kq qf7.out id,fun _ => rfl,fun _ => rfl,fun _ => rfl,fun _ => rfl,fun _ => rfl,fun _ => rfl,fun _ => rfl,fun _ => rfl,fun _ => rfl⟩
 rintro a wm2 ⟨fl2,fl3,fl4,fl5,fl6,fl7,fl8,fl9,b4,B4,m4,d4,b5,B5,m5,d5,E5,u5,v5,ad7,hl,HKp,hBi,qf2,qf3,qf4,qf5,qf6,qf9,qf7,qd3_2,qd4_3,qd5_4,qd6_4,qd8_3,qd8_5,qd8_7,qd9_6,qd9_8⟩
 have xx2 : fl2 = true:=gdl 2 hl
 subst xx2
 have xx3 : fl3 = true:=gdl 3 hl
 subst xx3
 have xx4 : fl4 = true:=gdl 4 hl
 subst xx4
 have xx5 : fl5 = true:=gdl 5 hl
 subst xx5
 have xx6 : fl6 = true:=gdl 6 hl
 subst xx6
 have xx7 : fl7 = true:=gdl 7 hl
 subst xx7
 have xx8 : fl8 = true:=gdl 8 hl
 subst xx8
 have xx9 : fl9 = true:=gdl 9 hl
 subst xx9
 obtain ⟨rv2,hw4⟩:=qf2.out.get
 obtain ⟨rv3,hw5⟩:=qf3.out.get
 have rv4:=qf4.out.get
 have rv5:=qf5.out.get
 have rv6:=qf6.out.get
 have rv9:=qf9.out.get
 obtain ⟨rv7,hg7,hk7⟩:=qf7.out.get
 obtain rfl:=HKp.eq [(11,.agg #[.bool b4,.slice B4 m4 d4]),(12,.tuple #[.agg #[.bool b5,.slice B5 m5 d5,.slice E5 u5 v5],.bool true]),(8,.tuple #[.agg #[.bool b5,.slice B5 m5 d5,.slice E5 u5 v5],.bool true]),(13,.agg #[.bool b5,.slice B5 m5 d5,.slice E5 u5 v5]),(14,.bool true),(6,.pointer (some ⟨ad7,0,none⟩)),(7,.bool true)] rfl (by
  intro p hp
  simp only [List.mem_cons,List.not_mem_nil,or_false] at hp
  rcases hp with rfl | rfl | rfl | rfl | rfl | rfl | rfl
  ·exact rv2
  ·exact rv3
  ·exact rv4
  ·exact rv5
  ·exact rv6
  ·exact rv7
  ·exact rv9)
 have hBv:=hBi.out
 clear hl hBi HKp qf2 qf3 qf4 qf5 qf6 qf9 qf7 qd3_2 qd4_3 qd5_4 qd6_4 qd8_3 qd8_5 qd8_7 qd9_6 qd9_8 rv2 rv3 rv4 rv5 rv6 rv7 rv9
 have hk7 : Blk wm2 ad7 33 #[.bool b5,.slice B5 m5 d5,.slice E5 u5 v5]:=hk7
 rw [show due #[true,true,true,true,true,true,true,true,true,true] = 0 from rfl]
 simp only [zcl,List.foldl,Act.put,List.setIfInBounds_toArray,List.set_cons_zero,List.set_cons_succ]
 refine wpAnyH_done (by kernel_rfl) ?_ _
 refine NoPanic.normal ?_
 have lt1_m2:=World.block_lt_of_cell? _ _ g1
 dsimp only at lt1_m2
 have lt2_m2:=World.block_lt_of_cell? _ _ g2
 dsimp only at lt2_m2
 have hB:=zac hB hBv
 have g1:=zad hBv g1
 have e1:=zad hBv e1
 have g2:=zad hBv g2
 have k3:=zae hBv k3
 obtain ⟨ad7_6,hga⟩ : ∃ x,x = ad7:=⟨_,rfl⟩
 subst hga
 obtain ⟨g6,e6,i6⟩:=hk7.c3
 have HN4:=lh9 hw4
 have HN5:=lh9 hw5
 clear hBv hk7 hw4 hw5 GG
 clear C0 C1
 go_wp2_with fail
 have HZ7 : Hid (Sz (K) ((Rat.divInt p (((d : Nat) : Int))).den)):=SzQ.den HZ5.out
 have C0:=lh9 (fun w' (h : Below wm2.heap.size wm2 w') => zhX (Rat.divInt p (((d : Nat) : Int))) b5 B5 m5 d5 E5 u5 v5 w' (HT.out _ (zac hB h)) (HN5.out.below h) (szq HZ5 HN5.out))
 have C1:=lh9 (fun w' (h : Below wm2.heap.size wm2 w') B7 m7 d7 (hw7 : zaf w' ((Rat.divInt p (((d : Nat) : Int))).den) B7 m7 d7) => zbr (v:=c) (HC.out) (zfI ((Rat.divInt p (((d : Nat) : Int))).den) (d) B7 Bab m7 mab d7 dab w' hw7 (HNab.out _ (zac hB h)) (szw HZ7 hw7) (szw HZab (HNab.out _ hB))))
 have hBw:=(Below.refl wm2.heap.size wm2).drew
 refine rg (csc g6 (csc e6 (csc i6 (csc g2 csn)))) (fun hHeld => ?_)
 refine tk 0 ?_
 refine tk 1 ?_
 refine tk 3 ?_
 refine rc 2 (fun K hK => ?_)
 go_simp
 go_at_call 30; (with_reducible refine (C0.out _ hBw).mono ?_); rintro e wa3 ⟨B7,m7,d7,rfl,hw7,hb⟩; have hBw:=zac hBw hb; refine hK.out _ _ (Cs.below hHeld hb) (fun hHeld => ?_); clear hK K hb
 try simp only [sb9]
 refine rc 4 (fun K hK => ?_)
 go_simp
 go_at_call 66; (with_reducible refine (C1.out _ hBw _ _ _ hw7).mono ?_); rintro e wa4 ⟨rfl,hb⟩; have hBw:=zac hBw hb; have hw7:=hw7.below hb; refine hK.out _ _ (Cs.below hHeld hb) (fun hHeld => ?_); clear hK K hb
 try simp only [sb9]
 refine tk 5 ?_
 obtain ⟨sc0,sf0,sc1,sf1,sc2,sf2⟩:=st3 (zae hBw k3) (.bool b5) (.slice B5 m5 d5)
 refine rc 6 (fun K hK => ?_)
 go_simp
 refine hK.out _ _ (cs3 (.bool b5) (.slice B5 m5 d5) (.slice E5 u5 v5) hHeld) (fun hHeld => ?_); clear hK K
 try simp only [sb9]
 refine tk 7 ?_
 refine rdn ?_
 have hB:=zac hB hBw
 have g1:=zad hBw g1
 have e1:=zad hBw e1
 have g2:=zad hBw g2
 have k3:=zae hBw k3
 have g6:=zad hBw g6
 have e6:=zad hBw e6
 have i6:=zad hBw i6
 have HN4:=lh9 (HN4.out.below hBw)
 have HN5:=lh9 (HN5.out.below hBw)
 have HN7:=lh9 hw7
 clear hBw hHeld hw7 C0 C1
 obtain ⟨r0,r1,r2⟩:=(sn3 k3 (.bool b5) (.slice B5 m5 d5) (.slice E5 u5 v5)).c3
 have HG:=lh9 (gb3 false (HN5.out) k3 hB (by omega))
 go_wp2
 refine bodyPost_ret (v:=.tuple #[.agg #[.bool b5,.slice B5 m5 d5,.slice E5 u5 v5],.bool false]) (by simp [results,Tryz.results51,go_sem,r0,r1,r2]) rfl ?_
 exact HG.out
theorem zcM {P : Program} {f : FuncId} {args : Array Value} {w : World} {r s : Rat} {b t : Bool} (e1 : r = s) (e : b = t) (h : Calls P f args w (zcn w r b)) : Calls P f args w (zcn w s t):=by subst e; subst e1; exact h
theorem zbO (p : Int) (d : Nat) (baa : Bool) (Baa : oA9) (maa daa : Nat) (Bab : oA9) (mab dab : Nat) (w : World) (hT : zam w) (haa : zaE w p baa Baa maa daa) (hab : zaf w d Bab mab dab) (qaa : maa ≤ 67108864) (qab : mab ≤ 67108864) (hd : d ≠ 0) :
  Calls Tryz.prog 51 #[.agg #[.bool baa,.slice Baa maa daa],.agg #[.slice Bab mab dab]] w (zcn w (Rat.divInt p (d : Int)) (decide ((Rat.divInt p (d : Int)).den = d))):=by
 by_cases he : (Rat.divInt p (d : Int)).den = d
 ·rw [decide_eq_true he]; exact zmO p d baa Baa maa daa Bab mab dab w hT haa hab qaa qab hd he
 ·rw [decide_eq_false he]; exact zmN p d baa Baa maa daa Bab mab dab w hT haa hab qaa qab hd he
end Go.Proofs.YtfieheffipfahaaGreatDoor
