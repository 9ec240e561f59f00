/- What this claim leans on. -/
import Derived.Test.YtfieheffipfahaaGreatDoorRJ9First
namespace Go.Proofs.YtfieheffipfahaaGreatDoor
open Go Go.RowKit
set_option maxHeartbeats 16000000
set_option maxRecDepth 100000
set_option linter.unusedVariables false
set_option linter.unusedSimpArgs false
theorem zjC (lb : List Nat) (Baa : oA9) (maa daa : Nat) (w : World) (hT : zam w) (haa : zaB w lb Baa maa daa) (qaa : maa ≤ 2147483648) (h0 : maa = 0) :
  Calls Tryz.prog 18 #[.slice Baa maa daa] w (zbd w (.bare 90,0,0)):=by
 have HIC:=lh9 (zbh (T:=zam))
 have HT:=lh9 (fun w' (hb : Below w.heap.size w w') => hT.on hb)
 obtain ⟨K,hKe⟩ : ∃ K,67108864 = K:=⟨_,rfl⟩
 have hKK : K ≤ 67108864:=by omega
 have hK0 : 0 < K:=by omega
 have hK9 : 255 ≤ K:=by omega
 have ef1:=zaH
 have ef2:=zaJ
 have ef3:=zaM
 have ef4:=zaN
 have i0 : ((maa : Int) == 0) = true:=by rw [beq_iff_eq]; omega
 have HNaa:=lh9 (fun w' (b : Below w.heap.size w w') => haa.below b)
 have hlnaa:=haa.len
 have hcpaa:=haa.2.2
 clear haa
 clear hT hKe h0
 go_enter Tryz.func18,Tryz.ntmps18
 have hB:=Below.refl w.heap.size w
 have HN2:=lh9 (zaS w)
 obtain ⟨bx1,bx2,bz⟩:=zaz w 33 #[.bool false,.slice none 0 0,.slice none 0 0]
 have hB:=zac hB bx1
 have HN2:=lh9 (HN2.out.below bx1)
 have k1:=bx2
 clear bx1 bx2 bz
 go_upto_region 2 with fail
 generalize w.alloc (.cells #[.bool false,.slice none 0 0,.slice none 0 0] 33) = W1 at *
 obtain ⟨sc0,sf0,sc1,sf1,sc2,sf2⟩:=st3 k1 (.bool false) (.slice none 0 0)
 obtain ⟨r0,r1,r2⟩:=(sn3 k1 (.bool false) (.slice none 0 0) (.slice none 0 0)).c3
 have HG:=lh9 (gd3 (HN2.out) (zdq 90 _) (show (0 : Int) = ((0 : Nat) : Int) from rfl) k1 hB (by omega))
 go_wp2
 refine bodyPost_ret (v:=.tuple #[.agg #[.bool false,.slice none 0 0,.slice none 0 0],.int .i64 0,.iface 47 (.int .i64 90)]) (by simp [results,Tryz.results18,go_sem,r0,r1,r2]) rfl ?_
 exact HG.out
theorem zjD (lb : List Nat) (Baa : oA9) (maa daa : Nat) (w : World) (hT : zam w) (haa : zaB w lb Baa maa daa) (qaa : maa ≤ 2147483648) (h0 : 0 < maa) (hb : 4 < lb.getD 0 0) :
  Calls Tryz.prog 18 #[.slice Baa maa daa] w (zbd w (.bare 91,0,0)):=by
 have HIC:=lh9 (zbh (T:=zam))
 have HT:=lh9 (fun w' (hb : Below w.heap.size w w') => hT.on hb)
 obtain ⟨K,hKe⟩ : ∃ K,67108864 = K:=⟨_,rfl⟩
 have hKK : K ≤ 67108864:=by omega
 have hK0 : 0 < K:=by omega
 have hK9 : 255 ≤ K:=by omega
 have ef1:=zaH
 have ef2:=zaJ
 have ef3:=zaM
 have ef4:=zaN
 have i0 : ((maa : Int) == 0) = false:=by rw [beq_eq_false_iff_ne]; omega
 have i1 : (0 : Int) < (maa : Int):=by omega
 have HBY:=lh9 haa
 have HNaa:=lh9 (fun w' (b : Below w.heap.size w w') => haa.below b)
 have hlnaa:=haa.len
 have hcpaa:=haa.2.2
 obtain ⟨gb,ob,ib,rfl,hgb,hb0,gby0⟩:=haa.first (by omega)
 obtain ⟨x,hxx⟩ : ∃ x,lb.getD 0 0 = x:=⟨_,rfl⟩
 rw [hxx] at gby0
 have hx4 : 4 < x:=by omega
 have i2 : ((x : Int) == 3) = false:=by rw [beq_eq_false_iff_ne]; omega
 have i3 : ((x : Int) == 4) = false:=by rw [beq_eq_false_iff_ne]; omega
 have i4 : ((x : Int) == 1) = false:=by rw [beq_eq_false_iff_ne]; omega
 have i5 : ((x : Int) == 2) = false:=by rw [beq_eq_false_iff_ne]; omega
 have i6 : ((x : Int) == 0) = false:=by rw [beq_eq_false_iff_ne]; omega
 clear hxx hb0
 clear haa
 clear hT hKe hb
 go_enter Tryz.func18,Tryz.ntmps18
 have hB:=Below.refl w.heap.size w
 have HN3:=lh9 (zaQ w)
 have HZ3 : Hid (Sz 1 0):=zbK 1
 have kk2:=(zbp w 33 29 81 #[.bool false,.slice none 0 0,.slice none 0 0] #[.slice none 0 0] #[.int .u64 1]).2.2.1
 obtain ⟨bx1,bx2,bx3,bx4,bz⟩:=zbp w 33 29 81 #[.bool false,.slice none 0 0,.slice none 0 0] #[.slice none 0 0] #[.int .u64 1]
 have hB:=zac hB bx1
 have gby0:=zad bx1 gby0
 have HN3:=lh9 (HN3.out.below bx1)
 have k1:=bx2
 have g2:=bx3.c1
 have k4:=bx4
 clear bx1 bx2 bx3 bx4 bz
 go_wp2_with fail
 generalize ((w.alloc (.cells #[.bool false,.slice none 0 0,.slice none 0 0] 33)).alloc (.cells #[.slice none 0 0] 29)).alloc (.cells #[.int .u64 1] 81) = W1 at *
 have k2:=kk2
 clear kk2
 have HZ5 : Hid (Sz (1) (1)):=(by show (1 : Nat) < 18446744073709551616 ^ 1; decide)
 (with_reducible refine (zby _ [1] _ _ 1 (1) k4 rfl rfl (zeG 1 (by decide)) rfl (by decide)).mono ?_)
 rintro e wc2 ⟨B5,m5,d5,rfl,hw5,hb,_⟩
 have hB:=zac hB hb
 have gby0:=zad hb gby0
 have HN3:=lh9 (HN3.out.below hb)
 have k1:=zae hb k1
 have g2:=zad hb g2
 have k4:=zae hb k4
 have k2:=zae hb k2
 have HN5:=lh9 hw5
 clear hb hw5
 have HN7:=lh9 (zaS wc2)
 have lt1_2 : w.heap.size < wc2.heap.size:=k1.lt
 have lt2_2 : w.heap.size + 1 < wc2.heap.size:=World.block_lt_of_cell? wc2 ⟨w.heap.size + 1,0,none⟩ g2
 have lt4_2 : w.heap.size + 1 + 1 < wc2.heap.size:=k4.lt
 have hq2:=hB.size
 have kk6:=(zaz wc2 29 #[.slice B5 m5 d5]).2.1
 have gmby0_1 : (wc2.alloc (.cells #[.slice B5 m5 d5] 29)).cell? ⟨gb,ob,ib⟩ = some (.int .u8 ((x : Int))):=zal _ (gby0)
 obtain ⟨bx1,bx2,bz⟩:=zaz wc2 29 #[.slice B5 m5 d5]
 have hB:=zac hB bx1
 have gby0:=zad bx1 gby0
 have HN3:=lh9 (HN3.out.below bx1)
 have k1:=zae bx1 k1
 have g2:=zad bx1 g2
 have k4:=zae bx1 k4
 have k2:=zae bx1 k2
 have HN5:=lh9 (HN5.out.below bx1)
 have HN7:=lh9 (HN7.out.below bx1)
 have g6:=bx2.c1
 clear bx1 bx2 bz
 go_upto_region 22 with fail
 clear gmby0_1
 generalize wc2.alloc (.cells #[.slice B5 m5 d5] 29) = W3 at *
 generalize wc2.heap.size = q3 at *
 have k6:=kk6
 clear kk6
 obtain ⟨sc0,sf0,sc1,sf1,sc2,sf2⟩:=st3 k1 (.bool false) (.slice none 0 0)
 obtain ⟨r0,r1,r2⟩:=(sn3 k1 (.bool false) (.slice none 0 0) (.slice none 0 0)).c3
 have HG:=lh9 (gd3 (HN7.out) (zdq 91 _) (show (0 : Int) = ((0 : Nat) : Int) from rfl) k1 hB (by omega))
 go_wp2
 refine bodyPost_ret (v:=.tuple #[.agg #[.bool false,.slice none 0 0,.slice none 0 0],.int .i64 0,.iface 47 (.int .i64 91)]) (by simp [results,Tryz.results18,go_sem,r0,r1,r2]) rfl ?_
 exact HG.out
theorem zjB (lb : List Nat) (Baa : oA9) (maa daa : Nat) (w : World) (hT : zam w) (haa : zaB w lb Baa maa daa) (qaa : maa ≤ 2147483648) (h0 : 0 < maa) (hb : lb.getD 0 0 = 0) :
  Calls Tryz.prog 18 #[.slice Baa maa daa] w (zbd w (.no,0,1)):=by
 have HIC:=lh9 (zbh (T:=zam))
 have HT:=lh9 (fun w' (hb : Below w.heap.size w w') => hT.on hb)
 obtain ⟨K,hKe⟩ : ∃ K,67108864 = K:=⟨_,rfl⟩
 have hKK : K ≤ 67108864:=by omega
 have hK0 : 0 < K:=by omega
 have hK9 : 255 ≤ K:=by omega
 have ef1:=zaH
 have ef2:=zaJ
 have ef3:=zaM
 have ef4:=zaN
 have i0 : ((maa : Int) == 0) = false:=by rw [beq_eq_false_iff_ne]; omega
 have i1 : (0 : Int) < (maa : Int):=by omega
 have HBY:=lh9 haa
 have HNaa:=lh9 (fun w' (b : Below w.heap.size w w') => haa.below b)
 have hlnaa:=haa.len
 have hcpaa:=haa.2.2
 obtain ⟨gb,ob,ib,rfl,hgb,hb0,gby0⟩:=haa.first (by omega)
 have gby0 : w.cell? ⟨gb,ob,ib⟩ = some (.int .u8 0):=by rw [gby0,hb]; rfl
 clear hb0
 clear haa
 clear hT hKe hb
 go_enter Tryz.func18,Tryz.ntmps18
 have hB:=Below.refl w.heap.size w
 have HN3:=lh9 (zaQ w)
 have HZ3 : Hid (Sz 1 0):=zbK 1
 have kk2:=(zbp w 33 29 81 #[.bool false,.slice none 0 0,.slice none 0 0] #[.slice none 0 0] #[.int .u64 1]).2.2.1
 obtain ⟨bx1,bx2,bx3,bx4,bz⟩:=zbp w 33 29 81 #[.bool false,.slice none 0 0,.slice none 0 0] #[.slice none 0 0] #[.int .u64 1]
 have hB:=zac hB bx1
 have gby0:=zad bx1 gby0
 have HN3:=lh9 (HN3.out.below bx1)
 have k1:=bx2
 have g2:=bx3.c1
 have k4:=bx4
 clear bx1 bx2 bx3 bx4 bz
 go_wp2_with fail
 generalize ((w.alloc (.cells #[.bool false,.slice none 0 0,.slice none 0 0] 33)).alloc (.cells #[.slice none 0 0] 29)).alloc (.cells #[.int .u64 1] 81) = W1 at *
 have k2:=kk2
 clear kk2
 have HZ5 : Hid (Sz (1) (1)):=(by show (1 : Nat) < 18446744073709551616 ^ 1; decide)
 (with_reducible refine (zby _ [1] _ _ 1 (1) k4 rfl rfl (zeG 1 (by decide)) rfl (by decide)).mono ?_)
 rintro e wc2 ⟨B5,m5,d5,rfl,hw5,hb,_⟩
 have hB:=zac hB hb
 have gby0:=zad hb gby0
 have HN3:=lh9 (HN3.out.below hb)
 have k1:=zae hb k1
 have g2:=zad hb g2
 have k4:=zae hb k4
 have k2:=zae hb k2
 have HN5:=lh9 hw5
 clear hb hw5
 have lt1_2 : w.heap.size < wc2.heap.size:=k1.lt
 have lt2_2 : w.heap.size + 1 < wc2.heap.size:=World.block_lt_of_cell? wc2 ⟨w.heap.size + 1,0,none⟩ g2
 have lt4_2 : w.heap.size + 1 + 1 < wc2.heap.size:=k4.lt
 have hq2:=hB.size
 have kk6:=(zaz wc2 29 #[.slice B5 m5 d5]).2.1
 have gmby0_1 : (wc2.alloc (.cells #[.slice B5 m5 d5] 29)).cell? ⟨gb,ob,ib⟩ = some (.int .u8 0):=zal _ (gby0)
 obtain ⟨bx1,bx2,bz⟩:=zaz wc2 29 #[.slice B5 m5 d5]
 have hB:=zac hB bx1
 have gby0:=zad bx1 gby0
 have HN3:=lh9 (HN3.out.below bx1)
 have k1:=zae bx1 k1
 have g2:=zad bx1 g2
 have k4:=zae bx1 k4
 have k2:=zae bx1 k2
 have HN5:=lh9 (HN5.out.below bx1)
 have g6:=bx2.c1
 clear bx1 bx2 bz
 go_wp2_with fail
 clear gmby0_1
 generalize wc2.alloc (.cells #[.slice B5 m5 d5] 29) = W3 at *
 generalize wc2.heap.size = q3 at *
 have k6:=kk6
 clear kk6
 have HZ7 : Hid (Sz (1) (sg9 false 0).natAbs):=(by rw [zbJ]; exact HZ3.out)
 have C0:=lh9 (fun w' (h : Below W3.heap.size W3 w') => zgC HIC.out false (0) none 0 0 w' (HT.out _ (zac hB h)) (HN3.out.below h) (szw HZ3 HN3.out))
 have HZ8 : Hid (SzQ (K) ((0 : Rat))):=SzQ.zero.up (by omega)
 have C1:=lh9 (fun w' (h : Below W3.heap.size W3 w') b7 B7 m7 d7 (hw7 : zaE w' (sg9 false 0) b7 B7 m7 d7) => zcM (zhD.1) (zhD.2) (zbO (sg9 false 0) (1) b7 B7 m7 d7 B5 m5 d5 w' (HT.out _ (zac hB h)) hw7 (HN5.out.below h) (szi HZ7 hw7) (szw HZ5 HN5.out) (by decide)))
 have lt1_m3:=k1.lt
 have lt4_m3:=k4.lt
 have lt2_m3:=k2.lt
 have lt6_m3:=k6.lt
 have GG:=lh9 (fun w' (h : Below W3.heap.size W3 w') => (csc (zad h g2) (csc (zad h g6) csn)))
 refine rgB (fun hHeld => ?_)
 refine tl 0 GG.out ?_
 refine tl 1 GG.out ?_
 refine tl 3 GG.out ?_
 refine zbk (L:=#[true,true,true,true,true,true,true,true,true,true,true])
  (J:=fun a0 l a w' => ∃ (fl2 fl4 fl5 fl6 fl7 fl8 fl9 fl10 b7 : Bool) (B7 : oA9) (m7 d7 : Nat) (b8 : Bool) (B8 : oA9) (m8 d8 : Nat) (E8 : oA9) (u8 v8 ad8 : Nat),l = #[true,true,fl2,true,fl4,fl5,fl6,fl7,fl8,fl9,fl10] ∧ zco [65,67,62,68,69,10,11] a0 a ∧ Hid (Below W3.heap.size W3 w') ∧
    Hid (Gd fl2 (a.tmps.getD 65 undef = .agg #[.bool b7,.slice B7 m7 d7] ∧ zaE w' (sg9 false 0) b7 B7 m7 d7)) ∧
    Hid (Gd fl4 (a.tmps.getD 67 undef = .tuple #[.agg #[.bool b8,.slice B8 m8 d8,.slice E8 u8 v8],.bool true] ∧ zaF w' ((0 : Rat)) b8 B8 m8 d8 E8 u8 v8)) ∧
    Hid (Gd fl5 (a.tmps.getD 62 undef = .tuple #[.agg #[.bool b8,.slice B8 m8 d8,.slice E8 u8 v8],.bool true])) ∧
    Hid (Gd fl6 (a.tmps.getD 68 undef = .agg #[.bool b8,.slice B8 m8 d8,.slice E8 u8 v8])) ∧
    Hid (Gd fl7 (a.tmps.getD 69 undef = .bool true)) ∧
    Hid (Gd fl10 (a.tmps.getD 11 undef = .bool true)) ∧
    Hid (Gd fl8 (a.tmps.getD 10 undef = .pointer (some ⟨ad8,0,none⟩) ∧ W3.heap.size ≤ ad8 ∧ Blk w' ad8 33 (bif fl9 then #[.bool b8,.slice B8 m8 d8,.slice E8 u8 v8] else #[.bool false,.slice none 0 0,.slice none 0 0]))) ∧
    Hid (Gd fl4 (fl2 = true)) ∧
    Hid (Gd fl5 (fl4 = true)) ∧
    Hid (Gd fl6 (fl5 = true)) ∧
    Hid (Gd fl7 (fl5 = true)) ∧
    Hid (Gd fl9 (fl4 = true)) ∧
    Hid (Gd fl9 (fl6 = true)) ∧
    Hid (Gd fl9 (fl8 = true)) ∧
    Hid (Gd fl10 (fl7 = true)) ∧
    Hid (Gd fl10 (fl9 = true)))
  (by rfl) ?_ ?_ ?_
 ·exact ⟨false,false,false,false,false,false,false,false,false,none,0,0,false,none,0,0,none,0,0,0,by kernel_rfl,zco.refl _ _,hHeld,Gd.no,Gd.no,Gd.no,Gd.no,Gd.no,Gd.no,Gd.no,Gd.no,Gd.no,Gd.no,Gd.no,Gd.no,Gd.no,Gd.no,Gd.no,Gd.no⟩
 ·intro OPS Ac0 Q0 hO hAs hA
  have RB63 : Ac0.tmps.getD 63 undef = .bool false:=(hA 63 undef).trans (by kernel_rfl)
  have RB64 : Ac0.tmps.getD 64 undef = .agg #[.slice none 0 0]:=(hA 64 undef).trans (by kernel_rfl)
  have RB66 : Ac0.tmps.getD 66 undef = .agg #[.slice B5 m5 d5]:=(hA 66 undef).trans (by kernel_rfl)
  have hsz : Ac0.tmps.size = 83:=hAs.trans (by kernel_rfl)
  clear hAs hA
  refine ⟨?_,?_⟩
  ·rintro l a w' ⟨fl2,fl4,fl5,fl6,fl7,fl8,fl9,fl10,b7,B7,m7,d7,b8,B8,m8,d8,E8,u8,v8,ad8,rfl,-⟩ hr
   obtain rfl : fl2 = true:=als 2 hr hO
   obtain rfl : fl4 = true:=als 4 hr hO
   obtain rfl : fl5 = true:=als 5 hr hO
   obtain rfl : fl6 = true:=als 6 hr hO
   obtain rfl : fl7 = true:=als 7 hr hO
   obtain rfl : fl8 = true:=als 8 hr hO
   obtain rfl : fl9 = true:=als 9 hr hO
   obtain rfl : fl10 = true:=als 10 hr hO
   rfl
  ·rintro l a w' i ⟨fl2,fl4,fl5,fl6,fl7,fl8,fl9,fl10,b7,B7,m7,d7,b8,B8,m8,d8,E8,u8,v8,ad8,rfl,HKp,hBi,qf2,qf4,qf5,qf6,qf7,qf10,qf8,qd4_2,qd5_4,qd6_5,qd7_5,qd9_4,qd9_6,qd9_8,qd10_7,qd10_9⟩ hne hi
   have hlt : i < 11:=by have:=zcf hi; rw [hO] at this; exact this
   rcases (show i = 0 ∨ i = 1 ∨ i = 2 ∨ i = 3 ∨ i = 4 ∨ i = 5 ∨ i = 6 ∨ i = 7 ∨ i = 8 ∨ i = 9 ∨ i = 10 by omega) with rfl | rfl | rfl | rfl | rfl | rfl | rfl | rfl | rfl | rfl | rfl
   ·cases (zah hi : true = false)
   ·cases (zah hi : true = false)
   ·obtain rfl : fl2 = false:=zah hi
    obtain rfl : fl4 = false:=Gd.off qd4_2.out
    obtain rfl : fl5 = false:=Gd.off qd5_4.out
    obtain rfl : fl6 = false:=Gd.off qd6_5.out
    obtain rfl : fl7 = false:=Gd.off qd7_5.out
    obtain rfl : fl9 = false:=Gd.off qd9_4.out
    obtain rfl : fl10 = false:=Gd.off qd10_7.out
    have rd63:=HKp.get 63 (by decide) RB63
    have rd64:=HKp.get 64 (by decide) RB64
    refine wog hO (fun K' hK => ?_)
    go_simp
    refine (C0.out w' hBi.out).mono ?_
    rintro e w2 ⟨nb7,nB7,nm7,nd7,rfl,nhw7,hb⟩
    exact hK.out _ _ ⟨zac hBi.out hb,true,false,false,false,false,fl8,false,false,nb7,nB7,nm7,nd7,b8,B8,m8,d8,E8,u8,v8,ad8,by rfl,HKp.put (by decide) _,zac hBi.out hb,Gd.yes ⟨zaA (HKp.lt (by rw [hsz]; decide)) _,nhw7⟩,Gd.no,Gd.no,Gd.no,Gd.no,Gd.no,kq qf8.out fun h => ⟨h.1,zae hb h.2⟩,Gd.no,Gd.no,Gd.no,Gd.no,Gd.no,Gd.no,Gd.no,Gd.no,Gd.no⟩
   ·cases (zah hi : true = false)
   ·obtain rfl : fl4 = false:=zah hi
    obtain rfl : fl2 = true:=rdp 2 0 hi hO
    obtain rfl : fl5 = false:=Gd.off qd5_4.out
    obtain rfl : fl6 = false:=Gd.off qd6_5.out
    obtain rfl : fl7 = false:=Gd.off qd7_5.out
    obtain rfl : fl9 = false:=Gd.off qd9_4.out
    obtain rfl : fl10 = false:=Gd.off qd10_7.out
    have rd65:=qf2.out.get.1
    have rd66:=HKp.get 66 (by decide) RB66
    have hw7:=qf2.out.get.2
    refine wog hO (fun K' hK => ?_)
    go_simp
    refine (C1.out w' hBi.out _ _ _ _ hw7).mono ?_
    rintro e w2 ⟨nb8,nB8,nm8,nd8,nE8,nu8,nv8,rfl,nhw8,hb⟩
    exact hK.out _ _ ⟨zac hBi.out hb,true,true,false,false,false,fl8,false,false,b7,B7,m7,d7,nb8,nB8,nm8,nd8,nE8,nu8,nv8,ad8,by rfl,HKp.put (by decide) _,zac hBi.out hb,kq qf2.out fun h => (h).below hb,Gd.yes ⟨zaA (HKp.lt (by rw [hsz]; decide)) _,nhw8⟩,Gd.no,Gd.no,Gd.no,Gd.no,kq qf8.out fun h => ⟨h.1,zae hb h.2⟩,fun _ => rfl,Gd.no,Gd.no,Gd.no,Gd.no,Gd.no,Gd.no,Gd.no,Gd.no⟩
   ·obtain rfl : fl5 = false:=zah hi
    obtain rfl : fl4 = true:=rdp 4 0 hi hO
    obtain rfl : fl2 = true:=qd4_2.out.get
    obtain rfl : fl6 = false:=Gd.off qd6_5.out
    obtain rfl : fl7 = false:=Gd.off qd7_5.out
    obtain rfl : fl9 = false:=Gd.off qd9_6.out
    obtain rfl : fl10 = false:=Gd.off qd10_7.out
    have rd67:=qf4.out.get.1
    refine wog hO (fun K' hK => ?_)
    refine zaX (x:=67) (Or.inl rfl) rd67 ?_
    exact hK.out _ _ ⟨hBi.out,true,true,true,false,false,fl8,false,false,b7,B7,m7,d7,b8,B8,m8,d8,E8,u8,v8,ad8,by rfl,HKp.put (by decide) _,hBi.out,kq qf2.out fun h => (h),kq qf4.out fun h => (h),Gd.yes (zaA (HKp.lt (by rw [hsz]; decide)) _),Gd.no,Gd.no,Gd.no,kq qf8.out id,fun _ => rfl,fun _ => rfl,Gd.no,Gd.no,Gd.no,Gd.no,Gd.no,Gd.no,Gd.no⟩
   ·obtain rfl : fl6 = false:=zah hi
    obtain rfl : fl5 = true:=rdp 5 0 hi hO
    obtain rfl : fl4 = true:=qd5_4.out.get
    obtain rfl : fl2 = true:=qd4_2.out.get
    obtain rfl : fl9 = false:=Gd.off qd9_6.out
    obtain rfl : fl10 = false:=Gd.off qd10_9.out
    have rd62:=qf5.out.get
    refine wog hO (fun K' hK => ?_)
    refine zaD (x:=62) (k:=0) rfl rd62 rfl ?_
    exact hK.out _ _ ⟨hBi.out,true,true,true,true,fl7,fl8,false,false,b7,B7,m7,d7,b8,B8,m8,d8,E8,u8,v8,ad8,by rfl,HKp.put (by decide) _,hBi.out,kq qf2.out fun h => (h),kq qf4.out fun h => (h),kq0 qf5.out,Gd.yes (zaA (HKp.lt (by rw [hsz]; decide)) _),kq0 qf7.out,Gd.no,kq qf8.out id,fun _ => rfl,fun _ => rfl,fun _ => rfl,fun _ => rfl,Gd.no,Gd.no,Gd.no,Gd.no,Gd.no⟩
   ·obtain rfl : fl7 = false:=zah hi
    obtain rfl : fl5 = true:=rdp 5 0 hi hO
    obtain rfl : fl4 = true:=qd5_4.out.get
    obtain rfl : fl2 = true:=qd4_2.out.get
    obtain rfl : fl10 = false:=Gd.off qd10_7.out
    have rd62:=qf5.out.get
    refine wog hO (fun K' hK => ?_)
    refine zaD (x:=62) (k:=1) rfl rd62 rfl ?_
    exact hK.out _ _ ⟨hBi.out,true,true,true,fl6,true,fl8,fl9,false,b7,B7,m7,d7,b8,B8,m8,d8,E8,u8,v8,ad8,by rfl,HKp.put (by decide) _,hBi.out,kq qf2.out fun h => (h),kq qf4.out fun h => (h),kq0 qf5.out,kq0 qf6.out,Gd.yes (zaA (HKp.lt (by rw [hsz]; decide)) _),Gd.no,kq qf8.out id,fun _ => rfl,fun _ => rfl,fun _ => rfl,fun _ => rfl,fun _ => rfl,qd9_6,qd9_8,Gd.no,Gd.no⟩
   ·obtain rfl : fl8 = false:=zah hi
    obtain rfl : fl9 = false:=Gd.off qd9_8.out
    obtain rfl : fl10 = false:=Gd.off qd10_9.out
    refine wog hO (fun K' hK => ?_)
    go_simp
    have hb:=zbH w' (.cells #[.bool false,.slice none 0 0,.slice none 0 0] 33)
    exact hK.out _ _ ⟨zac hBi.out hb,fl2,fl4,fl5,fl6,fl7,true,false,false,b7,B7,m7,d7,b8,B8,m8,d8,E8,u8,v8,w'.heap.size,by rfl,HKp.put (by decide) _,zac hBi.out hb,kq qf2.out fun h => (h).below hb,kq qf4.out fun h => (h).below hb,kq0 qf5.out,kq0 qf6.out,kq0 qf7.out,Gd.no,Gd.yes ⟨zaA (HKp.lt (by rw [hsz]; decide)) _,hBi.out.size,Blk.new w' _ _⟩,qd4_2,qd5_4,qd6_5,qd7_5,Gd.no,Gd.no,Gd.no,Gd.no,Gd.no⟩
   ·obtain rfl : fl9 = false:=zah hi
    obtain rfl : fl2 = true:=rdp 2 5 hi hO
    obtain rfl : fl4 = true:=rdp 4 2 hi hO
    obtain rfl : fl5 = true:=rdp 5 8 hi hO
    obtain rfl : fl6 = true:=rdp 6 1 hi hO
    obtain rfl : fl8 = true:=rdp 8 0 hi hO
    obtain rfl : fl10 = false:=Gd.off qd10_9.out
    have rd10:=qf8.out.get.1
    have rd68:=qf6.out.get
    obtain ⟨_,hg,hk⟩:=qf8.out.get
    have hk : Blk w' ad8 33 #[.bool false,.slice none 0 0,.slice none 0 0]:=hk
    obtain ⟨sc0,sf0,sc1,sf1,sc2,sf2⟩:=st3 hk (.bool b8) (.slice B8 m8 d8)
    have hj2:=sn3 hk (.bool b8) (.slice B8 m8 d8) (.slice E8 u8 v8)
    have hBn:=bl3 (.bool b8) (.slice B8 m8 d8) (.slice E8 u8 v8) hg hBi.out
    refine wog hO (fun K' hK => ?_)
    go_simp
    exact hK.out _ _ ⟨hBn,true,true,true,true,fl7,true,true,false,b7,B7,m7,d7,b8,B8,m8,d8,E8,u8,v8,ad8,by rfl,HKp,hBn,qf2.out.mono fun h => ⟨h.1,zcx (h.2) hk zdE (zcy _ _ _ _ _)⟩,qf4.out.mono fun h => ⟨h.1,zbF (h.2) hk zdE (zcy _ _ _ _ _)⟩,qf5.out.mono fun h => h,qf6.out.mono fun h => h,qf7.out.mono fun h => h,Gd.no,qf8.out.mono fun h => ⟨h.1,h.2.1,hj2⟩,fun _ => rfl,fun _ => rfl,fun _ => rfl,fun _ => rfl,fun _ => rfl,fun _ => rfl,fun _ => rfl,Gd.no,Gd.no⟩
   ·obtain rfl : fl10 = false:=zah hi
    obtain rfl : fl2 = true:=rdp 2 4 hi hO
    obtain rfl : fl4 = true:=rdp 4 6 hi hO
    obtain rfl : fl5 = true:=rdp 5 7 hi hO
    obtain rfl : fl6 = true:=rdp 6 8 hi hO
    obtain rfl : fl7 = true:=rdp 7 0 hi hO
    obtain rfl : fl8 = true:=rdp 8 10 hi hO
    obtain rfl : fl9 = true:=rdp 9 1 hi hO
    have rd69:=qf7.out.get
    refine wog hO (fun K' hK => ?_)
    refine zaX (x:=69) (Or.inr rfl) rd69 ?_
    exact hK.out _ _ ⟨hBi.out,true,true,true,true,true,true,true,true,b7,B7,m7,d7,b8,B8,m8,d8,E8,u8,v8,ad8,by rfl,HKp.put (by decide) _,hBi.out,kq qf2.out fun h => (h),kq qf4.out fun h => (h),kq0 qf5.out,kq0 qf6.out,kq0 qf7.out,Gd.yes (zaA (HKp.lt (by rw [hsz]; decide)) _),kq qf8.out id,fun _ => rfl,fun _ => rfl,fun _ => rfl,fun _ => rfl,fun _ => rfl,fun _ => rfl,fun _ => rfl,fun _ => rfl,fun _ => rfl⟩
 rintro a wm4 ⟨fl2,fl4,fl5,fl6,fl7,fl8,fl9,fl10,b7,B7,m7,d7,b8,B8,m8,d8,E8,u8,v8,ad8,hl,HKp,hBi,qf2,qf4,qf5,qf6,qf7,qf10,qf8,qd4_2,qd5_4,qd6_5,qd7_5,qd9_4,qd9_6,qd9_8,qd10_7,qd10_9⟩
 have xx2 : fl2 = true:=gdl 2 hl
 subst xx2
 have xx4 : fl4 = true:=gdl 4 hl
 subst xx4
 have xx5 : fl5 = true:=gdl 5 hl
 subst xx5
 have xx6 : fl6 = true:=gdl 6 hl
 subst xx6
 have xx7 : fl7 = true:=gdl 7 hl
 subst xx7
 have xx8 : fl8 = true:=gdl 8 hl
 subst xx8
 have xx9 : fl9 = true:=gdl 9 hl
 subst xx9
 have xx10 : fl10 = true:=gdl 10 hl
 subst xx10
 obtain ⟨rv2,hw7⟩:=qf2.out.get
 obtain ⟨rv4,hw8⟩:=qf4.out.get
 have rv5:=qf5.out.get
 have rv6:=qf6.out.get
 have rv7:=qf7.out.get
 have rv10:=qf10.out.get
 obtain ⟨rv8,hg8,hk8⟩:=qf8.out.get
 obtain rfl:=HKp.eq [(65,.agg #[.bool b7,.slice B7 m7 d7]),(67,.tuple #[.agg #[.bool b8,.slice B8 m8 d8,.slice E8 u8 v8],.bool true]),(62,.tuple #[.agg #[.bool b8,.slice B8 m8 d8,.slice E8 u8 v8],.bool true]),(68,.agg #[.bool b8,.slice B8 m8 d8,.slice E8 u8 v8]),(69,.bool true),(10,.pointer (some ⟨ad8,0,none⟩)),(11,.bool true)] rfl (by
  intro p hp
  simp only [List.mem_cons,List.not_mem_nil,or_false] at hp
  rcases hp with rfl | rfl | rfl | rfl | rfl | rfl | rfl
  ·exact rv2
  ·exact rv4
  ·exact rv5
  ·exact rv6
  ·exact rv7
  ·exact rv8
  ·exact rv10)
 have hBv:=hBi.out
 clear hl hBi HKp qf2 qf4 qf5 qf6 qf7 qf10 qf8 qd4_2 qd5_4 qd6_5 qd7_5 qd9_4 qd9_6 qd9_8 qd10_7 qd10_9 rv2 rv4 rv5 rv6 rv7 rv8 rv10
 have hk8 : Blk wm4 ad8 33 #[.bool b8,.slice B8 m8 d8,.slice E8 u8 v8]:=hk8
 rw [show due #[true,true,true,true,true,true,true,true,true,true,true] = 0 from rfl]
 simp only [zcl,List.foldl,Act.put,List.setIfInBounds_toArray,List.set_cons_zero,List.set_cons_succ]
 refine wpAnyH_done (by kernel_rfl) ?_ _
 refine NoPanic.normal ?_
 have lt2_m4:=World.block_lt_of_cell? _ _ g2
 dsimp only at lt2_m4
 have lt6_m4:=World.block_lt_of_cell? _ _ g6
 dsimp only at lt6_m4
 have ltby0_m4:=World.block_lt_of_cell? _ _ gby0
 dsimp only at ltby0_m4
 have hB:=zac hB hBv
 have gby0:=zad hBv gby0
 have HN3:=lh9 (HN3.out.below hBv)
 have k1:=zae hBv k1
 have g2:=zad hBv g2
 have k4:=zae hBv k4
 have k2:=zae hBv k2
 have HN5:=lh9 (HN5.out.below hBv)
 have g6:=zad hBv g6
 have k6:=zae hBv k6
 obtain ⟨ad8_9,hga⟩ : ∃ x,x = ad8:=⟨_,rfl⟩
 subst hga
 obtain ⟨g9,e9,i9⟩:=hk8.c3
 have HN7:=lh9 hw7
 have HN8:=lh9 hw8
 clear hBv hk8 hw7 hw8 GG
 clear C0 C1
 go_wp2_with fail
 have C0:=lh9 (fun w' (h : Below wm4.heap.size wm4 w') => zdN (v:=0) (rfl) (zcc ((0 : Rat)) b8 B8 m8 d8 E8 u8 v8 w' (HT.out _ (zac hB h)) (HN8.out.below h) (szq HZ8 HN8.out)))
 have hBw:=(Below.refl wm4.heap.size wm4).drew
 refine rg (csc g9 (csc e9 (csc i9 (csc gby0 csn)))) (fun hHeld => ?_)
 refine tk 0 ?_
 refine tk 1 ?_
 refine tk 2 ?_
 refine tk 4 ?_
 refine tk 5 ?_
 refine tk 6 ?_
 refine rc 3 (fun K hK => ?_)
 go_simp
 go_at_call 43; (with_reducible refine (C0.out _ hBw).mono ?_); rintro e wa5 ⟨rfl,hb⟩; have hBw:=zac hBw hb; refine hK.out _ _ (Cs.below hHeld hb) (fun hHeld => ?_); clear hK K hb
 try simp only [sb9]
 refine tk 7 ?_
 refine tk 8 ?_
 refine rdn ?_
 have hB:=zac hB hBw
 have gby0:=zad hBw gby0
 have HN3:=lh9 (HN3.out.below hBw)
 have k1:=zae hBw k1
 have g2:=zad hBw g2
 have k4:=zae hBw k4
 have k2:=zae hBw k2
 have HN5:=lh9 (HN5.out.below hBw)
 have g6:=zad hBw g6
 have k6:=zae hBw k6
 have g9:=zad hBw g9
 have e9:=zad hBw e9
 have i9:=zad hBw i9
 have HN7:=lh9 (HN7.out.below hBw)
 have HN8:=lh9 (HN8.out.below hBw)
 clear hBw hHeld C0
 obtain ⟨sc0,sf0,sc1,sf1,sc2,sf2⟩:=st3 k1 (.bool b8) (.slice B8 m8 d8)
 obtain ⟨r0,r1,r2⟩:=(sn3 k1 (.bool b8) (.slice B8 m8 d8) (.slice E8 u8 v8)).c3
 have HG:=lh9 (gd3 (HN8.out) (zeH _) (show (1 : Int) = ((1 : Nat) : Int) from rfl) k1 hB (by omega))
 go_wp2
 refine bodyPost_ret (v:=.tuple #[.agg #[.bool b8,.slice B8 m8 d8,.slice E8 u8 v8],.int .i64 1,.nilIface]) (by simp [results,Tryz.results18,go_sem,r0,r1,r2]) rfl ?_
 exact HG.out
theorem ziT (lb : List Nat) (Baa : oA9) (maa daa : Nat) (w : World) (hT : zam w) (haa : zaB w lb Baa maa daa) (qaa : maa ≤ 2147483648) (h0 : 0 < maa) (hb : lb.getD 0 0 = 1) (he : zax lb 1 ≠ 0) :
  Calls Tryz.prog 18 #[.slice Baa maa daa] w (zbd w (.spot (zax lb 1) zdF 1,0,0)):=by
 have HIC:=lh9 (zbh (T:=zam))
 have HT:=lh9 (fun w' (hb : Below w.heap.size w w') => hT.on hb)
 obtain ⟨K,hKe⟩ : ∃ K,67108864 = K:=⟨_,rfl⟩
 have hKK : K ≤ 67108864:=by omega
 have hK0 : 0 < K:=by omega
 have hK9 : 255 ≤ K:=by omega
 have ef1:=zaH
 have ef2:=zaJ
 have ef3:=zaM
 have ef4:=zaN
 have i0 : ((maa : Int) == 0) = false:=by rw [beq_eq_false_iff_ne]; omega
 have i1 : (0 : Int) < (maa : Int):=by omega
 have HBY:=lh9 haa
 have HE:=lh9 he
 have HNaa:=lh9 (fun w' (b : Below w.heap.size w w') => haa.below b)
 have hlnaa:=haa.len
 have hcpaa:=haa.2.2
 obtain ⟨gb,ob,ib,rfl,hgb,hb0,gby0⟩:=haa.first (by omega)
 have gby0 : w.cell? ⟨gb,ob,ib⟩ = some (.int .u8 1):=by rw [gby0,hb]; rfl
 clear hb0
 clear haa
 clear hT hKe hb he
 go_enter Tryz.func18,Tryz.ntmps18
 have hB:=Below.refl w.heap.size w
 have HN3:=lh9 (zaQ w)
 have HZ3 : Hid (Sz 1 0):=zbK 1
 have kk2:=(zbp w 33 29 81 #[.bool false,.slice none 0 0,.slice none 0 0] #[.slice none 0 0] #[.int .u64 1]).2.2.1
 obtain ⟨bx1,bx2,bx3,bx4,bz⟩:=zbp w 33 29 81 #[.bool false,.slice none 0 0,.slice none 0 0] #[.slice none 0 0] #[.int .u64 1]
 have hB:=zac hB bx1
 have gby0:=zad bx1 gby0
 have HN3:=lh9 (HN3.out.below bx1)
 have k1:=bx2
 have g2:=bx3.c1
 have k4:=bx4
 clear bx1 bx2 bx3 bx4 bz
 go_wp2_with fail
 generalize ((w.alloc (.cells #[.bool false,.slice none 0 0,.slice none 0 0] 33)).alloc (.cells #[.slice none 0 0] 29)).alloc (.cells #[.int .u64 1] 81) = W1 at *
 have k2:=kk2
 clear kk2
 have HZ5 : Hid (Sz (1) (1)):=(by show (1 : Nat) < 18446744073709551616 ^ 1; decide)
 (with_reducible refine (zby _ [1] _ _ 1 (1) k4 rfl rfl (zeG 1 (by decide)) rfl (by decide)).mono ?_)
 rintro e wc2 ⟨B5,m5,d5,rfl,hw5,hb,_⟩
 have hB:=zac hB hb
 have gby0:=zad hb gby0
 have HN3:=lh9 (HN3.out.below hb)
 have k1:=zae hb k1
 have g2:=zad hb g2
 have k4:=zae hb k4
 have k2:=zae hb k2
 have HN5:=lh9 hw5
 clear hb hw5
 have lt1_2 : w.heap.size < wc2.heap.size:=k1.lt
 have lt2_2 : w.heap.size + 1 < wc2.heap.size:=World.block_lt_of_cell? wc2 ⟨w.heap.size + 1,0,none⟩ g2
 have lt4_2 : w.heap.size + 1 + 1 < wc2.heap.size:=k4.lt
 have hq2:=hB.size
 have kk6:=(zaz wc2 29 #[.slice B5 m5 d5]).2.1
 have gmby0_1 : (wc2.alloc (.cells #[.slice B5 m5 d5] 29)).cell? ⟨gb,ob,ib⟩ = some (.int .u8 1):=zal _ (gby0)
 obtain ⟨bx1,bx2,bz⟩:=zaz wc2 29 #[.slice B5 m5 d5]
 have hB:=zac hB bx1
 have gby0:=zad bx1 gby0
 have HN3:=lh9 (HN3.out.below bx1)
 have k1:=zae bx1 k1
 have g2:=zad bx1 g2
 have k4:=zae bx1 k4
 have k2:=zae bx1 k2
 have HN5:=lh9 (HN5.out.below bx1)
 have g6:=bx2.c1
 clear bx1 bx2 bz
 go_wp2_with fail
 clear gmby0_1
 generalize wc2.alloc (.cells #[.slice B5 m5 d5] 29) = W3 at *
 generalize wc2.heap.size = q3 at *
 have k6:=kk6
 clear kk6
 (with_reducible refine (zcz lb 1 1 ({ data:=#[110,117,109,98,101,114] }) (some ⟨gb,ob,ib⟩) maa daa _ (HT.out _ hB) (HNaa.out _ hB) (by omega) (by omega) HE.out rfl).mono ?_)
 rintro e wc4 ⟨et7,ex7,rfl,hw7,hb⟩
 have hB:=zac hB hb
 have gby0:=zad hb gby0
 have HN3:=lh9 (HN3.out.below hb)
 have k1:=zae hb k1
 have g2:=zad hb g2
 have k4:=zae hb k4
 have k2:=zae hb k2
 have HN5:=lh9 (HN5.out.below hb)
 have g6:=zad hb g6
 have k6:=zae hb k6
 have HN7:=lh9 hw7
 clear hb hw7
 obtain ⟨sc0,sf0⟩:=st1 k2
 have kz0:=sn1 k2 (.slice none 0 0)
 have gby0:=zag (q:=⟨w.heap.size + 1,0,none⟩) (.slice none 0 0) (by show gb ≠ w.heap.size + 1; omega) (gby0)
 have HN3:=lh9 (zak HN3.out k2 (NoU.s1 _ _ _) (zaP _ _ (.slice none 0 0)))
 have k1:=Blk.far (p:=⟨w.heap.size + 1,0,none⟩) (k1) (by show w.heap.size ≠ w.heap.size + 1; omega) (.slice none 0 0)
 have k4:=Blk.far (p:=⟨w.heap.size + 1,0,none⟩) (k4) (by show w.heap.size + 1 + 1 ≠ w.heap.size + 1; omega) (.slice none 0 0)
 have HN5:=lh9 (zak HN5.out k2 (NoU.s1 _ _ _) (zaP _ _ (.slice none 0 0)))
 have g6:=zag (q:=⟨w.heap.size + 1,0,none⟩) (.slice none 0 0) (by show q3 ≠ w.heap.size + 1; omega) (g6)
 have k6:=Blk.far (p:=⟨w.heap.size + 1,0,none⟩) (k6) (by show q3 ≠ w.heap.size + 1; omega) (.slice none 0 0)
 have HN7:=lh9 (zdD HN7.out k2 (NoU.s1 _ _ _) (zaP _ _ (.slice none 0 0)))
 have hB:=bl1 (.slice none 0 0) (by show w.heap.size ≤ w.heap.size + 1; omega) hB
 have g2 : (wc4.setCell ⟨w.heap.size + 1,0,none⟩ (.slice none 0 0)).cell? ⟨w.heap.size + 1,0,none⟩ = some (.slice none 0 0):=kz0.cell 0
 have k2:=kz0
 go_upto_region 16 with fail
 clear sc0 sf0 kz0
 generalize wc4.setCell ⟨w.heap.size + 1,0,none⟩ (.slice none 0 0) = W5 at *
 have HN9:=lh9 (zaS W5)
 obtain ⟨sc0,sf0,sc1,sf1,sc2,sf2⟩:=st3 k1 (.bool false) (.slice none 0 0)
 obtain ⟨r0,r1,r2⟩:=(sn3 k1 (.bool false) (.slice none 0 0) (.slice none 0 0)).c3
 have HG:=lh9 (gd3 (HN9.out) (HN7.out) (show (0 : Int) = ((0 : Nat) : Int) from rfl) k1 hB (by omega))
 go_wp2
 refine bodyPost_ret (v:=.tuple #[.agg #[.bool false,.slice none 0 0,.slice none 0 0],.int .i64 0,.iface et7 ex7]) (by simp [results,Tryz.results18,go_sem,r0,r1,r2]) rfl ?_
 exact HG.out
theorem ziU (lb : List Nat) (Baa : oA9) (maa daa : Nat) (w : World) (hT : zam w) (haa : zaB w lb Baa maa daa) (qaa : maa ≤ 2147483648) (h0 : 0 < maa) (hb : lb.getD 0 0 = 1) (he : zax lb 1 = 0) (hk : zbM ((sg9 false (zaj lb 1) : Int) : Rat) = 1) :
  Calls Tryz.prog 18 #[.slice Baa maa daa] w (zbd w (.no,((sg9 false (zaj lb 1) : Int) : Rat),zat lb 1)):=by
 have HIC:=lh9 (zbh (T:=zam))
 have HT:=lh9 (fun w' (hb : Below w.heap.size w w') => hT.on hb)
 obtain ⟨K,hKe⟩ : ∃ K,67108864 = K:=⟨_,rfl⟩
 have hKK : K ≤ 67108864:=by omega
 have hK0 : 0 < K:=by omega
 have hK9 : 255 ≤ K:=by omega
 have ef1:=zaH
 have ef2:=zaJ
 have ef3:=zaM
 have ef4:=zaN
 have i0 : ((maa : Int) == 0) = false:=by rw [beq_eq_false_iff_ne]; omega
 have i1 : (0 : Int) < (maa : Int):=by omega
 have HBY:=lh9 haa
 have HE:=lh9 he
 have HK:=lh9 hk
 have HNaa:=lh9 (fun w' (b : Below w.heap.size w w') => haa.below b)
 have hlnaa:=haa.len
 have hcpaa:=haa.2.2
 obtain ⟨gb,ob,ib,rfl,hgb,hb0,gby0⟩:=haa.first (by omega)
 have gby0 : w.cell? ⟨gb,ob,ib⟩ = some (.int .u8 1):=by rw [gby0,hb]; rfl
 clear hb0
 clear haa
 clear hT hKe hb he hk
 go_enter Tryz.func18,Tryz.ntmps18
 have hB:=Below.refl w.heap.size w
 have HN3:=lh9 (zaQ w)
 have HZ3 : Hid (Sz 1 0):=zbK 1
 have kk2:=(zbp w 33 29 81 #[.bool false,.slice none 0 0,.slice none 0 0] #[.slice none 0 0] #[.int .u64 1]).2.2.1
 obtain ⟨bx1,bx2,bx3,bx4,bz⟩:=zbp w 33 29 81 #[.bool false,.slice none 0 0,.slice none 0 0] #[.slice none 0 0] #[.int .u64 1]
 have hB:=zac hB bx1
 have gby0:=zad bx1 gby0
 have HN3:=lh9 (HN3.out.below bx1)
 have k1:=bx2
 have g2:=bx3.c1
 have k4:=bx4
 clear bx1 bx2 bx3 bx4 bz
 go_wp2_with fail
 generalize ((w.alloc (.cells #[.bool false,.slice none 0 0,.slice none 0 0] 33)).alloc (.cells #[.slice none 0 0] 29)).alloc (.cells #[.int .u64 1] 81) = W1 at *
 have k2:=kk2
 clear kk2
 have HZ5 : Hid (Sz (1) (1)):=(by show (1 : Nat) < 18446744073709551616 ^ 1; decide)
 (with_reducible refine (zby _ [1] _ _ 1 (1) k4 rfl rfl (zeG 1 (by decide)) rfl (by decide)).mono ?_)
 rintro e wc2 ⟨B5,m5,d5,rfl,hw5,hb,_⟩
 have hB:=zac hB hb
 have gby0:=zad hb gby0
 have HN3:=lh9 (HN3.out.below hb)
 have k1:=zae hb k1
 have g2:=zad hb g2
 have k4:=zae hb k4
 have k2:=zae hb k2
 have HN5:=lh9 hw5
 clear hb hw5
 have lt1_2 : w.heap.size < wc2.heap.size:=k1.lt
 have lt2_2 : w.heap.size + 1 < wc2.heap.size:=World.block_lt_of_cell? wc2 ⟨w.heap.size + 1,0,none⟩ g2
 have lt4_2 : w.heap.size + 1 + 1 < wc2.heap.size:=k4.lt
 have hq2:=hB.size
 have kk6:=(zaz wc2 29 #[.slice B5 m5 d5]).2.1
 have gmby0_1 : (wc2.alloc (.cells #[.slice B5 m5 d5] 29)).cell? ⟨gb,ob,ib⟩ = some (.int .u8 1):=zal _ (gby0)
 obtain ⟨bx1,bx2,bz⟩:=zaz wc2 29 #[.slice B5 m5 d5]
 have hB:=zac hB bx1
 have gby0:=zad bx1 gby0
 have HN3:=lh9 (HN3.out.below bx1)
 have k1:=zae bx1 k1
 have g2:=zad bx1 g2
 have k4:=zae bx1 k4
 have k2:=zae bx1 k2
 have HN5:=lh9 (HN5.out.below bx1)
 have g6:=bx2.c1
 clear bx1 bx2 bz
 go_wp2_with fail
 clear gmby0_1
 generalize wc2.alloc (.cells #[.slice B5 m5 d5] 29) = W3 at *
 generalize wc2.heap.size = q3 at *
 have k6:=kk6
 clear kk6
 have HZ7 : Hid (Sz K (zaj lb 1)):=zbq HBY.out hK9
 (with_reducible refine (zaO lb 1 1 ({ data:=#[110,117,109,98,101,114] }) (some ⟨gb,ob,ib⟩) maa daa _ (HT.out _ hB) (HNaa.out _ hB) (by omega) (by omega) HE.out rfl).mono ?_)
 rintro e wc4 ⟨B7,m7,d7,rfl,hw7,hb⟩
 have hB:=zac hB hb
 have gby0:=zad hb gby0
 have HN3:=lh9 (HN3.out.below hb)
 have k1:=zae hb k1
 have g2:=zad hb g2
 have k4:=zae hb k4
 have k2:=zae hb k2
 have HN5:=lh9 (HN5.out.below hb)
 have g6:=zad hb g6
 have k6:=zae hb k6
 have HN7:=lh9 hw7
 clear hb hw7
 obtain ⟨sc0,sf0⟩:=st1 k2
 have kz0:=sn1 k2 (.slice B7 m7 d7)
 have gby0:=zag (q:=⟨w.heap.size + 1,0,none⟩) (.slice B7 m7 d7) (by show gb ≠ w.heap.size + 1; omega) (gby0)
 have HN3:=lh9 (zak HN3.out k2 (NoU.s1 _ _ _) (zaP _ _ (.slice B7 m7 d7)))
 have k1:=Blk.far (p:=⟨w.heap.size + 1,0,none⟩) (k1) (by show w.heap.size ≠ w.heap.size + 1; omega) (.slice B7 m7 d7)
 have k4:=Blk.far (p:=⟨w.heap.size + 1,0,none⟩) (k4) (by show w.heap.size + 1 + 1 ≠ w.heap.size + 1; omega) (.slice B7 m7 d7)
 have HN5:=lh9 (zak HN5.out k2 (NoU.s1 _ _ _) (zaP _ _ (.slice B7 m7 d7)))
 have g6:=zag (q:=⟨w.heap.size + 1,0,none⟩) (.slice B7 m7 d7) (by show q3 ≠ w.heap.size + 1; omega) (g6)
 have k6:=Blk.far (p:=⟨w.heap.size + 1,0,none⟩) (k6) (by show q3 ≠ w.heap.size + 1; omega) (.slice B7 m7 d7)
 have HN7:=lh9 (zak HN7.out k2 (NoU.s1 _ _ _) (zaP _ _ (.slice B7 m7 d7)))
 have hB:=bl1 (.slice B7 m7 d7) (by show w.heap.size ≤ w.heap.size + 1; omega) hB
 have g2 : (wc4.setCell ⟨w.heap.size + 1,0,none⟩ (.slice B7 m7 d7)).cell? ⟨w.heap.size + 1,0,none⟩ = some (.slice B7 m7 d7):=kz0.cell 0
 have k2:=kz0
 go_upto_region 16 with fail
 clear sc0 sf0 kz0
 generalize wc4.setCell ⟨w.heap.size + 1,0,none⟩ (.slice B7 m7 d7) = W5 at *
 go_wp2_with fail
 have HZ8 : Hid (Sz (K) (sg9 false (zaj lb 1)).natAbs):=(by rw [zbJ]; exact HZ7.out)
 have C0:=lh9 (fun w' (h : Below W5.heap.size W5 w') => zgC HIC.out false (zaj lb 1) B7 m7 d7 w' (HT.out _ (zac hB h)) (HN7.out.below h) (szw HZ7 HN7.out))
 have HZ9 : Hid (SzQ (K) (((sg9 false (zaj lb 1) : Int) : Rat))):=SzQ.whole (by rw [zbJ]; exact zbq HBY.out hK9) (by omega)
 have C1:=lh9 (fun w' (h : Below W5.heap.size W5 w') b8 B8 m8 d8 (hw8 : zaE w' (sg9 false (zaj lb 1)) b8 B8 m8 d8) => zcM ((zdc _).1) (decide_eq_true (zdc _).2) (zbO (sg9 false (zaj lb 1)) (1) b8 B8 m8 d8 B5 m5 d5 w' (HT.out _ (zac hB h)) hw8 (HN5.out.below h) (szi HZ8 hw8) (szw HZ5 HN5.out) (by decide)))
 have lt1_m5:=k1.lt
 have lt4_m5:=k4.lt
 have lt2_m5:=k2.lt
 have lt6_m5:=k6.lt
 have GG:=lh9 (fun w' (h : Below W5.heap.size W5 w') => (csc (zad h g2) (csc (zad h g6) csn)))
 refine rgB (fun hHeld => ?_)
 refine tl 0 GG.out ?_
 refine tl 1 GG.out ?_
 refine tl 3 GG.out ?_
 refine zbk (L:=#[true,true,true,true,true,true,true,true,true,true,true])
  (J:=fun a0 l a w' => ∃ (fl2 fl4 fl5 fl6 fl7 fl8 fl9 fl10 b8 : Bool) (B8 : oA9) (m8 d8 : Nat) (b9 : Bool) (B9 : oA9) (m9 d9 : Nat) (E9 : oA9) (u9 v9 ad8 : Nat),l = #[true,true,fl2,true,fl4,fl5,fl6,fl7,fl8,fl9,fl10] ∧ zco [65,67,62,68,69,10,11] a0 a ∧ Hid (Below W5.heap.size W5 w') ∧
    Hid (Gd fl2 (a.tmps.getD 65 undef = .agg #[.bool b8,.slice B8 m8 d8] ∧ zaE w' (sg9 false (zaj lb 1)) b8 B8 m8 d8)) ∧
    Hid (Gd fl4 (a.tmps.getD 67 undef = .tuple #[.agg #[.bool b9,.slice B9 m9 d9,.slice E9 u9 v9],.bool true] ∧ zaF w' (((sg9 false (zaj lb 1) : Int) : Rat)) b9 B9 m9 d9 E9 u9 v9)) ∧
    Hid (Gd fl5 (a.tmps.getD 62 undef = .tuple #[.agg #[.bool b9,.slice B9 m9 d9,.slice E9 u9 v9],.bool true])) ∧
    Hid (Gd fl6 (a.tmps.getD 68 undef = .agg #[.bool b9,.slice B9 m9 d9,.slice E9 u9 v9])) ∧
    Hid (Gd fl7 (a.tmps.getD 69 undef = .bool true)) ∧
    Hid (Gd fl10 (a.tmps.getD 11 undef = .bool true)) ∧
    Hid (Gd fl8 (a.tmps.getD 10 undef = .pointer (some ⟨ad8,0,none⟩) ∧ W5.heap.size ≤ ad8 ∧ Blk w' ad8 33 (bif fl9 then #[.bool b9,.slice B9 m9 d9,.slice E9 u9 v9] else #[.bool false,.slice none 0 0,.slice none 0 0]))) ∧
    Hid (Gd fl4 (fl2 = true)) ∧
    Hid (Gd fl5 (fl4 = true)) ∧
    Hid (Gd fl6 (fl5 = true)) ∧
    Hid (Gd fl7 (fl5 = true)) ∧
    Hid (Gd fl9 (fl4 = true)) ∧
    Hid (Gd fl9 (fl6 = true)) ∧
    Hid (Gd fl9 (fl8 = true)) ∧
    Hid (Gd fl10 (fl7 = true)) ∧
    Hid (Gd fl10 (fl9 = true)))
  (by rfl) ?_ ?_ ?_
 ·exact ⟨false,false,false,false,false,false,false,false,false,none,0,0,false,none,0,0,none,0,0,0,by kernel_rfl,zco.refl _ _,hHeld,Gd.no,Gd.no,Gd.no,Gd.no,Gd.no,Gd.no,Gd.no,Gd.no,Gd.no,Gd.no,Gd.no,Gd.no,Gd.no,Gd.no,Gd.no,Gd.no⟩
 ·intro OPS Ac0 Q0 hO hAs hA
  have RB63 : Ac0.tmps.getD 63 undef = .bool false:=(hA 63 undef).trans (by kernel_rfl)
  have RB64 : Ac0.tmps.getD 64 undef = .agg #[.slice B7 m7 d7]:=(hA 64 undef).trans (by kernel_rfl)
  have RB66 : Ac0.tmps.getD 66 undef = .agg #[.slice B5 m5 d5]:=(hA 66 undef).trans (by kernel_rfl)
  have hsz : Ac0.tmps.size = 83:=hAs.trans (by kernel_rfl)
  clear hAs hA
  refine ⟨?_,?_⟩
  ·rintro l a w' ⟨fl2,fl4,fl5,fl6,fl7,fl8,fl9,fl10,b8,B8,m8,d8,b9,B9,m9,d9,E9,u9,v9,ad8,rfl,-⟩ hr
   obtain rfl : fl2 = true:=als 2 hr hO
   obtain rfl : fl4 = true:=als 4 hr hO
   obtain rfl : fl5 = true:=als 5 hr hO
   obtain rfl : fl6 = true:=als 6 hr hO
   obtain rfl : fl7 = true:=als 7 hr hO
   obtain rfl : fl8 = true:=als 8 hr hO
   obtain rfl : fl9 = true:=als 9 hr hO
   obtain rfl : fl10 = true:=als 10 hr hO
   rfl
  ·rintro l a w' i ⟨fl2,fl4,fl5,fl6,fl7,fl8,fl9,fl10,b8,B8,m8,d8,b9,B9,m9,d9,E9,u9,v9,ad8,rfl,HKp,hBi,qf2,qf4,qf5,qf6,qf7,qf10,qf8,qd4_2,qd5_4,qd6_5,qd7_5,qd9_4,qd9_6,qd9_8,qd10_7,qd10_9⟩ hne hi
   have hlt : i < 11:=by have:=zcf hi; rw [hO] at this; exact this
   rcases (show i = 0 ∨ i = 1 ∨ i = 2 ∨ i = 3 ∨ i = 4 ∨ i = 5 ∨ i = 6 ∨ i = 7 ∨ i = 8 ∨ i = 9 ∨ i = 10 by omega) with rfl | rfl | rfl | rfl | rfl | rfl | rfl | rfl | rfl | rfl | rfl
   ·cases (zah hi : true = false)
   ·cases (zah hi : true = false)
   ·obtain rfl : fl2 = false:=zah hi
    obtain rfl : fl4 = false:=Gd.off qd4_2.out
    obtain rfl : fl5 = false:=Gd.off qd5_4.out
    obtain rfl : fl6 = false:=Gd.off qd6_5.out
    obtain rfl : fl7 = false:=Gd.off qd7_5.out
    obtain rfl : fl9 = false:=Gd.off qd9_4.out
    obtain rfl : fl10 = false:=Gd.off qd10_7.out
    have rd63:=HKp.get 63 (by decide) RB63
    have rd64:=HKp.get 64 (by decide) RB64
    refine wog hO (fun K' hK => ?_)
    go_simp
    refine (C0.out w' hBi.out).mono ?_
    rintro e w2 ⟨nb8,nB8,nm8,nd8,rfl,nhw8,hb⟩
    exact hK.out _ _ ⟨zac hBi.out hb,true,false,false,false,false,fl8,false,false,nb8,nB8,nm8,nd8,b9,B9,m9,d9,E9,u9,v9,ad8,by rfl,HKp.put (by decide) _,zac hBi.out hb,Gd.yes ⟨zaA (HKp.lt (by rw [hsz]; decide)) _,nhw8⟩,Gd.no,Gd.no,Gd.no,Gd.no,Gd.no,kq qf8.out fun h => ⟨h.1,zae hb h.2⟩,Gd.no,Gd.no,Gd.no,Gd.no,Gd.no,Gd.no,Gd.no,Gd.no,Gd.no⟩
   ·cases (zah hi : true = false)
   ·obtain rfl : fl4 = false:=zah hi
    obtain rfl : fl2 = true:=rdp 2 0 hi hO
    obtain rfl : fl5 = false:=Gd.off qd5_4.out
    obtain rfl : fl6 = false:=Gd.off qd6_5.out
    obtain rfl : fl7 = false:=Gd.off qd7_5.out
    obtain rfl : fl9 = false:=Gd.off qd9_4.out
    obtain rfl : fl10 = false:=Gd.off qd10_7.out
    have rd65:=qf2.out.get.1
    have rd66:=HKp.get 66 (by decide) RB66
    have hw8:=qf2.out.get.2
    refine wog hO (fun K' hK => ?_)
    go_simp
    refine (C1.out w' hBi.out _ _ _ _ hw8).mono ?_
    rintro e w2 ⟨nb9,nB9,nm9,nd9,nE9,nu9,nv9,rfl,nhw9,hb⟩
    exact hK.out _ _ ⟨zac hBi.out hb,true,true,false,false,false,fl8,false,false,b8,B8,m8,d8,nb9,nB9,nm9,nd9,nE9,nu9,nv9,ad8,by rfl,HKp.put (by decide) _,zac hBi.out hb,kq qf2.out fun h => (h).below hb,Gd.yes ⟨zaA (HKp.lt (by rw [hsz]; decide)) _,nhw9⟩,Gd.no,Gd.no,Gd.no,Gd.no,kq qf8.out fun h => ⟨h.1,zae hb h.2⟩,fun _ => rfl,Gd.no,Gd.no,Gd.no,Gd.no,Gd.no,Gd.no,Gd.no,Gd.no⟩
   ·obtain rfl : fl5 = false:=zah hi
    obtain rfl : fl4 = true:=rdp 4 0 hi hO
    obtain rfl : fl2 = true:=qd4_2.out.get
    obtain rfl : fl6 = false:=Gd.off qd6_5.out
    obtain rfl : fl7 = false:=Gd.off qd7_5.out
    obtain rfl : fl9 = false:=Gd.off qd9_6.out
    obtain rfl : fl10 = false:=Gd.off qd10_7.out
    have rd67:=qf4.out.get.1
    refine wog hO (fun K' hK => ?_)
    refine zaX (x:=67) (Or.inl rfl) rd67 ?_
    exact hK.out _ _ ⟨hBi.out,true,true,true,false,false,fl8,false,false,b8,B8,m8,d8,b9,B9,m9,d9,E9,u9,v9,ad8,by rfl,HKp.put (by decide) _,hBi.out,kq qf2.out fun h => (h),kq qf4.out fun h => (h),Gd.yes (zaA (HKp.lt (by rw [hsz]; decide)) _),Gd.no,Gd.no,Gd.no,kq qf8.out id,fun _ => rfl,fun _ => rfl,Gd.no,Gd.no,Gd.no,Gd.no,Gd.no,Gd.no,Gd.no⟩
   ·obtain rfl : fl6 = false:=zah hi
    obtain rfl : fl5 = true:=rdp 5 0 hi hO
    obtain rfl : fl4 = true:=qd5_4.out.get
    obtain rfl : fl2 = true:=qd4_2.out.get
    obtain rfl : fl9 = false:=Gd.off qd9_6.out
    obtain rfl : fl10 = false:=Gd.off qd10_9.out
    have rd62:=qf5.out.get
    refine wog hO (fun K' hK => ?_)
    refine zaD (x:=62) (k:=0) rfl rd62 rfl ?_
    exact hK.out _ _ ⟨hBi.out,true,true,true,true,fl7,fl8,false,false,b8,B8,m8,d8,b9,B9,m9,d9,E9,u9,v9,ad8,by rfl,HKp.put (by decide) _,hBi.out,kq qf2.out fun h => (h),kq qf4.out fun h => (h),kq0 qf5.out,Gd.yes (zaA (HKp.lt (by rw [hsz]; decide)) _),kq0 qf7.out,Gd.no,kq qf8.out id,fun _ => rfl,fun _ => rfl,fun _ => rfl,fun _ => rfl,Gd.no,Gd.no,Gd.no,Gd.no,Gd.no⟩
   ·obtain rfl : fl7 = false:=zah hi
    obtain rfl : fl5 = true:=rdp 5 0 hi hO
    obtain rfl : fl4 = true:=qd5_4.out.get
    obtain rfl : fl2 = true:=qd4_2.out.get
    obtain rfl : fl10 = false:=Gd.off qd10_7.out
    have rd62:=qf5.out.get
    refine wog hO (fun K' hK => ?_)
    refine zaD (x:=62) (k:=1) rfl rd62 rfl ?_
    exact hK.out _ _ ⟨hBi.out,true,true,true,fl6,true,fl8,fl9,false,b8,B8,m8,d8,b9,B9,m9,d9,E9,u9,v9,ad8,by rfl,HKp.put (by decide) _,hBi.out,kq qf2.out fun h => (h),kq qf4.out fun h => (h),kq0 qf5.out,kq0 qf6.out,Gd.yes (zaA (HKp.lt (by rw [hsz]; decide)) _),Gd.no,kq qf8.out id,fun _ => rfl,fun _ => rfl,fun _ => rfl,fun _ => rfl,fun _ => rfl,qd9_6,qd9_8,Gd.no,Gd.no⟩
   ·obtain rfl : fl8 = false:=zah hi
    obtain rfl : fl9 = false:=Gd.off qd9_8.out
    obtain rfl : fl10 = false:=Gd.off qd10_9.out
    refine wog hO (fun K' hK => ?_)
    go_simp
    have hb:=zbH w' (.cells #[.bool false,.slice none 0 0,.slice none 0 0] 33)
    exact hK.out _ _ ⟨zac hBi.out hb,fl2,fl4,fl5,fl6,fl7,true,false,false,b8,B8,m8,d8,b9,B9,m9,d9,E9,u9,v9,w'.heap.size,by rfl,HKp.put (by decide) _,zac hBi.out hb,kq qf2.out fun h => (h).below hb,kq qf4.out fun h => (h).below hb,kq0 qf5.out,kq0 qf6.out,kq0 qf7.out,Gd.no,Gd.yes ⟨zaA (HKp.lt (by rw [hsz]; decide)) _,hBi.out.size,Blk.new w' _ _⟩,qd4_2,qd5_4,qd6_5,qd7_5,Gd.no,Gd.no,Gd.no,Gd.no,Gd.no⟩
   ·obtain rfl : fl9 = false:=zah hi
    obtain rfl : fl2 = true:=rdp 2 5 hi hO
    obtain rfl : fl4 = true:=rdp 4 2 hi hO
    obtain rfl : fl5 = true:=rdp 5 8 hi hO
    obtain rfl : fl6 = true:=rdp 6 1 hi hO
    obtain rfl : fl8 = true:=rdp 8 0 hi hO
    obtain rfl : fl10 = false:=Gd.off qd10_9.out
    have rd10:=qf8.out.get.1
    have rd68:=qf6.out.get
    obtain ⟨_,hg,hk⟩:=qf8.out.get
    have hk : Blk w' ad8 33 #[.bool false,.slice none 0 0,.slice none 0 0]:=hk
    obtain ⟨sc0,sf0,sc1,sf1,sc2,sf2⟩:=st3 hk (.bool b9) (.slice B9 m9 d9)
    have hj2:=sn3 hk (.bool b9) (.slice B9 m9 d9) (.slice E9 u9 v9)
    have hBn:=bl3 (.bool b9) (.slice B9 m9 d9) (.slice E9 u9 v9) hg hBi.out
    refine wog hO (fun K' hK => ?_)
    go_simp
    exact hK.out _ _ ⟨hBn,true,true,true,true,fl7,true,true,false,b8,B8,m8,d8,b9,B9,m9,d9,E9,u9,v9,ad8,by rfl,HKp,hBn,qf2.out.mono fun h => ⟨h.1,zcx (h.2) hk zdE (zcy _ _ _ _ _)⟩,qf4.out.mono fun h => ⟨h.1,zbF (h.2) hk zdE (zcy _ _ _ _ _)⟩,qf5.out.mono fun h => h,qf6.out.mono fun h => h,qf7.out.mono fun h => h,Gd.no,qf8.out.mono fun h => ⟨h.1,h.2.1,hj2⟩,fun _ => rfl,fun _ => rfl,fun _ => rfl,fun _ => rfl,fun _ => rfl,fun _ => rfl,fun _ => rfl,Gd.no,Gd.no⟩
   ·obtain rfl : fl10 = false:=zah hi
    obtain rfl : fl2 = true:=rdp 2 4 hi hO
    obtain rfl : fl4 = true:=rdp 4 6 hi hO
    obtain rfl : fl5 = true:=rdp 5 7 hi hO
    obtain rfl : fl6 = true:=rdp 6 8 hi hO
    obtain rfl : fl7 = true:=rdp 7 0 hi hO
    obtain rfl : fl8 = true:=rdp 8 10 hi hO
    obtain rfl : fl9 = true:=rdp 9 1 hi hO
    have rd69:=qf7.out.get
    refine wog hO (fun K' hK => ?_)
    refine zaX (x:=69) (Or.inr rfl) rd69 ?_
    exact hK.out _ _ ⟨hBi.out,true,true,true,true,true,true,true,true,b8,B8,m8,d8,b9,B9,m9,d9,E9,u9,v9,ad8,by rfl,HKp.put (by decide) _,hBi.out,kq qf2.out fun h => (h),kq qf4.out fun h => (h),kq0 qf5.out,kq0 qf6.out,kq0 qf7.out,Gd.yes (zaA (HKp.lt (by rw [hsz]; decide)) _),kq qf8.out id,fun _ => rfl,fun _ => rfl,fun _ => rfl,fun _ => rfl,fun _ => rfl,fun _ => rfl,fun _ => rfl,fun _ => rfl,fun _ => rfl⟩
 rintro a wm6 ⟨fl2,fl4,fl5,fl6,fl7,fl8,fl9,fl10,b8,B8,m8,d8,b9,B9,m9,d9,E9,u9,v9,ad8,hl,HKp,hBi,qf2,qf4,qf5,qf6,qf7,qf10,qf8,qd4_2,qd5_4,qd6_5,qd7_5,qd9_4,qd9_6,qd9_8,qd10_7,qd10_9⟩
 have xx2 : fl2 = true:=gdl 2 hl
 subst xx2
 have xx4 : fl4 = true:=gdl 4 hl
 subst xx4
 have xx5 : fl5 = true:=gdl 5 hl
 subst xx5
 have xx6 : fl6 = true:=gdl 6 hl
 subst xx6
 have xx7 : fl7 = true:=gdl 7 hl
 subst xx7
 have xx8 : fl8 = true:=gdl 8 hl
 subst xx8
 have xx9 : fl9 = true:=gdl 9 hl
 subst xx9
 have xx10 : fl10 = true:=gdl 10 hl
 subst xx10
 obtain ⟨rv2,hw8⟩:=qf2.out.get
 obtain ⟨rv4,hw9⟩:=qf4.out.get
 have rv5:=qf5.out.get
 have rv6:=qf6.out.get
 have rv7:=qf7.out.get
 have rv10:=qf10.out.get
 obtain ⟨rv8,hg8,hk8⟩:=qf8.out.get
 obtain rfl:=HKp.eq [(65,.agg #[.bool b8,.slice B8 m8 d8]),(67,.tuple #[.agg #[.bool b9,.slice B9 m9 d9,.slice E9 u9 v9],.bool true]),(62,.tuple #[.agg #[.bool b9,.slice B9 m9 d9,.slice E9 u9 v9],.bool true]),(68,.agg #[.bool b9,.slice B9 m9 d9,.slice E9 u9 v9]),(69,.bool true),(10,.pointer (some ⟨ad8,0,none⟩)),(11,.bool true)] rfl (by
  intro p hp
  simp only [List.mem_cons,List.not_mem_nil,or_false] at hp
  rcases hp with rfl | rfl | rfl | rfl | rfl | rfl | rfl
  ·exact rv2
  ·exact rv4
  ·exact rv5
  ·exact rv6
  ·exact rv7
  ·exact rv8
  ·exact rv10)
 have hBv:=hBi.out
 clear hl hBi HKp qf2 qf4 qf5 qf6 qf7 qf10 qf8 qd4_2 qd5_4 qd6_5 qd7_5 qd9_4 qd9_6 qd9_8 qd10_7 qd10_9 rv2 rv4 rv5 rv6 rv7 rv8 rv10
 have hk8 : Blk wm6 ad8 33 #[.bool b9,.slice B9 m9 d9,.slice E9 u9 v9]:=hk8
 rw [show due #[true,true,true,true,true,true,true,true,true,true,true] = 0 from rfl]
 simp only [zcl,List.foldl,Act.put,List.setIfInBounds_toArray,List.set_cons_zero,List.set_cons_succ]
 refine wpAnyH_done (by kernel_rfl) ?_ _
 refine NoPanic.normal ?_
 have lt2_m6:=World.block_lt_of_cell? _ _ g2
 dsimp only at lt2_m6
 have lt6_m6:=World.block_lt_of_cell? _ _ g6
 dsimp only at lt6_m6
 have ltby0_m6:=World.block_lt_of_cell? _ _ gby0
 dsimp only at ltby0_m6
 have hB:=zac hB hBv
 have gby0:=zad hBv gby0
 have HN3:=lh9 (HN3.out.below hBv)
 have k1:=zae hBv k1
 have k4:=zae hBv k4
 have k2:=zae hBv k2
 have HN5:=lh9 (HN5.out.below hBv)
 have g6:=zad hBv g6
 have k6:=zae hBv k6
 have HN7:=lh9 (HN7.out.below hBv)
 have g2:=zad hBv g2
 obtain ⟨ad8_10,hga⟩ : ∃ x,x = ad8:=⟨_,rfl⟩
 subst hga
 obtain ⟨g10,e10,i10⟩:=hk8.c3
 have HN8:=lh9 hw8
 have HN9:=lh9 hw9
 clear hBv hk8 hw8 hw9 GG
 clear C0 C1
 go_wp2_with fail
 have C0:=lh9 (fun w' (h : Below wm6.heap.size wm6 w') => zdN (v:=1) ((by rw [HK.out]; rfl)) (zcc (((sg9 false (zaj lb 1) : Int) : Rat)) b9 B9 m9 d9 E9 u9 v9 w' (HT.out _ (zac hB h)) (HN9.out.below h) (szq HZ9 HN9.out)))
 have hBw:=(Below.refl wm6.heap.size wm6).drew
 refine rg (csc g10 (csc e10 (csc i10 (csc gby0 csn)))) (fun hHeld => ?_)
 refine tk 0 ?_
 refine tk 1 ?_
 refine tk 2 ?_
 refine tk 4 ?_
 refine tk 5 ?_
 refine tk 6 ?_
 refine rc 3 (fun K hK => ?_)
 go_simp
 go_at_call 43; (with_reducible refine (C0.out _ hBw).mono ?_); rintro e wa7 ⟨rfl,hb⟩; have hBw:=zac hBw hb; refine hK.out _ _ (Cs.below hHeld hb) (fun hHeld => ?_); clear hK K hb
 try simp only [sb9]
 refine tk 7 ?_
 refine tk 8 ?_
 refine rdn ?_
 have hB:=zac hB hBw
 have gby0:=zad hBw gby0
 have HN3:=lh9 (HN3.out.below hBw)
 have k1:=zae hBw k1
 have k4:=zae hBw k4
 have k2:=zae hBw k2
 have HN5:=lh9 (HN5.out.below hBw)
 have g6:=zad hBw g6
 have k6:=zae hBw k6
 have HN7:=lh9 (HN7.out.below hBw)
 have g2:=zad hBw g2
 have g10:=zad hBw g10
 have e10:=zad hBw e10
 have i10:=zad hBw i10
 have HN8:=lh9 (HN8.out.below hBw)
 have HN9:=lh9 (HN9.out.below hBw)
 clear hBw hHeld C0
 obtain ⟨sc0,sf0,sc1,sf1,sc2,sf2⟩:=st3 k1 (.bool b9) (.slice B9 m9 d9)
 obtain ⟨r0,r1,r2⟩:=(sn3 k1 (.bool b9) (.slice B9 m9 d9) (.slice E9 u9 v9)).c3
 have HG:=lh9 (gd3 (HN9.out) (zeH _) (show ((zat lb 1 : Nat) : Int) = ((zat lb 1 : Nat) : Int) from rfl) k1 hB (by omega))
 go_wp2
 refine bodyPost_ret (v:=.tuple #[.agg #[.bool b9,.slice B9 m9 d9,.slice E9 u9 v9],.int .i64 ((zat lb 1 : Nat) : Int),.nilIface]) (by simp [results,Tryz.results18,go_sem,r0,r1,r2]) rfl ?_
 exact HG.out
theorem ziV (lb : List Nat) (Baa : oA9) (maa daa : Nat) (w : World) (hT : zam w) (haa : zaB w lb Baa maa daa) (qaa : maa ≤ 2147483648) (h0 : 0 < maa) (hb : lb.getD 0 0 = 2) (he : zax lb 1 ≠ 0) :
  Calls Tryz.prog 18 #[.slice Baa maa daa] w (zbd w (.spot (zax lb 1) zdF 1,0,0)):=by
 have HIC:=lh9 (zbh (T:=zam))
 have HT:=lh9 (fun w' (hb : Below w.heap.size w w') => hT.on hb)
 obtain ⟨K,hKe⟩ : ∃ K,67108864 = K:=⟨_,rfl⟩
 have hKK : K ≤ 67108864:=by omega
 have hK0 : 0 < K:=by omega
 have hK9 : 255 ≤ K:=by omega
 have ef1:=zaH
 have ef2:=zaJ
 have ef3:=zaM
 have ef4:=zaN
 have i0 : ((maa : Int) == 0) = false:=by rw [beq_eq_false_iff_ne]; omega
 have i1 : (0 : Int) < (maa : Int):=by omega
 have HBY:=lh9 haa
 have HE:=lh9 he
 have HNaa:=lh9 (fun w' (b : Below w.heap.size w w') => haa.below b)
 have hlnaa:=haa.len
 have hcpaa:=haa.2.2
 obtain ⟨gb,ob,ib,rfl,hgb,hb0,gby0⟩:=haa.first (by omega)
 have gby0 : w.cell? ⟨gb,ob,ib⟩ = some (.int .u8 2):=by rw [gby0,hb]; rfl
 clear hb0
 clear haa
 clear hT hKe hb he
 go_enter Tryz.func18,Tryz.ntmps18
 have hB:=Below.refl w.heap.size w
 have HN3:=lh9 (zaQ w)
 have HZ3 : Hid (Sz 1 0):=zbK 1
 have kk2:=(zbp w 33 29 81 #[.bool false,.slice none 0 0,.slice none 0 0] #[.slice none 0 0] #[.int .u64 1]).2.2.1
 obtain ⟨bx1,bx2,bx3,bx4,bz⟩:=zbp w 33 29 81 #[.bool false,.slice none 0 0,.slice none 0 0] #[.slice none 0 0] #[.int .u64 1]
 have hB:=zac hB bx1
 have gby0:=zad bx1 gby0
 have HN3:=lh9 (HN3.out.below bx1)
 have k1:=bx2
 have g2:=bx3.c1
 have k4:=bx4
 clear bx1 bx2 bx3 bx4 bz
 go_wp2_with fail
 generalize ((w.alloc (.cells #[.bool false,.slice none 0 0,.slice none 0 0] 33)).alloc (.cells #[.slice none 0 0] 29)).alloc (.cells #[.int .u64 1] 81) = W1 at *
 have k2:=kk2
 clear kk2
 have HZ5 : Hid (Sz (1) (1)):=(by show (1 : Nat) < 18446744073709551616 ^ 1; decide)
 (with_reducible refine (zby _ [1] _ _ 1 (1) k4 rfl rfl (zeG 1 (by decide)) rfl (by decide)).mono ?_)
 rintro e wc2 ⟨B5,m5,d5,rfl,hw5,hb,_⟩
 have hB:=zac hB hb
 have gby0:=zad hb gby0
 have HN3:=lh9 (HN3.out.below hb)
 have k1:=zae hb k1
 have g2:=zad hb g2
 have k4:=zae hb k4
 have k2:=zae hb k2
 have HN5:=lh9 hw5
 clear hb hw5
 have lt1_2 : w.heap.size < wc2.heap.size:=k1.lt
 have lt2_2 : w.heap.size + 1 < wc2.heap.size:=World.block_lt_of_cell? wc2 ⟨w.heap.size + 1,0,none⟩ g2
 have lt4_2 : w.heap.size + 1 + 1 < wc2.heap.size:=k4.lt
 have hq2:=hB.size
 have kk6:=(zaz wc2 29 #[.slice B5 m5 d5]).2.1
 have gmby0_1 : (wc2.alloc (.cells #[.slice B5 m5 d5] 29)).cell? ⟨gb,ob,ib⟩ = some (.int .u8 2):=zal _ (gby0)
 obtain ⟨bx1,bx2,bz⟩:=zaz wc2 29 #[.slice B5 m5 d5]
 have hB:=zac hB bx1
 have gby0:=zad bx1 gby0
 have HN3:=lh9 (HN3.out.below bx1)
 have k1:=zae bx1 k1
 have g2:=zad bx1 g2
 have k4:=zae bx1 k4
 have k2:=zae bx1 k2
 have HN5:=lh9 (HN5.out.below bx1)
 have g6:=bx2.c1
 clear bx1 bx2 bz
 go_wp2_with fail
 clear gmby0_1
 generalize wc2.alloc (.cells #[.slice B5 m5 d5] 29) = W3 at *
 generalize wc2.heap.size = q3 at *
 have k6:=kk6
 clear kk6
 (with_reducible refine (zcz lb 1 1 ({ data:=#[110,117,109,98,101,114] }) (some ⟨gb,ob,ib⟩) maa daa _ (HT.out _ hB) (HNaa.out _ hB) (by omega) (by omega) HE.out rfl).mono ?_)
 rintro e wc4 ⟨et7,ex7,rfl,hw7,hb⟩
 have hB:=zac hB hb
 have gby0:=zad hb gby0
 have HN3:=lh9 (HN3.out.below hb)
 have k1:=zae hb k1
 have g2:=zad hb g2
 have k4:=zae hb k4
 have k2:=zae hb k2
 have HN5:=lh9 (HN5.out.below hb)
 have g6:=zad hb g6
 have k6:=zae hb k6
 have HN7:=lh9 hw7
 clear hb hw7
 obtain ⟨sc0,sf0⟩:=st1 k2
 have kz0:=sn1 k2 (.slice none 0 0)
 have gby0:=zag (q:=⟨w.heap.size + 1,0,none⟩) (.slice none 0 0) (by show gb ≠ w.heap.size + 1; omega) (gby0)
 have HN3:=lh9 (zak HN3.out k2 (NoU.s1 _ _ _) (zaP _ _ (.slice none 0 0)))
 have k1:=Blk.far (p:=⟨w.heap.size + 1,0,none⟩) (k1) (by show w.heap.size ≠ w.heap.size + 1; omega) (.slice none 0 0)
 have k4:=Blk.far (p:=⟨w.heap.size + 1,0,none⟩) (k4) (by show w.heap.size + 1 + 1 ≠ w.heap.size + 1; omega) (.slice none 0 0)
 have HN5:=lh9 (zak HN5.out k2 (NoU.s1 _ _ _) (zaP _ _ (.slice none 0 0)))
 have g6:=zag (q:=⟨w.heap.size + 1,0,none⟩) (.slice none 0 0) (by show q3 ≠ w.heap.size + 1; omega) (g6)
 have k6:=Blk.far (p:=⟨w.heap.size + 1,0,none⟩) (k6) (by show q3 ≠ w.heap.size + 1; omega) (.slice none 0 0)
 have HN7:=lh9 (zdD HN7.out k2 (NoU.s1 _ _ _) (zaP _ _ (.slice none 0 0)))
 have hB:=bl1 (.slice none 0 0) (by show w.heap.size ≤ w.heap.size + 1; omega) hB
 have g2 : (wc4.setCell ⟨w.heap.size + 1,0,none⟩ (.slice none 0 0)).cell? ⟨w.heap.size + 1,0,none⟩ = some (.slice none 0 0):=kz0.cell 0
 have k2:=kz0
 go_upto_region 16 with fail
 clear sc0 sf0 kz0
 generalize wc4.setCell ⟨w.heap.size + 1,0,none⟩ (.slice none 0 0) = W5 at *
 have HN9:=lh9 (zaS W5)
 obtain ⟨sc0,sf0,sc1,sf1,sc2,sf2⟩:=st3 k1 (.bool false) (.slice none 0 0)
 obtain ⟨r0,r1,r2⟩:=(sn3 k1 (.bool false) (.slice none 0 0) (.slice none 0 0)).c3
 have HG:=lh9 (gd3 (HN9.out) (HN7.out) (show (0 : Int) = ((0 : Nat) : Int) from rfl) k1 hB (by omega))
 go_wp2
 refine bodyPost_ret (v:=.tuple #[.agg #[.bool false,.slice none 0 0,.slice none 0 0],.int .i64 0,.iface et7 ex7]) (by simp [results,Tryz.results18,go_sem,r0,r1,r2]) rfl ?_
 exact HG.out
theorem ziW (lb : List Nat) (Baa : oA9) (maa daa : Nat) (w : World) (hT : zam w) (haa : zaB w lb Baa maa daa) (qaa : maa ≤ 2147483648) (h0 : 0 < maa) (hb : lb.getD 0 0 = 2) (he : zax lb 1 = 0) (hk : zbM ((sg9 true (zaj lb 1) : Int) : Rat) = 2) :
  Calls Tryz.prog 18 #[.slice Baa maa daa] w (zbd w (.no,((sg9 true (zaj lb 1) : Int) : Rat),zat lb 1)):=by
 have HIC:=lh9 (zbh (T:=zam))
 have HT:=lh9 (fun w' (hb : Below w.heap.size w w') => hT.on hb)
 obtain ⟨K,hKe⟩ : ∃ K,67108864 = K:=⟨_,rfl⟩
 have hKK : K ≤ 67108864:=by omega
 have hK0 : 0 < K:=by omega
 have hK9 : 255 ≤ K:=by omega
 have ef1:=zaH
 have ef2:=zaJ
 have ef3:=zaM
 have ef4:=zaN
 have i0 : ((maa : Int) == 0) = false:=by rw [beq_eq_false_iff_ne]; omega
 have i1 : (0 : Int) < (maa : Int):=by omega
 have HBY:=lh9 haa
 have HE:=lh9 he
 have HK:=lh9 hk
 have HNaa:=lh9 (fun w' (b : Below w.heap.size w w') => haa.below b)
 have hlnaa:=haa.len
 have hcpaa:=haa.2.2
 obtain ⟨gb,ob,ib,rfl,hgb,hb0,gby0⟩:=haa.first (by omega)
 have gby0 : w.cell? ⟨gb,ob,ib⟩ = some (.int .u8 2):=by rw [gby0,hb]; rfl
 clear hb0
 clear haa
 clear hT hKe hb he hk
 go_enter Tryz.func18,Tryz.ntmps18
 have hB:=Below.refl w.heap.size w
 have HN3:=lh9 (zaQ w)
 have HZ3 : Hid (Sz 1 0):=zbK 1
 have kk2:=(zbp w 33 29 81 #[.bool false,.slice none 0 0,.slice none 0 0] #[.slice none 0 0] #[.int .u64 1]).2.2.1
 obtain ⟨bx1,bx2,bx3,bx4,bz⟩:=zbp w 33 29 81 #[.bool false,.slice none 0 0,.slice none 0 0] #[.slice none 0 0] #[.int .u64 1]
 have hB:=zac hB bx1
 have gby0:=zad bx1 gby0
 have HN3:=lh9 (HN3.out.below bx1)
 have k1:=bx2
 have g2:=bx3.c1
 have k4:=bx4
 clear bx1 bx2 bx3 bx4 bz
 go_wp2_with fail
 generalize ((w.alloc (.cells #[.bool false,.slice none 0 0,.slice none 0 0] 33)).alloc (.cells #[.slice none 0 0] 29)).alloc (.cells #[.int .u64 1] 81) = W1 at *
 have k2:=kk2
 clear kk2
 have HZ5 : Hid (Sz (1) (1)):=(by show (1 : Nat) < 18446744073709551616 ^ 1; decide)
 (with_reducible refine (zby _ [1] _ _ 1 (1) k4 rfl rfl (zeG 1 (by decide)) rfl (by decide)).mono ?_)
 rintro e wc2 ⟨B5,m5,d5,rfl,hw5,hb,_⟩
 have hB:=zac hB hb
 have gby0:=zad hb gby0
 have HN3:=lh9 (HN3.out.below hb)
 have k1:=zae hb k1
 have g2:=zad hb g2
 have k4:=zae hb k4
 have k2:=zae hb k2
 have HN5:=lh9 hw5
 clear hb hw5
 have lt1_2 : w.heap.size < wc2.heap.size:=k1.lt
 have lt2_2 : w.heap.size + 1 < wc2.heap.size:=World.block_lt_of_cell? wc2 ⟨w.heap.size + 1,0,none⟩ g2
 have lt4_2 : w.heap.size + 1 + 1 < wc2.heap.size:=k4.lt
 have hq2:=hB.size
 have kk6:=(zaz wc2 29 #[.slice B5 m5 d5]).2.1
 have gmby0_1 : (wc2.alloc (.cells #[.slice B5 m5 d5] 29)).cell? ⟨gb,ob,ib⟩ = some (.int .u8 2):=zal _ (gby0)
 obtain ⟨bx1,bx2,bz⟩:=zaz wc2 29 #[.slice B5 m5 d5]
 have hB:=zac hB bx1
 have gby0:=zad bx1 gby0
 have HN3:=lh9 (HN3.out.below bx1)
 have k1:=zae bx1 k1
 have g2:=zad bx1 g2
 have k4:=zae bx1 k4
 have k2:=zae bx1 k2
 have HN5:=lh9 (HN5.out.below bx1)
 have g6:=bx2.c1
 clear bx1 bx2 bz
 go_wp2_with fail
 clear gmby0_1
 generalize wc2.alloc (.cells #[.slice B5 m5 d5] 29) = W3 at *
 generalize wc2.heap.size = q3 at *
 have k6:=kk6
 clear kk6
 have HZ7 : Hid (Sz K (zaj lb 1)):=zbq HBY.out hK9
 (with_reducible refine (zaO lb 1 1 ({ data:=#[110,117,109,98,101,114] }) (some ⟨gb,ob,ib⟩) maa daa _ (HT.out _ hB) (HNaa.out _ hB) (by omega) (by omega) HE.out rfl).mono ?_)
 rintro e wc4 ⟨B7,m7,d7,rfl,hw7,hb⟩
 have hB:=zac hB hb
 have gby0:=zad hb gby0
 have HN3:=lh9 (HN3.out.below hb)
 have k1:=zae hb k1
 have g2:=zad hb g2
 have k4:=zae hb k4
 have k2:=zae hb k2
 have HN5:=lh9 (HN5.out.below hb)
 have g6:=zad hb g6
 have k6:=zae hb k6
 have HN7:=lh9 hw7
 clear hb hw7
 obtain ⟨sc0,sf0⟩:=st1 k2
 have kz0:=sn1 k2 (.slice B7 m7 d7)
 have gby0:=zag (q:=⟨w.heap.size + 1,0,none⟩) (.slice B7 m7 d7) (by show gb ≠ w.heap.size + 1; omega) (gby0)
 have HN3:=lh9 (zak HN3.out k2 (NoU.s1 _ _ _) (zaP _ _ (.slice B7 m7 d7)))
 have k1:=Blk.far (p:=⟨w.heap.size + 1,0,none⟩) (k1) (by show w.heap.size ≠ w.heap.size + 1; omega) (.slice B7 m7 d7)
 have k4:=Blk.far (p:=⟨w.heap.size + 1,0,none⟩) (k4) (by show w.heap.size + 1 + 1 ≠ w.heap.size + 1; omega) (.slice B7 m7 d7)
 have HN5:=lh9 (zak HN5.out k2 (NoU.s1 _ _ _) (zaP _ _ (.slice B7 m7 d7)))
 have g6:=zag (q:=⟨w.heap.size + 1,0,none⟩) (.slice B7 m7 d7) (by show q3 ≠ w.heap.size + 1; omega) (g6)
 have k6:=Blk.far (p:=⟨w.heap.size + 1,0,none⟩) (k6) (by show q3 ≠ w.heap.size + 1; omega) (.slice B7 m7 d7)
 have HN7:=lh9 (zak HN7.out k2 (NoU.s1 _ _ _) (zaP _ _ (.slice B7 m7 d7)))
 have hB:=bl1 (.slice B7 m7 d7) (by show w.heap.size ≤ w.heap.size + 1; omega) hB
 have g2 : (wc4.setCell ⟨w.heap.size + 1,0,none⟩ (.slice B7 m7 d7)).cell? ⟨w.heap.size + 1,0,none⟩ = some (.slice B7 m7 d7):=kz0.cell 0
 have k2:=kz0
 go_upto_region 16 with fail
 clear sc0 sf0 kz0
 generalize wc4.setCell ⟨w.heap.size + 1,0,none⟩ (.slice B7 m7 d7) = W5 at *
 go_wp2_with fail
 have HZ8 : Hid (Sz (K) (sg9 true (zaj lb 1)).natAbs):=(by rw [zbJ]; exact HZ7.out)
 have C0:=lh9 (fun w' (h : Below W5.heap.size W5 w') => zgC HIC.out true (zaj lb 1) B7 m7 d7 w' (HT.out _ (zac hB h)) (HN7.out.below h) (szw HZ7 HN7.out))
 have HZ9 : Hid (SzQ (K) (((sg9 true (zaj lb 1) : Int) : Rat))):=SzQ.whole (by rw [zbJ]; exact zbq HBY.out hK9) (by omega)
 have C1:=lh9 (fun w' (h : Below W5.heap.size W5 w') b8 B8 m8 d8 (hw8 : zaE w' (sg9 true (zaj lb 1)) b8 B8 m8 d8) => zcM ((zdc _).1) (decide_eq_true (zdc _).2) (zbO (sg9 true (zaj lb 1)) (1) b8 B8 m8 d8 B5 m5 d5 w' (HT.out _ (zac hB h)) hw8 (HN5.out.below h) (szi HZ8 hw8) (szw HZ5 HN5.out) (by decide)))
 have lt1_m5:=k1.lt
 have lt4_m5:=k4.lt
 have lt2_m5:=k2.lt
 have lt6_m5:=k6.lt
 have GG:=lh9 (fun w' (h : Below W5.heap.size W5 w') => (csc (zad h g2) (csc (zad h g6) csn)))
 refine rgB (fun hHeld => ?_)
 refine tl 0 GG.out ?_
 refine tl 1 GG.out ?_
 refine tl 3 GG.out ?_
 refine zbk (L:=#[true,true,true,true,true,true,true,true,true,true,true])
  (J:=fun a0 l a w' => ∃ (fl2 fl4 fl5 fl6 fl7 fl8 fl9 fl10 b8 : Bool) (B8 : oA9) (m8 d8 : Nat) (b9 : Bool) (B9 : oA9) (m9 d9 : Nat) (E9 : oA9) (u9 v9 ad8 : Nat),l = #[true,true,fl2,true,fl4,fl5,fl6,fl7,fl8,fl9,fl10] ∧ zco [65,67,62,68,69,10,11] a0 a ∧ Hid (Below W5.heap.size W5 w') ∧
    Hid (Gd fl2 (a.tmps.getD 65 undef = .agg #[.bool b8,.slice B8 m8 d8] ∧ zaE w' (sg9 true (zaj lb 1)) b8 B8 m8 d8)) ∧
    Hid (Gd fl4 (a.tmps.getD 67 undef = .tuple #[.agg #[.bool b9,.slice B9 m9 d9,.slice E9 u9 v9],.bool true] ∧ zaF w' (((sg9 true (zaj lb 1) : Int) : Rat)) b9 B9 m9 d9 E9 u9 v9)) ∧
    Hid (Gd fl5 (a.tmps.getD 62 undef = .tuple #[.agg #[.bool b9,.slice B9 m9 d9,.slice E9 u9 v9],.bool true])) ∧
    Hid (Gd fl6 (a.tmps.getD 68 undef = .agg #[.bool b9,.slice B9 m9 d9,.slice E9 u9 v9])) ∧
    Hid (Gd fl7 (a.tmps.getD 69 undef = .bool true)) ∧
    Hid (Gd fl10 (a.tmps.getD 11 undef = .bool true)) ∧
    Hid (Gd fl8 (a.tmps.getD 10 undef = .pointer (some ⟨ad8,0,none⟩) ∧ W5.heap.size ≤ ad8 ∧ Blk w' ad8 33 (bif fl9 then #[.bool b9,.slice B9 m9 d9,.slice E9 u9 v9] else #[.bool false,.slice none 0 0,.slice none 0 0]))) ∧
    Hid (Gd fl4 (fl2 = true)) ∧
    Hid (Gd fl5 (fl4 = true)) ∧
    Hid (Gd fl6 (fl5 = true)) ∧
    Hid (Gd fl7 (fl5 = true)) ∧
    Hid (Gd fl9 (fl4 = true)) ∧
    Hid (Gd fl9 (fl6 = true)) ∧
    Hid (Gd fl9 (fl8 = true)) ∧
    Hid (Gd fl10 (fl7 = true)) ∧
    Hid (Gd fl10 (fl9 = true)))
  (by rfl) ?_ ?_ ?_
 ·exact ⟨false,false,false,false,false,false,false,false,false,none,0,0,false,none,0,0,none,0,0,0,by kernel_rfl,zco.refl _ _,hHeld,Gd.no,Gd.no,Gd.no,Gd.no,Gd.no,Gd.no,Gd.no,Gd.no,Gd.no,Gd.no,Gd.no,Gd.no,Gd.no,Gd.no,Gd.no,Gd.no⟩
 ·intro OPS Ac0 Q0 hO hAs hA
  have RB63 : Ac0.tmps.getD 63 undef = .bool true:=(hA 63 undef).trans (by kernel_rfl)
  have RB64 : Ac0.tmps.getD 64 undef = .agg #[.slice B7 m7 d7]:=(hA 64 undef).trans (by kernel_rfl)
  have RB66 : Ac0.tmps.getD 66 undef = .agg #[.slice B5 m5 d5]:=(hA 66 undef).trans (by kernel_rfl)
  have hsz : Ac0.tmps.size = 83:=hAs.trans (by kernel_rfl)
  clear hAs hA
  refine ⟨?_,?_⟩
  ·rintro l a w' ⟨fl2,fl4,fl5,fl6,fl7,fl8,fl9,fl10,b8,B8,m8,d8,b9,B9,m9,d9,E9,u9,v9,ad8,rfl,-⟩ hr
   obtain rfl : fl2 = true:=als 2 hr hO
   obtain rfl : fl4 = true:=als 4 hr hO
   obtain rfl : fl5 = true:=als 5 hr hO
   obtain rfl : fl6 = true:=als 6 hr hO
   obtain rfl : fl7 = true:=als 7 hr hO
   obtain rfl : fl8 = true:=als 8 hr hO
   obtain rfl : fl9 = true:=als 9 hr hO
   obtain rfl : fl10 = true:=als 10 hr hO
   rfl
  ·rintro l a w' i ⟨fl2,fl4,fl5,fl6,fl7,fl8,fl9,fl10,b8,B8,m8,d8,b9,B9,m9,d9,E9,u9,v9,ad8,rfl,HKp,hBi,qf2,qf4,qf5,qf6,qf7,qf10,qf8,qd4_2,qd5_4,qd6_5,qd7_5,qd9_4,qd9_6,qd9_8,qd10_7,qd10_9⟩ hne hi
   have hlt : i < 11:=by have:=zcf hi; rw [hO] at this; exact this
   rcases (show i = 0 ∨ i = 1 ∨ i = 2 ∨ i = 3 ∨ i = 4 ∨ i = 5 ∨ i = 6 ∨ i = 7 ∨ i = 8 ∨ i = 9 ∨ i = 10 by omega) with rfl | rfl | rfl | rfl | rfl | rfl | rfl | rfl | rfl | rfl | rfl
   ·cases (zah hi : true = false)
   ·cases (zah hi : true = false)
   ·obtain rfl : fl2 = false:=zah hi
    obtain rfl : fl4 = false:=Gd.off qd4_2.out
    obtain rfl : fl5 = false:=Gd.off qd5_4.out
    obtain rfl : fl6 = false:=Gd.off qd6_5.out
    obtain rfl : fl7 = false:=Gd.off qd7_5.out
    obtain rfl : fl9 = false:=Gd.off qd9_4.out
    obtain rfl : fl10 = false:=Gd.off qd10_7.out
    have rd63:=HKp.get 63 (by decide) RB63
    have rd64:=HKp.get 64 (by decide) RB64
    refine wog hO (fun K' hK => ?_)
    go_simp
    refine (C0.out w' hBi.out).mono ?_
    rintro e w2 ⟨nb8,nB8,nm8,nd8,rfl,nhw8,hb⟩
    exact hK.out _ _ ⟨zac hBi.out hb,true,false,false,false,false,fl8,false,false,nb8,nB8,nm8,nd8,b9,B9,m9,d9,E9,u9,v9,ad8,by rfl,HKp.put (by decide) _,zac hBi.out hb,Gd.yes ⟨zaA (HKp.lt (by rw [hsz]; decide)) _,nhw8⟩,Gd.no,Gd.no,Gd.no,Gd.no,Gd.no,kq qf8.out fun h => ⟨h.1,zae hb h.2⟩,Gd.no,Gd.no,Gd.no,Gd.no,Gd.no,Gd.no,Gd.no,Gd.no,Gd.no⟩
   ·cases (zah hi : true = false)
   ·obtain rfl : fl4 = false:=zah hi
    obtain rfl : fl2 = true:=rdp 2 0 hi hO
    obtain rfl : fl5 = false:=Gd.off qd5_4.out
    obtain rfl : fl6 = false:=Gd.off qd6_5.out
    obtain rfl : fl7 = false:=Gd.off qd7_5.out
    obtain rfl : fl9 = false:=Gd.off qd9_4.out
    obtain rfl : fl10 = false:=Gd.off qd10_7.out
    have rd65:=qf2.out.get.1
    have rd66:=HKp.get 66 (by decide) RB66
    have hw8:=qf2.out.get.2
    refine wog hO (fun K' hK => ?_)
    go_simp
    refine (C1.out w' hBi.out _ _ _ _ hw8).mono ?_
    rintro e w2 ⟨nb9,nB9,nm9,nd9,nE9,nu9,nv9,rfl,nhw9,hb⟩
    exact hK.out _ _ ⟨zac hBi.out hb,true,true,false,false,false,fl8,false,false,b8,B8,m8,d8,nb9,nB9,nm9,nd9,nE9,nu9,nv9,ad8,by rfl,HKp.put (by decide) _,zac hBi.out hb,kq qf2.out fun h => (h).below hb,Gd.yes ⟨zaA (HKp.lt (by rw [hsz]; decide)) _,nhw9⟩,Gd.no,Gd.no,Gd.no,Gd.no,kq qf8.out fun h => ⟨h.1,zae hb h.2⟩,fun _ => rfl,Gd.no,Gd.no,Gd.no,Gd.no,Gd.no,Gd.no,Gd.no,Gd.no⟩
   ·obtain rfl : fl5 = false:=zah hi
    obtain rfl : fl4 = true:=rdp 4 0 hi hO
    obtain rfl : fl2 = true:=qd4_2.out.get
    obtain rfl : fl6 = false:=Gd.off qd6_5.out
    obtain rfl : fl7 = false:=Gd.off qd7_5.out
    obtain rfl : fl9 = false:=Gd.off qd9_6.out
    obtain rfl : fl10 = false:=Gd.off qd10_7.out
    have rd67:=qf4.out.get.1
    refine wog hO (fun K' hK => ?_)
    refine zaX (x:=67) (Or.inl rfl) rd67 ?_
    exact hK.out _ _ ⟨hBi.out,true,true,true,false,false,fl8,false,false,b8,B8,m8,d8,b9,B9,m9,d9,E9,u9,v9,ad8,by rfl,HKp.put (by decide) _,hBi.out,kq qf2.out fun h => (h),kq qf4.out fun h => (h),Gd.yes (zaA (HKp.lt (by rw [hsz]; decide)) _),Gd.no,Gd.no,Gd.no,kq qf8.out id,fun _ => rfl,fun _ => rfl,Gd.no,Gd.no,Gd.no,Gd.no,Gd.no,Gd.no,Gd.no⟩
   ·obtain rfl : fl6 = false:=zah hi
    obtain rfl : fl5 = true:=rdp 5 0 hi hO
    obtain rfl : fl4 = true:=qd5_4.out.get
    obtain rfl : fl2 = true:=qd4_2.out.get
    obtain rfl : fl9 = false:=Gd.off qd9_6.out
    obtain rfl : fl10 = false:=Gd.off qd10_9.out
    have rd62:=qf5.out.get
    refine wog hO (fun K' hK => ?_)
    refine zaD (x:=62) (k:=0) rfl rd62 rfl ?_
    exact hK.out _ _ ⟨hBi.out,true,true,true,true,fl7,fl8,false,false,b8,B8,m8,d8,b9,B9,m9,d9,E9,u9,v9,ad8,by rfl,HKp.put (by decide) _,hBi.out,kq qf2.out fun h => (h),kq qf4.out fun h => (h),kq0 qf5.out,Gd.yes (zaA (HKp.lt (by rw [hsz]; decide)) _),kq0 qf7.out,Gd.no,kq qf8.out id,fun _ => rfl,fun _ => rfl,fun _ => rfl,fun _ => rfl,Gd.no,Gd.no,Gd.no,Gd.no,Gd.no⟩
   ·obtain rfl : fl7 = false:=zah hi
    obtain rfl : fl5 = true:=rdp 5 0 hi hO
    obtain rfl : fl4 = true:=qd5_4.out.get
    obtain rfl : fl2 = true:=qd4_2.out.get
    obtain rfl : fl10 = false:=Gd.off qd10_7.out
    have rd62:=qf5.out.get
    refine wog hO (fun K' hK => ?_)
    refine zaD (x:=62) (k:=1) rfl rd62 rfl ?_
    exact hK.out _ _ ⟨hBi.out,true,true,true,fl6,true,fl8,fl9,false,b8,B8,m8,d8,b9,B9,m9,d9,E9,u9,v9,ad8,by rfl,HKp.put (by decide) _,hBi.out,kq qf2.out fun h => (h),kq qf4.out fun h => (h),kq0 qf5.out,kq0 qf6.out,Gd.yes (zaA (HKp.lt (by rw [hsz]; decide)) _),Gd.no,kq qf8.out id,fun _ => rfl,fun _ => rfl,fun _ => rfl,fun _ => rfl,fun _ => rfl,qd9_6,qd9_8,Gd.no,Gd.no⟩
   ·obtain rfl : fl8 = false:=zah hi
    obtain rfl : fl9 = false:=Gd.off qd9_8.out
    obtain rfl : fl10 = false:=Gd.off qd10_9.out
    refine wog hO (fun K' hK => ?_)
    go_simp
    have hb:=zbH w' (.cells #[.bool false,.slice none 0 0,.slice none 0 0] 33)
    exact hK.out _ _ ⟨zac hBi.out hb,fl2,fl4,fl5,fl6,fl7,true,false,false,b8,B8,m8,d8,b9,B9,m9,d9,E9,u9,v9,w'.heap.size,by rfl,HKp.put (by decide) _,zac hBi.out hb,kq qf2.out fun h => (h).below hb,kq qf4.out fun h => (h).below hb,kq0 qf5.out,kq0 qf6.out,kq0 qf7.out,Gd.no,Gd.yes ⟨zaA (HKp.lt (by rw [hsz]; decide)) _,hBi.out.size,Blk.new w' _ _⟩,qd4_2,qd5_4,qd6_5,qd7_5,Gd.no,Gd.no,Gd.no,Gd.no,Gd.no⟩
   ·obtain rfl : fl9 = false:=zah hi
    obtain rfl : fl2 = true:=rdp 2 5 hi hO
    obtain rfl : fl4 = true:=rdp 4 2 hi hO
    obtain rfl : fl5 = true:=rdp 5 8 hi hO
    obtain rfl : fl6 = true:=rdp 6 1 hi hO
    obtain rfl : fl8 = true:=rdp 8 0 hi hO
    obtain rfl : fl10 = false:=Gd.off qd10_9.out
    have rd10:=qf8.out.get.1
    have rd68:=qf6.out.get
    obtain ⟨_,hg,hk⟩:=qf8.out.get
    have hk : Blk w' ad8 33 #[.bool false,.slice none 0 0,.slice none 0 0]:=hk
    obtain ⟨sc0,sf0,sc1,sf1,sc2,sf2⟩:=st3 hk (.bool b9) (.slice B9 m9 d9)
    have hj2:=sn3 hk (.bool b9) (.slice B9 m9 d9) (.slice E9 u9 v9)
    have hBn:=bl3 (.bool b9) (.slice B9 m9 d9) (.slice E9 u9 v9) hg hBi.out
    refine wog hO (fun K' hK => ?_)
    go_simp
    exact hK.out _ _ ⟨hBn,true,true,true,true,fl7,true,true,false,b8,B8,m8,d8,b9,B9,m9,d9,E9,u9,v9,ad8,by rfl,HKp,hBn,qf2.out.mono fun h => ⟨h.1,zcx (h.2) hk zdE (zcy _ _ _ _ _)⟩,qf4.out.mono fun h => ⟨h.1,zbF (h.2) hk zdE (zcy _ _ _ _ _)⟩,qf5.out.mono fun h => h,qf6.out.mono fun h => h,qf7.out.mono fun h => h,Gd.no,qf8.out.mono fun h => ⟨h.1,h.2.1,hj2⟩,fun _ => rfl,fun _ => rfl,fun _ => rfl,fun _ => rfl,fun _ => rfl,fun _ => rfl,fun _ => rfl,Gd.no,Gd.no⟩
   ·obtain rfl : fl10 = false:=zah hi
    obtain rfl : fl2 = true:=rdp 2 4 hi hO
    obtain rfl : fl4 = true:=rdp 4 6 hi hO
    obtain rfl : fl5 = true:=rdp 5 7 hi hO
    obtain rfl : fl6 = true:=rdp 6 8 hi hO
    obtain rfl : fl7 = true:=rdp 7 0 hi hO
    obtain rfl : fl8 = true:=rdp 8 10 hi hO
    obtain rfl : fl9 = true:=rdp 9 1 hi hO
    have rd69:=qf7.out.get
    refine wog hO (fun K' hK => ?_)
    refine zaX (x:=69) (Or.inr rfl) rd69 ?_
    exact hK.out _ _ ⟨hBi.out,true,true,true,true,true,true,true,true,b8,B8,m8,d8,b9,B9,m9,d9,E9,u9,v9,ad8,by rfl,HKp.put (by decide) _,hBi.out,kq qf2.out fun h => (h),kq qf4.out fun h => (h),kq0 qf5.out,kq0 qf6.out,kq0 qf7.out,Gd.yes (zaA (HKp.lt (by rw [hsz]; decide)) _),kq qf8.out id,fun _ => rfl,fun _ => rfl,fun _ => rfl,fun _ => rfl,fun _ => rfl,fun _ => rfl,fun _ => rfl,fun _ => rfl,fun _ => rfl⟩
 rintro a wm6 ⟨fl2,fl4,fl5,fl6,fl7,fl8,fl9,fl10,b8,B8,m8,d8,b9,B9,m9,d9,E9,u9,v9,ad8,hl,HKp,hBi,qf2,qf4,qf5,qf6,qf7,qf10,qf8,qd4_2,qd5_4,qd6_5,qd7_5,qd9_4,qd9_6,qd9_8,qd10_7,qd10_9⟩
 have xx2 : fl2 = true:=gdl 2 hl
 subst xx2
 have xx4 : fl4 = true:=gdl 4 hl
 subst xx4
 have xx5 : fl5 = true:=gdl 5 hl
 subst xx5
 have xx6 : fl6 = true:=gdl 6 hl
 subst xx6
 have xx7 : fl7 = true:=gdl 7 hl
 subst xx7
 have xx8 : fl8 = true:=gdl 8 hl
 subst xx8
 have xx9 : fl9 = true:=gdl 9 hl
 subst xx9
 have xx10 : fl10 = true:=gdl 10 hl
 subst xx10
 obtain ⟨rv2,hw8⟩:=qf2.out.get
 obtain ⟨rv4,hw9⟩:=qf4.out.get
 have rv5:=qf5.out.get
 have rv6:=qf6.out.get
 have rv7:=qf7.out.get
 have rv10:=qf10.out.get
 obtain ⟨rv8,hg8,hk8⟩:=qf8.out.get
 obtain rfl:=HKp.eq [(65,.agg #[.bool b8,.slice B8 m8 d8]),(67,.tuple #[.agg #[.bool b9,.slice B9 m9 d9,.slice E9 u9 v9],.bool true]),(62,.tuple #[.agg #[.bool b9,.slice B9 m9 d9,.slice E9 u9 v9],.bool true]),(68,.agg #[.bool b9,.slice B9 m9 d9,.slice E9 u9 v9]),(69,.bool true),(10,.pointer (some ⟨ad8,0,none⟩)),(11,.bool true)] rfl (by
  intro p hp
  simp only [List.mem_cons,List.not_mem_nil,or_false] at hp
  rcases hp with rfl | rfl | rfl | rfl | rfl | rfl | rfl
  ·exact rv2
  ·exact rv4
  ·exact rv5
  ·exact rv6
  ·exact rv7
  ·exact rv8
  ·exact rv10)
 have hBv:=hBi.out
 clear hl hBi HKp qf2 qf4 qf5 qf6 qf7 qf10 qf8 qd4_2 qd5_4 qd6_5 qd7_5 qd9_4 qd9_6 qd9_8 qd10_7 qd10_9 rv2 rv4 rv5 rv6 rv7 rv8 rv10
 have hk8 : Blk wm6 ad8 33 #[.bool b9,.slice B9 m9 d9,.slice E9 u9 v9]:=hk8
 rw [show due #[true,true,true,true,true,true,true,true,true,true,true] = 0 from rfl]
 simp only [zcl,List.foldl,Act.put,List.setIfInBounds_toArray,List.set_cons_zero,List.set_cons_succ]
 refine wpAnyH_done (by kernel_rfl) ?_ _
 refine NoPanic.normal ?_
 have lt2_m6:=World.block_lt_of_cell? _ _ g2
 dsimp only at lt2_m6
 have lt6_m6:=World.block_lt_of_cell? _ _ g6
 dsimp only at lt6_m6
 have ltby0_m6:=World.block_lt_of_cell? _ _ gby0
 dsimp only at ltby0_m6
 have hB:=zac hB hBv
 have gby0:=zad hBv gby0
 have HN3:=lh9 (HN3.out.below hBv)
 have k1:=zae hBv k1
 have k4:=zae hBv k4
 have k2:=zae hBv k2
 have HN5:=lh9 (HN5.out.below hBv)
 have g6:=zad hBv g6
 have k6:=zae hBv k6
 have HN7:=lh9 (HN7.out.below hBv)
 have g2:=zad hBv g2
 obtain ⟨ad8_10,hga⟩ : ∃ x,x = ad8:=⟨_,rfl⟩
 subst hga
 obtain ⟨g10,e10,i10⟩:=hk8.c3
 have HN8:=lh9 hw8
 have HN9:=lh9 hw9
 clear hBv hk8 hw8 hw9 GG
 clear C0 C1
 go_wp2_with fail
 have C0:=lh9 (fun w' (h : Below wm6.heap.size wm6 w') => zdN (v:=2) ((by rw [HK.out]; rfl)) (zcc (((sg9 true (zaj lb 1) : Int) : Rat)) b9 B9 m9 d9 E9 u9 v9 w' (HT.out _ (zac hB h)) (HN9.out.below h) (szq HZ9 HN9.out)))
 have hBw:=(Below.refl wm6.heap.size wm6).drew
 refine rg (csc g10 (csc e10 (csc i10 (csc gby0 csn)))) (fun hHeld => ?_)
 refine tk 0 ?_
 refine tk 1 ?_
 refine tk 2 ?_
 refine tk 4 ?_
 refine tk 5 ?_
 refine tk 6 ?_
 refine rc 3 (fun K hK => ?_)
 go_simp
 go_at_call 43; (with_reducible refine (C0.out _ hBw).mono ?_); rintro e wa7 ⟨rfl,hb⟩; have hBw:=zac hBw hb; refine hK.out _ _ (Cs.below hHeld hb) (fun hHeld => ?_); clear hK K hb
 try simp only [sb9]
 refine tk 7 ?_
 refine tk 8 ?_
 refine rdn ?_
 have hB:=zac hB hBw
 have gby0:=zad hBw gby0
 have HN3:=lh9 (HN3.out.below hBw)
 have k1:=zae hBw k1
 have k4:=zae hBw k4
 have k2:=zae hBw k2
 have HN5:=lh9 (HN5.out.below hBw)
 have g6:=zad hBw g6
 have k6:=zae hBw k6
 have HN7:=lh9 (HN7.out.below hBw)
 have g2:=zad hBw g2
 have g10:=zad hBw g10
 have e10:=zad hBw e10
 have i10:=zad hBw i10
 have HN8:=lh9 (HN8.out.below hBw)
 have HN9:=lh9 (HN9.out.below hBw)
 clear hBw hHeld C0
 obtain ⟨sc0,sf0,sc1,sf1,sc2,sf2⟩:=st3 k1 (.bool b9) (.slice B9 m9 d9)
 obtain ⟨r0,r1,r2⟩:=(sn3 k1 (.bool b9) (.slice B9 m9 d9) (.slice E9 u9 v9)).c3
 have HG:=lh9 (gd3 (HN9.out) (zeH _) (show ((zat lb 1 : Nat) : Int) = ((zat lb 1 : Nat) : Int) from rfl) k1 hB (by omega))
 go_wp2
 refine bodyPost_ret (v:=.tuple #[.agg #[.bool b9,.slice B9 m9 d9,.slice E9 u9 v9],.int .i64 ((zat lb 1 : Nat) : Int),.nilIface]) (by simp [results,Tryz.results18,go_sem,r0,r1,r2]) rfl ?_
 exact HG.out
theorem ziY (lb : List Nat) (Baa : oA9) (maa daa : Nat) (w : World) (hT : zam w) (haa : zaB w lb Baa maa daa) (qaa : maa ≤ 2147483648) (h0 : 0 < maa) (hb : lb.getD 0 0 = 3) (he : zax lb 1 ≠ 0) :
  Calls Tryz.prog 18 #[.slice Baa maa daa] w (zbd w (.spot (zax lb 1) zef 1,0,0)):=by
 have HIC:=lh9 (zbh (T:=zam))
 have HT:=lh9 (fun w' (hb : Below w.heap.size w w') => hT.on hb)
 obtain ⟨K,hKe⟩ : ∃ K,67108864 = K:=⟨_,rfl⟩
 have hKK : K ≤ 67108864:=by omega
 have hK0 : 0 < K:=by omega
 have hK9 : 255 ≤ K:=by omega
 have ef1:=zaH
 have ef2:=zaJ
 have ef3:=zaM
 have ef4:=zaN
 have i0 : ((maa : Int) == 0) = false:=by rw [beq_eq_false_iff_ne]; omega
 have i1 : (0 : Int) < (maa : Int):=by omega
 have HBY:=lh9 haa
 have HE:=lh9 he
 have HNaa:=lh9 (fun w' (b : Below w.heap.size w w') => haa.below b)
 have hlnaa:=haa.len
 have hcpaa:=haa.2.2
 obtain ⟨gb,ob,ib,rfl,hgb,hb0,gby0⟩:=haa.first (by omega)
 have gby0 : w.cell? ⟨gb,ob,ib⟩ = some (.int .u8 3):=by rw [gby0,hb]; rfl
 clear hb0
 clear haa
 clear hT hKe hb he
 go_enter Tryz.func18,Tryz.ntmps18
 have hB:=Below.refl w.heap.size w
 have HN3:=lh9 (zaQ w)
 have HZ3 : Hid (Sz 1 0):=zbK 1
 have kk2:=(zbp w 33 29 81 #[.bool false,.slice none 0 0,.slice none 0 0] #[.slice none 0 0] #[.int .u64 1]).2.2.1
 obtain ⟨bx1,bx2,bx3,bx4,bz⟩:=zbp w 33 29 81 #[.bool false,.slice none 0 0,.slice none 0 0] #[.slice none 0 0] #[.int .u64 1]
 have hB:=zac hB bx1
 have gby0:=zad bx1 gby0
 have HN3:=lh9 (HN3.out.below bx1)
 have k1:=bx2
 have g2:=bx3.c1
 have k4:=bx4
 clear bx1 bx2 bx3 bx4 bz
 go_wp2_with fail
 generalize ((w.alloc (.cells #[.bool false,.slice none 0 0,.slice none 0 0] 33)).alloc (.cells #[.slice none 0 0] 29)).alloc (.cells #[.int .u64 1] 81) = W1 at *
 have k2:=kk2
 clear kk2
 have HZ5 : Hid (Sz (1) (1)):=(by show (1 : Nat) < 18446744073709551616 ^ 1; decide)
 (with_reducible refine (zby _ [1] _ _ 1 (1) k4 rfl rfl (zeG 1 (by decide)) rfl (by decide)).mono ?_)
 rintro e wc2 ⟨B5,m5,d5,rfl,hw5,hb,_⟩
 have hB:=zac hB hb
 have gby0:=zad hb gby0
 have HN3:=lh9 (HN3.out.below hb)
 have k1:=zae hb k1
 have g2:=zad hb g2
 have k4:=zae hb k4
 have k2:=zae hb k2
 have HN5:=lh9 hw5
 clear hb hw5
 have lt1_2 : w.heap.size < wc2.heap.size:=k1.lt
 have lt2_2 : w.heap.size + 1 < wc2.heap.size:=World.block_lt_of_cell? wc2 ⟨w.heap.size + 1,0,none⟩ g2
 have lt4_2 : w.heap.size + 1 + 1 < wc2.heap.size:=k4.lt
 have hq2:=hB.size
 have kk6:=(zaz wc2 29 #[.slice B5 m5 d5]).2.1
 have gmby0_1 : (wc2.alloc (.cells #[.slice B5 m5 d5] 29)).cell? ⟨gb,ob,ib⟩ = some (.int .u8 3):=zal _ (gby0)
 obtain ⟨bx1,bx2,bz⟩:=zaz wc2 29 #[.slice B5 m5 d5]
 have hB:=zac hB bx1
 have gby0:=zad bx1 gby0
 have HN3:=lh9 (HN3.out.below bx1)
 have k1:=zae bx1 k1
 have g2:=zad bx1 g2
 have k4:=zae bx1 k4
 have k2:=zae bx1 k2
 have HN5:=lh9 (HN5.out.below bx1)
 have g6:=bx2.c1
 clear bx1 bx2 bz
 go_wp2_with fail
 clear gmby0_1
 generalize wc2.alloc (.cells #[.slice B5 m5 d5] 29) = W3 at *
 generalize wc2.heap.size = q3 at *
 have k6:=kk6
 clear kk6
 (with_reducible refine (zcz lb 1 1 ({ data:=#[100,105,118,105,115,111,114] }) (some ⟨gb,ob,ib⟩) maa daa _ (HT.out _ hB) (HNaa.out _ hB) (by omega) (by omega) HE.out rfl).mono ?_)
 rintro e wc4 ⟨et7,ex7,rfl,hw7,hb⟩
 have hB:=zac hB hb
 have gby0:=zad hb gby0
 have HN3:=lh9 (HN3.out.below hb)
 have k1:=zae hb k1
 have g2:=zad hb g2
 have k4:=zae hb k4
 have k2:=zae hb k2
 have HN5:=lh9 (HN5.out.below hb)
 have g6:=zad hb g6
 have k6:=zae hb k6
 have HN7:=lh9 hw7
 clear hb hw7
 obtain ⟨sc0,sf0⟩:=st1 k6
 have kz0:=sn1 k6 (.slice none 0 0)
 have gby0:=zag (q:=⟨q3,0,none⟩) (.slice none 0 0) (by show gb ≠ q3; omega) (gby0)
 have HN3:=lh9 (zak HN3.out k6 (NoU.s1 _ _ _) (zaP _ _ (.slice none 0 0)))
 have k1:=Blk.far (p:=⟨q3,0,none⟩) (k1) (by show w.heap.size ≠ q3; omega) (.slice none 0 0)
 have g2:=zag (q:=⟨q3,0,none⟩) (.slice none 0 0) (by show w.heap.size + 1 ≠ q3; omega) (g2)
 have k4:=Blk.far (p:=⟨q3,0,none⟩) (k4) (by show w.heap.size + 1 + 1 ≠ q3; omega) (.slice none 0 0)
 have k2:=Blk.far (p:=⟨q3,0,none⟩) (k2) (by show w.heap.size + 1 ≠ q3; omega) (.slice none 0 0)
 have HN5:=lh9 (zak HN5.out k6 (NoU.s1 _ _ _) (zaP _ _ (.slice none 0 0)))
 have HN7:=lh9 (zdD HN7.out k6 (NoU.s1 _ _ _) (zaP _ _ (.slice none 0 0)))
 have hB:=bl1 (.slice none 0 0) (by show w.heap.size ≤ q3; omega) hB
 have g6 : (wc4.setCell ⟨q3,0,none⟩ (.slice none 0 0)).cell? ⟨q3,0,none⟩ = some (.slice none 0 0):=kz0.cell 0
 have k6:=kz0
 go_upto_region 13 with fail
 clear sc0 sf0 kz0
 generalize wc4.setCell ⟨q3,0,none⟩ (.slice none 0 0) = W5 at *
 have HN9:=lh9 (zaS W5)
 obtain ⟨sc0,sf0,sc1,sf1,sc2,sf2⟩:=st3 k1 (.bool false) (.slice none 0 0)
 obtain ⟨r0,r1,r2⟩:=(sn3 k1 (.bool false) (.slice none 0 0) (.slice none 0 0)).c3
 have HG:=lh9 (gd3 (HN9.out) (HN7.out) (show (0 : Int) = ((0 : Nat) : Int) from rfl) k1 hB (by omega))
 go_wp2
 refine bodyPost_ret (v:=.tuple #[.agg #[.bool false,.slice none 0 0,.slice none 0 0],.int .i64 0,.iface et7 ex7]) (by simp [results,Tryz.results18,go_sem,r0,r1,r2]) rfl ?_
 exact HG.out
theorem zfo (lb : List Nat) (Baa : oA9) (maa daa : Nat) (w : World) (hT : zam w) (haa : zaB w lb Baa maa daa) (qaa : maa ≤ 2147483648) (h0 : 0 < maa) (hb : lb.getD 0 0 = 3) (he : zax lb 1 = 0) (hk1 : zat lb 1 ≤ maa) (he2 : zax lb (zat lb 1) ≠ 0) :
  Calls Tryz.prog 18 #[.slice Baa maa daa] w (zbd w (.spot (zax lb (zat lb 1)) zdF (zat lb 1 : Nat),0,0)):=by
 have HIC:=lh9 (zbh (T:=zam))
 have HT:=lh9 (fun w' (hb : Below w.heap.size w w') => hT.on hb)
 obtain ⟨K,hKe⟩ : ∃ K,67108864 = K:=⟨_,rfl⟩
 have hKK : K ≤ 67108864:=by omega
 have hK0 : 0 < K:=by omega
 have hK9 : 255 ≤ K:=by omega
 have ef1:=zaH
 have ef2:=zaJ
 have ef3:=zaM
 have ef4:=zaN
 have i0 : ((maa : Int) == 0) = false:=by rw [beq_eq_false_iff_ne]; omega
 have i1 : (0 : Int) < (maa : Int):=by omega
 have HBY:=lh9 haa
 have HE:=lh9 he
 have HE2:=lh9 he2
 have HNaa:=lh9 (fun w' (b : Below w.heap.size w w') => haa.below b)
 have hlnaa:=haa.len
 have hcpaa:=haa.2.2
 obtain ⟨gb,ob,ib,rfl,hgb,hb0,gby0⟩:=haa.first (by omega)
 have gby0 : w.cell? ⟨gb,ob,ib⟩ = some (.int .u8 3):=by rw [gby0,hb]; rfl
 clear hb0
 clear haa
 clear hT hKe hb he he2
 go_enter Tryz.func18,Tryz.ntmps18
 have hB:=Below.refl w.heap.size w
 have HN3:=lh9 (zaQ w)
 have HZ3 : Hid (Sz 1 0):=zbK 1
 have kk2:=(zbp w 33 29 81 #[.bool false,.slice none 0 0,.slice none 0 0] #[.slice none 0 0] #[.int .u64 1]).2.2.1
 obtain ⟨bx1,bx2,bx3,bx4,bz⟩:=zbp w 33 29 81 #[.bool false,.slice none 0 0,.slice none 0 0] #[.slice none 0 0] #[.int .u64 1]
 have hB:=zac hB bx1
 have gby0:=zad bx1 gby0
 have HN3:=lh9 (HN3.out.below bx1)
 have k1:=bx2
 have g2:=bx3.c1
 have k4:=bx4
 clear bx1 bx2 bx3 bx4 bz
 go_wp2_with fail
 generalize ((w.alloc (.cells #[.bool false,.slice none 0 0,.slice none 0 0] 33)).alloc (.cells #[.slice none 0 0] 29)).alloc (.cells #[.int .u64 1] 81) = W1 at *
 have k2:=kk2
 clear kk2
 have HZ5 : Hid (Sz (1) (1)):=(by show (1 : Nat) < 18446744073709551616 ^ 1; decide)
 (with_reducible refine (zby _ [1] _ _ 1 (1) k4 rfl rfl (zeG 1 (by decide)) rfl (by decide)).mono ?_)
 rintro e wc2 ⟨B5,m5,d5,rfl,hw5,hb,_⟩
 have hB:=zac hB hb
 have gby0:=zad hb gby0
 have HN3:=lh9 (HN3.out.below hb)
 have k1:=zae hb k1
 have g2:=zad hb g2
 have k4:=zae hb k4
 have k2:=zae hb k2
 have HN5:=lh9 hw5
 clear hb hw5
 have lt1_2 : w.heap.size < wc2.heap.size:=k1.lt
 have lt2_2 : w.heap.size + 1 < wc2.heap.size:=World.block_lt_of_cell? wc2 ⟨w.heap.size + 1,0,none⟩ g2
 have lt4_2 : w.heap.size + 1 + 1 < wc2.heap.size:=k4.lt
 have hq2:=hB.size
 have kk6:=(zaz wc2 29 #[.slice B5 m5 d5]).2.1
 have gmby0_1 : (wc2.alloc (.cells #[.slice B5 m5 d5] 29)).cell? ⟨gb,ob,ib⟩ = some (.int .u8 3):=zal _ (gby0)
 obtain ⟨bx1,bx2,bz⟩:=zaz wc2 29 #[.slice B5 m5 d5]
 have hB:=zac hB bx1
 have gby0:=zad bx1 gby0
 have HN3:=lh9 (HN3.out.below bx1)
 have k1:=zae bx1 k1
 have g2:=zad bx1 g2
 have k4:=zae bx1 k4
 have k2:=zae bx1 k2
 have HN5:=lh9 (HN5.out.below bx1)
 have g6:=bx2.c1
 clear bx1 bx2 bz
 go_wp2_with fail
 clear gmby0_1
 generalize wc2.alloc (.cells #[.slice B5 m5 d5] 29) = W3 at *
 generalize wc2.heap.size = q3 at *
 have k6:=kk6
 clear kk6
 have HZ7 : Hid (Sz K (zaj lb 1)):=zbq HBY.out hK9
 (with_reducible refine (zaO lb 1 1 ({ data:=#[100,105,118,105,115,111,114] }) (some ⟨gb,ob,ib⟩) maa daa _ (HT.out _ hB) (HNaa.out _ hB) (by omega) (by omega) HE.out rfl).mono ?_)
 rintro e wc4 ⟨B7,m7,d7,rfl,hw7,hb⟩
 have hB:=zac hB hb
 have gby0:=zad hb gby0
 have HN3:=lh9 (HN3.out.below hb)
 have k1:=zae hb k1
 have g2:=zad hb g2
 have k4:=zae hb k4
 have k2:=zae hb k2
 have HN5:=lh9 (HN5.out.below hb)
 have g6:=zad hb g6
 have k6:=zae hb k6
 have HN7:=lh9 hw7
 clear hb hw7
 obtain ⟨sc0,sf0⟩:=st1 k6
 have kz0:=sn1 k6 (.slice B7 m7 d7)
 have gby0:=zag (q:=⟨q3,0,none⟩) (.slice B7 m7 d7) (by show gb ≠ q3; omega) (gby0)
 have HN3:=lh9 (zak HN3.out k6 (NoU.s1 _ _ _) (zaP _ _ (.slice B7 m7 d7)))
 have k1:=Blk.far (p:=⟨q3,0,none⟩) (k1) (by show w.heap.size ≠ q3; omega) (.slice B7 m7 d7)
 have g2:=zag (q:=⟨q3,0,none⟩) (.slice B7 m7 d7) (by show w.heap.size + 1 ≠ q3; omega) (g2)
 have k4:=Blk.far (p:=⟨q3,0,none⟩) (k4) (by show w.heap.size + 1 + 1 ≠ q3; omega) (.slice B7 m7 d7)
 have k2:=Blk.far (p:=⟨q3,0,none⟩) (k2) (by show w.heap.size + 1 ≠ q3; omega) (.slice B7 m7 d7)
 have HN5:=lh9 (zak HN5.out k6 (NoU.s1 _ _ _) (zaP _ _ (.slice B7 m7 d7)))
 have HN7:=lh9 (zak HN7.out k6 (NoU.s1 _ _ _) (zaP _ _ (.slice B7 m7 d7)))
 have hB:=bl1 (.slice B7 m7 d7) (by show w.heap.size ≤ q3; omega) hB
 have g6 : (wc4.setCell ⟨q3,0,none⟩ (.slice B7 m7 d7)).cell? ⟨q3,0,none⟩ = some (.slice B7 m7 d7):=kz0.cell 0
 have k6:=kz0
 go_upto_region 13 with fail
 clear sc0 sf0 kz0
 generalize wc4.setCell ⟨q3,0,none⟩ (.slice B7 m7 d7) = W5 at *
 go_wp2_with fail
 (with_reducible refine (zcz lb (zat lb 1) (((zat lb 1 : Nat) : Int)) ({ data:=#[110,117,109,98,101,114] }) (some ⟨gb,ob,ib⟩) maa daa _ (HT.out _ hB) (HNaa.out _ hB) (by omega) (by omega) HE2.out rfl).mono ?_)
 rintro e wc6 ⟨et8,ex8,rfl,hw8,hb⟩
 have hB:=zac hB hb
 have gby0:=zad hb gby0
 have HN3:=lh9 (HN3.out.below hb)
 have k1:=zae hb k1
 have g2:=zad hb g2
 have k4:=zae hb k4
 have k2:=zae hb k2
 have HN5:=lh9 (HN5.out.below hb)
 have k6:=zae hb k6
 have HN7:=lh9 (HN7.out.below hb)
 have g6:=zad hb g6
 have HN8:=lh9 hw8
 clear hb hw8
 obtain ⟨sc0,sf0⟩:=st1 k2
 have kz0:=sn1 k2 (.slice none 0 0)
 have gby0:=zag (q:=⟨w.heap.size + 1,0,none⟩) (.slice none 0 0) (by show gb ≠ w.heap.size + 1; omega) (gby0)
 have HN3:=lh9 (zak HN3.out k2 (NoU.s1 _ _ _) (zaP _ _ (.slice none 0 0)))
 have k1:=Blk.far (p:=⟨w.heap.size + 1,0,none⟩) (k1) (by show w.heap.size ≠ w.heap.size + 1; omega) (.slice none 0 0)
 have k4:=Blk.far (p:=⟨w.heap.size + 1,0,none⟩) (k4) (by show w.heap.size + 1 + 1 ≠ w.heap.size + 1; omega) (.slice none 0 0)
 have HN5:=lh9 (zak HN5.out k2 (NoU.s1 _ _ _) (zaP _ _ (.slice none 0 0)))
 have k6:=Blk.far (p:=⟨w.heap.size + 1,0,none⟩) (k6) (by show q3 ≠ w.heap.size + 1; omega) (.slice none 0 0)
 have HN7:=lh9 (zak HN7.out k2 (NoU.s1 _ _ _) (zaP _ _ (.slice none 0 0)))
 have g6:=zag (q:=⟨w.heap.size + 1,0,none⟩) (.slice none 0 0) (by show q3 ≠ w.heap.size + 1; omega) (g6)
 have HN8:=lh9 (zdD HN8.out k2 (NoU.s1 _ _ _) (zaP _ _ (.slice none 0 0)))
 have hB:=bl1 (.slice none 0 0) (by show w.heap.size ≤ w.heap.size + 1; omega) hB
 have g2 : (wc6.setCell ⟨w.heap.size + 1,0,none⟩ (.slice none 0 0)).cell? ⟨w.heap.size + 1,0,none⟩ = some (.slice none 0 0):=kz0.cell 0
 have k2:=kz0
 go_upto_region 16 with fail
 clear sc0 sf0 kz0
 generalize wc6.setCell ⟨w.heap.size + 1,0,none⟩ (.slice none 0 0) = W7 at *
 have HN10:=lh9 (zaS W7)
 obtain ⟨sc0,sf0,sc1,sf1,sc2,sf2⟩:=st3 k1 (.bool false) (.slice none 0 0)
 obtain ⟨r0,r1,r2⟩:=(sn3 k1 (.bool false) (.slice none 0 0) (.slice none 0 0)).c3
 have HG:=lh9 (gd3 (HN10.out) (HN8.out) (show (0 : Int) = ((0 : Nat) : Int) from rfl) k1 hB (by omega))
 go_wp2
 refine bodyPost_ret (v:=.tuple #[.agg #[.bool false,.slice none 0 0,.slice none 0 0],.int .i64 0,.iface et8 ex8]) (by simp [results,Tryz.results18,go_sem,r0,r1,r2]) rfl ?_
 exact HG.out
theorem ziZ (lb : List Nat) (Baa : oA9) (maa daa : Nat) (w : World) (hT : zam w) (haa : zaB w lb Baa maa daa) (qaa : maa ≤ 2147483648) (h0 : 0 < maa) (hb : lb.getD 0 0 = 3) (he : zax lb 1 = 0) (hk1 : zat lb 1 ≤ maa) (he2 : zax lb (zat lb 1) = 0) (hd0 : zaj lb 1 ≠ 0) (how : decide ((Rat.divInt (sg9 false (zaj lb (zat lb 1))) ((zaj lb 1 : Nat) : Int)).den = zaj lb 1) = true) (hk : zbM (Rat.divInt (sg9 false (zaj lb (zat lb 1))) ((zaj lb 1 : Nat) : Int)) = 3) :
  Calls Tryz.prog 18 #[.slice Baa maa daa] w (zbd w (.no,Rat.divInt (sg9 false (zaj lb (zat lb 1))) ((zaj lb 1 : Nat) : Int),zat lb (zat lb 1))):=by
 have HIC:=lh9 (zbh (T:=zam))
 have HT:=lh9 (fun w' (hb : Below w.heap.size w w') => hT.on hb)
 obtain ⟨K,hKe⟩ : ∃ K,67108864 = K:=⟨_,rfl⟩
 have hKK : K ≤ 67108864:=by omega
 have hK0 : 0 < K:=by omega
 have hK9 : 255 ≤ K:=by omega
 have ef1:=zaH
 have ef2:=zaJ
 have ef3:=zaM
 have ef4:=zaN
 have i0 : ((maa : Int) == 0) = false:=by rw [beq_eq_false_iff_ne]; omega
 have i1 : (0 : Int) < (maa : Int):=by omega
 have HBY:=lh9 haa
 have HE:=lh9 he
 have HE2:=lh9 he2
 have HD0:=lh9 hd0
 have HOW:=lh9 how
 have HK:=lh9 hk
 have HNaa:=lh9 (fun w' (b : Below w.heap.size w w') => haa.below b)
 have hlnaa:=haa.len
 have hcpaa:=haa.2.2
 obtain ⟨gb,ob,ib,rfl,hgb,hb0,gby0⟩:=haa.first (by omega)
 have gby0 : w.cell? ⟨gb,ob,ib⟩ = some (.int .u8 3):=by rw [gby0,hb]; rfl
 clear hb0
 clear haa
 clear hT hKe hb he he2 hd0 how hk
 go_enter Tryz.func18,Tryz.ntmps18
 have hB:=Below.refl w.heap.size w
 have HN3:=lh9 (zaQ w)
 have HZ3 : Hid (Sz 1 0):=zbK 1
 have kk2:=(zbp w 33 29 81 #[.bool false,.slice none 0 0,.slice none 0 0] #[.slice none 0 0] #[.int .u64 1]).2.2.1
 obtain ⟨bx1,bx2,bx3,bx4,bz⟩:=zbp w 33 29 81 #[.bool false,.slice none 0 0,.slice none 0 0] #[.slice none 0 0] #[.int .u64 1]
 have hB:=zac hB bx1
 have gby0:=zad bx1 gby0
 have HN3:=lh9 (HN3.out.below bx1)
 have k1:=bx2
 have g2:=bx3.c1
 have k4:=bx4
 clear bx1 bx2 bx3 bx4 bz
 go_wp2_with fail
 generalize ((w.alloc (.cells #[.bool false,.slice none 0 0,.slice none 0 0] 33)).alloc (.cells #[.slice none 0 0] 29)).alloc (.cells #[.int .u64 1] 81) = W1 at *
 have k2:=kk2
 clear kk2
 have HZ5 : Hid (Sz (1) (1)):=(by show (1 : Nat) < 18446744073709551616 ^ 1; decide)
 (with_reducible refine (zby _ [1] _ _ 1 (1) k4 rfl rfl (zeG 1 (by decide)) rfl (by decide)).mono ?_)
 rintro e wc2 ⟨B5,m5,d5,rfl,hw5,hb,_⟩
 have hB:=zac hB hb
 have gby0:=zad hb gby0
 have HN3:=lh9 (HN3.out.below hb)
 have k1:=zae hb k1
 have g2:=zad hb g2
 have k4:=zae hb k4
 have k2:=zae hb k2
 have HN5:=lh9 hw5
 clear hb hw5
 have lt1_2 : w.heap.size < wc2.heap.size:=k1.lt
 have lt2_2 : w.heap.size + 1 < wc2.heap.size:=World.block_lt_of_cell? wc2 ⟨w.heap.size + 1,0,none⟩ g2
 have lt4_2 : w.heap.size + 1 + 1 < wc2.heap.size:=k4.lt
 have hq2:=hB.size
 have kk6:=(zaz wc2 29 #[.slice B5 m5 d5]).2.1
 have gmby0_1 : (wc2.alloc (.cells #[.slice B5 m5 d5] 29)).cell? ⟨gb,ob,ib⟩ = some (.int .u8 3):=zal _ (gby0)
 obtain ⟨bx1,bx2,bz⟩:=zaz wc2 29 #[.slice B5 m5 d5]
 have hB:=zac hB bx1
 have gby0:=zad bx1 gby0
 have HN3:=lh9 (HN3.out.below bx1)
 have k1:=zae bx1 k1
 have g2:=zad bx1 g2
 have k4:=zae bx1 k4
 have k2:=zae bx1 k2
 have HN5:=lh9 (HN5.out.below bx1)
 have g6:=bx2.c1
 clear bx1 bx2 bz
 go_wp2_with fail
 clear gmby0_1
 generalize wc2.alloc (.cells #[.slice B5 m5 d5] 29) = W3 at *
 generalize wc2.heap.size = q3 at *
 have k6:=kk6
 clear kk6
 have HZ7 : Hid (Sz K (zaj lb 1)):=zbq HBY.out hK9
 (with_reducible refine (zaO lb 1 1 ({ data:=#[100,105,118,105,115,111,114] }) (some ⟨gb,ob,ib⟩) maa daa _ (HT.out _ hB) (HNaa.out _ hB) (by omega) (by omega) HE.out rfl).mono ?_)
 rintro e wc4 ⟨B7,m7,d7,rfl,hw7,hb⟩
 have hB:=zac hB hb
 have gby0:=zad hb gby0
 have HN3:=lh9 (HN3.out.below hb)
 have k1:=zae hb k1
 have g2:=zad hb g2
 have k4:=zae hb k4
 have k2:=zae hb k2
 have HN5:=lh9 (HN5.out.below hb)
 have g6:=zad hb g6
 have k6:=zae hb k6
 have HN7:=lh9 hw7
 clear hb hw7
 obtain ⟨sc0,sf0⟩:=st1 k6
 have kz0:=sn1 k6 (.slice B7 m7 d7)
 have gby0:=zag (q:=⟨q3,0,none⟩) (.slice B7 m7 d7) (by show gb ≠ q3; omega) (gby0)
 have HN3:=lh9 (zak HN3.out k6 (NoU.s1 _ _ _) (zaP _ _ (.slice B7 m7 d7)))
 have k1:=Blk.far (p:=⟨q3,0,none⟩) (k1) (by show w.heap.size ≠ q3; omega) (.slice B7 m7 d7)
 have g2:=zag (q:=⟨q3,0,none⟩) (.slice B7 m7 d7) (by show w.heap.size + 1 ≠ q3; omega) (g2)
 have k4:=Blk.far (p:=⟨q3,0,none⟩) (k4) (by show w.heap.size + 1 + 1 ≠ q3; omega) (.slice B7 m7 d7)
 have k2:=Blk.far (p:=⟨q3,0,none⟩) (k2) (by show w.heap.size + 1 ≠ q3; omega) (.slice B7 m7 d7)
 have HN5:=lh9 (zak HN5.out k6 (NoU.s1 _ _ _) (zaP _ _ (.slice B7 m7 d7)))
 have HN7:=lh9 (zak HN7.out k6 (NoU.s1 _ _ _) (zaP _ _ (.slice B7 m7 d7)))
 have hB:=bl1 (.slice B7 m7 d7) (by show w.heap.size ≤ q3; omega) hB
 have g6 : (wc4.setCell ⟨q3,0,none⟩ (.slice B7 m7 d7)).cell? ⟨q3,0,none⟩ = some (.slice B7 m7 d7):=kz0.cell 0
 have k6:=kz0
 go_upto_region 13 with fail
 clear sc0 sf0 kz0
 generalize wc4.setCell ⟨q3,0,none⟩ (.slice B7 m7 d7) = W5 at *
 go_wp2_with fail
 have HZ8 : Hid (Sz K (zaj lb (zat lb 1))):=zbq HBY.out hK9
 (with_reducible refine (zaO lb (zat lb 1) (((zat lb 1 : Nat) : Int)) ({ data:=#[110,117,109,98,101,114] }) (some ⟨gb,ob,ib⟩) maa daa _ (HT.out _ hB) (HNaa.out _ hB) (by omega) (by omega) HE2.out rfl).mono ?_)
 rintro e wc6 ⟨B8,m8,d8,rfl,hw8,hb⟩
 have hB:=zac hB hb
 have gby0:=zad hb gby0
 have HN3:=lh9 (HN3.out.below hb)
 have k1:=zae hb k1
 have g2:=zad hb g2
 have k4:=zae hb k4
 have k2:=zae hb k2
 have HN5:=lh9 (HN5.out.below hb)
 have k6:=zae hb k6
 have HN7:=lh9 (HN7.out.below hb)
 have g6:=zad hb g6
 have HN8:=lh9 hw8
 clear hb hw8
 obtain ⟨sc0,sf0⟩:=st1 k2
 have kz0:=sn1 k2 (.slice B8 m8 d8)
 have gby0:=zag (q:=⟨w.heap.size + 1,0,none⟩) (.slice B8 m8 d8) (by show gb ≠ w.heap.size + 1; omega) (gby0)
 have HN3:=lh9 (zak HN3.out k2 (NoU.s1 _ _ _) (zaP _ _ (.slice B8 m8 d8)))
 have k1:=Blk.far (p:=⟨w.heap.size + 1,0,none⟩) (k1) (by show w.heap.size ≠ w.heap.size + 1; omega) (.slice B8 m8 d8)
 have k4:=Blk.far (p:=⟨w.heap.size + 1,0,none⟩) (k4) (by show w.heap.size + 1 + 1 ≠ w.heap.size + 1; omega) (.slice B8 m8 d8)
 have HN5:=lh9 (zak HN5.out k2 (NoU.s1 _ _ _) (zaP _ _ (.slice B8 m8 d8)))
 have k6:=Blk.far (p:=⟨w.heap.size + 1,0,none⟩) (k6) (by show q3 ≠ w.heap.size + 1; omega) (.slice B8 m8 d8)
 have HN7:=lh9 (zak HN7.out k2 (NoU.s1 _ _ _) (zaP _ _ (.slice B8 m8 d8)))
 have g6:=zag (q:=⟨w.heap.size + 1,0,none⟩) (.slice B8 m8 d8) (by show q3 ≠ w.heap.size + 1; omega) (g6)
 have HN8:=lh9 (zak HN8.out k2 (NoU.s1 _ _ _) (zaP _ _ (.slice B8 m8 d8)))
 have hB:=bl1 (.slice B8 m8 d8) (by show w.heap.size ≤ w.heap.size + 1; omega) hB
 have g2 : (wc6.setCell ⟨w.heap.size + 1,0,none⟩ (.slice B8 m8 d8)).cell? ⟨w.heap.size + 1,0,none⟩ = some (.slice B8 m8 d8):=kz0.cell 0
 have k2:=kz0
 go_upto_region 16 with fail
 clear sc0 sf0 kz0
 generalize wc6.setCell ⟨w.heap.size + 1,0,none⟩ (.slice B8 m8 d8) = W7 at *
 go_wp2_with fail
 have HZ9 : Hid (Sz (K) (sg9 false (zaj lb (zat lb 1))).natAbs):=(by rw [zbJ]; exact HZ8.out)
 have C0:=lh9 (fun w' (h : Below W7.heap.size W7 w') => zgC HIC.out false (zaj lb (zat lb 1)) B8 m8 d8 w' (HT.out _ (zac hB h)) (HN8.out.below h) (szw HZ8 HN8.out))
 have HZ10 : Hid (SzQ (K) (Rat.divInt (sg9 false (zaj lb (zat lb 1))) ((zaj lb 1 : Nat) : Int))):=SzQ.made HZ9.out (by rw [Int.natAbs_natCast]; exact HZ7.out) (by omega)
 have C1:=lh9 (fun w' (h : Below W7.heap.size W7 w') b9 B9 m9 d9 (hw9 : zaE w' (sg9 false (zaj lb (zat lb 1))) b9 B9 m9 d9) => zcM (rfl) (HOW.out) (zbO (sg9 false (zaj lb (zat lb 1))) (zaj lb 1) b9 B9 m9 d9 B7 m7 d7 w' (HT.out _ (zac hB h)) hw9 (HN7.out.below h) (szi HZ9 hw9) (szw HZ7 HN7.out) HD0.out))
 have lt1_m7:=k1.lt
 have lt4_m7:=k4.lt
 have lt2_m7:=k2.lt
 have lt6_m7:=k6.lt
 have GG:=lh9 (fun w' (h : Below W7.heap.size W7 w') => (csc (zad h g2) (csc (zad h g6) csn)))
 refine rgB (fun hHeld => ?_)
 refine tl 0 GG.out ?_
 refine tl 1 GG.out ?_
 refine tl 3 GG.out ?_
 refine zbk (L:=#[true,true,true,true,true,true,true,true,true,true,true])
  (J:=fun a0 l a w' => ∃ (fl2 fl4 fl5 fl6 fl7 fl8 fl9 fl10 b9 : Bool) (B9 : oA9) (m9 d9 : Nat) (b10 : Bool) (B10 : oA9) (m10 d10 : Nat) (E10 : oA9) (u10 v10 ad8 : Nat),l = #[true,true,fl2,true,fl4,fl5,fl6,fl7,fl8,fl9,fl10] ∧ zco [65,67,62,68,69,10,11] a0 a ∧ Hid (Below W7.heap.size W7 w') ∧
    Hid (Gd fl2 (a.tmps.getD 65 undef = .agg #[.bool b9,.slice B9 m9 d9] ∧ zaE w' (sg9 false (zaj lb (zat lb 1))) b9 B9 m9 d9)) ∧
    Hid (Gd fl4 (a.tmps.getD 67 undef = .tuple #[.agg #[.bool b10,.slice B10 m10 d10,.slice E10 u10 v10],.bool true] ∧ zaF w' (Rat.divInt (sg9 false (zaj lb (zat lb 1))) ((zaj lb 1 : Nat) : Int)) b10 B10 m10 d10 E10 u10 v10)) ∧
    Hid (Gd fl5 (a.tmps.getD 62 undef = .tuple #[.agg #[.bool b10,.slice B10 m10 d10,.slice E10 u10 v10],.bool true])) ∧
    Hid (Gd fl6 (a.tmps.getD 68 undef = .agg #[.bool b10,.slice B10 m10 d10,.slice E10 u10 v10])) ∧
    Hid (Gd fl7 (a.tmps.getD 69 undef = .bool true)) ∧
    Hid (Gd fl10 (a.tmps.getD 11 undef = .bool true)) ∧
    Hid (Gd fl8 (a.tmps.getD 10 undef = .pointer (some ⟨ad8,0,none⟩) ∧ W7.heap.size ≤ ad8 ∧ Blk w' ad8 33 (bif fl9 then #[.bool b10,.slice B10 m10 d10,.slice E10 u10 v10] else #[.bool false,.slice none 0 0,.slice none 0 0]))) ∧
    Hid (Gd fl4 (fl2 = true)) ∧
    Hid (Gd fl5 (fl4 = true)) ∧
    Hid (Gd fl6 (fl5 = true)) ∧
    Hid (Gd fl7 (fl5 = true)) ∧
    Hid (Gd fl9 (fl4 = true)) ∧
    Hid (Gd fl9 (fl6 = true)) ∧
    Hid (Gd fl9 (fl8 = true)) ∧
    Hid (Gd fl10 (fl7 = true)) ∧
    Hid (Gd fl10 (fl9 = true)))
  (by rfl) ?_ ?_ ?_
 ·exact ⟨false,false,false,false,false,false,false,false,false,none,0,0,false,none,0,0,none,0,0,0,by kernel_rfl,zco.refl _ _,hHeld,Gd.no,Gd.no,Gd.no,Gd.no,Gd.no,Gd.no,Gd.no,Gd.no,Gd.no,Gd.no,Gd.no,Gd.no,Gd.no,Gd.no,Gd.no,Gd.no⟩
 ·intro OPS Ac0 Q0 hO hAs hA
  have RB63 : Ac0.tmps.getD 63 undef = .bool false:=(hA 63 undef).trans (by kernel_rfl)
  have RB64 : Ac0.tmps.getD 64 undef = .agg #[.slice B8 m8 d8]:=(hA 64 undef).trans (by kernel_rfl)
  have RB66 : Ac0.tmps.getD 66 undef = .agg #[.slice B7 m7 d7]:=(hA 66 undef).trans (by kernel_rfl)
  have hsz : Ac0.tmps.size = 83:=hAs.trans (by kernel_rfl)
  clear hAs hA
  refine ⟨?_,?_⟩
  ·rintro l a w' ⟨fl2,fl4,fl5,fl6,fl7,fl8,fl9,fl10,b9,B9,m9,d9,b10,B10,m10,d10,E10,u10,v10,ad8,rfl,-⟩ hr
   obtain rfl : fl2 = true:=als 2 hr hO
   obtain rfl : fl4 = true:=als 4 hr hO
   obtain rfl : fl5 = true:=als 5 hr hO
   obtain rfl : fl6 = true:=als 6 hr hO
   obtain rfl : fl7 = true:=als 7 hr hO
   obtain rfl : fl8 = true:=als 8 hr hO
   obtain rfl : fl9 = true:=als 9 hr hO
   obtain rfl : fl10 = true:=als 10 hr hO
   rfl
  ·rintro l a w' i ⟨fl2,fl4,fl5,fl6,fl7,fl8,fl9,fl10,b9,B9,m9,d9,b10,B10,m10,d10,E10,u10,v10,ad8,rfl,HKp,hBi,qf2,qf4,qf5,qf6,qf7,qf10,qf8,qd4_2,qd5_4,qd6_5,qd7_5,qd9_4,qd9_6,qd9_8,qd10_7,qd10_9⟩ hne hi
   have hlt : i < 11:=by have:=zcf hi; rw [hO] at this; exact this
   rcases (show i = 0 ∨ i = 1 ∨ i = 2 ∨ i = 3 ∨ i = 4 ∨ i = 5 ∨ i = 6 ∨ i = 7 ∨ i = 8 ∨ i = 9 ∨ i = 10 by omega) with rfl | rfl | rfl | rfl | rfl | rfl | rfl | rfl | rfl | rfl | rfl
   ·cases (zah hi : true = false)
   ·cases (zah hi : true = false)
   ·obtain rfl : fl2 = false:=zah hi
    obtain rfl : fl4 = false:=Gd.off qd4_2.out
    obtain rfl : fl5 = false:=Gd.off qd5_4.out
    obtain rfl : fl6 = false:=Gd.off qd6_5.out
    obtain rfl : fl7 = false:=Gd.off qd7_5.out
    obtain rfl : fl9 = false:=Gd.off qd9_4.out
    obtain rfl : fl10 = false:=Gd.off qd10_7.out
    have rd63:=HKp.get 63 (by decide) RB63
    have rd64:=HKp.get 64 (by decide) RB64
    refine wog hO (fun K' hK => ?_)
    go_simp
    refine (C0.out w' hBi.out).mono ?_
    rintro e w2 ⟨nb9,nB9,nm9,nd9,rfl,nhw9,hb⟩
    exact hK.out _ _ ⟨zac hBi.out hb,true,false,false,false,false,fl8,false,false,nb9,nB9,nm9,nd9,b10,B10,m10,d10,E10,u10,v10,ad8,by rfl,HKp.put (by decide) _,zac hBi.out hb,Gd.yes ⟨zaA (HKp.lt (by rw [hsz]; decide)) _,nhw9⟩,Gd.no,Gd.no,Gd.no,Gd.no,Gd.no,kq qf8.out fun h => ⟨h.1,zae hb h.2⟩,Gd.no,Gd.no,Gd.no,Gd.no,Gd.no,Gd.no,Gd.no,Gd.no,Gd.no⟩
   ·cases (zah hi : true = false)
   ·obtain rfl : fl4 = false:=zah hi
    obtain rfl : fl2 = true:=rdp 2 0 hi hO
    obtain rfl : fl5 = false:=Gd.off qd5_4.out
    obtain rfl : fl6 = false:=Gd.off qd6_5.out
    obtain rfl : fl7 = false:=Gd.off qd7_5.out
    obtain rfl : fl9 = false:=Gd.off qd9_4.out
    obtain rfl : fl10 = false:=Gd.off qd10_7.out
    have rd65:=qf2.out.get.1
    have rd66:=HKp.get 66 (by decide) RB66
    have hw9:=qf2.out.get.2
    refine wog hO (fun K' hK => ?_)
    go_simp
    refine (C1.out w' hBi.out _ _ _ _ hw9).mono ?_
    rintro e w2 ⟨nb10,nB10,nm10,nd10,nE10,nu10,nv10,rfl,nhw10,hb⟩
    exact hK.out _ _ ⟨zac hBi.out hb,true,true,false,false,false,fl8,false,false,b9,B9,m9,d9,nb10,nB10,nm10,nd10,nE10,nu10,nv10,ad8,by rfl,HKp.put (by decide) _,zac hBi.out hb,kq qf2.out fun h => (h).below hb,Gd.yes ⟨zaA (HKp.lt (by rw [hsz]; decide)) _,nhw10⟩,Gd.no,Gd.no,Gd.no,Gd.no,kq qf8.out fun h => ⟨h.1,zae hb h.2⟩,fun _ => rfl,Gd.no,Gd.no,Gd.no,Gd.no,Gd.no,Gd.no,Gd.no,Gd.no⟩
   ·obtain rfl : fl5 = false:=zah hi
    obtain rfl : fl4 = true:=rdp 4 0 hi hO
    obtain rfl : fl2 = true:=qd4_2.out.get
    obtain rfl : fl6 = false:=Gd.off qd6_5.out
    obtain rfl : fl7 = false:=Gd.off qd7_5.out
    obtain rfl : fl9 = false:=Gd.off qd9_6.out
    obtain rfl : fl10 = false:=Gd.off qd10_7.out
    have rd67:=qf4.out.get.1
    refine wog hO (fun K' hK => ?_)
    refine zaX (x:=67) (Or.inl rfl) rd67 ?_
    exact hK.out _ _ ⟨hBi.out,true,true,true,false,false,fl8,false,false,b9,B9,m9,d9,b10,B10,m10,d10,E10,u10,v10,ad8,by rfl,HKp.put (by decide) _,hBi.out,kq qf2.out fun h => (h),kq qf4.out fun h => (h),Gd.yes (zaA (HKp.lt (by rw [hsz]; decide)) _),Gd.no,Gd.no,Gd.no,kq qf8.out id,fun _ => rfl,fun _ => rfl,Gd.no,Gd.no,Gd.no,Gd.no,Gd.no,Gd.no,Gd.no⟩
   ·obtain rfl : fl6 = false:=zah hi
    obtain rfl : fl5 = true:=rdp 5 0 hi hO
    obtain rfl : fl4 = true:=qd5_4.out.get
    obtain rfl : fl2 = true:=qd4_2.out.get
    obtain rfl : fl9 = false:=Gd.off qd9_6.out
    obtain rfl : fl10 = false:=Gd.off qd10_9.out
    have rd62:=qf5.out.get
    refine wog hO (fun K' hK => ?_)
    refine zaD (x:=62) (k:=0) rfl rd62 rfl ?_
    exact hK.out _ _ ⟨hBi.out,true,true,true,true,fl7,fl8,false,false,b9,B9,m9,d9,b10,B10,m10,d10,E10,u10,v10,ad8,by rfl,HKp.put (by decide) _,hBi.out,kq qf2.out fun h => (h),kq qf4.out fun h => (h),kq0 qf5.out,Gd.yes (zaA (HKp.lt (by rw [hsz]; decide)) _),kq0 qf7.out,Gd.no,kq qf8.out id,fun _ => rfl,fun _ => rfl,fun _ => rfl,fun _ => rfl,Gd.no,Gd.no,Gd.no,Gd.no,Gd.no⟩
   ·obtain rfl : fl7 = false:=zah hi
    obtain rfl : fl5 = true:=rdp 5 0 hi hO
    obtain rfl : fl4 = true:=qd5_4.out.get
    obtain rfl : fl2 = true:=qd4_2.out.get
    obtain rfl : fl10 = false:=Gd.off qd10_7.out
    have rd62:=qf5.out.get
    refine wog hO (fun K' hK => ?_)
    refine zaD (x:=62) (k:=1) rfl rd62 rfl ?_
    exact hK.out _ _ ⟨hBi.out,true,true,true,fl6,true,fl8,fl9,false,b9,B9,m9,d9,b10,B10,m10,d10,E10,u10,v10,ad8,by rfl,HKp.put (by decide) _,hBi.out,kq qf2.out fun h => (h),kq qf4.out fun h => (h),kq0 qf5.out,kq0 qf6.out,Gd.yes (zaA (HKp.lt (by rw [hsz]; decide)) _),Gd.no,kq qf8.out id,fun _ => rfl,fun _ => rfl,fun _ => rfl,fun _ => rfl,fun _ => rfl,qd9_6,qd9_8,Gd.no,Gd.no⟩
   ·obtain rfl : fl8 = false:=zah hi
    obtain rfl : fl9 = false:=Gd.off qd9_8.out
    obtain rfl : fl10 = false:=Gd.off qd10_9.out
    refine wog hO (fun K' hK => ?_)
    go_simp
    have hb:=zbH w' (.cells #[.bool false,.slice none 0 0,.slice none 0 0] 33)
    exact hK.out _ _ ⟨zac hBi.out hb,fl2,fl4,fl5,fl6,fl7,true,false,false,b9,B9,m9,d9,b10,B10,m10,d10,E10,u10,v10,w'.heap.size,by rfl,HKp.put (by decide) _,zac hBi.out hb,kq qf2.out fun h => (h).below hb,kq qf4.out fun h => (h).below hb,kq0 qf5.out,kq0 qf6.out,kq0 qf7.out,Gd.no,Gd.yes ⟨zaA (HKp.lt (by rw [hsz]; decide)) _,hBi.out.size,Blk.new w' _ _⟩,qd4_2,qd5_4,qd6_5,qd7_5,Gd.no,Gd.no,Gd.no,Gd.no,Gd.no⟩
   ·obtain rfl : fl9 = false:=zah hi
    obtain rfl : fl2 = true:=rdp 2 5 hi hO
    obtain rfl : fl4 = true:=rdp 4 2 hi hO
    obtain rfl : fl5 = true:=rdp 5 8 hi hO
    obtain rfl : fl6 = true:=rdp 6 1 hi hO
    obtain rfl : fl8 = true:=rdp 8 0 hi hO
    obtain rfl : fl10 = false:=Gd.off qd10_9.out
    have rd10:=qf8.out.get.1
    have rd68:=qf6.out.get
    obtain ⟨_,hg,hk⟩:=qf8.out.get
    have hk : Blk w' ad8 33 #[.bool false,.slice none 0 0,.slice none 0 0]:=hk
    obtain ⟨sc0,sf0,sc1,sf1,sc2,sf2⟩:=st3 hk (.bool b10) (.slice B10 m10 d10)
    have hj2:=sn3 hk (.bool b10) (.slice B10 m10 d10) (.slice E10 u10 v10)
    have hBn:=bl3 (.bool b10) (.slice B10 m10 d10) (.slice E10 u10 v10) hg hBi.out
    refine wog hO (fun K' hK => ?_)
    go_simp
    exact hK.out _ _ ⟨hBn,true,true,true,true,fl7,true,true,false,b9,B9,m9,d9,b10,B10,m10,d10,E10,u10,v10,ad8,by rfl,HKp,hBn,qf2.out.mono fun h => ⟨h.1,zcx (h.2) hk zdE (zcy _ _ _ _ _)⟩,qf4.out.mono fun h => ⟨h.1,zbF (h.2) hk zdE (zcy _ _ _ _ _)⟩,qf5.out.mono fun h => h,qf6.out.mono fun h => h,qf7.out.mono fun h => h,Gd.no,qf8.out.mono fun h => ⟨h.1,h.2.1,hj2⟩,fun _ => rfl,fun _ => rfl,fun _ => rfl,fun _ => rfl,fun _ => rfl,fun _ => rfl,fun _ => rfl,Gd.no,Gd.no⟩
   ·obtain rfl : fl10 = false:=zah hi
    obtain rfl : fl2 = true:=rdp 2 4 hi hO
    obtain rfl : fl4 = true:=rdp 4 6 hi hO
    obtain rfl : fl5 = true:=rdp 5 7 hi hO
    obtain rfl : fl6 = true:=rdp 6 8 hi hO
    obtain rfl : fl7 = true:=rdp 7 0 hi hO
    obtain rfl : fl8 = true:=rdp 8 10 hi hO
    obtain rfl : fl9 = true:=rdp 9 1 hi hO
    have rd69:=qf7.out.get
    refine wog hO (fun K' hK => ?_)
    refine zaX (x:=69) (Or.inr rfl) rd69 ?_
    exact hK.out _ _ ⟨hBi.out,true,true,true,true,true,true,true,true,b9,B9,m9,d9,b10,B10,m10,d10,E10,u10,v10,ad8,by rfl,HKp.put (by decide) _,hBi.out,kq qf2.out fun h => (h),kq qf4.out fun h => (h),kq0 qf5.out,kq0 qf6.out,kq0 qf7.out,Gd.yes (zaA (HKp.lt (by rw [hsz]; decide)) _),kq qf8.out id,fun _ => rfl,fun _ => rfl,fun _ => rfl,fun _ => rfl,fun _ => rfl,fun _ => rfl,fun _ => rfl,fun _ => rfl,fun _ => rfl⟩
 rintro a wm8 ⟨fl2,fl4,fl5,fl6,fl7,fl8,fl9,fl10,b9,B9,m9,d9,b10,B10,m10,d10,E10,u10,v10,ad8,hl,HKp,hBi,qf2,qf4,qf5,qf6,qf7,qf10,qf8,qd4_2,qd5_4,qd6_5,qd7_5,qd9_4,qd9_6,qd9_8,qd10_7,qd10_9⟩
 have xx2 : fl2 = true:=gdl 2 hl
 subst xx2
 have xx4 : fl4 = true:=gdl 4 hl
 subst xx4
 have xx5 : fl5 = true:=gdl 5 hl
 subst xx5
 have xx6 : fl6 = true:=gdl 6 hl
 subst xx6
 have xx7 : fl7 = true:=gdl 7 hl
 subst xx7
 have xx8 : fl8 = true:=gdl 8 hl
 subst xx8
 have xx9 : fl9 = true:=gdl 9 hl
 subst xx9
 have xx10 : fl10 = true:=gdl 10 hl
 subst xx10
 obtain ⟨rv2,hw9⟩:=qf2.out.get
 obtain ⟨rv4,hw10⟩:=qf4.out.get
 have rv5:=qf5.out.get
 have rv6:=qf6.out.get
 have rv7:=qf7.out.get
 have rv10:=qf10.out.get
 obtain ⟨rv8,hg8,hk8⟩:=qf8.out.get
 obtain rfl:=HKp.eq [(65,.agg #[.bool b9,.slice B9 m9 d9]),(67,.tuple #[.agg #[.bool b10,.slice B10 m10 d10,.slice E10 u10 v10],.bool true]),(62,.tuple #[.agg #[.bool b10,.slice B10 m10 d10,.slice E10 u10 v10],.bool true]),(68,.agg #[.bool b10,.slice B10 m10 d10,.slice E10 u10 v10]),(69,.bool true),(10,.pointer (some ⟨ad8,0,none⟩)),(11,.bool true)] rfl (by
  intro p hp
  simp only [List.mem_cons,List.not_mem_nil,or_false] at hp
  rcases hp with rfl | rfl | rfl | rfl | rfl | rfl | rfl
  ·exact rv2
  ·exact rv4
  ·exact rv5
  ·exact rv6
  ·exact rv7
  ·exact rv8
  ·exact rv10)
 have hBv:=hBi.out
 clear hl hBi HKp qf2 qf4 qf5 qf6 qf7 qf10 qf8 qd4_2 qd5_4 qd6_5 qd7_5 qd9_4 qd9_6 qd9_8 qd10_7 qd10_9 rv2 rv4 rv5 rv6 rv7 rv8 rv10
 have hk8 : Blk wm8 ad8 33 #[.bool b10,.slice B10 m10 d10,.slice E10 u10 v10]:=hk8
 rw [show due #[true,true,true,true,true,true,true,true,true,true,true] = 0 from rfl]
 simp only [zcl,List.foldl,Act.put,List.setIfInBounds_toArray,List.set_cons_zero,List.set_cons_succ]
 refine wpAnyH_done (by kernel_rfl) ?_ _
 refine NoPanic.normal ?_
 have lt2_m8:=World.block_lt_of_cell? _ _ g2
 dsimp only at lt2_m8
 have lt6_m8:=World.block_lt_of_cell? _ _ g6
 dsimp only at lt6_m8
 have ltby0_m8:=World.block_lt_of_cell? _ _ gby0
 dsimp only at ltby0_m8
 have hB:=zac hB hBv
 have gby0:=zad hBv gby0
 have HN3:=lh9 (HN3.out.below hBv)
 have k1:=zae hBv k1
 have k4:=zae hBv k4
 have k2:=zae hBv k2
 have HN5:=lh9 (HN5.out.below hBv)
 have k6:=zae hBv k6
 have HN7:=lh9 (HN7.out.below hBv)
 have g6:=zad hBv g6
 have HN8:=lh9 (HN8.out.below hBv)
 have g2:=zad hBv g2
 obtain ⟨ad8_11,hga⟩ : ∃ x,x = ad8:=⟨_,rfl⟩
 subst hga
 obtain ⟨g11,e11,i11⟩:=hk8.c3
 have HN9:=lh9 hw9
 have HN10:=lh9 hw10
 clear hBv hk8 hw9 hw10 GG
 clear C0 C1
 go_wp2_with fail
 have C0:=lh9 (fun w' (h : Below wm8.heap.size wm8 w') => zdN (v:=3) ((by rw [HK.out]; rfl)) (zcc (Rat.divInt (sg9 false (zaj lb (zat lb 1))) ((zaj lb 1 : Nat) : Int)) b10 B10 m10 d10 E10 u10 v10 w' (HT.out _ (zac hB h)) (HN10.out.below h) (szq HZ10 HN10.out)))
 have hBw:=(Below.refl wm8.heap.size wm8).drew
 refine rg (csc g11 (csc e11 (csc i11 (csc gby0 csn)))) (fun hHeld => ?_)
 refine tk 0 ?_
 refine tk 1 ?_
 refine tk 2 ?_
 refine tk 4 ?_
 refine tk 5 ?_
 refine tk 6 ?_
 refine rc 3 (fun K hK => ?_)
 go_simp
 go_at_call 43; (with_reducible refine (C0.out _ hBw).mono ?_); rintro e wa9 ⟨rfl,hb⟩; have hBw:=zac hBw hb; refine hK.out _ _ (Cs.below hHeld hb) (fun hHeld => ?_); clear hK K hb
 try simp only [sb9]
 refine tk 7 ?_
 refine tk 8 ?_
 refine rdn ?_
 have hB:=zac hB hBw
 have gby0:=zad hBw gby0
 have HN3:=lh9 (HN3.out.below hBw)
 have k1:=zae hBw k1
 have k4:=zae hBw k4
 have k2:=zae hBw k2
 have HN5:=lh9 (HN5.out.below hBw)
 have k6:=zae hBw k6
 have HN7:=lh9 (HN7.out.below hBw)
 have g6:=zad hBw g6
 have HN8:=lh9 (HN8.out.below hBw)
 have g2:=zad hBw g2
 have g11:=zad hBw g11
 have e11:=zad hBw e11
 have i11:=zad hBw i11
 have HN9:=lh9 (HN9.out.below hBw)
 have HN10:=lh9 (HN10.out.below hBw)
 clear hBw hHeld C0
 obtain ⟨sc0,sf0,sc1,sf1,sc2,sf2⟩:=st3 k1 (.bool b10) (.slice B10 m10 d10)
 obtain ⟨r0,r1,r2⟩:=(sn3 k1 (.bool b10) (.slice B10 m10 d10) (.slice E10 u10 v10)).c3
 have HG:=lh9 (gd3 (HN10.out) (zeH _) (show ((zat lb (zat lb 1) : Nat) : Int) = ((zat lb (zat lb 1) : Nat) : Int) from rfl) k1 hB (by omega))
 go_wp2
 refine bodyPost_ret (v:=.tuple #[.agg #[.bool b10,.slice B10 m10 d10,.slice E10 u10 v10],.int .i64 ((zat lb (zat lb 1) : Nat) : Int),.nilIface]) (by simp [results,Tryz.results18,go_sem,r0,r1,r2]) rfl ?_
 exact HG.out
theorem zfn (lb : List Nat) (Baa : oA9) (maa daa : Nat) (w : World) (hT : zam w) (haa : zaB w lb Baa maa daa) (qaa : maa ≤ 2147483648) (h0 : 0 < maa) (hb : lb.getD 0 0 = 3) (he : zax lb 1 = 0) (hk1 : zat lb 1 ≤ maa) (he2 : zax lb (zat lb 1) = 0) (hd0 : zaj lb 1 ≠ 0) (how : decide ((Rat.divInt (sg9 false (zaj lb (zat lb 1))) ((zaj lb 1 : Nat) : Int)).den = zaj lb 1) = false) :
  Calls Tryz.prog 18 #[.slice Baa maa daa] w (zbd w (.bare 91,0,0)):=by
 have HIC:=lh9 (zbh (T:=zam))
 have HT:=lh9 (fun w' (hb : Below w.heap.size w w') => hT.on hb)
 obtain ⟨K,hKe⟩ : ∃ K,67108864 = K:=⟨_,rfl⟩
 have hKK : K ≤ 67108864:=by omega
 have hK0 : 0 < K:=by omega
 have hK9 : 255 ≤ K:=by omega
 have ef1:=zaH
 have ef2:=zaJ
 have ef3:=zaM
 have ef4:=zaN
 have i0 : ((maa : Int) == 0) = false:=by rw [beq_eq_false_iff_ne]; omega
 have i1 : (0 : Int) < (maa : Int):=by omega
 have HBY:=lh9 haa
 have HE:=lh9 he
 have HE2:=lh9 he2
 have HD0:=lh9 hd0
 have HOW:=lh9 how
 have HNaa:=lh9 (fun w' (b : Below w.heap.size w w') => haa.below b)
 have hlnaa:=haa.len
 have hcpaa:=haa.2.2
 obtain ⟨gb,ob,ib,rfl,hgb,hb0,gby0⟩:=haa.first (by omega)
 have gby0 : w.cell? ⟨gb,ob,ib⟩ = some (.int .u8 3):=by rw [gby0,hb]; rfl
 clear hb0
 clear haa
 clear hT hKe hb he he2 hd0 how
 go_enter Tryz.func18,Tryz.ntmps18
 have hB:=Below.refl w.heap.size w
 have HN3:=lh9 (zaQ w)
 have HZ3 : Hid (Sz 1 0):=zbK 1
 have kk2:=(zbp w 33 29 81 #[.bool false,.slice none 0 0,.slice none 0 0] #[.slice none 0 0] #[.int .u64 1]).2.2.1
 obtain ⟨bx1,bx2,bx3,bx4,bz⟩:=zbp w 33 29 81 #[.bool false,.slice none 0 0,.slice none 0 0] #[.slice none 0 0] #[.int .u64 1]
 have hB:=zac hB bx1
 have gby0:=zad bx1 gby0
 have HN3:=lh9 (HN3.out.below bx1)
 have k1:=bx2
 have g2:=bx3.c1
 have k4:=bx4
 clear bx1 bx2 bx3 bx4 bz
 go_wp2_with fail
 generalize ((w.alloc (.cells #[.bool false,.slice none 0 0,.slice none 0 0] 33)).alloc (.cells #[.slice none 0 0] 29)).alloc (.cells #[.int .u64 1] 81) = W1 at *
 have k2:=kk2
 clear kk2
 have HZ5 : Hid (Sz (1) (1)):=(by show (1 : Nat) < 18446744073709551616 ^ 1; decide)
 (with_reducible refine (zby _ [1] _ _ 1 (1) k4 rfl rfl (zeG 1 (by decide)) rfl (by decide)).mono ?_)
 rintro e wc2 ⟨B5,m5,d5,rfl,hw5,hb,_⟩
 have hB:=zac hB hb
 have gby0:=zad hb gby0
 have HN3:=lh9 (HN3.out.below hb)
 have k1:=zae hb k1
 have g2:=zad hb g2
 have k4:=zae hb k4
 have k2:=zae hb k2
 have HN5:=lh9 hw5
 clear hb hw5
 have lt1_2 : w.heap.size < wc2.heap.size:=k1.lt
 have lt2_2 : w.heap.size + 1 < wc2.heap.size:=World.block_lt_of_cell? wc2 ⟨w.heap.size + 1,0,none⟩ g2
 have lt4_2 : w.heap.size + 1 + 1 < wc2.heap.size:=k4.lt
 have hq2:=hB.size
 have kk6:=(zaz wc2 29 #[.slice B5 m5 d5]).2.1
 have gmby0_1 : (wc2.alloc (.cells #[.slice B5 m5 d5] 29)).cell? ⟨gb,ob,ib⟩ = some (.int .u8 3):=zal _ (gby0)
 obtain ⟨bx1,bx2,bz⟩:=zaz wc2 29 #[.slice B5 m5 d5]
 have hB:=zac hB bx1
 have gby0:=zad bx1 gby0
 have HN3:=lh9 (HN3.out.below bx1)
 have k1:=zae bx1 k1
 have g2:=zad bx1 g2
 have k4:=zae bx1 k4
 have k2:=zae bx1 k2
 have HN5:=lh9 (HN5.out.below bx1)
 have g6:=bx2.c1
 clear bx1 bx2 bz
 go_wp2_with fail
 clear gmby0_1
 generalize wc2.alloc (.cells #[.slice B5 m5 d5] 29) = W3 at *
 generalize wc2.heap.size = q3 at *
 have k6:=kk6
 clear kk6
 have HZ7 : Hid (Sz K (zaj lb 1)):=zbq HBY.out hK9
 (with_reducible refine (zaO lb 1 1 ({ data:=#[100,105,118,105,115,111,114] }) (some ⟨gb,ob,ib⟩) maa daa _ (HT.out _ hB) (HNaa.out _ hB) (by omega) (by omega) HE.out rfl).mono ?_)
 rintro e wc4 ⟨B7,m7,d7,rfl,hw7,hb⟩
 have hB:=zac hB hb
 have gby0:=zad hb gby0
 have HN3:=lh9 (HN3.out.below hb)
 have k1:=zae hb k1
 have g2:=zad hb g2
 have k4:=zae hb k4
 have k2:=zae hb k2
 have HN5:=lh9 (HN5.out.below hb)
 have g6:=zad hb g6
 have k6:=zae hb k6
 have HN7:=lh9 hw7
 clear hb hw7
 obtain ⟨sc0,sf0⟩:=st1 k6
 have kz0:=sn1 k6 (.slice B7 m7 d7)
 have gby0:=zag (q:=⟨q3,0,none⟩) (.slice B7 m7 d7) (by show gb ≠ q3; omega) (gby0)
 have HN3:=lh9 (zak HN3.out k6 (NoU.s1 _ _ _) (zaP _ _ (.slice B7 m7 d7)))
 have k1:=Blk.far (p:=⟨q3,0,none⟩) (k1) (by show w.heap.size ≠ q3; omega) (.slice B7 m7 d7)
 have g2:=zag (q:=⟨q3,0,none⟩) (.slice B7 m7 d7) (by show w.heap.size + 1 ≠ q3; omega) (g2)
 have k4:=Blk.far (p:=⟨q3,0,none⟩) (k4) (by show w.heap.size + 1 + 1 ≠ q3; omega) (.slice B7 m7 d7)
 have k2:=Blk.far (p:=⟨q3,0,none⟩) (k2) (by show w.heap.size + 1 ≠ q3; omega) (.slice B7 m7 d7)
 have HN5:=lh9 (zak HN5.out k6 (NoU.s1 _ _ _) (zaP _ _ (.slice B7 m7 d7)))
 have HN7:=lh9 (zak HN7.out k6 (NoU.s1 _ _ _) (zaP _ _ (.slice B7 m7 d7)))
 have hB:=bl1 (.slice B7 m7 d7) (by show w.heap.size ≤ q3; omega) hB
 have g6 : (wc4.setCell ⟨q3,0,none⟩ (.slice B7 m7 d7)).cell? ⟨q3,0,none⟩ = some (.slice B7 m7 d7):=kz0.cell 0
 have k6:=kz0
 go_upto_region 13 with fail
 clear sc0 sf0 kz0
 generalize wc4.setCell ⟨q3,0,none⟩ (.slice B7 m7 d7) = W5 at *
 go_wp2_with fail
 have HZ8 : Hid (Sz K (zaj lb (zat lb 1))):=zbq HBY.out hK9
 (with_reducible refine (zaO lb (zat lb 1) (((zat lb 1 : Nat) : Int)) ({ data:=#[110,117,109,98,101,114] }) (some ⟨gb,ob,ib⟩) maa daa _ (HT.out _ hB) (HNaa.out _ hB) (by omega) (by omega) HE2.out rfl).mono ?_)
 rintro e wc6 ⟨B8,m8,d8,rfl,hw8,hb⟩
 have hB:=zac hB hb
 have gby0:=zad hb gby0
 have HN3:=lh9 (HN3.out.below hb)
 have k1:=zae hb k1
 have g2:=zad hb g2
 have k4:=zae hb k4
 have k2:=zae hb k2
 have HN5:=lh9 (HN5.out.below hb)
 have k6:=zae hb k6
 have HN7:=lh9 (HN7.out.below hb)
 have g6:=zad hb g6
 have HN8:=lh9 hw8
 clear hb hw8
 obtain ⟨sc0,sf0⟩:=st1 k2
 have kz0:=sn1 k2 (.slice B8 m8 d8)
 have gby0:=zag (q:=⟨w.heap.size + 1,0,none⟩) (.slice B8 m8 d8) (by show gb ≠ w.heap.size + 1; omega) (gby0)
 have HN3:=lh9 (zak HN3.out k2 (NoU.s1 _ _ _) (zaP _ _ (.slice B8 m8 d8)))
 have k1:=Blk.far (p:=⟨w.heap.size + 1,0,none⟩) (k1) (by show w.heap.size ≠ w.heap.size + 1; omega) (.slice B8 m8 d8)
 have k4:=Blk.far (p:=⟨w.heap.size + 1,0,none⟩) (k4) (by show w.heap.size + 1 + 1 ≠ w.heap.size + 1; omega) (.slice B8 m8 d8)
 have HN5:=lh9 (zak HN5.out k2 (NoU.s1 _ _ _) (zaP _ _ (.slice B8 m8 d8)))
 have k6:=Blk.far (p:=⟨w.heap.size + 1,0,none⟩) (k6) (by show q3 ≠ w.heap.size + 1; omega) (.slice B8 m8 d8)
 have HN7:=lh9 (zak HN7.out k2 (NoU.s1 _ _ _) (zaP _ _ (.slice B8 m8 d8)))
 have g6:=zag (q:=⟨w.heap.size + 1,0,none⟩) (.slice B8 m8 d8) (by show q3 ≠ w.heap.size + 1; omega) (g6)
 have HN8:=lh9 (zak HN8.out k2 (NoU.s1 _ _ _) (zaP _ _ (.slice B8 m8 d8)))
 have hB:=bl1 (.slice B8 m8 d8) (by show w.heap.size ≤ w.heap.size + 1; omega) hB
 have g2 : (wc6.setCell ⟨w.heap.size + 1,0,none⟩ (.slice B8 m8 d8)).cell? ⟨w.heap.size + 1,0,none⟩ = some (.slice B8 m8 d8):=kz0.cell 0
 have k2:=kz0
 go_upto_region 16 with fail
 clear sc0 sf0 kz0
 generalize wc6.setCell ⟨w.heap.size + 1,0,none⟩ (.slice B8 m8 d8) = W7 at *
 go_wp2_with fail
 have HZ9 : Hid (Sz (K) (sg9 false (zaj lb (zat lb 1))).natAbs):=(by rw [zbJ]; exact HZ8.out)
 have C0:=lh9 (fun w' (h : Below W7.heap.size W7 w') => zgC HIC.out false (zaj lb (zat lb 1)) B8 m8 d8 w' (HT.out _ (zac hB h)) (HN8.out.below h) (szw HZ8 HN8.out))
 have HZ10 : Hid (SzQ (K) (Rat.divInt (sg9 false (zaj lb (zat lb 1))) ((zaj lb 1 : Nat) : Int))):=SzQ.made HZ9.out (by rw [Int.natAbs_natCast]; exact HZ7.out) (by omega)
 have C1:=lh9 (fun w' (h : Below W7.heap.size W7 w') b9 B9 m9 d9 (hw9 : zaE w' (sg9 false (zaj lb (zat lb 1))) b9 B9 m9 d9) => zcM (rfl) (HOW.out) (zbO (sg9 false (zaj lb (zat lb 1))) (zaj lb 1) b9 B9 m9 d9 B7 m7 d7 w' (HT.out _ (zac hB h)) hw9 (HN7.out.below h) (szi HZ9 hw9) (szw HZ7 HN7.out) HD0.out))
 have lt1_m7:=k1.lt
 have lt4_m7:=k4.lt
 have lt2_m7:=k2.lt
 have lt6_m7:=k6.lt
 have GG:=lh9 (fun w' (h : Below W7.heap.size W7 w') => (csc (zad h g2) (csc (zad h g6) csn)))
 refine rgB (fun hHeld => ?_)
 refine tl 0 GG.out ?_
 refine tl 1 GG.out ?_
 refine tl 3 GG.out ?_
 refine zbk (L:=#[true,true,true,true,true,true,true,true,true,true,true])
  (J:=fun a0 l a w' => ∃ (fl2 fl4 fl5 fl6 fl7 fl8 fl9 fl10 b9 : Bool) (B9 : oA9) (m9 d9 : Nat) (b10 : Bool) (B10 : oA9) (m10 d10 : Nat) (E10 : oA9) (u10 v10 ad8 : Nat),l = #[true,true,fl2,true,fl4,fl5,fl6,fl7,fl8,fl9,fl10] ∧ zco [65,67,62,68,69,10,11] a0 a ∧ Hid (Below W7.heap.size W7 w') ∧
    Hid (Gd fl2 (a.tmps.getD 65 undef = .agg #[.bool b9,.slice B9 m9 d9] ∧ zaE w' (sg9 false (zaj lb (zat lb 1))) b9 B9 m9 d9)) ∧
    Hid (Gd fl4 (a.tmps.getD 67 undef = .tuple #[.agg #[.bool b10,.slice B10 m10 d10,.slice E10 u10 v10],.bool false] ∧ zaF w' (Rat.divInt (sg9 false (zaj lb (zat lb 1))) ((zaj lb 1 : Nat) : Int)) b10 B10 m10 d10 E10 u10 v10)) ∧
    Hid (Gd fl5 (a.tmps.getD 62 undef = .tuple #[.agg #[.bool b10,.slice B10 m10 d10,.slice E10 u10 v10],.bool false])) ∧
    Hid (Gd fl6 (a.tmps.getD 68 undef = .agg #[.bool b10,.slice B10 m10 d10,.slice E10 u10 v10])) ∧
    Hid (Gd fl7 (a.tmps.getD 69 undef = .bool false)) ∧
    Hid (Gd fl10 (a.tmps.getD 11 undef = .bool false)) ∧
    Hid (Gd fl8 (a.tmps.getD 10 undef = .pointer (some ⟨ad8,0,none⟩) ∧ W7.heap.size ≤ ad8 ∧ Blk w' ad8 33 (bif fl9 then #[.bool b10,.slice B10 m10 d10,.slice E10 u10 v10] else #[.bool false,.slice none 0 0,.slice none 0 0]))) ∧
    Hid (Gd fl4 (fl2 = true)) ∧
    Hid (Gd fl5 (fl4 = true)) ∧
    Hid (Gd fl6 (fl5 = true)) ∧
    Hid (Gd fl7 (fl5 = true)) ∧
    Hid (Gd fl9 (fl4 = true)) ∧
    Hid (Gd fl9 (fl6 = true)) ∧
    Hid (Gd fl9 (fl8 = true)) ∧
    Hid (Gd fl10 (fl7 = true)) ∧
    Hid (Gd fl10 (fl9 = true)))
  (by rfl) ?_ ?_ ?_
 ·exact ⟨false,false,false,false,false,false,false,false,false,none,0,0,false,none,0,0,none,0,0,0,by kernel_rfl,zco.refl _ _,hHeld,Gd.no,Gd.no,Gd.no,Gd.no,Gd.no,Gd.no,Gd.no,Gd.no,Gd.no,Gd.no,Gd.no,Gd.no,Gd.no,Gd.no,Gd.no,Gd.no⟩
 ·intro OPS Ac0 Q0 hO hAs hA
  have RB63 : Ac0.tmps.getD 63 undef = .bool false:=(hA 63 undef).trans (by kernel_rfl)
  have RB64 : Ac0.tmps.getD 64 undef = .agg #[.slice B8 m8 d8]:=(hA 64 undef).trans (by kernel_rfl)
  have RB66 : Ac0.tmps.getD 66 undef = .agg #[.slice B7 m7 d7]:=(hA 66 undef).trans (by kernel_rfl)
  have hsz : Ac0.tmps.size = 83:=hAs.trans (by kernel_rfl)
  clear hAs hA
  refine ⟨?_,?_⟩
  ·rintro l a w' ⟨fl2,fl4,fl5,fl6,fl7,fl8,fl9,fl10,b9,B9,m9,d9,b10,B10,m10,d10,E10,u10,v10,ad8,rfl,-⟩ hr
   obtain rfl : fl2 = true:=als 2 hr hO
   obtain rfl : fl4 = true:=als 4 hr hO
   obtain rfl : fl5 = true:=als 5 hr hO
   obtain rfl : fl6 = true:=als 6 hr hO
   obtain rfl : fl7 = true:=als 7 hr hO
   obtain rfl : fl8 = true:=als 8 hr hO
   obtain rfl : fl9 = true:=als 9 hr hO
   obtain rfl : fl10 = true:=als 10 hr hO
   rfl
  ·rintro l a w' i ⟨fl2,fl4,fl5,fl6,fl7,fl8,fl9,fl10,b9,B9,m9,d9,b10,B10,m10,d10,E10,u10,v10,ad8,rfl,HKp,hBi,qf2,qf4,qf5,qf6,qf7,qf10,qf8,qd4_2,qd5_4,qd6_5,qd7_5,qd9_4,qd9_6,qd9_8,qd10_7,qd10_9⟩ hne hi
   have hlt : i < 11:=by have:=zcf hi; rw [hO] at this; exact this
   rcases (show i = 0 ∨ i = 1 ∨ i = 2 ∨ i = 3 ∨ i = 4 ∨ i = 5 ∨ i = 6 ∨ i = 7 ∨ i = 8 ∨ i = 9 ∨ i = 10 by omega) with rfl | rfl | rfl | rfl | rfl | rfl | rfl | rfl | rfl | rfl | rfl
   ·cases (zah hi : true = false)
   ·cases (zah hi : true = false)
   ·obtain rfl : fl2 = false:=zah hi
    obtain rfl : fl4 = false:=Gd.off qd4_2.out
    obtain rfl : fl5 = false:=Gd.off qd5_4.out
    obtain rfl : fl6 = false:=Gd.off qd6_5.out
    obtain rfl : fl7 = false:=Gd.off qd7_5.out
    obtain rfl : fl9 = false:=Gd.off qd9_4.out
    obtain rfl : fl10 = false:=Gd.off qd10_7.out
    have rd63:=HKp.get 63 (by decide) RB63
    have rd64:=HKp.get 64 (by decide) RB64
    refine wog hO (fun K' hK => ?_)
    go_simp
    refine (C0.out w' hBi.out).mono ?_
    rintro e w2 ⟨nb9,nB9,nm9,nd9,rfl,nhw9,hb⟩
    exact hK.out _ _ ⟨zac hBi.out hb,true,false,false,false,false,fl8,false,false,nb9,nB9,nm9,nd9,b10,B10,m10,d10,E10,u10,v10,ad8,by rfl,HKp.put (by decide) _,zac hBi.out hb,Gd.yes ⟨zaA (HKp.lt (by rw [hsz]; decide)) _,nhw9⟩,Gd.no,Gd.no,Gd.no,Gd.no,Gd.no,kq qf8.out fun h => ⟨h.1,zae hb h.2⟩,Gd.no,Gd.no,Gd.no,Gd.no,Gd.no,Gd.no,Gd.no,Gd.no,Gd.no⟩
   ·cases (zah hi : true = false)
   ·obtain rfl : fl4 = false:=zah hi
    obtain rfl : fl2 = true:=rdp 2 0 hi hO
    obtain rfl : fl5 = false:=Gd.off qd5_4.out
    obtain rfl : fl6 = false:=Gd.off qd6_5.out
    obtain rfl : fl7 = false:=Gd.off qd7_5.out
    obtain rfl : fl9 = false:=Gd.off qd9_4.out
    obtain rfl : fl10 = false:=Gd.off qd10_7.out
    have rd65:=qf2.out.get.1
    have rd66:=HKp.get 66 (by decide) RB66
    have hw9:=qf2.out.get.2
    refine wog hO (fun K' hK => ?_)
    go_simp
    refine (C1.out w' hBi.out _ _ _ _ hw9).mono ?_
    rintro e w2 ⟨nb10,nB10,nm10,nd10,nE10,nu10,nv10,rfl,nhw10,hb⟩
    exact hK.out _ _ ⟨zac hBi.out hb,true,true,false,false,false,fl8,false,false,b9,B9,m9,d9,nb10,nB10,nm10,nd10,nE10,nu10,nv10,ad8,by rfl,HKp.put (by decide) _,zac hBi.out hb,kq qf2.out fun h => (h).below hb,Gd.yes ⟨zaA (HKp.lt (by rw [hsz]; decide)) _,nhw10⟩,Gd.no,Gd.no,Gd.no,Gd.no,kq qf8.out fun h => ⟨h.1,zae hb h.2⟩,fun _ => rfl,Gd.no,Gd.no,Gd.no,Gd.no,Gd.no,Gd.no,Gd.no,Gd.no⟩
   ·obtain rfl : fl5 = false:=zah hi
    obtain rfl : fl4 = true:=rdp 4 0 hi hO
    obtain rfl : fl2 = true:=qd4_2.out.get
    obtain rfl : fl6 = false:=Gd.off qd6_5.out
    obtain rfl : fl7 = false:=Gd.off qd7_5.out
    obtain rfl : fl9 = false:=Gd.off qd9_6.out
    obtain rfl : fl10 = false:=Gd.off qd10_7.out
    have rd67:=qf4.out.get.1
    refine wog hO (fun K' hK => ?_)
    refine zaX (x:=67) (Or.inl rfl) rd67 ?_
    exact hK.out _ _ ⟨hBi.out,true,true,true,false,false,fl8,false,false,b9,B9,m9,d9,b10,B10,m10,d10,E10,u10,v10,ad8,by rfl,HKp.put (by decide) _,hBi.out,kq qf2.out fun h => (h),kq qf4.out fun h => (h),Gd.yes (zaA (HKp.lt (by rw [hsz]; decide)) _),Gd.no,Gd.no,Gd.no,kq qf8.out id,fun _ => rfl,fun _ => rfl,Gd.no,Gd.no,Gd.no,Gd.no,Gd.no,Gd.no,Gd.no⟩
   ·obtain rfl : fl6 = false:=zah hi
    obtain rfl : fl5 = true:=rdp 5 0 hi hO
    obtain rfl : fl4 = true:=qd5_4.out.get
    obtain rfl : fl2 = true:=qd4_2.out.get
    obtain rfl : fl9 = false:=Gd.off qd9_6.out
    obtain rfl : fl10 = false:=Gd.off qd10_9.out
    have rd62:=qf5.out.get
    refine wog hO (fun K' hK => ?_)
    refine zaD (x:=62) (k:=0) rfl rd62 rfl ?_
    exact hK.out _ _ ⟨hBi.out,true,true,true,true,fl7,fl8,false,false,b9,B9,m9,d9,b10,B10,m10,d10,E10,u10,v10,ad8,by rfl,HKp.put (by decide) _,hBi.out,kq qf2.out fun h => (h),kq qf4.out fun h => (h),kq0 qf5.out,Gd.yes (zaA (HKp.lt (by rw [hsz]; decide)) _),kq0 qf7.out,Gd.no,kq qf8.out id,fun _ => rfl,fun _ => rfl,fun _ => rfl,fun _ => rfl,Gd.no,Gd.no,Gd.no,Gd.no,Gd.no⟩
   ·obtain rfl : fl7 = false:=zah hi
    obtain rfl : fl5 = true:=rdp 5 0 hi hO
    obtain rfl : fl4 = true:=qd5_4.out.get
    obtain rfl : fl2 = true:=qd4_2.out.get
    obtain rfl : fl10 = false:=Gd.off qd10_7.out
    have rd62:=qf5.out.get
    refine wog hO (fun K' hK => ?_)
    refine zaD (x:=62) (k:=1) rfl rd62 rfl ?_
    exact hK.out _ _ ⟨hBi.out,true,true,true,fl6,true,fl8,fl9,false,b9,B9,m9,d9,b10,B10,m10,d10,E10,u10,v10,ad8,by rfl,HKp.put (by decide) _,hBi.out,kq qf2.out fun h => (h),kq qf4.out fun h => (h),kq0 qf5.out,kq0 qf6.out,Gd.yes (zaA (HKp.lt (by rw [hsz]; decide)) _),Gd.no,kq qf8.out id,fun _ => rfl,fun _ => rfl,fun _ => rfl,fun _ => rfl,fun _ => rfl,qd9_6,qd9_8,Gd.no,Gd.no⟩
   ·obtain rfl : fl8 = false:=zah hi
    obtain rfl : fl9 = false:=Gd.off qd9_8.out
    obtain rfl : fl10 = false:=Gd.off qd10_9.out
    refine wog hO (fun K' hK => ?_)
    go_simp
    have hb:=zbH w' (.cells #[.bool false,.slice none 0 0,.slice none 0 0] 33)
    exact hK.out _ _ ⟨zac hBi.out hb,fl2,fl4,fl5,fl6,fl7,true,false,false,b9,B9,m9,d9,b10,B10,m10,d10,E10,u10,v10,w'.heap.size,by rfl,HKp.put (by decide) _,zac hBi.out hb,kq qf2.out fun h => (h).below hb,kq qf4.out fun h => (h).below hb,kq0 qf5.out,kq0 qf6.out,kq0 qf7.out,Gd.no,Gd.yes ⟨zaA (HKp.lt (by rw [hsz]; decide)) _,hBi.out.size,Blk.new w' _ _⟩,qd4_2,qd5_4,qd6_5,qd7_5,Gd.no,Gd.no,Gd.no,Gd.no,Gd.no⟩
   ·obtain rfl : fl9 = false:=zah hi
    obtain rfl : fl2 = true:=rdp 2 5 hi hO
    obtain rfl : fl4 = true:=rdp 4 2 hi hO
    obtain rfl : fl5 = true:=rdp 5 8 hi hO
    obtain rfl : fl6 = true:=rdp 6 1 hi hO
    obtain rfl : fl8 = true:=rdp 8 0 hi hO
    obtain rfl : fl10 = false:=Gd.off qd10_9.out
    have rd10:=qf8.out.get.1
    have rd68:=qf6.out.get
    obtain ⟨_,hg,hk⟩:=qf8.out.get
    have hk : Blk w' ad8 33 #[.bool false,.slice none 0 0,.slice none 0 0]:=hk
    obtain ⟨sc0,sf0,sc1,sf1,sc2,sf2⟩:=st3 hk (.bool b10) (.slice B10 m10 d10)
    have hj2:=sn3 hk (.bool b10) (.slice B10 m10 d10) (.slice E10 u10 v10)
    have hBn:=bl3 (.bool b10) (.slice B10 m10 d10) (.slice E10 u10 v10) hg hBi.out
    refine wog hO (fun K' hK => ?_)
    go_simp
    exact hK.out _ _ ⟨hBn,true,true,true,true,fl7,true,true,false,b9,B9,m9,d9,b10,B10,m10,d10,E10,u10,v10,ad8,by rfl,HKp,hBn,qf2.out.mono fun h => ⟨h.1,zcx (h.2) hk zdE (zcy _ _ _ _ _)⟩,qf4.out.mono fun h => ⟨h.1,zbF (h.2) hk zdE (zcy _ _ _ _ _)⟩,qf5.out.mono fun h => h,qf6.out.mono fun h => h,qf7.out.mono fun h => h,Gd.no,qf8.out.mono fun h => ⟨h.1,h.2.1,hj2⟩,fun _ => rfl,fun _ => rfl,fun _ => rfl,fun _ => rfl,fun _ => rfl,fun _ => rfl,fun _ => rfl,Gd.no,Gd.no⟩
   ·obtain rfl : fl10 = false:=zah hi
    obtain rfl : fl2 = true:=rdp 2 4 hi hO
    obtain rfl : fl4 = true:=rdp 4 6 hi hO
    obtain rfl : fl5 = true:=rdp 5 7 hi hO
    obtain rfl : fl6 = true:=rdp 6 8 hi hO
    obtain rfl : fl7 = true:=rdp 7 0 hi hO
    obtain rfl : fl8 = true:=rdp 8 10 hi hO
    obtain rfl : fl9 = true:=rdp 9 1 hi hO
    have rd69:=qf7.out.get
    refine wog hO (fun K' hK => ?_)
    refine zaX (x:=69) (Or.inr rfl) rd69 ?_
    exact hK.out _ _ ⟨hBi.out,true,true,true,true,true,true,true,true,b9,B9,m9,d9,b10,B10,m10,d10,E10,u10,v10,ad8,by rfl,HKp.put (by decide) _,hBi.out,kq qf2.out fun h => (h),kq qf4.out fun h => (h),kq0 qf5.out,kq0 qf6.out,kq0 qf7.out,Gd.yes (zaA (HKp.lt (by rw [hsz]; decide)) _),kq qf8.out id,fun _ => rfl,fun _ => rfl,fun _ => rfl,fun _ => rfl,fun _ => rfl,fun _ => rfl,fun _ => rfl,fun _ => rfl,fun _ => rfl⟩
 rintro a wm8 ⟨fl2,fl4,fl5,fl6,fl7,fl8,fl9,fl10,b9,B9,m9,d9,b10,B10,m10,d10,E10,u10,v10,ad8,hl,HKp,hBi,qf2,qf4,qf5,qf6,qf7,qf10,qf8,qd4_2,qd5_4,qd6_5,qd7_5,qd9_4,qd9_6,qd9_8,qd10_7,qd10_9⟩
 have xx2 : fl2 = true:=gdl 2 hl
 subst xx2
 have xx4 : fl4 = true:=gdl 4 hl
 subst xx4
 have xx5 : fl5 = true:=gdl 5 hl
 subst xx5
 have xx6 : fl6 = true:=gdl 6 hl
 subst xx6
 have xx7 : fl7 = true:=gdl 7 hl
 subst xx7
 have xx8 : fl8 = true:=gdl 8 hl
 subst xx8
 have xx9 : fl9 = true:=gdl 9 hl
 subst xx9
 have xx10 : fl10 = true:=gdl 10 hl
 subst xx10
 obtain ⟨rv2,hw9⟩:=qf2.out.get
 obtain ⟨rv4,hw10⟩:=qf4.out.get
 have rv5:=qf5.out.get
 have rv6:=qf6.out.get
 have rv7:=qf7.out.get
 have rv10:=qf10.out.get
 obtain ⟨rv8,hg8,hk8⟩:=qf8.out.get
 obtain rfl:=HKp.eq [(65,.agg #[.bool b9,.slice B9 m9 d9]),(67,.tuple #[.agg #[.bool b10,.slice B10 m10 d10,.slice E10 u10 v10],.bool false]),(62,.tuple #[.agg #[.bool b10,.slice B10 m10 d10,.slice E10 u10 v10],.bool false]),(68,.agg #[.bool b10,.slice B10 m10 d10,.slice E10 u10 v10]),(69,.bool false),(10,.pointer (some ⟨ad8,0,none⟩)),(11,.bool false)] rfl (by
  intro p hp
  simp only [List.mem_cons,List.not_mem_nil,or_false] at hp
  rcases hp with rfl | rfl | rfl | rfl | rfl | rfl | rfl
  ·exact rv2
  ·exact rv4
  ·exact rv5
  ·exact rv6
  ·exact rv7
  ·exact rv8
  ·exact rv10)
 have hBv:=hBi.out
 clear hl hBi HKp qf2 qf4 qf5 qf6 qf7 qf10 qf8 qd4_2 qd5_4 qd6_5 qd7_5 qd9_4 qd9_6 qd9_8 qd10_7 qd10_9 rv2 rv4 rv5 rv6 rv7 rv8 rv10
 have hk8 : Blk wm8 ad8 33 #[.bool b10,.slice B10 m10 d10,.slice E10 u10 v10]:=hk8
 rw [show due #[true,true,true,true,true,true,true,true,true,true,true] = 0 from rfl]
 simp only [zcl,List.foldl,Act.put,List.setIfInBounds_toArray,List.set_cons_zero,List.set_cons_succ]
 refine wpAnyH_done (by kernel_rfl) ?_ _
 refine NoPanic.normal ?_
 have lt2_m8:=World.block_lt_of_cell? _ _ g2
 dsimp only at lt2_m8
 have lt6_m8:=World.block_lt_of_cell? _ _ g6
 dsimp only at lt6_m8
 have ltby0_m8:=World.block_lt_of_cell? _ _ gby0
 dsimp only at ltby0_m8
 have hB:=zac hB hBv
 have gby0:=zad hBv gby0
 have HN3:=lh9 (HN3.out.below hBv)
 have k1:=zae hBv k1
 have k4:=zae hBv k4
 have k2:=zae hBv k2
 have HN5:=lh9 (HN5.out.below hBv)
 have k6:=zae hBv k6
 have HN7:=lh9 (HN7.out.below hBv)
 have g6:=zad hBv g6
 have HN8:=lh9 (HN8.out.below hBv)
 have g2:=zad hBv g2
 obtain ⟨ad8_11,hga⟩ : ∃ x,x = ad8:=⟨_,rfl⟩
 subst hga
 obtain ⟨g11,e11,i11⟩:=hk8.c3
 have HN9:=lh9 hw9
 have HN10:=lh9 hw10
 clear hBv hk8 hw9 hw10 GG
 clear C0 C1
 go_wp2_with fail
 have hBw:=(Below.refl wm8.heap.size wm8).drew
 refine rg csn (fun hHeld => ?_)
 refine tk 0 ?_
 refine tk 1 ?_
 refine tu 2 ?_
 refine tu 3 ?_
 refine tu 4 ?_
 refine tu 5 ?_
 refine tu 6 ?_
 refine tu 7 ?_
 refine tk 8 ?_
 refine rdn ?_
 have hB:=zac hB hBw
 have gby0:=zad hBw gby0
 have HN3:=lh9 (HN3.out.below hBw)
 have k1:=zae hBw k1
 have k4:=zae hBw k4
 have k2:=zae hBw k2
 have HN5:=lh9 (HN5.out.below hBw)
 have k6:=zae hBw k6
 have HN7:=lh9 (HN7.out.below hBw)
 have g6:=zad hBw g6
 have HN8:=lh9 (HN8.out.below hBw)
 have g2:=zad hBw g2
 have g11:=zad hBw g11
 have e11:=zad hBw e11
 have i11:=zad hBw i11
 have HN9:=lh9 (HN9.out.below hBw)
 have HN10:=lh9 (HN10.out.below hBw)
 clear hBw hHeld
 have HN12:=lh9 (zaS wm8.drew)
 generalize wm8.drew = Wd9 at *
 obtain ⟨sc0,sf0,sc1,sf1,sc2,sf2⟩:=st3 k1 (.bool false) (.slice none 0 0)
 obtain ⟨r0,r1,r2⟩:=(sn3 k1 (.bool false) (.slice none 0 0) (.slice none 0 0)).c3
 have HG:=lh9 (gd3 (HN12.out) (zdq 91 _) (show (0 : Int) = ((0 : Nat) : Int) from rfl) k1 hB (by omega))
 go_wp2
 refine bodyPost_ret (v:=.tuple #[.agg #[.bool false,.slice none 0 0,.slice none 0 0],.int .i64 0,.iface 47 (.int .i64 91)]) (by simp [results,Tryz.results18,go_sem,r0,r1,r2]) rfl ?_
 exact HG.out
theorem ziX (lb : List Nat) (Baa : oA9) (maa daa : Nat) (w : World) (hT : zam w) (haa : zaB w lb Baa maa daa) (qaa : maa ≤ 2147483648) (h0 : 0 < maa) (hb : lb.getD 0 0 = 3) (he : zax lb 1 = 0) (hk1 : zat lb 1 ≤ maa) (he2 : zax lb (zat lb 1) = 0) (hd0 : zaj lb 1 ≠ 0) (how : decide ((Rat.divInt (sg9 false (zaj lb (zat lb 1))) ((zaj lb 1 : Nat) : Int)).den = zaj lb 1) = true) (hk : zbM (Rat.divInt (sg9 false (zaj lb (zat lb 1))) ((zaj lb 1 : Nat) : Int)) ≠ 3) :
  Calls Tryz.prog 18 #[.slice Baa maa daa] w (zbd w (.bare 91,0,0)):=by
 have HIC:=lh9 (zbh (T:=zam))
 have HT:=lh9 (fun w' (hb : Below w.heap.size w w') => hT.on hb)
 obtain ⟨K,hKe⟩ : ∃ K,67108864 = K:=⟨_,rfl⟩
 have hKK : K ≤ 67108864:=by omega
 have hK0 : 0 < K:=by omega
 have hK9 : 255 ≤ K:=by omega
 have ef1:=zaH
 have ef2:=zaJ
 have ef3:=zaM
 have ef4:=zaN
 have i0 : ((maa : Int) == 0) = false:=by rw [beq_eq_false_iff_ne]; omega
 have i1 : (0 : Int) < (maa : Int):=by omega
 have HBY:=lh9 haa
 have HE:=lh9 he
 have HE2:=lh9 he2
 have HD0:=lh9 hd0
 have HOW:=lh9 how
 obtain ⟨kk,hkk⟩ : ∃ v,zbM (Rat.divInt (sg9 false (zaj lb (zat lb 1))) ((zaj lb 1 : Nat) : Int)) = v:=⟨_,rfl⟩
 have HK:=lh9 hkk
 have kb1 : ((kk : Int) == 3) = false:=by rw [beq_eq_false_iff_ne]; omega
 clear hkk
 have HNaa:=lh9 (fun w' (b : Below w.heap.size w w') => haa.below b)
 have hlnaa:=haa.len
 have hcpaa:=haa.2.2
 obtain ⟨gb,ob,ib,rfl,hgb,hb0,gby0⟩:=haa.first (by omega)
 have gby0 : w.cell? ⟨gb,ob,ib⟩ = some (.int .u8 3):=by rw [gby0,hb]; rfl
 clear hb0
 clear haa
 clear hT hKe hb he he2 hd0 how hk
 go_enter Tryz.func18,Tryz.ntmps18
 have hB:=Below.refl w.heap.size w
 have HN3:=lh9 (zaQ w)
 have HZ3 : Hid (Sz 1 0):=zbK 1
 have kk2:=(zbp w 33 29 81 #[.bool false,.slice none 0 0,.slice none 0 0] #[.slice none 0 0] #[.int .u64 1]).2.2.1
 obtain ⟨bx1,bx2,bx3,bx4,bz⟩:=zbp w 33 29 81 #[.bool false,.slice none 0 0,.slice none 0 0] #[.slice none 0 0] #[.int .u64 1]
 have hB:=zac hB bx1
 have gby0:=zad bx1 gby0
 have HN3:=lh9 (HN3.out.below bx1)
 have k1:=bx2
 have g2:=bx3.c1
 have k4:=bx4
 clear bx1 bx2 bx3 bx4 bz
 go_wp2_with fail
 generalize ((w.alloc (.cells #[.bool false,.slice none 0 0,.slice none 0 0] 33)).alloc (.cells #[.slice none 0 0] 29)).alloc (.cells #[.int .u64 1] 81) = W1 at *
 have k2:=kk2
 clear kk2
 have HZ5 : Hid (Sz (1) (1)):=(by show (1 : Nat) < 18446744073709551616 ^ 1; decide)
 (with_reducible refine (zby _ [1] _ _ 1 (1) k4 rfl rfl (zeG 1 (by decide)) rfl (by decide)).mono ?_)
 rintro e wc2 ⟨B5,m5,d5,rfl,hw5,hb,_⟩
 have hB:=zac hB hb
 have gby0:=zad hb gby0
 have HN3:=lh9 (HN3.out.below hb)
 have k1:=zae hb k1
 have g2:=zad hb g2
 have k4:=zae hb k4
 have k2:=zae hb k2
 have HN5:=lh9 hw5
 clear hb hw5
 have lt1_2 : w.heap.size < wc2.heap.size:=k1.lt
 have lt2_2 : w.heap.size + 1 < wc2.heap.size:=World.block_lt_of_cell? wc2 ⟨w.heap.size + 1,0,none⟩ g2
 have lt4_2 : w.heap.size + 1 + 1 < wc2.heap.size:=k4.lt
 have hq2:=hB.size
 have kk6:=(zaz wc2 29 #[.slice B5 m5 d5]).2.1
 have gmby0_1 : (wc2.alloc (.cells #[.slice B5 m5 d5] 29)).cell? ⟨gb,ob,ib⟩ = some (.int .u8 3):=zal _ (gby0)
 obtain ⟨bx1,bx2,bz⟩:=zaz wc2 29 #[.slice B5 m5 d5]
 have hB:=zac hB bx1
 have gby0:=zad bx1 gby0
 have HN3:=lh9 (HN3.out.below bx1)
 have k1:=zae bx1 k1
 have g2:=zad bx1 g2
 have k4:=zae bx1 k4
 have k2:=zae bx1 k2
 have HN5:=lh9 (HN5.out.below bx1)
 have g6:=bx2.c1
 clear bx1 bx2 bz
 go_wp2_with fail
 clear gmby0_1
 generalize wc2.alloc (.cells #[.slice B5 m5 d5] 29) = W3 at *
 generalize wc2.heap.size = q3 at *
 have k6:=kk6
 clear kk6
 have HZ7 : Hid (Sz K (zaj lb 1)):=zbq HBY.out hK9
 (with_reducible refine (zaO lb 1 1 ({ data:=#[100,105,118,105,115,111,114] }) (some ⟨gb,ob,ib⟩) maa daa _ (HT.out _ hB) (HNaa.out _ hB) (by omega) (by omega) HE.out rfl).mono ?_)
 rintro e wc4 ⟨B7,m7,d7,rfl,hw7,hb⟩
 have hB:=zac hB hb
 have gby0:=zad hb gby0
 have HN3:=lh9 (HN3.out.below hb)
 have k1:=zae hb k1
 have g2:=zad hb g2
 have k4:=zae hb k4
 have k2:=zae hb k2
 have HN5:=lh9 (HN5.out.below hb)
 have g6:=zad hb g6
 have k6:=zae hb k6
 have HN7:=lh9 hw7
 clear hb hw7
 obtain ⟨sc0,sf0⟩:=st1 k6
 have kz0:=sn1 k6 (.slice B7 m7 d7)
 have gby0:=zag (q:=⟨q3,0,none⟩) (.slice B7 m7 d7) (by show gb ≠ q3; omega) (gby0)
 have HN3:=lh9 (zak HN3.out k6 (NoU.s1 _ _ _) (zaP _ _ (.slice B7 m7 d7)))
 have k1:=Blk.far (p:=⟨q3,0,none⟩) (k1) (by show w.heap.size ≠ q3; omega) (.slice B7 m7 d7)
 have g2:=zag (q:=⟨q3,0,none⟩) (.slice B7 m7 d7) (by show w.heap.size + 1 ≠ q3; omega) (g2)
 have k4:=Blk.far (p:=⟨q3,0,none⟩) (k4) (by show w.heap.size + 1 + 1 ≠ q3; omega) (.slice B7 m7 d7)
 have k2:=Blk.far (p:=⟨q3,0,none⟩) (k2) (by show w.heap.size + 1 ≠ q3; omega) (.slice B7 m7 d7)
 have HN5:=lh9 (zak HN5.out k6 (NoU.s1 _ _ _) (zaP _ _ (.slice B7 m7 d7)))
 have HN7:=lh9 (zak HN7.out k6 (NoU.s1 _ _ _) (zaP _ _ (.slice B7 m7 d7)))
 have hB:=bl1 (.slice B7 m7 d7) (by show w.heap.size ≤ q3; omega) hB
 have g6 : (wc4.setCell ⟨q3,0,none⟩ (.slice B7 m7 d7)).cell? ⟨q3,0,none⟩ = some (.slice B7 m7 d7):=kz0.cell 0
 have k6:=kz0
 go_upto_region 13 with fail
 clear sc0 sf0 kz0
 generalize wc4.setCell ⟨q3,0,none⟩ (.slice B7 m7 d7) = W5 at *
 go_wp2_with fail
 have HZ8 : Hid (Sz K (zaj lb (zat lb 1))):=zbq HBY.out hK9
 (with_reducible refine (zaO lb (zat lb 1) (((zat lb 1 : Nat) : Int)) ({ data:=#[110,117,109,98,101,114] }) (some ⟨gb,ob,ib⟩) maa daa _ (HT.out _ hB) (HNaa.out _ hB) (by omega) (by omega) HE2.out rfl).mono ?_)
 rintro e wc6 ⟨B8,m8,d8,rfl,hw8,hb⟩
 have hB:=zac hB hb
 have gby0:=zad hb gby0
 have HN3:=lh9 (HN3.out.below hb)
 have k1:=zae hb k1
 have g2:=zad hb g2
 have k4:=zae hb k4
 have k2:=zae hb k2
 have HN5:=lh9 (HN5.out.below hb)
 have k6:=zae hb k6
 have HN7:=lh9 (HN7.out.below hb)
 have g6:=zad hb g6
 have HN8:=lh9 hw8
 clear hb hw8
 obtain ⟨sc0,sf0⟩:=st1 k2
 have kz0:=sn1 k2 (.slice B8 m8 d8)
 have gby0:=zag (q:=⟨w.heap.size + 1,0,none⟩) (.slice B8 m8 d8) (by show gb ≠ w.heap.size + 1; omega) (gby0)
 have HN3:=lh9 (zak HN3.out k2 (NoU.s1 _ _ _) (zaP _ _ (.slice B8 m8 d8)))
 have k1:=Blk.far (p:=⟨w.heap.size + 1,0,none⟩) (k1) (by show w.heap.size ≠ w.heap.size + 1; omega) (.slice B8 m8 d8)
 have k4:=Blk.far (p:=⟨w.heap.size + 1,0,none⟩) (k4) (by show w.heap.size + 1 + 1 ≠ w.heap.size + 1; omega) (.slice B8 m8 d8)
 have HN5:=lh9 (zak HN5.out k2 (NoU.s1 _ _ _) (zaP _ _ (.slice B8 m8 d8)))
 have k6:=Blk.far (p:=⟨w.heap.size + 1,0,none⟩) (k6) (by show q3 ≠ w.heap.size + 1; omega) (.slice B8 m8 d8)
 have HN7:=lh9 (zak HN7.out k2 (NoU.s1 _ _ _) (zaP _ _ (.slice B8 m8 d8)))
 have g6:=zag (q:=⟨w.heap.size + 1,0,none⟩) (.slice B8 m8 d8) (by show q3 ≠ w.heap.size + 1; omega) (g6)
 have HN8:=lh9 (zak HN8.out k2 (NoU.s1 _ _ _) (zaP _ _ (.slice B8 m8 d8)))
 have hB:=bl1 (.slice B8 m8 d8) (by show w.heap.size ≤ w.heap.size + 1; omega) hB
 have g2 : (wc6.setCell ⟨w.heap.size + 1,0,none⟩ (.slice B8 m8 d8)).cell? ⟨w.heap.size + 1,0,none⟩ = some (.slice B8 m8 d8):=kz0.cell 0
 have k2:=kz0
 go_upto_region 16 with fail
 clear sc0 sf0 kz0
 generalize wc6.setCell ⟨w.heap.size + 1,0,none⟩ (.slice B8 m8 d8) = W7 at *
 go_wp2_with fail
 have HZ9 : Hid (Sz (K) (sg9 false (zaj lb (zat lb 1))).natAbs):=(by rw [zbJ]; exact HZ8.out)
 have C0:=lh9 (fun w' (h : Below W7.heap.size W7 w') => zgC HIC.out false (zaj lb (zat lb 1)) B8 m8 d8 w' (HT.out _ (zac hB h)) (HN8.out.below h) (szw HZ8 HN8.out))
 have HZ10 : Hid (SzQ (K) (Rat.divInt (sg9 false (zaj lb (zat lb 1))) ((zaj lb 1 : Nat) : Int))):=SzQ.made HZ9.out (by rw [Int.natAbs_natCast]; exact HZ7.out) (by omega)
 have C1:=lh9 (fun w' (h : Below W7.heap.size W7 w') b9 B9 m9 d9 (hw9 : zaE w' (sg9 false (zaj lb (zat lb 1))) b9 B9 m9 d9) => zcM (rfl) (HOW.out) (zbO (sg9 false (zaj lb (zat lb 1))) (zaj lb 1) b9 B9 m9 d9 B7 m7 d7 w' (HT.out _ (zac hB h)) hw9 (HN7.out.below h) (szi HZ9 hw9) (szw HZ7 HN7.out) HD0.out))
 have lt1_m7:=k1.lt
 have lt4_m7:=k4.lt
 have lt2_m7:=k2.lt
 have lt6_m7:=k6.lt
 have GG:=lh9 (fun w' (h : Below W7.heap.size W7 w') => (csc (zad h g2) (csc (zad h g6) csn)))
 refine rgB (fun hHeld => ?_)
 refine tl 0 GG.out ?_
 refine tl 1 GG.out ?_
 refine tl 3 GG.out ?_
 refine zbk (L:=#[true,true,true,true,true,true,true,true,true,true,true])
  (J:=fun a0 l a w' => ∃ (fl2 fl4 fl5 fl6 fl7 fl8 fl9 fl10 b9 : Bool) (B9 : oA9) (m9 d9 : Nat) (b10 : Bool) (B10 : oA9) (m10 d10 : Nat) (E10 : oA9) (u10 v10 ad8 : Nat),l = #[true,true,fl2,true,fl4,fl5,fl6,fl7,fl8,fl9,fl10] ∧ zco [65,67,62,68,69,10,11] a0 a ∧ Hid (Below W7.heap.size W7 w') ∧
    Hid (Gd fl2 (a.tmps.getD 65 undef = .agg #[.bool b9,.slice B9 m9 d9] ∧ zaE w' (sg9 false (zaj lb (zat lb 1))) b9 B9 m9 d9)) ∧
    Hid (Gd fl4 (a.tmps.getD 67 undef = .tuple #[.agg #[.bool b10,.slice B10 m10 d10,.slice E10 u10 v10],.bool true] ∧ zaF w' (Rat.divInt (sg9 false (zaj lb (zat lb 1))) ((zaj lb 1 : Nat) : Int)) b10 B10 m10 d10 E10 u10 v10)) ∧
    Hid (Gd fl5 (a.tmps.getD 62 undef = .tuple #[.agg #[.bool b10,.slice B10 m10 d10,.slice E10 u10 v10],.bool true])) ∧
    Hid (Gd fl6 (a.tmps.getD 68 undef = .agg #[.bool b10,.slice B10 m10 d10,.slice E10 u10 v10])) ∧
    Hid (Gd fl7 (a.tmps.getD 69 undef = .bool true)) ∧
    Hid (Gd fl10 (a.tmps.getD 11 undef = .bool true)) ∧
    Hid (Gd fl8 (a.tmps.getD 10 undef = .pointer (some ⟨ad8,0,none⟩) ∧ W7.heap.size ≤ ad8 ∧ Blk w' ad8 33 (bif fl9 then #[.bool b10,.slice B10 m10 d10,.slice E10 u10 v10] else #[.bool false,.slice none 0 0,.slice none 0 0]))) ∧
    Hid (Gd fl4 (fl2 = true)) ∧
    Hid (Gd fl5 (fl4 = true)) ∧
    Hid (Gd fl6 (fl5 = true)) ∧
    Hid (Gd fl7 (fl5 = true)) ∧
    Hid (Gd fl9 (fl4 = true)) ∧
    Hid (Gd fl9 (fl6 = true)) ∧
    Hid (Gd fl9 (fl8 = true)) ∧
    Hid (Gd fl10 (fl7 = true)) ∧
    Hid (Gd fl10 (fl9 = true)))
  (by rfl) ?_ ?_ ?_
 ·exact ⟨false,false,false,false,false,false,false,false,false,none,0,0,false,none,0,0,none,0,0,0,by kernel_rfl,zco.refl _ _,hHeld,Gd.no,Gd.no,Gd.no,Gd.no,Gd.no,Gd.no,Gd.no,Gd.no,Gd.no,Gd.no,Gd.no,Gd.no,Gd.no,Gd.no,Gd.no,Gd.no⟩
 ·intro OPS Ac0 Q0 hO hAs hA
  have RB63 : Ac0.tmps.getD 63 undef = .bool false:=(hA 63 undef).trans (by kernel_rfl)
  have RB64 : Ac0.tmps.getD 64 undef = .agg #[.slice B8 m8 d8]:=(hA 64 undef).trans (by kernel_rfl)
  have RB66 : Ac0.tmps.getD 66 undef = .agg #[.slice B7 m7 d7]:=(hA 66 undef).trans (by kernel_rfl)
  have hsz : Ac0.tmps.size = 83:=hAs.trans (by kernel_rfl)
  clear hAs hA
  refine ⟨?_,?_⟩
  ·rintro l a w' ⟨fl2,fl4,fl5,fl6,fl7,fl8,fl9,fl10,b9,B9,m9,d9,b10,B10,m10,d10,E10,u10,v10,ad8,rfl,-⟩ hr
   obtain rfl : fl2 = true:=als 2 hr hO
   obtain rfl : fl4 = true:=als 4 hr hO
   obtain rfl : fl5 = true:=als 5 hr hO
   obtain rfl : fl6 = true:=als 6 hr hO
   obtain rfl : fl7 = true:=als 7 hr hO
   obtain rfl : fl8 = true:=als 8 hr hO
   obtain rfl : fl9 = true:=als 9 hr hO
   obtain rfl : fl10 = true:=als 10 hr hO
   rfl
  ·rintro l a w' i ⟨fl2,fl4,fl5,fl6,fl7,fl8,fl9,fl10,b9,B9,m9,d9,b10,B10,m10,d10,E10,u10,v10,ad8,rfl,HKp,hBi,qf2,qf4,qf5,qf6,qf7,qf10,qf8,qd4_2,qd5_4,qd6_5,qd7_5,qd9_4,qd9_6,qd9_8,qd10_7,qd10_9⟩ hne hi
   have hlt : i < 11:=by have:=zcf hi; rw [hO] at this; exact this
   rcases (show i = 0 ∨ i = 1 ∨ i = 2 ∨ i = 3 ∨ i = 4 ∨ i = 5 ∨ i = 6 ∨ i = 7 ∨ i = 8 ∨ i = 9 ∨ i = 10 by omega) with rfl | rfl | rfl | rfl | rfl | rfl | rfl | rfl | rfl | rfl | rfl
   ·cases (zah hi : true = false)
   ·cases (zah hi : true = false)
   ·obtain rfl : fl2 = false:=zah hi
    obtain rfl : fl4 = false:=Gd.off qd4_2.out
    obtain rfl : fl5 = false:=Gd.off qd5_4.out
    obtain rfl : fl6 = false:=Gd.off qd6_5.out
    obtain rfl : fl7 = false:=Gd.off qd7_5.out
    obtain rfl : fl9 = false:=Gd.off qd9_4.out
    obtain rfl : fl10 = false:=Gd.off qd10_7.out
    have rd63:=HKp.get 63 (by decide) RB63
    have rd64:=HKp.get 64 (by decide) RB64
    refine wog hO (fun K' hK => ?_)
    go_simp
    refine (C0.out w' hBi.out).mono ?_
    rintro e w2 ⟨nb9,nB9,nm9,nd9,rfl,nhw9,hb⟩
    exact hK.out _ _ ⟨zac hBi.out hb,true,false,false,false,false,fl8,false,false,nb9,nB9,nm9,nd9,b10,B10,m10,d10,E10,u10,v10,ad8,by rfl,HKp.put (by decide) _,zac hBi.out hb,Gd.yes ⟨zaA (HKp.lt (by rw [hsz]; decide)) _,nhw9⟩,Gd.no,Gd.no,Gd.no,Gd.no,Gd.no,kq qf8.out fun h => ⟨h.1,zae hb h.2⟩,Gd.no,Gd.no,Gd.no,Gd.no,Gd.no,Gd.no,Gd.no,Gd.no,Gd.no⟩
   ·cases (zah hi : true = false)
   ·obtain rfl : fl4 = false:=zah hi
    obtain rfl : fl2 = true:=rdp 2 0 hi hO
    obtain rfl : fl5 = false:=Gd.off qd5_4.out
    obtain rfl : fl6 = false:=Gd.off qd6_5.out
    obtain rfl : fl7 = false:=Gd.off qd7_5.out
    obtain rfl : fl9 = false:=Gd.off qd9_4.out
    obtain rfl : fl10 = false:=Gd.off qd10_7.out
    have rd65:=qf2.out.get.1
    have rd66:=HKp.get 66 (by decide) RB66
    have hw9:=qf2.out.get.2
    refine wog hO (fun K' hK => ?_)
    go_simp
    refine (C1.out w' hBi.out _ _ _ _ hw9).mono ?_
    rintro e w2 ⟨nb10,nB10,nm10,nd10,nE10,nu10,nv10,rfl,nhw10,hb⟩
    exact hK.out _ _ ⟨zac hBi.out hb,true,true,false,false,false,fl8,false,false,b9,B9,m9,d9,nb10,nB10,nm10,nd10,nE10,nu10,nv10,ad8,by rfl,HKp.put (by decide) _,zac hBi.out hb,kq qf2.out fun h => (h).below hb,Gd.yes ⟨zaA (HKp.lt (by rw [hsz]; decide)) _,nhw10⟩,Gd.no,Gd.no,Gd.no,Gd.no,kq qf8.out fun h => ⟨h.1,zae hb h.2⟩,fun _ => rfl,Gd.no,Gd.no,Gd.no,Gd.no,Gd.no,Gd.no,Gd.no,Gd.no⟩
   ·obtain rfl : fl5 = false:=zah hi
    obtain rfl : fl4 = true:=rdp 4 0 hi hO
    obtain rfl : fl2 = true:=qd4_2.out.get
    obtain rfl : fl6 = false:=Gd.off qd6_5.out
    obtain rfl : fl7 = false:=Gd.off qd7_5.out
    obtain rfl : fl9 = false:=Gd.off qd9_6.out
    obtain rfl : fl10 = false:=Gd.off qd10_7.out
    have rd67:=qf4.out.get.1
    refine wog hO (fun K' hK => ?_)
    refine zaX (x:=67) (Or.inl rfl) rd67 ?_
    exact hK.out _ _ ⟨hBi.out,true,true,true,false,false,fl8,false,false,b9,B9,m9,d9,b10,B10,m10,d10,E10,u10,v10,ad8,by rfl,HKp.put (by decide) _,hBi.out,kq qf2.out fun h => (h),kq qf4.out fun h => (h),Gd.yes (zaA (HKp.lt (by rw [hsz]; decide)) _),Gd.no,Gd.no,Gd.no,kq qf8.out id,fun _ => rfl,fun _ => rfl,Gd.no,Gd.no,Gd.no,Gd.no,Gd.no,Gd.no,Gd.no⟩
   ·obtain rfl : fl6 = false:=zah hi
    obtain rfl : fl5 = true:=rdp 5 0 hi hO
    obtain rfl : fl4 = true:=qd5_4.out.get
    obtain rfl : fl2 = true:=qd4_2.out.get
    obtain rfl : fl9 = false:=Gd.off qd9_6.out
    obtain rfl : fl10 = false:=Gd.off qd10_9.out
    have rd62:=qf5.out.get
    refine wog hO (fun K' hK => ?_)
    refine zaD (x:=62) (k:=0) rfl rd62 rfl ?_
    exact hK.out _ _ ⟨hBi.out,true,true,true,true,fl7,fl8,false,false,b9,B9,m9,d9,b10,B10,m10,d10,E10,u10,v10,ad8,by rfl,HKp.put (by decide) _,hBi.out,kq qf2.out fun h => (h),kq qf4.out fun h => (h),kq0 qf5.out,Gd.yes (zaA (HKp.lt (by rw [hsz]; decide)) _),kq0 qf7.out,Gd.no,kq qf8.out id,fun _ => rfl,fun _ => rfl,fun _ => rfl,fun _ => rfl,Gd.no,Gd.no,Gd.no,Gd.no,Gd.no⟩
   ·obtain rfl : fl7 = false:=zah hi
    obtain rfl : fl5 = true:=rdp 5 0 hi hO
    obtain rfl : fl4 = true:=qd5_4.out.get
    obtain rfl : fl2 = true:=qd4_2.out.get
    obtain rfl : fl10 = false:=Gd.off qd10_7.out
    have rd62:=qf5.out.get
    refine wog hO (fun K' hK => ?_)
    refine zaD (x:=62) (k:=1) rfl rd62 rfl ?_
    exact hK.out _ _ ⟨hBi.out,true,true,true,fl6,true,fl8,fl9,false,b9,B9,m9,d9,b10,B10,m10,d10,E10,u10,v10,ad8,by rfl,HKp.put (by decide) _,hBi.out,kq qf2.out fun h => (h),kq qf4.out fun h => (h),kq0 qf5.out,kq0 qf6.out,Gd.yes (zaA (HKp.lt (by rw [hsz]; decide)) _),Gd.no,kq qf8.out id,fun _ => rfl,fun _ => rfl,fun _ => rfl,fun _ => rfl,fun _ => rfl,qd9_6,qd9_8,Gd.no,Gd.no⟩
   ·obtain rfl : fl8 = false:=zah hi
    obtain rfl : fl9 = false:=Gd.off qd9_8.out
    obtain rfl : fl10 = false:=Gd.off qd10_9.out
    refine wog hO (fun K' hK => ?_)
    go_simp
    have hb:=zbH w' (.cells #[.bool false,.slice none 0 0,.slice none 0 0] 33)
    exact hK.out _ _ ⟨zac hBi.out hb,fl2,fl4,fl5,fl6,fl7,true,false,false,b9,B9,m9,d9,b10,B10,m10,d10,E10,u10,v10,w'.heap.size,by rfl,HKp.put (by decide) _,zac hBi.out hb,kq qf2.out fun h => (h).below hb,kq qf4.out fun h => (h).below hb,kq0 qf5.out,kq0 qf6.out,kq0 qf7.out,Gd.no,Gd.yes ⟨zaA (HKp.lt (by rw [hsz]; decide)) _,hBi.out.size,Blk.new w' _ _⟩,qd4_2,qd5_4,qd6_5,qd7_5,Gd.no,Gd.no,Gd.no,Gd.no,Gd.no⟩
   ·obtain rfl : fl9 = false:=zah hi
    obtain rfl : fl2 = true:=rdp 2 5 hi hO
    obtain rfl : fl4 = true:=rdp 4 2 hi hO
    obtain rfl : fl5 = true:=rdp 5 8 hi hO
    obtain rfl : fl6 = true:=rdp 6 1 hi hO
    obtain rfl : fl8 = true:=rdp 8 0 hi hO
    obtain rfl : fl10 = false:=Gd.off qd10_9.out
    have rd10:=qf8.out.get.1
    have rd68:=qf6.out.get
    obtain ⟨_,hg,hk⟩:=qf8.out.get
    have hk : Blk w' ad8 33 #[.bool false,.slice none 0 0,.slice none 0 0]:=hk
    obtain ⟨sc0,sf0,sc1,sf1,sc2,sf2⟩:=st3 hk (.bool b10) (.slice B10 m10 d10)
    have hj2:=sn3 hk (.bool b10) (.slice B10 m10 d10) (.slice E10 u10 v10)
    have hBn:=bl3 (.bool b10) (.slice B10 m10 d10) (.slice E10 u10 v10) hg hBi.out
    refine wog hO (fun K' hK => ?_)
    go_simp
    exact hK.out _ _ ⟨hBn,true,true,true,true,fl7,true,true,false,b9,B9,m9,d9,b10,B10,m10,d10,E10,u10,v10,ad8,by rfl,HKp,hBn,qf2.out.mono fun h => ⟨h.1,zcx (h.2) hk zdE (zcy _ _ _ _ _)⟩,qf4.out.mono fun h => ⟨h.1,zbF (h.2) hk zdE (zcy _ _ _ _ _)⟩,qf5.out.mono fun h => h,qf6.out.mono fun h => h,qf7.out.mono fun h => h,Gd.no,qf8.out.mono fun h => ⟨h.1,h.2.1,hj2⟩,fun _ => rfl,fun _ => rfl,fun _ => rfl,fun _ => rfl,fun _ => rfl,fun _ => rfl,fun _ => rfl,Gd.no,Gd.no⟩
   ·obtain rfl : fl10 = false:=zah hi
    obtain rfl : fl2 = true:=rdp 2 4 hi hO
    obtain rfl : fl4 = true:=rdp 4 6 hi hO
    obtain rfl : fl5 = true:=rdp 5 7 hi hO
    obtain rfl : fl6 = true:=rdp 6 8 hi hO
    obtain rfl : fl7 = true:=rdp 7 0 hi hO
    obtain rfl : fl8 = true:=rdp 8 10 hi hO
    obtain rfl : fl9 = true:=rdp 9 1 hi hO
    have rd69:=qf7.out.get
    refine wog hO (fun K' hK => ?_)
    refine zaX (x:=69) (Or.inr rfl) rd69 ?_
    exact hK.out _ _ ⟨hBi.out,true,true,true,true,true,true,true,true,b9,B9,m9,d9,b10,B10,m10,d10,E10,u10,v10,ad8,by rfl,HKp.put (by decide) _,hBi.out,kq qf2.out fun h => (h),kq qf4.out fun h => (h),kq0 qf5.out,kq0 qf6.out,kq0 qf7.out,Gd.yes (zaA (HKp.lt (by rw [hsz]; decide)) _),kq qf8.out id,fun _ => rfl,fun _ => rfl,fun _ => rfl,fun _ => rfl,fun _ => rfl,fun _ => rfl,fun _ => rfl,fun _ => rfl,fun _ => rfl⟩
 rintro a wm8 ⟨fl2,fl4,fl5,fl6,fl7,fl8,fl9,fl10,b9,B9,m9,d9,b10,B10,m10,d10,E10,u10,v10,ad8,hl,HKp,hBi,qf2,qf4,qf5,qf6,qf7,qf10,qf8,qd4_2,qd5_4,qd6_5,qd7_5,qd9_4,qd9_6,qd9_8,qd10_7,qd10_9⟩
 have xx2 : fl2 = true:=gdl 2 hl
 subst xx2
 have xx4 : fl4 = true:=gdl 4 hl
 subst xx4
 have xx5 : fl5 = true:=gdl 5 hl
 subst xx5
 have xx6 : fl6 = true:=gdl 6 hl
 subst xx6
 have xx7 : fl7 = true:=gdl 7 hl
 subst xx7
 have xx8 : fl8 = true:=gdl 8 hl
 subst xx8
 have xx9 : fl9 = true:=gdl 9 hl
 subst xx9
 have xx10 : fl10 = true:=gdl 10 hl
 subst xx10
 obtain ⟨rv2,hw9⟩:=qf2.out.get
 obtain ⟨rv4,hw10⟩:=qf4.out.get
 have rv5:=qf5.out.get
 have rv6:=qf6.out.get
 have rv7:=qf7.out.get
 have rv10:=qf10.out.get
 obtain ⟨rv8,hg8,hk8⟩:=qf8.out.get
 obtain rfl:=HKp.eq [(65,.agg #[.bool b9,.slice B9 m9 d9]),(67,.tuple #[.agg #[.bool b10,.slice B10 m10 d10,.slice E10 u10 v10],.bool true]),(62,.tuple #[.agg #[.bool b10,.slice B10 m10 d10,.slice E10 u10 v10],.bool true]),(68,.agg #[.bool b10,.slice B10 m10 d10,.slice E10 u10 v10]),(69,.bool true),(10,.pointer (some ⟨ad8,0,none⟩)),(11,.bool true)] rfl (by
  intro p hp
  simp only [List.mem_cons,List.not_mem_nil,or_false] at hp
  rcases hp with rfl | rfl | rfl | rfl | rfl | rfl | rfl
  ·exact rv2
  ·exact rv4
  ·exact rv5
  ·exact rv6
  ·exact rv7
  ·exact rv8
  ·exact rv10)
 have hBv:=hBi.out
 clear hl hBi HKp qf2 qf4 qf5 qf6 qf7 qf10 qf8 qd4_2 qd5_4 qd6_5 qd7_5 qd9_4 qd9_6 qd9_8 qd10_7 qd10_9 rv2 rv4 rv5 rv6 rv7 rv8 rv10
 have hk8 : Blk wm8 ad8 33 #[.bool b10,.slice B10 m10 d10,.slice E10 u10 v10]:=hk8
 rw [show due #[true,true,true,true,true,true,true,true,true,true,true] = 0 from rfl]
 simp only [zcl,List.foldl,Act.put,List.setIfInBounds_toArray,List.set_cons_zero,List.set_cons_succ]
 refine wpAnyH_done (by kernel_rfl) ?_ _
 refine NoPanic.normal ?_
 have lt2_m8:=World.block_lt_of_cell? _ _ g2
 dsimp only at lt2_m8
 have lt6_m8:=World.block_lt_of_cell? _ _ g6
 dsimp only at lt6_m8
 have ltby0_m8:=World.block_lt_of_cell? _ _ gby0
 dsimp only at ltby0_m8
 have hB:=zac hB hBv
 have gby0:=zad hBv gby0
 have HN3:=lh9 (HN3.out.below hBv)
 have k1:=zae hBv k1
 have k4:=zae hBv k4
 have k2:=zae hBv k2
 have HN5:=lh9 (HN5.out.below hBv)
 have k6:=zae hBv k6
 have HN7:=lh9 (HN7.out.below hBv)
 have g6:=zad hBv g6
 have HN8:=lh9 (HN8.out.below hBv)
 have g2:=zad hBv g2
 obtain ⟨ad8_11,hga⟩ : ∃ x,x = ad8:=⟨_,rfl⟩
 subst hga
 obtain ⟨g11,e11,i11⟩:=hk8.c3
 have HN9:=lh9 hw9
 have HN10:=lh9 hw10
 clear hBv hk8 hw9 hw10 GG
 clear C0 C1
 go_wp2_with fail
 have C0:=lh9 (fun w' (h : Below wm8.heap.size wm8 w') => zdN (v:=(kk : Int)) ((by rw [HK.out])) (zcc (Rat.divInt (sg9 false (zaj lb (zat lb 1))) ((zaj lb 1 : Nat) : Int)) b10 B10 m10 d10 E10 u10 v10 w' (HT.out _ (zac hB h)) (HN10.out.below h) (szq HZ10 HN10.out)))
 have hBw:=(Below.refl wm8.heap.size wm8).drew
 refine rg (csc g11 (csc e11 (csc i11 (csc gby0 csn)))) (fun hHeld => ?_)
 refine tk 0 ?_
 refine tk 1 ?_
 refine tk 2 ?_
 refine tk 4 ?_
 refine tk 5 ?_
 refine tk 6 ?_
 refine rc 3 (fun K hK => ?_)
 go_simp
 go_at_call 43; (with_reducible refine (C0.out _ hBw).mono ?_); rintro e wa9 ⟨rfl,hb⟩; have hBw:=zac hBw hb; refine hK.out _ _ (Cs.below hHeld hb) (fun hHeld => ?_); clear hK K hb
 try simp only [sb9]
 refine tk 7 ?_
 refine tk 8 ?_
 refine rdn ?_
 have hB:=zac hB hBw
 have gby0:=zad hBw gby0
 have HN3:=lh9 (HN3.out.below hBw)
 have k1:=zae hBw k1
 have k4:=zae hBw k4
 have k2:=zae hBw k2
 have HN5:=lh9 (HN5.out.below hBw)
 have k6:=zae hBw k6
 have HN7:=lh9 (HN7.out.below hBw)
 have g6:=zad hBw g6
 have HN8:=lh9 (HN8.out.below hBw)
 have g2:=zad hBw g2
 have g11:=zad hBw g11
 have e11:=zad hBw e11
 have i11:=zad hBw i11
 have HN9:=lh9 (HN9.out.below hBw)
 have HN10:=lh9 (HN10.out.below hBw)
 clear hBw hHeld C0
 have HN12:=lh9 (zaS wa9)
 obtain ⟨sc0,sf0,sc1,sf1,sc2,sf2⟩:=st3 k1 (.bool false) (.slice none 0 0)
 obtain ⟨r0,r1,r2⟩:=(sn3 k1 (.bool false) (.slice none 0 0) (.slice none 0 0)).c3
 have HG:=lh9 (gd3 (HN12.out) (zdq 91 _) (show (0 : Int) = ((0 : Nat) : Int) from rfl) k1 hB (by omega))
 go_wp2
 refine bodyPost_ret (v:=.tuple #[.agg #[.bool false,.slice none 0 0,.slice none 0 0],.int .i64 0,.iface 47 (.int .i64 91)]) (by simp [results,Tryz.results18,go_sem,r0,r1,r2]) rfl ?_
 exact HG.out
theorem zjc (lb : List Nat) (Baa : oA9) (maa daa : Nat) (w : World) (hT : zam w) (haa : zaB w lb Baa maa daa) (qaa : maa ≤ 2147483648) (h0 : 0 < maa) (hb : lb.getD 0 0 = 4) (he : zax lb 1 ≠ 0) :
  Calls Tryz.prog 18 #[.slice Baa maa daa] w (zbd w (.spot (zax lb 1) zef 1,0,0)):=by
 have HIC:=lh9 (zbh (T:=zam))
 have HT:=lh9 (fun w' (hb : Below w.heap.size w w') => hT.on hb)
 obtain ⟨K,hKe⟩ : ∃ K,67108864 = K:=⟨_,rfl⟩
 have hKK : K ≤ 67108864:=by omega
 have hK0 : 0 < K:=by omega
 have hK9 : 255 ≤ K:=by omega
 have ef1:=zaH
 have ef2:=zaJ
 have ef3:=zaM
 have ef4:=zaN
 have i0 : ((maa : Int) == 0) = false:=by rw [beq_eq_false_iff_ne]; omega
 have i1 : (0 : Int) < (maa : Int):=by omega
 have HBY:=lh9 haa
 have HE:=lh9 he
 have HNaa:=lh9 (fun w' (b : Below w.heap.size w w') => haa.below b)
 have hlnaa:=haa.len
 have hcpaa:=haa.2.2
 obtain ⟨gb,ob,ib,rfl,hgb,hb0,gby0⟩:=haa.first (by omega)
 have gby0 : w.cell? ⟨gb,ob,ib⟩ = some (.int .u8 4):=by rw [gby0,hb]; rfl
 clear hb0
 clear haa
 clear hT hKe hb he
 go_enter Tryz.func18,Tryz.ntmps18
 have hB:=Below.refl w.heap.size w
 have HN3:=lh9 (zaQ w)
 have HZ3 : Hid (Sz 1 0):=zbK 1
 have kk2:=(zbp w 33 29 81 #[.bool false,.slice none 0 0,.slice none 0 0] #[.slice none 0 0] #[.int .u64 1]).2.2.1
 obtain ⟨bx1,bx2,bx3,bx4,bz⟩:=zbp w 33 29 81 #[.bool false,.slice none 0 0,.slice none 0 0] #[.slice none 0 0] #[.int .u64 1]
 have hB:=zac hB bx1
 have gby0:=zad bx1 gby0
 have HN3:=lh9 (HN3.out.below bx1)
 have k1:=bx2
 have g2:=bx3.c1
 have k4:=bx4
 clear bx1 bx2 bx3 bx4 bz
 go_wp2_with fail
 generalize ((w.alloc (.cells #[.bool false,.slice none 0 0,.slice none 0 0] 33)).alloc (.cells #[.slice none 0 0] 29)).alloc (.cells #[.int .u64 1] 81) = W1 at *
 have k2:=kk2
 clear kk2
 have HZ5 : Hid (Sz (1) (1)):=(by show (1 : Nat) < 18446744073709551616 ^ 1; decide)
 (with_reducible refine (zby _ [1] _ _ 1 (1) k4 rfl rfl (zeG 1 (by decide)) rfl (by decide)).mono ?_)
 rintro e wc2 ⟨B5,m5,d5,rfl,hw5,hb,_⟩
 have hB:=zac hB hb
 have gby0:=zad hb gby0
 have HN3:=lh9 (HN3.out.below hb)
 have k1:=zae hb k1
 have g2:=zad hb g2
 have k4:=zae hb k4
 have k2:=zae hb k2
 have HN5:=lh9 hw5
 clear hb hw5
 have lt1_2 : w.heap.size < wc2.heap.size:=k1.lt
 have lt2_2 : w.heap.size + 1 < wc2.heap.size:=World.block_lt_of_cell? wc2 ⟨w.heap.size + 1,0,none⟩ g2
 have lt4_2 : w.heap.size + 1 + 1 < wc2.heap.size:=k4.lt
 have hq2:=hB.size
 have kk6:=(zaz wc2 29 #[.slice B5 m5 d5]).2.1
 have gmby0_1 : (wc2.alloc (.cells #[.slice B5 m5 d5] 29)).cell? ⟨gb,ob,ib⟩ = some (.int .u8 4):=zal _ (gby0)
 obtain ⟨bx1,bx2,bz⟩:=zaz wc2 29 #[.slice B5 m5 d5]
 have hB:=zac hB bx1
 have gby0:=zad bx1 gby0
 have HN3:=lh9 (HN3.out.below bx1)
 have k1:=zae bx1 k1
 have g2:=zad bx1 g2
 have k4:=zae bx1 k4
 have k2:=zae bx1 k2
 have HN5:=lh9 (HN5.out.below bx1)
 have g6:=bx2.c1
 clear bx1 bx2 bz
 go_wp2_with fail
 clear gmby0_1
 generalize wc2.alloc (.cells #[.slice B5 m5 d5] 29) = W3 at *
 generalize wc2.heap.size = q3 at *
 have k6:=kk6
 clear kk6
 (with_reducible refine (zcz lb 1 1 ({ data:=#[100,105,118,105,115,111,114] }) (some ⟨gb,ob,ib⟩) maa daa _ (HT.out _ hB) (HNaa.out _ hB) (by omega) (by omega) HE.out rfl).mono ?_)
 rintro e wc4 ⟨et7,ex7,rfl,hw7,hb⟩
 have hB:=zac hB hb
 have gby0:=zad hb gby0
 have HN3:=lh9 (HN3.out.below hb)
 have k1:=zae hb k1
 have g2:=zad hb g2
 have k4:=zae hb k4
 have k2:=zae hb k2
 have HN5:=lh9 (HN5.out.below hb)
 have g6:=zad hb g6
 have k6:=zae hb k6
 have HN7:=lh9 hw7
 clear hb hw7
 obtain ⟨sc0,sf0⟩:=st1 k6
 have kz0:=sn1 k6 (.slice none 0 0)
 have gby0:=zag (q:=⟨q3,0,none⟩) (.slice none 0 0) (by show gb ≠ q3; omega) (gby0)
 have HN3:=lh9 (zak HN3.out k6 (NoU.s1 _ _ _) (zaP _ _ (.slice none 0 0)))
 have k1:=Blk.far (p:=⟨q3,0,none⟩) (k1) (by show w.heap.size ≠ q3; omega) (.slice none 0 0)
 have g2:=zag (q:=⟨q3,0,none⟩) (.slice none 0 0) (by show w.heap.size + 1 ≠ q3; omega) (g2)
 have k4:=Blk.far (p:=⟨q3,0,none⟩) (k4) (by show w.heap.size + 1 + 1 ≠ q3; omega) (.slice none 0 0)
 have k2:=Blk.far (p:=⟨q3,0,none⟩) (k2) (by show w.heap.size + 1 ≠ q3; omega) (.slice none 0 0)
 have HN5:=lh9 (zak HN5.out k6 (NoU.s1 _ _ _) (zaP _ _ (.slice none 0 0)))
 have HN7:=lh9 (zdD HN7.out k6 (NoU.s1 _ _ _) (zaP _ _ (.slice none 0 0)))
 have hB:=bl1 (.slice none 0 0) (by show w.heap.size ≤ q3; omega) hB
 have g6 : (wc4.setCell ⟨q3,0,none⟩ (.slice none 0 0)).cell? ⟨q3,0,none⟩ = some (.slice none 0 0):=kz0.cell 0
 have k6:=kz0
 go_upto_region 13 with fail
 clear sc0 sf0 kz0
 generalize wc4.setCell ⟨q3,0,none⟩ (.slice none 0 0) = W5 at *
 have HN9:=lh9 (zaS W5)
 obtain ⟨sc0,sf0,sc1,sf1,sc2,sf2⟩:=st3 k1 (.bool false) (.slice none 0 0)
 obtain ⟨r0,r1,r2⟩:=(sn3 k1 (.bool false) (.slice none 0 0) (.slice none 0 0)).c3
 have HG:=lh9 (gd3 (HN9.out) (HN7.out) (show (0 : Int) = ((0 : Nat) : Int) from rfl) k1 hB (by omega))
 go_wp2
 refine bodyPost_ret (v:=.tuple #[.agg #[.bool false,.slice none 0 0,.slice none 0 0],.int .i64 0,.iface et7 ex7]) (by simp [results,Tryz.results18,go_sem,r0,r1,r2]) rfl ?_
 exact HG.out
theorem zjd (lb : List Nat) (Baa : oA9) (maa daa : Nat) (w : World) (hT : zam w) (haa : zaB w lb Baa maa daa) (qaa : maa ≤ 2147483648) (h0 : 0 < maa) (hb : lb.getD 0 0 = 4) (he : zax lb 1 = 0) (hk1 : zat lb 1 ≤ maa) (he2 : zax lb (zat lb 1) ≠ 0) :
  Calls Tryz.prog 18 #[.slice Baa maa daa] w (zbd w (.spot (zax lb (zat lb 1)) zdF (zat lb 1 : Nat),0,0)):=by
 have HIC:=lh9 (zbh (T:=zam))
 have HT:=lh9 (fun w' (hb : Below w.heap.size w w') => hT.on hb)
 obtain ⟨K,hKe⟩ : ∃ K,67108864 = K:=⟨_,rfl⟩
 have hKK : K ≤ 67108864:=by omega
 have hK0 : 0 < K:=by omega
 have hK9 : 255 ≤ K:=by omega
 have ef1:=zaH
 have ef2:=zaJ
 have ef3:=zaM
 have ef4:=zaN
 have i0 : ((maa : Int) == 0) = false:=by rw [beq_eq_false_iff_ne]; omega
 have i1 : (0 : Int) < (maa : Int):=by omega
 have HBY:=lh9 haa
 have HE:=lh9 he
 have HE2:=lh9 he2
 have HNaa:=lh9 (fun w' (b : Below w.heap.size w w') => haa.below b)
 have hlnaa:=haa.len
 have hcpaa:=haa.2.2
 obtain ⟨gb,ob,ib,rfl,hgb,hb0,gby0⟩:=haa.first (by omega)
 have gby0 : w.cell? ⟨gb,ob,ib⟩ = some (.int .u8 4):=by rw [gby0,hb]; rfl
 clear hb0
 clear haa
 clear hT hKe hb he he2
 go_enter Tryz.func18,Tryz.ntmps18
 have hB:=Below.refl w.heap.size w
 have HN3:=lh9 (zaQ w)
 have HZ3 : Hid (Sz 1 0):=zbK 1
 have kk2:=(zbp w 33 29 81 #[.bool false,.slice none 0 0,.slice none 0 0] #[.slice none 0 0] #[.int .u64 1]).2.2.1
 obtain ⟨bx1,bx2,bx3,bx4,bz⟩:=zbp w 33 29 81 #[.bool false,.slice none 0 0,.slice none 0 0] #[.slice none 0 0] #[.int .u64 1]
 have hB:=zac hB bx1
 have gby0:=zad bx1 gby0
 have HN3:=lh9 (HN3.out.below bx1)
 have k1:=bx2
 have g2:=bx3.c1
 have k4:=bx4
 clear bx1 bx2 bx3 bx4 bz
 go_wp2_with fail
 generalize ((w.alloc (.cells #[.bool false,.slice none 0 0,.slice none 0 0] 33)).alloc (.cells #[.slice none 0 0] 29)).alloc (.cells #[.int .u64 1] 81) = W1 at *
 have k2:=kk2
 clear kk2
 have HZ5 : Hid (Sz (1) (1)):=(by show (1 : Nat) < 18446744073709551616 ^ 1; decide)
 (with_reducible refine (zby _ [1] _ _ 1 (1) k4 rfl rfl (zeG 1 (by decide)) rfl (by decide)).mono ?_)
 rintro e wc2 ⟨B5,m5,d5,rfl,hw5,hb,_⟩
 have hB:=zac hB hb
 have gby0:=zad hb gby0
 have HN3:=lh9 (HN3.out.below hb)
 have k1:=zae hb k1
 have g2:=zad hb g2
 have k4:=zae hb k4
 have k2:=zae hb k2
 have HN5:=lh9 hw5
 clear hb hw5
 have lt1_2 : w.heap.size < wc2.heap.size:=k1.lt
 have lt2_2 : w.heap.size + 1 < wc2.heap.size:=World.block_lt_of_cell? wc2 ⟨w.heap.size + 1,0,none⟩ g2
 have lt4_2 : w.heap.size + 1 + 1 < wc2.heap.size:=k4.lt
 have hq2:=hB.size
 have kk6:=(zaz wc2 29 #[.slice B5 m5 d5]).2.1
 have gmby0_1 : (wc2.alloc (.cells #[.slice B5 m5 d5] 29)).cell? ⟨gb,ob,ib⟩ = some (.int .u8 4):=zal _ (gby0)
 obtain ⟨bx1,bx2,bz⟩:=zaz wc2 29 #[.slice B5 m5 d5]
 have hB:=zac hB bx1
 have gby0:=zad bx1 gby0
 have HN3:=lh9 (HN3.out.below bx1)
 have k1:=zae bx1 k1
 have g2:=zad bx1 g2
 have k4:=zae bx1 k4
 have k2:=zae bx1 k2
 have HN5:=lh9 (HN5.out.below bx1)
 have g6:=bx2.c1
 clear bx1 bx2 bz
 go_wp2_with fail
 clear gmby0_1
 generalize wc2.alloc (.cells #[.slice B5 m5 d5] 29) = W3 at *
 generalize wc2.heap.size = q3 at *
 have k6:=kk6
 clear kk6
 have HZ7 : Hid (Sz K (zaj lb 1)):=zbq HBY.out hK9
 (with_reducible refine (zaO lb 1 1 ({ data:=#[100,105,118,105,115,111,114] }) (some ⟨gb,ob,ib⟩) maa daa _ (HT.out _ hB) (HNaa.out _ hB) (by omega) (by omega) HE.out rfl).mono ?_)
 rintro e wc4 ⟨B7,m7,d7,rfl,hw7,hb⟩
 have hB:=zac hB hb
 have gby0:=zad hb gby0
 have HN3:=lh9 (HN3.out.below hb)
 have k1:=zae hb k1
 have g2:=zad hb g2
 have k4:=zae hb k4
 have k2:=zae hb k2
 have HN5:=lh9 (HN5.out.below hb)
 have g6:=zad hb g6
 have k6:=zae hb k6
 have HN7:=lh9 hw7
 clear hb hw7
 obtain ⟨sc0,sf0⟩:=st1 k6
 have kz0:=sn1 k6 (.slice B7 m7 d7)
 have gby0:=zag (q:=⟨q3,0,none⟩) (.slice B7 m7 d7) (by show gb ≠ q3; omega) (gby0)
 have HN3:=lh9 (zak HN3.out k6 (NoU.s1 _ _ _) (zaP _ _ (.slice B7 m7 d7)))
 have k1:=Blk.far (p:=⟨q3,0,none⟩) (k1) (by show w.heap.size ≠ q3; omega) (.slice B7 m7 d7)
 have g2:=zag (q:=⟨q3,0,none⟩) (.slice B7 m7 d7) (by show w.heap.size + 1 ≠ q3; omega) (g2)
 have k4:=Blk.far (p:=⟨q3,0,none⟩) (k4) (by show w.heap.size + 1 + 1 ≠ q3; omega) (.slice B7 m7 d7)
 have k2:=Blk.far (p:=⟨q3,0,none⟩) (k2) (by show w.heap.size + 1 ≠ q3; omega) (.slice B7 m7 d7)
 have HN5:=lh9 (zak HN5.out k6 (NoU.s1 _ _ _) (zaP _ _ (.slice B7 m7 d7)))
 have HN7:=lh9 (zak HN7.out k6 (NoU.s1 _ _ _) (zaP _ _ (.slice B7 m7 d7)))
 have hB:=bl1 (.slice B7 m7 d7) (by show w.heap.size ≤ q3; omega) hB
 have g6 : (wc4.setCell ⟨q3,0,none⟩ (.slice B7 m7 d7)).cell? ⟨q3,0,none⟩ = some (.slice B7 m7 d7):=kz0.cell 0
 have k6:=kz0
 go_upto_region 13 with fail
 clear sc0 sf0 kz0
 generalize wc4.setCell ⟨q3,0,none⟩ (.slice B7 m7 d7) = W5 at *
 go_wp2_with fail
 (with_reducible refine (zcz lb (zat lb 1) (((zat lb 1 : Nat) : Int)) ({ data:=#[110,117,109,98,101,114] }) (some ⟨gb,ob,ib⟩) maa daa _ (HT.out _ hB) (HNaa.out _ hB) (by omega) (by omega) HE2.out rfl).mono ?_)
 rintro e wc6 ⟨et8,ex8,rfl,hw8,hb⟩
 have hB:=zac hB hb
 have gby0:=zad hb gby0
 have HN3:=lh9 (HN3.out.below hb)
 have k1:=zae hb k1
 have g2:=zad hb g2
 have k4:=zae hb k4
 have k2:=zae hb k2
 have HN5:=lh9 (HN5.out.below hb)
 have k6:=zae hb k6
 have HN7:=lh9 (HN7.out.below hb)
 have g6:=zad hb g6
 have HN8:=lh9 hw8
 clear hb hw8
 obtain ⟨sc0,sf0⟩:=st1 k2
 have kz0:=sn1 k2 (.slice none 0 0)
 have gby0:=zag (q:=⟨w.heap.size + 1,0,none⟩) (.slice none 0 0) (by show gb ≠ w.heap.size + 1; omega) (gby0)
 have HN3:=lh9 (zak HN3.out k2 (NoU.s1 _ _ _) (zaP _ _ (.slice none 0 0)))
 have k1:=Blk.far (p:=⟨w.heap.size + 1,0,none⟩) (k1) (by show w.heap.size ≠ w.heap.size + 1; omega) (.slice none 0 0)
 have k4:=Blk.far (p:=⟨w.heap.size + 1,0,none⟩) (k4) (by show w.heap.size + 1 + 1 ≠ w.heap.size + 1; omega) (.slice none 0 0)
 have HN5:=lh9 (zak HN5.out k2 (NoU.s1 _ _ _) (zaP _ _ (.slice none 0 0)))
 have k6:=Blk.far (p:=⟨w.heap.size + 1,0,none⟩) (k6) (by show q3 ≠ w.heap.size + 1; omega) (.slice none 0 0)
 have HN7:=lh9 (zak HN7.out k2 (NoU.s1 _ _ _) (zaP _ _ (.slice none 0 0)))
 have g6:=zag (q:=⟨w.heap.size + 1,0,none⟩) (.slice none 0 0) (by show q3 ≠ w.heap.size + 1; omega) (g6)
 have HN8:=lh9 (zdD HN8.out k2 (NoU.s1 _ _ _) (zaP _ _ (.slice none 0 0)))
 have hB:=bl1 (.slice none 0 0) (by show w.heap.size ≤ w.heap.size + 1; omega) hB
 have g2 : (wc6.setCell ⟨w.heap.size + 1,0,none⟩ (.slice none 0 0)).cell? ⟨w.heap.size + 1,0,none⟩ = some (.slice none 0 0):=kz0.cell 0
 have k2:=kz0
 go_upto_region 16 with fail
 clear sc0 sf0 kz0
 generalize wc6.setCell ⟨w.heap.size + 1,0,none⟩ (.slice none 0 0) = W7 at *
 have HN10:=lh9 (zaS W7)
 obtain ⟨sc0,sf0,sc1,sf1,sc2,sf2⟩:=st3 k1 (.bool false) (.slice none 0 0)
 obtain ⟨r0,r1,r2⟩:=(sn3 k1 (.bool false) (.slice none 0 0) (.slice none 0 0)).c3
 have HG:=lh9 (gd3 (HN10.out) (HN8.out) (show (0 : Int) = ((0 : Nat) : Int) from rfl) k1 hB (by omega))
 go_wp2
 refine bodyPost_ret (v:=.tuple #[.agg #[.bool false,.slice none 0 0,.slice none 0 0],.int .i64 0,.iface et8 ex8]) (by simp [results,Tryz.results18,go_sem,r0,r1,r2]) rfl ?_
 exact HG.out
theorem zfp (lb : List Nat) (Baa : oA9) (maa daa : Nat) (w : World) (hT : zam w) (haa : zaB w lb Baa maa daa) (qaa : maa ≤ 2147483648) (h0 : 0 < maa) (hb : lb.getD 0 0 = 4) (he : zax lb 1 = 0) (hk1 : zat lb 1 ≤ maa) (he2 : zax lb (zat lb 1) = 0) (hd0 : zaj lb 1 ≠ 0) (how : decide ((Rat.divInt (sg9 true (zaj lb (zat lb 1))) ((zaj lb 1 : Nat) : Int)).den = zaj lb 1) = true) (hk : zbM (Rat.divInt (sg9 true (zaj lb (zat lb 1))) ((zaj lb 1 : Nat) : Int)) = 4) :
  Calls Tryz.prog 18 #[.slice Baa maa daa] w (zbd w (.no,Rat.divInt (sg9 true (zaj lb (zat lb 1))) ((zaj lb 1 : Nat) : Int),zat lb (zat lb 1))):=by
 have HIC:=lh9 (zbh (T:=zam))
 have HT:=lh9 (fun w' (hb : Below w.heap.size w w') => hT.on hb)
 obtain ⟨K,hKe⟩ : ∃ K,67108864 = K:=⟨_,rfl⟩
 have hKK : K ≤ 67108864:=by omega
 have hK0 : 0 < K:=by omega
 have hK9 : 255 ≤ K:=by omega
 have ef1:=zaH
 have ef2:=zaJ
 have ef3:=zaM
 have ef4:=zaN
 have i0 : ((maa : Int) == 0) = false:=by rw [beq_eq_false_iff_ne]; omega
 have i1 : (0 : Int) < (maa : Int):=by omega
 have HBY:=lh9 haa
 have HE:=lh9 he
 have HE2:=lh9 he2
 have HD0:=lh9 hd0
 have HOW:=lh9 how
 have HK:=lh9 hk
 have HNaa:=lh9 (fun w' (b : Below w.heap.size w w') => haa.below b)
 have hlnaa:=haa.len
 have hcpaa:=haa.2.2
 obtain ⟨gb,ob,ib,rfl,hgb,hb0,gby0⟩:=haa.first (by omega)
 have gby0 : w.cell? ⟨gb,ob,ib⟩ = some (.int .u8 4):=by rw [gby0,hb]; rfl
 clear hb0
 clear haa
 clear hT hKe hb he he2 hd0 how hk
 go_enter Tryz.func18,Tryz.ntmps18
 have hB:=Below.refl w.heap.size w
 have HN3:=lh9 (zaQ w)
 have HZ3 : Hid (Sz 1 0):=zbK 1
 have kk2:=(zbp w 33 29 81 #[.bool false,.slice none 0 0,.slice none 0 0] #[.slice none 0 0] #[.int .u64 1]).2.2.1
 obtain ⟨bx1,bx2,bx3,bx4,bz⟩:=zbp w 33 29 81 #[.bool false,.slice none 0 0,.slice none 0 0] #[.slice none 0 0] #[.int .u64 1]
 have hB:=zac hB bx1
 have gby0:=zad bx1 gby0
 have HN3:=lh9 (HN3.out.below bx1)
 have k1:=bx2
 have g2:=bx3.c1
 have k4:=bx4
 clear bx1 bx2 bx3 bx4 bz
 go_wp2_with fail
 generalize ((w.alloc (.cells #[.bool false,.slice none 0 0,.slice none 0 0] 33)).alloc (.cells #[.slice none 0 0] 29)).alloc (.cells #[.int .u64 1] 81) = W1 at *
 have k2:=kk2
 clear kk2
 have HZ5 : Hid (Sz (1) (1)):=(by show (1 : Nat) < 18446744073709551616 ^ 1; decide)
 (with_reducible refine (zby _ [1] _ _ 1 (1) k4 rfl rfl (zeG 1 (by decide)) rfl (by decide)).mono ?_)
 rintro e wc2 ⟨B5,m5,d5,rfl,hw5,hb,_⟩
 have hB:=zac hB hb
 have gby0:=zad hb gby0
 have HN3:=lh9 (HN3.out.below hb)
 have k1:=zae hb k1
 have g2:=zad hb g2
 have k4:=zae hb k4
 have k2:=zae hb k2
 have HN5:=lh9 hw5
 clear hb hw5
 have lt1_2 : w.heap.size < wc2.heap.size:=k1.lt
 have lt2_2 : w.heap.size + 1 < wc2.heap.size:=World.block_lt_of_cell? wc2 ⟨w.heap.size + 1,0,none⟩ g2
 have lt4_2 : w.heap.size + 1 + 1 < wc2.heap.size:=k4.lt
 have hq2:=hB.size
 have kk6:=(zaz wc2 29 #[.slice B5 m5 d5]).2.1
 have gmby0_1 : (wc2.alloc (.cells #[.slice B5 m5 d5] 29)).cell? ⟨gb,ob,ib⟩ = some (.int .u8 4):=zal _ (gby0)
 obtain ⟨bx1,bx2,bz⟩:=zaz wc2 29 #[.slice B5 m5 d5]
 have hB:=zac hB bx1
 have gby0:=zad bx1 gby0
 have HN3:=lh9 (HN3.out.below bx1)
 have k1:=zae bx1 k1
 have g2:=zad bx1 g2
 have k4:=zae bx1 k4
 have k2:=zae bx1 k2
 have HN5:=lh9 (HN5.out.below bx1)
 have g6:=bx2.c1
 clear bx1 bx2 bz
 go_wp2_with fail
 clear gmby0_1
 generalize wc2.alloc (.cells #[.slice B5 m5 d5] 29) = W3 at *
 generalize wc2.heap.size = q3 at *
 have k6:=kk6
 clear kk6
 have HZ7 : Hid (Sz K (zaj lb 1)):=zbq HBY.out hK9
 (with_reducible refine (zaO lb 1 1 ({ data:=#[100,105,118,105,115,111,114] }) (some ⟨gb,ob,ib⟩) maa daa _ (HT.out _ hB) (HNaa.out _ hB) (by omega) (by omega) HE.out rfl).mono ?_)
 rintro e wc4 ⟨B7,m7,d7,rfl,hw7,hb⟩
 have hB:=zac hB hb
 have gby0:=zad hb gby0
 have HN3:=lh9 (HN3.out.below hb)
 have k1:=zae hb k1
 have g2:=zad hb g2
 have k4:=zae hb k4
 have k2:=zae hb k2
 have HN5:=lh9 (HN5.out.below hb)
 have g6:=zad hb g6
 have k6:=zae hb k6
 have HN7:=lh9 hw7
 clear hb hw7
 obtain ⟨sc0,sf0⟩:=st1 k6
 have kz0:=sn1 k6 (.slice B7 m7 d7)
 have gby0:=zag (q:=⟨q3,0,none⟩) (.slice B7 m7 d7) (by show gb ≠ q3; omega) (gby0)
 have HN3:=lh9 (zak HN3.out k6 (NoU.s1 _ _ _) (zaP _ _ (.slice B7 m7 d7)))
 have k1:=Blk.far (p:=⟨q3,0,none⟩) (k1) (by show w.heap.size ≠ q3; omega) (.slice B7 m7 d7)
 have g2:=zag (q:=⟨q3,0,none⟩) (.slice B7 m7 d7) (by show w.heap.size + 1 ≠ q3; omega) (g2)
 have k4:=Blk.far (p:=⟨q3,0,none⟩) (k4) (by show w.heap.size + 1 + 1 ≠ q3; omega) (.slice B7 m7 d7)
 have k2:=Blk.far (p:=⟨q3,0,none⟩) (k2) (by show w.heap.size + 1 ≠ q3; omega) (.slice B7 m7 d7)
 have HN5:=lh9 (zak HN5.out k6 (NoU.s1 _ _ _) (zaP _ _ (.slice B7 m7 d7)))
 have HN7:=lh9 (zak HN7.out k6 (NoU.s1 _ _ _) (zaP _ _ (.slice B7 m7 d7)))
 have hB:=bl1 (.slice B7 m7 d7) (by show w.heap.size ≤ q3; omega) hB
 have g6 : (wc4.setCell ⟨q3,0,none⟩ (.slice B7 m7 d7)).cell? ⟨q3,0,none⟩ = some (.slice B7 m7 d7):=kz0.cell 0
 have k6:=kz0
 go_upto_region 13 with fail
 clear sc0 sf0 kz0
 generalize wc4.setCell ⟨q3,0,none⟩ (.slice B7 m7 d7) = W5 at *
 go_wp2_with fail
 have HZ8 : Hid (Sz K (zaj lb (zat lb 1))):=zbq HBY.out hK9
 (with_reducible refine (zaO lb (zat lb 1) (((zat lb 1 : Nat) : Int)) ({ data:=#[110,117,109,98,101,114] }) (some ⟨gb,ob,ib⟩) maa daa _ (HT.out _ hB) (HNaa.out _ hB) (by omega) (by omega) HE2.out rfl).mono ?_)
 rintro e wc6 ⟨B8,m8,d8,rfl,hw8,hb⟩
 have hB:=zac hB hb
 have gby0:=zad hb gby0
 have HN3:=lh9 (HN3.out.below hb)
 have k1:=zae hb k1
 have g2:=zad hb g2
 have k4:=zae hb k4
 have k2:=zae hb k2
 have HN5:=lh9 (HN5.out.below hb)
 have k6:=zae hb k6
 have HN7:=lh9 (HN7.out.below hb)
 have g6:=zad hb g6
 have HN8:=lh9 hw8
 clear hb hw8
 obtain ⟨sc0,sf0⟩:=st1 k2
 have kz0:=sn1 k2 (.slice B8 m8 d8)
 have gby0:=zag (q:=⟨w.heap.size + 1,0,none⟩) (.slice B8 m8 d8) (by show gb ≠ w.heap.size + 1; omega) (gby0)
 have HN3:=lh9 (zak HN3.out k2 (NoU.s1 _ _ _) (zaP _ _ (.slice B8 m8 d8)))
 have k1:=Blk.far (p:=⟨w.heap.size + 1,0,none⟩) (k1) (by show w.heap.size ≠ w.heap.size + 1; omega) (.slice B8 m8 d8)
 have k4:=Blk.far (p:=⟨w.heap.size + 1,0,none⟩) (k4) (by show w.heap.size + 1 + 1 ≠ w.heap.size + 1; omega) (.slice B8 m8 d8)
 have HN5:=lh9 (zak HN5.out k2 (NoU.s1 _ _ _) (zaP _ _ (.slice B8 m8 d8)))
 have k6:=Blk.far (p:=⟨w.heap.size + 1,0,none⟩) (k6) (by show q3 ≠ w.heap.size + 1; omega) (.slice B8 m8 d8)
 have HN7:=lh9 (zak HN7.out k2 (NoU.s1 _ _ _) (zaP _ _ (.slice B8 m8 d8)))
 have g6:=zag (q:=⟨w.heap.size + 1,0,none⟩) (.slice B8 m8 d8) (by show q3 ≠ w.heap.size + 1; omega) (g6)
 have HN8:=lh9 (zak HN8.out k2 (NoU.s1 _ _ _) (zaP _ _ (.slice B8 m8 d8)))
 have hB:=bl1 (.slice B8 m8 d8) (by show w.heap.size ≤ w.heap.size + 1; omega) hB
 have g2 : (wc6.setCell ⟨w.heap.size + 1,0,none⟩ (.slice B8 m8 d8)).cell? ⟨w.heap.size + 1,0,none⟩ = some (.slice B8 m8 d8):=kz0.cell 0
 have k2:=kz0
 go_upto_region 16 with fail
 clear sc0 sf0 kz0
 generalize wc6.setCell ⟨w.heap.size + 1,0,none⟩ (.slice B8 m8 d8) = W7 at *
 go_wp2_with fail
 have HZ9 : Hid (Sz (K) (sg9 true (zaj lb (zat lb 1))).natAbs):=(by rw [zbJ]; exact HZ8.out)
 have C0:=lh9 (fun w' (h : Below W7.heap.size W7 w') => zgC HIC.out true (zaj lb (zat lb 1)) B8 m8 d8 w' (HT.out _ (zac hB h)) (HN8.out.below h) (szw HZ8 HN8.out))
 have HZ10 : Hid (SzQ (K) (Rat.divInt (sg9 true (zaj lb (zat lb 1))) ((zaj lb 1 : Nat) : Int))):=SzQ.made HZ9.out (by rw [Int.natAbs_natCast]; exact HZ7.out) (by omega)
 have C1:=lh9 (fun w' (h : Below W7.heap.size W7 w') b9 B9 m9 d9 (hw9 : zaE w' (sg9 true (zaj lb (zat lb 1))) b9 B9 m9 d9) => zcM (rfl) (HOW.out) (zbO (sg9 true (zaj lb (zat lb 1))) (zaj lb 1) b9 B9 m9 d9 B7 m7 d7 w' (HT.out _ (zac hB h)) hw9 (HN7.out.below h) (szi HZ9 hw9) (szw HZ7 HN7.out) HD0.out))
 have lt1_m7:=k1.lt
 have lt4_m7:=k4.lt
 have lt2_m7:=k2.lt
 have lt6_m7:=k6.lt
 have GG:=lh9 (fun w' (h : Below W7.heap.size W7 w') => (csc (zad h g2) (csc (zad h g6) csn)))
 refine rgB (fun hHeld => ?_)
 refine tl 0 GG.out ?_
 refine tl 1 GG.out ?_
 refine tl 3 GG.out ?_
 refine zbk (L:=#[true,true,true,true,true,true,true,true,true,true,true])
  (J:=fun a0 l a w' => ∃ (fl2 fl4 fl5 fl6 fl7 fl8 fl9 fl10 b9 : Bool) (B9 : oA9) (m9 d9 : Nat) (b10 : Bool) (B10 : oA9) (m10 d10 : Nat) (E10 : oA9) (u10 v10 ad8 : Nat),l = #[true,true,fl2,true,fl4,fl5,fl6,fl7,fl8,fl9,fl10] ∧ zco [65,67,62,68,69,10,11] a0 a ∧ Hid (Below W7.heap.size W7 w') ∧
    Hid (Gd fl2 (a.tmps.getD 65 undef = .agg #[.bool b9,.slice B9 m9 d9] ∧ zaE w' (sg9 true (zaj lb (zat lb 1))) b9 B9 m9 d9)) ∧
    Hid (Gd fl4 (a.tmps.getD 67 undef = .tuple #[.agg #[.bool b10,.slice B10 m10 d10,.slice E10 u10 v10],.bool true] ∧ zaF w' (Rat.divInt (sg9 true (zaj lb (zat lb 1))) ((zaj lb 1 : Nat) : Int)) b10 B10 m10 d10 E10 u10 v10)) ∧
    Hid (Gd fl5 (a.tmps.getD 62 undef = .tuple #[.agg #[.bool b10,.slice B10 m10 d10,.slice E10 u10 v10],.bool true])) ∧
    Hid (Gd fl6 (a.tmps.getD 68 undef = .agg #[.bool b10,.slice B10 m10 d10,.slice E10 u10 v10])) ∧
    Hid (Gd fl7 (a.tmps.getD 69 undef = .bool true)) ∧
    Hid (Gd fl10 (a.tmps.getD 11 undef = .bool true)) ∧
    Hid (Gd fl8 (a.tmps.getD 10 undef = .pointer (some ⟨ad8,0,none⟩) ∧ W7.heap.size ≤ ad8 ∧ Blk w' ad8 33 (bif fl9 then #[.bool b10,.slice B10 m10 d10,.slice E10 u10 v10] else #[.bool false,.slice none 0 0,.slice none 0 0]))) ∧
    Hid (Gd fl4 (fl2 = true)) ∧
    Hid (Gd fl5 (fl4 = true)) ∧
    Hid (Gd fl6 (fl5 = true)) ∧
    Hid (Gd fl7 (fl5 = true)) ∧
    Hid (Gd fl9 (fl4 = true)) ∧
    Hid (Gd fl9 (fl6 = true)) ∧
    Hid (Gd fl9 (fl8 = true)) ∧
    Hid (Gd fl10 (fl7 = true)) ∧
    Hid (Gd fl10 (fl9 = true)))
  (by rfl) ?_ ?_ ?_
 ·exact ⟨false,false,false,false,false,false,false,false,false,none,0,0,false,none,0,0,none,0,0,0,by kernel_rfl,zco.refl _ _,hHeld,Gd.no,Gd.no,Gd.no,Gd.no,Gd.no,Gd.no,Gd.no,Gd.no,Gd.no,Gd.no,Gd.no,Gd.no,Gd.no,Gd.no,Gd.no,Gd.no⟩
 ·intro OPS Ac0 Q0 hO hAs hA
  have RB63 : Ac0.tmps.getD 63 undef = .bool true:=(hA 63 undef).trans (by kernel_rfl)
  have RB64 : Ac0.tmps.getD 64 undef = .agg #[.slice B8 m8 d8]:=(hA 64 undef).trans (by kernel_rfl)
  have RB66 : Ac0.tmps.getD 66 undef = .agg #[.slice B7 m7 d7]:=(hA 66 undef).trans (by kernel_rfl)
  have hsz : Ac0.tmps.size = 83:=hAs.trans (by kernel_rfl)
  clear hAs hA
  refine ⟨?_,?_⟩
  ·rintro l a w' ⟨fl2,fl4,fl5,fl6,fl7,fl8,fl9,fl10,b9,B9,m9,d9,b10,B10,m10,d10,E10,u10,v10,ad8,rfl,-⟩ hr
   obtain rfl : fl2 = true:=als 2 hr hO
   obtain rfl : fl4 = true:=als 4 hr hO
   obtain rfl : fl5 = true:=als 5 hr hO
   obtain rfl : fl6 = true:=als 6 hr hO
   obtain rfl : fl7 = true:=als 7 hr hO
   obtain rfl : fl8 = true:=als 8 hr hO
   obtain rfl : fl9 = true:=als 9 hr hO
   obtain rfl : fl10 = true:=als 10 hr hO
   rfl
  ·rintro l a w' i ⟨fl2,fl4,fl5,fl6,fl7,fl8,fl9,fl10,b9,B9,m9,d9,b10,B10,m10,d10,E10,u10,v10,ad8,rfl,HKp,hBi,qf2,qf4,qf5,qf6,qf7,qf10,qf8,qd4_2,qd5_4,qd6_5,qd7_5,qd9_4,qd9_6,qd9_8,qd10_7,qd10_9⟩ hne hi
   have hlt : i < 11:=by have:=zcf hi; rw [hO] at this; exact this
   rcases (show i = 0 ∨ i = 1 ∨ i = 2 ∨ i = 3 ∨ i = 4 ∨ i = 5 ∨ i = 6 ∨ i = 7 ∨ i = 8 ∨ i = 9 ∨ i = 10 by omega) with rfl | rfl | rfl | rfl | rfl | rfl | rfl | rfl | rfl | rfl | rfl
   ·cases (zah hi : true = false)
   ·cases (zah hi : true = false)
   ·obtain rfl : fl2 = false:=zah hi
    obtain rfl : fl4 = false:=Gd.off qd4_2.out
    obtain rfl : fl5 = false:=Gd.off qd5_4.out
    obtain rfl : fl6 = false:=Gd.off qd6_5.out
    obtain rfl : fl7 = false:=Gd.off qd7_5.out
    obtain rfl : fl9 = false:=Gd.off qd9_4.out
    obtain rfl : fl10 = false:=Gd.off qd10_7.out
    have rd63:=HKp.get 63 (by decide) RB63
    have rd64:=HKp.get 64 (by decide) RB64
    refine wog hO (fun K' hK => ?_)
    go_simp
    refine (C0.out w' hBi.out).mono ?_
    rintro e w2 ⟨nb9,nB9,nm9,nd9,rfl,nhw9,hb⟩
    exact hK.out _ _ ⟨zac hBi.out hb,true,false,false,false,false,fl8,false,false,nb9,nB9,nm9,nd9,b10,B10,m10,d10,E10,u10,v10,ad8,by rfl,HKp.put (by decide) _,zac hBi.out hb,Gd.yes ⟨zaA (HKp.lt (by rw [hsz]; decide)) _,nhw9⟩,Gd.no,Gd.no,Gd.no,Gd.no,Gd.no,kq qf8.out fun h => ⟨h.1,zae hb h.2⟩,Gd.no,Gd.no,Gd.no,Gd.no,Gd.no,Gd.no,Gd.no,Gd.no,Gd.no⟩
   ·cases (zah hi : true = false)
   ·obtain rfl : fl4 = false:=zah hi
    obtain rfl : fl2 = true:=rdp 2 0 hi hO
    obtain rfl : fl5 = false:=Gd.off qd5_4.out
    obtain rfl : fl6 = false:=Gd.off qd6_5.out
    obtain rfl : fl7 = false:=Gd.off qd7_5.out
    obtain rfl : fl9 = false:=Gd.off qd9_4.out
    obtain rfl : fl10 = false:=Gd.off qd10_7.out
    have rd65:=qf2.out.get.1
    have rd66:=HKp.get 66 (by decide) RB66
    have hw9:=qf2.out.get.2
    refine wog hO (fun K' hK => ?_)
    go_simp
    refine (C1.out w' hBi.out _ _ _ _ hw9).mono ?_
    rintro e w2 ⟨nb10,nB10,nm10,nd10,nE10,nu10,nv10,rfl,nhw10,hb⟩
    exact hK.out _ _ ⟨zac hBi.out hb,true,true,false,false,false,fl8,false,false,b9,B9,m9,d9,nb10,nB10,nm10,nd10,nE10,nu10,nv10,ad8,by rfl,HKp.put (by decide) _,zac hBi.out hb,kq qf2.out fun h => (h).below hb,Gd.yes ⟨zaA (HKp.lt (by rw [hsz]; decide)) _,nhw10⟩,Gd.no,Gd.no,Gd.no,Gd.no,kq qf8.out fun h => ⟨h.1,zae hb h.2⟩,fun _ => rfl,Gd.no,Gd.no,Gd.no,Gd.no,Gd.no,Gd.no,Gd.no,Gd.no⟩
   ·obtain rfl : fl5 = false:=zah hi
    obtain rfl : fl4 = true:=rdp 4 0 hi hO
    obtain rfl : fl2 = true:=qd4_2.out.get
    obtain rfl : fl6 = false:=Gd.off qd6_5.out
    obtain rfl : fl7 = false:=Gd.off qd7_5.out
    obtain rfl : fl9 = false:=Gd.off qd9_6.out
    obtain rfl : fl10 = false:=Gd.off qd10_7.out
    have rd67:=qf4.out.get.1
    refine wog hO (fun K' hK => ?_)
    refine zaX (x:=67) (Or.inl rfl) rd67 ?_
    exact hK.out _ _ ⟨hBi.out,true,true,true,false,false,fl8,false,false,b9,B9,m9,d9,b10,B10,m10,d10,E10,u10,v10,ad8,by rfl,HKp.put (by decide) _,hBi.out,kq qf2.out fun h => (h),kq qf4.out fun h => (h),Gd.yes (zaA (HKp.lt (by rw [hsz]; decide)) _),Gd.no,Gd.no,Gd.no,kq qf8.out id,fun _ => rfl,fun _ => rfl,Gd.no,Gd.no,Gd.no,Gd.no,Gd.no,Gd.no,Gd.no⟩
   ·obtain rfl : fl6 = false:=zah hi
    obtain rfl : fl5 = true:=rdp 5 0 hi hO
    obtain rfl : fl4 = true:=qd5_4.out.get
    obtain rfl : fl2 = true:=qd4_2.out.get
    obtain rfl : fl9 = false:=Gd.off qd9_6.out
    obtain rfl : fl10 = false:=Gd.off qd10_9.out
    have rd62:=qf5.out.get
    refine wog hO (fun K' hK => ?_)
    refine zaD (x:=62) (k:=0) rfl rd62 rfl ?_
    exact hK.out _ _ ⟨hBi.out,true,true,true,true,fl7,fl8,false,false,b9,B9,m9,d9,b10,B10,m10,d10,E10,u10,v10,ad8,by rfl,HKp.put (by decide) _,hBi.out,kq qf2.out fun h => (h),kq qf4.out fun h => (h),kq0 qf5.out,Gd.yes (zaA (HKp.lt (by rw [hsz]; decide)) _),kq0 qf7.out,Gd.no,kq qf8.out id,fun _ => rfl,fun _ => rfl,fun _ => rfl,fun _ => rfl,Gd.no,Gd.no,Gd.no,Gd.no,Gd.no⟩
   ·obtain rfl : fl7 = false:=zah hi
    obtain rfl : fl5 = true:=rdp 5 0 hi hO
    obtain rfl : fl4 = true:=qd5_4.out.get
    obtain rfl : fl2 = true:=qd4_2.out.get
    obtain rfl : fl10 = false:=Gd.off qd10_7.out
    have rd62:=qf5.out.get
    refine wog hO (fun K' hK => ?_)
    refine zaD (x:=62) (k:=1) rfl rd62 rfl ?_
    exact hK.out _ _ ⟨hBi.out,true,true,true,fl6,true,fl8,fl9,false,b9,B9,m9,d9,b10,B10,m10,d10,E10,u10,v10,ad8,by rfl,HKp.put (by decide) _,hBi.out,kq qf2.out fun h => (h),kq qf4.out fun h => (h),kq0 qf5.out,kq0 qf6.out,Gd.yes (zaA (HKp.lt (by rw [hsz]; decide)) _),Gd.no,kq qf8.out id,fun _ => rfl,fun _ => rfl,fun _ => rfl,fun _ => rfl,fun _ => rfl,qd9_6,qd9_8,Gd.no,Gd.no⟩
   ·obtain rfl : fl8 = false:=zah hi
    obtain rfl : fl9 = false:=Gd.off qd9_8.out
    obtain rfl : fl10 = false:=Gd.off qd10_9.out
    refine wog hO (fun K' hK => ?_)
    go_simp
    have hb:=zbH w' (.cells #[.bool false,.slice none 0 0,.slice none 0 0] 33)
    exact hK.out _ _ ⟨zac hBi.out hb,fl2,fl4,fl5,fl6,fl7,true,false,false,b9,B9,m9,d9,b10,B10,m10,d10,E10,u10,v10,w'.heap.size,by rfl,HKp.put (by decide) _,zac hBi.out hb,kq qf2.out fun h => (h).below hb,kq qf4.out fun h => (h).below hb,kq0 qf5.out,kq0 qf6.out,kq0 qf7.out,Gd.no,Gd.yes ⟨zaA (HKp.lt (by rw [hsz]; decide)) _,hBi.out.size,Blk.new w' _ _⟩,qd4_2,qd5_4,qd6_5,qd7_5,Gd.no,Gd.no,Gd.no,Gd.no,Gd.no⟩
   ·obtain rfl : fl9 = false:=zah hi
    obtain rfl : fl2 = true:=rdp 2 5 hi hO
    obtain rfl : fl4 = true:=rdp 4 2 hi hO
    obtain rfl : fl5 = true:=rdp 5 8 hi hO
    obtain rfl : fl6 = true:=rdp 6 1 hi hO
    obtain rfl : fl8 = true:=rdp 8 0 hi hO
    obtain rfl : fl10 = false:=Gd.off qd10_9.out
    have rd10:=qf8.out.get.1
    have rd68:=qf6.out.get
    obtain ⟨_,hg,hk⟩:=qf8.out.get
    have hk : Blk w' ad8 33 #[.bool false,.slice none 0 0,.slice none 0 0]:=hk
    obtain ⟨sc0,sf0,sc1,sf1,sc2,sf2⟩:=st3 hk (.bool b10) (.slice B10 m10 d10)
    have hj2:=sn3 hk (.bool b10) (.slice B10 m10 d10) (.slice E10 u10 v10)
    have hBn:=bl3 (.bool b10) (.slice B10 m10 d10) (.slice E10 u10 v10) hg hBi.out
    refine wog hO (fun K' hK => ?_)
    go_simp
    exact hK.out _ _ ⟨hBn,true,true,true,true,fl7,true,true,false,b9,B9,m9,d9,b10,B10,m10,d10,E10,u10,v10,ad8,by rfl,HKp,hBn,qf2.out.mono fun h => ⟨h.1,zcx (h.2) hk zdE (zcy _ _ _ _ _)⟩,qf4.out.mono fun h => ⟨h.1,zbF (h.2) hk zdE (zcy _ _ _ _ _)⟩,qf5.out.mono fun h => h,qf6.out.mono fun h => h,qf7.out.mono fun h => h,Gd.no,qf8.out.mono fun h => ⟨h.1,h.2.1,hj2⟩,fun _ => rfl,fun _ => rfl,fun _ => rfl,fun _ => rfl,fun _ => rfl,fun _ => rfl,fun _ => rfl,Gd.no,Gd.no⟩
   ·obtain rfl : fl10 = false:=zah hi
    obtain rfl : fl2 = true:=rdp 2 4 hi hO
    obtain rfl : fl4 = true:=rdp 4 6 hi hO
    obtain rfl : fl5 = true:=rdp 5 7 hi hO
    obtain rfl : fl6 = true:=rdp 6 8 hi hO
    obtain rfl : fl7 = true:=rdp 7 0 hi hO
    obtain rfl : fl8 = true:=rdp 8 10 hi hO
    obtain rfl : fl9 = true:=rdp 9 1 hi hO
    have rd69:=qf7.out.get
    refine wog hO (fun K' hK => ?_)
    refine zaX (x:=69) (Or.inr rfl) rd69 ?_
    exact hK.out _ _ ⟨hBi.out,true,true,true,true,true,true,true,true,b9,B9,m9,d9,b10,B10,m10,d10,E10,u10,v10,ad8,by rfl,HKp.put (by decide) _,hBi.out,kq qf2.out fun h => (h),kq qf4.out fun h => (h),kq0 qf5.out,kq0 qf6.out,kq0 qf7.out,Gd.yes (zaA (HKp.lt (by rw [hsz]; decide)) _),kq qf8.out id,fun _ => rfl,fun _ => rfl,fun _ => rfl,fun _ => rfl,fun _ => rfl,fun _ => rfl,fun _ => rfl,fun _ => rfl,fun _ => rfl⟩
 rintro a wm8 ⟨fl2,fl4,fl5,fl6,fl7,fl8,fl9,fl10,b9,B9,m9,d9,b10,B10,m10,d10,E10,u10,v10,ad8,hl,HKp,hBi,qf2,qf4,qf5,qf6,qf7,qf10,qf8,qd4_2,qd5_4,qd6_5,qd7_5,qd9_4,qd9_6,qd9_8,qd10_7,qd10_9⟩
 have xx2 : fl2 = true:=gdl 2 hl
 subst xx2
 have xx4 : fl4 = true:=gdl 4 hl
 subst xx4
 have xx5 : fl5 = true:=gdl 5 hl
 subst xx5
 have xx6 : fl6 = true:=gdl 6 hl
 subst xx6
 have xx7 : fl7 = true:=gdl 7 hl
 subst xx7
 have xx8 : fl8 = true:=gdl 8 hl
 subst xx8
 have xx9 : fl9 = true:=gdl 9 hl
 subst xx9
 have xx10 : fl10 = true:=gdl 10 hl
 subst xx10
 obtain ⟨rv2,hw9⟩:=qf2.out.get
 obtain ⟨rv4,hw10⟩:=qf4.out.get
 have rv5:=qf5.out.get
 have rv6:=qf6.out.get
 have rv7:=qf7.out.get
 have rv10:=qf10.out.get
 obtain ⟨rv8,hg8,hk8⟩:=qf8.out.get
 obtain rfl:=HKp.eq [(65,.agg #[.bool b9,.slice B9 m9 d9]),(67,.tuple #[.agg #[.bool b10,.slice B10 m10 d10,.slice E10 u10 v10],.bool true]),(62,.tuple #[.agg #[.bool b10,.slice B10 m10 d10,.slice E10 u10 v10],.bool true]),(68,.agg #[.bool b10,.slice B10 m10 d10,.slice E10 u10 v10]),(69,.bool true),(10,.pointer (some ⟨ad8,0,none⟩)),(11,.bool true)] rfl (by
  intro p hp
  simp only [List.mem_cons,List.not_mem_nil,or_false] at hp
  rcases hp with rfl | rfl | rfl | rfl | rfl | rfl | rfl
  ·exact rv2
  ·exact rv4
  ·exact rv5
  ·exact rv6
  ·exact rv7
  ·exact rv8
  ·exact rv10)
 have hBv:=hBi.out
 clear hl hBi HKp qf2 qf4 qf5 qf6 qf7 qf10 qf8 qd4_2 qd5_4 qd6_5 qd7_5 qd9_4 qd9_6 qd9_8 qd10_7 qd10_9 rv2 rv4 rv5 rv6 rv7 rv8 rv10
 have hk8 : Blk wm8 ad8 33 #[.bool b10,.slice B10 m10 d10,.slice E10 u10 v10]:=hk8
 rw [show due #[true,true,true,true,true,true,true,true,true,true,true] = 0 from rfl]
 simp only [zcl,List.foldl,Act.put,List.setIfInBounds_toArray,List.set_cons_zero,List.set_cons_succ]
 refine wpAnyH_done (by kernel_rfl) ?_ _
 refine NoPanic.normal ?_
 have lt2_m8:=World.block_lt_of_cell? _ _ g2
 dsimp only at lt2_m8
 have lt6_m8:=World.block_lt_of_cell? _ _ g6
 dsimp only at lt6_m8
 have ltby0_m8:=World.block_lt_of_cell? _ _ gby0
 dsimp only at ltby0_m8
 have hB:=zac hB hBv
 have gby0:=zad hBv gby0
 have HN3:=lh9 (HN3.out.below hBv)
 have k1:=zae hBv k1
 have k4:=zae hBv k4
 have k2:=zae hBv k2
 have HN5:=lh9 (HN5.out.below hBv)
 have k6:=zae hBv k6
 have HN7:=lh9 (HN7.out.below hBv)
 have g6:=zad hBv g6
 have HN8:=lh9 (HN8.out.below hBv)
 have g2:=zad hBv g2
 obtain ⟨ad8_11,hga⟩ : ∃ x,x = ad8:=⟨_,rfl⟩
 subst hga
 obtain ⟨g11,e11,i11⟩:=hk8.c3
 have HN9:=lh9 hw9
 have HN10:=lh9 hw10
 clear hBv hk8 hw9 hw10 GG
 clear C0 C1
 go_wp2_with fail
 have C0:=lh9 (fun w' (h : Below wm8.heap.size wm8 w') => zdN (v:=4) ((by rw [HK.out]; rfl)) (zcc (Rat.divInt (sg9 true (zaj lb (zat lb 1))) ((zaj lb 1 : Nat) : Int)) b10 B10 m10 d10 E10 u10 v10 w' (HT.out _ (zac hB h)) (HN10.out.below h) (szq HZ10 HN10.out)))
 have hBw:=(Below.refl wm8.heap.size wm8).drew
 refine rg (csc g11 (csc e11 (csc i11 (csc gby0 csn)))) (fun hHeld => ?_)
 refine tk 0 ?_
 refine tk 1 ?_
 refine tk 2 ?_
 refine tk 4 ?_
 refine tk 5 ?_
 refine tk 6 ?_
 refine rc 3 (fun K hK => ?_)
 go_simp
 go_at_call 43; (with_reducible refine (C0.out _ hBw).mono ?_); rintro e wa9 ⟨rfl,hb⟩; have hBw:=zac hBw hb; refine hK.out _ _ (Cs.below hHeld hb) (fun hHeld => ?_); clear hK K hb
 try simp only [sb9]
 refine tk 7 ?_
 refine tk 8 ?_
 refine rdn ?_
 have hB:=zac hB hBw
 have gby0:=zad hBw gby0
 have HN3:=lh9 (HN3.out.below hBw)
 have k1:=zae hBw k1
 have k4:=zae hBw k4
 have k2:=zae hBw k2
 have HN5:=lh9 (HN5.out.below hBw)
 have k6:=zae hBw k6
 have HN7:=lh9 (HN7.out.below hBw)
 have g6:=zad hBw g6
 have HN8:=lh9 (HN8.out.below hBw)
 have g2:=zad hBw g2
 have g11:=zad hBw g11
 have e11:=zad hBw e11
 have i11:=zad hBw i11
 have HN9:=lh9 (HN9.out.below hBw)
 have HN10:=lh9 (HN10.out.below hBw)
 clear hBw hHeld C0
 obtain ⟨sc0,sf0,sc1,sf1,sc2,sf2⟩:=st3 k1 (.bool b10) (.slice B10 m10 d10)
 obtain ⟨r0,r1,r2⟩:=(sn3 k1 (.bool b10) (.slice B10 m10 d10) (.slice E10 u10 v10)).c3
 have HG:=lh9 (gd3 (HN10.out) (zeH _) (show ((zat lb (zat lb 1) : Nat) : Int) = ((zat lb (zat lb 1) : Nat) : Int) from rfl) k1 hB (by omega))
 go_wp2
 refine bodyPost_ret (v:=.tuple #[.agg #[.bool b10,.slice B10 m10 d10,.slice E10 u10 v10],.int .i64 ((zat lb (zat lb 1) : Nat) : Int),.nilIface]) (by simp [results,Tryz.results18,go_sem,r0,r1,r2]) rfl ?_
 exact HG.out
theorem zja (lb : List Nat) (Baa : oA9) (maa daa : Nat) (w : World) (hT : zam w) (haa : zaB w lb Baa maa daa) (qaa : maa ≤ 2147483648) (h0 : 0 < maa) (hb : lb.getD 0 0 = 4) (he : zax lb 1 = 0) (hk1 : zat lb 1 ≤ maa) (he2 : zax lb (zat lb 1) = 0) (hd0 : zaj lb 1 ≠ 0) (how : decide ((Rat.divInt (sg9 true (zaj lb (zat lb 1))) ((zaj lb 1 : Nat) : Int)).den = zaj lb 1) = false) :
  Calls Tryz.prog 18 #[.slice Baa maa daa] w (zbd w (.bare 91,0,0)):=by
 have HIC:=lh9 (zbh (T:=zam))
 have HT:=lh9 (fun w' (hb : Below w.heap.size w w') => hT.on hb)
 obtain ⟨K,hKe⟩ : ∃ K,67108864 = K:=⟨_,rfl⟩
 have hKK : K ≤ 67108864:=by omega
 have hK0 : 0 < K:=by omega
 have hK9 : 255 ≤ K:=by omega
 have ef1:=zaH
 have ef2:=zaJ
 have ef3:=zaM
 have ef4:=zaN
 have i0 : ((maa : Int) == 0) = false:=by rw [beq_eq_false_iff_ne]; omega
 have i1 : (0 : Int) < (maa : Int):=by omega
 have HBY:=lh9 haa
 have HE:=lh9 he
 have HE2:=lh9 he2
 have HD0:=lh9 hd0
 have HOW:=lh9 how
 have HNaa:=lh9 (fun w' (b : Below w.heap.size w w') => haa.below b)
 have hlnaa:=haa.len
 have hcpaa:=haa.2.2
 obtain ⟨gb,ob,ib,rfl,hgb,hb0,gby0⟩:=haa.first (by omega)
 have gby0 : w.cell? ⟨gb,ob,ib⟩ = some (.int .u8 4):=by rw [gby0,hb]; rfl
 clear hb0
 clear haa
 clear hT hKe hb he he2 hd0 how
 go_enter Tryz.func18,Tryz.ntmps18
 have hB:=Below.refl w.heap.size w
 have HN3:=lh9 (zaQ w)
 have HZ3 : Hid (Sz 1 0):=zbK 1
 have kk2:=(zbp w 33 29 81 #[.bool false,.slice none 0 0,.slice none 0 0] #[.slice none 0 0] #[.int .u64 1]).2.2.1
 obtain ⟨bx1,bx2,bx3,bx4,bz⟩:=zbp w 33 29 81 #[.bool false,.slice none 0 0,.slice none 0 0] #[.slice none 0 0] #[.int .u64 1]
 have hB:=zac hB bx1
 have gby0:=zad bx1 gby0
 have HN3:=lh9 (HN3.out.below bx1)
 have k1:=bx2
 have g2:=bx3.c1
 have k4:=bx4
 clear bx1 bx2 bx3 bx4 bz
 go_wp2_with fail
 generalize ((w.alloc (.cells #[.bool false,.slice none 0 0,.slice none 0 0] 33)).alloc (.cells #[.slice none 0 0] 29)).alloc (.cells #[.int .u64 1] 81) = W1 at *
 have k2:=kk2
 clear kk2
 have HZ5 : Hid (Sz (1) (1)):=(by show (1 : Nat) < 18446744073709551616 ^ 1; decide)
 (with_reducible refine (zby _ [1] _ _ 1 (1) k4 rfl rfl (zeG 1 (by decide)) rfl (by decide)).mono ?_)
 rintro e wc2 ⟨B5,m5,d5,rfl,hw5,hb,_⟩
 have hB:=zac hB hb
 have gby0:=zad hb gby0
 have HN3:=lh9 (HN3.out.below hb)
 have k1:=zae hb k1
 have g2:=zad hb g2
 have k4:=zae hb k4
 have k2:=zae hb k2
 have HN5:=lh9 hw5
 clear hb hw5
 have lt1_2 : w.heap.size < wc2.heap.size:=k1.lt
 have lt2_2 : w.heap.size + 1 < wc2.heap.size:=World.block_lt_of_cell? wc2 ⟨w.heap.size + 1,0,none⟩ g2
 have lt4_2 : w.heap.size + 1 + 1 < wc2.heap.size:=k4.lt
 have hq2:=hB.size
 have kk6:=(zaz wc2 29 #[.slice B5 m5 d5]).2.1
 have gmby0_1 : (wc2.alloc (.cells #[.slice B5 m5 d5] 29)).cell? ⟨gb,ob,ib⟩ = some (.int .u8 4):=zal _ (gby0)
 obtain ⟨bx1,bx2,bz⟩:=zaz wc2 29 #[.slice B5 m5 d5]
 have hB:=zac hB bx1
 have gby0:=zad bx1 gby0
 have HN3:=lh9 (HN3.out.below bx1)
 have k1:=zae bx1 k1
 have g2:=zad bx1 g2
 have k4:=zae bx1 k4
 have k2:=zae bx1 k2
 have HN5:=lh9 (HN5.out.below bx1)
 have g6:=bx2.c1
 clear bx1 bx2 bz
 go_wp2_with fail
 clear gmby0_1
 generalize wc2.alloc (.cells #[.slice B5 m5 d5] 29) = W3 at *
 generalize wc2.heap.size = q3 at *
 have k6:=kk6
 clear kk6
 have HZ7 : Hid (Sz K (zaj lb 1)):=zbq HBY.out hK9
 (with_reducible refine (zaO lb 1 1 ({ data:=#[100,105,118,105,115,111,114] }) (some ⟨gb,ob,ib⟩) maa daa _ (HT.out _ hB) (HNaa.out _ hB) (by omega) (by omega) HE.out rfl).mono ?_)
 rintro e wc4 ⟨B7,m7,d7,rfl,hw7,hb⟩
 have hB:=zac hB hb
 have gby0:=zad hb gby0
 have HN3:=lh9 (HN3.out.below hb)
 have k1:=zae hb k1
 have g2:=zad hb g2
 have k4:=zae hb k4
 have k2:=zae hb k2
 have HN5:=lh9 (HN5.out.below hb)
 have g6:=zad hb g6
 have k6:=zae hb k6
 have HN7:=lh9 hw7
 clear hb hw7
 obtain ⟨sc0,sf0⟩:=st1 k6
 have kz0:=sn1 k6 (.slice B7 m7 d7)
 have gby0:=zag (q:=⟨q3,0,none⟩) (.slice B7 m7 d7) (by show gb ≠ q3; omega) (gby0)
 have HN3:=lh9 (zak HN3.out k6 (NoU.s1 _ _ _) (zaP _ _ (.slice B7 m7 d7)))
 have k1:=Blk.far (p:=⟨q3,0,none⟩) (k1) (by show w.heap.size ≠ q3; omega) (.slice B7 m7 d7)
 have g2:=zag (q:=⟨q3,0,none⟩) (.slice B7 m7 d7) (by show w.heap.size + 1 ≠ q3; omega) (g2)
 have k4:=Blk.far (p:=⟨q3,0,none⟩) (k4) (by show w.heap.size + 1 + 1 ≠ q3; omega) (.slice B7 m7 d7)
 have k2:=Blk.far (p:=⟨q3,0,none⟩) (k2) (by show w.heap.size + 1 ≠ q3; omega) (.slice B7 m7 d7)
 have HN5:=lh9 (zak HN5.out k6 (NoU.s1 _ _ _) (zaP _ _ (.slice B7 m7 d7)))
 have HN7:=lh9 (zak HN7.out k6 (NoU.s1 _ _ _) (zaP _ _ (.slice B7 m7 d7)))
 have hB:=bl1 (.slice B7 m7 d7) (by show w.heap.size ≤ q3; omega) hB
 have g6 : (wc4.setCell ⟨q3,0,none⟩ (.slice B7 m7 d7)).cell? ⟨q3,0,none⟩ = some (.slice B7 m7 d7):=kz0.cell 0
 have k6:=kz0
 go_upto_region 13 with fail
 clear sc0 sf0 kz0
 generalize wc4.setCell ⟨q3,0,none⟩ (.slice B7 m7 d7) = W5 at *
 go_wp2_with fail
 have HZ8 : Hid (Sz K (zaj lb (zat lb 1))):=zbq HBY.out hK9
 (with_reducible refine (zaO lb (zat lb 1) (((zat lb 1 : Nat) : Int)) ({ data:=#[110,117,109,98,101,114] }) (some ⟨gb,ob,ib⟩) maa daa _ (HT.out _ hB) (HNaa.out _ hB) (by omega) (by omega) HE2.out rfl).mono ?_)
 rintro e wc6 ⟨B8,m8,d8,rfl,hw8,hb⟩
 have hB:=zac hB hb
 have gby0:=zad hb gby0
 have HN3:=lh9 (HN3.out.below hb)
 have k1:=zae hb k1
 have g2:=zad hb g2
 have k4:=zae hb k4
 have k2:=zae hb k2
 have HN5:=lh9 (HN5.out.below hb)
 have k6:=zae hb k6
 have HN7:=lh9 (HN7.out.below hb)
 have g6:=zad hb g6
 have HN8:=lh9 hw8
 clear hb hw8
 obtain ⟨sc0,sf0⟩:=st1 k2
 have kz0:=sn1 k2 (.slice B8 m8 d8)
 have gby0:=zag (q:=⟨w.heap.size + 1,0,none⟩) (.slice B8 m8 d8) (by show gb ≠ w.heap.size + 1; omega) (gby0)
 have HN3:=lh9 (zak HN3.out k2 (NoU.s1 _ _ _) (zaP _ _ (.slice B8 m8 d8)))
 have k1:=Blk.far (p:=⟨w.heap.size + 1,0,none⟩) (k1) (by show w.heap.size ≠ w.heap.size + 1; omega) (.slice B8 m8 d8)
 have k4:=Blk.far (p:=⟨w.heap.size + 1,0,none⟩) (k4) (by show w.heap.size + 1 + 1 ≠ w.heap.size + 1; omega) (.slice B8 m8 d8)
 have HN5:=lh9 (zak HN5.out k2 (NoU.s1 _ _ _) (zaP _ _ (.slice B8 m8 d8)))
 have k6:=Blk.far (p:=⟨w.heap.size + 1,0,none⟩) (k6) (by show q3 ≠ w.heap.size + 1; omega) (.slice B8 m8 d8)
 have HN7:=lh9 (zak HN7.out k2 (NoU.s1 _ _ _) (zaP _ _ (.slice B8 m8 d8)))
 have g6:=zag (q:=⟨w.heap.size + 1,0,none⟩) (.slice B8 m8 d8) (by show q3 ≠ w.heap.size + 1; omega) (g6)
 have HN8:=lh9 (zak HN8.out k2 (NoU.s1 _ _ _) (zaP _ _ (.slice B8 m8 d8)))
 have hB:=bl1 (.slice B8 m8 d8) (by show w.heap.size ≤ w.heap.size + 1; omega) hB
 have g2 : (wc6.setCell ⟨w.heap.size + 1,0,none⟩ (.slice B8 m8 d8)).cell? ⟨w.heap.size + 1,0,none⟩ = some (.slice B8 m8 d8):=kz0.cell 0
 have k2:=kz0
 go_upto_region 16 with fail
 clear sc0 sf0 kz0
 generalize wc6.setCell ⟨w.heap.size + 1,0,none⟩ (.slice B8 m8 d8) = W7 at *
 go_wp2_with fail
 have HZ9 : Hid (Sz (K) (sg9 true (zaj lb (zat lb 1))).natAbs):=(by rw [zbJ]; exact HZ8.out)
 have C0:=lh9 (fun w' (h : Below W7.heap.size W7 w') => zgC HIC.out true (zaj lb (zat lb 1)) B8 m8 d8 w' (HT.out _ (zac hB h)) (HN8.out.below h) (szw HZ8 HN8.out))
 have HZ10 : Hid (SzQ (K) (Rat.divInt (sg9 true (zaj lb (zat lb 1))) ((zaj lb 1 : Nat) : Int))):=SzQ.made HZ9.out (by rw [Int.natAbs_natCast]; exact HZ7.out) (by omega)
 have C1:=lh9 (fun w' (h : Below W7.heap.size W7 w') b9 B9 m9 d9 (hw9 : zaE w' (sg9 true (zaj lb (zat lb 1))) b9 B9 m9 d9) => zcM (rfl) (HOW.out) (zbO (sg9 true (zaj lb (zat lb 1))) (zaj lb 1) b9 B9 m9 d9 B7 m7 d7 w' (HT.out _ (zac hB h)) hw9 (HN7.out.below h) (szi HZ9 hw9) (szw HZ7 HN7.out) HD0.out))
 have lt1_m7:=k1.lt
 have lt4_m7:=k4.lt
 have lt2_m7:=k2.lt
 have lt6_m7:=k6.lt
 have GG:=lh9 (fun w' (h : Below W7.heap.size W7 w') => (csc (zad h g2) (csc (zad h g6) csn)))
 refine rgB (fun hHeld => ?_)
 refine tl 0 GG.out ?_
 refine tl 1 GG.out ?_
 refine tl 3 GG.out ?_
 refine zbk (L:=#[true,true,true,true,true,true,true,true,true,true,true])
  (J:=fun a0 l a w' => ∃ (fl2 fl4 fl5 fl6 fl7 fl8 fl9 fl10 b9 : Bool) (B9 : oA9) (m9 d9 : Nat) (b10 : Bool) (B10 : oA9) (m10 d10 : Nat) (E10 : oA9) (u10 v10 ad8 : Nat),l = #[true,true,fl2,true,fl4,fl5,fl6,fl7,fl8,fl9,fl10] ∧ zco [65,67,62,68,69,10,11] a0 a ∧ Hid (Below W7.heap.size W7 w') ∧
    Hid (Gd fl2 (a.tmps.getD 65 undef = .agg #[.bool b9,.slice B9 m9 d9] ∧ zaE w' (sg9 true (zaj lb (zat lb 1))) b9 B9 m9 d9)) ∧
    Hid (Gd fl4 (a.tmps.getD 67 undef = .tuple #[.agg #[.bool b10,.slice B10 m10 d10,.slice E10 u10 v10],.bool false] ∧ zaF w' (Rat.divInt (sg9 true (zaj lb (zat lb 1))) ((zaj lb 1 : Nat) : Int)) b10 B10 m10 d10 E10 u10 v10)) ∧
    Hid (Gd fl5 (a.tmps.getD 62 undef = .tuple #[.agg #[.bool b10,.slice B10 m10 d10,.slice E10 u10 v10],.bool false])) ∧
    Hid (Gd fl6 (a.tmps.getD 68 undef = .agg #[.bool b10,.slice B10 m10 d10,.slice E10 u10 v10])) ∧
    Hid (Gd fl7 (a.tmps.getD 69 undef = .bool false)) ∧
    Hid (Gd fl10 (a.tmps.getD 11 undef = .bool false)) ∧
    Hid (Gd fl8 (a.tmps.getD 10 undef = .pointer (some ⟨ad8,0,none⟩) ∧ W7.heap.size ≤ ad8 ∧ Blk w' ad8 33 (bif fl9 then #[.bool b10,.slice B10 m10 d10,.slice E10 u10 v10] else #[.bool false,.slice none 0 0,.slice none 0 0]))) ∧
    Hid (Gd fl4 (fl2 = true)) ∧
    Hid (Gd fl5 (fl4 = true)) ∧
    Hid (Gd fl6 (fl5 = true)) ∧
    Hid (Gd fl7 (fl5 = true)) ∧
    Hid (Gd fl9 (fl4 = true)) ∧
    Hid (Gd fl9 (fl6 = true)) ∧
    Hid (Gd fl9 (fl8 = true)) ∧
    Hid (Gd fl10 (fl7 = true)) ∧
    Hid (Gd fl10 (fl9 = true)))
  (by rfl) ?_ ?_ ?_
 ·exact ⟨false,false,false,false,false,false,false,false,false,none,0,0,false,none,0,0,none,0,0,0,by kernel_rfl,zco.refl _ _,hHeld,Gd.no,Gd.no,Gd.no,Gd.no,Gd.no,Gd.no,Gd.no,Gd.no,Gd.no,Gd.no,Gd.no,Gd.no,Gd.no,Gd.no,Gd.no,Gd.no⟩
 ·intro OPS Ac0 Q0 hO hAs hA
  have RB63 : Ac0.tmps.getD 63 undef = .bool true:=(hA 63 undef).trans (by kernel_rfl)
  have RB64 : Ac0.tmps.getD 64 undef = .agg #[.slice B8 m8 d8]:=(hA 64 undef).trans (by kernel_rfl)
  have RB66 : Ac0.tmps.getD 66 undef = .agg #[.slice B7 m7 d7]:=(hA 66 undef).trans (by kernel_rfl)
  have hsz : Ac0.tmps.size = 83:=hAs.trans (by kernel_rfl)
  clear hAs hA
  refine ⟨?_,?_⟩
  ·rintro l a w' ⟨fl2,fl4,fl5,fl6,fl7,fl8,fl9,fl10,b9,B9,m9,d9,b10,B10,m10,d10,E10,u10,v10,ad8,rfl,-⟩ hr
   obtain rfl : fl2 = true:=als 2 hr hO
   obtain rfl : fl4 = true:=als 4 hr hO
   obtain rfl : fl5 = true:=als 5 hr hO
   obtain rfl : fl6 = true:=als 6 hr hO
   obtain rfl : fl7 = true:=als 7 hr hO
   obtain rfl : fl8 = true:=als 8 hr hO
   obtain rfl : fl9 = true:=als 9 hr hO
   obtain rfl : fl10 = true:=als 10 hr hO
   rfl
  ·rintro l a w' i ⟨fl2,fl4,fl5,fl6,fl7,fl8,fl9,fl10,b9,B9,m9,d9,b10,B10,m10,d10,E10,u10,v10,ad8,rfl,HKp,hBi,qf2,qf4,qf5,qf6,qf7,qf10,qf8,qd4_2,qd5_4,qd6_5,qd7_5,qd9_4,qd9_6,qd9_8,qd10_7,qd10_9⟩ hne hi
   have hlt : i < 11:=by have:=zcf hi; rw [hO] at this; exact this
   rcases (show i = 0 ∨ i = 1 ∨ i = 2 ∨ i = 3 ∨ i = 4 ∨ i = 5 ∨ i = 6 ∨ i = 7 ∨ i = 8 ∨ i = 9 ∨ i = 10 by omega) with rfl | rfl | rfl | rfl | rfl | rfl | rfl | rfl | rfl | rfl | rfl
   ·cases (zah hi : true = false)
   ·cases (zah hi : true = false)
   ·obtain rfl : fl2 = false:=zah hi
    obtain rfl : fl4 = false:=Gd.off qd4_2.out
    obtain rfl : fl5 = false:=Gd.off qd5_4.out
    obtain rfl : fl6 = false:=Gd.off qd6_5.out
    obtain rfl : fl7 = false:=Gd.off qd7_5.out
    obtain rfl : fl9 = false:=Gd.off qd9_4.out
    obtain rfl : fl10 = false:=Gd.off qd10_7.out
    have rd63:=HKp.get 63 (by decide) RB63
    have rd64:=HKp.get 64 (by decide) RB64
    refine wog hO (fun K' hK => ?_)
    go_simp
    refine (C0.out w' hBi.out).mono ?_
    rintro e w2 ⟨nb9,nB9,nm9,nd9,rfl,nhw9,hb⟩
    exact hK.out _ _ ⟨zac hBi.out hb,true,false,false,false,false,fl8,false,false,nb9,nB9,nm9,nd9,b10,B10,m10,d10,E10,u10,v10,ad8,by rfl,HKp.put (by decide) _,zac hBi.out hb,Gd.yes ⟨zaA (HKp.lt (by rw [hsz]; decide)) _,nhw9⟩,Gd.no,Gd.no,Gd.no,Gd.no,Gd.no,kq qf8.out fun h => ⟨h.1,zae hb h.2⟩,Gd.no,Gd.no,Gd.no,Gd.no,Gd.no,Gd.no,Gd.no,Gd.no,Gd.no⟩
   ·cases (zah hi : true = false)
   ·obtain rfl : fl4 = false:=zah hi
    obtain rfl : fl2 = true:=rdp 2 0 hi hO
    obtain rfl : fl5 = false:=Gd.off qd5_4.out
    obtain rfl : fl6 = false:=Gd.off qd6_5.out
    obtain rfl : fl7 = false:=Gd.off qd7_5.out
    obtain rfl : fl9 = false:=Gd.off qd9_4.out
    obtain rfl : fl10 = false:=Gd.off qd10_7.out
    have rd65:=qf2.out.get.1
    have rd66:=HKp.get 66 (by decide) RB66
    have hw9:=qf2.out.get.2
    refine wog hO (fun K' hK => ?_)
    go_simp
    refine (C1.out w' hBi.out _ _ _ _ hw9).mono ?_
    rintro e w2 ⟨nb10,nB10,nm10,nd10,nE10,nu10,nv10,rfl,nhw10,hb⟩
    exact hK.out _ _ ⟨zac hBi.out hb,true,true,false,false,false,fl8,false,false,b9,B9,m9,d9,nb10,nB10,nm10,nd10,nE10,nu10,nv10,ad8,by rfl,HKp.put (by decide) _,zac hBi.out hb,kq qf2.out fun h => (h).below hb,Gd.yes ⟨zaA (HKp.lt (by rw [hsz]; decide)) _,nhw10⟩,Gd.no,Gd.no,Gd.no,Gd.no,kq qf8.out fun h => ⟨h.1,zae hb h.2⟩,fun _ => rfl,Gd.no,Gd.no,Gd.no,Gd.no,Gd.no,Gd.no,Gd.no,Gd.no⟩
   ·obtain rfl : fl5 = false:=zah hi
    obtain rfl : fl4 = true:=rdp 4 0 hi hO
    obtain rfl : fl2 = true:=qd4_2.out.get
    obtain rfl : fl6 = false:=Gd.off qd6_5.out
    obtain rfl : fl7 = false:=Gd.off qd7_5.out
    obtain rfl : fl9 = false:=Gd.off qd9_6.out
    obtain rfl : fl10 = false:=Gd.off qd10_7.out
    have rd67:=qf4.out.get.1
    refine wog hO (fun K' hK => ?_)
    refine zaX (x:=67) (Or.inl rfl) rd67 ?_
    exact hK.out _ _ ⟨hBi.out,true,true,true,false,false,fl8,false,false,b9,B9,m9,d9,b10,B10,m10,d10,E10,u10,v10,ad8,by rfl,HKp.put (by decide) _,hBi.out,kq qf2.out fun h => (h),kq qf4.out fun h => (h),Gd.yes (zaA (HKp.lt (by rw [hsz]; decide)) _),Gd.no,Gd.no,Gd.no,kq qf8.out id,fun _ => rfl,fun _ => rfl,Gd.no,Gd.no,Gd.no,Gd.no,Gd.no,Gd.no,Gd.no⟩
   ·obtain rfl : fl6 = false:=zah hi
    obtain rfl : fl5 = true:=rdp 5 0 hi hO
    obtain rfl : fl4 = true:=qd5_4.out.get
    obtain rfl : fl2 = true:=qd4_2.out.get
    obtain rfl : fl9 = false:=Gd.off qd9_6.out
    obtain rfl : fl10 = false:=Gd.off qd10_9.out
    have rd62:=qf5.out.get
    refine wog hO (fun K' hK => ?_)
    refine zaD (x:=62) (k:=0) rfl rd62 rfl ?_
    exact hK.out _ _ ⟨hBi.out,true,true,true,true,fl7,fl8,false,false,b9,B9,m9,d9,b10,B10,m10,d10,E10,u10,v10,ad8,by rfl,HKp.put (by decide) _,hBi.out,kq qf2.out fun h => (h),kq qf4.out fun h => (h),kq0 qf5.out,Gd.yes (zaA (HKp.lt (by rw [hsz]; decide)) _),kq0 qf7.out,Gd.no,kq qf8.out id,fun _ => rfl,fun _ => rfl,fun _ => rfl,fun _ => rfl,Gd.no,Gd.no,Gd.no,Gd.no,Gd.no⟩
   ·obtain rfl : fl7 = false:=zah hi
    obtain rfl : fl5 = true:=rdp 5 0 hi hO
    obtain rfl : fl4 = true:=qd5_4.out.get
    obtain rfl : fl2 = true:=qd4_2.out.get
    obtain rfl : fl10 = false:=Gd.off qd10_7.out
    have rd62:=qf5.out.get
    refine wog hO (fun K' hK => ?_)
    refine zaD (x:=62) (k:=1) rfl rd62 rfl ?_
    exact hK.out _ _ ⟨hBi.out,true,true,true,fl6,true,fl8,fl9,false,b9,B9,m9,d9,b10,B10,m10,d10,E10,u10,v10,ad8,by rfl,HKp.put (by decide) _,hBi.out,kq qf2.out fun h => (h),kq qf4.out fun h => (h),kq0 qf5.out,kq0 qf6.out,Gd.yes (zaA (HKp.lt (by rw [hsz]; decide)) _),Gd.no,kq qf8.out id,fun _ => rfl,fun _ => rfl,fun _ => rfl,fun _ => rfl,fun _ => rfl,qd9_6,qd9_8,Gd.no,Gd.no⟩
   ·obtain rfl : fl8 = false:=zah hi
    obtain rfl : fl9 = false:=Gd.off qd9_8.out
    obtain rfl : fl10 = false:=Gd.off qd10_9.out
    refine wog hO (fun K' hK => ?_)
    go_simp
    have hb:=zbH w' (.cells #[.bool false,.slice none 0 0,.slice none 0 0] 33)
    exact hK.out _ _ ⟨zac hBi.out hb,fl2,fl4,fl5,fl6,fl7,true,false,false,b9,B9,m9,d9,b10,B10,m10,d10,E10,u10,v10,w'.heap.size,by rfl,HKp.put (by decide) _,zac hBi.out hb,kq qf2.out fun h => (h).below hb,kq qf4.out fun h => (h).below hb,kq0 qf5.out,kq0 qf6.out,kq0 qf7.out,Gd.no,Gd.yes ⟨zaA (HKp.lt (by rw [hsz]; decide)) _,hBi.out.size,Blk.new w' _ _⟩,qd4_2,qd5_4,qd6_5,qd7_5,Gd.no,Gd.no,Gd.no,Gd.no,Gd.no⟩
   ·obtain rfl : fl9 = false:=zah hi
    obtain rfl : fl2 = true:=rdp 2 5 hi hO
    obtain rfl : fl4 = true:=rdp 4 2 hi hO
    obtain rfl : fl5 = true:=rdp 5 8 hi hO
    obtain rfl : fl6 = true:=rdp 6 1 hi hO
    obtain rfl : fl8 = true:=rdp 8 0 hi hO
    obtain rfl : fl10 = false:=Gd.off qd10_9.out
    have rd10:=qf8.out.get.1
    have rd68:=qf6.out.get
    obtain ⟨_,hg,hk⟩:=qf8.out.get
    have hk : Blk w' ad8 33 #[.bool false,.slice none 0 0,.slice none 0 0]:=hk
    obtain ⟨sc0,sf0,sc1,sf1,sc2,sf2⟩:=st3 hk (.bool b10) (.slice B10 m10 d10)
    have hj2:=sn3 hk (.bool b10) (.slice B10 m10 d10) (.slice E10 u10 v10)
    have hBn:=bl3 (.bool b10) (.slice B10 m10 d10) (.slice E10 u10 v10) hg hBi.out
    refine wog hO (fun K' hK => ?_)
    go_simp
    exact hK.out _ _ ⟨hBn,true,true,true,true,fl7,true,true,false,b9,B9,m9,d9,b10,B10,m10,d10,E10,u10,v10,ad8,by rfl,HKp,hBn,qf2.out.mono fun h => ⟨h.1,zcx (h.2) hk zdE (zcy _ _ _ _ _)⟩,qf4.out.mono fun h => ⟨h.1,zbF (h.2) hk zdE (zcy _ _ _ _ _)⟩,qf5.out.mono fun h => h,qf6.out.mono fun h => h,qf7.out.mono fun h => h,Gd.no,qf8.out.mono fun h => ⟨h.1,h.2.1,hj2⟩,fun _ => rfl,fun _ => rfl,fun _ => rfl,fun _ => rfl,fun _ => rfl,fun _ => rfl,fun _ => rfl,Gd.no,Gd.no⟩
   ·obtain rfl : fl10 = false:=zah hi
    obtain rfl : fl2 = true:=rdp 2 4 hi hO
    obtain rfl : fl4 = true:=rdp 4 6 hi hO
    obtain rfl : fl5 = true:=rdp 5 7 hi hO
    obtain rfl : fl6 = true:=rdp 6 8 hi hO
    obtain rfl : fl7 = true:=rdp 7 0 hi hO
    obtain rfl : fl8 = true:=rdp 8 10 hi hO
    obtain rfl : fl9 = true:=rdp 9 1 hi hO
    have rd69:=qf7.out.get
    refine wog hO (fun K' hK => ?_)
    refine zaX (x:=69) (Or.inr rfl) rd69 ?_
    exact hK.out _ _ ⟨hBi.out,true,true,true,true,true,true,true,true,b9,B9,m9,d9,b10,B10,m10,d10,E10,u10,v10,ad8,by rfl,HKp.put (by decide) _,hBi.out,kq qf2.out fun h => (h),kq qf4.out fun h => (h),kq0 qf5.out,kq0 qf6.out,kq0 qf7.out,Gd.yes (zaA (HKp.lt (by rw [hsz]; decide)) _),kq qf8.out id,fun _ => rfl,fun _ => rfl,fun _ => rfl,fun _ => rfl,fun _ => rfl,fun _ => rfl,fun _ => rfl,fun _ => rfl,fun _ => rfl⟩
 rintro a wm8 ⟨fl2,fl4,fl5,fl6,fl7,fl8,fl9,fl10,b9,B9,m9,d9,b10,B10,m10,d10,E10,u10,v10,ad8,hl,HKp,hBi,qf2,qf4,qf5,qf6,qf7,qf10,qf8,qd4_2,qd5_4,qd6_5,qd7_5,qd9_4,qd9_6,qd9_8,qd10_7,qd10_9⟩
 have xx2 : fl2 = true:=gdl 2 hl
 subst xx2
 have xx4 : fl4 = true:=gdl 4 hl
 subst xx4
 have xx5 : fl5 = true:=gdl 5 hl
 subst xx5
 have xx6 : fl6 = true:=gdl 6 hl
 subst xx6
 have xx7 : fl7 = true:=gdl 7 hl
 subst xx7
 have xx8 : fl8 = true:=gdl 8 hl
 subst xx8
 have xx9 : fl9 = true:=gdl 9 hl
 subst xx9
 have xx10 : fl10 = true:=gdl 10 hl
 subst xx10
 obtain ⟨rv2,hw9⟩:=qf2.out.get
 obtain ⟨rv4,hw10⟩:=qf4.out.get
 have rv5:=qf5.out.get
 have rv6:=qf6.out.get
 have rv7:=qf7.out.get
 have rv10:=qf10.out.get
 obtain ⟨rv8,hg8,hk8⟩:=qf8.out.get
 obtain rfl:=HKp.eq [(65,.agg #[.bool b9,.slice B9 m9 d9]),(67,.tuple #[.agg #[.bool b10,.slice B10 m10 d10,.slice E10 u10 v10],.bool false]),(62,.tuple #[.agg #[.bool b10,.slice B10 m10 d10,.slice E10 u10 v10],.bool false]),(68,.agg #[.bool b10,.slice B10 m10 d10,.slice E10 u10 v10]),(69,.bool false),(10,.pointer (some ⟨ad8,0,none⟩)),(11,.bool false)] rfl (by
  intro p hp
  simp only [List.mem_cons,List.not_mem_nil,or_false] at hp
  rcases hp with rfl | rfl | rfl | rfl | rfl | rfl | rfl
  ·exact rv2
  ·exact rv4
  ·exact rv5
  ·exact rv6
  ·exact rv7
  ·exact rv8
  ·exact rv10)
 have hBv:=hBi.out
 clear hl hBi HKp qf2 qf4 qf5 qf6 qf7 qf10 qf8 qd4_2 qd5_4 qd6_5 qd7_5 qd9_4 qd9_6 qd9_8 qd10_7 qd10_9 rv2 rv4 rv5 rv6 rv7 rv8 rv10
 have hk8 : Blk wm8 ad8 33 #[.bool b10,.slice B10 m10 d10,.slice E10 u10 v10]:=hk8
 rw [show due #[true,true,true,true,true,true,true,true,true,true,true] = 0 from rfl]
 simp only [zcl,List.foldl,Act.put,List.setIfInBounds_toArray,List.set_cons_zero,List.set_cons_succ]
 refine wpAnyH_done (by kernel_rfl) ?_ _
 refine NoPanic.normal ?_
 have lt2_m8:=World.block_lt_of_cell? _ _ g2
 dsimp only at lt2_m8
 have lt6_m8:=World.block_lt_of_cell? _ _ g6
 dsimp only at lt6_m8
 have ltby0_m8:=World.block_lt_of_cell? _ _ gby0
 dsimp only at ltby0_m8
 have hB:=zac hB hBv
 have gby0:=zad hBv gby0
 have HN3:=lh9 (HN3.out.below hBv)
 have k1:=zae hBv k1
 have k4:=zae hBv k4
 have k2:=zae hBv k2
 have HN5:=lh9 (HN5.out.below hBv)
 have k6:=zae hBv k6
 have HN7:=lh9 (HN7.out.below hBv)
 have g6:=zad hBv g6
 have HN8:=lh9 (HN8.out.below hBv)
 have g2:=zad hBv g2
 obtain ⟨ad8_11,hga⟩ : ∃ x,x = ad8:=⟨_,rfl⟩
 subst hga
 obtain ⟨g11,e11,i11⟩:=hk8.c3
 have HN9:=lh9 hw9
 have HN10:=lh9 hw10
 clear hBv hk8 hw9 hw10 GG
 clear C0 C1
 go_wp2_with fail
 have hBw:=(Below.refl wm8.heap.size wm8).drew
 refine rg csn (fun hHeld => ?_)
 refine tk 0 ?_
 refine tk 1 ?_
 refine tu 2 ?_
 refine tu 3 ?_
 refine tu 4 ?_
 refine tu 5 ?_
 refine tu 6 ?_
 refine tu 7 ?_
 refine tk 8 ?_
 refine rdn ?_
 have hB:=zac hB hBw
 have gby0:=zad hBw gby0
 have HN3:=lh9 (HN3.out.below hBw)
 have k1:=zae hBw k1
 have k4:=zae hBw k4
 have k2:=zae hBw k2
 have HN5:=lh9 (HN5.out.below hBw)
 have k6:=zae hBw k6
 have HN7:=lh9 (HN7.out.below hBw)
 have g6:=zad hBw g6
 have HN8:=lh9 (HN8.out.below hBw)
 have g2:=zad hBw g2
 have g11:=zad hBw g11
 have e11:=zad hBw e11
 have i11:=zad hBw i11
 have HN9:=lh9 (HN9.out.below hBw)
 have HN10:=lh9 (HN10.out.below hBw)
 clear hBw hHeld
 have HN12:=lh9 (zaS wm8.drew)
 generalize wm8.drew = Wd9 at *
 obtain ⟨sc0,sf0,sc1,sf1,sc2,sf2⟩:=st3 k1 (.bool false) (.slice none 0 0)
 obtain ⟨r0,r1,r2⟩:=(sn3 k1 (.bool false) (.slice none 0 0) (.slice none 0 0)).c3
 have HG:=lh9 (gd3 (HN12.out) (zdq 91 _) (show (0 : Int) = ((0 : Nat) : Int) from rfl) k1 hB (by omega))
 go_wp2
 refine bodyPost_ret (v:=.tuple #[.agg #[.bool false,.slice none 0 0,.slice none 0 0],.int .i64 0,.iface 47 (.int .i64 91)]) (by simp [results,Tryz.results18,go_sem,r0,r1,r2]) rfl ?_
 exact HG.out
theorem zjb (lb : List Nat) (Baa : oA9) (maa daa : Nat) (w : World) (hT : zam w) (haa : zaB w lb Baa maa daa) (qaa : maa ≤ 2147483648) (h0 : 0 < maa) (hb : lb.getD 0 0 = 4) (he : zax lb 1 = 0) (hk1 : zat lb 1 ≤ maa) (he2 : zax lb (zat lb 1) = 0) (hd0 : zaj lb 1 ≠ 0) (how : decide ((Rat.divInt (sg9 true (zaj lb (zat lb 1))) ((zaj lb 1 : Nat) : Int)).den = zaj lb 1) = true) (hk : zbM (Rat.divInt (sg9 true (zaj lb (zat lb 1))) ((zaj lb 1 : Nat) : Int)) ≠ 4) :
  Calls Tryz.prog 18 #[.slice Baa maa daa] w (zbd w (.bare 91,0,0)):=by
 have HIC:=lh9 (zbh (T:=zam))
 have HT:=lh9 (fun w' (hb : Below w.heap.size w w') => hT.on hb)
 obtain ⟨K,hKe⟩ : ∃ K,67108864 = K:=⟨_,rfl⟩
 have hKK : K ≤ 67108864:=by omega
 have hK0 : 0 < K:=by omega
 have hK9 : 255 ≤ K:=by omega
 have ef1:=zaH
 have ef2:=zaJ
 have ef3:=zaM
 have ef4:=zaN
 have i0 : ((maa : Int) == 0) = false:=by rw [beq_eq_false_iff_ne]; omega
 have i1 : (0 : Int) < (maa : Int):=by omega
 have HBY:=lh9 haa
 have HE:=lh9 he
 have HE2:=lh9 he2
 have HD0:=lh9 hd0
 have HOW:=lh9 how
 obtain ⟨kk,hkk⟩ : ∃ v,zbM (Rat.divInt (sg9 true (zaj lb (zat lb 1))) ((zaj lb 1 : Nat) : Int)) = v:=⟨_,rfl⟩
 have HK:=lh9 hkk
 have kb1 : ((kk : Int) == 4) = false:=by rw [beq_eq_false_iff_ne]; omega
 clear hkk
 have HNaa:=lh9 (fun w' (b : Below w.heap.size w w') => haa.below b)
 have hlnaa:=haa.len
 have hcpaa:=haa.2.2
 obtain ⟨gb,ob,ib,rfl,hgb,hb0,gby0⟩:=haa.first (by omega)
 have gby0 : w.cell? ⟨gb,ob,ib⟩ = some (.int .u8 4):=by rw [gby0,hb]; rfl
 clear hb0
 clear haa
 clear hT hKe hb he he2 hd0 how hk
 go_enter Tryz.func18,Tryz.ntmps18
 have hB:=Below.refl w.heap.size w
 have HN3:=lh9 (zaQ w)
 have HZ3 : Hid (Sz 1 0):=zbK 1
 have kk2:=(zbp w 33 29 81 #[.bool false,.slice none 0 0,.slice none 0 0] #[.slice none 0 0] #[.int .u64 1]).2.2.1
 obtain ⟨bx1,bx2,bx3,bx4,bz⟩:=zbp w 33 29 81 #[.bool false,.slice none 0 0,.slice none 0 0] #[.slice none 0 0] #[.int .u64 1]
 have hB:=zac hB bx1
 have gby0:=zad bx1 gby0
 have HN3:=lh9 (HN3.out.below bx1)
 have k1:=bx2
 have g2:=bx3.c1
 have k4:=bx4
 clear bx1 bx2 bx3 bx4 bz
 go_wp2_with fail
 generalize ((w.alloc (.cells #[.bool false,.slice none 0 0,.slice none 0 0] 33)).alloc (.cells #[.slice none 0 0] 29)).alloc (.cells #[.int .u64 1] 81) = W1 at *
 have k2:=kk2
 clear kk2
 have HZ5 : Hid (Sz (1) (1)):=(by show (1 : Nat) < 18446744073709551616 ^ 1; decide)
 (with_reducible refine (zby _ [1] _ _ 1 (1) k4 rfl rfl (zeG 1 (by decide)) rfl (by decide)).mono ?_)
 rintro e wc2 ⟨B5,m5,d5,rfl,hw5,hb,_⟩
 have hB:=zac hB hb
 have gby0:=zad hb gby0
 have HN3:=lh9 (HN3.out.below hb)
 have k1:=zae hb k1
 have g2:=zad hb g2
 have k4:=zae hb k4
 have k2:=zae hb k2
 have HN5:=lh9 hw5
 clear hb hw5
 have lt1_2 : w.heap.size < wc2.heap.size:=k1.lt
 have lt2_2 : w.heap.size + 1 < wc2.heap.size:=World.block_lt_of_cell? wc2 ⟨w.heap.size + 1,0,none⟩ g2
 have lt4_2 : w.heap.size + 1 + 1 < wc2.heap.size:=k4.lt
 have hq2:=hB.size
 have kk6:=(zaz wc2 29 #[.slice B5 m5 d5]).2.1
 have gmby0_1 : (wc2.alloc (.cells #[.slice B5 m5 d5] 29)).cell? ⟨gb,ob,ib⟩ = some (.int .u8 4):=zal _ (gby0)
 obtain ⟨bx1,bx2,bz⟩:=zaz wc2 29 #[.slice B5 m5 d5]
 have hB:=zac hB bx1
 have gby0:=zad bx1 gby0
 have HN3:=lh9 (HN3.out.below bx1)
 have k1:=zae bx1 k1
 have g2:=zad bx1 g2
 have k4:=zae bx1 k4
 have k2:=zae bx1 k2
 have HN5:=lh9 (HN5.out.below bx1)
 have g6:=bx2.c1
 clear bx1 bx2 bz
 go_wp2_with fail
 clear gmby0_1
 generalize wc2.alloc (.cells #[.slice B5 m5 d5] 29) = W3 at *
 generalize wc2.heap.size = q3 at *
 have k6:=kk6
 clear kk6
 have HZ7 : Hid (Sz K (zaj lb 1)):=zbq HBY.out hK9
 (with_reducible refine (zaO lb 1 1 ({ data:=#[100,105,118,105,115,111,114] }) (some ⟨gb,ob,ib⟩) maa daa _ (HT.out _ hB) (HNaa.out _ hB) (by omega) (by omega) HE.out rfl).mono ?_)
 rintro e wc4 ⟨B7,m7,d7,rfl,hw7,hb⟩
 have hB:=zac hB hb
 have gby0:=zad hb gby0
 have HN3:=lh9 (HN3.out.below hb)
 have k1:=zae hb k1
 have g2:=zad hb g2
 have k4:=zae hb k4
 have k2:=zae hb k2
 have HN5:=lh9 (HN5.out.below hb)
 have g6:=zad hb g6
 have k6:=zae hb k6
 have HN7:=lh9 hw7
 clear hb hw7
 obtain ⟨sc0,sf0⟩:=st1 k6
 have kz0:=sn1 k6 (.slice B7 m7 d7)
 have gby0:=zag (q:=⟨q3,0,none⟩) (.slice B7 m7 d7) (by show gb ≠ q3; omega) (gby0)
 have HN3:=lh9 (zak HN3.out k6 (NoU.s1 _ _ _) (zaP _ _ (.slice B7 m7 d7)))
 have k1:=Blk.far (p:=⟨q3,0,none⟩) (k1) (by show w.heap.size ≠ q3; omega) (.slice B7 m7 d7)
 have g2:=zag (q:=⟨q3,0,none⟩) (.slice B7 m7 d7) (by show w.heap.size + 1 ≠ q3; omega) (g2)
 have k4:=Blk.far (p:=⟨q3,0,none⟩) (k4) (by show w.heap.size + 1 + 1 ≠ q3; omega) (.slice B7 m7 d7)
 have k2:=Blk.far (p:=⟨q3,0,none⟩) (k2) (by show w.heap.size + 1 ≠ q3; omega) (.slice B7 m7 d7)
 have HN5:=lh9 (zak HN5.out k6 (NoU.s1 _ _ _) (zaP _ _ (.slice B7 m7 d7)))
 have HN7:=lh9 (zak HN7.out k6 (NoU.s1 _ _ _) (zaP _ _ (.slice B7 m7 d7)))
 have hB:=bl1 (.slice B7 m7 d7) (by show w.heap.size ≤ q3; omega) hB
 have g6 : (wc4.setCell ⟨q3,0,none⟩ (.slice B7 m7 d7)).cell? ⟨q3,0,none⟩ = some (.slice B7 m7 d7):=kz0.cell 0
 have k6:=kz0
 go_upto_region 13 with fail
 clear sc0 sf0 kz0
 generalize wc4.setCell ⟨q3,0,none⟩ (.slice B7 m7 d7) = W5 at *
 go_wp2_with fail
 have HZ8 : Hid (Sz K (zaj lb (zat lb 1))):=zbq HBY.out hK9
 (with_reducible refine (zaO lb (zat lb 1) (((zat lb 1 : Nat) : Int)) ({ data:=#[110,117,109,98,101,114] }) (some ⟨gb,ob,ib⟩) maa daa _ (HT.out _ hB) (HNaa.out _ hB) (by omega) (by omega) HE2.out rfl).mono ?_)
 rintro e wc6 ⟨B8,m8,d8,rfl,hw8,hb⟩
 have hB:=zac hB hb
 have gby0:=zad hb gby0
 have HN3:=lh9 (HN3.out.below hb)
 have k1:=zae hb k1
 have g2:=zad hb g2
 have k4:=zae hb k4
 have k2:=zae hb k2
 have HN5:=lh9 (HN5.out.below hb)
 have k6:=zae hb k6
 have HN7:=lh9 (HN7.out.below hb)
 have g6:=zad hb g6
 have HN8:=lh9 hw8
 clear hb hw8
 obtain ⟨sc0,sf0⟩:=st1 k2
 have kz0:=sn1 k2 (.slice B8 m8 d8)
 have gby0:=zag (q:=⟨w.heap.size + 1,0,none⟩) (.slice B8 m8 d8) (by show gb ≠ w.heap.size + 1; omega) (gby0)
 have HN3:=lh9 (zak HN3.out k2 (NoU.s1 _ _ _) (zaP _ _ (.slice B8 m8 d8)))
 have k1:=Blk.far (p:=⟨w.heap.size + 1,0,none⟩) (k1) (by show w.heap.size ≠ w.heap.size + 1; omega) (.slice B8 m8 d8)
 have k4:=Blk.far (p:=⟨w.heap.size + 1,0,none⟩) (k4) (by show w.heap.size + 1 + 1 ≠ w.heap.size + 1; omega) (.slice B8 m8 d8)
 have HN5:=lh9 (zak HN5.out k2 (NoU.s1 _ _ _) (zaP _ _ (.slice B8 m8 d8)))
 have k6:=Blk.far (p:=⟨w.heap.size + 1,0,none⟩) (k6) (by show q3 ≠ w.heap.size + 1; omega) (.slice B8 m8 d8)
 have HN7:=lh9 (zak HN7.out k2 (NoU.s1 _ _ _) (zaP _ _ (.slice B8 m8 d8)))
 have g6:=zag (q:=⟨w.heap.size + 1,0,none⟩) (.slice B8 m8 d8) (by show q3 ≠ w.heap.size + 1; omega) (g6)
 have HN8:=lh9 (zak HN8.out k2 (NoU.s1 _ _ _) (zaP _ _ (.slice B8 m8 d8)))
 have hB:=bl1 (.slice B8 m8 d8) (by show w.heap.size ≤ w.heap.size + 1; omega) hB
 have g2 : (wc6.setCell ⟨w.heap.size + 1,0,none⟩ (.slice B8 m8 d8)).cell? ⟨w.heap.size + 1,0,none⟩ = some (.slice B8 m8 d8):=kz0.cell 0
 have k2:=kz0
 go_upto_region 16 with fail
 clear sc0 sf0 kz0
 generalize wc6.setCell ⟨w.heap.size + 1,0,none⟩ (.slice B8 m8 d8) = W7 at *
 go_wp2_with fail
 have HZ9 : Hid (Sz (K) (sg9 true (zaj lb (zat lb 1))).natAbs):=(by rw [zbJ]; exact HZ8.out)
 have C0:=lh9 (fun w' (h : Below W7.heap.size W7 w') => zgC HIC.out true (zaj lb (zat lb 1)) B8 m8 d8 w' (HT.out _ (zac hB h)) (HN8.out.below h) (szw HZ8 HN8.out))
 have HZ10 : Hid (SzQ (K) (Rat.divInt (sg9 true (zaj lb (zat lb 1))) ((zaj lb 1 : Nat) : Int))):=SzQ.made HZ9.out (by rw [Int.natAbs_natCast]; exact HZ7.out) (by omega)
 have C1:=lh9 (fun w' (h : Below W7.heap.size W7 w') b9 B9 m9 d9 (hw9 : zaE w' (sg9 true (zaj lb (zat lb 1))) b9 B9 m9 d9) => zcM (rfl) (HOW.out) (zbO (sg9 true (zaj lb (zat lb 1))) (zaj lb 1) b9 B9 m9 d9 B7 m7 d7 w' (HT.out _ (zac hB h)) hw9 (HN7.out.below h) (szi HZ9 hw9) (szw HZ7 HN7.out) HD0.out))
 have lt1_m7:=k1.lt
 have lt4_m7:=k4.lt
 have lt2_m7:=k2.lt
 have lt6_m7:=k6.lt
 have GG:=lh9 (fun w' (h : Below W7.heap.size W7 w') => (csc (zad h g2) (csc (zad h g6) csn)))
 refine rgB (fun hHeld => ?_)
 refine tl 0 GG.out ?_
 refine tl 1 GG.out ?_
 refine tl 3 GG.out ?_
 refine zbk (L:=#[true,true,true,true,true,true,true,true,true,true,true])
  (J:=fun a0 l a w' => ∃ (fl2 fl4 fl5 fl6 fl7 fl8 fl9 fl10 b9 : Bool) (B9 : oA9) (m9 d9 : Nat) (b10 : Bool) (B10 : oA9) (m10 d10 : Nat) (E10 : oA9) (u10 v10 ad8 : Nat),l = #[true,true,fl2,true,fl4,fl5,fl6,fl7,fl8,fl9,fl10] ∧ zco [65,67,62,68,69,10,11] a0 a ∧ Hid (Below W7.heap.size W7 w') ∧
    Hid (Gd fl2 (a.tmps.getD 65 undef = .agg #[.bool b9,.slice B9 m9 d9] ∧ zaE w' (sg9 true (zaj lb (zat lb 1))) b9 B9 m9 d9)) ∧
    Hid (Gd fl4 (a.tmps.getD 67 undef = .tuple #[.agg #[.bool b10,.slice B10 m10 d10,.slice E10 u10 v10],.bool true] ∧ zaF w' (Rat.divInt (sg9 true (zaj lb (zat lb 1))) ((zaj lb 1 : Nat) : Int)) b10 B10 m10 d10 E10 u10 v10)) ∧
    Hid (Gd fl5 (a.tmps.getD 62 undef = .tuple #[.agg #[.bool b10,.slice B10 m10 d10,.slice E10 u10 v10],.bool true])) ∧
    Hid (Gd fl6 (a.tmps.getD 68 undef = .agg #[.bool b10,.slice B10 m10 d10,.slice E10 u10 v10])) ∧
    Hid (Gd fl7 (a.tmps.getD 69 undef = .bool true)) ∧
    Hid (Gd fl10 (a.tmps.getD 11 undef = .bool true)) ∧
    Hid (Gd fl8 (a.tmps.getD 10 undef = .pointer (some ⟨ad8,0,none⟩) ∧ W7.heap.size ≤ ad8 ∧ Blk w' ad8 33 (bif fl9 then #[.bool b10,.slice B10 m10 d10,.slice E10 u10 v10] else #[.bool false,.slice none 0 0,.slice none 0 0]))) ∧
    Hid (Gd fl4 (fl2 = true)) ∧
    Hid (Gd fl5 (fl4 = true)) ∧
    Hid (Gd fl6 (fl5 = true)) ∧
    Hid (Gd fl7 (fl5 = true)) ∧
    Hid (Gd fl9 (fl4 = true)) ∧
    Hid (Gd fl9 (fl6 = true)) ∧
    Hid (Gd fl9 (fl8 = true)) ∧
    Hid (Gd fl10 (fl7 = true)) ∧
    Hid (Gd fl10 (fl9 = true)))
  (by rfl) ?_ ?_ ?_
 ·exact ⟨false,false,false,false,false,false,false,false,false,none,0,0,false,none,0,0,none,0,0,0,by kernel_rfl,zco.refl _ _,hHeld,Gd.no,Gd.no,Gd.no,Gd.no,Gd.no,Gd.no,Gd.no,Gd.no,Gd.no,Gd.no,Gd.no,Gd.no,Gd.no,Gd.no,Gd.no,Gd.no⟩
 ·intro OPS Ac0 Q0 hO hAs hA
  have RB63 : Ac0.tmps.getD 63 undef = .bool true:=(hA 63 undef).trans (by kernel_rfl)
  have RB64 : Ac0.tmps.getD 64 undef = .agg #[.slice B8 m8 d8]:=(hA 64 undef).trans (by kernel_rfl)
  have RB66 : Ac0.tmps.getD 66 undef = .agg #[.slice B7 m7 d7]:=(hA 66 undef).trans (by kernel_rfl)
  have hsz : Ac0.tmps.size = 83:=hAs.trans (by kernel_rfl)
  clear hAs hA
  refine ⟨?_,?_⟩
  ·rintro l a w' ⟨fl2,fl4,fl5,fl6,fl7,fl8,fl9,fl10,b9,B9,m9,d9,b10,B10,m10,d10,E10,u10,v10,ad8,rfl,-⟩ hr
   obtain rfl : fl2 = true:=als 2 hr hO
   obtain rfl : fl4 = true:=als 4 hr hO
   obtain rfl : fl5 = true:=als 5 hr hO
   obtain rfl : fl6 = true:=als 6 hr hO
   obtain rfl : fl7 = true:=als 7 hr hO
   obtain rfl : fl8 = true:=als 8 hr hO
   obtain rfl : fl9 = true:=als 9 hr hO
   obtain rfl : fl10 = true:=als 10 hr hO
   rfl
  ·rintro l a w' i ⟨fl2,fl4,fl5,fl6,fl7,fl8,fl9,fl10,b9,B9,m9,d9,b10,B10,m10,d10,E10,u10,v10,ad8,rfl,HKp,hBi,qf2,qf4,qf5,qf6,qf7,qf10,qf8,qd4_2,qd5_4,qd6_5,qd7_5,qd9_4,qd9_6,qd9_8,qd10_7,qd10_9⟩ hne hi
   have hlt : i < 11:=by have:=zcf hi; rw [hO] at this; exact this
   rcases (show i = 0 ∨ i = 1 ∨ i = 2 ∨ i = 3 ∨ i = 4 ∨ i = 5 ∨ i = 6 ∨ i = 7 ∨ i = 8 ∨ i = 9 ∨ i = 10 by omega) with rfl | rfl | rfl | rfl | rfl | rfl | rfl | rfl | rfl | rfl | rfl
   ·cases (zah hi : true = false)
   ·cases (zah hi : true = false)
   ·obtain rfl : fl2 = false:=zah hi
    obtain rfl : fl4 = false:=Gd.off qd4_2.out
    obtain rfl : fl5 = false:=Gd.off qd5_4.out
    obtain rfl : fl6 = false:=Gd.off qd6_5.out
    obtain rfl : fl7 = false:=Gd.off qd7_5.out
    obtain rfl : fl9 = false:=Gd.off qd9_4.out
    obtain rfl : fl10 = false:=Gd.off qd10_7.out
    have rd63:=HKp.get 63 (by decide) RB63
    have rd64:=HKp.get 64 (by decide) RB64
    refine wog hO (fun K' hK => ?_)
    go_simp
    refine (C0.out w' hBi.out).mono ?_
    rintro e w2 ⟨nb9,nB9,nm9,nd9,rfl,nhw9,hb⟩
    exact hK.out _ _ ⟨zac hBi.out hb,true,false,false,false,false,fl8,false,false,nb9,nB9,nm9,nd9,b10,B10,m10,d10,E10,u10,v10,ad8,by rfl,HKp.put (by decide) _,zac hBi.out hb,Gd.yes ⟨zaA (HKp.lt (by rw [hsz]; decide)) _,nhw9⟩,Gd.no,Gd.no,Gd.no,Gd.no,Gd.no,kq qf8.out fun h => ⟨h.1,zae hb h.2⟩,Gd.no,Gd.no,Gd.no,Gd.no,Gd.no,Gd.no,Gd.no,Gd.no,Gd.no⟩
   ·cases (zah hi : true = false)
   ·obtain rfl : fl4 = false:=zah hi
    obtain rfl : fl2 = true:=rdp 2 0 hi hO
    obtain rfl : fl5 = false:=Gd.off qd5_4.out
    obtain rfl : fl6 = false:=Gd.off qd6_5.out
    obtain rfl : fl7 = false:=Gd.off qd7_5.out
    obtain rfl : fl9 = false:=Gd.off qd9_4.out
    obtain rfl : fl10 = false:=Gd.off qd10_7.out
    have rd65:=qf2.out.get.1
    have rd66:=HKp.get 66 (by decide) RB66
    have hw9:=qf2.out.get.2
    refine wog hO (fun K' hK => ?_)
    go_simp
    refine (C1.out w' hBi.out _ _ _ _ hw9).mono ?_
    rintro e w2 ⟨nb10,nB10,nm10,nd10,nE10,nu10,nv10,rfl,nhw10,hb⟩
    exact hK.out _ _ ⟨zac hBi.out hb,true,true,false,false,false,fl8,false,false,b9,B9,m9,d9,nb10,nB10,nm10,nd10,nE10,nu10,nv10,ad8,by rfl,HKp.put (by decide) _,zac hBi.out hb,kq qf2.out fun h => (h).below hb,Gd.yes ⟨zaA (HKp.lt (by rw [hsz]; decide)) _,nhw10⟩,Gd.no,Gd.no,Gd.no,Gd.no,kq qf8.out fun h => ⟨h.1,zae hb h.2⟩,fun _ => rfl,Gd.no,Gd.no,Gd.no,Gd.no,Gd.no,Gd.no,Gd.no,Gd.no⟩
   ·obtain rfl : fl5 = false:=zah hi
    obtain rfl : fl4 = true:=rdp 4 0 hi hO
    obtain rfl : fl2 = true:=qd4_2.out.get
    obtain rfl : fl6 = false:=Gd.off qd6_5.out
    obtain rfl : fl7 = false:=Gd.off qd7_5.out
    obtain rfl : fl9 = false:=Gd.off qd9_6.out
    obtain rfl : fl10 = false:=Gd.off qd10_7.out
    have rd67:=qf4.out.get.1
    refine wog hO (fun K' hK => ?_)
    refine zaX (x:=67) (Or.inl rfl) rd67 ?_
    exact hK.out _ _ ⟨hBi.out,true,true,true,false,false,fl8,false,false,b9,B9,m9,d9,b10,B10,m10,d10,E10,u10,v10,ad8,by rfl,HKp.put (by decide) _,hBi.out,kq qf2.out fun h => (h),kq qf4.out fun h => (h),Gd.yes (zaA (HKp.lt (by rw [hsz]; decide)) _),Gd.no,Gd.no,Gd.no,kq qf8.out id,fun _ => rfl,fun _ => rfl,Gd.no,Gd.no,Gd.no,Gd.no,Gd.no,Gd.no,Gd.no⟩
   ·obtain rfl : fl6 = false:=zah hi
    obtain rfl : fl5 = true:=rdp 5 0 hi hO
    obtain rfl : fl4 = true:=qd5_4.out.get
    obtain rfl : fl2 = true:=qd4_2.out.get
    obtain rfl : fl9 = false:=Gd.off qd9_6.out
    obtain rfl : fl10 = false:=Gd.off qd10_9.out
    have rd62:=qf5.out.get
    refine wog hO (fun K' hK => ?_)
    refine zaD (x:=62) (k:=0) rfl rd62 rfl ?_
    exact hK.out _ _ ⟨hBi.out,true,true,true,true,fl7,fl8,false,false,b9,B9,m9,d9,b10,B10,m10,d10,E10,u10,v10,ad8,by rfl,HKp.put (by decide) _,hBi.out,kq qf2.out fun h => (h),kq qf4.out fun h => (h),kq0 qf5.out,Gd.yes (zaA (HKp.lt (by rw [hsz]; decide)) _),kq0 qf7.out,Gd.no,kq qf8.out id,fun _ => rfl,fun _ => rfl,fun _ => rfl,fun _ => rfl,Gd.no,Gd.no,Gd.no,Gd.no,Gd.no⟩
   ·obtain rfl : fl7 = false:=zah hi
    obtain rfl : fl5 = true:=rdp 5 0 hi hO
    obtain rfl : fl4 = true:=qd5_4.out.get
    obtain rfl : fl2 = true:=qd4_2.out.get
    obtain rfl : fl10 = false:=Gd.off qd10_7.out
    have rd62:=qf5.out.get
    refine wog hO (fun K' hK => ?_)
    refine zaD (x:=62) (k:=1) rfl rd62 rfl ?_
    exact hK.out _ _ ⟨hBi.out,true,true,true,fl6,true,fl8,fl9,false,b9,B9,m9,d9,b10,B10,m10,d10,E10,u10,v10,ad8,by rfl,HKp.put (by decide) _,hBi.out,kq qf2.out fun h => (h),kq qf4.out fun h => (h),kq0 qf5.out,kq0 qf6.out,Gd.yes (zaA (HKp.lt (by rw [hsz]; decide)) _),Gd.no,kq qf8.out id,fun _ => rfl,fun _ => rfl,fun _ => rfl,fun _ => rfl,fun _ => rfl,qd9_6,qd9_8,Gd.no,Gd.no⟩
   ·obtain rfl : fl8 = false:=zah hi
    obtain rfl : fl9 = false:=Gd.off qd9_8.out
    obtain rfl : fl10 = false:=Gd.off qd10_9.out
    refine wog hO (fun K' hK => ?_)
    go_simp
    have hb:=zbH w' (.cells #[.bool false,.slice none 0 0,.slice none 0 0] 33)
    exact hK.out _ _ ⟨zac hBi.out hb,fl2,fl4,fl5,fl6,fl7,true,false,false,b9,B9,m9,d9,b10,B10,m10,d10,E10,u10,v10,w'.heap.size,by rfl,HKp.put (by decide) _,zac hBi.out hb,kq qf2.out fun h => (h).below hb,kq qf4.out fun h => (h).below hb,kq0 qf5.out,kq0 qf6.out,kq0 qf7.out,Gd.no,Gd.yes ⟨zaA (HKp.lt (by rw [hsz]; decide)) _,hBi.out.size,Blk.new w' _ _⟩,qd4_2,qd5_4,qd6_5,qd7_5,Gd.no,Gd.no,Gd.no,Gd.no,Gd.no⟩
   ·obtain rfl : fl9 = false:=zah hi
    obtain rfl : fl2 = true:=rdp 2 5 hi hO
    obtain rfl : fl4 = true:=rdp 4 2 hi hO
    obtain rfl : fl5 = true:=rdp 5 8 hi hO
    obtain rfl : fl6 = true:=rdp 6 1 hi hO
    obtain rfl : fl8 = true:=rdp 8 0 hi hO
    obtain rfl : fl10 = false:=Gd.off qd10_9.out
    have rd10:=qf8.out.get.1
    have rd68:=qf6.out.get
    obtain ⟨_,hg,hk⟩:=qf8.out.get
    have hk : Blk w' ad8 33 #[.bool false,.slice none 0 0,.slice none 0 0]:=hk
    obtain ⟨sc0,sf0,sc1,sf1,sc2,sf2⟩:=st3 hk (.bool b10) (.slice B10 m10 d10)
    have hj2:=sn3 hk (.bool b10) (.slice B10 m10 d10) (.slice E10 u10 v10)
    have hBn:=bl3 (.bool b10) (.slice B10 m10 d10) (.slice E10 u10 v10) hg hBi.out
    refine wog hO (fun K' hK => ?_)
    go_simp
    exact hK.out _ _ ⟨hBn,true,true,true,true,fl7,true,true,false,b9,B9,m9,d9,b10,B10,m10,d10,E10,u10,v10,ad8,by rfl,HKp,hBn,qf2.out.mono fun h => ⟨h.1,zcx (h.2) hk zdE (zcy _ _ _ _ _)⟩,qf4.out.mono fun h => ⟨h.1,zbF (h.2) hk zdE (zcy _ _ _ _ _)⟩,qf5.out.mono fun h => h,qf6.out.mono fun h => h,qf7.out.mono fun h => h,Gd.no,qf8.out.mono fun h => ⟨h.1,h.2.1,hj2⟩,fun _ => rfl,fun _ => rfl,fun _ => rfl,fun _ => rfl,fun _ => rfl,fun _ => rfl,fun _ => rfl,Gd.no,Gd.no⟩
   ·obtain rfl : fl10 = false:=zah hi
    obtain rfl : fl2 = true:=rdp 2 4 hi hO
    obtain rfl : fl4 = true:=rdp 4 6 hi hO
    obtain rfl : fl5 = true:=rdp 5 7 hi hO
    obtain rfl : fl6 = true:=rdp 6 8 hi hO
    obtain rfl : fl7 = true:=rdp 7 0 hi hO
    obtain rfl : fl8 = true:=rdp 8 10 hi hO
    obtain rfl : fl9 = true:=rdp 9 1 hi hO
    have rd69:=qf7.out.get
    refine wog hO (fun K' hK => ?_)
    refine zaX (x:=69) (Or.inr rfl) rd69 ?_
    exact hK.out _ _ ⟨hBi.out,true,true,true,true,true,true,true,true,b9,B9,m9,d9,b10,B10,m10,d10,E10,u10,v10,ad8,by rfl,HKp.put (by decide) _,hBi.out,kq qf2.out fun h => (h),kq qf4.out fun h => (h),kq0 qf5.out,kq0 qf6.out,kq0 qf7.out,Gd.yes (zaA (HKp.lt (by rw [hsz]; decide)) _),kq qf8.out id,fun _ => rfl,fun _ => rfl,fun _ => rfl,fun _ => rfl,fun _ => rfl,fun _ => rfl,fun _ => rfl,fun _ => rfl,fun _ => rfl⟩
 rintro a wm8 ⟨fl2,fl4,fl5,fl6,fl7,fl8,fl9,fl10,b9,B9,m9,d9,b10,B10,m10,d10,E10,u10,v10,ad8,hl,HKp,hBi,qf2,qf4,qf5,qf6,qf7,qf10,qf8,qd4_2,qd5_4,qd6_5,qd7_5,qd9_4,qd9_6,qd9_8,qd10_7,qd10_9⟩
 have xx2 : fl2 = true:=gdl 2 hl
 subst xx2
 have xx4 : fl4 = true:=gdl 4 hl
 subst xx4
 have xx5 : fl5 = true:=gdl 5 hl
 subst xx5
 have xx6 : fl6 = true:=gdl 6 hl
 subst xx6
 have xx7 : fl7 = true:=gdl 7 hl
 subst xx7
 have xx8 : fl8 = true:=gdl 8 hl
 subst xx8
 have xx9 : fl9 = true:=gdl 9 hl
 subst xx9
 have xx10 : fl10 = true:=gdl 10 hl
 subst xx10
 obtain ⟨rv2,hw9⟩:=qf2.out.get
 obtain ⟨rv4,hw10⟩:=qf4.out.get
 have rv5:=qf5.out.get
 have rv6:=qf6.out.get
 have rv7:=qf7.out.get
 have rv10:=qf10.out.get
 obtain ⟨rv8,hg8,hk8⟩:=qf8.out.get
 obtain rfl:=HKp.eq [(65,.agg #[.bool b9,.slice B9 m9 d9]),(67,.tuple #[.agg #[.bool b10,.slice B10 m10 d10,.slice E10 u10 v10],.bool true]),(62,.tuple #[.agg #[.bool b10,.slice B10 m10 d10,.slice E10 u10 v10],.bool true]),(68,.agg #[.bool b10,.slice B10 m10 d10,.slice E10 u10 v10]),(69,.bool true),(10,.pointer (some ⟨ad8,0,none⟩)),(11,.bool true)] rfl (by
  intro p hp
  simp only [List.mem_cons,List.not_mem_nil,or_false] at hp
  rcases hp with rfl | rfl | rfl | rfl | rfl | rfl | rfl
  ·exact rv2
  ·exact rv4
  ·exact rv5
  ·exact rv6
  ·exact rv7
  ·exact rv8
  ·exact rv10)
 have hBv:=hBi.out
 clear hl hBi HKp qf2 qf4 qf5 qf6 qf7 qf10 qf8 qd4_2 qd5_4 qd6_5 qd7_5 qd9_4 qd9_6 qd9_8 qd10_7 qd10_9 rv2 rv4 rv5 rv6 rv7 rv8 rv10
 have hk8 : Blk wm8 ad8 33 #[.bool b10,.slice B10 m10 d10,.slice E10 u10 v10]:=hk8
 rw [show due #[true,true,true,true,true,true,true,true,true,true,true] = 0 from rfl]
 simp only [zcl,List.foldl,Act.put,List.setIfInBounds_toArray,List.set_cons_zero,List.set_cons_succ]
 refine wpAnyH_done (by kernel_rfl) ?_ _
 refine NoPanic.normal ?_
 have lt2_m8:=World.block_lt_of_cell? _ _ g2
 dsimp only at lt2_m8
 have lt6_m8:=World.block_lt_of_cell? _ _ g6
 dsimp only at lt6_m8
 have ltby0_m8:=World.block_lt_of_cell? _ _ gby0
 dsimp only at ltby0_m8
 have hB:=zac hB hBv
 have gby0:=zad hBv gby0
 have HN3:=lh9 (HN3.out.below hBv)
 have k1:=zae hBv k1
 have k4:=zae hBv k4
 have k2:=zae hBv k2
 have HN5:=lh9 (HN5.out.below hBv)
 have k6:=zae hBv k6
 have HN7:=lh9 (HN7.out.below hBv)
 have g6:=zad hBv g6
 have HN8:=lh9 (HN8.out.below hBv)
 have g2:=zad hBv g2
 obtain ⟨ad8_11,hga⟩ : ∃ x,x = ad8:=⟨_,rfl⟩
 subst hga
 obtain ⟨g11,e11,i11⟩:=hk8.c3
 have HN9:=lh9 hw9
 have HN10:=lh9 hw10
 clear hBv hk8 hw9 hw10 GG
 clear C0 C1
 go_wp2_with fail
 have C0:=lh9 (fun w' (h : Below wm8.heap.size wm8 w') => zdN (v:=(kk : Int)) ((by rw [HK.out])) (zcc (Rat.divInt (sg9 true (zaj lb (zat lb 1))) ((zaj lb 1 : Nat) : Int)) b10 B10 m10 d10 E10 u10 v10 w' (HT.out _ (zac hB h)) (HN10.out.below h) (szq HZ10 HN10.out)))
 have hBw:=(Below.refl wm8.heap.size wm8).drew
 refine rg (csc g11 (csc e11 (csc i11 (csc gby0 csn)))) (fun hHeld => ?_)
 refine tk 0 ?_
 refine tk 1 ?_
 refine tk 2 ?_
 refine tk 4 ?_
 refine tk 5 ?_
 refine tk 6 ?_
 refine rc 3 (fun K hK => ?_)
 go_simp
 go_at_call 43; (with_reducible refine (C0.out _ hBw).mono ?_); rintro e wa9 ⟨rfl,hb⟩; have hBw:=zac hBw hb; refine hK.out _ _ (Cs.below hHeld hb) (fun hHeld => ?_); clear hK K hb
 try simp only [sb9]
 refine tk 7 ?_
 refine tk 8 ?_
 refine rdn ?_
 have hB:=zac hB hBw
 have gby0:=zad hBw gby0
 have HN3:=lh9 (HN3.out.below hBw)
 have k1:=zae hBw k1
 have k4:=zae hBw k4
 have k2:=zae hBw k2
 have HN5:=lh9 (HN5.out.below hBw)
 have k6:=zae hBw k6
 have HN7:=lh9 (HN7.out.below hBw)
 have g6:=zad hBw g6
 have HN8:=lh9 (HN8.out.below hBw)
 have g2:=zad hBw g2
 have g11:=zad hBw g11
 have e11:=zad hBw e11
 have i11:=zad hBw i11
 have HN9:=lh9 (HN9.out.below hBw)
 have HN10:=lh9 (HN10.out.below hBw)
 clear hBw hHeld C0
 have HN12:=lh9 (zaS wa9)
 obtain ⟨sc0,sf0,sc1,sf1,sc2,sf2⟩:=st3 k1 (.bool false) (.slice none 0 0)
 obtain ⟨r0,r1,r2⟩:=(sn3 k1 (.bool false) (.slice none 0 0) (.slice none 0 0)).c3
 have HG:=lh9 (gd3 (HN12.out) (zdq 91 _) (show (0 : Int) = ((0 : Nat) : Int) from rfl) k1 hB (by omega))
 go_wp2
 refine bodyPost_ret (v:=.tuple #[.agg #[.bool false,.slice none 0 0,.slice none 0 0],.int .i64 0,.iface 47 (.int .i64 91)]) (by simp [results,Tryz.results18,go_sem,r0,r1,r2]) rfl ?_
 exact HG.out
end Go.Proofs.YtfieheffipfahaaGreatDoor
