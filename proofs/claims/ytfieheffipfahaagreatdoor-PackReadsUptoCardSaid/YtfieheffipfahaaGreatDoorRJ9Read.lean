/- What this claim leans on. -/
import Derived.Test.YtfieheffipfahaaGreatDoorRUArgs8
import Derived.Test.YtfieheffipfahaaGreatDoorRJ9Over
import Derived.Test.YtfieheffipfahaaGreatDoorRJ9Cut
namespace Go.Proofs.YtfieheffipfahaaGreatDoor
open Go Go.RowKit
set_option maxHeartbeats 16000000
set_option maxRecDepth 100000
set_option linter.unusedVariables false
set_option linter.unusedSimpArgs false
theorem zmR (s : List UInt8) (w : World) (hT : zam w) (hs : s.length ≤ 2147483648) (hi : okI (zap s) = false) :
  Calls Tryz.prog 20 #[.string (zau s)] w (zcX w (.spot 91 zdF 0,0)):=by
 have HIC:=lh9 (zbh (T:=zam))
 have HT:=lh9 (fun w' (hb : Below w.heap.size w w') => hT.on hb)
 obtain ⟨K,hKe⟩ : ∃ K,67108864 = K:=⟨_,rfl⟩
 have hKK : K ≤ 67108864:=by omega
 have hK0 : 0 < K:=by omega
 have hK9 : 255 ≤ K:=by omega
 have ef1:=zaH
 have ef2:=zaJ
 have ef3:=zaM
 have ef4:=zaN
 obtain ⟨H,hH⟩ : ∃ x,zau (zap s) = x:=⟨_,rfl⟩
 obtain ⟨T,hT2⟩ : ∃ x,zau (zaw s) = x:=⟨_,rfl⟩
 have hHz : H.size ≤ 2147483648:=by
  rw [← hH,zay]
  have:=congrArg List.length (zaZ s)
  rw [List.length_append] at this; omega
 have hTz : T.size ≤ 2147483648:=by
  rw [← hT2,zay]
  unfold zaw
  have:=congrArg List.length (zaZ s)
  rw [List.length_append] at this
  rw [List.length_drop]; omega
 have hHd : H.data.toList = zap s:=by rw [← hH,zaI]
 have hTd : T.data.toList = zaw s:=by rw [← hT2,zaI]
 have HCUT:=lh9 (fun w' => zct (decide (zba s ≠ [])) s w' rfl hs)
 have HIR:=lh9 (fun (w' : World) (h : zam w') => (zbh (T:=zam)).read H w' h hHz)
 have HDR:=lh9 (fun (w' : World) => zbY T w' hTz)
 rw [hHd] at HIR
 rw [hTd] at HDR
 rw [hH,hT2] at HCUT
 rw [hi,if_neg (by decide)] at HIR
 obtain ⟨bb,hbb⟩ : ∃ b,decide (zba s ≠ []) = b:=⟨_,rfl⟩
 rw [hbb] at HCUT
 clear hbb
 clear hHd hTd hH hT2
 clear hT hKe hs hi
 go_enter Tryz.func20,Tryz.ntmps20
 have hB:=Below.refl w.heap.size w
 obtain ⟨bx1,bx2,bz⟩:=zaz w 33 #[.bool false,.slice none 0 0,.slice none 0 0]
 have hB:=zac hB bx1
 have k1:=bx2
 clear bx1 bx2 bz
 go_wp2_with fail
 generalize w.alloc (.cells #[.bool false,.slice none 0 0,.slice none 0 0] 33) = W1 at *
 (with_reducible refine ((HCUT.out _)).mono ?_)
 rintro e wc2 ⟨rfl,hb⟩
 have hB:=zac hB hb
 have k1:=zae hb k1
 clear hb 
 go_wp2_with fail
 have HZ2 : Hid (Sz (1) ((0 : Int)).natAbs):=zbK 1
 (with_reducible refine ((HIR.out _ (HT.out _ hB))).mono ?_)
 rintro e wc3 ⟨b2,B2,m2,d2,rfl,hw2,hb⟩
 have hB:=zac hB hb
 have k1:=zae hb k1
 have HN2:=lh9 hw2
 clear hb hw2
 have HN4:=lh9 (zaS wc3)
 have lt1_3 : w.heap.size < wc3.heap.size:=k1.lt
 have hq3:=hB.size
 obtain ⟨bx1,bx2,bz⟩:=zaz wc3 31 #[.bool b2,.slice B2 m2 d2]
 have hB:=zac hB bx1
 have k1:=zae bx1 k1
 have HN2:=lh9 (HN2.out.below bx1)
 have HN4:=lh9 (HN4.out.below bx1)
 obtain ⟨g3,e3⟩:=bx2.c2
 clear bx1 bx2 bz
 go_wp2_with fail
 generalize wc3.alloc (.cells #[.bool b2,.slice B2 m2 d2] 31) = W4 at *
 generalize wc3.heap.size = q4 at *
 (with_reducible refine (zdp 91 ({ data:=#[110,117,109,98,101,114] }) 0 _).mono ?_)
 rintro e wc5 ⟨et5,ex5,rfl,hw5,hb⟩
 have hB:=zac hB hb
 have k1:=zae hb k1
 have HN2:=lh9 (HN2.out.below hb)
 have HN4:=lh9 (HN4.out.below hb)
 have g3:=zad hb g3
 have e3:=zad hb e3
 have HN5:=lh9 hw5
 clear hb hw5
 obtain ⟨sc0,sf0,sc1,sf1,sc2,sf2⟩:=st3 k1 (.bool false) (.slice none 0 0)
 obtain ⟨r0,r1,r2⟩:=(sn3 k1 (.bool false) (.slice none 0 0) (.slice none 0 0)).c3
 have HG:=lh9 (gr9 (HN4.out) (HN5.out) k1 hB (by omega))
 go_wp2
 refine bodyPost_ret (v:=.tuple #[.agg #[.bool false,.slice none 0 0,.slice none 0 0],.iface et5 ex5]) (by simp [results,Tryz.results20,go_sem,r0,r1,r2]) rfl ?_
 exact HG.out
theorem zmS (s : List UInt8) (w : World) (hT : zam w) (hs : s.length ≤ 2147483648) (hzn : okI (zap s) = true → Sz 67108864 (zbB (zap s)).natAbs) (hi : okI (zap s) = true) (hr : zba s = []) :
  Calls Tryz.prog 20 #[.string (zau s)] w (zcX w (.no,((zbB (zap s) : Int) : Rat))):=by
 have HIC:=lh9 (zbh (T:=zam))
 have HT:=lh9 (fun w' (hb : Below w.heap.size w w') => hT.on hb)
 obtain ⟨K,hKe⟩ : ∃ K,67108864 = K:=⟨_,rfl⟩
 have hKK : K ≤ 67108864:=by omega
 have hK0 : 0 < K:=by omega
 have hK9 : 255 ≤ K:=by omega
 have ef1:=zaH
 have ef2:=zaJ
 have ef3:=zaM
 have ef4:=zaN
 obtain ⟨H,hH⟩ : ∃ x,zau (zap s) = x:=⟨_,rfl⟩
 obtain ⟨T,hT2⟩ : ∃ x,zau (zaw s) = x:=⟨_,rfl⟩
 have hHz : H.size ≤ 2147483648:=by
  rw [← hH,zay]
  have:=congrArg List.length (zaZ s)
  rw [List.length_append] at this; omega
 have hTz : T.size ≤ 2147483648:=by
  rw [← hT2,zay]
  unfold zaw
  have:=congrArg List.length (zaZ s)
  rw [List.length_append] at this
  rw [List.length_drop]; omega
 have hHd : H.data.toList = zap s:=by rw [← hH,zaI]
 have hTd : T.data.toList = zaw s:=by rw [← hT2,zaI]
 have HCUT:=lh9 (fun w' => zct (decide (zba s ≠ [])) s w' rfl hs)
 have HIR:=lh9 (fun (w' : World) (h : zam w') => (zbh (T:=zam)).read H w' h hHz)
 have HDR:=lh9 (fun (w' : World) => zbY T w' hTz)
 rw [hHd] at HIR
 rw [hTd] at HDR
 rw [hH,hT2] at HCUT
 rw [hi,if_pos rfl] at HIR
 have hsz:=hzn hi
 rw [hKe] at hsz
 obtain ⟨z,hz⟩ : ∃ z,zbB (zap s) = z:=⟨_,rfl⟩
 rw [hz] at HIR hsz ⊢
 have HSZ:=lh9 hsz
 rw [show decide (zba s ≠ []) = false from decide_eq_false (fun h => h hr)] at HCUT
 clear hz
 clear hHd hTd hH hT2
 clear hT hKe hs hzn hi hr hsz
 go_enter Tryz.func20,Tryz.ntmps20
 have hB:=Below.refl w.heap.size w
 obtain ⟨bx1,bx2,bz⟩:=zaz w 33 #[.bool false,.slice none 0 0,.slice none 0 0]
 have hB:=zac hB bx1
 have k1:=bx2
 clear bx1 bx2 bz
 go_wp2_with fail
 generalize w.alloc (.cells #[.bool false,.slice none 0 0,.slice none 0 0] 33) = W1 at *
 (with_reducible refine ((HCUT.out _)).mono ?_)
 rintro e wc2 ⟨rfl,hb⟩
 have hB:=zac hB hb
 have k1:=zae hb k1
 clear hb 
 go_wp2_with fail
 have HZ2 : Hid (Sz (K) (z).natAbs):=HSZ.out
 (with_reducible refine ((HIR.out _ (HT.out _ hB))).mono ?_)
 rintro e wc3 ⟨b2,B2,m2,d2,rfl,hw2,hb⟩
 have hB:=zac hB hb
 have k1:=zae hb k1
 have HN2:=lh9 hw2
 clear hb hw2
 have lt1_3 : w.heap.size < wc3.heap.size:=k1.lt
 have hq3:=hB.size
 obtain ⟨bx1,bx2,bz⟩:=zaz wc3 31 #[.bool b2,.slice B2 m2 d2]
 have hB:=zac hB bx1
 have k1:=zae bx1 k1
 have HN2:=lh9 (HN2.out.below bx1)
 obtain ⟨g3,e3⟩:=bx2.c2
 clear bx1 bx2 bz
 go_wp2_with fail
 generalize wc3.alloc (.cells #[.bool b2,.slice B2 m2 d2] 31) = W4 at *
 generalize wc3.heap.size = q4 at *
 have HZ4 : Hid (SzQ (K) (((z : Int) : Rat))):=SzQ.whole HZ2.out (by omega)
 (with_reducible refine (zpN (z) b2 B2 m2 d2 _ (HT.out _ hB) HN2.out (szi HZ2 HN2.out)).mono ?_)
 rintro e wc5 ⟨b4,B4,m4,d4,E4,u4,v4,rfl,hw4,hb⟩
 have hB:=zac hB hb
 have k1:=zae hb k1
 have HN2:=lh9 (HN2.out.below hb)
 have g3:=zad hb g3
 have e3:=zad hb e3
 have HN4:=lh9 hw4
 clear hb hw4
 obtain ⟨sc0,sf0,sc1,sf1,sc2,sf2⟩:=st3 k1 (.bool b4) (.slice B4 m4 d4)
 obtain ⟨r0,r1,r2⟩:=(sn3 k1 (.bool b4) (.slice B4 m4 d4) (.slice E4 u4 v4)).c3
 have HG:=lh9 (gr9 (HN4.out) (zeH _) k1 hB (by omega))
 go_wp2
 refine bodyPost_ret (v:=.tuple #[.agg #[.bool b4,.slice B4 m4 d4,.slice E4 u4 v4],.nilIface]) (by simp [results,Tryz.results20,go_sem,r0,r1,r2]) rfl ?_
 exact HG.out
theorem zhF (s : List UInt8) (w : World) (hT : zam w) (hs : s.length ≤ 2147483648) (hzn : okI (zap s) = true → Sz 67108864 (zbB (zap s)).natAbs) (hzd : okR (zaw s) = true → Sz 67108864 (zaG (zaw s))) (hi : okI (zap s) = true) (hr : zba s ≠ []) (hd : okR (zaw s) = false) :
  Calls Tryz.prog 20 #[.string (zau s)] w (zcX w (.spot 91 zef (((zap s).length + 1 : Nat) : Int),0)):=by
 have HIC:=lh9 (zbh (T:=zam))
 have HT:=lh9 (fun w' (hb : Below w.heap.size w w') => hT.on hb)
 obtain ⟨K,hKe⟩ : ∃ K,67108864 = K:=⟨_,rfl⟩
 have hKK : K ≤ 67108864:=by omega
 have hK0 : 0 < K:=by omega
 have hK9 : 255 ≤ K:=by omega
 have ef1:=zaH
 have ef2:=zaJ
 have ef3:=zaM
 have ef4:=zaN
 obtain ⟨H,hH⟩ : ∃ x,zau (zap s) = x:=⟨_,rfl⟩
 obtain ⟨T,hT2⟩ : ∃ x,zau (zaw s) = x:=⟨_,rfl⟩
 have hHz : H.size ≤ 2147483648:=by
  rw [← hH,zay]
  have:=congrArg List.length (zaZ s)
  rw [List.length_append] at this; omega
 have hTz : T.size ≤ 2147483648:=by
  rw [← hT2,zay]
  unfold zaw
  have:=congrArg List.length (zaZ s)
  rw [List.length_append] at this
  rw [List.length_drop]; omega
 have hHd : H.data.toList = zap s:=by rw [← hH,zaI]
 have hTd : T.data.toList = zaw s:=by rw [← hT2,zaI]
 have HCUT:=lh9 (fun w' => zct (decide (zba s ≠ [])) s w' rfl hs)
 have HIR:=lh9 (fun (w' : World) (h : zam w') => (zbh (T:=zam)).read H w' h hHz)
 have HDR:=lh9 (fun (w' : World) => zbY T w' hTz)
 rw [hHd] at HIR
 rw [hTd] at HDR
 rw [hH,hT2] at HCUT
 rw [hi,if_pos rfl] at HIR
 have hsz:=hzn hi
 rw [hKe] at hsz
 obtain ⟨z,hz⟩ : ∃ z,zbB (zap s) = z:=⟨_,rfl⟩
 rw [hz] at HIR hsz
 have HSZ:=lh9 hsz
 rw [show decide (zba s ≠ []) = true from decide_eq_true hr] at HCUT
 rw [hd,if_neg (by decide)] at HDR
 have hkk : ((((zap s).length + 1 : Nat)) : Int) = (H.size : Int) + 1:=by rw [← hH,zay]; omega
 rw [hkk]
 clear hkk
 clear hz
 clear hHd hTd hH hT2
 clear hT hKe hs hzn hzd hi hr hsz hd
 go_enter Tryz.func20,Tryz.ntmps20
 have hB:=Below.refl w.heap.size w
 obtain ⟨bx1,bx2,bz⟩:=zaz w 33 #[.bool false,.slice none 0 0,.slice none 0 0]
 have hB:=zac hB bx1
 have k1:=bx2
 clear bx1 bx2 bz
 go_wp2_with fail
 generalize w.alloc (.cells #[.bool false,.slice none 0 0,.slice none 0 0] 33) = W1 at *
 (with_reducible refine ((HCUT.out _)).mono ?_)
 rintro e wc2 ⟨rfl,hb⟩
 have hB:=zac hB hb
 have k1:=zae hb k1
 clear hb 
 go_wp2_with fail
 have HZ2 : Hid (Sz (K) (z).natAbs):=HSZ.out
 (with_reducible refine ((HIR.out _ (HT.out _ hB))).mono ?_)
 rintro e wc3 ⟨b2,B2,m2,d2,rfl,hw2,hb⟩
 have hB:=zac hB hb
 have k1:=zae hb k1
 have HN2:=lh9 hw2
 clear hb hw2
 have lt1_3 : w.heap.size < wc3.heap.size:=k1.lt
 have hq3:=hB.size
 obtain ⟨bx1,bx2,bz⟩:=zaz wc3 31 #[.bool b2,.slice B2 m2 d2]
 have hB:=zac hB bx1
 have k1:=zae bx1 k1
 have HN2:=lh9 (HN2.out.below bx1)
 obtain ⟨g3,e3⟩:=bx2.c2
 clear bx1 bx2 bz
 go_wp2_with fail
 generalize wc3.alloc (.cells #[.bool b2,.slice B2 m2 d2] 31) = W4 at *
 generalize wc3.heap.size = q4 at *
 have HZ4 : Hid (Sz (1) (0)):=zbK 1
 (with_reducible refine ((HDR.out _)).mono ?_)
 rintro e wc5 ⟨B4,m4,d4,rfl,hw4,hb⟩
 have hB:=zac hB hb
 have k1:=zae hb k1
 have HN2:=lh9 (HN2.out.below hb)
 have g3:=zad hb g3
 have e3:=zad hb e3
 have HN4:=lh9 hw4
 clear hb hw4
 have HN6:=lh9 (zaS wc5)
 have lt1_5 : w.heap.size < wc5.heap.size:=k1.lt
 have lt3_5 : q4 < wc5.heap.size:=World.block_lt_of_cell? wc5 ⟨q4,0,none⟩ g3
 have hq5:=hB.size
 obtain ⟨bx1,bx2,bz⟩:=zaz wc5 29 #[.slice B4 m4 d4]
 have hB:=zac hB bx1
 have k1:=zae bx1 k1
 have HN2:=lh9 (HN2.out.below bx1)
 have g3:=zad bx1 g3
 have e3:=zad bx1 e3
 have HN4:=lh9 (HN4.out.below bx1)
 have HN6:=lh9 (HN6.out.below bx1)
 have g5:=bx2.c1
 clear bx1 bx2 bz
 go_wp2_with fail
 generalize wc5.alloc (.cells #[.slice B4 m4 d4] 29) = W6 at *
 generalize wc5.heap.size = q6 at *
 (with_reducible refine (zdp 91 ({ data:=#[100,105,118,105,115,111,114] }) (((H.size : Int) + 1)) _).mono ?_)
 rintro e wc7 ⟨et7,ex7,rfl,hw7,hb⟩
 have hB:=zac hB hb
 have k1:=zae hb k1
 have HN2:=lh9 (HN2.out.below hb)
 have g3:=zad hb g3
 have e3:=zad hb e3
 have HN4:=lh9 (HN4.out.below hb)
 have HN6:=lh9 (HN6.out.below hb)
 have g5:=zad hb g5
 have HN7:=lh9 hw7
 clear hb hw7
 obtain ⟨sc0,sf0,sc1,sf1,sc2,sf2⟩:=st3 k1 (.bool false) (.slice none 0 0)
 obtain ⟨r0,r1,r2⟩:=(sn3 k1 (.bool false) (.slice none 0 0) (.slice none 0 0)).c3
 have HG:=lh9 (gr9 (HN6.out) (HN7.out) k1 hB (by omega))
 go_wp2
 refine bodyPost_ret (v:=.tuple #[.agg #[.bool false,.slice none 0 0,.slice none 0 0],.iface et7 ex7]) (by simp [results,Tryz.results20,go_sem,r0,r1,r2]) rfl ?_
 exact HG.out
theorem zmU (s : List UInt8) (w : World) (hT : zam w) (hs : s.length ≤ 2147483648) (hzn : okI (zap s) = true → Sz 67108864 (zbB (zap s)).natAbs) (hzd : okR (zaw s) = true → Sz 67108864 (zaG (zaw s))) (hi : okI (zap s) = true) (hr : zba s ≠ []) (hd : okR (zaw s) = true) (hv : zaG (zaw s) = 0) :
  Calls Tryz.prog 20 #[.string (zau s)] w (zcX w (.spot 91 zef (((zap s).length + 1 : Nat) : Int),0)):=by
 have HIC:=lh9 (zbh (T:=zam))
 have HT:=lh9 (fun w' (hb : Below w.heap.size w w') => hT.on hb)
 obtain ⟨K,hKe⟩ : ∃ K,67108864 = K:=⟨_,rfl⟩
 have hKK : K ≤ 67108864:=by omega
 have hK0 : 0 < K:=by omega
 have hK9 : 255 ≤ K:=by omega
 have ef1:=zaH
 have ef2:=zaJ
 have ef3:=zaM
 have ef4:=zaN
 obtain ⟨H,hH⟩ : ∃ x,zau (zap s) = x:=⟨_,rfl⟩
 obtain ⟨T,hT2⟩ : ∃ x,zau (zaw s) = x:=⟨_,rfl⟩
 have hHz : H.size ≤ 2147483648:=by
  rw [← hH,zay]
  have:=congrArg List.length (zaZ s)
  rw [List.length_append] at this; omega
 have hTz : T.size ≤ 2147483648:=by
  rw [← hT2,zay]
  unfold zaw
  have:=congrArg List.length (zaZ s)
  rw [List.length_append] at this
  rw [List.length_drop]; omega
 have hHd : H.data.toList = zap s:=by rw [← hH,zaI]
 have hTd : T.data.toList = zaw s:=by rw [← hT2,zaI]
 have HCUT:=lh9 (fun w' => zct (decide (zba s ≠ [])) s w' rfl hs)
 have HIR:=lh9 (fun (w' : World) (h : zam w') => (zbh (T:=zam)).read H w' h hHz)
 have HDR:=lh9 (fun (w' : World) => zbY T w' hTz)
 rw [hHd] at HIR
 rw [hTd] at HDR
 rw [hH,hT2] at HCUT
 rw [hi,if_pos rfl] at HIR
 have hsz:=hzn hi
 rw [hKe] at hsz
 obtain ⟨z,hz⟩ : ∃ z,zbB (zap s) = z:=⟨_,rfl⟩
 rw [hz] at HIR hsz
 have HSZ:=lh9 hsz
 rw [show decide (zba s ≠ []) = true from decide_eq_true hr] at HCUT
 rw [hd,if_pos rfl] at HDR
 have hsd:=hzd hd
 rw [hKe] at hsd
 obtain ⟨d,hdd⟩ : ∃ d,zaG (zaw s) = d:=⟨_,rfl⟩
 rw [hdd] at HDR hsd hv
 have HSD:=lh9 hsd
 have HV:=lh9 hv
 have hkk : ((((zap s).length + 1 : Nat)) : Int) = (H.size : Int) + 1:=by rw [← hH,zay]; omega
 rw [hkk]
 clear hkk
 clear hz hdd
 clear hHd hTd hH hT2
 clear hT hKe hs hzn hzd hi hr hsz hd hsd hv
 go_enter Tryz.func20,Tryz.ntmps20
 have hB:=Below.refl w.heap.size w
 obtain ⟨bx1,bx2,bz⟩:=zaz w 33 #[.bool false,.slice none 0 0,.slice none 0 0]
 have hB:=zac hB bx1
 have k1:=bx2
 clear bx1 bx2 bz
 go_wp2_with fail
 generalize w.alloc (.cells #[.bool false,.slice none 0 0,.slice none 0 0] 33) = W1 at *
 (with_reducible refine ((HCUT.out _)).mono ?_)
 rintro e wc2 ⟨rfl,hb⟩
 have hB:=zac hB hb
 have k1:=zae hb k1
 clear hb 
 go_wp2_with fail
 have HZ2 : Hid (Sz (K) (z).natAbs):=HSZ.out
 (with_reducible refine ((HIR.out _ (HT.out _ hB))).mono ?_)
 rintro e wc3 ⟨b2,B2,m2,d2,rfl,hw2,hb⟩
 have hB:=zac hB hb
 have k1:=zae hb k1
 have HN2:=lh9 hw2
 clear hb hw2
 have lt1_3 : w.heap.size < wc3.heap.size:=k1.lt
 have hq3:=hB.size
 obtain ⟨bx1,bx2,bz⟩:=zaz wc3 31 #[.bool b2,.slice B2 m2 d2]
 have hB:=zac hB bx1
 have k1:=zae bx1 k1
 have HN2:=lh9 (HN2.out.below bx1)
 obtain ⟨g3,e3⟩:=bx2.c2
 clear bx1 bx2 bz
 go_wp2_with fail
 generalize wc3.alloc (.cells #[.bool b2,.slice B2 m2 d2] 31) = W4 at *
 generalize wc3.heap.size = q4 at *
 have HZ4 : Hid (Sz (K) (d)):=HSD.out
 (with_reducible refine ((HDR.out _)).mono ?_)
 rintro e wc5 ⟨B4,m4,d4,rfl,hw4,hb⟩
 have hB:=zac hB hb
 have k1:=zae hb k1
 have HN2:=lh9 (HN2.out.below hb)
 have g3:=zad hb g3
 have e3:=zad hb e3
 have HN4:=lh9 hw4
 clear hb hw4
 have lt1_5 : w.heap.size < wc5.heap.size:=k1.lt
 have lt3_5 : q4 < wc5.heap.size:=World.block_lt_of_cell? wc5 ⟨q4,0,none⟩ g3
 have hq5:=hB.size
 obtain ⟨bx1,bx2,bz⟩:=zaz wc5 29 #[.slice B4 m4 d4]
 have hB:=zac hB bx1
 have k1:=zae bx1 k1
 have HN2:=lh9 (HN2.out.below bx1)
 have g3:=zad bx1 g3
 have e3:=zad bx1 e3
 have HN4:=lh9 (HN4.out.below bx1)
 have g5:=bx2.c1
 clear bx1 bx2 bz
 go_wp2_with fail
 generalize wc5.alloc (.cells #[.slice B4 m4 d4] 29) = W6 at *
 generalize wc5.heap.size = q6 at *
 (with_reducible refine (zch HV.out HN4.out).mono ?_)
 rintro e wc7 ⟨rfl,hb⟩
 have hB:=zac hB hb
 have k1:=zae hb k1
 have HN2:=lh9 (HN2.out.below hb)
 have g3:=zad hb g3
 have e3:=zad hb e3
 have HN4:=lh9 (HN4.out.below hb)
 have g5:=zad hb g5
 clear hb 
 have HN6:=lh9 (zaS wc7)
 go_wp2_with fail
 (with_reducible refine (zdp 91 ({ data:=#[100,105,118,105,115,111,114] }) (((H.size : Int) + 1)) _).mono ?_)
 rintro e wc8 ⟨et7,ex7,rfl,hw7,hb⟩
 have hB:=zac hB hb
 have k1:=zae hb k1
 have HN2:=lh9 (HN2.out.below hb)
 have g3:=zad hb g3
 have e3:=zad hb e3
 have HN4:=lh9 (HN4.out.below hb)
 have g5:=zad hb g5
 have HN6:=lh9 (HN6.out.below hb)
 have HN7:=lh9 hw7
 clear hb hw7
 obtain ⟨sc0,sf0,sc1,sf1,sc2,sf2⟩:=st3 k1 (.bool false) (.slice none 0 0)
 obtain ⟨r0,r1,r2⟩:=(sn3 k1 (.bool false) (.slice none 0 0) (.slice none 0 0)).c3
 have HG:=lh9 (gr9 (HN6.out) (HN7.out) k1 hB (by omega))
 go_wp2
 refine bodyPost_ret (v:=.tuple #[.agg #[.bool false,.slice none 0 0,.slice none 0 0],.iface et7 ex7]) (by simp [results,Tryz.results20,go_sem,r0,r1,r2]) rfl ?_
 exact HG.out
theorem zmP (s : List UInt8) (w : World) (hT : zam w) (hs : s.length ≤ 2147483648) (hzn : okI (zap s) = true → Sz 67108864 (zbB (zap s)).natAbs) (hzd : okR (zaw s) = true → Sz 67108864 (zaG (zaw s))) (hi : okI (zap s) = true) (hr : zba s ≠ []) (hd : okR (zaw s) = true) (hv : zaG (zaw s) ≠ 0) (how : decide ((Rat.divInt (zbB (zap s)) ((zaG (zaw s) : Nat) : Int)).den = zaG (zaw s)) = false) :
  Calls Tryz.prog 20 #[.string (zau s)] w (zcX w (.bare 91,0)):=by
 have HIC:=lh9 (zbh (T:=zam))
 have HT:=lh9 (fun w' (hb : Below w.heap.size w w') => hT.on hb)
 obtain ⟨K,hKe⟩ : ∃ K,67108864 = K:=⟨_,rfl⟩
 have hKK : K ≤ 67108864:=by omega
 have hK0 : 0 < K:=by omega
 have hK9 : 255 ≤ K:=by omega
 have ef1:=zaH
 have ef2:=zaJ
 have ef3:=zaM
 have ef4:=zaN
 obtain ⟨H,hH⟩ : ∃ x,zau (zap s) = x:=⟨_,rfl⟩
 obtain ⟨T,hT2⟩ : ∃ x,zau (zaw s) = x:=⟨_,rfl⟩
 have hHz : H.size ≤ 2147483648:=by
  rw [← hH,zay]
  have:=congrArg List.length (zaZ s)
  rw [List.length_append] at this; omega
 have hTz : T.size ≤ 2147483648:=by
  rw [← hT2,zay]
  unfold zaw
  have:=congrArg List.length (zaZ s)
  rw [List.length_append] at this
  rw [List.length_drop]; omega
 have hHd : H.data.toList = zap s:=by rw [← hH,zaI]
 have hTd : T.data.toList = zaw s:=by rw [← hT2,zaI]
 have HCUT:=lh9 (fun w' => zct (decide (zba s ≠ [])) s w' rfl hs)
 have HIR:=lh9 (fun (w' : World) (h : zam w') => (zbh (T:=zam)).read H w' h hHz)
 have HDR:=lh9 (fun (w' : World) => zbY T w' hTz)
 rw [hHd] at HIR
 rw [hTd] at HDR
 rw [hH,hT2] at HCUT
 rw [hi,if_pos rfl] at HIR
 have hsz:=hzn hi
 rw [hKe] at hsz
 obtain ⟨z,hz⟩ : ∃ z,zbB (zap s) = z:=⟨_,rfl⟩
 rw [hz] at HIR hsz how
 have HSZ:=lh9 hsz
 rw [show decide (zba s ≠ []) = true from decide_eq_true hr] at HCUT
 rw [hd,if_pos rfl] at HDR
 have hsd:=hzd hd
 rw [hKe] at hsd
 obtain ⟨d,hdd⟩ : ∃ d,zaG (zaw s) = d:=⟨_,rfl⟩
 rw [hdd] at HDR hsd hv how
 have HSD:=lh9 hsd
 have HV:=lh9 hv
 have HOW:=lh9 how
 clear hz hdd
 clear hHd hTd hH hT2
 clear hT hKe hs hzn hzd hi hr hsz hd hsd hv how
 go_enter Tryz.func20,Tryz.ntmps20
 have hB:=Below.refl w.heap.size w
 obtain ⟨bx1,bx2,bz⟩:=zaz w 33 #[.bool false,.slice none 0 0,.slice none 0 0]
 have hB:=zac hB bx1
 have k1:=bx2
 clear bx1 bx2 bz
 go_wp2_with fail
 generalize w.alloc (.cells #[.bool false,.slice none 0 0,.slice none 0 0] 33) = W1 at *
 (with_reducible refine ((HCUT.out _)).mono ?_)
 rintro e wc2 ⟨rfl,hb⟩
 have hB:=zac hB hb
 have k1:=zae hb k1
 clear hb 
 go_wp2_with fail
 have HZ2 : Hid (Sz (K) (z).natAbs):=HSZ.out
 (with_reducible refine ((HIR.out _ (HT.out _ hB))).mono ?_)
 rintro e wc3 ⟨b2,B2,m2,d2,rfl,hw2,hb⟩
 have hB:=zac hB hb
 have k1:=zae hb k1
 have HN2:=lh9 hw2
 clear hb hw2
 have lt1_3 : w.heap.size < wc3.heap.size:=k1.lt
 have hq3:=hB.size
 obtain ⟨bx1,bx2,bz⟩:=zaz wc3 31 #[.bool b2,.slice B2 m2 d2]
 have hB:=zac hB bx1
 have k1:=zae bx1 k1
 have HN2:=lh9 (HN2.out.below bx1)
 obtain ⟨g3,e3⟩:=bx2.c2
 clear bx1 bx2 bz
 go_wp2_with fail
 generalize wc3.alloc (.cells #[.bool b2,.slice B2 m2 d2] 31) = W4 at *
 generalize wc3.heap.size = q4 at *
 have HZ4 : Hid (Sz (K) (d)):=HSD.out
 (with_reducible refine ((HDR.out _)).mono ?_)
 rintro e wc5 ⟨B4,m4,d4,rfl,hw4,hb⟩
 have hB:=zac hB hb
 have k1:=zae hb k1
 have HN2:=lh9 (HN2.out.below hb)
 have g3:=zad hb g3
 have e3:=zad hb e3
 have HN4:=lh9 hw4
 clear hb hw4
 have lt1_5 : w.heap.size < wc5.heap.size:=k1.lt
 have lt3_5 : q4 < wc5.heap.size:=World.block_lt_of_cell? wc5 ⟨q4,0,none⟩ g3
 have hq5:=hB.size
 obtain ⟨bx1,bx2,bz⟩:=zaz wc5 29 #[.slice B4 m4 d4]
 have hB:=zac hB bx1
 have k1:=zae bx1 k1
 have HN2:=lh9 (HN2.out.below bx1)
 have g3:=zad bx1 g3
 have e3:=zad bx1 e3
 have HN4:=lh9 (HN4.out.below bx1)
 have g5:=bx2.c1
 clear bx1 bx2 bz
 go_wp2_with fail
 generalize wc5.alloc (.cells #[.slice B4 m4 d4] 29) = W6 at *
 generalize wc5.heap.size = q6 at *
 (with_reducible refine (zcd HV.out HN4.out).mono ?_)
 rintro e wc7 ⟨rfl,hb⟩
 have hB:=zac hB hb
 have k1:=zae hb k1
 have HN2:=lh9 (HN2.out.below hb)
 have g3:=zad hb g3
 have e3:=zad hb e3
 have HN4:=lh9 (HN4.out.below hb)
 have g5:=zad hb g5
 clear hb 
 go_wp2_with fail
 have HZ6 : Hid (SzQ (K) (Rat.divInt z ((d : Nat) : Int))):=SzQ.made HZ2.out (by rw [Int.natAbs_natCast]; exact HZ4.out) (by omega)
 (with_reducible refine (zcM (rfl) (HOW.out) (zbO (z) (d) b2 B2 m2 d2 B4 m4 d4 _ (HT.out _ hB) HN2.out HN4.out (szi HZ2 HN2.out) (szw HZ4 HN4.out) HV.out)).mono ?_)
 rintro e wc8 ⟨b6,B6,m6,d6,E6,u6,v6,rfl,hw6,hb⟩
 have hB:=zac hB hb
 have k1:=zae hb k1
 have HN2:=lh9 (HN2.out.below hb)
 have g3:=zad hb g3
 have e3:=zad hb e3
 have HN4:=lh9 (HN4.out.below hb)
 have g5:=zad hb g5
 have HN6:=lh9 hw6
 clear hb hw6
 have HN8:=lh9 (zaS wc8)
 have lt1_8 : w.heap.size < wc8.heap.size:=k1.lt
 have lt3_8 : q4 < wc8.heap.size:=World.block_lt_of_cell? wc8 ⟨q4,0,none⟩ g3
 have lt5_8 : q6 < wc8.heap.size:=World.block_lt_of_cell? wc8 ⟨q6,0,none⟩ g5
 have hq8:=hB.size
 obtain ⟨bx1,bx2,bz⟩:=zaz wc8 33 #[.bool b6,.slice B6 m6 d6,.slice E6 u6 v6]
 have hB:=zac hB bx1
 have k1:=zae bx1 k1
 have HN2:=lh9 (HN2.out.below bx1)
 have g3:=zad bx1 g3
 have e3:=zad bx1 e3
 have HN4:=lh9 (HN4.out.below bx1)
 have g5:=zad bx1 g5
 have HN6:=lh9 (HN6.out.below bx1)
 have HN8:=lh9 (HN8.out.below bx1)
 obtain ⟨g7,e7,i7⟩:=bx2.c3
 clear bx1 bx2 bz
 go_upto_region 12 with fail
 generalize wc8.alloc (.cells #[.bool b6,.slice B6 m6 d6,.slice E6 u6 v6] 33) = W9 at *
 generalize wc8.heap.size = q9 at *
 obtain ⟨sc0,sf0,sc1,sf1,sc2,sf2⟩:=st3 k1 (.bool false) (.slice none 0 0)
 obtain ⟨r0,r1,r2⟩:=(sn3 k1 (.bool false) (.slice none 0 0) (.slice none 0 0)).c3
 have HG:=lh9 (gr9 (HN8.out) (zdq 91 _) k1 hB (by omega))
 go_wp2
 refine bodyPost_ret (v:=.tuple #[.agg #[.bool false,.slice none 0 0,.slice none 0 0],.iface 47 (.int .i64 91)]) (by simp [results,Tryz.results20,go_sem,r0,r1,r2]) rfl ?_
 exact HG.out
theorem zmQ (s : List UInt8) (w : World) (hT : zam w) (hs : s.length ≤ 2147483648) (hzn : okI (zap s) = true → Sz 67108864 (zbB (zap s)).natAbs) (hzd : okR (zaw s) = true → Sz 67108864 (zaG (zaw s))) (hi : okI (zap s) = true) (hr : zba s ≠ []) (hd : okR (zaw s) = true) (hv : zaG (zaw s) ≠ 0) (how : decide ((Rat.divInt (zbB (zap s)) ((zaG (zaw s) : Nat) : Int)).den = zaG (zaw s)) = true) (hq : (Rat.divInt (zbB (zap s)) ((zaG (zaw s) : Nat) : Int)).den = 1) :
  Calls Tryz.prog 20 #[.string (zau s)] w (zcX w (.bare 91,0)):=by
 have HIC:=lh9 (zbh (T:=zam))
 have HT:=lh9 (fun w' (hb : Below w.heap.size w w') => hT.on hb)
 obtain ⟨K,hKe⟩ : ∃ K,67108864 = K:=⟨_,rfl⟩
 have hKK : K ≤ 67108864:=by omega
 have hK0 : 0 < K:=by omega
 have hK9 : 255 ≤ K:=by omega
 have ef1:=zaH
 have ef2:=zaJ
 have ef3:=zaM
 have ef4:=zaN
 obtain ⟨H,hH⟩ : ∃ x,zau (zap s) = x:=⟨_,rfl⟩
 obtain ⟨T,hT2⟩ : ∃ x,zau (zaw s) = x:=⟨_,rfl⟩
 have hHz : H.size ≤ 2147483648:=by
  rw [← hH,zay]
  have:=congrArg List.length (zaZ s)
  rw [List.length_append] at this; omega
 have hTz : T.size ≤ 2147483648:=by
  rw [← hT2,zay]
  unfold zaw
  have:=congrArg List.length (zaZ s)
  rw [List.length_append] at this
  rw [List.length_drop]; omega
 have hHd : H.data.toList = zap s:=by rw [← hH,zaI]
 have hTd : T.data.toList = zaw s:=by rw [← hT2,zaI]
 have HCUT:=lh9 (fun w' => zct (decide (zba s ≠ [])) s w' rfl hs)
 have HIR:=lh9 (fun (w' : World) (h : zam w') => (zbh (T:=zam)).read H w' h hHz)
 have HDR:=lh9 (fun (w' : World) => zbY T w' hTz)
 rw [hHd] at HIR
 rw [hTd] at HDR
 rw [hH,hT2] at HCUT
 rw [hi,if_pos rfl] at HIR
 have hsz:=hzn hi
 rw [hKe] at hsz
 obtain ⟨z,hz⟩ : ∃ z,zbB (zap s) = z:=⟨_,rfl⟩
 rw [hz] at HIR hsz how hq
 have HSZ:=lh9 hsz
 rw [show decide (zba s ≠ []) = true from decide_eq_true hr] at HCUT
 rw [hd,if_pos rfl] at HDR
 have hsd:=hzd hd
 rw [hKe] at hsd
 obtain ⟨d,hdd⟩ : ∃ d,zaG (zaw s) = d:=⟨_,rfl⟩
 rw [hdd] at HDR hsd hv how hq
 have HSD:=lh9 hsd
 have HV:=lh9 hv
 have HOW:=lh9 how
 clear hz hdd
 have HQ1:=lh9 hq
 clear hHd hTd hH hT2
 clear hT hKe hs hzn hzd hi hr hsz hd hsd hv how hq
 go_enter Tryz.func20,Tryz.ntmps20
 have hB:=Below.refl w.heap.size w
 obtain ⟨bx1,bx2,bz⟩:=zaz w 33 #[.bool false,.slice none 0 0,.slice none 0 0]
 have hB:=zac hB bx1
 have k1:=bx2
 clear bx1 bx2 bz
 go_wp2_with fail
 generalize w.alloc (.cells #[.bool false,.slice none 0 0,.slice none 0 0] 33) = W1 at *
 (with_reducible refine ((HCUT.out _)).mono ?_)
 rintro e wc2 ⟨rfl,hb⟩
 have hB:=zac hB hb
 have k1:=zae hb k1
 clear hb 
 go_wp2_with fail
 have HZ2 : Hid (Sz (K) (z).natAbs):=HSZ.out
 (with_reducible refine ((HIR.out _ (HT.out _ hB))).mono ?_)
 rintro e wc3 ⟨b2,B2,m2,d2,rfl,hw2,hb⟩
 have hB:=zac hB hb
 have k1:=zae hb k1
 have HN2:=lh9 hw2
 clear hb hw2
 have lt1_3 : w.heap.size < wc3.heap.size:=k1.lt
 have hq3:=hB.size
 obtain ⟨bx1,bx2,bz⟩:=zaz wc3 31 #[.bool b2,.slice B2 m2 d2]
 have hB:=zac hB bx1
 have k1:=zae bx1 k1
 have HN2:=lh9 (HN2.out.below bx1)
 obtain ⟨g3,e3⟩:=bx2.c2
 clear bx1 bx2 bz
 go_wp2_with fail
 generalize wc3.alloc (.cells #[.bool b2,.slice B2 m2 d2] 31) = W4 at *
 generalize wc3.heap.size = q4 at *
 have HZ4 : Hid (Sz (K) (d)):=HSD.out
 (with_reducible refine ((HDR.out _)).mono ?_)
 rintro e wc5 ⟨B4,m4,d4,rfl,hw4,hb⟩
 have hB:=zac hB hb
 have k1:=zae hb k1
 have HN2:=lh9 (HN2.out.below hb)
 have g3:=zad hb g3
 have e3:=zad hb e3
 have HN4:=lh9 hw4
 clear hb hw4
 have lt1_5 : w.heap.size < wc5.heap.size:=k1.lt
 have lt3_5 : q4 < wc5.heap.size:=World.block_lt_of_cell? wc5 ⟨q4,0,none⟩ g3
 have hq5:=hB.size
 obtain ⟨bx1,bx2,bz⟩:=zaz wc5 29 #[.slice B4 m4 d4]
 have hB:=zac hB bx1
 have k1:=zae bx1 k1
 have HN2:=lh9 (HN2.out.below bx1)
 have g3:=zad bx1 g3
 have e3:=zad bx1 e3
 have HN4:=lh9 (HN4.out.below bx1)
 have g5:=bx2.c1
 clear bx1 bx2 bz
 go_wp2_with fail
 generalize wc5.alloc (.cells #[.slice B4 m4 d4] 29) = W6 at *
 generalize wc5.heap.size = q6 at *
 (with_reducible refine (zcd HV.out HN4.out).mono ?_)
 rintro e wc7 ⟨rfl,hb⟩
 have hB:=zac hB hb
 have k1:=zae hb k1
 have HN2:=lh9 (HN2.out.below hb)
 have g3:=zad hb g3
 have e3:=zad hb e3
 have HN4:=lh9 (HN4.out.below hb)
 have g5:=zad hb g5
 clear hb 
 go_wp2_with fail
 have HZ6 : Hid (SzQ (K) (Rat.divInt z ((d : Nat) : Int))):=SzQ.made HZ2.out (by rw [Int.natAbs_natCast]; exact HZ4.out) (by omega)
 (with_reducible refine (zcM (rfl) (HOW.out) (zbO (z) (d) b2 B2 m2 d2 B4 m4 d4 _ (HT.out _ hB) HN2.out HN4.out (szi HZ2 HN2.out) (szw HZ4 HN4.out) HV.out)).mono ?_)
 rintro e wc8 ⟨b6,B6,m6,d6,E6,u6,v6,rfl,hw6,hb⟩
 have hB:=zac hB hb
 have k1:=zae hb k1
 have HN2:=lh9 (HN2.out.below hb)
 have g3:=zad hb g3
 have e3:=zad hb e3
 have HN4:=lh9 (HN4.out.below hb)
 have g5:=zad hb g5
 have HN6:=lh9 hw6
 clear hb hw6
 have lt1_8 : w.heap.size < wc8.heap.size:=k1.lt
 have lt3_8 : q4 < wc8.heap.size:=World.block_lt_of_cell? wc8 ⟨q4,0,none⟩ g3
 have lt5_8 : q6 < wc8.heap.size:=World.block_lt_of_cell? wc8 ⟨q6,0,none⟩ g5
 have hq8:=hB.size
 obtain ⟨bx1,bx2,bz⟩:=zaz wc8 33 #[.bool b6,.slice B6 m6 d6,.slice E6 u6 v6]
 have hB:=zac hB bx1
 have k1:=zae bx1 k1
 have HN2:=lh9 (HN2.out.below bx1)
 have g3:=zad bx1 g3
 have e3:=zad bx1 e3
 have HN4:=lh9 (HN4.out.below bx1)
 have g5:=zad bx1 g5
 have HN6:=lh9 (HN6.out.below bx1)
 obtain ⟨g7,e7,i7⟩:=bx2.c3
 clear bx1 bx2 bz
 go_wp2_with fail
 generalize wc8.alloc (.cells #[.bool b6,.slice B6 m6 d6,.slice E6 u6 v6] 33) = W9 at *
 generalize wc8.heap.size = q9 at *
 (with_reducible refine (zaW (decide_eq_true HQ1.out) (zbt (Rat.divInt z ((d : Nat) : Int)) b6 B6 m6 d6 E6 u6 v6 _ (HT.out _ hB) HN6.out (szq HZ6 HN6.out))).mono ?_)
 rintro e wc10 ⟨rfl,hb⟩
 have hB:=zac hB hb
 have k1:=zae hb k1
 have HN2:=lh9 (HN2.out.below hb)
 have g3:=zad hb g3
 have e3:=zad hb e3
 have HN4:=lh9 (HN4.out.below hb)
 have g5:=zad hb g5
 have HN6:=lh9 (HN6.out.below hb)
 have g7:=zad hb g7
 have e7:=zad hb e7
 have i7:=zad hb i7
 clear hb 
 have HN8:=lh9 (zaS wc10)
 obtain ⟨sc0,sf0,sc1,sf1,sc2,sf2⟩:=st3 k1 (.bool false) (.slice none 0 0)
 obtain ⟨r0,r1,r2⟩:=(sn3 k1 (.bool false) (.slice none 0 0) (.slice none 0 0)).c3
 have HG:=lh9 (gr9 (HN8.out) (zdq 91 _) k1 hB (by omega))
 go_wp2
 refine bodyPost_ret (v:=.tuple #[.agg #[.bool false,.slice none 0 0,.slice none 0 0],.iface 47 (.int .i64 91)]) (by simp [results,Tryz.results20,go_sem,r0,r1,r2]) rfl ?_
 exact HG.out
theorem zmT (s : List UInt8) (w : World) (hT : zam w) (hs : s.length ≤ 2147483648) (hzn : okI (zap s) = true → Sz 67108864 (zbB (zap s)).natAbs) (hzd : okR (zaw s) = true → Sz 67108864 (zaG (zaw s))) (hi : okI (zap s) = true) (hr : zba s ≠ []) (hd : okR (zaw s) = true) (hv : zaG (zaw s) ≠ 0) (how : decide ((Rat.divInt (zbB (zap s)) ((zaG (zaw s) : Nat) : Int)).den = zaG (zaw s)) = true) (hq : (Rat.divInt (zbB (zap s)) ((zaG (zaw s) : Nat) : Int)).den ≠ 1) :
  Calls Tryz.prog 20 #[.string (zau s)] w (zcX w (.no,Rat.divInt (zbB (zap s)) ((zaG (zaw s) : Nat) : Int))):=by
 have HIC:=lh9 (zbh (T:=zam))
 have HT:=lh9 (fun w' (hb : Below w.heap.size w w') => hT.on hb)
 obtain ⟨K,hKe⟩ : ∃ K,67108864 = K:=⟨_,rfl⟩
 have hKK : K ≤ 67108864:=by omega
 have hK0 : 0 < K:=by omega
 have hK9 : 255 ≤ K:=by omega
 have ef1:=zaH
 have ef2:=zaJ
 have ef3:=zaM
 have ef4:=zaN
 obtain ⟨H,hH⟩ : ∃ x,zau (zap s) = x:=⟨_,rfl⟩
 obtain ⟨T,hT2⟩ : ∃ x,zau (zaw s) = x:=⟨_,rfl⟩
 have hHz : H.size ≤ 2147483648:=by
  rw [← hH,zay]
  have:=congrArg List.length (zaZ s)
  rw [List.length_append] at this; omega
 have hTz : T.size ≤ 2147483648:=by
  rw [← hT2,zay]
  unfold zaw
  have:=congrArg List.length (zaZ s)
  rw [List.length_append] at this
  rw [List.length_drop]; omega
 have hHd : H.data.toList = zap s:=by rw [← hH,zaI]
 have hTd : T.data.toList = zaw s:=by rw [← hT2,zaI]
 have HCUT:=lh9 (fun w' => zct (decide (zba s ≠ [])) s w' rfl hs)
 have HIR:=lh9 (fun (w' : World) (h : zam w') => (zbh (T:=zam)).read H w' h hHz)
 have HDR:=lh9 (fun (w' : World) => zbY T w' hTz)
 rw [hHd] at HIR
 rw [hTd] at HDR
 rw [hH,hT2] at HCUT
 rw [hi,if_pos rfl] at HIR
 have hsz:=hzn hi
 rw [hKe] at hsz
 obtain ⟨z,hz⟩ : ∃ z,zbB (zap s) = z:=⟨_,rfl⟩
 rw [hz] at HIR hsz how hq ⊢
 have HSZ:=lh9 hsz
 rw [show decide (zba s ≠ []) = true from decide_eq_true hr] at HCUT
 rw [hd,if_pos rfl] at HDR
 have hsd:=hzd hd
 rw [hKe] at hsd
 obtain ⟨d,hdd⟩ : ∃ d,zaG (zaw s) = d:=⟨_,rfl⟩
 rw [hdd] at HDR hsd hv how hq ⊢
 have HSD:=lh9 hsd
 have HV:=lh9 hv
 have HOW:=lh9 how
 clear hz hdd
 have HQ1:=lh9 hq
 clear hHd hTd hH hT2
 clear hT hKe hs hzn hzd hi hr hsz hd hsd hv how hq
 go_enter Tryz.func20,Tryz.ntmps20
 have hB:=Below.refl w.heap.size w
 obtain ⟨bx1,bx2,bz⟩:=zaz w 33 #[.bool false,.slice none 0 0,.slice none 0 0]
 have hB:=zac hB bx1
 have k1:=bx2
 clear bx1 bx2 bz
 go_wp2_with fail
 generalize w.alloc (.cells #[.bool false,.slice none 0 0,.slice none 0 0] 33) = W1 at *
 (with_reducible refine ((HCUT.out _)).mono ?_)
 rintro e wc2 ⟨rfl,hb⟩
 have hB:=zac hB hb
 have k1:=zae hb k1
 clear hb 
 go_wp2_with fail
 have HZ2 : Hid (Sz (K) (z).natAbs):=HSZ.out
 (with_reducible refine ((HIR.out _ (HT.out _ hB))).mono ?_)
 rintro e wc3 ⟨b2,B2,m2,d2,rfl,hw2,hb⟩
 have hB:=zac hB hb
 have k1:=zae hb k1
 have HN2:=lh9 hw2
 clear hb hw2
 have lt1_3 : w.heap.size < wc3.heap.size:=k1.lt
 have hq3:=hB.size
 obtain ⟨bx1,bx2,bz⟩:=zaz wc3 31 #[.bool b2,.slice B2 m2 d2]
 have hB:=zac hB bx1
 have k1:=zae bx1 k1
 have HN2:=lh9 (HN2.out.below bx1)
 obtain ⟨g3,e3⟩:=bx2.c2
 clear bx1 bx2 bz
 go_wp2_with fail
 generalize wc3.alloc (.cells #[.bool b2,.slice B2 m2 d2] 31) = W4 at *
 generalize wc3.heap.size = q4 at *
 have HZ4 : Hid (Sz (K) (d)):=HSD.out
 (with_reducible refine ((HDR.out _)).mono ?_)
 rintro e wc5 ⟨B4,m4,d4,rfl,hw4,hb⟩
 have hB:=zac hB hb
 have k1:=zae hb k1
 have HN2:=lh9 (HN2.out.below hb)
 have g3:=zad hb g3
 have e3:=zad hb e3
 have HN4:=lh9 hw4
 clear hb hw4
 have lt1_5 : w.heap.size < wc5.heap.size:=k1.lt
 have lt3_5 : q4 < wc5.heap.size:=World.block_lt_of_cell? wc5 ⟨q4,0,none⟩ g3
 have hq5:=hB.size
 obtain ⟨bx1,bx2,bz⟩:=zaz wc5 29 #[.slice B4 m4 d4]
 have hB:=zac hB bx1
 have k1:=zae bx1 k1
 have HN2:=lh9 (HN2.out.below bx1)
 have g3:=zad bx1 g3
 have e3:=zad bx1 e3
 have HN4:=lh9 (HN4.out.below bx1)
 have g5:=bx2.c1
 clear bx1 bx2 bz
 go_wp2_with fail
 generalize wc5.alloc (.cells #[.slice B4 m4 d4] 29) = W6 at *
 generalize wc5.heap.size = q6 at *
 (with_reducible refine (zcd HV.out HN4.out).mono ?_)
 rintro e wc7 ⟨rfl,hb⟩
 have hB:=zac hB hb
 have k1:=zae hb k1
 have HN2:=lh9 (HN2.out.below hb)
 have g3:=zad hb g3
 have e3:=zad hb e3
 have HN4:=lh9 (HN4.out.below hb)
 have g5:=zad hb g5
 clear hb 
 go_wp2_with fail
 have HZ6 : Hid (SzQ (K) (Rat.divInt z ((d : Nat) : Int))):=SzQ.made HZ2.out (by rw [Int.natAbs_natCast]; exact HZ4.out) (by omega)
 (with_reducible refine (zcM (rfl) (HOW.out) (zbO (z) (d) b2 B2 m2 d2 B4 m4 d4 _ (HT.out _ hB) HN2.out HN4.out (szi HZ2 HN2.out) (szw HZ4 HN4.out) HV.out)).mono ?_)
 rintro e wc8 ⟨b6,B6,m6,d6,E6,u6,v6,rfl,hw6,hb⟩
 have hB:=zac hB hb
 have k1:=zae hb k1
 have HN2:=lh9 (HN2.out.below hb)
 have g3:=zad hb g3
 have e3:=zad hb e3
 have HN4:=lh9 (HN4.out.below hb)
 have g5:=zad hb g5
 have HN6:=lh9 hw6
 clear hb hw6
 have lt1_8 : w.heap.size < wc8.heap.size:=k1.lt
 have lt3_8 : q4 < wc8.heap.size:=World.block_lt_of_cell? wc8 ⟨q4,0,none⟩ g3
 have lt5_8 : q6 < wc8.heap.size:=World.block_lt_of_cell? wc8 ⟨q6,0,none⟩ g5
 have hq8:=hB.size
 obtain ⟨bx1,bx2,bz⟩:=zaz wc8 33 #[.bool b6,.slice B6 m6 d6,.slice E6 u6 v6]
 have hB:=zac hB bx1
 have k1:=zae bx1 k1
 have HN2:=lh9 (HN2.out.below bx1)
 have g3:=zad bx1 g3
 have e3:=zad bx1 e3
 have HN4:=lh9 (HN4.out.below bx1)
 have g5:=zad bx1 g5
 have HN6:=lh9 (HN6.out.below bx1)
 obtain ⟨g7,e7,i7⟩:=bx2.c3
 clear bx1 bx2 bz
 go_wp2_with fail
 generalize wc8.alloc (.cells #[.bool b6,.slice B6 m6 d6,.slice E6 u6 v6] 33) = W9 at *
 generalize wc8.heap.size = q9 at *
 (with_reducible refine (zaW (decide_eq_false HQ1.out) (zbt (Rat.divInt z ((d : Nat) : Int)) b6 B6 m6 d6 E6 u6 v6 _ (HT.out _ hB) HN6.out (szq HZ6 HN6.out))).mono ?_)
 rintro e wc10 ⟨rfl,hb⟩
 have hB:=zac hB hb
 have k1:=zae hb k1
 have HN2:=lh9 (HN2.out.below hb)
 have g3:=zad hb g3
 have e3:=zad hb e3
 have HN4:=lh9 (HN4.out.below hb)
 have g5:=zad hb g5
 have HN6:=lh9 (HN6.out.below hb)
 have g7:=zad hb g7
 have e7:=zad hb e7
 have i7:=zad hb i7
 clear hb 
 obtain ⟨sc0,sf0,sc1,sf1,sc2,sf2⟩:=st3 k1 (.bool b6) (.slice B6 m6 d6)
 obtain ⟨r0,r1,r2⟩:=(sn3 k1 (.bool b6) (.slice B6 m6 d6) (.slice E6 u6 v6)).c3
 have HG:=lh9 (gr9 (HN6.out) (zeH _) k1 hB (by omega))
 go_wp2
 refine bodyPost_ret (v:=.tuple #[.agg #[.bool b6,.slice B6 m6 d6,.slice E6 u6 v6],.nilIface]) (by simp [results,Tryz.results20,go_sem,r0,r1,r2]) rfl ?_
 exact HG.out
end Go.Proofs.YtfieheffipfahaaGreatDoor
