/- What this claim leans on. -/
import Derived.Test.YtkiedljcgkoaiaaGreatDoorRVComb
namespace Go.Proofs.YtkiedljcgkoaiaaGreatDoor
open Go Go.RowKit
set_option maxHeartbeats 16000000
set_option maxRecDepth 100000
set_option linter.unusedVariables false
set_option linter.unusedSimpArgs false
theorem zda {zs : List Int} (h : ∀ z ∈ zs,-9223372036854775808 ≤ z ∧ z ≤ 9223372036854775807) : zax 1 (ofL zs):=fun x hx => by
 obtain ⟨z,hz,rfl⟩:=List.mem_map.1 hx
 exact SzQ.whole (zdG (h z hz).1 (h z hz).2) (by decide)
theorem zbS (zs : List Int) (n : Nat) (hn : zs.length = n) {w : World} {g : Nat} {t : TypeId} (h : Blk w g t (zs.map (Value.int .i64)).toArray) (hz : ∀ z ∈ zs,-9223372036854775808 ≤ z ∧ z ≤ 9223372036854775807) : IntsIn w (some ⟨g,0,none⟩) n zs:=by
 subst hn
 exact ⟨rfl,fun i hi => by
  rw [List.getD_eq_getElem?_getD,List.getElem?_eq_getElem hi]
  exact hz _ (List.getElem_mem hi),fun i hi => ⟨_,rfl,by
  rw [zbx,h.cell,List.getD_eq_getElem?_getD,List.getElem?_eq_getElem hi]
  simp [hi]⟩⟩
theorem zny {w : World} {g : Nat} {t : TypeId} {A B : oA9} {n m c d : Nat} {xs ys : List Rat} (h : Blk w g t #[.slice A n c,.slice B m d]) (h1 : zbk w A n c xs) (h2 : zbk w B m d ys) : zgD w (some ⟨g,0,none⟩) 2 [xs,ys]:=by
 refine ⟨rfl,fun i L hi => ?_⟩
 have e1:=h1.len
 have e2:=h2.len
 match i,hi with
 | 0,hi =>
   obtain rfl : xs = L:=by simpa using hi
   subst e1
   exact ⟨_,A,c,rfl,h.lt,by rw [zbx]; exact h.cell 0,h1⟩
 | 1,hi =>
   obtain rfl : ys = L:=by simpa using hi
   subst e2
   exact ⟨_,B,d,rfl,h.lt,by rw [zbx]; exact h.cell 1,h2⟩
theorem all_two {xs ys : List Rat} {m : Nat} (h1 : xs.length = m) (h2 : ys.length = m) : ∀ i,i < 2 → (([xs,ys] : List (List Rat)).getD i []).length = m:=fun i hi => by
 match i,hi with
 | 0,_ => exact h1
 | 1,_ => exact h2
theorem qc10 : RatC zan (fun _ => False):=ratC (fun _ h => h) (fun h => h.elim) (fun h => h.elim) (fun h => h.elim)
theorem zdn {w : World} (hT : zan w) : Calls Tryz.prog 9 #[] w fun e w' => e = .returned (.bool true) ∧ Below w.heap.size w w':=by
 have HT:=lh9 (fun w' (hb : Below w.heap.size w w') => hT.on hb)
 have HB:=lh9 (Below.refl w.heap.size w)
 clear hT
 have HU : ∀ W,Hid (Calls Tryz.prog 33 #[.int .i64 3,.int .i64 3] W (zcB W)):=fun W => zkI 3 3 W (by decide) (by decide)
 go_enter Tryz.func9,Tryz.ntmps9
 obtain ⟨bq0,bq1,-⟩:=zaL w 3 #[.int .i64 1,.int .i64 2]
 have HB:=lh9 (zac HB.out bq0)
 have HK1:=lh9 (bq1)
 clear bq0 bq1
 go_wp2_with fail
 generalize w.alloc (.cells #[.int .i64 1,.int .i64 2] 3) = W2 at *
 have HS3 : Hid (zax (1) (ofL [1,2])):=zda (by decide)
 (with_reducible refine (zdu (HT.out _ HB.out) (zbS [1,2] 2 rfl HK1.out (by decide)) (by decide)).mono ?_)
 rintro e X4 ⟨g3,rfl,hg3,ho3,hb⟩
 have HB:=lh9 (zac HB.out hb)
 have HK1:=lh9 (zae hb HK1.out)
 have HV3:=lh9 (zbo ho3)
 clear hb hg3 ho3
 obtain ⟨bq0,bq1,-⟩:=zaL X4 3 #[.int .i64 3,.int .i64 4]
 have HB:=lh9 (zac HB.out bq0)
 have HK1:=lh9 (zae bq0 HK1.out)
 have HV3:=lh9 (HV3.out.keep bq0)
 have HK5:=lh9 (bq1)
 clear bq0 bq1
 go_wp2_with fail
 generalize X4.alloc (.cells #[.int .i64 3,.int .i64 4] 3) = W6 at *
 generalize X4.heap.size = q6 at *
 have HS7 : Hid (zax (1) (ofL [3,4])):=zda (by decide)
 (with_reducible refine (zdu (HT.out _ HB.out) (zbS [3,4] 2 rfl HK5.out (by decide)) (by decide)).mono ?_)
 rintro e X8 ⟨g7,rfl,hg7,ho7,hb⟩
 have HB:=lh9 (zac HB.out hb)
 have HK1:=lh9 (zae hb HK1.out)
 have HV3:=lh9 (HV3.out.keep hb)
 have HK5:=lh9 (zae hb HK5.out)
 have HV7:=lh9 (zbo ho7)
 clear hb hg7 ho7
 have e11 : Hid (dotQ (ofL [1,2]) (ofL [3,4]) = Rat.divInt 11 1):=by show _ = _; decide +kernel
 have HS9 : Hid (SzQ (7) (dotQ (ofL [1,2]) (ofL [3,4]))):=(zjl (zax.mul HS3.out HS7.out)).up (by decide)
 go_wp2_with fail
 (with_reducible refine (zmw (HT.out _ HB.out) HV3.out HV7.out HS3.out HS7.out (by decide) (by decide) (by decide) (by decide)).mono ?_)
 rintro e X10 ⟨b9,A9,n9,c9,E9,k9,f9,rfl,hw9,hb⟩
 have HB:=lh9 (zac HB.out hb)
 have HK1:=lh9 (zae hb HK1.out)
 have HV3:=lh9 (HV3.out.keep hb)
 have HK5:=lh9 (zae hb HK5.out)
 have HV7:=lh9 (HV7.out.keep hb)
 have HQ9:=lh9 (hw9)
 clear hb hw9
 clear HV3 HV7
 obtain ⟨bq0,bq1,bq2,-⟩:=zbi X10 44 3 #[.bool b9,.slice A9 n9 c9,.slice E9 k9 f9] #[.int .i64 1]
 have HB:=lh9 (zac HB.out bq0)
 have HK1:=lh9 (zae bq0 HK1.out)
 have HK5:=lh9 (zae bq0 HK5.out)
 have HQ9:=lh9 (HQ9.out.below bq0)
 have HK11:=lh9 (bq1)
 have HK12:=lh9 (bq2)
 clear bq0 bq1 bq2
 go_wp2_with fail
 generalize (X10.alloc (.cells #[.bool b9,.slice A9 n9 c9,.slice E9 k9 f9] 44)).alloc (.cells #[.int .i64 1] 3) = W13 at *
 generalize X10.heap.size = q13 at *
 have HS14 : Hid (zax (1) (ofL [1])):=zda (by decide)
 (with_reducible refine (zdu (HT.out _ HB.out) (zbS [1] 1 rfl HK12.out (by decide)) (by decide)).mono ?_)
 rintro e X15 ⟨g14,rfl,hg14,ho14,hb⟩
 have HB:=lh9 (zac HB.out hb)
 have HK1:=lh9 (zae hb HK1.out)
 have HK5:=lh9 (zae hb HK5.out)
 have HQ9:=lh9 (HQ9.out.below hb)
 have HK11:=lh9 (zae hb HK11.out)
 have HK12:=lh9 (zae hb HK12.out)
 have HV14:=lh9 (zbo ho14)
 clear hb hg14 ho14
 obtain ⟨bq0,bq1,-⟩:=zaL X15 3 #[.int .i64 1,.int .i64 2]
 have HB:=lh9 (zac HB.out bq0)
 have HK1:=lh9 (zae bq0 HK1.out)
 have HK5:=lh9 (zae bq0 HK5.out)
 have HQ9:=lh9 (HQ9.out.below bq0)
 have HK11:=lh9 (zae bq0 HK11.out)
 have HK12:=lh9 (zae bq0 HK12.out)
 have HV14:=lh9 (HV14.out.keep bq0)
 have HK16:=lh9 (bq1)
 clear bq0 bq1
 go_wp2_with fail
 generalize X15.alloc (.cells #[.int .i64 1,.int .i64 2] 3) = W17 at *
 generalize X15.heap.size = q17 at *
 have HS18 : Hid (zax (1) (ofL [1,2])):=zda (by decide)
 (with_reducible refine (zdu (HT.out _ HB.out) (zbS [1,2] 2 rfl HK16.out (by decide)) (by decide)).mono ?_)
 rintro e X19 ⟨g18,rfl,hg18,ho18,hb⟩
 have HB:=lh9 (zac HB.out hb)
 have HK1:=lh9 (zae hb HK1.out)
 have HK5:=lh9 (zae hb HK5.out)
 have HQ9:=lh9 (HQ9.out.below hb)
 have HK11:=lh9 (zae hb HK11.out)
 have HK12:=lh9 (zae hb HK12.out)
 have HV14:=lh9 (HV14.out.keep hb)
 have HK16:=lh9 (zae hb HK16.out)
 have HV18:=lh9 (zbo ho18)
 clear hb hg18 ho18
 go_wp2_with fail
 (with_reducible refine (zhE _ _ 1 2 _ _ _ (by decide)).mono ?_)
 rintro e X20 ⟨rfl,hb⟩
 have HB:=lh9 (zac HB.out hb)
 have HK1:=lh9 (zae hb HK1.out)
 have HK5:=lh9 (zae hb HK5.out)
 have HQ9:=lh9 (HQ9.out.below hb)
 have HK11:=lh9 (zae hb HK11.out)
 have HK12:=lh9 (zae hb HK12.out)
 have HV14:=lh9 (HV14.out.keep hb)
 have HK16:=lh9 (zae hb HK16.out)
 have HV18:=lh9 (HV18.out.keep hb)
 clear hb 
 clear HV14 HV18
 obtain ⟨bq0,bq1,-⟩:=zaL X20 3 #[.int .i64 2,.int .i64 3]
 have HB:=lh9 (zac HB.out bq0)
 have HK1:=lh9 (zae bq0 HK1.out)
 have HK5:=lh9 (zae bq0 HK5.out)
 have HQ9:=lh9 (HQ9.out.below bq0)
 have HK11:=lh9 (zae bq0 HK11.out)
 have HK12:=lh9 (zae bq0 HK12.out)
 have HK16:=lh9 (zae bq0 HK16.out)
 have HK21:=lh9 (bq1)
 clear bq0 bq1
 go_wp2_with fail
 generalize X20.alloc (.cells #[.int .i64 2,.int .i64 3] 3) = W22 at *
 generalize X20.heap.size = q22 at *
 have HS23 : Hid (zax (1) (ofL [2,3])):=zda (by decide)
 (with_reducible refine (zdu (HT.out _ HB.out) (zbS [2,3] 2 rfl HK21.out (by decide)) (by decide)).mono ?_)
 rintro e X24 ⟨g23,rfl,hg23,ho23,hb⟩
 have HB:=lh9 (zac HB.out hb)
 have HK1:=lh9 (zae hb HK1.out)
 have HK5:=lh9 (zae hb HK5.out)
 have HQ9:=lh9 (HQ9.out.below hb)
 have HK11:=lh9 (zae hb HK11.out)
 have HK12:=lh9 (zae hb HK12.out)
 have HK16:=lh9 (zae hb HK16.out)
 have HK21:=lh9 (zae hb HK21.out)
 have HV23:=lh9 (zbo ho23)
 clear hb hg23 ho23
 obtain ⟨bq0,bq1,-⟩:=zaL X24 3 #[.int .i64 1,.int .i64 0]
 have HB:=lh9 (zac HB.out bq0)
 have HK1:=lh9 (zae bq0 HK1.out)
 have HK5:=lh9 (zae bq0 HK5.out)
 have HQ9:=lh9 (HQ9.out.below bq0)
 have HK11:=lh9 (zae bq0 HK11.out)
 have HK12:=lh9 (zae bq0 HK12.out)
 have HK16:=lh9 (zae bq0 HK16.out)
 have HK21:=lh9 (zae bq0 HK21.out)
 have HV23:=lh9 (HV23.out.keep bq0)
 have HK25:=lh9 (bq1)
 clear bq0 bq1
 go_wp2_with fail
 generalize X24.alloc (.cells #[.int .i64 1,.int .i64 0] 3) = W26 at *
 generalize X24.heap.size = q26 at *
 have HS27 : Hid (zax (1) (ofL [1,0])):=zda (by decide)
 (with_reducible refine (zdu (HT.out _ HB.out) (zbS [1,0] 2 rfl HK25.out (by decide)) (by decide)).mono ?_)
 rintro e X28 ⟨g27,rfl,hg27,ho27,hb⟩
 have HB:=lh9 (zac HB.out hb)
 have HK1:=lh9 (zae hb HK1.out)
 have HK5:=lh9 (zae hb HK5.out)
 have HQ9:=lh9 (HQ9.out.below hb)
 have HK11:=lh9 (zae hb HK11.out)
 have HK12:=lh9 (zae hb HK12.out)
 have HK16:=lh9 (zae hb HK16.out)
 have HK21:=lh9 (zae hb HK21.out)
 have HV23:=lh9 (HV23.out.keep hb)
 have HK25:=lh9 (zae hb HK25.out)
 have HV27:=lh9 (zbo ho27)
 clear hb hg27 ho27
 obtain ⟨bq0,bq1,-⟩:=zaL X28 3 #[.int .i64 0,.int .i64 1]
 have HB:=lh9 (zac HB.out bq0)
 have HK1:=lh9 (zae bq0 HK1.out)
 have HK5:=lh9 (zae bq0 HK5.out)
 have HQ9:=lh9 (HQ9.out.below bq0)
 have HK11:=lh9 (zae bq0 HK11.out)
 have HK12:=lh9 (zae bq0 HK12.out)
 have HK16:=lh9 (zae bq0 HK16.out)
 have HK21:=lh9 (zae bq0 HK21.out)
 have HV23:=lh9 (HV23.out.keep bq0)
 have HK25:=lh9 (zae bq0 HK25.out)
 have HV27:=lh9 (HV27.out.keep bq0)
 have HK29:=lh9 (bq1)
 clear bq0 bq1
 go_wp2_with fail
 generalize X28.alloc (.cells #[.int .i64 0,.int .i64 1] 3) = W30 at *
 generalize X28.heap.size = q30 at *
 have HS31 : Hid (zax (1) (ofL [0,1])):=zda (by decide)
 (with_reducible refine (zdu (HT.out _ HB.out) (zbS [0,1] 2 rfl HK29.out (by decide)) (by decide)).mono ?_)
 rintro e X32 ⟨g31,rfl,hg31,ho31,hb⟩
 have HB:=lh9 (zac HB.out hb)
 have HK1:=lh9 (zae hb HK1.out)
 have HK5:=lh9 (zae hb HK5.out)
 have HQ9:=lh9 (HQ9.out.below hb)
 have HK11:=lh9 (zae hb HK11.out)
 have HK12:=lh9 (zae hb HK12.out)
 have HK16:=lh9 (zae hb HK16.out)
 have HK21:=lh9 (zae hb HK21.out)
 have HV23:=lh9 (HV23.out.keep hb)
 have HK25:=lh9 (zae hb HK25.out)
 have HV27:=lh9 (HV27.out.keep hb)
 have HK29:=lh9 (zae hb HK29.out)
 have HV31:=lh9 (zbo ho31)
 clear hb hg31 ho31
 obtain ⟨bq0,bq1,-⟩:=zaL X32 27 #[.slice (some ⟨g27,0,none⟩) 2 2,.slice (some ⟨g31,0,none⟩) 2 2]
 have HB:=lh9 (zac HB.out bq0)
 have HK1:=lh9 (zae bq0 HK1.out)
 have HK5:=lh9 (zae bq0 HK5.out)
 have HQ9:=lh9 (HQ9.out.below bq0)
 have HK11:=lh9 (zae bq0 HK11.out)
 have HK12:=lh9 (zae bq0 HK12.out)
 have HK16:=lh9 (zae bq0 HK16.out)
 have HK21:=lh9 (zae bq0 HK21.out)
 have HV23:=lh9 (HV23.out.keep bq0)
 have HK25:=lh9 (zae bq0 HK25.out)
 have HV27:=lh9 (HV27.out.keep bq0)
 have HK29:=lh9 (zae bq0 HK29.out)
 have HV31:=lh9 (HV31.out.keep bq0)
 have HK33:=lh9 (bq1)
 clear bq0 bq1
 go_wp2_with fail
 generalize X32.alloc (.cells #[.slice (some ⟨g27,0,none⟩) 2 2,.slice (some ⟨g31,0,none⟩) 2 2] 27) = W34 at *
 generalize X32.heap.size = q34 at *
 have HVS:=lh9 (zny HK33.out HV27.out HV31.out)
 have HS35 : Hid (zax (1) (zcW 2 (ofL [2,3]) [ofL [1,0],ofL [0,1]])):=by show zax _ _; rw [show zcW 2 (ofL [2,3]) [ofL [1,0],ofL [0,1]] = ofL [2,3] from by decide +kernel]; exact zda (by decide)
 (with_reducible refine (vec_comb (K:=1) (L:=1) (n:=2) (m:=2) (HT.out _ HB.out) HV23.out HVS.out (by decide) rfl (all_two rfl rfl) HS23.out (by intro V hV; simp at hV; rcases hV with rfl | rfl; exact HS27.out; exact HS31.out) (by decide) (by decide) (by decide)).mono ?_)
 rintro e X36 ⟨g35,rfl,hg35,ho35,hb⟩
 have HB:=lh9 (zac HB.out hb)
 have HK1:=lh9 (zae hb HK1.out)
 have HK5:=lh9 (zae hb HK5.out)
 have HQ9:=lh9 (HQ9.out.below hb)
 have HK11:=lh9 (zae hb HK11.out)
 have HK12:=lh9 (zae hb HK12.out)
 have HK16:=lh9 (zae hb HK16.out)
 have HK21:=lh9 (zae hb HK21.out)
 have HV23:=lh9 (HV23.out.keep hb)
 have HK25:=lh9 (zae hb HK25.out)
 have HV27:=lh9 (HV27.out.keep hb)
 have HK29:=lh9 (zae hb HK29.out)
 have HV31:=lh9 (HV31.out.keep hb)
 have HK33:=lh9 (zae hb HK33.out)
 have HV35:=lh9 (zbo ho35)
 clear hb hg35 ho35
 clear HV23 HV27 HV31 HK33
 clear HVS
 go_wp2_with fail
 (with_reducible refine ((HU _).out).mono ?_)
 rintro e X37 ⟨rfl,hb⟩
 have HB:=lh9 (zac HB.out hb)
 have HK1:=lh9 (zae hb HK1.out)
 have HK5:=lh9 (zae hb HK5.out)
 have HQ9:=lh9 (HQ9.out.below hb)
 have HK11:=lh9 (zae hb HK11.out)
 have HK12:=lh9 (zae hb HK12.out)
 have HK16:=lh9 (zae hb HK16.out)
 have HK21:=lh9 (zae hb HK21.out)
 have HK25:=lh9 (zae hb HK25.out)
 have HK29:=lh9 (zae hb HK29.out)
 have HV35:=lh9 (HV35.out.keep hb)
 clear hb 
 obtain ⟨p38_0,p38_1,p38_2⟩:=HK11.out.c3
 go_wp2_with fail
 clear p38_0 p38_1 p38_2
 (with_reducible refine (law8_is (fun _ _ h hb => h.on hb) zbu qc10 11 1 _ 7 b9 A9 n9 c9 E9 k9 f9 _ (by decide) HS9.out HQ9.out (HT.out _ HB.out) (by decide) (by decide) (by decide) (by decide) (by decide) e11.out).mono ?_)
 rintro e X39 ⟨rfl,hb⟩
 have HB:=lh9 (zac HB.out hb)
 have HK1:=lh9 (zae hb HK1.out)
 have HK5:=lh9 (zae hb HK5.out)
 have HQ9:=lh9 (HQ9.out.below hb)
 have HK11:=lh9 (zae hb HK11.out)
 have HK12:=lh9 (zae hb HK12.out)
 have HK16:=lh9 (zae hb HK16.out)
 have HK21:=lh9 (zae hb HK21.out)
 have HK25:=lh9 (zae hb HK25.out)
 have HK29:=lh9 (zae hb HK29.out)
 have HV35:=lh9 (HV35.out.keep hb)
 clear hb 
 obtain ⟨bq0,bq1,-⟩:=zaL X39 3 #[.int .i64 1,.int .i64 2]
 have HB:=lh9 (zac HB.out bq0)
 have HK1:=lh9 (zae bq0 HK1.out)
 have HK5:=lh9 (zae bq0 HK5.out)
 have HQ9:=lh9 (HQ9.out.below bq0)
 have HK11:=lh9 (zae bq0 HK11.out)
 have HK12:=lh9 (zae bq0 HK12.out)
 have HK16:=lh9 (zae bq0 HK16.out)
 have HK21:=lh9 (zae bq0 HK21.out)
 have HK25:=lh9 (zae bq0 HK25.out)
 have HK29:=lh9 (zae bq0 HK29.out)
 have HV35:=lh9 (HV35.out.keep bq0)
 have HK40:=lh9 (bq1)
 clear bq0 bq1
 go_wp2_with fail
 generalize X39.alloc (.cells #[.int .i64 1,.int .i64 2] 3) = W41 at *
 generalize X39.heap.size = q41 at *
 have HS42 : Hid (zax (1) (ofL [1,2])):=zda (by decide)
 (with_reducible refine (zdu (HT.out _ HB.out) (zbS [1,2] 2 rfl HK40.out (by decide)) (by decide)).mono ?_)
 rintro e X43 ⟨g42,rfl,hg42,ho42,hb⟩
 have HB:=lh9 (zac HB.out hb)
 have HK1:=lh9 (zae hb HK1.out)
 have HK5:=lh9 (zae hb HK5.out)
 have HQ9:=lh9 (HQ9.out.below hb)
 have HK11:=lh9 (zae hb HK11.out)
 have HK12:=lh9 (zae hb HK12.out)
 have HK16:=lh9 (zae hb HK16.out)
 have HK21:=lh9 (zae hb HK21.out)
 have HK25:=lh9 (zae hb HK25.out)
 have HK29:=lh9 (zae hb HK29.out)
 have HV35:=lh9 (HV35.out.keep hb)
 have HK40:=lh9 (zae hb HK40.out)
 have HV42:=lh9 (zbo ho42)
 clear hb hg42 ho42
 obtain ⟨bq0,bq1,-⟩:=zaL X43 3 #[.int .i64 1,.int .i64 2,.int .i64 0]
 have HB:=lh9 (zac HB.out bq0)
 have HK1:=lh9 (zae bq0 HK1.out)
 have HK5:=lh9 (zae bq0 HK5.out)
 have HQ9:=lh9 (HQ9.out.below bq0)
 have HK11:=lh9 (zae bq0 HK11.out)
 have HK12:=lh9 (zae bq0 HK12.out)
 have HK16:=lh9 (zae bq0 HK16.out)
 have HK21:=lh9 (zae bq0 HK21.out)
 have HK25:=lh9 (zae bq0 HK25.out)
 have HK29:=lh9 (zae bq0 HK29.out)
 have HV35:=lh9 (HV35.out.keep bq0)
 have HK40:=lh9 (zae bq0 HK40.out)
 have HV42:=lh9 (HV42.out.keep bq0)
 have HK44:=lh9 (bq1)
 clear bq0 bq1
 go_wp2_with fail
 generalize X43.alloc (.cells #[.int .i64 1,.int .i64 2,.int .i64 0] 3) = W45 at *
 generalize X43.heap.size = q45 at *
 have HS46 : Hid (zax (1) (ofL [1,2,0])):=zda (by decide)
 (with_reducible refine (zdu (HT.out _ HB.out) (zbS [1,2,0] 3 rfl HK44.out (by decide)) (by decide)).mono ?_)
 rintro e X47 ⟨g46,rfl,hg46,ho46,hb⟩
 have HB:=lh9 (zac HB.out hb)
 have HK1:=lh9 (zae hb HK1.out)
 have HK5:=lh9 (zae hb HK5.out)
 have HQ9:=lh9 (HQ9.out.below hb)
 have HK11:=lh9 (zae hb HK11.out)
 have HK12:=lh9 (zae hb HK12.out)
 have HK16:=lh9 (zae hb HK16.out)
 have HK21:=lh9 (zae hb HK21.out)
 have HK25:=lh9 (zae hb HK25.out)
 have HK29:=lh9 (zae hb HK29.out)
 have HV35:=lh9 (HV35.out.keep hb)
 have HK40:=lh9 (zae hb HK40.out)
 have HV42:=lh9 (HV42.out.keep hb)
 have HK44:=lh9 (zae hb HK44.out)
 have HV46:=lh9 (zbo ho46)
 clear hb hg46 ho46
 go_wp2_with fail
 (with_reducible refine (ziw (z:=-1) (by decide +kernel) (HT.out _ HB.out) HV42.out HV46.out HS42.out HS46.out (by decide) (by decide) (by decide) (by decide)).mono ?_)
 rintro e X48 ⟨rfl,hb⟩
 have HB:=lh9 (zac HB.out hb)
 have HK1:=lh9 (zae hb HK1.out)
 have HK5:=lh9 (zae hb HK5.out)
 have HQ9:=lh9 (HQ9.out.below hb)
 have HK11:=lh9 (zae hb HK11.out)
 have HK12:=lh9 (zae hb HK12.out)
 have HK16:=lh9 (zae hb HK16.out)
 have HK21:=lh9 (zae hb HK21.out)
 have HK25:=lh9 (zae hb HK25.out)
 have HK29:=lh9 (zae hb HK29.out)
 have HV35:=lh9 (HV35.out.keep hb)
 have HK40:=lh9 (zae hb HK40.out)
 have HV42:=lh9 (HV42.out.keep hb)
 have HK44:=lh9 (zae hb HK44.out)
 have HV46:=lh9 (HV46.out.keep hb)
 clear hb 
 clear HV42 HV46
 obtain ⟨bq0,bq1,-⟩:=zaL X48 3 #[.int .i64 2,.int .i64 3]
 have HB:=lh9 (zac HB.out bq0)
 have HK1:=lh9 (zae bq0 HK1.out)
 have HK5:=lh9 (zae bq0 HK5.out)
 have HQ9:=lh9 (HQ9.out.below bq0)
 have HK11:=lh9 (zae bq0 HK11.out)
 have HK12:=lh9 (zae bq0 HK12.out)
 have HK16:=lh9 (zae bq0 HK16.out)
 have HK21:=lh9 (zae bq0 HK21.out)
 have HK25:=lh9 (zae bq0 HK25.out)
 have HK29:=lh9 (zae bq0 HK29.out)
 have HV35:=lh9 (HV35.out.keep bq0)
 have HK40:=lh9 (zae bq0 HK40.out)
 have HK44:=lh9 (zae bq0 HK44.out)
 have HK49:=lh9 (bq1)
 clear bq0 bq1
 go_wp2_with fail
 generalize X48.alloc (.cells #[.int .i64 2,.int .i64 3] 3) = W50 at *
 generalize X48.heap.size = q50 at *
 have HS51 : Hid (zax (1) (ofL [2,3])):=zda (by decide)
 (with_reducible refine (zdu (HT.out _ HB.out) (zbS [2,3] 2 rfl HK49.out (by decide)) (by decide)).mono ?_)
 rintro e X52 ⟨g51,rfl,hg51,ho51,hb⟩
 have HB:=lh9 (zac HB.out hb)
 have HK1:=lh9 (zae hb HK1.out)
 have HK5:=lh9 (zae hb HK5.out)
 have HQ9:=lh9 (HQ9.out.below hb)
 have HK11:=lh9 (zae hb HK11.out)
 have HK12:=lh9 (zae hb HK12.out)
 have HK16:=lh9 (zae hb HK16.out)
 have HK21:=lh9 (zae hb HK21.out)
 have HK25:=lh9 (zae hb HK25.out)
 have HK29:=lh9 (zae hb HK29.out)
 have HV35:=lh9 (HV35.out.keep hb)
 have HK40:=lh9 (zae hb HK40.out)
 have HK44:=lh9 (zae hb HK44.out)
 have HK49:=lh9 (zae hb HK49.out)
 have HV51:=lh9 (zbo ho51)
 clear hb hg51 ho51
 go_wp2_with fail
 (with_reducible refine (zlH (t:=true) (by decide +kernel) (HT.out _ HB.out) HV35.out HV51.out HS35.out HS51.out (by decide) (by decide) (by decide) (by decide)).mono ?_)
 rintro e X53 ⟨rfl,hb⟩
 have HB:=lh9 (zac HB.out hb)
 have HK1:=lh9 (zae hb HK1.out)
 have HK5:=lh9 (zae hb HK5.out)
 have HQ9:=lh9 (HQ9.out.below hb)
 have HK11:=lh9 (zae hb HK11.out)
 have HK12:=lh9 (zae hb HK12.out)
 have HK16:=lh9 (zae hb HK16.out)
 have HK21:=lh9 (zae hb HK21.out)
 have HK25:=lh9 (zae hb HK25.out)
 have HK29:=lh9 (zae hb HK29.out)
 have HV35:=lh9 (HV35.out.keep hb)
 have HK40:=lh9 (zae hb HK40.out)
 have HK44:=lh9 (zae hb HK44.out)
 have HK49:=lh9 (zae hb HK49.out)
 have HV51:=lh9 (HV51.out.keep hb)
 clear hb 
 go_wp2
 go_ret
 exact ⟨rfl,HB.out⟩
end Go.Proofs.YtkiedljcgkoaiaaGreatDoor
