/- What this claim leans on. -/
import Derived.Test.YtedbgdlbgohiiaaGreatDoorBMAwake
namespace Go.Proofs.YtedbgdlbgohiiaaGreatDoor
open Go Go.RowKit
set_option maxHeartbeats 16000000
set_option maxRecDepth 100000
set_option linter.unusedVariables false
set_option linter.unusedSimpArgs false
def zeI (Y : List Rat) (k : Nat) : List Rat:=Y ++ List.replicate k 1
theorem zkj (Y : List Rat) (k : Nat) : (zeI Y k).length = Y.length + k:=by unfold zeI; rw [List.length_append,List.length_replicate]
theorem ziw (Y : List Rat) : zeI Y 0 = Y:=by unfold zeI; simp
theorem ziv (Y : List Rat) (k : Nat) : zeI Y (k + 1) = zeI Y k ++ [1]:=by unfold zeI; rw [List.replicate_succ',List.append_assoc]
theorem zms {Y : List Rat} (h : zav 1 Y) (k : Nat) : zav 1 (zeI Y k):=fun x hx => by
 rcases List.mem_append.1 hx with hx | hx
 ·exact h x hx
 ·rw [(List.mem_replicate.1 hx).2]; exact sz_one
theorem zaD.take11 {w : World} {A : oA9} {n c N : Nat} {xs : List Rat} (h : zaD w A n c xs) (hN : N ≤ n) : zaD w A N c (xs.take N):=by
 have hl:=h.len
 have hf:=h.fits
 refine ⟨by rw [List.length_take]; omega,by omega,h.most,fun i x hi => ?_⟩
 rw [List.getElem?_take] at hi
 split at hi
 ·exact h.num i x hi
 ·cases hi
theorem zkf {X : List (List Rat)} {n m p : Nat} {V : List Rat} (h : zbP X n m) (hp : m + 1 = p) : zbw n m (fun a b => if b < m then atM (zbw n p fun a b => if b = m then V.getD a 0 else atM X a b) a b else atM (zbw n p fun a b => if b = m then V.getD a 0 else atM X a b) a (b + 1)) = X:=by
 have e:=h.eq
 refine Eq.trans (zhG fun r c hr hc => ?_) e
 rw [if_pos hc,zjp hr (by omega),if_neg (by omega)]
theorem zmG {X : List (List Rat)} {n m p K : Nat} {V : List Rat} (h : zau K X) (hd : zbP X n m) (hv : zav K V) (hl : V.length = n) (hp : m + 1 = p) : zau K (zbw n p fun a b => if b = m then V.getD a 0 else atM X a b):=zau.tab fun r c hr hc => by
 split
 ·exact hv.at_ (by omega)
 ·exact h.at_ hd hr (by omega)
theorem row_sz11 {X : List (List Rat)} {V : List Rat} {K : Nat} (h : zau K X) (hv : zav K V) : zau K (X ++ [V]):=fun L hL => by
 rcases List.mem_append.1 hL with hL | hL
 ·exact h L hL
 ·rw [List.mem_singleton.1 hL]; exact hv
theorem matBack_core (z0 : Nat) (A0 : oA9) (n0 c0 : Nat) (R0 : zgz) (A1 : oA9) (n1 c1 : Nat) (L1 : List (Int × Int)) (w : World) (hz0 : z0 ≤ 255) (h0 : zaR w A0 n0 c0 R0) (h1 : zaS w A1 n1 c1 L1) (hT : zaj w) :
  Calls Tryz.prog 9 #[.agg #[.int .u8 (z0 : Int),.slice A0 n0 c0],.slice A1 n1 c1] w fun e w' => e = .returned (.bool true) ∧ Below w.heap.size w w':=by
 have HMK0:=lh9 (fun W (hb : Below w.heap.size w W) => zeY (hT.on hb) hz0 (h0.below hb))
 have HSX0:=lh9 (zfy (m:=z0 % 7) h0 (Nat.min_le_left n0 6))
 have HDX0:=lh9 (zdQ (z0 % 7) R0 (min n0 6))
 obtain ⟨m0,hm0⟩ : ∃ m,z0 % 7 = m:=⟨_,rfl⟩
 obtain ⟨N0,hN0⟩ : ∃ N,min n0 6 = N:=⟨_,rfl⟩
 have bm0 : m0 ≤ 6:=by omega
 have bN0 : N0 ≤ 6:=by omega
 rw [hm0,hN0] at HMK0 HSX0 HDX0
 obtain ⟨X0,hX0⟩ : ∃ X,zfx m0 R0 N0 = X:=⟨_,rfl⟩
 rw [hX0] at HMK0 HSX0 HDX0
 have hn1 : n1 ≤ 1048576:=Nat.le_trans h1.fits h1.small
 have hl1 : (zcO L1).length = n1:=by rw [zdB]; exact h1.len
 have HL1:=lh9 hl1
 clear hl1
 have HSA1:=lh9 (qsOf_sz h1)
 have HA1:=lh9 (fun w' (hb : Below w.heap.size w w') => h1.below hb)
 obtain ⟨Y1,hY1⟩ : ∃ X,zcO L1 = X:=⟨_,rfl⟩
 rw [hY1] at HL1 HSA1
 have HY1:=lh9 hY1
 have HT:=lh9 (fun w' (hb : Below w.heap.size w w') => hT.on hb)
 have HB:=lh9 (Below.refl w.heap.size w)
 clear hT h0 hz0 h1 hm0 hN0 hX0 hY1
 go_enter Tryz.func9,Tryz.ntmps9
 obtain ⟨bq0,bq1,-⟩:=zaC w 24 #[.int .u8 (z0 : Int),.slice A0 n0 c0]
 have HB:=lh9 (zaa HB.out bq0)
 have HK1:=lh9 (bq1)
 clear bq0 bq1
 go_wp2_with fail
 generalize w.alloc (.cells #[.int .u8 (z0 : Int),.slice A0 n0 c0] 24) = W2 at *
 (with_reducible refine (zgn (HT.out _ HB.out)).mono ?_)
 rintro e X3 ⟨rfl,hb⟩
 have HB:=lh9 (zaa HB.out hb)
 have HK1:=lh9 (zac hb HK1.out)
 clear hb 
 obtain ⟨p4_0,p4_1⟩:=HK1.out.c2
 have HS5 : Hid (zau (1) (X0)):=HSX0.out
 go_wp2_with fail
 clear p4_0 p4_1
 (with_reducible refine (HMK0.out _ HB.out).mono ?_)
 rintro e X6 ⟨A5,c5,rfl,hm5,-,hb⟩
 have HB:=lh9 (zaa HB.out hb)
 have HK1:=lh9 (zac hb HK1.out)
 have HM5:=lh9 (hm5)
 clear hb hm5
 obtain ⟨ix1,hix1,hzx10,hzx11,hzx12⟩:=info_parts ziV
 clear HK1
 obtain ⟨bq0,bq1,-⟩:=zaC X6 28 #[.slice A5 N0 c5,.int .i64 (m0 : Int)]
 have HB:=lh9 (zaa HB.out bq0)
 have HM5:=lh9 (HM5.out.keep bq0)
 have HK7:=lh9 (bq1)
 clear bq0 bq1
 go_wp2_with fail
 generalize X6.alloc (.cells #[.slice A5 N0 c5,.int .i64 (m0 : Int)] 28) = W8 at *
 generalize X6.heap.size = q8 at *
 (with_reducible refine (zek (HT.out _ HB.out) (HA1.out _ HB.out)).mono ?_)
 rintro e XL0 ⟨v0,vs0,rfl,hon,hWL⟩
 obtain ⟨K0,hK0⟩ : ∃ K,m0 - n1 = K:=⟨_,rfl⟩
 have HKL0:=lh9 hK0
 clear hK0
 rw [HY1.out,← ziw Y1] at hon
 go_wp2_with fail
 go_loopg [6] (K0 + 1) (fun g sl wr => ∃ (k : Nat) (v : Value) (vs : List Value),k ≤ K0 ∧ K0 < g + k ∧ v = sl ∧ zcL zai wr W8.heap.size 48 v (zeI Y1 k) vs ∧ Below W8.heap.size W8 wr)
 case atStart => exact ⟨0,_,_,Nat.zero_le _,by omega,rfl,hon,hWL⟩
 case round =>
  clear hon hWL
  obtain ⟨k,v9,vs,hkK,hg,rfl,hon,hWr⟩:=hrel
  obtain ⟨A9,c9,rfl,hv9,-⟩:=hon.shape
  have hl9 : (zeI Y1 k).length = n1 + k:=by rw [zkj,HL1.out]
  obtain ⟨ln,hln⟩ : ∃ l,n1 + k = l:=⟨_,rfl⟩
  rw [hln] at hl9
  rw [hl9] at hon hv9 ⊢
  have HLN:=lh9 hln
  have HL9:=lh9 hl9
  have HWR:=lh9 hWr
  have HB:=lh9 (zaa HB.out hWr)
  have HM5:=lh9 (HM5.out.keep hWr)
  have HK7:=lh9 (zac hWr HK7.out)
  have HV9:=lh9 hv9
  have HON:=lh9 hon
  have hc9:=hv9.fits
  clear hv9 hon hln hl9 hWr
  by_cases hlt : k < K0
  ·have hlt2 : ln < m0:=by have h1:=HLN.out; have h2:=HKL0.out; omega
   have hd1 : decide ((ln : Int) < (m0 : Int)) = true:=decide_eq_true (by omega)
   have hd1' : decide (ln < m0) = true:=decide_eq_true hlt2
   obtain ⟨p9_0,p9_1⟩:=HK7.out.c2
   go_wp2_with fail
   clear p9_0 p9_1
   (with_reducible refine (zco A5 N0 c5 (m0 : Int) _).mono ?_)
   rintro e w4 ⟨rfl,hb⟩
   have HON:=lh9 (HON.out.below zal hb)
   have HWR:=lh9 (zaa HWR.out hb)
   have HB:=lh9 (zaa HB.out hb)
   clear hb
   go_wp2_with fail
   (with_reducible refine (zfJ 1 _ (HT.out _ HB.out) (by decide) (by decide)).mono ?_)
   rintro e w5 ⟨b5,B5,m5,d5,E5,u5,f5,rfl,hx5,hb⟩
   obtain ⟨t1,t2,-⟩:=zaC w5 48 #[.bool b5,.slice B5 m5 d5,.slice E5 u5 f5]
   have hup:=zaa hb t1
   have HON6:=lh9 (HON.out.below zal hup)
   have HX : Hid (zai (w5.alloc (.cells #[.bool b5,.slice B5 m5 d5,.slice E5 u5 f5] 48)) (1 : Rat) b5 B5 m5 d5 E5 u5 f5):=hx5.below t1
   have HWR6:=lh9 (zaa HWR.out hup)
   have HBS6:=lh9 HWR6.out.size
   have hown:=HON6.out.own
   rw [HL9.out] at hown
   have HOWN:=lh9 hown
   have HNOU:=lh9 HON6.out.nou
   have HCELL:=lh9 (zhf t2)
   have HOB:=lh9 (fun r (h : (Value.slice A9 ln c9).ownBlock = some r) => HON6.out.own.lt r h)
   clear hb hup hx5 t1 t2 hown HON HWR hc9
   go_wp2_with (at_builtin; go_loud (refine zbO _ rfl (.tmp 26) (.tmp 28) 51 rfl W8.heap.size 48 ix1 (.agg #[.bool false,.slice none 0 0,.slice none 0 0]) 3 56 Tryz.underlying51 hix1 hzx10 hzx11 hzx12 rfl (by decide) (.slice A9 ln c9) ln vs rfl HOWN.out ⟨w5.heap.size,0,none⟩ 1 1 [.bool b5,.slice B5 m5 d5,.slice E5 u5 f5] rfl rfl HCELL.out (zjZ _ _ _ _ _ _ _) (by unfold maxLen; omega) (by omega) HBS6.out HNOU.out ziJ (zjY _ _ _ _ _ _ _) ?_; intro v' w8 hown' hgrow hat hnou'))
   have hon8:=zcL.grow (n:=ln + 1) zal HON6.out HX.out hown' (by rw [HL9.out]) hgrow hnou'
   rw [← ziv] at hon8
   have HON8:=lh9 hon8
   have HWR8:=lh9 (HWR6.out.grown hgrow HBS6.out (fun r hr => (HOB.out r hr).1))
   clear hon8 hown' hgrow hat hnou' HON6 HX HOWN HNOU HCELL HOB HBS6 HWR6
   go_wp2
   go_roundg (K0 - k)
   case measure => omega
   case rel => exact ⟨k + 1,_,_,by omega,by omega,rfl,HON8.out,HWR8.out⟩
  ·have hlt2 : m0 ≤ ln:=by have h1:=HLN.out; have h2:=HKL0.out; omega
   have hd1 : decide ((ln : Int) < (m0 : Int)) = false:=decide_eq_false (by omega)
   have hd1' : decide (ln < m0) = false:=decide_eq_false (by omega)
   have HSV9 : Hid (zav 1 ((zeI Y1 k).take m0)):=fun x hx => zms HSA1.out k x (List.mem_of_mem_take hx)
   obtain ⟨V9,hV9⟩ : ∃ V,(zeI Y1 k).take m0 = V:=⟨_,rfl⟩
   have HV9:=lh9 (hV9 ▸ zaD.take11 HV9.out hlt2)
   rw [hV9] at HSV9
   clear hV9
   obtain ⟨p10_0,p10_1⟩:=HK7.out.c2
   go_wp2_with fail
   clear p10_0 p10_1
   (with_reducible refine (zco A5 N0 c5 (m0 : Int) _).mono ?_)
   rintro e X11 ⟨rfl,hb⟩
   have HB:=lh9 (zaa HB.out hb)
   have HM5:=lh9 (HM5.out.keep hb)
   have HK7:=lh9 (zac hb HK7.out)
   have HV9:=lh9 (HV9.out.keep hb)
   clear hb 
   go_wp2_with fail
   obtain ⟨N9,hN9⟩ : ∃ N,N0 + 1 = N:=⟨_,rfl⟩
   have HN9:=lh9 hN9
   have hN9b : N9 ≤ 7:=by omega
   clear hN9
   have i8 : (0 : Int) ≤ (m0 : Int):=by omega
   have i9 : (m0 : Int) ≤ (c9 : Int):=by omega
   have HS12 : Hid (zau (1) (X0 ++ [V9])):=row_sz11 HS5.out HSV9.out
   obtain ⟨p13_0,p13_1⟩:=HK7.out.c2
   have GG:=lh9 (fun w' (h : Below X11.heap.size X11 w') => (csc (zab h p13_0) (csc (zab h p13_1) csn)))
   refine rgB (fun hHeld => ?_)
   clear p13_0 p13_1
   refine tl 0 GG.out ?_
   refine tl 1 GG.out ?_
   refine tl 2 GG.out ?_
   refine zaT (L:=#[true,true,true,true,true,true,true,true,true,true,true,true])
    (J:=fun a0 l a w' => ∃ (fl3 fl4 fl5 fl6 fl7 fl8 fl9 fl10 fl11 : Bool) (A12 : oA9) (c12 ad9 : Nat),l = #[true,true,true,fl3,fl4,fl5,fl6,fl7,fl8,fl9,fl10,fl11] ∧ zbS [34,35,36,30,37,38,7,8] a0 a ∧ Hid (Below X11.heap.size X11 w') ∧
      Hid (Gd fl3 (a.tmps.getD 34 undef = .int .i64 (m0 : Int))) ∧
      Hid (Gd fl5 (a.tmps.getD 36 undef = .tuple #[.agg #[.slice A12 N9 c12,.int .i64 (m0 : Int)],.bool true] ∧ zat w' A12 N9 c12 m0 (X0 ++ [V9]))) ∧
      Hid (Gd fl4 (a.tmps.getD 35 undef = .slice A9 m0 c9)) ∧
      Hid (Gd fl6 (a.tmps.getD 30 undef = .tuple #[.agg #[.slice A12 N9 c12,.int .i64 (m0 : Int)],.bool true])) ∧
      Hid (Gd fl7 (a.tmps.getD 37 undef = .agg #[.slice A12 N9 c12,.int .i64 (m0 : Int)])) ∧
      Hid (Gd fl8 (a.tmps.getD 38 undef = .bool true)) ∧
      Hid (Gd fl11 (a.tmps.getD 8 undef = .bool true)) ∧
      Hid (Gd fl9 (a.tmps.getD 7 undef = .pointer (some ⟨ad9,0,none⟩) ∧ X11.heap.size ≤ ad9 ∧ Blk w' ad9 28 (bif fl10 then #[.slice A12 N9 c12,.int .i64 (m0 : Int)] else #[.slice none 0 0,.int .i64 0]))) ∧
      Hid (Gd fl4 (fl3 = true)) ∧
      Hid (Gd fl5 (fl3 = true)) ∧
      Hid (Gd fl5 (fl4 = true)) ∧
      Hid (Gd fl6 (fl5 = true)) ∧
      Hid (Gd fl7 (fl6 = true)) ∧
      Hid (Gd fl8 (fl6 = true)) ∧
      Hid (Gd fl10 (fl5 = true)) ∧
      Hid (Gd fl10 (fl7 = true)) ∧
      Hid (Gd fl10 (fl9 = true)) ∧
      Hid (Gd fl11 (fl8 = true)) ∧
      Hid (Gd fl11 (fl10 = true)))
    (by rfl) ?_ ?_ ?_
   ·exact ⟨false,false,false,false,false,false,false,false,false,none,0,0,by kernel_rfl,zbS.refl _ _,hHeld,Gd.no,Gd.no,Gd.no,Gd.no,Gd.no,Gd.no,Gd.no,Gd.no,Gd.no,Gd.no,Gd.no,Gd.no,Gd.no,Gd.no,Gd.no,Gd.no,Gd.no,Gd.no,Gd.no⟩
   ·intro OPS Ac0 Q0 hO hAs hA
    have RB31 : Ac0.tmps.getD 31 undef = .agg #[.slice A5 N0 c5,.int .i64 (m0 : Int)]:=(hA 31 undef).trans (by kernel_rfl)
    have RB32 : Ac0.tmps.getD 32 undef = .slice A9 ln c9:=(hA 32 undef).trans (by kernel_rfl)
    have RB33 : Ac0.tmps.getD 33 undef = .agg #[.slice A5 N0 c5,.int .i64 (m0 : Int)]:=(hA 33 undef).trans (by kernel_rfl)
    have hsz : Ac0.tmps.size = 93:=hAs.trans (by kernel_rfl)
    clear hAs hA
    refine ⟨?_,?_⟩
    ·rintro l a w' ⟨fl3,fl4,fl5,fl6,fl7,fl8,fl9,fl10,fl11,A12,c12,ad9,rfl,-⟩ hr
     obtain rfl : fl3 = true:=als 3 hr hO
     obtain rfl : fl4 = true:=als 4 hr hO
     obtain rfl : fl5 = true:=als 5 hr hO
     obtain rfl : fl6 = true:=als 6 hr hO
     obtain rfl : fl7 = true:=als 7 hr hO
     obtain rfl : fl8 = true:=als 8 hr hO
     obtain rfl : fl9 = true:=als 9 hr hO
     obtain rfl : fl10 = true:=als 10 hr hO
     obtain rfl : fl11 = true:=als 11 hr hO
     rfl
    ·rintro l a w' i ⟨fl3,fl4,fl5,fl6,fl7,fl8,fl9,fl10,fl11,A12,c12,ad9,rfl,HKp,hBi,qf3,qf5,qf4,qf6,qf7,qf8,qf11,qf9,qd4_3,qd5_3,qd5_4,qd6_5,qd7_6,qd8_6,qd10_5,qd10_7,qd10_9,qd11_8,qd11_10⟩ hne hi
     have hlt : i < 12:=by have:=zbH hi; rw [hO] at this; exact this
     rcases (show i = 0 ∨ i = 1 ∨ i = 2 ∨ i = 3 ∨ i = 4 ∨ i = 5 ∨ i = 6 ∨ i = 7 ∨ i = 8 ∨ i = 9 ∨ i = 10 ∨ i = 11 by omega) with rfl | rfl | rfl | rfl | rfl | rfl | rfl | rfl | rfl | rfl | rfl | rfl
     ·cases (zaf hi : true = false)
     ·cases (zaf hi : true = false)
     ·cases (zaf hi : true = false)
     ·obtain rfl : fl3 = false:=zaf hi
      obtain rfl : fl4 = false:=Gd.off qd4_3.out
      obtain rfl : fl5 = false:=Gd.off qd5_3.out
      obtain rfl : fl6 = false:=Gd.off qd6_5.out
      obtain rfl : fl7 = false:=Gd.off qd7_6.out
      obtain rfl : fl8 = false:=Gd.off qd8_6.out
      obtain rfl : fl10 = false:=Gd.off qd10_5.out
      obtain rfl : fl11 = false:=Gd.off qd11_8.out
      have rd33:=HKp.get 33 (by decide) RB33
      have HBn:=lh9 (zaa HB.out hBi.out)
      refine wog hO (fun K' hK => ?_)
      go_simp
      (with_reducible refine (zco A5 N0 c5 (m0 : Int) _).mono ?_)
      rintro e w2 ⟨rfl,hb⟩
      exact hK.out _ _ ⟨zaa hBi.out hb,true,false,false,false,false,false,fl9,false,false,A12,c12,ad9,by rfl,HKp.put (by decide) _,zaa hBi.out hb,Gd.yes (zas (HKp.lt (by rw [hsz]; decide)) _),Gd.no,Gd.no,Gd.no,Gd.no,Gd.no,Gd.no,kq qf9.out fun h => ⟨h.1,zac hb h.2⟩,Gd.no,Gd.no,Gd.no,Gd.no,Gd.no,Gd.no,Gd.no,Gd.no,Gd.no,Gd.no,Gd.no⟩
     ·obtain rfl : fl4 = false:=zaf hi
      obtain rfl : fl3 = true:=rdp 3 1 hi hO
      obtain rfl : fl5 = false:=Gd.off qd5_4.out
      obtain rfl : fl6 = false:=Gd.off qd6_5.out
      obtain rfl : fl7 = false:=Gd.off qd7_6.out
      obtain rfl : fl8 = false:=Gd.off qd8_6.out
      obtain rfl : fl10 = false:=Gd.off qd10_5.out
      obtain rfl : fl11 = false:=Gd.off qd11_8.out
      have rd32:=HKp.get 32 (by decide) RB32
      have rd34:=qf3.out.get
      refine wog hO (fun K' hK => ?_)
      go_simp
      exact hK.out _ _ ⟨hBi.out,true,true,false,false,false,false,fl9,false,false,A12,c12,ad9,by rfl,HKp.put (by decide) _,hBi.out,kq0 qf3.out,Gd.no,Gd.yes (zas (HKp.lt (by rw [hsz]; decide)) _),Gd.no,Gd.no,Gd.no,Gd.no,kq qf9.out id,fun _ => rfl,Gd.no,Gd.no,Gd.no,Gd.no,Gd.no,Gd.no,Gd.no,Gd.no,Gd.no,Gd.no⟩
     ·obtain rfl : fl5 = false:=zaf hi
      obtain rfl : fl3 = true:=rdp 3 2 hi hO
      obtain rfl : fl4 = true:=rdp 4 1 hi hO
      obtain rfl : fl6 = false:=Gd.off qd6_5.out
      obtain rfl : fl7 = false:=Gd.off qd7_6.out
      obtain rfl : fl8 = false:=Gd.off qd8_6.out
      obtain rfl : fl10 = false:=Gd.off qd10_5.out
      obtain rfl : fl11 = false:=Gd.off qd11_8.out
      have rd31:=HKp.get 31 (by decide) RB31
      have rd35:=qf4.out.get
      have HBn:=lh9 (zaa HB.out hBi.out)
      have HM5n:=lh9 (HM5.out.keep hBi.out)
      have HV9n:=lh9 (HV9.out.keep hBi.out)
      refine wog hO (fun K' hK => ?_)
      go_simp
      (with_reducible refine (zkb HN9.out (HT.out _ HBn.out) HM5n.out HS5.out HV9n.out HSV9.out rfl (by omega)).mono ?_)
      rintro e w2 ⟨nA12,nc12,rfl,nhm12,-,hb⟩
      exact hK.out _ _ ⟨zaa hBi.out hb,true,true,true,false,false,false,fl9,false,false,nA12,nc12,ad9,by rfl,HKp.put (by decide) _,zaa hBi.out hb,kq0 qf3.out,Gd.yes ⟨zas (HKp.lt (by rw [hsz]; decide)) _,nhm12⟩,kq0 qf4.out,Gd.no,Gd.no,Gd.no,Gd.no,kq qf9.out fun h => ⟨h.1,zac hb h.2⟩,fun _ => rfl,fun _ => rfl,fun _ => rfl,Gd.no,Gd.no,Gd.no,Gd.no,Gd.no,Gd.no,Gd.no,Gd.no⟩
     ·obtain rfl : fl6 = false:=zaf hi
      obtain rfl : fl5 = true:=rdp 5 0 hi hO
      obtain rfl : fl3 = true:=qd5_3.out.get
      obtain rfl : fl4 = true:=qd5_4.out.get
      obtain rfl : fl7 = false:=Gd.off qd7_6.out
      obtain rfl : fl8 = false:=Gd.off qd8_6.out
      obtain rfl : fl10 = false:=Gd.off qd10_7.out
      obtain rfl : fl11 = false:=Gd.off qd11_8.out
      have rd36:=qf5.out.get.1
      refine wog hO (fun K' hK => ?_)
      refine zaX (x:=36) (Or.inl rfl) rd36 ?_
      exact hK.out _ _ ⟨hBi.out,true,true,true,true,false,false,fl9,false,false,A12,c12,ad9,by rfl,HKp.put (by decide) _,hBi.out,kq0 qf3.out,kq qf5.out fun h => (h),kq0 qf4.out,Gd.yes (zas (HKp.lt (by rw [hsz]; decide)) _),Gd.no,Gd.no,Gd.no,kq qf9.out id,fun _ => rfl,fun _ => rfl,fun _ => rfl,fun _ => rfl,Gd.no,Gd.no,Gd.no,Gd.no,Gd.no,Gd.no,Gd.no⟩
     ·obtain rfl : fl7 = false:=zaf hi
      obtain rfl : fl6 = true:=rdp 6 0 hi hO
      obtain rfl : fl5 = true:=qd6_5.out.get
      obtain rfl : fl3 = true:=qd5_3.out.get
      obtain rfl : fl4 = true:=qd5_4.out.get
      obtain rfl : fl10 = false:=Gd.off qd10_7.out
      obtain rfl : fl11 = false:=Gd.off qd11_10.out
      have rd30:=qf6.out.get
      refine wog hO (fun K' hK => ?_)
      refine zaB (x:=30) (k:=0) rfl rd30 rfl ?_
      exact hK.out _ _ ⟨hBi.out,true,true,true,true,true,fl8,fl9,false,false,A12,c12,ad9,by rfl,HKp.put (by decide) _,hBi.out,kq0 qf3.out,kq qf5.out fun h => (h),kq0 qf4.out,kq0 qf6.out,Gd.yes (zas (HKp.lt (by rw [hsz]; decide)) _),kq0 qf8.out,Gd.no,kq qf9.out id,fun _ => rfl,fun _ => rfl,fun _ => rfl,fun _ => rfl,fun _ => rfl,fun _ => rfl,Gd.no,Gd.no,Gd.no,Gd.no,Gd.no⟩
     ·obtain rfl : fl8 = false:=zaf hi
      obtain rfl : fl6 = true:=rdp 6 0 hi hO
      obtain rfl : fl5 = true:=qd6_5.out.get
      obtain rfl : fl3 = true:=qd5_3.out.get
      obtain rfl : fl4 = true:=qd5_4.out.get
      obtain rfl : fl11 = false:=Gd.off qd11_8.out
      have rd30:=qf6.out.get
      refine wog hO (fun K' hK => ?_)
      refine zaB (x:=30) (k:=1) rfl rd30 rfl ?_
      exact hK.out _ _ ⟨hBi.out,true,true,true,true,fl7,true,fl9,fl10,false,A12,c12,ad9,by rfl,HKp.put (by decide) _,hBi.out,kq0 qf3.out,kq qf5.out fun h => (h),kq0 qf4.out,kq0 qf6.out,kq0 qf7.out,Gd.yes (zas (HKp.lt (by rw [hsz]; decide)) _),Gd.no,kq qf9.out id,fun _ => rfl,fun _ => rfl,fun _ => rfl,fun _ => rfl,fun _ => rfl,fun _ => rfl,fun _ => rfl,qd10_7,qd10_9,Gd.no,Gd.no⟩
     ·obtain rfl : fl9 = false:=zaf hi
      obtain rfl : fl10 = false:=Gd.off qd10_9.out
      obtain rfl : fl11 = false:=Gd.off qd11_10.out
      refine wog hO (fun K' hK => ?_)
      go_simp
      have hb:=zaV w' (.cells #[.slice none 0 0,.int .i64 0] 28)
      exact hK.out _ _ ⟨zaa hBi.out hb,fl3,fl4,fl5,fl6,fl7,fl8,true,false,false,A12,c12,w'.heap.size,by rfl,HKp.put (by decide) _,zaa hBi.out hb,kq0 qf3.out,kq qf5.out fun h => zat.keep (h) hb,kq0 qf4.out,kq0 qf6.out,kq0 qf7.out,kq0 qf8.out,Gd.no,Gd.yes ⟨zas (HKp.lt (by rw [hsz]; decide)) _,hBi.out.size,Blk.new w' _ _⟩,qd4_3,qd5_3,qd5_4,qd6_5,qd7_6,qd8_6,Gd.no,Gd.no,Gd.no,Gd.no,Gd.no⟩
     ·obtain rfl : fl10 = false:=zaf hi
      obtain rfl : fl3 = true:=rdp 3 6 hi hO
      obtain rfl : fl4 = true:=rdp 4 7 hi hO
      obtain rfl : fl5 = true:=rdp 5 2 hi hO
      obtain rfl : fl6 = true:=rdp 6 9 hi hO
      obtain rfl : fl7 = true:=rdp 7 1 hi hO
      obtain rfl : fl9 = true:=rdp 9 0 hi hO
      obtain rfl : fl11 = false:=Gd.off qd11_10.out
      have rd7:=qf9.out.get.1
      have rd37:=qf7.out.get
      obtain ⟨_,hg,hk⟩:=qf9.out.get
      have hk : Blk w' ad9 28 #[.slice none 0 0,.int .i64 0]:=hk
      obtain ⟨sc0,sf0,sc1,sf1⟩:=st2 hk (.slice A12 N9 c12)
      have hj1:=sn2 hk (.slice A12 N9 c12) (.int .i64 (m0 : Int))
      have hBn:=bl2 (.slice A12 N9 c12) (.int .i64 (m0 : Int)) hg hBi.out
      refine wog hO (fun K' hK => ?_)
      go_simp
      exact hK.out _ _ ⟨hBn,true,true,true,true,true,fl8,true,true,false,A12,c12,ad9,by rfl,HKp,hBn,qf3.out.mono fun h => h,qf5.out.mono fun h => ⟨h.1,zat.offz (h.2) hk _ _⟩,qf4.out.mono fun h => h,qf6.out.mono fun h => h,qf7.out.mono fun h => h,qf8.out.mono fun h => h,Gd.no,qf9.out.mono fun h => ⟨h.1,h.2.1,hj1⟩,fun _ => rfl,fun _ => rfl,fun _ => rfl,fun _ => rfl,fun _ => rfl,fun _ => rfl,fun _ => rfl,fun _ => rfl,fun _ => rfl,Gd.no,Gd.no⟩
     ·obtain rfl : fl11 = false:=zaf hi
      obtain rfl : fl3 = true:=rdp 3 5 hi hO
      obtain rfl : fl4 = true:=rdp 4 6 hi hO
      obtain rfl : fl5 = true:=rdp 5 7 hi hO
      obtain rfl : fl6 = true:=rdp 6 8 hi hO
      obtain rfl : fl7 = true:=rdp 7 9 hi hO
      obtain rfl : fl8 = true:=rdp 8 0 hi hO
      obtain rfl : fl9 = true:=rdp 9 11 hi hO
      obtain rfl : fl10 = true:=rdp 10 1 hi hO
      have rd38:=qf8.out.get
      refine wog hO (fun K' hK => ?_)
      refine zaX (x:=38) (Or.inr rfl) rd38 ?_
      exact hK.out _ _ ⟨hBi.out,true,true,true,true,true,true,true,true,true,A12,c12,ad9,by rfl,HKp.put (by decide) _,hBi.out,kq0 qf3.out,kq qf5.out fun h => (h),kq0 qf4.out,kq0 qf6.out,kq0 qf7.out,kq0 qf8.out,Gd.yes (zas (HKp.lt (by rw [hsz]; decide)) _),kq qf9.out id,fun _ => rfl,fun _ => rfl,fun _ => rfl,fun _ => rfl,fun _ => rfl,fun _ => rfl,fun _ => rfl,fun _ => rfl,fun _ => rfl,fun _ => rfl,fun _ => rfl⟩
   rintro a wm14 ⟨fl3,fl4,fl5,fl6,fl7,fl8,fl9,fl10,fl11,A12,c12,ad9,hl,HKp,hBi,qf3,qf5,qf4,qf6,qf7,qf8,qf11,qf9,qd4_3,qd5_3,qd5_4,qd6_5,qd7_6,qd8_6,qd10_5,qd10_7,qd10_9,qd11_8,qd11_10⟩
   have xx3 : fl3 = true:=gdl 3 hl
   subst xx3
   have xx4 : fl4 = true:=gdl 4 hl
   subst xx4
   have xx5 : fl5 = true:=gdl 5 hl
   subst xx5
   have xx6 : fl6 = true:=gdl 6 hl
   subst xx6
   have xx7 : fl7 = true:=gdl 7 hl
   subst xx7
   have xx8 : fl8 = true:=gdl 8 hl
   subst xx8
   have xx9 : fl9 = true:=gdl 9 hl
   subst xx9
   have xx10 : fl10 = true:=gdl 10 hl
   subst xx10
   have xx11 : fl11 = true:=gdl 11 hl
   subst xx11
   have rv3:=qf3.out.get
   obtain ⟨rv5,hw5_0⟩:=qf5.out.get
   have rv4:=qf4.out.get
   have rv6:=qf6.out.get
   have rv7:=qf7.out.get
   have rv8:=qf8.out.get
   have rv11:=qf11.out.get
   obtain ⟨rv9,hg9,hk9⟩:=qf9.out.get
   obtain rfl:=HKp.eq [(34,.int .i64 (m0 : Int)),(35,.slice A9 m0 c9),(36,.tuple #[.agg #[.slice A12 N9 c12,.int .i64 (m0 : Int)],.bool true]),(30,.tuple #[.agg #[.slice A12 N9 c12,.int .i64 (m0 : Int)],.bool true]),(37,.agg #[.slice A12 N9 c12,.int .i64 (m0 : Int)]),(38,.bool true),(7,.pointer (some ⟨ad9,0,none⟩)),(8,.bool true)] rfl (by
    intro p hp
    simp only [List.mem_cons,List.not_mem_nil,or_false] at hp
    rcases hp with rfl | rfl | rfl | rfl | rfl | rfl | rfl | rfl
    ·exact rv3
    ·exact rv4
    ·exact rv5
    ·exact rv6
    ·exact rv7
    ·exact rv8
    ·exact rv9
    ·exact rv11)
   have hBv:=hBi.out
   clear hl hBi HKp qf3 qf5 qf4 qf6 qf7 qf8 qf11 qf9 qd4_3 qd5_3 qd5_4 qd6_5 qd7_6 qd8_6 qd10_5 qd10_7 qd10_9 qd11_8 qd11_10 rv3 rv4 rv5 rv6 rv7 rv8 rv9 rv11
   have hk9 : Blk wm14 ad9 28 #[.slice A12 N9 c12,.int .i64 (m0 : Int)]:=hk9
   rw [show due #[true,true,true,true,true,true,true,true,true,true,true,true] = 0 from rfl]
   simp only [zbL,List.foldl,Act.put,List.setIfInBounds_toArray,List.set_cons_zero,List.set_cons_succ]
   refine wpAnyH_done (by kernel_rfl) ?_ _
   refine NoPanic.normal ?_
   have HB:=lh9 (zaa HB.out hBv)
   have HM5:=lh9 (HM5.out.keep hBv)
   have HK7:=lh9 (zac hBv HK7.out)
   have HV9:=lh9 (HV9.out.keep hBv)
   have HM12:=lh9 (hw5_0)
   obtain ⟨adx15,hga⟩ : ∃ x,x = ad9:=⟨_,rfl⟩
   subst hga
   have HK15:=lh9 (hk9)
   clear hBv GG hk9 hg9 hw5_0
   go_wp2_with fail
   have HS16 : Hid (zau (1) ((X0 ++ [V9]).eraseIdx N0)):=fun L hL => HS12.out L (List.mem_of_mem_eraseIdx hL)
   obtain ⟨p17_0,p17_1⟩:=HK15.out.c2
   obtain ⟨p18_0,p18_1⟩:=HK7.out.c2
   have GG:=lh9 (fun w' (h : Below wm14.heap.size wm14 w') => (csc (zab h p17_0) (csc (zab h p17_1) (csc (zab h p18_0) (csc (zab h p18_1) csn)))))
   refine rgB (fun hHeld => ?_)
   clear p17_0 p17_1 p18_0 p18_1
   refine tl 0 GG.out ?_
   refine tl 1 GG.out ?_
   refine zaT (L:=#[true,true,true,true,true,true,true,true,true,true])
    (J:=fun a0 l a w' => ∃ (fl2 fl3 fl4 fl5 fl6 fl7 fl8 fl9 : Bool) (A16 : oA9) (c16 ad7 : Nat),l = #[true,true,fl2,fl3,fl4,fl5,fl6,fl7,fl8,fl9] ∧ zbS [42,43,39,44,45,9,10] a0 a ∧ Hid (Below wm14.heap.size wm14 w') ∧
      Hid (Gd fl2 (a.tmps.getD 42 undef = .int .i64 (N0 : Int))) ∧
      Hid (Gd fl3 (a.tmps.getD 43 undef = .tuple #[.agg #[.slice A16 N0 c16,.int .i64 (m0 : Int)],.bool true] ∧ zat w' A16 N0 c16 m0 ((X0 ++ [V9]).eraseIdx N0))) ∧
      Hid (Gd fl4 (a.tmps.getD 39 undef = .tuple #[.agg #[.slice A16 N0 c16,.int .i64 (m0 : Int)],.bool true])) ∧
      Hid (Gd fl5 (a.tmps.getD 44 undef = .agg #[.slice A16 N0 c16,.int .i64 (m0 : Int)])) ∧
      Hid (Gd fl6 (a.tmps.getD 45 undef = .bool true)) ∧
      Hid (Gd fl9 (a.tmps.getD 10 undef = .bool true)) ∧
      Hid (Gd fl7 (a.tmps.getD 9 undef = .pointer (some ⟨ad7,0,none⟩) ∧ wm14.heap.size ≤ ad7 ∧ Blk w' ad7 28 (bif fl8 then #[.slice A16 N0 c16,.int .i64 (m0 : Int)] else #[.slice none 0 0,.int .i64 0]))) ∧
      Hid (Gd fl3 (fl2 = true)) ∧
      Hid (Gd fl4 (fl3 = true)) ∧
      Hid (Gd fl5 (fl4 = true)) ∧
      Hid (Gd fl6 (fl4 = true)) ∧
      Hid (Gd fl8 (fl3 = true)) ∧
      Hid (Gd fl8 (fl5 = true)) ∧
      Hid (Gd fl8 (fl7 = true)) ∧
      Hid (Gd fl9 (fl6 = true)) ∧
      Hid (Gd fl9 (fl8 = true)))
    (by rfl) ?_ ?_ ?_
   ·exact ⟨false,false,false,false,false,false,false,false,none,0,0,by kernel_rfl,zbS.refl _ _,hHeld,Gd.no,Gd.no,Gd.no,Gd.no,Gd.no,Gd.no,Gd.no,Gd.no,Gd.no,Gd.no,Gd.no,Gd.no,Gd.no,Gd.no,Gd.no,Gd.no⟩
   ·intro OPS Ac0 Q0 hO hAs hA
    have RB40 : Ac0.tmps.getD 40 undef = .agg #[.slice A12 N9 c12,.int .i64 (m0 : Int)]:=(hA 40 undef).trans (by kernel_rfl)
    have RB41 : Ac0.tmps.getD 41 undef = .agg #[.slice A5 N0 c5,.int .i64 (m0 : Int)]:=(hA 41 undef).trans (by kernel_rfl)
    have hsz : Ac0.tmps.size = 93:=hAs.trans (by kernel_rfl)
    clear hAs hA
    refine ⟨?_,?_⟩
    ·rintro l a w' ⟨fl2,fl3,fl4,fl5,fl6,fl7,fl8,fl9,A16,c16,ad7,rfl,-⟩ hr
     obtain rfl : fl2 = true:=als 2 hr hO
     obtain rfl : fl3 = true:=als 3 hr hO
     obtain rfl : fl4 = true:=als 4 hr hO
     obtain rfl : fl5 = true:=als 5 hr hO
     obtain rfl : fl6 = true:=als 6 hr hO
     obtain rfl : fl7 = true:=als 7 hr hO
     obtain rfl : fl8 = true:=als 8 hr hO
     obtain rfl : fl9 = true:=als 9 hr hO
     rfl
    ·rintro l a w' i ⟨fl2,fl3,fl4,fl5,fl6,fl7,fl8,fl9,A16,c16,ad7,rfl,HKp,hBi,qf2,qf3,qf4,qf5,qf6,qf9,qf7,qd3_2,qd4_3,qd5_4,qd6_4,qd8_3,qd8_5,qd8_7,qd9_6,qd9_8⟩ hne hi
     have hlt : i < 10:=by have:=zbH hi; rw [hO] at this; exact this
     rcases (show i = 0 ∨ i = 1 ∨ i = 2 ∨ i = 3 ∨ i = 4 ∨ i = 5 ∨ i = 6 ∨ i = 7 ∨ i = 8 ∨ i = 9 by omega) with rfl | rfl | rfl | rfl | rfl | rfl | rfl | rfl | rfl | rfl
     ·cases (zaf hi : true = false)
     ·cases (zaf hi : true = false)
     ·obtain rfl : fl2 = false:=zaf hi
      obtain rfl : fl3 = false:=Gd.off qd3_2.out
      obtain rfl : fl4 = false:=Gd.off qd4_3.out
      obtain rfl : fl5 = false:=Gd.off qd5_4.out
      obtain rfl : fl6 = false:=Gd.off qd6_4.out
      obtain rfl : fl8 = false:=Gd.off qd8_3.out
      obtain rfl : fl9 = false:=Gd.off qd9_6.out
      have rd41:=HKp.get 41 (by decide) RB41
      have HBn:=lh9 (zaa HB.out hBi.out)
      refine wog hO (fun K' hK => ?_)
      go_simp
      (with_reducible refine (zaW A5 N0 c5 (m0 : Int) _).mono ?_)
      rintro e w2 ⟨rfl,hb⟩
      exact hK.out _ _ ⟨zaa hBi.out hb,true,false,false,false,false,fl7,false,false,A16,c16,ad7,by rfl,HKp.put (by decide) _,zaa hBi.out hb,Gd.yes (zas (HKp.lt (by rw [hsz]; decide)) _),Gd.no,Gd.no,Gd.no,Gd.no,Gd.no,kq qf7.out fun h => ⟨h.1,zac hb h.2⟩,Gd.no,Gd.no,Gd.no,Gd.no,Gd.no,Gd.no,Gd.no,Gd.no,Gd.no⟩
     ·obtain rfl : fl3 = false:=zaf hi
      obtain rfl : fl2 = true:=rdp 2 1 hi hO
      obtain rfl : fl4 = false:=Gd.off qd4_3.out
      obtain rfl : fl5 = false:=Gd.off qd5_4.out
      obtain rfl : fl6 = false:=Gd.off qd6_4.out
      obtain rfl : fl8 = false:=Gd.off qd8_3.out
      obtain rfl : fl9 = false:=Gd.off qd9_6.out
      have rd40:=HKp.get 40 (by decide) RB40
      have rd42:=qf2.out.get
      have HBn:=lh9 (zaa HB.out hBi.out)
      have HM12n:=lh9 (HM12.out.keep hBi.out)
      refine wog hO (fun K' hK => ?_)
      go_simp
      (with_reducible refine (zne HN9.out (HT.out _ HBn.out) HM12n.out HS12.out (by have:=HN9.out; omega)).mono ?_)
      rintro e w2 ⟨nA16,nc16,rfl,nhm16,-,hb⟩
      exact hK.out _ _ ⟨zaa hBi.out hb,true,true,false,false,false,fl7,false,false,nA16,nc16,ad7,by rfl,HKp.put (by decide) _,zaa hBi.out hb,kq0 qf2.out,Gd.yes ⟨zas (HKp.lt (by rw [hsz]; decide)) _,nhm16⟩,Gd.no,Gd.no,Gd.no,Gd.no,kq qf7.out fun h => ⟨h.1,zac hb h.2⟩,fun _ => rfl,Gd.no,Gd.no,Gd.no,Gd.no,Gd.no,Gd.no,Gd.no,Gd.no⟩
     ·obtain rfl : fl4 = false:=zaf hi
      obtain rfl : fl3 = true:=rdp 3 0 hi hO
      obtain rfl : fl2 = true:=qd3_2.out.get
      obtain rfl : fl5 = false:=Gd.off qd5_4.out
      obtain rfl : fl6 = false:=Gd.off qd6_4.out
      obtain rfl : fl8 = false:=Gd.off qd8_5.out
      obtain rfl : fl9 = false:=Gd.off qd9_6.out
      have rd43:=qf3.out.get.1
      refine wog hO (fun K' hK => ?_)
      refine zaX (x:=43) (Or.inl rfl) rd43 ?_
      exact hK.out _ _ ⟨hBi.out,true,true,true,false,false,fl7,false,false,A16,c16,ad7,by rfl,HKp.put (by decide) _,hBi.out,kq0 qf2.out,kq qf3.out fun h => (h),Gd.yes (zas (HKp.lt (by rw [hsz]; decide)) _),Gd.no,Gd.no,Gd.no,kq qf7.out id,fun _ => rfl,fun _ => rfl,Gd.no,Gd.no,Gd.no,Gd.no,Gd.no,Gd.no,Gd.no⟩
     ·obtain rfl : fl5 = false:=zaf hi
      obtain rfl : fl4 = true:=rdp 4 0 hi hO
      obtain rfl : fl3 = true:=qd4_3.out.get
      obtain rfl : fl2 = true:=qd3_2.out.get
      obtain rfl : fl8 = false:=Gd.off qd8_5.out
      obtain rfl : fl9 = false:=Gd.off qd9_8.out
      have rd39:=qf4.out.get
      refine wog hO (fun K' hK => ?_)
      refine zaB (x:=39) (k:=0) rfl rd39 rfl ?_
      exact hK.out _ _ ⟨hBi.out,true,true,true,true,fl6,fl7,false,false,A16,c16,ad7,by rfl,HKp.put (by decide) _,hBi.out,kq0 qf2.out,kq qf3.out fun h => (h),kq0 qf4.out,Gd.yes (zas (HKp.lt (by rw [hsz]; decide)) _),kq0 qf6.out,Gd.no,kq qf7.out id,fun _ => rfl,fun _ => rfl,fun _ => rfl,fun _ => rfl,Gd.no,Gd.no,Gd.no,Gd.no,Gd.no⟩
     ·obtain rfl : fl6 = false:=zaf hi
      obtain rfl : fl4 = true:=rdp 4 0 hi hO
      obtain rfl : fl3 = true:=qd4_3.out.get
      obtain rfl : fl2 = true:=qd3_2.out.get
      obtain rfl : fl9 = false:=Gd.off qd9_6.out
      have rd39:=qf4.out.get
      refine wog hO (fun K' hK => ?_)
      refine zaB (x:=39) (k:=1) rfl rd39 rfl ?_
      exact hK.out _ _ ⟨hBi.out,true,true,true,fl5,true,fl7,fl8,false,A16,c16,ad7,by rfl,HKp.put (by decide) _,hBi.out,kq0 qf2.out,kq qf3.out fun h => (h),kq0 qf4.out,kq0 qf5.out,Gd.yes (zas (HKp.lt (by rw [hsz]; decide)) _),Gd.no,kq qf7.out id,fun _ => rfl,fun _ => rfl,fun _ => rfl,fun _ => rfl,fun _ => rfl,qd8_5,qd8_7,Gd.no,Gd.no⟩
     ·obtain rfl : fl7 = false:=zaf hi
      obtain rfl : fl8 = false:=Gd.off qd8_7.out
      obtain rfl : fl9 = false:=Gd.off qd9_8.out
      refine wog hO (fun K' hK => ?_)
      go_simp
      have hb:=zaV w' (.cells #[.slice none 0 0,.int .i64 0] 28)
      exact hK.out _ _ ⟨zaa hBi.out hb,fl2,fl3,fl4,fl5,fl6,true,false,false,A16,c16,w'.heap.size,by rfl,HKp.put (by decide) _,zaa hBi.out hb,kq0 qf2.out,kq qf3.out fun h => zat.keep (h) hb,kq0 qf4.out,kq0 qf5.out,kq0 qf6.out,Gd.no,Gd.yes ⟨zas (HKp.lt (by rw [hsz]; decide)) _,hBi.out.size,Blk.new w' _ _⟩,qd3_2,qd4_3,qd5_4,qd6_4,Gd.no,Gd.no,Gd.no,Gd.no,Gd.no⟩
     ·obtain rfl : fl8 = false:=zaf hi
      obtain rfl : fl2 = true:=rdp 2 5 hi hO
      obtain rfl : fl3 = true:=rdp 3 2 hi hO
      obtain rfl : fl4 = true:=rdp 4 7 hi hO
      obtain rfl : fl5 = true:=rdp 5 1 hi hO
      obtain rfl : fl7 = true:=rdp 7 0 hi hO
      obtain rfl : fl9 = false:=Gd.off qd9_8.out
      have rd9:=qf7.out.get.1
      have rd44:=qf5.out.get
      obtain ⟨_,hg,hk⟩:=qf7.out.get
      have hk : Blk w' ad7 28 #[.slice none 0 0,.int .i64 0]:=hk
      obtain ⟨sc0,sf0,sc1,sf1⟩:=st2 hk (.slice A16 N0 c16)
      have hj1:=sn2 hk (.slice A16 N0 c16) (.int .i64 (m0 : Int))
      have hBn:=bl2 (.slice A16 N0 c16) (.int .i64 (m0 : Int)) hg hBi.out
      refine wog hO (fun K' hK => ?_)
      go_simp
      exact hK.out _ _ ⟨hBn,true,true,true,true,fl6,true,true,false,A16,c16,ad7,by rfl,HKp,hBn,qf2.out.mono fun h => h,qf3.out.mono fun h => ⟨h.1,zat.offz (h.2) hk _ _⟩,qf4.out.mono fun h => h,qf5.out.mono fun h => h,qf6.out.mono fun h => h,Gd.no,qf7.out.mono fun h => ⟨h.1,h.2.1,hj1⟩,fun _ => rfl,fun _ => rfl,fun _ => rfl,fun _ => rfl,fun _ => rfl,fun _ => rfl,fun _ => rfl,Gd.no,Gd.no⟩
     ·obtain rfl : fl9 = false:=zaf hi
      obtain rfl : fl2 = true:=rdp 2 4 hi hO
      obtain rfl : fl3 = true:=rdp 3 5 hi hO
      obtain rfl : fl4 = true:=rdp 4 6 hi hO
      obtain rfl : fl5 = true:=rdp 5 7 hi hO
      obtain rfl : fl6 = true:=rdp 6 0 hi hO
      obtain rfl : fl7 = true:=rdp 7 9 hi hO
      obtain rfl : fl8 = true:=rdp 8 1 hi hO
      have rd45:=qf6.out.get
      refine wog hO (fun K' hK => ?_)
      refine zaX (x:=45) (Or.inr rfl) rd45 ?_
      exact hK.out _ _ ⟨hBi.out,true,true,true,true,true,true,true,true,A16,c16,ad7,by rfl,HKp.put (by decide) _,hBi.out,kq0 qf2.out,kq qf3.out fun h => (h),kq0 qf4.out,kq0 qf5.out,kq0 qf6.out,Gd.yes (zas (HKp.lt (by rw [hsz]; decide)) _),kq qf7.out id,fun _ => rfl,fun _ => rfl,fun _ => rfl,fun _ => rfl,fun _ => rfl,fun _ => rfl,fun _ => rfl,fun _ => rfl,fun _ => rfl⟩
   rintro a wm19 ⟨fl2,fl3,fl4,fl5,fl6,fl7,fl8,fl9,A16,c16,ad7,hl,HKp,hBi,qf2,qf3,qf4,qf5,qf6,qf9,qf7,qd3_2,qd4_3,qd5_4,qd6_4,qd8_3,qd8_5,qd8_7,qd9_6,qd9_8⟩
   have xx2 : fl2 = true:=gdl 2 hl
   subst xx2
   have xx3 : fl3 = true:=gdl 3 hl
   subst xx3
   have xx4 : fl4 = true:=gdl 4 hl
   subst xx4
   have xx5 : fl5 = true:=gdl 5 hl
   subst xx5
   have xx6 : fl6 = true:=gdl 6 hl
   subst xx6
   have xx7 : fl7 = true:=gdl 7 hl
   subst xx7
   have xx8 : fl8 = true:=gdl 8 hl
   subst xx8
   have xx9 : fl9 = true:=gdl 9 hl
   subst xx9
   have rv2:=qf2.out.get
   obtain ⟨rv3,hw3_0⟩:=qf3.out.get
   have rv4:=qf4.out.get
   have rv5:=qf5.out.get
   have rv6:=qf6.out.get
   have rv9:=qf9.out.get
   obtain ⟨rv7,hg7,hk7⟩:=qf7.out.get
   obtain rfl:=HKp.eq [(42,.int .i64 (N0 : Int)),(43,.tuple #[.agg #[.slice A16 N0 c16,.int .i64 (m0 : Int)],.bool true]),(39,.tuple #[.agg #[.slice A16 N0 c16,.int .i64 (m0 : Int)],.bool true]),(44,.agg #[.slice A16 N0 c16,.int .i64 (m0 : Int)]),(45,.bool true),(9,.pointer (some ⟨ad7,0,none⟩)),(10,.bool true)] rfl (by
    intro p hp
    simp only [List.mem_cons,List.not_mem_nil,or_false] at hp
    rcases hp with rfl | rfl | rfl | rfl | rfl | rfl | rfl
    ·exact rv2
    ·exact rv3
    ·exact rv4
    ·exact rv5
    ·exact rv6
    ·exact rv7
    ·exact rv9)
   have hBv:=hBi.out
   clear hl hBi HKp qf2 qf3 qf4 qf5 qf6 qf9 qf7 qd3_2 qd4_3 qd5_4 qd6_4 qd8_3 qd8_5 qd8_7 qd9_6 qd9_8 rv2 rv3 rv4 rv5 rv6 rv7 rv9
   have hk7 : Blk wm19 ad7 28 #[.slice A16 N0 c16,.int .i64 (m0 : Int)]:=hk7
   rw [show due #[true,true,true,true,true,true,true,true,true,true] = 0 from rfl]
   simp only [zbL,List.foldl,Act.put,List.setIfInBounds_toArray,List.set_cons_zero,List.set_cons_succ]
   refine wpAnyH_done (by kernel_rfl) ?_ _
   refine NoPanic.normal ?_
   have HB:=lh9 (zaa HB.out hBv)
   have HM5:=lh9 (HM5.out.keep hBv)
   have HK7:=lh9 (zac hBv HK7.out)
   have HV9:=lh9 (HV9.out.keep hBv)
   have HM12:=lh9 (HM12.out.keep hBv)
   have HK15:=lh9 (zac hBv HK15.out)
   have HM16:=lh9 (hw3_0)
   obtain ⟨adx20,hga⟩ : ∃ x,x = ad7:=⟨_,rfl⟩
   subst hga
   have HK20:=lh9 (hk7)
   clear hBv GG hk7 hg7 hw3_0
   clear HM12 HK15 HV9
   go_wp2_with fail
   clear HV9 HON HWR HLN HL9 hc9 hlt hlt2 hd1 hd1' i8 i9 hg hkK
   have HEB : Hid ((X0 ++ [V9]).eraseIdx N0 = X0):=zlt HDX0.out.rows
   obtain ⟨XB,hXB⟩ : ∃ X,(X0 ++ [V9]).eraseIdx N0 = X:=⟨_,rfl⟩
   rw [hXB] at HM16 HS16 HEB
   clear hXB
   (with_reducible refine (zek (HT.out _ HB.out) (HA1.out _ HB.out)).mono ?_)
   rintro e XL1 ⟨v1,vs1,rfl,hon,hWL⟩
   obtain ⟨K1,hK1⟩ : ∃ K,N0 - n1 = K:=⟨_,rfl⟩
   have HKL1:=lh9 hK1
   clear hK1
   rw [HY1.out,← ziw Y1] at hon
   go_wp2_with fail
   go_loopg [6] (K1 + 1) (fun g sl wr => ∃ (k : Nat) (v : Value) (vs : List Value),k ≤ K1 ∧ K1 < g + k ∧ v = sl ∧ zcL zai wr wm19.heap.size 48 v (zeI Y1 k) vs ∧ Below wm19.heap.size wm19 wr)
   case atStart => exact ⟨0,_,_,Nat.zero_le _,by omega,rfl,hon,hWL⟩
   case round =>
    clear hon hWL
    obtain ⟨k,v9,vs,hkK,hg,rfl,hon,hWr⟩:=hrel
    obtain ⟨A9,c9,rfl,hv9,-⟩:=hon.shape
    have hl9 : (zeI Y1 k).length = n1 + k:=by rw [zkj,HL1.out]
    obtain ⟨ln,hln⟩ : ∃ l,n1 + k = l:=⟨_,rfl⟩
    rw [hln] at hl9
    rw [hl9] at hon hv9 ⊢
    have HLN:=lh9 hln
    have HL9:=lh9 hl9
    have HWR:=lh9 hWr
    have HB:=lh9 (zaa HB.out hWr)
    have HM5:=lh9 (HM5.out.keep hWr)
    have HK7:=lh9 (zac hWr HK7.out)
    have HM16:=lh9 (HM16.out.keep hWr)
    have HK20:=lh9 (zac hWr HK20.out)
    have HV9:=lh9 hv9
    have HON:=lh9 hon
    have hc9:=hv9.fits
    clear hv9 hon hln hl9 hWr
    by_cases hlt : k < K1
    ·have hlt2 : ln < N0:=by have h1:=HLN.out; have h2:=HKL1.out; omega
     have hd1 : decide ((ln : Int) < (N0 : Int)) = true:=decide_eq_true (by omega)
     have hd1' : decide (ln < N0) = true:=decide_eq_true hlt2
     obtain ⟨p21_0,p21_1⟩:=HK7.out.c2
     go_wp2_with fail
     clear p21_0 p21_1
     (with_reducible refine (zaW A5 N0 c5 (m0 : Int) _).mono ?_)
     rintro e w4 ⟨rfl,hb⟩
     have HON:=lh9 (HON.out.below zal hb)
     have HWR:=lh9 (zaa HWR.out hb)
     have HB:=lh9 (zaa HB.out hb)
     clear hb
     go_wp2_with fail
     (with_reducible refine (zfJ 1 _ (HT.out _ HB.out) (by decide) (by decide)).mono ?_)
     rintro e w5 ⟨b5,B5,m5,d5,E5,u5,f5,rfl,hx5,hb⟩
     obtain ⟨t1,t2,-⟩:=zaC w5 48 #[.bool b5,.slice B5 m5 d5,.slice E5 u5 f5]
     have hup:=zaa hb t1
     have HON6:=lh9 (HON.out.below zal hup)
     have HX : Hid (zai (w5.alloc (.cells #[.bool b5,.slice B5 m5 d5,.slice E5 u5 f5] 48)) (1 : Rat) b5 B5 m5 d5 E5 u5 f5):=hx5.below t1
     have HWR6:=lh9 (zaa HWR.out hup)
     have HBS6:=lh9 HWR6.out.size
     have hown:=HON6.out.own
     rw [HL9.out] at hown
     have HOWN:=lh9 hown
     have HNOU:=lh9 HON6.out.nou
     have HCELL:=lh9 (zhf t2)
     have HOB:=lh9 (fun r (h : (Value.slice A9 ln c9).ownBlock = some r) => HON6.out.own.lt r h)
     clear hb hup hx5 t1 t2 hown HON HWR hc9
     go_wp2_with (at_builtin; go_loud (refine zbO _ rfl (.tmp 53) (.tmp 55) 51 rfl wm19.heap.size 48 ix1 (.agg #[.bool false,.slice none 0 0,.slice none 0 0]) 3 56 Tryz.underlying51 hix1 hzx10 hzx11 hzx12 rfl (by decide) (.slice A9 ln c9) ln vs rfl HOWN.out ⟨w5.heap.size,0,none⟩ 1 1 [.bool b5,.slice B5 m5 d5,.slice E5 u5 f5] rfl rfl HCELL.out (zjZ _ _ _ _ _ _ _) (by unfold maxLen; omega) (by omega) HBS6.out HNOU.out ziJ (zjY _ _ _ _ _ _ _) ?_; intro v' w8 hown' hgrow hat hnou'))
     have hon8:=zcL.grow (n:=ln + 1) zal HON6.out HX.out hown' (by rw [HL9.out]) hgrow hnou'
     rw [← ziv] at hon8
     have HON8:=lh9 hon8
     have HWR8:=lh9 (HWR6.out.grown hgrow HBS6.out (fun r hr => (HOB.out r hr).1))
     clear hon8 hown' hgrow hat hnou' HON6 HX HOWN HNOU HCELL HOB HBS6 HWR6
     go_wp2
     go_roundg (K1 - k)
     case measure => omega
     case rel => exact ⟨k + 1,_,_,by omega,by omega,rfl,HON8.out,HWR8.out⟩
    ·have hlt2 : N0 ≤ ln:=by have h1:=HLN.out; have h2:=HKL1.out; omega
     have hd1 : decide ((ln : Int) < (N0 : Int)) = false:=decide_eq_false (by omega)
     have hd1' : decide (ln < N0) = false:=decide_eq_false (by omega)
     have HSV21 : Hid (zav 1 ((zeI Y1 k).take N0)):=fun x hx => zms HSA1.out k x (List.mem_of_mem_take hx)
     obtain ⟨V21,hV21⟩ : ∃ V,(zeI Y1 k).take N0 = V:=⟨_,rfl⟩
     have HV21:=lh9 (hV21 ▸ zaD.take11 HV9.out hlt2)
     rw [hV21] at HSV21
     clear hV21
     obtain ⟨p22_0,p22_1⟩:=HK7.out.c2
     go_wp2_with fail
     clear p22_0 p22_1
     (with_reducible refine (zaW A5 N0 c5 (m0 : Int) _).mono ?_)
     rintro e X23 ⟨rfl,hb⟩
     have HB:=lh9 (zaa HB.out hb)
     have HM5:=lh9 (HM5.out.keep hb)
     have HK7:=lh9 (zac hb HK7.out)
     have HM16:=lh9 (HM16.out.keep hb)
     have HK20:=lh9 (zac hb HK20.out)
     have HV21:=lh9 (HV21.out.keep hb)
     clear hb 
     go_wp2_with fail
     obtain ⟨M9,hM9⟩ : ∃ N,m0 + 1 = N:=⟨_,rfl⟩
     have HM9:=lh9 hM9
     have hM9b : M9 ≤ 7:=by omega
     clear hM9
     have i8 : (0 : Int) ≤ (N0 : Int):=by omega
     have i9 : (N0 : Int) ≤ (c9 : Int):=by omega
     have HVL : Hid (V21.length = N0):=HV21.out.len
     have HS24 : Hid (zau (1) (zbw N0 M9 fun a b => if b = m0 then V21.getD a 0 else atM X0 a b)):=zmG HS5.out HDX0.out HSV21.out HVL.out HM9.out
     obtain ⟨p25_0,p25_1⟩:=HK7.out.c2
     have GG:=lh9 (fun w' (h : Below X23.heap.size X23 w') => (csc (zab h p25_0) (csc (zab h p25_1) csn)))
     refine rgB (fun hHeld => ?_)
     clear p25_0 p25_1
     refine tl 0 GG.out ?_
     refine tl 1 GG.out ?_
     refine tl 2 GG.out ?_
     refine zaT (L:=#[true,true,true,true,true,true,true,true,true,true,true,true])
      (J:=fun a0 l a w' => ∃ (fl3 fl4 fl5 fl6 fl7 fl8 fl9 fl10 fl11 : Bool) (A24 : oA9) (c24 ad9 : Nat),l = #[true,true,true,fl3,fl4,fl5,fl6,fl7,fl8,fl9,fl10,fl11] ∧ zbS [61,62,63,57,64,65,11,12] a0 a ∧ Hid (Below X23.heap.size X23 w') ∧
        Hid (Gd fl3 (a.tmps.getD 61 undef = .int .i64 (N0 : Int))) ∧
        Hid (Gd fl5 (a.tmps.getD 63 undef = .tuple #[.agg #[.slice A24 N0 c24,.int .i64 (M9 : Int)],.bool true] ∧ zat w' A24 N0 c24 M9 (zbw N0 M9 fun a b => if b = m0 then V21.getD a 0 else atM X0 a b))) ∧
        Hid (Gd fl4 (a.tmps.getD 62 undef = .slice A9 N0 c9)) ∧
        Hid (Gd fl6 (a.tmps.getD 57 undef = .tuple #[.agg #[.slice A24 N0 c24,.int .i64 (M9 : Int)],.bool true])) ∧
        Hid (Gd fl7 (a.tmps.getD 64 undef = .agg #[.slice A24 N0 c24,.int .i64 (M9 : Int)])) ∧
        Hid (Gd fl8 (a.tmps.getD 65 undef = .bool true)) ∧
        Hid (Gd fl11 (a.tmps.getD 12 undef = .bool true)) ∧
        Hid (Gd fl9 (a.tmps.getD 11 undef = .pointer (some ⟨ad9,0,none⟩) ∧ X23.heap.size ≤ ad9 ∧ Blk w' ad9 28 (bif fl10 then #[.slice A24 N0 c24,.int .i64 (M9 : Int)] else #[.slice none 0 0,.int .i64 0]))) ∧
        Hid (Gd fl4 (fl3 = true)) ∧
        Hid (Gd fl5 (fl3 = true)) ∧
        Hid (Gd fl5 (fl4 = true)) ∧
        Hid (Gd fl6 (fl5 = true)) ∧
        Hid (Gd fl7 (fl6 = true)) ∧
        Hid (Gd fl8 (fl6 = true)) ∧
        Hid (Gd fl10 (fl5 = true)) ∧
        Hid (Gd fl10 (fl7 = true)) ∧
        Hid (Gd fl10 (fl9 = true)) ∧
        Hid (Gd fl11 (fl8 = true)) ∧
        Hid (Gd fl11 (fl10 = true)))
      (by rfl) ?_ ?_ ?_
     ·exact ⟨false,false,false,false,false,false,false,false,false,none,0,0,by kernel_rfl,zbS.refl _ _,hHeld,Gd.no,Gd.no,Gd.no,Gd.no,Gd.no,Gd.no,Gd.no,Gd.no,Gd.no,Gd.no,Gd.no,Gd.no,Gd.no,Gd.no,Gd.no,Gd.no,Gd.no,Gd.no,Gd.no⟩
     ·intro OPS Ac0 Q0 hO hAs hA
      have RB58 : Ac0.tmps.getD 58 undef = .agg #[.slice A5 N0 c5,.int .i64 (m0 : Int)]:=(hA 58 undef).trans (by kernel_rfl)
      have RB59 : Ac0.tmps.getD 59 undef = .slice A9 ln c9:=(hA 59 undef).trans (by kernel_rfl)
      have RB60 : Ac0.tmps.getD 60 undef = .agg #[.slice A5 N0 c5,.int .i64 (m0 : Int)]:=(hA 60 undef).trans (by kernel_rfl)
      have hsz : Ac0.tmps.size = 93:=hAs.trans (by kernel_rfl)
      clear hAs hA
      refine ⟨?_,?_⟩
      ·rintro l a w' ⟨fl3,fl4,fl5,fl6,fl7,fl8,fl9,fl10,fl11,A24,c24,ad9,rfl,-⟩ hr
       obtain rfl : fl3 = true:=als 3 hr hO
       obtain rfl : fl4 = true:=als 4 hr hO
       obtain rfl : fl5 = true:=als 5 hr hO
       obtain rfl : fl6 = true:=als 6 hr hO
       obtain rfl : fl7 = true:=als 7 hr hO
       obtain rfl : fl8 = true:=als 8 hr hO
       obtain rfl : fl9 = true:=als 9 hr hO
       obtain rfl : fl10 = true:=als 10 hr hO
       obtain rfl : fl11 = true:=als 11 hr hO
       rfl
      ·rintro l a w' i ⟨fl3,fl4,fl5,fl6,fl7,fl8,fl9,fl10,fl11,A24,c24,ad9,rfl,HKp,hBi,qf3,qf5,qf4,qf6,qf7,qf8,qf11,qf9,qd4_3,qd5_3,qd5_4,qd6_5,qd7_6,qd8_6,qd10_5,qd10_7,qd10_9,qd11_8,qd11_10⟩ hne hi
       have hlt : i < 12:=by have:=zbH hi; rw [hO] at this; exact this
       rcases (show i = 0 ∨ i = 1 ∨ i = 2 ∨ i = 3 ∨ i = 4 ∨ i = 5 ∨ i = 6 ∨ i = 7 ∨ i = 8 ∨ i = 9 ∨ i = 10 ∨ i = 11 by omega) with rfl | rfl | rfl | rfl | rfl | rfl | rfl | rfl | rfl | rfl | rfl | rfl
       ·cases (zaf hi : true = false)
       ·cases (zaf hi : true = false)
       ·cases (zaf hi : true = false)
       ·obtain rfl : fl3 = false:=zaf hi
        obtain rfl : fl4 = false:=Gd.off qd4_3.out
        obtain rfl : fl5 = false:=Gd.off qd5_3.out
        obtain rfl : fl6 = false:=Gd.off qd6_5.out
        obtain rfl : fl7 = false:=Gd.off qd7_6.out
        obtain rfl : fl8 = false:=Gd.off qd8_6.out
        obtain rfl : fl10 = false:=Gd.off qd10_5.out
        obtain rfl : fl11 = false:=Gd.off qd11_8.out
        have rd60:=HKp.get 60 (by decide) RB60
        have HBn:=lh9 (zaa HB.out hBi.out)
        refine wog hO (fun K' hK => ?_)
        go_simp
        (with_reducible refine (zaW A5 N0 c5 (m0 : Int) _).mono ?_)
        rintro e w2 ⟨rfl,hb⟩
        exact hK.out _ _ ⟨zaa hBi.out hb,true,false,false,false,false,false,fl9,false,false,A24,c24,ad9,by rfl,HKp.put (by decide) _,zaa hBi.out hb,Gd.yes (zas (HKp.lt (by rw [hsz]; decide)) _),Gd.no,Gd.no,Gd.no,Gd.no,Gd.no,Gd.no,kq qf9.out fun h => ⟨h.1,zac hb h.2⟩,Gd.no,Gd.no,Gd.no,Gd.no,Gd.no,Gd.no,Gd.no,Gd.no,Gd.no,Gd.no,Gd.no⟩
       ·obtain rfl : fl4 = false:=zaf hi
        obtain rfl : fl3 = true:=rdp 3 1 hi hO
        obtain rfl : fl5 = false:=Gd.off qd5_4.out
        obtain rfl : fl6 = false:=Gd.off qd6_5.out
        obtain rfl : fl7 = false:=Gd.off qd7_6.out
        obtain rfl : fl8 = false:=Gd.off qd8_6.out
        obtain rfl : fl10 = false:=Gd.off qd10_5.out
        obtain rfl : fl11 = false:=Gd.off qd11_8.out
        have rd59:=HKp.get 59 (by decide) RB59
        have rd61:=qf3.out.get
        refine wog hO (fun K' hK => ?_)
        go_simp
        exact hK.out _ _ ⟨hBi.out,true,true,false,false,false,false,fl9,false,false,A24,c24,ad9,by rfl,HKp.put (by decide) _,hBi.out,kq0 qf3.out,Gd.no,Gd.yes (zas (HKp.lt (by rw [hsz]; decide)) _),Gd.no,Gd.no,Gd.no,Gd.no,kq qf9.out id,fun _ => rfl,Gd.no,Gd.no,Gd.no,Gd.no,Gd.no,Gd.no,Gd.no,Gd.no,Gd.no,Gd.no⟩
       ·obtain rfl : fl5 = false:=zaf hi
        obtain rfl : fl3 = true:=rdp 3 2 hi hO
        obtain rfl : fl4 = true:=rdp 4 1 hi hO
        obtain rfl : fl6 = false:=Gd.off qd6_5.out
        obtain rfl : fl7 = false:=Gd.off qd7_6.out
        obtain rfl : fl8 = false:=Gd.off qd8_6.out
        obtain rfl : fl10 = false:=Gd.off qd10_5.out
        obtain rfl : fl11 = false:=Gd.off qd11_8.out
        have rd58:=HKp.get 58 (by decide) RB58
        have rd62:=qf4.out.get
        have HBn:=lh9 (zaa HB.out hBi.out)
        have HM5n:=lh9 (HM5.out.keep hBi.out)
        have HV21n:=lh9 (HV21.out.keep hBi.out)
        refine wog hO (fun K' hK => ?_)
        go_simp
        (with_reducible refine (zka HM9.out (HT.out _ HBn.out) HM5n.out HS5.out HV21n.out HSV21.out (by omega)).mono ?_)
        rintro e w2 ⟨nA24,nc24,rfl,nhm24,-,hb⟩
        exact hK.out _ _ ⟨zaa hBi.out hb,true,true,true,false,false,false,fl9,false,false,nA24,nc24,ad9,by rfl,HKp.put (by decide) _,zaa hBi.out hb,kq0 qf3.out,Gd.yes ⟨zas (HKp.lt (by rw [hsz]; decide)) _,nhm24⟩,kq0 qf4.out,Gd.no,Gd.no,Gd.no,Gd.no,kq qf9.out fun h => ⟨h.1,zac hb h.2⟩,fun _ => rfl,fun _ => rfl,fun _ => rfl,Gd.no,Gd.no,Gd.no,Gd.no,Gd.no,Gd.no,Gd.no,Gd.no⟩
       ·obtain rfl : fl6 = false:=zaf hi
        obtain rfl : fl5 = true:=rdp 5 0 hi hO
        obtain rfl : fl3 = true:=qd5_3.out.get
        obtain rfl : fl4 = true:=qd5_4.out.get
        obtain rfl : fl7 = false:=Gd.off qd7_6.out
        obtain rfl : fl8 = false:=Gd.off qd8_6.out
        obtain rfl : fl10 = false:=Gd.off qd10_7.out
        obtain rfl : fl11 = false:=Gd.off qd11_8.out
        have rd63:=qf5.out.get.1
        refine wog hO (fun K' hK => ?_)
        refine zaX (x:=63) (Or.inl rfl) rd63 ?_
        exact hK.out _ _ ⟨hBi.out,true,true,true,true,false,false,fl9,false,false,A24,c24,ad9,by rfl,HKp.put (by decide) _,hBi.out,kq0 qf3.out,kq qf5.out fun h => (h),kq0 qf4.out,Gd.yes (zas (HKp.lt (by rw [hsz]; decide)) _),Gd.no,Gd.no,Gd.no,kq qf9.out id,fun _ => rfl,fun _ => rfl,fun _ => rfl,fun _ => rfl,Gd.no,Gd.no,Gd.no,Gd.no,Gd.no,Gd.no,Gd.no⟩
       ·obtain rfl : fl7 = false:=zaf hi
        obtain rfl : fl6 = true:=rdp 6 0 hi hO
        obtain rfl : fl5 = true:=qd6_5.out.get
        obtain rfl : fl3 = true:=qd5_3.out.get
        obtain rfl : fl4 = true:=qd5_4.out.get
        obtain rfl : fl10 = false:=Gd.off qd10_7.out
        obtain rfl : fl11 = false:=Gd.off qd11_10.out
        have rd57:=qf6.out.get
        refine wog hO (fun K' hK => ?_)
        refine zaB (x:=57) (k:=0) rfl rd57 rfl ?_
        exact hK.out _ _ ⟨hBi.out,true,true,true,true,true,fl8,fl9,false,false,A24,c24,ad9,by rfl,HKp.put (by decide) _,hBi.out,kq0 qf3.out,kq qf5.out fun h => (h),kq0 qf4.out,kq0 qf6.out,Gd.yes (zas (HKp.lt (by rw [hsz]; decide)) _),kq0 qf8.out,Gd.no,kq qf9.out id,fun _ => rfl,fun _ => rfl,fun _ => rfl,fun _ => rfl,fun _ => rfl,fun _ => rfl,Gd.no,Gd.no,Gd.no,Gd.no,Gd.no⟩
       ·obtain rfl : fl8 = false:=zaf hi
        obtain rfl : fl6 = true:=rdp 6 0 hi hO
        obtain rfl : fl5 = true:=qd6_5.out.get
        obtain rfl : fl3 = true:=qd5_3.out.get
        obtain rfl : fl4 = true:=qd5_4.out.get
        obtain rfl : fl11 = false:=Gd.off qd11_8.out
        have rd57:=qf6.out.get
        refine wog hO (fun K' hK => ?_)
        refine zaB (x:=57) (k:=1) rfl rd57 rfl ?_
        exact hK.out _ _ ⟨hBi.out,true,true,true,true,fl7,true,fl9,fl10,false,A24,c24,ad9,by rfl,HKp.put (by decide) _,hBi.out,kq0 qf3.out,kq qf5.out fun h => (h),kq0 qf4.out,kq0 qf6.out,kq0 qf7.out,Gd.yes (zas (HKp.lt (by rw [hsz]; decide)) _),Gd.no,kq qf9.out id,fun _ => rfl,fun _ => rfl,fun _ => rfl,fun _ => rfl,fun _ => rfl,fun _ => rfl,fun _ => rfl,qd10_7,qd10_9,Gd.no,Gd.no⟩
       ·obtain rfl : fl9 = false:=zaf hi
        obtain rfl : fl10 = false:=Gd.off qd10_9.out
        obtain rfl : fl11 = false:=Gd.off qd11_10.out
        refine wog hO (fun K' hK => ?_)
        go_simp
        have hb:=zaV w' (.cells #[.slice none 0 0,.int .i64 0] 28)
        exact hK.out _ _ ⟨zaa hBi.out hb,fl3,fl4,fl5,fl6,fl7,fl8,true,false,false,A24,c24,w'.heap.size,by rfl,HKp.put (by decide) _,zaa hBi.out hb,kq0 qf3.out,kq qf5.out fun h => zat.keep (h) hb,kq0 qf4.out,kq0 qf6.out,kq0 qf7.out,kq0 qf8.out,Gd.no,Gd.yes ⟨zas (HKp.lt (by rw [hsz]; decide)) _,hBi.out.size,Blk.new w' _ _⟩,qd4_3,qd5_3,qd5_4,qd6_5,qd7_6,qd8_6,Gd.no,Gd.no,Gd.no,Gd.no,Gd.no⟩
       ·obtain rfl : fl10 = false:=zaf hi
        obtain rfl : fl3 = true:=rdp 3 6 hi hO
        obtain rfl : fl4 = true:=rdp 4 7 hi hO
        obtain rfl : fl5 = true:=rdp 5 2 hi hO
        obtain rfl : fl6 = true:=rdp 6 9 hi hO
        obtain rfl : fl7 = true:=rdp 7 1 hi hO
        obtain rfl : fl9 = true:=rdp 9 0 hi hO
        obtain rfl : fl11 = false:=Gd.off qd11_10.out
        have rd11:=qf9.out.get.1
        have rd64:=qf7.out.get
        obtain ⟨_,hg,hk⟩:=qf9.out.get
        have hk : Blk w' ad9 28 #[.slice none 0 0,.int .i64 0]:=hk
        obtain ⟨sc0,sf0,sc1,sf1⟩:=st2 hk (.slice A24 N0 c24)
        have hj1:=sn2 hk (.slice A24 N0 c24) (.int .i64 (M9 : Int))
        have hBn:=bl2 (.slice A24 N0 c24) (.int .i64 (M9 : Int)) hg hBi.out
        refine wog hO (fun K' hK => ?_)
        go_simp
        exact hK.out _ _ ⟨hBn,true,true,true,true,true,fl8,true,true,false,A24,c24,ad9,by rfl,HKp,hBn,qf3.out.mono fun h => h,qf5.out.mono fun h => ⟨h.1,zat.offz (h.2) hk _ _⟩,qf4.out.mono fun h => h,qf6.out.mono fun h => h,qf7.out.mono fun h => h,qf8.out.mono fun h => h,Gd.no,qf9.out.mono fun h => ⟨h.1,h.2.1,hj1⟩,fun _ => rfl,fun _ => rfl,fun _ => rfl,fun _ => rfl,fun _ => rfl,fun _ => rfl,fun _ => rfl,fun _ => rfl,fun _ => rfl,Gd.no,Gd.no⟩
       ·obtain rfl : fl11 = false:=zaf hi
        obtain rfl : fl3 = true:=rdp 3 5 hi hO
        obtain rfl : fl4 = true:=rdp 4 6 hi hO
        obtain rfl : fl5 = true:=rdp 5 7 hi hO
        obtain rfl : fl6 = true:=rdp 6 8 hi hO
        obtain rfl : fl7 = true:=rdp 7 9 hi hO
        obtain rfl : fl8 = true:=rdp 8 0 hi hO
        obtain rfl : fl9 = true:=rdp 9 11 hi hO
        obtain rfl : fl10 = true:=rdp 10 1 hi hO
        have rd65:=qf8.out.get
        refine wog hO (fun K' hK => ?_)
        refine zaX (x:=65) (Or.inr rfl) rd65 ?_
        exact hK.out _ _ ⟨hBi.out,true,true,true,true,true,true,true,true,true,A24,c24,ad9,by rfl,HKp.put (by decide) _,hBi.out,kq0 qf3.out,kq qf5.out fun h => (h),kq0 qf4.out,kq0 qf6.out,kq0 qf7.out,kq0 qf8.out,Gd.yes (zas (HKp.lt (by rw [hsz]; decide)) _),kq qf9.out id,fun _ => rfl,fun _ => rfl,fun _ => rfl,fun _ => rfl,fun _ => rfl,fun _ => rfl,fun _ => rfl,fun _ => rfl,fun _ => rfl,fun _ => rfl,fun _ => rfl⟩
     rintro a wm26 ⟨fl3,fl4,fl5,fl6,fl7,fl8,fl9,fl10,fl11,A24,c24,ad9,hl,HKp,hBi,qf3,qf5,qf4,qf6,qf7,qf8,qf11,qf9,qd4_3,qd5_3,qd5_4,qd6_5,qd7_6,qd8_6,qd10_5,qd10_7,qd10_9,qd11_8,qd11_10⟩
     have xx3 : fl3 = true:=gdl 3 hl
     subst xx3
     have xx4 : fl4 = true:=gdl 4 hl
     subst xx4
     have xx5 : fl5 = true:=gdl 5 hl
     subst xx5
     have xx6 : fl6 = true:=gdl 6 hl
     subst xx6
     have xx7 : fl7 = true:=gdl 7 hl
     subst xx7
     have xx8 : fl8 = true:=gdl 8 hl
     subst xx8
     have xx9 : fl9 = true:=gdl 9 hl
     subst xx9
     have xx10 : fl10 = true:=gdl 10 hl
     subst xx10
     have xx11 : fl11 = true:=gdl 11 hl
     subst xx11
     have rv3:=qf3.out.get
     obtain ⟨rv5,hw5_0⟩:=qf5.out.get
     have rv4:=qf4.out.get
     have rv6:=qf6.out.get
     have rv7:=qf7.out.get
     have rv8:=qf8.out.get
     have rv11:=qf11.out.get
     obtain ⟨rv9,hg9,hk9⟩:=qf9.out.get
     obtain rfl:=HKp.eq [(61,.int .i64 (N0 : Int)),(62,.slice A9 N0 c9),(63,.tuple #[.agg #[.slice A24 N0 c24,.int .i64 (M9 : Int)],.bool true]),(57,.tuple #[.agg #[.slice A24 N0 c24,.int .i64 (M9 : Int)],.bool true]),(64,.agg #[.slice A24 N0 c24,.int .i64 (M9 : Int)]),(65,.bool true),(11,.pointer (some ⟨ad9,0,none⟩)),(12,.bool true)] rfl (by
      intro p hp
      simp only [List.mem_cons,List.not_mem_nil,or_false] at hp
      rcases hp with rfl | rfl | rfl | rfl | rfl | rfl | rfl | rfl
      ·exact rv3
      ·exact rv4
      ·exact rv5
      ·exact rv6
      ·exact rv7
      ·exact rv8
      ·exact rv9
      ·exact rv11)
     have hBv:=hBi.out
     clear hl hBi HKp qf3 qf5 qf4 qf6 qf7 qf8 qf11 qf9 qd4_3 qd5_3 qd5_4 qd6_5 qd7_6 qd8_6 qd10_5 qd10_7 qd10_9 qd11_8 qd11_10 rv3 rv4 rv5 rv6 rv7 rv8 rv9 rv11
     have hk9 : Blk wm26 ad9 28 #[.slice A24 N0 c24,.int .i64 (M9 : Int)]:=hk9
     rw [show due #[true,true,true,true,true,true,true,true,true,true,true,true] = 0 from rfl]
     simp only [zbL,List.foldl,Act.put,List.setIfInBounds_toArray,List.set_cons_zero,List.set_cons_succ]
     refine wpAnyH_done (by kernel_rfl) ?_ _
     refine NoPanic.normal ?_
     have HB:=lh9 (zaa HB.out hBv)
     have HM5:=lh9 (HM5.out.keep hBv)
     have HK7:=lh9 (zac hBv HK7.out)
     have HM16:=lh9 (HM16.out.keep hBv)
     have HK20:=lh9 (zac hBv HK20.out)
     have HV21:=lh9 (HV21.out.keep hBv)
     have HM24:=lh9 (hw5_0)
     obtain ⟨adx27,hga⟩ : ∃ x,x = ad9:=⟨_,rfl⟩
     subst hga
     have HK27:=lh9 (hk9)
     clear hBv GG hk9 hg9 hw5_0
     go_wp2_with fail
     have HDC : Hid (zbP (zbw N0 M9 fun a b => if b = m0 then V21.getD a 0 else atM X0 a b) N0 M9):=zcU _ _ _
     have HED : Hid (zbw N0 m0 (fun a b => if b < m0 then atM (zbw N0 M9 fun a b => if b = m0 then V21.getD a 0 else atM X0 a b) a b else atM (zbw N0 M9 fun a b => if b = m0 then V21.getD a 0 else atM X0 a b) a (b + 1)) = X0):=zkf HDX0.out HM9.out
     obtain ⟨XC,hXC⟩ : ∃ X,(zbw N0 M9 fun a b => if b = m0 then V21.getD a 0 else atM X0 a b) = X:=⟨_,rfl⟩
     rw [hXC] at HM24 HS24 HDC HED
     clear hXC
     have HS28 : Hid (zau (1) (zbw N0 m0 (fun a b => if b < m0 then atM XC a b else atM XC a (b + 1)))):=zau.tab fun r c hr hc => by split; exact HS24.out.at_ HDC.out hr (by have:=HM9.out; omega); exact HS24.out.at_ HDC.out hr (by have:=HM9.out; omega)
     obtain ⟨p29_0,p29_1⟩:=HK27.out.c2
     obtain ⟨p30_0,p30_1⟩:=HK7.out.c2
     have GG:=lh9 (fun w' (h : Below wm26.heap.size wm26 w') => (csc (zab h p29_0) (csc (zab h p29_1) (csc (zab h p30_0) (csc (zab h p30_1) csn)))))
     refine rgB (fun hHeld => ?_)
     clear p29_0 p29_1 p30_0 p30_1
     refine tl 0 GG.out ?_
     refine tl 1 GG.out ?_
     refine zaT (L:=#[true,true,true,true,true,true,true,true,true,true])
      (J:=fun a0 l a w' => ∃ (fl2 fl3 fl4 fl5 fl6 fl7 fl8 fl9 : Bool) (A28 : oA9) (c28 ad7 : Nat),l = #[true,true,fl2,fl3,fl4,fl5,fl6,fl7,fl8,fl9] ∧ zbS [69,70,66,71,72,13,14] a0 a ∧ Hid (Below wm26.heap.size wm26 w') ∧
        Hid (Gd fl2 (a.tmps.getD 69 undef = .int .i64 (m0 : Int))) ∧
        Hid (Gd fl3 (a.tmps.getD 70 undef = .tuple #[.agg #[.slice A28 N0 c28,.int .i64 (m0 : Int)],.bool true] ∧ zat w' A28 N0 c28 m0 (zbw N0 m0 (fun a b => if b < m0 then atM XC a b else atM XC a (b + 1))))) ∧
        Hid (Gd fl4 (a.tmps.getD 66 undef = .tuple #[.agg #[.slice A28 N0 c28,.int .i64 (m0 : Int)],.bool true])) ∧
        Hid (Gd fl5 (a.tmps.getD 71 undef = .agg #[.slice A28 N0 c28,.int .i64 (m0 : Int)])) ∧
        Hid (Gd fl6 (a.tmps.getD 72 undef = .bool true)) ∧
        Hid (Gd fl9 (a.tmps.getD 14 undef = .bool true)) ∧
        Hid (Gd fl7 (a.tmps.getD 13 undef = .pointer (some ⟨ad7,0,none⟩) ∧ wm26.heap.size ≤ ad7 ∧ Blk w' ad7 28 (bif fl8 then #[.slice A28 N0 c28,.int .i64 (m0 : Int)] else #[.slice none 0 0,.int .i64 0]))) ∧
        Hid (Gd fl3 (fl2 = true)) ∧
        Hid (Gd fl4 (fl3 = true)) ∧
        Hid (Gd fl5 (fl4 = true)) ∧
        Hid (Gd fl6 (fl4 = true)) ∧
        Hid (Gd fl8 (fl3 = true)) ∧
        Hid (Gd fl8 (fl5 = true)) ∧
        Hid (Gd fl8 (fl7 = true)) ∧
        Hid (Gd fl9 (fl6 = true)) ∧
        Hid (Gd fl9 (fl8 = true)))
      (by rfl) ?_ ?_ ?_
     ·exact ⟨false,false,false,false,false,false,false,false,none,0,0,by kernel_rfl,zbS.refl _ _,hHeld,Gd.no,Gd.no,Gd.no,Gd.no,Gd.no,Gd.no,Gd.no,Gd.no,Gd.no,Gd.no,Gd.no,Gd.no,Gd.no,Gd.no,Gd.no,Gd.no⟩
     ·intro OPS Ac0 Q0 hO hAs hA
      have RB67 : Ac0.tmps.getD 67 undef = .agg #[.slice A24 N0 c24,.int .i64 (M9 : Int)]:=(hA 67 undef).trans (by kernel_rfl)
      have RB68 : Ac0.tmps.getD 68 undef = .agg #[.slice A5 N0 c5,.int .i64 (m0 : Int)]:=(hA 68 undef).trans (by kernel_rfl)
      have hsz : Ac0.tmps.size = 93:=hAs.trans (by kernel_rfl)
      clear hAs hA
      refine ⟨?_,?_⟩
      ·rintro l a w' ⟨fl2,fl3,fl4,fl5,fl6,fl7,fl8,fl9,A28,c28,ad7,rfl,-⟩ hr
       obtain rfl : fl2 = true:=als 2 hr hO
       obtain rfl : fl3 = true:=als 3 hr hO
       obtain rfl : fl4 = true:=als 4 hr hO
       obtain rfl : fl5 = true:=als 5 hr hO
       obtain rfl : fl6 = true:=als 6 hr hO
       obtain rfl : fl7 = true:=als 7 hr hO
       obtain rfl : fl8 = true:=als 8 hr hO
       obtain rfl : fl9 = true:=als 9 hr hO
       rfl
      ·rintro l a w' i ⟨fl2,fl3,fl4,fl5,fl6,fl7,fl8,fl9,A28,c28,ad7,rfl,HKp,hBi,qf2,qf3,qf4,qf5,qf6,qf9,qf7,qd3_2,qd4_3,qd5_4,qd6_4,qd8_3,qd8_5,qd8_7,qd9_6,qd9_8⟩ hne hi
       have hlt : i < 10:=by have:=zbH hi; rw [hO] at this; exact this
       rcases (show i = 0 ∨ i = 1 ∨ i = 2 ∨ i = 3 ∨ i = 4 ∨ i = 5 ∨ i = 6 ∨ i = 7 ∨ i = 8 ∨ i = 9 by omega) with rfl | rfl | rfl | rfl | rfl | rfl | rfl | rfl | rfl | rfl
       ·cases (zaf hi : true = false)
       ·cases (zaf hi : true = false)
       ·obtain rfl : fl2 = false:=zaf hi
        obtain rfl : fl3 = false:=Gd.off qd3_2.out
        obtain rfl : fl4 = false:=Gd.off qd4_3.out
        obtain rfl : fl5 = false:=Gd.off qd5_4.out
        obtain rfl : fl6 = false:=Gd.off qd6_4.out
        obtain rfl : fl8 = false:=Gd.off qd8_3.out
        obtain rfl : fl9 = false:=Gd.off qd9_6.out
        have rd68:=HKp.get 68 (by decide) RB68
        have HBn:=lh9 (zaa HB.out hBi.out)
        refine wog hO (fun K' hK => ?_)
        go_simp
        (with_reducible refine (zco A5 N0 c5 (m0 : Int) _).mono ?_)
        rintro e w2 ⟨rfl,hb⟩
        exact hK.out _ _ ⟨zaa hBi.out hb,true,false,false,false,false,fl7,false,false,A28,c28,ad7,by rfl,HKp.put (by decide) _,zaa hBi.out hb,Gd.yes (zas (HKp.lt (by rw [hsz]; decide)) _),Gd.no,Gd.no,Gd.no,Gd.no,Gd.no,kq qf7.out fun h => ⟨h.1,zac hb h.2⟩,Gd.no,Gd.no,Gd.no,Gd.no,Gd.no,Gd.no,Gd.no,Gd.no,Gd.no⟩
       ·obtain rfl : fl3 = false:=zaf hi
        obtain rfl : fl2 = true:=rdp 2 1 hi hO
        obtain rfl : fl4 = false:=Gd.off qd4_3.out
        obtain rfl : fl5 = false:=Gd.off qd5_4.out
        obtain rfl : fl6 = false:=Gd.off qd6_4.out
        obtain rfl : fl8 = false:=Gd.off qd8_3.out
        obtain rfl : fl9 = false:=Gd.off qd9_6.out
        have rd67:=HKp.get 67 (by decide) RB67
        have rd69:=qf2.out.get
        have HBn:=lh9 (zaa HB.out hBi.out)
        have HM24n:=lh9 (HM24.out.keep hBi.out)
        refine wog hO (fun K' hK => ?_)
        go_simp
        (with_reducible refine (znd HM9.out (HT.out _ HBn.out) HM24n.out HS24.out (by have:=HM9.out; omega)).mono ?_)
        rintro e w2 ⟨nA28,nc28,rfl,nhm28,-,hb⟩
        exact hK.out _ _ ⟨zaa hBi.out hb,true,true,false,false,false,fl7,false,false,nA28,nc28,ad7,by rfl,HKp.put (by decide) _,zaa hBi.out hb,kq0 qf2.out,Gd.yes ⟨zas (HKp.lt (by rw [hsz]; decide)) _,nhm28⟩,Gd.no,Gd.no,Gd.no,Gd.no,kq qf7.out fun h => ⟨h.1,zac hb h.2⟩,fun _ => rfl,Gd.no,Gd.no,Gd.no,Gd.no,Gd.no,Gd.no,Gd.no,Gd.no⟩
       ·obtain rfl : fl4 = false:=zaf hi
        obtain rfl : fl3 = true:=rdp 3 0 hi hO
        obtain rfl : fl2 = true:=qd3_2.out.get
        obtain rfl : fl5 = false:=Gd.off qd5_4.out
        obtain rfl : fl6 = false:=Gd.off qd6_4.out
        obtain rfl : fl8 = false:=Gd.off qd8_5.out
        obtain rfl : fl9 = false:=Gd.off qd9_6.out
        have rd70:=qf3.out.get.1
        refine wog hO (fun K' hK => ?_)
        refine zaX (x:=70) (Or.inl rfl) rd70 ?_
        exact hK.out _ _ ⟨hBi.out,true,true,true,false,false,fl7,false,false,A28,c28,ad7,by rfl,HKp.put (by decide) _,hBi.out,kq0 qf2.out,kq qf3.out fun h => (h),Gd.yes (zas (HKp.lt (by rw [hsz]; decide)) _),Gd.no,Gd.no,Gd.no,kq qf7.out id,fun _ => rfl,fun _ => rfl,Gd.no,Gd.no,Gd.no,Gd.no,Gd.no,Gd.no,Gd.no⟩
       ·obtain rfl : fl5 = false:=zaf hi
        obtain rfl : fl4 = true:=rdp 4 0 hi hO
        obtain rfl : fl3 = true:=qd4_3.out.get
        obtain rfl : fl2 = true:=qd3_2.out.get
        obtain rfl : fl8 = false:=Gd.off qd8_5.out
        obtain rfl : fl9 = false:=Gd.off qd9_8.out
        have rd66:=qf4.out.get
        refine wog hO (fun K' hK => ?_)
        refine zaB (x:=66) (k:=0) rfl rd66 rfl ?_
        exact hK.out _ _ ⟨hBi.out,true,true,true,true,fl6,fl7,false,false,A28,c28,ad7,by rfl,HKp.put (by decide) _,hBi.out,kq0 qf2.out,kq qf3.out fun h => (h),kq0 qf4.out,Gd.yes (zas (HKp.lt (by rw [hsz]; decide)) _),kq0 qf6.out,Gd.no,kq qf7.out id,fun _ => rfl,fun _ => rfl,fun _ => rfl,fun _ => rfl,Gd.no,Gd.no,Gd.no,Gd.no,Gd.no⟩
       ·obtain rfl : fl6 = false:=zaf hi
        obtain rfl : fl4 = true:=rdp 4 0 hi hO
        obtain rfl : fl3 = true:=qd4_3.out.get
        obtain rfl : fl2 = true:=qd3_2.out.get
        obtain rfl : fl9 = false:=Gd.off qd9_6.out
        have rd66:=qf4.out.get
        refine wog hO (fun K' hK => ?_)
        refine zaB (x:=66) (k:=1) rfl rd66 rfl ?_
        exact hK.out _ _ ⟨hBi.out,true,true,true,fl5,true,fl7,fl8,false,A28,c28,ad7,by rfl,HKp.put (by decide) _,hBi.out,kq0 qf2.out,kq qf3.out fun h => (h),kq0 qf4.out,kq0 qf5.out,Gd.yes (zas (HKp.lt (by rw [hsz]; decide)) _),Gd.no,kq qf7.out id,fun _ => rfl,fun _ => rfl,fun _ => rfl,fun _ => rfl,fun _ => rfl,qd8_5,qd8_7,Gd.no,Gd.no⟩
       ·obtain rfl : fl7 = false:=zaf hi
        obtain rfl : fl8 = false:=Gd.off qd8_7.out
        obtain rfl : fl9 = false:=Gd.off qd9_8.out
        refine wog hO (fun K' hK => ?_)
        go_simp
        have hb:=zaV w' (.cells #[.slice none 0 0,.int .i64 0] 28)
        exact hK.out _ _ ⟨zaa hBi.out hb,fl2,fl3,fl4,fl5,fl6,true,false,false,A28,c28,w'.heap.size,by rfl,HKp.put (by decide) _,zaa hBi.out hb,kq0 qf2.out,kq qf3.out fun h => zat.keep (h) hb,kq0 qf4.out,kq0 qf5.out,kq0 qf6.out,Gd.no,Gd.yes ⟨zas (HKp.lt (by rw [hsz]; decide)) _,hBi.out.size,Blk.new w' _ _⟩,qd3_2,qd4_3,qd5_4,qd6_4,Gd.no,Gd.no,Gd.no,Gd.no,Gd.no⟩
       ·obtain rfl : fl8 = false:=zaf hi
        obtain rfl : fl2 = true:=rdp 2 5 hi hO
        obtain rfl : fl3 = true:=rdp 3 2 hi hO
        obtain rfl : fl4 = true:=rdp 4 7 hi hO
        obtain rfl : fl5 = true:=rdp 5 1 hi hO
        obtain rfl : fl7 = true:=rdp 7 0 hi hO
        obtain rfl : fl9 = false:=Gd.off qd9_8.out
        have rd13:=qf7.out.get.1
        have rd71:=qf5.out.get
        obtain ⟨_,hg,hk⟩:=qf7.out.get
        have hk : Blk w' ad7 28 #[.slice none 0 0,.int .i64 0]:=hk
        obtain ⟨sc0,sf0,sc1,sf1⟩:=st2 hk (.slice A28 N0 c28)
        have hj1:=sn2 hk (.slice A28 N0 c28) (.int .i64 (m0 : Int))
        have hBn:=bl2 (.slice A28 N0 c28) (.int .i64 (m0 : Int)) hg hBi.out
        refine wog hO (fun K' hK => ?_)
        go_simp
        exact hK.out _ _ ⟨hBn,true,true,true,true,fl6,true,true,false,A28,c28,ad7,by rfl,HKp,hBn,qf2.out.mono fun h => h,qf3.out.mono fun h => ⟨h.1,zat.offz (h.2) hk _ _⟩,qf4.out.mono fun h => h,qf5.out.mono fun h => h,qf6.out.mono fun h => h,Gd.no,qf7.out.mono fun h => ⟨h.1,h.2.1,hj1⟩,fun _ => rfl,fun _ => rfl,fun _ => rfl,fun _ => rfl,fun _ => rfl,fun _ => rfl,fun _ => rfl,Gd.no,Gd.no⟩
       ·obtain rfl : fl9 = false:=zaf hi
        obtain rfl : fl2 = true:=rdp 2 4 hi hO
        obtain rfl : fl3 = true:=rdp 3 5 hi hO
        obtain rfl : fl4 = true:=rdp 4 6 hi hO
        obtain rfl : fl5 = true:=rdp 5 7 hi hO
        obtain rfl : fl6 = true:=rdp 6 0 hi hO
        obtain rfl : fl7 = true:=rdp 7 9 hi hO
        obtain rfl : fl8 = true:=rdp 8 1 hi hO
        have rd72:=qf6.out.get
        refine wog hO (fun K' hK => ?_)
        refine zaX (x:=72) (Or.inr rfl) rd72 ?_
        exact hK.out _ _ ⟨hBi.out,true,true,true,true,true,true,true,true,A28,c28,ad7,by rfl,HKp.put (by decide) _,hBi.out,kq0 qf2.out,kq qf3.out fun h => (h),kq0 qf4.out,kq0 qf5.out,kq0 qf6.out,Gd.yes (zas (HKp.lt (by rw [hsz]; decide)) _),kq qf7.out id,fun _ => rfl,fun _ => rfl,fun _ => rfl,fun _ => rfl,fun _ => rfl,fun _ => rfl,fun _ => rfl,fun _ => rfl,fun _ => rfl⟩
     rintro a wm31 ⟨fl2,fl3,fl4,fl5,fl6,fl7,fl8,fl9,A28,c28,ad7,hl,HKp,hBi,qf2,qf3,qf4,qf5,qf6,qf9,qf7,qd3_2,qd4_3,qd5_4,qd6_4,qd8_3,qd8_5,qd8_7,qd9_6,qd9_8⟩
     have xx2 : fl2 = true:=gdl 2 hl
     subst xx2
     have xx3 : fl3 = true:=gdl 3 hl
     subst xx3
     have xx4 : fl4 = true:=gdl 4 hl
     subst xx4
     have xx5 : fl5 = true:=gdl 5 hl
     subst xx5
     have xx6 : fl6 = true:=gdl 6 hl
     subst xx6
     have xx7 : fl7 = true:=gdl 7 hl
     subst xx7
     have xx8 : fl8 = true:=gdl 8 hl
     subst xx8
     have xx9 : fl9 = true:=gdl 9 hl
     subst xx9
     have rv2:=qf2.out.get
     obtain ⟨rv3,hw3_0⟩:=qf3.out.get
     have rv4:=qf4.out.get
     have rv5:=qf5.out.get
     have rv6:=qf6.out.get
     have rv9:=qf9.out.get
     obtain ⟨rv7,hg7,hk7⟩:=qf7.out.get
     obtain rfl:=HKp.eq [(69,.int .i64 (m0 : Int)),(70,.tuple #[.agg #[.slice A28 N0 c28,.int .i64 (m0 : Int)],.bool true]),(66,.tuple #[.agg #[.slice A28 N0 c28,.int .i64 (m0 : Int)],.bool true]),(71,.agg #[.slice A28 N0 c28,.int .i64 (m0 : Int)]),(72,.bool true),(13,.pointer (some ⟨ad7,0,none⟩)),(14,.bool true)] rfl (by
      intro p hp
      simp only [List.mem_cons,List.not_mem_nil,or_false] at hp
      rcases hp with rfl | rfl | rfl | rfl | rfl | rfl | rfl
      ·exact rv2
      ·exact rv3
      ·exact rv4
      ·exact rv5
      ·exact rv6
      ·exact rv7
      ·exact rv9)
     have hBv:=hBi.out
     clear hl hBi HKp qf2 qf3 qf4 qf5 qf6 qf9 qf7 qd3_2 qd4_3 qd5_4 qd6_4 qd8_3 qd8_5 qd8_7 qd9_6 qd9_8 rv2 rv3 rv4 rv5 rv6 rv7 rv9
     have hk7 : Blk wm31 ad7 28 #[.slice A28 N0 c28,.int .i64 (m0 : Int)]:=hk7
     rw [show due #[true,true,true,true,true,true,true,true,true,true] = 0 from rfl]
     simp only [zbL,List.foldl,Act.put,List.setIfInBounds_toArray,List.set_cons_zero,List.set_cons_succ]
     refine wpAnyH_done (by kernel_rfl) ?_ _
     refine NoPanic.normal ?_
     have HB:=lh9 (zaa HB.out hBv)
     have HM5:=lh9 (HM5.out.keep hBv)
     have HK7:=lh9 (zac hBv HK7.out)
     have HM16:=lh9 (HM16.out.keep hBv)
     have HK20:=lh9 (zac hBv HK20.out)
     have HV21:=lh9 (HV21.out.keep hBv)
     have HM24:=lh9 (HM24.out.keep hBv)
     have HK27:=lh9 (zac hBv HK27.out)
     have HM28:=lh9 (hw3_0)
     obtain ⟨adx32,hga⟩ : ∃ x,x = ad7:=⟨_,rfl⟩
     subst hga
     have HK32:=lh9 (hk7)
     clear hBv GG hk7 hg7 hw3_0
     obtain ⟨p33_0,p33_1⟩:=HK20.out.c2
     obtain ⟨p34_0,p34_1⟩:=HK7.out.c2
     go_wp2_with fail
     clear p33_0 p33_1 p34_0 p34_1
     (with_reducible refine (zel (t:=true) (decide_eq_true ⟨rfl,HEB.out⟩) (HT.out _ HB.out) HM16.out HM5.out HS16.out HS5.out).mono ?_)
     rintro e X35 ⟨rfl,hb⟩
     have HB:=lh9 (zaa HB.out hb)
     have HM5:=lh9 (HM5.out.keep hb)
     have HK7:=lh9 (zac hb HK7.out)
     have HM16:=lh9 (HM16.out.keep hb)
     have HK20:=lh9 (zac hb HK20.out)
     have HV21:=lh9 (HV21.out.keep hb)
     have HM24:=lh9 (HM24.out.keep hb)
     have HK27:=lh9 (zac hb HK27.out)
     have HM28:=lh9 (HM28.out.keep hb)
     have HK32:=lh9 (zac hb HK32.out)
     clear hb 
     obtain ⟨p36_0,p36_1⟩:=HK32.out.c2
     obtain ⟨p37_0,p37_1⟩:=HK7.out.c2
     go_wp2_with fail
     clear p36_0 p36_1 p37_0 p37_1
     (with_reducible refine (zel (t:=true) (decide_eq_true ⟨rfl,HED.out⟩) (HT.out _ HB.out) HM28.out HM5.out HS28.out HS5.out).mono ?_)
     rintro e X38 ⟨rfl,hb⟩
     have HB:=lh9 (zaa HB.out hb)
     have HM5:=lh9 (HM5.out.keep hb)
     have HK7:=lh9 (zac hb HK7.out)
     have HM16:=lh9 (HM16.out.keep hb)
     have HK20:=lh9 (zac hb HK20.out)
     have HV21:=lh9 (HV21.out.keep hb)
     have HM24:=lh9 (HM24.out.keep hb)
     have HK27:=lh9 (zac hb HK27.out)
     have HM28:=lh9 (HM28.out.keep hb)
     have HK32:=lh9 (zac hb HK32.out)
     clear hb 
     go_wp2
     go_ret
     exact ⟨rfl,HB.out⟩
end Go.Proofs.YtedbgdlbgohiiaaGreatDoor
