/- What this claim leans on. -/
import Derived.Test.YtkiedljcgkoaiaaGreatDoorXVOne
import Derived.Test.YtkiedljcgkoaiaaGreatDoorXVAwake
namespace Go.Proofs.YtkiedljcgkoaiaaGreatDoor
open Go Go.RowKit
set_option maxHeartbeats 16000000
set_option maxRecDepth 100000
set_option linter.unusedVariables false
set_option linter.unusedSimpArgs false
def zeC (ys xs : List Rat) (k : Nat) : List Rat:=ys.take k ++ xs.drop k
theorem zjf (ys xs : List Rat) : zeC ys xs 0 = xs:=rfl
theorem zkF {ys xs : List Rat} {n : Nat} (h : ys.length = n) (h' : xs.length = n) : zeC ys xs n = ys:=by
 unfold zeC
 rw [List.take_of_length_le (by omega),List.drop_of_length_le (by omega),List.append_nil]
theorem mixed_at {ys xs : List Rat} {k n : Nat} (h : ys.length = n) (h' : xs.length = n) (hk : k < n) : (zeC ys xs k)[k]? = some (xs.getD k 0):=by
 unfold zeC
 rw [List.getElem?_append_right (by rw [List.length_take]; omega),List.length_take,Nat.min_eq_left (by omega),Nat.sub_self,List.getElem?_drop,Nat.add_zero,List.getD_eq_getElem?_getD,List.getElem?_eq_getElem (by omega)]
 rfl
theorem zgF {ys xs : List Rat} {k n : Nat} (h : ys.length = n) (h' : xs.length = n) (hk : k < n) (y : Rat) (hy : ys[k]? = some y) : (zeC ys xs k).set k y = zeC ys xs (k + 1):=by
 unfold zeC
 have e : (ys.take k).length = k:=by rw [List.length_take]; omega
 rw [List.set_append_right _ _ (by omega),e,Nat.sub_self,List.take_succ_eq_append_getElem (by omega),List.append_assoc]
 congr 1
 rw [List.drop_eq_getElem_cons (by omega),List.set_cons_zero]
 have hv : ys[k] = y:=by rw [List.getElem?_eq_getElem (by omega)] at hy; injection hy
 rw [hv]
 rfl
def zeU (xs : List Rat) : List Rat:=xs.map fun x => x + 1
theorem incL_len {xs : List Rat} {n : Nat} (h : xs.length = n) : (zeU xs).length = n:=by unfold zeU; rw [List.length_map]; exact h
theorem incL_at {xs : List Rat} {k : Nat} (h : k < xs.length) : (zeU xs)[k]? = some (xs.getD k 0 + 1):=by
 unfold zeU
 rw [List.getElem?_map,List.getD_eq_getElem?_getD,List.getElem?_eq_getElem h]; rfl
theorem zjl : SzQ 1 (1 : Rat):=⟨by decide,by decide⟩
theorem incL_sz {xs : List Rat} (h : zao 1 xs) : zao 3 (zeU xs):=fun y hy => by
 obtain ⟨x,hx,rfl⟩:=List.mem_map.1 hy
 exact ((h x hx).add zjl).up (by decide)
theorem ziN (x : Rat) : x + 1 ≠ x:=fun h => by
 have h2 : (1 : Rat) + x = 0 + x:=by rw [Rat.add_comm,h,Rat.zero_add]
 exact absurd (Rat.add_right_cancel x h2) (by decide)
theorem incL_ne {xs : List Rat} (h : 0 < xs.length) : zeU xs ≠ xs:=by
 cases xs with
 | nil => simp at h
 | cons x xs => intro e; unfold zeU at e; rw [List.map_cons] at e; injection e with e1 e2; exact ziN x e1
theorem vecOrder_core (A0 : oA9) (n0 c0 : Nat) (L0 : List (Int × Int)) (A1 : oA9) (n1 c1 : Nat) (L1 : List (Int × Int)) (A2 : oA9) (n2 c2 : Nat) (L2 : List (Int × Int)) (w : World) (h0 : zaN w A0 n0 c0 L0) (h1 : zaN w A1 n1 c1 L1) (h2 : zaN w A2 n2 c2 L2) (hT : zaj w) :
  Calls Tryz.prog 6 #[.slice A0 n0 c0,.slice A1 n1 c1,.slice A2 n2 c2] w fun e w' => e = .returned (.bool true) ∧ Below w.heap.size w w':=by
 have hn0 : n0 ≤ 1048576:=Nat.le_trans h0.fits h0.small
 have hl0 : (zbI L0).length = n0:=by rw [zbm]; exact h0.len
 have HL0:=lh9 hl0
 clear hl0
 have HSA0:=lh9 (zbX h0)
 have HA0:=lh9 (fun w' (hb : Below w.heap.size w w') => h0.below hb)
 have hn1 : n1 ≤ 1048576:=Nat.le_trans h1.fits h1.small
 have hl1 : (zbI L1).length = n1:=by rw [zbm]; exact h1.len
 have HL1:=lh9 hl1
 clear hl1
 have HSA1:=lh9 (zbX h1)
 have HA1:=lh9 (fun w' (hb : Below w.heap.size w w') => h1.below hb)
 have hn2 : n2 ≤ 1048576:=Nat.le_trans h2.fits h2.small
 have hl2 : (zbI L2).length = n2:=by rw [zbm]; exact h2.len
 have HL2:=lh9 hl2
 clear hl2
 have HSA2:=lh9 (zbX h2)
 have HA2:=lh9 (fun w' (hb : Below w.heap.size w w') => h2.below hb)
 obtain ⟨X,hx0⟩ : ∃ X,zbI L0 = X:=⟨_,rfl⟩
 rw [hx0] at HL0 HSA0
 have HX0:=lh9 hx0
 clear hx0
 obtain ⟨Y,hx1⟩ : ∃ X,zbI L1 = X:=⟨_,rfl⟩
 rw [hx1] at HL1 HSA1
 have HX1:=lh9 hx1
 clear hx1
 obtain ⟨Z,hx2⟩ : ∃ X,zbI L2 = X:=⟨_,rfl⟩
 rw [hx2] at HL2 HSA2
 have HX2:=lh9 hx2
 clear hx2
 obtain ⟨c,hc⟩ : ∃ c,zaY X Y = c:=⟨_,rfl⟩
 obtain ⟨d,hd⟩ : ∃ d,zaY Y X = d:=⟨_,rfl⟩
 obtain ⟨e,he⟩ : ∃ e,zaY Y Z = e:=⟨_,rfl⟩
 obtain ⟨f,hf⟩ : ∃ f,zaY X Z = f:=⟨_,rfl⟩
 have hbd1:=zjL Y X
 rw [hd] at hbd1
 have hbd2 : -1 ≤ d:=hbd1.1
 have hbd3 : d ≤ 1:=hbd1.2
 have hcd : c = -d:=by rw [← hc,← hd]; have:=zhK X Y; omega
 have kb1 : (c != -d) = false:=by rw [hcd]; simp
 have HCASE : Hid ((c ≤ 0 ∧ e ≤ 0 ∧ f ≤ 0) ∨ (c ≤ 0 ∧ 0 < e) ∨ 0 < c):=by
  have h1 : zaY X Y ≤ 0 → zaY Y Z ≤ 0 → zaY X Z ≤ 0:=zfJ
  rw [hc,he,hf] at h1
  show _ ∨ _
  omega
 have HC:=lh9 hc
 have HD:=lh9 hd
 have HE:=lh9 he
 have HF:=lh9 hf
 clear hc hd he hf hbd1 hcd
 have HT:=lh9 (fun w' (hb : Below w.heap.size w w') => hT.on hb)
 have HB:=lh9 (Below.refl w.heap.size w)
 clear hT h0 h1 h2
 go_enter Tryz.func6,Tryz.ntmps6
 go_wp2_with fail
 (with_reducible refine (zdA (HT.out _ HB.out)).mono ?_)
 rintro e X1 ⟨rfl,hb⟩
 have HB:=lh9 (zaa HB.out hb)
 clear hb 
 go_wp2_with fail
 (with_reducible refine (HX0.out ▸ zbj (HT.out _ HB.out) (HA0.out _ HB.out)).mono ?_)
 rintro e X3 ⟨A2,c2,rfl,hv2,-,hb⟩
 have HB:=lh9 (zaa HB.out hb)
 have HV2:=lh9 (hv2)
 clear hb hv2
 go_wp2_with fail
 (with_reducible refine (HX1.out ▸ zbj (HT.out _ HB.out) (HA1.out _ HB.out)).mono ?_)
 rintro e X5 ⟨A4,c4,rfl,hv4,-,hb⟩
 have HB:=lh9 (zaa HB.out hb)
 have HV2:=lh9 (HV2.out.keep hb)
 have HV4:=lh9 (hv4)
 clear hb hv4
 go_wp2_with fail
 (with_reducible refine (HX2.out ▸ zbj (HT.out _ HB.out) (HA2.out _ HB.out)).mono ?_)
 rintro e X7 ⟨A6,c6,rfl,hv6,-,hb⟩
 have HB:=lh9 (zaa HB.out hb)
 have HV2:=lh9 (HV2.out.keep hb)
 have HV4:=lh9 (HV4.out.keep hb)
 have HV6:=lh9 (hv6)
 clear hb hv6
 go_upto_region 4 with fail
 go_cut [22,23,24,25,26,27,28,29,30,31,32,33,34,35,36,37,38,39,40,41,42,43,44,45] (fun s22 s23 s24 s25 s26 s27 s28 s29 s30 s31 s32 s33 s34 s35 s36 s37 s38 s39 s40 s41 s42 s43 s44 s45 wx => s45 = .bool false ∧ Below X7.heap.size X7 wx)
 case first =>
  have hW:=Below.refl X7.heap.size X7
  rcases HCASE.out with hq | hq | hq
  ·have hW0:=lh9 hW
   clear hW HCASE
   have kb2 : decide (c ≤ 0) = true:=decide_eq_true (by omega)
   have kb3 : decide (e ≤ 0) = true:=decide_eq_true (by omega)
   have kb4 : decide (f > 0) = false:=decide_eq_false (by omega)
   have kb5 : decide (0 < f) = false:=decide_eq_false (by omega)
   clear hq
   go_wp2_with fail
   (with_reducible refine (zaM HC.out (HT.out _ HB.out) HV2.out HV4.out HSA0.out HSA1.out (by omega) (by omega) (by decide) (by decide)).mono ?_)
   rintro e X8 ⟨rfl,hb⟩
   have HB:=lh9 (zaa HB.out hb)
   have HV2:=lh9 (HV2.out.keep hb)
   have HV4:=lh9 (HV4.out.keep hb)
   have HV6:=lh9 (HV6.out.keep hb)
   have hW0:=lh9 (zaa hW0.out hb)
   clear hb 
   go_wp2_with fail
   (with_reducible refine (zaM HD.out (HT.out _ HB.out) HV4.out HV2.out HSA1.out HSA0.out (by omega) (by omega) (by decide) (by decide)).mono ?_)
   rintro e X9 ⟨rfl,hb⟩
   have HB:=lh9 (zaa HB.out hb)
   have HV2:=lh9 (HV2.out.keep hb)
   have HV4:=lh9 (HV4.out.keep hb)
   have HV6:=lh9 (HV6.out.keep hb)
   have hW0:=lh9 (zaa hW0.out hb)
   clear hb 
   go_wp2_with fail
   (with_reducible refine (zaM HC.out (HT.out _ HB.out) HV2.out HV4.out HSA0.out HSA1.out (by omega) (by omega) (by decide) (by decide)).mono ?_)
   rintro e X10 ⟨rfl,hb⟩
   have HB:=lh9 (zaa HB.out hb)
   have HV2:=lh9 (HV2.out.keep hb)
   have HV4:=lh9 (HV4.out.keep hb)
   have HV6:=lh9 (HV6.out.keep hb)
   have hW0:=lh9 (zaa hW0.out hb)
   clear hb 
   go_wp2_with fail
   (with_reducible refine (zaM HE.out (HT.out _ HB.out) HV4.out HV6.out HSA1.out HSA2.out (by omega) (by omega) (by decide) (by decide)).mono ?_)
   rintro e X11 ⟨rfl,hb⟩
   have HB:=lh9 (zaa HB.out hb)
   have HV2:=lh9 (HV2.out.keep hb)
   have HV4:=lh9 (HV4.out.keep hb)
   have HV6:=lh9 (HV6.out.keep hb)
   have hW0:=lh9 (zaa hW0.out hb)
   clear hb 
   go_wp2_with fail
   (with_reducible refine (zaM HF.out (HT.out _ HB.out) HV2.out HV6.out HSA0.out HSA2.out (by omega) (by omega) (by decide) (by decide)).mono ?_)
   rintro e X12 ⟨rfl,hb⟩
   have HB:=lh9 (zaa HB.out hb)
   have HV2:=lh9 (HV2.out.keep hb)
   have HV4:=lh9 (HV4.out.keep hb)
   have HV6:=lh9 (HV6.out.keep hb)
   have hW0:=lh9 (zaa hW0.out hb)
   clear hb 
   go_wp2
   go_meet
   exact ⟨rfl,hW0.out⟩
  ·have hW0:=lh9 hW
   clear hW HCASE
   have kb2 : decide (c ≤ 0) = true:=decide_eq_true (by omega)
   have kb3 : decide (e ≤ 0) = false:=decide_eq_false (by omega)
   clear hq
   go_wp2_with fail
   (with_reducible refine (zaM HC.out (HT.out _ HB.out) HV2.out HV4.out HSA0.out HSA1.out (by omega) (by omega) (by decide) (by decide)).mono ?_)
   rintro e X8 ⟨rfl,hb⟩
   have HB:=lh9 (zaa HB.out hb)
   have HV2:=lh9 (HV2.out.keep hb)
   have HV4:=lh9 (HV4.out.keep hb)
   have HV6:=lh9 (HV6.out.keep hb)
   have hW0:=lh9 (zaa hW0.out hb)
   clear hb 
   go_wp2_with fail
   (with_reducible refine (zaM HD.out (HT.out _ HB.out) HV4.out HV2.out HSA1.out HSA0.out (by omega) (by omega) (by decide) (by decide)).mono ?_)
   rintro e X9 ⟨rfl,hb⟩
   have HB:=lh9 (zaa HB.out hb)
   have HV2:=lh9 (HV2.out.keep hb)
   have HV4:=lh9 (HV4.out.keep hb)
   have HV6:=lh9 (HV6.out.keep hb)
   have hW0:=lh9 (zaa hW0.out hb)
   clear hb 
   go_wp2_with fail
   (with_reducible refine (zaM HC.out (HT.out _ HB.out) HV2.out HV4.out HSA0.out HSA1.out (by omega) (by omega) (by decide) (by decide)).mono ?_)
   rintro e X10 ⟨rfl,hb⟩
   have HB:=lh9 (zaa HB.out hb)
   have HV2:=lh9 (HV2.out.keep hb)
   have HV4:=lh9 (HV4.out.keep hb)
   have HV6:=lh9 (HV6.out.keep hb)
   have hW0:=lh9 (zaa hW0.out hb)
   clear hb 
   go_wp2_with fail
   (with_reducible refine (zaM HE.out (HT.out _ HB.out) HV4.out HV6.out HSA1.out HSA2.out (by omega) (by omega) (by decide) (by decide)).mono ?_)
   rintro e X11 ⟨rfl,hb⟩
   have HB:=lh9 (zaa HB.out hb)
   have HV2:=lh9 (HV2.out.keep hb)
   have HV4:=lh9 (HV4.out.keep hb)
   have HV6:=lh9 (HV6.out.keep hb)
   have hW0:=lh9 (zaa hW0.out hb)
   clear hb 
   go_wp2
   go_meet
   exact ⟨rfl,hW0.out⟩
  ·have hW0:=lh9 hW
   clear hW HCASE
   have kb2 : decide (c ≤ 0) = false:=decide_eq_false (by omega)
   clear hq
   go_wp2_with fail
   (with_reducible refine (zaM HC.out (HT.out _ HB.out) HV2.out HV4.out HSA0.out HSA1.out (by omega) (by omega) (by decide) (by decide)).mono ?_)
   rintro e X8 ⟨rfl,hb⟩
   have HB:=lh9 (zaa HB.out hb)
   have HV2:=lh9 (HV2.out.keep hb)
   have HV4:=lh9 (HV4.out.keep hb)
   have HV6:=lh9 (HV6.out.keep hb)
   have hW0:=lh9 (zaa hW0.out hb)
   clear hb 
   go_wp2_with fail
   (with_reducible refine (zaM HD.out (HT.out _ HB.out) HV4.out HV2.out HSA1.out HSA0.out (by omega) (by omega) (by decide) (by decide)).mono ?_)
   rintro e X9 ⟨rfl,hb⟩
   have HB:=lh9 (zaa HB.out hb)
   have HV2:=lh9 (HV2.out.keep hb)
   have HV4:=lh9 (HV4.out.keep hb)
   have HV6:=lh9 (HV6.out.keep hb)
   have hW0:=lh9 (zaa hW0.out hb)
   clear hb 
   go_wp2_with fail
   (with_reducible refine (zaM HC.out (HT.out _ HB.out) HV2.out HV4.out HSA0.out HSA1.out (by omega) (by omega) (by decide) (by decide)).mono ?_)
   rintro e X10 ⟨rfl,hb⟩
   have HB:=lh9 (zaa HB.out hb)
   have HV2:=lh9 (HV2.out.keep hb)
   have HV4:=lh9 (HV4.out.keep hb)
   have HV6:=lh9 (HV6.out.keep hb)
   have hW0:=lh9 (zaa hW0.out hb)
   clear hb 
   go_wp2
   go_meet
   exact ⟨rfl,hW0.out⟩
 case rest =>
  clear HCASE kb1
  obtain ⟨rfl,hb⟩:=hcut
  obtain ⟨wk,hwq⟩ : ∃ x,x = wc:=⟨_,rfl⟩
  subst hwq
  have HB:=lh9 (zaa HB.out hb)
  have HV2:=lh9 (HV2.out.keep hb)
  have HV4:=lh9 (HV4.out.keep hb)
  have HV6:=lh9 (HV6.out.keep hb)
  clear hb HC HD HE HF
  clear HV4 HV6
  go_wp2_with fail
  (with_reducible refine (vec_copy (HT.out _ HB.out) HV2.out HSA0.out (by omega) (by decide)).mono ?_)
  rintro e W1 ⟨gq,rfl,hgq,hrow,hBc⟩
  go_wp2_with fail
  have HIL : Hid ((zeU X).length = n0):=incL_len HL0.out
  rw [← zjf (zeU X) X] at hrow
  go_loopg [11] (n0 + 1) (fun g ix wr => ∃ (k : Nat),k ≤ n0 ∧ n0 < g + k ∧ ix = .int .i64 k ∧ zbF wr gq n0 (zeC (zeU X) X k) ∧ Below wk.heap.size wk wr)
  case atStart => exact ⟨0,Nat.zero_le _,by omega,rfl,hrow,hBc⟩
  case round =>
   clear hrow hBc
   obtain ⟨k,hkn,hg,rfl,hrow,hBc⟩:=hrel
   by_cases hlt : k < n0
   ·obtain ⟨b1,B1,m1,d1,E1,u1,v1,hc0,hc1,hc2,hx⟩:=hrow.num k _ (mixed_at HIL.out HL0.out hlt)
    have hd1 : decide ((k : Int) < (n0 : Int)) = true:=decide_eq_true (by omega)
    have i1 : (0 : Int) ≤ (k : Int):=by omega
    have i2 : (k : Int) < (n0 : Int):=by omega
    have HSK : Hid (SzQ 1 (X.getD k 0)):=HSA0.out.at_ (by rw [HL0.out]; exact hlt)
    have HIA : Hid ((zeU X)[k]? = some (X.getD k 0 + 1)):=incL_at (by rw [HL0.out]; exact hlt)
    have hbd:=(Below.refl wr.heap.size wr).drew
    have HROW:=lh9 (hrow.keep hbd)
    have HB1:=lh9 (zaa hBc hbd)
    have HX:=lh9 (hx.below hbd)
    have HCC:=lh9 (And.intro (zab hbd hc0) (And.intro (zab hbd hc1) (zab hbd hc2)))
    clear hrow hBc hx hbd hc0 hc1 hc2
    go_wp2_with fail
    refine rg csn (fun hHeld => ?_)
    generalize wr.drew = D at *
    refine tk 0 ?_
    refine tk 1 ?_
    refine tk 2 ?_
    refine tk 3 ?_
    refine tk 4 ?_
    refine rcb 5 6 (fun KK hK => ?_) (fun KK hK => ?_)
    ·obtain ⟨hc0,hc1,hc2⟩:=HCC.out
     go_simp
     clear hc0 hc1 hc2
     refine hK.out _ _ csn (fun hHeld => ?_)
     clear hK KK
     refine rc 6 (fun KK hK => ?_)
     go_simp
     (with_reducible refine (zfw 1 _ (HT.out _ (zaa HB.out HB1.out)) (by decide) (by decide)).mono ?_)
     rintro e D2 ⟨b2,A2,n2,c2,E2,k2,f2,rfl,hi,hb⟩
     refine hK.out _ _ csn (fun hHeld => ?_)
     clear hK KK
     have HROW:=lh9 (HROW.out.keep hb)
     have HB1:=lh9 (zaa HB1.out hb)
     have HX:=lh9 (HX.out.below hb)
     have HI : Hid (zak D2 (1 : Rat) b2 A2 n2 c2 E2 k2 f2):=hi
     have HCC:=lh9 (And.intro (zab hb HCC.out.1) (And.intro (zab hb HCC.out.2.1) (zab hb HCC.out.2.2)))
     clear hi hb
     refine rc 7 (fun KK hK => ?_)
     go_simp
     (with_reducible refine (zin (HT.out _ (zaa HB.out HB1.out)) HX.out HI.out HSK.out zjl (by decide) (by decide)).mono ?_)
     rintro e D4 ⟨b3,A3,n3,c3,E3,k3,f3,rfl,hw3,hb⟩
     refine hK.out _ _ csn (fun hHeld => ?_)
     clear hK KK
     refine tk 8 ?_
     have hr3:=HROW.out.keep hb
     obtain ⟨q0,q1,q2,sc0,sf0,sc1,sf1,sc2,sf2⟩:=hr3.ready hlt (.bool b3) (.slice A3 n3 c3)
     have hr4:=zaP.set_ zaZ hr3 hlt hw3
     rw [zgF HIL.out HL0.out hlt _ HIA.out] at hr4
     have HR4:=lh9 hr4
     have HB4:=lh9 (zbJ (k * 3) (k * 3 + 1) (k * 3 + 2) (.bool b3) (.slice A3 n3 c3) (.slice E3 k3 f3) hgq (zaa HB1.out hb))
     clear hr3 hr4 hw3 hb
     refine rc 9 (fun KK hK => ?_)
     go_simp
     refine hK.out _ _ csn (fun hHeld => ?_)
     clear hK KK
     refine rdn ?_
     clear sc0 sf0 sc1 sf1 sc2 sf2 hHeld HX HI HROW HB1 HCC
     go_wp2
     go_roundg (n0 - k)
     case measure => omega
     case rel => exact ⟨k + 1,by omega,by omega,by go_num,HR4.out,HB4.out⟩
    ·go_simp
     (with_reducible refine (zfw 1 _ (HT.out _ (zaa HB.out HB1.out)) (by decide) (by decide)).mono ?_)
     rintro e D2 ⟨b2,A2,n2,c2,E2,k2,f2,rfl,hi,hb⟩
     refine hK.out _ _ csn (fun hHeld => ?_)
     clear hK KK
     have HROW:=lh9 (HROW.out.keep hb)
     have HB1:=lh9 (zaa HB1.out hb)
     have HX:=lh9 (HX.out.below hb)
     have HI : Hid (zak D2 (1 : Rat) b2 A2 n2 c2 E2 k2 f2):=hi
     have HCC:=lh9 (And.intro (zab hb HCC.out.1) (And.intro (zab hb HCC.out.2.1) (zab hb HCC.out.2.2)))
     clear hi hb
     refine rc 5 (fun KK hK => ?_)
     obtain ⟨hc0,hc1,hc2⟩:=HCC.out
     go_simp
     clear hc0 hc1 hc2
     refine hK.out _ _ csn (fun hHeld => ?_)
     clear hK KK
     refine rc 7 (fun KK hK => ?_)
     go_simp
     (with_reducible refine (zin (HT.out _ (zaa HB.out HB1.out)) HX.out HI.out HSK.out zjl (by decide) (by decide)).mono ?_)
     rintro e D4 ⟨b3,A3,n3,c3,E3,k3,f3,rfl,hw3,hb⟩
     refine hK.out _ _ csn (fun hHeld => ?_)
     clear hK KK
     refine tk 8 ?_
     have hr3:=HROW.out.keep hb
     obtain ⟨q0,q1,q2,sc0,sf0,sc1,sf1,sc2,sf2⟩:=hr3.ready hlt (.bool b3) (.slice A3 n3 c3)
     have hr4:=zaP.set_ zaZ hr3 hlt hw3
     rw [zgF HIL.out HL0.out hlt _ HIA.out] at hr4
     have HR4:=lh9 hr4
     have HB4:=lh9 (zbJ (k * 3) (k * 3 + 1) (k * 3 + 2) (.bool b3) (.slice A3 n3 c3) (.slice E3 k3 f3) hgq (zaa HB1.out hb))
     clear hr3 hr4 hw3 hb
     refine rc 9 (fun KK hK => ?_)
     go_simp
     refine hK.out _ _ csn (fun hHeld => ?_)
     clear hK KK
     refine rdn ?_
     clear sc0 sf0 sc1 sf1 sc2 sf2 hHeld HX HI HROW HB1 HCC
     go_wp2
     go_roundg (n0 - k)
     case measure => omega
     case rel => exact ⟨k + 1,by omega,by omega,by go_num,HR4.out,HB4.out⟩
   ·have hk : k = n0:=by omega
    subst hk
    have hd1 : decide ((k : Int) < (k : Int)) = false:=by simp
    rw [zkF HIL.out HL0.out] at hrow
    have HW:=lh9 (zaH hrow)
    have hb:=hBc
    have HB:=lh9 (zaa HB.out hb)
    have HV2:=lh9 (HV2.out.keep hb)
    clear hb hBc hrow
    have HIS : Hid (zao 3 (zeU X)):=incL_sz HSA0.out
    by_cases hn00 : k = 0
    ·have kb6 : ((k : Int) == 0) = true:=by rw [beq_iff_eq]; omega
     clear hn00
     go_wp2_with fail
     (with_reducible refine (HX0.out ▸ zbj (HT.out _ HB.out) (HA0.out _ HB.out)).mono ?_)
     rintro e X209 ⟨A208,c208,rfl,hv208,-,hb⟩
     have HB:=lh9 (zaa HB.out hb)
     have HV2:=lh9 (HV2.out.keep hb)
     have HW:=lh9 (HW.out.keep hb)
     have HV208:=lh9 (hv208)
     clear hb hv208
     go_wp2_with fail
     (with_reducible refine (zbU (decide_eq_true rfl) (HT.out _ HB.out) HV2.out HV208.out HSA0.out HSA0.out (by omega) (by omega) (by decide) (by decide)).mono ?_)
     rintro e X210 ⟨rfl,hb⟩
     have HB:=lh9 (zaa HB.out hb)
     have HV2:=lh9 (HV2.out.keep hb)
     have HW:=lh9 (HW.out.keep hb)
     have HV208:=lh9 (HV208.out.keep hb)
     clear hb 
     go_wp2
     go_ret
     exact ⟨rfl,HB.out⟩
    ·have kb6 : ((k : Int) == 0) = false:=by rw [beq_eq_false_iff_ne]; omega
     have E2 : Hid (decide (zeU X = X) = false):=decide_eq_false (incL_ne (by rw [HL0.out]; omega))
     clear hn00
     go_wp2_with fail
     (with_reducible refine (HX0.out ▸ zbj (HT.out _ HB.out) (HA0.out _ HB.out)).mono ?_)
     rintro e X209 ⟨A208,c208,rfl,hv208,-,hb⟩
     have HB:=lh9 (zaa HB.out hb)
     have HV2:=lh9 (HV2.out.keep hb)
     have HW:=lh9 (HW.out.keep hb)
     have HV208:=lh9 (hv208)
     clear hb hv208
     go_wp2_with fail
     (with_reducible refine (zbU (decide_eq_true rfl) (HT.out _ HB.out) HV2.out HV208.out HSA0.out HSA0.out (by omega) (by omega) (by decide) (by decide)).mono ?_)
     rintro e X210 ⟨rfl,hb⟩
     have HB:=lh9 (zaa HB.out hb)
     have HV2:=lh9 (HV2.out.keep hb)
     have HW:=lh9 (HW.out.keep hb)
     have HV208:=lh9 (HV208.out.keep hb)
     clear hb 
     go_wp2_with fail
     (with_reducible refine (zbU E2.out (HT.out _ HB.out) HW.out HV2.out HIS.out HSA0.out (by omega) (by omega) (by decide) (by decide)).mono ?_)
     rintro e X211 ⟨rfl,hb⟩
     have HB:=lh9 (zaa HB.out hb)
     have HV2:=lh9 (HV2.out.keep hb)
     have HW:=lh9 (HW.out.keep hb)
     have HV208:=lh9 (HV208.out.keep hb)
     clear hb 
     go_wp2
     go_ret
     exact ⟨rfl,HB.out⟩
end Go.Proofs.YtkiedljcgkoaiaaGreatDoor
