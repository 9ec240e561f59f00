/- What this claim leans on. -/
import Derived.Test.YtkiedljcgkoaiaaGreatDoorTVAwake
import Derived.Test.YtkiedljcgkoaiaaGreatDoorTVVecs
namespace Go.Proofs.YtkiedljcgkoaiaaGreatDoor
open Go Go.RowKit
set_option maxHeartbeats 16000000
set_option maxRecDepth 100000
set_option linter.unusedVariables false
set_option linter.unusedSimpArgs false
theorem zfX (A0 : oA9) (n0 c0 : Nat) (L0 : List (Int × Int)) (A1 : oA9) (n1 c1 : Nat) (R1 : Nat → oA9 × Nat × Nat × List (Int × Int)) (w : World) (h0 : zaF w A0 n0 c0 L0) (h1 : zde w A1 n1 c1 R1) (p0 : 6 < n1) (hT : zam w) :
  Calls Tryz.prog 7 #[.slice A0 n0 c0,.slice A1 n1 c1] w fun e w' => e = .returned (.bool true) ∧ Below w.heap.size w w':=by
 have hn0 : n0 ≤ 1048576:=Nat.le_trans h0.fits h0.small
 have hl0 : (zbO L0).length = n0:=by rw [zbz]; exact h0.len
 have HL0:=lh9 hl0
 clear hl0
 have HSA0:=lh9 (zcR h0)
 have HA0:=lh9 (fun w' (hb : Below w.heap.size w w') => h0.below hb)
 have d1 : decide ((n1 : Int) > 6) = true:=decide_eq_true (by omega)
 have d2 : decide ((6 : Int) < (n1 : Int)) = true:=decide_eq_true (by omega)
 have d3 : decide (6 < n1) = true:=decide_eq_true (by omega)
 have HT:=lh9 (fun w' (hb : Below w.heap.size w w') => hT.on hb)
 have HB:=lh9 (Below.refl w.heap.size w)
 clear hT h1 h0 p0
 go_enter Tryz.func7,Tryz.ntmps7
 go_wp2_with fail
 (with_reducible refine (zcE (HT.out _ HB.out)).mono ?_)
 rintro e X1 ⟨rfl,hb⟩
 have HB:=lh9 (zac HB.out hb)
 clear hb 
 go_wp2
 go_ret
 exact ⟨rfl,HB.out⟩
theorem zgk (A0 : oA9) (n0 c0 : Nat) (L0 : List (Int × Int)) (A1 : oA9) (n1 c1 : Nat) (R1 : Nat → oA9 × Nat × Nat × List (Int × Int)) (w : World) (h0 : zaF w A0 n0 c0 L0) (h1 : zde w A1 n1 c1 R1) (p0 : n1 ≤ 6) (hT : zam w) :
  Calls Tryz.prog 7 #[.slice A0 n0 c0,.slice A1 n1 c1] w fun e w' => e = .returned (.bool true) ∧ Below w.heap.size w w':=by
 have hn0 : n0 ≤ 1048576:=Nat.le_trans h0.fits h0.small
 have hl0 : (zbO L0).length = n0:=by rw [zbz]; exact h0.len
 have HL0:=lh9 hl0
 clear hl0
 have HSA0:=lh9 (zcR h0)
 have HA0:=lh9 (fun w' (hb : Below w.heap.size w w') => h0.below hb)
 have d1 : decide ((n1 : Int) > 6) = false:=decide_eq_false (by omega)
 have d2 : decide ((6 : Int) < (n1 : Int)) = false:=decide_eq_false (by omega)
 have d3 : decide (6 < n1) = false:=decide_eq_false (by omega)
 obtain ⟨i1',hi1,hz10,hz11,hz12⟩:=info_parts infoV10
 have HR : Hid (∀ w',Below w.heap.size w w' → ∀ r,r < n1 → ∃ ad,A1 = some ad ∧ w'.cell? (ad.add r) = some (.slice (R1 r).1 (R1 r).2.1 (R1 r).2.2.1) ∧ zaF w' (R1 r).1 (R1 r).2.1 (R1 r).2.2.1 (R1 r).2.2.2):=fun w' hb r hr => by
  obtain ⟨ad,e,hk,h2,h3⟩:=h1.row r hr
  exact ⟨ad,e,zad hb h2,h3.below hb⟩
 have HRL : Hid (∀ r,r < n1 → (zbO (R1 r).2.2.2).length = (R1 r).2.1 ∧ (R1 r).2.1 ≤ 1048576 ∧ zau 1 (zbO (R1 r).2.2.2)):=fun r hr => by
  obtain ⟨ad,e,hk,h2,h3⟩:=h1.row r hr
  exact ⟨by rw [zbz]; exact h3.len,Nat.le_trans h3.fits h3.small,zcR h3⟩
 have HG0 : Hid (∀ w',Below w.heap.size w w' → ∀ k,k < n0 → ∃ ad,A0 = some ad ∧ zbc (L0.getD k (0,0)).1 ∧ zbc (L0.getD k (0,0)).2 ∧ (zbO L0).getD k 0 = qOf (L0.getD k (0,0)).1 (L0.getD k (0,0)).2 ∧ w'.cell? (ad.add (k * 2)) = some (.int .i64 (L0.getD k (0,0)).1) ∧ w'.cell? ⟨(ad.add (k * 2)).block,(ad.add (k * 2)).off + 1,none⟩ = some (.int .i64 (L0.getD k (0,0)).2)):=fun w' hb k hk => by
  have hl:=h0.len
  have e : L0[k]? = some (L0.getD k (0,0)):=zcB (by omega)
  obtain ⟨ad,e2,hk2,hc0,hc1⟩:=h0.row k _ e
  obtain ⟨hi,hj⟩:=h0.ints _ (List.mem_of_getElem? e)
  exact ⟨ad,e2,hi,hj,by unfold zbO; rw [List.getD_eq_getElem?_getD,List.getElem?_map,e]; rfl,zad hb hc0,zfB (zad hb hc1)⟩
 obtain ⟨m,hm⟩ : ∃ m,(R1 0).2.1 = m:=⟨_,rfl⟩
 have HM:=lh9 hm
 clear hm
 obtain ⟨X,hx0⟩ : ∃ X,zbO L0 = X:=⟨_,rfl⟩
 rw [hx0] at HL0 HSA0 HG0
 have HX0:=lh9 hx0
 clear hx0
 have HT:=lh9 (fun w' (hb : Below w.heap.size w w') => hT.on hb)
 have HB:=lh9 (Below.refl w.heap.size w)
 clear hT h1 h0
 go_enter Tryz.func7,Tryz.ntmps7
 go_wp2_with fail
 (with_reducible refine (zcE (HT.out _ HB.out)).mono ?_)
 rintro e X1 ⟨rfl,hb⟩
 have HB:=lh9 (zac HB.out hb)
 clear hb 
 go_upto_region 6 with fail
 go_cut [6,19,20,21,22,23,24,25,26,27,28] (fun s6 s19 s20 s21 s22 s23 s24 s25 s26 s27 s28 wx => s6 = .bool (zcN n0 n1 R1 0) ∧ Below X1.heap.size X1 wx)
 case first =>
  have hW:=Below.refl X1.heap.size X1
  clear HR HRL HG0 HX0 HL0 HSA0 HA0 HT HB HM hi1 hz10 hz11 hz12
  by_cases hq : n0 = n1
  ·have e0 : ((n0 : Int) == (n1 : Int)) = true:=by rw [beq_iff_eq]; omega
   have ef : zcN n0 n1 R1 0 = decide (0 < n1):=by unfold zcN; rw [decide_eq_true hq]; simp
   clear hq
   by_cases hq2 : 0 < n1
   ·have e1 : decide ((n1 : Int) > 0) = true:=decide_eq_true (by omega)
    have e2 : decide ((0 : Int) < (n1 : Int)) = true:=decide_eq_true (by omega)
    have e3 : decide (0 < n1) = true:=decide_eq_true hq2
    rw [e3] at ef
    clear hq2
    go_wp2
    go_meet
    exact ⟨by rw [ef],hW⟩
   ·have e1 : decide ((n1 : Int) > 0) = false:=decide_eq_false (by omega)
    have e2 : decide ((0 : Int) < (n1 : Int)) = false:=decide_eq_false (by omega)
    have e3 : decide (0 < n1) = false:=decide_eq_false hq2
    rw [e3] at ef
    clear hq2
    go_wp2
    go_meet
    exact ⟨by rw [ef],hW⟩
  ·have e0 : ((n0 : Int) == (n1 : Int)) = false:=by rw [beq_eq_false_iff_ne]; omega
   have ef : zcN n0 n1 R1 0 = false:=by unfold zcN; rw [decide_eq_false hq]; simp
   clear hq
   go_wp2
   go_meet
   exact ⟨by rw [ef],hW⟩
 case rest =>
  obtain ⟨rfl,hb⟩:=hcut
  obtain ⟨wk,hwq⟩ : ∃ x,x = wc:=⟨_,rfl⟩
  subst hwq
  have HB:=lh9 (zac HB.out hb)
  clear hb
  obtain ⟨fb0,hfb0⟩ : ∃ b,zcN n0 n1 R1 0 = b:=⟨_,rfl⟩
  rw [hfb0]
  go_wp2_with fail
  go_loopg [5,6,7] (n1 + 1) (fun g sl s6 ix wr => ∃ (k : Nat) (v : Value) (vs : List Value) (fb : Bool),k ≤ n1 ∧ n1 < g + k ∧ ix = .int .i64 k ∧ v = sl ∧ s6 = .bool fb ∧ Hid (zcN n0 n1 R1 k = fb) ∧ zbD wr w.heap.size v (zej R1 k) vs ∧ Below w.heap.size w wr)
  case atStart => exact ⟨0,_,_,fb0,Nat.zero_le _,by omega,rfl,rfl,rfl,hfb0,zbD.nil _ _,HB.out⟩
  case round =>
   clear hfb0
   obtain ⟨k,v,vs,fb,hkn,hg,rfl,rfl,rfl,hfb,hon,hBk⟩:=hrel
   by_cases hlt : k < n1
   ·obtain ⟨ad,rfl,hck,hak⟩:=HR.out wr hBk k hlt
    have hd1 : decide ((k : Int) < (n1 : Int)) = true:=decide_eq_true (by omega)
    have i1 : (0 : Int) ≤ (k : Int):=by omega
    have i2 : (k : Int) < (n1 : Int):=by omega
    have i3 : (0 : Int) < (n1 : Int):=by omega
    have i4 : 0 < n1:=by omega
    have HC0 : Hid (∀ w',Below w.heap.size w w' → w'.cell? ad = some (.slice (R1 0).1 m (R1 0).2.2.1)):=fun w' hb => by
     obtain ⟨ad2,e2,hc,-⟩:=HR.out w' hb 0 (by omega)
     obtain rfl : ad = ad2:=by injection e2
     rw [show ad.add 0 = ad from by unfold Addr.add; rw [if_pos rfl],HM.out] at hc
     exact hc
    have hrk:=HRL.out k hlt
    have HCK : Hid (∀ w',Below w.heap.size w w' → w'.cell? (ad.add k) = some (.slice (R1 k).1 (R1 k).2.1 (R1 k).2.2.1)):=fun w' hb => by
     obtain ⟨ad2,e2,hc,-⟩:=HR.out w' hb k hlt
     obtain rfl : ad = ad2:=by injection e2
     exact hc
    have HFS : Hid (zcN n0 n1 R1 (k + 1) = (fb && decide ((R1 k).2.1 = m))):=by show _ = _; rw [zlk,hfb.out,HM.out]
    have HRS : Hid (zej R1 (k + 1) = zej R1 k ++ [zbO (R1 k).2.2.2]):=zlN R1 k
    obtain ⟨q,hq⟩ : ∃ q,R1 k = q:=⟨_,rfl⟩
    rw [hq] at hck hak hrk HFS HRS HCK
    obtain ⟨Ak,nk,ck,Lk⟩:=q
    dsimp only at hck hak hrk HFS HRS HCK
    obtain ⟨hlk,hnk,hsk⟩:=hrk
    have HAK:=lh9 hak
    have HLK:=lh9 hlk
    have HB1:=lh9 hBk
    have HON:=lh9 hon
    have hrl : (zej R1 k).length = k:=zgj R1 k
    have HRL2:=lh9 hrl
    clear hq hak hlk hsk hon hBk hfb hrl
    go_wp2_with fail
    (with_reducible refine (zdU (HT.out _ HB1.out) HAK.out).mono ?_)
    rintro e w5 ⟨A5,c5,rfl,hv5,-,hb⟩
    have HB5:=lh9 (zac HB1.out hb)
    have HON5:=lh9 (HON.out.below hb)
    have HBK5:=lh9 hb
    have HV5:=lh9 hv5
    have hown:=HON5.out.own
    rw [HRL2.out] at hown
    obtain ⟨t1,t2,-⟩:=zaR w5 27 #[.slice A5 nk c5]
    have HBA:=lh9 (zac HBK5.out t1)
    have HB6:=lh9 (zac HB5.out t1)
    have HON6:=lh9 (HON5.out.below t1)
    have HV6:=lh9 (HV5.out.keep t1)
    have hown:=HON6.out.own
    rw [HRL2.out] at hown
    have HOWN:=lh9 hown
    have HSL:=lh9 HON6.out.sl
    have HCELL:=lh9 (zce w5 (.slice A5 nk c5) 27)
    have HBS:=lh9 HB6.out.size
    have HOB:=lh9 (fun r (h : v.ownBlock = some r) => HON6.out.own.lt r h)
    have HZS : Hid (∀ u ∈ (Value.slice none 0 0).cells.toList,zgU u):=by intro u hu; simp [Value.cells] at hu; exact ⟨_,_,_,hu⟩
    have HNN : Hid (∀ u ∈ [Value.slice A5 nk c5],zgU u):=by intro u hu; simp at hu; exact ⟨_,_,_,hu⟩
    have HONE : Hid (∀ u ∈ [Value.slice A5 nk c5],u.oneCell' = true):=by intro u hu; simp at hu; subst hu; rfl
    clear hb hv5 t1 t2 hown hck
    go_wp2_with (at_builtin; go_loud (refine zgo _ rfl (.tmp 35) (.tmp 41) 74 rfl w.heap.size 27 i1' (.slice none 0 0) 1 24 Tryz.underlying74 hi1 hz10 hz11 hz12 rfl (by decide) v k vs rfl HOWN.out ⟨w5.heap.size,0,none⟩ 1 1 [.slice A5 nk c5] rfl rfl HCELL.out HONE.out (by unfold maxLen; omega) (by omega) HBS.out HSL.out HZS.out HNN.out ?_; intro v' w8 hown' hgrow hat hsl'))
    have hgn : w5.heap.size ≤ w8.heap.size:=by have:=hgrow.size; simp at this; omega
    have hon8:=zbD.grow (n:=k + 1) (L:=zbO Lk) HON6.out (by rw [HLK.out]; exact HV6.out) (by rw [HLK.out]; exact hown') (by rw [HRL2.out]) hgrow hsl'
    rw [← HRS.out] at hon8
    have hB8:=HB6.out.grown hgrow HBS.out (fun r hr => (HOB.out r hr).1)
    have hBd:=(Below.refl w8.heap.size w8).drew
    have HON9:=lh9 (hon8.below hBd)
    have HB9:=lh9 (zac hB8 hBd)
    have hc0:=HC0.out _ HB9.out
    have hck:=HCK.out _ HB9.out
    clear hgn hon8 hB8 hBd hown' hgrow hat hsl' HON6 HV6 HOWN HSL HCELL HBS HOB HZS HNN HONE HB6 HBA HON5 HV5 HB5 HBK5
    cases fb
    ·refine rg csn (fun hHeld => ?_)
     clear hc0 hck
     generalize w8.drew = D at *
     refine tk 0 ?_
     refine tk 1 ?_
     refine tu 2 ?_
     refine tu 3 ?_
     refine tu 4 ?_
     refine tu 5 ?_
     refine tu 6 ?_
     refine tu 7 ?_
     refine tu 8 ?_
     refine tu 9 ?_
     refine tu 10 ?_
     refine tu 11 ?_
     refine tk 12 ?_
     refine tk 13 ?_
     refine rdn ?_
     clear hHeld
     go_wp2
     go_roundg (n1 - k)
     case measure => omega
     case rel => exact ⟨k + 1,_,_,false,by omega,by omega,by go_num,rfl,rfl,HFS.out,HON9.out,HB9.out⟩
    ·obtain ⟨bb,hbb⟩ : ∃ b,((nk : Int) == (m : Int)) = b:=⟨_,rfl⟩
     have hF9 : zcN n0 n1 R1 (k + 1) = bb:=by
      rw [HFS.out,← hbb]
      by_cases h9 : nk = m
      ·rw [decide_eq_true h9,beq_iff_eq.2 (show (nk : Int) = (m : Int) by omega)]; rfl
      ·rw [decide_eq_false h9,beq_eq_false_iff_ne.2 (show (nk : Int) ≠ (m : Int) by omega)]; rfl
     have HF9:=lh9 hF9
     clear hF9
     refine rg (csc hc0 (csc hck csn)) (fun hHeld => ?_)
     clear hc0 hck
     generalize w8.drew = D at *
     refine tk 0 ?_
     refine tk 1 ?_
     refine tk 2 ?_
     refine tk 3 ?_
     refine tk 4 ?_
     refine tk 5 ?_
     refine tk 6 ?_
     refine tk 7 ?_
     refine tk 8 ?_
     refine tk 9 ?_
     refine tk 10 ?_
     refine tk 11 ?_
     refine tk 12 ?_
     refine tk 13 ?_
     refine rdn ?_
     clear hHeld
     go_wp2
     go_roundg (n1 - k)
     case measure => omega
     case rel => exact ⟨k + 1,_,_,bb,by omega,by omega,by go_num,rfl,rfl,HF9.out,HON9.out,HB9.out⟩
   ·have hk : k = n1:=by omega
    subst hk
    have hd1 : decide ((k : Int) < (k : Int)) = false:=by simp
    obtain ⟨Av,cv,rfl,hvs⟩:=hon.shape (zgj R1 k)
    obtain ⟨LS,hLS⟩ : ∃ L,zej R1 k = L:=⟨_,rfl⟩
    rw [hLS] at hvs
    have HAT : Hid (∀ i,i < k → (LS.getD i []).length = (R1 i).2.1):=fun i hi => by rw [← hLS,rowsL_at R1 hi]; exact (HRL.out i hi).1
    have HLL : Hid (LS.length = k):=by show _ = _; rw [← hLS]; exact zgj R1 k
    have HSZ : Hid (∀ V ∈ LS,zau 1 V):=fun V hV => by
     rw [← hLS] at hV
     obtain ⟨i,hi,rfl⟩:=List.mem_map.1 hV
     exact (HRL.out i (List.mem_range.1 hi)).2.2
    have HVS:=lh9 hvs
    clear hLS hvs hon
    have HB:=lh9 hBk
    clear hBk
    go_wp2_with fail
    (with_reducible refine (HX0.out ▸ zdU (HT.out _ HB.out) (HA0.out _ HB.out)).mono ?_)
    rintro e X3 ⟨A2,c2,rfl,hv2,-,hb⟩
    have HB:=lh9 (zac HB.out hb)
    have HVS:=lh9 (HVS.out.below hb)
    have HV2:=lh9 (hv2)
    clear hb hv2
    cases fb
    ·have HCALL : ∀ (W : World) (A : oA9) (c : Nat),zam W → zaQ W A n0 c X → zdq W Av k LS → Hid (Calls Tryz.prog 40 #[.slice A n0 c,.slice Av k cv] W (zaT W)):=fun W A c hT hr hv => by
      rcases fitsB_no hfb.out with h | ⟨h1,h2,j,h3,h4,h5⟩
      ·exact zkR h
      ·subst h1
       have e0:=HAT.out 0 h2
       rw [HM.out] at e0
       refine zhP (m:=m) (j:=j) hT hr hv h2 e0 h3 (fun i hi => ?_) ?_ HSA0.out HSZ.out (by omega) (by have:=(HRL.out 0 h2).2.1; rw [HM.out] at this; omega) (by omega)
       ·rw [HAT.out i (by omega),h4 i hi,HM.out]
       ·rw [HAT.out j h3,← HM.out]; exact h5
     clear hfb
     go_wp2_with fail
     (with_reducible refine ((HCALL _ _ _ (HT.out _ HB.out) HV2.out HVS.out).out).mono ?_)
     rintro e X4 ⟨rfl,hb⟩
     have HB:=lh9 (zac HB.out hb)
     have HVS:=lh9 (HVS.out.below hb)
     have HV2:=lh9 (HV2.out.keep hb)
     clear hb 
     go_wp2
     go_ret
     exact ⟨rfl,HB.out⟩
    ·obtain ⟨hnn,hk0,hal⟩:=zmX hfb.out
     subst hnn
     have HN0 : Hid ((LS.getD 0 []).length = m):=by show _ = _; rw [HAT.out 0 hk0]; exact HM.out
     have HALL : Hid (∀ i,i < n0 → (LS.getD i []).length = m):=fun i hi => by rw [HAT.out i hi,hal i hi]; exact HM.out
     have hmm : m ≤ 1048576:=by have:=(HRL.out 0 hk0).2.1; rw [HM.out] at this; exact this
     clear hal hfb HAT
     have HCZ : Hid (∀ j,j ≤ n0 → zau 19 (zbv m (X.take j) (LS.take j))):=fun j hj => (zgN m HSA0.out HSZ.out j (by rw [HL0.out]; exact hj) (by rw [HLL.out]; exact hj)).up (by omega)
     have HFIN : Hid (zbv m (X.take n0) (LS.take n0) = zbv m X LS):=by
      show _ = _
      rw [List.take_of_length_le (by rw [HL0.out]; omega),List.take_of_length_le (by rw [HLL.out]; omega)]
     have HCS : Hid (∀ j,j < n0 → zbv m (X.take (j + 1)) (LS.take (j + 1)) = zgp (zbv m (X.take j) (LS.take j)) (X.getD j 0) (LS.getD j [])):=fun j hj => zdT m X LS j (by rw [HL0.out]; exact hj) (by rw [HLL.out]; exact hj)
     have HS0 : Hid (zcs 0 (LS.getD 0 []) = zbv m (X.take 0) (LS.take 0)):=by show _ = _; rw [zhJ,HN0.out]; rfl
     have HZ0 : Hid (∀ j,j < n0 → zau 1 (LS.getD j [])):=fun j hj => HSZ.out _ (List.mem_of_getElem? (zcB (by rw [HLL.out]; exact hj)))
     obtain ⟨ar,Br,dr,rfl,hcr,hvr⟩:=HVS.out.get hk0 HN0.out
     rw [show ar.add 0 = ar from by unfold Addr.add; rw [if_pos rfl]] at hcr
     have HCR:=lh9 (hcr)
     have HVR:=lh9 (hvr)
     clear hcr hvr
     have i0 : (0 : Int) < (n0 : Int):=by omega
     have HS4 : Hid (zau (19) (zbv m X LS)):=by show zau _ _; rw [← HFIN.out]; exact HCZ.out n0 (Nat.le_refl _)
     go_wp2_with fail
     (with_reducible refine (zkQ (K:=1) (L:=1) (m:=m) (HT.out _ HB.out) HV2.out HVS.out hk0 HN0.out HALL.out HSA0.out HSZ.out (by omega) (by omega) (by omega)).mono ?_)
     rintro e X5 ⟨g4,rfl,hg4,ho4,hb⟩
     have HB:=lh9 (zac HB.out hb)
     have HVS:=lh9 (HVS.out.below hb)
     have HV2:=lh9 (HV2.out.keep hb)
     have HCR:=lh9 (zad hb HCR.out)
     have HVR:=lh9 (HVR.out.keep hb)
     have HV4:=lh9 (zaY ho4)
     clear hb hg4 ho4
     clear HV2
     go_wp2_with fail
     have hcr:=HCR.out
     have hbd:=(Below.refl X5.heap.size X5).drew
     have HB:=lh9 (zac HB.out hbd)
     have HVS:=lh9 (HVS.out.below hbd)
     have HCR:=lh9 (zad hbd HCR.out)
     have HVR:=lh9 (HVR.out.keep hbd)
     have HV4:=lh9 (HV4.out.keep hbd)
     refine rg (csc hcr csn) (fun hHeld => ?_)
     clear hbd hcr
     generalize X5.drew = D6 at *
     refine tk 1 ?_
     refine tk 2 ?_
     refine tk 3 ?_
     have HS7 : Hid (SzQ (1) (((0 : Int) : Rat))):=SzQ.zero
     refine rc 0 (fun KK hK => ?_)
     go_simp
     (with_reducible refine (zfO 0 _ (HT.out _ HB.out) (by decide) (by decide)).mono ?_)
     rintro e X8 ⟨b7,A7,n7,c7,E7,k7,f7,rfl,hw7,hb⟩
     refine hK.out _ _ (Cs.below hHeld hb) (fun hHeld => ?_)
     clear hK KK
     have HB:=lh9 (zac HB.out hb)
     have HVS:=lh9 (HVS.out.below hb)
     have HCR:=lh9 (zad hb HCR.out)
     have HVR:=lh9 (HVR.out.keep hb)
     have HV4:=lh9 (HV4.out.keep hb)
     have HQ7:=lh9 (hw7)
     clear hb hw7
     have HS9 : Hid (zau (2) (zcs 0 (LS.getD 0 []))):=(zau.scale HS7.out (HZ0.out 0 hk0)).up (by decide)
     refine rc 4 (fun KK hK => ?_)
     go_simp
     (with_reducible refine (ziK (r:=0) (HT.out _ HB.out) HQ7.out HVR.out HS7.out (HZ0.out 0 hk0) (by omega) (by decide) (by decide)).mono ?_)
     rintro e X10 ⟨g9,rfl,hg9,ho9,hb⟩
     refine hK.out _ _ (Cs.below hHeld hb) (fun hHeld => ?_)
     clear hK KK
     have HB:=lh9 (zac HB.out hb)
     have HVS:=lh9 (HVS.out.below hb)
     have HCR:=lh9 (zad hb HCR.out)
     have HVR:=lh9 (HVR.out.keep hb)
     have HV4:=lh9 (HV4.out.keep hb)
     have HQ7:=lh9 (HQ7.out.below hb)
     have HV9:=lh9 (zaY ho9)
     clear hb hg9 ho9
     refine tk 5 ?_
     refine rdn ?_
     clear hHeld
     have hsum:=HV9.out
     rw [HS0.out] at hsum
     clear HQ7 HV9 HCR HVR
     go_wp2_with fail
     go_loopg [10,11] (n0 + 1) (fun g sl ix wr => ∃ (k : Nat) (A : oA9) (c : Nat),k ≤ n0 ∧ n0 < g + k ∧ ix = .int .i64 k ∧ sl = .slice A m c ∧ zaQ wr A m c (zbv m (X.take k) (LS.take k)) ∧ Below X10.heap.size X10 wr)
     case atStart => exact ⟨0,_,_,Nat.zero_le _,by omega,rfl,rfl,hsum,Below.refl _ _⟩
     case round =>
      clear hsum
      obtain ⟨k,As,cs,hkn,hg,rfl,rfl,hsum,hb⟩:=hrel
      have HB:=lh9 (zac HB.out hb)
      have HVS:=lh9 (HVS.out.below hb)
      have HV4:=lh9 (HV4.out.keep hb)
      have HBW:=lh9 (hb)
      have HSUM:=lh9 (hsum)
      clear hb hsum
      by_cases hlt : k < n0
      ·obtain ⟨ad,rfl,hi,hj,hxk,hc0,hc1⟩:=HG0.out _ HB.out k hlt
       obtain ⟨ar2,Bk,dk,e2,hck,hvk⟩:=HVS.out.get hlt (HALL.out k hlt)
       obtain rfl : ar = ar2:=by injection e2
       have HCK9:=lh9 (HCS.out k hlt)
       rw [hxk] at HCK9
       obtain ⟨q,hq⟩ : ∃ q,L0.getD k (0,0) = q:=⟨_,rfl⟩
       rw [hq] at hi hj hc0 hc1 HCK9
       obtain ⟨p,q⟩:=q
       dsimp only at hi hj hc0 hc1 HCK9
       have HI:=lh9 hi
       have HJ:=lh9 hj
       have HPQ : Hid (SzQ 1 (qOf p q)):=qOf_sz hi.1 hi.2 hj.1 hj.2
       have hd1 : decide ((k : Int) < (n0 : Int)) = true:=decide_eq_true (by omega)
       have i1 : (0 : Int) ≤ (k : Int):=by omega
       have i2 : (k : Int) < (n0 : Int):=by omega
       have HVK:=lh9 (hvk)
       clear hvk hi hj hxk hq e2
       go_wp2_with fail
       have hbd:=(Below.refl wr.heap.size wr).drew
       have HB:=lh9 (zac HB.out hbd)
       have HVS:=lh9 (HVS.out.below hbd)
       have HV4:=lh9 (HV4.out.keep hbd)
       have HBW:=lh9 (zac HBW.out hbd)
       have HSUM:=lh9 (HSUM.out.keep hbd)
       have HVK:=lh9 (HVK.out.keep hbd)
       refine rg (csc hc0 (csc hc1 (csc hck csn))) (fun hHeld => ?_)
       clear hbd hc0 hc1 hck
       generalize wr.drew = D11 at *
       refine tk 0 ?_
       refine tk 1 ?_
       refine tk 2 ?_
       refine tk 3 ?_
       refine tk 4 ?_
       refine tk 6 ?_
       refine tk 7 ?_
       refine tk 8 ?_
       refine tk 9 ?_
       have HS12 : Hid (SzQ (1) (qOf p q)):=HPQ.out
       refine rc 5 (fun KK hK => ?_)
       go_simp
       (with_reducible refine (ziq (HT.out _ HB.out) HI.out HJ.out).mono ?_)
       rintro e X13 ⟨b12,A12,n12,c12,E12,k12,f12,rfl,hw12,hb⟩
       refine hK.out _ _ (Cs.below hHeld hb) (fun hHeld => ?_)
       clear hK KK
       have HB:=lh9 (zac HB.out hb)
       have HVS:=lh9 (HVS.out.below hb)
       have HV4:=lh9 (HV4.out.keep hb)
       have HBW:=lh9 (zac HBW.out hb)
       have HSUM:=lh9 (HSUM.out.keep hb)
       have HVK:=lh9 (HVK.out.keep hb)
       have HQ12:=lh9 (hw12)
       clear hb hw12
       have HS14 : Hid (zau (22) (zgp (zbv m (X.take k) (LS.take k)) (qOf p q) (LS.getD k []))):=(zau.addT (HCZ.out k hkn) HPQ.out (HZ0.out k hlt)).up (by decide)
       refine rc 10 (fun KK hK => ?_)
       go_simp
       (with_reducible refine (zhO (HT.out _ HB.out) HSUM.out HQ12.out HVK.out (HCZ.out k hkn) HPQ.out (HZ0.out k hlt) (by omega) (by decide) (by decide)).mono ?_)
       rintro e X15 ⟨g14,rfl,hg14,ho14,hb⟩
       refine hK.out _ _ (Cs.below hHeld hb) (fun hHeld => ?_)
       clear hK KK
       have HB:=lh9 (zac HB.out hb)
       have HVS:=lh9 (HVS.out.below hb)
       have HV4:=lh9 (HV4.out.keep hb)
       have HBW:=lh9 (zac HBW.out hb)
       have HSUM:=lh9 (HSUM.out.keep hb)
       have HVK:=lh9 (HVK.out.keep hb)
       have HQ12:=lh9 (HQ12.out.below hb)
       have HV14:=lh9 (zaY ho14)
       clear hb hg14 ho14
       refine tk 11 ?_
       refine tk 12 ?_
       refine tk 14 ?_
       refine tk 13 ?_
       refine tk 15 ?_
       refine rdn ?_
       clear hHeld
       have hnew:=HV14.out
       rw [← HCK9.out] at hnew
       have HNEW:=lh9 hnew
       clear hnew
       go_wp2
       go_roundg (n0 - k)
       case measure => omega
       case rel => exact ⟨k + 1,_,_,by omega,by omega,by go_num,rfl,HNEW.out,HBW.out⟩
      ·have hk : k = n0:=by omega
       subst hk
       have hd1 : decide ((k : Int) < (k : Int)) = false:=by simp
       have hsum:=HSUM.out
       rw [HFIN.out] at hsum
       have HSUM:=lh9 hsum
       clear hsum
       go_wp2_with fail
       (with_reducible refine (zeb (decide_eq_true rfl) (HT.out _ HB.out) HV4.out HSUM.out HS4.out HS4.out (by omega) (by omega) (by decide) (by decide)).mono ?_)
       rintro e X11 ⟨rfl,hb⟩
       have HB:=lh9 (zac HB.out hb)
       have HVS:=lh9 (HVS.out.below hb)
       have HV4:=lh9 (HV4.out.keep hb)
       have HBW:=lh9 (zac HBW.out hb)
       have HSUM:=lh9 (HSUM.out.keep hb)
       clear hb 
       go_wp2
       go_ret
       exact ⟨rfl,HB.out⟩
theorem vecCombines_core (A0 : oA9) (n0 c0 : Nat) (L0 : List (Int × Int)) (A1 : oA9) (n1 c1 : Nat) (R1 : Nat → oA9 × Nat × Nat × List (Int × Int)) (w : World) (h0 : zaF w A0 n0 c0 L0) (h1 : zde w A1 n1 c1 R1) (hT : zam w) :
  Calls Tryz.prog 7 #[.slice A0 n0 c0,.slice A1 n1 c1] w fun e w' => e = .returned (.bool true) ∧ Below w.heap.size w w':=by
 by_cases p0 : n1 ≤ 6
 ·exact zgk A0 n0 c0 L0 A1 n1 c1 R1 w h0 h1 p0 hT
 ·exact zfX A0 n0 c0 L0 A1 n1 c1 R1 w h0 h1 (by omega) hT
end Go.Proofs.YtkiedljcgkoaiaaGreatDoor
