/- What this claim leans on. -/
import Derived.Test.YtkiedljcgkoaiaaGreatDoorXVOne
import Derived.Test.YtkiedljcgkoaiaaGreatDoorXVAwake
namespace Go.Proofs.YtkiedljcgkoaiaaGreatDoor
open Go Go.RowKit
set_option maxHeartbeats 16000000
set_option maxRecDepth 100000
set_option linter.unusedVariables false
set_option linter.unusedSimpArgs false
section
variable {K : Nat} {xs : List Rat} {A : oA9} {n c : Nat} {w : World}
theorem ziC {z : Int} (hz : zcq xs = z) (hT : zaj w) (ha : zaL w A n c xs) (hx : zao K xs) (hn : n ≤ 1073741824:=by omega) (hK : K ≤ 67108864:=by omega) :
  Calls Tryz.prog 29 #[.slice A n c] w (zbp w z):=by
 have hla:=ha.len
 have HLA:=lh9 hla
 have HZ:=lh9 hz
 have HSX : Hid (∀ i,i < n → SzQ K (xs.getD i 0)):=fun i hi => hx.at_ (by omega)
 unfold zbp
 have HA:=lh9 ha
 have HT:=lh9 (fun w' (hb : Below w.heap.size w w') => hT.on hb)
 clear hT ha hx hla hz
 have hB:=Below.refl w.heap.size w
 have i0 : (0 : Int) ≤ (n : Int):=by omega
 go_enter Tryz.func29,Tryz.ntmps29
 go_wp2_with fail
 go_loopg [7] (n + 1) (fun g ix wr => ∃ (k : Nat),k ≤ n ∧ n < g + k ∧ ix = .int .i64 k ∧ Hid (∀ j,j < k → xs.getD j 0 = 0) ∧ Below w.heap.size w wr)
 case atStart => exact ⟨0,Nat.zero_le _,by omega,rfl,fun j hj => by omega,hB⟩
 case round =>
  clear hB
  obtain ⟨k,hkn,hg,rfl,hz0,hB⟩:=hrel
  by_cases hlt : k < n
  ·obtain ⟨ad,b1,B1,m1,d1,E1,u1,v1,rfl,-,hc0,hc1,hc2,hx⟩:=HA.out.get hB hlt
   have hd1 : decide ((k : Int) < (n : Int)) = true:=decide_eq_true (by omega)
   have i1 : (0 : Int) ≤ (k : Int):=by omega
   have i2 : (k : Int) < (n : Int):=by omega
   obtain ⟨st,d3,d4⟩:=zaG wr 44 #[.bool b1,.slice B1 m1 d1,.slice E1 u1 v1]
   obtain ⟨p0,p1,p2⟩:=d3.c3
   have HX:=lh9 (hx.below st)
   have HB1:=lh9 (zaa hB st)
   clear hx hB st d3 d4
   by_cases h0 : xs.getD k 0 = 0
   ·have HQ:=lh9 (decide_eq_true h0)
    have HZ1 : Hid (∀ j,j < k + 1 → xs.getD j 0 = 0):=fun j hj => by
     by_cases e : j = k
     ·rw [e]; exact h0
     ·exact hz0 j (by omega)
    clear h0
    go_wp2_with fail
    (with_reducible refine (zjp HQ.out (HT.out _ HB1.out) HX.out (HSX.out k hlt) hK).mono ?_)
    rintro e w3 ⟨rfl,hb⟩
    have HB2:=lh9 (zaa HB1.out hb)
    clear hb hc0 hc1 hc2 p0 p1 p2 HX HB1
    go_wp2
    go_roundg (n - k)
    case measure => omega
    case rel => exact ⟨k + 1,by omega,by omega,by go_num,HZ1,HB2.out⟩
   ·have HQ:=lh9 (decide_eq_false h0)
    have HF : Hid ((k : Int) = z):=by
     have:=HLA.out
     show _ = _
     rw [← HZ.out,zky (by omega) hz0.out h0]
    clear h0
    go_wp2_with fail
    (with_reducible refine (zjp HQ.out (HT.out _ HB1.out) HX.out (HSX.out k hlt) hK).mono ?_)
    rintro e w3 ⟨rfl,hb⟩
    have HB2:=lh9 (zaa HB1.out hb)
    clear hb hc0 hc1 hc2 p0 p1 p2 HX HB1
    go_wp2
    go_ret
    exact ⟨by rw [← HF.out]; rfl,HB2.out⟩
  ·have hd1 : decide ((k : Int) < (n : Int)) = false:=decide_eq_false (by omega)
   have HF : Hid (-1 = z):=by
    have:=HLA.out
    show _ = _
    rw [← HZ.out,zhT (fun j hj => hz0.out j (by omega))]
   have HB2:=lh9 hB
   clear hB
   go_wp2
   go_ret
   exact ⟨by rw [← HF.out]; rfl,HB2.out⟩
theorem ziE {t : Bool} (e : decide (zcq xs < 0) = t) (hT : zaj w) (ha : zaL w A n c xs) (hx : zao K xs) (hn : n ≤ 1073741824:=by omega) (hK : K ≤ 67108864:=by omega) :
  Calls Tryz.prog 30 #[.slice A n c] w (fun e w' => e = .returned (.bool t) ∧ Below w.heap.size w w'):=by
 obtain ⟨z,hz⟩ : ∃ z,zcq xs = z:=⟨_,rfl⟩
 have H:=lh9 (ziC hz hT ha hx hn hK)
 rw [hz] at e
 subst e
 clear hz hT ha hx
 go_enter Tryz.func30,Tryz.ntmps30
 go_wp2_with fail
 refine H.out.mono ?_
 rintro e w1 ⟨rfl,hb⟩
 go_wp2
 go_ret
 exact ⟨rfl,hb⟩
end
theorem vecSquares_core (A0 : oA9) (n0 c0 : Nat) (L0 : List (Int × Int)) (w : World) (h0 : zaN w A0 n0 c0 L0) (hT : zaj w) :
  Calls Tryz.prog 8 #[.slice A0 n0 c0] w fun e w' => e = .returned (.bool true) ∧ Below w.heap.size w w':=by
 have hn0 : n0 ≤ 1048576:=Nat.le_trans h0.fits h0.small
 have hl0 : (zbI L0).length = n0:=by rw [zbm]; exact h0.len
 have HL0:=lh9 hl0
 clear hl0
 have HSA0:=lh9 (zbX h0)
 have HA0:=lh9 (fun w' (hb : Below w.heap.size w w') => h0.below hb)
 obtain ⟨d,hd⟩ : ∃ d,zbZ (zbI L0) (zbI L0) = d:=⟨_,rfl⟩
 have hsq:=zhQ (zbI L0)
 rw [hd] at hsq
 obtain ⟨s,hs⟩ : ∃ s,sgnQ d = s:=⟨_,rfl⟩
 have hs0 : 0 ≤ s:=by
  have h1 : ¬ d.num < 0:=fun h => absurd hsq.1 (Rat.not_le.2 ((num_neg d).1 h))
  rw [← hs]; unfold sgnQ zeW; rw [if_neg h1]; split <;> omega
 have kb1 : decide (s ≥ 0) = true:=decide_eq_true hs0
 have kb2 : decide (0 ≤ s) = true:=decide_eq_true hs0
 obtain ⟨t,ht⟩ : ∃ t,decide (d = 0) = t:=⟨_,rfl⟩
 have ht2 : decide (zcq (zbI L0) < 0) = t:=by
  rw [← ht]
  exact decide_eq_decide.2 ((zfO _).trans hsq.2.symm)
 have kb3 : (t == t) = true:=by simp
 have HD:=lh9 hd
 have HSG:=lh9 hs
 have HT1:=lh9 ht
 have HT2:=lh9 ht2
 clear hd hsq hs ht ht2
 have HT:=lh9 (fun w' (hb : Below w.heap.size w w') => hT.on hb)
 have HB:=lh9 (Below.refl w.heap.size w)
 clear hT h0
 go_enter Tryz.func8,Tryz.ntmps8
 go_wp2_with fail
 (with_reducible refine (zdA (HT.out _ HB.out)).mono ?_)
 rintro e X1 ⟨rfl,hb⟩
 have HB:=lh9 (zaa HB.out hb)
 clear hb 
 go_wp2_with fail
 (with_reducible refine (zbj (HT.out _ HB.out) (HA0.out _ HB.out)).mono ?_)
 rintro e X3 ⟨A2,c2,rfl,hv2,-,hb⟩
 have HB:=lh9 (zaa HB.out hb)
 have HV2:=lh9 (hv2)
 clear hb hv2
 have HS4 : Hid (SzQ (1 + n0 * (1 + 1 + 1)) (d)):=by show SzQ _ _; rw [← HD.out]; exact (zgj (zao.mul HSA0.out HSA0.out)).up (by rw [show (mulL (zbI L0) (zbI L0)).length = n0 from zfx HL0.out HL0.out]; omega)
 go_wp2_with fail
 (with_reducible refine (HD.out ▸ zeO (HT.out _ HB.out) HV2.out HV2.out HSA0.out HSA0.out (by omega) (by decide) (by decide) (by omega)).mono ?_)
 rintro e X5 ⟨b4,A4,n4,c4,E4,k4,f4,rfl,hw4,hb⟩
 have HB:=lh9 (zaa HB.out hb)
 have HV2:=lh9 (HV2.out.keep hb)
 have HQ4:=lh9 (hw4)
 clear hb hw4
 obtain ⟨bq0,bq1,-⟩:=zaG X5 44 #[.bool b4,.slice A4 n4 c4,.slice E4 k4 f4]
 have HB:=lh9 (zaa HB.out bq0)
 have HV2:=lh9 (HV2.out.keep bq0)
 have HQ4:=lh9 (HQ4.out.below bq0)
 have HK6:=lh9 (bq1)
 obtain ⟨p7_0,p7_1,p7_2⟩:=bq1.c3
 clear bq0 bq1
 go_wp2_with fail
 clear p7_0 p7_1 p7_2
 generalize X5.alloc (.cells #[.bool b4,.slice A4 n4 c4,.slice E4 k4 f4] 44) = W8 at *
 generalize X5.heap.size = q8 at *
 (with_reducible refine (q_sign HSG.out (HT.out _ HB.out) HQ4.out HS4.out (by omega)).mono ?_)
 rintro e X9 ⟨rfl,hb⟩
 have HB:=lh9 (zaa HB.out hb)
 have HV2:=lh9 (HV2.out.keep hb)
 have HQ4:=lh9 (HQ4.out.below hb)
 have HK6:=lh9 (zac hb HK6.out)
 clear hb 
 obtain ⟨p10_0,p10_1,p10_2⟩:=HK6.out.c3
 go_wp2_with fail
 clear p10_0 p10_1 p10_2
 (with_reducible refine (zjp HT1.out (HT.out _ HB.out) HQ4.out HS4.out (by omega)).mono ?_)
 rintro e X11 ⟨rfl,hb⟩
 have HB:=lh9 (zaa HB.out hb)
 have HV2:=lh9 (HV2.out.keep hb)
 have HQ4:=lh9 (HQ4.out.below hb)
 have HK6:=lh9 (zac hb HK6.out)
 clear hb 
 go_wp2_with fail
 (with_reducible refine (ziE HT2.out (HT.out _ HB.out) HV2.out HSA0.out (by omega) (by decide)).mono ?_)
 rintro e X12 ⟨rfl,hb⟩
 have HB:=lh9 (zaa HB.out hb)
 have HV2:=lh9 (HV2.out.keep hb)
 have HQ4:=lh9 (HQ4.out.below hb)
 have HK6:=lh9 (zac hb HK6.out)
 clear hb 
 go_wp2
 go_ret
 exact ⟨rfl,HB.out⟩
end Go.Proofs.YtkiedljcgkoaiaaGreatDoor
