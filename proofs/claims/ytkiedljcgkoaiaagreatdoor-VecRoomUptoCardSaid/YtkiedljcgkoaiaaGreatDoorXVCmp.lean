/- What this claim leans on. -/
import Derived.Test.YtkiedljcgkoaiaaGreatDoorXJ8Etc
namespace Go.Proofs.YtkiedljcgkoaiaaGreatDoor
open Go Go.RowKit
set_option maxHeartbeats 16000000
set_option maxRecDepth 100000
set_option linter.unusedVariables false
set_option linter.unusedSimpArgs false
theorem zgG (z : Int) (w : World) : Calls Tryz.prog 97 #[.int .i64 z] w (fun e w' => e = .returned (.bool false) ∧ w = w'):=by
 have h1 : (z != z) = false:=by simp
 go_enter Tryz.func97,Tryz.ntmps97
 go_wp2
 go_ret
 exact ⟨rfl,rfl⟩
theorem zhM (n m : Nat) (w : World) : Calls Tryz.prog 63 #[.int .i64 (n : Int),.int .i64 (m : Int)] w (fun e w' => e = .returned (.int .i64 (cmpN n m)) ∧ w = w'):=by
 have H1:=lh9 (zgG (n : Int) w)
 have H2:=lh9 (zgG (m : Int) w)
 unfold cmpN
 by_cases h1 : n < m
 ·have hd : decide ((n : Int) < (m : Int)) = true:=decide_eq_true (by omega)
  have hd' : decide (n < m) = true:=decide_eq_true (by omega)
  rw [if_pos h1]
  go_enter Tryz.func63,Tryz.ntmps63
  go_wp2_with fail
  refine H1.out.mono ?_
  rintro e w1 ⟨rfl,rfl⟩
  go_wp2_with fail
  refine H2.out.mono ?_
  rintro e w1 ⟨rfl,rfl⟩
  go_wp2
  go_ret
  exact ⟨rfl,rfl⟩
 ·have hd : decide ((n : Int) < (m : Int)) = false:=decide_eq_false (by omega)
  have hd' : decide (n < m) = false:=decide_eq_false (by omega)
  rw [if_neg h1]
  by_cases h2 : n = m
  ·rw [if_pos h2]
   have hd2 : decide ((m : Int) < (n : Int)) = false:=decide_eq_false (by omega)
   have hd3 : decide ((n : Int) > (m : Int)) = false:=decide_eq_false (by omega)
   have hd4 : decide (m < n) = false:=decide_eq_false (by omega)
   clear h1 h2
   go_enter Tryz.func63,Tryz.ntmps63
   go_wp2_with fail
   refine H1.out.mono ?_
   rintro e w1 ⟨rfl,rfl⟩
   go_wp2_with fail
   refine H2.out.mono ?_
   rintro e w1 ⟨rfl,rfl⟩
   go_wp2
   go_ret
   exact ⟨rfl,rfl⟩
  ·rw [if_neg h2]
   have hd2 : decide ((m : Int) < (n : Int)) = true:=decide_eq_true (by omega)
   have hd3 : decide ((n : Int) > (m : Int)) = true:=decide_eq_true (by omega)
   have hd4 : decide (m < n) = true:=decide_eq_true (by omega)
   clear h1 h2
   go_enter Tryz.func63,Tryz.ntmps63
   go_wp2_with fail
   refine H1.out.mono ?_
   rintro e w1 ⟨rfl,rfl⟩
   go_wp2_with fail
   refine H2.out.mono ?_
   rintro e w1 ⟨rfl,rfl⟩
   go_wp2
   go_ret
   exact ⟨rfl,rfl⟩
section
variable {K K' : Nat} {xs ys : List Rat} {A B : oA9} {n n' c d : Nat} {w : World}
theorem zaM {z : Int} (hz : zaY xs ys = z) (hT : zaj w) (ha : zaL w A n c xs) (hb : zaL w B n' d ys) (hx : zao K xs) (hy : zao K' ys) (hn : n ≤ 1073741824:=by omega) (hn' : n' ≤ 1073741824:=by omega) (hK : K ≤ 67108864:=by omega) (hK' : K' ≤ 67108864:=by omega) :
  Calls Tryz.prog 27 #[.slice A n c,.slice B n' d] w (zbp w z):=by
 have hla:=ha.len
 have hlb:=hb.len
 have HLA:=lh9 hla
 have HLB:=lh9 hlb
 have HZ:=lh9 hz
 have HSX : Hid (∀ i,i < n → SzQ K (xs.getD i 0)):=fun i hi => hx.at_ (by omega)
 have HSY : Hid (∀ i,i < n' → SzQ K' (ys.getD i 0)):=fun i hi => hy.at_ (by omega)
 unfold zbp
 have HA:=lh9 ha
 have HB9:=lh9 hb
 have HT:=lh9 (fun w' (hb : Below w.heap.size w w') => hT.on hb)
 clear hT ha hb hx hy hla hlb hz
 have hB:=Below.refl w.heap.size w
 have i0 : (0 : Int) ≤ (n : Int):=by omega
 obtain ⟨N,hN⟩ : ∃ N,min n n' = N:=⟨_,rfl⟩
 have hNn : N ≤ n:=by omega
 have hNm : N ≤ n':=by omega
 have HN:=lh9 hN
 have hmn1 : min (n : Int) (n' : Int) = (N : Int):=by omega
 have hmn2 : (if (n' : Int) < (n : Int) then (n' : Int) else (n : Int)) = (N : Int):=by split <;> omega
 have hmn3 : (if n' < n then (n' : Int) else (n : Int)) = (N : Int):=by split <;> omega
 clear hN
 go_enter Tryz.func27,Tryz.ntmps27
 go_wp2_with fail
 clear hmn1 hmn2 hmn3
 go_loopg [11] (N + 1) (fun g ix wr => ∃ (k : Nat),k ≤ N ∧ N < g + k ∧ ix = .int .i64 k ∧ Hid (zaY (xs.drop k) (ys.drop k) = z) ∧ Below w.heap.size w wr)
 case atStart => exact ⟨0,Nat.zero_le _,by omega,rfl,HZ,hB⟩
 case round =>
  clear hB
  obtain ⟨k,hkn,hg,rfl,hz0,hB⟩:=hrel
  by_cases hlt : k < N
  ·have hltn : k < n:=by omega
   have hltm : k < n':=by omega
   obtain ⟨ad,b1,B1,m1,d1,E1,u1,v1,rfl,-,hc0,hc1,hc2,hx⟩:=HA.out.get hB hltn
   obtain ⟨ae,b2,B2,m2,d2,E2,u2,v2,rfl,-,he0,he1,he2,hy⟩:=HB9.out.get hB hltm
   have hd1 : decide ((k : Int) < (N : Int)) = true:=decide_eq_true (by omega)
   have i1 : (0 : Int) ≤ (k : Int):=by omega
   have i2 : (k : Int) < (n : Int):=by omega
   have i3 : (k : Int) < (n' : Int):=by omega
   have HX:=lh9 hx
   have HY:=lh9 hy
   have HB1:=lh9 hB
   have hlx : k < xs.length:=by have:=HLA.out; omega
   have hly : k < ys.length:=by have:=HLB.out; omega
   clear hx hy hB
   by_cases h0 : xs.getD k 0 = ys.getD k 0
   ·have HQ:=lh9 (decide_eq_true h0)
    have HZ1 : Hid (zaY (xs.drop (k + 1)) (ys.drop (k + 1)) = z):=by
     show _ = _
     rw [← zfI hlx hly h0]; exact hz0.out
    clear h0 hlx hly
    go_wp2_with fail
    have hBw:=(Below.refl wr.heap.size wr).drew
    refine rg (csc hc0 (csc hc1 (csc hc2 (csc he0 (csc he1 (csc he2 csn)))))) (fun hHeld => ?_)
    refine tk 0 ?_
    refine tk 1 ?_
    refine tk 2 ?_
    refine tk 3 ?_
    refine tk 4 ?_
    refine tk 5 ?_
    refine tk 6 ?_
    refine tk 7 ?_
    refine rc 8 (fun KK hK9 => ?_)
    go_simp
    (with_reducible refine (zjo HQ.out (HT.out _ (zaa HB1.out hBw)) (HX.out.below hBw) (HY.out.below hBw) (HSX.out k hltn) (HSY.out k hltm) hK hK').mono ?_); rintro e wa ⟨rfl,hb⟩; have hBw:=zaa hBw hb; refine hK9.out _ _ (Cs.below hHeld hb) (fun hHeld => ?_); clear hK9 KK hb
    refine tk 9 ?_
    refine rdn ?_
    have HB2:=lh9 (zaa HB1.out hBw)
    clear hHeld hBw hc0 hc1 hc2 he0 he1 he2 HX HY HB1
    go_wp2
    go_roundg (N - k)
    case measure => omega
    case rel => exact ⟨k + 1,by omega,by omega,by go_num,HZ1,HB2.out⟩
   ·have HQ:=lh9 (decide_eq_false h0)
    have HF : Hid (zbY (xs.getD k 0) (ys.getD k 0) = z):=by
     show _ = _
     rw [← zfn hlx hly h0]; exact hz0.out
    clear h0 hlx hly
    go_wp2_with fail
    have hBw:=(Below.refl wr.heap.size wr).drew
    refine rg (csc hc0 (csc hc1 (csc hc2 (csc he0 (csc he1 (csc he2 csn)))))) (fun hHeld => ?_)
    refine tk 0 ?_
    refine tk 1 ?_
    refine tk 2 ?_
    refine tk 3 ?_
    refine tk 4 ?_
    refine tk 5 ?_
    refine tk 6 ?_
    refine tk 7 ?_
    refine rc 8 (fun KK hK9 => ?_)
    go_simp
    (with_reducible refine (zjo HQ.out (HT.out _ (zaa HB1.out hBw)) (HX.out.below hBw) (HY.out.below hBw) (HSX.out k hltn) (HSY.out k hltm) hK hK').mono ?_); rintro e wa ⟨rfl,hb⟩; have hBw:=zaa hBw hb; refine hK9.out _ _ (Cs.below hHeld hb) (fun hHeld => ?_); clear hK9 KK hb
    refine tk 9 ?_
    refine rdn ?_
    have HB2:=lh9 (zaa HB1.out hBw)
    have HX2:=lh9 (HX.out.below hBw)
    have HY2:=lh9 (HY.out.below hBw)
    obtain ⟨c0,c1,c2,e0,e1,e2,-⟩:=hHeld
    clear hBw hc0 hc1 hc2 he0 he1 he2 HX HY HB1
    go_wp2_with fail
    have hBw:=(Below.refl wa.heap.size wa).drew
    refine rg (csc c0 (csc c1 (csc c2 (csc e0 (csc e1 (csc e2 csn)))))) (fun hHeld => ?_)
    refine tk 0 ?_
    refine tk 1 ?_
    refine tk 2 ?_
    refine tk 3 ?_
    refine tk 4 ?_
    refine tk 5 ?_
    refine tk 6 ?_
    refine tk 7 ?_
    refine rc 8 (fun KK hK9 => ?_)
    go_simp
    (with_reducible refine (zbk HF.out (q_cmp (HT.out _ (zaa HB2.out hBw)) (HX2.out.below hBw) (HY2.out.below hBw) (HSX.out k hltn) (HSY.out k hltm) hK hK')).mono ?_); rintro e wb ⟨rfl,hb⟩; have hBw:=zaa hBw hb; refine hK9.out _ _ (Cs.below hHeld hb) (fun hHeld => ?_); clear hK9 KK hb
    refine tk 9 ?_
    refine rdn ?_
    have HB3:=lh9 (zaa HB2.out hBw)
    clear hHeld hBw c0 c1 c2 e0 e1 e2
    go_wp2
    go_ret
    exact ⟨rfl,HB3.out⟩
  ·have hk : k = N:=by omega
   subst hk
   have hd1 : decide ((k : Int) < (k : Int)) = false:=by simp
   have HF : Hid (cmpN n n' = z):=by
    have h1:=HLA.out
    have h2:=HLB.out
    have h3:=HN.out
    have h4:=hz0.out
    rw [cmpV_end (by rw [h1,h2]; exact h3.symm),h1,h2] at h4
    exact h4
   have HB2:=lh9 hB
   have H1:=lh9 (zhM n n' wr)
   rw [HF.out] at H1
   clear hB
   go_wp2_with fail
   refine H1.out.mono ?_
   rintro e w1 ⟨rfl,rfl⟩
   go_wp2
   go_ret
   exact ⟨rfl,HB2.out⟩
theorem zbU {t : Bool} (e : decide (xs = ys) = t) (hT : zaj w) (ha : zaL w A n c xs) (hb : zaL w B n' d ys) (hx : zao K xs) (hy : zao K' ys) (hn : n ≤ 1073741824:=by omega) (hn' : n' ≤ 1073741824:=by omega) (hK : K ≤ 67108864:=by omega) (hK' : K' ≤ 67108864:=by omega) :
  Calls Tryz.prog 28 #[.slice A n c,.slice B n' d] w (fun e w' => e = .returned (.bool t) ∧ Below w.heap.size w w'):=by
 obtain ⟨z,hz⟩ : ∃ z,zaY xs ys = z:=⟨_,rfl⟩
 have H:=lh9 (zaM hz hT ha hb hx hy hn hn' hK hK')
 have ht : (z == 0) = t:=by
  rw [← e,← hz]
  by_cases h : xs = ys
  ·rw [decide_eq_true h,(zhc xs ys).2 h]; rfl
  ·rw [decide_eq_false h,beq_eq_false_iff_ne]
   exact fun h9 => h ((zhc xs ys).1 h9)
 clear hz hT ha hb hx hy e
 have HE:=lh9 ht
 clear ht
 go_enter Tryz.func28,Tryz.ntmps28
 go_wp2_with fail
 refine H.out.mono ?_
 rintro e w1 ⟨rfl,hb⟩
 go_wp2
 go_ret
 exact ⟨by rw [← HE.out]; rfl,hb⟩
end
end Go.Proofs.YtkiedljcgkoaiaaGreatDoor
