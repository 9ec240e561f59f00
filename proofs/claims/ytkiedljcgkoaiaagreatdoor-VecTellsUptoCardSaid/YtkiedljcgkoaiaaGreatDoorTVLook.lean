/- What this claim leans on. -/
import Derived.Test.YtkiedljcgkoaiaaGreatDoorTS8Sum
namespace Go.Proofs.YtkiedljcgkoaiaaGreatDoor
open Go Go.RowKit
set_option maxHeartbeats 16000000
set_option maxRecDepth 100000
set_option linter.unusedVariables false
set_option linter.unusedSimpArgs false
section
variable {K : Nat} {xs : List Rat} {A : oA9} {n c : Nat} {w : World}
theorem zeH {z : Int} (hz : zaV xs = z) (hT : zam w) (ha : zaQ w A n c xs) (hx : zau K xs) (hn : n ≤ 1073741824:=by omega) (hK : K ≤ 67108864:=by omega) :
  Calls Tryz.prog 29 #[.slice A n c] w (zbh w z):=by
 have hla:=ha.len
 have HLA:=lh9 hla
 have HZ:=lh9 hz
 have HSX : Hid (∀ i,i < n → SzQ K (xs.getD i 0)):=fun i hi => hx.at_ (by omega)
 unfold zbh
 have HA:=lh9 ha
 have HT:=lh9 (fun w' (hb : Below w.heap.size w w') => hT.on hb)
 clear hT ha hx hla hz
 have hB:=Below.refl w.heap.size w
 have i0 : (0 : Int) ≤ (n : Int):=by omega
 go_enter Tryz.func29,Tryz.ntmps29
 go_wp2_with fail
 go_loopg [7] (n + 1) (fun g ix wr => ∃ (k : Nat),k ≤ n ∧ n < g + k ∧ ix = .int .i64 k ∧ Hid (∀ j,j < k → xs.getD j 0 = 0) ∧ Below w.heap.size w wr)
 case atStart => exact ⟨0,Nat.zero_le _,by omega,rfl,fun j hj => by omega,hB⟩
 case round =>
  clear hB
  obtain ⟨k,hkn,hg,rfl,hz0,hB⟩:=hrel
  by_cases hlt : k < n
  ·obtain ⟨ad,b1,B1,m1,d1,E1,u1,v1,rfl,-,hc0,hc1,hc2,hx⟩:=HA.out.get hB hlt
   have hd1 : decide ((k : Int) < (n : Int)) = true:=decide_eq_true (by omega)
   have i1 : (0 : Int) ≤ (k : Int):=by omega
   have i2 : (k : Int) < (n : Int):=by omega
   obtain ⟨st,d3,d4⟩:=zaR wr 44 #[.bool b1,.slice B1 m1 d1,.slice E1 u1 v1]
   obtain ⟨p0,p1,p2⟩:=d3.c3
   have HX:=lh9 (hx.below st)
   have HB1:=lh9 (zac hB st)
   clear hx hB st d3 d4
   by_cases h0 : xs.getD k 0 = 0
   ·have HQ:=lh9 (decide_eq_true h0)
    have HZ1 : Hid (∀ j,j < k + 1 → xs.getD j 0 = 0):=fun j hj => by
     by_cases e : j = k
     ·rw [e]; exact h0
     ·exact hz0 j (by omega)
    clear h0
    go_wp2_with fail
    (with_reducible refine (q_zero HQ.out (HT.out _ HB1.out) HX.out (HSX.out k hlt) hK).mono ?_)
    rintro e w3 ⟨rfl,hb⟩
    have HB2:=lh9 (zac HB1.out hb)
    clear hb hc0 hc1 hc2 p0 p1 p2 HX HB1
    go_wp2
    go_roundg (n - k)
    case measure => omega
    case rel => exact ⟨k + 1,by omega,by omega,by go_num,HZ1,HB2.out⟩
   ·have HQ:=lh9 (decide_eq_false h0)
    have HF : Hid ((k : Int) = z):=by
     have:=HLA.out
     show _ = _
     rw [← HZ.out,zgc (by omega) hz0.out h0]
    clear h0
    go_wp2_with fail
    (with_reducible refine (q_zero HQ.out (HT.out _ HB1.out) HX.out (HSX.out k hlt) hK).mono ?_)
    rintro e w3 ⟨rfl,hb⟩
    have HB2:=lh9 (zac HB1.out hb)
    clear hb hc0 hc1 hc2 p0 p1 p2 HX HB1
    go_wp2
    go_ret
    exact ⟨by rw [← HF.out]; rfl,HB2.out⟩
  ·have hd1 : decide ((k : Int) < (n : Int)) = false:=decide_eq_false (by omega)
   have HF : Hid (-1 = z):=by
    have:=HLA.out
    show _ = _
    rw [← HZ.out,zgu (fun j hj => hz0.out j (by omega))]
   have HB2:=lh9 hB
   clear hB
   go_wp2
   go_ret
   exact ⟨by rw [← HF.out]; rfl,HB2.out⟩
theorem zfY {t : Bool} (e : decide (zaV xs < 0) = t) (hT : zam w) (ha : zaQ w A n c xs) (hx : zau K xs) (hn : n ≤ 1073741824:=by omega) (hK : K ≤ 67108864:=by omega) :
  Calls Tryz.prog 30 #[.slice A n c] w (fun e w' => e = .returned (.bool t) ∧ Below w.heap.size w w'):=by
 obtain ⟨z,hz⟩ : ∃ z,zaV xs = z:=⟨_,rfl⟩
 have H:=lh9 (zeH hz hT ha hx hn hK)
 rw [hz] at e
 subst e
 clear hz hT ha hx
 go_enter Tryz.func30,Tryz.ntmps30
 go_wp2_with fail
 refine H.out.mono ?_
 rintro e w1 ⟨rfl,hb⟩
 go_wp2
 go_ret
 exact ⟨rfl,hb⟩
theorem zkP {t : Bool} (hz : zcH xs = t) (hT : zam w) (ha : zaQ w A n c xs) (hx : zau K xs) (hn : n ≤ 1073741824:=by omega) (hK : K ≤ 67108864:=by omega) :
  Calls Tryz.prog 31 #[.slice A n c] w (fun e w' => e = .returned (.bool t) ∧ Below w.heap.size w w'):=by
 have hla:=ha.len
 have HLA:=lh9 hla
 have HZ:=lh9 hz
 have HSX : Hid (∀ i,i < n → SzQ K (xs.getD i 0)):=fun i hi => hx.at_ (by omega)
 have HA:=lh9 ha
 have HT:=lh9 (fun w' (hb : Below w.heap.size w w') => hT.on hb)
 clear hT ha hx hla hz
 have hB:=Below.refl w.heap.size w
 have i0 : (0 : Int) ≤ (n : Int):=by omega
 go_enter Tryz.func31,Tryz.ntmps31
 go_wp2_with fail
 go_loopg [7] (n + 1) (fun g ix wr => ∃ (k : Nat),k ≤ n ∧ n < g + k ∧ ix = .int .i64 k ∧ Hid (zcH (xs.take k) = false) ∧ Below w.heap.size w wr)
 case atStart => exact ⟨0,Nat.zero_le _,by omega,rfl,rfl,hB⟩
 case round =>
  clear hB
  obtain ⟨k,hkn,hg,rfl,hz0,hB⟩:=hrel
  by_cases hlt : k < n
  ·obtain ⟨ad,b1,B1,m1,d1,E1,u1,v1,rfl,-,hc0,hc1,hc2,hx⟩:=HA.out.get hB hlt
   have hd1 : decide ((k : Int) < (n : Int)) = true:=decide_eq_true (by omega)
   have i1 : (0 : Int) ≤ (k : Int):=by omega
   have i2 : (k : Int) < (n : Int):=by omega
   obtain ⟨st,d3,d4⟩:=zaR wr 44 #[.bool b1,.slice B1 m1 d1,.slice E1 u1 v1]
   obtain ⟨p0,p1,p2⟩:=d3.c3
   have HX:=lh9 (hx.below st)
   have HB1:=lh9 (zac hB st)
   clear hx hB st d3 d4
   obtain ⟨s,hs⟩ : ∃ s,sgnQ (xs.getD k 0) = s:=⟨_,rfl⟩
   have HS:=lh9 hs
   have hlx : k < xs.length:=by have:=HLA.out; omega
   by_cases h0 : (xs.getD k 0).num < 0
   ·have hd2 : decide (s < 0) = true:=by
     rw [← hs]; unfold sgnQ zfU; rw [if_pos h0]; rfl
    have HF : Hid (true = t):=by
     show _ = _
     rw [← HZ.out]
     unfold zcH
     refine (List.any_eq_true.2 ⟨xs.getD k 0,?_,decide_eq_true h0⟩).symm
     rw [List.getD_eq_getElem?_getD,List.getElem?_eq_getElem hlx]
     exact List.getElem_mem hlx
    clear h0 hs hlx
    go_wp2_with fail
    (with_reducible refine (q_sign HS.out (HT.out _ HB1.out) HX.out (HSX.out k hlt) hK).mono ?_)
    rintro e w3 ⟨rfl,hb⟩
    have HB2:=lh9 (zac HB1.out hb)
    clear hb hc0 hc1 hc2 p0 p1 p2 HX HB1
    go_wp2
    go_ret
    exact ⟨by rw [← HF.out]; rfl,HB2.out⟩
   ·have hd2 : decide (s < 0) = false:=by
     rw [← hs]; unfold sgnQ zfU; rw [if_neg h0]; split <;> rfl
    have HZ1 : Hid (zcH (xs.take (k + 1)) = false):=by
     show _ = _
     rw [zgq xs k hlx,hz0.out,decide_eq_false h0]; rfl
    clear h0 hs hlx
    go_wp2_with fail
    (with_reducible refine (q_sign HS.out (HT.out _ HB1.out) HX.out (HSX.out k hlt) hK).mono ?_)
    rintro e w3 ⟨rfl,hb⟩
    have HB2:=lh9 (zac HB1.out hb)
    clear hb hc0 hc1 hc2 p0 p1 p2 HX HB1
    go_wp2
    go_roundg (n - k)
    case measure => omega
    case rel => exact ⟨k + 1,by omega,by omega,by go_num,HZ1,HB2.out⟩
  ·have hd1 : decide ((k : Int) < (n : Int)) = false:=decide_eq_false (by omega)
   have HF : Hid (false = t):=by
    have:=HLA.out
    show _ = _
    rw [← HZ.out,← hz0.out,List.take_of_length_le (by omega)]
   have HB2:=lh9 hB
   clear hB
   go_wp2
   go_ret
   exact ⟨by rw [← HF.out]; rfl,HB2.out⟩
theorem ziV {x : Rat} (h : SzQ K x) : zeg x ≤ 128 * K:=by
 unfold zeg
 have h1:=zeS h.num
 have h2:=zeS h.den
 omega
theorem zha (h : zau K xs) : ∀ k,k ≤ xs.length → zcU (xs.take k) ≤ 128 * K
 | 0,_ => by simp [zcU]
 | k + 1,hk => by
   rw [zfe xs k (by omega)]
   have h1:=zha h k (by omega)
   have h2:=ziV (h.at_ (k:=k) (by omega))
   omega
theorem zlV {z : Int} (hz : ((zcU xs : Nat) : Int) = z) (hT : zam w) (ha : zaQ w A n c xs) (hx : zau K xs) (hn : n ≤ 1073741824:=by omega) (hK : K ≤ 67108864:=by omega) :
  Calls Tryz.prog 32 #[.slice A n c] w (zbh w z):=by
 have hla:=ha.len
 have HLA:=lh9 hla
 have HZ:=lh9 hz
 have HSX : Hid (∀ i,i < n → SzQ K (xs.getD i 0)):=fun i hi => hx.at_ (by omega)
 have HBV : Hid (∀ k,k ≤ n → zcU (xs.take k) ≤ 128 * K):=fun k hk => zha hx k (by omega)
 unfold zbh
 have HA:=lh9 ha
 have HT:=lh9 (fun w' (hb : Below w.heap.size w w') => hT.on hb)
 clear hT ha hx hla hz
 have hB:=Below.refl w.heap.size w
 have i0 : (0 : Int) ≤ (n : Int):=by omega
 go_enter Tryz.func32,Tryz.ntmps32
 go_wp2_with fail
 go_loopg [3,8] (n + 1) (fun g mx ix wr => ∃ (k m : Nat),k ≤ n ∧ n < g + k ∧ ix = .int .i64 k ∧ mx = .int .i64 m ∧ Hid (zcU (xs.take k) = m) ∧ m ≤ 8589934592 ∧ Below w.heap.size w wr)
 case atStart => exact ⟨0,0,Nat.zero_le _,by omega,rfl,rfl,rfl,by omega,hB⟩
 case round =>
  clear hB
  obtain ⟨k,m,hkn,hg,rfl,rfl,hz0,hm,hB⟩:=hrel
  by_cases hlt : k < n
  ·obtain ⟨ad,b1,B1,m1,d1,E1,u1,v1,rfl,-,hc0,hc1,hc2,hx⟩:=HA.out.get hB hlt
   have hd1 : decide ((k : Int) < (n : Int)) = true:=decide_eq_true (by omega)
   have i1 : (0 : Int) ≤ (k : Int):=by omega
   have i2 : (k : Int) < (n : Int):=by omega
   obtain ⟨st,d3,d4⟩:=zaR wr 44 #[.bool b1,.slice B1 m1 d1,.slice E1 u1 v1]
   obtain ⟨p0,p1,p2⟩:=d3.c3
   have HX:=lh9 (hx.below st)
   have HB1:=lh9 (zac hB st)
   clear hx hB st d3 d4
   have hlx : k < xs.length:=by have:=HLA.out; omega
   have h4:=ziV (HSX.out k hlt)
   have h5 : zcU (xs.take (k + 1)) = max m (zeg (xs.getD k 0)):=by rw [zfe xs k hlx,hz0.out]
   obtain ⟨q,hq⟩ : ∃ q,zeg (xs.getD k 0) = q:=⟨_,rfl⟩
   rw [hq] at h4 h5
   obtain ⟨M,hM⟩ : ∃ M,max m q = M:=⟨_,rfl⟩
   rw [hM] at h5
   have hM2 : M ≤ 8589934592:=by omega
   have HQ : Hid (((zeg (xs.getD k 0) : Nat) : Int) = (q : Int)):=by show _ = _; rw [hq]
   have HZ1:=lh9 h5
   have hmx1 : (if (m : Int) < (q : Int) then (q : Int) else (m : Int)) = (M : Int):=by
    rw [← hM]; split <;> omega
   have hmx2 : (if m < q then (q : Int) else (m : Int)) = (M : Int):=by
    rw [← hM]; split <;> omega
   have hmx3 : max (m : Int) (q : Int) = (M : Int):=by omega
   have hmx4 : (if (q : Int) < (m : Int) then (m : Int) else (q : Int)) = (M : Int):=by
    rw [← hM]; split <;> omega
   have hmx5 : (if q < m then (m : Int) else (q : Int)) = (M : Int):=by
    rw [← hM]; split <;> omega
   clear hq h5 hlx hM
   go_wp2_with fail
   (with_reducible refine (q_bits HQ.out (HT.out _ HB1.out) HX.out (HSX.out k hlt) hK).mono ?_)
   rintro e w3 ⟨rfl,hb⟩
   have HB2:=lh9 (zac HB1.out hb)
   clear hb hc0 hc1 hc2 p0 p1 p2 HX HB1
   go_wp2
   go_roundg (n - k)
   case measure => omega
   case rel => exact ⟨k + 1,M,by omega,by omega,by go_num,rfl,HZ1,hM2,HB2.out⟩
  ·have hd1 : decide ((k : Int) < (n : Int)) = false:=decide_eq_false (by omega)
   have HF : Hid ((m : Int) = z):=by
    have:=HLA.out
    show _ = _
    rw [← HZ.out,← hz0.out,List.take_of_length_le (by omega)]
   have HB2:=lh9 hB
   clear hB
   go_wp2
   go_ret
   exact ⟨by rw [← HF.out]; rfl,HB2.out⟩
end
end Go.Proofs.YtkiedljcgkoaiaaGreatDoor
