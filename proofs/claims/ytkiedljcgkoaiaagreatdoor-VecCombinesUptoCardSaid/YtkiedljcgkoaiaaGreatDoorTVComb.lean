/- What this claim leans on. -/
import Derived.Test.YtkiedljcgkoaiaaGreatDoorTVTimes
namespace Go.Proofs.YtkiedljcgkoaiaaGreatDoor
open Go Go.RowKit
set_option maxHeartbeats 16000000
set_option maxRecDepth 100000
set_option linter.unusedVariables false
set_option linter.unusedSimpArgs false
structure zdq (w : World) (A : oA9) (n : Nat) (Ls : List (List Rat)) : Prop where
 len : Ls.length = n
 num : ∀ i L,Ls[i]? = some L → ∃ (ad : Addr) (B : oA9) (d : Nat),A = some ad ∧ ad.block < w.heap.size ∧ w.cell? (ad.add i) = some (.slice B L.length d) ∧ zaQ w B L.length d L
theorem zdq.below {w w' : World} {A : oA9} {n : Nat} {Ls : List (List Rat)} (h : zdq w A n Ls) (hb : Below w.heap.size w w') : zdq w' A n Ls :=
 ⟨h.len,fun i L hi => by
  obtain ⟨ad,B,d,e,h1,h2,h3⟩:=h.num i L hi
  exact ⟨ad,B,d,e,Nat.lt_of_lt_of_le h1 hb.size,zad hb h2,h3.keep hb⟩⟩
theorem zcB {α : Type} {xs : List α} {k : Nat} {d : α} (h : k < xs.length) : xs[k]? = some (xs.getD k d):=by
 rw [List.getD_eq_getElem?_getD,List.getElem?_eq_getElem h]; rfl
theorem zdT (m : Nat) (rs : List Rat) (Ls : List (List Rat)) (k : Nat) (h : k < rs.length) (h' : k < Ls.length) : zbv m (rs.take (k + 1)) (Ls.take (k + 1)) = zgp (zbv m (rs.take k) (Ls.take k)) (rs.getD k 0) (Ls.getD k []):=by
 unfold zbv
 have e : List.zip (rs.take (k + 1)) (Ls.take (k + 1)) = List.zip (rs.take k) (Ls.take k) ++ [(rs.getD k 0,Ls.getD k [])]:=by
  rw [List.take_succ_eq_append_getElem h,List.take_succ_eq_append_getElem h',List.zip_append (by rw [List.length_take,List.length_take]; omega)]
  congr 1
  rw [List.getD_eq_getElem?_getD,List.getD_eq_getElem?_getD,List.getElem?_eq_getElem h,List.getElem?_eq_getElem h']
  rfl
 rw [e,List.foldl_append]
 rfl
theorem zgN {K L : Nat} (m : Nat) {rs : List Rat} {Ls : List (List Rat)} (hr : zau L rs) (hL : ∀ V ∈ Ls,zau K V) : ∀ k,k ≤ rs.length → k ≤ Ls.length → zau (1 + k * (L + K + 1)) (zbv m (rs.take k) (Ls.take k))
 | 0,_,_ => fun x hx => by
   have : x = 0:=by
    simp [zbv] at hx
    exact hx.2
   rw [this,Nat.zero_mul]; exact SzQ.zero
 | k + 1,h,h' => by
   rw [zdT m rs Ls k (by omega) (by omega)]
   have h1:=zgN m hr hL k (by omega) (by omega)
   have h2 : zau K (Ls.getD k []):=hL _ (List.mem_of_getElem? (zcB (by omega)))
   exact (h1.addT (hr.at_ (by omega)) h2).up (by rw [Nat.succ_mul]; omega)
section
variable {K L : Nat} {rs : List Rat} {Ls : List (List Rat)} {A B : oA9} {n n' c d : Nat} {w : World}
theorem zkR (h : n' = 0 ∨ n ≠ n') :
  Calls Tryz.prog 40 #[.slice A n c,.slice B n' d] w (zaT w):=by
 unfold zaT
 by_cases h0 : n' = 0
 ·have hd1 : ((n' : Int) == 0) = true:=by rw [beq_iff_eq]; omega
  clear h h0
  go_enter Tryz.func40,Tryz.ntmps40
  go_wp2
  go_ret2
  exact ⟨rfl,Below.refl _ _⟩
 ·have hd1 : ((n' : Int) == 0) = false:=by rw [beq_eq_false_iff_ne]; omega
  have hd2 : ((n : Int) != (n' : Int)) = true:=by rw [bne_iff_ne]; omega
  clear h h0
  go_enter Tryz.func40,Tryz.ntmps40
  go_wp2
  go_ret2
  exact ⟨rfl,Below.refl _ _⟩
theorem zkQ {m : Nat} (hT : zam w) (hr : zaQ w A n c rs) (hv : zdq w B n Ls) (hn0 : 0 < n) (h0 : (Ls.getD 0 []).length = m) (hall : ∀ i,i < n → (Ls.getD i []).length = m) (hx : zau L rs) (hy : ∀ V ∈ Ls,zau K V) (hn : n ≤ 1073741824:=by omega) (hm : m ≤ 1073741824:=by omega) (hS : 1 + n * (L + K + 1) ≤ 67108864:=by omega) :
  Calls Tryz.prog 40 #[.slice A n c,.slice B n d] w (zcb w m (zbv m rs Ls)):=by
 have hlr:=hr.len
 have hlv:=hv.len
 have HLR:=lh9 hlr
 have HLV:=lh9 hlv
 have HSX : Hid (∀ i,i < n → SzQ L (rs.getD i 0)):=fun i hi => hx.at_ (by omega)
 have HSY : Hid (∀ i,i < n → zau K (Ls.getD i [])):=fun i hi => hy _ (List.mem_of_getElem? (zcB (by omega)))
 have HSC : Hid (∀ k,k ≤ n → zau (1 + k * (L + K + 1)) (zbv m (rs.take k) (Ls.take k))):=fun k hk => zgN m hx hy k (by omega) (by omega)
 have HMK : Hid (∀ k,k ≤ n → k * (L + K + 1) ≤ n * (L + K + 1)):=fun k hk => Nat.mul_le_mul_right _ hk
 have HLK : Hid (L + K ≤ n * (L + K + 1)):=Nat.le_trans (Nat.le_succ _) (Nat.le_mul_of_pos_left _ hn0)
 have HCS : Hid (∀ k,k < n → zbv m (rs.take (k + 1)) (Ls.take (k + 1)) = zgp (zbv m (rs.take k) (Ls.take k)) (rs.getD k 0) (Ls.getD k [])):=fun k hk => zdT m rs Ls k (by omega) (by omega)
 have HALL:=lh9 hall
 have HFIN : Hid (zbv m (rs.take n) (Ls.take n) = zbv m rs Ls):=by
  show _ = _
  rw [List.take_of_length_le (by omega),List.take_of_length_le (by omega)]
 unfold zcb
 have HA:=lh9 hr
 have HB9:=lh9 hv.num
 have HT:=lh9 (fun w' (hb : Below w.heap.size w w') => hT.on hb)
 have HS:=lh9 hS
 have H0 : Hid (∃ (ad : Addr) (B' : oA9) (d' : Nat),B = some ad ∧ w.cell? ad = some (.slice B' m d')):=by
  obtain ⟨ad,B',d',e,_,h2,_⟩:=hv.num 0 _ (zcB (d:=[]) (by omega))
  rw [h0,show ad.add 0 = ad from by unfold Addr.add; rw [if_pos rfl]] at h2
  exact ⟨ad,B',d',e,h2⟩
 obtain ⟨Z,hZ⟩:=zdD m (by omega)
 have hmk:=fun W => (hZ W).1
 have HOWN:=lh9 (hZ w).2
 clear hT hr hv h0 hx hy hlr hlv hS hZ hall
 obtain ⟨av,B',d',rfl,hc0⟩:=H0.out
 have hB : Below w.heap.size w (w.alloc (.cells Z 44)):=(Below.refl _ w).alloc (Nat.le_refl _) _
 have hd1 : ((n : Int) == 0) = false:=by rw [beq_eq_false_iff_ne]; omega
 have hd2 : ((n : Int) != (n : Int)) = false:=by simp
 have i0 : (0 : Int) ≤ (n : Int):=by omega
 have i1 : (0 : Int) < (n : Int):=by omega
 go_enter Tryz.func40,Tryz.ntmps40
 go_wp2_with fail
 clear hmk hc0 H0
 have hRW : zcc (w.alloc (.cells Z 44)) w.heap.size m (zbv m (rs.take 0) (Ls.take 0)):=HOWN.out
 obtain ⟨gp,hgp⟩ : ∃ g,w.heap.size = g:=⟨_,rfl⟩
 rw [hgp] at hRW ⊢
 have hwg : w.heap.size ≤ gp:=by omega
 clear hgp HOWN
 generalize w.alloc (.cells Z 44) = W1 at *
 go_loopg [6,28] (n + 1) (fun g sl ix wr => ∃ (k q : Nat),k ≤ n ∧ n < g + k ∧ ix = .int .i64 k ∧ sl = .slice (some ⟨q,0,none⟩) m m ∧ w.heap.size ≤ q ∧ zcc wr q m (zbv m (rs.take k) (Ls.take k)) ∧ Below w.heap.size w wr)
 case atStart => exact ⟨0,gp,Nat.zero_le _,by omega,rfl,rfl,hwg,hRW,hB⟩
 case round =>
  clear hRW hB hwg
  obtain ⟨k,q,hkn,hg,rfl,rfl,hwq,hrow,hB⟩:=hrel
  by_cases hlt : k < n
  ·have hlv:=HLV.out
   obtain ⟨av2,Bk,dk,ha2,hav,hvc,hvk⟩:=HB9.out k _ (zcB (d:=[]) (by omega))
   obtain rfl : av = av2:=by injection ha2
   obtain ⟨ad,b1,B1,m1,d1,E1,u1,v1,rfl,-,hc0,hc1,hc2,hx⟩:=HA.out.get hB hlt
   have hvc:=zad hB hvc
   have HV0:=lh9 (hvk.keep hB)
   have hd3 : decide ((k : Int) < (n : Int)) = true:=decide_eq_true (by omega)
   have i2 : (0 : Int) ≤ (k : Int):=by omega
   have i3 : (k : Int) < (n : Int):=by omega
   have HX:=lh9 hx
   have HROW:=lh9 hrow
   have HB1:=lh9 hB
   have HSK:=lh9 (HSC.out k hkn)
   have HM1:=lh9 (HMK.out k hkn)
   clear hx hrow hB hvk ha2
   have HV9 : Hid (zaQ wr Bk m dk (Ls.getD k [])):=by have e:=HALL.out k hlt; have h:=HV0.out; rw [e] at h; exact h
   rw [HALL.out k hlt] at hvc
   go_wp2_with fail
   (with_reducible refine (zhO (HT.out _ HB1.out) (zaY HROW.out hm) HX.out HV9.out HSK.out (HSX.out k hlt) (HSY.out k hlt) hm (by have:=HS.out; have:=HM1.out; omega) (by have:=HS.out; have:=HLK.out; omega)).mono ?_)
   rintro e w3 ⟨g3,rfl,h1,hr3,hb⟩
   have hr4:=hr3
   rw [← HCS.out k hlt] at hr4
   have HR4:=lh9 hr4
   have hq4 : w.heap.size ≤ g3:=Nat.le_trans HB1.out.size h1
   have HB4:=lh9 (zac HB1.out hb)
   clear hr3 hr4 hb hc0 hc1 hc2 hvc HX HROW HB1 HV0 HV9 h1
   go_wp2
   go_roundg (n - k)
   case measure => omega
   case rel => exact ⟨k + 1,g3,by omega,by omega,by go_num,rfl,hq4,HR4.out,HB4.out⟩
  ·have hk : k = n:=by omega
   subst hk
   have hd3 : decide ((k : Int) < (k : Int)) = false:=by simp
   rw [HFIN.out] at hrow
   have HR5:=lh9 hrow
   have HB1:=lh9 hB
   clear hrow hB
   go_wp2
   go_ret2
   exact ⟨q,rfl,hwq,HR5.out,HB1.out⟩
theorem zhP {m j : Nat} (hT : zam w) (hr : zaQ w A n c rs) (hv : zdq w B n Ls) (hn0 : 0 < n) (h0 : (Ls.getD 0 []).length = m) (hj : j < n) (hall : ∀ i,i < j → (Ls.getD i []).length = m) (hne : (Ls.getD j []).length ≠ m) (hx : zau L rs) (hy : ∀ V ∈ Ls,zau K V) (hn : n ≤ 1073741824:=by omega) (hm : m ≤ 1073741824:=by omega) (hS : 1 + n * (L + K + 1) ≤ 67108864:=by omega) :
  Calls Tryz.prog 40 #[.slice A n c,.slice B n d] w (zaT w):=by
 have hlr:=hr.len
 have hlv:=hv.len
 have HLR:=lh9 hlr
 have HLV:=lh9 hlv
 have HSX : Hid (∀ i,i < n → SzQ L (rs.getD i 0)):=fun i hi => hx.at_ (by omega)
 have HSY : Hid (∀ i,i < n → zau K (Ls.getD i [])):=fun i hi => hy _ (List.mem_of_getElem? (zcB (by omega)))
 have HSC : Hid (∀ k,k ≤ n → zau (1 + k * (L + K + 1)) (zbv m (rs.take k) (Ls.take k))):=fun k hk => zgN m hx hy k (by omega) (by omega)
 have HMK : Hid (∀ k,k ≤ n → k * (L + K + 1) ≤ n * (L + K + 1)):=fun k hk => Nat.mul_le_mul_right _ hk
 have HLK : Hid (L + K ≤ n * (L + K + 1)):=Nat.le_trans (Nat.le_succ _) (Nat.le_mul_of_pos_left _ hn0)
 have HCS : Hid (∀ k,k < n → zbv m (rs.take (k + 1)) (Ls.take (k + 1)) = zgp (zbv m (rs.take k) (Ls.take k)) (rs.getD k 0) (Ls.getD k [])):=fun k hk => zdT m rs Ls k (by omega) (by omega)
 have HALL:=lh9 hall
 have HNE:=lh9 hne
 unfold zaT
 have HA:=lh9 hr
 have HB9:=lh9 hv.num
 have HT:=lh9 (fun w' (hb : Below w.heap.size w w') => hT.on hb)
 have HS:=lh9 hS
 have H0 : Hid (∃ (ad : Addr) (B' : oA9) (d' : Nat),B = some ad ∧ w.cell? ad = some (.slice B' m d')):=by
  obtain ⟨ad,B',d',e,_,h2,_⟩:=hv.num 0 _ (zcB (d:=[]) (by omega))
  rw [h0,show ad.add 0 = ad from by unfold Addr.add; rw [if_pos rfl]] at h2
  exact ⟨ad,B',d',e,h2⟩
 obtain ⟨Z,hZ⟩:=zdD m (by omega)
 have hmk:=fun W => (hZ W).1
 have HOWN:=lh9 (hZ w).2
 clear hT hr hv h0 hx hy hlr hlv hS hZ hall hne
 obtain ⟨av,B',d',rfl,hc0⟩:=H0.out
 have hB : Below w.heap.size w (w.alloc (.cells Z 44)):=(Below.refl _ w).alloc (Nat.le_refl _) _
 have hd1 : ((n : Int) == 0) = false:=by rw [beq_eq_false_iff_ne]; omega
 have hd2 : ((n : Int) != (n : Int)) = false:=by simp
 have i0 : (0 : Int) ≤ (n : Int):=by omega
 have i1 : (0 : Int) < (n : Int):=by omega
 go_enter Tryz.func40,Tryz.ntmps40
 go_wp2_with fail
 clear hmk hc0 H0
 have hRW : zcc (w.alloc (.cells Z 44)) w.heap.size m (zbv m (rs.take 0) (Ls.take 0)):=HOWN.out
 obtain ⟨gp,hgp⟩ : ∃ g,w.heap.size = g:=⟨_,rfl⟩
 rw [hgp] at hRW ⊢
 have hwg : w.heap.size ≤ gp:=by omega
 clear hgp HOWN
 generalize w.alloc (.cells Z 44) = W1 at *
 go_loopg [6,28] (n + 1) (fun g sl ix wr => ∃ (k q : Nat),k ≤ n ∧ k ≤ j ∧ n < g + k ∧ ix = .int .i64 k ∧ sl = .slice (some ⟨q,0,none⟩) m m ∧ w.heap.size ≤ q ∧ zcc wr q m (zbv m (rs.take k) (Ls.take k)) ∧ Below w.heap.size w wr)
 case atStart => exact ⟨0,gp,Nat.zero_le _,Nat.zero_le _,by omega,rfl,rfl,hwg,hRW,hB⟩
 case round =>
  clear hRW hB hwg
  obtain ⟨k,q,hkn,hkj,hg,rfl,rfl,hwq,hrow,hB⟩:=hrel
  by_cases hlt : k < n
  ·have hlv:=HLV.out
   obtain ⟨av2,Bk,dk,ha2,hav,hvc,hvk⟩:=HB9.out k _ (zcB (d:=[]) (by omega))
   obtain rfl : av = av2:=by injection ha2
   obtain ⟨ad,b1,B1,m1,d1,E1,u1,v1,rfl,-,hc0,hc1,hc2,hx⟩:=HA.out.get hB hlt
   have hvc:=zad hB hvc
   have HV0:=lh9 (hvk.keep hB)
   have hd3 : decide ((k : Int) < (n : Int)) = true:=decide_eq_true (by omega)
   have i2 : (0 : Int) ≤ (k : Int):=by omega
   have i3 : (k : Int) < (n : Int):=by omega
   have HX:=lh9 hx
   have HROW:=lh9 hrow
   have HB1:=lh9 hB
   have HSK:=lh9 (HSC.out k hkn)
   have HM1:=lh9 (HMK.out k hkn)
   clear hx hrow hB hvk ha2
   by_cases hkj2 : k < j
   ·have HV9 : Hid (zaQ wr Bk m dk (Ls.getD k [])):=by have e:=HALL.out k hkj2; have h:=HV0.out; rw [e] at h; exact h
    rw [HALL.out k hkj2] at hvc
    go_wp2_with fail
    (with_reducible refine (zhO (HT.out _ HB1.out) (zaY HROW.out hm) HX.out HV9.out HSK.out (HSX.out k hlt) (HSY.out k hlt) hm (by have:=HS.out; have:=HM1.out; omega) (by have:=HS.out; have:=HLK.out; omega)).mono ?_)
    rintro e w3 ⟨g3,rfl,h1,hr3,hb⟩
    have hr4:=hr3
    rw [← HCS.out k hlt] at hr4
    have HR4:=lh9 hr4
    have hq4 : w.heap.size ≤ g3:=Nat.le_trans HB1.out.size h1
    have HB4:=lh9 (zac HB1.out hb)
    clear hr3 hr4 hb hc0 hc1 hc2 hvc HX HROW HB1 HV0 HV9 h1
    go_wp2
    go_roundg (n - k)
    case measure => omega
    case rel => exact ⟨k + 1,g3,by omega,by omega,by omega,by go_num,rfl,hq4,HR4.out,HB4.out⟩
   ·have hkj3 : k = j:=by omega
    subst hkj3
    obtain ⟨M,hM⟩ : ∃ M,(Ls.getD k []).length = M:=⟨_,rfl⟩
    rw [hM] at hvc
    have HNO : ∀ W,Hid (Calls Tryz.prog 16 #[.slice (some ⟨q,0,none⟩) m m,.agg #[.bool b1,.slice B1 m1 d1,.slice E1 u1 v1],.slice Bk M dk] W (zaT W)):=fun W => zkO (fun e => HNE.out (by rw [hM]; exact e.symm))
    clear hM
    go_wp2_with fail
    (with_reducible refine (HNO _).out.mono ?_)
    rintro e w3 ⟨rfl,hb⟩
    have HB4:=lh9 (zac HB1.out hb)
    clear hb hc0 hc1 hc2 hvc HX HROW HB1 HV0
    go_wp2
    go_ret2
    exact ⟨rfl,HB4.out⟩
  ·have hk : k = n:=by omega
   omega
end
end Go.Proofs.YtkiedljcgkoaiaaGreatDoor
