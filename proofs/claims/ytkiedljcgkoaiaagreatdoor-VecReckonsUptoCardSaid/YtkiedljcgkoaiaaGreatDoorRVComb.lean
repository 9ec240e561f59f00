/- What this claim leans on. -/
import Derived.Test.YtkiedljcgkoaiaaGreatDoorRVRefs
namespace Go.Proofs.YtkiedljcgkoaiaaGreatDoor
open Go Go.RowKit
set_option maxHeartbeats 16000000
set_option maxRecDepth 100000
set_option linter.unusedVariables false
set_option linter.unusedSimpArgs false
structure zgD (w : World) (A : oA9) (n : Nat) (Ls : List (List Rat)) : Prop where
 len : Ls.length = n
 num : ∀ i L,Ls[i]? = some L → ∃ (ad : Addr) (B : oA9) (d : Nat),A = some ad ∧ ad.block < w.heap.size ∧ w.cell? (ad.add i) = some (.slice B L.length d) ∧ zbk w B L.length d L
theorem zgD.below {w w' : World} {A : oA9} {n : Nat} {Ls : List (List Rat)} (h : zgD w A n Ls) (hb : Below w.heap.size w w') : zgD w' A n Ls :=
 ⟨h.len,fun i L hi => by
  obtain ⟨ad,B,d,e,h1,h2,h3⟩:=h.num i L hi
  exact ⟨ad,B,d,e,Nat.lt_of_lt_of_le h1 hb.size,zad hb h2,h3.keep hb⟩⟩
theorem zgs {α : Type} {xs : List α} {k : Nat} {d : α} (h : k < xs.length) : xs[k]? = some (xs.getD k d):=by
 rw [List.getD_eq_getElem?_getD,List.getElem?_eq_getElem h]; rfl
theorem zgK (m : Nat) (rs : List Rat) (Ls : List (List Rat)) (k : Nat) (h : k < rs.length) (h' : k < Ls.length) : zcW m (rs.take (k + 1)) (Ls.take (k + 1)) = zbl (zcW m (rs.take k) (Ls.take k)) (rs.getD k 0) (Ls.getD k []):=by
 unfold zcW
 have e : List.zip (rs.take (k + 1)) (Ls.take (k + 1)) = List.zip (rs.take k) (Ls.take k) ++ [(rs.getD k 0,Ls.getD k [])]:=by
  rw [List.take_succ_eq_append_getElem h,List.take_succ_eq_append_getElem h',List.zip_append (by rw [List.length_take,List.length_take]; omega)]
  congr 1
  rw [List.getD_eq_getElem?_getD,List.getD_eq_getElem?_getD,List.getElem?_eq_getElem h,List.getElem?_eq_getElem h']
  rfl
 rw [e,List.foldl_append]
 rfl
theorem zlP {K L : Nat} (m : Nat) {rs : List Rat} {Ls : List (List Rat)} (hr : zax L rs) (hL : ∀ V ∈ Ls,zax K V) : ∀ k,k ≤ rs.length → k ≤ Ls.length → zax (1 + k * (L + K + 1)) (zcW m (rs.take k) (Ls.take k))
 | 0,_,_ => fun x hx => by
   have : x = 0:=by
    simp [zcW] at hx
    exact hx.2
   rw [this,Nat.zero_mul]; exact SzQ.zero
 | k + 1,h,h' => by
   rw [zgK m rs Ls k (by omega) (by omega)]
   have h1:=zlP m hr hL k (by omega) (by omega)
   have h2 : zax K (Ls.getD k []):=hL _ (List.mem_of_getElem? (zgs (by omega)))
   exact (h1.addT (hr.at_ (by omega)) h2).up (by rw [Nat.succ_mul]; omega)
section
variable {K L : Nat} {rs : List Rat} {Ls : List (List Rat)} {A B : oA9} {n n' c d : Nat} {w : World}
theorem vec_comb {m : Nat} (hT : zan w) (hr : zbk w A n c rs) (hv : zgD w B n Ls) (hn0 : 0 < n) (h0 : (Ls.getD 0 []).length = m) (hall : ∀ i,i < n → (Ls.getD i []).length = m) (hx : zax L rs) (hy : ∀ V ∈ Ls,zax K V) (hn : n ≤ 1073741824:=by omega) (hm : m ≤ 1073741824:=by omega) (hS : 1 + n * (L + K + 1) ≤ 67108864:=by omega) :
  Calls Tryz.prog 40 #[.slice A n c,.slice B n d] w (zcP w m (zcW m rs Ls)):=by
 have hlr:=hr.len
 have hlv:=hv.len
 have HLR:=lh9 hlr
 have HLV:=lh9 hlv
 have HSX : Hid (∀ i,i < n → SzQ L (rs.getD i 0)):=fun i hi => hx.at_ (by omega)
 have HSY : Hid (∀ i,i < n → zax K (Ls.getD i [])):=fun i hi => hy _ (List.mem_of_getElem? (zgs (by omega)))
 have HSC : Hid (∀ k,k ≤ n → zax (1 + k * (L + K + 1)) (zcW m (rs.take k) (Ls.take k))):=fun k hk => zlP m hx hy k (by omega) (by omega)
 have HMK : Hid (∀ k,k ≤ n → k * (L + K + 1) ≤ n * (L + K + 1)):=fun k hk => Nat.mul_le_mul_right _ hk
 have HLK : Hid (L + K ≤ n * (L + K + 1)):=Nat.le_trans (Nat.le_succ _) (Nat.le_mul_of_pos_left _ hn0)
 have HCS : Hid (∀ k,k < n → zcW m (rs.take (k + 1)) (Ls.take (k + 1)) = zbl (zcW m (rs.take k) (Ls.take k)) (rs.getD k 0) (Ls.getD k [])):=fun k hk => zgK m rs Ls k (by omega) (by omega)
 have HALL:=lh9 hall
 have HFIN : Hid (zcW m (rs.take n) (Ls.take n) = zcW m rs Ls):=by
  show _ = _
  rw [List.take_of_length_le (by omega),List.take_of_length_le (by omega)]
 unfold zcP
 have HA:=lh9 hr
 have HB9:=lh9 hv.num
 have HT:=lh9 (fun w' (hb : Below w.heap.size w w') => hT.on hb)
 have HS:=lh9 hS
 have H0 : Hid (∃ (ad : Addr) (B' : oA9) (d' : Nat),B = some ad ∧ w.cell? ad = some (.slice B' m d')):=by
  obtain ⟨ad,B',d',e,_,h2,_⟩:=hv.num 0 _ (zgs (d:=[]) (by omega))
  rw [h0,show ad.add 0 = ad from by unfold Addr.add; rw [if_pos rfl]] at h2
  exact ⟨ad,B',d',e,h2⟩
 obtain ⟨Z,hZ⟩:=zes m (by omega)
 have hmk:=fun W => (hZ W).1
 have HOWN:=lh9 (hZ w).2
 clear hT hr hv h0 hx hy hlr hlv hS hZ hall
 obtain ⟨av,B',d',rfl,hc0⟩:=H0.out
 have hB : Below w.heap.size w (w.alloc (.cells Z 44)):=(Below.refl _ w).alloc (Nat.le_refl _) _
 have hd1 : ((n : Int) == 0) = false:=by rw [beq_eq_false_iff_ne]; omega
 have hd2 : ((n : Int) != (n : Int)) = false:=by simp
 have i0 : (0 : Int) ≤ (n : Int):=by omega
 have i1 : (0 : Int) < (n : Int):=by omega
 go_enter Tryz.func40,Tryz.ntmps40
 go_wp2_with fail
 clear hmk hc0 H0
 have hRW : zct (w.alloc (.cells Z 44)) w.heap.size m (zcW m (rs.take 0) (Ls.take 0)):=HOWN.out
 obtain ⟨gp,hgp⟩ : ∃ g,w.heap.size = g:=⟨_,rfl⟩
 rw [hgp] at hRW ⊢
 have hwg : w.heap.size ≤ gp:=by omega
 clear hgp HOWN
 generalize w.alloc (.cells Z 44) = W1 at *
 go_loopg [6,28] (n + 1) (fun g sl ix wr => ∃ (k q : Nat),k ≤ n ∧ n < g + k ∧ ix = .int .i64 k ∧ sl = .slice (some ⟨q,0,none⟩) m m ∧ w.heap.size ≤ q ∧ zct wr q m (zcW m (rs.take k) (Ls.take k)) ∧ Below w.heap.size w wr)
 case atStart => exact ⟨0,gp,Nat.zero_le _,by omega,rfl,rfl,hwg,hRW,hB⟩
 case round =>
  clear hRW hB hwg
  obtain ⟨k,q,hkn,hg,rfl,rfl,hwq,hrow,hB⟩:=hrel
  by_cases hlt : k < n
  ·have hlv:=HLV.out
   obtain ⟨av2,Bk,dk,ha2,hav,hvc,hvk⟩:=HB9.out k _ (zgs (d:=[]) (by omega))
   obtain rfl : av = av2:=by injection ha2
   obtain ⟨ad,b1,B1,m1,d1,E1,u1,v1,rfl,-,hc0,hc1,hc2,hx⟩:=HA.out.get hB hlt
   have hvc:=zad hB hvc
   have HV0:=lh9 (hvk.keep hB)
   have hd3 : decide ((k : Int) < (n : Int)) = true:=decide_eq_true (by omega)
   have i2 : (0 : Int) ≤ (k : Int):=by omega
   have i3 : (k : Int) < (n : Int):=by omega
   have HX:=lh9 hx
   have HROW:=lh9 hrow
   have HB1:=lh9 hB
   have HSK:=lh9 (HSC.out k hkn)
   have HM1:=lh9 (HMK.out k hkn)
   clear hx hrow hB hvk ha2
   have HV9 : Hid (zbk wr Bk m dk (Ls.getD k [])):=by have e:=HALL.out k hlt; have h:=HV0.out; rw [e] at h; exact h
   rw [HALL.out k hlt] at hvc
   go_wp2_with fail
   (with_reducible refine (zkG (HT.out _ HB1.out) (zbo HROW.out hm) HX.out HV9.out HSK.out (HSX.out k hlt) (HSY.out k hlt) hm (by have:=HS.out; have:=HM1.out; omega) (by have:=HS.out; have:=HLK.out; omega)).mono ?_)
   rintro e w3 ⟨g3,rfl,h1,hr3,hb⟩
   have hr4:=hr3
   rw [← HCS.out k hlt] at hr4
   have HR4:=lh9 hr4
   have hq4 : w.heap.size ≤ g3:=Nat.le_trans HB1.out.size h1
   have HB4:=lh9 (zac HB1.out hb)
   clear hr3 hr4 hb hc0 hc1 hc2 hvc HX HROW HB1 HV0 HV9 h1
   go_wp2
   go_roundg (n - k)
   case measure => omega
   case rel => exact ⟨k + 1,g3,by omega,by omega,by go_num,rfl,hq4,HR4.out,HB4.out⟩
  ·have hk : k = n:=by omega
   subst hk
   have hd3 : decide ((k : Int) < (k : Int)) = false:=by simp
   rw [HFIN.out] at hrow
   have HR5:=lh9 hrow
   have HB1:=lh9 hB
   clear hrow hB
   go_wp2
   go_ret2
   exact ⟨q,rfl,hwq,HR5.out,HB1.out⟩
end
section
variable {K K' L : Nat} {r : Rat} {xs ys : List Rat} {A B : oA9} {n n' c d : Nat} {w : World} {s : Bool} {D9 : oA9} {m9 e9 : Nat} {U9 : oA9} {uu9 vv9 : Nat}
theorem zkP {k : Nat} (hx : xs.length = n) (hy : ys.length = n) (hk : k < n) : (zbl xs r ys).take (k + 1) = (zbl xs r ys).take k ++ [xs.getD k 0 + r * ys.getD k 0]:=by
 have hl : (zbl xs r ys).length = n:=zjw hx hy
 rw [List.take_succ_eq_append_getElem (by omega)]
 congr 1
 unfold zbl
 rw [List.getElem_zipWith,List.getD_eq_getElem?_getD,List.getD_eq_getElem?_getD,List.getElem?_eq_getElem (by omega),List.getElem?_eq_getElem (by omega)]
 rfl
theorem zdY (ha : zcJ w A n c xs) (hr : zbQ w r s D9 m9 e9 U9 uu9 vv9) (hb : zcJ w B n d ys) (hx : zax K xs) (zr : SzQ L r) (hy : zax K' ys) (hK : K ≤ 2097152) (hL : L ≤ 2097152) (hK' : K' ≤ 2097152) (hS : L + K' ≤ 2097152) (hn : n ≤ 1073741824:=by omega) :
  Calls Tryz.prog 23 #[.slice A n c,.agg #[.bool s,.slice D9 m9 e9,.slice U9 uu9 vv9],.slice B n d] w (zgp w n (zbl xs r ys)):=by
 obtain ⟨i1',hi1,hz10,hz11,hz12⟩:=info_parts ziO
 have hla:=ha.len
 have hlb:=hb.len
 have hlz : (zbl xs r ys).length = n:=zjw hla hlb
 have HSX : Hid (∀ i,i < n → SzQ K (xs.getD i 0)):=fun i hi => hx.at_ (by omega)
 have HSY : Hid (∀ i,i < n → SzQ K' (ys.getD i 0)):=fun i hi => hy.at_ (by omega)
 have HSU : Hid (∀ k,k < n → (zbl xs r ys).take (k + 1) = (zbl xs r ys).take k ++ [xs.getD k 0 + r * ys.getD k 0]):=fun k hk => zkP hla hlb hk
 have HZR:=lh9 zr
 have HLZ:=lh9 hlz
 have HA:=lh9 ha
 have HB9:=lh9 hb
 have HNS:=lh9 hS
 have HR:=lh9 (fun w' (hb : Below w.heap.size w w') => hr.below hb)
 obtain ⟨bx1,bx2,bx3⟩:=zaL w 36 #[.bool s,.slice D9 m9 e9,.slice U9 uu9 vv9]
 have hB:=bx1
 have hkr:=bx2
 have hwz : w.heap.size + 1 ≤ (w.alloc (.cells #[.bool s,.slice D9 m9 e9,.slice U9 uu9 vv9] 36)).heap.size:=bx3
 unfold zgp
 clear ha hr hb hx hy zr hla hlb hlz hS bx1 bx2 bx3
 have i0 : (0 : Int) ≤ (n : Int):=by omega
 go_enter Tryz.func23,Tryz.ntmps23
 go_wp2_with fail
 generalize w.alloc (.cells #[.bool s,.slice D9 m9 e9,.slice U9 uu9 vv9] 36) = W1 at *
 go_loopg [7,8] (n + 1) (fun g sl ix wr => ∃ (k : Nat) (v : Value) (vs : List Value),k ≤ n ∧ n < g + k ∧ ix = .int .i64 k ∧ v = sl ∧ zcs zbQ wr (w.heap.size + 1) 36 v ((zbl xs r ys).take k) vs ∧ Below w.heap.size w wr ∧ Blk wr w.heap.size 36 #[.bool s,.slice D9 m9 e9,.slice U9 uu9 vv9] ∧ w.heap.size + 1 ≤ wr.heap.size)
 case atStart => exact ⟨0,_,_,Nat.zero_le _,by omega,rfl,rfl,zcs.nil _ _ _,hB,hkr,hwz⟩
 case round =>
  clear hB hkr hwz
  obtain ⟨k,v,vs,hkn,hg,rfl,rfl,hon,hB,hkr,hwz⟩:=hrel
  by_cases hlt : k < n
  ·obtain ⟨ad,b1,B1,m1,d1,E1,u1,v1,rfl,had,hc0,hc1,hc2,hx⟩:=HA.out.get hB hlt
   obtain ⟨ae,b3,B3,m3,d3,E3,u3,v3,rfl,hae,he0,he1,he2,hy⟩:=HB9.out.get hB hlt
   have hd1 : decide ((k : Int) < (n : Int)) = true:=decide_eq_true (by omega)
   have i1 : (0 : Int) ≤ (k : Int):=by omega
   have i2 : (k : Int) < (n : Int):=by omega
   have hbd:=(Below.refl wr.heap.size wr).drew
   have HON:=lh9 (zcs.below zah hon hbd)
   have HX:=lh9 (hx.below hbd)
   have HY:=lh9 (hy.below hbd)
   have HB1:=lh9 (zac hB hbd)
   have HKR:=lh9 (zae hbd hkr)
   have HWZ : Hid (w.heap.size + 1 ≤ wr.drew.heap.size):=hwz
   have hlq : ((zbl xs r ys).take k).length = k:=by rw [List.length_take,HLZ.out]; omega
   have HLQ:=lh9 hlq
   have HCE : Hid (∀ w',Below w.heap.size w w' → (w'.cell? (ad.add (k * 3)) = some (.bool b1) ∧ w'.cell? ⟨(ad.add (k * 3)).block,(ad.add (k * 3)).off + 1,none⟩ = some (.slice B1 m1 d1) ∧ w'.cell? ⟨(ad.add (k * 3)).block,(ad.add (k * 3)).off + 2,none⟩ = some (.slice E1 u1 v1)) ∧ (w'.cell? (ae.add (k * 3)) = some (.bool b3) ∧ w'.cell? ⟨(ae.add (k * 3)).block,(ae.add (k * 3)).off + 1,none⟩ = some (.slice B3 m3 d3) ∧ w'.cell? ⟨(ae.add (k * 3)).block,(ae.add (k * 3)).off + 2,none⟩ = some (.slice E3 u3 v3))):=fun w' hb' => by
    have t : ∀ (q : Addr) (v : Value),q.block < w.heap.size → wr.cell? q = some v → w'.cell? q = some v:=fun q v hq h => by
     rw [hb'.cell hq,← hB.cell hq]; exact h
    have h1 : ∀ j,(ad.add j).block < w.heap.size:=fun j => by rw [zay]; exact had
    have h2 : ∀ j,(ae.add j).block < w.heap.size:=fun j => by rw [zay]; exact hae
    exact ⟨⟨t _ _ (h1 _) hc0,t _ _ (h1 _) hc1,t _ _ (h1 _) hc2⟩,t _ _ (h2 _) he0,t _ _ (h2 _) he1,t _ _ (h2 _) he2⟩
   obtain ⟨p0,p1,p2⟩:=hkr.c3
   have hlim:=HNS.out
   clear hx hy hon hbd hkr hwz hlq
   go_wp2_with fail
   refine rg (csc hc0 (csc hc1 (csc hc2 (csc he0 (csc he1 (csc he2 (csc p0 (csc p1 (csc p2 csn))))))))) (fun hHeld => ?_)
   clear hc0 hc1 hc2 he0 he1 he2 p0 p1 p2 hB
   generalize wr.drew = D at *
   refine tk 0 ?_
   refine tk 1 ?_
   refine tk 2 ?_
   refine tk 3 ?_
   refine tk 4 ?_
   refine tk 5 ?_
   refine tk 6 ?_
   refine tk 7 ?_
   refine tk 8 ?_
   refine tk 9 ?_
   refine rc 10 (fun KK hK9 => ?_)
   go_simp
   (with_reducible refine (zhw r (ys.getD k 0) s D9 m9 e9 U9 uu9 vv9 b3 B3 m3 d3 E3 u3 v3 L K' _ HZR.out (HR.out _ HB1.out) (HSY.out k hlt) HY.out hL hK').mono ?_)
   rintro e D2 ⟨b4,A4,n4,c4,E4,k4,f4,rfl,hq,hb⟩
   refine hK9.out _ _ (Cs.below hHeld hb) (fun hHeld => ?_)
   clear hK9 KK
   have HQ:=lh9 hq
   have HX:=lh9 (HX.out.below hb)
   have HB1:=lh9 (zac HB1.out hb)
   have HKR:=lh9 (zae hb HKR.out)
   have HON:=lh9 (zcs.below zah HON.out hb)
   have HWZ:=lh9 (Nat.le_trans HWZ.out hb.size)
   clear hq hb HY
   refine rc 11 (fun KK hK9 => ?_)
   go_simp
   (with_reducible refine (zhv (xs.getD k 0) (r * ys.getD k 0) b1 B1 m1 d1 E1 u1 v1 b4 A4 n4 c4 E4 k4 f4 K (L + K') _ (HSX.out k hlt) HX.out (HZR.out.mul (HSY.out k hlt)) HQ.out hK hlim).mono ?_)
   rintro e w5 ⟨b5,B5,m5,d5,E5,u5,f5,rfl,hx5,hb⟩
   refine hK9.out _ _ (Cs.below hHeld hb) (fun hHeld => ?_)
   clear hK9 KK
   obtain ⟨t1,t2,-⟩:=zaL w5 36 #[.bool b5,.slice B5 m5 d5,.slice E5 u5 f5]
   have hup:=zac hb t1
   have hon:=zcs.below zah HON.out hup
   have HX:=lh9 (hx5.below t1)
   have HB1:=lh9 (zac HB1.out hup)
   have HKR:=lh9 (zae hup HKR.out)
   have HCELL:=lh9 (zgY t2)
   have HBS:=lh9 (Nat.le_trans HWZ.out hup.size)
   have hown:=hon.own
   rw [HLQ.out] at hown
   have HOWN:=lh9 hown
   have HNOU:=lh9 hon.nou
   have HOB:=lh9 (fun r (h : v.ownBlock = some r) => hon.own.lt r h)
   have HON:=lh9 hon
   have hHeld2:=Cs.below hHeld t1
   clear hb hup hx5 hon t1 t2 hown HWZ
   refine rc 12 (fun KK hK => ?_)
   go_simp
   refine hK.out _ _ hHeld2 (fun hHeld => ?_)
   clear hK KK hHeld2
   refine rc 13 (fun KK hK => ?_)
   refine zeU _ (.tmp 15) (.tmp 27) 29 rfl (w.heap.size + 1) 36 i1' (.agg #[.bool false,.slice none 0 0,.slice none 0 0]) 3 56 Tryz.underlying29 hi1 hz10 hz11 hz12 rfl (by decide) v k vs rfl HOWN.out ⟨w5.heap.size,0,none⟩ 1 1 [.bool b5,.slice B5 m5 d5,.slice E5 u5 f5] rfl rfl HCELL.out (zkb _ _ _ _ _ _ _) (by unfold maxLen; omega) (by omega) HBS.out HNOU.out ziA (zka _ _ _ _ _ _ _) ?_
   intro v' w8 hown' hgrow hat hnou'
   have HON8:=lh9 (zcs.grow (n:=k + 1) zah HON.out HX.out hown' (by rw [HLQ.out]) hgrow hnou')
   have HB8:=lh9 (HB1.out.grown hgrow (Nat.le_trans (Nat.le_succ _) HBS.out) (fun r hr => Nat.le_trans (Nat.le_succ _) (HOB.out r hr).1))
   have HKR8:=lh9 (zjy HKR.out hgrow (fun h => by have:=(HOB.out _ h).1; omega))
   have HWZ8 : Hid (w.heap.size + 1 ≤ w8.heap.size):=Nat.le_trans HBS.out hgrow.size
   obtain ⟨⟨y0,y1,y2⟩,y3,y4,y5⟩:=HCE.out _ HB8.out
   obtain ⟨p0,p1,p2⟩:=HKR8.out.c3
   refine hK.out _ _ (csc y0 (csc y1 (csc y2 (csc y3 (csc y4 (csc y5 (csc p0 (csc p1 (csc p2 csn))))))))) (fun hHeld => ?_)
   clear hK KK y0 y1 y2 y3 y4 y5 p0 p1 p2 hown' hgrow hat hnou'
   refine tk 14 ?_
   refine rdn ?_
   clear hHeld HON HX HB1 HCELL HBS HOWN HNOU HOB HKR
   rw [← HSU.out k hlt] at HON8
   go_wp2
   go_roundg (n - k)
   case measure => omega
   case rel => exact ⟨k + 1,_,_,by omega,by omega,by go_num,rfl,HON8.out,HB8.out,HKR8.out,HWZ8.out⟩
  ·have hd1 : decide ((k : Int) < (n : Int)) = false:=decide_eq_false (by omega)
   have hk : k = n:=by omega
   subst hk
   have hlz:=HLZ.out
   rw [List.take_of_length_le (by omega)] at hon
   obtain ⟨A1,c1,rfl,hv,hf⟩:=hon.shape
   rw [hlz] at hv ⊢
   have HV:=lh9 hv
   have HB2:=lh9 hB
   clear hon hv hB hkr hf hlz
   go_wp2
   go_ret
   exact ⟨A1,c1,rfl,HV.out,HB2.out⟩
end
end Go.Proofs.YtkiedljcgkoaiaaGreatDoor
