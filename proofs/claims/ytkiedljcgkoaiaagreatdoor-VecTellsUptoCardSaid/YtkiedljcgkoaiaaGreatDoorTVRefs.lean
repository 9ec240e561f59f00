/- What this claim leans on. -/
import Derived.Test.YtkiedljcgkoaiaaGreatDoorTVTimes
import Derived.Test.YtkiedljcgkoaiaaGreatDoorTVCmp
namespace Go.Proofs.YtkiedljcgkoaiaaGreatDoor
open Go Go.RowKit
set_option maxHeartbeats 16000000
set_option maxRecDepth 100000
set_option linter.unusedVariables false
set_option linter.unusedSimpArgs false
theorem zaC : zdQ zel where
 below h hb:=h.below hb
 offg h hk hcs ho:=⟨⟨h.1.1,zhn h.1.2 hk hcs ho⟩,zhn h.2 hk hcs ho⟩
abbrev zdO (w : World) (A : oA9) (n c : Nat) (xs : List Rat) : Prop:=zbl zel w A n c xs
theorem zdO.keep {w w' : World} {A : oA9} {n c : Nat} {xs : List Rat} (h : zdO w A n c xs) (hb : Below w.heap.size w w') : zdO w' A n c xs:=zbl.below zaC h hb
theorem zdO.get {w wr : World} {A : oA9} {n c : Nat} {xs : List Rat} (h : zdO w A n c xs) (hb : Below w.heap.size w wr) {i : Nat} (hi : i < n) : ∃ (ad : Addr) (b : Bool) (B : oA9) (m d : Nat) (F : oA9) (u v : Nat),A = some ad ∧ ad.block < w.heap.size ∧ wr.cell? (ad.add (i * 3)) = some (.bool b) ∧ wr.cell? ⟨(ad.add (i * 3)).block,(ad.add (i * 3)).off + 1,none⟩ = some (.slice B m d) ∧ wr.cell? ⟨(ad.add (i * 3)).block,(ad.add (i * 3)).off + 2,none⟩ = some (.slice F u v) ∧ zel wr (xs.getD i 0) b B m d F u v:=by
 obtain ⟨ad,b,B,m,d,F,u,v,e,h0,h1,h2,h3,h4⟩:=h.at_ hi 0
 exact ⟨ad,b,B,m,d,F,u,v,e,h0,zad hb h1,zad hb (zfB h2),zad hb (zmb h3),h4.below hb⟩
def zma (w : World) (n : Nat) (xs : List Rat) (e : Ending) (w' : World) : Prop:=∃ (A : oA9) (c : Nat),e = .returned (.slice A n c) ∧ zdO w' A n c xs ∧ Below w.heap.size w w'
theorem infoR10 : (Tryz.prog.info? 36).map (fun i => (i.zero,i.size,i.bytes)) = some (some (.agg #[.bool false,.slice none 0 0,.slice none 0 0]),3,56):=by kernel_rfl
theorem zir {A : oA9} {n c : Nat} {L : List (Int × Int)} {w : World} (h : zaF w A n c L) :
  Calls Tryz.prog 11 #[.slice A n c] w (zma w n (zbO L)):=by
 obtain ⟨i1',hi1,hz10,hz11,hz12⟩:=info_parts infoR10
 have hn0 : n ≤ 1048576:=Nat.le_trans h.fits h.small
 have HL:=lh9 h.len
 have HG : Hid (∀ k,k < n → zbc (L.getD k (0,0)).1 ∧ zbc (L.getD k (0,0)).2 ∧ ∃ ad,A = some ad ∧ ad.block < w.heap.size ∧ w.cell? (ad.add (k * 2)) = some (.int .i64 (L.getD k (0,0)).1) ∧ w.cell? (ad.add (k * 2 + 1)) = some (.int .i64 (L.getD k (0,0)).2)):=fun k hk => by
  have hl:=h.len
  have e : L[k]? = some (L.getD k (0,0)):=by rw [List.getD_eq_getElem?_getD,List.getElem?_eq_getElem (by omega)]; rfl
  obtain ⟨h1,h2⟩:=h.ints _ (List.mem_of_getElem? e)
  exact ⟨h1,h2,h.row k _ e⟩
 have HS : Hid (∀ k,k < n → zbO (L.take (k + 1)) = zbO (L.take k) ++ [qOf (L.getD k (0,0)).1 (L.getD k (0,0)).2]):=fun k hk => by
  have hl:=h.len
  unfold zbO
  rw [List.take_succ_eq_append_getElem (by omega),List.map_append,List.getD_eq_getElem?_getD,List.getElem?_eq_getElem (by omega)]
  rfl
 unfold zma
 clear h
 have hB:=Below.refl w.heap.size w
 go_enter Tryz.func11,Tryz.ntmps11
 go_wp2_with fail
 go_loopg [3,4] (n + 1) (fun g sl ix wr => ∃ (k : Nat) (v : Value) (vs : List Value),k ≤ n ∧ n < g + k ∧ ix = .int .i64 k ∧ v = sl ∧ zdp zel wr w.heap.size 36 v (zbO (L.take k)) vs ∧ Below w.heap.size w wr)
 case atStart => exact ⟨0,_,_,Nat.zero_le _,by omega,rfl,rfl,zdp.nil _ _ _,hB⟩
 case round =>
  clear hB
  obtain ⟨k,v,vs,hkn,hg,rfl,rfl,hon,hB⟩:=hrel
  by_cases hlt : k < n
  ·obtain ⟨hi1',hi2',ad,rfl,hadb,hc0,hc1⟩:=HG.out k hlt
   have HSK:=lh9 (HS.out k hlt)
   obtain ⟨q,hq⟩ : ∃ q,L.getD k (0,0) = q:=⟨_,rfl⟩
   rw [hq] at hi1' hi2' hc0 hc1 HSK
   obtain ⟨q1,q2⟩:=q
   dsimp only at hi1' hi2' hc0 hc1 HSK
   have HC0 : Hid (∀ w',Below w.heap.size w w' → w'.cell? (ad.add (k * 2)) = some (.int .i64 q1) ∧ w'.cell? ⟨(ad.add (k * 2)).block,(ad.add (k * 2)).off + 1,none⟩ = some (.int .i64 q2)):=fun w' hb => ⟨zad hb hc0,zfB (zad hb hc1)⟩
   have hd1 : decide ((k : Int) < (n : Int)) = true:=decide_eq_true (by omega)
   have i1 : (0 : Int) ≤ (k : Int):=by omega
   have i2 : (k : Int) < (n : Int):=by omega
   have hbd:=(Below.refl wr.heap.size wr).drew
   have HON:=lh9 (zdp.below zaC hon hbd)
   have HB:=lh9 (zac hB hbd)
   have HI1:=lh9 hi1'
   have HI2:=lh9 hi2'
   have hlq : (zbO (L.take k)).length = k:=by rw [zbz,List.length_take,HL.out]; omega
   have HLQ:=lh9 hlq
   obtain ⟨c0,c1⟩:=HC0.out _ hB
   clear hon hi1' hi2' hq hlq hbd hc0 hc1 hB
   go_wp2_with fail
   refine rg (csc c0 (csc c1 csn)) (fun hHeld => ?_)
   clear c0 c1
   generalize wr.drew = D at *
   refine tk 0 ?_
   refine tk 1 ?_
   refine tk 2 ?_
   refine tk 3 ?_
   refine tk 4 ?_
   refine tk 5 ?_
   refine tk 6 ?_
   refine tk 7 ?_
   refine tk 8 ?_
   refine tk 9 ?_
   refine tk 10 ?_
   refine rc 11 (fun KK hK => ?_)
   go_simp
   (with_reducible refine (ref10_of HI1.out HI2.out).mono ?_)
   rintro e w5 ⟨b5,B5,m5,d5,E5,u5,f5,rfl,hx5,hb⟩
   refine hK.out _ _ (Cs.below hHeld hb) (fun hHeld => ?_)
   clear hK KK
   obtain ⟨t1,t2,-⟩:=zaR w5 36 #[.bool b5,.slice B5 m5 d5,.slice E5 u5 f5]
   have hup:=zac hb t1
   have hon:=zdp.below zaC HON.out hup
   have HX:=lh9 (hx5.below t1)
   have HB:=lh9 (zac HB.out hup)
   have HCELL:=lh9 (zlr t2)
   have HBS:=lh9 HB.out.size
   have hown:=hon.own
   rw [HLQ.out] at hown
   have HOWN:=lh9 hown
   have HNOU:=lh9 hon.nou
   have HOB:=lh9 (fun r (h : v.ownBlock = some r) => hon.own.lt r h)
   have HON:=lh9 hon
   have hHeld2:=Cs.below hHeld t1
   clear hb hup hx5 hon t1 t2 hown
   refine rc 12 (fun KK hK => ?_)
   go_simp
   refine hK.out _ _ hHeld2 (fun hHeld => ?_)
   clear hK KK hHeld2
   refine rc 13 (fun KK hK => ?_)
   refine zic _ (.tmp 11) (.tmp 23) 29 rfl w.heap.size 36 i1' (.agg #[.bool false,.slice none 0 0,.slice none 0 0]) 3 56 Tryz.underlying29 hi1 hz10 hz11 hz12 rfl (by decide) v k vs rfl HOWN.out ⟨w5.heap.size,0,none⟩ 1 1 [.bool b5,.slice B5 m5 d5,.slice E5 u5 f5] rfl rfl HCELL.out (lit3_one _ _ _ _ _ _ _) (by unfold maxLen; omega) (by omega) HBS.out HNOU.out znP (lit3_noi _ _ _ _ _ _ _) ?_
   intro v' w8 hown' hgrow hat hnou'
   have HON8:=lh9 (zdp.grow (n:=k + 1) zaC HON.out HX.out hown' (by rw [HLQ.out]) hgrow hnou')
   have HB8:=lh9 (HB.out.grown hgrow HBS.out (fun r hr => (HOB.out r hr).1))
   obtain ⟨c0,c1⟩:=HC0.out _ HB8.out
   refine hK.out _ _ (csc c0 (csc c1 csn)) (fun hHeld => ?_)
   clear hK KK c0 c1 hown' hgrow hat hnou'
   refine tk 14 ?_
   refine rdn ?_
   clear hHeld HON HX HB HCELL HBS HOWN HNOU HOB
   rw [← HSK.out] at HON8
   go_wp2
   go_roundg (n - k)
   case measure => omega
   case rel => exact ⟨k + 1,_,_,by omega,by omega,by go_num,rfl,HON8.out,HB8.out⟩
  ·have hd1 : decide ((k : Int) < (n : Int)) = false:=decide_eq_false (by omega)
   have hk : k = n:=by omega
   subst hk
   rw [List.take_of_length_le (by rw [HL.out]; exact Nat.le_refl _)] at hon
   have hlq : (zbO L).length = k:=by rw [zbz]; exact HL.out
   obtain ⟨A1,c1,rfl,hv,hf⟩:=hon.shape
   rw [hlq] at hv ⊢
   have HV:=lh9 hv
   have HB1:=lh9 hB
   clear hon hv hB hlq hf
   go_wp2
   go_ret
   exact ⟨A1,c1,rfl,HV.out,HB1.out⟩
section
variable {K K' L : Nat} {r : Rat} {xs ys : List Rat} {A B : oA9} {n n' c d : Nat} {w : World} {s : Bool} {D9 : oA9} {m9 e9 : Nat} {U9 : oA9} {uu9 vv9 : Nat}
theorem znA {z : Int} (hz : zcI xs ys = z) (ha : zdO w A n c xs) (hb : zdO w B n' d ys) (hx : zau K xs) (hy : zau K' ys) (hK : K ≤ 2097152) (hK' : K' ≤ 2097152) (hn : n ≤ 1073741824:=by omega) (hn' : n' ≤ 1073741824:=by omega) :
  Calls Tryz.prog 26 #[.slice A n c,.slice B n' d] w (zbh w z):=by
 have hla:=ha.len
 have hlb:=hb.len
 have HLA:=lh9 hla
 have HLB:=lh9 hlb
 have HZ:=lh9 hz
 have HSX : Hid (∀ i,i < n → SzQ K (xs.getD i 0)):=fun i hi => hx.at_ (by omega)
 have HSY : Hid (∀ i,i < n' → SzQ K' (ys.getD i 0)):=fun i hi => hy.at_ (by omega)
 have HEND : Hid (∀ k,k = min n n' → zcI (xs.drop k) (ys.drop k) = cmpN n n'):=fun k hk => by
  rw [zjE (by omega),hla,hlb]
 unfold zbh
 have HA:=lh9 ha
 have HB9:=lh9 hb
 clear ha hb hx hy hla hlb hz
 have hB:=Below.refl w.heap.size w
 have i0 : (0 : Int) ≤ (n : Int):=by omega
 go_enter Tryz.func26,Tryz.ntmps26
 go_wp2_with fail
 go_loopg [5] (n + 1) (fun g ix wr => ∃ (k : Nat),k ≤ n ∧ k ≤ n' ∧ n < g + k ∧ ix = .int .i64 k ∧ Hid (zcI (xs.drop k) (ys.drop k) = z) ∧ Below w.heap.size w wr)
 case atStart => exact ⟨0,Nat.zero_le _,Nat.zero_le _,by omega,rfl,HZ,hB⟩
 case round =>
  clear hB
  obtain ⟨k,hkn,hkm,hg,rfl,hz0,hB⟩:=hrel
  by_cases hlt : k < n ∧ k < n'
  ·obtain ⟨hltn,hltm⟩:=hlt
   obtain ⟨ad,b1,B1,m1,d1,E1,u1,v1,rfl,-,hc0,hc1,hc2,hx⟩:=HA.out.get hB hltn
   obtain ⟨ae,b2,B2,m2,d2,E2,u2,v2,rfl,-,he0,he1,he2,hy⟩:=HB9.out.get hB hltm
   have hd1 : decide ((k : Int) < (n : Int)) = true:=decide_eq_true (by omega)
   have hn1 : decide (k < n) = true:=decide_eq_true (by omega)
   have hd2 : decide ((k : Int) < (n' : Int)) = true:=decide_eq_true (by omega)
   have hn2 : decide (k < n') = true:=decide_eq_true (by omega)
   have i1 : (0 : Int) ≤ (k : Int):=by omega
   have i2 : (k : Int) < (n : Int):=by omega
   have i3 : (k : Int) < (n' : Int):=by omega
   have HX:=lh9 hx
   have HY:=lh9 hy
   have HB1:=lh9 hB
   have hlx : k < xs.length:=by have:=HLA.out; omega
   have hly : k < ys.length:=by have:=HLB.out; omega
   obtain ⟨q,hq⟩ : ∃ q,zem (xs.getD k 0) (ys.getD k 0) = q:=⟨_,rfl⟩
   have HQ:=lh9 hq
   clear hx hy hB
   by_cases h0 : xs.getD k 0 = ys.getD k 0
   ·have HZ1 : Hid (zcI (xs.drop (k + 1)) (ys.drop (k + 1)) = z):=by
     show _ = _
     rw [← zer hlx hly h0]; exact hz0.out
    have hd3 : (q != 0) = false:=by rw [← hq,(zmc _ _).2 h0]; rfl
    clear h0 hlx hly hq
    go_wp2_with fail
    have hBw:=(Below.refl wr.heap.size wr).drew
    refine rg (csc hc0 (csc hc1 (csc hc2 (csc he0 (csc he1 (csc he2 csn)))))) (fun hHeld => ?_)
    refine tk 0 ?_
    refine tk 1 ?_
    refine tk 2 ?_
    refine tk 3 ?_
    refine tk 4 ?_
    refine tk 5 ?_
    refine tk 6 ?_
    refine tk 7 ?_
    refine rc 8 (fun KK hK9 => ?_)
    go_simp
    (with_reducible refine (zbq HQ.out (zkC _ _ b1 B1 m1 d1 E1 u1 v1 b2 B2 m2 d2 E2 u2 v2 K K' _ (HSX.out k hltn) (HX.out.below hBw) (HSY.out k hltm) (HY.out.below hBw) hK hK')).mono ?_); rintro e wa ⟨rfl,hb⟩; have hBw:=zac hBw hb; refine hK9.out _ _ (Cs.below hHeld hb) (fun hHeld => ?_); clear hK9 KK hb
    refine tk 9 ?_
    refine rdn ?_
    have HB2:=lh9 (zac HB1.out hBw)
    clear hHeld hBw hc0 hc1 hc2 he0 he1 he2 HX HY HB1
    go_wp2
    go_roundg (n - k)
    case measure => omega
    case rel => exact ⟨k + 1,by omega,by omega,by omega,by go_num,HZ1,HB2.out⟩
   ·have HF : Hid (q = z):=by
     show _ = _
     rw [← hq,← zeh hlx hly h0]; exact hz0.out
    have hd3 : (q != 0) = true:=by rw [← hq,bne_iff_ne]; exact zmd h0
    clear h0 hlx hly hq
    go_wp2_with fail
    have hBw:=(Below.refl wr.heap.size wr).drew
    refine rg (csc hc0 (csc hc1 (csc hc2 (csc he0 (csc he1 (csc he2 csn)))))) (fun hHeld => ?_)
    refine tk 0 ?_
    refine tk 1 ?_
    refine tk 2 ?_
    refine tk 3 ?_
    refine tk 4 ?_
    refine tk 5 ?_
    refine tk 6 ?_
    refine tk 7 ?_
    refine rc 8 (fun KK hK9 => ?_)
    go_simp
    (with_reducible refine (zbq HQ.out (zkC _ _ b1 B1 m1 d1 E1 u1 v1 b2 B2 m2 d2 E2 u2 v2 K K' _ (HSX.out k hltn) (HX.out.below hBw) (HSY.out k hltm) (HY.out.below hBw) hK hK')).mono ?_); rintro e wa ⟨rfl,hb⟩; have hBw:=zac hBw hb; refine hK9.out _ _ (Cs.below hHeld hb) (fun hHeld => ?_); clear hK9 KK hb
    refine tk 9 ?_
    refine rdn ?_
    have HB2:=lh9 (zac HB1.out hBw)
    clear hHeld hBw hc0 hc1 hc2 he0 he1 he2 HX HY HB1
    go_wp2
    go_ret
    exact ⟨by rw [← HF.out]; rfl,HB2.out⟩
  ·have hk : k = min n n':=by omega
   have HF : Hid (cmpN n n' = z):=by
    show _ = _
    rw [← HEND.out k hk]; exact hz0.out
   have HB2:=lh9 hB
   clear hB
   unfold cmpN at HF
   by_cases h1 : n < n'
   ·rw [if_pos h1] at HF
    have hd1 : decide ((k : Int) < (n : Int)) = false:=decide_eq_false (by omega)
    have hn1 : decide (k < n) = false:=decide_eq_false (by omega)
    have hd2 : decide ((n : Int) < (n' : Int)) = true:=decide_eq_true (by omega)
    have hd2' : decide (n < n') = true:=decide_eq_true (by omega)
    clear hlt h1 hk
    go_wp2
    go_ret
    exact ⟨by rw [← HF.out]; rfl,HB2.out⟩
   ·rw [if_neg h1] at HF
    have hd2 : decide ((n : Int) < (n' : Int)) = false:=decide_eq_false (by omega)
    have hd2' : decide (n < n') = false:=decide_eq_false (by omega)
    by_cases h2 : n = n'
    ·rw [if_pos h2] at HF
     have hd1 : decide ((k : Int) < (n : Int)) = false:=decide_eq_false (by omega)
     have hn1 : decide (k < n) = false:=decide_eq_false (by omega)
     have hd3 : decide ((n' : Int) < (n : Int)) = false:=decide_eq_false (by omega)
     have hd3' : decide (n' < n) = false:=decide_eq_false (by omega)
     have hd4 : decide ((n : Int) > (n' : Int)) = false:=decide_eq_false (by omega)
     clear hlt h1 hk h2
     go_wp2
     go_ret
     exact ⟨by rw [← HF.out]; rfl,HB2.out⟩
    ·rw [if_neg h2] at HF
     have hd1 : decide ((k : Int) < (n : Int)) = true:=decide_eq_true (by omega)
     have hn1 : decide (k < n) = true:=decide_eq_true (by omega)
     have hd1' : decide ((k : Int) < (n' : Int)) = false:=decide_eq_false (by omega)
     have hn2 : decide (k < n') = false:=decide_eq_false (by omega)
     have hd3 : decide ((n' : Int) < (n : Int)) = true:=decide_eq_true (by omega)
     have hd3' : decide (n' < n) = true:=decide_eq_true (by omega)
     have hd4 : decide ((n : Int) > (n' : Int)) = true:=decide_eq_true (by omega)
     clear hlt h1 hk h2
     go_wp2
     go_ret
     exact ⟨by rw [← HF.out]; rfl,HB2.out⟩
end
end Go.Proofs.YtkiedljcgkoaiaaGreatDoor
