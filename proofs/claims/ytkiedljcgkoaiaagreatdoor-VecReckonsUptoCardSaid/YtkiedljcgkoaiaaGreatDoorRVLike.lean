/- What this claim leans on. -/
import Derived.Test.YtkiedljcgkoaiaaGreatDoorRVAwake
import Derived.Test.YtkiedljcgkoaiaaGreatDoorRW8Like
namespace Go.Proofs.YtkiedljcgkoaiaaGreatDoor
open Go Go.RowKit
set_option maxHeartbeats 16000000
set_option maxRecDepth 100000
set_option linter.unusedVariables false
set_option linter.unusedSimpArgs false
theorem int_lit {z : Int} (h1 : -9223372036854775808 ≤ z) (h2 : z ≤ 9223372036854775807) : zaX z:=⟨h1,h2⟩
section
variable {K K' L : Nat} {xs ys : List Rat} {A B : oA9} {n n' c d : Nat} {w : World}
theorem zbM (hT : zan w) (ha : zbk w A n c xs) (hb : zcJ w B n d xs) (hx : zax K xs) (hn : n ≤ 1073741824:=by omega) (hK : K ≤ 16777216:=by omega) :
  Calls Tryz.prog 18 #[.slice A n c,.slice B n d] w (fun e w' => e = .returned (.bool true) ∧ Below w.heap.size w w'):=by
 have hla:=ha.len
 have HSX : Hid (∀ i,i < n → SzQ K (xs.getD i 0)):=fun i hi => hx.at_ (by omega)
 have HA:=lh9 ha
 have HB9:=lh9 hb
 have HT:=lh9 (fun w' (hb : Below w.heap.size w w') => hT.on hb)
 clear hT ha hb hx hla
 have hB:=Below.refl w.heap.size w
 have hd0 : ((n : Int) != (n : Int)) = false:=by simp
 have i0 : (0 : Int) ≤ (n : Int):=by omega
 go_enter Tryz.func18,Tryz.ntmps18
 go_wp2_with fail
 go_loopg [5] (n + 1) (fun g ix wr => ∃ (k : Nat),k ≤ n ∧ n < g + k ∧ ix = .int .i64 k ∧ Below w.heap.size w wr)
 case atStart => exact ⟨0,Nat.zero_le _,by omega,rfl,hB⟩
 case round =>
  clear hB
  obtain ⟨k,hkn,hg,rfl,hB⟩:=hrel
  by_cases hlt : k < n
  ·obtain ⟨ad,b1,B1,m1,d1,E1,u1,v1,rfl,-,hc0,hc1,hc2,hx⟩:=HA.out.get hB hlt
   obtain ⟨ae,b2,B2,m2,d2,E2,u2,v2,rfl,-,he0,he1,he2,hy⟩:=HB9.out.get hB hlt
   have hd1 : decide ((k : Int) < (n : Int)) = true:=decide_eq_true (by omega)
   have i1 : (0 : Int) ≤ (k : Int):=by omega
   have i2 : (k : Int) < (n : Int):=by omega
   have HX:=lh9 hx
   have HY:=lh9 hy
   have HB1:=lh9 hB
   clear hx hy hB
   go_wp2_with fail
   have hBw:=(Below.refl wr.heap.size wr).drew
   refine rg (csc hc0 (csc hc1 (csc hc2 (csc he0 (csc he1 (csc he2 csn)))))) (fun hHeld => ?_)
   refine tk 0 ?_
   refine tk 1 ?_
   refine tk 2 ?_
   refine tk 3 ?_
   refine tk 4 ?_
   refine tk 5 ?_
   refine tk 6 ?_
   refine tk 7 ?_
   refine rc 8 (fun KK hK9 => ?_)
   go_simp
   (with_reducible refine (zib (fun _ _ h hb => h.on hb) zbu qc10 _ K b1 B1 m1 d1 E1 u1 v1 b2 B2 m2 d2 E2 u2 v2 _ hK (HSX.out k hlt) (HX.out.below hBw) (HY.out.below hBw) (HT.out _ (zac HB1.out hBw))).mono ?_); rintro e wa ⟨rfl,hb⟩; have hBw:=zac hBw hb; refine hK9.out _ _ (Cs.below hHeld hb) (fun hHeld => ?_); clear hK9 KK hb
   refine tk 9 ?_
   refine rdn ?_
   have HB2:=lh9 (zac HB1.out hBw)
   clear hHeld hBw hc0 hc1 hc2 he0 he1 he2 HX HY HB1
   go_wp2
   go_roundg (n - k)
   case measure => omega
   case rel => exact ⟨k + 1,by omega,by omega,by go_num,HB2.out⟩
  ·have hd1 : decide ((k : Int) < (n : Int)) = false:=decide_eq_false (by omega)
   have HB2:=lh9 hB
   clear hB
   go_wp2
   go_ret
   exact ⟨rfl,HB2.out⟩
theorem znn (ha : zcJ w A n c xs) (hb : zcJ w B n d ys) (hx : zax K xs) (hy : zax K' ys) (hK : K ≤ 2097152) (hK' : K' ≤ 2097152) (hS : 1 + n * (K + K' + 1) ≤ 2097152) (hn : n ≤ 1073741824:=by omega) (hKK : K + K' ≤ 2097152:=by omega) :
  Calls Tryz.prog 22 #[.slice A n c,.slice B n d] w (zcj w (dotQ xs ys)):=by
 have hla:=ha.len
 have hlb:=hb.len
 have hlz : (zfN xs ys).length = n:=zgw hla hlb
 have HSX : Hid (∀ i,i < n → SzQ K (xs.getD i 0)):=fun i hi => hx.at_ (by omega)
 have HSY : Hid (∀ i,i < n → SzQ K' (ys.getD i 0)):=fun i hi => hy.at_ (by omega)
 have HSS : Hid (∀ k,k ≤ n → SzQ (1 + n * (K + K' + 1)) (zcH ((zfN xs ys).take k))):=fun k hk => zms (zax.mul hx hy) hlz k hk
 have HSU : Hid (∀ k,k < n → zcH ((zfN xs ys).take (k + 1)) = zcH ((zfN xs ys).take k) + xs.getD k 0 * ys.getD k 0):=fun k hk => by
  have e:=zir (zfN xs ys) k (by omega)
  rw [zjk,zjk] at e
  rw [e]
  congr 1
  unfold zfN
  rw [List.getD_eq_getElem?_getD,List.getElem?_zipWith,List.getD_eq_getElem?_getD,List.getD_eq_getElem?_getD,List.getElem?_eq_getElem (by omega),List.getElem?_eq_getElem (by omega)]
  rfl
 have HFIN : Hid (zcH ((zfN xs ys).take n) = dotQ xs ys):=by
  show _ = _
  rw [List.take_of_length_le (by omega)]
  rfl
 have HA:=lh9 ha
 have HB9:=lh9 hb
 have HNS:=lh9 hS
 obtain ⟨bx1,bx2,-⟩:=zaL w 36 #[.bool false,.slice none 0 0,.slice none 0 0]
 have HBX:=lh9 bx1
 have HKX:=lh9 bx2
 clear ha hb hx hy hla hlb hlz hS bx1 bx2
 have i0 : (0 : Int) ≤ (n : Int):=by omega
 go_enter Tryz.func22,Tryz.ntmps22
 go_wp2_with fail
 (with_reducible refine (zcy (z:=0) (int_lit (by decide) (by decide))).mono ?_)
 rintro e w2 ⟨b2,A2,n2,c2,E2,k2,f2,rfl,hq,hb⟩
 have hB2:=zac HBX.out hb
 have hk2:=zae hb HKX.out
 obtain ⟨s1,s2,s3⟩:=zaL w2 36 #[.bool b2,.slice A2 n2 c2,.slice E2 k2 f2]
 have hp:=s2
 have hB:=zac hB2 s1
 have hkr:=zae s1 hk2
 have hs0 : zbQ (w2.alloc (.cells #[.bool b2,.slice A2 n2 c2,.slice E2 k2 f2] 36)) (zcH ((zfN xs ys).take 0)) b2 A2 n2 c2 E2 k2 f2:=hq.below s1
 have hwg : w.heap.size < w2.heap.size:=by have:=HKX.out.lt; have:=hb.size; have:=hk2.lt; omega
 clear hb hq hB2 hk2 s1 s2 s3
 go_wp2_with fail
 generalize w2.alloc (.cells #[.bool b2,.slice A2 n2 c2,.slice E2 k2 f2] 36) = W1 at *
 generalize w2.heap.size = gp at *
 go_loopg [6] (n + 1) (fun g ix wr => ∃ (k : Nat) (b : Bool) (Ap : oA9) (np cp : Nat) (Ep : oA9) (kp fp : Nat),k ≤ n ∧ n < g + k ∧ ix = .int .i64 k ∧ zbQ wr (zcH ((zfN xs ys).take k)) b Ap np cp Ep kp fp ∧ Blk wr gp 36 #[.bool b,.slice Ap np cp,.slice Ep kp fp] ∧ Below w.heap.size w wr ∧ Blk wr w.heap.size 36 #[.bool false,.slice none 0 0,.slice none 0 0])
 case atStart => exact ⟨0,b2,A2,n2,c2,E2,k2,f2,Nat.zero_le _,by omega,rfl,hs0,hp,hB,hkr⟩
 case round =>
  clear hp hB hkr hs0
  obtain ⟨k,b,Ap,np,cp,Ep,kp,fp,hkn,hg,rfl,hw,hp,hB,hkr⟩:=hrel
  by_cases hlt : k < n
  ·obtain ⟨ad,b1,B1,m1,d1,E1,u1,v1,rfl,had,hc0,hc1,hc2,hx⟩:=HA.out.get hB hlt
   obtain ⟨ae,b3,B3,m3,d3,E3,u3,v3,rfl,hae,he0,he1,he2,hy⟩:=HB9.out.get hB hlt
   have hd1 : decide ((k : Int) < (n : Int)) = true:=decide_eq_true (by omega)
   have i1 : (0 : Int) ≤ (k : Int):=by omega
   have i2 : (k : Int) < (n : Int):=by omega
   have hbd:=(Below.refl wr.heap.size wr).drew
   have HX:=lh9 (hx.below hbd)
   have HY:=lh9 (hy.below hbd)
   have HW:=lh9 (hw.below hbd)
   have HP:=lh9 (zae hbd hp)
   have HB1:=lh9 (zac hB hbd)
   have HKR:=lh9 (zae hbd hkr)
   have HCE : Hid (∀ w',Below w.heap.size w w' → (w'.cell? (ad.add (k * 3)) = some (.bool b1) ∧ w'.cell? ⟨(ad.add (k * 3)).block,(ad.add (k * 3)).off + 1,none⟩ = some (.slice B1 m1 d1) ∧ w'.cell? ⟨(ad.add (k * 3)).block,(ad.add (k * 3)).off + 2,none⟩ = some (.slice E1 u1 v1)) ∧ (w'.cell? (ae.add (k * 3)) = some (.bool b3) ∧ w'.cell? ⟨(ae.add (k * 3)).block,(ae.add (k * 3)).off + 1,none⟩ = some (.slice B3 m3 d3) ∧ w'.cell? ⟨(ae.add (k * 3)).block,(ae.add (k * 3)).off + 2,none⟩ = some (.slice E3 u3 v3))):=fun w' hb' => by
    have t : ∀ (q : Addr) (v : Value),q.block < w.heap.size → wr.cell? q = some v → w'.cell? q = some v:=fun q v hq h => by
     rw [hb'.cell hq,← hB.cell hq]; exact h
    have h1 : ∀ j,(ad.add j).block < w.heap.size:=fun j => by rw [zay]; exact had
    have h2 : ∀ j,(ae.add j).block < w.heap.size:=fun j => by rw [zay]; exact hae
    exact ⟨⟨t _ _ (h1 _) hc0,t _ _ (h1 _) hc1,t _ _ (h1 _) hc2⟩,t _ _ (h2 _) he0,t _ _ (h2 _) he1,t _ _ (h2 _) he2⟩
   have hlim:=HNS.out
   clear hx hy hw hp hbd hkr
   go_wp2_with fail
   refine rg (csc hc0 (csc hc1 (csc hc2 (csc he0 (csc he1 (csc he2 csn)))))) (fun hHeld => ?_)
   clear hc0 hc1 hc2 he0 he1 he2 hB
   generalize wr.drew = D at *
   refine tk 1 ?_
   refine tk 2 ?_
   refine tk 3 ?_
   refine tk 4 ?_
   refine tk 5 ?_
   refine tk 6 ?_
   refine tk 7 ?_
   refine tk 8 ?_
   refine rcb 0 9 (fun KK hK9 => ?_) (fun KK hK9 => ?_)
   ·obtain ⟨p0,p1,p2⟩:=HP.out.c3
    go_simp
    clear p0 p1 p2
    refine hK9.out _ _ hHeld (fun hHeld => ?_)
    clear hK9 KK
    refine rc 9 (fun KK hK9 => ?_)
    go_simp
    (with_reducible refine (zhw (xs.getD k 0) (ys.getD k 0) b1 B1 m1 d1 E1 u1 v1 b3 B3 m3 d3 E3 u3 v3 K K' _ (HSX.out k hlt) HX.out (HSY.out k hlt) HY.out hK hK').mono ?_)
    rintro e D2 ⟨b4,A4,n4,c4,E4,k4,f4,rfl,hq,hb⟩
    refine hK9.out _ _ (Cs.below hHeld hb) (fun hHeld => ?_)
    clear hK9 KK
    have HQ:=lh9 hq
    have HW:=lh9 (HW.out.below hb)
    have HP:=lh9 (zae hb HP.out)
    have HB1:=lh9 (zac HB1.out hb)
    have HKR:=lh9 (zae hb HKR.out)
    clear hq hb
    refine rc 10 (fun KK hK9 => ?_)
    go_simp
    (with_reducible refine (zhv (zcH ((zfN xs ys).take k)) (xs.getD k 0 * ys.getD k 0) b Ap np cp Ep kp fp b4 A4 n4 c4 E4 k4 f4 (1 + n * (K + K' + 1)) (K + K') _ (HSS.out k hkn) HW.out ((HSX.out k hlt).mul (HSY.out k hlt)) HQ.out hlim hKK).mono ?_)
    rintro e D3 ⟨b5,A5,n5,c5,E5,k5,f5,rfl,hq,hb⟩
    refine hK9.out _ _ (Cs.below hHeld hb) (fun hHeld => ?_)
    clear hK9 KK
    rw [← HSU.out k hlt] at hq
    have hp5:=zae hb HP.out
    obtain ⟨sc0,sf0,sc1,sf1,sc2,sf2⟩:=st3 hp5 (.bool b5) (.slice A5 n5 c5)
    have HW4:=lh9 (zfS hq hp5 (NoU.s3 _ _ _ _ _ _ _) (off3 D3 gp (.bool b5) (.slice A5 n5 c5) (.slice E5 k5 f5)))
    have HB4:=lh9 (bl3 (.bool b5) (.slice A5 n5 c5) (.slice E5 k5 f5) (show w.heap.size ≤ gp by omega) (zac HB1.out hb))
    have HP4:=lh9 (sn3 hp5 (.bool b5) (.slice A5 n5 c5) (.slice E5 k5 f5))
    have HK4:=lh9 (zgH (zae hb HKR.out) (by show w.heap.size ≠ gp; omega) (.bool b5) (.slice A5 n5 c5) (.slice E5 k5 f5))
    obtain ⟨⟨y0,y1,y2⟩,y3,y4,y5⟩:=HCE.out _ HB4.out
    refine rc 11 (fun KK hK9 => ?_)
    go_simp
    refine hK9.out _ _ (csc y0 (csc y1 (csc y2 (csc y3 (csc y4 (csc y5 csn)))))) (fun hHeld => ?_)
    clear hK9 KK
    refine rdn ?_
    clear sc0 sf0 sc1 sf1 sc2 sf2 y0 y1 y2 y3 y4 y5 hHeld hq hb hp5 HQ HX HY HW HP HB1 HKR
    go_wp2
    go_roundg (n - k)
    case measure => omega
    case rel => exact ⟨k + 1,b5,A5,n5,c5,E5,k5,f5,by omega,by omega,by go_num,HW4.out,HP4.out,HB4.out,HK4.out⟩
   ·go_simp
    (with_reducible refine (zhw (xs.getD k 0) (ys.getD k 0) b1 B1 m1 d1 E1 u1 v1 b3 B3 m3 d3 E3 u3 v3 K K' _ (HSX.out k hlt) HX.out (HSY.out k hlt) HY.out hK hK').mono ?_)
    rintro e D2 ⟨b4,A4,n4,c4,E4,k4,f4,rfl,hq,hb⟩
    refine hK9.out _ _ (Cs.below hHeld hb) (fun hHeld => ?_)
    clear hK9 KK
    have HQ:=lh9 hq
    have HW:=lh9 (HW.out.below hb)
    have HP:=lh9 (zae hb HP.out)
    have HB1:=lh9 (zac HB1.out hb)
    have HKR:=lh9 (zae hb HKR.out)
    clear hq hb
    refine rc 0 (fun KK hK9 => ?_)
    obtain ⟨p0,p1,p2⟩:=HP.out.c3
    go_simp
    clear p0 p1 p2
    refine hK9.out _ _ hHeld (fun hHeld => ?_)
    clear hK9 KK
    refine rc 10 (fun KK hK9 => ?_)
    go_simp
    (with_reducible refine (zhv (zcH ((zfN xs ys).take k)) (xs.getD k 0 * ys.getD k 0) b Ap np cp Ep kp fp b4 A4 n4 c4 E4 k4 f4 (1 + n * (K + K' + 1)) (K + K') _ (HSS.out k hkn) HW.out ((HSX.out k hlt).mul (HSY.out k hlt)) HQ.out hlim hKK).mono ?_)
    rintro e D3 ⟨b5,A5,n5,c5,E5,k5,f5,rfl,hq,hb⟩
    refine hK9.out _ _ (Cs.below hHeld hb) (fun hHeld => ?_)
    clear hK9 KK
    rw [← HSU.out k hlt] at hq
    have hp5:=zae hb HP.out
    obtain ⟨sc0,sf0,sc1,sf1,sc2,sf2⟩:=st3 hp5 (.bool b5) (.slice A5 n5 c5)
    have HW4:=lh9 (zfS hq hp5 (NoU.s3 _ _ _ _ _ _ _) (off3 D3 gp (.bool b5) (.slice A5 n5 c5) (.slice E5 k5 f5)))
    have HB4:=lh9 (bl3 (.bool b5) (.slice A5 n5 c5) (.slice E5 k5 f5) (show w.heap.size ≤ gp by omega) (zac HB1.out hb))
    have HP4:=lh9 (sn3 hp5 (.bool b5) (.slice A5 n5 c5) (.slice E5 k5 f5))
    have HK4:=lh9 (zgH (zae hb HKR.out) (by show w.heap.size ≠ gp; omega) (.bool b5) (.slice A5 n5 c5) (.slice E5 k5 f5))
    obtain ⟨⟨y0,y1,y2⟩,y3,y4,y5⟩:=HCE.out _ HB4.out
    refine rc 11 (fun KK hK9 => ?_)
    go_simp
    refine hK9.out _ _ (csc y0 (csc y1 (csc y2 (csc y3 (csc y4 (csc y5 csn)))))) (fun hHeld => ?_)
    clear hK9 KK
    refine rdn ?_
    clear sc0 sf0 sc1 sf1 sc2 sf2 y0 y1 y2 y3 y4 y5 hHeld hq hb hp5 HQ HX HY HW HP HB1 HKR
    go_wp2
    go_roundg (n - k)
    case measure => omega
    case rel => exact ⟨k + 1,b5,A5,n5,c5,E5,k5,f5,by omega,by omega,by go_num,HW4.out,HP4.out,HB4.out,HK4.out⟩
  ·have hk : k = n:=by omega
   subst hk
   have hd1 : decide ((k : Int) < (k : Int)) = false:=by simp
   rw [HFIN.out] at hw
   obtain ⟨p0,p1,p2⟩:=hp.c3
   obtain ⟨sc0,sf0,sc1,sf1,sc2,sf2⟩:=st3 hkr (.bool b) (.slice Ap np cp)
   obtain ⟨r0,r1,r2⟩:=(sn3 hkr (.bool b) (.slice Ap np cp) (.slice Ep kp fp)).c3
   have HG9:=lh9 (gr3 hw hkr hB (Nat.le_refl _))
   clear hw hp hkr hB
   go_wp2
   refine bodyPost_ret (v:=.agg #[.bool b,.slice Ap np cp,.slice Ep kp fp]) (by simp [results,Tryz.results22,go_sem,r0,r1,r2]) rfl ?_
   exact HG9.out
end
end Go.Proofs.YtkiedljcgkoaiaaGreatDoor
