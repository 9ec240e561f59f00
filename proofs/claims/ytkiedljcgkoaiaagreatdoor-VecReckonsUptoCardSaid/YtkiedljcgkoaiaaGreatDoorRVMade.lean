/- What this claim leans on. -/
import Derived.Test.YtkiedljcgkoaiaaGreatDoorRVArgs
import Derived.Test.YtkiedljcgkoaiaaGreatDoorRVApp
namespace Go.Proofs.YtkiedljcgkoaiaaGreatDoor
open Go Go.RowKit
set_option maxHeartbeats 16000000
set_option maxRecDepth 100000
set_option linter.unusedVariables false
set_option linter.unusedSimpArgs false
theorem znx {K L : Nat} {r : Rat} {xs : List Rat} {A : oA9} {n c : Nat} {w : World} {s : Bool} {D : oA9} {m e9 : Nat} {U : oA9} {u v : Nat} (hT : zan w) (hr : zao w r s D m e9 U u v) (ha : zbk w A n c xs) (zr : SzQ L r) (hx : zax K xs) (hn : n ≤ 1073741824:=by omega) (hK : K ≤ 67108864:=by omega) (hL : L ≤ 67108864:=by omega) :
  Calls Tryz.prog 24 #[.agg #[.bool s,.slice D m e9,.slice U u v],.slice A n c] w (ziC w n (zcM r xs)):=by
 have hla:=ha.len
 have hlz : (zcM r xs).length = n:=by unfold zcM; rw [List.length_map]; exact hla
 have HGI : ∀ i,i < n → (zcM r xs)[i]? = some (r * xs.getD i 0):=fun i hi => by
  unfold zcM
  rw [List.getElem?_map,List.getD_eq_getElem?_getD,List.getElem?_eq_getElem (by omega)]; rfl
 have HSX : Hid (∀ i,i < n → SzQ K (xs.getD i 0)):=fun i hi => hx.at_ (by omega)
 unfold ziC
 obtain ⟨zs,hzs⟩ : ∃ zs,zcM r xs = zs:=⟨_,rfl⟩
 rw [hzs] at HGI hlz ⊢
 have HG:=lh9 HGI
 have HLZ:=lh9 hlz
 have HZR:=lh9 zr
 obtain ⟨bx1,bx2,bz⟩:=zaL w 44 #[.bool s,.slice D m e9,.slice U u v]
 have HA:=lh9 ha
 have HT:=lh9 (fun w' (hb : Below w.heap.size w w') => hT.on hb)
 have HR:=lh9 (fun w' (hb : Below w.heap.size w w') => hr.below hb)
 have HB0:=lh9 bx1
 have HK0:=lh9 bx2
 obtain ⟨Z,hZ⟩:=zes n (by omega)
 have hmk:=fun W => (hZ W).1
 have HOWN:=lh9 (fun W => (hZ W).2)
 clear hT hr ha zr hx hla hlz hzs HGI hZ bx1 bx2 bz
 have i0 : (0 : Int) ≤ (n : Int):=by omega
 go_enter Tryz.func24,Tryz.ntmps24
 go_wp2_with fail
 clear hmk
 obtain ⟨W0,hW0⟩ : ∃ W,w.alloc (.cells #[.bool s,.slice D m e9,.slice U u v] 44) = W:=⟨_,rfl⟩
 rw [hW0] at HB0 HK0
 have hrow:=HOWN.out W0
 have hB0:=HB0.out
 have hsz : W0.heap.size = w.heap.size + 1:=by rw [← hW0]; simp
 simp only [hW0] at *
 have hB1 : Below W0.heap.size W0 (W0.alloc (.cells Z 44)):=(Below.refl _ W0).alloc (Nat.le_refl _) _
 have hkx:=zae hB1 HK0.out
 have hB:=zac hB0 hB1
 rw [hsz] at hrow
 clear hW0 HB0 HK0 hB0 hB1 hsz HOWN
 generalize W0.alloc (.cells Z 44) = W1 at *
 obtain ⟨gp,hgp⟩ : ∃ g,w.heap.size + 1 = g:=⟨_,rfl⟩
 rw [hgp] at hrow ⊢
 rw [← zdl 0 zs n] at hrow
 have hwg : w.heap.size + 1 ≤ gp:=by omega
 clear hgp
 go_loopg [13] (n + 1) (fun g ix wr => ∃ (k : Nat),k ≤ n ∧ n < g + k ∧ ix = .int .i64 k ∧ zct wr gp n (zcm 0 zs n k) ∧ Below w.heap.size w wr ∧ Blk wr w.heap.size 44 #[.bool s,.slice D m e9,.slice U u v])
 case atStart => exact ⟨0,Nat.zero_le _,by omega,rfl,hrow,hB,hkx⟩
 case round =>
  clear hrow hB hkx
  obtain ⟨k,hkn,hg,rfl,hrow,hB,hkx⟩:=hrel
  by_cases hlt : k < n
  ·obtain ⟨ad,b1,B1,m1,d1,E1,u1,v1,rfl,-,hc0,hc1,hc2,hx⟩:=HA.out.get hB hlt
   have hd1 : decide ((k : Int) < (n : Int)) = true:=decide_eq_true (by omega)
   have i1 : (0 : Int) ≤ (k : Int):=by omega
   have i2 : (k : Int) < (n : Int):=by omega
   obtain ⟨st,d3,d4⟩:=zaL wr 44 #[.bool b1,.slice B1 m1 d1,.slice E1 u1 v1]
   obtain ⟨p0,p1,p2⟩:=d3.c3
   obtain ⟨g0,g1,g2⟩:=(zae st hkx).c3
   have HX:=lh9 (hx.below st)
   have HROW:=lh9 (hrow.keep st)
   have HB1:=lh9 (zac hB st)
   have HKX:=lh9 (zae st hkx)
   clear hx hrow hB st d3 d4 hkx
   go_wp2_with fail
   (with_reducible refine (q_mul (HT.out _ HB1.out) (HR.out _ HB1.out) HX.out HZR.out (HSX.out k hlt) hL hK).mono ?_)
   rintro e w3 ⟨b3,A3,n3,c3,E3,k3,f3,rfl,hw3,hb⟩
   clear hc0 hc1 hc2 p0 p1 p2 g0 g1 g2
   have hr3:=HROW.out.keep hb
   have hr4:=zaR.set_ zcb hr3 hlt hw3
   rw [zdR 0 zs n k HLZ.out hlt _ (HG.out k hlt)] at hr4
   obtain ⟨q0,q1,q2,sc0,sf0,sc1,sf1,sc2,sf2⟩:=hr3.ready hlt (.bool b3) (.slice A3 n3 c3)
   have HR4:=lh9 hr4
   have HB4:=lh9 (zdh (k * 3) (k * 3 + 1) (k * 3 + 2) (.bool b3) (.slice A3 n3 c3) (.slice E3 k3 f3) (show w.heap.size ≤ gp by omega) (zac HB1.out hb))
   have HK4:=lh9 (Blk.far (p:=⟨gp,k * 3 + 2,none⟩) (Blk.far (p:=⟨gp,k * 3 + 1,none⟩) (Blk.far (p:=⟨gp,k * 3,none⟩) (zae hb HKX.out) (by show w.heap.size ≠ gp; omega) (.bool b3)) (by show w.heap.size ≠ gp; omega) (.slice A3 n3 c3)) (by show w.heap.size ≠ gp; omega) (.slice E3 k3 f3))
   clear hr3 hr4 hb hw3 HX HROW HB1 HKX
   go_wp2
   go_roundg (n - k)
   case measure => omega
   case rel => exact ⟨k + 1,by omega,by omega,by go_num,HR4.out,HB4.out,HK4.out⟩
  ·have hk : k = n:=by omega
   subst hk
   have hd1 : decide ((k : Int) < (k : Int)) = false:=by simp
   have HR5:=lh9 (zdQ 0 zs k HLZ.out ▸ hrow)
   have HB1:=lh9 hB
   have hge : w.heap.size ≤ gp:=by omega
   clear hrow hB hkx
   go_wp2
   go_ret
   exact ⟨gp,rfl,hge,HR5.out,HB1.out⟩
structure IntsIn (w : World) (A : oA9) (n : Nat) (zs : List Int) : Prop where
 len : zs.length = n
 ints : ∀ i,i < n → -9223372036854775808 ≤ zs.getD i 0 ∧ zs.getD i 0 ≤ 9223372036854775807
 num : ∀ i,i < n → ∃ ad : Addr,A = some ad ∧ w.cell? (ad.add i) = some (.int .i64 (zs.getD i 0))
def ofL (zs : List Int) : List Rat:=zs.map fun z : Int => (z : Rat)
theorem zdu {zs : List Int} {A : oA9} {n c : Nat} {w : World} (hT : zan w) (ha : IntsIn w A n zs) (hn : n ≤ 1073741824:=by omega) :
  Calls Tryz.prog 42 #[.slice A n c] w (ziC w n (ofL zs)):=by
 have hla:=ha.len
 have hlz : (ofL zs).length = n:=by unfold ofL; rw [List.length_map]; exact hla
 have HGI : ∀ i,i < n → (ofL zs)[i]? = some ((zs.getD i 0 : Int) : Rat):=fun i hi => by
  unfold ofL
  rw [List.getElem?_map,List.getD_eq_getElem?_getD,List.getElem?_eq_getElem (by omega)]; rfl
 have HI:=lh9 ha.ints
 unfold ziC
 obtain ⟨ys,hys⟩ : ∃ ys,ofL zs = ys:=⟨_,rfl⟩
 rw [hys] at HGI hlz ⊢
 have HG:=lh9 HGI
 have HLZ:=lh9 hlz
 have HA:=lh9 ha.num
 have HT:=lh9 (fun w' (hb : Below w.heap.size w w') => hT.on hb)
 obtain ⟨Z,hZ⟩:=zes n (by omega)
 have hmk:=fun W => (hZ W).1
 have HOWN:=lh9 (fun W => (hZ W).2)
 clear hT ha hla hlz hys HGI hZ
 have i0 : (0 : Int) ≤ (n : Int):=by omega
 go_enter Tryz.func42,Tryz.ntmps42
 go_wp2_with fail
 clear hmk
 have hrow:=HOWN.out w
 have hB : Below w.heap.size w (w.alloc (.cells Z 44)):=(Below.refl _ w).alloc (Nat.le_refl _) _
 obtain ⟨gp,hgp⟩ : ∃ g,w.heap.size = g:=⟨_,rfl⟩
 have hwg : w.heap.size ≤ gp:=by omega
 rw [hgp] at hrow ⊢
 rw [← zdl 0 ys n] at hrow
 generalize w.alloc (.cells Z 44) = W1 at *
 clear hgp HOWN
 go_loopg [11] (n + 1) (fun g ix wr => ∃ (k : Nat),k ≤ n ∧ n < g + k ∧ ix = .int .i64 k ∧ zct wr gp n (zcm 0 ys n k) ∧ Below w.heap.size w wr)
 case atStart => exact ⟨0,Nat.zero_le _,by omega,rfl,hrow,hB⟩
 case round =>
  clear hrow hB
  obtain ⟨k,hkn,hg,rfl,hrow,hB⟩:=hrel
  by_cases hlt : k < n
  ·obtain ⟨ad,rfl,hc⟩:=HA.out k hlt
   have hc0:=zad hB hc
   obtain ⟨z1,z2⟩:=HI.out k hlt
   have HGK:=lh9 (HG.out k hlt)
   obtain ⟨z,hz⟩ : ∃ z,zs.getD k 0 = z:=⟨_,rfl⟩
   rw [hz] at hc0 z1 z2 HGK
   have hd1 : decide ((k : Int) < (n : Int)) = true:=decide_eq_true (by omega)
   have i1 : (0 : Int) ≤ (k : Int):=by omega
   have i2 : (k : Int) < (n : Int):=by omega
   have HROW:=lh9 hrow
   have HB1:=lh9 hB
   clear hrow hB hc hz
   go_wp2_with fail
   (with_reducible refine (zmk z _ (HT.out _ HB1.out) z1 z2).mono ?_)
   rintro e w3 ⟨b3,A3,n3,c3,E3,k3,f3,rfl,hw3,hb⟩
   clear hc0
   have hr3:=HROW.out.keep hb
   have hr4:=zaR.set_ zcb hr3 hlt hw3
   rw [zdR 0 ys n k HLZ.out hlt _ HGK.out] at hr4
   obtain ⟨q0,q1,q2,sc0,sf0,sc1,sf1,sc2,sf2⟩:=hr3.ready hlt (.bool b3) (.slice A3 n3 c3)
   have HR4:=lh9 hr4
   have HB4:=lh9 (zdh (k * 3) (k * 3 + 1) (k * 3 + 2) (.bool b3) (.slice A3 n3 c3) (.slice E3 k3 f3) hwg (zac HB1.out hb))
   clear hr3 hr4 hb hw3 HROW HB1
   go_wp2
   go_roundg (n - k)
   case measure => omega
   case rel => exact ⟨k + 1,by omega,by omega,by go_num,HR4.out,HB4.out⟩
  ·have hk : k = n:=by omega
   subst hk
   have hd1 : decide ((k : Int) < (k : Int)) = false:=by simp
   have HR5:=lh9 (zdQ 0 ys k HLZ.out ▸ hrow)
   have HB1:=lh9 hB
   clear hrow hB
   go_wp2
   go_ret
   exact ⟨gp,rfl,hwg,HR5.out,HB1.out⟩
theorem zlG (n : Nat) (w : World) (hn : n ≤ 64) : Calls Tryz.prog 34 #[.int .i64 (n : Int)] w (zcP w n (List.replicate n 0)):=by
 unfold zcP
 obtain ⟨ys,hys⟩ : ∃ ys,List.replicate n (0 : Rat) = ys:=⟨_,rfl⟩
 obtain ⟨Z,hZ⟩:=zes n (by omega)
 have hmk:=fun W => (hZ W).1
 have HOWN:=lh9 (hZ w).2
 rw [hys] at HOWN ⊢
 have hd : decide ((n : Int) < 0) = false:=decide_eq_false (by omega)
 have hd2 : decide (64 < (n : Int)) = false:=decide_eq_false (by omega)
 have hd3 : decide ((n : Int) > 64) = false:=decide_eq_false (by omega)
 have hB:=lh9 ((Below.refl _ w).alloc (Nat.le_refl _) (.cells Z 44))
 clear hZ hys
 go_enter Tryz.func34,Tryz.ntmps34
 go_wp2
 go_ret2
 exact ⟨_,rfl,Nat.le_refl _,HOWN.out,hB.out⟩
theorem zkI (n : Nat) (k : Int) (w : World) (hn : n ≤ 64) (hk : k < 0 ∨ (n : Int) ≤ k) : Calls Tryz.prog 33 #[.int .i64 (n : Int),.int .i64 k] w (zcB w):=by
 have H:=lh9 (zlG n w hn)
 unfold zcB
 rcases hk with hk | hk
 ·have hd : decide (k < 0) = true:=decide_eq_true (by omega)
  clear hk
  go_enter Tryz.func33,Tryz.ntmps33
  go_wp2_with fail
  refine H.out.mono ?_
  rintro e w1 ⟨g,rfl,h1,h2,hb⟩
  clear h2
  go_wp2
  go_ret2
  exact ⟨rfl,hb⟩
 ·by_cases h0 : k < 0
  ·omega
  ·have hd : decide (k < 0) = false:=decide_eq_false (by omega)
   have hd2 : decide ((n : Int) ≤ k) = true:=decide_eq_true (by omega)
   have hd3 : decide (k ≥ (n : Int)) = true:=decide_eq_true (by omega)
   clear hk h0
   go_enter Tryz.func33,Tryz.ntmps33
   go_wp2_with fail
   refine H.out.mono ?_
   rintro e w1 ⟨g,rfl,h1,h2,hb⟩
   clear h2
   go_wp2
   go_ret2
   exact ⟨rfl,hb⟩
theorem zjT {p : Int} {w : World} (hT : zan w) (hp : zaX p) :
  Calls Tryz.prog 17 #[.agg #[.int .i64 p,.int .i64 0]] w (zaK w (qOf p 0)):=by
 rw [zko]
 obtain ⟨hp1,hp2⟩:=hp
 have HT:=lh9 (fun w' (hb : Below w.heap.size w w') => hT.on hb)
 obtain ⟨bx1,bx2,bx3,bz⟩:=zbi w 24 44 #[.int .i64 p,.int .i64 0] #[.bool false,.slice none 0 0,.slice none 0 0]
 obtain ⟨g0,g1⟩:=bx2.c2
 have HB:=lh9 bx1
 have HK:=lh9 bx3
 clear hT bx1 bx2 bx3 bz
 go_enter Tryz.func17,Tryz.ntmps17
 go_wp2_with fail
 clear g0 g1
 (with_reducible refine (zmk p _ (HT.out _ HB.out) hp1 hp2).mono ?_)
 rintro e w2 ⟨b2,A2,n2,c2,E2,k2,f2,rfl,hw2,hb⟩
 have hk2:=zae hb HK.out
 obtain ⟨sc0,sf0,sc1,sf1,sc2,sf2⟩:=st3 hk2 (.bool b2) (.slice A2 n2 c2)
 obtain ⟨r0,r1,r2⟩:=(sn3 hk2 (.bool b2) (.slice A2 n2 c2) (.slice E2 k2 f2)).c3
 have HG:=lh9 (gq3 hw2 hk2 (zac HB.out hb) (by omega))
 clear hb hk2 hw2 HB HK
 go_wp2
 refine bodyPost_ret (v:=.agg #[.bool b2,.slice A2 n2 c2,.slice E2 k2 f2]) (by simp [results,Tryz.results17,go_sem,r0,r1,r2]) rfl ?_
 exact HG.out
theorem zjU {p q : Int} {w : World} (hT : zan w) (hp : zaX p) (hq : zaX q) (h0 : q ≠ 0) :
  Calls Tryz.prog 17 #[.agg #[.int .i64 p,.int .i64 q]] w (zaK w (qOf p q)):=by
 rw [qOf_ne h0]
 obtain ⟨hp1,hp2⟩:=hp
 obtain ⟨hq1,hq2⟩:=hq
 have H0:=lh9 h0
 have hd0 : (q == 0) = false:=by rw [beq_eq_false_iff_ne]; exact h0
 have HT:=lh9 (fun w' (hb : Below w.heap.size w w') => hT.on hb)
 obtain ⟨bx1,bx2,bx3,bz⟩:=zbi w 24 44 #[.int .i64 p,.int .i64 q] #[.bool false,.slice none 0 0,.slice none 0 0]
 obtain ⟨g0,g1⟩:=bx2.c2
 have HB:=lh9 bx1
 have HK:=lh9 bx3
 clear hT bx1 bx2 bx3 bz h0
 go_enter Tryz.func17,Tryz.ntmps17
 go_wp2_with fail
 clear g0 g1
 (with_reducible refine (rat_of p q _ (HT.out _ HB.out) hp1 hp2 hq1 hq2 H0.out).mono ?_)
 rintro e w2 ⟨b2,A2,n2,c2,E2,k2,f2,rfl,hw2,hb⟩
 obtain ⟨s1,s2,s3⟩:=zaL w2 44 #[.bool b2,.slice A2 n2 c2,.slice E2 k2 f2]
 obtain ⟨p0,p1,p2⟩:=s2.c3
 have hk2:=zae s1 (zae hb HK.out)
 have hw3:=hw2.below s1
 obtain ⟨sc0,sf0,sc1,sf1,sc2,sf2⟩:=st3 hk2 (.bool b2) (.slice A2 n2 c2)
 obtain ⟨r0,r1,r2⟩:=(sn3 hk2 (.bool b2) (.slice A2 n2 c2) (.slice E2 k2 f2)).c3
 have HG:=lh9 (gq3 hw3 hk2 (zac (zac HB.out hb) s1) (by omega))
 clear hb hk2 hw2 hw3 HB HK s1 s2 s3
 go_wp2
 refine bodyPost_ret (v:=.agg #[.bool b2,.slice A2 n2 c2,.slice E2 k2 f2]) (by simp [results,Tryz.results17,go_sem,r0,r1,r2]) rfl ?_
 exact HG.out
theorem zeL {p q : Int} {w : World} (hT : zan w) (hp : zaX p) (hq : zaX q) :
  Calls Tryz.prog 17 #[.agg #[.int .i64 p,.int .i64 q]] w (zaK w (qOf p q)):=by
 by_cases h0 : q = 0
 ·subst h0; exact zjT hT hp
 ·exact zjU hT hp hq h0
def zcq (L : List (Int × Int)) : List Rat:=L.map fun q => qOf q.1 q.2
theorem zdo {W : World} {A : oA9} {n c : Nat} {L : List (Int × Int)} (h : zaT W A n c L) : zax 1 (zcq L):=fun x hx => by
 obtain ⟨q,hq,rfl⟩:=List.mem_map.1 hx
 obtain ⟨⟨h1,h2⟩,h3,h4⟩:=h.ints q hq
 exact zhh h1 h2 h3 h4
theorem zbB (L : List (Int × Int)) : (zcq L).length = L.length:=List.length_map _
def GivesM (w : World) (n : Nat) (xs : List Rat) (e : Ending) (w' : World) : Prop:=∃ (A : oA9) (c : Nat),e = .returned (.slice A n c) ∧ zbk w' A n c xs ∧ (∀ ad,A = some ad → w.heap.size ≤ ad.block) ∧ Below w.heap.size w w'
theorem zdT {A : oA9} {n c : Nat} {L : List (Int × Int)} {w : World} (hT : zan w) (h : zaT w A n c L) :
  Calls Tryz.prog 10 #[.slice A n c] w (GivesM w n (zcq L)):=by
 obtain ⟨i1',hi1,hz10,hz11,hz12⟩:=info_parts info10
 have hn0 : n ≤ 1048576:=Nat.le_trans h.fits h.small
 have HL:=lh9 h.len
 have HG : Hid (∀ k,k < n → zaX (L.getD k (0,0)).1 ∧ zaX (L.getD k (0,0)).2 ∧ ∃ ad,A = some ad ∧ ad.block < w.heap.size ∧ w.cell? (ad.add (k * 2)) = some (.int .i64 (L.getD k (0,0)).1) ∧ w.cell? (ad.add (k * 2 + 1)) = some (.int .i64 (L.getD k (0,0)).2)):=fun k hk => by
  have hl:=h.len
  have e : L[k]? = some (L.getD k (0,0)):=by rw [List.getD_eq_getElem?_getD,List.getElem?_eq_getElem (by omega)]; rfl
  obtain ⟨h1,h2⟩:=h.ints _ (List.mem_of_getElem? e)
  exact ⟨h1,h2,h.row k _ e⟩
 have HS : Hid (∀ k,k < n → zcq (L.take (k + 1)) = zcq (L.take k) ++ [qOf (L.getD k (0,0)).1 (L.getD k (0,0)).2]):=fun k hk => by
  have hl:=h.len
  unfold zcq
  rw [List.take_succ_eq_append_getElem (by omega),List.map_append,List.getD_eq_getElem?_getD,List.getElem?_eq_getElem (by omega)]
  rfl
 have HT:=lh9 (fun w' (hb : Below w.heap.size w w') => hT.on hb)
 unfold GivesM
 clear h hT
 have hB:=Below.refl w.heap.size w
 go_enter Tryz.func10,Tryz.ntmps10
 go_wp2_with fail
 go_loopg [3,4] (n + 1) (fun g sl ix wr => ∃ (k : Nat) (v : Value) (vs : List Value),k ≤ n ∧ n < g + k ∧ ix = .int .i64 k ∧ v = sl ∧ zcs zao wr w.heap.size 44 v (zcq (L.take k)) vs ∧ Below w.heap.size w wr)
 case atStart => exact ⟨0,_,_,Nat.zero_le _,by omega,rfl,rfl,zcs.nil _ _ _,hB⟩
 case round =>
  clear hB
  obtain ⟨k,v,vs,hkn,hg,rfl,rfl,hon,hB⟩:=hrel
  by_cases hlt : k < n
  ·obtain ⟨hi1',hi2',ad,rfl,hadb,hc0,hc1⟩:=HG.out k hlt
   have HSK:=lh9 (HS.out k hlt)
   obtain ⟨q,hq⟩ : ∃ q,L.getD k (0,0) = q:=⟨_,rfl⟩
   rw [hq] at hi1' hi2' hc0 hc1 HSK
   obtain ⟨q1,q2⟩:=q
   dsimp only at hi1' hi2' hc0 hc1 HSK
   have hc0:=zad hB hc0
   have hc1:=zgq (zad hB hc1)
   have hd1 : decide ((k : Int) < (n : Int)) = true:=decide_eq_true (by omega)
   have i1 : (0 : Int) ≤ (k : Int):=by omega
   have i2 : (k : Int) < (n : Int):=by omega
   have HON0:=lh9 hon
   have HB0:=lh9 hB
   have HI1:=lh9 hi1'
   have HI2:=lh9 hi2'
   have hlq : (zcq (L.take k)).length = k:=by rw [zbB,List.length_take,HL.out]; omega
   have HLQ:=lh9 hlq
   clear hon hB hi1' hi2' hq hlq
   go_wp2_with fail
   (with_reducible refine (zeL (HT.out _ HB0.out) HI1.out HI2.out).mono ?_)
   rintro e w5 ⟨b5,B5,m5,d5,E5,u5,f5,rfl,hx5,hb⟩
   obtain ⟨t1,t2,_⟩:=zaL w5 44 #[.bool b5,.slice B5 m5 d5,.slice E5 u5 f5]
   obtain ⟨t20,t21,t22⟩:=t2.c3
   have hup:=zac hb t1
   have hon:=zcs.below zcb HON0.out hup
   have HX:=lh9 (hx5.below t1)
   have HB:=lh9 (zac HB0.out hup)
   have hcell : ∀ j u,[Value.bool b5,.slice B5 m5 d5,.slice E5 u5 f5][j]? = some u → (w5.alloc (.cells #[.bool b5,.slice B5 m5 d5,.slice E5 u5 f5] 44)).cell? ((⟨w5.heap.size,0,none⟩ : Addr).add j) = some u:=fun j u hu => by
    rw [zbx]
    match j,hu with
    | 0,hu => simp at hu; subst hu; exact t2.cell 0
    | 1,hu => simp at hu; subst hu; exact t2.cell 1
    | 2,hu => simp at hu; subst hu; exact t2.cell 2
   have HCELL:=lh9 hcell
   have HONE : Hid (∀ u ∈ [Value.bool b5,.slice B5 m5 d5,.slice E5 u5 f5],u.oneCell' = true):=by intro u hu; simp at hu; rcases hu with rfl | rfl | rfl <;> rfl
   have HNN : Hid (∀ u ∈ [Value.bool b5,.slice B5 m5 d5,.slice E5 u5 f5],zfI u):=by intro u hu y z; simp at hu; rcases hu with rfl | rfl | rfl <;> (intro h9; cases h9)
   have HZN : Hid (∀ u ∈ (Value.agg #[.bool false,.slice none 0 0,.slice none 0 0]).cells.toList,zfI u):=by intro u hu y z; simp [Value.cells] at hu; rcases hu with rfl | rfl <;> (intro h9; cases h9)
   have HBS : Hid (w.heap.size ≤ (w5.alloc (.cells #[.bool b5,.slice B5 m5 d5,.slice E5 u5 f5] 44)).heap.size):=HB.out.size
   have hown:=hon.own
   rw [HLQ.out] at hown
   have HOWN:=lh9 hown
   have HNOU:=lh9 hon.nou
   have HON:=lh9 hon
   have HOB:=lh9 (fun r (h : v.ownBlock = some r) => hon.own.lt r h)
   clear hb hup hx5 hcell hon t1 t2 hc0 hc1 t20 t21 t22 hown
   go_wp2_with (at_builtin; go_loud (refine zfG _ rfl (.tmp 11) (.tmp 17) 27 rfl w.heap.size 44 i1' (.agg #[.bool false,.slice none 0 0,.slice none 0 0]) 3 56 Tryz.underlying27 hi1 hz10 hz11 hz12 rfl (by decide) v k vs rfl HOWN.out ⟨w5.heap.size,0,none⟩ 1 1 [.bool b5,.slice B5 m5 d5,.slice E5 u5 f5] rfl rfl HCELL.out HONE.out (by unfold maxLen; omega) (by omega) HBS.out HNOU.out HZN.out HNN.out ?_; intro v' w8 hown' hgrow hat hnou'; have HON8:=lh9 (zcs.grow (n:=k + 1) zcb HON.out HX.out hown' (by rw [HLQ.out]) hgrow hnou'); have HB8:=lh9 (HB.out.grown hgrow HBS.out (fun r hr => (HOB.out r hr).1)); clear hown' hgrow hat hnou'))
   rw [← HSK.out] at HON8
   go_roundg (n - k)
   case measure => omega
   case rel => exact ⟨k + 1,_,_,by omega,by omega,by go_num,rfl,HON8.out,HB8.out⟩
  ·have hd1 : decide ((k : Int) < (n : Int)) = false:=decide_eq_false (by omega)
   have hk : k = n:=by omega
   subst hk
   rw [List.take_of_length_le (by rw [HL.out]; exact Nat.le_refl _)] at hon
   have hlq : (zcq L).length = k:=by rw [zbB]; exact HL.out
   obtain ⟨A1,c1,rfl,hv,hf⟩:=hon.shape
   rw [hlq] at hv ⊢
   have HV:=lh9 hv
   have HF:=lh9 hf
   have HB1:=lh9 hB
   clear hon hv hB hlq hf
   go_wp2
   go_ret
   exact ⟨A1,c1,rfl,HV.out,HF.out,HB1.out⟩
end Go.Proofs.YtkiedljcgkoaiaaGreatDoor
