/- What this claim leans on. -/
import Derived.Test.YtkiedljcgkoaiaaGreatDoorTS8Sum
namespace Go.Proofs.YtkiedljcgkoaiaaGreatDoor
open Go Go.RowKit
set_option maxHeartbeats 16000000
set_option maxRecDepth 100000
set_option linter.unusedVariables false
set_option linter.unusedSimpArgs false
theorem ziK {K L : Nat} {r : Rat} {xs : List Rat} {A : oA9} {n c : Nat} {w : World} {s : Bool} {D : oA9} {m e9 : Nat} {U : oA9} {u v : Nat} (hT : zam w) (hr : zan w r s D m e9 U u v) (ha : zaQ w A n c xs) (zr : SzQ L r) (hx : zau K xs) (hn : n ≤ 1073741824:=by omega) (hK : K ≤ 67108864:=by omega) (hL : L ≤ 67108864:=by omega) :
  Calls Tryz.prog 24 #[.agg #[.bool s,.slice D m e9,.slice U u v],.slice A n c] w (ziP w n (zcs r xs)):=by
 have hla:=ha.len
 have hlz : (zcs r xs).length = n:=by unfold zcs; rw [List.length_map]; exact hla
 have HGI : ∀ i,i < n → (zcs r xs)[i]? = some (r * xs.getD i 0):=fun i hi => by
  unfold zcs
  rw [List.getElem?_map,List.getD_eq_getElem?_getD,List.getElem?_eq_getElem (by omega)]; rfl
 have HSX : Hid (∀ i,i < n → SzQ K (xs.getD i 0)):=fun i hi => hx.at_ (by omega)
 unfold ziP
 obtain ⟨zs,hzs⟩ : ∃ zs,zcs r xs = zs:=⟨_,rfl⟩
 rw [hzs] at HGI hlz ⊢
 have HG:=lh9 HGI
 have HLZ:=lh9 hlz
 have HZR:=lh9 zr
 obtain ⟨bx1,bx2,bz⟩:=zaR w 44 #[.bool s,.slice D m e9,.slice U u v]
 have HA:=lh9 ha
 have HT:=lh9 (fun w' (hb : Below w.heap.size w w') => hT.on hb)
 have HR:=lh9 (fun w' (hb : Below w.heap.size w w') => hr.below hb)
 have HB0:=lh9 bx1
 have HK0:=lh9 bx2
 obtain ⟨Z,hZ⟩:=zdD n (by omega)
 have hmk:=fun W => (hZ W).1
 have HOWN:=lh9 (fun W => (hZ W).2)
 clear hT hr ha zr hx hla hlz hzs HGI hZ bx1 bx2 bz
 have i0 : (0 : Int) ≤ (n : Int):=by omega
 go_enter Tryz.func24,Tryz.ntmps24
 go_wp2_with fail
 clear hmk
 obtain ⟨W0,hW0⟩ : ∃ W,w.alloc (.cells #[.bool s,.slice D m e9,.slice U u v] 44) = W:=⟨_,rfl⟩
 rw [hW0] at HB0 HK0
 have hrow:=HOWN.out W0
 have hB0:=HB0.out
 have hsz : W0.heap.size = w.heap.size + 1:=by rw [← hW0]; simp
 simp only [hW0] at *
 have hB1 : Below W0.heap.size W0 (W0.alloc (.cells Z 44)):=(Below.refl _ W0).alloc (Nat.le_refl _) _
 have hkx:=zae hB1 HK0.out
 have hB:=zac hB0 hB1
 rw [hsz] at hrow
 clear hW0 HB0 HK0 hB0 hB1 hsz HOWN
 generalize W0.alloc (.cells Z 44) = W1 at *
 obtain ⟨gp,hgp⟩ : ∃ g,w.heap.size + 1 = g:=⟨_,rfl⟩
 rw [hgp] at hrow ⊢
 rw [← zes 0 zs n] at hrow
 have hwg : w.heap.size + 1 ≤ gp:=by omega
 clear hgp
 go_loopg [13] (n + 1) (fun g ix wr => ∃ (k : Nat),k ≤ n ∧ n < g + k ∧ ix = .int .i64 k ∧ zcc wr gp n (zds 0 zs n k) ∧ Below w.heap.size w wr ∧ Blk wr w.heap.size 44 #[.bool s,.slice D m e9,.slice U u v])
 case atStart => exact ⟨0,Nat.zero_le _,by omega,rfl,hrow,hB,hkx⟩
 case round =>
  clear hrow hB hkx
  obtain ⟨k,hkn,hg,rfl,hrow,hB,hkx⟩:=hrel
  by_cases hlt : k < n
  ·obtain ⟨ad,b1,B1,m1,d1,E1,u1,v1,rfl,-,hc0,hc1,hc2,hx⟩:=HA.out.get hB hlt
   have hd1 : decide ((k : Int) < (n : Int)) = true:=decide_eq_true (by omega)
   have i1 : (0 : Int) ≤ (k : Int):=by omega
   have i2 : (k : Int) < (n : Int):=by omega
   obtain ⟨st,d3,d4⟩:=zaR wr 44 #[.bool b1,.slice B1 m1 d1,.slice E1 u1 v1]
   obtain ⟨p0,p1,p2⟩:=d3.c3
   obtain ⟨g0,g1,g2⟩:=(zae st hkx).c3
   have HX:=lh9 (hx.below st)
   have HROW:=lh9 (hrow.keep st)
   have HB1:=lh9 (zac hB st)
   have HKX:=lh9 (zae st hkx)
   clear hx hrow hB st d3 d4 hkx
   go_wp2_with fail
   (with_reducible refine (q_mul (HT.out _ HB1.out) (HR.out _ HB1.out) HX.out HZR.out (HSX.out k hlt) hL hK).mono ?_)
   rintro e w3 ⟨b3,A3,n3,c3,E3,k3,f3,rfl,hw3,hb⟩
   clear hc0 hc1 hc2 p0 p1 p2 g0 g1 g2
   have hr3:=HROW.out.keep hb
   have hr4:=zbr.set_ zbG hr3 hlt hw3
   rw [zfj 0 zs n k HLZ.out hlt _ (HG.out k hlt)] at hr4
   obtain ⟨q0,q1,q2,sc0,sf0,sc1,sf1,sc2,sf2⟩:=hr3.ready hlt (.bool b3) (.slice A3 n3 c3)
   have HR4:=lh9 hr4
   have HB4:=lh9 (zdg (k * 3) (k * 3 + 1) (k * 3 + 2) (.bool b3) (.slice A3 n3 c3) (.slice E3 k3 f3) (show w.heap.size ≤ gp by omega) (zac HB1.out hb))
   have HK4:=lh9 (Blk.far (p:=⟨gp,k * 3 + 2,none⟩) (Blk.far (p:=⟨gp,k * 3 + 1,none⟩) (Blk.far (p:=⟨gp,k * 3,none⟩) (zae hb HKX.out) (by show w.heap.size ≠ gp; omega) (.bool b3)) (by show w.heap.size ≠ gp; omega) (.slice A3 n3 c3)) (by show w.heap.size ≠ gp; omega) (.slice E3 k3 f3))
   clear hr3 hr4 hb hw3 HX HROW HB1 HKX
   go_wp2
   go_roundg (n - k)
   case measure => omega
   case rel => exact ⟨k + 1,by omega,by omega,by go_num,HR4.out,HB4.out,HK4.out⟩
  ·have hk : k = n:=by omega
   subst hk
   have hd1 : decide ((k : Int) < (k : Int)) = false:=by simp
   have HR5:=lh9 (zfi 0 zs k HLZ.out ▸ hrow)
   have HB1:=lh9 hB
   have hge : w.heap.size ≤ gp:=by omega
   clear hrow hB hkx
   go_wp2
   go_ret
   exact ⟨gp,rfl,hge,HR5.out,HB1.out⟩
structure IntsIn (w : World) (A : oA9) (n : Nat) (zs : List Int) : Prop where
 len : zs.length = n
 ints : ∀ i,i < n → -9223372036854775808 ≤ zs.getD i 0 ∧ zs.getD i 0 ≤ 9223372036854775807
 num : ∀ i,i < n → ∃ ad : Addr,A = some ad ∧ w.cell? (ad.add i) = some (.int .i64 (zs.getD i 0))
def ofL (zs : List Int) : List Rat:=zs.map fun z : Int => (z : Rat)
theorem zdu {zs : List Int} {A : oA9} {n c : Nat} {w : World} (hT : zam w) (ha : IntsIn w A n zs) (hn : n ≤ 1073741824:=by omega) :
  Calls Tryz.prog 42 #[.slice A n c] w (ziP w n (ofL zs)):=by
 have hla:=ha.len
 have hlz : (ofL zs).length = n:=by unfold ofL; rw [List.length_map]; exact hla
 have HGI : ∀ i,i < n → (ofL zs)[i]? = some ((zs.getD i 0 : Int) : Rat):=fun i hi => by
  unfold ofL
  rw [List.getElem?_map,List.getD_eq_getElem?_getD,List.getElem?_eq_getElem (by omega)]; rfl
 have HI:=lh9 ha.ints
 unfold ziP
 obtain ⟨ys,hys⟩ : ∃ ys,ofL zs = ys:=⟨_,rfl⟩
 rw [hys] at HGI hlz ⊢
 have HG:=lh9 HGI
 have HLZ:=lh9 hlz
 have HA:=lh9 ha.num
 have HT:=lh9 (fun w' (hb : Below w.heap.size w w') => hT.on hb)
 obtain ⟨Z,hZ⟩:=zdD n (by omega)
 have hmk:=fun W => (hZ W).1
 have HOWN:=lh9 (fun W => (hZ W).2)
 clear hT ha hla hlz hys HGI hZ
 have i0 : (0 : Int) ≤ (n : Int):=by omega
 go_enter Tryz.func42,Tryz.ntmps42
 go_wp2_with fail
 clear hmk
 have hrow:=HOWN.out w
 have hB : Below w.heap.size w (w.alloc (.cells Z 44)):=(Below.refl _ w).alloc (Nat.le_refl _) _
 obtain ⟨gp,hgp⟩ : ∃ g,w.heap.size = g:=⟨_,rfl⟩
 have hwg : w.heap.size ≤ gp:=by omega
 rw [hgp] at hrow ⊢
 rw [← zes 0 ys n] at hrow
 generalize w.alloc (.cells Z 44) = W1 at *
 clear hgp HOWN
 go_loopg [11] (n + 1) (fun g ix wr => ∃ (k : Nat),k ≤ n ∧ n < g + k ∧ ix = .int .i64 k ∧ zcc wr gp n (zds 0 ys n k) ∧ Below w.heap.size w wr)
 case atStart => exact ⟨0,Nat.zero_le _,by omega,rfl,hrow,hB⟩
 case round =>
  clear hrow hB
  obtain ⟨k,hkn,hg,rfl,hrow,hB⟩:=hrel
  by_cases hlt : k < n
  ·obtain ⟨ad,rfl,hc⟩:=HA.out k hlt
   have hc0:=zad hB hc
   obtain ⟨z1,z2⟩:=HI.out k hlt
   have HGK:=lh9 (HG.out k hlt)
   obtain ⟨z,hz⟩ : ∃ z,zs.getD k 0 = z:=⟨_,rfl⟩
   rw [hz] at hc0 z1 z2 HGK
   have hd1 : decide ((k : Int) < (n : Int)) = true:=decide_eq_true (by omega)
   have i1 : (0 : Int) ≤ (k : Int):=by omega
   have i2 : (k : Int) < (n : Int):=by omega
   have HROW:=lh9 hrow
   have HB1:=lh9 hB
   clear hrow hB hc hz
   go_wp2_with fail
   (with_reducible refine (zfO z _ (HT.out _ HB1.out) z1 z2).mono ?_)
   rintro e w3 ⟨b3,A3,n3,c3,E3,k3,f3,rfl,hw3,hb⟩
   clear hc0
   have hr3:=HROW.out.keep hb
   have hr4:=zbr.set_ zbG hr3 hlt hw3
   rw [zfj 0 ys n k HLZ.out hlt _ HGK.out] at hr4
   obtain ⟨q0,q1,q2,sc0,sf0,sc1,sf1,sc2,sf2⟩:=hr3.ready hlt (.bool b3) (.slice A3 n3 c3)
   have HR4:=lh9 hr4
   have HB4:=lh9 (zdg (k * 3) (k * 3 + 1) (k * 3 + 2) (.bool b3) (.slice A3 n3 c3) (.slice E3 k3 f3) hwg (zac HB1.out hb))
   clear hr3 hr4 hb hw3 HROW HB1
   go_wp2
   go_roundg (n - k)
   case measure => omega
   case rel => exact ⟨k + 1,by omega,by omega,by go_num,HR4.out,HB4.out⟩
  ·have hk : k = n:=by omega
   subst hk
   have hd1 : decide ((k : Int) < (k : Int)) = false:=by simp
   have HR5:=lh9 (zfi 0 ys k HLZ.out ▸ hrow)
   have HB1:=lh9 hB
   clear hrow hB
   go_wp2
   go_ret
   exact ⟨gp,rfl,hwg,HR5.out,HB1.out⟩
theorem zdt (z : Int) (w : World) (h : z < 0 ∨ 64 < z) : Calls Tryz.prog 34 #[.int .i64 z] w (zaT w):=by
 unfold zaT
 rcases h with h | h
 ·have hd : decide (z < 0) = true:=decide_eq_true (by omega)
  go_enter Tryz.func34,Tryz.ntmps34
  go_wp2
  go_ret2
  exact ⟨rfl,Below.refl _ _⟩
 ·have hd : decide (z < 0) = false:=decide_eq_false (by omega)
  have hd2 : decide (64 < z) = true:=decide_eq_true (by omega)
  have hd3 : decide (z > 64) = true:=decide_eq_true (by omega)
  go_enter Tryz.func34,Tryz.ntmps34
  go_wp2
  go_ret2
  exact ⟨rfl,Below.refl _ _⟩
theorem zdc (n : Nat) (w : World) (hn : n ≤ 64) : Calls Tryz.prog 34 #[.int .i64 (n : Int)] w (zcb w n (List.replicate n 0)):=by
 unfold zcb
 obtain ⟨ys,hys⟩ : ∃ ys,List.replicate n (0 : Rat) = ys:=⟨_,rfl⟩
 obtain ⟨Z,hZ⟩:=zdD n (by omega)
 have hmk:=fun W => (hZ W).1
 have HOWN:=lh9 (hZ w).2
 rw [hys] at HOWN ⊢
 have hd : decide ((n : Int) < 0) = false:=decide_eq_false (by omega)
 have hd2 : decide (64 < (n : Int)) = false:=decide_eq_false (by omega)
 have hd3 : decide ((n : Int) > 64) = false:=decide_eq_false (by omega)
 have hB:=lh9 ((Below.refl _ w).alloc (Nat.le_refl _) (.cells Z 44))
 clear hZ hys
 go_enter Tryz.func34,Tryz.ntmps34
 go_wp2
 go_ret2
 exact ⟨_,rfl,Nat.le_refl _,HOWN.out,hB.out⟩
def zda (n k : Nat) : List Rat:=(List.replicate n 0).set k 1
theorem zeZ (z k : Int) (w : World) (h : z < 0 ∨ 64 < z) : Calls Tryz.prog 33 #[.int .i64 z,.int .i64 k] w (zaT w):=by
 have H:=lh9 (zdt z w h)
 unfold zaT
 clear h
 go_enter Tryz.func33,Tryz.ntmps33
 go_wp2_with fail
 refine H.out.mono ?_
 rintro e w1 ⟨rfl,hb⟩
 go_wp2
 go_ret2
 exact ⟨rfl,hb⟩
theorem zeI (n : Nat) (k : Int) (w : World) (hn : n ≤ 64) (hk : k < 0 ∨ (n : Int) ≤ k) : Calls Tryz.prog 33 #[.int .i64 (n : Int),.int .i64 k] w (zaT w):=by
 have H:=lh9 (zdc n w hn)
 unfold zaT
 rcases hk with hk | hk
 ·have hd : decide (k < 0) = true:=decide_eq_true (by omega)
  clear hk
  go_enter Tryz.func33,Tryz.ntmps33
  go_wp2_with fail
  refine H.out.mono ?_
  rintro e w1 ⟨g,rfl,h1,h2,hb⟩
  clear h2
  go_wp2
  go_ret2
  exact ⟨rfl,hb⟩
 ·by_cases h0 : k < 0
  ·omega
  ·have hd : decide (k < 0) = false:=decide_eq_false (by omega)
   have hd2 : decide ((n : Int) ≤ k) = true:=decide_eq_true (by omega)
   have hd3 : decide (k ≥ (n : Int)) = true:=decide_eq_true (by omega)
   clear hk h0
   go_enter Tryz.func33,Tryz.ntmps33
   go_wp2_with fail
   refine H.out.mono ?_
   rintro e w1 ⟨g,rfl,h1,h2,hb⟩
   clear h2
   go_wp2
   go_ret2
   exact ⟨rfl,hb⟩
theorem vec_unit (n k : Nat) (w : World) (hT : zam w) (hn : n ≤ 64) (hk : k < n) : Calls Tryz.prog 33 #[.int .i64 (n : Int),.int .i64 (k : Int)] w (zcb w n (zda n k)):=by
 have H:=lh9 (zdc n w hn)
 have HT:=lh9 (fun w' (hb : Below w.heap.size w w') => hT.on hb)
 have HU : Hid (zda n k = (List.replicate n 0).set k 1):=rfl
 unfold zcb
 obtain ⟨us,hus⟩ : ∃ us,zda n k = us:=⟨_,rfl⟩
 rw [hus] at HU ⊢
 have hd : decide ((k : Int) < 0) = false:=decide_eq_false (by omega)
 have hd2 : decide (n ≤ k) = false:=decide_eq_false (by omega)
 have hd3 : decide ((n : Int) ≤ (k : Int)) = false:=decide_eq_false (by omega)
 have hd4 : decide ((k : Int) ≥ (n : Int)) = false:=decide_eq_false (by omega)
 have i1 : (0 : Int) ≤ (k : Int):=by omega
 have i2 : (k : Int) < (n : Int):=by omega
 clear hT hus
 go_enter Tryz.func33,Tryz.ntmps33
 go_wp2_with fail
 refine H.out.mono ?_
 rintro e w1 ⟨g,rfl,h1,h2,hb⟩
 have HR:=lh9 h2
 have HB:=lh9 hb
 clear h2 hb H
 go_wp2_with fail
 (with_reducible refine (zfO 1 _ (HT.out _ HB.out) (by decide) (by decide)).mono ?_)
 rintro e w3 ⟨b3,A3,n3,c3,E3,k3,f3,rfl,hw3,hb⟩
 have hr3:=HR.out.keep hb
 have hr4:=zbr.set_ zbG hr3 hk hw3
 have e1 : ((1 : Int) : Rat) = 1:=rfl
 rw [e1,← HU.out] at hr4
 obtain ⟨q0,q1,q2,sc0,sf0,sc1,sf1,sc2,sf2⟩:=hr3.ready hk (.bool b3) (.slice A3 n3 c3)
 have HR4:=lh9 hr4
 have HB4:=lh9 (zdg (k * 3) (k * 3 + 1) (k * 3 + 2) (.bool b3) (.slice A3 n3 c3) (.slice E3 k3 f3) h1 (zac HB.out hb))
 clear hr3 hr4 hb hw3 HR HB e1
 go_wp2
 go_ret2
 exact ⟨g,rfl,h1,HR4.out,HB4.out⟩
end Go.Proofs.YtkiedljcgkoaiaaGreatDoor
