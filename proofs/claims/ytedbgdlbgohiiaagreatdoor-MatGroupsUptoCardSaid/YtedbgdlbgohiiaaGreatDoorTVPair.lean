/- What this claim leans on. -/
import Derived.Test.YtedbgdlbgohiiaaGreatDoorTVRow
import Derived.Test.YtedbgdlbgohiiaaGreatDoorTMeet3
import Derived.Test.YtedbgdlbgohiiaaGreatDoorTBun7
import Derived.Test.YtedbgdlbgohiiaaGreatDoorTBunI
import Derived.Deep.Slices
import Derived.Laws.Concat
namespace Go.Proofs.YtedbgdlbgohiiaaGreatDoor
open Go Go.RowKit
set_option maxHeartbeats 16000000
set_option maxRecDepth 100000
set_option linter.unusedVariables false
set_option linter.unusedSimpArgs false
theorem zll (f : Rat → Rat → Rat) (F : FuncId) (cap : Array Value) (xs ys : List Rat) (A B : oA9) (n c d : Nat) (w : World) (ha : zaG w A n c xs) (hb : zaG w B n d ys) (hn : n ≤ 1073741824)
  (hEn : ∀ (args : Array Value) (w' : World),Sem.run Tryz.prog (callFunc F args) w' = .ok (.enter F args) w')
  (hF : ∀ i,i < n → ∀ w',Below w.heap.size w w' → ∀ (b b' : Bool) (A A' : oA9) (n n' c c' : Nat) (E E' : oA9) (k k' f9 f9' : Nat),zaj w' (xs.getD i 0) b A n c E k f9 → zaj w' (ys.getD i 0) b' A' n' c' E' k' f9' →
    Calls Tryz.prog F (#[.agg #[.bool b,.slice A n c,.slice E k f9],.agg #[.bool b',.slice A' n' c',.slice E' k' f9']] ++ cap) w' (zaH w' (f (xs.getD i 0) (ys.getD i 0)))) :
  Calls Tryz.prog 138 #[.slice A n c,.slice B n d,.func (.func F) #[] cap] w (zde w n (List.zipWith f xs ys)):=by
 have hla:=ha.len
 have hlb:=hb.len
 have hlz : (List.zipWith f xs ys).length = n:=zlT hla hlb
 unfold zde
 have HGI : ∀ i,i < n → (List.zipWith f xs ys)[i]? = some (f (xs.getD i 0) (ys.getD i 0)):=fun i hi => by
  rw [List.getElem?_zipWith,List.getD_eq_getElem?_getD,List.getD_eq_getElem?_getD,List.getElem?_eq_getElem (by omega),List.getElem?_eq_getElem (by omega)]; rfl
 obtain ⟨zs,hzs⟩ : ∃ zs,List.zipWith f xs ys = zs:=⟨_,rfl⟩
 rw [hzs] at HGI hlz ⊢
 have HG:=lh9 HGI
 have HLZ:=lh9 hlz
 have HF:=lh9 hF
 have HA:=lh9 ha
 have HB9:=lh9 hb
 obtain ⟨Z,hZ⟩:=zdy n (by omega)
 have hmk:=fun W => (hZ W).1
 have HOWN:=lh9 (fun W => (hZ W).2)
 clear hF ha hb hla hlb hlz hzs HGI hZ
 have hd0 : ((n : Int) != (n : Int)) = false:=by simp
 have i0 : (0 : Int) ≤ (n : Int):=by omega
 go_enter Tryz.func138,Tryz.ntmps138
 go_wp2_with fail
 clear hmk
 have hrow:=HOWN.out w
 have hB : Below w.heap.size w (w.alloc (.cells Z 48)):=(Below.refl _ w).alloc (Nat.le_refl _) _
 obtain ⟨gp,hgp⟩ : ∃ g,w.heap.size = g:=⟨_,rfl⟩
 have hwg : w.heap.size ≤ gp:=by omega
 have hz : gp + 1 ≤ (w.alloc (.cells Z 48)).heap.size:=by simp [hgp]
 rw [hgp] at hrow ⊢
 rw [← zbj 0 zs n] at hrow
 generalize w.alloc (.cells Z 48) = W1 at *
 clear hgp HOWN
 go_loopg [21] (n + 1) (fun g ix wr => ∃ (k : Nat),k ≤ n ∧ n < g + k ∧ ix = .int .i64 k ∧ zco wr gp n (zbB 0 zs n k) ∧ Below w.heap.size w wr)
 case atStart => exact ⟨0,Nat.zero_le _,by omega,rfl,hrow,hB⟩
 case round =>
  clear hrow hB hz
  obtain ⟨k,hkn,hg,rfl,hrow,hB⟩:=hrel
  by_cases hlt : k < n
  ·obtain ⟨ad,b1,B1,m1,d1,E1,u1,v1,rfl,-,hc0,hc1,hc2,hx⟩:=HA.out.get hB hlt
   obtain ⟨ae,b2,B2,m2,d2,E2,u2,v2,rfl,hae,he0,he1,he2,hy⟩:=HB9.out.get hB hlt
   have hd1 : decide ((k : Int) < (n : Int)) = true:=by simp; omega
   have i1 : (0 : Int) ≤ (k : Int):=by omega
   have i2 : (k : Int) < (n : Int):=by omega
   have hgr:=hrow.lt
   obtain ⟨st,d3,d4⟩:=zaz wr 48 #[.bool b1,.slice B1 m1 d1,.slice E1 u1 v1]
   have HBX:=lh9 d3
   have HX:=lh9 (hx.below st)
   have HY:=lh9 (hy.below st)
   have HROW:=lh9 (hrow.keep st)
   have HB1:=lh9 (zaa hB st)
   have HE:=lh9 (And.intro (zab st he0) (And.intro (zab st he1) (zab st he2)))
   clear hx hy hrow hB st d3 d4 he0 he1 he2
   go_wp2_with fail
   clear hc0 hc1 hc2
   generalize wr.alloc (.cells #[.bool b1,.slice B1 m1 d1,.slice E1 u1 v1] 48) = W2 at *
   generalize wr.heap.size = gb at *
   obtain ⟨p0,p1,p2⟩:=HBX.out.c3
   obtain ⟨e0,e1,e2⟩:=HE.out
   have hBw:=(Below.refl W2.heap.size W2).drew
   have hne:=off_add (k:=k * 3) (show ae.block ≠ gp by omega)
   refine rg (csc p0 (csc p1 (csc p2 (csc e0 (csc e1 (csc e2 csn)))))) (fun hHeld => ?_)
   refine tk 0 ?_
   refine tk 1 ?_
   refine tk 2 ?_
   refine tk 3 ?_
   refine tk 4 ?_
   refine tk 5 ?_
   refine tk 6 ?_
   refine tk 7 ?_
   refine rc 8 (fun K hK => ?_)
   go_simp
   refine (HF.out k hlt _ (zaa HB1.out hBw) _ _ _ _ _ _ _ _ _ _ _ _ _ _ (HX.out.below hBw) (HY.out.below hBw)).mono ?_
   rintro e w3 ⟨b3,A3,n3,c3,E3,k3,f3,rfl,hw3,hb⟩
   have hBw:=zaa hBw hb
   refine hK.out _ _ (Cs.below hHeld hb) (fun hHeld => ?_); clear hK K hb
   refine tk 9 ?_
   have hr3:=HROW.out.keep hBw
   obtain ⟨q0,q1,q2,sc0,sf0,sc1,sf1,sc2,sf2⟩:=hr3.ready hlt (.bool b3) (.slice A3 n3 c3)
   refine rc 10 (fun K hK => ?_)
   go_simp
   have hr4:=zaZ.set_ zam hr3 hlt hw3
   rw [zbw 0 zs n k HLZ.out hlt _ (HG.out k hlt)] at hr4
   have hB4:=zch (k * 3) (k * 3 + 1) (k * 3 + 2) (.bool b3) (.slice A3 n3 c3) (.slice E3 k3 f3) hwg (zaa HB1.out hBw)
   refine hK.out _ _ (Cs.far hHeld (offg3 _ _ _ _ _ _ _ _) (by refine ⟨?_,?_,?_,hne,hne,hne,trivial⟩ <;> (show gb ≠ gp; omega))) (fun hHeld => ?_); clear hK K
   refine rdn ?_
   have HR4:=lh9 hr4
   have HB4:=lh9 hB4
   clear hr4 hB4 hr3 hHeld hBw hw3 sc0 sf0 sc1 sf1 sc2 sf2 p0 p1 p2 e0 e1 e2 HBX HX HY HROW HB1 HE
   go_wp2
   go_roundg (n - k)
   case measure => omega
   case rel => exact ⟨k + 1,by omega,by omega,by go_num,HR4.out,HB4.out⟩
  ·have hk : k = n:=by omega
   subst hk
   have hd1 : decide ((k : Int) < (k : Int)) = false:=by simp
   have HR:=lh9 (zbv 0 zs k HLZ.out ▸ hrow)
   have HB1:=lh9 hB
   clear hrow hB
   go_wp2
   go_ret2
   exact ⟨gp,rfl,hwg,HR.out,HB1.out⟩
theorem zfA (x y : Nat) (A D : oA9) (n m c d : Nat) (w : World) (hA : zad w x A n c) (hD : zad w y D m d) (hn : n ≤ 274877906944) (hm : m ≤ 274877906944) :
  Calls Tryz.prog 151 #[.agg #[.slice A n c],.agg #[.slice D m d]] w (zdE w (x / y) (decide (y ≠ 0))):=by
 by_cases hy : y = 0
 ·have e : x / y = 0:=by rw [hy,Nat.div_zero]
  have e2 : decide (y ≠ 0) = false:=by simp [hy]
  rw [e,e2]
  exact zen 0 0 false A D n m c d w (fun w' hb => zeo x y A D n m c d w' (hA.below hb) (hD.below hb) hy)
 ·have e2 : decide (y ≠ 0) = true:=by simp [hy]
  rw [e2]
  exact zen (x / y) (x % y) true A D n m c d w (fun w' hb => zdj x y A D n m c d w' (hA.below hb) (hD.below hb) (by omega) (by omega) hy)
theorem zkv (x y : Nat) (A D : oA9) (n m c d : Nat) (w : World) (hA : zad w x A n c) (hD : zad w y D m d) (hn : n ≤ 1073741824) (hm : m ≤ 1073741824) (hT : zak w) :
  Calls Tryz.prog 128 #[.agg #[.slice A n c],.agg #[.slice D m d]] w (zim w (x / Nat.gcd x y) (y / Nat.gcd x y)):=by
 have HO:=lh9 (fun w' (hb : Below w.heap.size w w') => gcd_of x y A D n m c d w' (hA.below hb) (hD.below hb) hn hm (hT.on hb))
 obtain ⟨g,hg⟩ : ∃ g,Nat.gcd x y = g:=⟨_,rfl⟩
 have lg : (dg 18446744073709551616 g).length ≤ 2147483648:=by
  rw [← hg]
  rcases Nat.eq_zero_or_pos x with e | e
  ·rw [e,Nat.gcd_zero_left,hD.len]; omega
  ·exact Nat.le_trans (zbi (by decide) (Nat.gcd_le_left y e)) (by rw [hA.len]; omega)
 rw [hg] at HO ⊢
 have HDA:=lh9 (fun w' (hb : Below w.heap.size w w') A1 n1 c1 (h1 : zad w' g A1 n1 c1) => zfA x g A A1 n n1 c c1 w' (hA.below hb) h1 (by omega) (by rw [← h1.len]; omega))
 have HDB:=lh9 (fun w' (hb : Below w.heap.size w w') A1 n1 c1 (h1 : zad w' g A1 n1 c1) => zfA y g D A1 m n1 d c1 w' (hD.below hb) h1 (by omega) (by rw [← h1.len]; omega))
 obtain ⟨X,hX⟩ : ∃ g',x / g = g':=⟨_,rfl⟩
 obtain ⟨Y,hY⟩ : ∃ g',y / g = g':=⟨_,rfl⟩
 obtain ⟨bb,hbb⟩ : ∃ g' : Bool,decide (g ≠ 0) = g':=⟨_,rfl⟩
 rw [hX,hbb] at HDA
 rw [hY,hbb] at HDB
 rw [hX,hY]
 clear hA hD hT hg lg hX hY hbb
 go_enter Tryz.func128,Tryz.ntmps128
 go_wp2_with fail
 obtain ⟨b1,b2,b3,b4,b5⟩:=zbd w 44 44 44 #[.slice A n c] #[.slice D m d] #[.slice none 0 0]
 obtain ⟨W3,hW3⟩ : ∃ W,((w.alloc (.cells #[.slice A n c] 44)).alloc (.cells #[.slice D m d] 44)).alloc (.cells #[.slice none 0 0] 44) = W:=⟨_,rfl⟩
 rw [hW3] at b1 b2 b3 b4 b5 ⊢
 have hs3 : W3.heap.size = w.heap.size + 1 + 1 + 1:=by rw [← hW3]; simp
 have kA:=b2.one.alloc (.cells #[.slice none 0 0] 44)
 have kD:=b3.one.alloc (.cells #[.slice none 0 0] 44)
 have kx:=b4.one.alloc (.cells #[.slice none 0 0] 44)
 have ky:=zbr.new W3 44 (.slice none 0 0)
 rw [hs3] at ky
 have hB:=b1.alloc b1.size (.cells #[.slice none 0 0] 44)
 clear b1 b2 b3 b4 b5 hW3 hs3
 generalize W3.alloc (.cells #[.slice none 0 0] 44) = W4 at *
 obtain ⟨p,hp⟩ : ∃ p,w.heap.size = p:=⟨_,rfl⟩
 have hpw : w.heap.size ≤ p:=by omega
 refine (HO.out _ hB).mono ?_
 rw [hp] at kA kD kx ky ⊢
 clear hp
 rintro e w1 ⟨A1,n1,c1,rfl,hg1,hb⟩
 obtain ⟨d1,d2,d3⟩:=zaz w1 44 #[.slice A1 n1 c1]
 have hbb:=zaa hb d1
 have kA:=kA.keep hbb
 have kD:=kD.keep hbb
 have kx:=kx.keep hbb
 have ky:=ky.keep hbb
 have hB:=zaa hB hbb
 have hg1:=hg1.below d1
 have kg:=d2.one
 clear d1 d2 d3 hb hbb
 have e1:=kA.cell
 have e2:=kg.cell
 go_wp2_with fail
 generalize hW5 : w1.alloc (.cells #[.slice A1 n1 c1] 44) = W5 at *
 generalize w1.heap.size = z1 at *
 clear hW5
 refine (HDA.out _ hB A1 n1 c1 hg1).mono ?_
 clear e1 e2
 rintro e w2 ⟨A2,n2,c2,rfl,hx2,hb⟩
 have hz2:=(ky.keep hb).lt
 obtain ⟨d1,d2,d3⟩:=zaz w2 44 #[.slice A2 n2 c2]
 have hbb:=zaa hb d1
 have kD:=kD.keep hbb
 have kx:=kx.keep hbb
 have ky:=ky.keep hbb
 have kg:=kg.keep hbb
 have hB:=zaa hB hbb
 have hg1:=hg1.below hbb
 have hx2:=hx2.below d1
 have k7:=d2.one
 clear d1 d2 d3 hb hbb kA
 have e1:=kD.cell
 have e2:=kg.cell
 go_wp2_with fail
 generalize hW6 : w2.alloc (.cells #[.slice A2 n2 c2] 44) = W6 at *
 generalize w2.heap.size = z2 at *
 clear hW6
 refine (HDB.out _ hB A1 n1 c1 hg1).mono ?_
 clear e1 e2
 rintro e w3 ⟨A3,n3,c3,rfl,hy3,hb⟩
 have hz3:=(ky.keep hb).lt
 obtain ⟨d1,d2,d3⟩:=zaz w3 44 #[.slice A3 n3 c3]
 have hbb:=zaa hb d1
 have kx:=kx.keep hbb
 have ky:=ky.keep hbb
 have k7:=k7.keep hbb
 have hB:=zaa hB hbb
 have hx2:=hx2.below hbb
 have hy3:=hy3.below d1
 have k9:=d2.one
 clear d1 d2 d3 hb hbb kD kg hg1
 go_wp2_with fail
 generalize hW7 : w3.alloc (.cells #[.slice A3 n3 c3] 44) = W7 at *
 generalize w3.heap.size = z3 at *
 clear hW7
 have q7 : W7.cell? ⟨z2,0,none⟩ = some (.slice A2 n2 c2):=k7.cell
 have q9 : W7.cell? ⟨z3,0,none⟩ = some (.slice A3 n3 c3):=k9.cell
 have qx : W7.cell? ⟨p + 1 + 1,0,none⟩ = some (.slice none 0 0):=kx.cell
 have qy : W7.cell? ⟨p + 1 + 1 + 1,0,none⟩ = some (.slice none 0 0):=ky.cell
 have fx : W7.frozen? ⟨p + 1 + 1,0,none⟩ = false:=kx.frozen
 have fy : W7.frozen? ⟨p + 1 + 1 + 1,0,none⟩ = false:=ky.frozen
 have q9':=zag (q:=⟨p + 1 + 1,0,none⟩) (.slice A2 n2 c2) (by show z3 ≠ p + 1 + 1; omega) q9
 have kx1:=kx.set_ (.slice A2 n2 c2)
 have ky1:=ky.far (p:=⟨p + 1 + 1,0,none⟩) (by show p + 1 + 1 + 1 ≠ p + 1 + 1; omega) (.slice A2 n2 c2)
 have qy':=ky1.cell
 have fy':=ky1.frozen
 have hx4:=zal hx2 kx (.slice A2 n2 c2)
 have hy4:=zal hy3 kx (.slice A2 n2 c2)
 have rx:=(kx1.far (p:=⟨p + 1 + 1 + 1,0,none⟩) (by show p + 1 + 1 ≠ p + 1 + 1 + 1; omega) (.slice A3 n3 c3)).cell
 have ry:=(ky1.set_ (.slice A3 n3 c3)).cell
 have HE : Hid (zim w X Y (.returned (.tuple #[.agg #[.slice A2 n2 c2],.agg #[.slice A3 n3 c3]])) ((W7.setCell ⟨p + 1 + 1,0,none⟩ (.slice A2 n2 c2)).setCell ⟨p + 1 + 1 + 1,0,none⟩ (.slice A3 n3 c3)).drew) :=
  ⟨_,_,_,_,_,_,rfl,zal hx4 ky1 _,zal hy4 ky1 _,(hB.setCell (p:=⟨p + 1 + 1,0,none⟩) (by show w.heap.size ≤ p + 1 + 1; omega) _).setCell (p:=⟨p + 1 + 1 + 1,0,none⟩) (by show w.heap.size ≤ p + 1 + 1 + 1; omega) _ |>.drew⟩
 clear k7 k9 kx ky hB hx2 hy3 kx1 ky1 hx4 hy4
 go_region
 all_goals
  go_wp2
  refine bodyPost_ret (v:=.tuple #[.agg #[.slice A2 n2 c2],.agg #[.slice A3 n3 c3]]) (by simp [results,Tryz.results128,go_sem,rx,ry]) rfl ?_
  exact HE.out
theorem Sz.of_words {w : World} {x K n c : Nat} {A : oA9} (h : zad w x A n c) (hn : n ≤ K) : Sz K x:=by
 have h1:=zbe (b:=18446744073709551616) (by decide) x
 rw [h.len] at h1
 exact Nat.lt_of_lt_of_le h1 (Nat.pow_le_pow_right (by decide) hn)
theorem zbI : GcdC where
 of x y A D n m c d w hA hD hn hm hT:=gcd_of x y A D n m c d w hA hD hn hm hT
 reduce x y A D n m c d w hA hD hn hm hT:=zkv x y A D n m c d w hA hD hn hm hT
theorem zad.to8 {w : World} {x y : Nat} {A : oA9} {n c : Nat} (e : x = y) (h : zad w x A n c) : zad w y A n c:=e ▸ h
theorem zaB.to8 {w : World} {x y : Int} {b : Bool} {A : oA9} {n c : Nat} (e : x = y) (h : zaB w x b A n c) : zaB w y b A n c:=e ▸ h
theorem zik (x : Nat) (A : oA9) (n c : Nat) (w : World) (h : zad w x A n c) (hn : n ≤ 1099511627776) :
  Calls Tryz.prog 110 #[.agg #[.slice A n c]] w fun e w' => ∃ (B : oA9) (m d : Nat),e = .returned (.slice B m d) ∧ zad w' x B m d ∧ Below w.heap.size w w':=by
 refine (zcu x A n c w h hn).mono ?_
 rintro e w' ⟨B,d,rfl,h1,h2,h3,h4⟩
 exact ⟨B,_,d,rfl,⟨h1,h2,h3.1⟩,h4⟩
theorem of_row (x : Nat) (A : oA9) (n c : Nat) (w : World) (h : zad w x A n c) (hn : n ≤ 1099511627776) :
  Calls Tryz.prog 108 #[.slice A n c] w fun e w' => ∃ (B : oA9) (m d : Nat),e = .returned (.agg #[.slice B m d]) ∧ zad w' x B m d ∧ Below w.heap.size w w':=by
 have k:=zcf A n c _ w h.1 (zce (by decide) x) h.2.1 h.2.2 hn
 rw [zcD (by decide)] at k
 refine k.mono ?_
 rintro e w' ⟨B,m,d,rfl,h1,h2,_⟩
 exact ⟨B,m,d,rfl,h1,h2⟩
theorem zlS {P : Program} {f : FuncId} {args : Array Value} {w : World} {z v : Int} (e : z = v) (h : Calls P f args w fun e w' => e = .returned (.tuple #[.int .u64 z,.bool true]) ∧ Below w.heap.size w w') : Calls P f args w fun e w' => e = .returned (.tuple #[.int .u64 v,.bool true]) ∧ Below w.heap.size w w':=by
 subst e; exact h
theorem zjc (x : Nat) (A : oA9) (n c : Nat) (w : World) (hA : zad w x A n c) (hn : n ≤ 1099511627776) : Calls Tryz.prog 119 #[.agg #[.slice A n c]] w (zbT w ((bitLen x : Nat) : Int)):=zgY x A n c w hA hn
theorem zfF {K K' : Nat} {z : Int} {k : Nat} (h : Sz K z.natAbs) (h' : Sz K' k) : Sz (K + K') (z * ((k : Nat) : Int)).natAbs:=by
 rw [Int.natAbs_mul,Int.natAbs_natCast]
 exact h.mul h'
theorem zat {K q x : Nat} (h : Sz K q) (e : q = (if x = 0 then 1 else x) ∧ x ≠ 1) : Sz K x:=h.of_le (by rw [e.1]; split <;> omega)
theorem zaI {w : World} {r : Rat} {b : Bool} {A : oA9} {n c : Nat} {E : oA9} {k f K : Nat} (h : zaj w r b A n c E k f) (q : zaP n k) (hK : 67108864 = K) : SzQ K r:=by
 obtain ⟨x,e,hx⟩:=h.2
 have h1 : Sz K r.num.natAbs:=Sz.of_words h.1.2 (by have:=q.1; omega)
 have h2 : Sz K x:=Sz.of_words hx (by have:=q.2; omega)
 refine ⟨h1,?_⟩
 rw [e.1]
 split
 ·exact zdR (by omega)
 ·exact h2
theorem zdU (w : World) : zad w 0 none 0 0:=by
 refine ⟨⟨by rw [show dg 18446744073709551616 0 = [] from by rw [dg]; rfl]; rfl,fun h => absurd h (by decide)⟩,Nat.le_refl _,by decide⟩
theorem zgh (w : World) : zaj w (0 : Rat) false none 0 0 none 0 0:=⟨⟨rfl,zdU w⟩,⟨0,⟨rfl,by decide⟩,zdU w⟩⟩
theorem zes {w : World} {z : Int} {b : Bool} {A : oA9} {n c : Nat} (h : zaB w z b A n c) : zaj w (z : Rat) b A n c none 0 0:=⟨by rw [Rat.num_intCast]; exact h,⟨0,⟨by rw [Rat.den_intCast]; rfl,by decide⟩,zdU w⟩⟩
theorem zmM {w : World} {r : Rat} {z : Int} {b : Bool} {A : oA9} {n c : Nat} {E : oA9} {k f : Nat} (hn : r.num = z) (hd : r.den = 1) (h : zaB w z b A n c) (q : zad w 0 E k f) : zaj w r b A n c E k f :=
 ⟨by rw [hn]; exact h,⟨0,⟨by rw [hd]; rfl,by decide⟩,q⟩⟩
theorem zhk {w : World} {r : Rat} {z : Int} {y : Nat} {b : Bool} {A : oA9} {n c : Nat} {E : oA9} {k f : Nat} (hn : r.num = z) (hd : r.den = y) (hy : y ≠ 1) (h : zaB w z b A n c) (q : zad w y E k f) : zaj w r b A n c E k f :=
 ⟨by rw [hn]; exact h,⟨y,⟨by rw [if_neg (fun h0 => r.den_nz (by rw [hd,h0]))]; exact hd,hy⟩,q⟩⟩
theorem zeZ {q x : Nat} (e : q = (if x = 0 then 1 else x) ∧ x ≠ 1) (h : q = 1) : x = 0:=by
 refine Decidable.byContradiction fun h0 => ?_
 rw [if_neg h0] at e
 omega
theorem zdk {q x : Nat} (e : q = (if x = 0 then 1 else x) ∧ x ≠ 1) (h : q ≠ 1) : x ≠ 0 ∧ x = q:=by
 have h0 : x ≠ 0:=fun h0 => h (by rw [e.1,if_pos h0])
 refine ⟨h0,?_⟩
 have:=e.1
 rw [if_neg h0] at this
 exact this.symm
theorem zmR (z : Int) : zaS (decide (z < 0)) z.natAbs = z:=by
 unfold zaS
 by_cases h : z < 0
 ·rw [decide_eq_true h,if_pos rfl]; omega
 ·rw [decide_eq_false h,if_neg (by decide)]; omega
theorem zms {w : World} {x : Nat} {A : oA9} {n c : Nat} (h : zad w x A n c) (hn : n ≤ 1) : x < 18446744073709551616:=zhb h.len hn
theorem len_one {w : World} {x : Nat} {A : oA9} {n c : Nat} (h : zad w x A n c) (hx : x = 1) : n ≤ 1:=by
 have h1 : Sz 1 x:=by rw [hx]; exact zdR (by decide)
 exact h1.words h
theorem zkP (p d : Int) (hd : d ≠ 0) : (Rat.divInt p d).num = zaS (decide (p < 0) != decide (d < 0)) (p.natAbs / Nat.gcd p.natAbs d.natAbs) ∧ (Rat.divInt p d).den = d.natAbs / Nat.gcd p.natAbs d.natAbs:=by
 refine ⟨?_,made_den p d hd⟩
 have h1:=made_num p d hd
 have h2:=zmt p d hd
 rw [← h1]
 generalize (Rat.divInt p d).num = z at *
 unfold zaS
 by_cases hp : p < 0
 ·by_cases hq : d < 0
  ·rw [decide_eq_true hp,decide_eq_true hq]; simp; omega
  ·rw [decide_eq_true hp,decide_eq_false hq]; simp; omega
 ·by_cases hq : d < 0
  ·rw [decide_eq_false hp,decide_eq_true hq]; simp
   by_cases h0 : p = 0
   ·subst h0; simp at h1; omega
   ·omega
  ·rw [decide_eq_false hp,decide_eq_false hq]; simp; omega
end Go.Proofs.YtedbgdlbgohiiaaGreatDoor
