/- What this claim leans on. -/
import Derived.Test.YtedbgdlbgohiiaaGreatDoorBVArgs
namespace Go.Proofs.YtedbgdlbgohiiaaGreatDoor
open Go Go.RowKit
set_option maxHeartbeats 16000000
set_option maxRecDepth 100000
set_option linter.unusedVariables false
set_option linter.unusedSimpArgs false
structure zdH (w : World) (A : oA9) (n : Nat) (zs : List Int) : Prop where
 len : zs.length = n
 ints : ∀ i,i < n → -9223372036854775808 ≤ zs.getD i 0 ∧ zs.getD i 0 ≤ 9223372036854775807
 num : ∀ i,i < n → ∃ ad : Addr,A = some ad ∧ w.cell? (ad.add i) = some (.int .i64 (zs.getD i 0))
def ofL (zs : List Int) : List Rat:=zs.map fun z : Int => (z : Rat)
theorem zfg {zs : List Int} {A : oA9} {n c : Nat} {w : World} (hT : zaj w) (ha : zdH w A n zs) (hn : n ≤ 1073741824:=by omega) :
  Calls Tryz.prog 51 #[.slice A n c] w (zee w n (ofL zs)):=by
 have hla:=ha.len
 have hlz : (ofL zs).length = n:=by unfold ofL; rw [List.length_map]; exact hla
 have HGI : ∀ i,i < n → (ofL zs)[i]? = some ((zs.getD i 0 : Int) : Rat):=fun i hi => by
  unfold ofL
  rw [List.getElem?_map,List.getD_eq_getElem?_getD,List.getElem?_eq_getElem (by omega)]; rfl
 have HI:=lh9 ha.ints
 unfold zee
 obtain ⟨ys,hys⟩ : ∃ ys,ofL zs = ys:=⟨_,rfl⟩
 rw [hys] at HGI hlz ⊢
 have HG:=lh9 HGI
 have HLZ:=lh9 hlz
 have HA:=lh9 ha.num
 have HT:=lh9 (fun w' (hb : Below w.heap.size w w') => hT.on hb)
 obtain ⟨Z,hZ⟩:=zdz n (by omega)
 have hmk:=fun W => (hZ W).1
 have HOWN:=lh9 (fun W => (hZ W).2)
 clear hT ha hla hlz hys HGI hZ
 have i0 : (0 : Int) ≤ (n : Int):=by omega
 go_enter Tryz.func51,Tryz.ntmps51
 go_wp2_with fail
 clear hmk
 have hrow:=HOWN.out w
 have hB : Below w.heap.size w (w.alloc (.cells Z 48)):=(Below.refl _ w).alloc (Nat.le_refl _) _
 obtain ⟨gp,hgp⟩ : ∃ g,w.heap.size = g:=⟨_,rfl⟩
 have hwg : w.heap.size ≤ gp:=by omega
 rw [hgp] at hrow ⊢
 rw [← zbn 0 ys n] at hrow
 generalize w.alloc (.cells Z 48) = W1 at *
 clear hgp HOWN
 go_loopg [11] (n + 1) (fun g ix wr => ∃ (k : Nat),k ≤ n ∧ n < g + k ∧ ix = .int .i64 k ∧ zcn wr gp n (zbJ 0 ys n k) ∧ Below w.heap.size w wr)
 case atStart => exact ⟨0,Nat.zero_le _,by omega,rfl,hrow,hB⟩
 case round =>
  clear hrow hB
  obtain ⟨k,hkn,hg,rfl,hrow,hB⟩:=hrel
  by_cases hlt : k < n
  ·obtain ⟨ad,rfl,hc⟩:=HA.out k hlt
   have hc0:=zab hB hc
   obtain ⟨z1,z2⟩:=HI.out k hlt
   have HGK:=lh9 (HG.out k hlt)
   obtain ⟨z,hz⟩ : ∃ z,zs.getD k 0 = z:=⟨_,rfl⟩
   rw [hz] at hc0 z1 z2 HGK
   have hd1 : decide ((k : Int) < (n : Int)) = true:=decide_eq_true (by omega)
   have i1 : (0 : Int) ≤ (k : Int):=by omega
   have i2 : (k : Int) < (n : Int):=by omega
   have HROW:=lh9 hrow
   have HB1:=lh9 hB
   clear hrow hB hc hz
   go_wp2_with fail
   (with_reducible refine (zfJ z _ (HT.out _ HB1.out) z1 z2).mono ?_)
   rintro e w3 ⟨b3,A3,n3,c3,E3,k3,f3,rfl,hw3,hb⟩
   clear hc0
   have hr3:=HROW.out.keep hb
   have hr4:=zbc.set_ zal hr3 hlt hw3
   rw [zbD 0 ys n k HLZ.out hlt _ HGK.out] at hr4
   obtain ⟨q0,q1,q2,sc0,sf0,sc1,sf1,sc2,sf2⟩:=hr3.ready hlt (.bool b3) (.slice A3 n3 c3)
   have HR4:=lh9 hr4
   have HB4:=lh9 (zci (k * 3) (k * 3 + 1) (k * 3 + 2) (.bool b3) (.slice A3 n3 c3) (.slice E3 k3 f3) hwg (zaa HB1.out hb))
   clear hr3 hr4 hb hw3 HROW HB1
   go_wp2
   go_roundg (n - k)
   case measure => omega
   case rel => exact ⟨k + 1,by omega,by omega,by go_num,HR4.out,HB4.out⟩
  ·have hk : k = n:=by omega
   subst hk
   have hd1 : decide ((k : Int) < (k : Int)) = false:=by simp
   have HR5:=lh9 (zbC 0 ys k HLZ.out ▸ hrow)
   have HB1:=lh9 hB
   clear hrow hB
   go_wp2
   go_ret
   exact ⟨gp,rfl,hwg,HR5.out,HB1.out⟩
theorem zkA {K : Nat} {xs : List Rat} {A : oA9} {n c : Nat} {w : World} (hT : zaj w) (ha : zaD w A n c xs) (hx : zav K xs) (hn : n ≤ 1073741824:=by omega) (hK : K + 2 ≤ 67108864:=by omega) :
  Calls Tryz.prog 69 #[.slice A n c] w (zee w n xs):=by
 have hla:=ha.len
 have HG : Hid (∀ i,i < n → xs[i]? = some (xs.getD i 0)):=fun i hi => by
  rw [List.getD_eq_getElem?_getD,List.getElem?_eq_getElem (by omega)]; rfl
 have HSX : Hid (∀ i,i < n → zav K [xs.getD i 0]):=fun i hi y hy => by
  rw [List.mem_singleton.1 hy]; exact hx.at_ (by omega)
 unfold zee
 have HLZ:=lh9 hla
 have HA:=lh9 ha
 have HT:=lh9 (fun w' (hb : Below w.heap.size w w') => hT.on hb)
 obtain ⟨Z,hZ⟩:=zdz n (by omega)
 have hmk:=fun W => (hZ W).1
 have HOWN:=lh9 (fun W => (hZ W).2)
 clear hT ha hx hla hZ
 have i0 : (0 : Int) ≤ (n : Int):=by omega
 go_enter Tryz.func69,Tryz.ntmps69
 go_wp2_with fail
 clear hmk
 have hrow:=HOWN.out w
 have hB : Below w.heap.size w (w.alloc (.cells Z 48)):=(Below.refl _ w).alloc (Nat.le_refl _) _
 obtain ⟨gp,hgp⟩ : ∃ g,w.heap.size = g:=⟨_,rfl⟩
 have hwg : w.heap.size ≤ gp:=by omega
 rw [hgp] at hrow ⊢
 rw [← zbn 0 xs n] at hrow
 generalize w.alloc (.cells Z 48) = W1 at *
 clear hgp HOWN
 go_loopg [11] (n + 1) (fun g ix wr => ∃ (k : Nat),k ≤ n ∧ n < g + k ∧ ix = .int .i64 k ∧ zcn wr gp n (zbJ 0 xs n k) ∧ Below w.heap.size w wr)
 case atStart => exact ⟨0,Nat.zero_le _,by omega,rfl,hrow,hB⟩
 case round =>
  clear hrow hB
  obtain ⟨k,hkn,hg,rfl,hrow,hB⟩:=hrel
  by_cases hlt : k < n
  ·obtain ⟨ad,b1,B1,m1,d1,E1,u1,v1,rfl,-,hc0,hc1,hc2,hx⟩:=HA.out.get hB hlt
   have hd1 : decide ((k : Int) < (n : Int)) = true:=decide_eq_true (by omega)
   have i1 : (0 : Int) ≤ (k : Int):=by omega
   have i2 : (k : Int) < (n : Int):=by omega
   obtain ⟨s1,t1,t2,t3⟩:=zbo wr 48 48 #[.bool b1,.slice B1 m1 d1,.slice E1 u1 v1] #[.bool b1,.slice B1 m1 d1,.slice E1 u1 v1]
   have t1':=(zaC wr 48 #[.bool b1,.slice B1 m1 d1,.slice E1 u1 v1]).2.1
   obtain ⟨p0,p1,p2⟩:=t1'.c3
   have HL1:=lh9 (zkB t2 (hx.below s1))
   have HROW:=lh9 (hrow.keep s1)
   have HB1:=lh9 (zaa hB s1)
   clear hx hrow hB s1 t1 t2 t3 t1'
   go_wp2_with fail
   (with_reducible refine (q_sum (HT.out _ HB1.out) HL1.out (HSX.out k hlt) (by decide) (by omega)).mono ?_)
   rintro e w3 ⟨b3,A3,n3,c3,E3,k3,f3,rfl,hw3,hb⟩
   clear hc0 hc1 hc2 p0 p1 p2
   have hw3 : zai w3 (xs.getD k 0) b3 A3 n3 c3 E3 k3 f3:=by
    have e : zcI [xs.getD k 0] = xs.getD k 0:=by rw [zdU,ziB,Rat.add_zero]
    rw [e] at hw3
    exact hw3
   have hr3:=HROW.out.keep hb
   have hr4:=zbc.set_ zal hr3 hlt hw3
   rw [zbD 0 xs n k HLZ.out hlt _ (HG.out k hlt)] at hr4
   obtain ⟨q0,q1,q2,sc0,sf0,sc1,sf1,sc2,sf2⟩:=hr3.ready hlt (.bool b3) (.slice A3 n3 c3)
   have HR4:=lh9 hr4
   have HB4:=lh9 (zci (k * 3) (k * 3 + 1) (k * 3 + 2) (.bool b3) (.slice A3 n3 c3) (.slice E3 k3 f3) hwg (zaa HB1.out hb))
   clear hr3 hr4 hb hw3 HROW HB1 HL1
   go_wp2
   go_roundg (n - k)
   case measure => omega
   case rel => exact ⟨k + 1,by omega,by omega,by go_num,HR4.out,HB4.out⟩
  ·have hk : k = n:=by omega
   subst hk
   have hd1 : decide ((k : Int) < (k : Int)) = false:=by simp
   have HR5:=lh9 (zbC 0 xs k HLZ.out ▸ hrow)
   have HB1:=lh9 hB
   clear hrow hB
   go_wp2
   go_ret
   exact ⟨gp,rfl,hwg,HR5.out,HB1.out⟩
def zgg (k : Nat) (f : Nat → Rat) : Rat:=zcI ((List.range k).map f)
theorem zlQ (rs : List Rat) (r : Rat) : zcI (rs ++ [r]) = zcI rs + r:=by
 unfold zcI
 rw [List.foldl_append]
 rfl
theorem ziC (k : Nat) (f : Nat → Rat) : zgg (k + 1) f = zgg k f + f k:=by
 unfold zgg
 rw [List.range_succ,List.map_append,List.map_cons,List.map_nil,zlQ]
theorem zhF {k : Nat} {f g : Nat → Rat} (h : ∀ i,i < k → f i = g i) : zgg k f = zgg k g:=by
 unfold zgg
 congr 1
 exact List.map_congr_left fun i hi => h i (List.mem_range.1 hi)
theorem znJ {k : Nat} {f : Nat → Rat} (h : ∀ i,i < k → f i = 0) : zgg k f = 0:=by
 induction k with
 | zero => rfl
 | succ k ih => rw [ziC,ih (fun i hi => h i (by omega)),h k (by omega),Rat.add_zero]
theorem znK {k c : Nat} (hc : c < k) (f : Nat → Rat) : zgg k (fun i => f i * (if i = c then 1 else 0)) = f c:=by
 induction k with
 | zero => omega
 | succ k ih =>
   rw [ziC]
   by_cases h : c = k
   ·subst h
    rw [if_pos rfl,Rat.mul_one,znJ fun i hi => by rw [if_neg (by omega),Rat.mul_zero],Rat.zero_add]
   ·rw [if_neg (by omega),Rat.mul_zero,Rat.add_zero,ih (by omega)]
theorem zmO : ∀ {k : Nat} {xs ys : List Rat},xs.length = k → ys.length = k → zfv xs ys = zgg k fun i => xs.getD i 0 * ys.getD i 0
 | k,xs,ys,hx,hy => by
   unfold zfv zgg
   congr 1
   apply List.ext_getElem
   ·simp [hx,hy]
   ·intro i h1 h2
    have h3 : i < k:=by simpa using h2
    rw [List.getElem_zipWith,List.getElem_map,List.getElem_range,List.getD_eq_getElem?_getD,List.getD_eq_getElem?_getD,List.getElem?_eq_getElem (by omega),List.getElem?_eq_getElem (by omega)]
    rfl
def zbw (n m : Nat) (f : Nat → Nat → Rat) : List (List Rat):=(List.range n).map fun r => (List.range m).map (f r)
def atM (M : List (List Rat)) (r c : Nat) : Rat:=(M.getD r []).getD c 0
structure zbP (M : List (List Rat)) (n m : Nat) : Prop where
 rows : M.length = n
 cols : ∀ L ∈ M,L.length = m
theorem zbP.row {M : List (List Rat)} {n m : Nat} (h : zbP M n m) {r : Nat} (hr : r < n) : (M.getD r []).length = m:=by
 have hl:=h.rows
 rw [List.getD_eq_getElem?_getD,List.getElem?_eq_getElem (by omega)]
 exact h.cols _ (List.getElem_mem _)
theorem zcU (n m : Nat) (f : Nat → Nat → Rat) : zbP (zbw n m f) n m:=⟨by simp [zbw],fun L hL => by
 obtain ⟨r,_,rfl⟩:=List.mem_map.1 hL
 simp⟩
theorem tabN_row {n m : Nat} {f : Nat → Nat → Rat} {r : Nat} (hr : r < n) : (zbw n m f).getD r [] = (List.range m).map (f r):=by
 unfold zbw
 rw [List.getD_eq_getElem?_getD,List.getElem?_map,List.getElem?_range hr]
 rfl
theorem zht {m c : Nat} {f : Nat → Rat} (hc : c < m) : ((List.range m).map f).getD c 0 = f c:=by
 rw [List.getD_eq_getElem?_getD,List.getElem?_map,List.getElem?_range hc]
 rfl
theorem zjp {n m : Nat} {f : Nat → Nat → Rat} {r c : Nat} (hr : r < n) (hc : c < m) : atM (zbw n m f) r c = f r c:=by
 unfold atM
 rw [tabN_row hr,zht hc]
theorem zhG {n m : Nat} {f g : Nat → Nat → Rat} (h : ∀ r c,r < n → c < m → f r c = g r c) : zbw n m f = zbw n m g:=by
 unfold zbw
 exact List.map_congr_left fun r hr => List.map_congr_left fun c hc => h r c (List.mem_range.1 hr) (List.mem_range.1 hc)
theorem zlD {m : Nat} {xs : List Rat} (h : xs.length = m) : (List.range m).map (fun c => xs.getD c 0) = xs:=by
 subst h
 apply List.ext_getElem
 ·simp
 ·intro i h1 h2
  rw [List.getElem_map,List.getElem_range,List.getD_eq_getElem?_getD,List.getElem?_eq_getElem h2]
  rfl
theorem zbP.eq {M : List (List Rat)} {n m : Nat} (h : zbP M n m) : zbw n m (atM M) = M:=by
 have hl:=h.rows
 unfold zbw
 apply List.ext_getElem
 ·simp [hl]
 ·intro i h1 h2
  rw [List.getElem_map,List.getElem_range]
  have e : M.getD i [] = M[i]:=by rw [List.getD_eq_getElem?_getD,List.getElem?_eq_getElem h2]; rfl
  show (List.range m).map (fun c => (M.getD i []).getD c 0) = M[i]
  rw [e]
  exact zlD (h.cols _ (List.getElem_mem h2))
theorem zbP.ext {A B : List (List Rat)} {n m : Nat} (hA : zbP A n m) (hB : zbP B n m) (h : ∀ r c,r < n → c < m → atM A r c = atM B r c) : A = B:=by
 rw [← hA.eq,← hB.eq]
 exact zhG h
def zfr (n : Nat) (M : List (List Rat)) (c : Nat) : List Rat:=(List.range n).map fun r => atM M r c
theorem zfs (n : Nat) (M : List (List Rat)) (c : Nat) : (zfr n M c).length = n:=by simp [zfr]
theorem colM_at {n : Nat} {M : List (List Rat)} {c r : Nat} (hr : r < n) : (zfr n M c).getD r 0 = atM M r c:=zht hr
def zbN (n m : Nat) (M : List (List Rat)) : List (List Rat):=zbw m n fun r c => atM M c r
def zgd (n k m : Nat) (A B : List (List Rat)) : List (List Rat):=zbw n m fun r c => zfv (A.getD r []) (zfr k B c)
theorem ziq (n k m : Nat) (A B : List (List Rat)) : zbP (zgd n k m A B) n m:=zcU _ _ _
theorem mulM_at {n k m : Nat} {A B : List (List Rat)} (hA : zbP A n k) {r c : Nat} (hr : r < n) (hc : c < m) : atM (zgd n k m A B) r c = zgg k fun i => atM A r i * atM B i c:=by
 unfold zgd
 rw [zjp hr hc,zmO (hA.row hr) (zfs k B c)]
 exact zhF fun i hi => by rw [colM_at hi]; rfl
def oneM (n : Nat) : List (List Rat):=zbw n n fun r c => if r = c then 1 else 0
theorem mul_oneM {n k : Nat} {A : List (List Rat)} (hA : zbP A n k) : zgd n k k A (oneM k) = A:=by
 refine zbP.ext (ziq _ _ _ _ _) hA fun r c hr hc => ?_
 rw [mulM_at hA hr hc]
 have h1 : zgg k (fun i => atM A r i * atM (oneM k) i c) = zgg k (fun i => atM A r i * (if i = c then 1 else 0)):=zhF fun i hi => by unfold oneM; rw [zjp hi hc]
 rw [h1]
 exact znK hc _
theorem zeF (n m : Nat) (M : List (List Rat)) : zbP (zbN n m M) m n:=zcU _ _ _
def byM (n m : Nat) (v : List Rat) (M : List (List Rat)) : List Rat:=(List.range m).map fun c => zfv v (zfr n M c)
def zbx (M : List (List Rat)) (v : List Rat) : List Rat:=M.map fun L => zfv L v
theorem zie : ∀ (xs ys : List Rat),zfv xs ys = zfv ys xs
 | [],[] => rfl
 | [],_ :: _ => rfl
 | _ :: _,[] => rfl
 | x :: xs,y :: ys => by rw [zif,zif,zie xs ys,Rat.mul_comm]
theorem zlU {n m : Nat} {M : List (List Rat)} {v : List Rat} : zbx (zbN n m M) v = byM n m v M:=by
 unfold zbx byM zbN zbw
 rw [List.map_map]
 exact List.map_congr_left fun c _ => zie _ _
theorem dims_nil (m : Nat) : zbP [] 0 m:=⟨rfl,fun L hL => by cases hL⟩
theorem zbP.snoc {M : List (List Rat)} {n m : Nat} {v : List Rat} (h : zbP M n m) (hv : v.length = m) : zbP (M ++ [v]) (n + 1) m:=⟨by rw [List.length_append,h.rows]; rfl,fun L hL => by
 rcases List.mem_append.1 hL with hL | hL
 ·exact h.cols L hL
 ·rw [List.mem_singleton.1 hL]; exact hv⟩
def noRow (M : List (List Rat)) (r : Nat) : List (List Rat):=M.eraseIdx r
theorem zlt {M : List (List Rat)} {n : Nat} {v : List Rat} (h : M.length = n) : noRow (M ++ [v]) n = M:=by
 subst h
 unfold noRow
 rw [List.eraseIdx_append_of_length_le (Nat.le_refl _),Nat.sub_self]
 simp
def zcr (M : List (List Rat)) : Nat:=M.foldl (fun b L => max b (zcs L)) 0
theorem zeT (M : List (List Rat)) (k : Nat) (h : k < M.length) : zcr (M.take (k + 1)) = max (zcr (M.take k)) (zcs (M.getD k [])):=by
 unfold zcr
 rw [List.take_succ_eq_append_getElem h,List.foldl_append,List.getD_eq_getElem?_getD,List.getElem?_eq_getElem h]
 rfl
end Go.Proofs.YtedbgdlbgohiiaaGreatDoor
