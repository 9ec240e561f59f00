/- What this claim leans on. -/
import Derived.Test.YtedbgdlbgohiiaaGreatDoorTVMath
namespace Go.Proofs.YtedbgdlbgohiiaaGreatDoor
open Go Go.RowKit
set_option maxHeartbeats 16000000
set_option maxRecDepth 100000
set_option linter.unusedVariables false
theorem zcp (x : Nat) (A : oA9) (n c : Nat) (w : World) (hA : zad w x A n c) (hn : n ≤ 1) :
  Calls Tryz.prog 152 #[.agg #[.slice A n c]] w fun e w' => e = .returned (.tuple #[.int .u64 (wd x 0 : Nat),.bool true]) ∧ Below w.heap.size w w':=by
 have WX:=(fun w' (h : Below w.heap.size w w') => zcH x A n c 0 w' (hA.below h))
 obtain ⟨a,ha⟩ : ∃ a,wd x 0 = a:=⟨_,rfl⟩
 rw [ha] at WX ⊢
 have HWX:=lh9 WX
 have h1 : decide ((1 : Int) < (n : Int)) = false:=by simp; omega
 have h2 : decide ((n : Int) > 1) = false:=by simp; omega
 have h3 : ¬ 1 < n:=by omega
 clear WX ha hA
 go_enter Tryz.func152,Tryz.ntmps152
 go_wp2_with fail
 obtain ⟨b1,b2,b5⟩:=zaz w 44 #[.slice A n c]
 refine (HWX.out _ b1).mono ?_
 rintro e w1 ⟨rfl,hb⟩
 have hB:=zaa b1 hb
 clear hb b1 b2 b5
 go_wp2
 go_ret2
 exact ⟨rfl,hB⟩
theorem zca (A : oA9) (n c : Nat) (w : World) (hn : 1 < n) :
  Calls Tryz.prog 152 #[.agg #[.slice A n c]] w fun e w' => e = .returned (.tuple #[.int .u64 0,.bool false]) ∧ Below w.heap.size w w':=by
 go_enter Tryz.func152,Tryz.ntmps152
 go_wp2
 go_ret2
 exact ⟨rfl,(Below.refl _ w).alloc (Nat.le_refl _) _⟩
def TW (x t : Nat) : Prop:=(x = 0 ∧ t = 0) ∨ ∃ m,x = 2 ^ t * (2 * m + 1)
def zbf (x : Nat) : Nat:=if x = 0 then 0 else Lib.ctzFrom x x
theorem ziU {x t : Nat} {m : Nat} (h : x = 2 ^ t * (2 * m + 1)) : x / 2 ^ t % 2 = 1:=by
 rw [h,Nat.mul_div_cancel_left _ (Nat.two_pow_pos t)]; omega
theorem tw_low {x t j : Nat} {m : Nat} (h : x = 2 ^ t * (2 * m + 1)) (hj : j < t) : x / 2 ^ j % 2 = 0:=by
 obtain ⟨s,rfl⟩ : ∃ s,t = j + (s + 1):=⟨t - j - 1,by omega⟩
 rw [h,Nat.pow_add,Nat.mul_assoc,Nat.mul_div_cancel_left _ (Nat.two_pow_pos j),Nat.pow_succ,Nat.mul_comm (2 ^ s) 2,Nat.mul_assoc]
 exact Nat.mul_mod_right _ _
theorem tw_pos {x t : Nat} {m : Nat} (h : x = 2 ^ t * (2 * m + 1)) : x ≠ 0:=by
 have:=Nat.two_pow_pos t
 rw [h]
 exact Nat.ne_of_gt (Nat.mul_pos this (by omega))
theorem tw_N (x : Nat) : TW x (zbf x):=by
 unfold TW zbf
 by_cases h : x = 0
 ·exact .inl ⟨h,by rw [if_pos h]⟩
 ·rw [if_neg h]
  obtain ⟨m,hm,_⟩:=Lib.ctzFrom_spec x x (by omega) Nat.lt_two_pow_self
  exact .inr ⟨m,hm⟩
theorem tw_find {x t : Nat} (hlow : ∀ j,j < t → x / 2 ^ j % 2 = 0) (hx : x = 0 → t = 0) (h1 : x ≠ 0 → x / 2 ^ t % 2 = 1) : t = zbf x:=by
 rcases tw_N x with ⟨e,h⟩ | ⟨m,h⟩
 ·rw [hx e,h]
 ·have h0:=tw_pos h
  rcases Nat.lt_trichotomy t (zbf x) with hl | hl | hl
  ·have:=tw_low h hl
   rw [h1 h0] at this; omega
  ·exact hl
  ·have:=ziU h
   rw [hlow _ hl] at this; omega
theorem tw_of {x t m : Nat} (h : x = 2 ^ t * (2 * m + 1)) : t = zbf x :=
 tw_find (fun j hj => tw_low h hj) (fun e => absurd e (tw_pos h)) (fun _ => ziU h)
theorem zlR {x k : Nat} (h0 : x % 18446744073709551616 ^ k = 0) (hw : wd x k ≠ 0) : 64 * k + Lib.ctz 64 (wd x k) = zbf x:=by
 have hlt:=zbA x k
 obtain ⟨m,hm,hc⟩:=Lib.ctzFrom_spec 64 (wd x k) (by omega) (by simpa using hlt)
 have ec : Lib.ctz 64 (wd x k) = Lib.ctzFrom 64 (wd x k):=by unfold Lib.ctz; rw [if_neg hw]
 rw [ec]
 generalize Lib.ctzFrom 64 (wd x k) = c at *
 obtain ⟨s,hs⟩ : ∃ s,64 = c + (s + 1):=⟨63 - c,by omega⟩
 obtain ⟨q,hq⟩ : ∃ q,x / 18446744073709551616 ^ k / 18446744073709551616 = q:=⟨_,rfl⟩
 have e1 : x / 18446744073709551616 ^ k = 18446744073709551616 * q + wd x k:=by rw [← hq]; exact (Nat.div_add_mod _ _).symm
 have e2 : x = 18446744073709551616 ^ k * (x / 18446744073709551616 ^ k):=by
  have:=Nat.div_add_mod x (18446744073709551616 ^ k)
  rw [h0] at this; omega
 have e3 : (18446744073709551616 : Nat) = 2 ^ c * (2 * 2 ^ s):=by
  rw [show (18446744073709551616 : Nat) = 2 ^ 64 from rfl,hs,Nat.pow_add,Nat.pow_succ,Nat.mul_comm (2 ^ s) 2]
 refine tw_of (m:=2 ^ s * q + m) ?_
 have e4 : (18446744073709551616 : Nat) ^ k = 2 ^ (64 * k):=by rw [show (18446744073709551616 : Nat) = 2 ^ 64 from rfl,← Nat.pow_mul]
 have e5 : 18446744073709551616 * q + wd x k = 2 ^ c * (2 * (2 ^ s * q + m) + 1):=by
  rw [hm]
  conv => lhs; rw [e3]
  rw [Nat.mul_assoc,← Nat.mul_add,Nat.mul_add 2,Nat.mul_assoc,Nat.add_assoc]
 rw [e2,e1,e5,e4,← Nat.mul_assoc,← Nat.pow_add]
theorem zgZ (x : Nat) (A : oA9) (n c : Nat) (w : World) (hA : zad w x A n c) (hn : n ≤ 1099511627776) (hT : zak w) :
  Calls Tryz.prog 169 #[.agg #[.slice A n c]] w fun e w' => e = .returned (.int .i64 (zbf x : Nat)) ∧ Below w.heap.size w w':=by
 have hln:=lh9 hA.len
 have hr:=hA.1
 have HT:=lh9 (fun o => hT.on ((Below.refl _ w).alloc (Nat.le_refl _) o))
 have hcl : ∀ o,Hid (zaq (w.alloc o) w.heap.size 1 A n (zau .u64 (dg 18446744073709551616 x))):=fun o => hr.alloc (Nat.le_refl _) o
 have HC:=lh9 hcl
 clear hA hT hcl hr
 go_enter Tryz.func169,Tryz.ntmps169
 go_wp2_with fail
 go_loop [3,4,8] (fun _ _ ix => ∃ k : Nat,k ≤ n ∧ ix = .int .i64 k ∧ Hid (x % 18446744073709551616 ^ k = 0)) (fun _ _ ix => n - (intOf ix).toNat)
 case atStart => exact ⟨0,Nat.zero_le _,rfl,by show _ = _; simp [Nat.mod_one]⟩
 case round =>
  obtain ⟨k,hk,rfl,H⟩:=hrel
  by_cases hlt : k < n
  ·obtain ⟨ad,rfl,hadb,hc0⟩:=zcy (HC.out (.cells #[.slice A n c] 44)).out hlt
   rw [zdp] at hc0
   by_cases hz : wd x k = 0
   ·have HN : Hid (x % 18446744073709551616 ^ (k + 1) = 0):=by
     show _ = _
     rw [zaM 18446744073709551616 x k,H.out,Nat.zero_add]
     unfold wd at hz
     rw [hz,Nat.mul_zero]
    rw [hz] at hc0
    clear hz
    go_wp2
    go_round
    case rel => exact ⟨k + 1,by omega,by go_num,HN⟩
    case measure => simp [intOf]; omega
   ·have HV:=lh9 (zlR H.out hz)
    have hwl:=zbA x k
    have WT:=(fun w' (h : zak w') => zlm ((wd x k : Nat) : Int) ⟨by omega,by omega⟩ w' h)
    have hbd:=ctz_le (wd x k) (by simpa using hwl)
    have et : zfa ((wd x k : Nat) : Int) = ((Lib.ctz 64 (wd x k) : Nat) : Int):=by unfold zfa; simp
    rw [et] at WT
    obtain ⟨t,ht⟩ : ∃ t,Lib.ctz 64 (wd x k) = t:=⟨_,rfl⟩
    rw [ht] at WT HV hbd
    obtain ⟨a,ha⟩ : ∃ a,wd x k = a:=⟨_,rfl⟩
    rw [ha] at hc0 WT hz
    have hWT:=lh9 WT
    have hz' : ((a : Int) == 0) = false:=beq_eq_false_iff_ne.2 (by omega)
    have hz2 : ((a : Int) != 0) = true:=by simp; omega
    clear WT ht ha et hz hwl
    go_wp2_with fail
    refine (hWT.out _ (HT.out _)).mono ?_
    rintro e w' ⟨rfl,rfl⟩
    go_wp2
    go_ret
    refine ⟨ret_i64 ?_,(Below.refl _ w).alloc (Nat.le_refl _) _⟩
    have:=HV.out
    omega
  ·have hkn : k = n:=by omega
   subst hkn
   have HX : Hid (zbf x = 0):=by
    show _ = _
    have h1:=zbe (b:=18446744073709551616) (by decide) x
    rw [hln.out] at h1
    have h2:=H.out
    rw [Nat.mod_eq_of_lt h1] at h2
    rw [h2]; rfl
   go_wp2
   go_ret
   exact ⟨by rw [HX.out]; rfl,(Below.refl _ w).alloc (Nat.le_refl _) _⟩
def zcm (k : Nat) (f : Nat → Rat) : Rat:=zcJ ((List.range k).map f)
theorem zlg (rs : List Rat) (r : Rat) : zcJ (rs ++ [r]) = zcJ rs + r:=by
 unfold zcJ
 rw [List.foldl_append]
 rfl
theorem zbo (k : Nat) (f : Nat → Rat) : zcm (k + 1) f = zcm k f + f k:=by
 unfold zcm
 rw [List.range_succ,List.map_append,List.map_cons,List.map_nil,zlg]
theorem zcg {k : Nat} {f g : Nat → Rat} (h : ∀ i,i < k → f i = g i) : zcm k f = zcm k g:=by
 unfold zcm
 congr 1
 exact List.map_congr_left fun i hi => h i (List.mem_range.1 hi)
theorem zie {k : Nat} {f : Nat → Rat} (h : ∀ i,i < k → f i = 0) : zcm k f = 0:=by
 induction k with
 | zero => rfl
 | succ k ih => rw [zbo,ih (fun i hi => h i (by omega)),h k (by omega),Rat.add_zero]
theorem zkf (a b c d : Rat) : (a + b) + (c + d) = (a + c) + (b + d):=by
 rw [Rat.add_assoc,Rat.add_assoc,← Rat.add_assoc b c d,← Rat.add_assoc c b d,Rat.add_comm b c]
theorem sumN_add (k : Nat) (f g : Nat → Rat) : zcm k (fun i => f i + g i) = zcm k f + zcm k g:=by
 induction k with
 | zero => exact (Rat.add_zero 0).symm
 | succ k ih => rw [zbo,zbo,zbo,ih,zkf]
theorem zmU (k : Nat) (a : Rat) (f : Nat → Rat) : a * zcm k f = zcm k (fun i => a * f i):=by
 induction k with
 | zero => exact Rat.mul_zero a
 | succ k ih => rw [zbo,zbo,Rat.mul_add,ih]
theorem zmV (k : Nat) (a : Rat) (f : Nat → Rat) : zcm k f * a = zcm k (fun i => f i * a):=by
 induction k with
 | zero => exact Rat.zero_mul a
 | succ k ih => rw [zbo,zbo,Rat.add_mul,ih]
theorem zmX (n k : Nat) (f : Nat → Nat → Rat) : zcm n (fun i => zcm k (fun j => f i j)) = zcm k (fun j => zcm n (fun i => f i j)):=by
 induction n with
 | zero => exact (zie fun i _ => rfl).symm
 | succ n ih =>
   rw [zbo,ih,← sumN_add]
   exact zcg fun j _ => (zbo n fun i => f i j).symm
theorem zmW {k c : Nat} (hc : c < k) (f : Nat → Rat) : zcm k (fun i => f i * (if i = c then 1 else 0)) = f c:=by
 induction k with
 | zero => omega
 | succ k ih =>
   rw [zbo]
   by_cases h : c = k
   ·subst h
    rw [if_pos rfl,Rat.mul_one,zie fun i hi => by rw [if_neg (by omega),Rat.mul_zero],Rat.zero_add]
   ·rw [if_neg (by omega),Rat.mul_zero,Rat.add_zero,ih (by omega)]
theorem zmd : ∀ {k : Nat} {xs ys : List Rat},xs.length = k → ys.length = k → zfp xs ys = zcm k fun i => xs.getD i 0 * ys.getD i 0
 | k,xs,ys,hx,hy => by
   unfold zfp zcm
   congr 1
   apply List.ext_getElem
   ·simp [hx,hy]
   ·intro i h1 h2
    have h3 : i < k:=by simpa using h2
    rw [List.getElem_zipWith,List.getElem_map,List.getElem_range,List.getD_eq_getElem?_getD,List.getD_eq_getElem?_getD,List.getElem?_eq_getElem (by omega),List.getElem?_eq_getElem (by omega)]
    rfl
def zcQ (n m : Nat) (f : Nat → Nat → Rat) : List (List Rat):=(List.range n).map fun r => (List.range m).map (f r)
def atM (M : List (List Rat)) (r c : Nat) : Rat:=(M.getD r []).getD c 0
structure zbU (M : List (List Rat)) (n m : Nat) : Prop where
 rows : M.length = n
 cols : ∀ L ∈ M,L.length = m
theorem zbU.row {M : List (List Rat)} {n m : Nat} (h : zbU M n m) {r : Nat} (hr : r < n) : (M.getD r []).length = m:=by
 have hl:=h.rows
 rw [List.getD_eq_getElem?_getD,List.getElem?_eq_getElem (by omega)]
 exact h.cols _ (List.getElem_mem _)
theorem zcx (n m : Nat) (f : Nat → Nat → Rat) : zbU (zcQ n m f) n m:=⟨by simp [zcQ],fun L hL => by
 obtain ⟨r,_,rfl⟩:=List.mem_map.1 hL
 simp⟩
theorem tabN_row {n m : Nat} {f : Nat → Nat → Rat} {r : Nat} (hr : r < n) : (zcQ n m f).getD r [] = (List.range m).map (f r):=by
 unfold zcQ
 rw [List.getD_eq_getElem?_getD,List.getElem?_map,List.getElem?_range hr]
 rfl
theorem zhf {m c : Nat} {f : Nat → Rat} (hc : c < m) : ((List.range m).map f).getD c 0 = f c:=by
 rw [List.getD_eq_getElem?_getD,List.getElem?_map,List.getElem?_range hc]
 rfl
theorem zfG {n m : Nat} {f : Nat → Nat → Rat} {r c : Nat} (hr : r < n) (hc : c < m) : atM (zcQ n m f) r c = f r c:=by
 unfold atM
 rw [tabN_row hr,zhf hc]
theorem zhq {n m : Nat} {f g : Nat → Nat → Rat} (h : ∀ r c,r < n → c < m → f r c = g r c) : zcQ n m f = zcQ n m g:=by
 unfold zcQ
 exact List.map_congr_left fun r hr => List.map_congr_left fun c hc => h r c (List.mem_range.1 hr) (List.mem_range.1 hc)
theorem zkU {m : Nat} {xs : List Rat} (h : xs.length = m) : (List.range m).map (fun c => xs.getD c 0) = xs:=by
 subst h
 apply List.ext_getElem
 ·simp
 ·intro i h1 h2
  rw [List.getElem_map,List.getElem_range,List.getD_eq_getElem?_getD,List.getElem?_eq_getElem h2]
  rfl
theorem zbU.eq {M : List (List Rat)} {n m : Nat} (h : zbU M n m) : zcQ n m (atM M) = M:=by
 have hl:=h.rows
 unfold zcQ
 apply List.ext_getElem
 ·simp [hl]
 ·intro i h1 h2
  rw [List.getElem_map,List.getElem_range]
  have e : M.getD i [] = M[i]:=by rw [List.getD_eq_getElem?_getD,List.getElem?_eq_getElem h2]; rfl
  show (List.range m).map (fun c => (M.getD i []).getD c 0) = M[i]
  rw [e]
  exact zkU (h.cols _ (List.getElem_mem h2))
theorem zbU.ext {A B : List (List Rat)} {n m : Nat} (hA : zbU A n m) (hB : zbU B n m) (h : ∀ r c,r < n → c < m → atM A r c = atM B r c) : A = B:=by
 rw [← hA.eq,← hB.eq]
 exact zhq h
def zfl (n : Nat) (M : List (List Rat)) (c : Nat) : List Rat:=(List.range n).map fun r => atM M r c
theorem zfm (n : Nat) (M : List (List Rat)) (c : Nat) : (zfl n M c).length = n:=by simp [zfl]
theorem colM_at {n : Nat} {M : List (List Rat)} {c r : Nat} (hr : r < n) : (zfl n M c).getD r 0 = atM M r c:=zhf hr
def zaN (n m : Nat) (M : List (List Rat)) : List (List Rat):=zcQ m n fun r c => atM M c r
theorem znd {M : List (List Rat)} {n m : Nat} (h : zbU M n m) : zaN m n (zaN n m M) = M:=by
 rw [← h.eq]
 exact zhq fun r c hr hc => by
  unfold zaN
  rw [zfG hc hr]
  rw [zfG hr hc]
def zbX (n k m : Nat) (A B : List (List Rat)) : List (List Rat):=zcQ n m fun r c => zfp (A.getD r []) (zfl k B c)
theorem zbQ (n k m : Nat) (A B : List (List Rat)) : zbU (zbX n k m A B) n m:=zcx _ _ _
theorem zdP {n k m : Nat} {A B : List (List Rat)} (hA : zbU A n k) {r c : Nat} (hr : r < n) (hc : c < m) : atM (zbX n k m A B) r c = zcm k fun i => atM A r i * atM B i c:=by
 unfold zbX
 rw [zfG hr hc,zmd (hA.row hr) (zfm k B c)]
 exact zcg fun i hi => by rw [colM_at hi]; rfl
theorem zkI {n k l m : Nat} {A B C : List (List Rat)} (hA : zbU A n k) (hB : zbU B k l) : zbX n l m (zbX n k l A B) C = zbX n k m A (zbX k l m B C):=by
 refine zbU.ext (zbQ _ _ _ _ _) (zbQ _ _ _ _ _) fun r c hr hc => ?_
 rw [zdP (zbQ _ _ _ _ _) hr hc,zdP hA hr hc]
 have h1 : zcm l (fun j => atM (zbX n k l A B) r j * atM C j c) = zcm l (fun j => zcm k fun i => atM A r i * atM B i j * atM C j c):=zcg fun j hj => by rw [zdP hA hr hj,zmV]
 have h2 : zcm k (fun i => atM A r i * atM (zbX k l m B C) i c) = zcm k (fun i => zcm l fun j => atM A r i * atM B i j * atM C j c):=zcg fun i hi => by
  rw [zdP hB hi hc,zmU]
  exact zcg fun j _ => (Rat.mul_assoc _ _ _).symm
 rw [h1,h2]
 exact zmX l k _
def zha (n : Nat) : List (List Rat):=zcQ n n fun r c => if r = c then 1 else 0
theorem zjy {n k : Nat} {A : List (List Rat)} (hA : zbU A n k) : zbX n k k A (zha k) = A:=by
 refine zbU.ext (zbQ _ _ _ _ _) hA fun r c hr hc => ?_
 rw [zdP hA hr hc]
 have h1 : zcm k (fun i => atM A r i * atM (zha k) i c) = zcm k (fun i => atM A r i * (if i = c then 1 else 0)):=zcg fun i hi => by unfold zha; rw [zfG hi hc]
 rw [h1]
 exact zmW hc _
theorem ziT {n m : Nat} {M : List (List Rat)} {r c : Nat} (hr : r < m) (hc : c < n) : atM (zaN n m M) r c = atM M c r:=zfG hr hc
theorem zcj (n m : Nat) (M : List (List Rat)) : zbU (zaN n m M) m n:=zcx _ _ _
theorem turn_mul {n k m : Nat} {A B : List (List Rat)} (hA : zbU A n k) : zaN n m (zbX n k m A B) = zbX m k n (zaN k m B) (zaN n k A):=by
 refine zbU.ext (zcx _ _ _) (zbQ _ _ _ _ _) fun r c hr hc => ?_
 rw [ziT hr hc,zdP hA hc hr,zdP (zcj k m B) hr hc]
 exact zcg fun i hi => by rw [ziT hr hi,ziT hi hc,Rat.mul_comm]
def byM (n m : Nat) (v : List Rat) (M : List (List Rat)) : List Rat:=(List.range m).map fun c => zfp v (zfl n M c)
def zbp (M : List (List Rat)) (v : List Rat) : List Rat:=M.map fun L => zfp L v
theorem zhM : ∀ (xs ys : List Rat),zfp xs ys = zfp ys xs
 | [],[] => rfl
 | [],_ :: _ => rfl
 | _ :: _,[] => rfl
 | x :: xs,y :: ys => by rw [zhN,zhN,zhM xs ys,Rat.mul_comm]
theorem zlk {n m : Nat} {M : List (List Rat)} {v : List Rat} : zbp (zaN n m M) v = byM n m v M:=by
 unfold zbp byM zaN zcQ
 rw [List.map_map]
 exact List.map_congr_left fun c _ => zhM _ _
theorem dims_nil (m : Nat) : zbU [] 0 m:=⟨rfl,fun L hL => by cases hL⟩
end Go.Proofs.YtedbgdlbgohiiaaGreatDoor
