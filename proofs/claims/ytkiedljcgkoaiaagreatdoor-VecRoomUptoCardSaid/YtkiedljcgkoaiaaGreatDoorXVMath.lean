/- What this claim leans on. -/
import Derived.Test.YtkiedljcgkoaiaaGreatDoorXBunZ
namespace Go.Proofs.YtkiedljcgkoaiaaGreatDoor
open Go Go.RowKit
set_option maxHeartbeats 16000000
set_option linter.unusedVariables false
def qOf (p q : Int) : Rat:=Rat.divInt p (if q = 0 then 1 else q)
theorem qOf_zero (p : Int) : qOf p 0 = (p : Rat):=by
 unfold qOf
 rw [if_pos rfl]
 exact Rat.ext (by rw [Rat.num_divInt,Rat.num_intCast]; simp) (by rw [Rat.den_divInt,Rat.den_intCast]; simp)
theorem qOf_ne {p q : Int} (h : q ≠ 0) : qOf p q = Rat.divInt p q:=by unfold qOf; rw [if_neg h]
theorem zeL {z : Int} (h1 : -9223372036854775808 ≤ z) (h2 : z ≤ 9223372036854775807) : Sz 1 z.natAbs:=by
 show z.natAbs < 18446744073709551616 ^ 1
 rw [Nat.pow_one]
 omega
theorem qOf_sz {p q : Int} (hp1 : -9223372036854775808 ≤ p) (hp2 : p ≤ 9223372036854775807) (hq1 : -9223372036854775808 ≤ q) (hq2 : q ≤ 9223372036854775807) : SzQ 1 (qOf p q):=by
 unfold qOf
 refine SzQ.made (zeL hp1 hp2) ?_ (by decide)
 split
 ·exact zeL (by decide) (by decide)
 ·exact zeL hq1 hq2
def zds (rs : List Rat) : Rat:=rs.foldl (fun a b => a + b) 0
theorem zkz (rs : List Rat) (a : Rat) : rs.foldl (fun a b => a + b) a = a + zds rs:=by
 unfold zds
 induction rs generalizing a with
 | nil => exact (Rat.add_zero a).symm
 | cons r t ih =>
   rw [List.foldl_cons,List.foldl_cons,ih (a + r),ih (0 + r),Rat.zero_add,Rat.add_assoc]
theorem zld : zds [] = 0:=rfl
theorem zen (r : Rat) (rs : List Rat) : zds (r :: rs) = r + zds rs:=by
 show (r :: rs).foldl (fun a b => a + b) 0 = _
 rw [List.foldl_cons,zkz,Rat.zero_add]
def zbZ (xs ys : List Rat) : Rat:=zds (List.zipWith (fun a b => a * b) xs ys)
theorem dotQ_nil (ys : List Rat) : zbZ [] ys = 0:=rfl
theorem zdP (x : Rat) (xs : List Rat) (y : Rat) (ys : List Rat) : zbZ (x :: xs) (y :: ys) = x * y + zbZ xs ys:=by
 show zds (List.zipWith _ (x :: xs) (y :: ys)) = _
 rw [List.zipWith_cons_cons,zen]
 rfl
def zcn (xs ys : List Rat) : List Rat:=List.zipWith (fun a b => a + b) xs ys
def subL (xs ys : List Rat) : List Rat:=List.zipWith (fun a b => a - b) xs ys
def mulL (xs ys : List Rat) : List Rat:=List.zipWith (fun a b => a * b) xs ys
def zhG (xs : List Rat) (r : Rat) (ys : List Rat) : List Rat:=List.zipWith (fun a b => a + r * b) xs ys
def zba (r : Rat) (xs : List Rat) : List Rat:=xs.map fun x => r * x
theorem zfx {xs ys : List Rat} {f : Rat → Rat → Rat} {n : Nat} (h : xs.length = n) (k : ys.length = n) : (List.zipWith f xs ys).length = n:=by rw [List.length_zipWith,h,k,Nat.min_self]
theorem zhP : ∀ {xs ys zs : List Rat} {n : Nat},xs.length = n → ys.length = n → zs.length = n → zbZ (zcn xs ys) zs = zbZ xs zs + zbZ ys zs
 | [],[],zs,_,_,_,_ => by show (0 : Rat) = 0 + 0; rw [Rat.add_zero]
 | x :: xs,y :: ys,z :: zs,n + 1,h1,h2,h3 => by
   show zbZ ((x + y) :: zcn xs ys) (z :: zs) = _
   rw [zdP,zdP,zdP,zhP (n:=n) (by simpa using h1) (by simpa using h2) (by simpa using h3),Rat.add_mul]
   generalize x * z = a; generalize y * z = b; generalize zbZ xs zs = c; generalize zbZ ys zs = d
   rw [Rat.add_assoc,Rat.add_assoc,← Rat.add_assoc b c d,← Rat.add_assoc c b d,Rat.add_comm b c]
 | [],y :: ys,_,n,h1,h2,_ => by rw [← h1] at h2; simp at h2
 | x :: xs,[],_,n,h1,h2,_ => by rw [← h2] at h1; simp at h1
 | x :: xs,y :: ys,[],n,h1,_,h3 => by rw [← h3] at h1; simp at h1
theorem zgw : ∀ (xs ys : List Rat),zcn xs ys = zcn ys xs
 | [],[] => rfl
 | [],_ :: _ => rfl
 | _ :: _,[] => rfl
 | x :: xs,y :: ys => by show (x + y) :: zcn xs ys = (y + x) :: zcn ys xs; rw [Rat.add_comm,zgw xs ys]
theorem zgN : ∀ (xs : List Rat),∀ x ∈ subL xs xs,x = 0
 | [],x,h => by cases h
 | y :: ys,x,h => by
   rcases List.mem_cons.1 (show x ∈ (y - y) :: subL ys ys from h) with h | h
   ·rw [h,Rat.sub_self]
   ·exact zgN ys x h
theorem zgM (r : Rat) : ∀ (xs ys : List Rat),zba r (zcn xs ys) = zcn (zba r xs) (zba r ys)
 | [],[] => rfl
 | [],_ :: _ => rfl
 | _ :: _,[] => rfl
 | x :: xs,y :: ys => by
   show (r * (x + y)) :: zba r (zcn xs ys) = (r * x + r * y) :: zcn (zba r xs) (zba r ys)
   rw [Rat.mul_add,zgM r xs ys]
theorem zlc (x : Rat) : 0 ≤ x * x:=by
 rcases Rat.le_total (a:=0) (b:=x) with h | h
 ·exact Rat.mul_nonneg h h
 ·have h1 : 0 ≤ -x:=by have:=Rat.neg_le_neg h; rwa [Rat.neg_zero] at this
  have h2:=Rat.mul_nonneg h1 h1
  rwa [Rat.neg_mul,Rat.mul_neg,Rat.neg_neg] at h2
theorem zgY {a b : Rat} (ha : 0 ≤ a) (hb : 0 ≤ b) : 0 ≤ a + b:=by
 have h:=Rat.add_le_add_left (c:=a).2 hb
 rw [Rat.add_zero] at h
 exact Rat.le_trans ha h
theorem zhQ : ∀ (xs : List Rat),0 ≤ zbZ xs xs ∧ (zbZ xs xs = 0 ↔ ∀ x ∈ xs,x = 0)
 | [] => ⟨Rat.le_refl,by simp [dotQ_nil]⟩
 | x :: xs => by
   obtain ⟨h1,h2⟩:=zhQ xs
   have h3:=zlc x
   rw [zdP]
   refine ⟨zgY h3 h1,?_,?_⟩
   ·intro h
    have a0 : x * x = 0:=by
     refine Rat.le_antisymm ?_ h3
     have:=Rat.add_le_add_left (c:=x * x).2 h1
     rw [Rat.add_zero,h] at this
     exact this
    have b0 : zbZ xs xs = 0:=by rw [a0,Rat.zero_add] at h; exact h
    have x0 : x = 0:=by rcases Rat.mul_eq_zero.1 a0 with h | h <;> exact h
    intro y hy
    rcases List.mem_cons.1 hy with rfl | hy
    ·exact x0
    ·exact h2.1 b0 y hy
   ·intro h
    rw [h x List.mem_cons_self,h2.2 (fun y hy => h y (List.mem_cons_of_mem _ hy)),Rat.zero_mul,Rat.add_zero]
def zaY : List Rat → List Rat → Int
 | [],[] => 0
 | [],_ :: _ => -1
 | _ :: _,[] => 1
 | x :: xs,y :: ys => if x = y then zaY xs ys else zbY x y
theorem zhK : ∀ (xs ys : List Rat),zaY ys xs = -zaY xs ys
 | [],[] => rfl
 | [],_ :: _ => rfl
 | _ :: _,[] => rfl
 | x :: xs,y :: ys => by
   unfold zaY
   by_cases h : x = y
   ·rw [if_pos h,if_pos h.symm]; exact zhK xs ys
   ·rw [if_neg h,if_neg (fun e => h e.symm)]; exact zhJ x y
theorem zjK {x y : Rat} (h : x ≠ y) : zbY x y ≠ 0:=fun e => h ((cmpQ_eq x y).1 e)
theorem zhc : ∀ (xs ys : List Rat),zaY xs ys = 0 ↔ xs = ys
 | [],[] => by simp [zaY]
 | [],_ :: _ => by simp [zaY]
 | _ :: _,[] => by simp [zaY]
 | x :: xs,y :: ys => by
   unfold zaY
   by_cases h : x = y
   ·rw [if_pos h,zhc xs ys,h]; simp
   ·rw [if_neg h]
    constructor
    ·intro e; exact absurd e (zjK h)
    ·intro e; injection e with e1 e2; exact absurd e1 h
theorem zjL : ∀ (xs ys : List Rat),-1 ≤ zaY xs ys ∧ zaY xs ys ≤ 1
 | [],[] => by simp [zaY]
 | [],_ :: _ => by simp [zaY]
 | _ :: _,[] => by simp [zaY]
 | x :: xs,y :: ys => by
   unfold zaY
   split
   ·exact zjL xs ys
   ·exact cmpQ_bd x y
theorem zfJ : ∀ {xs ys zs : List Rat},zaY xs ys ≤ 0 → zaY ys zs ≤ 0 → zaY xs zs ≤ 0
 | [],_,[],_,_ => by simp [zaY]
 | [],_,_ :: _,_,_ => by simp [zaY]
 | _ :: _,[],_,h,_ => by simp [zaY] at h
 | x :: xs,y :: ys,[],_,h => by simp [zaY] at h
 | x :: xs,y :: ys,z :: zs,h1,h2 => by
   unfold zaY at h1 h2 ⊢
   by_cases a : x = y
   ·subst a
    rw [if_pos rfl] at h1
    by_cases b : x = z
    ·rw [if_pos b] at h2 ⊢; exact zfJ h1 h2
    ·rw [if_neg b] at h2 ⊢; exact h2
   ·rw [if_neg a] at h1
    by_cases b : y = z
    ·subst b
     rw [if_neg a]; exact h1
    ·rw [if_neg b] at h2
     have h3:=ziR h1 h2
     have hne : x ≠ z:=by
      intro e
      subst e
      have q1:=zjK a
      have q2:=zhJ x y
      omega
     rw [if_neg hne]; exact h3
theorem zkp {x y : Rat} {xs ys : List Rat} (h : x = y) : zaY (x :: xs) (y :: ys) = zaY xs ys:=by
 show (if x = y then zaY xs ys else zbY x y) = _
 exact if_pos h
theorem ziS {x y : Rat} {xs ys : List Rat} (h : x ≠ y) : zaY (x :: xs) (y :: ys) = zbY x y:=by
 show (if x = y then zaY xs ys else zbY x y) = _
 exact if_neg h
theorem zcl {xs : List Rat} {k : Nat} (h : k < xs.length) : xs.drop k = xs.getD k 0 :: xs.drop (k + 1):=by
 rw [List.drop_eq_getElem_cons h,List.getD_eq_getElem?_getD,List.getElem?_eq_getElem h]; rfl
theorem zfI {xs ys : List Rat} {k : Nat} (hx : k < xs.length) (hy : k < ys.length) (h : xs.getD k 0 = ys.getD k 0) : zaY (xs.drop k) (ys.drop k) = zaY (xs.drop (k + 1)) (ys.drop (k + 1)):=by
 rw [zcl hx,zcl hy,zkp h]
theorem zfn {xs ys : List Rat} {k : Nat} (hx : k < xs.length) (hy : k < ys.length) (h : xs.getD k 0 ≠ ys.getD k 0) : zaY (xs.drop k) (ys.drop k) = zbY (xs.getD k 0) (ys.getD k 0):=by
 rw [zcl hx,zcl hy,ziS h]
def cmpN (a b : Nat) : Int:=if a < b then -1 else if a = b then 0 else 1
theorem cmpV_end {xs ys : List Rat} {k : Nat} (hk : k = min xs.length ys.length) : zaY (xs.drop k) (ys.drop k) = cmpN xs.length ys.length:=by
 unfold cmpN
 by_cases h1 : xs.length < ys.length
 ·rw [if_pos h1,List.drop_of_length_le (by omega),zcl (xs:=ys) (by omega)]; rfl
 ·rw [if_neg h1]
  by_cases h2 : xs.length = ys.length
  ·rw [if_pos h2,List.drop_of_length_le (by omega),List.drop_of_length_le (by omega)]; rfl
  ·rw [if_neg h2,List.drop_of_length_le (l:=ys) (by omega),zcl (xs:=xs) (by omega)]; rfl
def zcq (xs : List Rat) : Int:=if xs.all (fun x => decide (x = 0)) then -1 else (xs.findIdx (fun x => !decide (x = 0)) : Nat)
theorem zfO (xs : List Rat) : zcq xs < 0 ↔ ∀ x ∈ xs,x = 0:=by
 unfold zcq
 by_cases h : xs.all (fun x => decide (x = 0)) = true
 ·rw [if_pos h]
  constructor
  ·intro _ x hx; exact of_decide_eq_true (List.all_eq_true.1 h x hx)
  ·intro _; decide
 ·rw [if_neg h]
  constructor
  ·intro h1; omega
  ·intro h1; exact absurd (List.all_eq_true.2 fun x hx => decide_eq_true (h1 x hx)) h
theorem zky {xs : List Rat} {k : Nat} (hk : k < xs.length) (h0 : ∀ j,j < k → xs.getD j 0 = 0) (h : xs.getD k 0 ≠ 0) : zcq xs = (k : Nat):=by
 unfold zcq
 have hg : ∀ j (hj : j < xs.length),xs.getD j 0 = xs[j]:=fun j hj => by rw [List.getD_eq_getElem?_getD,List.getElem?_eq_getElem hj]; rfl
 rw [if_neg]
 ·congr 1
  rw [List.findIdx_eq hk]
  refine ⟨by rw [hg k hk] at h; simpa using h,fun j hj => ?_⟩
  have:=h0 j hj
  rw [hg j (by omega)] at this
  simpa using this
 ·intro ha
  rw [List.all_eq_true] at ha
  rw [hg k hk] at h
  exact h (of_decide_eq_true (ha _ (List.getElem_mem hk)))
theorem zhT {xs : List Rat} (h0 : ∀ j,j < xs.length → xs.getD j 0 = 0) : zcq xs = -1:=by
 unfold zcq
 rw [if_pos]
 rw [List.all_eq_true]
 intro x hx
 obtain ⟨j,hj,rfl⟩:=List.mem_iff_getElem.1 hx
 have:=h0 j hj
 rw [List.getD_eq_getElem?_getD,List.getElem?_eq_getElem hj] at this
 exact decide_eq_true this
def zco (n : Nat) (rs : List Rat) (vs : List (List Rat)) : List Rat:=(List.zip rs vs).foldl (fun s p => zhG s p.1 p.2) (List.replicate n 0)
def zao (K : Nat) (xs : List Rat) : Prop:=∀ x ∈ xs,SzQ K x
theorem zao.at_ {K : Nat} {xs : List Rat} (h : zao K xs) {k : Nat} (hk : k < xs.length) : SzQ K (xs.getD k 0):=by
 rw [List.getD_eq_getElem?_getD,List.getElem?_eq_getElem hk]
 exact h _ (List.getElem_mem hk)
theorem zao.up {K K' : Nat} {xs : List Rat} (h : zao K xs) (e : K ≤ K') : zao K' xs:=fun x hx => (h x hx).up e
theorem zao.zip {K K' L : Nat} {f : Rat → Rat → Rat} (hf : ∀ x y,SzQ K x → SzQ K' y → SzQ L (f x y)) : ∀ {xs ys : List Rat},zao K xs → zao K' ys → zao L (List.zipWith f xs ys)
 | [],_,_,_ => fun x hx => by cases hx
 | _ :: _,[],_,_ => fun x hx => by cases hx
 | x :: xs,y :: ys,h,k => fun z hz => by
   rw [List.zipWith_cons_cons] at hz
   rcases List.mem_cons.1 hz with rfl | hz
   ·exact hf x y (h x List.mem_cons_self) (k y List.mem_cons_self)
   ·exact zao.zip hf (fun a ha => h a (List.mem_cons_of_mem _ ha)) (fun a ha => k a (List.mem_cons_of_mem _ ha)) z hz
theorem zao.add {K K' : Nat} {xs ys : List Rat} (h : zao K xs) (k : zao K' ys) : zao (K + K' + 1) (zcn xs ys):=zao.zip (fun _ _ => SzQ.add) h k
theorem zao.sub {K K' : Nat} {xs ys : List Rat} (h : zao K xs) (k : zao K' ys) : zao (K + K' + 1) (subL xs ys):=zao.zip (fun _ _ => SzQ.sub) h k
theorem zao.mul {K K' : Nat} {xs ys : List Rat} (h : zao K xs) (k : zao K' ys) : zao (K + K') (mulL xs ys):=zao.zip (fun _ _ => SzQ.mul) h k
theorem zao.addT {K K' L : Nat} {r : Rat} {xs ys : List Rat} (h : zao K xs) (hr : SzQ L r) (k : zao K' ys) : zao (K + (L + K') + 1) (zhG xs r ys):=zao.zip (fun _ _ a b => a.add (hr.mul b)) h k
theorem zao.scale {K L : Nat} {r : Rat} {xs : List Rat} (hr : SzQ L r) (h : zao K xs) : zao (L + K) (zba r xs):=fun x hx => by
 obtain ⟨y,hy,rfl⟩:=List.mem_map.1 hx
 exact hr.mul (h y hy)
theorem zgj {K : Nat} : ∀ {xs : List Rat},zao K xs → SzQ (1 + xs.length * (K + 1)) (zds xs)
 | [],_ => by rw [List.length_nil,Nat.zero_mul]; exact SzQ.zero
 | x :: xs,h => by
   rw [zen]
   exact ((h x List.mem_cons_self).add (zgj fun a ha => h a (List.mem_cons_of_mem _ ha))).up (by rw [List.length_cons,Nat.succ_mul]; omega)
theorem take_sz {K n : Nat} {xs : List Rat} (h : zao K xs) (hl : xs.length = n) (k : Nat) (hk : k ≤ n) : SzQ (1 + n * (K + 1)) (zds (xs.take k)):=by
 have h1:=zgj (xs:=xs.take k) (K:=K) (fun a ha => h a (List.mem_of_mem_take ha))
 refine h1.up ?_
 rw [List.length_take]
 have : min k xs.length * (K + 1) ≤ n * (K + 1):=Nat.mul_le_mul_right _ (by omega)
 omega
theorem ziY {K K' n : Nat} {xs ys : List Rat} (hx : xs.length = n) (hy : ys.length = n) (h : zao K xs) (k : zao K' ys) : SzQ (1 + n * (K + K' + 1)) (zbZ xs ys):=by
 have:=zgj (zao.mul h k)
 rw [show (mulL xs ys).length = n from zfx hx hy] at this
 exact this
theorem add_len {xs ys : List Rat} {n : Nat} (hx : xs.length = n) (hy : ys.length = n) : (zcn xs ys).length = n:=zfx hx hy
end Go.Proofs.YtkiedljcgkoaiaaGreatDoor
