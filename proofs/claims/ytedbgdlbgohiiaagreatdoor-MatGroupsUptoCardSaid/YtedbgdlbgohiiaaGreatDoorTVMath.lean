/- What this claim leans on. -/
import Derived.Test.YtedbgdlbgohiiaaGreatDoorTP8C
namespace Go.Proofs.YtedbgdlbgohiiaaGreatDoor
open Go Go.RowKit
set_option maxHeartbeats 16000000
set_option linter.unusedVariables false
def qOf (p q : Int) : Rat:=Rat.divInt p (if q = 0 then 1 else q)
theorem qOf_zero (p : Int) : qOf p 0 = (p : Rat):=by
 unfold qOf
 rw [if_pos rfl]
 exact Rat.ext (by rw [Rat.num_divInt,Rat.num_intCast]; simp) (by rw [Rat.den_divInt,Rat.den_intCast]; simp)
theorem qOf_ne {p q : Int} (h : q ≠ 0) : qOf p q = Rat.divInt p q:=by unfold qOf; rw [if_neg h]
theorem zfE {z : Int} (h1 : -9223372036854775808 ≤ z) (h2 : z ≤ 9223372036854775807) : Sz 1 z.natAbs:=by
 show z.natAbs < 18446744073709551616 ^ 1
 rw [Nat.pow_one]
 omega
theorem qOf_sz {p q : Int} (hp1 : -9223372036854775808 ≤ p) (hp2 : p ≤ 9223372036854775807) (hq1 : -9223372036854775808 ≤ q) (hq2 : q ≤ 9223372036854775807) : SzQ 1 (qOf p q):=by
 unfold qOf
 refine SzQ.made (zfE hp1 hp2) ?_ (by decide)
 split
 ·exact zfE (by decide) (by decide)
 ·exact zfE hq1 hq2
def zcJ (rs : List Rat) : Rat:=rs.foldl (fun a b => a + b) 0
theorem zml (rs : List Rat) (a : Rat) : rs.foldl (fun a b => a + b) a = a + zcJ rs:=by
 unfold zcJ
 induction rs generalizing a with
 | nil => exact (Rat.add_zero a).symm
 | cons r t ih =>
   rw [List.foldl_cons,List.foldl_cons,ih (a + r),ih (0 + r),Rat.zero_add,Rat.add_assoc]
theorem zid : zcJ [] = 0:=rfl
theorem zdS (r : Rat) (rs : List Rat) : zcJ (r :: rs) = r + zcJ rs:=by
 show (r :: rs).foldl (fun a b => a + b) 0 = _
 rw [List.foldl_cons,zml,Rat.zero_add]
def zfp (xs ys : List Rat) : Rat:=zcJ (List.zipWith (fun a b => a * b) xs ys)
theorem zhN (x : Rat) (xs : List Rat) (y : Rat) (ys : List Rat) : zfp (x :: xs) (y :: ys) = x * y + zfp xs ys:=by
 show zcJ (List.zipWith _ (x :: xs) (y :: ys)) = _
 rw [List.zipWith_cons_cons,zdS]
 rfl
def addL (xs ys : List Rat) : List Rat:=List.zipWith (fun a b => a + b) xs ys
def mulL (xs ys : List Rat) : List Rat:=List.zipWith (fun a b => a * b) xs ys
theorem zlT {xs ys : List Rat} {f : Rat → Rat → Rat} {n : Nat} (h : xs.length = n) (k : ys.length = n) : (List.zipWith f xs ys).length = n:=by rw [List.length_zipWith,h,k,Nat.min_self]
def zdM : List Rat → List Rat → Int
 | [],[] => 0
 | [],_ :: _ => -1
 | _ :: _,[] => 1
 | x :: xs,y :: ys => if x = y then zdM xs ys else zeR x y
theorem cmpQ_ne {x y : Rat} (h : x ≠ y) : zeR x y ≠ 0:=fun e => h ((cmpQ_eq x y).1 e)
theorem zit : ∀ (xs ys : List Rat),zdM xs ys = 0 ↔ xs = ys
 | [],[] => by simp [zdM]
 | [],_ :: _ => by simp [zdM]
 | _ :: _,[] => by simp [zdM]
 | x :: xs,y :: ys => by
   unfold zdM
   by_cases h : x = y
   ·rw [if_pos h,zit xs ys,h]; simp
   ·rw [if_neg h]
    constructor
    ·intro e; exact absurd e (cmpQ_ne h)
    ·intro e; injection e with e1 e2; exact absurd e1 h
theorem zmb {x y : Rat} {xs ys : List Rat} (h : x = y) : zdM (x :: xs) (y :: ys) = zdM xs ys:=by
 show (if x = y then zdM xs ys else zeR x y) = _
 exact if_pos h
theorem zkl {x y : Rat} {xs ys : List Rat} (h : x ≠ y) : zdM (x :: xs) (y :: ys) = zeR x y:=by
 show (if x = y then zdM xs ys else zeR x y) = _
 exact if_neg h
theorem zcT {xs : List Rat} {k : Nat} (h : k < xs.length) : xs.drop k = xs.getD k 0 :: xs.drop (k + 1):=by
 rw [List.drop_eq_getElem_cons h,List.getD_eq_getElem?_getD,List.getElem?_eq_getElem h]; rfl
theorem zgF {xs ys : List Rat} {k : Nat} (hx : k < xs.length) (hy : k < ys.length) (h : xs.getD k 0 = ys.getD k 0) : zdM (xs.drop k) (ys.drop k) = zdM (xs.drop (k + 1)) (ys.drop (k + 1)):=by
 rw [zcT hx,zcT hy,zmb h]
theorem zgl {xs ys : List Rat} {k : Nat} (hx : k < xs.length) (hy : k < ys.length) (h : xs.getD k 0 ≠ ys.getD k 0) : zdM (xs.drop k) (ys.drop k) = zeR (xs.getD k 0) (ys.getD k 0):=by
 rw [zcT hx,zcT hy,zkl h]
def cmpN (a b : Nat) : Int:=if a < b then -1 else if a = b then 0 else 1
theorem cmpV_end {xs ys : List Rat} {k : Nat} (hk : k = min xs.length ys.length) : zdM (xs.drop k) (ys.drop k) = cmpN xs.length ys.length:=by
 unfold cmpN
 by_cases h1 : xs.length < ys.length
 ·rw [if_pos h1,List.drop_of_length_le (by omega),zcT (xs:=ys) (by omega)]; rfl
 ·rw [if_neg h1]
  by_cases h2 : xs.length = ys.length
  ·rw [if_pos h2,List.drop_of_length_le (by omega),List.drop_of_length_le (by omega)]; rfl
  ·rw [if_neg h2,List.drop_of_length_le (l:=ys) (by omega),zcT (xs:=xs) (by omega)]; rfl
def zay (K : Nat) (xs : List Rat) : Prop:=∀ x ∈ xs,SzQ K x
theorem zay.at_ {K : Nat} {xs : List Rat} (h : zay K xs) {k : Nat} (hk : k < xs.length) : SzQ K (xs.getD k 0):=by
 rw [List.getD_eq_getElem?_getD,List.getElem?_eq_getElem hk]
 exact h _ (List.getElem_mem hk)
theorem zay.up {K K' : Nat} {xs : List Rat} (h : zay K xs) (e : K ≤ K') : zay K' xs:=fun x hx => (h x hx).up e
theorem zay.zip {K K' L : Nat} {f : Rat → Rat → Rat} (hf : ∀ x y,SzQ K x → SzQ K' y → SzQ L (f x y)) : ∀ {xs ys : List Rat},zay K xs → zay K' ys → zay L (List.zipWith f xs ys)
 | [],_,_,_ => fun x hx => by cases hx
 | _ :: _,[],_,_ => fun x hx => by cases hx
 | x :: xs,y :: ys,h,k => fun z hz => by
   rw [List.zipWith_cons_cons] at hz
   rcases List.mem_cons.1 hz with rfl | hz
   ·exact hf x y (h x List.mem_cons_self) (k y List.mem_cons_self)
   ·exact zay.zip hf (fun a ha => h a (List.mem_cons_of_mem _ ha)) (fun a ha => k a (List.mem_cons_of_mem _ ha)) z hz
theorem zay.add {K K' : Nat} {xs ys : List Rat} (h : zay K xs) (k : zay K' ys) : zay (K + K' + 1) (addL xs ys):=zay.zip (fun _ _ => SzQ.add) h k
theorem zay.mul {K K' : Nat} {xs ys : List Rat} (h : zay K xs) (k : zay K' ys) : zay (K + K') (mulL xs ys):=zay.zip (fun _ _ => SzQ.mul) h k
theorem zlh {K : Nat} : ∀ {xs : List Rat},zay K xs → SzQ (1 + xs.length * (K + 1)) (zcJ xs)
 | [],_ => by rw [List.length_nil,Nat.zero_mul]; exact SzQ.zero
 | x :: xs,h => by
   rw [zdS]
   exact ((h x List.mem_cons_self).add (zlh fun a ha => h a (List.mem_cons_of_mem _ ha))).up (by rw [List.length_cons,Nat.succ_mul]; omega)
theorem take_sz {K n : Nat} {xs : List Rat} (h : zay K xs) (hl : xs.length = n) (k : Nat) (hk : k ≤ n) : SzQ (1 + n * (K + 1)) (zcJ (xs.take k)):=by
 have h1:=zlh (xs:=xs.take k) (K:=K) (fun a ha => h a (List.mem_of_mem_take ha))
 refine h1.up ?_
 rw [List.length_take]
 have : min k xs.length * (K + 1) ≤ n * (K + 1):=Nat.mul_le_mul_right _ (by omega)
 omega
theorem dot_sz {K K' n : Nat} {xs ys : List Rat} (hx : xs.length = n) (hy : ys.length = n) (h : zay K xs) (k : zay K' ys) : SzQ (1 + n * (K + K' + 1)) (zfp xs ys):=by
 have:=zlh (zay.mul h k)
 rw [show (mulL xs ys).length = n from zlT hx hy] at this
 exact this
def zbW (D : List Nat) (a0 a : Act) : Prop:=a.defers = a0.defers ∧ a.tmps.size = a0.tmps.size ∧ ∀ j,j ∉ D → a.tmps.getD j undef = a0.tmps.getD j undef
theorem zbW.refl (D : List Nat) (a : Act) : zbW D a a:=⟨rfl,rfl,fun _ _ => rfl⟩
theorem rd_ne {a : Act} {i j : Nat} (h : j ≠ i) (v : Value) : (a.put (some i) v).tmps.getD j undef = a.tmps.getD j undef:=by
 simp only [Act.put,Array.getD_eq_getD_getElem?]
 rw [Array.getElem?_setIfInBounds_ne (Ne.symm h)]
theorem zav {a : Act} {i : Nat} (h : i < a.tmps.size) (v : Value) : (a.put (some i) v).tmps.getD i undef = v:=by
 simp only [Act.put,Array.getD_eq_getD_getElem?]
 rw [Array.getElem?_setIfInBounds_self_of_lt h]
 rfl
theorem zfy (a : Act) (i : Nat) (v : Value) : (a.put (some i) v).tmps.size = a.tmps.size:=by simp [Act.put]
theorem zbW.put {D : List Nat} {a0 a : Act} (h : zbW D a0 a) {i : Nat} (hi : i ∈ D) (v : Value) : zbW D a0 (a.put (some i) v) :=
 ⟨h.1,by rw [zfy]; exact h.2.1,fun j hj => (rd_ne (fun e => hj (by rw [e]; exact hi)) v).trans (h.2.2 j hj)⟩
theorem zbW.get {D : List Nat} {a0 a : Act} (h : zbW D a0 a) (j : Nat) (hj : j ∉ D) {v : Value} (hv : a0.tmps.getD j undef = v) : a.tmps.getD j undef = v:=(h.2.2 j hj).trans hv
theorem zbW.lt {D : List Nat} {a0 a : Act} (h : zbW D a0 a) {j : Nat} (hj : j < a0.tmps.size) : j < a.tmps.size:=by rw [h.2.1]; exact hj
theorem act_ext {a b : Act} (hd : a.defers = b.defers) (hs : a.tmps.size = b.tmps.size) (hg : ∀ j,a.tmps.getD j undef = b.tmps.getD j undef) : a = b:=by
 obtain ⟨at_,ad⟩:=a
 obtain ⟨bt,bd⟩:=b
 simp only at hd hs hg
 subst hd
 congr 1
 refine Array.ext hs fun j h1 h2 => ?_
 have:=hg j
 simp only [Array.getD_eq_getD_getElem?,Array.getElem?_eq_getElem h1,Array.getElem?_eq_getElem h2] at this
 exact this
def zbL (vs : List (Nat × Value)) (a : Act) : Act:=vs.foldl (fun a p => a.put (some p.1) p.2) a
theorem zgd (vs : List (Nat × Value)) (a : Act) : (zbL vs a).tmps.size = a.tmps.size ∧ (zbL vs a).defers = a.defers:=by
 unfold zbL
 induction vs generalizing a with
 | nil => exact ⟨rfl,rfl⟩
 | cons p t ih => rw [List.foldl_cons]; have:=ih (a.put (some p.1) p.2); exact ⟨this.1.trans (zfy _ _ _),this.2⟩
theorem zkR (vs : List (Nat × Value)) (a b : Act) (hs : b.tmps.size = a.tmps.size) (hv : ∀ p ∈ vs,a.tmps.getD p.1 undef = p.2) : ∀ j,(zbL vs b).tmps.getD j undef = if j ∈ vs.map Prod.fst then a.tmps.getD j undef else b.tmps.getD j undef:=by
 intro j
 induction vs generalizing b with
 | nil => rfl
 | cons p t ih =>
   show (zbL t (b.put (some p.1) p.2)).tmps.getD j undef = _
   rw [ih (b.put (some p.1) p.2) (by rw [zfy]; exact hs) (fun q hq => hv q (List.mem_cons_of_mem _ hq))]
   by_cases h1 : j ∈ t.map Prod.fst
   ·rw [if_pos h1,if_pos (by rw [List.map_cons]; exact List.mem_cons_of_mem _ h1)]
   ·rw [if_neg h1]
    by_cases h2 : j = p.1
    ·rw [if_pos (by rw [List.map_cons,h2]; exact List.mem_cons_self),h2,hv p List.mem_cons_self]
     by_cases h3 : p.1 < b.tmps.size
     ·exact zav h3 _
     ·have h4:=hv p List.mem_cons_self
      have h5 : ¬ p.1 < a.tmps.size:=by rw [← hs]; exact h3
      simp only [Array.getD_eq_getD_getElem?] at h4 ⊢
      rw [Array.getElem?_eq_none (by omega)] at h4
      rw [Array.getElem?_eq_none (by rw [zfy]; omega)]
      exact h4
    ·rw [if_neg (by rw [List.map_cons]; intro h; rcases List.mem_cons.1 h with h | h; exact h2 h; exact h1 h)]
     exact rd_ne h2 _
theorem zbW.eq {D : List Nat} {a0 a : Act} (h : zbW D a0 a) (vs : List (Nat × Value)) (hD : vs.map Prod.fst = D) (hv : ∀ p ∈ vs,a.tmps.getD p.1 undef = p.2) : a = zbL vs a0:=by
 subst hD
 refine act_ext (h.1.trans (zgd vs a0).2.symm) (h.2.1.trans (zgd vs a0).1.symm) fun j => ?_
 rw [zkR vs a a0 h.2.1.symm hv j]
 by_cases h1 : j ∈ vs.map Prod.fst
 ·rw [if_pos h1]
 ·rw [if_neg h1]; exact h.2.2 j h1
section
variable {P : Program} {ops0 : Array Oper} {Q : Exit → Act → World → Prop} {md : Region.Mode} {S : World → Prop}
theorem zaV {J : Act → Array Bool → Act → World → Prop} {L : Array Bool} {a0 : Act} {l0 : Array Bool} {w0 : World} {fuel : Nat} (hd : due l0 = fuel) (h0 : J a0 l0 a0 w0)
  (hstep : ∀ (ops : Array Oper) (A0 : Act) (Q' : Exit → Act → World → Prop),ops = ops0 → A0.tmps.size = a0.tmps.size → (∀ i d,A0.tmps.getD i d = a0.tmps.getD i d) → (∀ l a w,J A0 l a w → Region.ready md ops l = [] → l = L) ∧ ∀ l a w i,J A0 l a w → l ≠ L → i ∈ Region.ready md ops l → wpOp P ops Q' i (fun a' w' => S w' ∧ J A0 (l.setIfInBounds i true) a' w') a w)
  (hgoal : ∀ a w,J a0 L a w → wpAnyH P md ops0 Q S (due L) L a w) : wpAnyH P md ops0 Q S fuel l0 a0 w0 :=
 ziX (hstep ops0 a0 Q rfl rfl (fun _ _ => rfl)).1 (hstep ops0 a0 Q rfl rfl (fun _ _ => rfl)).2 hgoal fuel l0 a0 w0 hd h0
theorem wpOp_go {ops : Array Oper} {i : Nat} {o : Oper} {K : Act → World → Prop} {a : Act} {w : World} (ho : ops[i]? = some o) (hg : o.guard = none)
  (h : ∀ K' : Act → World → Prop,Shut (∀ a w,K a w → K' a w) → Oper.wp P o a w K' Q) : wpOp P ops Q i K a w :=
 wpOp_step ho fun K' hK => by
  rw [if_pos (by unfold Region.wanted; rw [hg])]
  exact h K' hK
theorem zjR {o : Oper} {K : Act → World → Prop} {a : Act} {w w' : World} {v : Value} (h : (execOp a.eval o).run P w = .ok (.value v) w') (hK : K (a.put o.dst v) w') : Oper.wp P o a w K Q:=by
 unfold Oper.wp; rw [h]; exact hK
theorem zbq {o : Oper} {K : Act → World → Prop} {a : Act} {w : World} {v : Value} {x : Nat} (ho : o.op = .move (.tmp x) ∨ o.op = .assign (.tmp x)) (hx : a.tmps.getD x undef = v) (hK : K (a.put o.dst v) w) : Oper.wp P o a w K Q:=by
 refine zjR (v:=v) (w':=w) ?_ hK
 unfold execOp
 rcases ho with ho | ho <;> rw [ho] <;> simp only [Act.eval,hx] <;> rfl
theorem zaF {o : Oper} {K : Act → World → Prop} {a : Act} {w : World} {v : Value} {x k : Nat} {vs : Array Value} (ho : o.op = .extract (.tmp x) k) (hx : a.tmps.getD x undef = .tuple vs) (hk : vs[k]? = some v) (hK : K (a.put o.dst v) w) : Oper.wp P o a w K Q:=by
 refine zjR (v:=v) (w':=w) ?_ hK
 unfold execOp
 rw [ho]
 simp only [Act.eval,hx,Instr.extract,hk]
 rfl
end
end Go.Proofs.YtedbgdlbgohiiaaGreatDoor
