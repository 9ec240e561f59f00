/- What this claim leans on. -/
import Derived.Test.YtgigccjiblaefaaGreatDoorOBunB
namespace Go.Proofs.YtgigccjiblaefaaGreatDoor
open Go Go.RowKit
set_option maxHeartbeats 16000000
set_option linter.unusedVariables false
theorem zeE (a : Int) (g : Nat) : (a / (g : Int)).natAbs ≤ a.natAbs := by
 rcases Nat.eq_zero_or_pos g with rfl | hg
 ·simp
 ·exact Int.natAbs_ediv_le_natAbs a g
theorem zjY (a b : Rat) : (a + b).num.natAbs ≤ a.num.natAbs * b.den + b.num.natAbs * a.den := by
 rw [Rat.num_add]
 refine Nat.le_trans (zeE _ _) (Nat.le_trans (Int.natAbs_add_le _ _) ?_)
 rw [Int.natAbs_mul,Int.natAbs_mul,Int.natAbs_natCast,Int.natAbs_natCast]
 exact Nat.le_refl _
theorem zjM (a b : Rat) : (a + b).den ≤ a.den * b.den := by rw [Rat.den_add]; exact Nat.div_le_self _ _
theorem zkp (a b : Rat) : (a * b).num.natAbs ≤ a.num.natAbs * b.num.natAbs := by
 rw [Rat.num_mul]
 refine Nat.le_trans (zeE _ _) ?_
 rw [Int.natAbs_mul]
 exact Nat.le_refl _
theorem zkt (a b : Rat) : (a * b).den ≤ a.den * b.den := by rw [Rat.den_mul]; exact Nat.div_le_self _ _
theorem zjV (a : Rat) : (a⁻¹).num.natAbs ≤ a.den := by
 rw [Rat.num_inv,Int.natAbs_mul,Int.natAbs_natCast]
 by_cases h : a.num = 0
 ·simp [h]
 ·rw [Int.natAbs_sign_of_ne_zero h,Nat.one_mul]; exact Nat.le_refl _
theorem zgK (p q : Int) : (Rat.divInt p q).num.natAbs ≤ p.natAbs := by
 rw [Rat.num_divInt]
 refine Nat.le_trans (zeE _ _) ?_
 rw [Int.natAbs_mul]
 by_cases h : q = 0
 ·simp [h]
 ·rw [Int.natAbs_sign_of_ne_zero h,Nat.one_mul]; exact Nat.le_refl _
def LtQ (b : Nat) (r : Rat) : Prop := r.num.natAbs < b ∧ r.den < b
theorem LtQ.up {b b' : Nat} {r : Rat} (h : LtQ b r) (hb : b ≤ b') : LtQ b' r := ⟨Nat.lt_of_lt_of_le h.1 hb,Nat.lt_of_lt_of_le h.2 hb⟩
theorem LtQ.pos {b : Nat} {r : Rat} (h : LtQ b r) : 1 < b := Nat.lt_of_le_of_lt (Nat.pos_of_ne_zero r.den_nz) h.2
theorem LtQ.add {b b' : Nat} {r s : Rat} (h : LtQ b r) (h' : LtQ b' s) : LtQ (2 * (b * b')) (r + s) := by
 have h1 : r.num.natAbs * s.den < b * b' := Nat.mul_lt_mul'' h.1 h'.2
 have h2 : s.num.natAbs * r.den < b * b' := by rw [Nat.mul_comm b b']; exact Nat.mul_lt_mul'' h'.1 h.2
 have h3 : r.den * s.den < b * b' := Nat.mul_lt_mul'' h.2 h'.2
 have h4 := zjY r s
 have h5 := zjM r s
 exact ⟨by omega,by omega⟩
theorem LtQ.mul {b b' : Nat} {r s : Rat} (h : LtQ b r) (h' : LtQ b' s) : LtQ (b * b') (r * s) :=
 ⟨Nat.lt_of_le_of_lt (zkp r s) (Nat.mul_lt_mul'' h.1 h'.1),Nat.lt_of_le_of_lt (zkt r s) (Nat.mul_lt_mul'' h.2 h'.2)⟩
theorem LtQ.neg {b : Nat} {r : Rat} (h : LtQ b r) : LtQ b (-r) := ⟨by rw [Rat.neg_num,Int.natAbs_neg]; exact h.1,h.2⟩
theorem LtQ.inv {b : Nat} {r : Rat} (h : LtQ b r) : LtQ b r⁻¹ := by
 refine ⟨Nat.lt_of_le_of_lt (zjV r) h.2,?_⟩
 rw [Rat.den_inv]
 split
 ·exact h.pos
 ·exact h.1
theorem LtQ.div {b b' : Nat} {r s : Rat} (h : LtQ b r) (h' : LtQ b' s) : LtQ (b * b') (r / s) := by rw [Rat.div_def]; exact h.mul h'.inv
theorem LtQ.made {b : Nat} {p q : Int} (hp : p.natAbs < b) (hq : q.natAbs < b) (hb : 1 < b) : LtQ b (Rat.divInt p q) := by
 refine ⟨Nat.lt_of_le_of_lt (zgK p q) hp,?_⟩
 rw [Rat.den_divInt]
 split
 ·exact hb
 ·exact Nat.lt_of_le_of_lt (Nat.div_le_self _ _) hq
def zce (r s : Rat) : Int := if r < s then -1 else if r = s then 0 else 1
theorem zds (r s : Rat) : zce r s = zcO (r.num * s.den) (s.num * r.den) := by
 unfold zce zcO
 by_cases h1 : r < s
 ·rw [if_pos h1,if_pos ((Rat.lt_iff r s).1 h1)]
 ·rw [if_neg h1,if_neg (fun h => h1 ((Rat.lt_iff r s).2 h))]
  by_cases h2 : r = s
  ·rw [if_pos h2,if_pos (Rat.eq_iff_mul_eq_mul.1 h2)]
  ·rw [if_neg h2,if_neg (fun h => h2 (Rat.eq_iff_mul_eq_mul.2 h))]
theorem zih (r s : Rat) : zce r s = 0 ↔ r = s := by
 unfold zce
 by_cases h1 : r < s
 ·rw [if_pos h1]
  constructor
  ·intro h; omega
  ·intro h; exact absurd h (Rat.ne_of_lt h1)
 ·rw [if_neg h1]
  by_cases h2 : r = s <;> simp [h2]
theorem zfd (r s : Rat) : zce s r = -zce r s := by
 rw [zds,zds,cmpZ_neg]
def sgnQ (r : Rat) : Int := zdi r.num
def zdP (r s : Rat) : Rat := if zce r s ≤ 0 then r else s
def zdQ (r s : Rat) : Rat := if zce r s ≤ 0 then s else r
theorem zjE (r : Rat) : r.floor = qI r.num (r.den : Int) := by
 unfold qI
 rw [if_pos (by omega),Rat.floor_def]
theorem ziS (p q : Int) (hq : q ≠ 0) : (Rat.divInt p q).num.natAbs = p.natAbs / Nat.gcd p.natAbs q.natAbs := by
 rw [Rat.num_divInt,Int.gcd]
 have hd : (Nat.gcd q.natAbs p.natAbs : Int) ∣ q.sign * p := Int.dvd_trans (Int.ofNat_dvd_left.2 (Nat.gcd_dvd_right ..)) (Int.dvd_mul_left ..)
 rw [Int.natAbs_ediv_of_dvd hd,Int.natAbs_mul,Int.natAbs_sign_of_ne_zero hq,Nat.one_mul,Int.natAbs_natCast,Nat.gcd_comm]
theorem zir (p q : Int) (hq : q ≠ 0) : (Rat.divInt p q).den = q.natAbs / Nat.gcd p.natAbs q.natAbs := by
 rw [Rat.den_divInt,if_neg hq,Int.gcd,Nat.gcd_comm]
theorem zhi (p q : Int) (hq : q ≠ 0) : (Rat.divInt p q).num < 0 ↔ (p < 0 ∧ 0 < q ∨ 0 < p ∧ q < 0) := by
 rw [Rat.num_divInt]
 have hg0 : 0 < (q.gcd p : Int) := by
  have : 0 < q.gcd p := Int.gcd_pos_of_ne_zero_left p hq
  omega
 have e : q.sign * p / (q.gcd p : Int) < 0 ↔ q.sign * p < 0 := by
  constructor
  ·intro h
   refine Int.not_le.1 fun h1 => ?_
   have := Int.ediv_nonneg h1 (Int.le_of_lt hg0)
   omega
  ·intro h
   exact Int.ediv_neg_of_neg_of_pos h hg0
 rw [e]
 rcases Int.lt_or_gt_of_ne hq with h | h
 ·rw [Int.sign_eq_neg_one_of_neg h]; omega
 ·rw [Int.sign_eq_one_of_pos h]; omega
def zbG (D : List Nat) (a0 a : Act) : Prop := a.defers = a0.defers ∧ a.tmps.size = a0.tmps.size ∧ ∀ j,j ∉ D → a.tmps.getD j undef = a0.tmps.getD j undef
theorem zbG.refl (D : List Nat) (a : Act) : zbG D a a := ⟨rfl,rfl,fun _ _ => rfl⟩
theorem rd_ne {a : Act} {i j : Nat} (h : j ≠ i) (v : Value) : (a.put (some i) v).tmps.getD j undef = a.tmps.getD j undef := by
 simp only [Act.put,Array.getD_eq_getD_getElem?]
 rw [Array.getElem?_setIfInBounds_ne (Ne.symm h)]
theorem zaw {a : Act} {i : Nat} (h : i < a.tmps.size) (v : Value) : (a.put (some i) v).tmps.getD i undef = v := by
 simp only [Act.put,Array.getD_eq_getD_getElem?]
 rw [Array.getElem?_setIfInBounds_self_of_lt h]
 rfl
theorem zeL (a : Act) (i : Nat) (v : Value) : (a.put (some i) v).tmps.size = a.tmps.size := by simp [Act.put]
theorem zbG.put {D : List Nat} {a0 a : Act} (h : zbG D a0 a) {i : Nat} (hi : i ∈ D) (v : Value) : zbG D a0 (a.put (some i) v) :=
 ⟨h.1,by rw [zeL]; exact h.2.1,fun j hj => (rd_ne (fun e => hj (by rw [e]; exact hi)) v).trans (h.2.2 j hj)⟩
theorem zbG.get {D : List Nat} {a0 a : Act} (h : zbG D a0 a) (j : Nat) (hj : j ∉ D) {v : Value} (hv : a0.tmps.getD j undef = v) : a.tmps.getD j undef = v := (h.2.2 j hj).trans hv
theorem zbG.lt {D : List Nat} {a0 a : Act} (h : zbG D a0 a) {j : Nat} (hj : j < a0.tmps.size) : j < a.tmps.size := by rw [h.2.1]; exact hj
theorem act_ext {a b : Act} (hd : a.defers = b.defers) (hs : a.tmps.size = b.tmps.size) (hg : ∀ j,a.tmps.getD j undef = b.tmps.getD j undef) : a = b := by
 obtain ⟨at_,ad⟩ := a
 obtain ⟨bt,bd⟩ := b
 simp only at hd hs hg
 subst hd
 congr 1
 refine Array.ext hs fun j h1 h2 => ?_
 have := hg j
 simp only [Array.getD_eq_getD_getElem?,Array.getElem?_eq_getElem h1,Array.getElem?_eq_getElem h2] at this
 exact this
def zbx (vs : List (Nat × Value)) (a : Act) : Act := vs.foldl (fun a p => a.put (some p.1) p.2) a
theorem zfD (vs : List (Nat × Value)) (a : Act) : (zbx vs a).tmps.size = a.tmps.size ∧ (zbx vs a).defers = a.defers := by
 unfold zbx
 induction vs generalizing a with
 | nil => exact ⟨rfl,rfl⟩
 | cons p t ih => rw [List.foldl_cons]; have := ih (a.put (some p.1) p.2); exact ⟨this.1.trans (zeL _ _ _),this.2⟩
theorem zkv (vs : List (Nat × Value)) (a b : Act) (hs : b.tmps.size = a.tmps.size) (hv : ∀ p ∈ vs,a.tmps.getD p.1 undef = p.2) : ∀ j,(zbx vs b).tmps.getD j undef = if j ∈ vs.map Prod.fst then a.tmps.getD j undef else b.tmps.getD j undef := by
 intro j
 induction vs generalizing b with
 | nil => rfl
 | cons p t ih =>
   show (zbx t (b.put (some p.1) p.2)).tmps.getD j undef = _
   rw [ih (b.put (some p.1) p.2) (by rw [zeL]; exact hs) (fun q hq => hv q (List.mem_cons_of_mem _ hq))]
   by_cases h1 : j ∈ t.map Prod.fst
   ·rw [if_pos h1,if_pos (by rw [List.map_cons]; exact List.mem_cons_of_mem _ h1)]
   ·rw [if_neg h1]
    by_cases h2 : j = p.1
    ·rw [if_pos (by rw [List.map_cons,h2]; exact List.mem_cons_self),h2,hv p List.mem_cons_self]
     by_cases h3 : p.1 < b.tmps.size
     ·exact zaw h3 _
     ·have h4 := hv p List.mem_cons_self
      have h5 : ¬ p.1 < a.tmps.size := by rw [← hs]; exact h3
      simp only [Array.getD_eq_getD_getElem?] at h4 ⊢
      rw [Array.getElem?_eq_none (by omega)] at h4
      rw [Array.getElem?_eq_none (by rw [zeL]; omega)]
      exact h4
    ·rw [if_neg (by rw [List.map_cons]; intro h; rcases List.mem_cons.1 h with h | h; exact h2 h; exact h1 h)]
     exact rd_ne h2 _
theorem zbG.eq {D : List Nat} {a0 a : Act} (h : zbG D a0 a) (vs : List (Nat × Value)) (hD : vs.map Prod.fst = D) (hv : ∀ p ∈ vs,a.tmps.getD p.1 undef = p.2) : a = zbx vs a0 := by
 subst hD
 refine act_ext (h.1.trans (zfD vs a0).2.symm) (h.2.1.trans (zfD vs a0).1.symm) fun j => ?_
 rw [zkv vs a a0 h.2.1.symm hv j]
 by_cases h1 : j ∈ vs.map Prod.fst
 ·rw [if_pos h1]
 ·rw [if_neg h1]; exact h.2.2 j h1
section
variable {P : Program} {ops0 : Array Oper} {Q : Exit → Act → World → Prop} {md : Region.Mode} {S : World → Prop}
theorem zaU {J : Act → Array Bool → Act → World → Prop} {L : Array Bool} {a0 : Act} {l0 : Array Bool} {w0 : World} {fuel : Nat} (hd : due l0 = fuel) (h0 : J a0 l0 a0 w0)
  (hstep : ∀ (ops : Array Oper) (A0 : Act) (Q' : Exit → Act → World → Prop),ops = ops0 → A0.tmps.size = a0.tmps.size → (∀ i d,A0.tmps.getD i d = a0.tmps.getD i d) → (∀ l a w,J A0 l a w → Region.ready md ops l = [] → l = L) ∧ ∀ l a w i,J A0 l a w → l ≠ L → i ∈ Region.ready md ops l → wpOp P ops Q' i (fun a' w' => S w' ∧ J A0 (l.setIfInBounds i true) a' w') a w)
  (hgoal : ∀ a w,J a0 L a w → wpAnyH P md ops0 Q S (due L) L a w) : wpAnyH P md ops0 Q S fuel l0 a0 w0 :=
 zhL (hstep ops0 a0 Q rfl rfl (fun _ _ => rfl)).1 (hstep ops0 a0 Q rfl rfl (fun _ _ => rfl)).2 hgoal fuel l0 a0 w0 hd h0
theorem wpOp_go {ops : Array Oper} {i : Nat} {o : Oper} {K : Act → World → Prop} {a : Act} {w : World} (ho : ops[i]? = some o) (hg : o.guard = none)
  (h : ∀ K' : Act → World → Prop,Shut (∀ a w,K a w → K' a w) → Oper.wp P o a w K' Q) : wpOp P ops Q i K a w :=
 wpOp_step ho fun K' hK => by
  rw [if_pos (by unfold Region.wanted; rw [hg])]
  exact h K' hK
theorem ziB {o : Oper} {K : Act → World → Prop} {a : Act} {w w' : World} {v : Value} (h : (execOp a.eval o).run P w = .ok (.value v) w') (hK : K (a.put o.dst v) w') : Oper.wp P o a w K Q := by
 unfold Oper.wp; rw [h]; exact hK
theorem zbD {o : Oper} {K : Act → World → Prop} {a : Act} {w : World} {v : Value} {x : Nat} (ho : o.op = .move (.tmp x) ∨ o.op = .assign (.tmp x)) (hx : a.tmps.getD x undef = v) (hK : K (a.put o.dst v) w) : Oper.wp P o a w K Q := by
 refine ziB (v := v) (w' := w) ?_ hK
 unfold execOp
 rcases ho with ho | ho <;> rw [ho] <;> simp only [Act.eval,hx] <;> rfl
theorem zaO {o : Oper} {K : Act → World → Prop} {a : Act} {w : World} {v : Value} {x k : Nat} {vs : Array Value} (ho : o.op = .extract (.tmp x) k) (hx : a.tmps.getD x undef = .tuple vs) (hk : vs[k]? = some v) (hK : K (a.put o.dst v) w) : Oper.wp P o a w K Q := by
 refine ziB (v := v) (w' := w) ?_ hK
 unfold execOp
 rw [ho]
 simp only [Act.eval,hx,Instr.extract,hk]
 rfl
end
end Go.Proofs.YtgigccjiblaefaaGreatDoor
