/- What this claim leans on. -/
import Derived.Test.YtkiedljcgkoaiaaGreatDoorRBunB
namespace Go.Proofs.YtkiedljcgkoaiaaGreatDoor
open Go Go.RowKit
set_option maxHeartbeats 16000000
set_option linter.unusedVariables false
def zcI (D : List Nat) (a0 a : Act) : Prop:=a.defers = a0.defers ∧ a.tmps.size = a0.tmps.size ∧ ∀ j,j ∉ D → a.tmps.getD j undef = a0.tmps.getD j undef
theorem zcI.refl (D : List Nat) (a : Act) : zcI D a a:=⟨rfl,rfl,fun _ _ => rfl⟩
theorem rd_ne {a : Act} {i j : Nat} (h : j ≠ i) (v : Value) : (a.put (some i) v).tmps.getD j undef = a.tmps.getD j undef:=by
 simp only [Act.put,Array.getD_eq_getD_getElem?]
 rw [Array.getElem?_setIfInBounds_ne (Ne.symm h)]
theorem zaJ {a : Act} {i : Nat} (h : i < a.tmps.size) (v : Value) : (a.put (some i) v).tmps.getD i undef = v:=by
 simp only [Act.put,Array.getD_eq_getD_getElem?]
 rw [Array.getElem?_setIfInBounds_self_of_lt h]
 rfl
theorem zfx (a : Act) (i : Nat) (v : Value) : (a.put (some i) v).tmps.size = a.tmps.size:=by simp [Act.put]
theorem zcI.put {D : List Nat} {a0 a : Act} (h : zcI D a0 a) {i : Nat} (hi : i ∈ D) (v : Value) : zcI D a0 (a.put (some i) v) :=
 ⟨h.1,by rw [zfx]; exact h.2.1,fun j hj => (rd_ne (fun e => hj (by rw [e]; exact hi)) v).trans (h.2.2 j hj)⟩
theorem zcI.get {D : List Nat} {a0 a : Act} (h : zcI D a0 a) (j : Nat) (hj : j ∉ D) {v : Value} (hv : a0.tmps.getD j undef = v) : a.tmps.getD j undef = v:=(h.2.2 j hj).trans hv
theorem zcI.lt {D : List Nat} {a0 a : Act} (h : zcI D a0 a) {j : Nat} (hj : j < a0.tmps.size) : j < a.tmps.size:=by rw [h.2.1]; exact hj
theorem act_ext {a b : Act} (hd : a.defers = b.defers) (hs : a.tmps.size = b.tmps.size) (hg : ∀ j,a.tmps.getD j undef = b.tmps.getD j undef) : a = b:=by
 obtain ⟨at_,ad⟩:=a
 obtain ⟨bt,bd⟩:=b
 simp only at hd hs hg
 subst hd
 congr 1
 refine Array.ext hs fun j h1 h2 => ?_
 have:=hg j
 simp only [Array.getD_eq_getD_getElem?,Array.getElem?_eq_getElem h1,Array.getElem?_eq_getElem h2] at this
 exact this
def zcx (vs : List (Nat × Value)) (a : Act) : Act:=vs.foldl (fun a p => a.put (some p.1) p.2) a
theorem zga (vs : List (Nat × Value)) (a : Act) : (zcx vs a).tmps.size = a.tmps.size ∧ (zcx vs a).defers = a.defers:=by
 unfold zcx
 induction vs generalizing a with
 | nil => exact ⟨rfl,rfl⟩
 | cons p t ih => rw [List.foldl_cons]; have:=ih (a.put (some p.1) p.2); exact ⟨this.1.trans (zfx _ _ _),this.2⟩
theorem zlp (vs : List (Nat × Value)) (a b : Act) (hs : b.tmps.size = a.tmps.size) (hv : ∀ p ∈ vs,a.tmps.getD p.1 undef = p.2) : ∀ j,(zcx vs b).tmps.getD j undef = if j ∈ vs.map Prod.fst then a.tmps.getD j undef else b.tmps.getD j undef:=by
 intro j
 induction vs generalizing b with
 | nil => rfl
 | cons p t ih =>
   show (zcx t (b.put (some p.1) p.2)).tmps.getD j undef = _
   rw [ih (b.put (some p.1) p.2) (by rw [zfx]; exact hs) (fun q hq => hv q (List.mem_cons_of_mem _ hq))]
   by_cases h1 : j ∈ t.map Prod.fst
   ·rw [if_pos h1,if_pos (by rw [List.map_cons]; exact List.mem_cons_of_mem _ h1)]
   ·rw [if_neg h1]
    by_cases h2 : j = p.1
    ·rw [if_pos (by rw [List.map_cons,h2]; exact List.mem_cons_self),h2,hv p List.mem_cons_self]
     by_cases h3 : p.1 < b.tmps.size
     ·exact zaJ h3 _
     ·have h4:=hv p List.mem_cons_self
      have h5 : ¬ p.1 < a.tmps.size:=by rw [← hs]; exact h3
      simp only [Array.getD_eq_getD_getElem?] at h4 ⊢
      rw [Array.getElem?_eq_none (by omega)] at h4
      rw [Array.getElem?_eq_none (by rw [zfx]; omega)]
      exact h4
    ·rw [if_neg (by rw [List.map_cons]; intro h; rcases List.mem_cons.1 h with h | h; exact h2 h; exact h1 h)]
     exact rd_ne h2 _
theorem zcI.eq {D : List Nat} {a0 a : Act} (h : zcI D a0 a) (vs : List (Nat × Value)) (hD : vs.map Prod.fst = D) (hv : ∀ p ∈ vs,a.tmps.getD p.1 undef = p.2) : a = zcx vs a0:=by
 subst hD
 refine act_ext (h.1.trans (zga vs a0).2.symm) (h.2.1.trans (zga vs a0).1.symm) fun j => ?_
 rw [zlp vs a a0 h.2.1.symm hv j]
 by_cases h1 : j ∈ vs.map Prod.fst
 ·rw [if_pos h1]
 ·rw [if_neg h1]; exact h.2.2 j h1
section
variable {P : Program} {ops0 : Array Oper} {Q : Exit → Act → World → Prop} {md : Region.Mode} {S : World → Prop}
theorem zbA {J : Act → Array Bool → Act → World → Prop} {L : Array Bool} {a0 : Act} {l0 : Array Bool} {w0 : World} {fuel : Nat} (hd : due l0 = fuel) (h0 : J a0 l0 a0 w0)
  (hstep : ∀ (ops : Array Oper) (A0 : Act) (Q' : Exit → Act → World → Prop),ops = ops0 → A0.tmps.size = a0.tmps.size → (∀ i d,A0.tmps.getD i d = a0.tmps.getD i d) → (∀ l a w,J A0 l a w → Region.ready md ops l = [] → l = L) ∧ ∀ l a w i,J A0 l a w → l ≠ L → i ∈ Region.ready md ops l → wpOp P ops Q' i (fun a' w' => S w' ∧ J A0 (l.setIfInBounds i true) a' w') a w)
  (hgoal : ∀ a w,J a0 L a w → wpAnyH P md ops0 Q S (due L) L a w) : wpAnyH P md ops0 Q S fuel l0 a0 w0 :=
 zjs (hstep ops0 a0 Q rfl rfl (fun _ _ => rfl)).1 (hstep ops0 a0 Q rfl rfl (fun _ _ => rfl)).2 hgoal fuel l0 a0 w0 hd h0
theorem wpOp_go {ops : Array Oper} {i : Nat} {o : Oper} {K : Act → World → Prop} {a : Act} {w : World} (ho : ops[i]? = some o) (hg : o.guard = none)
  (h : ∀ K' : Act → World → Prop,Shut (∀ a w,K a w → K' a w) → Oper.wp P o a w K' Q) : wpOp P ops Q i K a w :=
 wpOp_step ho fun K' hK => by
  rw [if_pos (by unfold Region.wanted; rw [hg])]
  exact h K' hK
theorem zkE {o : Oper} {K : Act → World → Prop} {a : Act} {w w' : World} {v : Value} (h : (execOp a.eval o).run P w = .ok (.value v) w') (hK : K (a.put o.dst v) w') : Oper.wp P o a w K Q:=by
 unfold Oper.wp; rw [h]; exact hK
theorem zdI {o : Oper} {K : Act → World → Prop} {a : Act} {w : World} {v : Value} {x : Nat} (ho : o.op = .move (.tmp x) ∨ o.op = .assign (.tmp x)) (hx : a.tmps.getD x undef = v) (hK : K (a.put o.dst v) w) : Oper.wp P o a w K Q:=by
 refine zkE (v:=v) (w':=w) ?_ hK
 unfold execOp
 rcases ho with ho | ho <;> rw [ho] <;> simp only [Act.eval,hx] <;> rfl
theorem zaZ {o : Oper} {K : Act → World → Prop} {a : Act} {w : World} {v : Value} {x k : Nat} {vs : Array Value} (ho : o.op = .extract (.tmp x) k) (hx : a.tmps.getD x undef = .tuple vs) (hk : vs[k]? = some v) (hK : K (a.put o.dst v) w) : Oper.wp P o a w K Q:=by
 refine zkE (v:=v) (w':=w) ?_ hK
 unfold execOp
 rw [ho]
 simp only [Act.eval,hx,Instr.extract,hk]
 rfl
end
set_option maxRecDepth 100000
theorem zcn (x : Nat) (A : oA9) (n c : Nat) (w : World) (hA : zag w x A n c) (hn : n ≤ 1) :
  Calls Tryz.prog 111 #[.agg #[.slice A n c]] w fun e w' => e = .returned (.tuple #[.int .u64 (wd x 0 : Nat),.bool true]) ∧ Below w.heap.size w w':=by
 have WX:=(fun w' (h : Below w.heap.size w w') => zcF x A n c 0 w' (hA.below h))
 obtain ⟨a,ha⟩ : ∃ a,wd x 0 = a:=⟨_,rfl⟩
 rw [ha] at WX ⊢
 have HWX:=lh9 WX
 have h1 : decide ((1 : Int) < (n : Int)) = false:=by simp; omega
 have h2 : decide ((n : Int) > 1) = false:=by simp; omega
 have h3 : ¬ 1 < n:=by omega
 clear WX ha hA
 go_enter Tryz.func111,Tryz.ntmps111
 go_wp2_with fail
 obtain ⟨b1,b2,b5⟩:=zaL w 40 #[.slice A n c]
 refine (HWX.out _ b1).mono ?_
 rintro e w1 ⟨rfl,hb⟩
 have hB:=zac b1 hb
 clear hb b1 b2 b5
 go_wp2
 go_ret2
 exact ⟨rfl,hB⟩
theorem zbU (A : oA9) (n c : Nat) (w : World) (hn : 1 < n) :
  Calls Tryz.prog 111 #[.agg #[.slice A n c]] w fun e w' => e = .returned (.tuple #[.int .u64 0,.bool false]) ∧ Below w.heap.size w w':=by
 go_enter Tryz.func111,Tryz.ntmps111
 go_wp2
 go_ret2
 exact ⟨rfl,(Below.refl _ w).alloc (Nat.le_refl _) _⟩
def TW (x t : Nat) : Prop:=(x = 0 ∧ t = 0) ∨ ∃ m,x = 2 ^ t * (2 * m + 1)
def zbm (x : Nat) : Nat:=if x = 0 then 0 else Lib.ctzFrom x x
theorem zjp {x t : Nat} {m : Nat} (h : x = 2 ^ t * (2 * m + 1)) : x / 2 ^ t % 2 = 1:=by
 rw [h,Nat.mul_div_cancel_left _ (Nat.two_pow_pos t)]; omega
theorem tw_low {x t j : Nat} {m : Nat} (h : x = 2 ^ t * (2 * m + 1)) (hj : j < t) : x / 2 ^ j % 2 = 0:=by
 obtain ⟨s,rfl⟩ : ∃ s,t = j + (s + 1):=⟨t - j - 1,by omega⟩
 rw [h,Nat.pow_add,Nat.mul_assoc,Nat.mul_div_cancel_left _ (Nat.two_pow_pos j),Nat.pow_succ,Nat.mul_comm (2 ^ s) 2,Nat.mul_assoc]
 exact Nat.mul_mod_right _ _
theorem tw_pos {x t : Nat} {m : Nat} (h : x = 2 ^ t * (2 * m + 1)) : x ≠ 0:=by
 have:=Nat.two_pow_pos t
 rw [h]
 exact Nat.ne_of_gt (Nat.mul_pos this (by omega))
theorem tw_N (x : Nat) : TW x (zbm x):=by
 unfold TW zbm
 by_cases h : x = 0
 ·exact .inl ⟨h,by rw [if_pos h]⟩
 ·rw [if_neg h]
  obtain ⟨m,hm,_⟩:=Lib.ctzFrom_spec x x (by omega) Nat.lt_two_pow_self
  exact .inr ⟨m,hm⟩
theorem tw_find {x t : Nat} (hlow : ∀ j,j < t → x / 2 ^ j % 2 = 0) (hx : x = 0 → t = 0) (h1 : x ≠ 0 → x / 2 ^ t % 2 = 1) : t = zbm x:=by
 rcases tw_N x with ⟨e,h⟩ | ⟨m,h⟩
 ·rw [hx e,h]
 ·have h0:=tw_pos h
  rcases Nat.lt_trichotomy t (zbm x) with hl | hl | hl
  ·have:=tw_low h hl
   rw [h1 h0] at this; omega
  ·exact hl
  ·have:=zjp h
   rw [hlow _ hl] at this; omega
theorem tw_of {x t m : Nat} (h : x = 2 ^ t * (2 * m + 1)) : t = zbm x :=
 tw_find (fun j hj => tw_low h hj) (fun e => absurd e (tw_pos h)) (fun _ => zjp h)
theorem zmu {x k : Nat} (h0 : x % 18446744073709551616 ^ k = 0) (hw : wd x k ≠ 0) : 64 * k + Lib.ctz 64 (wd x k) = zbm x:=by
 have hlt:=zbC x k
 obtain ⟨m,hm,hc⟩:=Lib.ctzFrom_spec 64 (wd x k) (by omega) (by simpa using hlt)
 have ec : Lib.ctz 64 (wd x k) = Lib.ctzFrom 64 (wd x k):=by unfold Lib.ctz; rw [if_neg hw]
 rw [ec]
 generalize Lib.ctzFrom 64 (wd x k) = c at *
 obtain ⟨s,hs⟩ : ∃ s,64 = c + (s + 1):=⟨63 - c,by omega⟩
 obtain ⟨q,hq⟩ : ∃ q,x / 18446744073709551616 ^ k / 18446744073709551616 = q:=⟨_,rfl⟩
 have e1 : x / 18446744073709551616 ^ k = 18446744073709551616 * q + wd x k:=by rw [← hq]; exact (Nat.div_add_mod _ _).symm
 have e2 : x = 18446744073709551616 ^ k * (x / 18446744073709551616 ^ k):=by
  have:=Nat.div_add_mod x (18446744073709551616 ^ k)
  rw [h0] at this; omega
 have e3 : (18446744073709551616 : Nat) = 2 ^ c * (2 * 2 ^ s):=by
  rw [show (18446744073709551616 : Nat) = 2 ^ 64 from rfl,hs,Nat.pow_add,Nat.pow_succ,Nat.mul_comm (2 ^ s) 2]
 refine tw_of (m:=2 ^ s * q + m) ?_
 have e4 : (18446744073709551616 : Nat) ^ k = 2 ^ (64 * k):=by rw [show (18446744073709551616 : Nat) = 2 ^ 64 from rfl,← Nat.pow_mul]
 have e5 : 18446744073709551616 * q + wd x k = 2 ^ c * (2 * (2 ^ s * q + m) + 1):=by
  rw [hm]
  conv => lhs; rw [e3]
  rw [Nat.mul_assoc,← Nat.mul_add,Nat.mul_add 2,Nat.mul_assoc,Nat.add_assoc]
 rw [e2,e1,e5,e4,← Nat.mul_assoc,← Nat.pow_add]
theorem zhc (x : Nat) (A : oA9) (n c : Nat) (w : World) (hA : zag w x A n c) (hn : n ≤ 1099511627776) (hT : zan w) :
  Calls Tryz.prog 129 #[.agg #[.slice A n c]] w fun e w' => e = .returned (.int .i64 (zbm x : Nat)) ∧ Below w.heap.size w w':=by
 have hln:=lh9 hA.len
 have hr:=hA.1
 have HT:=lh9 (fun o => hT.on ((Below.refl _ w).alloc (Nat.le_refl _) o))
 have hcl : ∀ o,Hid (zas (w.alloc o) w.heap.size 1 A n (zat .u64 (dg 18446744073709551616 x))):=fun o => hr.alloc (Nat.le_refl _) o
 have HC:=lh9 hcl
 clear hA hT hcl hr
 go_enter Tryz.func129,Tryz.ntmps129
 go_wp2_with fail
 go_loop [3,4,8] (fun _ _ ix => ∃ k : Nat,k ≤ n ∧ ix = .int .i64 k ∧ Hid (x % 18446744073709551616 ^ k = 0)) (fun _ _ ix => n - (intOf ix).toNat)
 case atStart => exact ⟨0,Nat.zero_le _,rfl,by show _ = _; simp [Nat.mod_one]⟩
 case round =>
  obtain ⟨k,hk,rfl,H⟩:=hrel
  by_cases hlt : k < n
  ·obtain ⟨ad,rfl,hadb,hc0⟩:=zbe (HC.out (.cells #[.slice A n c] 40)).out hlt
   rw [zdv] at hc0
   by_cases hz : wd x k = 0
   ·have HN : Hid (x % 18446744073709551616 ^ (k + 1) = 0):=by
     show _ = _
     rw [zaG 18446744073709551616 x k,H.out,Nat.zero_add]
     unfold wd at hz
     rw [hz,Nat.mul_zero]
    rw [hz] at hc0
    clear hz
    go_wp2
    go_round
    case rel => exact ⟨k + 1,by omega,by go_num,HN⟩
    case measure => simp [intOf]; omega
   ·have HV:=lh9 (zmu H.out hz)
    have hwl:=zbC x k
    have WT:=(fun w' (h : zan w') => zlJ ((wd x k : Nat) : Int) ⟨by omega,by omega⟩ w' h)
    have hbd:=ctz_le (wd x k) (by simpa using hwl)
    have et : zff ((wd x k : Nat) : Int) = ((Lib.ctz 64 (wd x k) : Nat) : Int):=by unfold zff; simp
    rw [et] at WT
    obtain ⟨t,ht⟩ : ∃ t,Lib.ctz 64 (wd x k) = t:=⟨_,rfl⟩
    rw [ht] at WT HV hbd
    obtain ⟨a,ha⟩ : ∃ a,wd x k = a:=⟨_,rfl⟩
    rw [ha] at hc0 WT hz
    have hWT:=lh9 WT
    have hz' : ((a : Int) == 0) = false:=beq_eq_false_iff_ne.2 (by omega)
    have hz2 : ((a : Int) != 0) = true:=by simp; omega
    clear WT ht ha et hz hwl
    go_wp2_with fail
    refine (hWT.out _ (HT.out _)).mono ?_
    rintro e w' ⟨rfl,rfl⟩
    go_wp2
    go_ret
    refine ⟨zjh ?_,(Below.refl _ w).alloc (Nat.le_refl _) _⟩
    have:=HV.out
    omega
  ·have hkn : k = n:=by omega
   subst hkn
   have HX : Hid (zbm x = 0):=by
    show _ = _
    have h1:=zaH (b:=18446744073709551616) (by decide) x
    rw [hln.out] at h1
    have h2:=H.out
    rw [Nat.mod_eq_of_lt h1] at h2
    rw [h2]; rfl
   go_wp2
   go_ret
   exact ⟨by rw [HX.out]; rfl,(Below.refl _ w).alloc (Nat.le_refl _) _⟩
end Go.Proofs.YtkiedljcgkoaiaaGreatDoor
