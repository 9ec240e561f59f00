/- What this claim leans on. -/
import Derived.Test.YtkiedljcgkoaiaaGreatDoorXBunZ
namespace Go.Proofs.YtkiedljcgkoaiaaGreatDoor
open Go Go.RowKit
set_option maxHeartbeats 16000000
set_option maxRecDepth 100000
set_option linter.unusedVariables false
theorem zbN (x : Nat) (A : oA9) (n c : Nat) (w : World) (hA : zad w x A n c) (hn : n ≤ 1) :
  Calls Tryz.prog 111 #[.agg #[.slice A n c]] w fun e w' => e = .returned (.tuple #[.int .u64 (wd x 0 : Nat),.bool true]) ∧ Below w.heap.size w w':=by
 have WX:=(fun w' (h : Below w.heap.size w w') => zcb x A n c 0 w' (hA.below h))
 obtain ⟨a,ha⟩ : ∃ a,wd x 0 = a:=⟨_,rfl⟩
 rw [ha] at WX ⊢
 have HWX:=lh9 WX
 have h1 : decide ((1 : Int) < (n : Int)) = false:=by simp; omega
 have h2 : decide ((n : Int) > 1) = false:=by simp; omega
 have h3 : ¬ 1 < n:=by omega
 clear WX ha hA
 go_enter Tryz.func111,Tryz.ntmps111
 go_wp2_with fail
 obtain ⟨b1,b2,b5⟩:=zaG w 40 #[.slice A n c]
 refine (HWX.out _ b1).mono ?_
 rintro e w1 ⟨rfl,hb⟩
 have hB:=zaa b1 hb
 clear hb b1 b2 b5
 go_wp2
 go_ret2
 exact ⟨rfl,hB⟩
theorem zbD (A : oA9) (n c : Nat) (w : World) (hn : 1 < n) :
  Calls Tryz.prog 111 #[.agg #[.slice A n c]] w fun e w' => e = .returned (.tuple #[.int .u64 0,.bool false]) ∧ Below w.heap.size w w':=by
 go_enter Tryz.func111,Tryz.ntmps111
 go_wp2
 go_ret2
 exact ⟨rfl,(Below.refl _ w).alloc (Nat.le_refl _) _⟩
def TW (x t : Nat) : Prop:=(x = 0 ∧ t = 0) ∨ ∃ m,x = 2 ^ t * (2 * m + 1)
def zaU (x : Nat) : Nat:=if x = 0 then 0 else Lib.ctzFrom x x
theorem zhy {x t : Nat} {m : Nat} (h : x = 2 ^ t * (2 * m + 1)) : x / 2 ^ t % 2 = 1:=by
 rw [h,Nat.mul_div_cancel_left _ (Nat.two_pow_pos t)]; omega
theorem tw_low {x t j : Nat} {m : Nat} (h : x = 2 ^ t * (2 * m + 1)) (hj : j < t) : x / 2 ^ j % 2 = 0:=by
 obtain ⟨s,rfl⟩ : ∃ s,t = j + (s + 1):=⟨t - j - 1,by omega⟩
 rw [h,Nat.pow_add,Nat.mul_assoc,Nat.mul_div_cancel_left _ (Nat.two_pow_pos j),Nat.pow_succ,Nat.mul_comm (2 ^ s) 2,Nat.mul_assoc]
 exact Nat.mul_mod_right _ _
theorem tw_pos {x t : Nat} {m : Nat} (h : x = 2 ^ t * (2 * m + 1)) : x ≠ 0:=by
 have:=Nat.two_pow_pos t
 rw [h]
 exact Nat.ne_of_gt (Nat.mul_pos this (by omega))
theorem tw_N (x : Nat) : TW x (zaU x):=by
 unfold TW zaU
 by_cases h : x = 0
 ·exact .inl ⟨h,by rw [if_pos h]⟩
 ·rw [if_neg h]
  obtain ⟨m,hm,_⟩:=Lib.ctzFrom_spec x x (by omega) Nat.lt_two_pow_self
  exact .inr ⟨m,hm⟩
theorem tw_find {x t : Nat} (hlow : ∀ j,j < t → x / 2 ^ j % 2 = 0) (hx : x = 0 → t = 0) (h1 : x ≠ 0 → x / 2 ^ t % 2 = 1) : t = zaU x:=by
 rcases tw_N x with ⟨e,h⟩ | ⟨m,h⟩
 ·rw [hx e,h]
 ·have h0:=tw_pos h
  rcases Nat.lt_trichotomy t (zaU x) with hl | hl | hl
  ·have:=tw_low h hl
   rw [h1 h0] at this; omega
  ·exact hl
  ·have:=zhy h
   rw [hlow _ hl] at this; omega
theorem tw_of {x t m : Nat} (h : x = 2 ^ t * (2 * m + 1)) : t = zaU x :=
 tw_find (fun j hj => tw_low h hj) (fun e => absurd e (tw_pos h)) (fun _ => zhy h)
theorem zkj {x k : Nat} (h0 : x % 18446744073709551616 ^ k = 0) (hw : wd x k ≠ 0) : 64 * k + Lib.ctz 64 (wd x k) = zaU x:=by
 have hlt:=zbn x k
 obtain ⟨m,hm,hc⟩:=Lib.ctzFrom_spec 64 (wd x k) (by omega) (by simpa using hlt)
 have ec : Lib.ctz 64 (wd x k) = Lib.ctzFrom 64 (wd x k):=by unfold Lib.ctz; rw [if_neg hw]
 rw [ec]
 generalize Lib.ctzFrom 64 (wd x k) = c at *
 obtain ⟨s,hs⟩ : ∃ s,64 = c + (s + 1):=⟨63 - c,by omega⟩
 obtain ⟨q,hq⟩ : ∃ q,x / 18446744073709551616 ^ k / 18446744073709551616 = q:=⟨_,rfl⟩
 have e1 : x / 18446744073709551616 ^ k = 18446744073709551616 * q + wd x k:=by rw [← hq]; exact (Nat.div_add_mod _ _).symm
 have e2 : x = 18446744073709551616 ^ k * (x / 18446744073709551616 ^ k):=by
  have:=Nat.div_add_mod x (18446744073709551616 ^ k)
  rw [h0] at this; omega
 have e3 : (18446744073709551616 : Nat) = 2 ^ c * (2 * 2 ^ s):=by
  rw [show (18446744073709551616 : Nat) = 2 ^ 64 from rfl,hs,Nat.pow_add,Nat.pow_succ,Nat.mul_comm (2 ^ s) 2]
 refine tw_of (m:=2 ^ s * q + m) ?_
 have e4 : (18446744073709551616 : Nat) ^ k = 2 ^ (64 * k):=by rw [show (18446744073709551616 : Nat) = 2 ^ 64 from rfl,← Nat.pow_mul]
 have e5 : 18446744073709551616 * q + wd x k = 2 ^ c * (2 * (2 ^ s * q + m) + 1):=by
  rw [hm]
  conv => lhs; rw [e3]
  rw [Nat.mul_assoc,← Nat.mul_add,Nat.mul_add 2,Nat.mul_assoc,Nat.add_assoc]
 rw [e2,e1,e5,e4,← Nat.mul_assoc,← Nat.pow_add]
theorem zfX (x : Nat) (A : oA9) (n c : Nat) (w : World) (hA : zad w x A n c) (hn : n ≤ 1099511627776) (hT : zaj w) :
  Calls Tryz.prog 129 #[.agg #[.slice A n c]] w fun e w' => e = .returned (.int .i64 (zaU x : Nat)) ∧ Below w.heap.size w w':=by
 have hln:=lh9 hA.len
 have hr:=hA.1
 have HT:=lh9 (fun o => hT.on ((Below.refl _ w).alloc (Nat.le_refl _) o))
 have hcl : ∀ o,Hid (zaq (w.alloc o) w.heap.size 1 A n (zas .u64 (dg 18446744073709551616 x))):=fun o => hr.alloc (Nat.le_refl _) o
 have HC:=lh9 hcl
 clear hA hT hcl hr
 go_enter Tryz.func129,Tryz.ntmps129
 go_wp2_with fail
 go_loop [3,4,8] (fun _ _ ix => ∃ k : Nat,k ≤ n ∧ ix = .int .i64 k ∧ Hid (x % 18446744073709551616 ^ k = 0)) (fun _ _ ix => n - (intOf ix).toNat)
 case atStart => exact ⟨0,Nat.zero_le _,rfl,by show _ = _; simp [Nat.mod_one]⟩
 case round =>
  obtain ⟨k,hk,rfl,H⟩:=hrel
  by_cases hlt : k < n
  ·obtain ⟨ad,rfl,hadb,hc0⟩:=zbS (HC.out (.cells #[.slice A n c] 40)).out hlt
   rw [zcH] at hc0
   by_cases hz : wd x k = 0
   ·have HN : Hid (x % 18446744073709551616 ^ (k + 1) = 0):=by
     show _ = _
     rw [zaB 18446744073709551616 x k,H.out,Nat.zero_add]
     unfold wd at hz
     rw [hz,Nat.mul_zero]
    rw [hz] at hc0
    clear hz
    go_wp2
    go_round
    case rel => exact ⟨k + 1,by omega,by go_num,HN⟩
    case measure => simp [intOf]; omega
   ·have HV:=lh9 (zkj H.out hz)
    have hwl:=zbn x k
    have WT:=(fun w' (h : zaj w') => zjE ((wd x k : Nat) : Int) ⟨by omega,by omega⟩ w' h)
    have hbd:=ctz_le (wd x k) (by simpa using hwl)
    have et : zeo ((wd x k : Nat) : Int) = ((Lib.ctz 64 (wd x k) : Nat) : Int):=by unfold zeo; simp
    rw [et] at WT
    obtain ⟨t,ht⟩ : ∃ t,Lib.ctz 64 (wd x k) = t:=⟨_,rfl⟩
    rw [ht] at WT HV hbd
    obtain ⟨a,ha⟩ : ∃ a,wd x k = a:=⟨_,rfl⟩
    rw [ha] at hc0 WT hz
    have hWT:=lh9 WT
    have hz' : ((a : Int) == 0) = false:=beq_eq_false_iff_ne.2 (by omega)
    have hz2 : ((a : Int) != 0) = true:=by simp; omega
    clear WT ht ha et hz hwl
    go_wp2_with fail
    refine (hWT.out _ (HT.out _)).mono ?_
    rintro e w' ⟨rfl,rfl⟩
    go_wp2
    go_ret
    refine ⟨ret_i64 ?_,(Below.refl _ w).alloc (Nat.le_refl _) _⟩
    have:=HV.out
    omega
  ·have hkn : k = n:=by omega
   subst hkn
   have HX : Hid (zaU x = 0):=by
    show _ = _
    have h1:=zaT (b:=18446744073709551616) (by decide) x
    rw [hln.out] at h1
    have h2:=H.out
    rw [Nat.mod_eq_of_lt h1] at h2
    rw [h2]; rfl
   go_wp2
   go_ret
   exact ⟨by rw [HX.out]; rfl,(Below.refl _ w).alloc (Nat.le_refl _) _⟩
end Go.Proofs.YtkiedljcgkoaiaaGreatDoor
