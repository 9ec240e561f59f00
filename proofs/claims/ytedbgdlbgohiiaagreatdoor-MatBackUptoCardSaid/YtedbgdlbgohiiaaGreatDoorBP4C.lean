/- What this claim leans on. -/
import Derived.Test.YtedbgdlbgohiiaaGreatDoorBBunT
import Derived.Deep.RegionHeld
namespace Go.Proofs.YtedbgdlbgohiiaaGreatDoor
open Go Go.RowKit
set_option maxHeartbeats 16000000
set_option linter.unusedVariables false
def zcd (w : World) (q r : Nat) (b : Bool) (e : Ending) (w' : World) : Prop:=∃ (A : oA9) (n c : Nat) (B : oA9) (m d : Nat),e = .returned (.tuple #[.agg #[.slice A n c],.agg #[.slice B m d],.bool b]) ∧ zad w' q A n c ∧ zad w' r B m d ∧ Below w.heap.size w w'
def zdG (w : World) (x : Nat) (b : Bool) (e : Ending) (w' : World) : Prop:=∃ (A : oA9) (n c : Nat),e = .returned (.tuple #[.agg #[.slice A n c],.bool b]) ∧ zad w' x A n c ∧ Below w.heap.size w w'
def zfk (w : World) (q x : Nat) (b : Bool) (e : Ending) (w' : World) : Prop:=∃ (A : oA9) (n c : Nat),e = .returned (.tuple #[.agg #[.slice A n c],.int .u64 (x : Int),.bool b]) ∧ zad w' q A n c ∧ Below w.heap.size w w'
structure QuotC : Prop where
 divMod : ∀ (x y : Nat) (A D : oA9) (n m c d : Nat) (w : World),zad w x A n c → zad w y D m d → n ≤ 1073741824 → m ≤ 1073741824 → y ≠ 0 → Calls Tryz.prog 170 #[.agg #[.slice A n c],.agg #[.slice D m d]] w (zcd w (x / y) (x % y) true)
 divModNo : ∀ (x y : Nat) (A D : oA9) (n m c d : Nat) (w : World),zad w x A n c → zad w y D m d → n ≤ 1073741824 → m ≤ 1073741824 → y = 0 → Calls Tryz.prog 170 #[.agg #[.slice A n c],.agg #[.slice D m d]] w (zcd w 0 0 false)
 div : ∀ (x y : Nat) (A D : oA9) (n m c d : Nat) (w : World),zad w x A n c → zad w y D m d → n ≤ 1073741824 → m ≤ 1073741824 → y ≠ 0 → Calls Tryz.prog 151 #[.agg #[.slice A n c],.agg #[.slice D m d]] w (zdG w (x / y) true)
 mod : ∀ (x y : Nat) (A D : oA9) (n m c d : Nat) (w : World),zad w x A n c → zad w y D m d → n ≤ 1073741824 → m ≤ 1073741824 → y ≠ 0 → Calls Tryz.prog 178 #[.agg #[.slice A n c],.agg #[.slice D m d]] w (zdG w (x % y) true)
 byWord : ∀ (x a : Nat) (A : oA9) (n c : Nat) (w : World),zad w x A n c → n ≤ 1073741824 → a < 18446744073709551616 → a ≠ 0 → Calls Tryz.prog 182 #[.agg #[.slice A n c],.int .u64 a] w (zfk w (x / a) (x % a) true)
 byWordNo : ∀ (x : Nat) (A : oA9) (n c : Nat) (w : World),zad w x A n c → n ≤ 1073741824 → Calls Tryz.prog 182 #[.agg #[.slice A n c],.int .u64 0] w (zfk w 0 0 false)
theorem zeW (a : Int) (g : Nat) : (a / (g : Int)).natAbs ≤ a.natAbs:=by
 rcases Nat.eq_zero_or_pos g with rfl | hg
 ·simp
 ·exact Int.natAbs_ediv_le_natAbs a g
theorem zlv (a b : Rat) : (a + b).num.natAbs ≤ a.num.natAbs * b.den + b.num.natAbs * a.den:=by
 rw [Rat.num_add]
 refine Nat.le_trans (zeW _ _) (Nat.le_trans (Int.natAbs_add_le _ _) ?_)
 rw [Int.natAbs_mul,Int.natAbs_mul,Int.natAbs_natCast,Int.natAbs_natCast]
 exact Nat.le_refl _
theorem zkV (a b : Rat) : (a + b).den ≤ a.den * b.den:=by rw [Rat.den_add]; exact Nat.div_le_self _ _
theorem zlw (a b : Rat) : (a * b).num.natAbs ≤ a.num.natAbs * b.num.natAbs:=by
 rw [Rat.num_mul]
 refine Nat.le_trans (zeW _ _) ?_
 rw [Int.natAbs_mul]
 exact Nat.le_refl _
theorem zkW (a b : Rat) : (a * b).den ≤ a.den * b.den:=by rw [Rat.den_mul]; exact Nat.div_le_self _ _
theorem zhV (p q : Int) : (Rat.divInt p q).num.natAbs ≤ p.natAbs:=by
 rw [Rat.num_divInt]
 refine Nat.le_trans (zeW _ _) ?_
 rw [Int.natAbs_mul]
 by_cases h : q = 0
 ·simp [h]
 ·rw [Int.natAbs_sign_of_ne_zero h,Nat.one_mul]; exact Nat.le_refl _
def LtQ (b : Nat) (r : Rat) : Prop:=r.num.natAbs < b ∧ r.den < b
theorem LtQ.up {b b' : Nat} {r : Rat} (h : LtQ b r) (hb : b ≤ b') : LtQ b' r:=⟨Nat.lt_of_lt_of_le h.1 hb,Nat.lt_of_lt_of_le h.2 hb⟩
theorem LtQ.add {b b' : Nat} {r s : Rat} (h : LtQ b r) (h' : LtQ b' s) : LtQ (2 * (b * b')) (r + s):=by
 have h1 : r.num.natAbs * s.den < b * b':=Nat.mul_lt_mul'' h.1 h'.2
 have h2 : s.num.natAbs * r.den < b * b':=by rw [Nat.mul_comm b b']; exact Nat.mul_lt_mul'' h'.1 h.2
 have h3 : r.den * s.den < b * b':=Nat.mul_lt_mul'' h.2 h'.2
 have h4:=zlv r s
 have h5:=zkV r s
 exact ⟨by omega,by omega⟩
theorem LtQ.mul {b b' : Nat} {r s : Rat} (h : LtQ b r) (h' : LtQ b' s) : LtQ (b * b') (r * s) :=
 ⟨Nat.lt_of_le_of_lt (zlw r s) (Nat.mul_lt_mul'' h.1 h'.1),Nat.lt_of_le_of_lt (zkW r s) (Nat.mul_lt_mul'' h.2 h'.2)⟩
theorem LtQ.neg {b : Nat} {r : Rat} (h : LtQ b r) : LtQ b (-r):=⟨by rw [Rat.neg_num,Int.natAbs_neg]; exact h.1,h.2⟩
theorem LtQ.made {b : Nat} {p q : Int} (hp : p.natAbs < b) (hq : q.natAbs < b) (hb : 1 < b) : LtQ b (Rat.divInt p q):=by
 refine ⟨Nat.lt_of_le_of_lt (zhV p q) hp,?_⟩
 rw [Rat.den_divInt]
 split
 ·exact hb
 ·exact Nat.lt_of_le_of_lt (Nat.div_le_self _ _) hq
theorem LtQ.whole {b : Nat} {z : Int} (hz : z.natAbs < b) (hb : 1 < b) : LtQ b (z : Rat):=⟨by rw [Rat.num_intCast]; exact hz,by rw [Rat.den_intCast]; exact hb⟩
def zeU (r s : Rat) : Int:=if r < s then -1 else if r = s then 0 else 1
theorem zkS (r s : Rat) : zeU r s = zfW (r.num * s.den) (s.num * r.den):=by
 unfold zeU zfW
 by_cases h1 : r < s
 ·rw [if_pos h1,if_pos ((Rat.lt_iff r s).1 h1)]
 ·rw [if_neg h1,if_neg (fun h => h1 ((Rat.lt_iff r s).2 h))]
  by_cases h2 : r = s
  ·rw [if_pos h2,if_pos (Rat.eq_iff_mul_eq_mul.1 h2)]
  ·rw [if_neg h2,if_neg (fun h => h2 (Rat.eq_iff_mul_eq_mul.2 h))]
theorem cmpQ_eq (r s : Rat) : zeU r s = 0 ↔ r = s:=by
 unfold zeU
 by_cases h1 : r < s
 ·rw [if_pos h1]
  constructor
  ·intro h; omega
  ·intro h; exact absurd h (Rat.ne_of_lt h1)
 ·rw [if_neg h1]
  by_cases h2 : r = s <;> simp [h2]
def sgnQ (r : Rat) : Int:=zgC r.num
theorem made_num (p q : Int) (hq : q ≠ 0) : (Rat.divInt p q).num.natAbs = p.natAbs / Nat.gcd p.natAbs q.natAbs:=by
 rw [Rat.num_divInt,Int.gcd]
 have hd : (Nat.gcd q.natAbs p.natAbs : Int) ∣ q.sign * p:=Int.dvd_trans (Int.ofNat_dvd_left.2 (Nat.gcd_dvd_right ..)) (Int.dvd_mul_left ..)
 rw [Int.natAbs_ediv_of_dvd hd,Int.natAbs_mul,Int.natAbs_sign_of_ne_zero hq,Nat.one_mul,Int.natAbs_natCast,Nat.gcd_comm]
theorem made_den (p q : Int) (hq : q ≠ 0) : (Rat.divInt p q).den = q.natAbs / Nat.gcd p.natAbs q.natAbs:=by
 rw [Rat.den_divInt,if_neg hq,Int.gcd,Nat.gcd_comm]
theorem znc (p q : Int) (hq : q ≠ 0) : (Rat.divInt p q).num < 0 ↔ (p < 0 ∧ 0 < q ∨ 0 < p ∧ q < 0):=by
 rw [Rat.num_divInt]
 have hg0 : 0 < (q.gcd p : Int):=by
  have : 0 < q.gcd p:=Int.gcd_pos_of_ne_zero_left p hq
  omega
 have e : q.sign * p / (q.gcd p : Int) < 0 ↔ q.sign * p < 0:=by
  constructor
  ·intro h
   refine Int.not_le.1 fun h1 => ?_
   have:=Int.ediv_nonneg h1 (Int.le_of_lt hg0)
   omega
  ·intro h
   exact Int.ediv_neg_of_neg_of_pos h hg0
 rw [e]
 rcases Int.lt_or_gt_of_ne hq with h | h
 ·rw [Int.sign_eq_neg_one_of_neg h]; omega
 ·rw [Int.sign_eq_one_of_pos h]; omega
set_option maxRecDepth 100000
theorem zcp (x : Nat) (A : oA9) (n c : Nat) (w : World) (hA : zad w x A n c) (hn : n ≤ 1) :
  Calls Tryz.prog 152 #[.agg #[.slice A n c]] w fun e w' => e = .returned (.tuple #[.int .u64 (wd x 0 : Nat),.bool true]) ∧ Below w.heap.size w w':=by
 have WX:=(fun w' (h : Below w.heap.size w w') => zcG x A n c 0 w' (hA.below h))
 obtain ⟨a,ha⟩ : ∃ a,wd x 0 = a:=⟨_,rfl⟩
 rw [ha] at WX ⊢
 have HWX:=lh9 WX
 have h1 : decide ((1 : Int) < (n : Int)) = false:=by simp; omega
 have h2 : decide ((n : Int) > 1) = false:=by simp; omega
 have h3 : ¬ 1 < n:=by omega
 clear WX ha hA
 go_enter Tryz.func152,Tryz.ntmps152
 go_wp2_with fail
 obtain ⟨b1,b2,b5⟩:=zaC w 44 #[.slice A n c]
 refine (HWX.out _ b1).mono ?_
 rintro e w1 ⟨rfl,hb⟩
 have hB:=zaa b1 hb
 clear hb b1 b2 b5
 go_wp2
 go_ret2
 exact ⟨rfl,hB⟩
theorem zcc (A : oA9) (n c : Nat) (w : World) (hn : 1 < n) :
  Calls Tryz.prog 152 #[.agg #[.slice A n c]] w fun e w' => e = .returned (.tuple #[.int .u64 0,.bool false]) ∧ Below w.heap.size w w':=by
 go_enter Tryz.func152,Tryz.ntmps152
 go_wp2
 go_ret2
 exact ⟨rfl,(Below.refl _ w).alloc (Nat.le_refl _) _⟩
def TW (x t : Nat) : Prop:=(x = 0 ∧ t = 0) ∨ ∃ m,x = 2 ^ t * (2 * m + 1)
def zbj (x : Nat) : Nat:=if x = 0 then 0 else Lib.ctzFrom x x
theorem zjt {x t : Nat} {m : Nat} (h : x = 2 ^ t * (2 * m + 1)) : x / 2 ^ t % 2 = 1:=by
 rw [h,Nat.mul_div_cancel_left _ (Nat.two_pow_pos t)]; omega
theorem tw_low {x t j : Nat} {m : Nat} (h : x = 2 ^ t * (2 * m + 1)) (hj : j < t) : x / 2 ^ j % 2 = 0:=by
 obtain ⟨s,rfl⟩ : ∃ s,t = j + (s + 1):=⟨t - j - 1,by omega⟩
 rw [h,Nat.pow_add,Nat.mul_assoc,Nat.mul_div_cancel_left _ (Nat.two_pow_pos j),Nat.pow_succ,Nat.mul_comm (2 ^ s) 2,Nat.mul_assoc]
 exact Nat.mul_mod_right _ _
theorem tw_pos {x t : Nat} {m : Nat} (h : x = 2 ^ t * (2 * m + 1)) : x ≠ 0:=by
 have:=Nat.two_pow_pos t
 rw [h]
 exact Nat.ne_of_gt (Nat.mul_pos this (by omega))
theorem tw_N (x : Nat) : TW x (zbj x):=by
 unfold TW zbj
 by_cases h : x = 0
 ·exact .inl ⟨h,by rw [if_pos h]⟩
 ·rw [if_neg h]
  obtain ⟨m,hm,_⟩:=Lib.ctzFrom_spec x x (by omega) Nat.lt_two_pow_self
  exact .inr ⟨m,hm⟩
theorem tw_find {x t : Nat} (hlow : ∀ j,j < t → x / 2 ^ j % 2 = 0) (hx : x = 0 → t = 0) (h1 : x ≠ 0 → x / 2 ^ t % 2 = 1) : t = zbj x:=by
 rcases tw_N x with ⟨e,h⟩ | ⟨m,h⟩
 ·rw [hx e,h]
 ·have h0:=tw_pos h
  rcases Nat.lt_trichotomy t (zbj x) with hl | hl | hl
  ·have:=tw_low h hl
   rw [h1 h0] at this; omega
  ·exact hl
  ·have:=zjt h
   rw [hlow _ hl] at this; omega
theorem tw_of {x t m : Nat} (h : x = 2 ^ t * (2 * m + 1)) : t = zbj x :=
 tw_find (fun j hj => tw_low h hj) (fun e => absurd e (tw_pos h)) (fun _ => zjt h)
theorem zmB {x k : Nat} (h0 : x % 18446744073709551616 ^ k = 0) (hw : wd x k ≠ 0) : 64 * k + Lib.ctz 64 (wd x k) = zbj x:=by
 have hlt:=zbI x k
 obtain ⟨m,hm,hc⟩:=Lib.ctzFrom_spec 64 (wd x k) (by omega) (by simpa using hlt)
 have ec : Lib.ctz 64 (wd x k) = Lib.ctzFrom 64 (wd x k):=by unfold Lib.ctz; rw [if_neg hw]
 rw [ec]
 generalize Lib.ctzFrom 64 (wd x k) = c at *
 obtain ⟨s,hs⟩ : ∃ s,64 = c + (s + 1):=⟨63 - c,by omega⟩
 obtain ⟨q,hq⟩ : ∃ q,x / 18446744073709551616 ^ k / 18446744073709551616 = q:=⟨_,rfl⟩
 have e1 : x / 18446744073709551616 ^ k = 18446744073709551616 * q + wd x k:=by rw [← hq]; exact (Nat.div_add_mod _ _).symm
 have e2 : x = 18446744073709551616 ^ k * (x / 18446744073709551616 ^ k):=by
  have:=Nat.div_add_mod x (18446744073709551616 ^ k)
  rw [h0] at this; omega
 have e3 : (18446744073709551616 : Nat) = 2 ^ c * (2 * 2 ^ s):=by
  rw [show (18446744073709551616 : Nat) = 2 ^ 64 from rfl,hs,Nat.pow_add,Nat.pow_succ,Nat.mul_comm (2 ^ s) 2]
 refine tw_of (m:=2 ^ s * q + m) ?_
 have e4 : (18446744073709551616 : Nat) ^ k = 2 ^ (64 * k):=by rw [show (18446744073709551616 : Nat) = 2 ^ 64 from rfl,← Nat.pow_mul]
 have e5 : 18446744073709551616 * q + wd x k = 2 ^ c * (2 * (2 ^ s * q + m) + 1):=by
  rw [hm]
  conv => lhs; rw [e3]
  rw [Nat.mul_assoc,← Nat.mul_add,Nat.mul_add 2,Nat.mul_assoc,Nat.add_assoc]
 rw [e2,e1,e5,e4,← Nat.mul_assoc,← Nat.pow_add]
theorem zho (x : Nat) (A : oA9) (n c : Nat) (w : World) (hA : zad w x A n c) (hn : n ≤ 1099511627776) (hT : zaj w) :
  Calls Tryz.prog 169 #[.agg #[.slice A n c]] w fun e w' => e = .returned (.int .i64 (zbj x : Nat)) ∧ Below w.heap.size w w':=by
 have hln:=lh9 hA.len
 have hr:=hA.1
 have HT:=lh9 (fun o => hT.on ((Below.refl _ w).alloc (Nat.le_refl _) o))
 have hcl : ∀ o,Hid (zap (w.alloc o) w.heap.size 1 A n (zaw .u64 (dg 18446744073709551616 x))):=fun o => hr.alloc (Nat.le_refl _) o
 have HC:=lh9 hcl
 clear hA hT hcl hr
 go_enter Tryz.func169,Tryz.ntmps169
 go_wp2_with fail
 go_loop [3,4,8] (fun _ _ ix => ∃ k : Nat,k ≤ n ∧ ix = .int .i64 k ∧ Hid (x % 18446744073709551616 ^ k = 0)) (fun _ _ ix => n - (intOf ix).toNat)
 case atStart => exact ⟨0,Nat.zero_le _,rfl,by show _ = _; simp [Nat.mod_one]⟩
 case round =>
  obtain ⟨k,hk,rfl,H⟩:=hrel
  by_cases hlt : k < n
  ·obtain ⟨ad,rfl,hadb,hc0⟩:=zcx (HC.out (.cells #[.slice A n c] 44)).out hlt
   rw [zdr] at hc0
   by_cases hz : wd x k = 0
   ·have HN : Hid (x % 18446744073709551616 ^ (k + 1) = 0):=by
     show _ = _
     rw [zaL 18446744073709551616 x k,H.out,Nat.zero_add]
     unfold wd at hz
     rw [hz,Nat.mul_zero]
    rw [hz] at hc0
    clear hz
    go_wp2
    go_round
    case rel => exact ⟨k + 1,by omega,by go_num,HN⟩
    case measure => simp [intOf]; omega
   ·have HV:=lh9 (zmB H.out hz)
    have hwl:=zbI x k
    have WT:=(fun w' (h : zaj w') => zlW ((wd x k : Nat) : Int) ⟨by omega,by omega⟩ w' h)
    have hbd:=ctz_le (wd x k) (by simpa using hwl)
    have et : zff ((wd x k : Nat) : Int) = ((Lib.ctz 64 (wd x k) : Nat) : Int):=by unfold zff; simp
    rw [et] at WT
    obtain ⟨t,ht⟩ : ∃ t,Lib.ctz 64 (wd x k) = t:=⟨_,rfl⟩
    rw [ht] at WT HV hbd
    obtain ⟨a,ha⟩ : ∃ a,wd x k = a:=⟨_,rfl⟩
    rw [ha] at hc0 WT hz
    have hWT:=lh9 WT
    have hz' : ((a : Int) == 0) = false:=beq_eq_false_iff_ne.2 (by omega)
    have hz2 : ((a : Int) != 0) = true:=by simp; omega
    clear WT ht ha et hz hwl
    go_wp2_with fail
    refine (hWT.out _ (HT.out _)).mono ?_
    rintro e w' ⟨rfl,rfl⟩
    go_wp2
    go_ret
    refine ⟨ret_i64 ?_,(Below.refl _ w).alloc (Nat.le_refl _) _⟩
    have:=HV.out
    omega
  ·have hkn : k = n:=by omega
   subst hkn
   have HX : Hid (zbj x = 0):=by
    show _ = _
    have h1:=zbi (b:=18446744073709551616) (by decide) x
    rw [hln.out] at h1
    have h2:=H.out
    rw [Nat.mod_eq_of_lt h1] at h2
    rw [h2]; rfl
   go_wp2
   go_ret
   exact ⟨by rw [HX.out]; rfl,(Below.refl _ w).alloc (Nat.le_refl _) _⟩
def zcl (w : World) (x : Nat) (e : Ending) (w' : World) : Prop:=∃ (A : oA9) (n c : Nat),e = .returned (.agg #[.slice A n c]) ∧ zad w' x A n c ∧ Below w.heap.size w w'
def ziK (w : World) (x y : Nat) (e : Ending) (w' : World) : Prop:=∃ (A : oA9) (n c : Nat) (B : oA9) (m d : Nat),e = .returned (.tuple #[.agg #[.slice A n c],.agg #[.slice B m d]]) ∧ zad w' x A n c ∧ zad w' y B m d ∧ Below w.heap.size w w'
theorem Sz.gcd {K K' x y : Nat} (h : Sz K x) (h' : Sz K' y) : Sz (K + K') (Nat.gcd x y):=by
 rcases Nat.eq_zero_or_pos x with e | e
 ·rw [e,Nat.gcd_zero_left]; exact h'.up (by omega)
 ·exact (h.of_le (Nat.gcd_le_left y e)).up (by omega)
structure GcdC : Prop where
 of : ∀ (x y : Nat) (A D : oA9) (n m c d : Nat) (w : World),zad w x A n c → zad w y D m d → n ≤ 1073741824 → m ≤ 1073741824 → zaj w → Calls Tryz.prog 150 #[.agg #[.slice A n c],.agg #[.slice D m d]] w (zcl w (Nat.gcd x y))
 reduce : ∀ (x y : Nat) (A D : oA9) (n m c d : Nat) (w : World),zad w x A n c → zad w y D m d → n ≤ 1073741824 → m ≤ 1073741824 → zaj w → Calls Tryz.prog 128 #[.agg #[.slice A n c],.agg #[.slice D m d]] w (ziK w (x / Nat.gcd x y) (y / Nat.gcd x y))
section
variable {P : Program} {ops : Array Oper} {Q : Exit → Act → World → Prop} {S : World → Prop} {fuel : Nat} {l : Array Bool} {a : Act} {w : World}
theorem rcb (i j : Nat) {o p : Oper} (hk : ∀ K' : Act → World → Prop,Shut (∀ (a : Act) (w : World),S w → (S w → wpAnyH P .any ops (NoPanic Q) S fuel (l.setIfInBounds i true) a w) → K' a w) → Oper.wp P o a w K' (NoPanic Q)) (hj : ∀ K' : Act → World → Prop,Shut (∀ (a : Act) (w : World),S w → (S w → wpAnyH P .any ops (NoPanic Q) S fuel (l.setIfInBounds j true) a w) → K' a w) → Oper.wp P p a w K' (NoPanic Q)) (h1 : ops[i]? = some o:=by simp only [List.getElem?_toArray,List.getElem?_cons_succ,List.getElem?_cons_zero]; rfl) (h1' : ops[j]? = some p:=by simp only [List.getElem?_toArray,List.getElem?_cons_succ,List.getElem?_cons_zero]; rfl) (h2 : Region.ready .any ops l = [i,j]:=by kernel_rfl) (h3 : Region.wanted o (yielded ops a.tmps) = true:=by rfl) (h3' : Region.wanted p (yielded ops a.tmps) = true:=by rfl) : wpAnyH P .any ops (NoPanic Q) S (fuel + 1) l a w :=
 wpAnyH_ready h2 (by simp) (AllReadyH.cons h1 (fun K' hK => by rw [if_pos h3]; exact hk K' hK) (AllReadyH.cons h1' (fun K' hK => by rw [if_pos h3']; exact hj K' hK) AllReadyH.nil))
end
end Go.Proofs.YtedbgdlbgohiiaaGreatDoor
