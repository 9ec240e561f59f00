/- What this claim leans on. -/
import Derived.Test.YtgigccjiblaefaaGreatDoorOMeet3
namespace Go.Proofs.YtgigccjiblaefaaGreatDoor
open Go Go.RowKit
set_option maxHeartbeats 16000000
set_option maxRecDepth 100000
set_option linter.unusedVariables false
theorem zbN (x : Nat) (A : oA9) (n c : Nat) (w : World) (hA : zah w x A n c) (hn : n ≤ 1) :
  Calls Tryz.prog 90 #[.agg #[.slice A n c]] w fun e w' => e = .returned (.tuple #[.int .u64 (wd x 0 : Nat),.bool true]) ∧ Below w.heap.size w w' := by
 have WX := (fun w' (h : Below w.heap.size w w') => zci x A n c 0 w' (hA.below h))
 obtain ⟨a,ha⟩ : ∃ a,wd x 0 = a := ⟨_,rfl⟩
 rw [ha] at WX ⊢
 have HWX := lh9 WX
 have h1 : decide ((1 : Int) < (n : Int)) = false := by simp; omega
 have h2 : decide ((n : Int) > 1) = false := by simp; omega
 have h3 : ¬ 1 < n := by omega
 clear WX ha hA
 go_enter Tryz.func90,Tryz.ntmps90
 go_wp2_with fail
 obtain ⟨b1,b2,b5⟩ := zbm w 27 #[.slice A n c]
 refine (HWX.out _ b1).mono ?_
 rintro e w1 ⟨rfl,hb⟩
 have hB := zad b1 hb
 clear hb b1 b2 b5
 go_wp2
 go_ret2
 exact ⟨rfl,hB⟩
theorem zbC (A : oA9) (n c : Nat) (w : World) (hn : 1 < n) :
  Calls Tryz.prog 90 #[.agg #[.slice A n c]] w fun e w' => e = .returned (.tuple #[.int .u64 0,.bool false]) ∧ Below w.heap.size w w' := by
 go_enter Tryz.func90,Tryz.ntmps90
 go_wp2
 go_ret2
 exact ⟨rfl,(Below.refl _ w).alloc (Nat.le_refl _) _⟩
def TW (x t : Nat) : Prop := (x = 0 ∧ t = 0) ∨ ∃ m,x = 2 ^ t * (2 * m + 1)
def zbn (x : Nat) : Nat := if x = 0 then 0 else Lib.ctzFrom x x
theorem zie {x t : Nat} {m : Nat} (h : x = 2 ^ t * (2 * m + 1)) : x / 2 ^ t % 2 = 1 := by
 rw [h,Nat.mul_div_cancel_left _ (Nat.two_pow_pos t)]; omega
theorem tw_low {x t j : Nat} {m : Nat} (h : x = 2 ^ t * (2 * m + 1)) (hj : j < t) : x / 2 ^ j % 2 = 0 := by
 obtain ⟨s,rfl⟩ : ∃ s,t = j + (s + 1) := ⟨t - j - 1,by omega⟩
 rw [h,Nat.pow_add,Nat.mul_assoc,Nat.mul_div_cancel_left _ (Nat.two_pow_pos j),Nat.pow_succ,Nat.mul_comm (2 ^ s) 2,Nat.mul_assoc]
 exact Nat.mul_mod_right _ _
theorem tw_pos {x t : Nat} {m : Nat} (h : x = 2 ^ t * (2 * m + 1)) : x ≠ 0 := by
 have := Nat.two_pow_pos t
 rw [h]
 exact Nat.ne_of_gt (Nat.mul_pos this (by omega))
theorem tw_N (x : Nat) : TW x (zbn x) := by
 unfold TW zbn
 by_cases h : x = 0
 ·exact .inl ⟨h,by rw [if_pos h]⟩
 ·rw [if_neg h]
  obtain ⟨m,hm,_⟩ := Lib.ctzFrom_spec x x (by omega) Nat.lt_two_pow_self
  exact .inr ⟨m,hm⟩
theorem tw_find {x t : Nat} (hlow : ∀ j,j < t → x / 2 ^ j % 2 = 0) (hx : x = 0 → t = 0) (h1 : x ≠ 0 → x / 2 ^ t % 2 = 1) : t = zbn x := by
 rcases tw_N x with ⟨e,h⟩ | ⟨m,h⟩
 ·rw [hx e,h]
 ·have h0 := tw_pos h
  rcases Nat.lt_trichotomy t (zbn x) with hl | hl | hl
  ·have := tw_low h hl
   rw [h1 h0] at this; omega
  ·exact hl
  ·have := zie h
   rw [hlow _ hl] at this; omega
theorem tw_of {x t m : Nat} (h : x = 2 ^ t * (2 * m + 1)) : t = zbn x :=
 tw_find (fun j hj => tw_low h hj) (fun e => absurd e (tw_pos h)) (fun _ => zie h)
theorem zkR {x k : Nat} (h0 : x % 18446744073709551616 ^ k = 0) (hw : wd x k ≠ 0) : 64 * k + Lib.ctz 64 (wd x k) = zbn x := by
 have hlt := zbA x k
 obtain ⟨m,hm,hc⟩ := Lib.ctzFrom_spec 64 (wd x k) (by omega) (by simpa using hlt)
 have ec : Lib.ctz 64 (wd x k) = Lib.ctzFrom 64 (wd x k) := by unfold Lib.ctz; rw [if_neg hw]
 rw [ec]
 generalize Lib.ctzFrom 64 (wd x k) = c at *
 obtain ⟨s,hs⟩ : ∃ s,64 = c + (s + 1) := ⟨63 - c,by omega⟩
 obtain ⟨q,hq⟩ : ∃ q,x / 18446744073709551616 ^ k / 18446744073709551616 = q := ⟨_,rfl⟩
 have e1 : x / 18446744073709551616 ^ k = 18446744073709551616 * q + wd x k := by rw [← hq]; exact (Nat.div_add_mod _ _).symm
 have e2 : x = 18446744073709551616 ^ k * (x / 18446744073709551616 ^ k) := by
  have := Nat.div_add_mod x (18446744073709551616 ^ k)
  rw [h0] at this; omega
 have e3 : (18446744073709551616 : Nat) = 2 ^ c * (2 * 2 ^ s) := by
  rw [show (18446744073709551616 : Nat) = 2 ^ 64 from rfl,hs,Nat.pow_add,Nat.pow_succ,Nat.mul_comm (2 ^ s) 2]
 refine tw_of (m := 2 ^ s * q + m) ?_
 have e4 : (18446744073709551616 : Nat) ^ k = 2 ^ (64 * k) := by rw [show (18446744073709551616 : Nat) = 2 ^ 64 from rfl,← Nat.pow_mul]
 have e5 : 18446744073709551616 * q + wd x k = 2 ^ c * (2 * (2 ^ s * q + m) + 1) := by
  rw [hm]
  conv => lhs; rw [e3]
  rw [Nat.mul_assoc,← Nat.mul_add,Nat.mul_add 2,Nat.mul_assoc,Nat.add_assoc]
 rw [e2,e1,e5,e4,← Nat.mul_assoc,← Nat.pow_add]
theorem zgs (x : Nat) (A : oA9) (n c : Nat) (w : World) (hA : zah w x A n c) (hn : n ≤ 1099511627776) (hT : zao w) :
  Calls Tryz.prog 119 #[.agg #[.slice A n c]] w fun e w' => e = .returned (.int .i64 (zbn x : Nat)) ∧ Below w.heap.size w w' := by
 have hln := lh9 hA.len
 have hr := hA.1
 have HT := lh9 (fun o => hT.on ((Below.refl _ w).alloc (Nat.le_refl _) o))
 have hcl : ∀ o,Hid (zaq (w.alloc o) w.heap.size 1 A n (zas .u64 (dg 18446744073709551616 x))) := fun o => hr.alloc (Nat.le_refl _) o
 have HC := lh9 hcl
 clear hA hT hcl hr
 go_enter Tryz.func119,Tryz.ntmps119
 go_wp2_with fail
 go_loop [3,4,8] (fun _ _ ix => ∃ k : Nat,k ≤ n ∧ ix = .int .i64 k ∧ Hid (x % 18446744073709551616 ^ k = 0)) (fun _ _ ix => n - (intOf ix).toNat)
 case atStart => exact ⟨0,Nat.zero_le _,rfl,by show _ = _; simp [Nat.mod_one]⟩
 case round =>
  obtain ⟨k,hk,rfl,H⟩ := hrel
  by_cases hlt : k < n
  ·obtain ⟨ad,rfl,hadb,hc0⟩ := zbc (HC.out (.cells #[.slice A n c] 27)).out hlt
   rw [zcM] at hc0
   by_cases hz : wd x k = 0
   ·have HN : Hid (x % 18446744073709551616 ^ (k + 1) = 0) := by
     show _ = _
     rw [zaP 18446744073709551616 x k,H.out,Nat.zero_add]
     unfold wd at hz
     rw [hz,Nat.mul_zero]
    rw [hz] at hc0
    clear hz
    go_wp2
    go_round
    case rel => exact ⟨k + 1,by omega,by go_num,HN⟩
    case measure => simp [intOf]; omega
   ·have HV := lh9 (zkR H.out hz)
    have hwl := zbA x k
    have WT := (fun w' (h : zao w') => zki ((wd x k : Nat) : Int) ⟨by omega,by omega⟩ w' h)
    have hbd := ctz_le (wd x k) (by simpa using hwl)
    have et : zeG ((wd x k : Nat) : Int) = ((Lib.ctz 64 (wd x k) : Nat) : Int) := by unfold zeG; simp
    rw [et] at WT
    obtain ⟨t,ht⟩ : ∃ t,Lib.ctz 64 (wd x k) = t := ⟨_,rfl⟩
    rw [ht] at WT HV hbd
    obtain ⟨a,ha⟩ : ∃ a,wd x k = a := ⟨_,rfl⟩
    rw [ha] at hc0 WT hz
    have hWT := lh9 WT
    have hz' : ((a : Int) == 0) = false := beq_eq_false_iff_ne.2 (by omega)
    have hz2 : ((a : Int) != 0) = true := by simp; omega
    clear WT ht ha et hz hwl
    go_wp2_with fail
    refine (hWT.out _ (HT.out _)).mono ?_
    rintro e w' ⟨rfl,rfl⟩
    go_wp2
    go_ret
    refine ⟨zhz ?_,(Below.refl _ w).alloc (Nat.le_refl _) _⟩
    have := HV.out
    omega
  ·have hkn : k = n := by omega
   subst hkn
   have HX : Hid (zbn x = 0) := by
    show _ = _
    have h1 := zaN (b := 18446744073709551616) (by decide) x
    rw [hln.out] at h1
    have h2 := H.out
    rw [Nat.mod_eq_of_lt h1] at h2
    rw [h2]; rfl
   go_wp2
   go_ret
   exact ⟨by rw [HX.out]; rfl,(Below.refl _ w).alloc (Nat.le_refl _) _⟩
set_option linter.unusedSimpArgs false
theorem law8_is {T : World → Prop} {M : Nat → Prop} (hTb : ∀ w w',T w → Below w.heap.size w w' → T w') (IC : IntC T) (QC : RatC T M) (p q : Int) (r : Rat) (K : Nat) (bx : Bool) (Bx : oA9) (mx dx : Nat) (Ex : oA9) (ux vx : Nat) (w : World) (hK : K ≤ 16777216) (hz : SzQ K r) (h : zam w r bx Bx mx dx Ex ux vx) (hT : T w) (hp1 : -9223372036854775808 ≤ p) (hp2 : p ≤ 9223372036854775807) (hq1 : -9223372036854775808 ≤ q) (hq2 : q ≤ 9223372036854775807) (hq0 : q ≠ 0) (he : r = Rat.divInt p q) :
  Calls Tryz.prog 42 #[.agg #[.bool bx,.slice Bx mx dx,.slice Ex ux vx],.int .i64 p,.int .i64 q] w fun e w' => e = .returned (.bool true) ∧ Below w.heap.size w w' := by
 have HIC := lh9 IC
 have HQC := lh9 QC
 have HT := lh9 (fun w' (hb : Below w.heap.size w w') => hTb w w' hT hb)
 have HE := lh9 he
 have HZx := lh9 hz
 have HNx := lh9 h
 clear IC QC hT he hz h
 go_enter Tryz.func42,Tryz.ntmps42
 have hB := Below.refl w.heap.size w
 obtain ⟨bx1,bx2,bz⟩ := zbm w 31 #[.bool bx,.slice Bx mx dx,.slice Ex ux vx]
 have hB := zad hB bx1
 have HNx := lh9 (HNx.out.below bx1)
 obtain ⟨g1,e1,i1⟩ := bx2.c3
 clear bx1 bx2 bz
 go_wp2_with fail
 generalize w.alloc (.cells #[.bool bx,.slice Bx mx dx,.slice Ex ux vx] 31) = W1 at *
 have HZ2 : Hid (SzQ (1) (Rat.divInt p q)) := SzQ.made (K := 1) (by show Int.natAbs p < 18446744073709551616 ^ 1; have e1 : -9223372036854775808 ≤ p := hp1; have e2 : p ≤ 9223372036854775807 := hp2; omega) (by show Int.natAbs q < 18446744073709551616 ^ 1; have e1 : -9223372036854775808 ≤ q := hq1; have e2 : q ≤ 9223372036854775807 := hq2; omega) (by decide)
 (with_reducible refine (HQC.out.of p q _ (HT.out _ hB) hp1 hp2 hq1 hq2 hq0).mono ?_)
 rintro e wc2 ⟨b2,B2,m2,d2,E2,u2,v2,rfl,hw2,hb⟩
 have hB := zad hB hb
 have HNx := lh9 (HNx.out.below hb)
 have g1 := zac hb g1
 have e1 := zac hb e1
 have i1 := zac hb i1
 have HN2 := lh9 hw2
 clear hb hw2
 obtain ⟨bx1,bx2,bz⟩ := zbm wc2 31 #[.bool b2,.slice B2 m2 d2,.slice E2 u2 v2]
 have hB := zad hB bx1
 have HNx := lh9 (HNx.out.below bx1)
 have g1 := zac bx1 g1
 have e1 := zac bx1 e1
 have i1 := zac bx1 i1
 have HN2 := lh9 (HN2.out.below bx1)
 obtain ⟨g3,e3,i3⟩ := bx2.c3
 clear bx1 bx2 bz
 go_wp2_with fail
 generalize wc2.alloc (.cells #[.bool b2,.slice B2 m2 d2,.slice E2 u2 v2] 31) = W3 at *
 generalize wc2.heap.size = q3 at *
 have C0 := lh9 (fun w' (h : Below W3.heap.size W3 w') => zaD (decide_eq_true HE.out) (HQC.out.same (r) (Rat.divInt p q) bx b2 Bx B2 mx m2 dx d2 Ex E2 ux u2 vx v2 w' (HT.out _ (zad hB h)) (HNx.out.below h) (HN2.out.below h) (szq HZx HNx.out) (szq HZ2 HN2.out)))
 have HZ4 : Hid (Sz (K) (r.num).natAbs) := SzQ.num HZx.out
 have C1 := lh9 (fun w' (h : Below W3.heap.size W3 w') => HQC.out.num (r) bx Bx mx dx Ex ux vx w' (HT.out _ (zad hB h)) (HNx.out.below h) (szq HZx HNx.out))
 have HZ5 : Hid (Sz (1) ((Rat.divInt p q).num).natAbs) := SzQ.num HZ2.out
 have C2 := lh9 (fun w' (h : Below W3.heap.size W3 w') => HQC.out.num (Rat.divInt p q) b2 B2 m2 d2 E2 u2 v2 w' (HT.out _ (zad hB h)) (HN2.out.below h) (szq HZ2 HN2.out))
 have C3 := lh9 (fun w' (h : Below W3.heap.size W3 w') b4 B4 m4 d4 (hw4 : zat w' (r.num) b4 B4 m4 d4) b5 B5 m5 d5 (hw5 : zat w' ((Rat.divInt p q).num) b5 B5 m5 d5) => zeP (by rw [HE.out]) (HIC.out.cmp (r.num) ((Rat.divInt p q).num) b4 b5 B4 B5 m4 m5 d4 d5 w' (HT.out _ (zad hB h)) hw4 hw5 (by have := Sz.words HZ4.out hw4.words; omega) (by have := Sz.words HZ5.out hw5.words; omega)))
 have HZ6 : Hid (Sz (K) (r.den)) := SzQ.den HZx.out
 have C4 := lh9 (fun w' (h : Below W3.heap.size W3 w') => HQC.out.den (r) bx Bx mx dx Ex ux vx w' (HT.out _ (zad hB h)) (HNx.out.below h) (szq HZx HNx.out))
 have HZ7 : Hid (Sz (1) ((Rat.divInt p q).den)) := SzQ.den HZ2.out
 have C5 := lh9 (fun w' (h : Below W3.heap.size W3 w') => HQC.out.den (Rat.divInt p q) b2 B2 m2 d2 E2 u2 v2 w' (HT.out _ (zad hB h)) (HN2.out.below h) (szq HZ2 HN2.out))
 have C6 := lh9 (fun w' (h : Below W3.heap.size W3 w') B6 m6 d6 (hw6 : zah w' (r.den) B6 m6 d6) B7 m7 d7 (hw7 : zah w' ((Rat.divInt p q).den) B7 m7 d7) => cmpEq (x := r.den) (y := (Rat.divInt p q).den) (by rw [HE.out]) hw6 hw7 (szw HZ6 hw6) (szw HZ7 hw7))
 have hBw := (Below.refl W3.heap.size W3).drew
 refine rg (csc g1 (csc e1 (csc i1 (csc g3 (csc e3 (csc i3 csn)))))) (fun hHeld => ?_)
 refine tk 0 ?_
 refine tk 1 ?_
 refine tk 2 ?_
 refine tk 3 ?_
 refine rc 4 (fun K hK => ?_)
 go_simp
 go_at_call 33; (with_reducible refine (C0.out _ hBw).mono ?_); rintro e wa4 ⟨rfl,hb⟩; have hBw := zad hBw hb; refine hK.out _ _ (Cs.below hHeld hb) (fun hHeld => ?_); clear hK K hb
 try simp only [sb9]
 refine tk 5 ?_
 refine tk 6 ?_
 refine tk 7 ?_
 refine tk 9 ?_
 refine rc 8 (fun K hK => ?_)
 go_simp
 go_at_call 17; (with_reducible refine (C1.out _ hBw).mono ?_); rintro e wa5 ⟨b4,B4,m4,d4,rfl,hw4,hb⟩; have hBw := zad hBw hb; refine hK.out _ _ (Cs.below hHeld hb) (fun hHeld => ?_); clear hK K hb
 try simp only [sb9]
 refine rc 10 (fun K hK => ?_)
 go_simp
 go_at_call 17; (with_reducible refine (C2.out _ hBw).mono ?_); rintro e wa6 ⟨b5,B5,m5,d5,rfl,hw5,hb⟩; have hBw := zad hBw hb; have hw4 := hw4.below hb; refine hK.out _ _ (Cs.below hHeld hb) (fun hHeld => ?_); clear hK K hb
 try simp only [sb9]
 refine rc 11 (fun K hK => ?_)
 go_simp
 go_at_call 43; (with_reducible refine (C3.out _ hBw _ _ _ _ hw4 _ _ _ _ hw5).mono ?_); rintro e wa7 ⟨rfl,hb⟩; have hBw := zad hBw hb; have hw4 := hw4.below hb; have hw5 := hw5.below hb; refine hK.out _ _ (Cs.below hHeld hb) (fun hHeld => ?_); clear hK K hb
 try simp only [sb9]
 refine tk 12 ?_
 refine tk 13 ?_
 refine tk 14 ?_
 refine tk 15 ?_
 refine tk 17 ?_
 refine rc 16 (fun K hK => ?_)
 go_simp
 go_at_call 45; (with_reducible refine (C4.out _ hBw).mono ?_); rintro e wa8 ⟨B6,m6,d6,rfl,hw6,hb⟩; have hBw := zad hBw hb; have hw4 := hw4.below hb; have hw5 := hw5.below hb; refine hK.out _ _ (Cs.below hHeld hb) (fun hHeld => ?_); clear hK K hb
 try simp only [sb9]
 refine rc 18 (fun K hK => ?_)
 go_simp
 go_at_call 45; (with_reducible refine (C5.out _ hBw).mono ?_); rintro e wa9 ⟨B7,m7,d7,rfl,hw7,hb⟩; have hBw := zad hBw hb; have hw4 := hw4.below hb; have hw5 := hw5.below hb; have hw6 := hw6.below hb; refine hK.out _ _ (Cs.below hHeld hb) (fun hHeld => ?_); clear hK K hb
 try simp only [sb9]
 refine rc 19 (fun K hK => ?_)
 go_simp
 go_at_call 44; (with_reducible refine (C6.out _ hBw _ _ _ hw6 _ _ _ hw7).mono ?_); rintro e wa10 ⟨rfl,hb⟩; have hBw := zad hBw hb; have hw4 := hw4.below hb; have hw5 := hw5.below hb; have hw6 := hw6.below hb; have hw7 := hw7.below hb; refine hK.out _ _ (Cs.below hHeld hb) (fun hHeld => ?_); clear hK K hb
 try simp only [sb9]
 refine tk 20 ?_
 refine tk 21 ?_
 refine tk 22 ?_
 refine rdn ?_
 have hB := zad hB hBw
 have HNx := lh9 (HNx.out.below hBw)
 have g1 := zac hBw g1
 have e1 := zac hBw e1
 have i1 := zac hBw i1
 have HN2 := lh9 (HN2.out.below hBw)
 have g3 := zac hBw g3
 have e3 := zac hBw e3
 have i3 := zac hBw i3
 have HN4 := lh9 hw4
 have HN5 := lh9 hw5
 have HN6 := lh9 hw6
 have HN7 := lh9 hw7
 clear hBw hHeld hw4 hw5 hw6 hw7 C0 C1 C2 C3 C4 C5 C6
 go_wp2
 go_ret
 exact ⟨by first | rfl | simp,hB⟩
end Go.Proofs.YtgigccjiblaefaaGreatDoor
