/- What this claim leans on. -/
import Derived.Test.YtkiedljcgkoaiaaGreatDoorRBunR
namespace Go.Proofs.YtkiedljcgkoaiaaGreatDoor
open Go Go.RowKit
set_option maxHeartbeats 16000000
set_option maxRecDepth 100000
set_option linter.unusedVariables false
theorem zfO {x y n m : Nat} (hx : (dg 65536 x).length ≤ n) (hy : (dg 65536 y).length ≤ m) : (dg 65536 (x * y)).length ≤ n + m:=by
 refine zaB (by decide) _ _ ?_
 rw [Nat.pow_add]
 exact Nat.mul_lt_mul'' (Nat.lt_of_lt_of_le (zaH (by decide) x) (Nat.pow_le_pow_right (by decide) hx)) (Nat.lt_of_lt_of_le (zaH (by decide) y) (Nat.pow_le_pow_right (by decide) hy))
theorem zli (x y j : Nat) : x * (y / 65536 ^ (j + 1)) * 2 ^ 16 + (x * (y / 65536 ^ j % 65536) + 0) = x * (y / 65536 ^ j):=by
 conv => rhs; rw [zeZ 65536 y j]
 rw [Nat.mul_add,show (2 : Nat) ^ 16 = 65536 from by decide,Nat.mul_assoc,Nat.mul_comm (y / 65536 ^ (j + 1)) 65536]
 exact congrArg _ (Nat.add_zero _)
theorem zfK (w : World) : zaj w 0 none 0 0:=⟨zas.none_,Nat.le_refl _,by omega⟩
theorem zht (x y : Nat) (A D : oA9) (n m c d : Nat) (w : World) (hA : zaj w x A n c) (hD : zaj w y D m d) (hn : n ≤ 68719476736) (hm : m ≤ 68719476736) :
  Calls Tryz.prog 94 #[.slice A n c,.slice D m d] w fun e w' => ∃ (A' : oA9) (n' c' : Nat),e = .returned (.slice A' n' c') ∧ zaj w' (x * y) A' n' c' ∧ Below w.heap.size w w':=by
 have hlx:=lh9 hA.len
 have hly:=lh9 hD.len
 have HA:=lh9 (fun w' (hb : Below w.heap.size w w') => hA.below hb)
 have hR:=hD.1
 have H0 : Hid (x * (y / 65536 ^ m) = 0):=by
  show _ = _
  rw [Nat.div_eq_of_lt (by rw [hly.out]; exact zaH (by decide) y),Nat.mul_zero]
 clear hA hD
 go_enter Tryz.func94,Tryz.ntmps94
 go_wp2_with fail
 go_loopg [5,6] (m + 1) (fun g o ix wr => ∃ (k : Nat) (A' : oA9) (n' c' : Nat),k ≤ m ∧ k < g ∧ ix = .int .i64 ((k : Int) - 1) ∧ o = .slice A' n' c' ∧ Hid (zaj wr (x * (y / 65536 ^ k)) A' n' c') ∧ Below w.heap.size w wr)
 case atStart => exact ⟨m,none,0,0,Nat.le_refl _,by omega,rfl,rfl,by show zaj _ _ _ _ _; rw [H0.out]; exact zfK _,Below.refl _ _⟩
 case round =>
  obtain ⟨k,A',n',c',hk,hg,rfl,rfl,hO,hB⟩:=hrel
  by_cases hk0 : k = 0
  ·subst hk0
   have hO2:=hO.out
   rw [Nat.pow_zero,Nat.div_one] at hO2
   have HG:=lh9 hO2
   clear hO hO2
   go_wp2
   go_ret
   exact ⟨_,_,_,rfl,HG.out,hB⟩
  ·obtain ⟨j,rfl⟩ : ∃ j,k = j + 1:=⟨k - 1,by omega⟩
   obtain ⟨ad,rfl,hadb,hc0⟩:=zbe (hR.below hB) (k:=j) (by omega)
   rw [zen] at hc0
   have hlt : y / 65536 ^ j % 65536 < 65536:=Nat.mod_lt _ (by decide)
   have hst:=zli x y j
   have hnl : n' ≤ n + m:=by
    rw [hO.out.len]
    exact zfO (by have:=hlx.out; omega) (by have:=hly.out; have:=zaQ (b:=65536) (by decide) (Nat.div_le_self y (65536 ^ (j + 1))); omega)
   have hzl : ∀ {w' : World} {A'' : oA9} {n'' c'' : Nat},zaj w' (x * (y / 65536 ^ (j + 1)) * 2 ^ 16) A'' n'' c'' → n'' ≤ n + m + 1:=fun h => by
    rw [h.len]
    have h2:=zfO (x:=x) (y:=y / 65536 ^ (j + 1) * 2 ^ 16) (n:=n) (m:=m) (by have:=hlx.out; omega) (by
     have h3 : y / 65536 ^ (j + 1) * 2 ^ 16 ≤ y:=by
      rw [show (2 : Nat) ^ 16 = 65536 from by decide]
      have h4:=Nat.div_mul_le_self y (65536 ^ (j + 1))
      have h5 : 65536 ≤ 65536 ^ (j + 1):=by rw [Nat.pow_succ]; exact Nat.le_mul_of_pos_left _ (Nat.pow_pos (by decide))
      exact Nat.le_trans (Nat.mul_le_mul_left _ h5) h4
     have:=zaQ (b:=65536) (by decide) h3
     have:=hly.out; omega)
    rw [Nat.mul_assoc]
    omega
   obtain ⟨dd,hdd⟩ : ∃ v,y / 65536 ^ j % 65536 = v:=⟨_,rfl⟩
   rw [hdd] at hc0 hlt hst
   have S1:=lh9 (fun w' (h : Below wr.heap.size wr w') => show Calls Tryz.prog 103 #[.slice A' n' c',.int .i64 16] w' (zbc w' (x * (y / 65536 ^ (j + 1)) * 2 ^ 16)) from zhr (x * (y / 65536 ^ (j + 1))) 16 A' n' c' w' (hO.out.below h) (by omega) (by omega))
   have S2:=lh9 (fun w' (h : Below wr.heap.size wr w') => show Calls Tryz.prog 104 #[.slice A n c,.int .i64 dd,.int .i64 0] w' (zbc w' (x * dd + 0)) from zdZ x dd 0 A n c w' ((HA.out _ hB).below h) (by omega) hlt (by decide))
   have S3:=(fun w' (h : Below wr.heap.size wr w') A1 n1 c1 A2 n2 c2 (h1 : zaj w' (x * (y / 65536 ^ (j + 1)) * 2 ^ 16) A1 n1 c1) (h2 : zaj w' (x * dd + 0) A2 n2 c2) => zhp _ _ A1 A2 n1 n2 c1 c2 w' h1 h2 (by have:=hzl h1; omega) (by rw [h2.len,Nat.add_zero]; have:=zfO (x:=x) (y:=dd) (n:=n) (m:=1) (by have:=hlx.out; omega) (zaB (by decide) _ _ (by simpa using hlt)); omega))
   rw [hst] at S3
   have hS3:=lh9 S3
   clear S3 hst hdd hlt hzl
   obtain ⟨s1,s2⟩ : (0 : Int) ≤ (j : Int) ∧ (j : Int) < (m : Int):=by omega
   go_wp2_with fail
   have hb0 : Below wr.heap.size wr wr.drew:=(Below.refl _ wr).drew
   have hc1 : wr.drew.cell? (ad.add j) = some (.int .i64 dd):=hc0
   go_region_held3 (fun w' => Below wr.heap.size wr w' ∧ w'.cell? (ad.add j) = some (.int .i64 dd))
    (first | (exact ⟨hb0,hc1⟩) | (go_split_ands; refine ⟨?_,?_⟩; all_goals (first | with_reducible assumption | exact zac (by with_reducible assumption) hb | exact zad hb (by with_reducible assumption))))
    (first
      | (go_at_call 103; (with_reducible refine (S1.out _ (by first | with_reducible assumption | exact And.left (by with_reducible assumption))).mono ?_); intro e w' hg; obtain ⟨A8,n8,c8,rfl,hh8,hb⟩:=hg.elim; clear hg)
      | (go_at_call 104; (with_reducible refine (S2.out _ (by first | with_reducible assumption | exact And.left (by with_reducible assumption))).mono ?_); intro e w' hg; obtain ⟨A9,n9,c9,rfl,hh9,hb⟩:=hg.elim; have hh8:=hh8.below hb; clear hg)
      | (go_at_call 106; (with_reducible refine (hS3.out _ (by first | with_reducible assumption | exact And.left (by with_reducible assumption)) _ _ _ _ _ _ hh8 hh9).mono ?_); intro e w' hg; obtain ⟨A7,n7,c7,rfl,hh7,hb⟩:=hg.elim; clear hg))
   rename_i hH
   obtain ⟨hb6,_⟩:=hH
   have hB2:=zac hB hb6
   have HN:=lh9 hh7
   clear hb hb0 hb6 hh7 hh8 hh9 hc1
   go_wp2
   go_roundg (j + 1)
   case measure => omega
   case rel => exact ⟨j,_,_,_,by omega,by omega,by go_num,rfl,HN,hB2⟩
def GivesH (w : World) (x : Nat) (e : Ending) (w' : World) : Prop:=∃ (A : oA9) (n c : Nat),e = .returned (.slice A n c) ∧ zaj w' x A n c ∧ Below w.heap.size w w'
theorem zmO (w : World) (g : Nat) (h : Blk w g 3 #[.int .i64 1]) : zaj w 1 (some ⟨g,0,none⟩) 1 1:=by
 have e : dg 65536 1 = [1]:=by
  rw [zdj (by decide) (by decide)]
  rfl
 refine ⟨?_,Nat.le_refl _,by omega⟩
 rw [e]
 refine ⟨rfl,fun _ => ⟨_,rfl,h.lt,fun j u hu => ?_⟩⟩
 match j,hu with
 | 0,hu => simp [zat] at hu; subst hu; exact h.cell 0
def zhP (w : World) (q r : Nat) (e : Ending) (w' : World) : Prop:=∃ (A : oA9) (n c : Nat) (B : oA9) (m d : Nat),e = .returned (.tuple #[.slice A n c,.slice B m d]) ∧ zaj w' q A n c ∧ zaj w' r B m d ∧ Below w.heap.size w w'
theorem div_no {m y b : Nat} (hb : b < 2) (h : m % y * 2 + b < y) : (m + m + b) / y = m / y * 2 + 0 ∧ (m + m + b) % y = m % y * 2 + b:=by
 have h1:=Nat.div_add_mod m y
 have e : m + m + b = y * (m / y * 2) + (m % y * 2 + b):=by rw [Nat.mul_comm (m / y) 2,Nat.mul_left_comm]; omega
 rw [e,Nat.mul_add_div (by omega),Nat.mul_add_mod,Nat.div_eq_of_lt h,Nat.mod_eq_of_lt h]
 exact ⟨rfl,rfl⟩
theorem div_yes {m y b : Nat} (hy : y ≠ 0) (hb : b < 2) (h : y ≤ m % y * 2 + b) : (m + m + b) / y = m / y * 2 + 0 + 1 ∧ (m + m + b) % y = m % y * 2 + b - y:=by
 have h1:=Nat.div_add_mod m y
 have h2:=Nat.mod_lt m (y:=y) (by omega)
 have h3 : m % y * 2 + b - y < y:=by omega
 have e : m + m + b = y * (m / y * 2 + 1) + (m % y * 2 + b - y):=by rw [Nat.mul_add,Nat.mul_comm (m / y) 2,Nat.mul_left_comm]; omega
 rw [e,Nat.mul_add_div (by omega),Nat.mul_add_mod,Nat.div_eq_of_lt h3,Nat.mod_eq_of_lt h3]
 exact ⟨rfl,rfl⟩
theorem zjA (x y : Nat) : decide (0 ≤ zaW x y) = decide (y ≤ x):=by
 rw [Bool.eq_iff_iff]
 simp only [decide_eq_true_eq]
 unfold zaW
 split
 ·omega
 ·split <;> omega
theorem zgg (x y : Nat) (A D : oA9) (n m c d : Nat) (w : World) (hA : zaj w x A n c) (hD : zaj w y D m d) (hn : n ≤ 17179869184) (hm : m ≤ 17179869184) (hy : y ≠ 0) :
  Calls Tryz.prog 72 #[.slice A n c,.slice D m d] w (zhP w (x / y) (x % y)):=by
 have hlx:=lh9 hA.len
 have hly:=lh9 hD.len
 have HA:=lh9 (fun w' (hb : Below w.heap.size w w') => hA.below hb)
 have HD:=lh9 (fun w' (hb : Below w.heap.size w w') => hD.below hb)
 have RB:=zio x A n c w hA (by omega)
 have hbl : bitLen x ≤ 16 * n:=by
  have h1:=zaH (b:=65536) (by decide) x
  rw [← hA.len,show (65536 : Nat) = 2 ^ 16 from rfl,← Nat.pow_mul] at h1
  exact zcu _ _ h1
 have h0 : x / 2 ^ bitLen x = 0:=Nat.div_eq_of_lt (lt_bits x)
 obtain ⟨l,hl⟩ : ∃ l,bitLen x = l:=⟨_,rfl⟩
 rw [hl] at RB hbl h0
 have HRB:=lh9 RB
 have H0:=lh9 h0
 clear hA hD RB hl h0
 go_enter Tryz.func72,Tryz.ntmps72
 go_wp2_with fail
 refine HRB.out.mono ?_
 rintro e w' ⟨rfl,rfl⟩
 go_wp2_with fail
 go_loopg [6,7,8] (l + 1) (fun g qs rs ix wr => ∃ (j : Nat) (A1 : oA9) (n1 c1 : Nat) (A2 : oA9) (n2 c2 : Nat),j ≤ l ∧ j < g ∧ ix = .int .i64 ((j : Int) - 1) ∧ qs = .slice A1 n1 c1 ∧ rs = .slice A2 n2 c2 ∧ Hid (zaj wr (x / 2 ^ j / y) A1 n1 c1) ∧ Hid (zaj wr (x / 2 ^ j % y) A2 n2 c2) ∧ Below w.heap.size w wr)
 case atStart =>
  refine ⟨l,none,0,0,none,0,0,Nat.le_refl _,by omega,rfl,rfl,rfl,?_,?_,Below.refl _ _⟩
  ·show zaj _ _ _ _ _; rw [H0.out,Nat.zero_div]; exact zfK _
  ·show zaj _ _ _ _ _; rw [H0.out,Nat.zero_mod]; exact zfK _
 case round =>
  obtain ⟨j,A1,n1,c1,A2,n2,c2,hjl,hg,rfl,rfl,rfl,hq,hr,hB⟩:=hrel
  by_cases hj : j = 0
  ·subst hj
   have e1:=hq.out
   have e2:=hr.out
   rw [Nat.pow_zero,Nat.div_one] at e1 e2
   have HG : Hid (zhP w (x / y) (x % y) (.returned (.tuple #[.slice A1 n1 c1,.slice A2 n2 c2])) wr):=⟨_,_,_,_,_,_,rfl,e1,e2,hB⟩
   clear hq hr e1 e2
   go_wp2
   go_ret2
   exact HG.out
  ·obtain ⟨i,rfl⟩ : ∃ i,j = i + 1:=⟨j - 1,by omega⟩
   have hqn : n1 ≤ n:=by
    rw [hq.out.len,hlx.out]
    exact zaQ (by decide) (Nat.le_trans (Nat.div_le_self _ _) (Nat.div_le_self _ _))
   have hrn : n2 ≤ m:=by
    rw [hr.out.len,hly.out]
    exact zaQ (by decide) (Nat.le_of_lt (Nat.mod_lt _ (by omega)))
   have hbit : x / 2 ^ i % 2 < 2:=Nat.mod_lt _ (by decide)
   have hst:=shr_step x i
   have WB:=ref2_bit x i A n c wr (HA.out _ hB) (by omega) (by omega)
   obtain ⟨M,hM⟩ : ∃ M,x / 2 ^ (i + 1) = M:=⟨_,rfl⟩
   obtain ⟨b,hb⟩ : ∃ b,x / 2 ^ i % 2 = b:=⟨_,rfl⟩
   rw [hM] at hq hr hst
   rw [hb] at hst hbit WB
   have S1:=zdZ (M % y) 2 b A2 n2 c2 wr hr.out (by omega) (by decide) (by omega)
   have HWB:=lh9 WB
   have HS1:=lh9 S1
   have HST:=lh9 hst
   have hr1 : (dg 65536 (M % y * 2 + b)).length ≤ n2 + 1:=by
    refine zaB (by decide) _ _ ?_
    have h1:=zaH (b:=65536) (by decide) (M % y)
    rw [← hr.out.len] at h1
    rw [Nat.pow_succ]; omega
   have hq1 : (dg 65536 (M / y * 2 + 0)).length ≤ n1 + 1:=by
    refine zaB (by decide) _ _ ?_
    have h1:=zaH (b:=65536) (by decide) (M / y)
    rw [← hq.out.len] at h1
    rw [Nat.pow_succ]; omega
   clear WB S1 hM hb hr hst
   go_wp2_with fail
   refine HWB.out.mono ?_
   rintro e w' ⟨rfl,rfl⟩
   go_wp2_with fail
   refine HS1.out.mono ?_
   intro e w1 hg1
   obtain ⟨A3,n3,c3,rfl,hh3,hb1⟩:=hg1.elim
   have hB1:=zac hB hb1
   have hn3 : n3 ≤ m + 1:=by rw [hh3.len]; omega
   have HS2:=lh9 (zdZ (M / y) 2 0 A1 n1 c1 w1 (hq.out.below hb1) (by omega) (by decide) (by decide))
   have H3:=lh9 hh3
   clear hg1 hh3 hb1 hq HS1
   go_wp2_with fail
   refine HS2.out.mono ?_
   intro e w2 hg2
   obtain ⟨A4,n4,c4,rfl,hh4,hb2⟩:=hg2.elim
   have hB2:=zac hB1 hb2
   have hn4 : n4 ≤ n + 1:=by rw [hh4.len]; omega
   have H3:=lh9 (H3.out.below hb2)
   have H4:=lh9 hh4
   have HCM:=lh9 (zez (M % y * 2 + b) y A3 D n3 m c3 d w2 H3.out (HD.out _ hB2) (by omega) (by omega))
   clear hg2 hh4 hb2 HS2
   go_wp2_with fail
   refine HCM.out.mono ?_
   rintro e w3 ⟨rfl,q,rfl⟩
   clear HCM
   by_cases hlt : M % y * 2 + b < y
   ·have hd : decide (zaW (M % y * 2 + b) y ≥ 0) = false:=by
     show decide (0 ≤ zaW _ _) = false
     rw [zjA]; simp; omega
    have hd2 : decide (0 ≤ zaW (M % y * 2 + b) y) = false:=hd
    obtain ⟨e1,e2⟩:=div_no hbit hlt
    rw [← HST.out] at e1 e2
    have HQ : Hid (zaj (w2.drewN q) (x / 2 ^ i / y) A4 n4 c4):=by show zaj _ _ _ _ _; rw [e1]; exact H4.out
    have HR : Hid (zaj (w2.drewN q) (x / 2 ^ i % y) A3 n3 c3):=by show zaj _ _ _ _ _; rw [e2]; exact H3.out
    have hB3:=zaF hB2 q
    obtain ⟨z,hz⟩ : ∃ z,zaW (M % y * 2 + b) y = z:=⟨_,rfl⟩
    rw [hz] at hd hd2 ⊢
    clear e1 e2 hz hlt
    go_wp2
    go_roundg (i + 1)
    case measure => omega
    case rel => exact ⟨i,_,_,_,_,_,_,by omega,by omega,by go_num,rfl,rfl,HQ,HR,hB3⟩
   ·have hd : decide (zaW (M % y * 2 + b) y ≥ 0) = true:=by
     show decide (0 ≤ zaW _ _) = true
     rw [zjA]; simp; omega
    have hd2 : decide (0 ≤ zaW (M % y * 2 + b) y) = true:=hd
    obtain ⟨e1,e2⟩:=div_yes hy hbit (by omega : y ≤ M % y * 2 + b)
    rw [← HST.out] at e1 e2
    have HS3:=lh9 (zco (M % y * 2 + b) y (by omega) A3 D n3 m c3 d (w2.drewN q) H3.out (HD.out _ (zaF hB2 q)) (by omega) (by omega))
    have E1:=lh9 e1
    have E2:=lh9 e2
    have hB3:=zaF hB2 q
    obtain ⟨z,hz⟩ : ∃ z,zaW (M % y * 2 + b) y = z:=⟨_,rfl⟩
    rw [hz] at hd hd2 ⊢
    clear e1 e2 hz hlt
    go_wp2_with fail
    refine HS3.out.mono ?_
    intro e w4 hg3
    obtain ⟨A5,n5,c5,rfl,hh5,hb3⟩:=hg3.elim
    have hB4:=zac hB3 hb3
    have H4b : zaj (w2.drewN q) (M / y * 2 + 0) A4 n4 c4:=H4.out
    have st:=zbs w4 (.cells #[.int .i64 1] 3)
    have h1:=zmO _ _ (Blk.new w4 3 #[.int .i64 1])
    have HS4:=lh9 (zhp (M / y * 2 + 0) 1 A4 (some ⟨w4.heap.size,0,none⟩) n4 1 c4 1 _ ((H4b.below hb3).below st) h1 (by omega) (by omega))
    have H5:=lh9 (hh5.below st)
    have hB5:=zac hB4 st
    clear hg3 hh5 hb3 HS3 H4b h1 st
    go_wp2_with fail
    refine HS4.out.mono ?_
    intro e w5 hg4
    obtain ⟨A6,n6,c6,rfl,hh6,hb4⟩:=hg4.elim
    have hB6:=zac hB5 hb4
    have HQ : Hid (zaj w5 (x / 2 ^ i / y) A6 n6 c6):=by show zaj _ _ _ _ _; rw [E1.out]; exact hh6
    have HR : Hid (zaj w5 (x / 2 ^ i % y) A5 n5 c5):=by show zaj _ _ _ _ _; rw [E2.out]; exact H5.out.below hb4
    clear hg4 hh6 hb4 HS4
    go_wp2
    go_roundg (i + 1)
    case measure => omega
    case rel => exact ⟨i,_,_,_,_,_,_,by omega,by omega,by go_num,rfl,rfl,HQ,HR,hB6⟩
end Go.Proofs.YtkiedljcgkoaiaaGreatDoor
