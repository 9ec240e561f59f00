/- What this claim leans on. -/
import Derived.Test.YtkiedljcgkoaiaaGreatDoorXBunE
import Derived.Deep.CutBlock
import Derived.Deep.DeepCutAuto
import Derived.Deep.RegionHeld3
namespace Go.Proofs.YtkiedljcgkoaiaaGreatDoor
open Go Go.RowKit
set_option maxHeartbeats 16000000
set_option maxRecDepth 100000
set_option linter.unusedVariables false
theorem zjT (x : Int) (w : World) : Calls Tryz.prog 97 #[.int .i64 x] w fun e w' => e = .returned (.bool false) ∧ w = w':=by
 go_enter Tryz.func97,Tryz.ntmps97
 go_wp2
 go_ret
 exact ⟨by simp,rfl⟩
theorem zjU (x : Int) (w : World) : Calls Tryz.prog 120 #[.int .u64 x] w fun e w' => e = .returned (.bool false) ∧ w = w':=by
 go_enter Tryz.func120,Tryz.ntmps120
 go_wp2
 go_ret
 exact ⟨by simp,rfl⟩
theorem zhL (x y : Nat) (w : World) : Calls Tryz.prog 63 #[.int .i64 x,.int .i64 y] w fun e w' => e = .returned (.int .i64 (zbx x y)) ∧ w = w':=by
 have C : x < y ∧ Hid (zbx x y = -1) ∨ y < x ∧ Hid (zbx x y = 1) ∨ ¬ x < y ∧ ¬ y < x ∧ Hid (zbx x y = 0):=by
  rcases Nat.lt_trichotomy x y with h | h | h
  ·exact .inl ⟨h,zcx h⟩
  ·exact .inr (.inr ⟨by omega,by omega,zdO h⟩)
  ·exact .inr (.inl ⟨h,zdc h⟩)
 rcases C with ⟨h,H⟩ | ⟨h,H⟩ | ⟨h,h',H⟩
 all_goals
  go_enter Tryz.func63,Tryz.ntmps63
  go_wp2_with fail
  refine (zjT _ _).mono ?_
  rintro e w' ⟨rfl,rfl⟩
  go_wp2_with fail
  refine (zjT _ _).mono ?_
  rintro e w' ⟨rfl,rfl⟩
  go_wp2
  go_ret
  exact ⟨by rw [H.out]; rfl,rfl⟩
theorem zhN (x y : Nat) (w : World) : Calls Tryz.prog 98 #[.int .u64 x,.int .u64 y] w fun e w' => e = .returned (.int .i64 (zbx x y)) ∧ w = w':=by
 have C : x < y ∧ Hid (zbx x y = -1) ∨ y < x ∧ Hid (zbx x y = 1) ∨ ¬ x < y ∧ ¬ y < x ∧ Hid (zbx x y = 0):=by
  rcases Nat.lt_trichotomy x y with h | h | h
  ·exact .inl ⟨h,zcx h⟩
  ·exact .inr (.inr ⟨by omega,by omega,zdO h⟩)
  ·exact .inr (.inl ⟨h,zdc h⟩)
 rcases C with ⟨h,H⟩ | ⟨h,H⟩ | ⟨h,h',H⟩
 all_goals
  go_enter Tryz.func98,Tryz.ntmps98
  go_wp2_with fail
  refine (zjU _ _).mono ?_
  rintro e w' ⟨rfl,rfl⟩
  go_wp2_with fail
  refine (zjU _ _).mono ?_
  rintro e w' ⟨rfl,rfl⟩
  go_wp2
  go_ret
  exact ⟨by rw [H.out]; rfl,rfl⟩
def zbp (w : World) (z : Int) (e : Ending) (w' : World) : Prop:=e = .returned (.int .i64 z) ∧ Below w.heap.size w w'
theorem zjg (x y : Nat) (A D : oA9) (m c d : Nat) (w : World) (hA : zad w x A m c) (hD : zad w y D m d) (hm : m ≤ 1099511627776) :
  Calls Tryz.prog 65 #[.agg #[.slice A m c],.agg #[.slice D m d]] w (zbp w (zbx x y)):=by
 have hln:=hA.len
 have hlm:=hD.len
 have H0 : Hid (x / 18446744073709551616 ^ m = y / 18446744073709551616 ^ m):=by
  show _ = _
  rw [Nat.div_eq_of_lt (by rw [← hln]; exact zaT (by decide) x),Nat.div_eq_of_lt (by rw [← hlm]; exact zaT (by decide) y)]
 have hrA:=hA.1
 have hrD:=hD.1
 clear hln hlm hA hD
 go_enter Tryz.func65,Tryz.ntmps65
 go_wp2_with fail
 have hb0 : Below w.heap.size w ((w.alloc (.cells #[.slice A m c] 40)).alloc (.cells #[.slice D m d] 40)).drew:=(((Below.refl _ w).alloc (Nat.le_refl _) _).alloc (by simp) _).drew
 go_region_held3 (fun w' => Below w.heap.size w w' ∧ w'.cell? ⟨w.heap.size,0,none⟩ = some (.slice A m c) ∧ w'.cell? ⟨w.heap.size + 1,0,none⟩ = some (.slice D m d))
  (first | go_keep | (go_split_ands; exact ⟨zaa (by assumption) hb,zab hb (by first | assumption | simp),zab hb (by first | assumption | simp)⟩))
  (first
    | (go_at_call 86; refine (zaW x _ _ _ _).mono ?_; rintro e w' ⟨rfl,hb⟩))
 rename_i hH
 obtain ⟨hB,h1,h2⟩:=hH
 clear hb
 go_wp2_with fail
 refine (zaW x _ _ _ _).mono ?_
 rintro e w2 ⟨rfl,hb2⟩
 have hB2:=zaa hB hb2
 have g1:=zab hb2 h1
 have g2:=zab hb2 h2
 clear hB hb2 h1 h2 hb0
 go_wp2_with fail
 go_loopg [5,6] (m + 1) (fun g i _ wr => ∃ (k : Nat),k ≤ m ∧ i = .int .i64 ((k : Int) - 1) ∧ Hid (x / 18446744073709551616 ^ k = y / 18446744073709551616 ^ k) ∧ k < g ∧ Below w.heap.size w wr ∧ wr.cell? ⟨w.heap.size,0,none⟩ = some (.slice A m c) ∧ wr.cell? ⟨w.heap.size + 1,0,none⟩ = some (.slice D m d))
 case atStart => exact ⟨m,Nat.le_refl _,rfl,H0,Nat.lt_succ_self _,hB2,g1,g2⟩
 case round =>
  obtain ⟨k,hk,rfl,H,hg,hB,g1,g2⟩:=hrel
  have rA:=hrA.below hB
  have rD:=hrD.below hB
  by_cases hk0 : k = 0
  ·subst hk0
   have C:=lh9 (zdO (x:=x) (y:=y) (by have:=H.out; simpa using this))
   go_wp2
   go_ret
   exact ⟨by rw [C.out]; rfl,hB⟩
  ·obtain ⟨j,rfl⟩ : ∃ j,k = j + 1:=⟨k - 1,by omega⟩
   obtain ⟨ad,rfl,hadb,h1⟩:=zbS rA (k:=j) (by omega)
   obtain ⟨ae,rfl,haeb,h2⟩:=zbS rD (k:=j) (by omega)
   rw [zcH] at h1 h2
   have L1:=lh9 (fun h => ziT (b:=18446744073709551616) H.out h)
   have L2:=lh9 (fun h => ziT (b:=18446744073709551616) H.out.symm h)
   have L3:=lh9 (fun h => cmp_eq (b:=18446744073709551616) H.out h)
   obtain ⟨p,hp⟩ : ∃ p,wd x j = p:=⟨_,rfl⟩
   obtain ⟨r,hr⟩ : ∃ p,wd y j = p:=⟨_,rfl⟩
   unfold wd at hp hr
   rw [hp,hr] at L1 L2 L3
   rw [show wd x j = p from hp] at h1
   rw [show wd y j = r from hr] at h2
   clear hp hr
   have CC:=lh9 (fun w => zhN p r w)
   have K : (zbx p r = -1 ∧ Hid (zbx x y = -1)) ∨ (zbx p r = 0 ∧ Hid (x / 18446744073709551616 ^ j = y / 18446744073709551616 ^ j)) ∨ (zbx p r = 1 ∧ Hid (zbx x y = 1)):=by
    rcases Nat.lt_trichotomy p r with h | h | h
    ·exact .inl ⟨zcx h,zcx (L1.out h)⟩
    ·exact .inr (.inl ⟨zdO h,L3.out h⟩)
    ·exact .inr (.inr ⟨zdc h,zdc (L2.out h)⟩)
   clear L1 L2 L3
   rcases K with ⟨e,C⟩ | ⟨e,M⟩ | ⟨e,C⟩
   ·rw [e] at CC
    clear e
    go_wp2_with fail
    have s1 : (0 : Int) ≤ (j : Int):=by omega
    have s2 : (j : Int) < (m : Int):=by omega
    go_quiet ((go_at_call 98; exact zbQ (CC.out _)))
    go_wp2
    go_ret
    exact ⟨by rw [C.out]; rfl,zda hB _⟩
   ·rw [e] at CC
    clear e
    go_wp2_with fail
    have s1 : (0 : Int) ≤ (j : Int):=by omega
    have s2 : (j : Int) < (m : Int):=by omega
    go_quiet ((go_at_call 98; exact zbQ (CC.out _)))
    go_wp2
    go_roundg (j + 1)
    case measure => omega
    case rel => exact ⟨j,by omega,by go_num,M,by omega,zda hB _,g1,g2⟩
   ·rw [e] at CC
    clear e
    go_wp2_with fail
    have s1 : (0 : Int) ≤ (j : Int):=by omega
    have s2 : (j : Int) < (m : Int):=by omega
    go_quiet ((go_at_call 98; exact zbQ (CC.out _)))
    go_wp2
    go_ret
    exact ⟨by rw [C.out]; rfl,zda hB _⟩
theorem zdh (x y : Nat) (A D : oA9) (n m c d : Nat) (w : World) (hA : zad w x A n c) (hD : zad w y D m d) (hn : n ≤ 1099511627776) (hm : m ≤ 1099511627776) :
  Calls Tryz.prog 65 #[.agg #[.slice A n c],.agg #[.slice D m d]] w (zbp w (zbx x y)):=by
 have hln:=hA.len
 have hlm:=hD.len
 by_cases hne : n = m
 ·subst hne
  exact zjg x y A D n c d w hA hD hn
 ·have C : zbx n m = zbx x y:=by
   rcases Nat.lt_trichotomy n m with h | h | h
   ·rw [zcx h,zcx (zfT (b:=18446744073709551616) (by decide) (by omega))]
   ·exact absurd h hne
   ·rw [zdc h,zdc (zfT (b:=18446744073709551616) (by decide) (by omega))]
  have hne' : ((n : Int) == (m : Int)) = false:=by simp; omega
  have HN:=lh9 hne
  have CC : ∀ w,Calls Tryz.prog 63 #[.int .i64 n,.int .i64 m] w fun e w' => e = .returned (.int .i64 (zbx x y)) ∧ w = w':=fun w => by rw [← C]; exact zhL n m w
  have HC:=lh9 CC
  obtain ⟨z,hz⟩ : ∃ z,zbx x y = z:=⟨_,rfl⟩
  rw [hz] at HC ⊢
  clear hln hlm hne C CC hz
  go_enter Tryz.func65,Tryz.ntmps65
  go_wp2_with fail
  have hb0 : Below w.heap.size w ((w.alloc (.cells #[.slice A n c] 40)).alloc (.cells #[.slice D m d] 40)).drew:=(((Below.refl _ w).alloc (Nat.le_refl _) _).alloc (by simp) _).drew
  go_region_held3 (fun w' => Below w.heap.size w w' ∧ w'.cell? ⟨w.heap.size,0,none⟩ = some (.slice A n c) ∧ w'.cell? ⟨w.heap.size + 1,0,none⟩ = some (.slice D m d))
   (first | go_keep | (go_split_ands; exact ⟨zaa (by assumption) hb,zab hb (by first | assumption | simp),zab hb (by first | assumption | simp)⟩))
   (first
     | (go_at_call 86; refine (zaW x _ _ _ _).mono ?_; rintro e w' ⟨rfl,hb⟩))
  rename_i hH
  obtain ⟨hB,h1,h2⟩:=hH
  clear hb hb0
  go_wp2_with fail
  have hb0 : Below w.heap.size w w'.drew:=hB.drew
  go_region_held3 (fun w' => Below w.heap.size w w' ∧ w'.cell? ⟨w.heap.size,0,none⟩ = some (.slice A n c) ∧ w'.cell? ⟨w.heap.size + 1,0,none⟩ = some (.slice D m d))
   (first | go_keep | (go_split_ands; exact ⟨zaa (by assumption) hb,zab hb (by first | assumption | simp),zab hb (by first | assumption | simp)⟩))
   (first
     | (go_at_call 86; refine (zaW x _ _ _ _).mono ?_; rintro e w' ⟨rfl,hb⟩)
     | (go_at_call 63; refine (HC.out _).mono ?_; rintro e w' ⟨rfl,rfl⟩))
  obtain ⟨hB,h1,h2⟩:=‹Below w.heap.size w _ ∧ _›
  go_wp2
  go_ret
  exact ⟨rfl,hB⟩
end Go.Proofs.YtkiedljcgkoaiaaGreatDoor
