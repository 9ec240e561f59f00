/- What this claim leans on. -/
import Derived.Test.YtfieheffipfahaaGreatDoorRBunF
import Derived.Test.YtfieheffipfahaaGreatDoorRBunO
import Derived.Deep.RegionHeld
import Derived.IntWalk
import Derived.OrdersHeld
namespace Go.Proofs.YtfieheffipfahaaGreatDoor
open Go Go.RowKit
set_option maxHeartbeats 16000000
set_option maxRecDepth 100000
set_option linter.unusedVariables false
theorem zoO (x : Int) (w : World) : Calls Tryz.prog 132 #[.int .i64 x] w fun e w' => e = .returned (.bool false) ∧ w = w':=by
 go_enter Tryz.func132,Tryz.ntmps132
 go_wp2
 go_ret
 exact ⟨by simp,rfl⟩
theorem zoP (x : Int) (w : World) : Calls Tryz.prog 133 #[.int .u64 x] w fun e w' => e = .returned (.bool false) ∧ w = w':=by
 go_enter Tryz.func133,Tryz.ntmps133
 go_wp2
 go_ret
 exact ⟨by simp,rfl⟩
theorem zme (x y : Nat) (w : World) : Calls Tryz.prog 110 #[.int .i64 x,.int .i64 y] w fun e w' => e = .returned (.int .i64 (zbs x y)) ∧ w = w':=by
 have C : x < y ∧ Hid (zbs x y = -1) ∨ y < x ∧ Hid (zbs x y = 1) ∨ ¬ x < y ∧ ¬ y < x ∧ Hid (zbs x y = 0):=by
  rcases Nat.lt_trichotomy x y with h | h | h
  ·exact .inl ⟨h,zcL h⟩
  ·exact .inr (.inr ⟨by omega,by omega,zdC h⟩)
  ·exact .inr (.inl ⟨h,zcv h⟩)
 rcases C with ⟨h,H⟩ | ⟨h,H⟩ | ⟨h,h',H⟩
 all_goals
  go_enter Tryz.func110,Tryz.ntmps110
  go_wp2_with fail
  refine (zoO _ _).mono ?_
  rintro e w' ⟨rfl,rfl⟩
  go_wp2_with fail
  refine (zoO _ _).mono ?_
  rintro e w' ⟨rfl,rfl⟩
  go_wp2
  go_ret
  exact ⟨by rw [H.out]; rfl,rfl⟩
theorem zmf (x y : Nat) (w : World) : Calls Tryz.prog 111 #[.int .u64 x,.int .u64 y] w fun e w' => e = .returned (.int .i64 (zbs x y)) ∧ w = w':=by
 have C : x < y ∧ Hid (zbs x y = -1) ∨ y < x ∧ Hid (zbs x y = 1) ∨ ¬ x < y ∧ ¬ y < x ∧ Hid (zbs x y = 0):=by
  rcases Nat.lt_trichotomy x y with h | h | h
  ·exact .inl ⟨h,zcL h⟩
  ·exact .inr (.inr ⟨by omega,by omega,zdC h⟩)
  ·exact .inr (.inl ⟨h,zcv h⟩)
 rcases C with ⟨h,H⟩ | ⟨h,H⟩ | ⟨h,h',H⟩
 all_goals
  go_enter Tryz.func111,Tryz.ntmps111
  go_wp2_with fail
  refine (zoP _ _).mono ?_
  rintro e w' ⟨rfl,rfl⟩
  go_wp2_with fail
  refine (zoP _ _).mono ?_
  rintro e w' ⟨rfl,rfl⟩
  go_wp2
  go_ret
  exact ⟨by rw [H.out]; rfl,rfl⟩
def zdo (w : World) (z : Int) (e : Ending) (w' : World) : Prop:=e = .returned (.int .i64 z) ∧ Below w.heap.size w w'
theorem zod (x y : Nat) (A D : oA9) (m c d : Nat) (w : World) (hA : zaf w x A m c) (hD : zaf w y D m d) (hm : m ≤ 1099511627776) :
  Calls Tryz.prog 66 #[.agg #[.slice A m c],.agg #[.slice D m d]] w (zdo w (zbs x y)):=by
 have hln:=hA.len
 have hlm:=hD.len
 have H0 : Hid (x / 18446744073709551616 ^ m = y / 18446744073709551616 ^ m):=by
  show _ = _
  rw [Nat.div_eq_of_lt (by rw [← hln]; exact zaU (by decide) x),Nat.div_eq_of_lt (by rw [← hlm]; exact zaU (by decide) y)]
 have hrA:=hA.1
 have hrD:=hD.1
 clear hln hlm hA hD
 go_enter Tryz.func66,Tryz.ntmps66
 go_wp2_with fail
 have hb0 : Below w.heap.size w ((w.alloc (.cells #[.slice A m c] 29)).alloc (.cells #[.slice D m d] 29)).drew:=(((Below.refl _ w).alloc (Nat.le_refl _) _).alloc (by simp) _).drew
 go_region_held3 (fun w' => Below w.heap.size w w' ∧ w'.cell? ⟨w.heap.size,0,none⟩ = some (.slice A m c) ∧ w'.cell? ⟨w.heap.size + 1,0,none⟩ = some (.slice D m d))
  (first | go_keep | (go_split_ands; exact ⟨zac (by assumption) hb,zad hb (by first | assumption | simp),zad hb (by first | assumption | simp)⟩))
  (first
    | (go_at_call 108; refine (zcb x _ _ _ _).mono ?_; rintro e w' ⟨rfl,hb⟩))
 rename_i hH
 obtain ⟨hB,h1,h2⟩:=hH
 clear hb
 go_wp2_with fail
 refine (zcb x _ _ _ _).mono ?_
 rintro e w2 ⟨rfl,hb2⟩
 have hB2:=zac hB hb2
 have g1:=zad hb2 h1
 have g2:=zad hb2 h2
 clear hB hb2 h1 h2 hb0
 go_wp2_with fail
 go_loopg [5,6] (m + 1) (fun g i _ wr => ∃ (k : Nat),k ≤ m ∧ i = .int .i64 ((k : Int) - 1) ∧ Hid (x / 18446744073709551616 ^ k = y / 18446744073709551616 ^ k) ∧ k < g ∧ Below w.heap.size w wr ∧ wr.cell? ⟨w.heap.size,0,none⟩ = some (.slice A m c) ∧ wr.cell? ⟨w.heap.size + 1,0,none⟩ = some (.slice D m d))
 case atStart => exact ⟨m,Nat.le_refl _,rfl,H0,Nat.lt_succ_self _,hB2,g1,g2⟩
 case round =>
  obtain ⟨k,hk,rfl,H,hg,hB,g1,g2⟩:=hrel
  have rA:=hrA.below hB
  have rD:=hrD.below hB
  by_cases hk0 : k = 0
  ·subst hk0
   have C:=lh9 (zdC (x:=x) (y:=y) (by have:=H.out; simpa using this))
   go_wp2
   go_ret
   exact ⟨by rw [C.out]; rfl,hB⟩
  ·obtain ⟨j,rfl⟩ : ∃ j,k = j + 1:=⟨k - 1,by omega⟩
   obtain ⟨ad,rfl,hadb,h1⟩:=zbg rA (k:=j) (by omega)
   obtain ⟨ae,rfl,haeb,h2⟩:=zbg rD (k:=j) (by omega)
   rw [zfB] at h1 h2
   have L1:=lh9 (fun h => ziu (b:=18446744073709551616) H.out h)
   have L2:=lh9 (fun h => ziu (b:=18446744073709551616) H.out.symm h)
   have L3:=lh9 (fun h => cmp_eq (b:=18446744073709551616) H.out h)
   obtain ⟨p,hp⟩ : ∃ p,wd x j = p:=⟨_,rfl⟩
   obtain ⟨r,hr⟩ : ∃ p,wd y j = p:=⟨_,rfl⟩
   unfold wd at hp hr
   rw [hp,hr] at L1 L2 L3
   rw [show wd x j = p from hp] at h1
   rw [show wd y j = r from hr] at h2
   clear hp hr
   have CC:=lh9 (fun w => zmf p r w)
   have K : (zbs p r = -1 ∧ Hid (zbs x y = -1)) ∨ (zbs p r = 0 ∧ Hid (x / 18446744073709551616 ^ j = y / 18446744073709551616 ^ j)) ∨ (zbs p r = 1 ∧ Hid (zbs x y = 1)):=by
    rcases Nat.lt_trichotomy p r with h | h | h
    ·exact .inl ⟨zcL h,zcL (L1.out h)⟩
    ·exact .inr (.inl ⟨zdC h,L3.out h⟩)
    ·exact .inr (.inr ⟨zcv h,zcv (L2.out h)⟩)
   clear L1 L2 L3
   rcases K with ⟨e,C⟩ | ⟨e,M⟩ | ⟨e,C⟩
   ·rw [e] at CC
    clear e
    go_wp2_with fail
    have s1 : (0 : Int) ≤ (j : Int):=by omega
    have s2 : (j : Int) < (m : Int):=by omega
    go_quiet ((go_at_call 111; exact zcs (CC.out _)))
    go_wp2
    go_ret
    exact ⟨by rw [C.out]; rfl,zbj hB _⟩
   ·rw [e] at CC
    clear e
    go_wp2_with fail
    have s1 : (0 : Int) ≤ (j : Int):=by omega
    have s2 : (j : Int) < (m : Int):=by omega
    go_quiet ((go_at_call 111; exact zcs (CC.out _)))
    go_wp2
    go_roundg (j + 1)
    case measure => omega
    case rel => exact ⟨j,by omega,by go_num,M,by omega,zbj hB _,g1,g2⟩
   ·rw [e] at CC
    clear e
    go_wp2_with fail
    have s1 : (0 : Int) ≤ (j : Int):=by omega
    have s2 : (j : Int) < (m : Int):=by omega
    go_quiet ((go_at_call 111; exact zcs (CC.out _)))
    go_wp2
    go_ret
    exact ⟨by rw [C.out]; rfl,zbj hB _⟩
theorem zfI (x y : Nat) (A D : oA9) (n m c d : Nat) (w : World) (hA : zaf w x A n c) (hD : zaf w y D m d) (hn : n ≤ 1099511627776) (hm : m ≤ 1099511627776) :
  Calls Tryz.prog 66 #[.agg #[.slice A n c],.agg #[.slice D m d]] w (zdo w (zbs x y)):=by
 have hln:=hA.len
 have hlm:=hD.len
 by_cases hne : n = m
 ·subst hne
  exact zod x y A D n c d w hA hD hn
 ·have C : zbs n m = zbs x y:=by
   rcases Nat.lt_trichotomy n m with h | h | h
   ·rw [zcL h,zcL (zgg (b:=18446744073709551616) (by decide) (by omega))]
   ·exact absurd h hne
   ·rw [zcv h,zcv (zgg (b:=18446744073709551616) (by decide) (by omega))]
  have hne' : ((n : Int) == (m : Int)) = false:=by simp; omega
  have HN:=lh9 hne
  have CC : ∀ w,Calls Tryz.prog 110 #[.int .i64 n,.int .i64 m] w fun e w' => e = .returned (.int .i64 (zbs x y)) ∧ w = w':=fun w => by rw [← C]; exact zme n m w
  have HC:=lh9 CC
  obtain ⟨z,hz⟩ : ∃ z,zbs x y = z:=⟨_,rfl⟩
  rw [hz] at HC ⊢
  clear hln hlm hne C CC hz
  go_enter Tryz.func66,Tryz.ntmps66
  go_wp2_with fail
  have hb0 : Below w.heap.size w ((w.alloc (.cells #[.slice A n c] 29)).alloc (.cells #[.slice D m d] 29)).drew:=(((Below.refl _ w).alloc (Nat.le_refl _) _).alloc (by simp) _).drew
  go_region_held3 (fun w' => Below w.heap.size w w' ∧ w'.cell? ⟨w.heap.size,0,none⟩ = some (.slice A n c) ∧ w'.cell? ⟨w.heap.size + 1,0,none⟩ = some (.slice D m d))
   (first | go_keep | (go_split_ands; exact ⟨zac (by assumption) hb,zad hb (by first | assumption | simp),zad hb (by first | assumption | simp)⟩))
   (first
     | (go_at_call 108; refine (zcb x _ _ _ _).mono ?_; rintro e w' ⟨rfl,hb⟩))
  rename_i hH
  obtain ⟨hB,h1,h2⟩:=hH
  clear hb hb0
  go_wp2_with fail
  have hb0 : Below w.heap.size w w'.drew:=hB.drew
  go_region_held3 (fun w' => Below w.heap.size w w' ∧ w'.cell? ⟨w.heap.size,0,none⟩ = some (.slice A n c) ∧ w'.cell? ⟨w.heap.size + 1,0,none⟩ = some (.slice D m d))
   (first | go_keep | (go_split_ands; exact ⟨zac (by assumption) hb,zad hb (by first | assumption | simp),zad hb (by first | assumption | simp)⟩))
   (first
     | (go_at_call 108; refine (zcb x _ _ _ _).mono ?_; rintro e w' ⟨rfl,hb⟩)
     | (go_at_call 110; refine (HC.out _).mono ?_; rintro e w' ⟨rfl,rfl⟩))
  obtain ⟨hB,h1,h2⟩:=‹Below w.heap.size w _ ∧ _›
  go_wp2
  go_ret
  exact ⟨rfl,hB⟩
def zaE (w : World) (z : Int) (b : Bool) (A : oA9) (n c : Nat) : Prop:=b = decide (z < 0) ∧ zaf w z.natAbs A n c
theorem zaE.below {w w' : World} {z : Int} {b : Bool} {A : oA9} {n c : Nat} (h : zaE w z b A n c) (hb : Below w.heap.size w w') : zaE w' z b A n c:=⟨h.1,h.2.below hb⟩
theorem zaE.words {w : World} {z : Int} {b : Bool} {A : oA9} {n c : Nat} (h : zaE w z b A n c) : zaf w z.natAbs A n c:=h.2
def zcC (w : World) (z : Int) (e : Ending) (w' : World) : Prop:=∃ (b : Bool) (A : oA9) (n c : Nat),e = .returned (.agg #[.bool b,.slice A n c]) ∧ zaE w' z b A n c ∧ Below w.heap.size w w'
def zez (w : World) (z : Int) (t : Bool) (e : Ending) (w' : World) : Prop:=∃ (b : Bool) (A : oA9) (n c : Nat),e = .returned (.tuple #[.agg #[.bool b,.slice A n c],.bool t]) ∧ zaE w' z b A n c ∧ Below w.heap.size w w'
def zeA (w : World) (x : Nat) (e : Ending) (w' : World) : Prop:=∃ (A : oA9) (n c : Nat),e = .returned (.agg #[.slice A n c]) ∧ zaf w' x A n c ∧ Below w.heap.size w w'
structure IntC (T : World → Prop) : Prop where
 new : ∀ (s : Bool) (x : Nat) (A : oA9) (n c : Nat) (w : World),T w → zaf w x A n c → n ≤ 268435456 → Calls Tryz.prog 38 #[.bool s,.agg #[.slice A n c]] w (zcC w (if s then -(x : Int) else (x : Int)))
 of : ∀ (z : Int) (w : World),T w → -9223372036854775808 ≤ z → z ≤ 9223372036854775807 → Calls Tryz.prog 76 #[.int .i64 z] w (zcC w z)
 belowI : ∀ (z : Int) (b : Bool) (A : oA9) (n c : Nat) (w : World),T w → zaE w z b A n c → n ≤ 268435456 → Calls Tryz.prog 83 #[.agg #[.bool b,.slice A n c]] w fun e w' => e = .returned (.bool (decide (z < 0))) ∧ Below w.heap.size w w'
 abs : ∀ (z : Int) (b : Bool) (A : oA9) (n c : Nat) (w : World),T w → zaE w z b A n c → n ≤ 268435456 → Calls Tryz.prog 28 #[.agg #[.bool b,.slice A n c]] w (zeA w z.natAbs)
 sign : ∀ (z : Int) (b : Bool) (A : oA9) (n c : Nat) (w : World),T w → zaE w z b A n c → n ≤ 268435456 → Calls Tryz.prog 80 #[.agg #[.bool b,.slice A n c]] w (zdo w (zeg z))
 text : ∀ (z : Int) (b : Bool) (A : oA9) (n c : Nat) (w : World),T w → zaE w z b A n c → n ≤ 16777216 → Calls Tryz.prog 47 #[.agg #[.bool b,.slice A n c]] w fun e w' => e = .returned (.string (zau (zbn z))) ∧ Below w.heap.size w w'
 cmp : ∀ (x y : Int) (b b' : Bool) (A D : oA9) (n m c d : Nat) (w : World),T w → zaE w x b A n c → zaE w y b' D m d → n ≤ 268435456 → m ≤ 268435456 → Calls Tryz.prog 65 #[.agg #[.bool b,.slice A n c],.agg #[.bool b',.slice D m d]] w (zdo w (cmpZ x y))
 read : ∀ (s : ByteArray) (w : World),T w → s.size ≤ 2147483648 → Calls Tryz.prog 55 #[.string s] w (zez w (if okI s.data.toList then zbB s.data.toList else 0) (okI s.data.toList))
set_option linter.unusedSimpArgs false
theorem zkJ {w : World} {A : oA9} {n c x g : Nat} {t : TypeId} {cs : Array Value} (h : zaf w x A n c) (hk : Blk w g t cs) (hcs : ∀ v ∈ cs.toList,∀ z,v ≠ .int .u64 z) : 0 < n → ∀ ad,A = some ad → ad.block ≠ g:=fun hn ad e hg => by
 obtain ⟨ad',e',_,hc⟩:=h.1.2 hn
 rw [e] at e'
 injection e' with e'
 subst e'
 have hl:=h.len
 have h0:=hc 0 (.int .u64 ((dg 18446744073709551616 x).getD 0 0 : Nat)) (zcU .u64 _ 0 (by omega))
 have e0 : ad.add 0 = ad:=by unfold Addr.add; rw [if_pos rfl]
 rw [e0] at h0
 obtain ⟨bk,off,pr⟩:=ad
 simp only at hg
 subst hg
 unfold Blk at hk
 cases pr with
 | none =>
   rw [show w.cell? ⟨bk,off,none⟩ = cs[off]? from cell_of_row w bk off _ t (0,0) hk,← Array.getElem?_toList] at h0
   exact hcs _ (List.mem_of_getElem? h0) _ rfl
 | some q => simp [World.cell?,hk] at h0
theorem zep {w : World} {z : Int} {b p : Bool} {A q : oA9} {n c r s g : Nat} {t : TypeId} (h : zaE w z b A n c) (hk : Blk w g t #[.bool p,.slice q r s]) (p' : Bool) (q' : oA9) (r' s' : Nat) :
  zaE ((w.setCell ⟨g,0,none⟩ (.bool p')).setCell ⟨g,1,none⟩ (.slice q' r' s')) z b A n c:=by
 have h1:=zeO (p:=⟨g,0,none⟩) h.2 (zkJ h.2 hk (by intro v hv; simp at hv; rcases hv with rfl | rfl <;> intro z e <;> cases e)) (.bool p')
 exact ⟨h.1,zeO (p:=⟨g,1,none⟩) h1 (zkJ h1 (hk.set_ 0 (.bool p')) (by intro v hv; simp at hv; rcases hv with rfl | rfl <;> intro z e <;> cases e)) _⟩
def due (l : Array Bool) : Nat:=l.toList.countP fun b => !b
section
variable {P : Program} {ops : Array Oper} {Q : Exit → Act → World → Prop} {md : Region.Mode} {S : World → Prop}
theorem zah {i : Nat} {l : Array Bool} (hi : i ∈ Region.ready md ops l) : l.getD i true = false:=(mem_ready.1 hi).1
theorem zcf {i : Nat} {l : Array Bool} (hi : i ∈ Region.ready md ops l) : i < ops.size:=by
 obtain ⟨_,o,ho,_⟩:=mem_ready.1 hi
 exact (Array.getElem?_eq_some_iff.1 ho).1
theorem zpR {i k : Nat} {l : Array Bool} {o : Oper} {e : Edge} (hi : i ∈ Region.ready md ops l) (ho : ops[i]? = some o) (he : o.after[k]? = some e) (hb : Region.binds md e = true) : l.getD e.on false = true:=by
 obtain ⟨_,o',ho',h⟩:=mem_ready.1 hi
 rw [ho] at ho'
 cases ho'
 exact h e (Array.mem_of_getElem? he) hb
theorem znD {i : Nat} {l : Array Bool} {o : Oper} (h : Region.ready md ops l = []) (ho : ops[i]? = some o) (hr : (o.after.toList.all fun e => !Region.binds md e || l.getD e.on false) = true) : l.getD i true = true:=by
 cases hl : l.getD i true
 ·have : i ∈ Region.ready md ops l:=mem_ready.2 ⟨hl,o,ho,fun e he hb => by
   have:=List.all_eq_true.1 hr e (by simpa using he)
   rw [hb] at this
   simpa using this⟩
  rw [h] at this
  cases this
 ·rfl
theorem zoJ {i : Nat} {l : Array Bool} (h : l.getD i true = false) : due (l.setIfInBounds i true) + 1 = due l:=by
 obtain ⟨l⟩:=l
 unfold due
 have hi : i < l.length:=by
  rcases Nat.lt_or_ge i l.length with h' | h'
  ·exact h'
  ·simp [List.getElem?_eq_none h'] at h
 have hv : l[i] = false:=by simpa [hi] using h
 simp only [List.setIfInBounds_toArray]
 clear h
 induction l generalizing i with
 | nil => simp at hi
 | cons b t ih =>
   cases i with
   | zero =>
     have hb : b = false:=hv
     subst hb
     simp
   | succ j =>
     have:=ih (i:=j) (by simpa using hi) (by simpa using hv)
     simp only [List.set_cons_succ,List.countP_cons]
     omega
theorem zpw {l : Array Bool} (h : due l = 0) : Region.ready md ops l = []:=by
 refine List.eq_nil_iff_forall_not_mem.2 fun i hi => ?_
 have:=zoJ (zah hi)
 omega
theorem zlK {J : Act → Array Bool → Act → World → Prop} {L : Array Bool} {a0 : Act} (hfull : ∀ l a w,J a0 l a w → Region.ready md ops l = [] → l = L)
  (hstep : ∀ l a w i,J a0 l a w → l ≠ L → i ∈ Region.ready md ops l → wpOp P ops Q i (fun a' w' => S w' ∧ J a0 (l.setIfInBounds i true) a' w') a w)
  (hgoal : ∀ a w,J a0 L a w → wpAnyH P md ops Q S (due L) L a w) : ∀ (fuel : Nat) (l : Array Bool) (a : Act) (w : World),due l = fuel → J a0 l a w → wpAnyH P md ops Q S fuel l a w:=by
 intro fuel
 induction fuel with
 | zero =>
   intro l a w hd hJ
   have e:=hfull l a w hJ (zpw hd)
   subst e
   have:=hgoal a w hJ
   rwa [hd] at this
 | succ n ih =>
   intro l a w hd hJ
   by_cases hl : l = L
   ·subst hl
    have:=hgoal a w hJ
    rwa [hd] at this
   ·refine ⟨fun h => absurd (hfull l a w hJ h) hl,fun i hi => ?_⟩
    exact wpOp_mono (fun a' w' ⟨h1,h2⟩ => ⟨h1,ih _ a' w' (by have:=zoJ (zah hi); omega) h2⟩) (hstep l a w i hJ hl hi)
end
def Gd (f : Bool) (p : Prop) : Prop:=f = true → p
theorem Gd.no {p : Prop} : Gd false p:=fun h => by cases h
theorem Gd.yes {p : Prop} (h : p) : Gd true p:=fun _ => h
theorem Gd.get {p : Prop} (h : Gd true p) : p:=h rfl
theorem Gd.mono {f : Bool} {p q : Prop} (h : Gd f p) (k : p → q) : Gd f q:=fun e => k (h e)
def Made (b : Nat) (w : World) (g : Nat) (t : TypeId) (cs : Array Value) (v : Value) : Prop:=v = .pointer (some ⟨g,0,none⟩) ∧ b ≤ g ∧ w.heap[g]? = some (.cells cs t (0,0))
theorem Made.lt {b g : Nat} {w : World} {t : TypeId} {cs : Array Value} {v : Value} (h : Made b w g t cs v) : g < w.heap.size:=(Array.getElem?_eq_some_iff.1 h.2.2).1
theorem Made.new (b : Nat) (w : World) (t : TypeId) (cs : Array Value) (hb : b ≤ w.heap.size) : Made b (w.alloc (.cells cs t)) w.heap.size t cs (.pointer (some ⟨w.heap.size,0,none⟩)):=⟨rfl,hb,heap_alloc_new w _⟩
theorem SzI.add {K K' : Nat} {x y : Int} (h : Sz K x.natAbs) (h' : Sz K' y.natAbs) : Sz (K + K' + 1) (x + y).natAbs :=
 Sz.of_le (Sz.add (h.up (by omega : K ≤ K + K')) (h'.up (by omega : K' ≤ K + K'))) (Int.natAbs_add_le x y)
theorem SzI.neg {K : Nat} {x : Int} (h : Sz K x.natAbs) : Sz K (-x).natAbs:=by rw [Int.natAbs_neg]; exact h
theorem zen {w : World} {x : Nat} {A : oA9} {n c : Nat} (h : zai w x A n c) (hx : x = 0) : n = 0:=by rw [h.len,hx]; rfl
theorem zfG {w : World} {x : Nat} {A : oA9} {n c : Nat} (h : zai w x A n c) (hx : x ≠ 0) : 0 < n:=by
 rw [h.len]
 exact (zeR (b:=65536) (by decide) x hx).1
theorem sgn_pos {x : Int} (h : 0 < x) : zeg x = 1:=by unfold zeg; rw [if_neg (by omega),if_neg (by omega)]
theorem sgn_neg {x : Int} (h : x < 0) : zeg x = -1:=by unfold zeg; rw [if_pos h]
section
variable {P : Program} {f : FuncId} {args : Array Value} {w : World}
theorem zhc {z : Int} {b : Bool} (h : decide (z < 0) = b) (hc : Calls P f args w fun e w' => e = .returned (.bool (decide (z < 0))) ∧ Below w.heap.size w w') : Calls P f args w fun e w' => e = .returned (.bool b) ∧ Below w.heap.size w w':=by rw [h] at hc; exact hc
theorem zlg {x v : Int} (h : zeg x = v) (hc : Calls P f args w (zdo w (zeg x))) : Calls P f args w (zdo w v):=by rw [h] at hc; exact hc
end
end Go.Proofs.YtfieheffipfahaaGreatDoor
