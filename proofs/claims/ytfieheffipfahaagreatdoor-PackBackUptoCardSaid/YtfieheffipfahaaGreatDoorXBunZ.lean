/- What this claim leans on. -/
import Derived.Test.YtfieheffipfahaaGreatDoorXBunE
import Derived.ChangeArms
import Derived.ChangeOld
import Derived.Deep.CutBlock
import Derived.Deep.DeepCutAuto
import Derived.Deep.RegionHeld3
import Derived.Lib.SmallJoins
import Derived.OpenShut
import Derived.ProofKit
namespace Go.Proofs.YtfieheffipfahaaGreatDoor
open Go Go.RowKit
open Go.ChangeShapes Go.WideShapes Go.ChangeAt
set_option maxHeartbeats 16000000
set_option linter.unusedVariables false
namespace UA
set_option maxHeartbeats 16000000
theorem one_le {H : Type} (d : DataW H) : 1 ≤ Rows.uptoBulk d := by
 cases d with
 | lit l => cases l <;> simp [Rows.uptoBulk]
 | nil => simp [Rows.uptoBulk]
 | ptr d => simp [Rows.uptoBulk]
 | slice elems spare => simp [Rows.uptoBulk]
 | agg parts => simp [Rows.uptoBulk]
 | iface t d => simp [Rows.uptoBulk]
 | map entries => simp [Rows.uptoBulk]
 | held h => simp [Rows.uptoBulk]
theorem zjl {H : Type} (l : List (DataW H)) : l.length ≤ Rows.uptoBulkAll l := by
 induction l with
 | nil => simp [Rows.uptoBulkAll]
 | cons x r ih => have := one_le x; simp only [Rows.uptoBulkAll,List.length_cons]; omega
theorem slice_le {H : Type} (elems spare : List (DataW H)) : elems.length + spare.length + 1 ≤ Rows.uptoBulk (.slice elems spare) := by
 have h1 := zjl elems
 have h2 := zjl spare
 simp only [Rows.uptoBulk]
 omega
end UA
structure zaK (W : World) (A : oA9) (n c : Nat) (l : List Nat) : Prop where
 reads : zan W W.heap.size 1 A n (zar .u64 l)
 dgs : Dgs 18446744073709551616 l
 fits : n ≤ c
 small : c ≤ 1048576
theorem ziU {H : Type} {enc : TypeId × Value → H} {P : Program} {W : World} {fuel : Nat} {t e : TypeId} {A : oA9} {n c : Nat} {x : DataW H × List MemPlace} (ht : P.underlying t = some (.slice e)) (he : P.underlying e = some (.int .u64)) (hc : P.cellsOf e = 1)
  (h : DataW.trod enc P W 0 (fun _ => true) true fuel t (Value.slice A n c).cells.toList = some x) (hb : Rows.uptoBulk x.1 ≤ 1048576) : ∃ l,zaK W A n c l := by
 rcases open_ints ht he hc h with ⟨hcs,_⟩ | ⟨a,len,cap,zs,hcs,_,hl,hm,hz,hx,hcell,hwz⟩
 ·simp [Value.cells] at hcs
  obtain ⟨rfl,rfl,rfl⟩ := hcs
  exact ⟨[],⟨zan.none_,by intro d hd; simp at hd,Nat.le_refl _,by omega⟩⟩
 ·simp [Value.cells] at hcs
  obtain ⟨rfl,rfl,rfl⟩ := hcs
  have hz' : zs.length = c := by simpa using hz
  subst hx
  have hs := UA.slice_le (H := H) (lits .u64 (zs.take n)) (lits .u64 (zs.drop n))
  have hlen : (lits (H := H) .u64 (zs.take n)).length + (lits (H := H) .u64 (zs.drop n)).length = c := by
   simp [lits]; omega
  have hb' : Rows.uptoBulk (DataW.slice (lits (H := H) .u64 (zs.take n)) (lits (H := H) .u64 (zs.drop n))) ≤ 1048576 := hb
  refine ⟨(zs.take n).map Int.toNat,⟨?_,?_,hl,?_⟩⟩
  ·refine ⟨by simp [zar]; omega,fun hn => ⟨a,rfl,?_,fun j u hu => ?_⟩⟩
   ·have h0 := hcell 0 (by omega)
    have := World.block_lt_of_cell? W _ h0
    rw [zbj] at this
    exact this
   ·have hj : j < n := by
     have := (List.getElem?_eq_some_iff.1 hu).1
     simp [zar] at this; omega
    rw [hcell j (by omega),← hu]
    have hw := hwz (zs.getD j 0) (by rw [List.getD_eq_getElem?_getD,List.getElem?_eq_getElem (by omega)]; exact List.getElem_mem (by omega))
    have hb0 := bounds_u64 hw
    simp only [zar,List.getElem?_map,List.getElem?_take,if_pos hj,List.getElem?_eq_getElem (show j < zs.length by omega),Option.map_some,Option.some.injEq,Value.int.injEq,true_and]
    rw [List.getD_eq_getElem?_getD,List.getElem?_eq_getElem (show j < zs.length by omega)] at hb0 ⊢
    simp at hb0 ⊢
    omega
  ·intro d hd
   obtain ⟨z,hz2,rfl⟩ := List.mem_map.1 hd
   have := bounds_u64 (hwz z (List.mem_of_mem_take hz2))
   omega
  ·omega
end Go.Proofs.YtfieheffipfahaaGreatDoor
namespace Go.Proofs.YtfieheffipfahaaGreatDoor
open Go Go.RowKit
open Go.ChangeShapes Go.WideShapes Go.ChangeAt Go.Deep
set_option maxHeartbeats 16000000
set_option linter.unusedVariables false
theorem zdj {H : Type} {enc : TypeId × Value → H} {P : Program} {W : World} {fuel : Nat} {t e : TypeId} {v : Value} {x : DataW H × List MemPlace} (ht : P.underlying t = some (.slice e)) (he : P.underlying e = some (.int .u64)) (hc : P.cellsOf e = 1)
  (h : DataW.trod enc P W 0 (fun _ => true) true fuel t [v] = some x) (hb : Rows.uptoBulk x.1 ≤ 1048576) : ∃ A n c l,v = .slice A n c ∧ zaK W A n c l := by
 rcases open_ints ht he hc h with ⟨hcs,_⟩ | ⟨a,len,cap,zs,hcs,_⟩
 ·simp only [List.cons.injEq,and_true] at hcs
  subst hcs
  obtain ⟨l,hl⟩ := ziU ht he hc h hb
  exact ⟨_,_,_,l,rfl,hl⟩
 ·simp only [List.cons.injEq,and_true] at hcs
  subst hcs
  obtain ⟨l,hl⟩ := ziU ht he hc h hb
  exact ⟨_,_,_,l,rfl,hl⟩
theorem arg_whole {H : Type} {enc : TypeId × Value → H} {P : Program} {W : World} {r : Reach} {b0 : Nat} {t e : TypeId} {f0 f1 : Field} {v : Value} {d : DataW H} {p : List MemPlace} (hs : P.underlying t = some (.struct #[f0,f1])) (hone : oneCellFields P #[f0,f1] = true) (hC : P.cellsOf t = 2)
  (h0 : P.underlying f0.type = some .bool) (h1 : P.underlying f1.type = some (.slice e)) (he : P.underlying e = some (.int .u64)) (hc : P.cellsOf e = 1)
  (hv : Value.okWide P W r b0 t v) (h : DataW.Trod enc P W 0 (fun _ => true) true t v d p) (hb : Rows.uptoBulk d ≤ 1048576) : ∃ b A n c l,v = .agg #[.bool b,.slice A n c] ∧ zaK W A n c l := by
 obtain ⟨v0,v1,y0,y1,n,rfl,rfl,rfl,g0,g1⟩ := Go.Joins.open_agg2 hs hone hC hv h
 obtain ⟨b,hb0,_⟩ := DataW.trod_bool h0 g0
 simp only [List.cons.injEq,and_true] at hb0
 subst hb0
 obtain ⟨A,m,c,l,rfl,hl⟩ := zdj h1 he hc g1 (by simp only [Rows.uptoBulk,Rows.uptoBulkAll] at hb; omega)
 exact ⟨b,A,m,c,l,rfl,hl⟩
end Go.Proofs.YtfieheffipfahaaGreatDoor
namespace Go.Proofs.YtfieheffipfahaaGreatDoor
open Go Go.RowKit
open Go.ChangeShapes Go.WideShapes Go.ChangeAt Go.Deep
set_option maxHeartbeats 16000000
set_option linter.unusedVariables false
theorem zmL {H : Type} {enc : TypeId × Value → H} {P : Program} {W : World} {fuel : Nat} {t e : TypeId} {f0 f1 g0 g1 : Field} {c0 c1 c2 : Value} {x : DataW H × List MemPlace}
  (hs : P.underlying t = some (.struct #[f0,f1])) (hf : (f0.offset,P.cellsOf f0.type,f1.offset,P.cellsOf f1.type) = (0,2,2,1))
  (hs0 : P.underlying f0.type = some (.struct #[g0,g1])) (hg : (g0.offset,P.cellsOf g0.type,g1.offset,P.cellsOf g1.type) = (0,1,1,1))
  (hb0 : P.underlying g0.type = some .bool) (hs1 : P.underlying g1.type = some (.slice e)) (hs2 : P.underlying f1.type = some (.slice e)) (he : P.underlying e = some (.int .u64)) (hc : P.cellsOf e = 1)
  (h : DataW.trod enc P W 0 (fun _ => true) true fuel t [c0,c1,c2] = some x) (hk : Rows.uptoBulk x.1 ≤ 1048576) :
  ∃ b A n c l E u v k,c0 = .bool b ∧ c1 = .slice A n c ∧ c2 = .slice E u v ∧ zaK W A n c l ∧ zaK W E u v k := by
 simp only [Prod.mk.injEq] at hf hg
 obtain ⟨y0,y1,n,rfl,_,h0,h1⟩ := trod_struct2 hs h
 rw [hf.1,hf.2.1] at h0
 rw [hf.2.2.1,hf.2.2.2] at h1
 simp only [List.drop_zero,List.take_succ_cons,List.take_zero,List.drop_succ_cons] at h0 h1
 obtain ⟨z0,z1,m,rfl,_,k0,k1⟩ := trod_struct2 hs0 h0
 rw [hg.1,hg.2.1] at k0
 rw [hg.2.2.1,hg.2.2.2] at k1
 simp only [List.drop_zero,List.take_succ_cons,List.take_zero,List.drop_succ_cons] at k0 k1
 simp only [Rows.uptoBulk,Rows.uptoBulkAll] at hk
 obtain ⟨b,hb,_⟩ := DataW.trod_bool hb0 k0
 simp only [List.cons.injEq,and_true] at hb
 obtain ⟨A,q,c,l,hA,wA⟩ := zdj hs1 he hc k1 (by omega)
 obtain ⟨E,u,v,k,hE,wE⟩ := zdj hs2 he hc h1 (by omega)
 exact ⟨b,A,q,c,l,E,u,v,k,hb,hA,hE,wA,wE⟩
theorem arg_part {H : Type} {enc : TypeId × Value → H} {P : Program} {W : World} {r : Reach} {b0 : Nat} {t e : TypeId} {f0 f1 g0 g1 : Field} {v : Value} {d : DataW H} {p : List MemPlace}
  (hs : P.underlying t = some (.struct #[f0,f1])) (hf : (f0.offset,P.cellsOf f0.type,f1.offset,P.cellsOf f1.type) = (0,2,2,1)) (hC : P.cellsOf t = 3)
  (hs0 : P.underlying f0.type = some (.struct #[g0,g1])) (hg : (g0.offset,P.cellsOf g0.type,g1.offset,P.cellsOf g1.type) = (0,1,1,1))
  (hb0 : P.underlying g0.type = some .bool) (hs1 : P.underlying g1.type = some (.slice e)) (hs2 : P.underlying f1.type = some (.slice e)) (he : P.underlying e = some (.int .u64)) (hc : P.cellsOf e = 1)
  (hv : Value.okWide P W r b0 t v) (h : DataW.Trod enc P W 0 (fun _ => true) true t v d p) (hk : Rows.uptoBulk d ≤ 1048576) :
  ∃ b A n c l E u m k,v = .agg #[.bool b,.slice A n c,.slice E u m] ∧ zaK W A n c l ∧ zaK W E u m k := by
 obtain ⟨cs,rfl,hsz⟩ := okWide_struct hs hv
 obtain ⟨c0,c1,c2,rfl⟩ := Go.Joins.array3 (hsz.trans hC)
 obtain ⟨fuel,hh⟩ := h
 obtain ⟨b,A,n,c,l,E,u,m,k,rfl,rfl,rfl,wA,wE⟩ := zmL (x := (d,p)) hs hf hs0 hg hb0 hs1 hs2 he hc (by simpa [Value.cells] using hh) hk
 exact ⟨b,A,n,c,l,E,u,m,k,rfl,wA,wE⟩
end Go.Proofs.YtfieheffipfahaaGreatDoor
namespace Go.Proofs.YtfieheffipfahaaGreatDoor
open Go Go.RowKit
set_option maxHeartbeats 16000000
set_option maxRecDepth 100000
set_option linter.unusedVariables false
theorem zns (x : Int) (w : World) : Calls Tryz.prog 132 #[.int .i64 x] w fun e w' => e = .returned (.bool false) ∧ w = w' := by
 go_enter Tryz.func132,Tryz.ntmps132
 go_wp2
 go_ret
 exact ⟨by simp,rfl⟩
theorem znt (x : Int) (w : World) : Calls Tryz.prog 133 #[.int .u64 x] w fun e w' => e = .returned (.bool false) ∧ w = w' := by
 go_enter Tryz.func133,Tryz.ntmps133
 go_wp2
 go_ret
 exact ⟨by simp,rfl⟩
theorem zkT (x y : Nat) (w : World) : Calls Tryz.prog 110 #[.int .i64 x,.int .i64 y] w fun e w' => e = .returned (.int .i64 (zcn x y)) ∧ w = w' := by
 have C : x < y ∧ Hid (zcn x y = -1) ∨ y < x ∧ Hid (zcn x y = 1) ∨ ¬ x < y ∧ ¬ y < x ∧ Hid (zcn x y = 0) := by
  rcases Nat.lt_trichotomy x y with h | h | h
  ·exact .inl ⟨h,zdz h⟩
  ·exact .inr (.inr ⟨by omega,by omega,zeV h⟩)
  ·exact .inr (.inl ⟨h,zdy h⟩)
 rcases C with ⟨h,H⟩ | ⟨h,H⟩ | ⟨h,h',H⟩
 all_goals
  go_enter Tryz.func110,Tryz.ntmps110
  go_wp2_with fail
  refine (zns _ _).mono ?_
  rintro e w' ⟨rfl,rfl⟩
  go_wp2_with fail
  refine (zns _ _).mono ?_
  rintro e w' ⟨rfl,rfl⟩
  go_wp2
  go_ret
  exact ⟨by rw [H.out]; rfl,rfl⟩
theorem zkU (x y : Nat) (w : World) : Calls Tryz.prog 111 #[.int .u64 x,.int .u64 y] w fun e w' => e = .returned (.int .i64 (zcn x y)) ∧ w = w' := by
 have C : x < y ∧ Hid (zcn x y = -1) ∨ y < x ∧ Hid (zcn x y = 1) ∨ ¬ x < y ∧ ¬ y < x ∧ Hid (zcn x y = 0) := by
  rcases Nat.lt_trichotomy x y with h | h | h
  ·exact .inl ⟨h,zdz h⟩
  ·exact .inr (.inr ⟨by omega,by omega,zeV h⟩)
  ·exact .inr (.inl ⟨h,zdy h⟩)
 rcases C with ⟨h,H⟩ | ⟨h,H⟩ | ⟨h,h',H⟩
 all_goals
  go_enter Tryz.func111,Tryz.ntmps111
  go_wp2_with fail
  refine (znt _ _).mono ?_
  rintro e w' ⟨rfl,rfl⟩
  go_wp2_with fail
  refine (znt _ _).mono ?_
  rintro e w' ⟨rfl,rfl⟩
  go_wp2
  go_ret
  exact ⟨by rw [H.out]; rfl,rfl⟩
end Go.Proofs.YtfieheffipfahaaGreatDoor
namespace Go.Proofs.YtfieheffipfahaaGreatDoor
open Go Go.RowKit
set_option maxHeartbeats 16000000
set_option maxRecDepth 100000
set_option linter.unusedVariables false
def zdL (w : World) (z : Int) (e : Ending) (w' : World) : Prop := e = .returned (.int .i64 z) ∧ Below w.heap.size w w'
theorem zmH (x y : Nat) (A D : oA9) (m c d : Nat) (w : World) (hA : zaf w x A m c) (hD : zaf w y D m d) (hm : m ≤ 1099511627776) :
  Calls Tryz.prog 66 #[.agg #[.slice A m c],.agg #[.slice D m d]] w (zdL w (zcn x y)) := by
 have hln := hA.len
 have hlm := hD.len
 have H0 : Hid (x / 18446744073709551616 ^ m = y / 18446744073709551616 ^ m) := by
  show _ = _
  rw [Nat.div_eq_of_lt (by rw [← hln]; exact zbd (by decide) x),Nat.div_eq_of_lt (by rw [← hlm]; exact zbd (by decide) y)]
 have hrA := hA.1
 have hrD := hD.1
 clear hln hlm hA hD
 go_enter Tryz.func66,Tryz.ntmps66
 go_wp2_with fail
 have hb0 : Below w.heap.size w ((w.alloc (.cells #[.slice A m c] 29)).alloc (.cells #[.slice D m d] 29)).drew := (((Below.refl _ w).alloc (Nat.le_refl _) _).alloc (by simp) _).drew
 go_region_held3 (fun w' => Below w.heap.size w w' ∧ w'.cell? ⟨w.heap.size,0,none⟩ = some (.slice A m c) ∧ w'.cell? ⟨w.heap.size + 1,0,none⟩ = some (.slice D m d))
  (first | go_keep | (go_split_ands; exact ⟨zaa (by assumption) hb,zab hb (by first | assumption | simp),zab hb (by first | assumption | simp)⟩))
  (first
    | (go_at_call 108; refine (zce x _ _ _ _).mono ?_; rintro e w' ⟨rfl,hb⟩))
 rename_i hH
 obtain ⟨hB,h1,h2⟩ := hH
 clear hb
 go_wp2_with fail
 refine (zce x _ _ _ _).mono ?_
 rintro e w2 ⟨rfl,hb2⟩
 have hB2 := zaa hB hb2
 have g1 := zab hb2 h1
 have g2 := zab hb2 h2
 clear hB hb2 h1 h2 hb0
 go_wp2_with fail
 go_loopg [5,6] (m + 1) (fun g i _ wr => ∃ (k : Nat),k ≤ m ∧ i = .int .i64 ((k : Int) - 1) ∧ Hid (x / 18446744073709551616 ^ k = y / 18446744073709551616 ^ k) ∧ k < g ∧ Below w.heap.size w wr ∧ wr.cell? ⟨w.heap.size,0,none⟩ = some (.slice A m c) ∧ wr.cell? ⟨w.heap.size + 1,0,none⟩ = some (.slice D m d))
 case atStart => exact ⟨m,Nat.le_refl _,rfl,H0,Nat.lt_succ_self _,hB2,g1,g2⟩
 case round =>
  obtain ⟨k,hk,rfl,H,hg,hB,g1,g2⟩ := hrel
  have rA := hrA.below hB
  have rD := hrD.below hB
  by_cases hk0 : k = 0
  ·subst hk0
   have C := lh9 (zeV (x := x) (y := y) (by have := H.out; simpa using this))
   go_wp2
   go_ret
   exact ⟨by rw [C.out]; rfl,hB⟩
  ·obtain ⟨j,rfl⟩ : ∃ j,k = j + 1 := ⟨k - 1,by omega⟩
   obtain ⟨ad,rfl,hadb,h1⟩ := zcq rA (k := j) (by omega)
   obtain ⟨ae,rfl,haeb,h2⟩ := zcq rD (k := j) (by omega)
   rw [zeR] at h1 h2
   have L1 := lh9 (fun h => zmw (b := 18446744073709551616) H.out h)
   have L2 := lh9 (fun h => zmw (b := 18446744073709551616) H.out.symm h)
   have L3 := lh9 (fun h => cmp_eq (b := 18446744073709551616) H.out h)
   obtain ⟨p,hp⟩ : ∃ p,wd x j = p := ⟨_,rfl⟩
   obtain ⟨r,hr⟩ : ∃ p,wd y j = p := ⟨_,rfl⟩
   unfold wd at hp hr
   rw [hp,hr] at L1 L2 L3
   rw [show wd x j = p from hp] at h1
   rw [show wd y j = r from hr] at h2
   clear hp hr
   have CC := lh9 (fun w => zkU p r w)
   have K : (zcn p r = -1 ∧ Hid (zcn x y = -1)) ∨ (zcn p r = 0 ∧ Hid (x / 18446744073709551616 ^ j = y / 18446744073709551616 ^ j)) ∨ (zcn p r = 1 ∧ Hid (zcn x y = 1)) := by
    rcases Nat.lt_trichotomy p r with h | h | h
    ·exact .inl ⟨zdz h,zdz (L1.out h)⟩
    ·exact .inr (.inl ⟨zeV h,L3.out h⟩)
    ·exact .inr (.inr ⟨zdy h,zdy (L2.out h)⟩)
   clear L1 L2 L3
   rcases K with ⟨e,C⟩ | ⟨e,M⟩ | ⟨e,C⟩
   ·rw [e] at CC
    clear e
    go_wp2_with fail
    have s1 : (0 : Int) ≤ (j : Int) := by omega
    have s2 : (j : Int) < (m : Int) := by omega
    go_quiet ((go_at_call 111; exact zcI (CC.out _)))
    go_wp2
    go_ret
    exact ⟨by rw [C.out]; rfl,zea hB _⟩
   ·rw [e] at CC
    clear e
    go_wp2_with fail
    have s1 : (0 : Int) ≤ (j : Int) := by omega
    have s2 : (j : Int) < (m : Int) := by omega
    go_quiet ((go_at_call 111; exact zcI (CC.out _)))
    go_wp2
    go_roundg (j + 1)
    case measure => omega
    case rel => exact ⟨j,by omega,by go_num,M,by omega,zea hB _,g1,g2⟩
   ·rw [e] at CC
    clear e
    go_wp2_with fail
    have s1 : (0 : Int) ≤ (j : Int) := by omega
    have s2 : (j : Int) < (m : Int) := by omega
    go_quiet ((go_at_call 111; exact zcI (CC.out _)))
    go_wp2
    go_ret
    exact ⟨by rw [C.out]; rfl,zea hB _⟩
theorem zfa (x y : Nat) (A D : oA9) (n m c d : Nat) (w : World) (hA : zaf w x A n c) (hD : zaf w y D m d) (hn : n ≤ 1099511627776) (hm : m ≤ 1099511627776) :
  Calls Tryz.prog 66 #[.agg #[.slice A n c],.agg #[.slice D m d]] w (zdL w (zcn x y)) := by
 have hln := hA.len
 have hlm := hD.len
 by_cases hne : n = m
 ·subst hne
  exact zmH x y A D n c d w hA hD hn
 ·have C : zcn n m = zcn x y := by
   rcases Nat.lt_trichotomy n m with h | h | h
   ·rw [zdz h,zdz (zhX (b := 18446744073709551616) (by decide) (by omega))]
   ·exact absurd h hne
   ·rw [zdy h,zdy (zhX (b := 18446744073709551616) (by decide) (by omega))]
  have hne' : ((n : Int) == (m : Int)) = false := by simp; omega
  have HN := lh9 hne
  have CC : ∀ w,Calls Tryz.prog 110 #[.int .i64 n,.int .i64 m] w fun e w' => e = .returned (.int .i64 (zcn x y)) ∧ w = w' := fun w => by rw [← C]; exact zkT n m w
  have HC := lh9 CC
  obtain ⟨z,hz⟩ : ∃ z,zcn x y = z := ⟨_,rfl⟩
  rw [hz] at HC ⊢
  clear hln hlm hne C CC hz
  go_enter Tryz.func66,Tryz.ntmps66
  go_wp2_with fail
  have hb0 : Below w.heap.size w ((w.alloc (.cells #[.slice A n c] 29)).alloc (.cells #[.slice D m d] 29)).drew := (((Below.refl _ w).alloc (Nat.le_refl _) _).alloc (by simp) _).drew
  go_region_held3 (fun w' => Below w.heap.size w w' ∧ w'.cell? ⟨w.heap.size,0,none⟩ = some (.slice A n c) ∧ w'.cell? ⟨w.heap.size + 1,0,none⟩ = some (.slice D m d))
   (first | go_keep | (go_split_ands; exact ⟨zaa (by assumption) hb,zab hb (by first | assumption | simp),zab hb (by first | assumption | simp)⟩))
   (first
     | (go_at_call 108; refine (zce x _ _ _ _).mono ?_; rintro e w' ⟨rfl,hb⟩))
  rename_i hH
  obtain ⟨hB,h1,h2⟩ := hH
  clear hb hb0
  go_wp2_with fail
  have hb0 : Below w.heap.size w w'.drew := hB.drew
  go_region_held3 (fun w' => Below w.heap.size w w' ∧ w'.cell? ⟨w.heap.size,0,none⟩ = some (.slice A n c) ∧ w'.cell? ⟨w.heap.size + 1,0,none⟩ = some (.slice D m d))
   (first | go_keep | (go_split_ands; exact ⟨zaa (by assumption) hb,zab hb (by first | assumption | simp),zab hb (by first | assumption | simp)⟩))
   (first
     | (go_at_call 108; refine (zce x _ _ _ _).mono ?_; rintro e w' ⟨rfl,hb⟩)
     | (go_at_call 110; refine (HC.out _).mono ?_; rintro e w' ⟨rfl,rfl⟩))
  obtain ⟨hB,h1,h2⟩ := ‹Below w.heap.size w _ ∧ _›
  go_wp2
  go_ret
  exact ⟨rfl,hB⟩
end Go.Proofs.YtfieheffipfahaaGreatDoor
