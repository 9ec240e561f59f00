/- What this claim leans on. -/
import Derived.Test.YtgigccjiblaefaaGreatDoorOBunD
import Derived.ChangeArms
import Derived.ChangeOld
import Derived.Lib.SmallJoins
import Derived.OpenShut
import Derived.ProofKit
namespace Go.Proofs.YtgigccjiblaefaaGreatDoor
open Go Go.RowKit
open Go.ChangeShapes Go.WideShapes Go.ChangeAt
set_option maxHeartbeats 16000000
set_option linter.unusedVariables false
namespace UA
set_option maxHeartbeats 16000000
theorem one_le {H : Type} (d : DataW H) : 1 ≤ Rows.uptoBulk d := by
 cases d with
 | lit l => cases l <;> simp [Rows.uptoBulk]
 | nil => simp [Rows.uptoBulk]
 | ptr d => simp [Rows.uptoBulk]
 | slice elems spare => simp [Rows.uptoBulk]
 | agg parts => simp [Rows.uptoBulk]
 | iface t d => simp [Rows.uptoBulk]
 | map entries => simp [Rows.uptoBulk]
 | held h => simp [Rows.uptoBulk]
theorem zhd {H : Type} (l : List (DataW H)) : l.length ≤ Rows.uptoBulkAll l := by
 induction l with
 | nil => simp [Rows.uptoBulkAll]
 | cons x r ih => have := one_le x; simp only [Rows.uptoBulkAll,List.length_cons]; omega
theorem slice_le {H : Type} (elems spare : List (DataW H)) : elems.length + spare.length + 1 ≤ Rows.uptoBulk (.slice elems spare) := by
 have h1 := zhd elems
 have h2 := zhd spare
 simp only [Rows.uptoBulk]
 omega
end UA
structure zau (W : World) (A : oA9) (n c : Nat) (l : List Nat) : Prop where
 reads : zaq W W.heap.size 1 A n (zas .u64 l)
 dgs : Dgs 18446744073709551616 l
 fits : n ≤ c
 small : c ≤ 1048576
theorem zhe {H : Type} {enc : TypeId × Value → H} {P : Program} {W : World} {fuel : Nat} {t e : TypeId} {A : oA9} {n c : Nat} {x : DataW H × List MemPlace} (ht : P.underlying t = some (.slice e)) (he : P.underlying e = some (.int .u64)) (hc : P.cellsOf e = 1)
  (h : DataW.trod enc P W 0 (fun _ => true) true fuel t (Value.slice A n c).cells.toList = some x) (hb : Rows.uptoBulk x.1 ≤ 1048576) : ∃ l,zau W A n c l := by
 rcases open_ints ht he hc h with ⟨hcs,_⟩ | ⟨a,len,cap,zs,hcs,_,hl,hm,hz,hx,hcell,hwz⟩
 ·simp [Value.cells] at hcs
  obtain ⟨rfl,rfl,rfl⟩ := hcs
  exact ⟨[],⟨zaq.none_,by intro d hd; simp at hd,Nat.le_refl _,by omega⟩⟩
 ·simp [Value.cells] at hcs
  obtain ⟨rfl,rfl,rfl⟩ := hcs
  have hz' : zs.length = c := by simpa using hz
  subst hx
  have hs := UA.slice_le (H := H) (lits .u64 (zs.take n)) (lits .u64 (zs.drop n))
  have hlen : (lits (H := H) .u64 (zs.take n)).length + (lits (H := H) .u64 (zs.drop n)).length = c := by
   simp [lits]; omega
  have hb' : Rows.uptoBulk (DataW.slice (lits (H := H) .u64 (zs.take n)) (lits (H := H) .u64 (zs.drop n))) ≤ 1048576 := hb
  refine ⟨(zs.take n).map Int.toNat,⟨?_,?_,hl,?_⟩⟩
  ·refine ⟨by simp [zas]; omega,fun hn => ⟨a,rfl,?_,fun j u hu => ?_⟩⟩
   ·have h0 := hcell 0 (by omega)
    have := World.block_lt_of_cell? W _ h0
    rw [zaQ] at this
    exact this
   ·have hj : j < n := by
     have := (List.getElem?_eq_some_iff.1 hu).1
     simp [zas] at this; omega
    rw [hcell j (by omega),← hu]
    have hw := hwz (zs.getD j 0) (by rw [List.getD_eq_getElem?_getD,List.getElem?_eq_getElem (by omega)]; exact List.getElem_mem (by omega))
    have hb0 := bounds_u64 hw
    simp only [zas,List.getElem?_map,List.getElem?_take,if_pos hj,List.getElem?_eq_getElem (show j < zs.length by omega),Option.map_some,Option.some.injEq,Value.int.injEq,true_and]
    rw [List.getD_eq_getElem?_getD,List.getElem?_eq_getElem (show j < zs.length by omega)] at hb0 ⊢
    simp at hb0 ⊢
    omega
  ·intro d hd
   obtain ⟨z,hz2,rfl⟩ := List.mem_map.1 hd
   have := bounds_u64 (hwz z (List.mem_of_mem_take hz2))
   omega
  ·omega
end Go.Proofs.YtgigccjiblaefaaGreatDoor
namespace Go.Proofs.YtgigccjiblaefaaGreatDoor
open Go Go.RowKit
open Go.ChangeShapes Go.WideShapes Go.ChangeAt Go.Deep
set_option maxHeartbeats 16000000
set_option linter.unusedVariables false
theorem zcV {H : Type} {enc : TypeId × Value → H} {P : Program} {W : World} {fuel : Nat} {t e : TypeId} {v : Value} {x : DataW H × List MemPlace} (ht : P.underlying t = some (.slice e)) (he : P.underlying e = some (.int .u64)) (hc : P.cellsOf e = 1)
  (h : DataW.trod enc P W 0 (fun _ => true) true fuel t [v] = some x) (hb : Rows.uptoBulk x.1 ≤ 1048576) : ∃ A n c l,v = .slice A n c ∧ zau W A n c l := by
 rcases open_ints ht he hc h with ⟨hcs,_⟩ | ⟨a,len,cap,zs,hcs,_⟩
 ·simp only [List.cons.injEq,and_true] at hcs
  subst hcs
  obtain ⟨l,hl⟩ := zhe ht he hc h hb
  exact ⟨_,_,_,l,rfl,hl⟩
 ·simp only [List.cons.injEq,and_true] at hcs
  subst hcs
  obtain ⟨l,hl⟩ := zhe ht he hc h hb
  exact ⟨_,_,_,l,rfl,hl⟩
theorem arg_whole {H : Type} {enc : TypeId × Value → H} {P : Program} {W : World} {r : Reach} {b0 : Nat} {t e : TypeId} {f0 f1 : Field} {v : Value} {d : DataW H} {p : List MemPlace} (hs : P.underlying t = some (.struct #[f0,f1])) (hone : oneCellFields P #[f0,f1] = true) (hC : P.cellsOf t = 2)
  (h0 : P.underlying f0.type = some .bool) (h1 : P.underlying f1.type = some (.slice e)) (he : P.underlying e = some (.int .u64)) (hc : P.cellsOf e = 1)
  (hv : Value.okWide P W r b0 t v) (h : DataW.Trod enc P W 0 (fun _ => true) true t v d p) (hb : Rows.uptoBulk d ≤ 1048576) : ∃ b A n c l,v = .agg #[.bool b,.slice A n c] ∧ zau W A n c l := by
 obtain ⟨v0,v1,y0,y1,n,rfl,rfl,rfl,g0,g1⟩ := Go.Joins.open_agg2 hs hone hC hv h
 obtain ⟨b,hb0,_⟩ := DataW.trod_bool h0 g0
 simp only [List.cons.injEq,and_true] at hb0
 subst hb0
 obtain ⟨A,m,c,l,rfl,hl⟩ := zcV h1 he hc g1 (by simp only [Rows.uptoBulk,Rows.uptoBulkAll] at hb; omega)
 exact ⟨b,A,m,c,l,rfl,hl⟩
end Go.Proofs.YtgigccjiblaefaaGreatDoor
namespace Go.Proofs.YtgigccjiblaefaaGreatDoor
open Go Go.RowKit
open Go.ChangeShapes Go.WideShapes Go.ChangeAt Go.Deep
set_option maxHeartbeats 16000000
set_option linter.unusedVariables false
theorem zkw {H : Type} {enc : TypeId × Value → H} {P : Program} {W : World} {fuel : Nat} {t e : TypeId} {f0 f1 g0 g1 : Field} {c0 c1 c2 : Value} {x : DataW H × List MemPlace}
  (hs : P.underlying t = some (.struct #[f0,f1])) (hf : (f0.offset,P.cellsOf f0.type,f1.offset,P.cellsOf f1.type) = (0,2,2,1))
  (hs0 : P.underlying f0.type = some (.struct #[g0,g1])) (hg : (g0.offset,P.cellsOf g0.type,g1.offset,P.cellsOf g1.type) = (0,1,1,1))
  (hb0 : P.underlying g0.type = some .bool) (hs1 : P.underlying g1.type = some (.slice e)) (hs2 : P.underlying f1.type = some (.slice e)) (he : P.underlying e = some (.int .u64)) (hc : P.cellsOf e = 1)
  (h : DataW.trod enc P W 0 (fun _ => true) true fuel t [c0,c1,c2] = some x) (hk : Rows.uptoBulk x.1 ≤ 1048576) :
  ∃ b A n c l E u v k,c0 = .bool b ∧ c1 = .slice A n c ∧ c2 = .slice E u v ∧ zau W A n c l ∧ zau W E u v k := by
 simp only [Prod.mk.injEq] at hf hg
 obtain ⟨y0,y1,n,rfl,_,h0,h1⟩ := trod_struct2 hs h
 rw [hf.1,hf.2.1] at h0
 rw [hf.2.2.1,hf.2.2.2] at h1
 simp only [List.drop_zero,List.take_succ_cons,List.take_zero,List.drop_succ_cons] at h0 h1
 obtain ⟨z0,z1,m,rfl,_,k0,k1⟩ := trod_struct2 hs0 h0
 rw [hg.1,hg.2.1] at k0
 rw [hg.2.2.1,hg.2.2.2] at k1
 simp only [List.drop_zero,List.take_succ_cons,List.take_zero,List.drop_succ_cons] at k0 k1
 simp only [Rows.uptoBulk,Rows.uptoBulkAll] at hk
 obtain ⟨b,hb,_⟩ := DataW.trod_bool hb0 k0
 simp only [List.cons.injEq,and_true] at hb
 obtain ⟨A,q,c,l,hA,wA⟩ := zcV hs1 he hc k1 (by omega)
 obtain ⟨E,u,v,k,hE,wE⟩ := zcV hs2 he hc h1 (by omega)
 exact ⟨b,A,q,c,l,E,u,v,k,hb,hA,hE,wA,wE⟩
theorem arg_part {H : Type} {enc : TypeId × Value → H} {P : Program} {W : World} {r : Reach} {b0 : Nat} {t e : TypeId} {f0 f1 g0 g1 : Field} {v : Value} {d : DataW H} {p : List MemPlace}
  (hs : P.underlying t = some (.struct #[f0,f1])) (hf : (f0.offset,P.cellsOf f0.type,f1.offset,P.cellsOf f1.type) = (0,2,2,1)) (hC : P.cellsOf t = 3)
  (hs0 : P.underlying f0.type = some (.struct #[g0,g1])) (hg : (g0.offset,P.cellsOf g0.type,g1.offset,P.cellsOf g1.type) = (0,1,1,1))
  (hb0 : P.underlying g0.type = some .bool) (hs1 : P.underlying g1.type = some (.slice e)) (hs2 : P.underlying f1.type = some (.slice e)) (he : P.underlying e = some (.int .u64)) (hc : P.cellsOf e = 1)
  (hv : Value.okWide P W r b0 t v) (h : DataW.Trod enc P W 0 (fun _ => true) true t v d p) (hk : Rows.uptoBulk d ≤ 1048576) :
  ∃ b A n c l E u m k,v = .agg #[.bool b,.slice A n c,.slice E u m] ∧ zau W A n c l ∧ zau W E u m k := by
 obtain ⟨cs,rfl,hsz⟩ := okWide_struct hs hv
 obtain ⟨c0,c1,c2,rfl⟩ := Go.Joins.array3 (hsz.trans hC)
 obtain ⟨fuel,hh⟩ := h
 obtain ⟨b,A,n,c,l,E,u,m,k,rfl,rfl,rfl,wA,wE⟩ := zkw (x := (d,p)) hs hf hs0 hg hb0 hs1 hs2 he hc (by simpa [Value.cells] using hh) hk
 exact ⟨b,A,n,c,l,E,u,m,k,rfl,wA,wE⟩
end Go.Proofs.YtgigccjiblaefaaGreatDoor
