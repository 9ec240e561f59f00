/- What this claim leans on. -/
import Derived.Test.YtfieheffipfahaaGreatDoorTBunD
import Derived.BigQuiet
import Derived.ChangeArms
import Derived.ChangeOld
import Derived.Deep.CutBlock
import Derived.Deep.DeepCutAuto
import Derived.Deep.LoopGhost
import Derived.Lib.SmallJoins
import Derived.LoopTactic
import Derived.OpenShut
import Derived.ProofKit
namespace Go.Proofs.YtfieheffipfahaaGreatDoor
open Go Go.RowKit
open Go.ChangeShapes Go.WideShapes Go.ChangeAt
set_option maxHeartbeats 16000000
set_option linter.unusedVariables false
namespace UA
set_option maxHeartbeats 16000000
theorem one_le {H : Type} (d : DataW H) : 1 ≤ Rows.uptoBulk d := by
 cases d with
 | lit l => cases l <;> simp [Rows.uptoBulk]
 | nil => simp [Rows.uptoBulk]
 | ptr d => simp [Rows.uptoBulk]
 | slice elems spare => simp [Rows.uptoBulk]
 | agg parts => simp [Rows.uptoBulk]
 | iface t d => simp [Rows.uptoBulk]
 | map entries => simp [Rows.uptoBulk]
 | held h => simp [Rows.uptoBulk]
theorem ziM {H : Type} (l : List (DataW H)) : l.length ≤ Rows.uptoBulkAll l := by
 induction l with
 | nil => simp [Rows.uptoBulkAll]
 | cons x r ih => have := one_le x; simp only [Rows.uptoBulkAll,List.length_cons]; omega
theorem slice_le {H : Type} (elems spare : List (DataW H)) : elems.length + spare.length + 1 ≤ Rows.uptoBulk (.slice elems spare) := by
 have h1 := ziM elems
 have h2 := ziM spare
 simp only [Rows.uptoBulk]
 omega
end UA
structure zav (W : World) (A : oA9) (n c : Nat) (l : List Nat) : Prop where
 reads : zan W W.heap.size 1 A n (zam .u64 l)
 dgs : Dgs 18446744073709551616 l
 fits : n ≤ c
 small : c ≤ 1048576
theorem ziv {H : Type} {enc : TypeId × Value → H} {P : Program} {W : World} {fuel : Nat} {t e : TypeId} {A : oA9} {n c : Nat} {x : DataW H × List MemPlace} (ht : P.underlying t = some (.slice e)) (he : P.underlying e = some (.int .u64)) (hc : P.cellsOf e = 1)
  (h : DataW.trod enc P W 0 (fun _ => true) true fuel t (Value.slice A n c).cells.toList = some x) (hb : Rows.uptoBulk x.1 ≤ 1048576) : ∃ l,zav W A n c l := by
 rcases open_ints ht he hc h with ⟨hcs,_⟩ | ⟨a,len,cap,zs,hcs,_,hl,hm,hz,hx,hcell,hwz⟩
 ·simp [Value.cells] at hcs
  obtain ⟨rfl,rfl,rfl⟩ := hcs
  exact ⟨[],⟨zan.none_,by intro d hd; simp at hd,Nat.le_refl _,by omega⟩⟩
 ·simp [Value.cells] at hcs
  obtain ⟨rfl,rfl,rfl⟩ := hcs
  have hz' : zs.length = c := by simpa using hz
  subst hx
  have hs := UA.slice_le (H := H) (lits .u64 (zs.take n)) (lits .u64 (zs.drop n))
  have hlen : (lits (H := H) .u64 (zs.take n)).length + (lits (H := H) .u64 (zs.drop n)).length = c := by
   simp [lits]; omega
  have hb' : Rows.uptoBulk (DataW.slice (lits (H := H) .u64 (zs.take n)) (lits (H := H) .u64 (zs.drop n))) ≤ 1048576 := hb
  refine ⟨(zs.take n).map Int.toNat,⟨?_,?_,hl,?_⟩⟩
  ·refine ⟨by simp [zam]; omega,fun hn => ⟨a,rfl,?_,fun j u hu => ?_⟩⟩
   ·have h0 := hcell 0 (by omega)
    have := World.block_lt_of_cell? W _ h0
    rw [zaz] at this
    exact this
   ·have hj : j < n := by
     have := (List.getElem?_eq_some_iff.1 hu).1
     simp [zam] at this; omega
    rw [hcell j (by omega),← hu]
    have hw := hwz (zs.getD j 0) (by rw [List.getD_eq_getElem?_getD,List.getElem?_eq_getElem (by omega)]; exact List.getElem_mem (by omega))
    have hb0 := bounds_u64 hw
    simp only [zam,List.getElem?_map,List.getElem?_take,if_pos hj,List.getElem?_eq_getElem (show j < zs.length by omega),Option.map_some,Option.some.injEq,Value.int.injEq,true_and]
    rw [List.getD_eq_getElem?_getD,List.getElem?_eq_getElem (show j < zs.length by omega)] at hb0 ⊢
    simp at hb0 ⊢
    omega
  ·intro d hd
   obtain ⟨z,hz2,rfl⟩ := List.mem_map.1 hd
   have := bounds_u64 (hwz z (List.mem_of_mem_take hz2))
   omega
  ·omega
end Go.Proofs.YtfieheffipfahaaGreatDoor
namespace Go.Proofs.YtfieheffipfahaaGreatDoor
open Go Go.RowKit
open Go.ChangeShapes Go.WideShapes Go.ChangeAt Go.Deep
set_option maxHeartbeats 16000000
set_option linter.unusedVariables false
theorem zdg {H : Type} {enc : TypeId × Value → H} {P : Program} {W : World} {fuel : Nat} {t e : TypeId} {v : Value} {x : DataW H × List MemPlace} (ht : P.underlying t = some (.slice e)) (he : P.underlying e = some (.int .u64)) (hc : P.cellsOf e = 1)
  (h : DataW.trod enc P W 0 (fun _ => true) true fuel t [v] = some x) (hb : Rows.uptoBulk x.1 ≤ 1048576) : ∃ A n c l,v = .slice A n c ∧ zav W A n c l := by
 rcases open_ints ht he hc h with ⟨hcs,_⟩ | ⟨a,len,cap,zs,hcs,_⟩
 ·simp only [List.cons.injEq,and_true] at hcs
  subst hcs
  obtain ⟨l,hl⟩ := ziv ht he hc h hb
  exact ⟨_,_,_,l,rfl,hl⟩
 ·simp only [List.cons.injEq,and_true] at hcs
  subst hcs
  obtain ⟨l,hl⟩ := ziv ht he hc h hb
  exact ⟨_,_,_,l,rfl,hl⟩
theorem arg_whole {H : Type} {enc : TypeId × Value → H} {P : Program} {W : World} {r : Reach} {b0 : Nat} {t e : TypeId} {f0 f1 : Field} {v : Value} {d : DataW H} {p : List MemPlace} (hs : P.underlying t = some (.struct #[f0,f1])) (hone : oneCellFields P #[f0,f1] = true) (hC : P.cellsOf t = 2)
  (h0 : P.underlying f0.type = some .bool) (h1 : P.underlying f1.type = some (.slice e)) (he : P.underlying e = some (.int .u64)) (hc : P.cellsOf e = 1)
  (hv : Value.okWide P W r b0 t v) (h : DataW.Trod enc P W 0 (fun _ => true) true t v d p) (hb : Rows.uptoBulk d ≤ 1048576) : ∃ b A n c l,v = .agg #[.bool b,.slice A n c] ∧ zav W A n c l := by
 obtain ⟨v0,v1,y0,y1,n,rfl,rfl,rfl,g0,g1⟩ := Go.Joins.open_agg2 hs hone hC hv h
 obtain ⟨b,hb0,_⟩ := DataW.trod_bool h0 g0
 simp only [List.cons.injEq,and_true] at hb0
 subst hb0
 obtain ⟨A,m,c,l,rfl,hl⟩ := zdg h1 he hc g1 (by simp only [Rows.uptoBulk,Rows.uptoBulkAll] at hb; omega)
 exact ⟨b,A,m,c,l,rfl,hl⟩
end Go.Proofs.YtfieheffipfahaaGreatDoor
namespace Go.Proofs.YtfieheffipfahaaGreatDoor
open Go Go.RowKit
open Go.ChangeShapes Go.WideShapes Go.ChangeAt Go.Deep
set_option maxHeartbeats 16000000
set_option linter.unusedVariables false
theorem zmt {H : Type} {enc : TypeId × Value → H} {P : Program} {W : World} {fuel : Nat} {t e : TypeId} {f0 f1 g0 g1 : Field} {c0 c1 c2 : Value} {x : DataW H × List MemPlace}
  (hs : P.underlying t = some (.struct #[f0,f1])) (hf : (f0.offset,P.cellsOf f0.type,f1.offset,P.cellsOf f1.type) = (0,2,2,1))
  (hs0 : P.underlying f0.type = some (.struct #[g0,g1])) (hg : (g0.offset,P.cellsOf g0.type,g1.offset,P.cellsOf g1.type) = (0,1,1,1))
  (hb0 : P.underlying g0.type = some .bool) (hs1 : P.underlying g1.type = some (.slice e)) (hs2 : P.underlying f1.type = some (.slice e)) (he : P.underlying e = some (.int .u64)) (hc : P.cellsOf e = 1)
  (h : DataW.trod enc P W 0 (fun _ => true) true fuel t [c0,c1,c2] = some x) (hk : Rows.uptoBulk x.1 ≤ 1048576) :
  ∃ b A n c l E u v k,c0 = .bool b ∧ c1 = .slice A n c ∧ c2 = .slice E u v ∧ zav W A n c l ∧ zav W E u v k := by
 simp only [Prod.mk.injEq] at hf hg
 obtain ⟨y0,y1,n,rfl,_,h0,h1⟩ := trod_struct2 hs h
 rw [hf.1,hf.2.1] at h0
 rw [hf.2.2.1,hf.2.2.2] at h1
 simp only [List.drop_zero,List.take_succ_cons,List.take_zero,List.drop_succ_cons] at h0 h1
 obtain ⟨z0,z1,m,rfl,_,k0,k1⟩ := trod_struct2 hs0 h0
 rw [hg.1,hg.2.1] at k0
 rw [hg.2.2.1,hg.2.2.2] at k1
 simp only [List.drop_zero,List.take_succ_cons,List.take_zero,List.drop_succ_cons] at k0 k1
 simp only [Rows.uptoBulk,Rows.uptoBulkAll] at hk
 obtain ⟨b,hb,_⟩ := DataW.trod_bool hb0 k0
 simp only [List.cons.injEq,and_true] at hb
 obtain ⟨A,q,c,l,hA,wA⟩ := zdg hs1 he hc k1 (by omega)
 obtain ⟨E,u,v,k,hE,wE⟩ := zdg hs2 he hc h1 (by omega)
 exact ⟨b,A,q,c,l,E,u,v,k,hb,hA,hE,wA,wE⟩
theorem arg_part {H : Type} {enc : TypeId × Value → H} {P : Program} {W : World} {r : Reach} {b0 : Nat} {t e : TypeId} {f0 f1 g0 g1 : Field} {v : Value} {d : DataW H} {p : List MemPlace}
  (hs : P.underlying t = some (.struct #[f0,f1])) (hf : (f0.offset,P.cellsOf f0.type,f1.offset,P.cellsOf f1.type) = (0,2,2,1)) (hC : P.cellsOf t = 3)
  (hs0 : P.underlying f0.type = some (.struct #[g0,g1])) (hg : (g0.offset,P.cellsOf g0.type,g1.offset,P.cellsOf g1.type) = (0,1,1,1))
  (hb0 : P.underlying g0.type = some .bool) (hs1 : P.underlying g1.type = some (.slice e)) (hs2 : P.underlying f1.type = some (.slice e)) (he : P.underlying e = some (.int .u64)) (hc : P.cellsOf e = 1)
  (hv : Value.okWide P W r b0 t v) (h : DataW.Trod enc P W 0 (fun _ => true) true t v d p) (hk : Rows.uptoBulk d ≤ 1048576) :
  ∃ b A n c l E u m k,v = .agg #[.bool b,.slice A n c,.slice E u m] ∧ zav W A n c l ∧ zav W E u m k := by
 obtain ⟨cs,rfl,hsz⟩ := okWide_struct hs hv
 obtain ⟨c0,c1,c2,rfl⟩ := Go.Joins.array3 (hsz.trans hC)
 obtain ⟨fuel,hh⟩ := h
 obtain ⟨b,A,n,c,l,E,u,m,k,rfl,rfl,rfl,wA,wE⟩ := zmt (x := (d,p)) hs hf hs0 hg hb0 hs1 hs2 he hc (by simpa [Value.cells] using hh) hk
 exact ⟨b,A,n,c,l,E,u,m,k,rfl,wA,wE⟩
end Go.Proofs.YtfieheffipfahaaGreatDoor
namespace Go.Proofs.YtfieheffipfahaaGreatDoor
open Go Go.RowKit
set_option maxHeartbeats 16000000
set_option maxRecDepth 100000 in
theorem znK (hi lo y : Int) (h0 : 0 < hi) (h1 : hi < y) (hy : y < 18446744073709551616) (hl : Wd lo) (w : World) :
  Calls Tryz.prog 143 #[.int .u64 hi,.int .u64 lo,.int .u64 y] w fun e w' => e = .returned (.tuple #[.int .u64 (divQ hi lo y),.int .u64 (divR hi lo y)]) ∧ w = w' := by
 obtain ⟨hl0,hl1⟩ := hl
 have H := lh9 (lead64 y (by unfold Wd; omega) w)
 obtain ⟨s,hs0,hs,hY0,hY1⟩ := zkR y (by omega) hy
 rw [hs0] at H
 clear hs0
 obtain ⟨hU0,hU1,hUV⟩ := dg_norm hi lo y s hs (by omega) h1 hl0 hl1
 have hdiv := dg_shift (hi * 18446744073709551616 + lo) y (2 ^ s) (Int.pow_pos (by decide))
 obtain ⟨Y,hYe⟩ : ∃ Y,y * 2 ^ s = Y := ⟨_,rfl⟩
 have hlow : lo / 2 ^ (64 - s) < 2 ^ s := by
  refine Int.ediv_lt_of_lt_mul (Int.pow_pos (by decide)) ?_
  rw [← Int.pow_add,show s + (64 - s) = 64 from by omega]; simpa using hl1
 have hlow0 : 0 ≤ lo / 2 ^ (64 - s) := Int.ediv_nonneg hl0 (Int.le_of_lt (Int.pow_pos (by decide)))
 have hhs : 0 ≤ hi * 2 ^ s := Int.mul_nonneg (by omega) (Int.le_of_lt (Int.pow_pos (by decide)))
 have hor := or_join hi (lo / 2 ^ (64 - s)) s (by omega) (by omega) hlow0 hlow hs
 have hwr : IntKind.u64.wrap (hi * 2 ^ s) = hi * 2 ^ s := by rw [IntKind.wrap_u64]; omega
 obtain ⟨U,hUe⟩ : ∃ U,hi * 2 ^ s + lo / 2 ^ (64 - s) = U := ⟨_,rfl⟩
 obtain ⟨V,hVe⟩ : ∃ V,lo * 2 ^ s % 18446744073709551616 = V := ⟨_,rfl⟩
 have hV : 0 ≤ V ∧ V < 18446744073709551616 := by omega
 have E1 : Hid (IntKind.u64.wrap (y * 2 ^ s) = Y) := by rw [hYe,IntKind.wrap_u64]; show _ % _ = _; omega
 have E3 : Hid (bits .or .u64 (IntKind.u64.wrap (hi * 2 ^ s)) (lo / 2 ^ (64 - s)) = U) := by rw [hwr,hor]; exact hUe
 have E4 : Hid (IntKind.u64.wrap (lo * 2 ^ s) = V) := by rw [IntKind.wrap_u64]; exact hVe
 have E2 : Hid (bits .and .u64 Y 4294967295 = Y % 4294967296) := and_low32 Y (by omega) (by omega)
 have E5 : Hid (bits .and .u64 V 4294967295 = V % 4294967296) := and_low32 V (by omega) (by omega)
 rw [hYe] at hY0 hY1 hU1 hdiv
 rw [hUe] at hU0 hU1 hUV
 rw [hVe] at hUV
 obtain ⟨hV0,hV1⟩ := hV
 have hd2 := dq_two U V Y hU0 hU1
 have D1 := Dig.start (u := V / 4294967296) hU0 hU1 hY0 hY1 (by omega) (by omega)
 have b1 := D1.low
 have b2 := D1.q_hi
 have b3 := D1.sum
 have hq0 : 0 ≤ U / (Y / 4294967296) := Int.ediv_nonneg hU0 (by omega)
 have hq1 : 0 ≤ U / (Y / 4294967296) * (Y / 4294967296) := Int.mul_nonneg hq0 (by omega)
 have hA : 2147483648 ≤ Y / 4294967296 := by omega
 have hr32 : U - U / (Y / 4294967296) * (Y / 4294967296) < 4294967296 := by
  have hm := Int.mul_ediv_add_emod U (Y / 4294967296)
  have hlt := Int.emod_lt_of_pos U (show 0 < Y / 4294967296 by omega)
  rw [Int.mul_comm] at hm
  omega
 have bQ1 := zfg (U := U) (u := V / 4294967296) (Y := Y) hU0 hU1 (by omega) (by omega)
 have bT := zjw (U := U) (u := V / 4294967296) (Y := Y) (by omega)
 have e6 := zmU (U := U) (u := V / 4294967296) (Y := Y) (by omega) hY1
 obtain ⟨Q1,hQ1⟩ : ∃ q,dgQ U (V / 4294967296) Y = q := ⟨_,rfl⟩
 obtain ⟨T,hT⟩ : ∃ q,dgR U (V / 4294967296) Y = q := ⟨_,rfl⟩
 rw [hT] at bT e6 hd2
 rw [hQ1] at bQ1 e6 hd2
 obtain ⟨hT0,hT1⟩ := bT
 obtain ⟨hQ10,hQ11⟩ := bQ1
 have D2 := Dig.start (u := V % 4294967296) hT0 hT1 hY0 hY1 (by omega) (by omega)
 have c1 := D2.low
 have c2 := D2.q_hi
 have hp0 : 0 ≤ T / (Y / 4294967296) := Int.ediv_nonneg hT0 (by omega)
 have hp1 : 0 ≤ T / (Y / 4294967296) * (Y / 4294967296) := Int.mul_nonneg hp0 (by omega)
 have ht32 : T - T / (Y / 4294967296) * (Y / 4294967296) < 4294967296 := by
  have hm := Int.mul_ediv_add_emod T (Y / 4294967296)
  have hlt := Int.emod_lt_of_pos T (show 0 < Y / 4294967296 by omega)
  rw [Int.mul_comm] at hm
  omega
 have bQ0 := zfg (U := T) (u := V % 4294967296) (Y := Y) hT0 hT1 (by omega) (by omega)
 have bT0 := zjw (U := T) (u := V % 4294967296) (Y := Y) (by omega)
 have e7 := zmU (U := T) (u := V % 4294967296) (Y := Y) (by omega) hY1
 obtain ⟨Q0,hQ0⟩ : ∃ q,dgQ T (V % 4294967296) Y = q := ⟨_,rfl⟩
 obtain ⟨T0,hT0e⟩ : ∃ q,dgR T (V % 4294967296) Y = q := ⟨_,rfl⟩
 rw [hT0e] at bT0 e7 hd2
 rw [hQ0] at bQ0 e7 hd2
 obtain ⟨hT00,hT01⟩ := bT0
 obtain ⟨hQ00,hQ01⟩ := bQ0
 have E6 : Hid (IntKind.u64.wrap (IntKind.u64.wrap (IntKind.u64.wrap (U * 4294967296) + V / 4294967296) - IntKind.u64.wrap (Q1 * Y)) = T) := by
  rw [IntKind.wrap_u64,IntKind.wrap_u64,IntKind.wrap_u64,IntKind.wrap_u64]; exact e6
 have E7 : Hid (IntKind.u64.wrap (IntKind.u64.wrap (IntKind.u64.wrap (T * 4294967296) + V % 4294967296) - IntKind.u64.wrap (Q0 * Y)) = T0) := by
  rw [IntKind.wrap_u64,IntKind.wrap_u64,IntKind.wrap_u64,IntKind.wrap_u64]; exact e7
 have FQ : Hid (Q1 * 4294967296 + Q0 = divQ hi lo y) := by
  unfold divQ; show _ = _; rw [hd2.1,hUV]; exact hdiv.1
 have FR : Hid (T0 / 2 ^ s = divR hi lo y) := by
  unfold divR; show _ = _; rw [hd2.2,hUV]; exact hdiv.2
 have HD1 := lh9 D1
 have HD2 := lh9 D2
 have HQ1 := lh9 hQ1
 have HQ0 := lh9 hQ0
 clear hdiv hUV hd2 hYe hUe hVe hor hwr b3 D1 D2 hlow hlow0 hhs e6 e7 hQ1 hQ0 hT hT0e
 have z1 : (y == 0) = false := beq_eq_false_iff_ne.2 (by omega)
 have z2 : (hi == 0) = false := beq_eq_false_iff_ne.2 (by omega)
 have z3 : decide (y ≤ hi) = false := by simp; omega
 go_enter Tryz.func143,Tryz.ntmps143
 go_upto_block 0 with (first | (go_at_call 158; refine H.out.mono ?_; rintro e w' ⟨rfl,rfl⟩) | simp only [E1.out,E2.out,E3.out,E4.out,E5.out])
 clear E1 E2 E3 E4 E5 H
 go_cut [15,16] (fun q _ wc => q = .int .u64 Q1 ∧ wc = w)
 case first =>
  go_wp2_with fail
  go_loopg [15,16] 4294967298 (fun k q r wr => ∃ q0 r0 : Int,q = .int .u64 q0 ∧ r = .int .u64 r0 ∧ Dig U (V / 4294967296) Y q0 r0 ∧ r0 < 4294967296 ∧ q0 < k ∧ wr = w)
  case atStart => exact ⟨_,_,rfl,rfl,HD1.out,hr32,by omega,rfl⟩
  case round =>
   obtain ⟨q,r,rfl,rfl,hd,hr,hk,rfl⟩ := hrel
   obtain ⟨g0,g1,g2,g3,g4⟩ := hd.room hU0 hU1 (by omega) (by omega) hr
   by_cases ht : 4294967296 ≤ q ∨ 4294967296 * r + V / 4294967296 < q * (Y % 4294967296)
   ·have hd' := hd.down hU0 hU1 hY0 (by omega) (by omega) ht
    have hq0 := (zfg (U := U) (u := V / 4294967296) (Y := Y) hU0 hU1 (by omega) (by omega)).1
    have hl' := hd'.q_lo
    have hq' := hd.q_hi
    have hq1 : 1 ≤ q := by omega
    go_wp2
    all_goals first
     | (go_meet; exact ⟨congrArg (Value.int .u64) ((hd'.past hY0 (by omega) (by omega) (by omega)).trans HQ1.out),rfl⟩)
     | (go_roundg (gk - 1)
        case measure => omega
        case rel => exact ⟨_,_,rfl,rfl,hd',by omega,by omega,rfl⟩)
   ·go_wp2
    go_meet
    exact ⟨congrArg (Value.int .u64) ((hd.done hY0 (by omega)).trans HQ1.out),rfl⟩
 case rest =>
  obtain ⟨rfl,rfl⟩ := hcut
  go_upto_block 2 with (simp only [E6.out])
  clear E6
  go_cut [18,16] (fun q _ wd => q = .int .u64 Q0 ∧ wd = wc)
  case first =>
   go_wp2_with fail
   go_loopg [18,16] 4294967298 (fun k q r wr => ∃ q0 r0 : Int,q = .int .u64 q0 ∧ r = .int .u64 r0 ∧ Dig T (V % 4294967296) Y q0 r0 ∧ r0 < 4294967296 ∧ q0 < k ∧ wr = wc)
   case atStart => exact ⟨_,_,rfl,rfl,HD2.out,ht32,by omega,rfl⟩
   case round =>
    obtain ⟨q,r,rfl,rfl,hd,hr,hk,rfl⟩ := hrel
    obtain ⟨g0,g1,g2,g3,g4⟩ := hd.room hT0 hT1 (by omega) (by omega) hr
    by_cases ht : 4294967296 ≤ q ∨ 4294967296 * r + V % 4294967296 < q * (Y % 4294967296)
    ·have hd' := hd.down hT0 hT1 hY0 (by omega) (by omega) ht
     have hq0 := (zfg (U := T) (u := V % 4294967296) (Y := Y) hT0 hT1 (by omega) (by omega)).1
     have hl' := hd'.q_lo
     have hq' := hd.q_hi
     have hq1 : 1 ≤ q := by omega
     go_wp2
     all_goals first
      | (go_meet; exact ⟨congrArg (Value.int .u64) ((hd'.past hY0 (by omega) (by omega) (by omega)).trans HQ0.out),rfl⟩)
      | (go_roundg (gk - 1)
         case measure => omega
         case rel => exact ⟨_,_,rfl,rfl,hd',by omega,by omega,rfl⟩)
    ·go_wp2
     go_meet
     exact ⟨congrArg (Value.int .u64) ((hd.done hY0 (by omega)).trans HQ0.out),rfl⟩
  case rest =>
   obtain ⟨rfl,rfl⟩ := hcut
   go_wp2_with (simp only [E7.out])
   simp only [FQ.out,FR.out]
   go_ret2
   exact ⟨rfl,rfl⟩
theorem zkB (lo y : Int) (h1 : 0 < y) (hy : y < 18446744073709551616) (hl : Wd lo) (w : World) :
  Calls Tryz.prog 143 #[.int .u64 0,.int .u64 lo,.int .u64 y] w fun e w' => e = .returned (.tuple #[.int .u64 (divQ 0 lo y),.int .u64 (divR 0 lo y)]) ∧ ∃ n,w' = w.drewN n := by
 obtain ⟨hl0,hl1⟩ := hl
 have z1 : (y == 0) = false := beq_eq_false_iff_ne.2 (by omega)
 have z3 : decide (y ≤ 0) = false := by simp; omega
 have q0 : 0 ≤ lo / y := Int.ediv_nonneg hl0 (by omega)
 have q1 : lo / y < 18446744073709551616 := Int.lt_of_le_of_lt (Int.ediv_le_self y hl0) hl1
 have r0 : 0 ≤ lo % y := Int.emod_nonneg _ (by omega)
 have r1 : lo % y < 18446744073709551616 := Int.lt_trans (Int.emod_lt_of_pos _ h1) hy
 have FQ : Hid (lo / y = divQ 0 lo y) := by unfold divQ; show _ = _; simp
 have FR : Hid (lo % y = divR 0 lo y) := by unfold divR; show _ = _; simp
 go_enter Tryz.func143,Tryz.ntmps143
 go_wp2
 go_quiet (fail)
 go_wp2
 simp only [FQ.out,FR.out]
 go_ret2
 exact ⟨rfl,_,rfl⟩
theorem div64 (hi lo y : Int) (h0 : Wd hi) (h1 : hi < y) (hy : y < 18446744073709551616) (hl : Wd lo) (w : World) :
  Calls Tryz.prog 143 #[.int .u64 hi,.int .u64 lo,.int .u64 y] w fun e w' => e = .returned (.tuple #[.int .u64 (divQ hi lo y),.int .u64 (divR hi lo y)]) ∧ ∃ n,w' = w.drewN n := by
 by_cases hz : hi = 0
 ·subst hz
  exact zkB lo y h1 hy hl w
 ·refine (znK hi lo y (by have := h0.1; omega) h1 hy hl w).mono ?_
  rintro e w' ⟨rfl,rfl⟩
  exact ⟨rfl,0,rfl⟩
end Go.Proofs.YtfieheffipfahaaGreatDoor
namespace Go.Proofs.YtfieheffipfahaaGreatDoor
open Go Go.RowKit
set_option maxHeartbeats 16000000
theorem zke (hi lo y : Int) (h0 : Wd hi) (h1 : hi < y) (hy : y < 18446744073709551616) (hl : Wd lo) (w : World) :
  Calls Tryz.prog 124 #[.int .u64 hi,.int .u64 lo,.int .u64 y] w fun e w' => e = .returned (.tuple #[.int .u64 (divQ hi lo y),.int .u64 (divR hi lo y),.bool true]) ∧ ∃ n,w' = w.drewN n := by
 have H := lh9 (div64 hi lo y h0 h1 hy hl w)
 have z1 : decide (y ≤ hi) = false := by simp; omega
 go_enter Tryz.func124,Tryz.ntmps124
 go_wp2_with (go_at_call 143; refine H.out.mono ?_; rintro e w' ⟨rfl,n,rfl⟩)
 go_ret3
 exact ⟨rfl,n,rfl⟩
theorem zlB (hi lo y : Int) (h1 : y ≤ hi) (w : World) :
  Calls Tryz.prog 124 #[.int .u64 hi,.int .u64 lo,.int .u64 y] w fun e w' => e = .returned (.tuple #[.int .u64 0,.int .u64 0,.bool false]) ∧ w = w' := by
 have z1 : decide (y ≤ hi) = true := by simp; omega
 go_enter Tryz.func124,Tryz.ntmps124
 go_wp2
 go_ret3
 exact ⟨rfl,rfl⟩
end Go.Proofs.YtfieheffipfahaaGreatDoor
