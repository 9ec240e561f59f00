/- What this claim leans on. -/
import Derived.Test.YtfieheffipfahaaGreatDoorRR5Gcd
namespace Go.Proofs.YtfieheffipfahaaGreatDoor
open Go Go.RowKit
open Go.ChangeShapes Go.WideShapes Go.ChangeAt
set_option maxHeartbeats 16000000
set_option linter.unusedVariables false
namespace UA
set_option maxHeartbeats 16000000
theorem one_le {H : Type} (d : DataW H) : 1 ≤ Rows.uptoBulk d:=by
 cases d with
 | lit l => cases l <;> simp [Rows.uptoBulk]
 | nil => simp [Rows.uptoBulk]
 | ptr d => simp [Rows.uptoBulk]
 | slice elems spare => simp [Rows.uptoBulk]
 | agg parts => simp [Rows.uptoBulk]
 | iface t d => simp [Rows.uptoBulk]
 | map entries => simp [Rows.uptoBulk]
 | held h => simp [Rows.uptoBulk]
theorem zkh {H : Type} (l : List (DataW H)) : l.length ≤ Rows.uptoBulkAll l:=by
 induction l with
 | nil => simp [Rows.uptoBulkAll]
 | cons x r ih => have:=one_le x; simp only [Rows.uptoBulkAll,List.length_cons]; omega
theorem slice_le {H : Type} (elems spare : List (DataW H)) : elems.length + spare.length + 1 ≤ Rows.uptoBulk (.slice elems spare):=by
 have h1:=zkh elems
 have h2:=zkh spare
 simp only [Rows.uptoBulk]
 omega
end UA
structure zdK (W : World) (A : oA9) (n c : Nat) (l : List Nat) : Prop where
 reads : zas W W.heap.size 1 A n (zaq .u64 l)
 dgs : Dgs 18446744073709551616 l
 fits : n ≤ c
 small : c ≤ 1048576
theorem zjL {H : Type} {enc : TypeId × Value → H} {P : Program} {W : World} {fuel : Nat} {t e : TypeId} {A : oA9} {n c : Nat} {x : DataW H × List MemPlace} (ht : P.underlying t = some (.slice e)) (he : P.underlying e = some (.int .u64)) (hc : P.cellsOf e = 1)
  (h : DataW.trod enc P W 0 (fun _ => true) true fuel t (Value.slice A n c).cells.toList = some x) (hb : Rows.uptoBulk x.1 ≤ 1048576) : ∃ l,zdK W A n c l:=by
 rcases open_ints ht he hc h with ⟨hcs,_⟩ | ⟨a,len,cap,zs,hcs,_,hl,hm,hz,hx,hcell,hwz⟩
 ·simp [Value.cells] at hcs
  obtain ⟨rfl,rfl,rfl⟩:=hcs
  exact ⟨[],⟨zas.none_,by intro d hd; simp at hd,Nat.le_refl _,by omega⟩⟩
 ·simp [Value.cells] at hcs
  obtain ⟨rfl,rfl,rfl⟩:=hcs
  have hz' : zs.length = c:=by simpa using hz
  subst hx
  have hs:=UA.slice_le (H:=H) (lits .u64 (zs.take n)) (lits .u64 (zs.drop n))
  have hlen : (lits (H:=H) .u64 (zs.take n)).length + (lits (H:=H) .u64 (zs.drop n)).length = c:=by
   simp [lits]; omega
  have hb' : Rows.uptoBulk (DataW.slice (lits (H:=H) .u64 (zs.take n)) (lits (H:=H) .u64 (zs.drop n))) ≤ 1048576:=hb
  refine ⟨(zs.take n).map Int.toNat,⟨?_,?_,hl,?_⟩⟩
  ·refine ⟨by simp [zaq]; omega,fun hn => ⟨a,rfl,?_,fun j u hu => ?_⟩⟩
   ·have h0:=hcell 0 (by omega)
    have:=World.block_lt_of_cell? W _ h0
    rw [zaK] at this
    exact this
   ·have hj : j < n:=by
     have:=(List.getElem?_eq_some_iff.1 hu).1
     simp [zaq] at this; omega
    rw [hcell j (by omega),← hu]
    have hw:=hwz (zs.getD j 0) (by rw [List.getD_eq_getElem?_getD,List.getElem?_eq_getElem (by omega)]; exact List.getElem_mem (by omega))
    have hb0:=bounds_u64 hw
    simp only [zaq,List.getElem?_map,List.getElem?_take,if_pos hj,List.getElem?_eq_getElem (show j < zs.length by omega),Option.map_some,Option.some.injEq,Value.int.injEq,true_and]
    rw [List.getD_eq_getElem?_getD,List.getElem?_eq_getElem (show j < zs.length by omega)] at hb0 ⊢
    simp at hb0 ⊢
    omega
  ·intro d hd
   obtain ⟨z,hz2,rfl⟩:=List.mem_map.1 hd
   have:=bounds_u64 (hwz z (List.mem_of_mem_take hz2))
   omega
  ·omega
end Go.Proofs.YtfieheffipfahaaGreatDoor
namespace Go.Proofs.YtfieheffipfahaaGreatDoor
open Go Go.RowKit
open Go.ChangeShapes Go.WideShapes Go.ChangeAt Go.Deep
set_option maxHeartbeats 16000000
set_option linter.unusedVariables false
theorem zdM {H : Type} {enc : TypeId × Value → H} {P : Program} {W : World} {fuel : Nat} {t e : TypeId} {v : Value} {x : DataW H × List MemPlace} (ht : P.underlying t = some (.slice e)) (he : P.underlying e = some (.int .u64)) (hc : P.cellsOf e = 1)
  (h : DataW.trod enc P W 0 (fun _ => true) true fuel t [v] = some x) (hb : Rows.uptoBulk x.1 ≤ 1048576) : ∃ A n c l,v = .slice A n c ∧ zdK W A n c l:=by
 rcases open_ints ht he hc h with ⟨hcs,_⟩ | ⟨a,len,cap,zs,hcs,_⟩
 ·simp only [List.cons.injEq,and_true] at hcs
  subst hcs
  obtain ⟨l,hl⟩:=zjL ht he hc h hb
  exact ⟨_,_,_,l,rfl,hl⟩
 ·simp only [List.cons.injEq,and_true] at hcs
  subst hcs
  obtain ⟨l,hl⟩:=zjL ht he hc h hb
  exact ⟨_,_,_,l,rfl,hl⟩
theorem arg_whole {H : Type} {enc : TypeId × Value → H} {P : Program} {W : World} {r : Reach} {b0 : Nat} {t e : TypeId} {f0 f1 : Field} {v : Value} {d : DataW H} {p : List MemPlace} (hs : P.underlying t = some (.struct #[f0,f1])) (hone : oneCellFields P #[f0,f1] = true) (hC : P.cellsOf t = 2)
  (h0 : P.underlying f0.type = some .bool) (h1 : P.underlying f1.type = some (.slice e)) (he : P.underlying e = some (.int .u64)) (hc : P.cellsOf e = 1)
  (hv : Value.okWide P W r b0 t v) (h : DataW.Trod enc P W 0 (fun _ => true) true t v d p) (hb : Rows.uptoBulk d ≤ 1048576) : ∃ b A n c l,v = .agg #[.bool b,.slice A n c] ∧ zdK W A n c l:=by
 obtain ⟨v0,v1,y0,y1,n,rfl,rfl,rfl,g0,g1⟩:=Go.Joins.open_agg2 hs hone hC hv h
 obtain ⟨b,hb0,_⟩:=DataW.trod_bool h0 g0
 simp only [List.cons.injEq,and_true] at hb0
 subst hb0
 obtain ⟨A,m,c,l,rfl,hl⟩:=zdM h1 he hc g1 (by simp only [Rows.uptoBulk,Rows.uptoBulkAll] at hb; omega)
 exact ⟨b,A,m,c,l,rfl,hl⟩
end Go.Proofs.YtfieheffipfahaaGreatDoor
namespace Go.Proofs.YtfieheffipfahaaGreatDoor
open Go Go.RowKit
open Go.ChangeShapes Go.WideShapes Go.ChangeAt Go.Deep
set_option maxHeartbeats 16000000
set_option linter.unusedVariables false
theorem zog {H : Type} {enc : TypeId × Value → H} {P : Program} {W : World} {fuel : Nat} {t e : TypeId} {f0 f1 g0 g1 : Field} {c0 c1 c2 : Value} {x : DataW H × List MemPlace}
  (hs : P.underlying t = some (.struct #[f0,f1])) (hf : (f0.offset,P.cellsOf f0.type,f1.offset,P.cellsOf f1.type) = (0,2,2,1))
  (hs0 : P.underlying f0.type = some (.struct #[g0,g1])) (hg : (g0.offset,P.cellsOf g0.type,g1.offset,P.cellsOf g1.type) = (0,1,1,1))
  (hb0 : P.underlying g0.type = some .bool) (hs1 : P.underlying g1.type = some (.slice e)) (hs2 : P.underlying f1.type = some (.slice e)) (he : P.underlying e = some (.int .u64)) (hc : P.cellsOf e = 1)
  (h : DataW.trod enc P W 0 (fun _ => true) true fuel t [c0,c1,c2] = some x) (hk : Rows.uptoBulk x.1 ≤ 1048576) :
  ∃ b A n c l E u v k,c0 = .bool b ∧ c1 = .slice A n c ∧ c2 = .slice E u v ∧ zdK W A n c l ∧ zdK W E u v k:=by
 simp only [Prod.mk.injEq] at hf hg
 obtain ⟨y0,y1,n,rfl,_,h0,h1⟩:=trod_struct2 hs h
 rw [hf.1,hf.2.1] at h0
 rw [hf.2.2.1,hf.2.2.2] at h1
 simp only [List.drop_zero,List.take_succ_cons,List.take_zero,List.drop_succ_cons] at h0 h1
 obtain ⟨z0,z1,m,rfl,_,k0,k1⟩:=trod_struct2 hs0 h0
 rw [hg.1,hg.2.1] at k0
 rw [hg.2.2.1,hg.2.2.2] at k1
 simp only [List.drop_zero,List.take_succ_cons,List.take_zero,List.drop_succ_cons] at k0 k1
 simp only [Rows.uptoBulk,Rows.uptoBulkAll] at hk
 obtain ⟨b,hb,_⟩:=DataW.trod_bool hb0 k0
 simp only [List.cons.injEq,and_true] at hb
 obtain ⟨A,q,c,l,hA,wA⟩:=zdM hs1 he hc k1 (by omega)
 obtain ⟨E,u,v,k,hE,wE⟩:=zdM hs2 he hc h1 (by omega)
 exact ⟨b,A,q,c,l,E,u,v,k,hb,hA,hE,wA,wE⟩
theorem arg_part {H : Type} {enc : TypeId × Value → H} {P : Program} {W : World} {r : Reach} {b0 : Nat} {t e : TypeId} {f0 f1 g0 g1 : Field} {v : Value} {d : DataW H} {p : List MemPlace}
  (hs : P.underlying t = some (.struct #[f0,f1])) (hf : (f0.offset,P.cellsOf f0.type,f1.offset,P.cellsOf f1.type) = (0,2,2,1)) (hC : P.cellsOf t = 3)
  (hs0 : P.underlying f0.type = some (.struct #[g0,g1])) (hg : (g0.offset,P.cellsOf g0.type,g1.offset,P.cellsOf g1.type) = (0,1,1,1))
  (hb0 : P.underlying g0.type = some .bool) (hs1 : P.underlying g1.type = some (.slice e)) (hs2 : P.underlying f1.type = some (.slice e)) (he : P.underlying e = some (.int .u64)) (hc : P.cellsOf e = 1)
  (hv : Value.okWide P W r b0 t v) (h : DataW.Trod enc P W 0 (fun _ => true) true t v d p) (hk : Rows.uptoBulk d ≤ 1048576) :
  ∃ b A n c l E u m k,v = .agg #[.bool b,.slice A n c,.slice E u m] ∧ zdK W A n c l ∧ zdK W E u m k:=by
 obtain ⟨cs,rfl,hsz⟩:=okWide_struct hs hv
 obtain ⟨c0,c1,c2,rfl⟩:=Go.Joins.array3 (hsz.trans hC)
 obtain ⟨fuel,hh⟩:=h
 obtain ⟨b,A,n,c,l,E,u,m,k,rfl,rfl,rfl,wA,wE⟩:=zog (x:=(d,p)) hs hf hs0 hg hb0 hs1 hs2 he hc (by simpa [Value.cells] using hh) hk
 exact ⟨b,A,n,c,l,E,u,m,k,rfl,wA,wE⟩
end Go.Proofs.YtfieheffipfahaaGreatDoor
namespace Go.Proofs.YtfieheffipfahaaGreatDoor
open Go Go.RowKit
set_option maxHeartbeats 16000000
set_option linter.unusedVariables false
def zcW (w : World) (x : Nat) (e : Ending) (w' : World) : Prop:=∃ (A : oA9) (n c : Nat),e = .returned (.agg #[.slice A n c]) ∧ zaf w' x A n c ∧ Below w.heap.size w w'
def zkL (w : World) (x y : Nat) (e : Ending) (w' : World) : Prop:=∃ (A : oA9) (n c : Nat) (B : oA9) (m d : Nat),e = .returned (.tuple #[.agg #[.slice A n c],.agg #[.slice B m d]]) ∧ zaf w' x A n c ∧ zaf w' y B m d ∧ Below w.heap.size w w'
theorem Sz.gcd {K K' x y : Nat} (h : Sz K x) (h' : Sz K' y) : Sz (K + K') (Nat.gcd x y):=by
 rcases Nat.eq_zero_or_pos x with e | e
 ·rw [e,Nat.gcd_zero_left]; exact h'.up (by omega)
 ·exact (h.of_le (Nat.gcd_le_left y e)).up (by omega)
structure GcdC : Prop where
 of : ∀ (x y : Nat) (A D : oA9) (n m c d : Nat) (w : World),zaf w x A n c → zaf w y D m d → n ≤ 1073741824 → m ≤ 1073741824 → zam w → Calls Tryz.prog 117 #[.agg #[.slice A n c],.agg #[.slice D m d]] w (zcW w (Nat.gcd x y))
 reduce : ∀ (x y : Nat) (A D : oA9) (n m c d : Nat) (w : World),zaf w x A n c → zaf w y D m d → n ≤ 1073741824 → m ≤ 1073741824 → zam w → Calls Tryz.prog 81 #[.agg #[.slice A n c],.agg #[.slice D m d]] w (zkL w (x / Nat.gcd x y) (y / Nat.gcd x y))
end Go.Proofs.YtfieheffipfahaaGreatDoor
namespace Go.Proofs.YtfieheffipfahaaGreatDoor
open Go Go.RowKit
set_option maxHeartbeats 16000000
set_option linter.unusedVariables false
set_option linter.unusedSimpArgs false
theorem zfH (er : Er) (v : Value) (w : World) (hE : zcm w er v) (hg : zdw w) (hn : er.named) :
  Calls Tryz.prog 33 #[v,.int .i64 er.n,.string er.s,.int .i64 er.k] w fun e w' => e = .returned (.bool true) ∧ Below w.heap.size w w':=by
 have HP:=lh9 (zpj er v w hE hg)
 have HN:=lh9 (fun w' (hb : Below w.heap.size w w') => znE er v w' (hE.below hb) (hg.below hb))
 have HX:=lh9 hn
 clear hE hg hn
 cases er with
 | no =>
   clear HX
   go_enter Tryz.func33,Tryz.ntmps33
   go_wp2_with fail
   refine HP.out.mono ?_
   rintro e w1 ⟨rfl,hb1⟩
   have HN1:=lh9 (HN.out w1 hb1)
   have HB:=lh9 hb1
   clear HP HN hb1
   go_wp2_with fail
   refine HN1.out.mono ?_
   rintro e w2 ⟨rfl,hb2⟩
   have hB:=zac HB.out hb2
   clear HN1 HB hb2
   simp only [Er.n,Er.s,Er.k,Er.is]
   go_wp2
   go_ret
   exact ⟨rfl,hB⟩
 | bare n =>
   clear HX
   go_enter Tryz.func33,Tryz.ntmps33
   go_wp2_with fail
   refine HP.out.mono ?_
   rintro e w1 ⟨rfl,hb1⟩
   have HN1:=lh9 (HN.out w1 hb1)
   have HB:=lh9 hb1
   clear HP HN hb1
   go_wp2_with fail
   refine HN1.out.mono ?_
   rintro e w2 ⟨rfl,hb2⟩
   have hB:=zac HB.out hb2
   clear HN1 HB hb2
   simp only [Er.n,Er.s,Er.k,Er.is]
   go_wp2
   go_ret
   exact ⟨rfl,hB⟩
 | spot n s k =>
   have hs:=HX.out
   rcases hs with rfl | rfl
   all_goals
    clear HX
    go_enter Tryz.func33,Tryz.ntmps33
    go_wp2_with fail
    refine HP.out.mono ?_
    rintro e w1 ⟨rfl,hb1⟩
    have HN1:=lh9 (HN.out w1 hb1)
    have HB:=lh9 hb1
    clear HP HN hb1
    go_wp2_with fail
    refine HN1.out.mono ?_
    rintro e w2 ⟨rfl,hb2⟩
    have hB:=zac HB.out hb2
    clear HN1 HB hb2
    simp only [Er.n,Er.s,Er.k,Er.is,zdF,zef]
    go_wp2
    go_ret
    exact ⟨rfl,hB⟩
theorem zkg (er : Er) (v : Value) (w : World) (hE : zcm w er v) (hg : zdw w) (hn : er.named) :
  Calls Tryz.prog 15 #[v,.agg #[.int .i64 er.n,.string er.s,.int .i64 er.k]] w fun e w' => e = .returned (.bool true) ∧ Below w.heap.size w w':=by
 obtain ⟨n,hn0⟩ : ∃ n,er.n = n:=⟨_,rfl⟩
 obtain ⟨s,hs0⟩ : ∃ n,er.s = n:=⟨_,rfl⟩
 obtain ⟨k,hk0⟩ : ∃ n,er.k = n:=⟨_,rfl⟩
 obtain ⟨b1,b2,b3⟩:=zaz w 49 #[.int .i64 n,.string s,.int .i64 k]
 have HT:=lh9 (fun w' (hb : Below w.heap.size w w') => zfH er v w' (hE.below hb) (hg.below hb) hn)
 rw [hn0,hs0,hk0] at HT ⊢
 obtain ⟨c0,c1,c2⟩:=(⟨b2.cell 0,b2.cell 1,b2.cell 2⟩ : _ ∧ _ ∧ _)
 simp only [List.getElem?_toArray,List.getElem?_cons_zero,List.getElem?_cons_succ] at c0 c1 c2
 have HB:=lh9 b1
 clear b1 b2 b3 hE hg hn hn0 hs0 hk0
 go_enter Tryz.func15,Tryz.ntmps15
 go_wp2_with fail
 refine (HT.out _ (by first | exact HB.out | exact HB.out.drew)).mono ?_
 rintro e w2 ⟨rfl,hb2⟩
 have hB:=zac (by first | exact HB.out | exact HB.out.drew) hb2
 clear HB hb2 HT
 go_wp2
 go_ret
 exact ⟨rfl,hB⟩
end Go.Proofs.YtfieheffipfahaaGreatDoor
namespace Go.Proofs.YtfieheffipfahaaGreatDoor
open Go Go.RowKit
set_option maxHeartbeats 16000000
set_option maxRecDepth 100000
set_option linter.unusedVariables false
theorem zgN (x y : Nat) (A D : oA9) (n m c d : Nat) (w : World) (hA : zai w x A n c) (hD : zai w y D m d) (hn : n ≤ 1073741824) (hm : m ≤ 1073741824) :
  Calls Tryz.prog 53 #[.slice A n c,.slice D m d] w (GivesH w (Nat.gcd x y)):=by
 by_cases hx : x = 0
 ·have e : n = 0:=by rw [hA.len,hx,zcw]; rfl
  have HD:=lh9 hD
  have hg : Nat.gcd x y = y:=by rw [hx,Nat.gcd_zero_left]
  rw [hg]
  subst e
  clear hA hD hx hg
  go_enter Tryz.func53,Tryz.ntmps53
  go_wp2
  go_ret
  exact ⟨D,m,d,rfl,HD.out,Below.refl _ _⟩
 ·by_cases hy : y = 0
  ·have e : m = 0:=by rw [hD.len,hy,zcw]; rfl
   have hn0:=zeo hA hx
   have z1 : ((n : Int) == 0) = false:=by simp; omega
   have HA:=lh9 hA
   have hg : Nat.gcd x y = x:=by rw [hy,Nat.gcd_zero_right]
   rw [hg]
   subst e
   clear hA hD hx hy hg hn0
   go_enter Tryz.func53,Tryz.ntmps53
   go_wp2
   go_ret
   exact ⟨A,n,c,rfl,HA.out,Below.refl _ _⟩
  ·refine (ref5_gcd x y A D n m c d w hA hD hn hm hx hy).mono fun e w' hg => ?_
   obtain ⟨A',n',c',he,hh,hb⟩:=hg.elim
   exact ⟨A',n',c',he,hh,hb⟩
end Go.Proofs.YtfieheffipfahaaGreatDoor
