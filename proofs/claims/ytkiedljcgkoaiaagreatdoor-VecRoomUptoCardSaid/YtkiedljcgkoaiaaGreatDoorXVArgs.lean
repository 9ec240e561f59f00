/- What this claim leans on. -/
import Derived.Test.YtkiedljcgkoaiaaGreatDoorXBunJ
import Derived.Deep.Matrix
namespace Go.Proofs.YtkiedljcgkoaiaaGreatDoor
open Go Go.RowKit
open Go.ChangeShapes Go.WideShapes Go.ChangeAt Go.Deep
set_option maxHeartbeats 16000000
set_option linter.unusedVariables false
def zbM (z : Int) : Prop:=-9223372036854775808 ≤ z ∧ z ≤ 9223372036854775807
theorem zfR {H : Type} {enc : TypeId × Value → H} {P : Program} {W : World} {fuel : Nat} {t : TypeId} {f0 f1 : Field} {c0 c1 : Value} {x : DataW H × List MemPlace}
  (hs : P.underlying t = some (.struct #[f0,f1])) (hf : (f0.offset,P.cellsOf f0.type,f1.offset,P.cellsOf f1.type) = (0,1,1,1)) (h0 : P.underlying f0.type = some (.int .i64)) (h1 : P.underlying f1.type = some (.int .i64))
  (h : DataW.trod enc P W 0 (fun _ => true) true fuel t [c0,c1] = some x) : ∃ p q : Int,c0 = .int .i64 p ∧ c1 = .int .i64 q ∧ zbM p ∧ zbM q:=by
 simp only [Prod.mk.injEq] at hf
 obtain ⟨y0,y1,n,rfl,_,k0,k1⟩:=trod_struct2 hs h
 rw [hf.1,hf.2.1] at k0
 rw [hf.2.2.1,hf.2.2.2] at k1
 simp only [List.drop_zero,List.take_succ_cons,List.take_zero,List.drop_succ_cons] at k0 k1
 obtain ⟨p,hp,_,wp⟩:=DataW.trod_int h0 k0
 obtain ⟨q,hq,_,wq⟩:=DataW.trod_int h1 k1
 simp only [List.cons.injEq,and_true] at hp hq
 have bp:=bounds_i64 wp
 have bq:=bounds_i64 wq
 exact ⟨p,q,hp,hq,⟨by omega,by omega⟩,⟨by omega,by omega⟩⟩
theorem arg_frac {H : Type} {enc : TypeId × Value → H} {P : Program} {W : World} {r : Reach} {b0 : Nat} {t : TypeId} {f0 f1 : Field} {v : Value} {d : DataW H} {p : List MemPlace}
  (hs : P.underlying t = some (.struct #[f0,f1])) (hf : (f0.offset,P.cellsOf f0.type,f1.offset,P.cellsOf f1.type) = (0,1,1,1)) (hC : P.cellsOf t = 2) (h0 : P.underlying f0.type = some (.int .i64)) (h1 : P.underlying f1.type = some (.int .i64))
  (hv : Value.okWide P W r b0 t v) (h : DataW.Trod enc P W 0 (fun _ => true) true t v d p) : ∃ x y : Int,v = .agg #[.int .i64 x,.int .i64 y] ∧ zbM x ∧ zbM y:=by
 obtain ⟨cs,rfl,hsz⟩:=okWide_struct hs hv
 obtain ⟨c0,c1,rfl⟩:=Go.Joins.array2 (hsz.trans hC)
 obtain ⟨fuel,hh⟩:=h
 obtain ⟨x,y,rfl,rfl,hx,hy⟩:=zfR (x:=(d,p)) hs hf h0 h1 (by simpa [Value.cells] using hh)
 exact ⟨x,y,rfl,hx,hy⟩
structure zaN (W : World) (A : oA9) (n c : Nat) (L : List (Int × Int)) : Prop where
 len : L.length = n
 fits : n ≤ c
 small : c ≤ 1048576
 ints : ∀ q ∈ L,zbM q.1 ∧ zbM q.2
 row : ∀ r q,L[r]? = some q → ∃ ad,A = some ad ∧ ad.block < W.heap.size ∧ W.cell? (ad.add (r * 2)) = some (.int .i64 q.1) ∧ W.cell? (ad.add (r * 2 + 1)) = some (.int .i64 q.2)
theorem zaN.below {W W' : World} {A : oA9} {n c : Nat} {L : List (Int × Int)} (h : zaN W A n c L) (hb : Below W.heap.size W W') : zaN W' A n c L :=
 ⟨h.len,h.fits,h.small,h.ints,fun r q hr => by
  obtain ⟨ad,e,h1,h2,h3⟩:=h.row r q hr
  exact ⟨ad,e,Nat.lt_of_lt_of_le h1 hb.size,(hb.cell (by rw [zay]; exact h1)).trans h2,(hb.cell (by rw [zay]; exact h1)).trans h3⟩⟩
theorem arg_fracs {H : Type} {enc : TypeId × Value → H} {P : Program} {W : World} {fuel : Nat} {t0 t : TypeId} {f0 f1 : Field} {A : oA9} {n c : Nat} {x : DataW H × List MemPlace}
  (ht : P.underlying t0 = some (.slice t)) (hs : P.underlying t = some (.struct #[f0,f1])) (hf : (f0.offset,P.cellsOf f0.type,f1.offset,P.cellsOf f1.type) = (0,1,1,1)) (hC : P.cellsOf t = 2) (h0 : P.underlying f0.type = some (.int .i64)) (h1 : P.underlying f1.type = some (.int .i64))
  (h : DataW.trod enc P W 0 (fun _ => true) true fuel t0 (Value.slice A n c).cells.toList = some x) (hb : Rows.uptoBulk x.1 ≤ 1048576) : ∃ L,zaN W A n c L:=by
 rcases open_slice ht h with ⟨hcs,_⟩ | ⟨a,len,cap,m,k,D,Pl,hcs,_,hl,hm,hmm,hx,hi⟩
 ·simp [Value.cells] at hcs
  obtain ⟨rfl,rfl,rfl⟩:=hcs
  exact ⟨[],rfl,Nat.le_refl _,by omega,fun q hq => (by cases hq),fun r q hr => by simp at hr⟩
 ·simp [Value.cells] at hcs
  obtain ⟨rfl,rfl,rfl⟩:=hcs
  rw [if_pos rfl] at hmm
  rw [hmm] at hx hi
  subst hx
  have hss:=UA.slice_le (H:=H) ((List.range n).map D) ((List.range (c - n)).map fun j => D (n + j))
  have hb' : Rows.uptoBulk (DataW.slice (H:=H) ((List.range n).map D) ((List.range (c - n)).map fun j => D (n + j))) ≤ 1048576:=hb
  have hcc : c ≤ 1048576:=by
   simp only [List.length_map,List.length_range] at hss
   omega
  have each : ∀ r,r < n → ∃ q : Int × Int,W.cell? (a.add (r * 2)) = some (.int .i64 q.1) ∧ W.cell? (a.add (r * 2 + 1)) = some (.int .i64 q.2) ∧ zbM q.1 ∧ zbM q.2:=fun r hr => by
   obtain ⟨cs,hcl,htr⟩:=hi r (by omega)
   rw [hC] at hcl
   obtain ⟨_,hlen,hat⟩:=World.cells?_some hcl
   obtain ⟨c0,c1,rfl⟩ : ∃ c0 c1,cs = [c0,c1]:=by
    match cs,hlen with
    | [c0,c1],_ => exact ⟨c0,c1,rfl⟩
   obtain ⟨p,q,rfl,rfl,hp,hq⟩:=zfR (x:=(D r,Pl r)) hs hf h0 h1 htr
   have h0:=hat 0 (by decide)
   have h1:=hat 1 (by decide)
   rw [Go.Deep.add_add] at h0 h1
   exact ⟨(p,q),h0,h1,hp,hq⟩
  obtain ⟨f,hf2⟩ : ∃ f : Nat → Int × Int,∀ r,r < n → W.cell? (a.add (r * 2)) = some (.int .i64 (f r).1) ∧ W.cell? (a.add (r * 2 + 1)) = some (.int .i64 (f r).2) ∧ zbM (f r).1 ∧ zbM (f r).2 :=
   ⟨fun r => if hr : r < n then (each r hr).choose else (0,0),fun r hr => by simp only [dif_pos hr]; exact (each r hr).choose_spec⟩
  refine ⟨(List.range n).map f,by simp,hl,hcc,fun q hq => ?_,fun r q hr => ?_⟩
  ·obtain ⟨r,hr,rfl⟩:=List.mem_map.1 hq
   exact (hf2 r (List.mem_range.1 hr)).2.2
  ·have hlt : r < n:=by
    have:=(List.getElem?_eq_some_iff.1 hr).1
    simpa using this
   obtain rfl : f r = q:=by
    rw [List.getElem?_map,List.getElem?_range hlt] at hr
    simpa using hr
   obtain ⟨c0,c1,_⟩:=hf2 r hlt
   refine ⟨a,rfl,?_,c0,c1⟩
   have:=World.block_lt_of_cell? W _ c0
   rw [zay] at this
   exact this
theorem zaN.take {W : World} {A : oA9} {n c N : Nat} {L : List (Int × Int)} (h : zaN W A n c L) (hN : N ≤ n) : zaN W A N c (L.take N):=by
 have hl:=h.len
 have hf:=h.fits
 refine ⟨by rw [List.length_take]; omega,by omega,h.small,fun q hq => h.ints q (List.mem_of_mem_take hq),fun r q hr => ?_⟩
 rw [List.getElem?_take] at hr
 split at hr
 ·exact h.row r q hr
 ·cases hr
end Go.Proofs.YtkiedljcgkoaiaaGreatDoor
namespace Go.Proofs.YtkiedljcgkoaiaaGreatDoor
open Go Go.RowKit
set_option maxHeartbeats 16000000
set_option maxRecDepth 100000
set_option linter.unusedVariables false
set_option linter.unusedSimpArgs false
theorem zad.to8 {w : World} {x y : Nat} {A : oA9} {n c : Nat} (e : x = y) (h : zad w x A n c) : zad w y A n c:=e ▸ h
theorem zau.to8 {w : World} {x y : Int} {b : Bool} {A : oA9} {n c : Nat} (e : x = y) (h : zau w x b A n c) : zau w y b A n c:=e ▸ h
theorem zgT (x : Nat) (A : oA9) (n c : Nat) (w : World) (h : zad w x A n c) (hn : n ≤ 1099511627776) :
  Calls Tryz.prog 85 #[.agg #[.slice A n c]] w fun e w' => ∃ (B : oA9) (m d : Nat),e = .returned (.slice B m d) ∧ zad w' x B m d ∧ Below w.heap.size w w':=by
 refine (zbP x A n c w h hn).mono ?_
 rintro e w' ⟨B,d,rfl,h1,h2,h3,h4⟩
 exact ⟨B,_,d,rfl,⟨h1,h2,h3.1⟩,h4⟩
theorem of_row (x : Nat) (A : oA9) (n c : Nat) (w : World) (h : zad w x A n c) (hn : n ≤ 1099511627776) :
  Calls Tryz.prog 88 #[.slice A n c] w fun e w' => ∃ (B : oA9) (m d : Nat),e = .returned (.agg #[.slice B m d]) ∧ zad w' x B m d ∧ Below w.heap.size w w':=by
 have k:=zbH A n c _ w h.1 (zbG (by decide) x) h.2.1 h.2.2 hn
 rw [zca (by decide)] at k
 refine k.mono ?_
 rintro e w' ⟨B,m,d,rfl,h1,h2,_⟩
 exact ⟨B,m,d,rfl,h1,h2⟩
theorem zkk {P : Program} {f : FuncId} {args : Array Value} {w : World} {z v : Int} (e : z = v) (h : Calls P f args w fun e w' => e = .returned (.tuple #[.int .u64 z,.bool true]) ∧ Below w.heap.size w w') : Calls P f args w fun e w' => e = .returned (.tuple #[.int .u64 v,.bool true]) ∧ Below w.heap.size w w':=by
 subst e; exact h
theorem zhH (x : Nat) (A : oA9) (n c : Nat) (w : World) (hA : zad w x A n c) (hn : n ≤ 1099511627776) : Calls Tryz.prog 90 #[.agg #[.slice A n c]] w (zbp w ((bitLen x : Nat) : Int)):=zfW x A n c w hA hn
theorem zeM {K K' : Nat} {z : Int} {k : Nat} (h : Sz K z.natAbs) (h' : Sz K' k) : Sz (K + K') (z * ((k : Nat) : Int)).natAbs:=by
 rw [Int.natAbs_mul,Int.natAbs_natCast]
 exact h.mul h'
theorem zan {K q x : Nat} (h : Sz K q) (e : q = (if x = 0 then 1 else x) ∧ x ≠ 1) : Sz K x:=h.of_le (by rw [e.1]; split <;> omega)
theorem zaw {w : World} {r : Rat} {b : Bool} {A : oA9} {n c : Nat} {E : oA9} {k f K : Nat} (h : zak w r b A n c E k f) (q : zaz n k) (hK : 67108864 = K) : SzQ K r:=by
 obtain ⟨x,e,hx⟩:=h.2
 have h1 : Sz K r.num.natAbs:=Sz.of_words h.1.2 (by have:=q.1; omega)
 have h2 : Sz K x:=Sz.of_words hx (by have:=q.2; omega)
 refine ⟨h1,?_⟩
 rw [e.1]
 split
 ·exact zdi (by omega)
 ·exact h2
theorem zdl (w : World) : zad w 0 none 0 0:=by
 refine ⟨⟨by rw [show dg 18446744073709551616 0 = [] from by rw [dg]; rfl]; rfl,fun h => absurd h (by decide)⟩,Nat.le_refl _,by decide⟩
theorem zfj (w : World) : zak w (0 : Rat) false none 0 0 none 0 0:=⟨⟨rfl,zdl w⟩,⟨0,⟨rfl,by decide⟩,zdl w⟩⟩
theorem zdJ {w : World} {z : Int} {b : Bool} {A : oA9} {n c : Nat} (h : zau w z b A n c) : zak w (z : Rat) b A n c none 0 0:=⟨by rw [Rat.num_intCast]; exact h,⟨0,⟨by rw [Rat.den_intCast]; rfl,by decide⟩,zdl w⟩⟩
theorem zkX {w : World} {r : Rat} {z : Int} {b : Bool} {A : oA9} {n c : Nat} {E : oA9} {k f : Nat} (hn : r.num = z) (hd : r.den = 1) (h : zau w z b A n c) (q : zad w 0 E k f) : zak w r b A n c E k f :=
 ⟨by rw [hn]; exact h,⟨0,⟨by rw [hd]; rfl,by decide⟩,q⟩⟩
theorem zge {w : World} {r : Rat} {z : Int} {y : Nat} {b : Bool} {A : oA9} {n c : Nat} {E : oA9} {k f : Nat} (hn : r.num = z) (hd : r.den = y) (hy : y ≠ 1) (h : zau w z b A n c) (q : zad w y E k f) : zak w r b A n c E k f :=
 ⟨by rw [hn]; exact h,⟨y,⟨by rw [if_neg (fun h0 => r.den_nz (by rw [hd,h0]))]; exact hd,hy⟩,q⟩⟩
theorem zem {q x : Nat} (e : q = (if x = 0 then 1 else x) ∧ x ≠ 1) (h : q = 1) : x = 0:=by
 refine Decidable.byContradiction fun h0 => ?_
 rw [if_neg h0] at e
 omega
theorem zcC {q x : Nat} (e : q = (if x = 0 then 1 else x) ∧ x ≠ 1) (h : q ≠ 1) : x ≠ 0 ∧ x = q:=by
 have h0 : x ≠ 0:=fun h0 => h (by rw [e.1,if_pos h0])
 refine ⟨h0,?_⟩
 have:=e.1
 rw [if_neg h0] at this
 exact this.symm
theorem zla (z : Int) : zaC (decide (z < 0)) z.natAbs = z:=by
 unfold zaC
 by_cases h : z < 0
 ·rw [decide_eq_true h,if_pos rfl]; omega
 ·rw [decide_eq_false h,if_neg (by decide)]; omega
theorem zkD {w : World} {x : Nat} {A : oA9} {n c : Nat} (h : zad w x A n c) (hn : n ≤ 1) : x < 18446744073709551616:=zfY h.len hn
theorem len_one {w : World} {x : Nat} {A : oA9} {n c : Nat} (h : zad w x A n c) (hx : x = 1) : n ≤ 1:=by
 have h1 : Sz 1 x:=by rw [hx]; exact zdi (by decide)
 exact h1.words h
theorem zjm (p d : Int) (hd : d ≠ 0) : (Rat.divInt p d).num = zaC (decide (p < 0) != decide (d < 0)) (p.natAbs / Nat.gcd p.natAbs d.natAbs) ∧ (Rat.divInt p d).den = d.natAbs / Nat.gcd p.natAbs d.natAbs:=by
 refine ⟨?_,made_den p d hd⟩
 have h1:=made_num p d hd
 have h2:=zkE p d hd
 rw [← h1]
 generalize (Rat.divInt p d).num = z at *
 unfold zaC
 by_cases hp : p < 0
 ·by_cases hq : d < 0
  ·rw [decide_eq_true hp,decide_eq_true hq]; simp; omega
  ·rw [decide_eq_true hp,decide_eq_false hq]; simp; omega
 ·by_cases hq : d < 0
  ·rw [decide_eq_false hp,decide_eq_true hq]; simp
   by_cases h0 : p = 0
   ·subst h0; simp at h1; omega
   ·omega
  ·rw [decide_eq_false hp,decide_eq_false hq]; simp; omega
end Go.Proofs.YtkiedljcgkoaiaaGreatDoor
