/- What this claim leans on. -/
import Derived.Test.YtedbgdlbgohiiaaGreatDoorBVMath
import Derived.Test.YtedbgdlbgohiiaaGreatDoorBJ8Mul
import Derived.Test.YtedbgdlbgohiiaaGreatDoorBJ8Ord
namespace Go.Proofs.YtedbgdlbgohiiaaGreatDoor
open Go Go.RowKit
open Go.ChangeShapes Go.WideShapes Go.ChangeAt Go.Deep
set_option maxHeartbeats 16000000
set_option linter.unusedVariables false
def zbM (z : Int) : Prop:=-9223372036854775808 ≤ z ∧ z ≤ 9223372036854775807
theorem zlb {H : Type} {enc : TypeId × Value → H} {P : Program} {W : World} {fuel : Nat} {t : TypeId} {f0 f1 : Field} {c0 c1 : Value} {x : DataW H × List MemPlace}
  (hs : P.underlying t = some (.struct #[f0,f1])) (hf : (f0.offset,P.cellsOf f0.type,f1.offset,P.cellsOf f1.type) = (0,1,1,1)) (h0 : P.underlying f0.type = some (.int .i64)) (h1 : P.underlying f1.type = some (.int .i64))
  (h : DataW.trod enc P W 0 (fun _ => true) true fuel t [c0,c1] = some x) : ∃ p q : Int,c0 = .int .i64 p ∧ c1 = .int .i64 q ∧ zbM p ∧ zbM q:=by
 simp only [Prod.mk.injEq] at hf
 obtain ⟨y0,y1,n,rfl,_,k0,k1⟩:=trod_struct2 hs h
 rw [hf.1,hf.2.1] at k0
 rw [hf.2.2.1,hf.2.2.2] at k1
 simp only [List.drop_zero,List.take_succ_cons,List.take_zero,List.drop_succ_cons] at k0 k1
 obtain ⟨p,hp,_,wp⟩:=DataW.trod_int h0 k0
 obtain ⟨q,hq,_,wq⟩:=DataW.trod_int h1 k1
 simp only [List.cons.injEq,and_true] at hp hq
 have bp:=bounds_i64 wp
 have bq:=bounds_i64 wq
 exact ⟨p,q,hp,hq,⟨by omega,by omega⟩,⟨by omega,by omega⟩⟩
structure zaS (W : World) (A : oA9) (n c : Nat) (L : List (Int × Int)) : Prop where
 len : L.length = n
 fits : n ≤ c
 small : c ≤ 1048576
 ints : ∀ q ∈ L,zbM q.1 ∧ zbM q.2
 row : ∀ r q,L[r]? = some q → ∃ ad,A = some ad ∧ ad.block < W.heap.size ∧ W.cell? (ad.add (r * 2)) = some (.int .i64 q.1) ∧ W.cell? (ad.add (r * 2 + 1)) = some (.int .i64 q.2)
theorem zaS.below {W W' : World} {A : oA9} {n c : Nat} {L : List (Int × Int)} (h : zaS W A n c L) (hb : Below W.heap.size W W') : zaS W' A n c L :=
 ⟨h.len,h.fits,h.small,h.ints,fun r q hr => by
  obtain ⟨ad,e,h1,h2,h3⟩:=h.row r q hr
  exact ⟨ad,e,Nat.lt_of_lt_of_le h1 hb.size,(hb.cell (by rw [zao]; exact h1)).trans h2,(hb.cell (by rw [zao]; exact h1)).trans h3⟩⟩
theorem arg_fracs {H : Type} {enc : TypeId × Value → H} {P : Program} {W : World} {fuel : Nat} {t0 t : TypeId} {f0 f1 : Field} {A : oA9} {n c : Nat} {x : DataW H × List MemPlace}
  (ht : P.underlying t0 = some (.slice t)) (hs : P.underlying t = some (.struct #[f0,f1])) (hf : (f0.offset,P.cellsOf f0.type,f1.offset,P.cellsOf f1.type) = (0,1,1,1)) (hC : P.cellsOf t = 2) (h0 : P.underlying f0.type = some (.int .i64)) (h1 : P.underlying f1.type = some (.int .i64))
  (h : DataW.trod enc P W 0 (fun _ => true) true fuel t0 (Value.slice A n c).cells.toList = some x) (hb : Rows.uptoBulk x.1 ≤ 1048576) : ∃ L,zaS W A n c L:=by
 rcases open_slice ht h with ⟨hcs,_⟩ | ⟨a,len,cap,m,k,D,Pl,hcs,_,hl,hm,hmm,hx,hi⟩
 ·simp [Value.cells] at hcs
  obtain ⟨rfl,rfl,rfl⟩:=hcs
  exact ⟨[],rfl,Nat.le_refl _,by omega,fun q hq => (by cases hq),fun r q hr => by simp at hr⟩
 ·simp [Value.cells] at hcs
  obtain ⟨rfl,rfl,rfl⟩:=hcs
  rw [if_pos rfl] at hmm
  rw [hmm] at hx hi
  subst hx
  have hss:=UA.slice_le (H:=H) ((List.range n).map D) ((List.range (c - n)).map fun j => D (n + j))
  have hb' : Rows.uptoBulk (DataW.slice (H:=H) ((List.range n).map D) ((List.range (c - n)).map fun j => D (n + j))) ≤ 1048576:=hb
  have hcc : c ≤ 1048576:=by
   simp only [List.length_map,List.length_range] at hss
   omega
  have each : ∀ r,r < n → ∃ q : Int × Int,W.cell? (a.add (r * 2)) = some (.int .i64 q.1) ∧ W.cell? (a.add (r * 2 + 1)) = some (.int .i64 q.2) ∧ zbM q.1 ∧ zbM q.2:=fun r hr => by
   obtain ⟨cs,hcl,htr⟩:=hi r (by omega)
   rw [hC] at hcl
   obtain ⟨_,hlen,hat⟩:=World.cells?_some hcl
   obtain ⟨c0,c1,rfl⟩ : ∃ c0 c1,cs = [c0,c1]:=by
    match cs,hlen with
    | [c0,c1],_ => exact ⟨c0,c1,rfl⟩
   obtain ⟨p,q,rfl,rfl,hp,hq⟩:=zlb (x:=(D r,Pl r)) hs hf h0 h1 htr
   have h0:=hat 0 (by decide)
   have h1:=hat 1 (by decide)
   rw [Go.Deep.add_add] at h0 h1
   exact ⟨(p,q),h0,h1,hp,hq⟩
  obtain ⟨f,hf2⟩ : ∃ f : Nat → Int × Int,∀ r,r < n → W.cell? (a.add (r * 2)) = some (.int .i64 (f r).1) ∧ W.cell? (a.add (r * 2 + 1)) = some (.int .i64 (f r).2) ∧ zbM (f r).1 ∧ zbM (f r).2 :=
   ⟨fun r => if hr : r < n then (each r hr).choose else (0,0),fun r hr => by simp only [dif_pos hr]; exact (each r hr).choose_spec⟩
  refine ⟨(List.range n).map f,by simp,hl,hcc,fun q hq => ?_,fun r q hr => ?_⟩
  ·obtain ⟨r,hr,rfl⟩:=List.mem_map.1 hq
   exact (hf2 r (List.mem_range.1 hr)).2.2
  ·have hlt : r < n:=by
    have:=(List.getElem?_eq_some_iff.1 hr).1
    simpa using this
   obtain rfl : f r = q:=by
    rw [List.getElem?_map,List.getElem?_range hlt] at hr
    simpa using hr
   obtain ⟨c0,c1,_⟩:=hf2 r hlt
   refine ⟨a,rfl,?_,c0,c1⟩
   have:=World.block_lt_of_cell? W _ c0
   rw [zao] at this
   exact this
theorem zgR {H : Type} {enc : TypeId × Value → H} {P : Program} {W : World} {fuel : Nat} {t0 t : TypeId} {f0 f1 : Field} {v : Value} {x : DataW H × List MemPlace}
  (ht : P.underlying t0 = some (.slice t)) (hs : P.underlying t = some (.struct #[f0,f1])) (hf : (f0.offset,P.cellsOf f0.type,f1.offset,P.cellsOf f1.type) = (0,1,1,1)) (hC : P.cellsOf t = 2) (h0 : P.underlying f0.type = some (.int .i64)) (h1 : P.underlying f1.type = some (.int .i64))
  (h : DataW.trod enc P W 0 (fun _ => true) true fuel t0 [v] = some x) (hb : Rows.uptoBulk x.1 ≤ 1048576) : ∃ A n c L,v = .slice A n c ∧ zaS W A n c L:=by
 have go : ∀ A n c,[v] = [Value.slice A n c] → ∃ A n c L,v = .slice A n c ∧ zaS W A n c L:=fun A n c e => by
  simp only [List.cons.injEq,and_true] at e
  subst e
  obtain ⟨L,hL⟩:=arg_fracs ht hs hf hC h0 h1 (A:=A) (n:=n) (c:=c) (by simpa [Value.cells] using h) hb
  exact ⟨A,n,c,L,rfl,hL⟩
 rcases open_slice ht h with ⟨hcs,_⟩ | ⟨a,len,cap,m,k,D,Pl,hcs,_⟩
 ·exact go _ _ _ hcs
 ·exact go _ _ _ hcs
structure zaR (W : World) (A : oA9) (n c : Nat) (R : Nat → oA9 × Nat × Nat × List (Int × Int)) : Prop where
 fits : n ≤ c
 small : c ≤ 1048576
 row : ∀ r,r < n → ∃ ad,A = some ad ∧ ad.block < W.heap.size ∧ W.cell? (ad.add r) = some (.slice (R r).1 (R r).2.1 (R r).2.2.1) ∧ zaS W (R r).1 (R r).2.1 (R r).2.2.1 (R r).2.2.2
theorem zhR {H : Type} {enc : TypeId × Value → H} {P : Program} {W : World} {fuel : Nat} {t9 t0 t : TypeId} {f0 f1 : Field} {A : oA9} {n c : Nat} {x : DataW H × List MemPlace}
  (ht9 : P.underlying t9 = some (.slice t0)) (hC9 : P.cellsOf t0 = 1) (ht : P.underlying t0 = some (.slice t)) (hs : P.underlying t = some (.struct #[f0,f1])) (hf : (f0.offset,P.cellsOf f0.type,f1.offset,P.cellsOf f1.type) = (0,1,1,1)) (hC : P.cellsOf t = 2) (h0 : P.underlying f0.type = some (.int .i64)) (h1 : P.underlying f1.type = some (.int .i64))
  (h : DataW.trod enc P W 0 (fun _ => true) true fuel t9 (Value.slice A n c).cells.toList = some x) (hb : Rows.uptoBulk x.1 ≤ 1048576) : ∃ R,zaR W A n c R:=by
 rcases open_slice ht9 h with ⟨hcs,_⟩ | ⟨a,len,cap,m,k,D,Pl,hcs,_,hl,hm,hmm,hx,hi⟩
 ·simp [Value.cells] at hcs
  obtain ⟨rfl,rfl,rfl⟩:=hcs
  exact ⟨fun _ => (none,0,0,[]),Nat.le_refl _,by omega,fun r hr => by omega⟩
 ·simp [Value.cells] at hcs
  obtain ⟨rfl,rfl,rfl⟩:=hcs
  rw [if_pos rfl] at hmm
  rw [hmm] at hx hi
  subst hx
  have hss:=UA.slice_le (H:=H) ((List.range n).map D) ((List.range (c - n)).map fun j => D (n + j))
  have hb' : Rows.uptoBulk (DataW.slice (H:=H) ((List.range n).map D) ((List.range (c - n)).map fun j => D (n + j))) ≤ 1048576:=hb
  have hcc : c ≤ 1048576:=by
   simp only [List.length_map,List.length_range] at hss
   omega
  have each : ∀ r,r < n → ∃ q : oA9 × Nat × Nat × List (Int × Int),W.cell? (a.add r) = some (.slice q.1 q.2.1 q.2.2.1) ∧ zaS W q.1 q.2.1 q.2.2.1 q.2.2.2:=fun r hr => by
   obtain ⟨cs,hcl,htr⟩:=hi r (by omega)
   rw [hC9] at hcl
   obtain ⟨_,hlen,hat⟩:=World.cells?_some hcl
   obtain ⟨c0,rfl⟩ : ∃ c0,cs = [c0]:=by
    match cs,hlen with
    | [c0],_ => exact ⟨c0,rfl⟩
   have hD : Rows.uptoBulk (D r) ≤ 1048576:=by
    have hm1 : D r ∈ (List.range n).map D:=List.mem_map.2 ⟨r,List.mem_range.2 hr,rfl⟩
    have hm2:=UA.mem_le hm1
    simp only [Rows.uptoBulk] at hb'
    omega
   obtain ⟨A',n',c',L,rfl,hL⟩:=zgR (x:=(D r,Pl r)) ht hs hf hC h0 h1 htr hD
   have h0:=hat 0 (by decide)
   rw [Go.Deep.add_add,Nat.mul_one,Nat.add_zero] at h0
   exact ⟨(A',n',c',L),h0,hL⟩
  refine ⟨fun r => if hr : r < n then (each r hr).choose else (none,0,0,[]),hl,hcc,fun r hr => ⟨a,rfl,?_,?_⟩⟩
  ·have:=World.block_lt_of_cell? W _ (each r hr).choose_spec.1
   rw [zao] at this
   exact this
  ·simp only [dif_pos hr]
   exact (each r hr).choose_spec
theorem zaS.take {W : World} {A : oA9} {n c N : Nat} {L : List (Int × Int)} (h : zaS W A n c L) (hN : N ≤ n) : zaS W A N c (L.take N):=by
 have hl:=h.len
 have hf:=h.fits
 refine ⟨by rw [List.length_take]; omega,by omega,h.small,fun q hq => h.ints q (List.mem_of_mem_take hq),fun r q hr => ?_⟩
 rw [List.getElem?_take] at hr
 split at hr
 ·exact h.row r q hr
 ·cases hr
end Go.Proofs.YtedbgdlbgohiiaaGreatDoor
namespace Go.Proofs.YtedbgdlbgohiiaaGreatDoor
open Go Go.RowKit
set_option maxHeartbeats 16000000
set_option linter.unusedVariables false
section
variable {K K' : Nat} {x y : Rat} {b b' : Bool} {A A' : oA9} {n n' c c' : Nat} {E E' : oA9} {k k' f f' : Nat} {w : World}
theorem q_mul (hT : zaj w) (h : zai w x b A n c E k f) (h' : zai w y b' A' n' c' E' k' f') (z : SzQ K x) (z' : SzQ K' y) (hK : K ≤ 67108864:=by omega) (hK' : K' ≤ 67108864:=by omega) :
  Calls Tryz.prog 139 #[.agg #[.bool b,.slice A n c,.slice E k f],.agg #[.bool b',.slice A' n' c',.slice E' k' f']] w (zaI w (x * y)):=rat_mul x y b A n c E k f b' A' n' c' E' k' f' w hT h h' (z.fit h hK) (z'.fit h' hK')
theorem q_cmp (hT : zaj w) (h : zai w x b A n c E k f) (h' : zai w y b' A' n' c' E' k' f') (z : SzQ K x) (z' : SzQ K' y) (hK : K ≤ 67108864:=by omega) (hK' : K' ≤ 67108864:=by omega) :
  Calls Tryz.prog 122 #[.agg #[.bool b,.slice A n c,.slice E k f],.agg #[.bool b',.slice A' n' c',.slice E' k' f']] w (zbA w (zeU x y)):=zmu x y b A n c E k f b' A' n' c' E' k' f' w hT h h' (z.fit h hK) (z'.fit h' hK')
theorem zlA {t : Bool} (e : decide (x = y) = t) (hT : zaj w) (h : zai w x b A n c E k f) (h' : zai w y b' A' n' c' E' k' f') (z : SzQ K x) (z' : SzQ K' y) (hK : K ≤ 67108864:=by omega) (hK' : K' ≤ 67108864:=by omega) :
  Calls Tryz.prog 44 #[.agg #[.bool b,.slice A n c,.slice E k f],.agg #[.bool b',.slice A' n' c',.slice E' k' f']] w (fun e w' => e = .returned (.bool t) ∧ Below w.heap.size w w'):=zax e (zkp x y b A n c E k f b' A' n' c' E' k' f' w hT h h' (z.fit h hK) (z'.fit h' hK'))
theorem q_bits {v : Int} (e : ((zgk x : Nat) : Int) = v) (hT : zaj w) (h : zai w x b A n c E k f) (z : SzQ K x) (hK : K ≤ 67108864:=by omega) :
  Calls Tryz.prog 84 #[.agg #[.bool b,.slice A n c,.slice E k f]] w (fun e w' => e = .returned (.int .i64 v) ∧ Below w.heap.size w w'):=zbG e (zkl x b A n c E k f w hT h (z.fit h hK))
end
theorem en_mul : ∀ (args : Array Value) (w' : World),Sem.run Tryz.prog (callFunc 139 args) w' = .ok (.enter 139 args) w':=Go.Proofs.enters_of Tryz.func139 (by kernel_rfl) rfl
theorem zaD.rats {w : World} {A : oA9} {n c : Nat} {xs : List Rat} (h : zaD w A n c xs) : zgO w A n c xs:=⟨h.len,h.fits,h.most,fun i hi => h.at_ hi 0⟩
theorem sum_is (rs : List Rat) : zgD rs = zcI rs:=rfl
theorem q_sum {K n c : Nat} {A : oA9} {xs : List Rat} {w : World} (hT : zaj w) (h : zaD w A n c xs) (hx : zav K xs) (hn : n ≤ 1073741824) (hK : 1 + n * (K + 1) ≤ 67108864) :
  Calls Tryz.prog 68 #[.slice A n c] w (zaI w (zcI xs)):=by
 have hl:=h.len
 have e:=sum_is xs
 rw [← e]
 refine rat_sum xs A n c (1 + n * (K + 1)) w hT h.rats hn hK (fun i hi => (hx.at_ (by omega)).up ?_) (fun k hk => ?_)
 ·have : K + 1 ≤ n * (K + 1):=Nat.le_mul_of_pos_left _ (by omega)
  omega
 ·rw [sum_is]
  exact take_sz hx hl k hk
theorem zkB {w : World} {g : Nat} {t : TypeId} {x : Rat} {b : Bool} {A : oA9} {n c : Nat} {E : oA9} {k f : Nat} (h : Blk w g t #[.bool b,.slice A n c,.slice E k f]) (hx : zai w x b A n c E k f) : zaD w (some ⟨g,0,none⟩) 1 1 [x] :=
 ⟨rfl,Nat.le_refl _,by decide,fun i y hi => by
  have h0 : i = 0:=by
   have:=(List.getElem?_eq_some_iff.1 hi).1
   simpa using this
  subst h0
  obtain rfl : x = y:=by simpa using hi
  exact ⟨_,b,A,n,c,E,k,f,rfl,h.lt,by rw [zay]; exact h.cell 0,by rw [zay]; exact h.cell 1,by rw [zay]; exact h.cell 2,hx⟩⟩
end Go.Proofs.YtedbgdlbgohiiaaGreatDoor
namespace Go.Proofs.YtedbgdlbgohiiaaGreatDoor
open Go Go.RowKit
set_option maxHeartbeats 16000000
set_option maxRecDepth 100000
set_option linter.unusedVariables false
set_option linter.unusedSimpArgs false
section
variable {K : Nat} {xs : List Rat} {A : oA9} {n c : Nat} {w : World}
theorem zma {x : Rat} (h : SzQ K x) : zgk x ≤ 128 * K:=by
 unfold zgk
 have h1:=zeD h.num
 have h2:=zeD h.den
 omega
theorem zfo (h : zav K xs) : ∀ k,k ≤ xs.length → zcs (xs.take k) ≤ 128 * K
 | 0,_ => by simp [zcs]
 | k + 1,hk => by
   rw [zgU xs k (by omega)]
   have h1:=zfo h k (by omega)
   have h2:=zma (h.at_ (k:=k) (by omega))
   omega
theorem zhM {z : Int} (hz : ((zcs xs : Nat) : Int) = z) (hT : zaj w) (ha : zaD w A n c xs) (hx : zav K xs) (hn : n ≤ 1073741824:=by omega) (hK : K ≤ 67108864:=by omega) :
  Calls Tryz.prog 43 #[.slice A n c] w (zbA w z):=by
 have hla:=ha.len
 have HLA:=lh9 hla
 have HZ:=lh9 hz
 have HSX : Hid (∀ i,i < n → SzQ K (xs.getD i 0)):=fun i hi => hx.at_ (by omega)
 have HBV : Hid (∀ k,k ≤ n → zcs (xs.take k) ≤ 128 * K):=fun k hk => zfo hx k (by omega)
 unfold zbA
 have HA:=lh9 ha
 have HT:=lh9 (fun w' (hb : Below w.heap.size w w') => hT.on hb)
 clear hT ha hx hla hz
 have hB:=Below.refl w.heap.size w
 have i0 : (0 : Int) ≤ (n : Int):=by omega
 go_enter Tryz.func43,Tryz.ntmps43
 go_wp2_with fail
 go_loopg [3,8] (n + 1) (fun g mx ix wr => ∃ (k m : Nat),k ≤ n ∧ n < g + k ∧ ix = .int .i64 k ∧ mx = .int .i64 m ∧ Hid (zcs (xs.take k) = m) ∧ m ≤ 8589934592 ∧ Below w.heap.size w wr)
 case atStart => exact ⟨0,0,Nat.zero_le _,by omega,rfl,rfl,rfl,by omega,hB⟩
 case round =>
  clear hB
  obtain ⟨k,m,hkn,hg,rfl,rfl,hz0,hm,hB⟩:=hrel
  by_cases hlt : k < n
  ·obtain ⟨ad,b1,B1,m1,d1,E1,u1,v1,rfl,-,hc0,hc1,hc2,hx⟩:=HA.out.get hB hlt
   have hd1 : decide ((k : Int) < (n : Int)) = true:=decide_eq_true (by omega)
   have i1 : (0 : Int) ≤ (k : Int):=by omega
   have i2 : (k : Int) < (n : Int):=by omega
   obtain ⟨st,d3,d4⟩:=zaC wr 48 #[.bool b1,.slice B1 m1 d1,.slice E1 u1 v1]
   obtain ⟨p0,p1,p2⟩:=d3.c3
   have HX:=lh9 (hx.below st)
   have HB1:=lh9 (zaa hB st)
   clear hx hB st d3 d4
   have hlx : k < xs.length:=by have:=HLA.out; omega
   have h4:=zma (HSX.out k hlt)
   have h5 : zcs (xs.take (k + 1)) = max m (zgk (xs.getD k 0)):=by rw [zgU xs k hlx,hz0.out]
   obtain ⟨q,hq⟩ : ∃ q,zgk (xs.getD k 0) = q:=⟨_,rfl⟩
   rw [hq] at h4 h5
   obtain ⟨M,hM⟩ : ∃ M,max m q = M:=⟨_,rfl⟩
   rw [hM] at h5
   have hM2 : M ≤ 8589934592:=by omega
   have HQ : Hid (((zgk (xs.getD k 0) : Nat) : Int) = (q : Int)):=by show _ = _; rw [hq]
   have HZ1:=lh9 h5
   have hmx1 : (if (m : Int) < (q : Int) then (q : Int) else (m : Int)) = (M : Int):=by
    rw [← hM]; split <;> omega
   have hmx2 : (if m < q then (q : Int) else (m : Int)) = (M : Int):=by
    rw [← hM]; split <;> omega
   have hmx3 : max (m : Int) (q : Int) = (M : Int):=by omega
   have hmx4 : (if (q : Int) < (m : Int) then (m : Int) else (q : Int)) = (M : Int):=by
    rw [← hM]; split <;> omega
   have hmx5 : (if q < m then (m : Int) else (q : Int)) = (M : Int):=by
    rw [← hM]; split <;> omega
   clear hq h5 hlx hM
   go_wp2_with fail
   (with_reducible refine (q_bits HQ.out (HT.out _ HB1.out) HX.out (HSX.out k hlt) hK).mono ?_)
   rintro e w3 ⟨rfl,hb⟩
   have HB2:=lh9 (zaa HB1.out hb)
   clear hb hc0 hc1 hc2 p0 p1 p2 HX HB1
   go_wp2
   go_roundg (n - k)
   case measure => omega
   case rel => exact ⟨k + 1,M,by omega,by omega,by go_num,rfl,HZ1,hM2,HB2.out⟩
  ·have hd1 : decide ((k : Int) < (n : Int)) = false:=decide_eq_false (by omega)
   have HF : Hid ((m : Int) = z):=by
    have:=HLA.out
    show _ = _
    rw [← HZ.out,← hz0.out,List.take_of_length_le (by omega)]
   have HB2:=lh9 hB
   clear hB
   go_wp2
   go_ret
   exact ⟨by rw [← HF.out]; rfl,HB2.out⟩
end
end Go.Proofs.YtedbgdlbgohiiaaGreatDoor
