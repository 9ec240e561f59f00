/- What this claim leans on. -/
import Derived.Test.YtkiedljcgkoaiaaGreatDoorRJ8Etc
import Derived.Deep.Matrix
namespace Go.Proofs.YtkiedljcgkoaiaaGreatDoor
open Go Go.RowKit
open Go.ChangeShapes Go.WideShapes Go.ChangeAt Go.Deep
set_option maxHeartbeats 16000000
set_option linter.unusedVariables false
def zaX (z : Int) : Prop:=-9223372036854775808 ≤ z ∧ z ≤ 9223372036854775807
theorem zgS {H : Type} {enc : TypeId × Value → H} {P : Program} {W : World} {fuel : Nat} {t : TypeId} {f0 f1 : Field} {c0 c1 : Value} {x : DataW H × List MemPlace}
  (hs : P.underlying t = some (.struct #[f0,f1])) (hf : (f0.offset,P.cellsOf f0.type,f1.offset,P.cellsOf f1.type) = (0,1,1,1)) (h0 : P.underlying f0.type = some (.int .i64)) (h1 : P.underlying f1.type = some (.int .i64))
  (h : DataW.trod enc P W 0 (fun _ => true) true fuel t [c0,c1] = some x) : ∃ p q : Int,c0 = .int .i64 p ∧ c1 = .int .i64 q ∧ zaX p ∧ zaX q:=by
 simp only [Prod.mk.injEq] at hf
 obtain ⟨y0,y1,n,rfl,_,k0,k1⟩:=trod_struct2 hs h
 rw [hf.1,hf.2.1] at k0
 rw [hf.2.2.1,hf.2.2.2] at k1
 simp only [List.drop_zero,List.take_succ_cons,List.take_zero,List.drop_succ_cons] at k0 k1
 obtain ⟨p,hp,_,wp⟩:=DataW.trod_int h0 k0
 obtain ⟨q,hq,_,wq⟩:=DataW.trod_int h1 k1
 simp only [List.cons.injEq,and_true] at hp hq
 have bp:=bounds_i64 wp
 have bq:=bounds_i64 wq
 exact ⟨p,q,hp,hq,⟨by omega,by omega⟩,⟨by omega,by omega⟩⟩
theorem arg_frac {H : Type} {enc : TypeId × Value → H} {P : Program} {W : World} {r : Reach} {b0 : Nat} {t : TypeId} {f0 f1 : Field} {v : Value} {d : DataW H} {p : List MemPlace}
  (hs : P.underlying t = some (.struct #[f0,f1])) (hf : (f0.offset,P.cellsOf f0.type,f1.offset,P.cellsOf f1.type) = (0,1,1,1)) (hC : P.cellsOf t = 2) (h0 : P.underlying f0.type = some (.int .i64)) (h1 : P.underlying f1.type = some (.int .i64))
  (hv : Value.okWide P W r b0 t v) (h : DataW.Trod enc P W 0 (fun _ => true) true t v d p) : ∃ x y : Int,v = .agg #[.int .i64 x,.int .i64 y] ∧ zaX x ∧ zaX y:=by
 obtain ⟨cs,rfl,hsz⟩:=okWide_struct hs hv
 obtain ⟨c0,c1,rfl⟩:=Go.Joins.array2 (hsz.trans hC)
 obtain ⟨fuel,hh⟩:=h
 obtain ⟨x,y,rfl,rfl,hx,hy⟩:=zgS (x:=(d,p)) hs hf h0 h1 (by simpa [Value.cells] using hh)
 exact ⟨x,y,rfl,hx,hy⟩
structure zaT (W : World) (A : oA9) (n c : Nat) (L : List (Int × Int)) : Prop where
 len : L.length = n
 fits : n ≤ c
 small : c ≤ 1048576
 ints : ∀ q ∈ L,zaX q.1 ∧ zaX q.2
 row : ∀ r q,L[r]? = some q → ∃ ad,A = some ad ∧ ad.block < W.heap.size ∧ W.cell? (ad.add (r * 2)) = some (.int .i64 q.1) ∧ W.cell? (ad.add (r * 2 + 1)) = some (.int .i64 q.2)
theorem zaT.below {W W' : World} {A : oA9} {n c : Nat} {L : List (Int × Int)} (h : zaT W A n c L) (hb : Below W.heap.size W W') : zaT W' A n c L :=
 ⟨h.len,h.fits,h.small,h.ints,fun r q hr => by
  obtain ⟨ad,e,h1,h2,h3⟩:=h.row r q hr
  exact ⟨ad,e,Nat.lt_of_lt_of_le h1 hb.size,(hb.cell (by rw [zay]; exact h1)).trans h2,(hb.cell (by rw [zay]; exact h1)).trans h3⟩⟩
theorem arg_fracs {H : Type} {enc : TypeId × Value → H} {P : Program} {W : World} {fuel : Nat} {t0 t : TypeId} {f0 f1 : Field} {A : oA9} {n c : Nat} {x : DataW H × List MemPlace}
  (ht : P.underlying t0 = some (.slice t)) (hs : P.underlying t = some (.struct #[f0,f1])) (hf : (f0.offset,P.cellsOf f0.type,f1.offset,P.cellsOf f1.type) = (0,1,1,1)) (hC : P.cellsOf t = 2) (h0 : P.underlying f0.type = some (.int .i64)) (h1 : P.underlying f1.type = some (.int .i64))
  (h : DataW.trod enc P W 0 (fun _ => true) true fuel t0 (Value.slice A n c).cells.toList = some x) (hb : Rows.uptoBulk x.1 ≤ 1048576) : ∃ L,zaT W A n c L:=by
 rcases open_slice ht h with ⟨hcs,_⟩ | ⟨a,len,cap,m,k,D,Pl,hcs,_,hl,hm,hmm,hx,hi⟩
 ·simp [Value.cells] at hcs
  obtain ⟨rfl,rfl,rfl⟩:=hcs
  exact ⟨[],rfl,Nat.le_refl _,by omega,fun q hq => (by cases hq),fun r q hr => by simp at hr⟩
 ·simp [Value.cells] at hcs
  obtain ⟨rfl,rfl,rfl⟩:=hcs
  rw [if_pos rfl] at hmm
  rw [hmm] at hx hi
  subst hx
  have hss:=UA.slice_le (H:=H) ((List.range n).map D) ((List.range (c - n)).map fun j => D (n + j))
  have hb' : Rows.uptoBulk (DataW.slice (H:=H) ((List.range n).map D) ((List.range (c - n)).map fun j => D (n + j))) ≤ 1048576:=hb
  have hcc : c ≤ 1048576:=by
   simp only [List.length_map,List.length_range] at hss
   omega
  have each : ∀ r,r < n → ∃ q : Int × Int,W.cell? (a.add (r * 2)) = some (.int .i64 q.1) ∧ W.cell? (a.add (r * 2 + 1)) = some (.int .i64 q.2) ∧ zaX q.1 ∧ zaX q.2:=fun r hr => by
   obtain ⟨cs,hcl,htr⟩:=hi r (by omega)
   rw [hC] at hcl
   obtain ⟨_,hlen,hat⟩:=World.cells?_some hcl
   obtain ⟨c0,c1,rfl⟩ : ∃ c0 c1,cs = [c0,c1]:=by
    match cs,hlen with
    | [c0,c1],_ => exact ⟨c0,c1,rfl⟩
   obtain ⟨p,q,rfl,rfl,hp,hq⟩:=zgS (x:=(D r,Pl r)) hs hf h0 h1 htr
   have h0:=hat 0 (by decide)
   have h1:=hat 1 (by decide)
   rw [Go.Deep.add_add] at h0 h1
   exact ⟨(p,q),h0,h1,hp,hq⟩
  obtain ⟨f,hf2⟩ : ∃ f : Nat → Int × Int,∀ r,r < n → W.cell? (a.add (r * 2)) = some (.int .i64 (f r).1) ∧ W.cell? (a.add (r * 2 + 1)) = some (.int .i64 (f r).2) ∧ zaX (f r).1 ∧ zaX (f r).2 :=
   ⟨fun r => if hr : r < n then (each r hr).choose else (0,0),fun r hr => by simp only [dif_pos hr]; exact (each r hr).choose_spec⟩
  refine ⟨(List.range n).map f,by simp,hl,hcc,fun q hq => ?_,fun r q hr => ?_⟩
  ·obtain ⟨r,hr,rfl⟩:=List.mem_map.1 hq
   exact (hf2 r (List.mem_range.1 hr)).2.2
  ·have hlt : r < n:=by
    have:=(List.getElem?_eq_some_iff.1 hr).1
    simpa using this
   obtain rfl : f r = q:=by
    rw [List.getElem?_map,List.getElem?_range hlt] at hr
    simpa using hr
   obtain ⟨c0,c1,_⟩:=hf2 r hlt
   refine ⟨a,rfl,?_,c0,c1⟩
   have:=World.block_lt_of_cell? W _ c0
   rw [zay] at this
   exact this
theorem zaT.take {W : World} {A : oA9} {n c N : Nat} {L : List (Int × Int)} (h : zaT W A n c L) (hN : N ≤ n) : zaT W A N c (L.take N):=by
 have hl:=h.len
 have hf:=h.fits
 refine ⟨by rw [List.length_take]; omega,by omega,h.small,fun q hq => h.ints q (List.mem_of_mem_take hq),fun r q hr => ?_⟩
 rw [List.getElem?_take] at hr
 split at hr
 ·exact h.row r q hr
 ·cases hr
end Go.Proofs.YtkiedljcgkoaiaaGreatDoor
namespace Go.Proofs.YtkiedljcgkoaiaaGreatDoor
open Go Go.RowKit
set_option maxHeartbeats 16000000
set_option linter.unusedVariables false
theorem Sz.len16' {K x : Nat} (h : Sz K x) : (dg 65536 x).length ≤ 4 * K:=zaB (by decide) _ _ (by rw [zev]; exact h)
theorem Sz.holds' {K x : Nat} (h : Sz K x) {w : World} {A : oA9} {n c : Nat} (hw : zaj w x A n c) : n ≤ 4 * K:=by rw [hw.len]; exact h.len16'
theorem zmo (cs : Array Value) (l : List Nat) (w : World) (g n x : Nat) (hk : Blk w g 83 cs) (hn : cs.size = n) (hv : cs.toList = zat .u64 l) (hd : Dgs 18446744073709551616 l) (hx : dv 18446744073709551616 l = x) (hs : n ≤ 1000) :
  Calls Tryz.prog 51 #[.slice (some ⟨g,0,none⟩) n n] w (zbc w x):=by
 have hl : l.length = n:=by
  have h:=congrArg List.length hv
  rw [zaz] at h
  rw [← h]; simpa using hn
 have:=ref2_of (some ⟨g,0,none⟩) n n l w (zcv hk hn (by rw [hv,List.take_of_length_le (by rw [zaz]; omega)]) hl) hd (by omega)
 rw [hx] at this
 exact this
end Go.Proofs.YtkiedljcgkoaiaaGreatDoor
namespace Go.Proofs.YtkiedljcgkoaiaaGreatDoor
open Go Go.RowKit
set_option maxHeartbeats 16000000
set_option maxRecDepth 100000
set_option linter.unusedVariables false
def SaysYes (w : World) (e : Ending) (w' : World) : Prop:=e = .returned (.bool true) ∧ Below w.heap.size w w'
theorem zcV (x : Nat) (A D : oA9) (n c m d : Nat) (w : World) (hA : zag w x A n c) (hD : zaj w x D m d) (hn : n ≤ 1099511627776) (hm : m ≤ 1099511627776) :
  Calls Tryz.prog 55 #[.agg #[.slice A n c],.slice D m d] w (SaysYes w):=by
 have HW:=(fun w' (hb : Below w.heap.size w w') => zcd x A n c w' (hA.below hb) hn)
 have HR:=lh9 (fun w' (hb : Below w.heap.size w w') => zhs x D m d w' (hD.below hb) hm)
 have HI:=lh9 (fun w' (hb : Below w.heap.size w w') A1 c1 (h : zas w' w'.heap.size 1 A1 n (zat .u64 (dg 18446744073709551616 x))) => ref2_is x D A1 m d n c1 w' (hD.below hb) hm h hn)
 have hlen:=hA.len
 unfold zek at HW HR
 rw [hlen] at HW HR
 have HWS:=lh9 HW
 have HRS:=lh9 HR
 clear HW HR hlen hA hD
 go_enter Tryz.func55,Tryz.ntmps55
 go_wp2_with fail
 obtain ⟨b1,b2,b5⟩:=zaL w 40 #[.slice A n c]
 refine (HWS.out _ b1).mono ?_
 rintro e w1 ⟨A1,c1,rfl,hr1,h1,⟨h2,_⟩,hb⟩
 have hB:=zac b1 hb
 have g1 : w1.cell? ⟨w.heap.size,0,none⟩ = some (.slice A n c):=zad hb (b2.cell 0)
 clear hb b1 b2 b5
 go_wp2_with fail
 refine (HI.out _ hB A1 c1 hr1).mono ?_
 rintro e w2 ⟨rfl,hb⟩
 have hB:=zac hB hb
 have g1:=zad hb g1
 clear hb hr1
 go_wp2_with fail
 refine (zbh x _ _ _ _).mono ?_
 rintro e w3 ⟨rfl,hb⟩
 have hB:=zac hB hb
 clear hb g1
 go_wp2_with fail
 refine (HRS.out _ hB).mono ?_
 rintro e w4 ⟨A2,c2,rfl,_,_,_,hb⟩
 have hB:=zac hB hb
 clear hb
 go_wp2
 go_ret
 exact ⟨rfl,hB⟩
end Go.Proofs.YtkiedljcgkoaiaaGreatDoor
namespace Go.Proofs.YtkiedljcgkoaiaaGreatDoor
open Go Go.RowKit
set_option maxHeartbeats 16000000
set_option maxRecDepth 100000
set_option linter.unusedVariables false
set_option linter.unusedSimpArgs false
theorem zcE (v : Value) (A B : oA9) (n m c d : Nat) (w : World) (h : n ≠ m) :
  Calls Tryz.prog 44 #[.slice A n c,.slice B m d,v] w (zcB w):=by
 unfold zcB
 have hd0 : ((n : Int) != (m : Int)) = true:=by rw [bne_iff_ne]; omega
 clear h
 go_enter Tryz.func44,Tryz.ntmps44
 go_wp2
 go_ret2
 exact ⟨rfl,Below.refl _ _⟩
theorem zhE (A B : oA9) (n m c d : Nat) (w : World) (h : n ≠ m) :
  Calls Tryz.prog 14 #[.slice A n c,.slice B m d] w (zcB w):=by
 have H:=lh9 (zcE (.func (.func 38) #[] #[]) A B n m c d w h)
 clear h
 go_enter Tryz.func14,Tryz.ntmps14
 go_wp2_with fail
 refine H.out.mono ?_
 rintro e w1 ⟨rfl,hb⟩
 go_wp2
 go_ret2
 exact ⟨rfl,hb⟩
theorem zlI (A B : oA9) (n m c d : Nat) (w : World) (h : n ≠ m) :
  Calls Tryz.prog 15 #[.slice A n c,.slice B m d] w (zcB w):=by
 have H:=lh9 (zcE (.func (.func 47) #[] #[]) A B n m c d w h)
 clear h
 go_enter Tryz.func15,Tryz.ntmps15
 go_wp2_with fail
 refine H.out.mono ?_
 rintro e w1 ⟨rfl,hb⟩
 go_wp2
 go_ret2
 exact ⟨rfl,hb⟩
section
variable {K K' : Nat} {xs ys : List Rat} {A B : oA9} {n c d : Nat} {w : World}
theorem vec_add (hT : zan w) (ha : zbk w A n c xs) (hb : zbk w B n d ys) (hx : zax K xs) (hy : zax K' ys) (hn : n ≤ 1073741824:=by omega) (hK : K ≤ 67108864:=by omega) (hK' : K' ≤ 67108864:=by omega) :
  Calls Tryz.prog 14 #[.slice A n c,.slice B n d] w (zcP w n (addL xs ys)):=by
 have hla:=ha.len
 have hlb:=hb.len
 have H:=lh9 (zec (fun x y => x + y) 38 #[] xs ys A B n c d w ha hb hn en_add (fun i hi w' hb' b b' A A' n n' c c' E E' k k' f f' h1 h2 => by
  rw [Array.append_empty]
  exact q_add (hT.on hb') h1 h2 (hx.at_ (by omega)) (hy.at_ (by omega)) hK hK'))
 clear ha hb hx hy hT
 go_enter Tryz.func14,Tryz.ntmps14
 go_wp2_with fail
 refine H.out.mono ?_
 rintro e w1 ⟨g,rfl,h1,h2,h3⟩
 have HG:=lh9 (And.intro h1 (And.intro h2 h3))
 clear h1 h2 h3
 go_wp2
 go_ret2
 exact ⟨g,rfl,HG.out⟩
theorem vec_sub (hT : zan w) (ha : zbk w A n c xs) (hb : zbk w B n d ys) (hx : zax K xs) (hy : zax K' ys) (hn : n ≤ 1073741824:=by omega) (hK : K ≤ 67108864:=by omega) (hK' : K' ≤ 67108864:=by omega) :
  Calls Tryz.prog 15 #[.slice A n c,.slice B n d] w (zcP w n (subL xs ys)):=by
 have hla:=ha.len
 have hlb:=hb.len
 have H:=lh9 (zec (fun x y => x - y) 47 #[] xs ys A B n c d w ha hb hn en_sub (fun i hi w' hb' b b' A A' n n' c c' E E' k k' f f' h1 h2 => by
  rw [Array.append_empty]
  exact q_sub (hT.on hb') h1 h2 (hx.at_ (by omega)) (hy.at_ (by omega)) hK hK'))
 clear ha hb hx hy hT
 go_enter Tryz.func15,Tryz.ntmps15
 go_wp2_with fail
 refine H.out.mono ?_
 rintro e w1 ⟨g,rfl,h1,h2,h3⟩
 have HG:=lh9 (And.intro h1 (And.intro h2 h3))
 clear h1 h2 h3
 go_wp2
 go_ret2
 exact ⟨g,rfl,HG.out⟩
end
end Go.Proofs.YtkiedljcgkoaiaaGreatDoor
