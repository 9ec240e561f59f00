/- What this claim leans on. -/
import Derived.Test.YtkiedljcgkoaiaaGreatDoorXVRow
import Derived.Test.YtkiedljcgkoaiaaGreatDoorXVMath
import Derived.Test.YtkiedljcgkoaiaaGreatDoorXMeet3
import Derived.Test.YtkiedljcgkoaiaaGreatDoorXBun7
import Derived.Deep.Slices
import Derived.Laws.Concat
namespace Go.Proofs.YtkiedljcgkoaiaaGreatDoor
open Go Go.RowKit
set_option maxHeartbeats 16000000
set_option maxRecDepth 100000
set_option linter.unusedVariables false
set_option linter.unusedSimpArgs false
theorem zdk (f : Rat → Rat → Rat) (F : FuncId) (cap : Array Value) (xs ys : List Rat) (A B : oA9) (n c d : Nat) (w : World) (ha : zaL w A n c xs) (hb : zaL w B n d ys) (hn : n ≤ 1073741824)
  (hEn : ∀ (args : Array Value) (w' : World),Sem.run Tryz.prog (callFunc F args) w' = .ok (.enter F args) w')
  (hF : ∀ i,i < n → ∀ w',Below w.heap.size w w' → ∀ (b b' : Bool) (A A' : oA9) (n n' c c' : Nat) (E E' : oA9) (k k' f9 f9' : Nat),zak w' (xs.getD i 0) b A n c E k f9 → zak w' (ys.getD i 0) b' A' n' c' E' k' f9' →
    Calls Tryz.prog F (#[.agg #[.bool b,.slice A n c,.slice E k f9],.agg #[.bool b',.slice A' n' c',.slice E' k' f9']] ++ cap) w' (zaA w' (f (xs.getD i 0) (ys.getD i 0)))) :
  Calls Tryz.prog 44 #[.slice A n c,.slice B n d,.func (.func F) #[] cap] w (zci w n (List.zipWith f xs ys)):=by
 have hla:=ha.len
 have hlb:=hb.len
 have hlz : (List.zipWith f xs ys).length = n:=zfx hla hlb
 unfold zci
 have HGI : ∀ i,i < n → (List.zipWith f xs ys)[i]? = some (f (xs.getD i 0) (ys.getD i 0)):=fun i hi => by
  rw [List.getElem?_zipWith,List.getD_eq_getElem?_getD,List.getD_eq_getElem?_getD,List.getElem?_eq_getElem (by omega),List.getElem?_eq_getElem (by omega)]; rfl
 obtain ⟨zs,hzs⟩ : ∃ zs,List.zipWith f xs ys = zs:=⟨_,rfl⟩
 rw [hzs] at HGI hlz ⊢
 have HG:=lh9 HGI
 have HLZ:=lh9 hlz
 have HF:=lh9 hF
 have HA:=lh9 ha
 have HB9:=lh9 hb
 obtain ⟨Z,hZ⟩:=zcO n (by omega)
 have hmk:=fun W => (hZ W).1
 have HOWN:=lh9 (fun W => (hZ W).2)
 clear hF ha hb hla hlb hlz hzs HGI hZ
 have hd0 : ((n : Int) != (n : Int)) = false:=by simp
 have i0 : (0 : Int) ≤ (n : Int):=by omega
 go_enter Tryz.func44,Tryz.ntmps44
 go_wp2_with fail
 clear hmk
 have hrow:=HOWN.out w
 have hB : Below w.heap.size w (w.alloc (.cells Z 44)):=(Below.refl _ w).alloc (Nat.le_refl _) _
 obtain ⟨gp,hgp⟩ : ∃ g,w.heap.size = g:=⟨_,rfl⟩
 have hwg : w.heap.size ≤ gp:=by omega
 have hz : gp + 1 ≤ (w.alloc (.cells Z 44)).heap.size:=by simp [hgp]
 rw [hgp] at hrow ⊢
 rw [← zcz 0 zs n] at hrow
 generalize w.alloc (.cells Z 44) = W1 at *
 clear hgp HOWN
 go_loopg [21] (n + 1) (fun g ix wr => ∃ (k : Nat),k ≤ n ∧ n < g + k ∧ ix = .int .i64 k ∧ zbF wr gp n (zcp 0 zs n k) ∧ Below w.heap.size w wr)
 case atStart => exact ⟨0,Nat.zero_le _,by omega,rfl,hrow,hB⟩
 case round =>
  clear hrow hB hz
  obtain ⟨k,hkn,hg,rfl,hrow,hB⟩:=hrel
  by_cases hlt : k < n
  ·obtain ⟨ad,b1,B1,m1,d1,E1,u1,v1,rfl,-,hc0,hc1,hc2,hx⟩:=HA.out.get hB hlt
   obtain ⟨ae,b2,B2,m2,d2,E2,u2,v2,rfl,hae,he0,he1,he2,hy⟩:=HB9.out.get hB hlt
   have hd1 : decide ((k : Int) < (n : Int)) = true:=by simp; omega
   have i1 : (0 : Int) ≤ (k : Int):=by omega
   have i2 : (k : Int) < (n : Int):=by omega
   have hgr:=hrow.lt
   obtain ⟨st,d3,d4⟩:=zaG wr 44 #[.bool b1,.slice B1 m1 d1,.slice E1 u1 v1]
   have HBX:=lh9 d3
   have HX:=lh9 (hx.below st)
   have HY:=lh9 (hy.below st)
   have HROW:=lh9 (hrow.keep st)
   have HB1:=lh9 (zaa hB st)
   have HE:=lh9 (And.intro (zab st he0) (And.intro (zab st he1) (zab st he2)))
   clear hx hy hrow hB st d3 d4 he0 he1 he2
   go_wp2_with fail
   clear hc0 hc1 hc2
   generalize wr.alloc (.cells #[.bool b1,.slice B1 m1 d1,.slice E1 u1 v1] 44) = W2 at *
   generalize wr.heap.size = gb at *
   obtain ⟨p0,p1,p2⟩:=HBX.out.c3
   obtain ⟨e0,e1,e2⟩:=HE.out
   have hBw:=(Below.refl W2.heap.size W2).drew
   have hne:=off_add (k:=k * 3) (show ae.block ≠ gp by omega)
   refine rg (csc p0 (csc p1 (csc p2 (csc e0 (csc e1 (csc e2 csn)))))) (fun hHeld => ?_)
   refine tk 0 ?_
   refine tk 1 ?_
   refine tk 2 ?_
   refine tk 3 ?_
   refine tk 4 ?_
   refine tk 5 ?_
   refine tk 6 ?_
   refine tk 7 ?_
   refine rc 8 (fun K hK => ?_)
   go_simp
   refine (HF.out k hlt _ (zaa HB1.out hBw) _ _ _ _ _ _ _ _ _ _ _ _ _ _ (HX.out.below hBw) (HY.out.below hBw)).mono ?_
   rintro e w3 ⟨b3,A3,n3,c3,E3,k3,f3,rfl,hw3,hb⟩
   have hBw:=zaa hBw hb
   refine hK.out _ _ (Cs.below hHeld hb) (fun hHeld => ?_); clear hK K hb
   refine tk 9 ?_
   have hr3:=HROW.out.keep hBw
   obtain ⟨q0,q1,q2,sc0,sf0,sc1,sf1,sc2,sf2⟩:=hr3.ready hlt (.bool b3) (.slice A3 n3 c3)
   refine rc 10 (fun K hK => ?_)
   go_simp
   have hr4:=zaP.set_ zaZ hr3 hlt hw3
   rw [zdf 0 zs n k HLZ.out hlt _ (HG.out k hlt)] at hr4
   have hB4:=zbJ (k * 3) (k * 3 + 1) (k * 3 + 2) (.bool b3) (.slice A3 n3 c3) (.slice E3 k3 f3) hwg (zaa HB1.out hBw)
   refine hK.out _ _ (Cs.far hHeld (offg3 _ _ _ _ _ _ _ _) (by refine ⟨?_,?_,?_,hne,hne,hne,trivial⟩ <;> (show gb ≠ gp; omega))) (fun hHeld => ?_); clear hK K
   refine rdn ?_
   have HR4:=lh9 hr4
   have HB4:=lh9 hB4
   clear hr4 hB4 hr3 hHeld hBw hw3 sc0 sf0 sc1 sf1 sc2 sf2 p0 p1 p2 e0 e1 e2 HBX HX HY HROW HB1 HE
   go_wp2
   go_roundg (n - k)
   case measure => omega
   case rel => exact ⟨k + 1,by omega,by omega,by go_num,HR4.out,HB4.out⟩
  ·have hk : k = n:=by omega
   subst hk
   have hd1 : decide ((k : Int) < (k : Int)) = false:=by simp
   have HR:=lh9 (zde 0 zs k HLZ.out ▸ hrow)
   have HB1:=lh9 hB
   clear hrow hB
   go_wp2
   go_ret2
   exact ⟨gp,rfl,hwg,HR.out,HB1.out⟩
def zbL (w : World) (x : Nat) (e : Ending) (w' : World) : Prop:=∃ (A : oA9) (n c : Nat),e = .returned (.agg #[.slice A n c]) ∧ zad w' x A n c ∧ Below w.heap.size w w'
def zgV (w : World) (x y : Nat) (e : Ending) (w' : World) : Prop:=∃ (A : oA9) (n c : Nat) (B : oA9) (m d : Nat),e = .returned (.tuple #[.agg #[.slice A n c],.agg #[.slice B m d]]) ∧ zad w' x A n c ∧ zad w' y B m d ∧ Below w.heap.size w w'
theorem Sz.gcd {K K' x y : Nat} (h : Sz K x) (h' : Sz K' y) : Sz (K + K') (Nat.gcd x y):=by
 rcases Nat.eq_zero_or_pos x with e | e
 ·rw [e,Nat.gcd_zero_left]; exact h'.up (by omega)
 ·exact (h.of_le (Nat.gcd_le_left y e)).up (by omega)
structure GcdC : Prop where
 of : ∀ (x y : Nat) (A D : oA9) (n m c d : Nat) (w : World),zad w x A n c → zad w y D m d → n ≤ 1073741824 → m ≤ 1073741824 → zaj w → Calls Tryz.prog 108 #[.agg #[.slice A n c],.agg #[.slice D m d]] w (zbL w (Nat.gcd x y))
 reduce : ∀ (x y : Nat) (A D : oA9) (n m c d : Nat) (w : World),zad w x A n c → zad w y D m d → n ≤ 1073741824 → m ≤ 1073741824 → zaj w → Calls Tryz.prog 74 #[.agg #[.slice A n c],.agg #[.slice D m d]] w (zgV w (x / Nat.gcd x y) (y / Nat.gcd x y))
theorem zbk {P : Program} {f : FuncId} {args : Array Value} {w : World} {z v : Int} (e : z = v) (h : Calls P f args w (zbp w z)) : Calls P f args w fun e w' => e = .returned (.int .i64 v) ∧ Below w.heap.size w w':=by
 subst e; exact h
theorem zar {P : Program} {f : FuncId} {args : Array Value} {w : World} {b t : Bool} (e : b = t) (h : Calls P f args w fun e w' => e = .returned (.bool b) ∧ Below w.heap.size w w') : Calls P f args w fun e w' => e = .returned (.bool t) ∧ Below w.heap.size w w':=by
 subst e; exact h
theorem inew_pos {T : World → Prop} (IC : IntC T) (x : Nat) (A : oA9) (n c : Nat) (w : World) (hT : T w) (h : zad w x A n c) (hn : n ≤ 268435456) : Calls Tryz.prog 112 #[.bool false,.agg #[.slice A n c]] w (zaD w (x : Int)) :=
 IC.new false x A n c w hT h hn
theorem zbl {T : World → Prop} : IntC T where
 new s x A n c w _ hA hn:=zib s x A n c w hA (by omega)
 of z w _ h1 h2:=zjd z w h1 h2
 belowI z b A n c w _ hA hn:=zgp z b A n c w hA
 abs z b A n c w _ hA hn:=(zhX z b A n c w hA (by omega)).mono fun _ _ ⟨A',n',c',he,hw,hb,_⟩ => ⟨A',n',c',he,hw,hb⟩
 sign z b A n c w _ hA hn:=zhg z b A n c w hA
 cmp x y b b' A D n m c d w _ hA hD hn hm:=zhZ x y b b' A D n m c d w hA hD (by omega) (by omega)
 add x y b b' A D n m c d w _ hA hD hn hm:=zhY x y b b' A D n m c d w hA hD (by omega) (by omega)
 mul x y b b' A D n m c d w _ hA hD hn hm:=zia x y b b' A D n m c d w hA hD (by omega) (by omega)
section
variable {P : Program} {ops : Array Oper} {Q : Exit → Act → World → Prop} {S : World → Prop} {fuel : Nat} {l : Array Bool} {a : Act} {w : World}
theorem rcb (i j : Nat) {o p : Oper} (hk : ∀ K' : Act → World → Prop,Shut (∀ (a : Act) (w : World),S w → (S w → wpAnyH P .any ops (NoPanic Q) S fuel (l.setIfInBounds i true) a w) → K' a w) → Oper.wp P o a w K' (NoPanic Q)) (hj : ∀ K' : Act → World → Prop,Shut (∀ (a : Act) (w : World),S w → (S w → wpAnyH P .any ops (NoPanic Q) S fuel (l.setIfInBounds j true) a w) → K' a w) → Oper.wp P p a w K' (NoPanic Q)) (h1 : ops[i]? = some o:=by simp only [List.getElem?_toArray,List.getElem?_cons_succ,List.getElem?_cons_zero]; rfl) (h1' : ops[j]? = some p:=by simp only [List.getElem?_toArray,List.getElem?_cons_succ,List.getElem?_cons_zero]; rfl) (h2 : Region.ready .any ops l = [i,j]:=by kernel_rfl) (h3 : Region.wanted o (yielded ops a.tmps) = true:=by rfl) (h3' : Region.wanted p (yielded ops a.tmps) = true:=by rfl) : wpAnyH P .any ops (NoPanic Q) S (fuel + 1) l a w :=
 wpAnyH_ready h2 (by simp) (AllReadyH.cons h1 (fun K' hK => by rw [if_pos h3]; exact hk K' hK) (AllReadyH.cons h1' (fun K' hK => by rw [if_pos h3']; exact hj K' hK) AllReadyH.nil))
end
end Go.Proofs.YtkiedljcgkoaiaaGreatDoor
