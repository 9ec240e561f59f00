/- What this claim leans on. -/
import Derived.Test.YtedbgdlbgohiiaaGreatDoorBBunI
namespace Go.Proofs.YtedbgdlbgohiiaaGreatDoor
open Go Go.RowKit
set_option maxHeartbeats 16000000
set_option linter.unusedVariables false
def zaF (w : World) (z : Int) (b : Bool) (A : oA9) (n c : Nat) : Prop:=b = decide (z < 0) ∧ zad w z.natAbs A n c
theorem zaF.below {w w' : World} {z : Int} {b : Bool} {A : oA9} {n c : Nat} (h : zaF w z b A n c) (hb : Below w.heap.size w w') : zaF w' z b A n c:=⟨h.1,h.2.below hb⟩
theorem zaF.words {w : World} {z : Int} {b : Bool} {A : oA9} {n c : Nat} (h : zaF w z b A n c) : zad w z.natAbs A n c:=h.2
def zaP (w : World) (z : Int) (e : Ending) (w' : World) : Prop:=∃ (b : Bool) (A : oA9) (n c : Nat),e = .returned (.agg #[.bool b,.slice A n c]) ∧ zaF w' z b A n c ∧ Below w.heap.size w w'
def zdF (w : World) (x : Nat) (e : Ending) (w' : World) : Prop:=∃ (A : oA9) (n c : Nat),e = .returned (.agg #[.slice A n c]) ∧ zad w' x A n c ∧ Below w.heap.size w w'
structure IntC (T : World → Prop) : Prop where
 new : ∀ (s : Bool) (x : Nat) (A : oA9) (n c : Nat) (w : World),T w → zad w x A n c → n ≤ 268435456 → Calls Tryz.prog 130 #[.bool s,.agg #[.slice A n c]] w (zaP w (if s then -(x : Int) else (x : Int)))
 of : ∀ (z : Int) (w : World),T w → -9223372036854775808 ≤ z → z ≤ 9223372036854775807 → Calls Tryz.prog 72 #[.int .i64 z] w (zaP w z)
 belowI : ∀ (z : Int) (b : Bool) (A : oA9) (n c : Nat) (w : World),T w → zaF w z b A n c → n ≤ 268435456 → Calls Tryz.prog 124 #[.agg #[.bool b,.slice A n c]] w fun e w' => e = .returned (.bool (decide (z < 0))) ∧ Below w.heap.size w w'
 abs : ∀ (z : Int) (b : Bool) (A : oA9) (n c : Nat) (w : World),T w → zaF w z b A n c → n ≤ 268435456 → Calls Tryz.prog 118 #[.agg #[.bool b,.slice A n c]] w (zdF w z.natAbs)
 sign : ∀ (z : Int) (b : Bool) (A : oA9) (n c : Nat) (w : World),T w → zaF w z b A n c → n ≤ 268435456 → Calls Tryz.prog 112 #[.agg #[.bool b,.slice A n c]] w (zbA w (zgC z))
 cmp : ∀ (x y : Int) (b b' : Bool) (A D : oA9) (n m c d : Nat) (w : World),T w → zaF w x b A n c → zaF w y b' D m d → n ≤ 268435456 → m ≤ 268435456 → Calls Tryz.prog 62 #[.agg #[.bool b,.slice A n c],.agg #[.bool b',.slice D m d]] w (zbA w (zfW x y))
 add : ∀ (x y : Int) (b b' : Bool) (A D : oA9) (n m c d : Nat) (w : World),T w → zaF w x b A n c → zaF w y b' D m d → n ≤ 268435456 → m ≤ 268435456 → Calls Tryz.prog 136 #[.agg #[.bool b,.slice A n c],.agg #[.bool b',.slice D m d]] w (zaP w (x + y))
 mul : ∀ (x y : Int) (b b' : Bool) (A D : oA9) (n m c d : Nat) (w : World),T w → zaF w x b A n c → zaF w y b' D m d → n ≤ 268435456 → m ≤ 268435456 → Calls Tryz.prog 156 #[.agg #[.bool b,.slice A n c],.agg #[.bool b',.slice D m d]] w (zaP w (x * y))
set_option maxRecDepth 100000
set_option linter.unusedSimpArgs false
theorem ziG {w : World} {A : oA9} {n c x g : Nat} {t : TypeId} {cs : Array Value} (h : zad w x A n c) (hk : Blk w g t cs) (hcs : ∀ v ∈ cs.toList,∀ z,v ≠ .int .u64 z) : 0 < n → ∀ ad,A = some ad → ad.block ≠ g:=fun hn ad e hg => by
 obtain ⟨ad',e',_,hc⟩:=h.1.2 hn
 rw [e] at e'
 injection e' with e'
 subst e'
 have hl:=h.len
 have h0:=hc 0 (.int .u64 ((dg 18446744073709551616 x).getD 0 0 : Nat)) (zcj .u64 _ 0 (by omega))
 have e0 : ad.add 0 = ad:=by unfold Addr.add; rw [if_pos rfl]
 rw [e0] at h0
 obtain ⟨bk,off,pr⟩:=ad
 simp only at hg
 subst hg
 unfold Blk at hk
 cases pr with
 | none =>
   rw [show w.cell? ⟨bk,off,none⟩ = cs[off]? from cell_of_row w bk off _ t (0,0) hk,← Array.getElem?_toList] at h0
   exact hcs _ (List.mem_of_getElem? h0) _ rfl
 | some q => simp [World.cell?,hk] at h0
theorem zaY {w : World} {z : Int} {b p : Bool} {A q : oA9} {n c r s g : Nat} {t : TypeId} (h : zaF w z b A n c) (hk : Blk w g t #[.bool p,.slice q r s]) (p' : Bool) (q' : oA9) (r' s' : Nat) :
  zaF ((w.setCell ⟨g,0,none⟩ (.bool p')).setCell ⟨g,1,none⟩ (.slice q' r' s')) z b A n c:=by
 have h1:=zdX (p:=⟨g,0,none⟩) h.2 (ziG h.2 hk (by intro v hv; simp at hv; rcases hv with rfl | rfl <;> intro z e <;> cases e)) (.bool p')
 exact ⟨h.1,zdX (p:=⟨g,1,none⟩) h1 (ziG h1 (hk.set_ 0 (.bool p')) (by intro v hv; simp at hv; rcases hv with rfl | rfl <;> intro z e <;> cases e)) _⟩
def due (l : Array Bool) : Nat:=l.toList.countP fun b => !b
section
variable {P : Program} {ops : Array Oper} {Q : Exit → Act → World → Prop} {md : Region.Mode} {S : World → Prop}
theorem zaf {i : Nat} {l : Array Bool} (hi : i ∈ Region.ready md ops l) : l.getD i true = false:=(mem_ready.1 hi).1
theorem zbH {i : Nat} {l : Array Bool} (hi : i ∈ Region.ready md ops l) : i < ops.size:=by
 obtain ⟨_,o,ho,_⟩:=mem_ready.1 hi
 exact (Array.getElem?_eq_some_iff.1 ho).1
theorem znA {i k : Nat} {l : Array Bool} {o : Oper} {e : Edge} (hi : i ∈ Region.ready md ops l) (ho : ops[i]? = some o) (he : o.after[k]? = some e) (hb : Region.binds md e = true) : l.getD e.on false = true:=by
 obtain ⟨_,o',ho',h⟩:=mem_ready.1 hi
 rw [ho] at ho'
 cases ho'
 exact h e (Array.mem_of_getElem? he) hb
theorem zkN {i : Nat} {l : Array Bool} {o : Oper} (h : Region.ready md ops l = []) (ho : ops[i]? = some o) (hr : (o.after.toList.all fun e => !Region.binds md e || l.getD e.on false) = true) : l.getD i true = true:=by
 cases hl : l.getD i true
 ·have : i ∈ Region.ready md ops l:=mem_ready.2 ⟨hl,o,ho,fun e he hb => by
   have:=List.all_eq_true.1 hr e (by simpa using he)
   rw [hb] at this
   simpa using this⟩
  rw [h] at this
  cases this
 ·rfl
theorem zme {i : Nat} {l : Array Bool} (h : l.getD i true = false) : due (l.setIfInBounds i true) + 1 = due l:=by
 obtain ⟨l⟩:=l
 unfold due
 have hi : i < l.length:=by
  rcases Nat.lt_or_ge i l.length with h' | h'
  ·exact h'
  ·simp [List.getElem?_eq_none h'] at h
 have hv : l[i] = false:=by simpa [hi] using h
 simp only [List.setIfInBounds_toArray]
 clear h
 induction l generalizing i with
 | nil => simp at hi
 | cons b t ih =>
   cases i with
   | zero =>
     have hb : b = false:=hv
     subst hb
     simp
   | succ j =>
     have:=ih (i:=j) (by simpa using hi) (by simpa using hv)
     simp only [List.set_cons_succ,List.countP_cons]
     omega
theorem zmU {l : Array Bool} (h : due l = 0) : Region.ready md ops l = []:=by
 refine List.eq_nil_iff_forall_not_mem.2 fun i hi => ?_
 have:=zme (zaf hi)
 omega
theorem zjw {J : Act → Array Bool → Act → World → Prop} {L : Array Bool} {a0 : Act} (hfull : ∀ l a w,J a0 l a w → Region.ready md ops l = [] → l = L)
  (hstep : ∀ l a w i,J a0 l a w → l ≠ L → i ∈ Region.ready md ops l → wpOp P ops Q i (fun a' w' => S w' ∧ J a0 (l.setIfInBounds i true) a' w') a w)
  (hgoal : ∀ a w,J a0 L a w → wpAnyH P md ops Q S (due L) L a w) : ∀ (fuel : Nat) (l : Array Bool) (a : Act) (w : World),due l = fuel → J a0 l a w → wpAnyH P md ops Q S fuel l a w:=by
 intro fuel
 induction fuel with
 | zero =>
   intro l a w hd hJ
   have e:=hfull l a w hJ (zmU hd)
   subst e
   have:=hgoal a w hJ
   rwa [hd] at this
 | succ n ih =>
   intro l a w hd hJ
   by_cases hl : l = L
   ·subst hl
    have:=hgoal a w hJ
    rwa [hd] at this
   ·refine ⟨fun h => absurd (hfull l a w hJ h) hl,fun i hi => ?_⟩
    exact wpOp_mono (fun a' w' ⟨h1,h2⟩ => ⟨h1,ih _ a' w' (by have:=zme (zaf hi); omega) h2⟩) (hstep l a w i hJ hl hi)
end
def Gd (f : Bool) (p : Prop) : Prop:=f = true → p
theorem Gd.no {p : Prop} : Gd false p:=fun h => by cases h
theorem Gd.yes {p : Prop} (h : p) : Gd true p:=fun _ => h
theorem Gd.get {p : Prop} (h : Gd true p) : p:=h rfl
theorem Gd.mono {f : Bool} {p q : Prop} (h : Gd f p) (k : p → q) : Gd f q:=fun e => k (h e)
def Made (b : Nat) (w : World) (g : Nat) (t : TypeId) (cs : Array Value) (v : Value) : Prop:=v = .pointer (some ⟨g,0,none⟩) ∧ b ≤ g ∧ w.heap[g]? = some (.cells cs t (0,0))
theorem Made.lt {b g : Nat} {w : World} {t : TypeId} {cs : Array Value} {v : Value} (h : Made b w g t cs v) : g < w.heap.size:=(Array.getElem?_eq_some_iff.1 h.2.2).1
theorem Made.keep {b g : Nat} {w w' : World} {t : TypeId} {cs : Array Value} {v : Value} (h : Made b w g t cs v) (hb : Below w.heap.size w w') : Made b w' g t cs v:=⟨h.1,h.2.1,(hb.block g h.lt).trans h.2.2⟩
theorem Made.new (b : Nat) (w : World) (t : TypeId) (cs : Array Value) (hb : b ≤ w.heap.size) : Made b (w.alloc (.cells cs t)) w.heap.size t cs (.pointer (some ⟨w.heap.size,0,none⟩)):=⟨rfl,hb,heap_alloc_new w _⟩
theorem SzI.add {K K' : Nat} {x y : Int} (h : Sz K x.natAbs) (h' : Sz K' y.natAbs) : Sz (K + K' + 1) (x + y).natAbs :=
 Sz.of_le (Sz.add (h.up (by omega : K ≤ K + K')) (h'.up (by omega : K' ≤ K + K'))) (Int.natAbs_add_le x y)
theorem SzI.mul {K K' : Nat} {x y : Int} (h : Sz K x.natAbs) (h' : Sz K' y.natAbs) : Sz (K + K') (x * y).natAbs:=by
 rw [Int.natAbs_mul]; exact Sz.mul h h'
theorem SzI.neg {K : Nat} {x : Int} (h : Sz K x.natAbs) : Sz K (-x).natAbs:=by rw [Int.natAbs_neg]; exact h
section
variable {P : Program} {f : FuncId} {args : Array Value} {w : World}
theorem icmp_eq {x y : Int} (h : x = y) (hc : Calls P f args w (zbA w (zfW x y))) : Calls P f args w (zbA w 0):=by rw [(zgF x y).2 h] at hc; exact hc
end
theorem zfH (x y : Nat) (A D : oA9) (n m c d : Nat) (w : World) (hA : zad w x A n c) (hD : zad w y D m d) (hn : n ≤ 274877906944) (hm : m ≤ 274877906944) :
  Calls Tryz.prog 151 #[.agg #[.slice A n c],.agg #[.slice D m d]] w (zdG w (x / y) (decide (y ≠ 0))):=by
 by_cases hy : y = 0
 ·have e : x / y = 0:=by rw [hy,Nat.div_zero]
  have e2 : decide (y ≠ 0) = false:=by simp [hy]
  rw [e,e2]
  exact zep 0 0 false A D n m c d w (fun w' hb => zeq x y A D n m c d w' (hA.below hb) (hD.below hb) hy)
 ·have e2 : decide (y ≠ 0) = true:=by simp [hy]
  rw [e2]
  exact zep (x / y) (x % y) true A D n m c d w (fun w' hb => zdm x y A D n m c d w' (hA.below hb) (hD.below hb) (by omega) (by omega) hy)
theorem zld (x y : Nat) (A D : oA9) (n m c d : Nat) (w : World) (hA : zad w x A n c) (hD : zad w y D m d) (hn : n ≤ 1073741824) (hm : m ≤ 1073741824) (hT : zaj w) :
  Calls Tryz.prog 128 #[.agg #[.slice A n c],.agg #[.slice D m d]] w (ziK w (x / Nat.gcd x y) (y / Nat.gcd x y)):=by
 have HO:=lh9 (fun w' (hb : Below w.heap.size w w') => gcd_of x y A D n m c d w' (hA.below hb) (hD.below hb) hn hm (hT.on hb))
 obtain ⟨g,hg⟩ : ∃ g,Nat.gcd x y = g:=⟨_,rfl⟩
 have lg : (dg 18446744073709551616 g).length ≤ 2147483648:=by
  rw [← hg]
  rcases Nat.eq_zero_or_pos x with e | e
  ·rw [e,Nat.gcd_zero_left,hD.len]; omega
  ·exact Nat.le_trans (zbm (by decide) (Nat.gcd_le_left y e)) (by rw [hA.len]; omega)
 rw [hg] at HO ⊢
 have HDA:=lh9 (fun w' (hb : Below w.heap.size w w') A1 n1 c1 (h1 : zad w' g A1 n1 c1) => zfH x g A A1 n n1 c c1 w' (hA.below hb) h1 (by omega) (by rw [← h1.len]; omega))
 have HDB:=lh9 (fun w' (hb : Below w.heap.size w w') A1 n1 c1 (h1 : zad w' g A1 n1 c1) => zfH y g D A1 m n1 d c1 w' (hD.below hb) h1 (by omega) (by rw [← h1.len]; omega))
 obtain ⟨X,hX⟩ : ∃ g',x / g = g':=⟨_,rfl⟩
 obtain ⟨Y,hY⟩ : ∃ g',y / g = g':=⟨_,rfl⟩
 obtain ⟨bb,hbb⟩ : ∃ g' : Bool,decide (g ≠ 0) = g':=⟨_,rfl⟩
 rw [hX,hbb] at HDA
 rw [hY,hbb] at HDB
 rw [hX,hY]
 clear hA hD hT hg lg hX hY hbb
 go_enter Tryz.func128,Tryz.ntmps128
 go_wp2_with fail
 obtain ⟨b1,b2,b3,b4,b5⟩:=zbh w 44 44 44 #[.slice A n c] #[.slice D m d] #[.slice none 0 0]
 obtain ⟨W3,hW3⟩ : ∃ W,((w.alloc (.cells #[.slice A n c] 44)).alloc (.cells #[.slice D m d] 44)).alloc (.cells #[.slice none 0 0] 44) = W:=⟨_,rfl⟩
 rw [hW3] at b1 b2 b3 b4 b5 ⊢
 have hs3 : W3.heap.size = w.heap.size + 1 + 1 + 1:=by rw [← hW3]; simp
 have kA:=b2.one.alloc (.cells #[.slice none 0 0] 44)
 have kD:=b3.one.alloc (.cells #[.slice none 0 0] 44)
 have kx:=b4.one.alloc (.cells #[.slice none 0 0] 44)
 have ky:=zby.new W3 44 (.slice none 0 0)
 rw [hs3] at ky
 have hB:=b1.alloc b1.size (.cells #[.slice none 0 0] 44)
 clear b1 b2 b3 b4 b5 hW3 hs3
 generalize W3.alloc (.cells #[.slice none 0 0] 44) = W4 at *
 obtain ⟨p,hp⟩ : ∃ p,w.heap.size = p:=⟨_,rfl⟩
 have hpw : w.heap.size ≤ p:=by omega
 refine (HO.out _ hB).mono ?_
 rw [hp] at kA kD kx ky ⊢
 clear hp
 rintro e w1 ⟨A1,n1,c1,rfl,hg1,hb⟩
 obtain ⟨d1,d2,d3⟩:=zaC w1 44 #[.slice A1 n1 c1]
 have hbb:=zaa hb d1
 have kA:=kA.keep hbb
 have kD:=kD.keep hbb
 have kx:=kx.keep hbb
 have ky:=ky.keep hbb
 have hB:=zaa hB hbb
 have hg1:=hg1.below d1
 have kg:=d2.one
 clear d1 d2 d3 hb hbb
 have e1:=kA.cell
 have e2:=kg.cell
 go_wp2_with fail
 generalize hW5 : w1.alloc (.cells #[.slice A1 n1 c1] 44) = W5 at *
 generalize w1.heap.size = z1 at *
 clear hW5
 refine (HDA.out _ hB A1 n1 c1 hg1).mono ?_
 clear e1 e2
 rintro e w2 ⟨A2,n2,c2,rfl,hx2,hb⟩
 have hz2:=(ky.keep hb).lt
 obtain ⟨d1,d2,d3⟩:=zaC w2 44 #[.slice A2 n2 c2]
 have hbb:=zaa hb d1
 have kD:=kD.keep hbb
 have kx:=kx.keep hbb
 have ky:=ky.keep hbb
 have kg:=kg.keep hbb
 have hB:=zaa hB hbb
 have hg1:=hg1.below hbb
 have hx2:=hx2.below d1
 have k7:=d2.one
 clear d1 d2 d3 hb hbb kA
 have e1:=kD.cell
 have e2:=kg.cell
 go_wp2_with fail
 generalize hW6 : w2.alloc (.cells #[.slice A2 n2 c2] 44) = W6 at *
 generalize w2.heap.size = z2 at *
 clear hW6
 refine (HDB.out _ hB A1 n1 c1 hg1).mono ?_
 clear e1 e2
 rintro e w3 ⟨A3,n3,c3,rfl,hy3,hb⟩
 have hz3:=(ky.keep hb).lt
 obtain ⟨d1,d2,d3⟩:=zaC w3 44 #[.slice A3 n3 c3]
 have hbb:=zaa hb d1
 have kx:=kx.keep hbb
 have ky:=ky.keep hbb
 have k7:=k7.keep hbb
 have hB:=zaa hB hbb
 have hx2:=hx2.below hbb
 have hy3:=hy3.below d1
 have k9:=d2.one
 clear d1 d2 d3 hb hbb kD kg hg1
 go_wp2_with fail
 generalize hW7 : w3.alloc (.cells #[.slice A3 n3 c3] 44) = W7 at *
 generalize w3.heap.size = z3 at *
 clear hW7
 have q7 : W7.cell? ⟨z2,0,none⟩ = some (.slice A2 n2 c2):=k7.cell
 have q9 : W7.cell? ⟨z3,0,none⟩ = some (.slice A3 n3 c3):=k9.cell
 have qx : W7.cell? ⟨p + 1 + 1,0,none⟩ = some (.slice none 0 0):=kx.cell
 have qy : W7.cell? ⟨p + 1 + 1 + 1,0,none⟩ = some (.slice none 0 0):=ky.cell
 have fx : W7.frozen? ⟨p + 1 + 1,0,none⟩ = false:=kx.frozen
 have fy : W7.frozen? ⟨p + 1 + 1 + 1,0,none⟩ = false:=ky.frozen
 have q9':=zag (q:=⟨p + 1 + 1,0,none⟩) (.slice A2 n2 c2) (by show z3 ≠ p + 1 + 1; omega) q9
 have kx1:=kx.set_ (.slice A2 n2 c2)
 have ky1:=ky.far (p:=⟨p + 1 + 1,0,none⟩) (by show p + 1 + 1 + 1 ≠ p + 1 + 1; omega) (.slice A2 n2 c2)
 have qy':=ky1.cell
 have fy':=ky1.frozen
 have hx4:=zam hx2 kx (.slice A2 n2 c2)
 have hy4:=zam hy3 kx (.slice A2 n2 c2)
 have rx:=(kx1.far (p:=⟨p + 1 + 1 + 1,0,none⟩) (by show p + 1 + 1 ≠ p + 1 + 1 + 1; omega) (.slice A3 n3 c3)).cell
 have ry:=(ky1.set_ (.slice A3 n3 c3)).cell
 have HE : Hid (ziK w X Y (.returned (.tuple #[.agg #[.slice A2 n2 c2],.agg #[.slice A3 n3 c3]])) ((W7.setCell ⟨p + 1 + 1,0,none⟩ (.slice A2 n2 c2)).setCell ⟨p + 1 + 1 + 1,0,none⟩ (.slice A3 n3 c3)).drew) :=
  ⟨_,_,_,_,_,_,rfl,zam hx4 ky1 _,zam hy4 ky1 _,(hB.setCell (p:=⟨p + 1 + 1,0,none⟩) (by show w.heap.size ≤ p + 1 + 1; omega) _).setCell (p:=⟨p + 1 + 1 + 1,0,none⟩) (by show w.heap.size ≤ p + 1 + 1 + 1; omega) _ |>.drew⟩
 clear k7 k9 kx ky hB hx2 hy3 kx1 ky1 hx4 hy4
 go_region
 all_goals
  go_wp2
  refine bodyPost_ret (v:=.tuple #[.agg #[.slice A2 n2 c2],.agg #[.slice A3 n3 c3]]) (by simp [results,Tryz.results128,go_sem,rx,ry]) rfl ?_
  exact HE.out
theorem Sz.of_words {w : World} {x K n c : Nat} {A : oA9} (h : zad w x A n c) (hn : n ≤ K) : Sz K x:=by
 have h1:=zbi (b:=18446744073709551616) (by decide) x
 rw [h.len] at h1
 exact Nat.lt_of_lt_of_le h1 (Nat.pow_le_pow_right (by decide) hn)
theorem zbU : GcdC where
 of x y A D n m c d w hA hD hn hm hT:=gcd_of x y A D n m c d w hA hD hn hm hT
 reduce x y A D n m c d w hA hD hn hm hT:=zld x y A D n m c d w hA hD hn hm hT
end Go.Proofs.YtedbgdlbgohiiaaGreatDoor
