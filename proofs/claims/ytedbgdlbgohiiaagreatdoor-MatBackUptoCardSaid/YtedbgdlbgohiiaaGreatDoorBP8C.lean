/- What this claim leans on. -/
import Derived.Test.YtedbgdlbgohiiaaGreatDoorBBun7
import Derived.Laws.Concat
namespace Go.Proofs.YtedbgdlbgohiiaaGreatDoor
open Go Go.RowKit
set_option maxHeartbeats 16000000
set_option linter.unusedVariables false
def DenIn (w : World) (q : Nat) (A : oA9) (n c : Nat) : Prop:=∃ x,(q = (if x = 0 then 1 else x) ∧ x ≠ 1) ∧ zad w x A n c
theorem DenIn.below {w w' : World} {q : Nat} {A : oA9} {n c : Nat} (h : DenIn w q A n c) (hb : Below w.heap.size w w') : DenIn w' q A n c:=by
 obtain ⟨x,e,h1⟩:=h
 exact ⟨x,e,h1.below hb⟩
def zai (w : World) (r : Rat) (b : Bool) (A : oA9) (n c : Nat) (E : oA9) (k f : Nat) : Prop:=zaF w r.num b A n c ∧ DenIn w r.den E k f
theorem zai.below {w w' : World} {r : Rat} {b : Bool} {A : oA9} {n c : Nat} {E : oA9} {k f : Nat} (h : zai w r b A n c E k f) (hb : Below w.heap.size w w') : zai w' r b A n c E k f:=⟨h.1.below hb,h.2.below hb⟩
theorem zai.to {w : World} {r s : Rat} {b : Bool} {A : oA9} {n c : Nat} {E : oA9} {k f : Nat} (e : r = s) (h : zai w r b A n c E k f) : zai w s b A n c E k f:=e ▸ h
def zaI (w : World) (r : Rat) (e : Ending) (w' : World) : Prop:=∃ (b : Bool) (A : oA9) (n c : Nat) (E : oA9) (k f : Nat),e = .returned (.agg #[.bool b,.slice A n c,.slice E k f]) ∧ zai w' r b A n c E k f ∧ Below w.heap.size w w'
def zcy (w : World) (r : Rat) (t : Bool) (e : Ending) (w' : World) : Prop:=∃ (b : Bool) (A : oA9) (n c : Nat) (E : oA9) (k f : Nat),e = .returned (.tuple #[.agg #[.bool b,.slice A n c,.slice E k f],.bool t]) ∧ zai w' r b A n c E k f ∧ Below w.heap.size w w'
def zaN (n k : Nat) : Prop:=n ≤ 67108864 ∧ k ≤ 67108864
structure RatG0 (T : World → Prop) : Prop where
 mul : ∀ (r s : Rat) (b b' : Bool) (A A' : oA9) (n n' c c' : Nat) (E E' : oA9) (k k' f f' : Nat) (w : World),T w → zai w r b A n c E k f → zai w s b' A' n' c' E' k' f' → zaN n k → zaN n' k' → Calls Tryz.prog 139 #[.agg #[.bool b,.slice A n c,.slice E k f],.agg #[.bool b',.slice A' n' c',.slice E' k' f']] w (zaI w (r * s))
structure RatG1 (T : World → Prop) : Prop where
structure RatG2 (T : World → Prop) : Prop where
 int : ∀ (z : Int) (w : World),T w → -9223372036854775808 ≤ z → z ≤ 9223372036854775807 → Calls Tryz.prog 27 #[.int .i64 z] w (zaI w (z : Rat))
structure RatC (T : World → Prop) (M : Nat → Prop) : Prop where
 g0 : M 0 → RatG0 T
 g1 : M 1 → RatG1 T
 g2 : M 2 → RatG2 T
 new : ∀ (p q : Int) (b b' : Bool) (A D : oA9) (n m c d : Nat) (w : World),T w → zaF w p b A n c → zaF w q b' D m d → n ≤ 67108864 → m ≤ 67108864 → q ≠ 0 → Calls Tryz.prog 103 #[.agg #[.bool b,.slice A n c],.agg #[.bool b',.slice D m d]] w (zcy w (Rat.divInt p q) true)
 newNo : ∀ (p q : Int) (b b' : Bool) (A D : oA9) (n m c d : Nat) (w : World),T w → zaF w p b A n c → zaF w q b' D m d → n ≤ 67108864 → m ≤ 67108864 → q = 0 → Calls Tryz.prog 103 #[.agg #[.bool b,.slice A n c],.agg #[.bool b',.slice D m d]] w (zcy w 0 false)
 of : ∀ (p q : Int) (w : World),T w → -9223372036854775808 ≤ p → p ≤ 9223372036854775807 → -9223372036854775808 ≤ q → q ≤ 9223372036854775807 → q ≠ 0 → Calls Tryz.prog 61 #[.int .i64 p,.int .i64 q] w (zcy w (Rat.divInt p q) true)
 ofNo : ∀ (p q : Int) (w : World),T w → -9223372036854775808 ≤ p → p ≤ 9223372036854775807 → q = 0 → Calls Tryz.prog 61 #[.int .i64 p,.int .i64 q] w (zcy w 0 false)
 num : ∀ (r : Rat) (b : Bool) (A : oA9) (n c : Nat) (E : oA9) (k f : Nat) (w : World),T w → zai w r b A n c E k f → zaN n k → Calls Tryz.prog 63 #[.agg #[.bool b,.slice A n c,.slice E k f]] w (zaP w r.num)
 den : ∀ (r : Rat) (b : Bool) (A : oA9) (n c : Nat) (E : oA9) (k f : Nat) (w : World),T w → zai w r b A n c E k f → zaN n k → Calls Tryz.prog 65 #[.agg #[.bool b,.slice A n c,.slice E k f]] w (zdF w r.den)
 sign : ∀ (r : Rat) (b : Bool) (A : oA9) (n c : Nat) (E : oA9) (k f : Nat) (w : World),T w → zai w r b A n c E k f → zaN n k → Calls Tryz.prog 71 #[.agg #[.bool b,.slice A n c,.slice E k f]] w (zbA w (sgnQ r))
 zero : ∀ (r : Rat) (b : Bool) (A : oA9) (n c : Nat) (E : oA9) (k f : Nat) (w : World),T w → zai w r b A n c E k f → zaN n k → Calls Tryz.prog 26 #[.agg #[.bool b,.slice A n c,.slice E k f]] w fun e w' => e = .returned (.bool (decide (r = 0))) ∧ Below w.heap.size w w'
 isInt : ∀ (r : Rat) (b : Bool) (A : oA9) (n c : Nat) (E : oA9) (k f : Nat) (w : World),T w → zai w r b A n c E k f → zaN n k → Calls Tryz.prog 101 #[.agg #[.bool b,.slice A n c,.slice E k f]] w fun e w' => e = .returned (.bool (decide (r.den = 1))) ∧ Below w.heap.size w w'
 bits : ∀ (r : Rat) (b : Bool) (A : oA9) (n c : Nat) (E : oA9) (k f : Nat) (w : World),T w → zai w r b A n c E k f → zaN n k → Calls Tryz.prog 84 #[.agg #[.bool b,.slice A n c,.slice E k f]] w (zbA w ((bitLen r.num.natAbs + bitLen r.den : Nat) : Int))
 add : ∀ (r s : Rat) (b b' : Bool) (A A' : oA9) (n n' c c' : Nat) (E E' : oA9) (k k' f f' : Nat) (w : World),T w → zai w r b A n c E k f → zai w s b' A' n' c' E' k' f' → zaN n k → zaN n' k' → Calls Tryz.prog 111 #[.agg #[.bool b,.slice A n c,.slice E k f],.agg #[.bool b',.slice A' n' c',.slice E' k' f']] w (zaI w (r + s))
 cmp : ∀ (r s : Rat) (b b' : Bool) (A A' : oA9) (n n' c c' : Nat) (E E' : oA9) (k k' f f' : Nat) (w : World),T w → zai w r b A n c E k f → zai w s b' A' n' c' E' k' f' → zaN n k → zaN n' k' → Calls Tryz.prog 122 #[.agg #[.bool b,.slice A n c,.slice E k f],.agg #[.bool b',.slice A' n' c',.slice E' k' f']] w (zbA w (zeU r s))
 same : ∀ (r s : Rat) (b b' : Bool) (A A' : oA9) (n n' c c' : Nat) (E E' : oA9) (k k' f f' : Nat) (w : World),T w → zai w r b A n c E k f → zai w s b' A' n' c' E' k' f' → zaN n k → zaN n' k' → Calls Tryz.prog 44 #[.agg #[.bool b,.slice A n c,.slice E k f],.agg #[.bool b',.slice A' n' c',.slice E' k' f']] w fun e w' => e = .returned (.bool (decide (r = s))) ∧ Below w.heap.size w w'
def zcK (g : Nat) (w w' : World) : Prop:=w'.heap.size = w.heap.size ∧ ∀ p : Addr,p.block ≠ g → w'.cell? p = w.cell? p
theorem zcK.refl (g : Nat) (w : World) : zcK g w w:=⟨rfl,fun _ _ => rfl⟩
theorem zcK.set_ {g : Nat} {w w' : World} (h : zcK g w w') (j : Nat) (v : Value) : zcK g w (w'.setCell ⟨g,j,none⟩ v) :=
 ⟨by rw [← h.1]; simp,fun p hp => (World.cell?_setCell_other w' ⟨g,j,none⟩ p v (fun e => hp (by first | rw [e] | rw [← e]))).trans (h.2 p hp)⟩
theorem zbz (w : World) (g : Nat) (v0 : Value) : zcK g w (w.setCell ⟨g,0,none⟩ v0):=(zcK.refl g w).set_ 0 v0
theorem zdf (w : World) (g : Nat) (v0 v1 : Value) : zcK g w ((w.setCell ⟨g,0,none⟩ v0).setCell ⟨g,1,none⟩ v1):=(zbz w g v0).set_ 1 v1
theorem off3 (w : World) (g : Nat) (v0 v1 v2 : Value) : zcK g w (((w.setCell ⟨g,0,none⟩ v0).setCell ⟨g,1,none⟩ v1).setCell ⟨g,2,none⟩ v2):=(zdf w g v0 v1).set_ 2 v2
def NoU (cs : Array Value) : Prop:=∀ v ∈ cs.toList,∀ k z,v ≠ .int k z
theorem NoU.s1 (q : oA9) (r s : Nat) : NoU #[.slice q r s]:=by intro v hv k z e; simp at hv; subst hv; cases e
theorem NoU.s2 (p : Bool) (q : oA9) (r s : Nat) : NoU #[.bool p,.slice q r s]:=by intro v hv k z e; simp at hv; rcases hv with rfl | rfl <;> cases e
theorem NoU.s3 (p : Bool) (q : oA9) (r s : Nat) (q2 : oA9) (r2 s2 : Nat) : NoU #[.bool p,.slice q r s,.slice q2 r2 s2]:=by intro v hv k z e; simp at hv; rcases hv with rfl | rfl | rfl <;> cases e
theorem zbR : NoU #[.slice none 0 0]:=NoU.s1 _ _ _
theorem nou2 : NoU #[.bool false,.slice none 0 0]:=NoU.s2 _ _ _ _
theorem ziz {w : World} {A : oA9} {n g : Nat} {k : IntKind} {l : List Nat} {t : TypeId} {cs : Array Value} (h : zap w w.heap.size 1 A n (zaw k l)) (hk : Blk w g t cs) (hcs : NoU cs) : 0 < n → ∀ ad,A = some ad → ad.block ≠ g:=fun hn ad e hg => by
 have hl:=h.len_
 obtain ⟨ad',e',_,hc⟩:=h.2 hn
 rw [e] at e'
 injection e' with e'
 subst e'
 have h0:=hc 0 (.int k (l.getD 0 0 : Nat)) (zcj k _ 0 (by omega))
 have e0 : ad.add 0 = ad:=by unfold Addr.add; rw [if_pos rfl]
 rw [e0] at h0
 obtain ⟨bk,off,pr⟩:=ad
 simp only at hg
 subst hg
 unfold Blk at hk
 cases pr with
 | none =>
   rw [show w.cell? ⟨bk,off,none⟩ = cs[off]? from cell_of_row w bk off _ t (0,0) hk,← Array.getElem?_toList] at h0
   exact hcs _ (List.mem_of_getElem? h0) _ _ rfl
 | some q => simp [World.cell?,hk] at h0
theorem znz {w w' : World} {A : oA9} {n g : Nat} {k : IntKind} {l : List Nat} {t : TypeId} {cs : Array Value} (h : zap w w.heap.size 1 A n (zaw k l)) (hk : Blk w g t cs) (hcs : NoU cs) (ho : zcK g w w') : zap w' w'.heap.size 1 A n (zaw k l):=by
 have hne:=ziz h hk hcs
 refine ⟨h.1,fun hn => ?_⟩
 obtain ⟨ad,e,hb,hc⟩:=h.2 hn
 refine ⟨ad,e,by rw [ho.1]; exact hb,fun j v hv => ?_⟩
 rw [ho.2 (ad.add j) (by rw [zao]; exact hne hn ad e)]
 exact hc j v hv
theorem zaq {w w' : World} {x : Nat} {A : oA9} {n c g : Nat} {t : TypeId} {cs : Array Value} (h : zad w x A n c) (hk : Blk w g t cs) (hcs : NoU cs) (ho : zcK g w w') : zad w' x A n c:=⟨znz h.1 hk hcs ho,h.2⟩
theorem zfA {w w' : World} {z : Int} {b : Bool} {A : oA9} {n c g : Nat} {t : TypeId} {cs : Array Value} (h : zaF w z b A n c) (hk : Blk w g t cs) (hcs : NoU cs) (ho : zcK g w w') : zaF w' z b A n c:=⟨h.1,zaq h.2 hk hcs ho⟩
theorem zhc {w w' : World} {r : Rat} {b : Bool} {A : oA9} {n c : Nat} {E : oA9} {k f : Nat} {g : Nat} {t : TypeId} {cs : Array Value} (h : zai w r b A n c E k f) (hk : Blk w g t cs) (hcs : NoU cs) (ho : zcK g w w') : zai w' r b A n c E k f:=by
 refine ⟨zfA h.1 hk hcs ho,?_⟩
 obtain ⟨x,e,hx⟩:=h.2
 exact ⟨x,e,zaq hx hk hcs ho⟩
def SzQ (K : Nat) (r : Rat) : Prop:=LtQ (18446744073709551616 ^ K) r
theorem SzQ.up {K K' : Nat} {r : Rat} (h : SzQ K r) (hk : K ≤ K') : SzQ K' r:=LtQ.up h (Nat.pow_le_pow_right (by decide) hk)
theorem zly (K K' : Nat) : 2 * (18446744073709551616 ^ K * 18446744073709551616 ^ K') ≤ 18446744073709551616 ^ (K + K' + 1):=by
 rw [Nat.pow_succ,Nat.pow_add,Nat.mul_comm]
 exact Nat.mul_le_mul_left _ (by decide)
theorem SzQ.add {K K' : Nat} {r s : Rat} (h : SzQ K r) (h' : SzQ K' s) : SzQ (K + K' + 1) (r + s):=LtQ.up (LtQ.add h h') (zly K K')
theorem SzQ.mul {K K' : Nat} {r s : Rat} (h : SzQ K r) (h' : SzQ K' s) : SzQ (K + K') (r * s):=LtQ.up (LtQ.mul h h') (by rw [Nat.pow_add]; exact Nat.le_refl _)
theorem SzQ.neg {K : Nat} {r : Rat} (h : SzQ K r) : SzQ K (-r):=LtQ.neg h
theorem SzQ.abs {K : Nat} {r : Rat} (h : SzQ K r) : SzQ K r.abs:=by
 unfold Rat.abs
 split
 ·exact h
 ·exact h.neg
theorem SzQ.num {K : Nat} {r : Rat} (h : SzQ K r) : Sz K r.num.natAbs:=h.1
theorem SzQ.den {K : Nat} {r : Rat} (h : SzQ K r) : Sz K r.den:=h.2
theorem zdT {K : Nat} (h : 0 < K) : 1 < 18446744073709551616 ^ K:=Nat.one_lt_pow (by omega) (by decide)
theorem SzQ.whole {K : Nat} {z : Int} (h : Sz K z.natAbs) (hK : 0 < K) : SzQ K (z : Rat):=LtQ.whole h (zdT hK)
theorem SzQ.made {K : Nat} {p q : Int} (h : Sz K p.natAbs) (h' : Sz K q.natAbs) (hK : 0 < K) : SzQ K (Rat.divInt p q):=LtQ.made h h' (zdT hK)
theorem SzQ.zero : SzQ 1 (0 : Rat):=⟨by decide,by decide⟩
theorem SzQ.fit {K : Nat} {r : Rat} (h : SzQ K r) {w : World} {b : Bool} {A : oA9} {n c : Nat} {E : oA9} {k f : Nat} (hr : zai w r b A n c E k f) (hK : K ≤ 67108864) : zaN n k:=by
 refine ⟨Nat.le_trans (h.num.words hr.1.2) (Nat.le_trans hK (by decide)),?_⟩
 obtain ⟨x,⟨e,_⟩,hx⟩:=hr.2
 have hd : Sz K x:=h.den.of_le (by rw [e]; split <;> omega)
 exact Nat.le_trans (hd.words hx) (Nat.le_trans hK (by decide))
def zbS (D : List Nat) (a0 a : Act) : Prop:=a.defers = a0.defers ∧ a.tmps.size = a0.tmps.size ∧ ∀ j,j ∉ D → a.tmps.getD j undef = a0.tmps.getD j undef
theorem zbS.refl (D : List Nat) (a : Act) : zbS D a a:=⟨rfl,rfl,fun _ _ => rfl⟩
theorem rd_ne {a : Act} {i j : Nat} (h : j ≠ i) (v : Value) : (a.put (some i) v).tmps.getD j undef = a.tmps.getD j undef:=by
 simp only [Act.put,Array.getD_eq_getD_getElem?]
 rw [Array.getElem?_setIfInBounds_ne (Ne.symm h)]
theorem zas {a : Act} {i : Nat} (h : i < a.tmps.size) (v : Value) : (a.put (some i) v).tmps.getD i undef = v:=by
 simp only [Act.put,Array.getD_eq_getD_getElem?]
 rw [Array.getElem?_setIfInBounds_self_of_lt h]
 rfl
theorem zfG (a : Act) (i : Nat) (v : Value) : (a.put (some i) v).tmps.size = a.tmps.size:=by simp [Act.put]
theorem zbS.put {D : List Nat} {a0 a : Act} (h : zbS D a0 a) {i : Nat} (hi : i ∈ D) (v : Value) : zbS D a0 (a.put (some i) v) :=
 ⟨h.1,by rw [zfG]; exact h.2.1,fun j hj => (rd_ne (fun e => hj (by rw [e]; exact hi)) v).trans (h.2.2 j hj)⟩
theorem zbS.get {D : List Nat} {a0 a : Act} (h : zbS D a0 a) (j : Nat) (hj : j ∉ D) {v : Value} (hv : a0.tmps.getD j undef = v) : a.tmps.getD j undef = v:=(h.2.2 j hj).trans hv
theorem zbS.lt {D : List Nat} {a0 a : Act} (h : zbS D a0 a) {j : Nat} (hj : j < a0.tmps.size) : j < a.tmps.size:=by rw [h.2.1]; exact hj
theorem act_ext {a b : Act} (hd : a.defers = b.defers) (hs : a.tmps.size = b.tmps.size) (hg : ∀ j,a.tmps.getD j undef = b.tmps.getD j undef) : a = b:=by
 obtain ⟨at_,ad⟩:=a
 obtain ⟨bt,bd⟩:=b
 simp only at hd hs hg
 subst hd
 congr 1
 refine Array.ext hs fun j h1 h2 => ?_
 have:=hg j
 simp only [Array.getD_eq_getD_getElem?,Array.getElem?_eq_getElem h1,Array.getElem?_eq_getElem h2] at this
 exact this
def zbL (vs : List (Nat × Value)) (a : Act) : Act:=vs.foldl (fun a p => a.put (some p.1) p.2) a
theorem zgr (vs : List (Nat × Value)) (a : Act) : (zbL vs a).tmps.size = a.tmps.size ∧ (zbL vs a).defers = a.defers:=by
 unfold zbL
 induction vs generalizing a with
 | nil => exact ⟨rfl,rfl⟩
 | cons p t ih => rw [List.foldl_cons]; have:=ih (a.put (some p.1) p.2); exact ⟨this.1.trans (zfG _ _ _),this.2⟩
theorem zlz (vs : List (Nat × Value)) (a b : Act) (hs : b.tmps.size = a.tmps.size) (hv : ∀ p ∈ vs,a.tmps.getD p.1 undef = p.2) : ∀ j,(zbL vs b).tmps.getD j undef = if j ∈ vs.map Prod.fst then a.tmps.getD j undef else b.tmps.getD j undef:=by
 intro j
 induction vs generalizing b with
 | nil => rfl
 | cons p t ih =>
   show (zbL t (b.put (some p.1) p.2)).tmps.getD j undef = _
   rw [ih (b.put (some p.1) p.2) (by rw [zfG]; exact hs) (fun q hq => hv q (List.mem_cons_of_mem _ hq))]
   by_cases h1 : j ∈ t.map Prod.fst
   ·rw [if_pos h1,if_pos (by rw [List.map_cons]; exact List.mem_cons_of_mem _ h1)]
   ·rw [if_neg h1]
    by_cases h2 : j = p.1
    ·rw [if_pos (by rw [List.map_cons,h2]; exact List.mem_cons_self),h2,hv p List.mem_cons_self]
     by_cases h3 : p.1 < b.tmps.size
     ·exact zas h3 _
     ·have h4:=hv p List.mem_cons_self
      have h5 : ¬ p.1 < a.tmps.size:=by rw [← hs]; exact h3
      simp only [Array.getD_eq_getD_getElem?] at h4 ⊢
      rw [Array.getElem?_eq_none (by omega)] at h4
      rw [Array.getElem?_eq_none (by rw [zfG]; omega)]
      exact h4
    ·rw [if_neg (by rw [List.map_cons]; intro h; rcases List.mem_cons.1 h with h | h; exact h2 h; exact h1 h)]
     exact rd_ne h2 _
theorem zbS.eq {D : List Nat} {a0 a : Act} (h : zbS D a0 a) (vs : List (Nat × Value)) (hD : vs.map Prod.fst = D) (hv : ∀ p ∈ vs,a.tmps.getD p.1 undef = p.2) : a = zbL vs a0:=by
 subst hD
 refine act_ext (h.1.trans (zgr vs a0).2.symm) (h.2.1.trans (zgr vs a0).1.symm) fun j => ?_
 rw [zlz vs a a0 h.2.1.symm hv j]
 by_cases h1 : j ∈ vs.map Prod.fst
 ·rw [if_pos h1]
 ·rw [if_neg h1]; exact h.2.2 j h1
section
variable {P : Program} {ops0 : Array Oper} {Q : Exit → Act → World → Prop} {md : Region.Mode} {S : World → Prop}
theorem zaT {J : Act → Array Bool → Act → World → Prop} {L : Array Bool} {a0 : Act} {l0 : Array Bool} {w0 : World} {fuel : Nat} (hd : due l0 = fuel) (h0 : J a0 l0 a0 w0)
  (hstep : ∀ (ops : Array Oper) (A0 : Act) (Q' : Exit → Act → World → Prop),ops = ops0 → A0.tmps.size = a0.tmps.size → (∀ i d,A0.tmps.getD i d = a0.tmps.getD i d) → (∀ l a w,J A0 l a w → Region.ready md ops l = [] → l = L) ∧ ∀ l a w i,J A0 l a w → l ≠ L → i ∈ Region.ready md ops l → wpOp P ops Q' i (fun a' w' => S w' ∧ J A0 (l.setIfInBounds i true) a' w') a w)
  (hgoal : ∀ a w,J a0 L a w → wpAnyH P md ops0 Q S (due L) L a w) : wpAnyH P md ops0 Q S fuel l0 a0 w0 :=
 zjw (hstep ops0 a0 Q rfl rfl (fun _ _ => rfl)).1 (hstep ops0 a0 Q rfl rfl (fun _ _ => rfl)).2 hgoal fuel l0 a0 w0 hd h0
theorem wpOp_go {ops : Array Oper} {i : Nat} {o : Oper} {K : Act → World → Prop} {a : Act} {w : World} (ho : ops[i]? = some o) (hg : o.guard = none)
  (h : ∀ K' : Act → World → Prop,Shut (∀ a w,K a w → K' a w) → Oper.wp P o a w K' Q) : wpOp P ops Q i K a w :=
 wpOp_step ho fun K' hK => by
  rw [if_pos (by unfold Region.wanted; rw [hg])]
  exact h K' hK
theorem zky {o : Oper} {K : Act → World → Prop} {a : Act} {w w' : World} {v : Value} (h : (execOp a.eval o).run P w = .ok (.value v) w') (hK : K (a.put o.dst v) w') : Oper.wp P o a w K Q:=by
 unfold Oper.wp; rw [h]; exact hK
theorem zaX {o : Oper} {K : Act → World → Prop} {a : Act} {w : World} {v : Value} {x : Nat} (ho : o.op = .move (.tmp x) ∨ o.op = .assign (.tmp x)) (hx : a.tmps.getD x undef = v) (hK : K (a.put o.dst v) w) : Oper.wp P o a w K Q:=by
 refine zky (v:=v) (w':=w) ?_ hK
 unfold execOp
 rcases ho with ho | ho <;> rw [ho] <;> simp only [Act.eval,hx] <;> rfl
theorem zaB {o : Oper} {K : Act → World → Prop} {a : Act} {w : World} {v : Value} {x k : Nat} {vs : Array Value} (ho : o.op = .extract (.tmp x) k) (hx : a.tmps.getD x undef = .tuple vs) (hk : vs[k]? = some v) (hK : K (a.put o.dst v) w) : Oper.wp P o a w K Q:=by
 refine zky (v:=v) (w':=w) ?_ hK
 unfold execOp
 rw [ho]
 simp only [Act.eval,hx,Instr.extract,hk]
 rfl
end
set_option maxRecDepth 100000
set_option linter.unusedSimpArgs false
theorem zad.to8 {w : World} {x y : Nat} {A : oA9} {n c : Nat} (e : x = y) (h : zad w x A n c) : zad w y A n c:=e ▸ h
theorem zaF.to8 {w : World} {x y : Int} {b : Bool} {A : oA9} {n c : Nat} (e : x = y) (h : zaF w x b A n c) : zaF w y b A n c:=e ▸ h
theorem ziH (x : Nat) (A : oA9) (n c : Nat) (w : World) (h : zad w x A n c) (hn : n ≤ 1099511627776) :
  Calls Tryz.prog 110 #[.agg #[.slice A n c]] w fun e w' => ∃ (B : oA9) (m d : Nat),e = .returned (.slice B m d) ∧ zad w' x B m d ∧ Below w.heap.size w w':=by
 refine (zcu x A n c w h hn).mono ?_
 rintro e w' ⟨B,d,rfl,h1,h2,h3,h4⟩
 exact ⟨B,_,d,rfl,⟨h1,h2,h3.1⟩,h4⟩
theorem of_row (x : Nat) (A : oA9) (n c : Nat) (w : World) (h : zad w x A n c) (hn : n ≤ 1099511627776) :
  Calls Tryz.prog 108 #[.slice A n c] w fun e w' => ∃ (B : oA9) (m d : Nat),e = .returned (.agg #[.slice B m d]) ∧ zad w' x B m d ∧ Below w.heap.size w w':=by
 have k:=zch A n c _ w h.1 (zcg (by decide) x) h.2.1 h.2.2 hn
 rw [zcD (by decide)] at k
 refine k.mono ?_
 rintro e w' ⟨B,m,d,rfl,h1,h2,_⟩
 exact ⟨B,m,d,rfl,h1,h2⟩
theorem zmC {P : Program} {f : FuncId} {args : Array Value} {w : World} {z v : Int} (e : z = v) (h : Calls P f args w fun e w' => e = .returned (.tuple #[.int .u64 z,.bool true]) ∧ Below w.heap.size w w') : Calls P f args w fun e w' => e = .returned (.tuple #[.int .u64 v,.bool true]) ∧ Below w.heap.size w w':=by
 subst e; exact h
theorem zjC (x : Nat) (A : oA9) (n c : Nat) (w : World) (hA : zad w x A n c) (hn : n ≤ 1099511627776) : Calls Tryz.prog 119 #[.agg #[.slice A n c]] w (zbA w ((bitLen x : Nat) : Int)):=zhn x A n c w hA hn
theorem zfO {K K' : Nat} {z : Int} {k : Nat} (h : Sz K z.natAbs) (h' : Sz K' k) : Sz (K + K') (z * ((k : Nat) : Int)).natAbs:=by
 rw [Int.natAbs_mul,Int.natAbs_natCast]
 exact h.mul h'
theorem zar {K q x : Nat} (h : Sz K q) (e : q = (if x = 0 then 1 else x) ∧ x ≠ 1) : Sz K x:=h.of_le (by rw [e.1]; split <;> omega)
theorem zaK {w : World} {r : Rat} {b : Bool} {A : oA9} {n c : Nat} {E : oA9} {k f K : Nat} (h : zai w r b A n c E k f) (q : zaN n k) (hK : 67108864 = K) : SzQ K r:=by
 obtain ⟨x,e,hx⟩:=h.2
 have h1 : Sz K r.num.natAbs:=Sz.of_words h.1.2 (by have:=q.1; omega)
 have h2 : Sz K x:=Sz.of_words hx (by have:=q.2; omega)
 refine ⟨h1,?_⟩
 rw [e.1]
 split
 ·exact zdT (by omega)
 ·exact h2
theorem zdW (w : World) : zad w 0 none 0 0:=by
 refine ⟨⟨by rw [show dg 18446744073709551616 0 = [] from by rw [dg]; rfl]; rfl,fun h => absurd h (by decide)⟩,Nat.le_refl _,by decide⟩
theorem zgv (w : World) : zai w (0 : Rat) false none 0 0 none 0 0:=⟨⟨rfl,zdW w⟩,⟨0,⟨rfl,by decide⟩,zdW w⟩⟩
theorem zeu {w : World} {z : Int} {b : Bool} {A : oA9} {n c : Nat} (h : zaF w z b A n c) : zai w (z : Rat) b A n c none 0 0:=⟨by rw [Rat.num_intCast]; exact h,⟨0,⟨by rw [Rat.den_intCast]; rfl,by decide⟩,zdW w⟩⟩
theorem znx {w : World} {r : Rat} {z : Int} {b : Bool} {A : oA9} {n c : Nat} {E : oA9} {k f : Nat} (hn : r.num = z) (hd : r.den = 1) (h : zaF w z b A n c) (q : zad w 0 E k f) : zai w r b A n c E k f :=
 ⟨by rw [hn]; exact h,⟨0,⟨by rw [hd]; rfl,by decide⟩,q⟩⟩
theorem zhy {w : World} {r : Rat} {z : Int} {y : Nat} {b : Bool} {A : oA9} {n c : Nat} {E : oA9} {k f : Nat} (hn : r.num = z) (hd : r.den = y) (hy : y ≠ 1) (h : zaF w z b A n c) (q : zad w y E k f) : zai w r b A n c E k f :=
 ⟨by rw [hn]; exact h,⟨y,⟨by rw [if_neg (fun h0 => r.den_nz (by rw [hd,h0]))]; exact hd,hy⟩,q⟩⟩
theorem zfe {q x : Nat} (e : q = (if x = 0 then 1 else x) ∧ x ≠ 1) (h : q = 1) : x = 0:=by
 refine Decidable.byContradiction fun h0 => ?_
 rw [if_neg h0] at e
 omega
theorem zdn {q x : Nat} (e : q = (if x = 0 then 1 else x) ∧ x ≠ 1) (h : q ≠ 1) : x ≠ 0 ∧ x = q:=by
 have h0 : x ≠ 0:=fun h0 => h (by rw [e.1,if_pos h0])
 refine ⟨h0,?_⟩
 have:=e.1
 rw [if_neg h0] at this
 exact this.symm
theorem znG (z : Int) : zaQ (decide (z < 0)) z.natAbs = z:=by
 unfold zaQ
 by_cases h : z < 0
 ·rw [decide_eq_true h,if_pos rfl]; omega
 ·rw [decide_eq_false h,if_neg (by decide)]; omega
theorem znb {w : World} {x : Nat} {A : oA9} {n c : Nat} (h : zad w x A n c) (hn : n ≤ 1) : x < 18446744073709551616:=zhp h.len hn
theorem len_one {w : World} {x : Nat} {A : oA9} {n c : Nat} (h : zad w x A n c) (hx : x = 1) : n ≤ 1:=by
 have h1 : Sz 1 x:=by rw [hx]; exact zdT (by decide)
 exact h1.words h
theorem zlx (p d : Int) (hd : d ≠ 0) : (Rat.divInt p d).num = zaQ (decide (p < 0) != decide (d < 0)) (p.natAbs / Nat.gcd p.natAbs d.natAbs) ∧ (Rat.divInt p d).den = d.natAbs / Nat.gcd p.natAbs d.natAbs:=by
 refine ⟨?_,made_den p d hd⟩
 have h1:=made_num p d hd
 have h2:=znc p d hd
 rw [← h1]
 generalize (Rat.divInt p d).num = z at *
 unfold zaQ
 by_cases hp : p < 0
 ·by_cases hq : d < 0
  ·rw [decide_eq_true hp,decide_eq_true hq]; simp; omega
  ·rw [decide_eq_true hp,decide_eq_false hq]; simp; omega
 ·by_cases hq : d < 0
  ·rw [decide_eq_false hp,decide_eq_true hq]; simp
   by_cases h0 : p = 0
   ·subst h0; simp at h1; omega
   ·omega
  ·rw [decide_eq_false hp,decide_eq_false hq]; simp; omega
end Go.Proofs.YtedbgdlbgohiiaaGreatDoor
