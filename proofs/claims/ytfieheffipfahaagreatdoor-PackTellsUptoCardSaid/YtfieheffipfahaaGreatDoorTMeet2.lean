/- What this claim leans on. -/
import Derived.Test.YtfieheffipfahaaGreatDoorTK9App
namespace Go.Proofs.YtfieheffipfahaaGreatDoor
open Go Go.RowKit
set_option maxHeartbeats 16000000
set_option linter.unusedVariables false
def zcB (D : List Nat) (a0 a : Act) : Prop := a.defers = a0.defers ∧ a.tmps.size = a0.tmps.size ∧ ∀ j,j ∉ D → a.tmps.getD j undef = a0.tmps.getD j undef
theorem zcB.refl (D : List Nat) (a : Act) : zcB D a a := ⟨rfl,rfl,fun _ _ => rfl⟩
theorem rd_ne {a : Act} {i j : Nat} (h : j ≠ i) (v : Value) : (a.put (some i) v).tmps.getD j undef = a.tmps.getD j undef := by
 simp only [Act.put,Array.getD_eq_getD_getElem?]
 rw [Array.getElem?_setIfInBounds_ne (Ne.symm h)]
theorem zaB {a : Act} {i : Nat} (h : i < a.tmps.size) (v : Value) : (a.put (some i) v).tmps.getD i undef = v := by
 simp only [Act.put,Array.getD_eq_getD_getElem?]
 rw [Array.getElem?_setIfInBounds_self_of_lt h]
 rfl
theorem zfS (a : Act) (i : Nat) (v : Value) : (a.put (some i) v).tmps.size = a.tmps.size := by simp [Act.put]
theorem zcB.put {D : List Nat} {a0 a : Act} (h : zcB D a0 a) {i : Nat} (hi : i ∈ D) (v : Value) : zcB D a0 (a.put (some i) v) :=
 ⟨h.1,by rw [zfS]; exact h.2.1,fun j hj => (rd_ne (fun e => hj (by rw [e]; exact hi)) v).trans (h.2.2 j hj)⟩
theorem zcB.get {D : List Nat} {a0 a : Act} (h : zcB D a0 a) (j : Nat) (hj : j ∉ D) {v : Value} (hv : a0.tmps.getD j undef = v) : a.tmps.getD j undef = v := (h.2.2 j hj).trans hv
theorem zcB.lt {D : List Nat} {a0 a : Act} (h : zcB D a0 a) {j : Nat} (hj : j < a0.tmps.size) : j < a.tmps.size := by rw [h.2.1]; exact hj
theorem act_ext {a b : Act} (hd : a.defers = b.defers) (hs : a.tmps.size = b.tmps.size) (hg : ∀ j,a.tmps.getD j undef = b.tmps.getD j undef) : a = b := by
 obtain ⟨at_,ad⟩ := a
 obtain ⟨bt,bd⟩ := b
 simp only at hd hs hg
 subst hd
 congr 1
 refine Array.ext hs fun j h1 h2 => ?_
 have := hg j
 simp only [Array.getD_eq_getD_getElem?,Array.getElem?_eq_getElem h1,Array.getElem?_eq_getElem h2] at this
 exact this
def zcv (vs : List (Nat × Value)) (a : Act) : Act := vs.foldl (fun a p => a.put (some p.1) p.2) a
theorem zgJ (vs : List (Nat × Value)) (a : Act) : (zcv vs a).tmps.size = a.tmps.size ∧ (zcv vs a).defers = a.defers := by
 unfold zcv
 induction vs generalizing a with
 | nil => exact ⟨rfl,rfl⟩
 | cons p t ih => rw [List.foldl_cons]; have := ih (a.put (some p.1) p.2); exact ⟨this.1.trans (zfS _ _ _),this.2⟩
theorem zmw (vs : List (Nat × Value)) (a b : Act) (hs : b.tmps.size = a.tmps.size) (hv : ∀ p ∈ vs,a.tmps.getD p.1 undef = p.2) : ∀ j,(zcv vs b).tmps.getD j undef = if j ∈ vs.map Prod.fst then a.tmps.getD j undef else b.tmps.getD j undef := by
 intro j
 induction vs generalizing b with
 | nil => rfl
 | cons p t ih =>
   show (zcv t (b.put (some p.1) p.2)).tmps.getD j undef = _
   rw [ih (b.put (some p.1) p.2) (by rw [zfS]; exact hs) (fun q hq => hv q (List.mem_cons_of_mem _ hq))]
   by_cases h1 : j ∈ t.map Prod.fst
   ·rw [if_pos h1,if_pos (by rw [List.map_cons]; exact List.mem_cons_of_mem _ h1)]
   ·rw [if_neg h1]
    by_cases h2 : j = p.1
    ·rw [if_pos (by rw [List.map_cons,h2]; exact List.mem_cons_self),h2,hv p List.mem_cons_self]
     by_cases h3 : p.1 < b.tmps.size
     ·exact zaB h3 _
     ·have h4 := hv p List.mem_cons_self
      have h5 : ¬ p.1 < a.tmps.size := by rw [← hs]; exact h3
      simp only [Array.getD_eq_getD_getElem?] at h4 ⊢
      rw [Array.getElem?_eq_none (by omega)] at h4
      rw [Array.getElem?_eq_none (by rw [zfS]; omega)]
      exact h4
    ·rw [if_neg (by rw [List.map_cons]; intro h; rcases List.mem_cons.1 h with h | h; exact h2 h; exact h1 h)]
     exact rd_ne h2 _
theorem zcB.eq {D : List Nat} {a0 a : Act} (h : zcB D a0 a) (vs : List (Nat × Value)) (hD : vs.map Prod.fst = D) (hv : ∀ p ∈ vs,a.tmps.getD p.1 undef = p.2) : a = zcv vs a0 := by
 subst hD
 refine act_ext (h.1.trans (zgJ vs a0).2.symm) (h.2.1.trans (zgJ vs a0).1.symm) fun j => ?_
 rw [zmw vs a a0 h.2.1.symm hv j]
 by_cases h1 : j ∈ vs.map Prod.fst
 ·rw [if_pos h1]
 ·rw [if_neg h1]; exact h.2.2 j h1
section
variable {P : Program} {ops0 : Array Oper} {Q : Exit → Act → World → Prop} {md : Region.Mode} {S : World → Prop}
theorem zbo {J : Act → Array Bool → Act → World → Prop} {L : Array Bool} {a0 : Act} {l0 : Array Bool} {w0 : World} {fuel : Nat} (hd : due l0 = fuel) (h0 : J a0 l0 a0 w0)
  (hstep : ∀ (ops : Array Oper) (A0 : Act) (Q' : Exit → Act → World → Prop),ops = ops0 → A0.tmps.size = a0.tmps.size → (∀ i d,A0.tmps.getD i d = a0.tmps.getD i d) → (∀ l a w,J A0 l a w → Region.ready md ops l = [] → l = L) ∧ ∀ l a w i,J A0 l a w → l ≠ L → i ∈ Region.ready md ops l → wpOp P ops Q' i (fun a' w' => S w' ∧ J A0 (l.setIfInBounds i true) a' w') a w)
  (hgoal : ∀ a w,J a0 L a w → wpAnyH P md ops0 Q S (due L) L a w) : wpAnyH P md ops0 Q S fuel l0 a0 w0 :=
 zkg (hstep ops0 a0 Q rfl rfl (fun _ _ => rfl)).1 (hstep ops0 a0 Q rfl rfl (fun _ _ => rfl)).2 hgoal fuel l0 a0 w0 hd h0
theorem wpOp_go {ops : Array Oper} {i : Nat} {o : Oper} {K : Act → World → Prop} {a : Act} {w : World} (ho : ops[i]? = some o) (hg : o.guard = none)
  (h : ∀ K' : Act → World → Prop,Shut (∀ a w,K a w → K' a w) → Oper.wp P o a w K' Q) : wpOp P ops Q i K a w :=
 wpOp_step ho fun K' hK => by
  rw [if_pos (by unfold Region.wanted; rw [hg])]
  exact h K' hK
theorem zlz {o : Oper} {K : Act → World → Prop} {a : Act} {w w' : World} {v : Value} (h : (execOp a.eval o).run P w = .ok (.value v) w') (hK : K (a.put o.dst v) w') : Oper.wp P o a w K Q := by
 unfold Oper.wp; rw [h]; exact hK
theorem zaZ {o : Oper} {K : Act → World → Prop} {a : Act} {w : World} {v : Value} {x : Nat} (ho : o.op = .move (.tmp x) ∨ o.op = .assign (.tmp x)) (hx : a.tmps.getD x undef = v) (hK : K (a.put o.dst v) w) : Oper.wp P o a w K Q := by
 refine zlz (v := v) (w' := w) ?_ hK
 unfold execOp
 rcases ho with ho | ho <;> rw [ho] <;> simp only [Act.eval,hx] <;> rfl
theorem zaJ {o : Oper} {K : Act → World → Prop} {a : Act} {w : World} {v : Value} {x k : Nat} {vs : Array Value} (ho : o.op = .extract (.tmp x) k) (hx : a.tmps.getD x undef = .tuple vs) (hk : vs[k]? = some v) (hK : K (a.put o.dst v) w) : Oper.wp P o a w K Q := by
 refine zlz (v := v) (w' := w) ?_ hK
 unfold execOp
 rw [ho]
 simp only [Act.eval,hx,Instr.extract,hk]
 rfl
end
def zfi (r : Rat) : Er := if 255 < zbt r.den then .spot 3 sDen ((zbt r.den : Nat) : Int) else if 255 < zbt r.num.natAbs then .spot 3 sNum ((zbt r.num.natAbs : Nat) : Int) else .no
def encL (r : Rat) : List Nat := if 255 < zbt r.den ∨ 255 < zbt r.num.natAbs then [] else zgC r
theorem zmY {r : Rat} (h : ¬ zbt r.den ≤ 255) : zfi r = .spot 3 sDen ((zbt r.den : Nat) : Int) ∧ encL r = [] := ⟨if_pos (by omega),if_pos (.inl (by omega))⟩
theorem zmZ {r : Rat} (h : zbt r.den ≤ 255) (k : ¬ zbt r.num.natAbs ≤ 255) : zfi r = .spot 3 sNum ((zbt r.num.natAbs : Nat) : Int) ∧ encL r = [] := ⟨(if_neg (by omega)).trans (if_pos (by omega)),if_pos (.inr (by omega))⟩
theorem zgW {r : Rat} (h : zbt r.den ≤ 255) (k : zbt r.num.natAbs ≤ 255) : zfi r = .no ∧ encL r = zgC r := ⟨(if_neg (by omega)).trans (if_neg (by omega)),if_neg (by omega)⟩
theorem zkv : zbt 1 = 1 := by decide
theorem zdV : zfi 0 = .no ∧ encL 0 = [0] := zgW (r := 0) (by decide) (by decide)
theorem zna {r : Rat} (h : r ≠ 0) : zgC r = [zct r] ++ (zhv r ++ zcm r.num.natAbs) := by unfold zgC numL; rw [if_neg h]; rfl
theorem znc {r : Rat} (h : r ≠ 0) : zct r = (if r.den = 1 then 1 else 3) + (if r.num < 0 then 1 else 0) := by
 unfold zct
 rw [if_neg h]
 have : r.num ≠ 0 := fun e => h (Rat.num_eq_zero.1 e)
 (repeat' split) <;> omega
theorem zbR.up {B B' : Nat} {w : World} {v : Value} {L : List Nat} (h : zbR B' w v L) (hb : B ≤ B') : zbR B w v L := by
 obtain ⟨h1,h2⟩ := h
 exact ⟨h1,h2.imp id fun ⟨g,cap,cur,e,hg,h3⟩ => ⟨g,cap,cur,e,Nat.le_trans hb hg,h3⟩⟩
def zcq (w : World) (x : Nat) (e : Ending) (w' : World) : Prop := ∃ (A : oA9) (n c : Nat),e = .returned (.agg #[.slice A n c]) ∧ zaf w' x A n c ∧ Below w.heap.size w w'
def zjj (w : World) (x y : Nat) (e : Ending) (w' : World) : Prop := ∃ (A : oA9) (n c : Nat) (B : oA9) (m d : Nat),e = .returned (.tuple #[.agg #[.slice A n c],.agg #[.slice B m d]]) ∧ zaf w' x A n c ∧ zaf w' y B m d ∧ Below w.heap.size w w'
theorem Sz.gcd {K K' x y : Nat} (h : Sz K x) (h' : Sz K' y) : Sz (K + K') (Nat.gcd x y) := by
 rcases Nat.eq_zero_or_pos x with e | e
 ·rw [e,Nat.gcd_zero_left]; exact h'.up (by omega)
 ·exact (h.of_le (Nat.gcd_le_left y e)).up (by omega)
structure GcdC : Prop where
 of : ∀ (x y : Nat) (A D : oA9) (n m c d : Nat) (w : World),zaf w x A n c → zaf w y D m d → n ≤ 1073741824 → m ≤ 1073741824 → zap w → Calls Tryz.prog 117 #[.agg #[.slice A n c],.agg #[.slice D m d]] w (zcq w (Nat.gcd x y))
 reduce : ∀ (x y : Nat) (A D : oA9) (n m c d : Nat) (w : World),zaf w x A n c → zaf w y D m d → n ≤ 1073741824 → m ≤ 1073741824 → zap w → Calls Tryz.prog 81 #[.agg #[.slice A n c],.agg #[.slice D m d]] w (zjj w (x / Nat.gcd x y) (y / Nat.gcd x y))
set_option linter.unusedSimpArgs false
theorem zeT (er : Er) (v : Value) (w : World) (hE : zbL w er v) (hg : zcS w) (hn : er.named) :
  Calls Tryz.prog 33 #[v,.int .i64 er.n,.string er.s,.int .i64 er.k] w fun e w' => e = .returned (.bool true) ∧ Below w.heap.size w w' := by
 have HP := lh9 (znC er v w hE hg)
 have HN := lh9 (fun w' (hb : Below w.heap.size w w') => zlM er v w' (hE.below hb) (hg.below hb))
 have HX := lh9 hn
 clear hE hg hn
 cases er with
 | no =>
   clear HX
   go_enter Tryz.func33,Tryz.ntmps33
   go_wp2_with fail
   refine HP.out.mono ?_
   rintro e w1 ⟨rfl,hb1⟩
   have HN1 := lh9 (HN.out w1 hb1)
   have HB := lh9 hb1
   clear HP HN hb1
   go_wp2_with fail
   refine HN1.out.mono ?_
   rintro e w2 ⟨rfl,hb2⟩
   have hB := zac HB.out hb2
   clear HN1 HB hb2
   simp only [Er.n,Er.s,Er.k,Er.is]
   go_wp2
   go_ret
   exact ⟨rfl,hB⟩
 | bare n =>
   clear HX
   go_enter Tryz.func33,Tryz.ntmps33
   go_wp2_with fail
   refine HP.out.mono ?_
   rintro e w1 ⟨rfl,hb1⟩
   have HN1 := lh9 (HN.out w1 hb1)
   have HB := lh9 hb1
   clear HP HN hb1
   go_wp2_with fail
   refine HN1.out.mono ?_
   rintro e w2 ⟨rfl,hb2⟩
   have hB := zac HB.out hb2
   clear HN1 HB hb2
   simp only [Er.n,Er.s,Er.k,Er.is]
   go_wp2
   go_ret
   exact ⟨rfl,hB⟩
 | spot n s k =>
   have hs := HX.out
   rcases hs with rfl | rfl
   all_goals
    clear HX
    go_enter Tryz.func33,Tryz.ntmps33
    go_wp2_with fail
    refine HP.out.mono ?_
    rintro e w1 ⟨rfl,hb1⟩
    have HN1 := lh9 (HN.out w1 hb1)
    have HB := lh9 hb1
    clear HP HN hb1
    go_wp2_with fail
    refine HN1.out.mono ?_
    rintro e w2 ⟨rfl,hb2⟩
    have hB := zac HB.out hb2
    clear HN1 HB hb2
    simp only [Er.n,Er.s,Er.k,Er.is,sNum,sDen]
    go_wp2
    go_ret
    exact ⟨rfl,hB⟩
theorem znY (er : Er) (v : Value) (w : World) (hE : zbL w er v) (hg : zcS w) (hn : er.named) :
  Calls Tryz.prog 15 #[v,.agg #[.int .i64 er.n,.string er.s,.int .i64 er.k]] w fun e w' => e = .returned (.bool true) ∧ Below w.heap.size w w' := by
 obtain ⟨n,hn0⟩ : ∃ n,er.n = n := ⟨_,rfl⟩
 obtain ⟨s,hs0⟩ : ∃ n,er.s = n := ⟨_,rfl⟩
 obtain ⟨k,hk0⟩ : ∃ n,er.k = n := ⟨_,rfl⟩
 obtain ⟨b1,b2,b3⟩ := zaA w 49 #[.int .i64 n,.string s,.int .i64 k]
 have HT := lh9 (fun w' (hb : Below w.heap.size w w') => zeT er v w' (hE.below hb) (hg.below hb) hn)
 rw [hn0,hs0,hk0] at HT ⊢
 obtain ⟨c0,c1,c2⟩ := (⟨b2.cell 0,b2.cell 1,b2.cell 2⟩ : _ ∧ _ ∧ _)
 simp only [List.getElem?_toArray,List.getElem?_cons_zero,List.getElem?_cons_succ] at c0 c1 c2
 have HB := lh9 b1
 clear b1 b2 b3 hE hg hn hn0 hs0 hk0
 go_enter Tryz.func15,Tryz.ntmps15
 go_wp2_with fail
 refine (HT.out _ (by first | exact HB.out | exact HB.out.drew)).mono ?_
 rintro e w2 ⟨rfl,hb2⟩
 have hB := zac (by first | exact HB.out | exact HB.out.drew) hb2
 clear HB hb2 HT
 go_wp2
 go_ret
 exact ⟨rfl,hB⟩
end Go.Proofs.YtfieheffipfahaaGreatDoor
