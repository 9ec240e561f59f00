/- What this claim leans on. -/
import Derived.Test.YtkiedljcgkoaiaaGreatDoorRBunT
import Derived.Deep.RegionHeld
import Derived.OrdersHeld
namespace Go.Proofs.YtkiedljcgkoaiaaGreatDoor
open Go Go.RowKit
set_option maxHeartbeats 16000000
set_option linter.unusedVariables false
def zaA (w : World) (z : Int) (b : Bool) (A : oA9) (n c : Nat) : Prop:=b = decide (z < 0) ∧ zag w z.natAbs A n c
theorem zaA.below {w w' : World} {z : Int} {b : Bool} {A : oA9} {n c : Nat} (h : zaA w z b A n c) (hb : Below w.heap.size w w') : zaA w' z b A n c:=⟨h.1,h.2.below hb⟩
theorem zaA.words {w : World} {z : Int} {b : Bool} {A : oA9} {n c : Nat} (h : zaA w z b A n c) : zag w z.natAbs A n c:=h.2
def zaP (w : World) (z : Int) (e : Ending) (w' : World) : Prop:=∃ (b : Bool) (A : oA9) (n c : Nat),e = .returned (.agg #[.bool b,.slice A n c]) ∧ zaA w' z b A n c ∧ Below w.heap.size w w'
def zdK (w : World) (x : Nat) (e : Ending) (w' : World) : Prop:=∃ (A : oA9) (n c : Nat),e = .returned (.agg #[.slice A n c]) ∧ zag w' x A n c ∧ Below w.heap.size w w'
structure IntC (T : World → Prop) : Prop where
 new : ∀ (s : Bool) (x : Nat) (A : oA9) (n c : Nat) (w : World),T w → zag w x A n c → n ≤ 268435456 → Calls Tryz.prog 112 #[.bool s,.agg #[.slice A n c]] w (zaP w (if s then -(x : Int) else (x : Int)))
 of : ∀ (z : Int) (w : World),T w → -9223372036854775808 ≤ z → z ≤ 9223372036854775807 → Calls Tryz.prog 66 #[.int .i64 z] w (zaP w z)
 belowI : ∀ (z : Int) (b : Bool) (A : oA9) (n c : Nat) (w : World),T w → zaA w z b A n c → n ≤ 268435456 → Calls Tryz.prog 78 #[.agg #[.bool b,.slice A n c]] w fun e w' => e = .returned (.bool (decide (z < 0))) ∧ Below w.heap.size w w'
 abs : ∀ (z : Int) (b : Bool) (A : oA9) (n c : Nat) (w : World),T w → zaA w z b A n c → n ≤ 268435456 → Calls Tryz.prog 75 #[.agg #[.bool b,.slice A n c]] w (zdK w z.natAbs)
 sign : ∀ (z : Int) (b : Bool) (A : oA9) (n c : Nat) (w : World),T w → zaA w z b A n c → n ≤ 268435456 → Calls Tryz.prog 70 #[.agg #[.bool b,.slice A n c]] w (zbw w (zdE z))
 cmp : ∀ (x y : Int) (b b' : Bool) (A D : oA9) (n m c d : Nat) (w : World),T w → zaA w x b A n c → zaA w y b' D m d → n ≤ 268435456 → m ≤ 268435456 → Calls Tryz.prog 64 #[.agg #[.bool b,.slice A n c],.agg #[.bool b',.slice D m d]] w (zbw w (zfJ x y))
 add : ∀ (x y : Int) (b b' : Bool) (A D : oA9) (n m c d : Nat) (w : World),T w → zaA w x b A n c → zaA w y b' D m d → n ≤ 268435456 → m ≤ 268435456 → Calls Tryz.prog 68 #[.agg #[.bool b,.slice A n c],.agg #[.bool b',.slice D m d]] w (zaP w (x + y))
 mul : ∀ (x y : Int) (b b' : Bool) (A D : oA9) (n m c d : Nat) (w : World),T w → zaA w x b A n c → zaA w y b' D m d → n ≤ 268435456 → m ≤ 268435456 → Calls Tryz.prog 73 #[.agg #[.bool b,.slice A n c],.agg #[.bool b',.slice D m d]] w (zaP w (x * y))
set_option maxRecDepth 100000
set_option linter.unusedSimpArgs false
theorem zix {w : World} {A : oA9} {n c x g : Nat} {t : TypeId} {cs : Array Value} (h : zag w x A n c) (hk : Blk w g t cs) (hcs : ∀ v ∈ cs.toList,∀ z,v ≠ .int .u64 z) : 0 < n → ∀ ad,A = some ad → ad.block ≠ g:=fun hn ad e hg => by
 obtain ⟨ad',e',_,hc⟩:=h.1.2 hn
 rw [e] at e'
 injection e' with e'
 subst e'
 have hl:=h.len
 have h0:=hc 0 (.int .u64 ((dg 18446744073709551616 x).getD 0 0 : Nat)) (zcf .u64 _ 0 (by omega))
 have e0 : ad.add 0 = ad:=by unfold Addr.add; rw [if_pos rfl]
 rw [e0] at h0
 obtain ⟨bk,off,pr⟩:=ad
 simp only at hg
 subst hg
 unfold Blk at hk
 cases pr with
 | none =>
   rw [show w.cell? ⟨bk,off,none⟩ = cs[off]? from cell_of_row w bk off _ t (0,0) hk,← Array.getElem?_toList] at h0
   exact hcs _ (List.mem_of_getElem? h0) _ rfl
 | some q => simp [World.cell?,hk] at h0
theorem zba {w : World} {z : Int} {b p : Bool} {A q : oA9} {n c r s g : Nat} {t : TypeId} (h : zaA w z b A n c) (hk : Blk w g t #[.bool p,.slice q r s]) (p' : Bool) (q' : oA9) (r' s' : Nat) :
  zaA ((w.setCell ⟨g,0,none⟩ (.bool p')).setCell ⟨g,1,none⟩ (.slice q' r' s')) z b A n c:=by
 have h1:=zee (p:=⟨g,0,none⟩) h.2 (zix h.2 hk (by intro v hv; simp at hv; rcases hv with rfl | rfl <;> intro z e <;> cases e)) (.bool p')
 exact ⟨h.1,zee (p:=⟨g,1,none⟩) h1 (zix h1 (hk.set_ 0 (.bool p')) (by intro v hv; simp at hv; rcases hv with rfl | rfl <;> intro z e <;> cases e)) _⟩
def due (l : Array Bool) : Nat:=l.toList.countP fun b => !b
section
variable {P : Program} {ops : Array Oper} {Q : Exit → Act → World → Prop} {md : Region.Mode} {S : World → Prop}
theorem zak {i : Nat} {l : Array Bool} (hi : i ∈ Region.ready md ops l) : l.getD i true = false:=(mem_ready.1 hi).1
theorem zdc {i : Nat} {l : Array Bool} (hi : i ∈ Region.ready md ops l) : i < ops.size:=by
 obtain ⟨_,o,ho,_⟩:=mem_ready.1 hi
 exact (Array.getElem?_eq_some_iff.1 ho).1
theorem znm {i k : Nat} {l : Array Bool} {o : Oper} {e : Edge} (hi : i ∈ Region.ready md ops l) (ho : ops[i]? = some o) (he : o.after[k]? = some e) (hb : Region.binds md e = true) : l.getD e.on false = true:=by
 obtain ⟨_,o',ho',h⟩:=mem_ready.1 hi
 rw [ho] at ho'
 cases ho'
 exact h e (Array.mem_of_getElem? he) hb
theorem zkR {i : Nat} {l : Array Bool} {o : Oper} (h : Region.ready md ops l = []) (ho : ops[i]? = some o) (hr : (o.after.toList.all fun e => !Region.binds md e || l.getD e.on false) = true) : l.getD i true = true:=by
 cases hl : l.getD i true
 ·have : i ∈ Region.ready md ops l:=mem_ready.2 ⟨hl,o,ho,fun e he hb => by
   have:=List.all_eq_true.1 hr e (by simpa using he)
   rw [hb] at this
   simpa using this⟩
  rw [h] at this
  cases this
 ·rfl
theorem zlT {i : Nat} {l : Array Bool} (h : l.getD i true = false) : due (l.setIfInBounds i true) + 1 = due l:=by
 obtain ⟨l⟩:=l
 unfold due
 have hi : i < l.length:=by
  rcases Nat.lt_or_ge i l.length with h' | h'
  ·exact h'
  ·simp [List.getElem?_eq_none h'] at h
 have hv : l[i] = false:=by simpa [hi] using h
 simp only [List.setIfInBounds_toArray]
 clear h
 induction l generalizing i with
 | nil => simp at hi
 | cons b t ih =>
   cases i with
   | zero =>
     have hb : b = false:=hv
     subst hb
     simp
   | succ j =>
     have:=ih (i:=j) (by simpa using hi) (by simpa using hv)
     simp only [List.set_cons_succ,List.countP_cons]
     omega
theorem zmJ {l : Array Bool} (h : due l = 0) : Region.ready md ops l = []:=by
 refine List.eq_nil_iff_forall_not_mem.2 fun i hi => ?_
 have:=zlT (zak hi)
 omega
theorem zjs {J : Act → Array Bool → Act → World → Prop} {L : Array Bool} {a0 : Act} (hfull : ∀ l a w,J a0 l a w → Region.ready md ops l = [] → l = L)
  (hstep : ∀ l a w i,J a0 l a w → l ≠ L → i ∈ Region.ready md ops l → wpOp P ops Q i (fun a' w' => S w' ∧ J a0 (l.setIfInBounds i true) a' w') a w)
  (hgoal : ∀ a w,J a0 L a w → wpAnyH P md ops Q S (due L) L a w) : ∀ (fuel : Nat) (l : Array Bool) (a : Act) (w : World),due l = fuel → J a0 l a w → wpAnyH P md ops Q S fuel l a w:=by
 intro fuel
 induction fuel with
 | zero =>
   intro l a w hd hJ
   have e:=hfull l a w hJ (zmJ hd)
   subst e
   have:=hgoal a w hJ
   rwa [hd] at this
 | succ n ih =>
   intro l a w hd hJ
   by_cases hl : l = L
   ·subst hl
    have:=hgoal a w hJ
    rwa [hd] at this
   ·refine ⟨fun h => absurd (hfull l a w hJ h) hl,fun i hi => ?_⟩
    exact wpOp_mono (fun a' w' ⟨h1,h2⟩ => ⟨h1,ih _ a' w' (by have:=zlT (zak hi); omega) h2⟩) (hstep l a w i hJ hl hi)
end
def Gd (f : Bool) (p : Prop) : Prop:=f = true → p
theorem Gd.no {p : Prop} : Gd false p:=fun h => by cases h
theorem Gd.yes {p : Prop} (h : p) : Gd true p:=fun _ => h
theorem Gd.get {p : Prop} (h : Gd true p) : p:=h rfl
theorem Gd.mono {f : Bool} {p q : Prop} (h : Gd f p) (k : p → q) : Gd f q:=fun e => k (h e)
def Made (b : Nat) (w : World) (g : Nat) (t : TypeId) (cs : Array Value) (v : Value) : Prop:=v = .pointer (some ⟨g,0,none⟩) ∧ b ≤ g ∧ w.heap[g]? = some (.cells cs t (0,0))
theorem Made.lt {b g : Nat} {w : World} {t : TypeId} {cs : Array Value} {v : Value} (h : Made b w g t cs v) : g < w.heap.size:=(Array.getElem?_eq_some_iff.1 h.2.2).1
theorem Made.keep {b g : Nat} {w w' : World} {t : TypeId} {cs : Array Value} {v : Value} (h : Made b w g t cs v) (hb : Below w.heap.size w w') : Made b w' g t cs v:=⟨h.1,h.2.1,(hb.block g h.lt).trans h.2.2⟩
theorem Made.new (b : Nat) (w : World) (t : TypeId) (cs : Array Value) (hb : b ≤ w.heap.size) : Made b (w.alloc (.cells cs t)) w.heap.size t cs (.pointer (some ⟨w.heap.size,0,none⟩)):=⟨rfl,hb,heap_alloc_new w _⟩
theorem SzI.add {K K' : Nat} {x y : Int} (h : Sz K x.natAbs) (h' : Sz K' y.natAbs) : Sz (K + K' + 1) (x + y).natAbs :=
 Sz.of_le (Sz.add (h.up (by omega : K ≤ K + K')) (h'.up (by omega : K' ≤ K + K'))) (Int.natAbs_add_le x y)
theorem SzI.sub {K K' : Nat} {x y : Int} (h : Sz K x.natAbs) (h' : Sz K' y.natAbs) : Sz (K + K' + 1) (x - y).natAbs:=by
 rw [Int.sub_eq_add_neg]
 exact SzI.add h (by rw [Int.natAbs_neg]; exact h')
theorem SzI.mul {K K' : Nat} {x y : Int} (h : Sz K x.natAbs) (h' : Sz K' y.natAbs) : Sz (K + K') (x * y).natAbs:=by
 rw [Int.natAbs_mul]; exact Sz.mul h h'
theorem SzI.neg {K : Nat} {x : Int} (h : Sz K x.natAbs) : Sz K (-x).natAbs:=by rw [Int.natAbs_neg]; exact h
theorem zjM {w : World} {x : Nat} {A : oA9} {n c : Nat} (h : zaj w x A n c) (hx : x = 0) : n = 0:=by rw [h.len,hx]; rfl
theorem ziN {w : World} {x : Nat} {A : oA9} {n c : Nat} (h : zaj w x A n c) (hx : x ≠ 0) : 0 < n:=by
 rw [h.len]
 exact (zgM (b:=65536) (by decide) x hx).1
theorem sgn_pos {x : Int} (h : 0 < x) : zdE x = 1:=by unfold zdE; rw [if_neg (by omega),if_neg (by omega)]
theorem sgn_neg {x : Int} (h : x < 0) : zdE x = -1:=by unfold zdE; rw [if_pos h]
section
variable {P : Program} {f : FuncId} {args : Array Value} {w : World}
theorem icmp_eq {x y : Int} (h : x = y) (hc : Calls P f args w (zbw w (zfJ x y))) : Calls P f args w (zbw w 0):=by rw [(zgr x y).2 h] at hc; exact hc
theorem zfL {z : Int} {b : Bool} (h : decide (z < 0) = b) (hc : Calls P f args w fun e w' => e = .returned (.bool (decide (z < 0))) ∧ Below w.heap.size w w') : Calls P f args w fun e w' => e = .returned (.bool b) ∧ Below w.heap.size w w':=by rw [h] at hc; exact hc
theorem ziQ {x v : Int} (h : zdE x = v) (hc : Calls P f args w (zbw w (zdE x))) : Calls P f args w (zbw w v):=by rw [h] at hc; exact hc
end
end Go.Proofs.YtkiedljcgkoaiaaGreatDoor
