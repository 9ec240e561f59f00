/- What this claim leans on. -/
import Derived.Test.YtfieheffipfahaaGreatDoorTE9Far
import Derived.Deep.RegionHeld
import Derived.IntWalk
import Derived.OrdersHeld
namespace Go.Proofs.YtfieheffipfahaaGreatDoor
open Go Go.RowKit
set_option maxHeartbeats 16000000
set_option linter.unusedVariables false
def zaw (w : World) (z : Int) (b : Bool) (A : oA9) (n c : Nat) : Prop := b = decide (z < 0) ∧ zaf w z.natAbs A n c
theorem zaw.below {w w' : World} {z : Int} {b : Bool} {A : oA9} {n c : Nat} (h : zaw w z b A n c) (hb : Below w.heap.size w w') : zaw w' z b A n c := ⟨h.1,h.2.below hb⟩
theorem zaw.words {w : World} {z : Int} {b : Bool} {A : oA9} {n c : Nat} (h : zaw w z b A n c) : zaf w z.natAbs A n c := h.2
def zbA (w : World) (z : Int) (e : Ending) (w' : World) : Prop := ∃ (b : Bool) (A : oA9) (n c : Nat),e = .returned (.agg #[.bool b,.slice A n c]) ∧ zaw w' z b A n c ∧ Below w.heap.size w w'
def zdO (w : World) (z : Int) (t : Bool) (e : Ending) (w' : World) : Prop := ∃ (b : Bool) (A : oA9) (n c : Nat),e = .returned (.tuple #[.agg #[.bool b,.slice A n c],.bool t]) ∧ zaw w' z b A n c ∧ Below w.heap.size w w'
def zdP (w : World) (x : Nat) (e : Ending) (w' : World) : Prop := ∃ (A : oA9) (n c : Nat),e = .returned (.agg #[.slice A n c]) ∧ zaf w' x A n c ∧ Below w.heap.size w w'
structure IntC (T : World → Prop) : Prop where
 new : ∀ (s : Bool) (x : Nat) (A : oA9) (n c : Nat) (w : World),T w → zaf w x A n c → n ≤ 268435456 → Calls Tryz.prog 38 #[.bool s,.agg #[.slice A n c]] w (zbA w (if s then -(x : Int) else (x : Int)))
 of : ∀ (z : Int) (w : World),T w → -9223372036854775808 ≤ z → z ≤ 9223372036854775807 → Calls Tryz.prog 76 #[.int .i64 z] w (zbA w z)
 belowI : ∀ (z : Int) (b : Bool) (A : oA9) (n c : Nat) (w : World),T w → zaw w z b A n c → n ≤ 268435456 → Calls Tryz.prog 83 #[.agg #[.bool b,.slice A n c]] w fun e w' => e = .returned (.bool (decide (z < 0))) ∧ Below w.heap.size w w'
 abs : ∀ (z : Int) (b : Bool) (A : oA9) (n c : Nat) (w : World),T w → zaw w z b A n c → n ≤ 268435456 → Calls Tryz.prog 28 #[.agg #[.bool b,.slice A n c]] w (zdP w z.natAbs)
 sign : ∀ (z : Int) (b : Bool) (A : oA9) (n c : Nat) (w : World),T w → zaw w z b A n c → n ≤ 268435456 → Calls Tryz.prog 80 #[.agg #[.bool b,.slice A n c]] w (zdF w (zgn z))
 text : ∀ (z : Int) (b : Bool) (A : oA9) (n c : Nat) (w : World),T w → zaw w z b A n c → n ≤ 16777216 → Calls Tryz.prog 47 #[.agg #[.bool b,.slice A n c]] w fun e w' => e = .returned (.string (zas (zcx z))) ∧ Below w.heap.size w w'
 cmp : ∀ (x y : Int) (b b' : Bool) (A D : oA9) (n m c d : Nat) (w : World),T w → zaw w x b A n c → zaw w y b' D m d → n ≤ 268435456 → m ≤ 268435456 → Calls Tryz.prog 65 #[.agg #[.bool b,.slice A n c],.agg #[.bool b',.slice D m d]] w (zdF w (cmpZ x y))
 read : ∀ (s : ByteArray) (w : World),T w → s.size ≤ 2147483648 → Calls Tryz.prog 55 #[.string s] w (zdO w (if okI s.data.toList then valI s.data.toList else 0) (okI s.data.toList))
set_option maxRecDepth 100000
set_option linter.unusedSimpArgs false
def zOf (b : Bool) (l : List Nat) : Int := if b then -(dv 18446744073709551616 l : Int) else (dv 18446744073709551616 l : Int)
theorem zgb (b : Bool) (l : List Nat) : (zOf b l).natAbs = dv 18446744073709551616 l := by unfold zOf; split <;> omega
theorem zjh {w : World} {A : oA9} {n c x g : Nat} {t : TypeId} {cs : Array Value} (h : zaf w x A n c) (hk : Blk w g t cs) (hcs : ∀ v ∈ cs.toList,∀ z,v ≠ .int .u64 z) : 0 < n → ∀ ad,A = some ad → ad.block ≠ g := fun hn ad e hg => by
 obtain ⟨ad',e',_,hc⟩ := h.1.2 hn
 rw [e] at e'
 injection e' with e'
 subst e'
 have hl := h.len
 have h0 := hc 0 (.int .u64 ((dg 18446744073709551616 x).getD 0 0 : Nat)) (zco .u64 _ 0 (by omega))
 have e0 : ad.add 0 = ad := by unfold Addr.add; rw [if_pos rfl]
 rw [e0] at h0
 obtain ⟨bk,off,pr⟩ := ad
 simp only at hg
 subst hg
 unfold Blk at hk
 cases pr with
 | none =>
   rw [show w.cell? ⟨bk,off,none⟩ = cs[off]? from cell_of_row w bk off _ t (0,0) hk,← Array.getElem?_toList] at h0
   exact hcs _ (List.mem_of_getElem? h0) _ rfl
 | some q => simp [World.cell?,hk] at h0
theorem zdk {w : World} {z : Int} {b p : Bool} {A q : oA9} {n c r s g : Nat} {t : TypeId} (h : zaw w z b A n c) (hk : Blk w g t #[.bool p,.slice q r s]) (p' : Bool) (q' : oA9) (r' s' : Nat) :
  zaw ((w.setCell ⟨g,0,none⟩ (.bool p')).setCell ⟨g,1,none⟩ (.slice q' r' s')) z b A n c := by
 have h1 := zec (p := ⟨g,0,none⟩) h.2 (zjh h.2 hk (by intro v hv; simp at hv; rcases hv with rfl | rfl <;> intro z e <;> cases e)) (.bool p')
 exact ⟨h.1,zec (p := ⟨g,1,none⟩) h1 (zjh h1 (hk.set_ 0 (.bool p')) (by intro v hv; simp at hv; rcases hv with rfl | rfl <;> intro z e <;> cases e)) _⟩
theorem ziL {T : World → Prop} (hTb : ∀ w w',T w → Below w.heap.size w w' → T w') (IC : IntC T) (b : Bool) (A : oA9) (n c : Nat) (l : List Nat) (w : World) (h : zav w A n c l) (hT : T w) :
  Calls Tryz.prog 37 #[.agg #[.bool b,.slice A n c]] w (zbA w (zOf b l)) := by
 have HO := lh9 (zlN h)
 have hn : n ≤ 1048576 := by have := h.small; have := h.fits; omega
 have HSZ := lh9 (zdy h)
 have HT := lh9 (fun w' (hb : Below w.heap.size w w') => hTb w w' hT hb)
 have HIC := lh9 IC
 obtain ⟨x,hx⟩ : ∃ x,dv 18446744073709551616 l = x := ⟨_,rfl⟩
 obtain ⟨K,hK⟩ : ∃ K,1048576 = K := ⟨_,rfl⟩
 rw [hx] at HO HSZ
 rw [hK] at HSZ
 have HX := lh9 hx
 have HKK : K ≤ 1048576 := by omega
 clear h hx IC hT hTb hK
 go_enter Tryz.func37,Tryz.ntmps37
 go_wp2_with fail
 obtain ⟨hB,b2,b3,b5⟩ := zbQ w 24 31 #[.bool b,.slice A n c] #[.bool false,.slice none 0 0]
 generalize (w.alloc (.cells #[.bool b,.slice A n c] 24)).alloc (.cells #[.bool false,.slice none 0 0] 31) = W0 at *
 have g1 : W0.drew.cell? ⟨w.heap.size,0,none⟩ = some (.bool b) := b2.cell 0
 have g2 : W0.drew.cell? ⟨w.heap.size,1,none⟩ = some (.slice A n c) := b2.cell 1
 have hk0 := b3.drew
 have hb0 := hB.drew
 clear b2 b3 b5 hB
 have HNW := lh9 (fun w' (hb : Below w.heap.size w w') B m d (h : zaf w' x B m d) => HIC.out.new b x B m d w' (HT.out _ hb) h (by have := Sz.words HSZ.out h; omega))
 go_region_held3 (fun w' => Below w.heap.size w w' ∧ w'.cell? ⟨w.heap.size,0,none⟩ = some (.bool b) ∧ w'.cell? ⟨w.heap.size,1,none⟩ = some (.slice A n c))
  (first | (exact ⟨hb0,g1,g2⟩) | (go_split_ands; (repeat' apply And.intro); all_goals (first | with_reducible assumption | exact zac (by with_reducible assumption) hb | exact zad hb (by with_reducible assumption) | exact zah _ (by show w.heap.size ≤ w.heap.size + 1; omega) (by with_reducible assumption) | exact zag _ (by show w.heap.size ≠ w.heap.size + 1; omega) (by with_reducible assumption) | exact zah _ (by show w.heap.size ≤ w.heap.size + 1; omega) (zah _ (by show w.heap.size ≤ w.heap.size + 1; omega) (by with_reducible assumption)) | exact zag _ (by show w.heap.size ≠ w.heap.size + 1; omega) (zag _ (by show w.heap.size ≠ w.heap.size + 1; omega) (by with_reducible assumption)))))
  (first
    | (go_at_call 34; (with_reducible refine (HO.out _ (by first | with_reducible assumption | exact And.left (by with_reducible assumption))).mono ?_); rintro e w2 ⟨A2,n2,c2,rfl,hw2,hb,_⟩; have hk2 := zae hb hk0)
    | (go_at_call 38; (with_reducible refine (HNW.out _ (by first | with_reducible assumption | exact And.left (by with_reducible assumption)) _ _ _ hw2).mono ?_); rintro e w3 ⟨b3,A3,n3,c3,rfl,hw3,hb⟩; go_split_ands; have hk3 := zae hb hk2; have c0 := hk3.cell 0; have f0 := hk3.frozen 0; have c1 : (w3.setCell ⟨w.heap.size + 1,0,none⟩ (.bool b3)).cell? ⟨w.heap.size + 1,1,none⟩ = some (.slice none 0 0) := (hk3.set_ 0 (.bool b3)).cell 1; have f1 := (hk3.set_ 0 (.bool b3)).frozen 1; have hbb : Below w.heap.size w w3 := zac (by with_reducible assumption) hb))
 have hk4 := (hk3.set_ 0 (.bool b3)).set_ 1 (.slice A3 n3 c3)
 have r0 := hk4.cell 0
 have r1 := hk4.cell 1
 have hwz := zdk hw3 hk3 b3 A3 n3 c3
 have hbz := zah (p := ⟨w.heap.size + 1,1,none⟩) (.slice A3 n3 c3) (by show w.heap.size ≤ w.heap.size + 1; omega) (zah (p := ⟨w.heap.size + 1,0,none⟩) (.bool b3) (by show w.heap.size ≤ w.heap.size + 1; omega) hbb)
 have HG : Hid (zbA w (zOf b l) (.returned (.agg #[.bool b3,.slice A3 n3 c3])) ((w3.setCell ⟨w.heap.size + 1,0,none⟩ (.bool b3)).setCell ⟨w.heap.size + 1,1,none⟩ (.slice A3 n3 c3))) := by
  show zbA _ _ _ _
  unfold zOf
  rw [HX.out]
  exact ⟨b3,A3,n3,c3,rfl,hwz,hbz⟩
 clear hk3 hk2 hk0 hk4 hwz hbz hbb hw3 hw2 c0 c1 f0 f1 hb0 hb g1 g2
 go_wp2
 refine bodyPost_ret (v := .agg #[.bool b3,.slice A3 n3 c3]) (by simp [results,Tryz.results37,go_sem,r0,r1]) rfl ?_
 exact HG.out
def due (l : Array Bool) : Nat := l.toList.countP fun b => !b
section
variable {P : Program} {ops : Array Oper} {Q : Exit → Act → World → Prop} {md : Region.Mode} {S : World → Prop}
theorem zai {i : Nat} {l : Array Bool} (hi : i ∈ Region.ready md ops l) : l.getD i true = false := (mem_ready.1 hi).1
theorem zcM {i : Nat} {l : Array Bool} (hi : i ∈ Region.ready md ops l) : i < ops.size := by
 obtain ⟨_,o,ho,_⟩ := mem_ready.1 hi
 exact (Array.getElem?_eq_some_iff.1 ho).1
theorem zok {i k : Nat} {l : Array Bool} {o : Oper} {e : Edge} (hi : i ∈ Region.ready md ops l) (ho : ops[i]? = some o) (he : o.after[k]? = some e) (hb : Region.binds md e = true) : l.getD e.on false = true := by
 obtain ⟨_,o',ho',h⟩ := mem_ready.1 hi
 rw [ho] at ho'
 cases ho'
 exact h e (Array.mem_of_getElem? he) hb
theorem zlL {i : Nat} {l : Array Bool} {o : Oper} (h : Region.ready md ops l = []) (ho : ops[i]? = some o) (hr : (o.after.toList.all fun e => !Region.binds md e || l.getD e.on false) = true) : l.getD i true = true := by
 cases hl : l.getD i true
 ·have : i ∈ Region.ready md ops l := mem_ready.2 ⟨hl,o,ho,fun e he hb => by
   have := List.all_eq_true.1 hr e (by simpa using he)
   rw [hb] at this
   simpa using this⟩
  rw [h] at this
  cases this
 ·rfl
theorem zmW {i : Nat} {l : Array Bool} (h : l.getD i true = false) : due (l.setIfInBounds i true) + 1 = due l := by
 obtain ⟨l⟩ := l
 unfold due
 have hi : i < l.length := by
  rcases Nat.lt_or_ge i l.length with h' | h'
  ·exact h'
  ·simp [List.getElem?_eq_none h'] at h
 have hv : l[i] = false := by simpa [hi] using h
 simp only [List.setIfInBounds_toArray]
 clear h
 induction l generalizing i with
 | nil => simp at hi
 | cons b t ih =>
   cases i with
   | zero =>
     have hb : b = false := hv
     subst hb
     simp
   | succ j =>
     have := ih (i := j) (by simpa using hi) (by simpa using hv)
     simp only [List.set_cons_succ,List.countP_cons]
     omega
theorem znQ {l : Array Bool} (h : due l = 0) : Region.ready md ops l = [] := by
 refine List.eq_nil_iff_forall_not_mem.2 fun i hi => ?_
 have := zmW (zai hi)
 omega
theorem zkg {J : Act → Array Bool → Act → World → Prop} {L : Array Bool} {a0 : Act} (hfull : ∀ l a w,J a0 l a w → Region.ready md ops l = [] → l = L)
  (hstep : ∀ l a w i,J a0 l a w → l ≠ L → i ∈ Region.ready md ops l → wpOp P ops Q i (fun a' w' => S w' ∧ J a0 (l.setIfInBounds i true) a' w') a w)
  (hgoal : ∀ a w,J a0 L a w → wpAnyH P md ops Q S (due L) L a w) : ∀ (fuel : Nat) (l : Array Bool) (a : Act) (w : World),due l = fuel → J a0 l a w → wpAnyH P md ops Q S fuel l a w := by
 intro fuel
 induction fuel with
 | zero =>
   intro l a w hd hJ
   have e := hfull l a w hJ (znQ hd)
   subst e
   have := hgoal a w hJ
   rwa [hd] at this
 | succ n ih =>
   intro l a w hd hJ
   by_cases hl : l = L
   ·subst hl
    have := hgoal a w hJ
    rwa [hd] at this
   ·refine ⟨fun h => absurd (hfull l a w hJ h) hl,fun i hi => ?_⟩
    exact wpOp_mono (fun a' w' ⟨h1,h2⟩ => ⟨h1,ih _ a' w' (by have := zmW (zai hi); omega) h2⟩) (hstep l a w i hJ hl hi)
end
def Gd (f : Bool) (p : Prop) : Prop := f = true → p
theorem Gd.no {p : Prop} : Gd false p := fun h => by cases h
theorem Gd.yes {p : Prop} (h : p) : Gd true p := fun _ => h
theorem Gd.get {p : Prop} (h : Gd true p) : p := h rfl
theorem Gd.mono {f : Bool} {p q : Prop} (h : Gd f p) (k : p → q) : Gd f q := fun e => k (h e)
def Made (b : Nat) (w : World) (g : Nat) (t : TypeId) (cs : Array Value) (v : Value) : Prop := v = .pointer (some ⟨g,0,none⟩) ∧ b ≤ g ∧ w.heap[g]? = some (.cells cs t (0,0))
theorem Made.lt {b g : Nat} {w : World} {t : TypeId} {cs : Array Value} {v : Value} (h : Made b w g t cs v) : g < w.heap.size := (Array.getElem?_eq_some_iff.1 h.2.2).1
theorem Made.new (b : Nat) (w : World) (t : TypeId) (cs : Array Value) (hb : b ≤ w.heap.size) : Made b (w.alloc (.cells cs t)) w.heap.size t cs (.pointer (some ⟨w.heap.size,0,none⟩)) := ⟨rfl,hb,heap_alloc_new w _⟩
theorem SzI.add {K K' : Nat} {x y : Int} (h : Sz K x.natAbs) (h' : Sz K' y.natAbs) : Sz (K + K' + 1) (x + y).natAbs :=
 Sz.of_le (Sz.add (h.up (by omega : K ≤ K + K')) (h'.up (by omega : K' ≤ K + K'))) (Int.natAbs_add_le x y)
theorem SzI.neg {K : Nat} {x : Int} (h : Sz K x.natAbs) : Sz K (-x).natAbs := by rw [Int.natAbs_neg]; exact h
theorem zkI {w : World} {x : Nat} {A : oA9} {n c : Nat} (h : zaj w x A n c) (hx : x = 0) : n = 0 := by rw [h.len,hx]; rfl
theorem znb {w : World} {x : Nat} {A : oA9} {n c : Nat} (h : zaj w x A n c) (hx : x ≠ 0) : 0 < n := by
 rw [h.len]
 exact (zfb (b := 65536) (by decide) x hx).1
section
variable {P : Program} {f : FuncId} {args : Array Value} {w : World}
end
end Go.Proofs.YtfieheffipfahaaGreatDoor
