/- What this claim leans on. -/
import Derived.Test.YtedbgdlbgohiiaaGreatDoorTBunT
import Derived.Deep.RegionHeld
namespace Go.Proofs.YtedbgdlbgohiiaaGreatDoor
open Go Go.RowKit
set_option maxHeartbeats 16000000
set_option linter.unusedVariables false
def zcb (w : World) (q r : Nat) (b : Bool) (e : Ending) (w' : World) : Prop:=∃ (A : oA9) (n c : Nat) (B : oA9) (m d : Nat),e = .returned (.tuple #[.agg #[.slice A n c],.agg #[.slice B m d],.bool b]) ∧ zad w' q A n c ∧ zad w' r B m d ∧ Below w.heap.size w w'
def zdE (w : World) (x : Nat) (b : Bool) (e : Ending) (w' : World) : Prop:=∃ (A : oA9) (n c : Nat),e = .returned (.tuple #[.agg #[.slice A n c],.bool b]) ∧ zad w' x A n c ∧ Below w.heap.size w w'
def zff (w : World) (q x : Nat) (b : Bool) (e : Ending) (w' : World) : Prop:=∃ (A : oA9) (n c : Nat),e = .returned (.tuple #[.agg #[.slice A n c],.int .u64 (x : Int),.bool b]) ∧ zad w' q A n c ∧ Below w.heap.size w w'
structure QuotC : Prop where
 divMod : ∀ (x y : Nat) (A D : oA9) (n m c d : Nat) (w : World),zad w x A n c → zad w y D m d → n ≤ 1073741824 → m ≤ 1073741824 → y ≠ 0 → Calls Tryz.prog 170 #[.agg #[.slice A n c],.agg #[.slice D m d]] w (zcb w (x / y) (x % y) true)
 divModNo : ∀ (x y : Nat) (A D : oA9) (n m c d : Nat) (w : World),zad w x A n c → zad w y D m d → n ≤ 1073741824 → m ≤ 1073741824 → y = 0 → Calls Tryz.prog 170 #[.agg #[.slice A n c],.agg #[.slice D m d]] w (zcb w 0 0 false)
 div : ∀ (x y : Nat) (A D : oA9) (n m c d : Nat) (w : World),zad w x A n c → zad w y D m d → n ≤ 1073741824 → m ≤ 1073741824 → y ≠ 0 → Calls Tryz.prog 151 #[.agg #[.slice A n c],.agg #[.slice D m d]] w (zdE w (x / y) true)
 mod : ∀ (x y : Nat) (A D : oA9) (n m c d : Nat) (w : World),zad w x A n c → zad w y D m d → n ≤ 1073741824 → m ≤ 1073741824 → y ≠ 0 → Calls Tryz.prog 178 #[.agg #[.slice A n c],.agg #[.slice D m d]] w (zdE w (x % y) true)
 byWord : ∀ (x a : Nat) (A : oA9) (n c : Nat) (w : World),zad w x A n c → n ≤ 1073741824 → a < 18446744073709551616 → a ≠ 0 → Calls Tryz.prog 182 #[.agg #[.slice A n c],.int .u64 a] w (zff w (x / a) (x % a) true)
 byWordNo : ∀ (x : Nat) (A : oA9) (n c : Nat) (w : World),zad w x A n c → n ≤ 1073741824 → Calls Tryz.prog 182 #[.agg #[.slice A n c],.int .u64 0] w (zff w 0 0 false)
def zaB (w : World) (z : Int) (b : Bool) (A : oA9) (n c : Nat) : Prop:=b = decide (z < 0) ∧ zad w z.natAbs A n c
theorem zaB.below {w w' : World} {z : Int} {b : Bool} {A : oA9} {n c : Nat} (h : zaB w z b A n c) (hb : Below w.heap.size w w') : zaB w' z b A n c:=⟨h.1,h.2.below hb⟩
theorem zaB.words {w : World} {z : Int} {b : Bool} {A : oA9} {n c : Nat} (h : zaB w z b A n c) : zad w z.natAbs A n c:=h.2
def zaR (w : World) (z : Int) (e : Ending) (w' : World) : Prop:=∃ (b : Bool) (A : oA9) (n c : Nat),e = .returned (.agg #[.bool b,.slice A n c]) ∧ zaB w' z b A n c ∧ Below w.heap.size w w'
def zdD (w : World) (x : Nat) (e : Ending) (w' : World) : Prop:=∃ (A : oA9) (n c : Nat),e = .returned (.agg #[.slice A n c]) ∧ zad w' x A n c ∧ Below w.heap.size w w'
structure IntC (T : World → Prop) : Prop where
 new : ∀ (s : Bool) (x : Nat) (A : oA9) (n c : Nat) (w : World),T w → zad w x A n c → n ≤ 268435456 → Calls Tryz.prog 130 #[.bool s,.agg #[.slice A n c]] w (zaR w (if s then -(x : Int) else (x : Int)))
 of : ∀ (z : Int) (w : World),T w → -9223372036854775808 ≤ z → z ≤ 9223372036854775807 → Calls Tryz.prog 72 #[.int .i64 z] w (zaR w z)
 belowI : ∀ (z : Int) (b : Bool) (A : oA9) (n c : Nat) (w : World),T w → zaB w z b A n c → n ≤ 268435456 → Calls Tryz.prog 124 #[.agg #[.bool b,.slice A n c]] w fun e w' => e = .returned (.bool (decide (z < 0))) ∧ Below w.heap.size w w'
 abs : ∀ (z : Int) (b : Bool) (A : oA9) (n c : Nat) (w : World),T w → zaB w z b A n c → n ≤ 268435456 → Calls Tryz.prog 118 #[.agg #[.bool b,.slice A n c]] w (zdD w z.natAbs)
 sign : ∀ (z : Int) (b : Bool) (A : oA9) (n c : Nat) (w : World),T w → zaB w z b A n c → n ≤ 268435456 → Calls Tryz.prog 112 #[.agg #[.bool b,.slice A n c]] w (zbT w (zgn z))
 cmp : ∀ (x y : Int) (b b' : Bool) (A D : oA9) (n m c d : Nat) (w : World),T w → zaB w x b A n c → zaB w y b' D m d → n ≤ 268435456 → m ≤ 268435456 → Calls Tryz.prog 62 #[.agg #[.bool b,.slice A n c],.agg #[.bool b',.slice D m d]] w (zbT w (zfO x y))
 add : ∀ (x y : Int) (b b' : Bool) (A D : oA9) (n m c d : Nat) (w : World),T w → zaB w x b A n c → zaB w y b' D m d → n ≤ 268435456 → m ≤ 268435456 → Calls Tryz.prog 136 #[.agg #[.bool b,.slice A n c],.agg #[.bool b',.slice D m d]] w (zaR w (x + y))
 mul : ∀ (x y : Int) (b b' : Bool) (A D : oA9) (n m c d : Nat) (w : World),T w → zaB w x b A n c → zaB w y b' D m d → n ≤ 268435456 → m ≤ 268435456 → Calls Tryz.prog 156 #[.agg #[.bool b,.slice A n c],.agg #[.bool b',.slice D m d]] w (zaR w (x * y))
set_option maxRecDepth 100000
set_option linter.unusedSimpArgs false
theorem zij {w : World} {A : oA9} {n c x g : Nat} {t : TypeId} {cs : Array Value} (h : zad w x A n c) (hk : Blk w g t cs) (hcs : ∀ v ∈ cs.toList,∀ z,v ≠ .int .u64 z) : 0 < n → ∀ ad,A = some ad → ad.block ≠ g:=fun hn ad e hg => by
 obtain ⟨ad',e',_,hc⟩:=h.1.2 hn
 rw [e] at e'
 injection e' with e'
 subst e'
 have hl:=h.len
 have h0:=hc 0 (.int .u64 ((dg 18446744073709551616 x).getD 0 0 : Nat)) (zck .u64 _ 0 (by omega))
 have e0 : ad.add 0 = ad:=by unfold Addr.add; rw [if_pos rfl]
 rw [e0] at h0
 obtain ⟨bk,off,pr⟩:=ad
 simp only at hg
 subst hg
 unfold Blk at hk
 cases pr with
 | none =>
   rw [show w.cell? ⟨bk,off,none⟩ = cs[off]? from cell_of_row w bk off _ t (0,0) hk,← Array.getElem?_toList] at h0
   exact hcs _ (List.mem_of_getElem? h0) _ rfl
 | some q => simp [World.cell?,hk] at h0
theorem zaX {w : World} {z : Int} {b p : Bool} {A q : oA9} {n c r s g : Nat} {t : TypeId} (h : zaB w z b A n c) (hk : Blk w g t #[.bool p,.slice q r s]) (p' : Bool) (q' : oA9) (r' s' : Nat) :
  zaB ((w.setCell ⟨g,0,none⟩ (.bool p')).setCell ⟨g,1,none⟩ (.slice q' r' s')) z b A n c:=by
 have h1:=zdV (p:=⟨g,0,none⟩) h.2 (zij h.2 hk (by intro v hv; simp at hv; rcases hv with rfl | rfl <;> intro z e <;> cases e)) (.bool p')
 exact ⟨h.1,zdV (p:=⟨g,1,none⟩) h1 (zij h1 (hk.set_ 0 (.bool p')) (by intro v hv; simp at hv; rcases hv with rfl | rfl <;> intro z e <;> cases e)) _⟩
def due (l : Array Bool) : Nat:=l.toList.countP fun b => !b
section
variable {P : Program} {ops : Array Oper} {Q : Exit → Act → World → Prop} {md : Region.Mode} {S : World → Prop}
theorem zaf {i : Nat} {l : Array Bool} (hi : i ∈ Region.ready md ops l) : l.getD i true = false:=(mem_ready.1 hi).1
theorem zbN {i : Nat} {l : Array Bool} (hi : i ∈ Region.ready md ops l) : i < ops.size:=by
 obtain ⟨_,o,ho,_⟩:=mem_ready.1 hi
 exact (Array.getElem?_eq_some_iff.1 ho).1
theorem zmP {i k : Nat} {l : Array Bool} {o : Oper} {e : Edge} (hi : i ∈ Region.ready md ops l) (ho : ops[i]? = some o) (he : o.after[k]? = some e) (hb : Region.binds md e = true) : l.getD e.on false = true:=by
 obtain ⟨_,o',ho',h⟩:=mem_ready.1 hi
 rw [ho] at ho'
 cases ho'
 exact h e (Array.mem_of_getElem? he) hb
theorem zkg {i : Nat} {l : Array Bool} {o : Oper} (h : Region.ready md ops l = []) (ho : ops[i]? = some o) (hr : (o.after.toList.all fun e => !Region.binds md e || l.getD e.on false) = true) : l.getD i true = true:=by
 cases hl : l.getD i true
 ·have : i ∈ Region.ready md ops l:=mem_ready.2 ⟨hl,o,ho,fun e he hb => by
   have:=List.all_eq_true.1 hr e (by simpa using he)
   rw [hb] at this
   simpa using this⟩
  rw [h] at this
  cases this
 ·rfl
theorem zlt {i : Nat} {l : Array Bool} (h : l.getD i true = false) : due (l.setIfInBounds i true) + 1 = due l:=by
 obtain ⟨l⟩:=l
 unfold due
 have hi : i < l.length:=by
  rcases Nat.lt_or_ge i l.length with h' | h'
  ·exact h'
  ·simp [List.getElem?_eq_none h'] at h
 have hv : l[i] = false:=by simpa [hi] using h
 simp only [List.setIfInBounds_toArray]
 clear h
 induction l generalizing i with
 | nil => simp at hi
 | cons b t ih =>
   cases i with
   | zero =>
     have hb : b = false:=hv
     subst hb
     simp
   | succ j =>
     have:=ih (i:=j) (by simpa using hi) (by simpa using hv)
     simp only [List.set_cons_succ,List.countP_cons]
     omega
theorem zmj {l : Array Bool} (h : due l = 0) : Region.ready md ops l = []:=by
 refine List.eq_nil_iff_forall_not_mem.2 fun i hi => ?_
 have:=zlt (zaf hi)
 omega
theorem ziX {J : Act → Array Bool → Act → World → Prop} {L : Array Bool} {a0 : Act} (hfull : ∀ l a w,J a0 l a w → Region.ready md ops l = [] → l = L)
  (hstep : ∀ l a w i,J a0 l a w → l ≠ L → i ∈ Region.ready md ops l → wpOp P ops Q i (fun a' w' => S w' ∧ J a0 (l.setIfInBounds i true) a' w') a w)
  (hgoal : ∀ a w,J a0 L a w → wpAnyH P md ops Q S (due L) L a w) : ∀ (fuel : Nat) (l : Array Bool) (a : Act) (w : World),due l = fuel → J a0 l a w → wpAnyH P md ops Q S fuel l a w:=by
 intro fuel
 induction fuel with
 | zero =>
   intro l a w hd hJ
   have e:=hfull l a w hJ (zmj hd)
   subst e
   have:=hgoal a w hJ
   rwa [hd] at this
 | succ n ih =>
   intro l a w hd hJ
   by_cases hl : l = L
   ·subst hl
    have:=hgoal a w hJ
    rwa [hd] at this
   ·refine ⟨fun h => absurd (hfull l a w hJ h) hl,fun i hi => ?_⟩
    exact wpOp_mono (fun a' w' ⟨h1,h2⟩ => ⟨h1,ih _ a' w' (by have:=zlt (zaf hi); omega) h2⟩) (hstep l a w i hJ hl hi)
end
def Gd (f : Bool) (p : Prop) : Prop:=f = true → p
theorem Gd.no {p : Prop} : Gd false p:=fun h => by cases h
theorem Gd.yes {p : Prop} (h : p) : Gd true p:=fun _ => h
theorem Gd.get {p : Prop} (h : Gd true p) : p:=h rfl
theorem Gd.mono {f : Bool} {p q : Prop} (h : Gd f p) (k : p → q) : Gd f q:=fun e => k (h e)
def Made (b : Nat) (w : World) (g : Nat) (t : TypeId) (cs : Array Value) (v : Value) : Prop:=v = .pointer (some ⟨g,0,none⟩) ∧ b ≤ g ∧ w.heap[g]? = some (.cells cs t (0,0))
theorem Made.lt {b g : Nat} {w : World} {t : TypeId} {cs : Array Value} {v : Value} (h : Made b w g t cs v) : g < w.heap.size:=(Array.getElem?_eq_some_iff.1 h.2.2).1
theorem Made.keep {b g : Nat} {w w' : World} {t : TypeId} {cs : Array Value} {v : Value} (h : Made b w g t cs v) (hb : Below w.heap.size w w') : Made b w' g t cs v:=⟨h.1,h.2.1,(hb.block g h.lt).trans h.2.2⟩
theorem Made.new (b : Nat) (w : World) (t : TypeId) (cs : Array Value) (hb : b ≤ w.heap.size) : Made b (w.alloc (.cells cs t)) w.heap.size t cs (.pointer (some ⟨w.heap.size,0,none⟩)):=⟨rfl,hb,heap_alloc_new w _⟩
theorem SzI.add {K K' : Nat} {x y : Int} (h : Sz K x.natAbs) (h' : Sz K' y.natAbs) : Sz (K + K' + 1) (x + y).natAbs :=
 Sz.of_le (Sz.add (h.up (by omega : K ≤ K + K')) (h'.up (by omega : K' ≤ K + K'))) (Int.natAbs_add_le x y)
theorem SzI.mul {K K' : Nat} {x y : Int} (h : Sz K x.natAbs) (h' : Sz K' y.natAbs) : Sz (K + K') (x * y).natAbs:=by
 rw [Int.natAbs_mul]; exact Sz.mul h h'
theorem SzI.neg {K : Nat} {x : Int} (h : Sz K x.natAbs) : Sz K (-x).natAbs:=by rw [Int.natAbs_neg]; exact h
section
variable {P : Program} {f : FuncId} {args : Array Value} {w : World}
theorem icmp_eq {x y : Int} (h : x = y) (hc : Calls P f args w (zbT w (zfO x y))) : Calls P f args w (zbT w 0):=by rw [(zgr x y).2 h] at hc; exact hc
end
theorem zeT (a : Int) (g : Nat) : (a / (g : Int)).natAbs ≤ a.natAbs:=by
 rcases Nat.eq_zero_or_pos g with rfl | hg
 ·simp
 ·exact Int.natAbs_ediv_le_natAbs a g
theorem zkM (a b : Rat) : (a + b).num.natAbs ≤ a.num.natAbs * b.den + b.num.natAbs * a.den:=by
 rw [Rat.num_add]
 refine Nat.le_trans (zeT _ _) (Nat.le_trans (Int.natAbs_add_le _ _) ?_)
 rw [Int.natAbs_mul,Int.natAbs_mul,Int.natAbs_natCast,Int.natAbs_natCast]
 exact Nat.le_refl _
theorem zkn (a b : Rat) : (a + b).den ≤ a.den * b.den:=by rw [Rat.den_add]; exact Nat.div_le_self _ _
theorem zkN (a b : Rat) : (a * b).num.natAbs ≤ a.num.natAbs * b.num.natAbs:=by
 rw [Rat.num_mul]
 refine Nat.le_trans (zeT _ _) ?_
 rw [Int.natAbs_mul]
 exact Nat.le_refl _
theorem zko (a b : Rat) : (a * b).den ≤ a.den * b.den:=by rw [Rat.den_mul]; exact Nat.div_le_self _ _
theorem zhE (p q : Int) : (Rat.divInt p q).num.natAbs ≤ p.natAbs:=by
 rw [Rat.num_divInt]
 refine Nat.le_trans (zeT _ _) ?_
 rw [Int.natAbs_mul]
 by_cases h : q = 0
 ·simp [h]
 ·rw [Int.natAbs_sign_of_ne_zero h,Nat.one_mul]; exact Nat.le_refl _
def LtQ (b : Nat) (r : Rat) : Prop:=r.num.natAbs < b ∧ r.den < b
theorem LtQ.up {b b' : Nat} {r : Rat} (h : LtQ b r) (hb : b ≤ b') : LtQ b' r:=⟨Nat.lt_of_lt_of_le h.1 hb,Nat.lt_of_lt_of_le h.2 hb⟩
theorem LtQ.add {b b' : Nat} {r s : Rat} (h : LtQ b r) (h' : LtQ b' s) : LtQ (2 * (b * b')) (r + s):=by
 have h1 : r.num.natAbs * s.den < b * b':=Nat.mul_lt_mul'' h.1 h'.2
 have h2 : s.num.natAbs * r.den < b * b':=by rw [Nat.mul_comm b b']; exact Nat.mul_lt_mul'' h'.1 h.2
 have h3 : r.den * s.den < b * b':=Nat.mul_lt_mul'' h.2 h'.2
 have h4:=zkM r s
 have h5:=zkn r s
 exact ⟨by omega,by omega⟩
theorem LtQ.mul {b b' : Nat} {r s : Rat} (h : LtQ b r) (h' : LtQ b' s) : LtQ (b * b') (r * s) :=
 ⟨Nat.lt_of_le_of_lt (zkN r s) (Nat.mul_lt_mul'' h.1 h'.1),Nat.lt_of_le_of_lt (zko r s) (Nat.mul_lt_mul'' h.2 h'.2)⟩
theorem LtQ.neg {b : Nat} {r : Rat} (h : LtQ b r) : LtQ b (-r):=⟨by rw [Rat.neg_num,Int.natAbs_neg]; exact h.1,h.2⟩
theorem LtQ.made {b : Nat} {p q : Int} (hp : p.natAbs < b) (hq : q.natAbs < b) (hb : 1 < b) : LtQ b (Rat.divInt p q):=by
 refine ⟨Nat.lt_of_le_of_lt (zhE p q) hp,?_⟩
 rw [Rat.den_divInt]
 split
 ·exact hb
 ·exact Nat.lt_of_le_of_lt (Nat.div_le_self _ _) hq
theorem LtQ.whole {b : Nat} {z : Int} (hz : z.natAbs < b) (hb : 1 < b) : LtQ b (z : Rat):=⟨by rw [Rat.num_intCast]; exact hz,by rw [Rat.den_intCast]; exact hb⟩
def zeR (r s : Rat) : Int:=if r < s then -1 else if r = s then 0 else 1
theorem zkk (r s : Rat) : zeR r s = zfO (r.num * s.den) (s.num * r.den):=by
 unfold zeR zfO
 by_cases h1 : r < s
 ·rw [if_pos h1,if_pos ((Rat.lt_iff r s).1 h1)]
 ·rw [if_neg h1,if_neg (fun h => h1 ((Rat.lt_iff r s).2 h))]
  by_cases h2 : r = s
  ·rw [if_pos h2,if_pos (Rat.eq_iff_mul_eq_mul.1 h2)]
  ·rw [if_neg h2,if_neg (fun h => h2 (Rat.eq_iff_mul_eq_mul.2 h))]
theorem cmpQ_eq (r s : Rat) : zeR r s = 0 ↔ r = s:=by
 unfold zeR
 by_cases h1 : r < s
 ·rw [if_pos h1]
  constructor
  ·intro h; omega
  ·intro h; exact absurd h (Rat.ne_of_lt h1)
 ·rw [if_neg h1]
  by_cases h2 : r = s <;> simp [h2]
def sgnQ (r : Rat) : Int:=zgn r.num
theorem made_num (p q : Int) (hq : q ≠ 0) : (Rat.divInt p q).num.natAbs = p.natAbs / Nat.gcd p.natAbs q.natAbs:=by
 rw [Rat.num_divInt,Int.gcd]
 have hd : (Nat.gcd q.natAbs p.natAbs : Int) ∣ q.sign * p:=Int.dvd_trans (Int.ofNat_dvd_left.2 (Nat.gcd_dvd_right ..)) (Int.dvd_mul_left ..)
 rw [Int.natAbs_ediv_of_dvd hd,Int.natAbs_mul,Int.natAbs_sign_of_ne_zero hq,Nat.one_mul,Int.natAbs_natCast,Nat.gcd_comm]
theorem made_den (p q : Int) (hq : q ≠ 0) : (Rat.divInt p q).den = q.natAbs / Nat.gcd p.natAbs q.natAbs:=by
 rw [Rat.den_divInt,if_neg hq,Int.gcd,Nat.gcd_comm]
theorem zmt (p q : Int) (hq : q ≠ 0) : (Rat.divInt p q).num < 0 ↔ (p < 0 ∧ 0 < q ∨ 0 < p ∧ q < 0):=by
 rw [Rat.num_divInt]
 have hg0 : 0 < (q.gcd p : Int):=by
  have : 0 < q.gcd p:=Int.gcd_pos_of_ne_zero_left p hq
  omega
 have e : q.sign * p / (q.gcd p : Int) < 0 ↔ q.sign * p < 0:=by
  constructor
  ·intro h
   refine Int.not_le.1 fun h1 => ?_
   have:=Int.ediv_nonneg h1 (Int.le_of_lt hg0)
   omega
  ·intro h
   exact Int.ediv_neg_of_neg_of_pos h hg0
 rw [e]
 rcases Int.lt_or_gt_of_ne hq with h | h
 ·rw [Int.sign_eq_neg_one_of_neg h]; omega
 ·rw [Int.sign_eq_one_of_pos h]; omega
def zcn (w : World) (x : Nat) (e : Ending) (w' : World) : Prop:=∃ (A : oA9) (n c : Nat),e = .returned (.agg #[.slice A n c]) ∧ zad w' x A n c ∧ Below w.heap.size w w'
def zim (w : World) (x y : Nat) (e : Ending) (w' : World) : Prop:=∃ (A : oA9) (n c : Nat) (B : oA9) (m d : Nat),e = .returned (.tuple #[.agg #[.slice A n c],.agg #[.slice B m d]]) ∧ zad w' x A n c ∧ zad w' y B m d ∧ Below w.heap.size w w'
theorem Sz.gcd {K K' x y : Nat} (h : Sz K x) (h' : Sz K' y) : Sz (K + K') (Nat.gcd x y):=by
 rcases Nat.eq_zero_or_pos x with e | e
 ·rw [e,Nat.gcd_zero_left]; exact h'.up (by omega)
 ·exact (h.of_le (Nat.gcd_le_left y e)).up (by omega)
structure GcdC : Prop where
 of : ∀ (x y : Nat) (A D : oA9) (n m c d : Nat) (w : World),zad w x A n c → zad w y D m d → n ≤ 1073741824 → m ≤ 1073741824 → zak w → Calls Tryz.prog 150 #[.agg #[.slice A n c],.agg #[.slice D m d]] w (zcn w (Nat.gcd x y))
 reduce : ∀ (x y : Nat) (A D : oA9) (n m c d : Nat) (w : World),zad w x A n c → zad w y D m d → n ≤ 1073741824 → m ≤ 1073741824 → zak w → Calls Tryz.prog 128 #[.agg #[.slice A n c],.agg #[.slice D m d]] w (zim w (x / Nat.gcd x y) (y / Nat.gcd x y))
section
variable {P : Program} {ops : Array Oper} {Q : Exit → Act → World → Prop} {S : World → Prop} {fuel : Nat} {l : Array Bool} {a : Act} {w : World}
theorem rcb (i j : Nat) {o p : Oper} (hk : ∀ K' : Act → World → Prop,Shut (∀ (a : Act) (w : World),S w → (S w → wpAnyH P .any ops (NoPanic Q) S fuel (l.setIfInBounds i true) a w) → K' a w) → Oper.wp P o a w K' (NoPanic Q)) (hj : ∀ K' : Act → World → Prop,Shut (∀ (a : Act) (w : World),S w → (S w → wpAnyH P .any ops (NoPanic Q) S fuel (l.setIfInBounds j true) a w) → K' a w) → Oper.wp P p a w K' (NoPanic Q)) (h1 : ops[i]? = some o:=by simp only [List.getElem?_toArray,List.getElem?_cons_succ,List.getElem?_cons_zero]; rfl) (h1' : ops[j]? = some p:=by simp only [List.getElem?_toArray,List.getElem?_cons_succ,List.getElem?_cons_zero]; rfl) (h2 : Region.ready .any ops l = [i,j]:=by kernel_rfl) (h3 : Region.wanted o (yielded ops a.tmps) = true:=by rfl) (h3' : Region.wanted p (yielded ops a.tmps) = true:=by rfl) : wpAnyH P .any ops (NoPanic Q) S (fuel + 1) l a w :=
 wpAnyH_ready h2 (by simp) (AllReadyH.cons h1 (fun K' hK => by rw [if_pos h3]; exact hk K' hK) (AllReadyH.cons h1' (fun K' hK => by rw [if_pos h3']; exact hj K' hK) AllReadyH.nil))
end
end Go.Proofs.YtedbgdlbgohiiaaGreatDoor
