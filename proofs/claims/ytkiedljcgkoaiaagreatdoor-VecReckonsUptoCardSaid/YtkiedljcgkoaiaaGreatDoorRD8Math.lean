/- What this claim leans on. -/
import Derived.Test.YtkiedljcgkoaiaaGreatDoorRMeet2
import Derived.Deep.RegionLaw
import Derived.LoopIn
import Derived.LoopNIn
import Derived.OrdersIn
import Derived.OwnWalkIn
import Derived.RangeFuncBound
import Derived.RangeFuncCalls
import Derived.RangeFuncLeaves
import Derived.RangeFuncNested
import Derived.Shelf.Abstract
import Derived.Shelf.RegionOpen
import Derived.TacticsInMore
namespace Go.Proofs.YtkiedljcgkoaiaaGreatDoor
open Go Go.RowKit
set_option maxHeartbeats 16000000
set_option linter.unusedVariables false
theorem zfa (a : Int) (g : Nat) : (a / (g : Int)).natAbs ≤ a.natAbs:=by
 rcases Nat.eq_zero_or_pos g with rfl | hg
 ·simp
 ·exact Int.natAbs_ediv_le_natAbs a g
theorem zlm (a b : Rat) : (a + b).num.natAbs ≤ a.num.natAbs * b.den + b.num.natAbs * a.den:=by
 rw [Rat.num_add]
 refine Nat.le_trans (zfa _ _) (Nat.le_trans (Int.natAbs_add_le _ _) ?_)
 rw [Int.natAbs_mul,Int.natAbs_mul,Int.natAbs_natCast,Int.natAbs_natCast]
 exact Nat.le_refl _
theorem zkY (a b : Rat) : (a + b).den ≤ a.den * b.den:=by rw [Rat.den_add]; exact Nat.div_le_self _ _
theorem zln (a b : Rat) : (a * b).num.natAbs ≤ a.num.natAbs * b.num.natAbs:=by
 rw [Rat.num_mul]
 refine Nat.le_trans (zfa _ _) ?_
 rw [Int.natAbs_mul]
 exact Nat.le_refl _
theorem zkZ (a b : Rat) : (a * b).den ≤ a.den * b.den:=by rw [Rat.den_mul]; exact Nat.div_le_self _ _
theorem zhJ (p q : Int) : (Rat.divInt p q).num.natAbs ≤ p.natAbs:=by
 rw [Rat.num_divInt]
 refine Nat.le_trans (zfa _ _) ?_
 rw [Int.natAbs_mul]
 by_cases h : q = 0
 ·simp [h]
 ·rw [Int.natAbs_sign_of_ne_zero h,Nat.one_mul]; exact Nat.le_refl _
def LtQ (b : Nat) (r : Rat) : Prop:=r.num.natAbs < b ∧ r.den < b
theorem LtQ.up {b b' : Nat} {r : Rat} (h : LtQ b r) (hb : b ≤ b') : LtQ b' r:=⟨Nat.lt_of_lt_of_le h.1 hb,Nat.lt_of_lt_of_le h.2 hb⟩
theorem LtQ.add {b b' : Nat} {r s : Rat} (h : LtQ b r) (h' : LtQ b' s) : LtQ (2 * (b * b')) (r + s):=by
 have h1 : r.num.natAbs * s.den < b * b':=Nat.mul_lt_mul'' h.1 h'.2
 have h2 : s.num.natAbs * r.den < b * b':=by rw [Nat.mul_comm b b']; exact Nat.mul_lt_mul'' h'.1 h.2
 have h3 : r.den * s.den < b * b':=Nat.mul_lt_mul'' h.2 h'.2
 have h4:=zlm r s
 have h5:=zkY r s
 exact ⟨by omega,by omega⟩
theorem LtQ.mul {b b' : Nat} {r s : Rat} (h : LtQ b r) (h' : LtQ b' s) : LtQ (b * b') (r * s) :=
 ⟨Nat.lt_of_le_of_lt (zln r s) (Nat.mul_lt_mul'' h.1 h'.1),Nat.lt_of_le_of_lt (zkZ r s) (Nat.mul_lt_mul'' h.2 h'.2)⟩
theorem LtQ.neg {b : Nat} {r : Rat} (h : LtQ b r) : LtQ b (-r):=⟨by rw [Rat.neg_num,Int.natAbs_neg]; exact h.1,h.2⟩
theorem LtQ.sub {b b' : Nat} {r s : Rat} (h : LtQ b r) (h' : LtQ b' s) : LtQ (2 * (b * b')) (r - s):=by rw [Rat.sub_eq_add_neg]; exact h.add h'.neg
theorem LtQ.made {b : Nat} {p q : Int} (hp : p.natAbs < b) (hq : q.natAbs < b) (hb : 1 < b) : LtQ b (Rat.divInt p q):=by
 refine ⟨Nat.lt_of_le_of_lt (zhJ p q) hp,?_⟩
 rw [Rat.den_divInt]
 split
 ·exact hb
 ·exact Nat.lt_of_le_of_lt (Nat.div_le_self _ _) hq
theorem LtQ.whole {b : Nat} {z : Int} (hz : z.natAbs < b) (hb : 1 < b) : LtQ b (z : Rat):=⟨by rw [Rat.num_intCast]; exact hz,by rw [Rat.den_intCast]; exact hb⟩
def zeX (r s : Rat) : Int:=if r < s then -1 else if r = s then 0 else 1
theorem zkW (r s : Rat) : zeX r s = zfJ (r.num * s.den) (s.num * r.den):=by
 unfold zeX zfJ
 by_cases h1 : r < s
 ·rw [if_pos h1,if_pos ((Rat.lt_iff r s).1 h1)]
 ·rw [if_neg h1,if_neg (fun h => h1 ((Rat.lt_iff r s).2 h))]
  by_cases h2 : r = s
  ·rw [if_pos h2,if_pos (Rat.eq_iff_mul_eq_mul.1 h2)]
  ·rw [if_neg h2,if_neg (fun h => h2 (Rat.eq_iff_mul_eq_mul.2 h))]
theorem cmpQ_eq (r s : Rat) : zeX r s = 0 ↔ r = s:=by
 unfold zeX
 by_cases h1 : r < s
 ·rw [if_pos h1]
  constructor
  ·intro h; omega
  ·intro h; exact absurd h (Rat.ne_of_lt h1)
 ·rw [if_neg h1]
  by_cases h2 : r = s <;> simp [h2]
def sgnQ (r : Rat) : Int:=zdE r.num
theorem zkf (p q : Int) (hq : q ≠ 0) : (Rat.divInt p q).num.natAbs = p.natAbs / Nat.gcd p.natAbs q.natAbs:=by
 rw [Rat.num_divInt,Int.gcd]
 have hd : (Nat.gcd q.natAbs p.natAbs : Int) ∣ q.sign * p:=Int.dvd_trans (Int.ofNat_dvd_left.2 (Nat.gcd_dvd_right ..)) (Int.dvd_mul_left ..)
 rw [Int.natAbs_ediv_of_dvd hd,Int.natAbs_mul,Int.natAbs_sign_of_ne_zero hq,Nat.one_mul,Int.natAbs_natCast,Nat.gcd_comm]
theorem zke (p q : Int) (hq : q ≠ 0) : (Rat.divInt p q).den = q.natAbs / Nat.gcd p.natAbs q.natAbs:=by
 rw [Rat.den_divInt,if_neg hq,Int.gcd,Nat.gcd_comm]
theorem zie (p q : Int) (hq : q ≠ 0) : (Rat.divInt p q).num < 0 ↔ (p < 0 ∧ 0 < q ∨ 0 < p ∧ q < 0):=by
 rw [Rat.num_divInt]
 have hg0 : 0 < (q.gcd p : Int):=by
  have : 0 < q.gcd p:=Int.gcd_pos_of_ne_zero_left p hq
  omega
 have e : q.sign * p / (q.gcd p : Int) < 0 ↔ q.sign * p < 0:=by
  constructor
  ·intro h
   refine Int.not_le.1 fun h1 => ?_
   have:=Int.ediv_nonneg h1 (Int.le_of_lt hg0)
   omega
  ·intro h
   exact Int.ediv_neg_of_neg_of_pos h hg0
 rw [e]
 rcases Int.lt_or_gt_of_ne hq with h | h
 ·rw [Int.sign_eq_neg_one_of_neg h]; omega
 ·rw [Int.sign_eq_one_of_pos h]; omega
theorem zbp {P : Program} {f : FuncId} {args : Array Value} {w : World} {z v : Int} (e : z = v) (h : Calls P f args w (zbw w z)) : Calls P f args w fun e w' => e = .returned (.int .i64 v) ∧ Below w.heap.size w w':=by
 subst e; exact h
theorem zaw {P : Program} {f : FuncId} {args : Array Value} {w : World} {b t : Bool} (e : b = t) (h : Calls P f args w fun e w' => e = .returned (.bool b) ∧ Below w.heap.size w w') : Calls P f args w fun e w' => e = .returned (.bool t) ∧ Below w.heap.size w w':=by
 subst e; exact h
theorem inew_pos {T : World → Prop} (IC : IntC T) (x : Nat) (A : oA9) (n c : Nat) (w : World) (hT : T w) (h : zag w x A n c) (hn : n ≤ 268435456) : Calls Tryz.prog 112 #[.bool false,.agg #[.slice A n c]] w (zaP w (x : Int)) :=
 IC.new false x A n c w hT h hn
theorem under_N : Tryz.prog.underlying 32 = some (.slice 3):=by kernel_rfl
set_option maxRecDepth 100000
def zmy (I : Nat → World → Prop) (k : Nat) (W : World) : Exit → Act → World → Prop:=fun e _ W' => e = .normal ∧ KeepsOthers W W' ∧ I k W'
def zgy (P : Program) (gf : Nat) (lb : Array Value) (enc : Nat → Array Value) (N : Nat) (I : Nat → World → Prop) : Prop :=
 ∀ (l : Nat) (J : Nat → World → Prop) (W : World),(∀ k W,J k W → I k W) →
  (∀ k W,k < N → J (k + 1) W → YieldAt Fence.wide 1 P l (enc k) W fun e W' => e = .returned (.bool true) ∧ J k W') →
  J N W → CallsIn Fence.wide 2 P gf (#[.func (.yield l) #[] #[]] ++ lb) W fun e W' => (∃ v,e = .returned v) ∧ J 0 W'
theorem zdH {w W : World} {I : Nat → World → Prop} {k b : Nat} {o : Obj} (hI : ∀ k,OwnFrom w.heap.size (fun (_ : Unit) W => I k W)) (h : I k W) (hb : w.heap.size ≤ b) (ho : W.heap[b]? = some o) (hc : o.isCells = false) (o' : Obj) : I k (W.putObj b o') :=
 (hI k).putObj (s:=()) o' h hb ho hc
theorem zhi {P : Program} {g : Operand} {ps : Array Tmp} {assign body : Code} {Q : Exit → Act → World → Prop} {a : Act} {w : World} {gf : Nat} {lb : Array Value} (hg : a.eval g = .func (.func gf) #[] lb)
  (eg : ∀ args w,(callFunc gf args).run P w = .ok (.enter gf args) w) (N : Nat) (enc : Nat → Array Value) (hps : ∀ k,(enc k).size = ps.size) (I : Nat → World → Prop) (hI : ∀ k,OwnFrom w.heap.size (fun (_ : Unit) W => I k W)) (h0 : I N w)
  (hiter : zgy P gf lb enc N I) (a1 : Nat → Act)
  (hassign : ∀ (l k : Nat) (W : World) (K : Act → World → Prop),K (a1 k) W → assign.wpIn (Fence.wide.inRound l) 1 P (Exit.then K (fun _ _ _ => False)) { tmps:=(ps.zip (enc k)).foldl (fun t (p,v) => t.setIfInBounds p v) a.tmps,defers:=[] } W)
  (hbody : ∀ (l k : Nat) (W : World),k < N → I (k + 1) W → body.wpIn (Fence.wide.inRound l) 1 P (zmy I k W) (a1 k) W)
  (hdone : ∀ (D : Nat) (W : World),w.heap.size ≤ D → I 0 W → W.heap[D]? = some (.deferred (some [])) → Q .normal { a with defers:={ target:=.collected D,args:=#[] } :: a.defers } W) :
  (Code.rangeFunc g ps assign body).wpIn Fence.wide 3 P Q a w:=by
 refine wpIn_rangeFunc fun fn hfn => ?_
 obtain ⟨r,hr⟩ : ∃ r : Loop,r = { state:=.ready,pending:=none,fn,tmps:=a.tmps,params:=ps,assign,body,defers:=w.heap.size }:=⟨_,rfl⟩
 obtain ⟨V,hV⟩ : ∃ V,(w.alloc (.deferred (some []))).alloc (.loop r) = V:=⟨_,rfl⟩
 have gV : w.grownBy V none:=by rw [← hV]; exact (World.grownBy_alloc w _ none).trans (World.grownBy_alloc _ _ none)
 have rV : V.heap[w.heap.size + 1]? = some (.loop r):=by
  have h:=World.alloc_heap_new (w.alloc (.deferred (some []))) (.loop r)
  rw [World.size_alloc,hV] at h
  exact h
 have dV : V.heap[w.heap.size]? = some (.deferred (some [])):=by
  have h:=World.alloc_heap_new w (.deferred (some []))
  rw [← hV,Below.heap_alloc _ _ _ (by simp)]
  exact h
 have iV : I N V:=hI N () w V none h0 gV (fun _ e => by cases e)
 refine ⟨w.heap.size + 1,[{ target:=.collected w.heap.size,args:=#[] }],V,{ target:=.fn (.func gf) lb,args:=#[.func (.yield (w.heap.size + 1)) #[] #[]] },V,gf,#[.func (.yield (w.heap.size + 1)) #[] #[]] ++ lb,V,?_,?_,fun _ _ => trivial,?_,fun _ => by omega,?_⟩
 ·rw [← hV,hr]; exact run_enterLoop_outer _ _ _ _ _
 ·simp only [resolve,hg]
  simp [go_sem]
 ·simp [invoke,go_sem,eg]
 refine (hiter (w.heap.size + 1) (fun k W => I k W ∧ W.heap[w.heap.size + 1]? = some (.loop r) ∧ W.heap[w.heap.size]? = some (.deferred (some []))) V (fun _ _ h => h.1) ?_ ⟨iV,rV,dV⟩).mono ?_
 ·rintro k W hk ⟨iW,rW,dW⟩
  have hy:=run_yield (P:=P) (args:=enc k) rW (by rw [hr]; exact hps k)
  have lt:=(Array.getElem?_eq_some_iff.1 rW).1
  obtain ⟨rb,hrb⟩ : ∃ rb : Loop,rb = { r with state:=.busy }:=⟨_,rfl⟩
  have rX : (W.putObj (w.heap.size + 1) (.loop rb)).heap[w.heap.size + 1]? = some (.loop rb):=World.putObj_heap_same lt
  have dX : (W.putObj (w.heap.size + 1) (.loop rb)).heap[w.heap.size]? = some (.deferred (some [])):=(World.putObj_heap_other (by omega)).trans dW
  have iX : I (k + 1) (W.putObj (w.heap.size + 1) (.loop rb)):=zdH hI iW (by omega) rW rfl _
  rw [hr] at hy
  refine ⟨fn,_,assign,body,hy,roundIn_of_wpIn hfn (hassign _ k W _ ⟨_,by have h:=run_beginRound (P:=P) rW (by rw [hr]); rw [← hrb] at h; exact h,?_⟩)⟩
  refine wpIn_mono (hbody _ k _ hk iX) ?_
  rintro e a3 W3 ⟨rfl,hk3,i3⟩
  have r3:=hk3.same _ _ rX rfl
  have d3:=hk3.same _ _ dX rfl
  have lt3:=(Array.getElem?_eq_some_iff.1 r3).1
  have he:=run_endRound (P:=P) none r3
  refine ⟨_,_,he,rfl,zdH hI i3 (by omega) r3 rfl _,?_,(World.putObj_heap_other (by omega)).trans d3⟩
  rw [World.putObj_heap_same lt3,hrb,hr]
  rfl
 ·rintro e W2 ⟨⟨v,rfl⟩,i2,r2,d2⟩
  have he:=run_endLoop (P:=P) r2 (by rw [hr]; simp)
  rw [show r.pending = none from by rw [hr]] at he
  exact ⟨none,_,he,hdone _ _ (Nat.le_refl _) (zdH hI i2 (by omega) r2 rfl _) ((World.putObj_heap_other (by omega)).trans d2)⟩
attribute [local go_sem] Oper.semAt_some
theorem zeg (Bs len cap : Nat) (A : oA9) (v : Nat → Nat) (I : Nat → World → Prop) (hlen : len ≤ 1099511627776)
  (hIb : ∀ k W,I k W → W.cell? ⟨Bs,0,none⟩ = some (.slice A len cap)) (hIc : ∀ k W,k < len → I (k + 1) W → ∃ ad,A = some ad ∧ W.cell? (ad.add k) = some (.int .u64 (v k : Int))) :
  zgy Tryz.prog 154 #[.pointer (some ⟨Bs,0,none⟩)] (fun k => #[.int .i64 (k : Int),.int .u64 (v k : Int)]) len I:=by
 intro l J W hJ hY h0
 have hb0:=hIb _ _ (hJ _ _ h0)
 have HB:=lh9 (fun k W (h : J k W) => hIb k W (hJ k W h))
 have HC:=lh9 (fun k W (hk : k < len) (h : J (k + 1) W) => hIc k W hk (hJ _ _ h))
 have HY:=lh9 hY
 have H0:=lh9 h0
 have hw1 : IntKind.i64.wrap ((len : Int) - 1) = (len : Int) - 1:=by rw [IntKind.wrap_i64]; omega
 clear hJ hY h0 hIb hIc
 refine callsIn_of_wp Tryz.func154 rfl trivial ?_ rfl
 simp only [Tryz.ntmps154,List.size_toArray,List.length_cons,List.length_nil,Nat.reduceAdd,Nat.reduceSub,Array.replicate_succ,Array.replicate_zero,List.push_toArray,List.append_toArray,List.nil_append,List.cons_append]
 gi_wp2
 clear hb0 hw1
 gi_loopw [3] (fun i wr => ∃ k : Nat,k ≤ len ∧ i = .int .i64 ((k : Int) - 1) ∧ J k wr) (fun i _ => (intOf i + 1).toNat)
 case atStart => exact ⟨len,Nat.le_refl _,rfl,H0.out⟩
 case round =>
  obtain ⟨k,hk,rfl,hJs⟩:=hrel
  have hb:=HB.out _ _ hJs
  rcases k with _ | k
  ·rw [show ((0 : Nat) : Int) - 1 = -1 from by decide]
   clear hb
   gi_wp2
   go_end0
   exact ⟨⟨_,rfl⟩,hJs⟩
  ·obtain ⟨ad,rfl,hc⟩:=HC.out k wr hk hJs
   obtain ⟨fn,tmps,assign,body,hy,hR⟩:=HY.out k wr hk hJs
   rw [show ((k + 1 : Nat) : Int) - 1 = (k : Int) from by omega]
   have i1 : (0 : Int) ≤ (k : Int):=by omega
   have i2 : (k : Int) < (len : Int):=by omega
   have i3 : IntKind.i64.wrap ((k : Int) - 1) = (k : Int) - 1:=by rw [IntKind.wrap_i64]; omega
   obtain ⟨z,hz⟩ : ∃ z,v k = z:=⟨_,rfl⟩
   try dsimp only at hy
   rw [hz] at hc hy
   clear hz hJs
   gi_wp2
   refine hR.mono ?_
   rintro e W3 ⟨rfl,hJ3⟩
   gi_wp2
   go_roundw
   case rel => exact ⟨k,by omega,rfl,hJ3⟩
   case measure => simp [intOf]
theorem zdt (A : oA9) (len cap : Nat) (w : World) :
  Calls Tryz.prog 149 #[.slice A len cap] w fun e w' => e = .returned (.func (.func 154) #[] #[.pointer (some ⟨w.heap.size,0,none⟩)]) ∧ w.alloc (.cells #[.slice A len cap] 38) = w':=by
 go_enter Tryz.func149,Tryz.ntmps149
 go_wp2
 go_ret
 exact ⟨rfl,rfl⟩
section
variable {P : Program} {md : Region.Mode} {ops : Array Oper} {Q : Exit → Act → World → Prop} {l n : Nat}
theorem zky {f : FuncId} {args : Array Value} {w : World} {R R' : Ending → World → Prop} (h : Calls P f args w R) (hr : ∀ e w,R e w → R' e w) : CallsIn (Fence.wide.inRound l) n P f args w R' :=
 CallsIn.inRound l (callsIn_wide.2 (h.mono hr))
theorem zlB {row : String} {args : Array Value} {w : World} {R R' : Value → World → Prop} (h : Rows P row args w R) (hr : ∀ e w,R e w → R' e w) : RowsIn (Fence.wide.inRound l) n P row args w R' :=
 fun c cs _ => let ⟨v,w',r,s⟩:=h c cs; ⟨v,w',hr _ _ r,stepsIn_wide.2 s⟩
theorem round_op {o : Oper} {a : Act} {w : World} {K K' : Act → World → Prop} (hd : ∀ c,o.op ≠ .defer c) (hK : ∀ a w,K a w → K' a w) (h : o.wp P a w K Q) : o.wpIn (Fence.wide.inRound l) n P a w K' Q:=by
 refine ⟨fun _ _ => trivial,?_⟩
 rw [Oper.semAt_eq _ _ _ hd]
 unfold Oper.wp at h
 generalize (execOp a.eval o).run P w = r at h ⊢
 cases r with
 | ok x w' =>
   cases x <;> simp only [Oper.upon,Oper.uponIn] at h ⊢ <;>
    first
     | exact hK _ _ h
     | exact ⟨fun e => by simp [Fence.wide] at e,zky h (fun e w'' he => by cases e <;> first | exact hK _ _ he | exact he)⟩
     | exact ⟨fun e => by simp [Fence.wide] at e,zlB h (fun _ _ he => hK _ _ he)⟩
     | exact h.elim
 | halt x w' => cases x <;> simp only [Oper.upon,Oper.uponIn] at h ⊢ <;> exact h
theorem zeO (hd : ∀ (i : Nat) (o : Oper),ops[i]? = some o → ∀ c,o.op ≠ .defer c) (hQ : ¬ LetsOut Q) : ∀ (fuel : Nat) (listed : Array Bool) (a : Act) (w : World),wpAny P md ops Q fuel listed a w → wpAnyIn (Fence.wide.inRound l) n P md ops Q fuel listed a w
 | 0,_,_,_,h => h
 | fuel + 1,listed,a,w,h => by
   refine ⟨h.1,fun i hi => ?_⟩
   have h2:=h.2 i hi
   unfold wpOp at h2
   unfold wpOpIn
   cases ho : ops[i]? with
   | none => rw [ho] at h2; exact zeO hd hQ fuel _ _ _ h2
   | some o =>
     rw [ho] at h2
     simp only at h2 ⊢
     split
     ·rename_i hw
      rw [if_pos hw] at h2
      rcases h2 with h2 | h2
      ·exact round_op (hd i o ho) (zeO hd hQ fuel _) h2
      ·exact absurd h2.2 hQ
     ·rename_i hw
      rw [if_neg hw] at h2
      exact ⟨fun _ _ => trivial,zeO hd hQ fuel _ _ _ h2⟩
def zme (ops : Array Oper) : Bool:=ops.all fun o => match o.op with | .defer _ => false | _ => true
theorem ziV (h : zme ops = true) (i : Nat) (o : Oper) (ho : ops[i]? = some o) (c : Call) : o.op ≠ .defer c:=by
 intro e
 have h1:=Array.all_eq_true.1 h i (Array.getElem?_eq_some_iff.1 ho).1
 rw [(Array.getElem?_eq_some_iff.1 ho).2,e] at h1
 cases h1
theorem zfA {id : Nat} {a : Act} {w : World} {S : World → Prop} (hm : P.follows .mixedOrders = true) (hd : zme ops = true) (hQ : ∀ a w,¬ Q .outgrown a w) (hS : S w.drew)
  (h : S w.drew → wpAnyH P .any ops Q S ops.size (Array.replicate ops.size false) a w.drew) : (Code.region id ops true).wpIn (Fence.wide.inRound l) n P Q a w :=
 wpIn_region_any hm (zeO (ziV hd) (fun ⟨a,w,h⟩ => hQ a w h) _ _ _ _ (wpAny_of_held _ _ _ _ (h hS)))
end
theorem zbf {B b : Nat} {t : TypeId} {cs : Array Value} {W W' : World} {row : Option Nat} (h : Blk W b t cs) (hg : W.grownBy W' row) (hr : ∀ r,row = some r → B ≤ r ∧ ∃ o : Obj,W.heap[r]? = some o ∧ o.isCells = false) : Blk W' b t cs :=
 h.grown hg (fun e => by
  obtain ⟨_,o,ho,hc⟩:=hr b e.symm
  rw [show W.heap[b]? = _ from h] at ho
  cases ho
  cases hc)
theorem zdO {B B0 : Nat} {w W W' : World} {row : Option Nat} (h : Below B0 w W) (h0 : B0 ≤ w.heap.size) (hB : B0 ≤ B) (hg : W.grownBy W' row) (hr : ∀ r,row = some r → B ≤ r ∧ ∃ o : Obj,W.heap[r]? = some o ∧ o.isCells = false) : Below B0 w W' :=
 h.grown hg (Nat.le_trans h0 h.size) (fun r e => Nat.le_trans hB (hr r e).1)
set_option linter.unusedSimpArgs false
def Aside (v : Value) (B : oA9) (m : Nat) : Prop:=0 < m → ∀ ad,B = some ad → v.ownBlock ≠ some ad.block
theorem Aside.words {w w' : World} {v v' : Value} {x m d : Nat} {B : oA9} (h : Aside v B m) (hx : zag w x B m d) (hg : zfH w v w' v') : zag w' x B m d ∧ Aside v' B m:=by
 refine ⟨zgh hx hg.grown (fun hm ad e => (h hm ad e).symm),fun hm ad e => ?_⟩
 rcases hg.at_ with h1 | h1
 ·rw [h1]; exact h hm ad e
 ·intro h2
  have:=h1 _ h2
  obtain ⟨ad',e',hb,_⟩:=hx.1.2 hm
  rw [e] at e'
  injection e' with e'
  subst e'
  omega
theorem zfH.blk {w w' : World} {v v' : Value} {base g n : Nat} {t e : TypeId} {cs : Array Value} {vs : List Value} (h : zfH w v w' v') (hv : w.ownsRow base e 1 v n vs) (hk : Blk w g t cs) (hg : g < base) : Blk w' g t cs :=
 hk.grown h.grown (fun e => by have:=(hv.lt g e.symm).1; omega)
def zfo (x y : Nat) (D : List Nat) : Prop:=Dgs 10 D ∧ dv 10 D + 10 ^ D.length * y = x
theorem zfo.start (x : Nat) : zfo x x []:=⟨fun d hd => by simp at hd,by simp [dv]⟩
theorem zfo.step {x y : Nat} {D : List Nat} (h : zfo x y D) : zfo x (y / 10000000000000000000) (D ++ lowD 19 (y % 10000000000000000000)):=by
 refine ⟨h.1.append (lowD_dgs _ _),?_⟩
 rw [zaY,List.length_append,zkd,zlY,Nat.pow_add,show (10 : Nat) ^ 19 = 10000000000000000000 from rfl,Nat.mod_mod,Nat.mul_assoc,Nat.add_assoc,← Nat.mul_add,Nat.mod_add_div]
 exact h.2
theorem zfo.done {x : Nat} {D : List Nat} (h : zfo x 0 D) : dv 10 D = x:=by have:=h.2; simpa using this
theorem zfo.len {x y : Nat} {D : List Nat} (h : zfo x y D) (hy : y ≠ 0) : 10 ^ D.length ≤ x:=by
 have:=h.2
 have h1 : 10 ^ D.length * 1 ≤ 10 ^ D.length * y:=Nat.mul_le_mul_left _ (by omega)
 omega
theorem zcZ {w : World} {g : Nat} (h : Blk w g 3 #[.int .i64 1]) : zaj w 1 (some ⟨g,0,none⟩) 1 1:=by
 have e : dg 65536 1 = [1]:=by
  rw [zdj (by decide) (by decide)]
  rfl
 refine ⟨?_,Nat.le_refl _,by omega⟩
 rw [e]
 refine ⟨rfl,fun _ => ⟨_,rfl,h.lt,fun j u hu => ?_⟩⟩
 match j,hu with
 | 0,hu => simp [zat] at hu; subst hu; exact h.cell 0
end Go.Proofs.YtkiedljcgkoaiaaGreatDoor
