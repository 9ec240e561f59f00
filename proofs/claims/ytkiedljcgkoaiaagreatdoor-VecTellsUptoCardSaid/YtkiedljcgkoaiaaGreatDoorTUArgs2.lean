/- What this claim leans on. -/
import Derived.Test.YtkiedljcgkoaiaaGreatDoorTBunQ
import Derived.Deep.Matrix
import Derived.Deep.RegionLaw
import Derived.Laws.BytesArg
import Derived.LoopIn
import Derived.LoopNIn
import Derived.OrdersHeld
import Derived.OrdersIn
import Derived.OwnWalkIn
import Derived.RangeFuncBound
import Derived.RangeFuncCalls
import Derived.RangeFuncLeaves
import Derived.RangeFuncNested
import Derived.Shelf.Abstract
import Derived.Shelf.RegionOpen
import Derived.TacticsInMore
namespace Go.Proofs.YtkiedljcgkoaiaaGreatDoor
open Go Go.RowKit
open Go.ChangeShapes Go.WideShapes Go.ChangeAt Go.Deep
set_option maxHeartbeats 16000000
set_option linter.unusedVariables false
namespace UA
set_option maxHeartbeats 16000000
theorem mem_le {H : Type} {d : DataW H} {l : List (DataW H)} (h : d ∈ l) : Rows.uptoBulk d ≤ Rows.uptoBulkAll l:=by
 induction l with
 | nil => cases h
 | cons x r ih =>
   simp only [Rows.uptoBulkAll]
   rcases List.mem_cons.1 h with rfl | h
   ·omega
   ·have:=ih h; omega
end UA
end Go.Proofs.YtkiedljcgkoaiaaGreatDoor
namespace Go.Proofs.YtkiedljcgkoaiaaGreatDoor
open Go Go.RowKit
set_option maxHeartbeats 16000000
set_option linter.unusedVariables false
end Go.Proofs.YtkiedljcgkoaiaaGreatDoor
namespace Go.Proofs.YtkiedljcgkoaiaaGreatDoor
open Go Go.RowKit
set_option maxHeartbeats 16000000
set_option linter.unusedVariables false
end Go.Proofs.YtkiedljcgkoaiaaGreatDoor
namespace Go.Proofs.YtkiedljcgkoaiaaGreatDoor
open Go Go.RowKit
set_option maxHeartbeats 16000000
set_option linter.unusedVariables false
end Go.Proofs.YtkiedljcgkoaiaaGreatDoor
namespace Go.Proofs.YtkiedljcgkoaiaaGreatDoor
open Go Go.RowKit
set_option maxHeartbeats 16000000
set_option linter.unusedVariables false
def zdA (x y : Int) : Int:=if x < y then -1 else if x = y then 0 else 1
theorem zfD (x y : Int) : zdA x y = 0 ↔ x = y:=by unfold zdA; split <;> (try split) <;> omega
def zfU (x : Int) : Int:=if x < 0 then -1 else if x = 0 then 0 else 1
end Go.Proofs.YtkiedljcgkoaiaaGreatDoor
namespace Go.Proofs.YtkiedljcgkoaiaaGreatDoor
open Go Go.RowKit
set_option maxHeartbeats 16000000
set_option linter.unusedVariables false
theorem zfh (a : Int) (g : Nat) : (a / (g : Int)).natAbs ≤ a.natAbs:=by
 rcases Nat.eq_zero_or_pos g with rfl | hg
 ·simp
 ·exact Int.natAbs_ediv_le_natAbs a g
theorem zlw (a b : Rat) : (a + b).num.natAbs ≤ a.num.natAbs * b.den + b.num.natAbs * a.den:=by
 rw [Rat.num_add]
 refine Nat.le_trans (zfh _ _) (Nat.le_trans (Int.natAbs_add_le _ _) ?_)
 rw [Int.natAbs_mul,Int.natAbs_mul,Int.natAbs_natCast,Int.natAbs_natCast]
 exact Nat.le_refl _
theorem zlg (a b : Rat) : (a + b).den ≤ a.den * b.den:=by rw [Rat.den_add]; exact Nat.div_le_self _ _
theorem zlx (a b : Rat) : (a * b).num.natAbs ≤ a.num.natAbs * b.num.natAbs:=by
 rw [Rat.num_mul]
 refine Nat.le_trans (zfh _ _) ?_
 rw [Int.natAbs_mul]
 exact Nat.le_refl _
theorem zlh (a b : Rat) : (a * b).den ≤ a.den * b.den:=by rw [Rat.den_mul]; exact Nat.div_le_self _ _
theorem zhX (p q : Int) : (Rat.divInt p q).num.natAbs ≤ p.natAbs:=by
 rw [Rat.num_divInt]
 refine Nat.le_trans (zfh _ _) ?_
 rw [Int.natAbs_mul]
 by_cases h : q = 0
 ·simp [h]
 ·rw [Int.natAbs_sign_of_ne_zero h,Nat.one_mul]; exact Nat.le_refl _
def LtQ (b : Nat) (r : Rat) : Prop:=r.num.natAbs < b ∧ r.den < b
theorem LtQ.up {b b' : Nat} {r : Rat} (h : LtQ b r) (hb : b ≤ b') : LtQ b' r:=⟨Nat.lt_of_lt_of_le h.1 hb,Nat.lt_of_lt_of_le h.2 hb⟩
theorem LtQ.add {b b' : Nat} {r s : Rat} (h : LtQ b r) (h' : LtQ b' s) : LtQ (2 * (b * b')) (r + s):=by
 have h1 : r.num.natAbs * s.den < b * b':=Nat.mul_lt_mul'' h.1 h'.2
 have h2 : s.num.natAbs * r.den < b * b':=by rw [Nat.mul_comm b b']; exact Nat.mul_lt_mul'' h'.1 h.2
 have h3 : r.den * s.den < b * b':=Nat.mul_lt_mul'' h.2 h'.2
 have h4:=zlw r s
 have h5:=zlg r s
 exact ⟨by omega,by omega⟩
theorem LtQ.mul {b b' : Nat} {r s : Rat} (h : LtQ b r) (h' : LtQ b' s) : LtQ (b * b') (r * s) :=
 ⟨Nat.lt_of_le_of_lt (zlx r s) (Nat.mul_lt_mul'' h.1 h'.1),Nat.lt_of_le_of_lt (zlh r s) (Nat.mul_lt_mul'' h.2 h'.2)⟩
theorem LtQ.neg {b : Nat} {r : Rat} (h : LtQ b r) : LtQ b (-r):=⟨by rw [Rat.neg_num,Int.natAbs_neg]; exact h.1,h.2⟩
theorem LtQ.made {b : Nat} {p q : Int} (hp : p.natAbs < b) (hq : q.natAbs < b) (hb : 1 < b) : LtQ b (Rat.divInt p q):=by
 refine ⟨Nat.lt_of_le_of_lt (zhX p q) hp,?_⟩
 rw [Rat.den_divInt]
 split
 ·exact hb
 ·exact Nat.lt_of_le_of_lt (Nat.div_le_self _ _) hq
theorem LtQ.whole {b : Nat} {z : Int} (hz : z.natAbs < b) (hb : 1 < b) : LtQ b (z : Rat):=⟨by rw [Rat.num_intCast]; exact hz,by rw [Rat.den_intCast]; exact hb⟩
def zem (r s : Rat) : Int:=if r < s then -1 else if r = s then 0 else 1
theorem zhb (r s : Rat) : zem r s = zdA (r.num * s.den) (s.num * r.den):=by
 unfold zem zdA
 by_cases h1 : r < s
 ·rw [if_pos h1,if_pos ((Rat.lt_iff r s).1 h1)]
 ·rw [if_neg h1,if_neg (fun h => h1 ((Rat.lt_iff r s).2 h))]
  by_cases h2 : r = s
  ·rw [if_pos h2,if_pos (Rat.eq_iff_mul_eq_mul.1 h2)]
  ·rw [if_neg h2,if_neg (fun h => h2 (Rat.eq_iff_mul_eq_mul.2 h))]
theorem zmc (r s : Rat) : zem r s = 0 ↔ r = s:=by
 unfold zem
 by_cases h1 : r < s
 ·rw [if_pos h1]
  constructor
  ·intro h; omega
  ·intro h; exact absurd h (Rat.ne_of_lt h1)
 ·rw [if_neg h1]
  by_cases h2 : r = s <;> simp [h2]
def sgnQ (r : Rat) : Int:=zfU r.num
theorem zkg (p q : Int) (hq : q ≠ 0) : (Rat.divInt p q).num.natAbs = p.natAbs / Nat.gcd p.natAbs q.natAbs:=by
 rw [Rat.num_divInt,Int.gcd]
 have hd : (Nat.gcd q.natAbs p.natAbs : Int) ∣ q.sign * p:=Int.dvd_trans (Int.ofNat_dvd_left.2 (Nat.gcd_dvd_right ..)) (Int.dvd_mul_left ..)
 rw [Int.natAbs_ediv_of_dvd hd,Int.natAbs_mul,Int.natAbs_sign_of_ne_zero hq,Nat.one_mul,Int.natAbs_natCast,Nat.gcd_comm]
theorem zkf (p q : Int) (hq : q ≠ 0) : (Rat.divInt p q).den = q.natAbs / Nat.gcd p.natAbs q.natAbs:=by
 rw [Rat.den_divInt,if_neg hq,Int.gcd,Nat.gcd_comm]
theorem ziu (p q : Int) (hq : q ≠ 0) : (Rat.divInt p q).num < 0 ↔ (p < 0 ∧ 0 < q ∨ 0 < p ∧ q < 0):=by
 rw [Rat.num_divInt]
 have hg0 : 0 < (q.gcd p : Int):=by
  have : 0 < q.gcd p:=Int.gcd_pos_of_ne_zero_left p hq
  omega
 have e : q.sign * p / (q.gcd p : Int) < 0 ↔ q.sign * p < 0:=by
  constructor
  ·intro h
   refine Int.not_le.1 fun h1 => ?_
   have:=Int.ediv_nonneg h1 (Int.le_of_lt hg0)
   omega
  ·intro h
   exact Int.ediv_neg_of_neg_of_pos h hg0
 rw [e]
 rcases Int.lt_or_gt_of_ne hq with h | h
 ·rw [Int.sign_eq_neg_one_of_neg h]; omega
 ·rw [Int.sign_eq_one_of_pos h]; omega
end Go.Proofs.YtkiedljcgkoaiaaGreatDoor
namespace Go.Proofs.YtkiedljcgkoaiaaGreatDoor
open Go Go.RowKit
set_option maxHeartbeats 16000000
theorem under_N : Tryz.prog.underlying 32 = some (.slice 3):=by kernel_rfl
end Go.Proofs.YtkiedljcgkoaiaaGreatDoor
namespace Go.Proofs.YtkiedljcgkoaiaaGreatDoor
open Go Go.RowKit
set_option maxHeartbeats 16000000
set_option linter.unusedVariables false
def zbM (w : World) (t : TypeId) (g cap n : Nat) (L : List Nat) : Prop :=
 ∃ cur,Blk w g t cur ∧ n ≤ cap ∧ cap ≤ maxLen ∧ cur.size = cap ∧ L.length = n ∧ cur.toList.take n = zar .u8 L
section
variable {w w' : World} {t : TypeId} {g cap n : Nat} {L : List Nat}
theorem zbM.len (h : zbM w t g cap n L) : L.length = n:=by obtain ⟨_,_,_,_,_,h,_⟩:=h; exact h
theorem zbM.room (h : zbM w t g cap n L) : n ≤ cap ∧ cap ≤ maxLen:=by obtain ⟨_,_,h,h2,_⟩:=h; exact ⟨h,h2⟩
theorem zbM.lt (h : zbM w t g cap n L) : g < w.heap.size:=by obtain ⟨_,h,_⟩:=h; exact h.lt
theorem zbM.cell (h : zbM w t g cap n L) (k : Nat) (hk : k < n) : w.cell? ⟨g,k,none⟩ = some (.int .u8 (L.getD k 0 : Nat)):=by
 obtain ⟨cur,hb,h1,h2,h3,h4,h5⟩:=h
 rw [hb.cell k,← Array.getElem?_toList,← zci .u8 L k (by omega),← h5,List.getElem?_take,if_pos hk]
theorem zbM.frozen (h : zbM w t g cap n L) (k : Nat) : w.frozen? ⟨g,k,none⟩ = false:=by
 obtain ⟨cur,hb,_⟩:=h
 exact hb.frozen k
theorem zbM.set_ (h : zbM w t g cap n L) (k d : Nat) (hk : k < n) : zbM (w.setCell ⟨g,k,none⟩ (.int .u8 (d : Int))) t g cap n (L.set k d):=by
 obtain ⟨cur,hb,h1,h2,h3,h4,h5⟩:=h
 refine ⟨_,hb.set_ k _,h1,h2,by simpa using h3,by simpa using h4,?_⟩
 rw [Array.toList_setIfInBounds,List.take_set,h5]
 unfold zar
 rw [List.map_set]
theorem zbM.below {B : Nat} (h : zbM w t g cap n L) (hb : Below B w w') (hg : g < B) : zbM w' t g cap n L:=by
 obtain ⟨cur,h0,h1⟩:=h
 exact ⟨cur,h0.below hb hg,h1⟩
theorem zbM.keep (h : zbM w t g cap n L) (hb : Below w.heap.size w w') : zbM w' t g cap n L:=h.below hb h.lt
theorem zbM.drew (h : zbM w t g cap n L) : zbM w.drew t g cap n L:=h
theorem zbM.alloc (h : zbM w t g cap n L) (o : Obj) : zbM (w.alloc o) t g cap n L:=by
 obtain ⟨cur,h0,h1⟩:=h
 exact ⟨cur,h0.alloc o,h1⟩
theorem zbM.far (h : zbM w t g cap n L) {p : Addr} (hp : g ≠ p.block) (u : Value) : zbM (w.setCell p u) t g cap n L:=by
 obtain ⟨cur,h0,h1⟩:=h
 exact ⟨cur,h0.far hp u,h1⟩
theorem zbM.reads (h : zbM w t g cap n L) : zaq w w.heap.size 1 (some ⟨g,0,none⟩) n (zar .u8 L):=by
 have hl:=h.lt
 have hc:=h.cell
 have hn:=h.len
 refine ⟨by rw [zax]; omega,fun _ => ⟨_,rfl,hl,fun j u hu => ?_⟩⟩
 have hj : j < L.length:=by
  rcases Nat.lt_or_ge j L.length with hj | hj
  ·exact hj
  ·rw [List.getElem?_eq_none (by rw [zax]; exact hj)] at hu; cases hu
 have e : (⟨g,0,none⟩ : Addr).add j = ⟨g,j,none⟩:=by unfold Addr.add; split <;> simp_all
 rw [e,hc j (by omega),← zci .u8 L j hj,hu]
theorem zbM.own (h : zbM w t g cap n L) {base : Nat} (hb : base ≤ g) : w.ownsRow base t 1 (.slice (some ⟨g,0,none⟩) n cap) n (zar .u8 L):=by
 obtain ⟨cur,h0,h1,h2,h3,h4,h5⟩:=h
 exact ⟨by rw [zax]; omega,.inr ⟨g,cap,cur,rfl,hb,h0,h1,h2,by omega,by rw [Nat.mul_one]; exact h5⟩⟩
theorem zbM.made (w : World) (t : TypeId) (N : Nat) (hN : N ≤ maxLen) : zbM (w.alloc (.cells (madeCells (Value.cells (.int .u8 0)) N) t)) t w.heap.size N N (List.replicate N 0):=by
 refine ⟨_,Blk.new w t _,Nat.le_refl _,hN,size_madeCells _ _,by simp,?_⟩
 show (madeCells #[Value.int .u8 0] N).toList.take N = _
 rw [toList_madeCells_one,List.take_of_length_le (by simp)]
 simp [zar]
theorem zbM.of_own {base : Nat} {v : Value} {l : List Nat} (h : w.ownsRow base t 1 v n (zar .u8 l)) (hn : 0 < n) : ∃ g cap,v = .slice (some ⟨g,0,none⟩) n cap ∧ base ≤ g ∧ zbM w t g cap n l:=by
 obtain ⟨h1,h2⟩:=h
 rcases h2 with ⟨_,h⟩ | ⟨g,cap,cur,e,hb,hk,a,b,c,d⟩
 ·omega
 ·refine ⟨g,cap,e,hb,cur,hk,a,b,by omega,by rw [zax] at h1; omega,?_⟩
  rw [Nat.mul_one] at d
  exact d
end
end Go.Proofs.YtkiedljcgkoaiaaGreatDoor
namespace Go.Proofs.YtkiedljcgkoaiaaGreatDoor
open Go Go.RowKit
set_option maxHeartbeats 16000000
set_option maxRecDepth 100000
set_option linter.unusedVariables false
set_option linter.unusedSimpArgs false
end Go.Proofs.YtkiedljcgkoaiaaGreatDoor
namespace Go.Proofs.YtkiedljcgkoaiaaGreatDoor
open Go Go.RowKit
set_option maxHeartbeats 16000000
set_option maxRecDepth 100000
set_option linter.unusedVariables false
set_option linter.unusedSimpArgs false
structure zga (w : World) (v : Value) (w' : World) (v' : Value) : Prop where
 grown : w.grownBy w' v.ownBlock
 at_ : v'.ownBlock = v.ownBlock ∨ ∀ g,v'.ownBlock = some g → w.heap.size ≤ g
theorem zga.refl (w : World) (v : Value) : zga w v w v:=⟨World.grownBy.refl _ _,.inl rfl⟩
theorem zga.alloc (w : World) (v : Value) (o : Obj) : zga w v (w.alloc o) v:=⟨World.grownBy_alloc w o _,.inl rfl⟩
theorem zga.trans {w w1 w2 : World} {v v1 v2 : Value} (h : zga w v w1 v1) (k : zga w1 v1 w2 v2) : zga w v w2 v2:=by
 refine ⟨⟨k.grown.os.trans h.grown.os,k.grown.tape.trans h.grown.tape,k.grown.output.trans h.grown.output,Nat.le_trans h.grown.size k.grown.size,fun i hi hne => ?_⟩,?_⟩
 ·refine (k.grown.block i (Nat.lt_of_lt_of_le hi h.grown.size) (fun e => ?_)).trans (h.grown.block i hi hne)
  rcases h.at_ with h1 | h1
  ·exact hne (by rw [e,h1])
  ·have:=h1 i e.symm; omega
 ·rcases k.at_ with k1 | k1
  ·rw [k1]; exact h.at_
  ·exact .inr fun g hg => Nat.le_trans h.grown.size (k1 g hg)
theorem zga.below {w w' : World} {v : Value} (hb : Below w.heap.size w w') : zga w v w' v:=⟨⟨hb.os,hb.tape,hb.output,hb.size,fun i hi _ => hb.block i hi⟩,.inl rfl⟩
def lowD (n p : Nat) : List Nat:=(List.range n).map fun k => p / 10 ^ k % 10
theorem zke (n p : Nat) : (lowD n p).length = n:=by simp [lowD]
theorem zne (n p : Nat) : lowD (n + 1) p = lowD n p ++ [p / 10 ^ n % 10]:=by simp [lowD,List.range_succ]
theorem lowD_dgs (n p : Nat) : Dgs 10 (lowD n p):=by
 intro d hd
 obtain ⟨j,_,rfl⟩:=List.mem_map.1 hd
 exact Nat.mod_lt _ (by decide)
theorem zmn (p : Nat) : ∀ n,dv 10 (lowD n p) = p % 10 ^ n
 | 0 => by simp [lowD,dv,Nat.mod_one]
 | n + 1 => by rw [zne,zbf,zmn p n,zke,zaG 10 p n]
end Go.Proofs.YtkiedljcgkoaiaaGreatDoor
namespace Go.Proofs.YtkiedljcgkoaiaaGreatDoor
open Go Go.RowKit
set_option maxHeartbeats 16000000
set_option maxRecDepth 100000
set_option linter.unusedVariables false
set_option linter.unusedSimpArgs false
theorem zjR (l : List Nat) (i k a : Nat) : (l.set i a).getD k 0 = if i = k ∧ k < l.length then a else l.getD k 0:=by
 simp only [List.getD_eq_getElem?_getD,List.getElem?_set]
 by_cases h : i = k
 ·subst h
  by_cases h2 : i < l.length
  ·simp [h2]
  ·simp [h2]
 ·simp [h]
def zgX (L : List Nat) (i : Nat) (M : List Nat) : Prop:=M.length = L.length ∧ ∀ j,j < L.length → M.getD j 0 = if j < i ∨ L.length ≤ j + i then L.getD (L.length - 1 - j) 0 else L.getD j 0
theorem zgX.start (L : List Nat) : zgX L 0 L:=⟨rfl,fun j hj => by rw [if_neg (by omega)]⟩
theorem zgX.step {L M : List Nat} {i j : Nat} (h : zgX L i M) (hij : i + j + 1 = L.length) (hlt : i < j) : zgX L (i + 1) ((M.set i (M.getD j 0)).set j (M.getD i 0)):=by
 obtain ⟨h1,h2⟩:=h
 refine ⟨by simpa using h1,fun k hk => ?_⟩
 rw [zjR,zjR,List.length_set,h1]
 by_cases hkj : j = k
 ·subst hkj
  rw [if_pos ⟨rfl,hk⟩,if_pos (by omega),h2 i (by omega),if_neg (by omega)]
  congr 1; omega
 ·rw [if_neg (by omega)]
  by_cases hki : i = k
  ·subst hki
   rw [if_pos ⟨rfl,hk⟩,if_pos (by omega),h2 j (by omega),if_neg (by omega)]
   congr 1; omega
  ·rw [if_neg (by omega),h2 k hk]
   by_cases hc : k < i ∨ L.length ≤ k + i
   ·rw [if_pos hc,if_pos (by omega)]
   ·rw [if_neg hc,if_neg (by omega)]
theorem zgX.done {L M : List Nat} {i j : Nat} (h : zgX L i M) (hij : i + j + 1 = L.length) (hle : j ≤ i) : M = L.reverse:=by
 obtain ⟨h1,h2⟩:=h
 refine List.ext_getElem (by simpa using h1) fun k hk hk2 => ?_
 have h3:=h2 k (by omega)
 rw [List.getD_eq_getElem?_getD,List.getElem?_eq_getElem hk] at h3
 rw [List.getElem_reverse]
 have e1 : L[L.length - 1 - k]'(by omega) = L.getD (L.length - 1 - k) 0:=by rw [List.getD_eq_getElem?_getD,List.getElem?_eq_getElem (by omega)]; rfl
 rw [e1]
 refine Eq.trans h3 ?_
 by_cases hc : k < i ∨ L.length ≤ k + i
 ·rw [if_pos hc]
 ·rw [if_neg hc]
  congr 1; omega
theorem Off.drew {g : Nat} {w w' : World} (h : Off g w w') : Off g w w'.drew:=⟨h.os,h.tape,h.output,h.size,h.block⟩
end Go.Proofs.YtkiedljcgkoaiaaGreatDoor
namespace Go.Proofs.YtkiedljcgkoaiaaGreatDoor
open Go Go.RowKit
set_option maxHeartbeats 16000000
set_option maxRecDepth 100000
set_option linter.unusedVariables false
set_option linter.unusedSimpArgs false
def Aside (v : Value) (B : oA9) (m : Nat) : Prop:=0 < m → ∀ ad,B = some ad → v.ownBlock ≠ some ad.block
theorem Aside.words {w w' : World} {v v' : Value} {x m d : Nat} {B : oA9} (h : Aside v B m) (hx : zag w x B m d) (hg : zga w v w' v') : zag w' x B m d ∧ Aside v' B m:=by
 refine ⟨zgE hx hg.grown (fun hm ad e => (h hm ad e).symm),fun hm ad e => ?_⟩
 rcases hg.at_ with h1 | h1
 ·rw [h1]; exact h hm ad e
 ·intro h2
  have:=h1 _ h2
  obtain ⟨ad',e',hb,_⟩:=hx.1.2 hm
  rw [e] at e'
  injection e' with e'
  subst e'
  omega
theorem zga.blk {w w' : World} {v v' : Value} {base g n : Nat} {t e : TypeId} {cs : Array Value} {vs : List Value} (h : zga w v w' v') (hv : w.ownsRow base e 1 v n vs) (hk : Blk w g t cs) (hg : g < base) : Blk w' g t cs :=
 hk.grown h.grown (fun e => by have:=(hv.lt g e.symm).1; omega)
def zfy (x y : Nat) (D : List Nat) : Prop:=Dgs 10 D ∧ dv 10 D + 10 ^ D.length * y = x
theorem zfy.start (x : Nat) : zfy x x []:=⟨fun d hd => by simp at hd,by simp [dv]⟩
theorem zfy.step {x y : Nat} {D : List Nat} (h : zfy x y D) : zfy x (y / 10000000000000000000) (D ++ lowD 19 (y % 10000000000000000000)):=by
 refine ⟨h.1.append (lowD_dgs _ _),?_⟩
 rw [zba,List.length_append,zke,zmn,Nat.pow_add,show (10 : Nat) ^ 19 = 10000000000000000000 from rfl,Nat.mod_mod,Nat.mul_assoc,Nat.add_assoc,← Nat.mul_add,Nat.mod_add_div]
 exact h.2
theorem zfy.done {x : Nat} {D : List Nat} (h : zfy x 0 D) : dv 10 D = x:=by have:=h.2; simpa using this
theorem zfy.len {x y : Nat} {D : List Nat} (h : zfy x y D) (hy : y ≠ 0) : 10 ^ D.length ≤ x:=by
 have:=h.2
 have h1 : 10 ^ D.length * 1 ≤ 10 ^ D.length * y:=Nat.mul_le_mul_left _ (by omega)
 omega
end Go.Proofs.YtkiedljcgkoaiaaGreatDoor
namespace Go.Proofs.YtkiedljcgkoaiaaGreatDoor
open Go Go.RowKit
set_option maxHeartbeats 16000000
set_option maxRecDepth 100000
set_option linter.unusedVariables false
set_option linter.unusedSimpArgs false
end Go.Proofs.YtkiedljcgkoaiaaGreatDoor
