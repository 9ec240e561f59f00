/- What this claim leans on. -/
import Derived.Test.YtgigccjiblaefaaGreatDoorOBunQ
import Derived.Deep.RegionLaw
import Derived.Laws.BytesArg
import Derived.LoopIn
import Derived.LoopNIn
import Derived.OrdersHeld
import Derived.OrdersIn
import Derived.OwnWalkIn
import Derived.RangeFuncBound
import Derived.RangeFuncCalls
import Derived.RangeFuncLeaves
import Derived.RangeFuncNested
import Derived.Shelf.Abstract
import Derived.Shelf.RegionOpen
import Derived.TacticsInMore
namespace Go.Proofs.YtgigccjiblaefaaGreatDoor
open Go Go.RowKit
set_option maxHeartbeats 16000000
set_option linter.unusedVariables false
def zbU (w : World) (q r : Nat) (b : Bool) (e : Ending) (w' : World) : Prop := ∃ (A : oA9) (n c : Nat) (B : oA9) (m d : Nat),e = .returned (.tuple #[.agg #[.slice A n c],.agg #[.slice B m d],.bool b]) ∧ zah w' q A n c ∧ zah w' r B m d ∧ Below w.heap.size w w'
def zdI (w : World) (x : Nat) (b : Bool) (e : Ending) (w' : World) : Prop := ∃ (A : oA9) (n c : Nat),e = .returned (.tuple #[.agg #[.slice A n c],.bool b]) ∧ zah w' x A n c ∧ Below w.heap.size w w'
def zfg (w : World) (q x : Nat) (b : Bool) (e : Ending) (w' : World) : Prop := ∃ (A : oA9) (n c : Nat),e = .returned (.tuple #[.agg #[.slice A n c],.int .u64 (x : Int),.bool b]) ∧ zah w' q A n c ∧ Below w.heap.size w w'
structure QuotC : Prop where
 divMod : ∀ (x y : Nat) (A D : oA9) (n m c d : Nat) (w : World),zah w x A n c → zah w y D m d → n ≤ 1073741824 → m ≤ 1073741824 → y ≠ 0 → Calls Tryz.prog 110 #[.agg #[.slice A n c],.agg #[.slice D m d]] w (zbU w (x / y) (x % y) true)
 divModNo : ∀ (x y : Nat) (A D : oA9) (n m c d : Nat) (w : World),zah w x A n c → zah w y D m d → n ≤ 1073741824 → m ≤ 1073741824 → y = 0 → Calls Tryz.prog 110 #[.agg #[.slice A n c],.agg #[.slice D m d]] w (zbU w 0 0 false)
 div : ∀ (x y : Nat) (A D : oA9) (n m c d : Nat) (w : World),zah w x A n c → zah w y D m d → n ≤ 1073741824 → m ≤ 1073741824 → y ≠ 0 → Calls Tryz.prog 95 #[.agg #[.slice A n c],.agg #[.slice D m d]] w (zdI w (x / y) true)
 mod : ∀ (x y : Nat) (A D : oA9) (n m c d : Nat) (w : World),zah w x A n c → zah w y D m d → n ≤ 1073741824 → m ≤ 1073741824 → y ≠ 0 → Calls Tryz.prog 131 #[.agg #[.slice A n c],.agg #[.slice D m d]] w (zdI w (x % y) true)
 byWord : ∀ (x a : Nat) (A : oA9) (n c : Nat) (w : World),zah w x A n c → n ≤ 1073741824 → a < 18446744073709551616 → a ≠ 0 → Calls Tryz.prog 126 #[.agg #[.slice A n c],.int .u64 a] w (zfg w (x / a) (x % a) true)
 byWordNo : ∀ (x : Nat) (A : oA9) (n c : Nat) (w : World),zah w x A n c → n ≤ 1073741824 → Calls Tryz.prog 126 #[.agg #[.slice A n c],.int .u64 0] w (zfg w 0 0 false)
def zcO (x y : Int) : Int := if x < y then -1 else if x = y then 0 else 1
theorem zeZ (x y : Int) : zcO x y = 0 ↔ x = y := by unfold zcO; split <;> (try split) <;> omega
theorem cmpZ_neg (x y : Int) : zcO y x = -zcO x y := by unfold zcO; split <;> split <;> (try split) <;> omega
def zdi (x : Int) : Int := if x < 0 then -1 else if x = 0 then 0 else 1
theorem sgnZ_eq (x : Int) : zdi x = 0 ↔ x = 0 := by unfold zdi; split <;> (try split) <;> omega
def qI (x y : Int) : Int := if 0 ≤ y then x / y else (-x) / (-y)
def rI (x y : Int) : Int := if 0 ≤ y then x % y else -((-x) % (-y))
theorem qI_rI (x y : Int) : qI x y * y + rI x y = x := by
 unfold qI rI
 split
 ·rw [Int.mul_comm]; exact Int.mul_ediv_add_emod x y
 ·have h := Int.mul_ediv_add_emod (-x) (-y)
  rw [Int.neg_mul] at h
  rw [Int.mul_comm]
  omega
theorem zjH {x y : Int} (hy : y ≠ 0) : (rI x y).natAbs < y.natAbs := by
 unfold rI
 split
 ·have h1 := Int.emod_nonneg x hy
  have h2 := Int.emod_lt_of_pos x (show 0 < y by omega)
  omega
 ·have h1 := Int.emod_nonneg (-x) (show -y ≠ 0 by omega)
  have h2 := Int.emod_lt_of_pos (-x) (show 0 < -y by omega)
  omega
theorem zkM {x y : Int} (hy : y ≠ 0) : rI x y = 0 ∨ (0 < rI x y ∧ 0 < y ∨ rI x y < 0 ∧ y < 0) := by
 unfold rI
 split
 ·have h1 := Int.emod_nonneg x hy
  omega
 ·have h1 := Int.emod_nonneg (-x) (show -y ≠ 0 by omega)
  omega
theorem zdD {x y q r : Int} (hy : y ≠ 0) (h : q * y + r = x) (hr : r = 0 ∨ (0 < r ∧ 0 < y ∨ r < 0 ∧ y < 0)) (hl : r.natAbs < y.natAbs) : q = qI x y ∧ r = rI x y := by
 have h1 := qI_rI x y
 have h2 := zjH (x := x) hy
 have h3 := zkM (x := x) hy
 have hd : (q - qI x y) * y = rI x y - r := by rw [Int.sub_mul]; omega
 have hq : q - qI x y = 0 := by
  generalize q - qI x y = t at *
  generalize rI x y = r' at *
  rcases Int.lt_trichotomy t 0 with h0 | h0 | h0
  ·exfalso
   rcases Int.lt_trichotomy y 0 with hy0 | hy0 | hy0
   ·have : (-t - 1) * (-y) ≥ 0 := Int.mul_nonneg (by omega) (by omega)
    rw [Int.sub_mul,Int.neg_mul_neg] at this
    omega
   ·omega
   ·have : (-t - 1) * y ≥ 0 := Int.mul_nonneg (by omega) (by omega)
    rw [Int.sub_mul,Int.neg_mul] at this
    omega
  ·exact h0
  ·exfalso
   rcases Int.lt_trichotomy y 0 with hy0 | hy0 | hy0
   ·have : (t - 1) * (-y) ≥ 0 := Int.mul_nonneg (by omega) (by omega)
    rw [Int.sub_mul,Int.mul_neg] at this
    omega
   ·omega
   ·have : (t - 1) * y ≥ 0 := Int.mul_nonneg (by omega) (by omega)
    rw [Int.sub_mul] at this
    omega
 rw [hq,Int.zero_mul] at hd
 omega
def zbI (w : World) (t : TypeId) (g cap n : Nat) (L : List Nat) : Prop :=
 ∃ cur,Blk w g t cur ∧ n ≤ cap ∧ cap ≤ maxLen ∧ cur.size = cap ∧ L.length = n ∧ cur.toList.take n = zas .u8 L
section
variable {w w' : World} {t : TypeId} {g cap n : Nat} {L : List Nat}
theorem zbI.len (h : zbI w t g cap n L) : L.length = n := by obtain ⟨_,_,_,_,_,h,_⟩ := h; exact h
theorem zbI.room (h : zbI w t g cap n L) : n ≤ cap ∧ cap ≤ maxLen := by obtain ⟨_,_,h,h2,_⟩ := h; exact ⟨h,h2⟩
theorem zbI.lt (h : zbI w t g cap n L) : g < w.heap.size := by obtain ⟨_,h,_⟩ := h; exact h.lt
theorem zbI.cell (h : zbI w t g cap n L) (k : Nat) (hk : k < n) : w.cell? ⟨g,k,none⟩ = some (.int .u8 (L.getD k 0 : Nat)) := by
 obtain ⟨cur,hb,h1,h2,h3,h4,h5⟩ := h
 rw [hb.cell k,← Array.getElem?_toList,← zcd .u8 L k (by omega),← h5,List.getElem?_take,if_pos hk]
theorem zbI.frozen (h : zbI w t g cap n L) (k : Nat) : w.frozen? ⟨g,k,none⟩ = false := by
 obtain ⟨cur,hb,_⟩ := h
 exact hb.frozen k
theorem zbI.set_ (h : zbI w t g cap n L) (k d : Nat) (hk : k < n) : zbI (w.setCell ⟨g,k,none⟩ (.int .u8 (d : Int))) t g cap n (L.set k d) := by
 obtain ⟨cur,hb,h1,h2,h3,h4,h5⟩ := h
 refine ⟨_,hb.set_ k _,h1,h2,by simpa using h3,by simpa using h4,?_⟩
 rw [Array.toList_setIfInBounds,List.take_set,h5]
 unfold zas
 rw [List.map_set]
theorem zbI.below {B : Nat} (h : zbI w t g cap n L) (hb : Below B w w') (hg : g < B) : zbI w' t g cap n L := by
 obtain ⟨cur,h0,h1⟩ := h
 exact ⟨cur,h0.below hb hg,h1⟩
theorem zbI.keep (h : zbI w t g cap n L) (hb : Below w.heap.size w w') : zbI w' t g cap n L := h.below hb h.lt
theorem zbI.drew (h : zbI w t g cap n L) : zbI w.drew t g cap n L := h
theorem zbI.alloc (h : zbI w t g cap n L) (o : Obj) : zbI (w.alloc o) t g cap n L := by
 obtain ⟨cur,h0,h1⟩ := h
 exact ⟨cur,h0.alloc o,h1⟩
theorem zbI.far (h : zbI w t g cap n L) {p : Addr} (hp : g ≠ p.block) (u : Value) : zbI (w.setCell p u) t g cap n L := by
 obtain ⟨cur,h0,h1⟩ := h
 exact ⟨cur,h0.far hp u,h1⟩
theorem zbI.reads (h : zbI w t g cap n L) : zaq w w.heap.size 1 (some ⟨g,0,none⟩) n (zas .u8 L) := by
 have hl := h.lt
 have hc := h.cell
 have hn := h.len
 refine ⟨by rw [zav]; omega,fun _ => ⟨_,rfl,hl,fun j u hu => ?_⟩⟩
 have hj : j < L.length := by
  rcases Nat.lt_or_ge j L.length with hj | hj
  ·exact hj
  ·rw [List.getElem?_eq_none (by rw [zav]; exact hj)] at hu; cases hu
 have e : (⟨g,0,none⟩ : Addr).add j = ⟨g,j,none⟩ := by unfold Addr.add; split <;> simp_all
 rw [e,hc j (by omega),← zcd .u8 L j hj,hu]
theorem zbI.own (h : zbI w t g cap n L) {base : Nat} (hb : base ≤ g) : w.ownsRow base t 1 (.slice (some ⟨g,0,none⟩) n cap) n (zas .u8 L) := by
 obtain ⟨cur,h0,h1,h2,h3,h4,h5⟩ := h
 exact ⟨by rw [zav]; omega,.inr ⟨g,cap,cur,rfl,hb,h0,h1,h2,by omega,by rw [Nat.mul_one]; exact h5⟩⟩
theorem zbI.made (w : World) (t : TypeId) (N : Nat) (hN : N ≤ maxLen) : zbI (w.alloc (.cells (madeCells (Value.cells (.int .u8 0)) N) t)) t w.heap.size N N (List.replicate N 0) := by
 refine ⟨_,Blk.new w t _,Nat.le_refl _,hN,size_madeCells _ _,by simp,?_⟩
 show (madeCells #[Value.int .u8 0] N).toList.take N = _
 rw [toList_madeCells_one,List.take_of_length_le (by simp)]
 simp [zas]
theorem zbI.of_own {base : Nat} {v : Value} {l : List Nat} (h : w.ownsRow base t 1 v n (zas .u8 l)) (hn : 0 < n) : ∃ g cap,v = .slice (some ⟨g,0,none⟩) n cap ∧ base ≤ g ∧ zbI w t g cap n l := by
 obtain ⟨h1,h2⟩ := h
 rcases h2 with ⟨_,h⟩ | ⟨g,cap,cur,e,hb,hk,a,b,c,d⟩
 ·omega
 ·refine ⟨g,cap,e,hb,cur,hk,a,b,by omega,by rw [zav] at h1; omega,?_⟩
  rw [Nat.mul_one] at d
  exact d
end
set_option maxRecDepth 100000
set_option linter.unusedSimpArgs false
structure zfu (w : World) (v : Value) (w' : World) (v' : Value) : Prop where
 grown : w.grownBy w' v.ownBlock
 at_ : v'.ownBlock = v.ownBlock ∨ ∀ g,v'.ownBlock = some g → w.heap.size ≤ g
theorem zfu.refl (w : World) (v : Value) : zfu w v w v := ⟨World.grownBy.refl _ _,.inl rfl⟩
theorem zfu.alloc (w : World) (v : Value) (o : Obj) : zfu w v (w.alloc o) v := ⟨World.grownBy_alloc w o _,.inl rfl⟩
theorem zfu.trans {w w1 w2 : World} {v v1 v2 : Value} (h : zfu w v w1 v1) (k : zfu w1 v1 w2 v2) : zfu w v w2 v2 := by
 refine ⟨⟨k.grown.os.trans h.grown.os,k.grown.tape.trans h.grown.tape,k.grown.output.trans h.grown.output,Nat.le_trans h.grown.size k.grown.size,fun i hi hne => ?_⟩,?_⟩
 ·refine (k.grown.block i (Nat.lt_of_lt_of_le hi h.grown.size) (fun e => ?_)).trans (h.grown.block i hi hne)
  rcases h.at_ with h1 | h1
  ·exact hne (by rw [e,h1])
  ·have := h1 i e.symm; omega
 ·rcases k.at_ with k1 | k1
  ·rw [k1]; exact h.at_
  ·exact .inr fun g hg => Nat.le_trans h.grown.size (k1 g hg)
theorem zfu.below {w w' : World} {v : Value} (hb : Below w.heap.size w w') : zfu w v w' v := ⟨⟨hb.os,hb.tape,hb.output,hb.size,fun i hi _ => hb.block i hi⟩,.inl rfl⟩
def lowD (n p : Nat) : List Nat := (List.range n).map fun k => p / 10 ^ k % 10
theorem ziv (n p : Nat) : (lowD n p).length = n := by simp [lowD]
theorem zlZ (n p : Nat) : lowD (n + 1) p = lowD n p ++ [p / 10 ^ n % 10] := by simp [lowD,List.range_succ]
theorem lowD_dgs (n p : Nat) : Dgs 10 (lowD n p) := by
 intro d hd
 obtain ⟨j,_,rfl⟩ := List.mem_map.1 hd
 exact Nat.mod_lt _ (by decide)
theorem zkH (p : Nat) : ∀ n,dv 10 (lowD n p) = p % 10 ^ n
 | 0 => by simp [lowD,dv,Nat.mod_one]
 | n + 1 => by rw [zlZ,zbg,zkH p n,ziv,zaP 10 p n]
theorem zio (l : List Nat) (i k a : Nat) : (l.set i a).getD k 0 = if i = k ∧ k < l.length then a else l.getD k 0 := by
 simp only [List.getD_eq_getElem?_getD,List.getElem?_set]
 by_cases h : i = k
 ·subst h
  by_cases h2 : i < l.length
  ·simp [h2]
  ·simp [h2]
 ·simp [h]
def zfY (L : List Nat) (i : Nat) (M : List Nat) : Prop := M.length = L.length ∧ ∀ j,j < L.length → M.getD j 0 = if j < i ∨ L.length ≤ j + i then L.getD (L.length - 1 - j) 0 else L.getD j 0
theorem zfY.start (L : List Nat) : zfY L 0 L := ⟨rfl,fun j hj => by rw [if_neg (by omega)]⟩
theorem zfY.step {L M : List Nat} {i j : Nat} (h : zfY L i M) (hij : i + j + 1 = L.length) (hlt : i < j) : zfY L (i + 1) ((M.set i (M.getD j 0)).set j (M.getD i 0)) := by
 obtain ⟨h1,h2⟩ := h
 refine ⟨by simpa using h1,fun k hk => ?_⟩
 rw [zio,zio,List.length_set,h1]
 by_cases hkj : j = k
 ·subst hkj
  rw [if_pos ⟨rfl,hk⟩,if_pos (by omega),h2 i (by omega),if_neg (by omega)]
  congr 1; omega
 ·rw [if_neg (by omega)]
  by_cases hki : i = k
  ·subst hki
   rw [if_pos ⟨rfl,hk⟩,if_pos (by omega),h2 j (by omega),if_neg (by omega)]
   congr 1; omega
  ·rw [if_neg (by omega),h2 k hk]
   by_cases hc : k < i ∨ L.length ≤ k + i
   ·rw [if_pos hc,if_pos (by omega)]
   ·rw [if_neg hc,if_neg (by omega)]
theorem zfY.done {L M : List Nat} {i j : Nat} (h : zfY L i M) (hij : i + j + 1 = L.length) (hle : j ≤ i) : M = L.reverse := by
 obtain ⟨h1,h2⟩ := h
 refine List.ext_getElem (by simpa using h1) fun k hk hk2 => ?_
 have h3 := h2 k (by omega)
 rw [List.getD_eq_getElem?_getD,List.getElem?_eq_getElem hk] at h3
 rw [List.getElem_reverse]
 have e1 : L[L.length - 1 - k]'(by omega) = L.getD (L.length - 1 - k) 0 := by rw [List.getD_eq_getElem?_getD,List.getElem?_eq_getElem (by omega)]; rfl
 rw [e1]
 refine Eq.trans h3 ?_
 by_cases hc : k < i ∨ L.length ≤ k + i
 ·rw [if_pos hc]
 ·rw [if_neg hc]
  congr 1; omega
theorem Off.drew {g : Nat} {w w' : World} (h : Off g w w') : Off g w w'.drew := ⟨h.os,h.tape,h.output,h.size,h.block⟩
def Aside (v : Value) (B : oA9) (m : Nat) : Prop := 0 < m → ∀ ad,B = some ad → v.ownBlock ≠ some ad.block
theorem Aside.words {w w' : World} {v v' : Value} {x m d : Nat} {B : oA9} (h : Aside v B m) (hx : zah w x B m d) (hg : zfu w v w' v') : zah w' x B m d ∧ Aside v' B m := by
 refine ⟨ziT hx hg.grown (fun hm ad e => (h hm ad e).symm),fun hm ad e => ?_⟩
 rcases hg.at_ with h1 | h1
 ·rw [h1]; exact h hm ad e
 ·intro h2
  have := h1 _ h2
  obtain ⟨ad',e',hb,_⟩ := hx.1.2 hm
  rw [e] at e'
  injection e' with e'
  subst e'
  omega
theorem zfu.blk {w w' : World} {v v' : Value} {base g n : Nat} {t e : TypeId} {cs : Array Value} {vs : List Value} (h : zfu w v w' v') (hv : w.ownsRow base e 1 v n vs) (hk : Blk w g t cs) (hg : g < base) : Blk w' g t cs :=
 hk.grown h.grown (fun e => by have := (hv.lt g e.symm).1; omega)
def zeY (x y : Nat) (D : List Nat) : Prop := Dgs 10 D ∧ dv 10 D + 10 ^ D.length * y = x
theorem zeY.start (x : Nat) : zeY x x [] := ⟨fun d hd => by simp at hd,by simp [dv]⟩
theorem zeY.step {x y : Nat} {D : List Nat} (h : zeY x y D) : zeY x (y / 10000000000000000000) (D ++ lowD 19 (y % 10000000000000000000)) := by
 refine ⟨h.1.append (lowD_dgs _ _),?_⟩
 rw [zbb,List.length_append,ziv,zkH,Nat.pow_add,show (10 : Nat) ^ 19 = 10000000000000000000 from rfl,Nat.mod_mod,Nat.mul_assoc,Nat.add_assoc,← Nat.mul_add,Nat.mod_add_div]
 exact h.2
theorem zeY.done {x : Nat} {D : List Nat} (h : zeY x 0 D) : dv 10 D = x := by have := h.2; simpa using this
theorem zeY.len {x y : Nat} {D : List Nat} (h : zeY x y D) (hy : y ≠ 0) : 10 ^ D.length ≤ x := by
 have := h.2
 have h1 : 10 ^ D.length * 1 ≤ 10 ^ D.length * y := Nat.mul_le_mul_left _ (by omega)
 omega
end Go.Proofs.YtgigccjiblaefaaGreatDoor
