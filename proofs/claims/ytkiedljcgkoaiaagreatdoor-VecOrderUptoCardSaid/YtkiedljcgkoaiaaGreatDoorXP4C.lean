/- What this claim leans on. -/
import Derived.Test.YtkiedljcgkoaiaaGreatDoorXBunQ
import Derived.Deep.RegionLaw
import Derived.Laws.BytesArg
import Derived.LoopIn
import Derived.LoopNIn
import Derived.OrdersHeld
import Derived.OrdersIn
import Derived.OwnWalkIn
import Derived.RangeFuncBound
import Derived.RangeFuncCalls
import Derived.RangeFuncLeaves
import Derived.RangeFuncNested
import Derived.Shelf.Abstract
import Derived.Shelf.RegionOpen
import Derived.TacticsInMore
namespace Go.Proofs.YtkiedljcgkoaiaaGreatDoor
open Go Go.RowKit
set_option maxHeartbeats 16000000
set_option linter.unusedVariables false
def zbE (w : World) (q r : Nat) (b : Bool) (e : Ending) (w' : World) : Prop:=∃ (A : oA9) (n c : Nat) (B : oA9) (m d : Nat),e = .returned (.tuple #[.agg #[.slice A n c],.agg #[.slice B m d],.bool b]) ∧ zad w' q A n c ∧ zad w' r B m d ∧ Below w.heap.size w w'
def zcW (w : World) (x : Nat) (b : Bool) (e : Ending) (w' : World) : Prop:=∃ (A : oA9) (n c : Nat),e = .returned (.tuple #[.agg #[.slice A n c],.bool b]) ∧ zad w' x A n c ∧ Below w.heap.size w w'
def zes (w : World) (q x : Nat) (b : Bool) (e : Ending) (w' : World) : Prop:=∃ (A : oA9) (n c : Nat),e = .returned (.tuple #[.agg #[.slice A n c],.int .u64 (x : Int),.bool b]) ∧ zad w' q A n c ∧ Below w.heap.size w w'
structure QuotC : Prop where
 divMod : ∀ (x y : Nat) (A D : oA9) (n m c d : Nat) (w : World),zad w x A n c → zad w y D m d → n ≤ 1073741824 → m ≤ 1073741824 → y ≠ 0 → Calls Tryz.prog 130 #[.agg #[.slice A n c],.agg #[.slice D m d]] w (zbE w (x / y) (x % y) true)
 divModNo : ∀ (x y : Nat) (A D : oA9) (n m c d : Nat) (w : World),zad w x A n c → zad w y D m d → n ≤ 1073741824 → m ≤ 1073741824 → y = 0 → Calls Tryz.prog 130 #[.agg #[.slice A n c],.agg #[.slice D m d]] w (zbE w 0 0 false)
 div : ∀ (x y : Nat) (A D : oA9) (n m c d : Nat) (w : World),zad w x A n c → zad w y D m d → n ≤ 1073741824 → m ≤ 1073741824 → y ≠ 0 → Calls Tryz.prog 109 #[.agg #[.slice A n c],.agg #[.slice D m d]] w (zcW w (x / y) true)
 mod : ∀ (x y : Nat) (A D : oA9) (n m c d : Nat) (w : World),zad w x A n c → zad w y D m d → n ≤ 1073741824 → m ≤ 1073741824 → y ≠ 0 → Calls Tryz.prog 137 #[.agg #[.slice A n c],.agg #[.slice D m d]] w (zcW w (x % y) true)
 byWord : ∀ (x a : Nat) (A : oA9) (n c : Nat) (w : World),zad w x A n c → n ≤ 1073741824 → a < 18446744073709551616 → a ≠ 0 → Calls Tryz.prog 141 #[.agg #[.slice A n c],.int .u64 a] w (zes w (x / a) (x % a) true)
 byWordNo : ∀ (x : Nat) (A : oA9) (n c : Nat) (w : World),zad w x A n c → n ≤ 1073741824 → Calls Tryz.prog 141 #[.agg #[.slice A n c],.int .u64 0] w (zes w 0 0 false)
def zdY (x y : Int) : Int:=if x < y then -1 else if x = y then 0 else 1
theorem zfr (x y : Int) : zdY x y = 0 ↔ x = y:=by unfold zdY; split <;> (try split) <;> omega
theorem cmpZ_neg (x y : Int) : zdY y x = -zdY x y:=by unfold zdY; split <;> split <;> (try split) <;> omega
def zeW (x : Int) : Int:=if x < 0 then -1 else if x = 0 then 0 else 1
def zbq (w : World) (t : TypeId) (g cap n : Nat) (L : List Nat) : Prop :=
 ∃ cur,Blk w g t cur ∧ n ≤ cap ∧ cap ≤ maxLen ∧ cur.size = cap ∧ L.length = n ∧ cur.toList.take n = zas .u8 L
section
variable {w w' : World} {t : TypeId} {g cap n : Nat} {L : List Nat}
theorem zbq.len (h : zbq w t g cap n L) : L.length = n:=by obtain ⟨_,_,_,_,_,h,_⟩:=h; exact h
theorem zbq.room (h : zbq w t g cap n L) : n ≤ cap ∧ cap ≤ maxLen:=by obtain ⟨_,_,h,h2,_⟩:=h; exact ⟨h,h2⟩
theorem zbq.lt (h : zbq w t g cap n L) : g < w.heap.size:=by obtain ⟨_,h,_⟩:=h; exact h.lt
theorem zbq.cell (h : zbq w t g cap n L) (k : Nat) (hk : k < n) : w.cell? ⟨g,k,none⟩ = some (.int .u8 (L.getD k 0 : Nat)):=by
 obtain ⟨cur,hb,h1,h2,h3,h4,h5⟩:=h
 rw [hb.cell k,← Array.getElem?_toList,← zbT .u8 L k (by omega),← h5,List.getElem?_take,if_pos hk]
theorem zbq.frozen (h : zbq w t g cap n L) (k : Nat) : w.frozen? ⟨g,k,none⟩ = false:=by
 obtain ⟨cur,hb,_⟩:=h
 exact hb.frozen k
theorem zbq.set_ (h : zbq w t g cap n L) (k d : Nat) (hk : k < n) : zbq (w.setCell ⟨g,k,none⟩ (.int .u8 (d : Int))) t g cap n (L.set k d):=by
 obtain ⟨cur,hb,h1,h2,h3,h4,h5⟩:=h
 refine ⟨_,hb.set_ k _,h1,h2,by simpa using h3,by simpa using h4,?_⟩
 rw [Array.toList_setIfInBounds,List.take_set,h5]
 unfold zas
 rw [List.map_set]
theorem zbq.below {B : Nat} (h : zbq w t g cap n L) (hb : Below B w w') (hg : g < B) : zbq w' t g cap n L:=by
 obtain ⟨cur,h0,h1⟩:=h
 exact ⟨cur,h0.below hb hg,h1⟩
theorem zbq.keep (h : zbq w t g cap n L) (hb : Below w.heap.size w w') : zbq w' t g cap n L:=h.below hb h.lt
theorem zbq.drew (h : zbq w t g cap n L) : zbq w.drew t g cap n L:=h
theorem zbq.alloc (h : zbq w t g cap n L) (o : Obj) : zbq (w.alloc o) t g cap n L:=by
 obtain ⟨cur,h0,h1⟩:=h
 exact ⟨cur,h0.alloc o,h1⟩
theorem zbq.far (h : zbq w t g cap n L) {p : Addr} (hp : g ≠ p.block) (u : Value) : zbq (w.setCell p u) t g cap n L:=by
 obtain ⟨cur,h0,h1⟩:=h
 exact ⟨cur,h0.far hp u,h1⟩
theorem zbq.reads (h : zbq w t g cap n L) : zaq w w.heap.size 1 (some ⟨g,0,none⟩) n (zas .u8 L):=by
 have hl:=h.lt
 have hc:=h.cell
 have hn:=h.len
 refine ⟨by rw [zat]; omega,fun _ => ⟨_,rfl,hl,fun j u hu => ?_⟩⟩
 have hj : j < L.length:=by
  rcases Nat.lt_or_ge j L.length with hj | hj
  ·exact hj
  ·rw [List.getElem?_eq_none (by rw [zat]; exact hj)] at hu; cases hu
 have e : (⟨g,0,none⟩ : Addr).add j = ⟨g,j,none⟩:=by unfold Addr.add; split <;> simp_all
 rw [e,hc j (by omega),← zbT .u8 L j hj,hu]
theorem zbq.own (h : zbq w t g cap n L) {base : Nat} (hb : base ≤ g) : w.ownsRow base t 1 (.slice (some ⟨g,0,none⟩) n cap) n (zas .u8 L):=by
 obtain ⟨cur,h0,h1,h2,h3,h4,h5⟩:=h
 exact ⟨by rw [zat]; omega,.inr ⟨g,cap,cur,rfl,hb,h0,h1,h2,by omega,by rw [Nat.mul_one]; exact h5⟩⟩
theorem zbq.made (w : World) (t : TypeId) (N : Nat) (hN : N ≤ maxLen) : zbq (w.alloc (.cells (madeCells (Value.cells (.int .u8 0)) N) t)) t w.heap.size N N (List.replicate N 0):=by
 refine ⟨_,Blk.new w t _,Nat.le_refl _,hN,size_madeCells _ _,by simp,?_⟩
 show (madeCells #[Value.int .u8 0] N).toList.take N = _
 rw [toList_madeCells_one,List.take_of_length_le (by simp)]
 simp [zas]
theorem zbq.of_own {base : Nat} {v : Value} {l : List Nat} (h : w.ownsRow base t 1 v n (zas .u8 l)) (hn : 0 < n) : ∃ g cap,v = .slice (some ⟨g,0,none⟩) n cap ∧ base ≤ g ∧ zbq w t g cap n l:=by
 obtain ⟨h1,h2⟩:=h
 rcases h2 with ⟨_,h⟩ | ⟨g,cap,cur,e,hb,hk,a,b,c,d⟩
 ·omega
 ·refine ⟨g,cap,e,hb,cur,hk,a,b,by omega,by rw [zat] at h1; omega,?_⟩
  rw [Nat.mul_one] at d
  exact d
end
set_option maxRecDepth 100000
set_option linter.unusedSimpArgs false
structure zeS (w : World) (v : Value) (w' : World) (v' : Value) : Prop where
 grown : w.grownBy w' v.ownBlock
 at_ : v'.ownBlock = v.ownBlock ∨ ∀ g,v'.ownBlock = some g → w.heap.size ≤ g
theorem zeS.refl (w : World) (v : Value) : zeS w v w v:=⟨World.grownBy.refl _ _,.inl rfl⟩
theorem zeS.alloc (w : World) (v : Value) (o : Obj) : zeS w v (w.alloc o) v:=⟨World.grownBy_alloc w o _,.inl rfl⟩
theorem zeS.trans {w w1 w2 : World} {v v1 v2 : Value} (h : zeS w v w1 v1) (k : zeS w1 v1 w2 v2) : zeS w v w2 v2:=by
 refine ⟨⟨k.grown.os.trans h.grown.os,k.grown.tape.trans h.grown.tape,k.grown.output.trans h.grown.output,Nat.le_trans h.grown.size k.grown.size,fun i hi hne => ?_⟩,?_⟩
 ·refine (k.grown.block i (Nat.lt_of_lt_of_le hi h.grown.size) (fun e => ?_)).trans (h.grown.block i hi hne)
  rcases h.at_ with h1 | h1
  ·exact hne (by rw [e,h1])
  ·have:=h1 i e.symm; omega
 ·rcases k.at_ with k1 | k1
  ·rw [k1]; exact h.at_
  ·exact .inr fun g hg => Nat.le_trans h.grown.size (k1 g hg)
theorem zeS.below {w w' : World} {v : Value} (hb : Below w.heap.size w w') : zeS w v w' v:=⟨⟨hb.os,hb.tape,hb.output,hb.size,fun i hi _ => hb.block i hi⟩,.inl rfl⟩
theorem Off.drew {g : Nat} {w w' : World} (h : Off g w w') : Off g w w'.drew:=⟨h.os,h.tape,h.output,h.size,h.block⟩
theorem cop2 {q : Nat} (h : q % 2 ≠ 0) : Nat.gcd 2 q = 1:=by
 have h1 : Nat.gcd 2 q ∣ 2:=Nat.gcd_dvd_left 2 q
 have h2:=Nat.le_of_dvd (by decide) h1
 have h3 : Nat.gcd 2 q ≠ 0:=fun e => by rw [e] at h1; exact absurd (Nat.eq_zero_of_zero_dvd h1) (by decide)
 have h4 : Nat.gcd 2 q ≠ 2:=fun e => h (Nat.mod_eq_zero_of_dvd (by rw [← e]; exact Nat.gcd_dvd_right 2 q))
 omega
theorem zek {p q : Nat} (hp : p % 2 = 0) (hq : q % 2 ≠ 0) : Nat.gcd (p / 2) q = Nat.gcd p q:=by
 have e : p = 2 * (p / 2):=by omega
 have h : Nat.Coprime 2 q:=cop2 hq
 rw [show Nat.gcd p q = Nat.gcd (2 * (p / 2)) q from by rw [← e]]
 exact (h.gcd_mul_left_cancel (p / 2)).symm
theorem gcd_take {p q : Nat} (h : q ≤ p) : Nat.gcd (p - q) q = Nat.gcd p q:=by
 obtain ⟨s,rfl⟩ : ∃ s,p = q + s:=⟨p - q,by omega⟩
 rw [Nat.add_sub_cancel_left,Nat.gcd_self_add_left]
end Go.Proofs.YtkiedljcgkoaiaaGreatDoor
