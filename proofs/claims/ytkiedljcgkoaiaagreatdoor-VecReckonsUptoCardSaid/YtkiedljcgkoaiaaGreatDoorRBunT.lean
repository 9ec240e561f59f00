/- What this claim leans on. -/
import Derived.Test.YtkiedljcgkoaiaaGreatDoorRBunQ
import Derived.Laws.BytesArg
namespace Go.Proofs.YtkiedljcgkoaiaaGreatDoor
open Go Go.RowKit
set_option maxHeartbeats 16000000
def zan (w : World) : Prop:=∀ j,j < Lib.deBruijn64tab.length → w.cell? ⟨0,j,none⟩ = some (.int .u8 (Lib.deBruijn64tab.getD j 0 : Nat))
theorem zan.below {B : Nat} {w w' : World} (h : zan w) (hb : Below B w w') (hB : 0 < B) : zan w':=fun j hj => (hb.cell (p:=⟨0,j,none⟩) hB).trans (h j hj)
theorem zan.drewN {w : World} (h : zan w) (n : Nat) : zan (w.drewN n):=h
theorem zan.on {w w' : World} (h : zan w) (hb : Below w.heap.size w w') : zan w':=h.below hb (by
 have:=h 0 (by decide)
 exact World.block_lt_of_cell? w _ this)
theorem tz_key (x a : Nat) (hx : x < 18446744073709551616) (hx0 : x ≠ 0) (hlow : x &&& (18446744073709551616 - x) = a) :
  IntKind.u64.wrap (bits BinOp.and IntKind.u64 (x : Int) (IntKind.u64.wrap (-(x : Int))) * 285870213051353865) / 288230376151711744 = ((a * 285870213051353865 % 18446744073709551616 / 288230376151711744 : Nat) : Int):=by
 have e1 : IntKind.u64.wrap (-(x : Int)) = ((18446744073709551616 - x : Nat) : Int):=by rw [IntKind.wrap_u64]; omega
 rw [e1,bits_and_u64_nat x _ hx (by omega),hlow,IntKind.wrap_u64]
 omega
theorem zjn (x k idx : Nat) (w : World) (hx0 : ((x : Int) == 0) = false)
  (key : IntKind.u64.wrap (bits BinOp.and IntKind.u64 (x : Int) (IntKind.u64.wrap (-(x : Int))) * 285870213051353865) / 288230376151711744 = (idx : Int))
  (hi : idx < 64) (hk : k < 64) (hcell : w.cell? ⟨0,idx,none⟩ = some (.int .u8 k)) :
  Calls Tryz.prog 148 #[.int .u64 x] w fun e w' => e = .returned (.int .i64 k) ∧ w = w':=by
 go_enter Tryz.func148,Tryz.ntmps148
 go_wp2_with (simp only [key])
 go_ret
 exact ⟨rfl,rfl⟩
theorem zjo (w : World) :
  Calls Tryz.prog 148 #[.int .u64 0] w fun e w' => e = .returned (.int .i64 64) ∧ w = w':=by
 go_enter Tryz.func148,Tryz.ntmps148
 go_wp2
 go_ret
 exact ⟨rfl,rfl⟩
theorem zmt (x : Int) (hx : Wd x) (w : World) (hT : zan w) :
  Calls Tryz.prog 148 #[.int .u64 x] w fun e w' => e = .returned (.int .i64 (zff x)) ∧ w = w':=by
 obtain ⟨h0,h1⟩:=hx
 obtain ⟨x,rfl⟩:=Int.eq_ofNat_of_zero_le h0
 have hN : x < 18446744073709551616:=by omega
 unfold zff
 rw [Int.toNat_natCast]
 by_cases hx0 : x = 0
 ·subst hx0
  exact zjo w
 ·obtain ⟨hlow,hk⟩:=Lib.lowest_bit 64 x hx0 hN
  obtain ⟨hi,htab⟩:=Lib.deBruijn64_at _ hk
  have hcell:=hT _ hi
  rw [htab] at hcell
  exact zjn x _ _ w (by simp; omega) (tz_key x _ hN hx0 hlow) hi hk hcell
theorem zlJ (x : Int) (hx : Wd x) (w : World) (hT : zan w) :
  Calls Tryz.prog 140 #[.int .u64 x] w fun e w' => e = .returned (.int .i64 (zff x)) ∧ w = w':=by
 have H:=lh9 (zmt x hx w hT)
 clear hT
 go_enter Tryz.func140,Tryz.ntmps140
 go_wp2_with (go_at_call 148; refine H.out.mono ?_; rintro e w' ⟨rfl,rfl⟩)
 go_ret
 exact ⟨rfl,rfl⟩
set_option linter.unusedVariables false
def zbW (w : World) (q r : Nat) (b : Bool) (e : Ending) (w' : World) : Prop:=∃ (A : oA9) (n c : Nat) (B : oA9) (m d : Nat),e = .returned (.tuple #[.agg #[.slice A n c],.agg #[.slice B m d],.bool b]) ∧ zag w' q A n c ∧ zag w' r B m d ∧ Below w.heap.size w w'
def zdL (w : World) (x : Nat) (b : Bool) (e : Ending) (w' : World) : Prop:=∃ (A : oA9) (n c : Nat),e = .returned (.tuple #[.agg #[.slice A n c],.bool b]) ∧ zag w' x A n c ∧ Below w.heap.size w w'
def zfk (w : World) (q x : Nat) (b : Bool) (e : Ending) (w' : World) : Prop:=∃ (A : oA9) (n c : Nat),e = .returned (.tuple #[.agg #[.slice A n c],.int .u64 (x : Int),.bool b]) ∧ zag w' q A n c ∧ Below w.heap.size w w'
structure QuotC : Prop where
 divMod : ∀ (x y : Nat) (A D : oA9) (n m c d : Nat) (w : World),zag w x A n c → zag w y D m d → n ≤ 1073741824 → m ≤ 1073741824 → y ≠ 0 → Calls Tryz.prog 130 #[.agg #[.slice A n c],.agg #[.slice D m d]] w (zbW w (x / y) (x % y) true)
 divModNo : ∀ (x y : Nat) (A D : oA9) (n m c d : Nat) (w : World),zag w x A n c → zag w y D m d → n ≤ 1073741824 → m ≤ 1073741824 → y = 0 → Calls Tryz.prog 130 #[.agg #[.slice A n c],.agg #[.slice D m d]] w (zbW w 0 0 false)
 div : ∀ (x y : Nat) (A D : oA9) (n m c d : Nat) (w : World),zag w x A n c → zag w y D m d → n ≤ 1073741824 → m ≤ 1073741824 → y ≠ 0 → Calls Tryz.prog 109 #[.agg #[.slice A n c],.agg #[.slice D m d]] w (zdL w (x / y) true)
 mod : ∀ (x y : Nat) (A D : oA9) (n m c d : Nat) (w : World),zag w x A n c → zag w y D m d → n ≤ 1073741824 → m ≤ 1073741824 → y ≠ 0 → Calls Tryz.prog 137 #[.agg #[.slice A n c],.agg #[.slice D m d]] w (zdL w (x % y) true)
 byWord : ∀ (x a : Nat) (A : oA9) (n c : Nat) (w : World),zag w x A n c → n ≤ 1073741824 → a < 18446744073709551616 → a ≠ 0 → Calls Tryz.prog 141 #[.agg #[.slice A n c],.int .u64 a] w (zfk w (x / a) (x % a) true)
 byWordNo : ∀ (x : Nat) (A : oA9) (n c : Nat) (w : World),zag w x A n c → n ≤ 1073741824 → Calls Tryz.prog 141 #[.agg #[.slice A n c],.int .u64 0] w (zfk w 0 0 false)
def zfJ (x y : Int) : Int:=if x < y then -1 else if x = y then 0 else 1
theorem zgr (x y : Int) : zfJ x y = 0 ↔ x = y:=by unfold zfJ; split <;> (try split) <;> omega
def zdE (x : Int) : Int:=if x < 0 then -1 else if x = 0 then 0 else 1
theorem sgnZ_eq (x : Int) : zdE x = 0 ↔ x = 0:=by unfold zdE; split <;> (try split) <;> omega
def zch (w : World) (x : Nat) (e : Ending) (w' : World) : Prop:=∃ (A : oA9) (n c : Nat),e = .returned (.agg #[.slice A n c]) ∧ zag w' x A n c ∧ Below w.heap.size w w'
def ziB (w : World) (x y : Nat) (e : Ending) (w' : World) : Prop:=∃ (A : oA9) (n c : Nat) (B : oA9) (m d : Nat),e = .returned (.tuple #[.agg #[.slice A n c],.agg #[.slice B m d]]) ∧ zag w' x A n c ∧ zag w' y B m d ∧ Below w.heap.size w w'
theorem Sz.gcd {K K' x y : Nat} (h : Sz K x) (h' : Sz K' y) : Sz (K + K') (Nat.gcd x y):=by
 rcases Nat.eq_zero_or_pos x with e | e
 ·rw [e,Nat.gcd_zero_left]; exact h'.up (by omega)
 ·exact (h.of_le (Nat.gcd_le_left y e)).up (by omega)
structure GcdC : Prop where
 of : ∀ (x y : Nat) (A D : oA9) (n m c d : Nat) (w : World),zag w x A n c → zag w y D m d → n ≤ 1073741824 → m ≤ 1073741824 → zan w → Calls Tryz.prog 108 #[.agg #[.slice A n c],.agg #[.slice D m d]] w (zch w (Nat.gcd x y))
 reduce : ∀ (x y : Nat) (A D : oA9) (n m c d : Nat) (w : World),zag w x A n c → zag w y D m d → n ≤ 1073741824 → m ≤ 1073741824 → zan w → Calls Tryz.prog 74 #[.agg #[.slice A n c],.agg #[.slice D m d]] w (ziB w (x / Nat.gcd x y) (y / Nat.gcd x y))
def zbH (w : World) (t : TypeId) (g cap n : Nat) (L : List Nat) : Prop :=
 ∃ cur,Blk w g t cur ∧ n ≤ cap ∧ cap ≤ maxLen ∧ cur.size = cap ∧ L.length = n ∧ cur.toList.take n = zat .u8 L
section
variable {w w' : World} {t : TypeId} {g cap n : Nat} {L : List Nat}
theorem zbH.len (h : zbH w t g cap n L) : L.length = n:=by obtain ⟨_,_,_,_,_,h,_⟩:=h; exact h
theorem zbH.room (h : zbH w t g cap n L) : n ≤ cap ∧ cap ≤ maxLen:=by obtain ⟨_,_,h,h2,_⟩:=h; exact ⟨h,h2⟩
theorem zbH.lt (h : zbH w t g cap n L) : g < w.heap.size:=by obtain ⟨_,h,_⟩:=h; exact h.lt
theorem zbH.cell (h : zbH w t g cap n L) (k : Nat) (hk : k < n) : w.cell? ⟨g,k,none⟩ = some (.int .u8 (L.getD k 0 : Nat)):=by
 obtain ⟨cur,hb,h1,h2,h3,h4,h5⟩:=h
 rw [hb.cell k,← Array.getElem?_toList,← zcf .u8 L k (by omega),← h5,List.getElem?_take,if_pos hk]
theorem zbH.frozen (h : zbH w t g cap n L) (k : Nat) : w.frozen? ⟨g,k,none⟩ = false:=by
 obtain ⟨cur,hb,_⟩:=h
 exact hb.frozen k
theorem zbH.set_ (h : zbH w t g cap n L) (k d : Nat) (hk : k < n) : zbH (w.setCell ⟨g,k,none⟩ (.int .u8 (d : Int))) t g cap n (L.set k d):=by
 obtain ⟨cur,hb,h1,h2,h3,h4,h5⟩:=h
 refine ⟨_,hb.set_ k _,h1,h2,by simpa using h3,by simpa using h4,?_⟩
 rw [Array.toList_setIfInBounds,List.take_set,h5]
 unfold zat
 rw [List.map_set]
theorem zbH.below {B : Nat} (h : zbH w t g cap n L) (hb : Below B w w') (hg : g < B) : zbH w' t g cap n L:=by
 obtain ⟨cur,h0,h1⟩:=h
 exact ⟨cur,h0.below hb hg,h1⟩
theorem zbH.keep (h : zbH w t g cap n L) (hb : Below w.heap.size w w') : zbH w' t g cap n L:=h.below hb h.lt
theorem zbH.drew (h : zbH w t g cap n L) : zbH w.drew t g cap n L:=h
theorem zbH.alloc (h : zbH w t g cap n L) (o : Obj) : zbH (w.alloc o) t g cap n L:=by
 obtain ⟨cur,h0,h1⟩:=h
 exact ⟨cur,h0.alloc o,h1⟩
theorem zbH.far (h : zbH w t g cap n L) {p : Addr} (hp : g ≠ p.block) (u : Value) : zbH (w.setCell p u) t g cap n L:=by
 obtain ⟨cur,h0,h1⟩:=h
 exact ⟨cur,h0.far hp u,h1⟩
theorem zbH.reads (h : zbH w t g cap n L) : zas w w.heap.size 1 (some ⟨g,0,none⟩) n (zat .u8 L):=by
 have hl:=h.lt
 have hc:=h.cell
 have hn:=h.len
 refine ⟨by rw [zaz]; omega,fun _ => ⟨_,rfl,hl,fun j u hu => ?_⟩⟩
 have hj : j < L.length:=by
  rcases Nat.lt_or_ge j L.length with hj | hj
  ·exact hj
  ·rw [List.getElem?_eq_none (by rw [zaz]; exact hj)] at hu; cases hu
 have e : (⟨g,0,none⟩ : Addr).add j = ⟨g,j,none⟩:=by unfold Addr.add; split <;> simp_all
 rw [e,hc j (by omega),← zcf .u8 L j hj,hu]
theorem zbH.own (h : zbH w t g cap n L) {base : Nat} (hb : base ≤ g) : w.ownsRow base t 1 (.slice (some ⟨g,0,none⟩) n cap) n (zat .u8 L):=by
 obtain ⟨cur,h0,h1,h2,h3,h4,h5⟩:=h
 exact ⟨by rw [zaz]; omega,.inr ⟨g,cap,cur,rfl,hb,h0,h1,h2,by omega,by rw [Nat.mul_one]; exact h5⟩⟩
theorem zbH.made (w : World) (t : TypeId) (N : Nat) (hN : N ≤ maxLen) : zbH (w.alloc (.cells (madeCells (Value.cells (.int .u8 0)) N) t)) t w.heap.size N N (List.replicate N 0):=by
 refine ⟨_,Blk.new w t _,Nat.le_refl _,hN,size_madeCells _ _,by simp,?_⟩
 show (madeCells #[Value.int .u8 0] N).toList.take N = _
 rw [toList_madeCells_one,List.take_of_length_le (by simp)]
 simp [zat]
theorem zbH.of_own {base : Nat} {v : Value} {l : List Nat} (h : w.ownsRow base t 1 v n (zat .u8 l)) (hn : 0 < n) : ∃ g cap,v = .slice (some ⟨g,0,none⟩) n cap ∧ base ≤ g ∧ zbH w t g cap n l:=by
 obtain ⟨h1,h2⟩:=h
 rcases h2 with ⟨_,h⟩ | ⟨g,cap,cur,e,hb,hk,a,b,c,d⟩
 ·omega
 ·refine ⟨g,cap,e,hb,cur,hk,a,b,by omega,by rw [zaz] at h1; omega,?_⟩
  rw [Nat.mul_one] at d
  exact d
end
set_option maxRecDepth 100000
set_option linter.unusedSimpArgs false
structure zfH (w : World) (v : Value) (w' : World) (v' : Value) : Prop where
 grown : w.grownBy w' v.ownBlock
 at_ : v'.ownBlock = v.ownBlock ∨ ∀ g,v'.ownBlock = some g → w.heap.size ≤ g
theorem zfH.refl (w : World) (v : Value) : zfH w v w v:=⟨World.grownBy.refl _ _,.inl rfl⟩
theorem zfH.alloc (w : World) (v : Value) (o : Obj) : zfH w v (w.alloc o) v:=⟨World.grownBy_alloc w o _,.inl rfl⟩
theorem zfH.trans {w w1 w2 : World} {v v1 v2 : Value} (h : zfH w v w1 v1) (k : zfH w1 v1 w2 v2) : zfH w v w2 v2:=by
 refine ⟨⟨k.grown.os.trans h.grown.os,k.grown.tape.trans h.grown.tape,k.grown.output.trans h.grown.output,Nat.le_trans h.grown.size k.grown.size,fun i hi hne => ?_⟩,?_⟩
 ·refine (k.grown.block i (Nat.lt_of_lt_of_le hi h.grown.size) (fun e => ?_)).trans (h.grown.block i hi hne)
  rcases h.at_ with h1 | h1
  ·exact hne (by rw [e,h1])
  ·have:=h1 i e.symm; omega
 ·rcases k.at_ with k1 | k1
  ·rw [k1]; exact h.at_
  ·exact .inr fun g hg => Nat.le_trans h.grown.size (k1 g hg)
theorem zfH.below {w w' : World} {v : Value} (hb : Below w.heap.size w w') : zfH w v w' v:=⟨⟨hb.os,hb.tape,hb.output,hb.size,fun i hi _ => hb.block i hi⟩,.inl rfl⟩
def lowD (n p : Nat) : List Nat:=(List.range n).map fun k => p / 10 ^ k % 10
theorem zkd (n p : Nat) : (lowD n p).length = n:=by simp [lowD]
theorem zmQ (n p : Nat) : lowD (n + 1) p = lowD n p ++ [p / 10 ^ n % 10]:=by simp [lowD,List.range_succ]
theorem lowD_dgs (n p : Nat) : Dgs 10 (lowD n p):=by
 intro d hd
 obtain ⟨j,_,rfl⟩:=List.mem_map.1 hd
 exact Nat.mod_lt _ (by decide)
theorem zlY (p : Nat) : ∀ n,dv 10 (lowD n p) = p % 10 ^ n
 | 0 => by simp [lowD,dv,Nat.mod_one]
 | n + 1 => by rw [zmQ,zbd,zlY p n,zkd,zaG 10 p n]
theorem zjL (l : List Nat) (i k a : Nat) : (l.set i a).getD k 0 = if i = k ∧ k < l.length then a else l.getD k 0:=by
 simp only [List.getD_eq_getElem?_getD,List.getElem?_set]
 by_cases h : i = k
 ·subst h
  by_cases h2 : i < l.length
  ·simp [h2]
  ·simp [h2]
 ·simp [h]
def zgC (L : List Nat) (i : Nat) (M : List Nat) : Prop:=M.length = L.length ∧ ∀ j,j < L.length → M.getD j 0 = if j < i ∨ L.length ≤ j + i then L.getD (L.length - 1 - j) 0 else L.getD j 0
theorem zgC.start (L : List Nat) : zgC L 0 L:=⟨rfl,fun j hj => by rw [if_neg (by omega)]⟩
theorem zgC.step {L M : List Nat} {i j : Nat} (h : zgC L i M) (hij : i + j + 1 = L.length) (hlt : i < j) : zgC L (i + 1) ((M.set i (M.getD j 0)).set j (M.getD i 0)):=by
 obtain ⟨h1,h2⟩:=h
 refine ⟨by simpa using h1,fun k hk => ?_⟩
 rw [zjL,zjL,List.length_set,h1]
 by_cases hkj : j = k
 ·subst hkj
  rw [if_pos ⟨rfl,hk⟩,if_pos (by omega),h2 i (by omega),if_neg (by omega)]
  congr 1; omega
 ·rw [if_neg (by omega)]
  by_cases hki : i = k
  ·subst hki
   rw [if_pos ⟨rfl,hk⟩,if_pos (by omega),h2 j (by omega),if_neg (by omega)]
   congr 1; omega
  ·rw [if_neg (by omega),h2 k hk]
   by_cases hc : k < i ∨ L.length ≤ k + i
   ·rw [if_pos hc,if_pos (by omega)]
   ·rw [if_neg hc,if_neg (by omega)]
theorem zgC.done {L M : List Nat} {i j : Nat} (h : zgC L i M) (hij : i + j + 1 = L.length) (hle : j ≤ i) : M = L.reverse:=by
 obtain ⟨h1,h2⟩:=h
 refine List.ext_getElem (by simpa using h1) fun k hk hk2 => ?_
 have h3:=h2 k (by omega)
 rw [List.getD_eq_getElem?_getD,List.getElem?_eq_getElem hk] at h3
 rw [List.getElem_reverse]
 have e1 : L[L.length - 1 - k]'(by omega) = L.getD (L.length - 1 - k) 0:=by rw [List.getD_eq_getElem?_getD,List.getElem?_eq_getElem (by omega)]; rfl
 rw [e1]
 refine Eq.trans h3 ?_
 by_cases hc : k < i ∨ L.length ≤ k + i
 ·rw [if_pos hc]
 ·rw [if_neg hc]
  congr 1; omega
theorem Off.drew {g : Nat} {w w' : World} (h : Off g w w') : Off g w w'.drew:=⟨h.os,h.tape,h.output,h.size,h.block⟩
end Go.Proofs.YtkiedljcgkoaiaaGreatDoor
