/- What this claim leans on. -/
import Derived.Test.YtedbgdlbgohiiaaGreatDoorBBunQ
import Derived.Deep.RegionLaw
import Derived.Laws.BytesArg
namespace Go.Proofs.YtedbgdlbgohiiaaGreatDoor
open Go Go.RowKit
set_option maxHeartbeats 16000000
def zaj (w : World) : Prop:=∀ j,j < Lib.deBruijn64tab.length → w.cell? ⟨0,j,none⟩ = some (.int .u8 (Lib.deBruijn64tab.getD j 0 : Nat))
theorem zaj.below {B : Nat} {w w' : World} (h : zaj w) (hb : Below B w w') (hB : 0 < B) : zaj w':=fun j hj => (hb.cell (p:=⟨0,j,none⟩) hB).trans (h j hj)
theorem zaj.drewN {w : World} (h : zaj w) (n : Nat) : zaj (w.drewN n):=h
theorem zaj.on {w w' : World} (h : zaj w) (hb : Below w.heap.size w w') : zaj w':=h.below hb (by
 have:=h 0 (by decide)
 exact World.block_lt_of_cell? w _ this)
theorem tz_key (x a : Nat) (hx : x < 18446744073709551616) (hx0 : x ≠ 0) (hlow : x &&& (18446744073709551616 - x) = a) :
  IntKind.u64.wrap (bits BinOp.and IntKind.u64 (x : Int) (IntKind.u64.wrap (-(x : Int))) * 285870213051353865) / 288230376151711744 = ((a * 285870213051353865 % 18446744073709551616 / 288230376151711744 : Nat) : Int):=by
 have e1 : IntKind.u64.wrap (-(x : Int)) = ((18446744073709551616 - x : Nat) : Int):=by rw [IntKind.wrap_u64]; omega
 rw [e1,bits_and_u64_nat x _ hx (by omega),hlow,IntKind.wrap_u64]
 omega
theorem zjr (x k idx : Nat) (w : World) (hx0 : ((x : Int) == 0) = false)
  (key : IntKind.u64.wrap (bits BinOp.and IntKind.u64 (x : Int) (IntKind.u64.wrap (-(x : Int))) * 285870213051353865) / 288230376151711744 = (idx : Int))
  (hi : idx < 64) (hk : k < 64) (hcell : w.cell? ⟨0,idx,none⟩ = some (.int .u8 k)) :
  Calls Tryz.prog 192 #[.int .u64 x] w fun e w' => e = .returned (.int .i64 k) ∧ w = w':=by
 go_enter Tryz.func192,Tryz.ntmps192
 go_wp2_with (simp only [key])
 go_ret
 exact ⟨rfl,rfl⟩
theorem zjs (w : World) :
  Calls Tryz.prog 192 #[.int .u64 0] w fun e w' => e = .returned (.int .i64 64) ∧ w = w':=by
 go_enter Tryz.func192,Tryz.ntmps192
 go_wp2
 go_ret
 exact ⟨rfl,rfl⟩
theorem zmA (x : Int) (hx : Wd x) (w : World) (hT : zaj w) :
  Calls Tryz.prog 192 #[.int .u64 x] w fun e w' => e = .returned (.int .i64 (zff x)) ∧ w = w':=by
 obtain ⟨h0,h1⟩:=hx
 obtain ⟨x,rfl⟩:=Int.eq_ofNat_of_zero_le h0
 have hN : x < 18446744073709551616:=by omega
 unfold zff
 rw [Int.toNat_natCast]
 by_cases hx0 : x = 0
 ·subst hx0
  exact zjs w
 ·obtain ⟨hlow,hk⟩:=Lib.lowest_bit 64 x hx0 hN
  obtain ⟨hi,htab⟩:=Lib.deBruijn64_at _ hk
  have hcell:=hT _ hi
  rw [htab] at hcell
  exact zjr x _ _ w (by simp; omega) (tz_key x _ hN hx0 hlow) hi hk hcell
theorem zlW (x : Int) (hx : Wd x) (w : World) (hT : zaj w) :
  Calls Tryz.prog 181 #[.int .u64 x] w fun e w' => e = .returned (.int .i64 (zff x)) ∧ w = w':=by
 have H:=lh9 (zmA x hx w hT)
 clear hT
 go_enter Tryz.func181,Tryz.ntmps181
 go_wp2_with (go_at_call 192; refine H.out.mono ?_; rintro e w' ⟨rfl,rfl⟩)
 go_ret
 exact ⟨rfl,rfl⟩
set_option linter.unusedVariables false
def zfW (x y : Int) : Int:=if x < y then -1 else if x = y then 0 else 1
theorem zgF (x y : Int) : zfW x y = 0 ↔ x = y:=by unfold zfW; split <;> (try split) <;> omega
def zgC (x : Int) : Int:=if x < 0 then -1 else if x = 0 then 0 else 1
def zbQ (w : World) (t : TypeId) (g cap n : Nat) (L : List Nat) : Prop :=
 ∃ cur,Blk w g t cur ∧ n ≤ cap ∧ cap ≤ maxLen ∧ cur.size = cap ∧ L.length = n ∧ cur.toList.take n = zaw .u8 L
section
variable {w w' : World} {t : TypeId} {g cap n : Nat} {L : List Nat}
theorem zbQ.len (h : zbQ w t g cap n L) : L.length = n:=by obtain ⟨_,_,_,_,_,h,_⟩:=h; exact h
theorem zbQ.room (h : zbQ w t g cap n L) : n ≤ cap ∧ cap ≤ maxLen:=by obtain ⟨_,_,h,h2,_⟩:=h; exact ⟨h,h2⟩
theorem zbQ.lt (h : zbQ w t g cap n L) : g < w.heap.size:=by obtain ⟨_,h,_⟩:=h; exact h.lt
theorem zbQ.cell (h : zbQ w t g cap n L) (k : Nat) (hk : k < n) : w.cell? ⟨g,k,none⟩ = some (.int .u8 (L.getD k 0 : Nat)):=by
 obtain ⟨cur,hb,h1,h2,h3,h4,h5⟩:=h
 rw [hb.cell k,← Array.getElem?_toList,← zcj .u8 L k (by omega),← h5,List.getElem?_take,if_pos hk]
theorem zbQ.frozen (h : zbQ w t g cap n L) (k : Nat) : w.frozen? ⟨g,k,none⟩ = false:=by
 obtain ⟨cur,hb,_⟩:=h
 exact hb.frozen k
theorem zbQ.set_ (h : zbQ w t g cap n L) (k d : Nat) (hk : k < n) : zbQ (w.setCell ⟨g,k,none⟩ (.int .u8 (d : Int))) t g cap n (L.set k d):=by
 obtain ⟨cur,hb,h1,h2,h3,h4,h5⟩:=h
 refine ⟨_,hb.set_ k _,h1,h2,by simpa using h3,by simpa using h4,?_⟩
 rw [Array.toList_setIfInBounds,List.take_set,h5]
 unfold zaw
 rw [List.map_set]
theorem zbQ.below {B : Nat} (h : zbQ w t g cap n L) (hb : Below B w w') (hg : g < B) : zbQ w' t g cap n L:=by
 obtain ⟨cur,h0,h1⟩:=h
 exact ⟨cur,h0.below hb hg,h1⟩
theorem zbQ.keep (h : zbQ w t g cap n L) (hb : Below w.heap.size w w') : zbQ w' t g cap n L:=h.below hb h.lt
theorem zbQ.drew (h : zbQ w t g cap n L) : zbQ w.drew t g cap n L:=h
theorem zbQ.alloc (h : zbQ w t g cap n L) (o : Obj) : zbQ (w.alloc o) t g cap n L:=by
 obtain ⟨cur,h0,h1⟩:=h
 exact ⟨cur,h0.alloc o,h1⟩
theorem zbQ.far (h : zbQ w t g cap n L) {p : Addr} (hp : g ≠ p.block) (u : Value) : zbQ (w.setCell p u) t g cap n L:=by
 obtain ⟨cur,h0,h1⟩:=h
 exact ⟨cur,h0.far hp u,h1⟩
theorem zbQ.reads (h : zbQ w t g cap n L) : zap w w.heap.size 1 (some ⟨g,0,none⟩) n (zaw .u8 L):=by
 have hl:=h.lt
 have hc:=h.cell
 have hn:=h.len
 refine ⟨by rw [zaz]; omega,fun _ => ⟨_,rfl,hl,fun j u hu => ?_⟩⟩
 have hj : j < L.length:=by
  rcases Nat.lt_or_ge j L.length with hj | hj
  ·exact hj
  ·rw [List.getElem?_eq_none (by rw [zaz]; exact hj)] at hu; cases hu
 have e : (⟨g,0,none⟩ : Addr).add j = ⟨g,j,none⟩:=by unfold Addr.add; split <;> simp_all
 rw [e,hc j (by omega),← zcj .u8 L j hj,hu]
theorem zbQ.own (h : zbQ w t g cap n L) {base : Nat} (hb : base ≤ g) : w.ownsRow base t 1 (.slice (some ⟨g,0,none⟩) n cap) n (zaw .u8 L):=by
 obtain ⟨cur,h0,h1,h2,h3,h4,h5⟩:=h
 exact ⟨by rw [zaz]; omega,.inr ⟨g,cap,cur,rfl,hb,h0,h1,h2,by omega,by rw [Nat.mul_one]; exact h5⟩⟩
theorem zbQ.made (w : World) (t : TypeId) (N : Nat) (hN : N ≤ maxLen) : zbQ (w.alloc (.cells (madeCells (Value.cells (.int .u8 0)) N) t)) t w.heap.size N N (List.replicate N 0):=by
 refine ⟨_,Blk.new w t _,Nat.le_refl _,hN,size_madeCells _ _,by simp,?_⟩
 show (madeCells #[Value.int .u8 0] N).toList.take N = _
 rw [toList_madeCells_one,List.take_of_length_le (by simp)]
 simp [zaw]
theorem zbQ.of_own {base : Nat} {v : Value} {l : List Nat} (h : w.ownsRow base t 1 v n (zaw .u8 l)) (hn : 0 < n) : ∃ g cap,v = .slice (some ⟨g,0,none⟩) n cap ∧ base ≤ g ∧ zbQ w t g cap n l:=by
 obtain ⟨h1,h2⟩:=h
 rcases h2 with ⟨_,h⟩ | ⟨g,cap,cur,e,hb,hk,a,b,c,d⟩
 ·omega
 ·refine ⟨g,cap,e,hb,cur,hk,a,b,by omega,by rw [zaz] at h1; omega,?_⟩
  rw [Nat.mul_one] at d
  exact d
end
set_option maxRecDepth 100000
set_option linter.unusedSimpArgs false
structure zfS (w : World) (v : Value) (w' : World) (v' : Value) : Prop where
 grown : w.grownBy w' v.ownBlock
 at_ : v'.ownBlock = v.ownBlock ∨ ∀ g,v'.ownBlock = some g → w.heap.size ≤ g
theorem zfS.refl (w : World) (v : Value) : zfS w v w v:=⟨World.grownBy.refl _ _,.inl rfl⟩
theorem zfS.alloc (w : World) (v : Value) (o : Obj) : zfS w v (w.alloc o) v:=⟨World.grownBy_alloc w o _,.inl rfl⟩
theorem zfS.trans {w w1 w2 : World} {v v1 v2 : Value} (h : zfS w v w1 v1) (k : zfS w1 v1 w2 v2) : zfS w v w2 v2:=by
 refine ⟨⟨k.grown.os.trans h.grown.os,k.grown.tape.trans h.grown.tape,k.grown.output.trans h.grown.output,Nat.le_trans h.grown.size k.grown.size,fun i hi hne => ?_⟩,?_⟩
 ·refine (k.grown.block i (Nat.lt_of_lt_of_le hi h.grown.size) (fun e => ?_)).trans (h.grown.block i hi hne)
  rcases h.at_ with h1 | h1
  ·exact hne (by rw [e,h1])
  ·have:=h1 i e.symm; omega
 ·rcases k.at_ with k1 | k1
  ·rw [k1]; exact h.at_
  ·exact .inr fun g hg => Nat.le_trans h.grown.size (k1 g hg)
theorem zfS.below {w w' : World} {v : Value} (hb : Below w.heap.size w w') : zfS w v w' v:=⟨⟨hb.os,hb.tape,hb.output,hb.size,fun i hi _ => hb.block i hi⟩,.inl rfl⟩
theorem Off.drew {g : Nat} {w w' : World} (h : Off g w w') : Off g w w'.drew:=⟨h.os,h.tape,h.output,h.size,h.block⟩
def Aside (v : Value) (B : oA9) (m : Nat) : Prop:=0 < m → ∀ ad,B = some ad → v.ownBlock ≠ some ad.block
theorem Aside.words {w w' : World} {v v' : Value} {x m d : Nat} {B : oA9} (h : Aside v B m) (hx : zad w x B m d) (hg : zfS w v w' v') : zad w' x B m d ∧ Aside v' B m:=by
 refine ⟨zgw hx hg.grown (fun hm ad e => (h hm ad e).symm),fun hm ad e => ?_⟩
 rcases hg.at_ with h1 | h1
 ·rw [h1]; exact h hm ad e
 ·intro h2
  have:=h1 _ h2
  obtain ⟨ad',e',hb,_⟩:=hx.1.2 hm
  rw [e] at e'
  injection e' with e'
  subst e'
  omega
theorem zfS.blk {w w' : World} {v v' : Value} {base g n : Nat} {t e : TypeId} {cs : Array Value} {vs : List Value} (h : zfS w v w' v') (hv : w.ownsRow base e 1 v n vs) (hk : Blk w g t cs) (hg : g < base) : Blk w' g t cs :=
 hk.grown h.grown (fun e => by have:=(hv.lt g e.symm).1; omega)
def TextB (x y : Nat) (D : List Nat) : Prop:=Dgs 10 D ∧ dv 10 D + 10 ^ D.length * y = x
theorem TextB.len {x y : Nat} {D : List Nat} (h : TextB x y D) (hy : y ≠ 0) : 10 ^ D.length ≤ x:=by
 have:=h.2
 have h1 : 10 ^ D.length * 1 ≤ 10 ^ D.length * y:=Nat.mul_le_mul_left _ (by omega)
 omega
theorem cop2 {q : Nat} (h : q % 2 ≠ 0) : Nat.gcd 2 q = 1:=by
 have h1 : Nat.gcd 2 q ∣ 2:=Nat.gcd_dvd_left 2 q
 have h2:=Nat.le_of_dvd (by decide) h1
 have h3 : Nat.gcd 2 q ≠ 0:=fun e => by rw [e] at h1; exact absurd (Nat.eq_zero_of_zero_dvd h1) (by decide)
 have h4 : Nat.gcd 2 q ≠ 2:=fun e => h (Nat.mod_eq_zero_of_dvd (by rw [← e]; exact Nat.gcd_dvd_right 2 q))
 omega
theorem zeX {p q : Nat} (hp : p % 2 = 0) (hq : q % 2 ≠ 0) : Nat.gcd (p / 2) q = Nat.gcd p q:=by
 have e : p = 2 * (p / 2):=by omega
 have h : Nat.Coprime 2 q:=cop2 hq
 rw [show Nat.gcd p q = Nat.gcd (2 * (p / 2)) q from by rw [← e]]
 exact (h.gcd_mul_left_cancel (p / 2)).symm
theorem gcd_take {p q : Nat} (h : q ≤ p) : Nat.gcd (p - q) q = Nat.gcd p q:=by
 obtain ⟨s,rfl⟩ : ∃ s,p = q + s:=⟨p - q,by omega⟩
 rw [Nat.add_sub_cancel_left,Nat.gcd_self_add_left]
end Go.Proofs.YtedbgdlbgohiiaaGreatDoor
