/- What this claim leans on. -/
import Derived.Test.YtkiedljcgkoaiaaGreatDoorTP8C
namespace Go.Proofs.YtkiedljcgkoaiaaGreatDoor
open Go Go.RowKit
open Go.ChangeShapes Go.WideShapes Go.ChangeAt
set_option maxHeartbeats 16000000
set_option linter.unusedVariables false
namespace UA
set_option maxHeartbeats 16000000
theorem one_le {H : Type} (d : DataW H) : 1 ≤ Rows.uptoBulk d:=by
 cases d with
 | lit l => cases l <;> simp [Rows.uptoBulk]
 | nil => simp [Rows.uptoBulk]
 | ptr d => simp [Rows.uptoBulk]
 | slice elems spare => simp [Rows.uptoBulk]
 | agg parts => simp [Rows.uptoBulk]
 | iface t d => simp [Rows.uptoBulk]
 | map entries => simp [Rows.uptoBulk]
 | held h => simp [Rows.uptoBulk]
theorem zis {H : Type} (l : List (DataW H)) : l.length ≤ Rows.uptoBulkAll l:=by
 induction l with
 | nil => simp [Rows.uptoBulkAll]
 | cons x r ih => have:=one_le x; simp only [Rows.uptoBulkAll,List.length_cons]; omega
theorem slice_le {H : Type} (elems spare : List (DataW H)) : elems.length + spare.length + 1 ≤ Rows.uptoBulk (.slice elems spare):=by
 have h1:=zis elems
 have h2:=zis spare
 simp only [Rows.uptoBulk]
 omega
end UA
end Go.Proofs.YtkiedljcgkoaiaaGreatDoor
namespace Go.Proofs.YtkiedljcgkoaiaaGreatDoor
open Go Go.RowKit
open Go.ChangeShapes Go.WideShapes Go.ChangeAt Go.Deep
set_option maxHeartbeats 16000000
set_option linter.unusedVariables false
end Go.Proofs.YtkiedljcgkoaiaaGreatDoor
namespace Go.Proofs.YtkiedljcgkoaiaaGreatDoor
open Go Go.RowKit
open Go.ChangeShapes Go.WideShapes Go.ChangeAt Go.Deep
set_option maxHeartbeats 16000000
set_option linter.unusedVariables false
end Go.Proofs.YtkiedljcgkoaiaaGreatDoor
namespace Go.Proofs.YtkiedljcgkoaiaaGreatDoor
open Go Go.RowKit
set_option maxHeartbeats 16000000
def zam (w : World) : Prop:=∀ j,j < Lib.deBruijn64tab.length → w.cell? ⟨0,j,none⟩ = some (.int .u8 (Lib.deBruijn64tab.getD j 0 : Nat))
theorem zam.below {B : Nat} {w w' : World} (h : zam w) (hb : Below B w w') (hB : 0 < B) : zam w':=fun j hj => (hb.cell (p:=⟨0,j,none⟩) hB).trans (h j hj)
theorem zam.drewN {w : World} (h : zam w) (n : Nat) : zam (w.drewN n):=h
theorem zam.on {w w' : World} (h : zam w) (hb : Below w.heap.size w w') : zam w':=h.below hb (by
 have:=h 0 (by decide)
 exact World.block_lt_of_cell? w _ this)
end Go.Proofs.YtkiedljcgkoaiaaGreatDoor
namespace Go.Proofs.YtkiedljcgkoaiaaGreatDoor
open Go Go.RowKit
set_option maxHeartbeats 16000000
theorem tz_key (x a : Nat) (hx : x < 18446744073709551616) (hx0 : x ≠ 0) (hlow : x &&& (18446744073709551616 - x) = a) :
  IntKind.u64.wrap (bits BinOp.and IntKind.u64 (x : Int) (IntKind.u64.wrap (-(x : Int))) * 285870213051353865) / 288230376151711744 = ((a * 285870213051353865 % 18446744073709551616 / 288230376151711744 : Nat) : Int):=by
 have e1 : IntKind.u64.wrap (-(x : Int)) = ((18446744073709551616 - x : Nat) : Int):=by rw [IntKind.wrap_u64]; omega
 rw [e1,bits_and_u64_nat x _ hx (by omega),hlow,IntKind.wrap_u64]
 omega
theorem zjs (x k idx : Nat) (w : World) (hx0 : ((x : Int) == 0) = false)
  (key : IntKind.u64.wrap (bits BinOp.and IntKind.u64 (x : Int) (IntKind.u64.wrap (-(x : Int))) * 285870213051353865) / 288230376151711744 = (idx : Int))
  (hi : idx < 64) (hk : k < 64) (hcell : w.cell? ⟨0,idx,none⟩ = some (.int .u8 k)) :
  Calls Tryz.prog 148 #[.int .u64 x] w fun e w' => e = .returned (.int .i64 k) ∧ w = w':=by
 go_enter Tryz.func148,Tryz.ntmps148
 go_wp2_with (simp only [key])
 go_ret
 exact ⟨rfl,rfl⟩
theorem zjt (w : World) :
  Calls Tryz.prog 148 #[.int .u64 0] w fun e w' => e = .returned (.int .i64 64) ∧ w = w':=by
 go_enter Tryz.func148,Tryz.ntmps148
 go_wp2
 go_ret
 exact ⟨rfl,rfl⟩
theorem zmF (x : Int) (hx : Wd x) (w : World) (hT : zam w) :
  Calls Tryz.prog 148 #[.int .u64 x] w fun e w' => e = .returned (.int .i64 (zfp x)) ∧ w = w':=by
 obtain ⟨h0,h1⟩:=hx
 obtain ⟨x,rfl⟩:=Int.eq_ofNat_of_zero_le h0
 have hN : x < 18446744073709551616:=by omega
 unfold zfp
 rw [Int.toNat_natCast]
 by_cases hx0 : x = 0
 ·subst hx0
  exact zjt w
 ·obtain ⟨hlow,hk⟩:=Lib.lowest_bit 64 x hx0 hN
  obtain ⟨hi,htab⟩:=Lib.deBruijn64_at _ hk
  have hcell:=hT _ hi
  rw [htab] at hcell
  exact zjs x _ _ w (by simp; omega) (tz_key x _ hN hx0 hlow) hi hk hcell
end Go.Proofs.YtkiedljcgkoaiaaGreatDoor
namespace Go.Proofs.YtkiedljcgkoaiaaGreatDoor
open Go Go.RowKit
set_option maxHeartbeats 16000000
theorem zlW (x : Int) (hx : Wd x) (w : World) (hT : zam w) :
  Calls Tryz.prog 140 #[.int .u64 x] w fun e w' => e = .returned (.int .i64 (zfp x)) ∧ w = w':=by
 have H:=lh9 (zmF x hx w hT)
 clear hT
 go_enter Tryz.func140,Tryz.ntmps140
 go_wp2_with (go_at_call 148; refine H.out.mono ?_; rintro e w' ⟨rfl,rfl⟩)
 go_ret
 exact ⟨rfl,rfl⟩
end Go.Proofs.YtkiedljcgkoaiaaGreatDoor
namespace Go.Proofs.YtkiedljcgkoaiaaGreatDoor
open Go Go.RowKit
set_option maxHeartbeats 16000000
set_option linter.unusedVariables false
def zdx (g : Nat) (w w' : World) : Prop:=w'.heap.size = w.heap.size ∧ ∀ p : Addr,p.block ≠ g → w'.cell? p = w.cell? p
theorem zdx.refl (g : Nat) (w : World) : zdx g w w:=⟨rfl,fun _ _ => rfl⟩
theorem zdx.set_ {g : Nat} {w w' : World} (h : zdx g w w') (j : Nat) (v : Value) : zdx g w (w'.setCell ⟨g,j,none⟩ v) :=
 ⟨by rw [← h.1]; simp,fun p hp => (World.cell?_setCell_other w' ⟨g,j,none⟩ p v (fun e => hp (by first | rw [e] | rw [← e]))).trans (h.2 p hp)⟩
theorem zbB (w : World) (g : Nat) (v0 : Value) : zdx g w (w.setCell ⟨g,0,none⟩ v0):=(zdx.refl g w).set_ 0 v0
theorem zgf (w : World) (g : Nat) (v0 v1 : Value) : zdx g w ((w.setCell ⟨g,0,none⟩ v0).setCell ⟨g,1,none⟩ v1):=(zbB w g v0).set_ 1 v1
theorem off3 (w : World) (g : Nat) (v0 v1 v2 : Value) : zdx g w (((w.setCell ⟨g,0,none⟩ v0).setCell ⟨g,1,none⟩ v1).setCell ⟨g,2,none⟩ v2):=(zgf w g v0 v1).set_ 2 v2
def NoU (cs : Array Value) : Prop:=∀ v ∈ cs.toList,∀ k z,v ≠ .int k z
theorem NoU.s1 (q : oA9) (r s : Nat) : NoU #[.slice q r s]:=by intro v hv k z e; simp at hv; subst hv; cases e
theorem NoU.s2 (p : Bool) (q : oA9) (r s : Nat) : NoU #[.bool p,.slice q r s]:=by intro v hv k z e; simp at hv; rcases hv with rfl | rfl <;> cases e
theorem NoU.s3 (p : Bool) (q : oA9) (r s : Nat) (q2 : oA9) (r2 s2 : Nat) : NoU #[.bool p,.slice q r s,.slice q2 r2 s2]:=by intro v hv k z e; simp at hv; rcases hv with rfl | rfl | rfl <;> cases e
theorem zbN : NoU #[.slice none 0 0]:=NoU.s1 _ _ _
theorem nou2 : NoU #[.bool false,.slice none 0 0]:=NoU.s2 _ _ _ _
theorem ziC {w : World} {A : oA9} {n g : Nat} {k : IntKind} {l : List Nat} {t : TypeId} {cs : Array Value} (h : zaq w w.heap.size 1 A n (zar k l)) (hk : Blk w g t cs) (hcs : NoU cs) : 0 < n → ∀ ad,A = some ad → ad.block ≠ g:=fun hn ad e hg => by
 have hl:=h.len_
 obtain ⟨ad',e',_,hc⟩:=h.2 hn
 rw [e] at e'
 injection e' with e'
 subst e'
 have h0:=hc 0 (.int k (l.getD 0 0 : Nat)) (zci k _ 0 (by omega))
 have e0 : ad.add 0 = ad:=by unfold Addr.add; rw [if_pos rfl]
 rw [e0] at h0
 obtain ⟨bk,off,pr⟩:=ad
 simp only at hg
 subst hg
 unfold Blk at hk
 cases pr with
 | none =>
   rw [show w.cell? ⟨bk,off,none⟩ = cs[off]? from cell_of_row w bk off _ t (0,0) hk,← Array.getElem?_toList] at h0
   exact hcs _ (List.mem_of_getElem? h0) _ _ rfl
 | some q => simp [World.cell?,hk] at h0
theorem ziD {w w' : World} {A : oA9} {n g : Nat} {k : IntKind} {l : List Nat} {t : TypeId} {cs : Array Value} (h : zaq w w.heap.size 1 A n (zar k l)) (hk : Blk w g t cs) (hcs : NoU cs) (ho : zdx g w w') : zaq w' w'.heap.size 1 A n (zar k l):=by
 have hne:=ziC h hk hcs
 refine ⟨h.1,fun hn => ?_⟩
 obtain ⟨ad,e,hb,hc⟩:=h.2 hn
 refine ⟨ad,e,by rw [ho.1]; exact hb,fun j v hv => ?_⟩
 rw [ho.2 (ad.add j) (by rw [zav]; exact hne hn ad e)]
 exact hc j v hv
theorem zat {w w' : World} {x : Nat} {A : oA9} {n c g : Nat} {t : TypeId} {cs : Array Value} (h : zag w x A n c) (hk : Blk w g t cs) (hcs : NoU cs) (ho : zdx g w w') : zag w' x A n c:=⟨ziD h.1 hk hcs ho,h.2⟩
theorem zfH {w w' : World} {z : Int} {b : Bool} {A : oA9} {n c g : Nat} {t : TypeId} {cs : Array Value} (h : zay w z b A n c) (hk : Blk w g t cs) (hcs : NoU cs) (ho : zdx g w w') : zay w' z b A n c:=⟨h.1,zat h.2 hk hcs ho⟩
theorem zhl {w w' : World} {r : Rat} {b : Bool} {A : oA9} {n c : Nat} {E : oA9} {k f : Nat} {g : Nat} {t : TypeId} {cs : Array Value} (h : zan w r b A n c E k f) (hk : Blk w g t cs) (hcs : NoU cs) (ho : zdx g w w') : zan w' r b A n c E k f:=by
 refine ⟨zfH h.1 hk hcs ho,?_⟩
 obtain ⟨x,e,hx⟩:=h.2
 exact ⟨x,e,zat hx hk hcs ho⟩
def SzQ (K : Nat) (r : Rat) : Prop:=LtQ (18446744073709551616 ^ K) r
theorem SzQ.up {K K' : Nat} {r : Rat} (h : SzQ K r) (hk : K ≤ K') : SzQ K' r:=LtQ.up h (Nat.pow_le_pow_right (by decide) hk)
theorem zlz (K K' : Nat) : 2 * (18446744073709551616 ^ K * 18446744073709551616 ^ K') ≤ 18446744073709551616 ^ (K + K' + 1):=by
 rw [Nat.pow_succ,Nat.pow_add,Nat.mul_comm]
 exact Nat.mul_le_mul_left _ (by decide)
theorem SzQ.add {K K' : Nat} {r s : Rat} (h : SzQ K r) (h' : SzQ K' s) : SzQ (K + K' + 1) (r + s):=LtQ.up (LtQ.add h h') (zlz K K')
theorem SzQ.mul {K K' : Nat} {r s : Rat} (h : SzQ K r) (h' : SzQ K' s) : SzQ (K + K') (r * s):=LtQ.up (LtQ.mul h h') (by rw [Nat.pow_add]; exact Nat.le_refl _)
theorem SzQ.neg {K : Nat} {r : Rat} (h : SzQ K r) : SzQ K (-r):=LtQ.neg h
theorem SzQ.abs {K : Nat} {r : Rat} (h : SzQ K r) : SzQ K r.abs:=by
 unfold Rat.abs
 split
 ·exact h
 ·exact h.neg
theorem SzQ.num {K : Nat} {r : Rat} (h : SzQ K r) : Sz K r.num.natAbs:=h.1
theorem SzQ.den {K : Nat} {r : Rat} (h : SzQ K r) : Sz K r.den:=h.2
theorem zdY {K : Nat} (h : 0 < K) : 1 < 18446744073709551616 ^ K:=Nat.one_lt_pow (by omega) (by decide)
theorem SzQ.whole {K : Nat} {z : Int} (h : Sz K z.natAbs) (hK : 0 < K) : SzQ K (z : Rat):=LtQ.whole h (zdY hK)
theorem SzQ.made {K : Nat} {p q : Int} (h : Sz K p.natAbs) (h' : Sz K q.natAbs) (hK : 0 < K) : SzQ K (Rat.divInt p q):=LtQ.made h h' (zdY hK)
theorem SzQ.zero : SzQ 1 (0 : Rat):=⟨by decide,by decide⟩
theorem SzQ.fit {K : Nat} {r : Rat} (h : SzQ K r) {w : World} {b : Bool} {A : oA9} {n c : Nat} {E : oA9} {k f : Nat} (hr : zan w r b A n c E k f) (hK : K ≤ 67108864) : zaK n k:=by
 refine ⟨Nat.le_trans (h.num.words hr.1.2) (Nat.le_trans hK (by decide)),?_⟩
 obtain ⟨x,⟨e,_⟩,hx⟩:=hr.2
 have hd : Sz K x:=h.den.of_le (by rw [e]; split <;> omega)
 exact Nat.le_trans (hd.words hx) (Nat.le_trans hK (by decide))
end Go.Proofs.YtkiedljcgkoaiaaGreatDoor
namespace Go.Proofs.YtkiedljcgkoaiaaGreatDoor
open Go Go.RowKit
set_option maxHeartbeats 16000000
set_option linter.unusedVariables false
def zck (w : World) (x : Nat) (e : Ending) (w' : World) : Prop:=∃ (A : oA9) (n c : Nat),e = .returned (.agg #[.slice A n c]) ∧ zag w' x A n c ∧ Below w.heap.size w w'
def ziO (w : World) (x y : Nat) (e : Ending) (w' : World) : Prop:=∃ (A : oA9) (n c : Nat) (B : oA9) (m d : Nat),e = .returned (.tuple #[.agg #[.slice A n c],.agg #[.slice B m d]]) ∧ zag w' x A n c ∧ zag w' y B m d ∧ Below w.heap.size w w'
theorem Sz.gcd {K K' x y : Nat} (h : Sz K x) (h' : Sz K' y) : Sz (K + K') (Nat.gcd x y):=by
 rcases Nat.eq_zero_or_pos x with e | e
 ·rw [e,Nat.gcd_zero_left]; exact h'.up (by omega)
 ·exact (h.of_le (Nat.gcd_le_left y e)).up (by omega)
structure GcdC : Prop where
 of : ∀ (x y : Nat) (A D : oA9) (n m c d : Nat) (w : World),zag w x A n c → zag w y D m d → n ≤ 1073741824 → m ≤ 1073741824 → zam w → Calls Tryz.prog 108 #[.agg #[.slice A n c],.agg #[.slice D m d]] w (zck w (Nat.gcd x y))
 reduce : ∀ (x y : Nat) (A D : oA9) (n m c d : Nat) (w : World),zag w x A n c → zag w y D m d → n ≤ 1073741824 → m ≤ 1073741824 → zam w → Calls Tryz.prog 74 #[.agg #[.slice A n c],.agg #[.slice D m d]] w (ziO w (x / Nat.gcd x y) (y / Nat.gcd x y))
end Go.Proofs.YtkiedljcgkoaiaaGreatDoor
