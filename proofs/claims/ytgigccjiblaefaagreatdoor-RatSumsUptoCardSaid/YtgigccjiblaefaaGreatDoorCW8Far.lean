/- What this claim leans on. -/
import Derived.Test.YtgigccjiblaefaaGreatDoorCP8C
namespace Go.Proofs.YtgigccjiblaefaaGreatDoor
open Go Go.RowKit
set_option maxHeartbeats 16000000
set_option linter.unusedVariables false
def zdM (g : Nat) (w w' : World) : Prop := w'.heap.size = w.heap.size ∧ ∀ p : Addr,p.block ≠ g → w'.cell? p = w.cell? p
theorem zdM.refl (g : Nat) (w : World) : zdM g w w := ⟨rfl,fun _ _ => rfl⟩
theorem zdM.set_ {g : Nat} {w w' : World} (h : zdM g w w') (j : Nat) (v : Value) : zdM g w (w'.setCell ⟨g,j,none⟩ v) :=
 ⟨by rw [← h.1]; simp,fun p hp => (World.cell?_setCell_other w' ⟨g,j,none⟩ p v (fun e => hp (by first | rw [e] | rw [← e]))).trans (h.2 p hp)⟩
theorem zbp (w : World) (g : Nat) (v0 : Value) : zdM g w (w.setCell ⟨g,0,none⟩ v0) := (zdM.refl g w).set_ 0 v0
theorem zdg (w : World) (g : Nat) (v0 v1 : Value) : zdM g w ((w.setCell ⟨g,0,none⟩ v0).setCell ⟨g,1,none⟩ v1) := (zbp w g v0).set_ 1 v1
theorem zcx (w : World) (g : Nat) (v0 v1 v2 : Value) : zdM g w (((w.setCell ⟨g,0,none⟩ v0).setCell ⟨g,1,none⟩ v1).setCell ⟨g,2,none⟩ v2) := (zdg w g v0 v1).set_ 2 v2
def NoU (cs : Array Value) : Prop := ∀ v ∈ cs.toList,∀ k z,v ≠ .int k z
theorem NoU.s1 (q : oA9) (r s : Nat) : NoU #[.slice q r s] := by intro v hv k z e; simp at hv; subst hv; cases e
theorem NoU.s2 (p : Bool) (q : oA9) (r s : Nat) : NoU #[.bool p,.slice q r s] := by intro v hv k z e; simp at hv; rcases hv with rfl | rfl <;> cases e
theorem NoU.s3 (p : Bool) (q : oA9) (r s : Nat) (q2 : oA9) (r2 s2 : Nat) : NoU #[.bool p,.slice q r s,.slice q2 r2 s2] := by intro v hv k z e; simp at hv; rcases hv with rfl | rfl | rfl <;> cases e
theorem zbD : NoU #[.slice none 0 0] := NoU.s1 _ _ _
theorem zel : NoU #[.bool false,.slice none 0 0] := NoU.s2 _ _ _ _
theorem zcU : NoU #[.bool false,.slice none 0 0,.slice none 0 0] := NoU.s3 _ _ _ _ _ _ _
theorem zlP {w : World} {A : oA9} {n g : Nat} {k : IntKind} {l : List Nat} {t : TypeId} {cs : Array Value} (h : zar w w.heap.size 1 A n (zas k l)) (hk : Blk w g t cs) (hcs : NoU cs) : 0 < n → ∀ ad,A = some ad → ad.block ≠ g := fun hn ad e hg => by
 have hl := h.len_
 obtain ⟨ad',e',_,hc⟩ := h.2 hn
 rw [e] at e'
 injection e' with e'
 subst e'
 have h0 := hc 0 (.int k (l.getD 0 0 : Nat)) (zcb k _ 0 (by omega))
 have e0 : ad.add 0 = ad := by unfold Addr.add; rw [if_pos rfl]
 rw [e0] at h0
 obtain ⟨bk,off,pr⟩ := ad
 simp only at hg
 subst hg
 unfold Blk at hk
 cases pr with
 | none =>
   rw [show w.cell? ⟨bk,off,none⟩ = cs[off]? from cell_of_row w bk off _ t (0,0) hk,← Array.getElem?_toList] at h0
   exact hcs _ (List.mem_of_getElem? h0) _ _ rfl
 | some q => simp [World.cell?,hk] at h0
theorem zgF {w w' : World} {A : oA9} {n g : Nat} {k : IntKind} {l : List Nat} {t : TypeId} {cs : Array Value} (h : zar w w.heap.size 1 A n (zas k l)) (hk : Blk w g t cs) (hcs : NoU cs) (ho : zdM g w w') : zar w' w'.heap.size 1 A n (zas k l) := by
 have hne := zlP h hk hcs
 refine ⟨h.1,fun hn => ?_⟩
 obtain ⟨ad,e,hb,hc⟩ := h.2 hn
 refine ⟨ad,e,by rw [ho.1]; exact hb,fun j v hv => ?_⟩
 rw [ho.2 (ad.add j) (by rw [zaM]; exact hne hn ad e)]
 exact hc j v hv
theorem zat {w w' : World} {x : Nat} {A : oA9} {n c g : Nat} {t : TypeId} {cs : Array Value} (h : zag w x A n c) (hk : Blk w g t cs) (hcs : NoU cs) (ho : zdM g w w') : zag w' x A n c := ⟨zgF h.1 hk hcs ho,h.2⟩
theorem zbu {w w' : World} {z : Int} {b : Bool} {A : oA9} {n c g : Nat} {t : TypeId} {cs : Array Value} (h : zau w z b A n c) (hk : Blk w g t cs) (hcs : NoU cs) (ho : zdM g w w') : zau w' z b A n c := ⟨h.1,zat h.2 hk hcs ho⟩
theorem zbx {w w' : World} {r : Rat} {b : Bool} {A : oA9} {n c : Nat} {E : oA9} {k f : Nat} {g : Nat} {t : TypeId} {cs : Array Value} (h : zam w r b A n c E k f) (hk : Blk w g t cs) (hcs : NoU cs) (ho : zdM g w w') : zam w' r b A n c E k f := by
 refine ⟨zbu h.1 hk hcs ho,?_⟩
 obtain ⟨x,e,hx⟩ := h.2
 exact ⟨x,e,zat hx hk hcs ho⟩
def SzQ (K : Nat) (r : Rat) : Prop := LtQ (18446744073709551616 ^ K) r
theorem SzQ.up {K K' : Nat} {r : Rat} (h : SzQ K r) (hk : K ≤ K') : SzQ K' r := LtQ.up h (Nat.pow_le_pow_right (by decide) hk)
theorem zfK (K K' : Nat) : 2 * (18446744073709551616 ^ K * 18446744073709551616 ^ K') ≤ 18446744073709551616 ^ (K + K' + 1) := by
 rw [Nat.pow_succ,Nat.pow_add,Nat.mul_comm]
 exact Nat.mul_le_mul_left _ (by decide)
theorem SzQ.add {K K' : Nat} {r s : Rat} (h : SzQ K r) (h' : SzQ K' s) : SzQ (K + K' + 1) (r + s) := LtQ.up (LtQ.add h h') (zfK K K')
theorem SzQ.sub {K K' : Nat} {r s : Rat} (h : SzQ K r) (h' : SzQ K' s) : SzQ (K + K' + 1) (r - s) := LtQ.up (LtQ.sub h h') (zfK K K')
theorem SzQ.mul {K K' : Nat} {r s : Rat} (h : SzQ K r) (h' : SzQ K' s) : SzQ (K + K') (r * s) := LtQ.up (LtQ.mul h h') (by rw [Nat.pow_add]; exact Nat.le_refl _)
theorem SzQ.div {K K' : Nat} {r s : Rat} (h : SzQ K r) (h' : SzQ K' s) : SzQ (K + K') (r / s) := LtQ.up (LtQ.div h h') (by rw [Nat.pow_add]; exact Nat.le_refl _)
theorem SzQ.neg {K : Nat} {r : Rat} (h : SzQ K r) : SzQ K (-r) := LtQ.neg h
theorem SzQ.inv {K : Nat} {r : Rat} (h : SzQ K r) : SzQ K r⁻¹ := LtQ.inv h
theorem SzQ.abs {K : Nat} {r : Rat} (h : SzQ K r) : SzQ K r.abs := by
 unfold Rat.abs
 split
 ·exact h
 ·exact h.neg
theorem SzQ.num {K : Nat} {r : Rat} (h : SzQ K r) : Sz K r.num.natAbs := h.1
theorem SzQ.den {K : Nat} {r : Rat} (h : SzQ K r) : Sz K r.den := h.2
theorem zbt {K : Nat} (h : 0 < K) : 1 < 18446744073709551616 ^ K := Nat.one_lt_pow (by omega) (by decide)
theorem SzQ.made {K : Nat} {p q : Int} (h : Sz K p.natAbs) (h' : Sz K q.natAbs) (hK : 0 < K) : SzQ K (Rat.divInt p q) := LtQ.made h h' (zbt hK)
theorem SzQ.zero : SzQ 1 (0 : Rat) := ⟨by decide,by decide⟩
theorem zeF (r : Rat) : r.floor.natAbs ≤ r.num.natAbs := by
 rw [Rat.floor_def]
 exact Int.natAbs_ediv_le_natAbs _ _
theorem ziF (r : Rat) : r.ceil.natAbs ≤ r.num.natAbs := by
 rw [Rat.ceil_eq_neg_floor_neg,Int.natAbs_neg]
 have := zeF (-r)
 rwa [Rat.neg_num,Int.natAbs_neg] at this
theorem SzQ.floor {K : Nat} {r : Rat} (h : SzQ K r) : Sz K r.floor.natAbs := h.num.of_le (zeF r)
theorem SzQ.ceil {K : Nat} {r : Rat} (h : SzQ K r) : Sz K r.ceil.natAbs := h.num.of_le (ziF r)
theorem SzQ.fit {K : Nat} {r : Rat} (h : SzQ K r) {w : World} {b : Bool} {A : oA9} {n c : Nat} {E : oA9} {k f : Nat} (hr : zam w r b A n c E k f) (hK : K ≤ 67108864) : zaC n k := by
 refine ⟨Nat.le_trans (h.num.words hr.1.2) (Nat.le_trans hK (by decide)),?_⟩
 obtain ⟨x,⟨e,_⟩,hx⟩ := hr.2
 have hd : Sz K x := h.den.of_le (by rw [e]; split <;> omega)
 exact Nat.le_trans (hd.words hx) (Nat.le_trans hK (by decide))
end Go.Proofs.YtgigccjiblaefaaGreatDoor
