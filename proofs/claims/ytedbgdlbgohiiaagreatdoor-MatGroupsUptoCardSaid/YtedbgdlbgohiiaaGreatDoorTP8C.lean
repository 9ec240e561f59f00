/- What this claim leans on. -/
import Derived.Test.YtedbgdlbgohiiaaGreatDoorTP4C
namespace Go.Proofs.YtedbgdlbgohiiaaGreatDoor
open Go Go.RowKit
set_option maxHeartbeats 16000000
set_option linter.unusedVariables false
def DenIn (w : World) (q : Nat) (A : oA9) (n c : Nat) : Prop:=∃ x,(q = (if x = 0 then 1 else x) ∧ x ≠ 1) ∧ zad w x A n c
theorem DenIn.below {w w' : World} {q : Nat} {A : oA9} {n c : Nat} (h : DenIn w q A n c) (hb : Below w.heap.size w w') : DenIn w' q A n c:=by
 obtain ⟨x,e,h1⟩:=h
 exact ⟨x,e,h1.below hb⟩
def zaj (w : World) (r : Rat) (b : Bool) (A : oA9) (n c : Nat) (E : oA9) (k f : Nat) : Prop:=zaB w r.num b A n c ∧ DenIn w r.den E k f
theorem zaj.below {w w' : World} {r : Rat} {b : Bool} {A : oA9} {n c : Nat} {E : oA9} {k f : Nat} (h : zaj w r b A n c E k f) (hb : Below w.heap.size w w') : zaj w' r b A n c E k f:=⟨h.1.below hb,h.2.below hb⟩
theorem zaj.to {w : World} {r s : Rat} {b : Bool} {A : oA9} {n c : Nat} {E : oA9} {k f : Nat} (e : r = s) (h : zaj w r b A n c E k f) : zaj w s b A n c E k f:=e ▸ h
def zaH (w : World) (r : Rat) (e : Ending) (w' : World) : Prop:=∃ (b : Bool) (A : oA9) (n c : Nat) (E : oA9) (k f : Nat),e = .returned (.agg #[.bool b,.slice A n c,.slice E k f]) ∧ zaj w' r b A n c E k f ∧ Below w.heap.size w w'
def zcz (w : World) (r : Rat) (t : Bool) (e : Ending) (w' : World) : Prop:=∃ (b : Bool) (A : oA9) (n c : Nat) (E : oA9) (k f : Nat),e = .returned (.tuple #[.agg #[.bool b,.slice A n c,.slice E k f],.bool t]) ∧ zaj w' r b A n c E k f ∧ Below w.heap.size w w'
def zaP (n k : Nat) : Prop:=n ≤ 67108864 ∧ k ≤ 67108864
structure RatG0 (T : World → Prop) : Prop where
 mul : ∀ (r s : Rat) (b b' : Bool) (A A' : oA9) (n n' c c' : Nat) (E E' : oA9) (k k' f f' : Nat) (w : World),T w → zaj w r b A n c E k f → zaj w s b' A' n' c' E' k' f' → zaP n k → zaP n' k' → Calls Tryz.prog 139 #[.agg #[.bool b,.slice A n c,.slice E k f],.agg #[.bool b',.slice A' n' c',.slice E' k' f']] w (zaH w (r * s))
structure RatG1 (T : World → Prop) : Prop where
structure RatG2 (T : World → Prop) : Prop where
 int : ∀ (z : Int) (w : World),T w → -9223372036854775808 ≤ z → z ≤ 9223372036854775807 → Calls Tryz.prog 27 #[.int .i64 z] w (zaH w (z : Rat))
structure RatC (T : World → Prop) (M : Nat → Prop) : Prop where
 g0 : M 0 → RatG0 T
 g1 : M 1 → RatG1 T
 g2 : M 2 → RatG2 T
 new : ∀ (p q : Int) (b b' : Bool) (A D : oA9) (n m c d : Nat) (w : World),T w → zaB w p b A n c → zaB w q b' D m d → n ≤ 67108864 → m ≤ 67108864 → q ≠ 0 → Calls Tryz.prog 103 #[.agg #[.bool b,.slice A n c],.agg #[.bool b',.slice D m d]] w (zcz w (Rat.divInt p q) true)
 newNo : ∀ (p q : Int) (b b' : Bool) (A D : oA9) (n m c d : Nat) (w : World),T w → zaB w p b A n c → zaB w q b' D m d → n ≤ 67108864 → m ≤ 67108864 → q = 0 → Calls Tryz.prog 103 #[.agg #[.bool b,.slice A n c],.agg #[.bool b',.slice D m d]] w (zcz w 0 false)
 of : ∀ (p q : Int) (w : World),T w → -9223372036854775808 ≤ p → p ≤ 9223372036854775807 → -9223372036854775808 ≤ q → q ≤ 9223372036854775807 → q ≠ 0 → Calls Tryz.prog 61 #[.int .i64 p,.int .i64 q] w (zcz w (Rat.divInt p q) true)
 ofNo : ∀ (p q : Int) (w : World),T w → -9223372036854775808 ≤ p → p ≤ 9223372036854775807 → q = 0 → Calls Tryz.prog 61 #[.int .i64 p,.int .i64 q] w (zcz w 0 false)
 num : ∀ (r : Rat) (b : Bool) (A : oA9) (n c : Nat) (E : oA9) (k f : Nat) (w : World),T w → zaj w r b A n c E k f → zaP n k → Calls Tryz.prog 63 #[.agg #[.bool b,.slice A n c,.slice E k f]] w (zaR w r.num)
 den : ∀ (r : Rat) (b : Bool) (A : oA9) (n c : Nat) (E : oA9) (k f : Nat) (w : World),T w → zaj w r b A n c E k f → zaP n k → Calls Tryz.prog 65 #[.agg #[.bool b,.slice A n c,.slice E k f]] w (zdD w r.den)
 sign : ∀ (r : Rat) (b : Bool) (A : oA9) (n c : Nat) (E : oA9) (k f : Nat) (w : World),T w → zaj w r b A n c E k f → zaP n k → Calls Tryz.prog 71 #[.agg #[.bool b,.slice A n c,.slice E k f]] w (zbT w (sgnQ r))
 zero : ∀ (r : Rat) (b : Bool) (A : oA9) (n c : Nat) (E : oA9) (k f : Nat) (w : World),T w → zaj w r b A n c E k f → zaP n k → Calls Tryz.prog 26 #[.agg #[.bool b,.slice A n c,.slice E k f]] w fun e w' => e = .returned (.bool (decide (r = 0))) ∧ Below w.heap.size w w'
 isInt : ∀ (r : Rat) (b : Bool) (A : oA9) (n c : Nat) (E : oA9) (k f : Nat) (w : World),T w → zaj w r b A n c E k f → zaP n k → Calls Tryz.prog 101 #[.agg #[.bool b,.slice A n c,.slice E k f]] w fun e w' => e = .returned (.bool (decide (r.den = 1))) ∧ Below w.heap.size w w'
 bits : ∀ (r : Rat) (b : Bool) (A : oA9) (n c : Nat) (E : oA9) (k f : Nat) (w : World),T w → zaj w r b A n c E k f → zaP n k → Calls Tryz.prog 84 #[.agg #[.bool b,.slice A n c,.slice E k f]] w (zbT w ((bitLen r.num.natAbs + bitLen r.den : Nat) : Int))
 add : ∀ (r s : Rat) (b b' : Bool) (A A' : oA9) (n n' c c' : Nat) (E E' : oA9) (k k' f f' : Nat) (w : World),T w → zaj w r b A n c E k f → zaj w s b' A' n' c' E' k' f' → zaP n k → zaP n' k' → Calls Tryz.prog 111 #[.agg #[.bool b,.slice A n c,.slice E k f],.agg #[.bool b',.slice A' n' c',.slice E' k' f']] w (zaH w (r + s))
 cmp : ∀ (r s : Rat) (b b' : Bool) (A A' : oA9) (n n' c c' : Nat) (E E' : oA9) (k k' f f' : Nat) (w : World),T w → zaj w r b A n c E k f → zaj w s b' A' n' c' E' k' f' → zaP n k → zaP n' k' → Calls Tryz.prog 122 #[.agg #[.bool b,.slice A n c,.slice E k f],.agg #[.bool b',.slice A' n' c',.slice E' k' f']] w (zbT w (zeR r s))
 same : ∀ (r s : Rat) (b b' : Bool) (A A' : oA9) (n n' c c' : Nat) (E E' : oA9) (k k' f f' : Nat) (w : World),T w → zaj w r b A n c E k f → zaj w s b' A' n' c' E' k' f' → zaP n k → zaP n' k' → Calls Tryz.prog 44 #[.agg #[.bool b,.slice A n c,.slice E k f],.agg #[.bool b',.slice A' n' c',.slice E' k' f']] w fun e w' => e = .returned (.bool (decide (r = s))) ∧ Below w.heap.size w w'
def zdn (g : Nat) (w w' : World) : Prop:=w'.heap.size = w.heap.size ∧ ∀ p : Addr,p.block ≠ g → w'.cell? p = w.cell? p
theorem zdn.refl (g : Nat) (w : World) : zdn g w w:=⟨rfl,fun _ _ => rfl⟩
theorem zdn.set_ {g : Nat} {w w' : World} (h : zdn g w w') (j : Nat) (v : Value) : zdn g w (w'.setCell ⟨g,j,none⟩ v) :=
 ⟨by rw [← h.1]; simp,fun p hp => (World.cell?_setCell_other w' ⟨g,j,none⟩ p v (fun e => hp (by first | rw [e] | rw [← e]))).trans (h.2 p hp)⟩
theorem zbt (w : World) (g : Nat) (v0 : Value) : zdn g w (w.setCell ⟨g,0,none⟩ v0):=(zdn.refl g w).set_ 0 v0
theorem zeF (w : World) (g : Nat) (v0 v1 : Value) : zdn g w ((w.setCell ⟨g,0,none⟩ v0).setCell ⟨g,1,none⟩ v1):=(zbt w g v0).set_ 1 v1
theorem off3 (w : World) (g : Nat) (v0 v1 v2 : Value) : zdn g w (((w.setCell ⟨g,0,none⟩ v0).setCell ⟨g,1,none⟩ v1).setCell ⟨g,2,none⟩ v2):=(zeF w g v0 v1).set_ 2 v2
def NoU (cs : Array Value) : Prop:=∀ v ∈ cs.toList,∀ k z,v ≠ .int k z
theorem NoU.s1 (q : oA9) (r s : Nat) : NoU #[.slice q r s]:=by intro v hv k z e; simp at hv; subst hv; cases e
theorem NoU.s2 (p : Bool) (q : oA9) (r s : Nat) : NoU #[.bool p,.slice q r s]:=by intro v hv k z e; simp at hv; rcases hv with rfl | rfl <;> cases e
theorem NoU.s3 (p : Bool) (q : oA9) (r s : Nat) (q2 : oA9) (r2 s2 : Nat) : NoU #[.bool p,.slice q r s,.slice q2 r2 s2]:=by intro v hv k z e; simp at hv; rcases hv with rfl | rfl | rfl <;> cases e
theorem zbG : NoU #[.slice none 0 0]:=NoU.s1 _ _ _
theorem nou2 : NoU #[.bool false,.slice none 0 0]:=NoU.s2 _ _ _ _
theorem zib {w : World} {A : oA9} {n g : Nat} {k : IntKind} {l : List Nat} {t : TypeId} {cs : Array Value} (h : zaq w w.heap.size 1 A n (zau k l)) (hk : Blk w g t cs) (hcs : NoU cs) : 0 < n → ∀ ad,A = some ad → ad.block ≠ g:=fun hn ad e hg => by
 have hl:=h.len_
 obtain ⟨ad',e',_,hc⟩:=h.2 hn
 rw [e] at e'
 injection e' with e'
 subst e'
 have h0:=hc 0 (.int k (l.getD 0 0 : Nat)) (zck k _ 0 (by omega))
 have e0 : ad.add 0 = ad:=by unfold Addr.add; rw [if_pos rfl]
 rw [e0] at h0
 obtain ⟨bk,off,pr⟩:=ad
 simp only at hg
 subst hg
 unfold Blk at hk
 cases pr with
 | none =>
   rw [show w.cell? ⟨bk,off,none⟩ = cs[off]? from cell_of_row w bk off _ t (0,0) hk,← Array.getElem?_toList] at h0
   exact hcs _ (List.mem_of_getElem? h0) _ _ rfl
 | some q => simp [World.cell?,hk] at h0
theorem zmO {w w' : World} {A : oA9} {n g : Nat} {k : IntKind} {l : List Nat} {t : TypeId} {cs : Array Value} (h : zaq w w.heap.size 1 A n (zau k l)) (hk : Blk w g t cs) (hcs : NoU cs) (ho : zdn g w w') : zaq w' w'.heap.size 1 A n (zau k l):=by
 have hne:=zib h hk hcs
 refine ⟨h.1,fun hn => ?_⟩
 obtain ⟨ad,e,hb,hc⟩:=h.2 hn
 refine ⟨ad,e,by rw [ho.1]; exact hb,fun j v hv => ?_⟩
 rw [ho.2 (ad.add j) (by rw [zao]; exact hne hn ad e)]
 exact hc j v hv
theorem zar {w w' : World} {x : Nat} {A : oA9} {n c g : Nat} {t : TypeId} {cs : Array Value} (h : zad w x A n c) (hk : Blk w g t cs) (hcs : NoU cs) (ho : zdn g w w') : zad w' x A n c:=⟨zmO h.1 hk hcs ho,h.2⟩
theorem zfs {w w' : World} {z : Int} {b : Bool} {A : oA9} {n c g : Nat} {t : TypeId} {cs : Array Value} (h : zaB w z b A n c) (hk : Blk w g t cs) (hcs : NoU cs) (ho : zdn g w w') : zaB w' z b A n c:=⟨h.1,zar h.2 hk hcs ho⟩
theorem zgM {w w' : World} {r : Rat} {b : Bool} {A : oA9} {n c : Nat} {E : oA9} {k f : Nat} {g : Nat} {t : TypeId} {cs : Array Value} (h : zaj w r b A n c E k f) (hk : Blk w g t cs) (hcs : NoU cs) (ho : zdn g w w') : zaj w' r b A n c E k f:=by
 refine ⟨zfs h.1 hk hcs ho,?_⟩
 obtain ⟨x,e,hx⟩:=h.2
 exact ⟨x,e,zar hx hk hcs ho⟩
def SzQ (K : Nat) (r : Rat) : Prop:=LtQ (18446744073709551616 ^ K) r
theorem SzQ.up {K K' : Nat} {r : Rat} (h : SzQ K r) (hk : K ≤ K') : SzQ K' r:=LtQ.up h (Nat.pow_le_pow_right (by decide) hk)
theorem zkQ (K K' : Nat) : 2 * (18446744073709551616 ^ K * 18446744073709551616 ^ K') ≤ 18446744073709551616 ^ (K + K' + 1):=by
 rw [Nat.pow_succ,Nat.pow_add,Nat.mul_comm]
 exact Nat.mul_le_mul_left _ (by decide)
theorem SzQ.add {K K' : Nat} {r s : Rat} (h : SzQ K r) (h' : SzQ K' s) : SzQ (K + K' + 1) (r + s):=LtQ.up (LtQ.add h h') (zkQ K K')
theorem SzQ.mul {K K' : Nat} {r s : Rat} (h : SzQ K r) (h' : SzQ K' s) : SzQ (K + K') (r * s):=LtQ.up (LtQ.mul h h') (by rw [Nat.pow_add]; exact Nat.le_refl _)
theorem SzQ.neg {K : Nat} {r : Rat} (h : SzQ K r) : SzQ K (-r):=LtQ.neg h
theorem SzQ.abs {K : Nat} {r : Rat} (h : SzQ K r) : SzQ K r.abs:=by
 unfold Rat.abs
 split
 ·exact h
 ·exact h.neg
theorem SzQ.num {K : Nat} {r : Rat} (h : SzQ K r) : Sz K r.num.natAbs:=h.1
theorem SzQ.den {K : Nat} {r : Rat} (h : SzQ K r) : Sz K r.den:=h.2
theorem zdR {K : Nat} (h : 0 < K) : 1 < 18446744073709551616 ^ K:=Nat.one_lt_pow (by omega) (by decide)
theorem SzQ.whole {K : Nat} {z : Int} (h : Sz K z.natAbs) (hK : 0 < K) : SzQ K (z : Rat):=LtQ.whole h (zdR hK)
theorem SzQ.made {K : Nat} {p q : Int} (h : Sz K p.natAbs) (h' : Sz K q.natAbs) (hK : 0 < K) : SzQ K (Rat.divInt p q):=LtQ.made h h' (zdR hK)
theorem SzQ.zero : SzQ 1 (0 : Rat):=⟨by decide,by decide⟩
theorem SzQ.fit {K : Nat} {r : Rat} (h : SzQ K r) {w : World} {b : Bool} {A : oA9} {n c : Nat} {E : oA9} {k f : Nat} (hr : zaj w r b A n c E k f) (hK : K ≤ 67108864) : zaP n k:=by
 refine ⟨Nat.le_trans (h.num.words hr.1.2) (Nat.le_trans hK (by decide)),?_⟩
 obtain ⟨x,⟨e,_⟩,hx⟩:=hr.2
 have hd : Sz K x:=h.den.of_le (by rw [e]; split <;> omega)
 exact Nat.le_trans (hd.words hx) (Nat.le_trans hK (by decide))
end Go.Proofs.YtedbgdlbgohiiaaGreatDoor
