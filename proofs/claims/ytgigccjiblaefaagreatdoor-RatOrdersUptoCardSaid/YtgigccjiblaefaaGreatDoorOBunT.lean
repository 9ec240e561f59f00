/- What this claim leans on. -/
import Derived.Test.YtgigccjiblaefaaGreatDoorOP8C
import Derived.LaidMore
import Derived.Lib.LaidTab
namespace Go.Proofs.YtgigccjiblaefaaGreatDoor
open Go Go.RowKit
set_option maxHeartbeats 16000000
def zao (w : World) : Prop := ∀ j,j < Lib.deBruijn64tab.length → w.cell? ⟨0,j,none⟩ = some (.int .u8 (Lib.deBruijn64tab.getD j 0 : Nat))
theorem zao.below {B : Nat} {w w' : World} (h : zao w) (hb : Below B w w') (hB : 0 < B) : zao w' := fun j hj => (hb.cell (p := ⟨0,j,none⟩) hB).trans (h j hj)
theorem zao.drewN {w : World} (h : zao w) (n : Nat) : zao (w.drewN n) := h
theorem zao.on {w w' : World} (h : zao w) (hb : Below w.heap.size w w') : zao w' := h.below hb (by
 have := h 0 (by decide)
 exact World.block_lt_of_cell? w _ this)
theorem tz_key (x a : Nat) (hx : x < 18446744073709551616) (hx0 : x ≠ 0) (hlow : x &&& (18446744073709551616 - x) = a) :
  IntKind.u64.wrap (bits BinOp.and IntKind.u64 (x : Int) (IntKind.u64.wrap (-(x : Int))) * 285870213051353865) / 288230376151711744 = ((a * 285870213051353865 % 18446744073709551616 / 288230376151711744 : Nat) : Int) := by
 have e1 : IntKind.u64.wrap (-(x : Int)) = ((18446744073709551616 - x : Nat) : Int) := by rw [IntKind.wrap_u64]; omega
 rw [e1,bits_and_u64_nat x _ hx (by omega),hlow,IntKind.wrap_u64]
 omega
theorem zhB (x k idx : Nat) (w : World) (hx0 : ((x : Int) == 0) = false)
  (key : IntKind.u64.wrap (bits BinOp.and IntKind.u64 (x : Int) (IntKind.u64.wrap (-(x : Int))) * 285870213051353865) / 288230376151711744 = (idx : Int))
  (hi : idx < 64) (hk : k < 64) (hcell : w.cell? ⟨0,idx,none⟩ = some (.int .u8 k)) :
  Calls Tryz.prog 146 #[.int .u64 x] w fun e w' => e = .returned (.int .i64 k) ∧ w = w' := by
 go_enter Tryz.func146,Tryz.ntmps146
 go_wp2_with (simp only [key])
 go_ret
 exact ⟨rfl,rfl⟩
theorem zhK (w : World) :
  Calls Tryz.prog 146 #[.int .u64 0] w fun e w' => e = .returned (.int .i64 64) ∧ w = w' := by
 go_enter Tryz.func146,Tryz.ntmps146
 go_wp2
 go_ret
 exact ⟨rfl,rfl⟩
theorem zkB (x : Int) (hx : Wd x) (w : World) (hT : zao w) :
  Calls Tryz.prog 146 #[.int .u64 x] w fun e w' => e = .returned (.int .i64 (zeG x)) ∧ w = w' := by
 obtain ⟨h0,h1⟩ := hx
 obtain ⟨x,rfl⟩ := Int.eq_ofNat_of_zero_le h0
 have hN : x < 18446744073709551616 := by omega
 unfold zeG
 rw [Int.toNat_natCast]
 by_cases hx0 : x = 0
 ·subst hx0
  exact zhK w
 ·obtain ⟨hlow,hk⟩ := Lib.lowest_bit 64 x hx0 hN
  obtain ⟨hi,htab⟩ := Lib.deBruijn64_at _ hk
  have hcell := hT _ hi
  rw [htab] at hcell
  exact zhB x _ _ w (by simp; omega) (tz_key x _ hN hx0 hlow) hi hk hcell
theorem zki (x : Int) (hx : Wd x) (w : World) (hT : zao w) :
  Calls Tryz.prog 134 #[.int .u64 x] w fun e w' => e = .returned (.int .i64 (zeG x)) ∧ w = w' := by
 have H := lh9 (zkB x hx w hT)
 clear hT
 go_enter Tryz.func134,Tryz.ntmps134
 go_wp2_with (go_at_call 146; refine H.out.mono ?_; rintro e w' ⟨rfl,rfl⟩)
 go_ret
 exact ⟨rfl,rfl⟩
theorem tabG : Tryz.prog.globalNamed "math/bits.deBruijn64tab" = some 0 := by kernel_rfl
theorem tabT : (Tryz.prog.globals[0]?).map (·.type) = some 153 := by kernel_rfl
theorem tabC : Tryz.prog.cellsOf 153 = 64 := by kernel_rfl
theorem tabC1 : Tryz.prog.cellsOf 5 = 1 := by kernel_rfl
theorem tab_of {W : World} (h : laidMetH Tryz.prog [("math/bits.deBruijn64tab",Rows.laid_math_bits_deBruijn64tab)] W) : zao W := by
 have hT : Lib.TabIs Tryz.prog W "math/bits.deBruijn64tab" .u8 (Lib.deBruijn64tab.map Int.ofNat) :=
  Lib.tabIs_of_head (rest := []) tabG tabT Tryz.underlying153 Tryz.underlying5 tabC1 tabC h
 intro j hj
 have := hT.cell tabG j (by simpa using hj)
 rw [this]
 simp only [List.getD_eq_getElem?_getD,List.getElem?_map]
 cases Lib.deBruijn64tab[j]? <;> rfl
theorem under_N : Tryz.prog.underlying 36 = some (.slice 3) := by kernel_rfl
set_option linter.unusedVariables false
def zdX (g : Nat) (w w' : World) : Prop := w'.heap.size = w.heap.size ∧ ∀ p : Addr,p.block ≠ g → w'.cell? p = w.cell? p
theorem zdX.refl (g : Nat) (w : World) : zdX g w w := ⟨rfl,fun _ _ => rfl⟩
theorem zdX.set_ {g : Nat} {w w' : World} (h : zdX g w w') (j : Nat) (v : Value) : zdX g w (w'.setCell ⟨g,j,none⟩ v) :=
 ⟨by rw [← h.1]; simp,fun p hp => (World.cell?_setCell_other w' ⟨g,j,none⟩ p v (fun e => hp (by first | rw [e] | rw [← e]))).trans (h.2 p hp)⟩
theorem zcC (w : World) (g : Nat) (v0 : Value) : zdX g w (w.setCell ⟨g,0,none⟩ v0) := (zdX.refl g w).set_ 0 v0
theorem zcn (w : World) (g : Nat) (v0 v1 : Value) : zdX g w ((w.setCell ⟨g,0,none⟩ v0).setCell ⟨g,1,none⟩ v1) := (zcC w g v0).set_ 1 v1
theorem zbo (w : World) (g : Nat) (v0 v1 v2 : Value) : zdX g w (((w.setCell ⟨g,0,none⟩ v0).setCell ⟨g,1,none⟩ v1).setCell ⟨g,2,none⟩ v2) := (zcn w g v0 v1).set_ 2 v2
def NoU (cs : Array Value) : Prop := ∀ v ∈ cs.toList,∀ k z,v ≠ .int k z
theorem NoU.s1 (q : oA9) (r s : Nat) : NoU #[.slice q r s] := by intro v hv k z e; simp at hv; subst hv; cases e
theorem NoU.s2 (p : Bool) (q : oA9) (r s : Nat) : NoU #[.bool p,.slice q r s] := by intro v hv k z e; simp at hv; rcases hv with rfl | rfl <;> cases e
theorem NoU.s3 (p : Bool) (q : oA9) (r s : Nat) (q2 : oA9) (r2 s2 : Nat) : NoU #[.bool p,.slice q r s,.slice q2 r2 s2] := by intro v hv k z e; simp at hv; rcases hv with rfl | rfl | rfl <;> cases e
theorem zdo : NoU #[.slice none 0 0] := NoU.s1 _ _ _
theorem zcL : NoU #[.bool false,.slice none 0 0] := NoU.s2 _ _ _ _
theorem zcW : NoU #[.bool false,.slice none 0 0,.slice none 0 0] := NoU.s3 _ _ _ _ _ _ _
theorem zls {w : World} {A : oA9} {n g : Nat} {k : IntKind} {l : List Nat} {t : TypeId} {cs : Array Value} (h : zaq w w.heap.size 1 A n (zas k l)) (hk : Blk w g t cs) (hcs : NoU cs) : 0 < n → ∀ ad,A = some ad → ad.block ≠ g := fun hn ad e hg => by
 have hl := h.len_
 obtain ⟨ad',e',_,hc⟩ := h.2 hn
 rw [e] at e'
 injection e' with e'
 subst e'
 have h0 := hc 0 (.int k (l.getD 0 0 : Nat)) (zcd k _ 0 (by omega))
 have e0 : ad.add 0 = ad := by unfold Addr.add; rw [if_pos rfl]
 rw [e0] at h0
 obtain ⟨bk,off,pr⟩ := ad
 simp only at hg
 subst hg
 unfold Blk at hk
 cases pr with
 | none =>
   rw [show w.cell? ⟨bk,off,none⟩ = cs[off]? from cell_of_row w bk off _ t (0,0) hk,← Array.getElem?_toList] at h0
   exact hcs _ (List.mem_of_getElem? h0) _ _ rfl
 | some q => simp [World.cell?,hk] at h0
theorem zgZ {w w' : World} {A : oA9} {n g : Nat} {k : IntKind} {l : List Nat} {t : TypeId} {cs : Array Value} (h : zaq w w.heap.size 1 A n (zas k l)) (hk : Blk w g t cs) (hcs : NoU cs) (ho : zdX g w w') : zaq w' w'.heap.size 1 A n (zas k l) := by
 have hne := zls h hk hcs
 refine ⟨h.1,fun hn => ?_⟩
 obtain ⟨ad,e,hb,hc⟩ := h.2 hn
 refine ⟨ad,e,by rw [ho.1]; exact hb,fun j v hv => ?_⟩
 rw [ho.2 (ad.add j) (by rw [zaQ]; exact hne hn ad e)]
 exact hc j v hv
theorem zaC {w w' : World} {x : Nat} {A : oA9} {n c g : Nat} {t : TypeId} {cs : Array Value} (h : zah w x A n c) (hk : Blk w g t cs) (hcs : NoU cs) (ho : zdX g w w') : zah w' x A n c := ⟨zgZ h.1 hk hcs ho,h.2⟩
theorem zbk {w w' : World} {z : Int} {b : Bool} {A : oA9} {n c g : Nat} {t : TypeId} {cs : Array Value} (h : zat w z b A n c) (hk : Blk w g t cs) (hcs : NoU cs) (ho : zdX g w w') : zat w' z b A n c := ⟨h.1,zaC h.2 hk hcs ho⟩
theorem zbj {w w' : World} {r : Rat} {b : Bool} {A : oA9} {n c : Nat} {E : oA9} {k f : Nat} {g : Nat} {t : TypeId} {cs : Array Value} (h : zam w r b A n c E k f) (hk : Blk w g t cs) (hcs : NoU cs) (ho : zdX g w w') : zam w' r b A n c E k f := by
 refine ⟨zbk h.1 hk hcs ho,?_⟩
 obtain ⟨x,e,hx⟩ := h.2
 exact ⟨x,e,zaC hx hk hcs ho⟩
def SzQ (K : Nat) (r : Rat) : Prop := LtQ (18446744073709551616 ^ K) r
theorem SzQ.up {K K' : Nat} {r : Rat} (h : SzQ K r) (hk : K ≤ K') : SzQ K' r := LtQ.up h (Nat.pow_le_pow_right (by decide) hk)
theorem zkq (K K' : Nat) : 2 * (18446744073709551616 ^ K * 18446744073709551616 ^ K') ≤ 18446744073709551616 ^ (K + K' + 1) := by
 rw [Nat.pow_succ,Nat.pow_add,Nat.mul_comm]
 exact Nat.mul_le_mul_left _ (by decide)
theorem SzQ.add {K K' : Nat} {r s : Rat} (h : SzQ K r) (h' : SzQ K' s) : SzQ (K + K' + 1) (r + s) := LtQ.up (LtQ.add h h') (zkq K K')
theorem SzQ.mul {K K' : Nat} {r s : Rat} (h : SzQ K r) (h' : SzQ K' s) : SzQ (K + K') (r * s) := LtQ.up (LtQ.mul h h') (by rw [Nat.pow_add]; exact Nat.le_refl _)
theorem SzQ.div {K K' : Nat} {r s : Rat} (h : SzQ K r) (h' : SzQ K' s) : SzQ (K + K') (r / s) := LtQ.up (LtQ.div h h') (by rw [Nat.pow_add]; exact Nat.le_refl _)
theorem SzQ.neg {K : Nat} {r : Rat} (h : SzQ K r) : SzQ K (-r) := LtQ.neg h
theorem SzQ.inv {K : Nat} {r : Rat} (h : SzQ K r) : SzQ K r⁻¹ := LtQ.inv h
theorem SzQ.abs {K : Nat} {r : Rat} (h : SzQ K r) : SzQ K r.abs := by
 unfold Rat.abs
 split
 ·exact h
 ·exact h.neg
theorem SzQ.min {K K' : Nat} {r s : Rat} (h : SzQ K r) (h' : SzQ K' s) : SzQ (K + K') (zdP r s) := by
 unfold zdP
 split
 ·exact h.up (by omega)
 ·exact h'.up (by omega)
theorem SzQ.max {K K' : Nat} {r s : Rat} (h : SzQ K r) (h' : SzQ K' s) : SzQ (K + K') (zdQ r s) := by
 unfold zdQ
 split
 ·exact h'.up (by omega)
 ·exact h.up (by omega)
theorem SzQ.num {K : Nat} {r : Rat} (h : SzQ K r) : Sz K r.num.natAbs := h.1
theorem SzQ.den {K : Nat} {r : Rat} (h : SzQ K r) : Sz K r.den := h.2
theorem zby {K : Nat} (h : 0 < K) : 1 < 18446744073709551616 ^ K := Nat.one_lt_pow (by omega) (by decide)
theorem SzQ.made {K : Nat} {p q : Int} (h : Sz K p.natAbs) (h' : Sz K q.natAbs) (hK : 0 < K) : SzQ K (Rat.divInt p q) := LtQ.made h h' (zby hK)
theorem SzQ.zero : SzQ 1 (0 : Rat) := ⟨by decide,by decide⟩
theorem zfh (r : Rat) : r.floor.natAbs ≤ r.num.natAbs := by
 rw [Rat.floor_def]
 exact Int.natAbs_ediv_le_natAbs _ _
theorem ziw (r : Rat) : r.ceil.natAbs ≤ r.num.natAbs := by
 rw [Rat.ceil_eq_neg_floor_neg,Int.natAbs_neg]
 have := zfh (-r)
 rwa [Rat.neg_num,Int.natAbs_neg] at this
theorem SzQ.floor {K : Nat} {r : Rat} (h : SzQ K r) : Sz K r.floor.natAbs := h.num.of_le (zfh r)
theorem SzQ.ceil {K : Nat} {r : Rat} (h : SzQ K r) : Sz K r.ceil.natAbs := h.num.of_le (ziw r)
theorem SzQ.fit {K : Nat} {r : Rat} (h : SzQ K r) {w : World} {b : Bool} {A : oA9} {n c : Nat} {E : oA9} {k f : Nat} (hr : zam w r b A n c E k f) (hK : K ≤ 67108864) : zaG n k := by
 refine ⟨Nat.le_trans (h.num.words hr.1.2) (Nat.le_trans hK (by decide)),?_⟩
 obtain ⟨x,⟨e,_⟩,hx⟩ := hr.2
 have hd : Sz K x := h.den.of_le (by rw [e]; split <;> omega)
 exact Nat.le_trans (hd.words hx) (Nat.le_trans hK (by decide))
theorem zaZ {P : Program} {f : FuncId} {args : Array Value} {w : World} {z v : Int} (e : z = v) (h : Calls P f args w (zbt w z)) : Calls P f args w fun e w' => e = .returned (.int .i64 v) ∧ Below w.heap.size w w' := by
 subst e; exact h
theorem zaD {P : Program} {f : FuncId} {args : Array Value} {w : World} {b t : Bool} (e : b = t) (h : Calls P f args w fun e w' => e = .returned (.bool b) ∧ Below w.heap.size w w') : Calls P f args w fun e w' => e = .returned (.bool t) ∧ Below w.heap.size w w' := by
 subst e; exact h
theorem zeN {T : World → Prop} (IC : IntC T) (x : Nat) (A : oA9) (n c : Nat) (w : World) (hT : T w) (h : zah w x A n c) (hn : n ≤ 268435456) : Calls Tryz.prog 51 #[.bool false,.agg #[.slice A n c]] w (zaK w (x : Int)) :=
 IC.new false x A n c w hT h hn
def dOf (l : List Nat) : Nat := if dv 18446744073709551616 l = 0 then 1 else dv 18446744073709551616 l
theorem dOf_sz {K : Nat} {l : List Nat} (h : Sz K (dv 18446744073709551616 l)) (hK : 0 < K) : Sz K (dOf l) := by
 unfold dOf
 split
 ·exact zby hK
 ·exact h
def fOf (s : Bool) (l e : List Nat) : Rat := Rat.divInt (zOf s l) (dOf e : Int)
theorem zfp {w : World} {s : Bool} {A E : oA9} {n c u v : Nat} {l e : List Nat} (h : zau w A n c l) (k : zau w E u v e) : SzQ 1048576 (fOf s l e) :=
 SzQ.made (by rw [zfj]; exact zcA h) (by rw [Int.natAbs_natCast]; exact dOf_sz (zcA k) (by decide)) (by decide)
end Go.Proofs.YtgigccjiblaefaaGreatDoor
