/- What this claim leans on. -/
import Derived.Test.YtgigccjiblaefaaGreatDoorBW8Far
import Derived.Lib.LaidTab
namespace Go.Proofs.YtgigccjiblaefaaGreatDoor
open Go Go.RowKit
def zao (w : World) : Prop := ∀ j, j < Lib.deBruijn64tab.length → w.cell? ⟨0, j, none⟩ = some (.int .u8 (Lib.deBruijn64tab.getD j 0 : Nat))
theorem zao.below {B : Nat} {w w' : World} (h : zao w) (hb : Below B w w') (hB : 0 < B) : zao w' := fun j hj => (hb.cell (p := ⟨0, j, none⟩) hB).trans (h j hj)
theorem zao.drewN {w : World} (h : zao w) (n : Nat) : zao (w.drewN n) := h
theorem zao.on {w w' : World} (h : zao w) (hb : Below w.heap.size w w') : zao w' := h.below hb (by
 have := h 0 (by decide)
 exact World.block_lt_of_cell? w _ this)
theorem tz_key (x a : Nat) (hx : x < 18446744073709551616) (hx0 : x ≠ 0) (hlow : x &&& (18446744073709551616 - x) = a) :
  IntKind.u64.wrap (bits BinOp.and IntKind.u64 (x : Int) (IntKind.u64.wrap (-(x : Int))) * 285870213051353865) / 288230376151711744 = ((a * 285870213051353865 % 18446744073709551616 / 288230376151711744 : Nat) : Int) := by
 have e1 : IntKind.u64.wrap (-(x : Int)) = ((18446744073709551616 - x : Nat) : Int) := by rw [IntKind.wrap_u64]; omega
 rw [e1, bits_and_u64_nat x _ hx (by omega), hlow, IntKind.wrap_u64]
 omega
set_option maxHeartbeats 1000000 in
theorem zhh (x k idx : Nat) (w : World) (hx0 : ((x : Int) == 0) = false)
  (key : IntKind.u64.wrap (bits BinOp.and IntKind.u64 (x : Int) (IntKind.u64.wrap (-(x : Int))) * 285870213051353865) / 288230376151711744 = (idx : Int))
  (hi : idx < 64) (hk : k < 64) (hcell : w.cell? ⟨0, idx, none⟩ = some (.int .u8 k)) :
  Calls Tryz.prog 146 #[.int .u64 x] w fun e w' => e = .returned (.int .i64 k) ∧ w = w' := by
 go_enter Tryz.func146, Tryz.ntmps146
 go_wp2_with (simp only [key])
 go_ret
 exact ⟨rfl, rfl⟩
theorem zhk (w : World) :
  Calls Tryz.prog 146 #[.int .u64 0] w fun e w' => e = .returned (.int .i64 64) ∧ w = w' := by
 go_enter Tryz.func146, Tryz.ntmps146
 go_wp2
 go_ret
 exact ⟨rfl, rfl⟩
theorem zjM (x : Int) (hx : Wd x) (w : World) (hT : zao w) :
  Calls Tryz.prog 146 #[.int .u64 x] w fun e w' => e = .returned (.int .i64 (zej x)) ∧ w = w' := by
 obtain ⟨h0, h1⟩ := hx
 obtain ⟨x, rfl⟩ := Int.eq_ofNat_of_zero_le h0
 have hN : x < 18446744073709551616 := by omega
 unfold zej
 rw [Int.toNat_natCast]
 by_cases hx0 : x = 0
 ·subst hx0
  exact zhk w
 ·obtain ⟨hlow, hk⟩ := Lib.lowest_bit 64 x hx0 hN
  obtain ⟨hi, htab⟩ := Lib.deBruijn64_at _ hk
  have hcell := hT _ hi
  rw [htab] at hcell
  exact zhh x _ _ w (by simp; omega) (tz_key x _ hN hx0 hlow) hi hk hcell
theorem zjr (x : Int) (hx : Wd x) (w : World) (hT : zao w) :
  Calls Tryz.prog 134 #[.int .u64 x] w fun e w' => e = .returned (.int .i64 (zej x)) ∧ w = w' := by
 have H := Lib.hid (zjM x hx w hT)
 clear hT
 go_enter Tryz.func134, Tryz.ntmps134
 go_wp2_with (go_at_call 146; refine H.out.mono ?_; rintro e w' ⟨rfl, rfl⟩)
 go_ret
 exact ⟨rfl, rfl⟩
theorem tabG : Tryz.prog.globalNamed "math/bits.deBruijn64tab" = some 0 := by kernel_rfl
theorem tabT : (Tryz.prog.globals[0]?).map (·.type) = some 153 := by kernel_rfl
theorem tabC : Tryz.prog.cellsOf 153 = 64 := by kernel_rfl
theorem tabC1 : Tryz.prog.cellsOf 5 = 1 := by kernel_rfl
theorem tab_of {W : World} (h : laidMetH Tryz.prog [("math/bits.deBruijn64tab", Rows.laid_math_bits_deBruijn64tab)] W) : zao W := by
 have hT : Lib.TabIs Tryz.prog W "math/bits.deBruijn64tab" .u8 (Lib.deBruijn64tab.map Int.ofNat) :=
  Lib.tabIs_of_head (rest := []) tabG tabT Tryz.underlying153 Tryz.underlying5 tabC1 tabC h
 intro j hj
 have := hT.cell tabG j (by simpa using hj)
 rw [this]
 simp only [List.getD_eq_getElem?_getD, List.getElem?_map]
 cases Lib.deBruijn64tab[j]? <;> rfl
theorem under_N : Tryz.prog.underlying 36 = some (.slice 3) := by kernel_rfl
set_option linter.unusedVariables false
theorem zbd {P : Program} {f : FuncId} {args : Array Value} {w : World} {z v : Int} (e : z = v) (h : Calls P f args w (zbx w z)) : Calls P f args w fun e w' => e = .returned (.int .i64 v) ∧ Below w.heap.size w w' := by
 subst e; exact h
theorem zaw {P : Program} {f : FuncId} {args : Array Value} {w : World} {b t : Bool} (e : b = t) (h : Calls P f args w fun e w' => e = .returned (.bool b) ∧ Below w.heap.size w w') : Calls P f args w fun e w' => e = .returned (.bool t) ∧ Below w.heap.size w w' := by
 subst e; exact h
theorem ziv {T : World → Prop} (IC : IntC T) (x : Nat) (A : Option Addr) (n c : Nat) (w : World) (hT : T w) (h : zag w x A n c) (hn : n ≤ 268435456) : Calls Tryz.prog 51 #[.bool false, .agg #[.slice A n c]] w (zaA w (x : Int)) :=
 IC.new false x A n c w hT h hn
theorem zeT : (Rat.divInt 6 (-4)).num = -3 := by rw [Rat.num_divInt]; decide
theorem zgd : (Rat.divInt 6 (-4)).den = 2 := by rw [Rat.den_divInt]; decide
theorem aw_ne : Rat.divInt 6 (-4) ≠ 0 := fun h => by
 have := congrArg Rat.num h
 rw [zeT] at this
 exact absurd this (by decide)
theorem aw_floor : (Rat.divInt 6 (-4)).floor = -2 := by rw [Rat.floor_def, zeT, zgd]; decide
theorem aw_ceil : (Rat.divInt 6 (-4)).ceil = -1 := by rw [Rat.ceil_eq_neg_floor_neg, Rat.floor_def, Rat.neg_num, Rat.neg_den, zeT, zgd]; decide
theorem aw_inv : (Rat.divInt 6 (-4))⁻¹.num = -2 := by rw [Rat.num_inv, zeT, zgd]; decide
theorem aw_sum : Rat.divInt 1 2 + Rat.divInt 1 3 = Rat.divInt 5 6 := by
 rw [Rat.divInt_add_divInt _ _ (by decide) (by decide)]; rfl
theorem aw_bits : ((bitLen (Rat.divInt 6 (-4)).num.natAbs + bitLen (Rat.divInt 6 (-4)).den : Nat) : Int) = 4 := by rw [zeT, zgd]; decide
theorem aw_dg : dg 18446744073709551616 (Rat.divInt 6 (-4)).den = [2] := by rw [zgd]; exact zhC (by decide) (by decide)
set_option maxRecDepth 100000
set_option linter.unusedSimpArgs false
theorem zen {w : World} {g : Nat} (h : Blk w g 3 #[.int .i64 1]) : zal w 1 (some ⟨g, 0, none⟩) 1 1 := by
 have e : dg 65536 1 = [1] := by
  rw [zcQ (by decide) (by decide)]
  rfl
 refine ⟨?_, Nat.le_refl _, by omega⟩
 rw [e]
 refine ⟨rfl, fun _ => ⟨_, rfl, h.lt, fun j u hu => ?_⟩⟩
 match j, hu with
 | 0, hu => simp [zar] at hu; subst hu; exact h.cell 0
end Go.Proofs.YtgigccjiblaefaaGreatDoor
