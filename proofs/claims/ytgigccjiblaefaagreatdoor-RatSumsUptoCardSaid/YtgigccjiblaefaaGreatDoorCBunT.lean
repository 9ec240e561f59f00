/- What this claim leans on. -/
import Derived.Test.YtgigccjiblaefaaGreatDoorCW8Far
import Derived.Lib.LaidTab
namespace Go.Proofs.YtgigccjiblaefaaGreatDoor
open Go Go.RowKit
set_option maxHeartbeats 16000000
def zao (w : World) : Prop := ∀ j,j < Lib.deBruijn64tab.length → w.cell? ⟨0,j,none⟩ = some (.int .u8 (Lib.deBruijn64tab.getD j 0 : Nat))
theorem zao.below {B : Nat} {w w' : World} (h : zao w) (hb : Below B w w') (hB : 0 < B) : zao w' := fun j hj => (hb.cell (p := ⟨0,j,none⟩) hB).trans (h j hj)
theorem zao.drewN {w : World} (h : zao w) (n : Nat) : zao (w.drewN n) := h
theorem zao.on {w w' : World} (h : zao w) (hb : Below w.heap.size w w') : zao w' := h.below hb (by
 have := h 0 (by decide)
 exact World.block_lt_of_cell? w _ this)
theorem tz_key (x a : Nat) (hx : x < 18446744073709551616) (hx0 : x ≠ 0) (hlow : x &&& (18446744073709551616 - x) = a) :
  IntKind.u64.wrap (bits BinOp.and IntKind.u64 (x : Int) (IntKind.u64.wrap (-(x : Int))) * 285870213051353865) / 288230376151711744 = ((a * 285870213051353865 % 18446744073709551616 / 288230376151711744 : Nat) : Int) := by
 have e1 : IntKind.u64.wrap (-(x : Int)) = ((18446744073709551616 - x : Nat) : Int) := by rw [IntKind.wrap_u64]; omega
 rw [e1,bits_and_u64_nat x _ hx (by omega),hlow,IntKind.wrap_u64]
 omega
theorem zia (x k idx : Nat) (w : World) (hx0 : ((x : Int) == 0) = false)
  (key : IntKind.u64.wrap (bits BinOp.and IntKind.u64 (x : Int) (IntKind.u64.wrap (-(x : Int))) * 285870213051353865) / 288230376151711744 = (idx : Int))
  (hi : idx < 64) (hk : k < 64) (hcell : w.cell? ⟨0,idx,none⟩ = some (.int .u8 k)) :
  Calls Tryz.prog 146 #[.int .u64 x] w fun e w' => e = .returned (.int .i64 k) ∧ w = w' := by
 go_enter Tryz.func146,Tryz.ntmps146
 go_wp2_with (simp only [key])
 go_ret
 exact ⟨rfl,rfl⟩
theorem zhx (w : World) :
  Calls Tryz.prog 146 #[.int .u64 0] w fun e w' => e = .returned (.int .i64 64) ∧ w = w' := by
 go_enter Tryz.func146,Tryz.ntmps146
 go_wp2
 go_ret
 exact ⟨rfl,rfl⟩
theorem zkH (x : Int) (hx : Wd x) (w : World) (hT : zao w) :
  Calls Tryz.prog 146 #[.int .u64 x] w fun e w' => e = .returned (.int .i64 (zex x)) ∧ w = w' := by
 obtain ⟨h0,h1⟩ := hx
 obtain ⟨x,rfl⟩ := Int.eq_ofNat_of_zero_le h0
 have hN : x < 18446744073709551616 := by omega
 unfold zex
 rw [Int.toNat_natCast]
 by_cases hx0 : x = 0
 ·subst hx0
  exact zhx w
 ·obtain ⟨hlow,hk⟩ := Lib.lowest_bit 64 x hx0 hN
  obtain ⟨hi,htab⟩ := Lib.deBruijn64_at _ hk
  have hcell := hT _ hi
  rw [htab] at hcell
  exact zia x _ _ w (by simp; omega) (tz_key x _ hN hx0 hlow) hi hk hcell
theorem zkb (x : Int) (hx : Wd x) (w : World) (hT : zao w) :
  Calls Tryz.prog 134 #[.int .u64 x] w fun e w' => e = .returned (.int .i64 (zex x)) ∧ w = w' := by
 have H := lh9 (zkH x hx w hT)
 clear hT
 go_enter Tryz.func134,Tryz.ntmps134
 go_wp2_with (go_at_call 146; refine H.out.mono ?_; rintro e w' ⟨rfl,rfl⟩)
 go_ret
 exact ⟨rfl,rfl⟩
theorem tabG : Tryz.prog.globalNamed "math/bits.deBruijn64tab" = some 0 := by kernel_rfl
theorem tabT : (Tryz.prog.globals[0]?).map (·.type) = some 153 := by kernel_rfl
theorem tabC : Tryz.prog.cellsOf 153 = 64 := by kernel_rfl
theorem tabC1 : Tryz.prog.cellsOf 5 = 1 := by kernel_rfl
theorem tab_of {W : World} (h : laidMetH Tryz.prog [("math/bits.deBruijn64tab",Rows.laid_math_bits_deBruijn64tab)] W) : zao W := by
 have hT : Lib.TabIs Tryz.prog W "math/bits.deBruijn64tab" .u8 (Lib.deBruijn64tab.map Int.ofNat) :=
  Lib.tabIs_of_head (rest := []) tabG tabT Tryz.underlying153 Tryz.underlying5 tabC1 tabC h
 intro j hj
 have := hT.cell tabG j (by simpa using hj)
 rw [this]
 simp only [List.getD_eq_getElem?_getD,List.getElem?_map]
 cases Lib.deBruijn64tab[j]? <;> rfl
set_option linter.unusedVariables false
def zbU (w : World) (q r : Nat) (b : Bool) (e : Ending) (w' : World) : Prop := ∃ (A : oA9) (n c : Nat) (B : oA9) (m d : Nat),e = .returned (.tuple #[.agg #[.slice A n c],.agg #[.slice B m d],.bool b]) ∧ zag w' q A n c ∧ zag w' r B m d ∧ Below w.heap.size w w'
def zdv (w : World) (x : Nat) (b : Bool) (e : Ending) (w' : World) : Prop := ∃ (A : oA9) (n c : Nat),e = .returned (.tuple #[.agg #[.slice A n c],.bool b]) ∧ zag w' x A n c ∧ Below w.heap.size w w'
def zeR (w : World) (q x : Nat) (b : Bool) (e : Ending) (w' : World) : Prop := ∃ (A : oA9) (n c : Nat),e = .returned (.tuple #[.agg #[.slice A n c],.int .u64 (x : Int),.bool b]) ∧ zag w' q A n c ∧ Below w.heap.size w w'
structure QuotC : Prop where
 divMod : ∀ (x y : Nat) (A D : oA9) (n m c d : Nat) (w : World),zag w x A n c → zag w y D m d → n ≤ 1073741824 → m ≤ 1073741824 → y ≠ 0 → Calls Tryz.prog 110 #[.agg #[.slice A n c],.agg #[.slice D m d]] w (zbU w (x / y) (x % y) true)
 divModNo : ∀ (x y : Nat) (A D : oA9) (n m c d : Nat) (w : World),zag w x A n c → zag w y D m d → n ≤ 1073741824 → m ≤ 1073741824 → y = 0 → Calls Tryz.prog 110 #[.agg #[.slice A n c],.agg #[.slice D m d]] w (zbU w 0 0 false)
 div : ∀ (x y : Nat) (A D : oA9) (n m c d : Nat) (w : World),zag w x A n c → zag w y D m d → n ≤ 1073741824 → m ≤ 1073741824 → y ≠ 0 → Calls Tryz.prog 95 #[.agg #[.slice A n c],.agg #[.slice D m d]] w (zdv w (x / y) true)
 mod : ∀ (x y : Nat) (A D : oA9) (n m c d : Nat) (w : World),zag w x A n c → zag w y D m d → n ≤ 1073741824 → m ≤ 1073741824 → y ≠ 0 → Calls Tryz.prog 131 #[.agg #[.slice A n c],.agg #[.slice D m d]] w (zdv w (x % y) true)
 byWord : ∀ (x a : Nat) (A : oA9) (n c : Nat) (w : World),zag w x A n c → n ≤ 1073741824 → a < 18446744073709551616 → a ≠ 0 → Calls Tryz.prog 126 #[.agg #[.slice A n c],.int .u64 a] w (zeR w (x / a) (x % a) true)
 byWordNo : ∀ (x : Nat) (A : oA9) (n c : Nat) (w : World),zag w x A n c → n ≤ 1073741824 → Calls Tryz.prog 126 #[.agg #[.slice A n c],.int .u64 0] w (zeR w 0 0 false)
theorem under_N : Tryz.prog.underlying 36 = some (.slice 3) := by kernel_rfl
theorem zbk {P : Program} {f : FuncId} {args : Array Value} {w : World} {z v : Int} (e : z = v) (h : Calls P f args w (zbJ w z)) : Calls P f args w fun e w' => e = .returned (.int .i64 v) ∧ Below w.heap.size w w' := by
 subst e; exact h
theorem zav {P : Program} {f : FuncId} {args : Array Value} {w : World} {b t : Bool} (e : b = t) (h : Calls P f args w fun e w' => e = .returned (.bool b) ∧ Below w.heap.size w w') : Calls P f args w fun e w' => e = .returned (.bool t) ∧ Below w.heap.size w w' := by
 subst e; exact h
theorem zeT {T : World → Prop} (IC : IntC T) (x : Nat) (A : oA9) (n c : Nat) (w : World) (hT : T w) (h : zag w x A n c) (hn : n ≤ 268435456) : Calls Tryz.prog 51 #[.bool false,.agg #[.slice A n c]] w (zaH w (x : Int)) :=
 IC.new false x A n c w hT h hn
def dOf (l : List Nat) : Nat := if dv 18446744073709551616 l = 0 then 1 else dv 18446744073709551616 l
theorem dOf_sz {K : Nat} {l : List Nat} (h : Sz K (dv 18446744073709551616 l)) (hK : 0 < K) : Sz K (dOf l) := by
 unfold dOf
 split
 ·exact zbt hK
 ·exact h
def fOf (s : Bool) (l e : List Nat) : Rat := Rat.divInt (zOf s l) (dOf e : Int)
theorem zfm {w : World} {s : Bool} {A E : oA9} {n c u v : Nat} {l e : List Nat} (h : zaw w A n c l) (k : zaw w E u v e) : SzQ 1048576 (fOf s l e) :=
 SzQ.made (by rw [zeM]; exact zcA h) (by rw [Int.natAbs_natCast]; exact dOf_sz (zcA k) (by decide)) (by decide)
set_option maxRecDepth 100000
set_option linter.unusedSimpArgs false
theorem zid (s : Bool) (A : oA9) (n c : Nat) (l : List Nat) (E : oA9) (u v : Nat) (e : List Nat) (w : World) (h1 : (n : Int) ≤ 4) (h2 : (u : Int) ≤ 4) :
  Calls Tryz.prog 19 #[.agg #[.bool s,.slice A n c,.slice E u v],.int .i64 4] w fun e w' => e = .returned (.bool true) ∧ Below w.heap.size w w' := by
 have hd1 : decide ((n : Int) ≤ 4) = true := by exact decide_eq_true h1
 have hd2 : decide ((u : Int) ≤ 4) = true := by exact decide_eq_true h2
 go_enter Tryz.func19,Tryz.ntmps19
 have hB := Below.refl w.heap.size w
 go_wp2
 go_ret
 exact ⟨by first | rfl | simp,hB.alloc (Nat.le_refl _) _⟩
theorem zho (s : Bool) (A : oA9) (n c : Nat) (l : List Nat) (E : oA9) (u v : Nat) (e : List Nat) (w : World) (h1 : (n : Int) ≤ 4) (h2 : (u : Int) > 4) :
  Calls Tryz.prog 19 #[.agg #[.bool s,.slice A n c,.slice E u v],.int .i64 4] w fun e w' => e = .returned (.bool false) ∧ Below w.heap.size w w' := by
 have hd1 : decide ((n : Int) ≤ 4) = true := by exact decide_eq_true h1
 have hd2 : decide ((u : Int) ≤ 4) = false := by exact decide_eq_false (by omega)
 go_enter Tryz.func19,Tryz.ntmps19
 have hB := Below.refl w.heap.size w
 go_wp2
 go_ret
 exact ⟨by first | rfl | simp,hB.alloc (Nat.le_refl _) _⟩
theorem zhG (s : Bool) (A : oA9) (n c : Nat) (l : List Nat) (E : oA9) (u v : Nat) (e : List Nat) (w : World) (h1 : (n : Int) > 4) :
  Calls Tryz.prog 19 #[.agg #[.bool s,.slice A n c,.slice E u v],.int .i64 4] w fun e w' => e = .returned (.bool false) ∧ Below w.heap.size w w' := by
 have hd1 : decide ((n : Int) ≤ 4) = false := by exact decide_eq_false (by omega)
 go_enter Tryz.func19,Tryz.ntmps19
 have hB := Below.refl w.heap.size w
 go_wp2
 go_ret
 exact ⟨by first | rfl | simp,hB.alloc (Nat.le_refl _) _⟩
theorem zgs (s : Bool) (A : oA9) (n c : Nat) (E : oA9) (u v : Nat) : ∃ t : Bool,∀ w : World,Calls Tryz.prog 19 #[.agg #[.bool s,.slice A n c,.slice E u v],.int .i64 4] w fun e w' => e = .returned (.bool t) ∧ Below w.heap.size w w' := by
 by_cases h1 : (n : Int) ≤ 4
 ·by_cases h2 : (u : Int) ≤ 4
  ·exact ⟨true,fun w => zid s A n c [] E u v [] w h1 h2⟩
  ·exact ⟨false,fun w => zho s A n c [] E u v [] w h1 (by omega)⟩
 ·exact ⟨false,fun w => zhG s A n c [] E u v [] w (by omega)⟩
end Go.Proofs.YtgigccjiblaefaaGreatDoor
