/- What this claim leans on. -/
import Derived.Test.YtgigccjiblaefaaGreatDoorBBunJ
import Derived.Laws.Concat
namespace Go.Proofs.YtgigccjiblaefaaGreatDoor
open Go Go.RowKit
set_option maxRecDepth 100000
set_option linter.unusedVariables false
set_option linter.unusedSimpArgs false
theorem zag.to8 {w : World} {x y : Nat} {A : Option Addr} {n c : Nat} (e : x = y) (h : zag w x A n c) : zag w y A n c := e ▸ h
theorem zas.to8 {w : World} {x y : Int} {b : Bool} {A : Option Addr} {n c : Nat} (e : x = y) (h : zas w x b A n c) : zas w y b A n c := e ▸ h
theorem zgp (x : Nat) (A : Option Addr) (n c : Nat) (w : World) (h : zag w x A n c) (hn : n ≤ 1099511627776) :
  Calls Tryz.prog 88 #[.agg #[.slice A n c]] w fun e w' => ∃ (B : Option Addr) (m d : Nat), e = .returned (.slice B m d) ∧ zag w' x B m d ∧ Below w.heap.size w w' := by
 refine (zby x A n c w h hn).mono ?_
 rintro e w' ⟨B, d, rfl, h1, h2, h3, h4⟩
 exact ⟨B, _, d, rfl, ⟨h1, h2, h3.1⟩, h4⟩
theorem of_row (x : Nat) (A : Option Addr) (n c : Nat) (w : World) (h : zag w x A n c) (hn : n ≤ 1099511627776) :
  Calls Tryz.prog 61 #[.slice A n c] w fun e w' => ∃ (B : Option Addr) (m d : Nat), e = .returned (.agg #[.slice B m d]) ∧ zag w' x B m d ∧ Below w.heap.size w w' := by
 have k := zbL A n c _ w h.1 (zbD (by decide) x) h.2.1 h.2.2 hn
 rw [zbY (by decide)] at k
 refine k.mono ?_
 rintro e w' ⟨B, m, d, rfl, h1, h2, _⟩
 exact ⟨B, m, d, rfl, h1, h2⟩
theorem zki {P : Program} {f : FuncId} {args : Array Value} {w : World} {z v : Int} (e : z = v) (h : Calls P f args w fun e w' => e = .returned (.tuple #[.int .u64 z, .bool true]) ∧ Below w.heap.size w w') : Calls P f args w fun e w' => e = .returned (.tuple #[.int .u64 v, .bool true]) ∧ Below w.heap.size w w' := by
 subst e; exact h
theorem zie (x : Nat) (A : Option Addr) (n c : Nat) (w : World) (hA : zag w x A n c) (hn : n ≤ 1099511627776) : Calls Tryz.prog 94 #[.agg #[.slice A n c]] w (zbx w ((bitLen x : Nat) : Int)) := zfR x A n c w hA hn
theorem zeN {K K' : Nat} {z : Int} {k : Nat} (h : Sz K z.natAbs) (h' : Sz K' k) : Sz (K + K') (z * ((k : Nat) : Int)).natAbs := by
 rw [Int.natAbs_mul, Int.natAbs_natCast]
 exact h.mul h'
theorem zat {K q x : Nat} (h : Sz K q) (e : q = (if x = 0 then 1 else x) ∧ x ≠ 1) : Sz K x := h.of_le (by rw [e.1]; split <;> omega)
theorem zaG {w : World} {r : Rat} {b : Bool} {A : Option Addr} {n c : Nat} {E : Option Addr} {k f K : Nat} (h : zaq w r b A n c E k f) (q : zaC n k) (hK : 67108864 = K) : SzQ K r := by
 obtain ⟨x, e, hx⟩ := h.2
 have h1 : Sz K r.num.natAbs := Sz.of_words h.1.2 (by have := q.1; omega)
 have h2 : Sz K x := Sz.of_words hx (by have := q.2; omega)
 refine ⟨h1, ?_⟩
 rw [e.1]
 split
 ·exact zcb (by omega)
 ·exact h2
theorem zdm (w : World) : zag w 0 none 0 0 := by
 refine ⟨⟨by rw [show dg 18446744073709551616 0 = [] from by rw [dg]; rfl]; rfl, fun h => absurd h (by decide)⟩, Nat.le_refl _, by decide⟩
theorem zeZ (w : World) : zaq w (0 : Rat) false none 0 0 none 0 0 := ⟨⟨rfl, zdm w⟩, ⟨0, ⟨rfl, by decide⟩, zdm w⟩⟩
theorem zfy {w : World} {z : Int} {b : Bool} {A : Option Addr} {n c : Nat} (h : zas w z b A n c) : zaq w (z : Rat) b A n c none 0 0 := ⟨by rw [Rat.num_intCast]; exact h, ⟨0, ⟨by rw [Rat.den_intCast]; rfl, by decide⟩, zdm w⟩⟩
theorem zkX {w : World} {r : Rat} {z : Int} {b : Bool} {A : Option Addr} {n c : Nat} {E : Option Addr} {k f : Nat} (hn : r.num = z) (hd : r.den = 1) (h : zas w z b A n c) (q : zag w 0 E k f) : zaq w r b A n c E k f :=
 ⟨by rw [hn]; exact h, ⟨0, ⟨by rw [hd]; rfl, by decide⟩, q⟩⟩
theorem zfH {w : World} {r : Rat} {z : Int} {y : Nat} {b : Bool} {A : Option Addr} {n c : Nat} {E : Option Addr} {k f : Nat} (hn : r.num = z) (hd : r.den = y) (hy : y ≠ 1) (h : zas w z b A n c) (q : zag w y E k f) : zaq w r b A n c E k f :=
 ⟨by rw [hn]; exact h, ⟨y, ⟨by rw [if_neg (fun h0 => r.den_nz (by rw [hd, h0]))]; exact hd, hy⟩, q⟩⟩
theorem zei {q x : Nat} (e : q = (if x = 0 then 1 else x) ∧ x ≠ 1) (h : q = 1) : x = 0 := by
 refine Decidable.byContradiction fun h0 => ?_
 rw [if_neg h0] at e
 omega
theorem zcP {q x : Nat} (e : q = (if x = 0 then 1 else x) ∧ x ≠ 1) (h : q ≠ 1) : x ≠ 0 ∧ x = q := by
 have h0 : x ≠ 0 := fun h0 => h (by rw [e.1, if_pos h0])
 refine ⟨h0, ?_⟩
 have := e.1
 rw [if_neg h0] at this
 exact this.symm
theorem zkE (z : Int) : zax (decide (z < 0)) z.natAbs = z := by
 unfold zax
 by_cases h : z < 0
 ·rw [decide_eq_true h, if_pos rfl]; omega
 ·rw [decide_eq_false h, if_neg (by decide)]; omega
theorem zlg {w : World} {x : Nat} {A : Option Addr} {n c : Nat} (h : zag w x A n c) (hn : n ≤ 1) : x < 18446744073709551616 := zfu h.len hn
theorem len_one {w : World} {x : Nat} {A : Option Addr} {n c : Nat} (h : zag w x A n c) (hx : x = 1) : n ≤ 1 := by
 have h1 : Sz 1 x := by rw [hx]; exact zcb (by decide)
 exact h1.words h
theorem zjd (p d : Int) (hd : d ≠ 0) : (Rat.divInt p d).num = zax (decide (p < 0) != decide (d < 0)) (p.natAbs / Nat.gcd p.natAbs d.natAbs) ∧ (Rat.divInt p d).den = d.natAbs / Nat.gcd p.natAbs d.natAbs := by
 refine ⟨?_, ziz p d hd⟩
 have h1 := zif p d hd
 have h2 := zgK p d hd
 rw [← h1]
 generalize (Rat.divInt p d).num = z at *
 unfold zax
 by_cases hp : p < 0
 ·by_cases hq : d < 0
  ·rw [decide_eq_true hp, decide_eq_true hq]; simp; omega
  ·rw [decide_eq_true hp, decide_eq_false hq]; simp; omega
 ·by_cases hq : d < 0
  ·rw [decide_eq_false hp, decide_eq_true hq]; simp
   by_cases h0 : p = 0
   ·subst h0; simp at h1; omega
   ·omega
  ·rw [decide_eq_false hp, decide_eq_false hq]; simp; omega
end Go.Proofs.YtgigccjiblaefaaGreatDoor
