/- What this claim leans on. -/
import Derived.Test.YtgigccjiblaefaaDoorSBun7
import Derived.Test.YtgigccjiblaefaaDoorSBunJ
import Derived.Laws.Concat
namespace Go.Proofs.YtgigccjiblaefaaDoor
open Go Go.RowKit
set_option maxRecDepth 100000
set_option linter.unusedVariables false
set_option linter.unusedSimpArgs false
theorem zae.to8 {w : World} {x y : Nat} {A : Option Addr} {n c : Nat} (e : x = y) (h : zae w x A n c) : zae w y A n c := e ▸ h
theorem zao.to8 {w : World} {x y : Int} {b : Bool} {A : Option Addr} {n c : Nat} (e : x = y) (h : zao w x b A n c) : zao w y b A n c := e ▸ h
theorem zfP (x : Nat) (A : Option Addr) (n c : Nat) (w : World) (h : zae w x A n c) (hn : n ≤ 1099511627776) :
  Calls Tryd.prog 45 #[.agg #[.slice A n c]] w fun e w' => ∃ (B : Option Addr) (m d : Nat), e = .returned (.slice B m d) ∧ zae w' x B m d ∧ Below w.heap.size w w' := by
 refine (zbx x A n c w h hn).mono ?_
 rintro e w' ⟨B, d, rfl, h1, h2, h3, h4⟩
 exact ⟨B, _, d, rfl, ⟨h1, h2, h3.1⟩, h4⟩
theorem of_row (x : Nat) (A : Option Addr) (n c : Nat) (w : World) (h : zae w x A n c) (hn : n ≤ 1099511627776) :
  Calls Tryd.prog 25 #[.slice A n c] w fun e w' => ∃ (B : Option Addr) (m d : Nat), e = .returned (.agg #[.slice B m d]) ∧ zae w' x B m d ∧ Below w.heap.size w w' := by
 have k := zbv A n c _ w h.1 (zbE (by decide) x) h.2.1 h.2.2 hn
 rw [zbV (by decide)] at k
 refine k.mono ?_
 rintro e w' ⟨B, m, d, rfl, h1, h2, _⟩
 exact ⟨B, m, d, rfl, h1, h2⟩
theorem ziH {P : Program} {f : FuncId} {args : Array Value} {w : World} {z v : Int} (e : z = v) (h : Calls P f args w fun e w' => e = .returned (.tuple #[.int .u64 z, .bool true]) ∧ Below w.heap.size w w') : Calls P f args w fun e w' => e = .returned (.tuple #[.int .u64 v, .bool true]) ∧ Below w.heap.size w w' := by
 subst e; exact h
theorem zhm (x : Nat) (A : Option Addr) (n c : Nat) (w : World) (hA : zae w x A n c) (hn : n ≤ 1099511627776) : Calls Tryd.prog 48 #[.agg #[.slice A n c]] w (zbA w ((bitLen x : Nat) : Int)) := zeJ x A n c w hA hn
theorem zdY {K K' : Nat} {z : Int} {k : Nat} (h : Sz K z.natAbs) (h' : Sz K' k) : Sz (K + K') (z * ((k : Nat) : Int)).natAbs := by
 rw [Int.natAbs_mul, Int.natAbs_natCast]
 exact h.mul h'
theorem zap {K q x : Nat} (h : Sz K q) (e : q = (if x = 0 then 1 else x) ∧ x ≠ 1) : Sz K x := h.of_le (by rw [e.1]; split <;> omega)
theorem zaB {w : World} {r : Rat} {b : Bool} {A : Option Addr} {n c : Nat} {E : Option Addr} {k f K : Nat} (h : zam w r b A n c E k f) (q : zaF n k) (hK : 67108864 = K) : SzQ K r := by
 obtain ⟨x, e, hx⟩ := h.2
 have h1 : Sz K r.num.natAbs := Sz.of_words h.1.2 (by have := q.1; omega)
 have h2 : Sz K x := Sz.of_words hx (by have := q.2; omega)
 refine ⟨h1, ?_⟩
 rw [e.1]
 split
 ·exact zbZ (by omega)
 ·exact h2
theorem zcJ (w : World) : zae w 0 none 0 0 := by
 refine ⟨⟨by rw [show dg 18446744073709551616 0 = [] from by rw [dg]; rfl]; rfl, fun h => absurd h (by decide)⟩, Nat.le_refl _, by decide⟩
theorem zcl (w : World) : zam w (0 : Rat) false none 0 0 none 0 0 := ⟨⟨rfl, zcJ w⟩, ⟨0, ⟨rfl, by decide⟩, zcJ w⟩⟩
theorem whole_in {w : World} {z : Int} {b : Bool} {A : Option Addr} {n c : Nat} (h : zao w z b A n c) : zam w (z : Rat) b A n c none 0 0 := ⟨by rw [Rat.num_intCast]; exact h, ⟨0, ⟨by rw [Rat.den_intCast]; rfl, by decide⟩, zcJ w⟩⟩
theorem zjl {w : World} {r : Rat} {z : Int} {b : Bool} {A : Option Addr} {n c : Nat} {E : Option Addr} {k f : Nat} (hn : r.num = z) (hd : r.den = 1) (h : zao w z b A n c) (q : zae w 0 E k f) : zam w r b A n c E k f :=
 ⟨by rw [hn]; exact h, ⟨0, ⟨by rw [hd]; rfl, by decide⟩, q⟩⟩
theorem zfd {w : World} {r : Rat} {z : Int} {y : Nat} {b : Bool} {A : Option Addr} {n c : Nat} {E : Option Addr} {k f : Nat} (hn : r.num = z) (hd : r.den = y) (hy : y ≠ 1) (h : zao w z b A n c) (q : zae w y E k f) : zam w r b A n c E k f :=
 ⟨by rw [hn]; exact h, ⟨y, ⟨by rw [if_neg (fun h0 => r.den_nz (by rw [hd, h0]))]; exact hd, hy⟩, q⟩⟩
theorem zdB {q x : Nat} (e : q = (if x = 0 then 1 else x) ∧ x ≠ 1) (h : q = 1) : x = 0 := by
 refine Decidable.byContradiction fun h0 => ?_
 rw [if_neg h0] at e
 omega
theorem zcm {q x : Nat} (e : q = (if x = 0 then 1 else x) ∧ x ≠ 1) (h : q ≠ 1) : x ≠ 0 ∧ x = q := by
 have h0 : x ≠ 0 := fun h0 => h (by rw [e.1, if_pos h0])
 refine ⟨h0, ?_⟩
 have := e.1
 rw [if_neg h0] at this
 exact this.symm
theorem zja (z : Int) : zau (decide (z < 0)) z.natAbs = z := by
 unfold zau
 by_cases h : z < 0
 ·rw [decide_eq_true h, if_pos rfl]; omega
 ·rw [decide_eq_false h, if_neg (by decide)]; omega
theorem zjD {w : World} {x : Nat} {A : Option Addr} {n c : Nat} (h : zae w x A n c) (hn : n ≤ 1) : x < 18446744073709551616 := zeP h.len hn
theorem len_one {w : World} {x : Nat} {A : Option Addr} {n c : Nat} (h : zae w x A n c) (hx : x = 1) : n ≤ 1 := by
 have h1 : Sz 1 x := by rw [hx]; exact zbZ (by decide)
 exact h1.words h
theorem zid (p d : Int) (hd : d ≠ 0) : (Rat.divInt p d).num = zau (decide (p < 0) != decide (d < 0)) (p.natAbs / Nat.gcd p.natAbs d.natAbs) ∧ (Rat.divInt p d).den = d.natAbs / Nat.gcd p.natAbs d.natAbs := by
 refine ⟨?_, made_den p d hd⟩
 have h1 := made_num p d hd
 have h2 := zjy p d hd
 rw [← h1]
 generalize (Rat.divInt p d).num = z at *
 unfold zau
 by_cases hp : p < 0
 ·by_cases hq : d < 0
  ·rw [decide_eq_true hp, decide_eq_true hq]; simp; omega
  ·rw [decide_eq_true hp, decide_eq_false hq]; simp; omega
 ·by_cases hq : d < 0
  ·rw [decide_eq_false hp, decide_eq_true hq]; simp
   by_cases h0 : p = 0
   ·subst h0; simp at h1; omega
   ·omega
  ·rw [decide_eq_false hp, decide_eq_false hq]; simp; omega
end Go.Proofs.YtgigccjiblaefaaDoor
