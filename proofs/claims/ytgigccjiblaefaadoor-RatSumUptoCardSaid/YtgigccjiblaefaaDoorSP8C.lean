/- What this claim leans on. -/
import Derived.Test.YtgigccjiblaefaaDoorSBunB
import Derived.Test.YtgigccjiblaefaaDoorSD8Math
namespace Go.Proofs.YtgigccjiblaefaaDoor
open Go Go.RowKit
set_option linter.unusedVariables false
def DenIn (w : World) (q : Nat) (A : Option Addr) (n c : Nat) : Prop := ∃ x, (q = (if x = 0 then 1 else x) ∧ x ≠ 1) ∧ zae w x A n c
theorem DenIn.below {w w' : World} {q : Nat} {A : Option Addr} {n c : Nat} (h : DenIn w q A n c) (hb : Below w.heap.size w w') : DenIn w' q A n c := by
 obtain ⟨x, e, h1⟩ := h
 exact ⟨x, e, h1.below hb⟩
def zam (w : World) (r : Rat) (b : Bool) (A : Option Addr) (n c : Nat) (E : Option Addr) (k f : Nat) : Prop := zao w r.num b A n c ∧ DenIn w r.den E k f
theorem zam.below {w w' : World} {r : Rat} {b : Bool} {A : Option Addr} {n c : Nat} {E : Option Addr} {k f : Nat} (h : zam w r b A n c E k f) (hb : Below w.heap.size w w') : zam w' r b A n c E k f := ⟨h.1.below hb, h.2.below hb⟩
theorem zam.to {w : World} {r s : Rat} {b : Bool} {A : Option Addr} {n c : Nat} {E : Option Addr} {k f : Nat} (e : r = s) (h : zam w r b A n c E k f) : zam w s b A n c E k f := e ▸ h
def zaU (w : World) (r : Rat) (e : Ending) (w' : World) : Prop := ∃ (b : Bool) (A : Option Addr) (n c : Nat) (E : Option Addr) (k f : Nat), e = .returned (.agg #[.bool b, .slice A n c, .slice E k f]) ∧ zam w' r b A n c E k f ∧ Below w.heap.size w w'
def zbn (w : World) (r : Rat) (t : Bool) (e : Ending) (w' : World) : Prop := ∃ (b : Bool) (A : Option Addr) (n c : Nat) (E : Option Addr) (k f : Nat), e = .returned (.tuple #[.agg #[.bool b, .slice A n c, .slice E k f], .bool t]) ∧ zam w' r b A n c E k f ∧ Below w.heap.size w w'
def zaF (n k : Nat) : Prop := n ≤ 67108864 ∧ k ≤ 67108864
structure RatG0 (T : World → Prop) : Prop where
 mul : ∀ (r s : Rat) (b b' : Bool) (A A' : Option Addr) (n n' c c' : Nat) (E E' : Option Addr) (k k' f f' : Nat) (w : World), T w → zam w r b A n c E k f → zam w s b' A' n' c' E' k' f' → zaF n k → zaF n' k' → Calls Tryd.prog 9 #[.agg #[.bool b, .slice A n c, .slice E k f], .agg #[.bool b', .slice A' n' c', .slice E' k' f']] w (zaU w (r * s))
structure RatG1 (T : World → Prop) : Prop where
structure RatC (T : World → Prop) (M : Nat → Prop) : Prop where
 g0 : M 0 → RatG0 T
 g1 : M 1 → RatG1 T
 new : ∀ (p q : Int) (b b' : Bool) (A D : Option Addr) (n m c d : Nat) (w : World), T w → zao w p b A n c → zao w q b' D m d → n ≤ 67108864 → m ≤ 67108864 → q ≠ 0 → Calls Tryd.prog 27 #[.agg #[.bool b, .slice A n c], .agg #[.bool b', .slice D m d]] w (zbn w (Rat.divInt p q) true)
 newNo : ∀ (p q : Int) (b b' : Bool) (A D : Option Addr) (n m c d : Nat) (w : World), T w → zao w p b A n c → zao w q b' D m d → n ≤ 67108864 → m ≤ 67108864 → q = 0 → Calls Tryd.prog 27 #[.agg #[.bool b, .slice A n c], .agg #[.bool b', .slice D m d]] w (zbn w 0 false)
 of : ∀ (p q : Int) (w : World), T w → -9223372036854775808 ≤ p → p ≤ 9223372036854775807 → -9223372036854775808 ≤ q → q ≤ 9223372036854775807 → q ≠ 0 → Calls Tryd.prog 14 #[.int .i64 p, .int .i64 q] w (zbn w (Rat.divInt p q) true)
 ofNo : ∀ (p q : Int) (w : World), T w → -9223372036854775808 ≤ p → p ≤ 9223372036854775807 → q = 0 → Calls Tryd.prog 14 #[.int .i64 p, .int .i64 q] w (zbn w 0 false)
 num : ∀ (r : Rat) (b : Bool) (A : Option Addr) (n c : Nat) (E : Option Addr) (k f : Nat) (w : World), T w → zam w r b A n c E k f → zaF n k → Calls Tryd.prog 17 #[.agg #[.bool b, .slice A n c, .slice E k f]] w (zav w r.num)
 den : ∀ (r : Rat) (b : Bool) (A : Option Addr) (n c : Nat) (E : Option Addr) (k f : Nat) (w : World), T w → zam w r b A n c E k f → zaF n k → Calls Tryd.prog 20 #[.agg #[.bool b, .slice A n c, .slice E k f]] w (zcI w r.den)
 sign : ∀ (r : Rat) (b : Bool) (A : Option Addr) (n c : Nat) (E : Option Addr) (k f : Nat) (w : World), T w → zam w r b A n c E k f → zaF n k → Calls Tryd.prog 10 #[.agg #[.bool b, .slice A n c, .slice E k f]] w (zbA w (sgnQ r))
 zero : ∀ (r : Rat) (b : Bool) (A : Option Addr) (n c : Nat) (E : Option Addr) (k f : Nat) (w : World), T w → zam w r b A n c E k f → zaF n k → Calls Tryd.prog 13 #[.agg #[.bool b, .slice A n c, .slice E k f]] w fun e w' => e = .returned (.bool (decide (r = 0))) ∧ Below w.heap.size w w'
 isInt : ∀ (r : Rat) (b : Bool) (A : Option Addr) (n c : Nat) (E : Option Addr) (k f : Nat) (w : World), T w → zam w r b A n c E k f → zaF n k → Calls Tryd.prog 33 #[.agg #[.bool b, .slice A n c, .slice E k f]] w fun e w' => e = .returned (.bool (decide (r.den = 1))) ∧ Below w.heap.size w w'
 bits : ∀ (r : Rat) (b : Bool) (A : Option Addr) (n c : Nat) (E : Option Addr) (k f : Nat) (w : World), T w → zam w r b A n c E k f → zaF n k → Calls Tryd.prog 21 #[.agg #[.bool b, .slice A n c, .slice E k f]] w (zbA w ((bitLen r.num.natAbs + bitLen r.den : Nat) : Int))
 neg : ∀ (r : Rat) (b : Bool) (A : Option Addr) (n c : Nat) (E : Option Addr) (k f : Nat) (w : World), T w → zam w r b A n c E k f → zaF n k → Calls Tryd.prog 50 #[.agg #[.bool b, .slice A n c, .slice E k f]] w (zaU w (-r))
 inv : ∀ (r : Rat) (b : Bool) (A : Option Addr) (n c : Nat) (E : Option Addr) (k f : Nat) (w : World), T w → zam w r b A n c E k f → zaF n k → r ≠ 0 → Calls Tryd.prog 15 #[.agg #[.bool b, .slice A n c, .slice E k f]] w (zbn w r⁻¹ true)
 invNo : ∀ (r : Rat) (b : Bool) (A : Option Addr) (n c : Nat) (E : Option Addr) (k f : Nat) (w : World), T w → zam w r b A n c E k f → zaF n k → r = 0 → Calls Tryd.prog 15 #[.agg #[.bool b, .slice A n c, .slice E k f]] w (zbn w 0 false)
 floor : ∀ (r : Rat) (b : Bool) (A : Option Addr) (n c : Nat) (E : Option Addr) (k f : Nat) (w : World), T w → zam w r b A n c E k f → zaF n k → Calls Tryd.prog 22 #[.agg #[.bool b, .slice A n c, .slice E k f]] w (zav w r.floor)
 ceil : ∀ (r : Rat) (b : Bool) (A : Option Addr) (n c : Nat) (E : Option Addr) (k f : Nat) (w : World), T w → zam w r b A n c E k f → zaF n k → Calls Tryd.prog 23 #[.agg #[.bool b, .slice A n c, .slice E k f]] w (zav w r.ceil)
 add : ∀ (r s : Rat) (b b' : Bool) (A A' : Option Addr) (n n' c c' : Nat) (E E' : Option Addr) (k k' f f' : Nat) (w : World), T w → zam w r b A n c E k f → zam w s b' A' n' c' E' k' f' → zaF n k → zaF n' k' → Calls Tryd.prog 8 #[.agg #[.bool b, .slice A n c, .slice E k f], .agg #[.bool b', .slice A' n' c', .slice E' k' f']] w (zaU w (r + s))
 cmp : ∀ (r s : Rat) (b b' : Bool) (A A' : Option Addr) (n n' c c' : Nat) (E E' : Option Addr) (k k' f f' : Nat) (w : World), T w → zam w r b A n c E k f → zam w s b' A' n' c' E' k' f' → zaF n k → zaF n' k' → Calls Tryd.prog 7 #[.agg #[.bool b, .slice A n c, .slice E k f], .agg #[.bool b', .slice A' n' c', .slice E' k' f']] w (zbA w (cmpQ r s))
 same : ∀ (r s : Rat) (b b' : Bool) (A A' : Option Addr) (n n' c c' : Nat) (E E' : Option Addr) (k k' f f' : Nat) (w : World), T w → zam w r b A n c E k f → zam w s b' A' n' c' E' k' f' → zaF n k → zaF n' k' → Calls Tryd.prog 11 #[.agg #[.bool b, .slice A n c, .slice E k f], .agg #[.bool b', .slice A' n' c', .slice E' k' f']] w fun e w' => e = .returned (.bool (decide (r = s))) ∧ Below w.heap.size w w'
end Go.Proofs.YtgigccjiblaefaaDoor
