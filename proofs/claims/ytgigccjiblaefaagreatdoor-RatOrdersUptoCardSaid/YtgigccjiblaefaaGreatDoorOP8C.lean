/- What this claim leans on. -/
import Derived.Test.YtgigccjiblaefaaGreatDoorOD8Math
namespace Go.Proofs.YtgigccjiblaefaaGreatDoor
open Go Go.RowKit
set_option maxHeartbeats 16000000
set_option linter.unusedVariables false
def DenIn (w : World) (q : Nat) (A : oA9) (n c : Nat) : Prop := ∃ x,(q = (if x = 0 then 1 else x) ∧ x ≠ 1) ∧ zah w x A n c
theorem DenIn.below {w w' : World} {q : Nat} {A : oA9} {n c : Nat} (h : DenIn w q A n c) (hb : Below w.heap.size w w') : DenIn w' q A n c := by
 obtain ⟨x,e,h1⟩ := h
 exact ⟨x,e,h1.below hb⟩
def zam (w : World) (r : Rat) (b : Bool) (A : oA9) (n c : Nat) (E : oA9) (k f : Nat) : Prop := zat w r.num b A n c ∧ DenIn w r.den E k f
theorem zam.below {w w' : World} {r : Rat} {b : Bool} {A : oA9} {n c : Nat} {E : oA9} {k f : Nat} (h : zam w r b A n c E k f) (hb : Below w.heap.size w w') : zam w' r b A n c E k f := ⟨h.1.below hb,h.2.below hb⟩
theorem zam.to {w : World} {r s : Rat} {b : Bool} {A : oA9} {n c : Nat} {E : oA9} {k f : Nat} (e : r = s) (h : zam w r b A n c E k f) : zam w s b A n c E k f := e ▸ h
def zaV (w : World) (r : Rat) (e : Ending) (w' : World) : Prop := ∃ (b : Bool) (A : oA9) (n c : Nat) (E : oA9) (k f : Nat),e = .returned (.agg #[.bool b,.slice A n c,.slice E k f]) ∧ zam w' r b A n c E k f ∧ Below w.heap.size w w'
def zbv (w : World) (r : Rat) (t : Bool) (e : Ending) (w' : World) : Prop := ∃ (b : Bool) (A : oA9) (n c : Nat) (E : oA9) (k f : Nat),e = .returned (.tuple #[.agg #[.bool b,.slice A n c,.slice E k f],.bool t]) ∧ zam w' r b A n c E k f ∧ Below w.heap.size w w'
def zaG (n k : Nat) : Prop := n ≤ 67108864 ∧ k ≤ 67108864
structure RatG0 (T : World → Prop) : Prop where
 mul : ∀ (r s : Rat) (b b' : Bool) (A A' : oA9) (n n' c c' : Nat) (E E' : oA9) (k k' f f' : Nat) (w : World),T w → zam w r b A n c E k f → zam w s b' A' n' c' E' k' f' → zaG n k → zaG n' k' → Calls Tryz.prog 26 #[.agg #[.bool b,.slice A n c,.slice E k f],.agg #[.bool b',.slice A' n' c',.slice E' k' f']] w (zaV w (r * s))
 div : ∀ (r s : Rat) (b b' : Bool) (A A' : oA9) (n n' c c' : Nat) (E E' : oA9) (k k' f f' : Nat) (w : World),T w → zam w r b A n c E k f → zam w s b' A' n' c' E' k' f' → zaG n k → zaG n' k' → s ≠ 0 → Calls Tryz.prog 29 #[.agg #[.bool b,.slice A n c,.slice E k f],.agg #[.bool b',.slice A' n' c',.slice E' k' f']] w (zbv w (r / s) true)
 divNo : ∀ (r s : Rat) (b b' : Bool) (A A' : oA9) (n n' c c' : Nat) (E E' : oA9) (k k' f f' : Nat) (w : World),T w → zam w r b A n c E k f → zam w s b' A' n' c' E' k' f' → zaG n k → zaG n' k' → s = 0 → Calls Tryz.prog 29 #[.agg #[.bool b,.slice A n c,.slice E k f],.agg #[.bool b',.slice A' n' c',.slice E' k' f']] w (zbv w 0 false)
structure RatG1 (T : World → Prop) : Prop where
 min : ∀ (r s : Rat) (b b' : Bool) (A A' : oA9) (n n' c c' : Nat) (E E' : oA9) (k k' f f' : Nat) (w : World),T w → zam w r b A n c E k f → zam w s b' A' n' c' E' k' f' → zaG n k → zaG n' k' → Calls Tryz.prog 39 #[.agg #[.bool b,.slice A n c,.slice E k f],.agg #[.bool b',.slice A' n' c',.slice E' k' f']] w (zaV w (zdP r s))
 max : ∀ (r s : Rat) (b b' : Bool) (A A' : oA9) (n n' c c' : Nat) (E E' : oA9) (k k' f f' : Nat) (w : World),T w → zam w r b A n c E k f → zam w s b' A' n' c' E' k' f' → zaG n k → zaG n' k' → Calls Tryz.prog 40 #[.agg #[.bool b,.slice A n c,.slice E k f],.agg #[.bool b',.slice A' n' c',.slice E' k' f']] w (zaV w (zdQ r s))
structure RatG2 (T : World → Prop) : Prop where
 int : ∀ (z : Int) (w : World),T w → -9223372036854775808 ≤ z → z ≤ 9223372036854775807 → Calls Tryz.prog 52 #[.int .i64 z] w (zaV w (z : Rat))
 whole : ∀ (z : Int) (b : Bool) (A : oA9) (n c : Nat) (w : World),T w → zat w z b A n c → n ≤ 67108864 → Calls Tryz.prog 50 #[.agg #[.bool b,.slice A n c]] w (zaV w (z : Rat))
 abs : ∀ (r : Rat) (b : Bool) (A : oA9) (n c : Nat) (E : oA9) (k f : Nat) (w : World),T w → zam w r b A n c E k f → zaG n k → Calls Tryz.prog 53 #[.agg #[.bool b,.slice A n c,.slice E k f]] w (zaV w r.abs)
structure RatC (T : World → Prop) (M : Nat → Prop) : Prop where
 g0 : M 0 → RatG0 T
 g1 : M 1 → RatG1 T
 g2 : M 2 → RatG2 T
 new : ∀ (p q : Int) (b b' : Bool) (A D : oA9) (n m c d : Nat) (w : World),T w → zat w p b A n c → zat w q b' D m d → n ≤ 67108864 → m ≤ 67108864 → q ≠ 0 → Calls Tryz.prog 10 #[.agg #[.bool b,.slice A n c],.agg #[.bool b',.slice D m d]] w (zbv w (Rat.divInt p q) true)
 newNo : ∀ (p q : Int) (b b' : Bool) (A D : oA9) (n m c d : Nat) (w : World),T w → zat w p b A n c → zat w q b' D m d → n ≤ 67108864 → m ≤ 67108864 → q = 0 → Calls Tryz.prog 10 #[.agg #[.bool b,.slice A n c],.agg #[.bool b',.slice D m d]] w (zbv w 0 false)
 of : ∀ (p q : Int) (w : World),T w → -9223372036854775808 ≤ p → p ≤ 9223372036854775807 → -9223372036854775808 ≤ q → q ≤ 9223372036854775807 → q ≠ 0 → Calls Tryz.prog 54 #[.int .i64 p,.int .i64 q] w (zbv w (Rat.divInt p q) true)
 ofNo : ∀ (p q : Int) (w : World),T w → -9223372036854775808 ≤ p → p ≤ 9223372036854775807 → q = 0 → Calls Tryz.prog 54 #[.int .i64 p,.int .i64 q] w (zbv w 0 false)
 num : ∀ (r : Rat) (b : Bool) (A : oA9) (n c : Nat) (E : oA9) (k f : Nat) (w : World),T w → zam w r b A n c E k f → zaG n k → Calls Tryz.prog 17 #[.agg #[.bool b,.slice A n c,.slice E k f]] w (zaK w r.num)
 den : ∀ (r : Rat) (b : Bool) (A : oA9) (n c : Nat) (E : oA9) (k f : Nat) (w : World),T w → zam w r b A n c E k f → zaG n k → Calls Tryz.prog 45 #[.agg #[.bool b,.slice A n c,.slice E k f]] w (zdH w r.den)
 sign : ∀ (r : Rat) (b : Bool) (A : oA9) (n c : Nat) (E : oA9) (k f : Nat) (w : World),T w → zam w r b A n c E k f → zaG n k → Calls Tryz.prog 16 #[.agg #[.bool b,.slice A n c,.slice E k f]] w (zbt w (sgnQ r))
 zero : ∀ (r : Rat) (b : Bool) (A : oA9) (n c : Nat) (E : oA9) (k f : Nat) (w : World),T w → zam w r b A n c E k f → zaG n k → Calls Tryz.prog 13 #[.agg #[.bool b,.slice A n c,.slice E k f]] w fun e w' => e = .returned (.bool (decide (r = 0))) ∧ Below w.heap.size w w'
 isInt : ∀ (r : Rat) (b : Bool) (A : oA9) (n c : Nat) (E : oA9) (k f : Nat) (w : World),T w → zam w r b A n c E k f → zaG n k → Calls Tryz.prog 49 #[.agg #[.bool b,.slice A n c,.slice E k f]] w fun e w' => e = .returned (.bool (decide (r.den = 1))) ∧ Below w.heap.size w w'
 bits : ∀ (r : Rat) (b : Bool) (A : oA9) (n c : Nat) (E : oA9) (k f : Nat) (w : World),T w → zam w r b A n c E k f → zaG n k → Calls Tryz.prog 57 #[.agg #[.bool b,.slice A n c,.slice E k f]] w (zbt w ((bitLen r.num.natAbs + bitLen r.den : Nat) : Int))
 neg : ∀ (r : Rat) (b : Bool) (A : oA9) (n c : Nat) (E : oA9) (k f : Nat) (w : World),T w → zam w r b A n c E k f → zaG n k → Calls Tryz.prog 28 #[.agg #[.bool b,.slice A n c,.slice E k f]] w (zaV w (-r))
 inv : ∀ (r : Rat) (b : Bool) (A : oA9) (n c : Nat) (E : oA9) (k f : Nat) (w : World),T w → zam w r b A n c E k f → zaG n k → r ≠ 0 → Calls Tryz.prog 41 #[.agg #[.bool b,.slice A n c,.slice E k f]] w (zbv w r⁻¹ true)
 invNo : ∀ (r : Rat) (b : Bool) (A : oA9) (n c : Nat) (E : oA9) (k f : Nat) (w : World),T w → zam w r b A n c E k f → zaG n k → r = 0 → Calls Tryz.prog 41 #[.agg #[.bool b,.slice A n c,.slice E k f]] w (zbv w 0 false)
 floor : ∀ (r : Rat) (b : Bool) (A : oA9) (n c : Nat) (E : oA9) (k f : Nat) (w : World),T w → zam w r b A n c E k f → zaG n k → Calls Tryz.prog 35 #[.agg #[.bool b,.slice A n c,.slice E k f]] w (zaK w r.floor)
 ceil : ∀ (r : Rat) (b : Bool) (A : oA9) (n c : Nat) (E : oA9) (k f : Nat) (w : World),T w → zam w r b A n c E k f → zaG n k → Calls Tryz.prog 37 #[.agg #[.bool b,.slice A n c,.slice E k f]] w (zaK w r.ceil)
 add : ∀ (r s : Rat) (b b' : Bool) (A A' : oA9) (n n' c c' : Nat) (E E' : oA9) (k k' f f' : Nat) (w : World),T w → zam w r b A n c E k f → zam w s b' A' n' c' E' k' f' → zaG n k → zaG n' k' → Calls Tryz.prog 22 #[.agg #[.bool b,.slice A n c,.slice E k f],.agg #[.bool b',.slice A' n' c',.slice E' k' f']] w (zaV w (r + s))
 sub : ∀ (r s : Rat) (b b' : Bool) (A A' : oA9) (n n' c c' : Nat) (E E' : oA9) (k k' f f' : Nat) (w : World),T w → zam w r b A n c E k f → zam w s b' A' n' c' E' k' f' → zaG n k → zaG n' k' → Calls Tryz.prog 24 #[.agg #[.bool b,.slice A n c,.slice E k f],.agg #[.bool b',.slice A' n' c',.slice E' k' f']] w (zaV w (r - s))
 cmp : ∀ (r s : Rat) (b b' : Bool) (A A' : oA9) (n n' c c' : Nat) (E E' : oA9) (k k' f f' : Nat) (w : World),T w → zam w r b A n c E k f → zam w s b' A' n' c' E' k' f' → zaG n k → zaG n' k' → Calls Tryz.prog 32 #[.agg #[.bool b,.slice A n c,.slice E k f],.agg #[.bool b',.slice A' n' c',.slice E' k' f']] w (zbt w (zce r s))
 same : ∀ (r s : Rat) (b b' : Bool) (A A' : oA9) (n n' c c' : Nat) (E E' : oA9) (k k' f f' : Nat) (w : World),T w → zam w r b A n c E k f → zam w s b' A' n' c' E' k' f' → zaG n k → zaG n' k' → Calls Tryz.prog 33 #[.agg #[.bool b,.slice A n c,.slice E k f],.agg #[.bool b',.slice A' n' c',.slice E' k' f']] w fun e w' => e = .returned (.bool (decide (r = s))) ∧ Below w.heap.size w w'
end Go.Proofs.YtgigccjiblaefaaGreatDoor
