/-
  Slices that read as digits: what a call that gives back digits gives back. Conditions: none beyond each lemma's own.
-/
import Derived.Test.YtonjhcmppiioeaaMem
import Derived.Test.YtonjhcmppiioeaaDig
namespace Go.Proofs.Ytonjhcmppiioeaa
open Go Go.RowKit
/-- Digits as values of one kind. -/
def vals (k : IntKind) (l : List Nat) : List Value := l.map fun d : Nat => Value.int k (d : Int)
theorem vals_length (k : IntKind) (l : List Nat) : (vals k l).length = l.length := by simp [vals]
theorem vals_append (k : IntKind) (l m : List Nat) : vals k (l ++ m) = vals k l ++ vals k m := by simp [vals]
theorem vals_take (k : IntKind) (l : List Nat) (n : Nat) : (vals k l).take n = vals k (l.take n) := by simp [vals]
theorem vals_drop (k : IntKind) (l : List Nat) (n : Nat) : (vals k l).drop n = vals k (l.drop n) := by simp [vals]
theorem vals_one (k : IntKind) (l : List Nat) : ∀ u ∈ vals k l, u.oneCell' = true := by
  intro u hu
  obtain ⟨d, _, rfl⟩ := List.mem_map.1 hu
  rfl
theorem val_at {w : World} {B n : Nat} {A : Option Addr} {K : IntKind} {l : List Nat} (hr : Reads w B 1 A n (vals K l)) {k : Nat} (hk : k < n) : ∃ ad : Addr, A = some ad ∧ ad.block < B ∧ w.cell? (ad.add k) = some (.int K (l.getD k 0 : Nat)) := by
  have hlen : l.length = n := by have := hr.1; rw [vals_length] at this; omega
  obtain ⟨ad, u, e, hb, hu, hc⟩ := hr.at_ hk
  refine ⟨ad, e, hb, hc.trans ?_⟩
  rw [List.getD_eq_getElem?_getD, List.getElem?_eq_getElem (by omega)]
  simp only [vals, List.getElem?_map, List.getElem?_eq_getElem (show k < l.length by omega), Option.map_some, Option.some.injEq] at hu
  rw [← hu]; rfl
theorem Reads.len_ {w : World} {B n : Nat} {A : Option Addr} {K : IntKind} {l : List Nat} (hr : Reads w B 1 A n (vals K l)) : l.length = n := by
  have := hr.1; rw [vals_length] at this; omega
theorem Reads.take_ {w : World} {B n k : Nat} {A : Option Addr} {xs : List Value} (hr : Reads w B 1 A n xs) (hk : k ≤ n) : Reads w B 1 A k (xs.take k) := by
  have h1 := hr.1
  refine ⟨by rw [List.length_take]; omega, fun h => ?_⟩
  obtain ⟨ad, e, hb, hc⟩ := hr.2 (by omega)
  refine ⟨ad, e, hb, fun j u hu => hc j u ?_⟩
  rw [List.getElem?_take] at hu
  split at hu
  · exact hu
  · cases hu
/-- A slice that holds the digits of x. -/
def Holds16 (w : World) (x : Nat) (A : Option Addr) (n c : Nat) : Prop :=
  Reads w w.heap.size 1 A n (vals .i64 (dg 65536 x)) ∧ n ≤ c ∧ c ≤ 9223372036854775807
/-- What a call gives back that makes a number's digits. -/
def Gives16 (w : World) (x : Nat) : Ending → World → Prop := Gives w (dg 65536 x).length (vals .i64 (dg 65536 x))
theorem Holds16.len {w : World} {x : Nat} {A : Option Addr} {n c : Nat} (h : Holds16 w x A n c) : n = (dg 65536 x).length := h.1.len_.symm
theorem Holds16.below {w w' : World} {x : Nat} {A : Option Addr} {n c : Nat} (h : Holds16 w x A n c) (hb : Below w.heap.size w w') : Holds16 w' x A n c :=
  ⟨(h.1.below hb).more hb.size, h.2⟩
theorem Gives16.elim {w w' : World} {x : Nat} {e : Ending} (h : Gives16 w x e w') : ∃ (A : Option Addr) (n c : Nat), e = .returned (.slice A n c) ∧ Holds16 w' x A n c ∧ Below w.heap.size w w' := by
  obtain ⟨A, c, rfl, hr, h1, ⟨h2, _⟩, h3⟩ := h
  exact ⟨A, _, c, rfl, ⟨hr, h1, h2⟩, h3⟩
/-- Behind a step that leaves what was there, the same is given, seen from before the step. -/
theorem Gives16.from_ {w w1 w' : World} {x : Nat} {e : Ending} (h : Gives16 w1 x e w') (hb : Below w.heap.size w w1) : Gives16 w x e w' := Gives.from_ h hb
/-- Which of two numbers is greater: -1, 0, 1. -/
def cmpI (x y : Nat) : Int := if x < y then -1 else if x = y then 0 else 1
theorem cmpI_lt {x y : Nat} (h : x < y) : cmpI x y = -1 := if_pos h
theorem cmpI_gt {x y : Nat} (h : y < x) : cmpI x y = 1 := by unfold cmpI; rw [if_neg (by omega), if_neg (by omega)]
theorem cmpI_eq {x y : Nat} (h : x = y) : cmpI x y = 0 := by unfold cmpI; rw [if_neg (by omega), if_pos h]
theorem dig16 (x j : Nat) : (dg 65536 x).getD j 0 = x / 65536 ^ j % 65536 := by rw [dv_getD (by decide) (dg_dgs (by decide) x), dv_dg (by decide)]
/-- What a call gives back that makes a number's words. -/
def GivesW (w : World) (x : Nat) : Ending → World → Prop := Gives w (dg 18446744073709551616 x).length (vals .u64 (dg 18446744073709551616 x))
/-! ### Adding up, digit by digit -/
structure Add16 (x y k : Nat) (out : List Nat) (c : Nat) : Prop where
  len : out.length = k
  dgs : Dgs 65536 out
  carry : c ≤ 1
  sum : x % 65536 ^ k + y % 65536 ^ k = dv 65536 out + 65536 ^ k * c
theorem Add16.start (x y : Nat) : Add16 x y 0 [] 0 := ⟨rfl, by intro d hd; simp at hd, by omega, by simp [dv, Nat.mod_one]⟩
theorem Add16.step {x y k c s : Nat} {out : List Nat} (h : Add16 x y k out c) (hs : s = x / 65536 ^ k % 65536 + y / 65536 ^ k % 65536 + c) : Add16 x y (k + 1) (out ++ [s % 65536]) (s / 65536) := by
  have h1 : x / 65536 ^ k % 65536 < 65536 := Nat.mod_lt _ (by decide)
  have h2 : y / 65536 ^ k % 65536 < 65536 := Nat.mod_lt _ (by decide)
  have h3 := h.carry
  refine ⟨by simp [h.len], h.dgs.append (by intro d hd; simp at hd; subst hd; omega), by omega, ?_⟩
  have e := h.sum
  rw [mod_step_b 65536 x k, mod_step_b 65536 y k, dv_snoc, h.len, Nat.pow_succ, Nat.mul_assoc, Nat.add_assoc (dv 65536 out), ← Nat.mul_add, Nat.mod_add_div, hs, Nat.mul_add, Nat.mul_add]
  omega
theorem Add16.done {x y k : Nat} {out : List Nat} (h : Add16 x y k out 0) (hx : (dg 65536 x).length ≤ k) (hy : (dg 65536 y).length ≤ k) : dv 65536 out = x + y := by
  have e := h.sum
  have h1 : x < 65536 ^ k := Nat.lt_of_lt_of_le (dg_lt (by decide) x) (Nat.pow_le_pow_right (by decide) hx)
  have h2 : y < 65536 ^ k := Nat.lt_of_lt_of_le (dg_lt (by decide) y) (Nat.pow_le_pow_right (by decide) hy)
  rw [Nat.mod_eq_of_lt h1, Nat.mod_eq_of_lt h2] at e
  omega
/-! ### Taking away, digit by digit -/
structure Sub16 (x y k : Nat) (out : List Nat) (c : Nat) : Prop where
  len : out.length = k
  dgs : Dgs 65536 out
  lack : c ≤ 1
  sum : dv 65536 out + y % 65536 ^ k = x % 65536 ^ k + 65536 ^ k * c
theorem Sub16.start (x y : Nat) : Sub16 x y 0 [] 0 := ⟨rfl, by intro d hd; simp at hd, by omega, by simp [dv, Nat.mod_one]⟩
theorem Sub16.step {x y k c d c' : Nat} {out : List Nat} (h : Sub16 x y k out c) (hd : d < 65536) (hc : c' ≤ 1) (hs : d + y / 65536 ^ k % 65536 + c = x / 65536 ^ k % 65536 + 65536 * c') : Sub16 x y (k + 1) (out ++ [d]) c' := by
  refine ⟨by simp [h.len], h.dgs.append (by intro e he; simp at he; subst he; exact hd), hc, ?_⟩
  have e := h.sum
  have e2 : 65536 ^ k * d + 65536 ^ k * (y / 65536 ^ k % 65536) + 65536 ^ k * c = 65536 ^ k * (x / 65536 ^ k % 65536) + 65536 ^ k * (65536 * c') := by
    rw [← Nat.mul_add, ← Nat.mul_add, hs, Nat.mul_add]
  rw [mod_step_b 65536 x k, mod_step_b 65536 y k, dv_snoc, h.len, Nat.pow_succ, Nat.mul_assoc (65536 ^ k) 65536 c']
  omega
theorem Sub16.done {x y k c : Nat} {out : List Nat} (h : Sub16 x y k out c) (hyx : y ≤ x) (hx : (dg 65536 x).length ≤ k) : dv 65536 out = x - y := by
  have e := h.sum
  have h1 : x < 65536 ^ k := Nat.lt_of_lt_of_le (dg_lt (by decide) x) (Nat.pow_le_pow_right (by decide) hx)
  have h3 := dv_lt h.dgs
  rw [h.len] at h3
  rw [Nat.mod_eq_of_lt h1, Nat.mod_eq_of_lt (Nat.lt_of_le_of_lt hyx h1)] at e
  have h4 := h.lack
  have : c = 0 ∨ c = 1 := by omega
  rcases this with rfl | rfl <;> omega
/-! ### A number times a small one, and another one -/
structure Small16 (x m a k : Nat) (out : List Nat) (c : Nat) : Prop where
  len : out.length = k
  dgs : Dgs 65536 out
  carry : c < 65536
  sum : dv 65536 out + 65536 ^ k * c = x % 65536 ^ k * m + a
theorem Small16.start (x m a : Nat) (ha : a < 65536) : Small16 x m a 0 [] a := ⟨rfl, by intro d hd; simp at hd, ha, by simp [dv, Nat.mod_one]⟩
theorem Small16.step {x m a k c s : Nat} {out : List Nat} (h : Small16 x m a k out c) (hm : m < 65536) (hs : s = x / 65536 ^ k % 65536 * m + c) : Small16 x m a (k + 1) (out ++ [s % 65536]) (s / 65536) := by
  have h1 : x / 65536 ^ k % 65536 < 65536 := Nat.mod_lt _ (by decide)
  have h2 : x / 65536 ^ k % 65536 * m ≤ 65535 * 65535 := Nat.mul_le_mul (by omega) (by omega)
  have h3 := h.carry
  refine ⟨by simp [h.len], h.dgs.append (by intro d hd; simp at hd; subst hd; omega), by omega, ?_⟩
  have e := h.sum
  have e2 : 65536 ^ k * (s % 65536) + 65536 ^ k * (65536 * (s / 65536)) = 65536 ^ k * s := by rw [← Nat.mul_add, Nat.mod_add_div]
  have e3 : 65536 ^ k * s = 65536 ^ k * (x / 65536 ^ k % 65536) * m + 65536 ^ k * c := by rw [hs, Nat.mul_add, Nat.mul_assoc]
  rw [dv_snoc, h.len, Nat.pow_succ, Nat.mul_assoc (65536 ^ k) 65536, ← Nat.pow_succ, mod_step_b 65536 x k, Nat.add_mul]
  omega
theorem Small16.done {x m a k c : Nat} {out : List Nat} (h : Small16 x m a k out c) (hx : (dg 65536 x).length ≤ k) : dv 65536 (out ++ [c % 65536, c / 65536]) = x * m + a ∧ Dgs 65536 (out ++ [c % 65536, c / 65536]) := by
  have e := h.sum
  have h1 : x < 65536 ^ k := Nat.lt_of_lt_of_le (dg_lt (by decide) x) (Nat.pow_le_pow_right (by decide) hx)
  rw [Nat.mod_eq_of_lt h1] at e
  have h3 := h.carry
  refine ⟨?_, h.dgs.append (by intro d hd; simp at hd; rcases hd with rfl | rfl <;> omega)⟩
  rw [dv_append, h.len]
  simp only [dv, Nat.mul_zero, Nat.add_zero]
  rw [Nat.mod_add_div]
  exact e
/-! ### A number by a small one, from above -/
structure Half16 (x m n k : Nat) (out : List Nat) (left : Nat) : Prop where
  len : out.length = n - k
  dgs : Dgs 65536 out
  rest : left < m
  sum : dv 65536 out * m + left = x / 65536 ^ k
theorem Half16.start {x m n : Nat} (hm : 0 < m) (hn : (dg 65536 x).length ≤ n) : Half16 x m n n [] 0 := by
  have h1 : x < 65536 ^ n := Nat.lt_of_lt_of_le (dg_lt (by decide) x) (Nat.pow_le_pow_right (by decide) hn)
  exact ⟨by simp, by intro d hd; simp at hd, hm, by simp [dv, Nat.div_eq_of_lt h1]⟩
theorem Half16.step {x m n k left s : Nat} {out : List Nat} (h : Half16 x m n (k + 1) out left) (hk : k + 1 ≤ n) (hs : s = left * 65536 + x / 65536 ^ k % 65536) : Half16 x m n k (s / m :: out) (s % m) := by
  have h1 : x / 65536 ^ k % 65536 < 65536 := Nat.mod_lt _ (by decide)
  have h3 := h.rest
  have hm : 0 < m := by omega
  refine ⟨by simp [h.len]; omega, ?_, Nat.mod_lt _ hm, ?_⟩
  · intro d hd
    rcases List.mem_cons.1 hd with rfl | hd
    · refine (Nat.div_lt_iff_lt_mul hm).2 ?_
      have : (left + 1) * 65536 ≤ m * 65536 := Nat.mul_le_mul_right _ h3
      omega
    · exact h.dgs d hd
  · have e := h.sum
    have e2 := dig_up 65536 x k
    have e3 := Nat.div_add_mod s m
    rw [dv, Nat.add_mul, e2, ← e, Nat.mul_add, Nat.mul_assoc 65536, Nat.mul_comm (s / m) m]
    omega
theorem Half16.done {x m n left : Nat} {out : List Nat} (h : Half16 x m n 0 out left) : dv 65536 out = x / m ∧ left = x % m := by
  have e := h.sum
  have h3 := h.rest
  rw [Nat.pow_zero, Nat.div_one] at e
  have hm : 0 < m := by omega
  refine ⟨?_, ?_⟩
  · rw [← e, Nat.add_comm, Nat.add_mul_div_right _ _ hm, Nat.div_eq_of_lt h3, Nat.zero_add]
  · rw [← e, Nat.add_comm, Nat.add_mul_mod_self_right, Nat.mod_eq_of_lt h3]
theorem pow_split (k : Nat) : 65536 ^ (k / 16) * 2 ^ (k % 16) = 2 ^ k := by
  rw [show (65536 : Nat) = 2 ^ 16 from rfl, ← Nat.pow_mul, ← Nat.pow_add, Nat.div_add_mod]
theorem pow_lt16 (k : Nat) : 2 ^ (k % 16) ≤ 32768 := by
  have := Nat.pow_le_pow_right (n := 2) (by decide) (show k % 16 ≤ 15 by omega)
  simpa using this
/-- What Half gives back: the quotient's digits, and what is left. -/
def GivesHalf (w : World) (x m : Nat) (e : Ending) (w' : World) : Prop :=
  ∃ v : Value, e = .returned (.tuple #[v, .int .i64 ((x % m : Nat) : Int)]) ∧ Gives16 w (x / m) (.returned v) w'
theorem drop_set (cs : Array Value) (k : Nat) (u : Value) (h : k < cs.size) : (cs.setIfInBounds k u).toList.drop k = u :: cs.toList.drop (k + 1) := by
  rw [Array.toList_setIfInBounds, List.drop_eq_getElem_cons (by simpa using h)]
  simp [List.drop_set]
/-- Half, seen from an earlier world. -/
theorem gives_nil (w : World) : Gives16 w 0 (.returned (.slice none 0 0)) w := ⟨none, 0, rfl, Reads.none_, Nat.le_refl _, ⟨by omega, by intro ad e; cases e⟩, Below.refl _ _⟩
theorem shr_zero {x k n : Nat} (hx : (dg 65536 x).length = n) (h : n ≤ k / 16) : x / 2 ^ k = 0 := by
  refine Nat.div_eq_of_lt ?_
  have h1 := dg_lt (b := 65536) (by decide) x
  rw [hx] at h1
  have h2 : 65536 ^ n ≤ 65536 ^ (k / 16) := Nat.pow_le_pow_right (by decide) h
  have h3 := pow_split k
  have h4 : 65536 ^ (k / 16) ≤ 65536 ^ (k / 16) * 2 ^ (k % 16) := Nat.le_mul_of_pos_right _ (Nat.two_pow_pos _)
  omega
theorem shr_two (x k : Nat) : x / 65536 ^ (k / 16) / 2 ^ (k % 16) = x / 2 ^ k := by rw [Nat.div_div_eq_div_mul, pow_split]
theorem low_all {x k n : Nat} (hx : (dg 65536 x).length = n) (h : n ≤ k / 16) : x % 2 ^ k = x := by
  refine Nat.mod_eq_of_lt ?_
  have h1 := dg_lt (b := 65536) (by decide) x
  rw [hx] at h1
  have h2 : 65536 ^ n ≤ 65536 ^ (k / 16) := Nat.pow_le_pow_right (by decide) h
  have h3 := pow_split k
  have h4 : 65536 ^ (k / 16) ≤ 65536 ^ (k / 16) * 2 ^ (k % 16) := Nat.le_mul_of_pos_right _ (Nat.two_pow_pos _)
  omega
theorem low_two (x k : Nat) : x % 65536 ^ (k / 16) + 65536 ^ (k / 16) * (x / 65536 ^ (k / 16) % 65536 % 2 ^ (k % 16)) = x % 2 ^ k := by
  have h2 : x / 65536 ^ (k / 16) % 65536 % 2 ^ (k % 16) = x / 65536 ^ (k / 16) % 2 ^ (k % 16) := by
    refine Nat.mod_mod_of_dvd _ ?_
    rw [show (65536 : Nat) = 2 ^ 16 from rfl]
    exact Nat.pow_dvd_pow 2 (by omega)
  rw [h2, ← pow_split k, Nat.mod_mul]
end Go.Proofs.Ytonjhcmppiioeaa
