/- What this claim leans on. -/
import Derived.Test.YtgigccjiblaefaaGreatDoorOBun7
import Derived.Test.YtgigccjiblaefaaGreatDoorOBunJ
import Derived.Laws.Concat
namespace Go.Proofs.YtgigccjiblaefaaGreatDoor
open Go Go.RowKit
set_option maxHeartbeats 16000000
set_option linter.unusedVariables false
theorem form_eq {r : Rat} {t : Int} {d : Nat} (hd : d ≠ 0) (hc : Nat.gcd t.natAbs d = 1) (h : r = Rat.divInt t d) : r.num = t ∧ r.den = d := by
 have e : (⟨t,d,hd,hc⟩ : Rat) = Rat.divInt t d := Rat.mk_eq_divInt
 rw [← e] at h
 subst h
 exact ⟨rfl,rfl⟩
theorem sgnI_div (t : Int) (h : Nat) (hd : h ∣ t.natAbs) : t = (h : Int) * zaE (decide (t < 0)) (t.natAbs / h) := by
 obtain ⟨k,hk⟩ := hd
 by_cases h0 : h = 0
 ·subst h0; rw [Nat.zero_mul] at hk; have : t = 0 := Int.natAbs_eq_zero.1 hk; subst this; simp
 have e : t.natAbs / h = k := by rw [hk]; exact Nat.mul_div_cancel_left _ (Nat.pos_of_ne_zero h0)
 rw [e]
 unfold zaE
 by_cases ht : t < 0
 ·rw [decide_eq_true ht,if_pos rfl,Int.mul_neg,← Int.natCast_mul,← hk]; omega
 ·rw [decide_eq_false ht,if_neg (by decide),← Int.natCast_mul,← hk]; omega
theorem zlF {p1 p2 t : Int} {q1 mA mB : Nat} (hc : Nat.gcd p1.natAbs q1 = 1) (hA : mA ∣ q1) (hm : Nat.gcd mA mB = 1) (ht : t = p1 * mB + p2 * mA) : Nat.gcd t.natAbs mA = 1 := by
 refine Nat.dvd_one.1 ?_
 have h1 : Nat.gcd t.natAbs mA ∣ mA := Nat.gcd_dvd_right _ _
 have h2 : Nat.gcd t.natAbs mA ∣ t.natAbs := Nat.gcd_dvd_left _ _
 generalize Nat.gcd t.natAbs mA = d at *
 have h3 : (d : Int) ∣ p1 * mB := by
  have a := Int.ofNat_dvd_left.2 h2
  have b : (d : Int) ∣ p2 * mA := Int.dvd_trans (Int.ofNat_dvd.2 h1) (Int.dvd_mul_left _ _)
  have c := Int.dvd_sub a b
  rw [ht,Int.add_sub_cancel] at c
  exact c
 have h4 : d ∣ p1.natAbs * mB := by
  have := Int.ofNat_dvd_left.1 h3
  rwa [Int.natAbs_mul,Int.natAbs_natCast] at this
 have h5 : Nat.Coprime d mB := Nat.Coprime.coprime_dvd_left h1 hm
 have h6 : d ∣ p1.natAbs := h5.dvd_of_dvd_mul_right h4
 have h7 := Nat.dvd_gcd h6 (Nat.dvd_trans h1 hA)
 rwa [hc] at h7
theorem zlq (a b : Rat) {mA mB : Nat} {t : Int} (hA : mA = a.den / Nat.gcd a.den b.den) (hB : mB = b.den / Nat.gcd a.den b.den) (ht : t = a.num * mB + b.num * mA) :
  (a + b).num = zaE (decide (t < 0)) (t.natAbs / Nat.gcd t.natAbs b.den) ∧ (a + b).den = mA * (b.den / Nat.gcd t.natAbs b.den) := by
 have g0 : 0 < Nat.gcd a.den b.den := Nat.gcd_pos_of_pos_left _ (Nat.pos_of_ne_zero a.den_nz)
 have k0 : 0 < Nat.gcd t.natAbs b.den := Nat.gcd_pos_of_pos_right _ (Nat.pos_of_ne_zero b.den_nz)
 have ea : Nat.gcd a.den b.den * mA = a.den := by rw [hA]; exact Nat.mul_div_cancel' (Nat.gcd_dvd_left _ _)
 have eb : Nat.gcd a.den b.den * mB = b.den := by rw [hB]; exact Nat.mul_div_cancel' (Nat.gcd_dvd_right _ _)
 have hm : Nat.gcd mA mB = 1 := by rw [hA,hB]; exact Nat.gcd_div_gcd_div_gcd_of_pos_left (Nat.pos_of_ne_zero a.den_nz)
 have hp : Nat.gcd t.natAbs mA = 1 := zlF a.reduced ⟨_,(Nat.mul_comm mA _ ▸ ea).symm⟩ hm ht
 have eh : Nat.gcd t.natAbs b.den * (b.den / Nat.gcd t.natAbs b.den) = b.den := Nat.mul_div_cancel' (Nat.gcd_dvd_right _ _)
 have et := sgnI_div t (Nat.gcd t.natAbs b.den) (Nat.gcd_dvd_left _ _)
 have hq : Nat.gcd (t.natAbs / Nat.gcd t.natAbs b.den) (b.den / Nat.gcd t.natAbs b.den) = 1 := Nat.gcd_div_gcd_div_gcd_of_pos_right (Nat.pos_of_ne_zero b.den_nz)
 have mA0 : mA ≠ 0 := fun h => a.den_nz (by rw [← ea,h]; rfl)
 have r0 : b.den / Nat.gcd t.natAbs b.den ≠ 0 := fun h => b.den_nz (by rw [← eh,h]; rfl)
 refine form_eq (Nat.mul_ne_zero mA0 r0) ?_ ?_
 ·rw [zbz]
  refine Nat.Coprime.mul_right ?_ hq
  exact Nat.Coprime.coprime_dvd_left (Nat.div_dvd_of_dvd (Nat.gcd_dvd_left _ _)) hp
 ·have e1 : a + b = Rat.divInt (a.num * b.den + b.num * a.den) ((a.den * b.den : Nat) : Int) := by rw [Rat.add_def']; rfl
  have e2 : a.num * (b.den : Int) + b.num * (a.den : Int) = (Nat.gcd a.den b.den : Int) * t := by
   rw [ht]
   generalize Nat.gcd a.den b.den = g at *
   rw [← eb,← ea,Int.natCast_mul,Int.natCast_mul,Int.mul_add,Int.mul_left_comm,Int.mul_left_comm b.num]
  have e3 : ((a.den * b.den : Nat) : Int) = (Nat.gcd a.den b.den : Int) * ((mA * b.den : Nat) : Int) := by
   generalize Nat.gcd a.den b.den = g at *
   rw [← ea,Nat.mul_assoc,Int.natCast_mul]
  rw [e1,e2,e3,Rat.divInt_mul_left (by omega)]
  generalize Nat.gcd t.natAbs b.den = h at *
  have e4 : ((mA * b.den : Nat) : Int) = (h : Int) * ((mA * (b.den / h) : Nat) : Int) := by
   conv => lhs; rw [← eh]
   rw [Nat.mul_left_comm,Int.natCast_mul]
  rw [e4]
  conv => lhs; rw [et]
  exact Rat.divInt_mul_left (by omega)
theorem zlk (a : Rat) (h : a ≠ 0) : (a⁻¹).num = zaE (decide (a.num < 0)) a.den ∧ (a⁻¹).den = a.num.natAbs := by
 have hn : a.num ≠ 0 := fun e => h (Rat.num_eq_zero.1 e)
 constructor
 ·rw [Rat.num_inv]
  unfold zaE
  rcases Int.lt_or_gt_of_ne hn with h1 | h1
  ·rw [Int.sign_eq_neg_one_of_neg h1,decide_eq_true h1,if_pos rfl]; omega
  ·rw [Int.sign_eq_one_of_pos h1,decide_eq_false (by omega),if_neg (by decide)]; omega
 ·rw [Rat.den_inv,if_neg hn]
theorem zlY (a : Rat) : (-a).num = zaE (!decide (a.num < 0)) a.num.natAbs ∧ (-a).den = a.den := by
 refine ⟨?_,rfl⟩
 rw [Rat.neg_num]
 unfold zaE
 by_cases h : a.num < 0
 ·simp [h]; omega
 ·simp [h]; omega
theorem zlL {a b : Rat} (ha : a.den = 1) (hb : b.den = 1) : (a + b) = ((a.num + b.num : Int) : Rat) := by
 have h1 : a = ((a.num : Int) : Rat) := Rat.ext (by rw [Rat.num_intCast]) (by rw [Rat.den_intCast,ha])
 have h2 : b = ((b.num : Int) : Rat) := Rat.ext (by rw [Rat.num_intCast]) (by rw [Rat.den_intCast,hb])
 rw [Rat.intCast_add,← h1,← h2]
set_option maxRecDepth 100000
set_option linter.unusedSimpArgs false
theorem zah.to8 {w : World} {x y : Nat} {A : oA9} {n c : Nat} (e : x = y) (h : zah w x A n c) : zah w y A n c := e ▸ h
theorem zat.to8 {w : World} {x y : Int} {b : Bool} {A : oA9} {n c : Nat} (e : x = y) (h : zat w x b A n c) : zat w y b A n c := e ▸ h
theorem zha (x : Nat) (A : oA9) (n c : Nat) (w : World) (h : zah w x A n c) (hn : n ≤ 1099511627776) :
  Calls Tryz.prog 88 #[.agg #[.slice A n c]] w fun e w' => ∃ (B : oA9) (m d : Nat),e = .returned (.slice B m d) ∧ zah w' x B m d ∧ Below w.heap.size w w' := by
 refine (zbO x A n c w h hn).mono ?_
 rintro e w' ⟨B,d,rfl,h1,h2,h3,h4⟩
 exact ⟨B,_,d,rfl,⟨h1,h2,h3.1⟩,h4⟩
theorem of_row (x : Nat) (A : oA9) (n c : Nat) (w : World) (h : zah w x A n c) (hn : n ≤ 1099511627776) :
  Calls Tryz.prog 61 #[.slice A n c] w fun e w' => ∃ (B : oA9) (m d : Nat),e = .returned (.agg #[.slice B m d]) ∧ zah w' x B m d ∧ Below w.heap.size w w' := by
 have k := zbX A n c _ w h.1 (zbQ (by decide) x) h.2.1 h.2.2 hn
 rw [zcl (by decide)] at k
 refine k.mono ?_
 rintro e w' ⟨B,m,d,rfl,h1,h2,_⟩
 exact ⟨B,m,d,rfl,h1,h2⟩
theorem zkQ {P : Program} {f : FuncId} {args : Array Value} {w : World} {z v : Int} (e : z = v) (h : Calls P f args w fun e w' => e = .returned (.tuple #[.int .u64 z,.bool true]) ∧ Below w.heap.size w w') : Calls P f args w fun e w' => e = .returned (.tuple #[.int .u64 v,.bool true]) ∧ Below w.heap.size w w' := by
 subst e; exact h
theorem zil (x : Nat) (A : oA9) (n c : Nat) (w : World) (hA : zah w x A n c) (hn : n ≤ 1099511627776) : Calls Tryz.prog 94 #[.agg #[.slice A n c]] w (zbt w ((bitLen x : Nat) : Int)) := zgo x A n c w hA hn
theorem zeQ {K K' : Nat} {z : Int} {k : Nat} (h : Sz K z.natAbs) (h' : Sz K' k) : Sz (K + K') (z * ((k : Nat) : Int)).natAbs := by
 rw [Int.natAbs_mul,Int.natAbs_natCast]
 exact h.mul h'
theorem zar {K q x : Nat} (h : Sz K q) (e : q = (if x = 0 then 1 else x) ∧ x ≠ 1) : Sz K x := h.of_le (by rw [e.1]; split <;> omega)
theorem zaF {w : World} {r : Rat} {b : Bool} {A : oA9} {n c : Nat} {E : oA9} {k f K : Nat} (h : zam w r b A n c E k f) (q : zaG n k) (hK : 67108864 = K) : SzQ K r := by
 obtain ⟨x,e,hx⟩ := h.2
 have h1 : Sz K r.num.natAbs := Sz.of_words h.1.2 (by have := q.1; omega)
 have h2 : Sz K x := Sz.of_words hx (by have := q.2; omega)
 refine ⟨h1,?_⟩
 rw [e.1]
 split
 ·exact zby (by omega)
 ·exact h2
theorem zdu (w : World) : zah w 0 none 0 0 := by
 refine ⟨⟨by rw [show dg 18446744073709551616 0 = [] from by rw [dg]; rfl]; rfl,fun h => absurd h (by decide)⟩,Nat.le_refl _,by decide⟩
theorem zfE (w : World) : zam w (0 : Rat) false none 0 0 none 0 0 := ⟨⟨rfl,zdu w⟩,⟨0,⟨rfl,by decide⟩,zdu w⟩⟩
theorem whole_in {w : World} {z : Int} {b : Bool} {A : oA9} {n c : Nat} (h : zat w z b A n c) : zam w (z : Rat) b A n c none 0 0 := ⟨by rw [Rat.num_intCast]; exact h,⟨0,⟨by rw [Rat.den_intCast]; rfl,by decide⟩,zdu w⟩⟩
theorem zlV {w : World} {r : Rat} {z : Int} {b : Bool} {A : oA9} {n c : Nat} {E : oA9} {k f : Nat} (hn : r.num = z) (hd : r.den = 1) (h : zat w z b A n c) (q : zah w 0 E k f) : zam w r b A n c E k f :=
 ⟨by rw [hn]; exact h,⟨0,⟨by rw [hd]; rfl,by decide⟩,q⟩⟩
theorem zgF {w : World} {r : Rat} {z : Int} {y : Nat} {b : Bool} {A : oA9} {n c : Nat} {E : oA9} {k f : Nat} (hn : r.num = z) (hd : r.den = y) (hy : y ≠ 1) (h : zat w z b A n c) (q : zah w y E k f) : zam w r b A n c E k f :=
 ⟨by rw [hn]; exact h,⟨y,⟨by rw [if_neg (fun h0 => r.den_nz (by rw [hd,h0]))]; exact hd,hy⟩,q⟩⟩
theorem zey {q x : Nat} (e : q = (if x = 0 then 1 else x) ∧ x ≠ 1) (h : q = 1) : x = 0 := by
 refine Decidable.byContradiction fun h0 => ?_
 rw [if_neg h0] at e
 omega
theorem zda {q x : Nat} (e : q = (if x = 0 then 1 else x) ∧ x ≠ 1) (h : q ≠ 1) : x ≠ 0 ∧ x = q := by
 have h0 : x ≠ 0 := fun h0 => h (by rw [e.1,if_pos h0])
 refine ⟨h0,?_⟩
 have := e.1
 rw [if_neg h0] at this
 exact this.symm
theorem zll (z : Int) : zaE (decide (z < 0)) z.natAbs = z := by
 unfold zaE
 by_cases h : z < 0
 ·rw [decide_eq_true h,if_pos rfl]; omega
 ·rw [decide_eq_false h,if_neg (by decide)]; omega
theorem zlS {w : World} {x : Nat} {A : oA9} {n c : Nat} (h : zah w x A n c) (hn : n ≤ 1) : x < 18446744073709551616 := zgg h.len hn
theorem len_one {w : World} {x : Nat} {A : oA9} {n c : Nat} (h : zah w x A n c) (hx : x = 1) : n ≤ 1 := by
 have h1 : Sz 1 x := by rw [hx]; exact zby (by decide)
 exact h1.words h
theorem zks (p d : Int) (hd : d ≠ 0) : (Rat.divInt p d).num = zaE (decide (p < 0) != decide (d < 0)) (p.natAbs / Nat.gcd p.natAbs d.natAbs) ∧ (Rat.divInt p d).den = d.natAbs / Nat.gcd p.natAbs d.natAbs := by
 refine ⟨?_,zir p d hd⟩
 have h1 := ziS p d hd
 have h2 := zhi p d hd
 rw [← h1]
 generalize (Rat.divInt p d).num = z at *
 unfold zaE
 by_cases hp : p < 0
 ·by_cases hq : d < 0
  ·rw [decide_eq_true hp,decide_eq_true hq]; simp; omega
  ·rw [decide_eq_true hp,decide_eq_false hq]; simp; omega
 ·by_cases hq : d < 0
  ·rw [decide_eq_false hp,decide_eq_true hq]; simp
   by_cases h0 : p = 0
   ·subst h0; simp at h1; omega
   ·omega
  ·rw [decide_eq_false hp,decide_eq_false hq]; simp; omega
end Go.Proofs.YtgigccjiblaefaaGreatDoor
