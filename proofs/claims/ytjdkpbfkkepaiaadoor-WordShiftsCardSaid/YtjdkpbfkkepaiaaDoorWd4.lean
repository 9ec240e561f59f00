/-
  The walks of WordTurns, WordDivs and WordShifts. Conditions: the arguments are words; TrailingZeros64's table reads as its initialiser lays it.
-/
import Derived.Test.YtjdkpbfkkepaiaaDoorWd3
import Derived.Test.YtjdkpbfkkepaiaaDoorMem
namespace Go.Proofs.YtjdkpbfkkepaiaaDoor
open Go Go.RowKit


/-! ### WordTurns -/
theorem mul_turn (x y : Int) : mulHi y x = mulHi x y ∧ mulLo y x = mulLo x y := by unfold mulHi mulLo; rw [Int.mul_comm y x]; exact ⟨rfl, rfl⟩
theorem mul_one {x : Int} (hx : Wd x) : mulHi x 1 = 0 ∧ mulLo x 1 = x := by unfold Wd at hx; unfold mulHi mulLo; omega
theorem mul_two (x : Int) : mulHi x 2 = addHi x x 0 ∧ mulLo x 2 = addLo x x 0 := by unfold mulHi mulLo addHi addLo; omega

set_option maxHeartbeats 1000000 in
theorem wordTurns_walk (x y : Int) (hx : Wd x) (hy : Wd y) (w : World) (hT : TabAt w) :
    Calls Tryd.prog 8 #[.int .u64 x, .int .u64 y] w fun e w' => e = .returned (.bool true) ∧ Below w.heap.size w w' := by
  have C1 := Lib.hid (word_mul x y hx hy w)
  have C2 := Lib.hid (word_mul y x hy hx w)
  have C3 := Lib.hid (word_mul x 1 hx (by unfold Wd; omega) w)
  have C4 := Lib.hid (word_mul x 2 hx (by unfold Wd; omega) w)
  have C5 := Lib.hid (word_add x x 0 hx hx (by unfold Wd; omega) w)
  have C6 := Lib.hid (awake_any w hT)
  rw [(mul_turn x y).1, (mul_turn x y).2] at C2
  rw [(mul_one hx).1, (mul_one hx).2] at C3
  rw [(mul_two x).1, (mul_two x).2] at C4
  clear hT
  go_enter Tryd.func8, Tryd.ntmps8
  go_wp2_with fail
  refine C1.out.mono ?_
  rintro e w' ⟨rfl, rfl⟩
  go_wp2_with fail
  refine C2.out.mono ?_
  rintro e w' ⟨rfl, rfl⟩
  go_wp2_with fail
  refine C3.out.mono ?_
  rintro e w' ⟨rfl, rfl⟩
  go_wp2_with fail
  refine C4.out.mono ?_
  rintro e w' ⟨rfl, rfl⟩
  go_wp2_with fail
  refine C5.out.mono ?_
  rintro e w' ⟨rfl, rfl⟩
  go_wp2_with fail
  refine C6.out.mono ?_
  rintro e w' ⟨rfl, rfl⟩
  go_wp2_with fail
  go_ret
  exact ⟨rfl, Below.refl _ _⟩

/-! ### WordDivs -/
theorem div_made {hi lo y : Int} (hl : Wd lo) : maHi (divQ hi lo y) y (divR hi lo y) 0 = hi ∧ maLo (divQ hi lo y) y (divR hi lo y) 0 = lo := by
  have := div_whole hi lo y
  rw [Int.mul_comm] at this
  unfold Wd at hl
  unfold maHi maLo
  rw [this]
  omega

set_option maxHeartbeats 1000000 in
theorem wordDivs_walk (hi lo y : Int) (hh : Wd hi) (hl : Wd lo) (hy : Wd y) (w : World) (hT : TabAt w) :
    Calls Tryd.prog 7 #[.int .u64 hi, .int .u64 lo, .int .u64 y] w fun e w' => e = .returned (.bool true) ∧ Below w.heap.size w w' := by
  by_cases h : hi < y
  · have C1 := Lib.hid (word_div_yes hi lo y hh h hy.2 hl w)
    have hr := divR_bd hi lo (y := y) (by have := hh.1; omega)
    have hq := divQ_wd hh hl h
    have hrw : Wd (divR hi lo y) := by have := hy.2; unfold Wd; omega
    have C2 : Hid (∀ w', Calls Tryd.prog 18 #[.int .u64 (divQ hi lo y), .int .u64 y, .int .u64 (divR hi lo y), .int .u64 0] w' fun e w'' => e = .returned (.tuple #[.int .u64 hi, .int .u64 lo]) ∧ w' = w'') := by
      intro w'
      have h2 := word_muladd (divQ hi lo y) y (divR hi lo y) 0 hq hy hrw (by unfold Wd; omega) w'
      rw [(div_made hl).1, (div_made hl).2] at h2
      exact h2
    have C3 : Hid (∀ n, Calls Tryd.prog 14 #[] (w.drewN n) fun e w' => e = .returned (.bool true) ∧ w.drewN n = w') := fun n => awake_any _ (hT.drewN n)
    have d1 : decide (hi < y) = true := by simpa using h
    have d2 : decide (divR hi lo y < y) = true := by simpa using hr.2
    clear hT hq hrw hr
    go_enter Tryd.func7, Tryd.ntmps7
    go_wp2_with fail
    refine C1.out.mono ?_
    rintro e w' ⟨rfl, n, rfl⟩
    go_wp2_with fail
    refine (C2.out _).mono ?_
    rintro e w' ⟨rfl, rfl⟩
    go_wp2_with fail
    refine (C3.out n).mono ?_
    rintro e w' ⟨rfl, rfl⟩
    go_wp2_with fail
    go_ret
    exact ⟨rfl, below_drewN_ (Below.refl _ _) n⟩
  · have C1 := Lib.hid (word_div_no hi lo y (by omega) w)
    have C3 := Lib.hid (awake_any w hT)
    have d1 : decide (hi < y) = false := by simpa using h
    clear hT
    go_enter Tryd.func7, Tryd.ntmps7
    go_wp2_with fail
    refine C1.out.mono ?_
    rintro e w' ⟨rfl, rfl⟩
    go_wp2_with fail
    refine C3.out.mono ?_
    rintro e w' ⟨rfl, rfl⟩
    go_wp2_with fail
    go_ret
    exact ⟨rfl, Below.refl _ _⟩

/-! ### WordShifts -/
theorem shift_facts (x : Int) (hx : Wd x) (h : x ≠ 0) : ∃ n t : Nat, lenN x = n ∧ trailN x = t ∧ 1 ≤ n ∧ n ≤ 64 ∧ t < n ∧ x / 2 ^ (n - 1) = 1 ∧ bits BinOp.and IntKind.u64 (x / 2 ^ t) 1 = 1 ∧ IntKind.u64.wrap (IntKind.u64.wrap (x * 2 ^ (63 - t)) * 2) = 0 := by
  obtain ⟨h0, h1⟩ := hx
  obtain ⟨x, rfl⟩ := Int.eq_ofNat_of_zero_le h0
  have hne : x ≠ 0 := by omega
  have hs := bitLen_spec x
  have hs2 := hs.2 hne
  have hl := bitLen_le x 64 (by omega)
  obtain ⟨m, hm, hk⟩ := Lib.ctzFrom_spec 64 x (by omega) (by omega)
  have et : Lib.ctz 64 x = Lib.ctzFrom 64 x := by simp [Lib.ctz, hne]
  refine ⟨bitLen x, Lib.ctz 64 x, by simp [lenN], by simp [trailN], ?_, hl, ?_, ?_, ?_, ?_⟩
  · rcases Nat.eq_zero_or_pos (bitLen x) with e | e
    · rw [e] at hs; simp at hs; omega
    · exact e
  · rw [et]
    refine (Nat.pow_lt_pow_iff_right (a := 2) (by decide)).1 (Nat.lt_of_le_of_lt ?_ hs.1)
    conv => rhs; rw [hm]
    exact Nat.le_mul_of_pos_right _ (by omega)
  · have hpos : 1 ≤ bitLen x := by
      rcases Nat.eq_zero_or_pos (bitLen x) with e | e
      · rw [e] at hs; simp at hs; omega
      · exact e
    have e1 : x / 2 ^ (bitLen x - 1) = 1 := by
      have h2 : x < 2 ^ (bitLen x - 1) * 2 := by rw [← Nat.pow_succ, show (bitLen x - 1).succ = bitLen x from by omega]; exact hs.1
      have := Nat.two_pow_pos (bitLen x - 1)
      exact (Nat.div_eq_iff this).2 ⟨by omega, by omega⟩
    have : ((x / 2 ^ (bitLen x - 1) : Nat) : Int) = (x : Int) / 2 ^ (bitLen x - 1) := by rw [Int.natCast_ediv, Int.natCast_pow]; rfl
    rw [← this, e1]; rfl
  · have e1 : x / 2 ^ Lib.ctz 64 x = 2 * m + 1 := by
      rw [et]
      conv => lhs; rw [show x / 2 ^ Lib.ctzFrom 64 x = (2 ^ Lib.ctzFrom 64 x * (2 * m + 1)) / 2 ^ Lib.ctzFrom 64 x from by rw [← hm]]
      exact Nat.mul_div_cancel_left _ (Nat.two_pow_pos _)
    have : ((x / 2 ^ Lib.ctz 64 x : Nat) : Int) = (x : Int) / 2 ^ Lib.ctz 64 x := by rw [Int.natCast_ediv, Int.natCast_pow]; rfl
    rw [← this, low1 _ ⟨by omega, by have := Nat.div_le_self x (2 ^ Lib.ctz 64 x); omega⟩, e1]
    omega
  · have e1 : x * 2 ^ (63 - Lib.ctz 64 x) = 9223372036854775808 * (2 * m + 1) := by
      rw [et]
      have : x * 2 ^ (63 - Lib.ctzFrom 64 x) = 2 ^ Lib.ctzFrom 64 x * (2 * m + 1) * 2 ^ (63 - Lib.ctzFrom 64 x) := by rw [← hm]
      rw [this, Nat.mul_right_comm, ← Nat.pow_add, show Lib.ctzFrom 64 x + (63 - Lib.ctzFrom 64 x) = 63 from by omega]
    have : ((x * 2 ^ (63 - Lib.ctz 64 x) : Nat) : Int) = (x : Int) * 2 ^ (63 - Lib.ctz 64 x) := by rw [Int.natCast_mul, Int.natCast_pow]; rfl
    rw [← this, e1, IntKind.wrap_u64, IntKind.wrap_u64]
    omega

set_option maxHeartbeats 1000000 in
theorem wordShifts_walk (x : Int) (hx : Wd x) (w : World) (hT : TabAt w) :
    Calls Tryd.prog 9 #[.int .u64 x] w fun e w' => e = .returned (.bool true) ∧ Below w.heap.size w w' := by
  have C1 := Lib.hid (word_len x hx w)
  have C2 := Lib.hid (word_trail x hx w hT)
  have C3 := Lib.hid (awake_any w hT)
  clear hT
  by_cases h : x = 0
  · subst h
    rw [show lenN 0 = 0 from by decide +kernel] at C1
    rw [show trailN 0 = 64 from by decide +kernel] at C2
    go_enter Tryd.func9, Tryd.ntmps9
    go_wp2_with fail
    refine C1.out.mono ?_
    rintro e w' ⟨rfl, rfl⟩
    go_wp2_with fail
    refine C2.out.mono ?_
    rintro e w' ⟨rfl, rfl⟩
    go_wp2_with fail
    refine C3.out.mono ?_
    rintro e w' ⟨rfl, rfl⟩
    go_wp2_with fail
    go_ret
    exact ⟨rfl, Below.refl _ _⟩
  · obtain ⟨n, t, hn, ht, hn1, hn2, ht1, f1, f2, f3⟩ := shift_facts x hx h
    rw [hn] at C1
    rw [ht] at C2
    have hz : (x == 0) = false := beq_eq_false_iff_ne.2 h
    have g1 : (x / 2 ^ (n - 1) == 1) = true := beq_iff_eq.2 f1
    have g2 : (bits BinOp.and IntKind.u64 (x / 2 ^ t) 1 == 1) = true := beq_iff_eq.2 f2
    have g3 : (IntKind.u64.wrap (IntKind.u64.wrap (x * 2 ^ (63 - t)) * 2) == 0) = true := beq_iff_eq.2 f3
    clear hn ht f1 f2 f3
    go_enter Tryd.func9, Tryd.ntmps9
    go_wp2_with fail
    refine C1.out.mono ?_
    rintro e w' ⟨rfl, rfl⟩
    go_wp2_with fail
    refine C2.out.mono ?_
    rintro e w' ⟨rfl, rfl⟩
    go_wp2_with fail
    refine C3.out.mono ?_
    rintro e w' ⟨rfl, rfl⟩
    go_wp2_with fail
    go_ret
    exact ⟨rfl, Below.refl _ _⟩
end Go.Proofs.YtjdkpbfkkepaiaaDoor
