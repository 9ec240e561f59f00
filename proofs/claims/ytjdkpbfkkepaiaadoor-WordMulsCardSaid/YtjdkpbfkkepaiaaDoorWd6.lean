/-
  The contracts of the reference of the first stage, the second half: Shift, Mul, Sum, Less, Len, Trail. Conditions: the arguments are words, or lists of bits.
-/
import Derived.Test.YtjdkpbfkkepaiaaDoorWd5
namespace Go.Proofs.YtjdkpbfkkepaiaaDoor
open Go Go.RowKit
set_option maxRecDepth 100000

theorem ref_bits' (x : Nat) (hx : x < 18446744073709551616) (w : World) : Calls Tryd.prog 20 #[.int .u64 x] w (Gives w 64 (ints (bitsN 64 x))) :=
  (ref_bits x hx w).mono fun _ _ ⟨_, he, ho, hb⟩ => by subst he; exact gives_of_own ho hb
theorem ref_add' (A D : Option Addr) (n m c d : Nat) (a b : List Int) (w : World) (hA : Reads w w.heap.size 1 A n (ints a)) (hD : Reads w w.heap.size 1 D m (ints b)) (ha : Bits a) (hb : Bits b) (hn : n ≤ 128) (hm : m ≤ 128) :
    Calls Tryd.prog 19 #[.slice A n c, .slice D m d] w (Gives w 128 (ints (bitsN 128 (bv a + bv b).toNat))) :=
  (ref_add A D n m c d a b w hA hD ha hb hn hm).mono fun _ _ ⟨_, he, ho, hb⟩ => by subst he; exact gives_of_own ho hb

theorem ints_one (l : List Int) : ∀ u ∈ ints l, u.oneCell' = true := ints_oneCell .i64 l

set_option maxHeartbeats 1000000 in
/-- Shift: so many noughts ahead. -/
theorem ref_shift (A : Option Addr) (n c k : Nat) (l : List Int) (w : World) (hA : Reads w w.heap.size 1 A n (ints l)) (hk : k ≤ 64) (hn : n ≤ 64) :
    Calls Tryd.prog 31 #[.slice A n c, .int .i64 k] w (Gives w (k + n) (ints (List.replicate k 0 ++ l))) := by
  obtain ⟨i0, hi0, hz0, hz1, hz2⟩ := info_parts info_int
  go_enter Tryd.func31, Tryd.ntmps31
  go_wp2
  go_loopw [5, 6] (fun v i wr => ∃ j : Nat, j ≤ k ∧ i = .int .i64 j ∧ wr.ownsRow w.heap.size 3 1 v j (ints (List.replicate j 0)) ∧ Below w.heap.size w wr)
    (fun _ i _ => k - (intOf i).toNat)
  case atStart => exact ⟨0, Nat.zero_le _, rfl, World.ownsRow_nil _ _ _ _, Below.refl _ _⟩
  case round =>
    obtain ⟨j, hj, rfl, hown, hbl⟩ := hrel
    by_cases hlt : j < k
    · go_wp2_with (at_builtin; refine wpList_append_own _ rfl _ _ 29 rfl w.heap.size 3 i0 (.int .i64 0) 1 8 Tryd.underlying29 hi0 hz0 hz1 hz2 rfl (by decide) _ _ _ rfl (hown.alloc _) ⟨wr.heap.size, 0, none⟩ 1 1 [.int .i64 0] rfl rfl (push_cells _ _ _) (push_one _ _) (by unfold maxLen; omega) (by omega) (by have := hbl.size; simp; omega) ?_; intro v' w1 hown' hgrow _)
      have hb' : Below w.heap.size w w1 := (hbl.alloc hbl.size _).grown hgrow (by have := hbl.size; simp; omega) (fun g hg => (hown.lt g hg).1)
      have hown2 : w1.ownsRow w.heap.size 3 1 v' (j + 1) (ints (List.replicate (j + 1) 0)) := by
        have e : ints (List.replicate (j + 1) 0) = ints (List.replicate j 0) ++ [.int .i64 0] := by simp [ints, List.replicate_succ']
        rw [e]; exact hown'
      clear hown' hgrow hown hbl
      go_wp2
      go_roundw
      case rel => exact ⟨j + 1, by omega, by go_num, hown2, hb'⟩
      case measure => simp [intOf]; omega
    · have hjk : j = k := by omega
      subst hjk
      have hA' := hA.below hbl
      go_wp2_with (at_builtin; refine wpList_append_any _ rfl (.tmp 15) (.tmp 16) 29 rfl w.heap.size 3 i0 (.int .i64 0) 1 8 Tryd.underlying29 hi0 hz0 hz1 hz2 rfl (by decide) _ _ _ rfl hown _ A n c (ints l) rfl hA' (ints_one l) (by unfold maxLen; omega) (by omega) hbl.size ?_; intro v' w1 hown' hgrow hat)
      have hb' : Below w.heap.size w w1 := hbl.grown hgrow hbl.size (fun g hg => (hown.lt g hg).1)
      have hg : Gives w (j + n) (ints (List.replicate j 0 ++ l)) (.returned v') w1 := gives_of_own (by rw [ints, List.map_append]; exact hown') hb'
      clear hown' hgrow hown hbl hat
      go_wp2
      go_ret
      exact hg

set_option maxHeartbeats 2000000 in
/-- Mul: the product's 128 bits. -/
theorem ref_mul (x y : Nat) (hx : x < 18446744073709551616) (hy : y < 18446744073709551616) (w : World) :
    Calls Tryd.prog 17 #[.int .u64 x, .int .u64 y] w (Gives w 128 (ints (bitsN 128 (x * y)))) := by
  have B0 := Lib.hid (ref_bits' y hy w)
  go_enter Tryd.func17, Tryd.ntmps17
  go_wp2_with fail
  refine B0.out.mono ?_
  rintro e w1 ⟨A6, c6, rfl, hr6, hc6, _, hb6⟩
  go_wp2_with fail
  go_loopw [5, 7] (fun v i wr => ∃ (k n c : Nat) (A : Option Addr) (l : List Int), k ≤ 64 ∧ i = .int .i64 k ∧ v = .slice A n c ∧ n ≤ 128 ∧ Bits l ∧ bv l = ((x * (y % 2 ^ k) : Nat) : Int) ∧ Reads wr wr.heap.size 1 A n (ints l) ∧ Below w1.heap.size w1 wr)
    (fun _ i _ => 64 - (intOf i).toNat)
  case atStart => exact ⟨0, 0, 0, none, [], Nat.zero_le _, rfl, rfl, by omega, by intro b hb; simp at hb, by simp [bv, Nat.mod_one], Reads.none_, Below.refl _ _⟩
  case round =>
    obtain ⟨k, n, c, A, l, hk, rfl, rfl, hn, hl, hv, hr, hbl⟩ := hrel
    by_cases hlt : k < 64
    · obtain ⟨ad, rfl, hadb, hc⟩ := int_at hr6 (k := k) hlt
      have hcr : wr.cell? (ad.add k) = some (.int .i64 ((bitsN 64 y).getD k 0)) := (hbl.cell (by rw [block_of_add]; exact hadb)).trans hc
      have hbit : (bitsN 64 y).getD k 0 = ((y / 2 ^ k % 2 : Nat) : Int) := by rw [List.getD_eq_getElem?_getD, bitsN_get 64 y k hlt]; rfl
      rw [hbit] at hcr
      have hms := mod_step y k
      have hst := mul_step x y k hx hlt
      obtain ⟨b, hb⟩ : ∃ b, y / 2 ^ k % 2 = b := ⟨_, rfl⟩
      have hb2 : b = 0 ∨ b = 1 := by omega
      rw [hb] at hcr hms
      clear hc hbit hb
      rcases hb2 with rfl | rfl
      · have HV : Hid (bv l = ((x * (y % 2 ^ (k + 1)) : Nat) : Int)) := by show _ = _; rw [hv, hms]; simp
        clear hv hms hst
        go_wp2_with fail
        go_roundw
        case rel => exact ⟨k + 1, n, c, A, l, by omega, by go_num, rfl, hn, hl, HV.out, hr, hbl⟩
        case measure => simp [intOf]; omega
      · have HV : Hid (bv (bitsN 128 (bv l + bv (List.replicate k 0 ++ bitsN 64 x)).toNat) = ((x * (y % 2 ^ (k + 1)) : Nat) : Int)) := by
          show _ = _; rw [hv, hst, hms, Nat.mul_one, Nat.mul_add]
        have HR := Lib.hid hr
        clear hv hms hst hr
        have B1 := Lib.hid (ref_bits' x hx wr)
        go_wp2_with fail
        refine B1.out.mono ?_
        rintro e w2 ⟨A2, c2, rfl, hr2, hc2, _, hb2⟩
        have S1 := Lib.hid (ref_shift A2 64 c2 k (bitsN 64 x) w2 hr2 (by omega) (by omega))
        go_wp2_with fail
        refine S1.out.mono ?_
        rintro e w3 ⟨A3, c3, rfl, hr3, hc3, _, hb3⟩
        have hr' := ((HR.out.below hb2).more hb2.size).below hb3 |>.more hb3.size
        have P1 := Lib.hid (ref_add' A A3 n (k + 64) c c3 l (List.replicate k 0 ++ bitsN 64 x) w3 hr' hr3 hl (bits_append (bits_zeros k) (bitsN_bits 64 x)) hn (by omega))
        go_wp2_with fail
        refine P1.out.mono ?_
        rintro e w4 ⟨A4, c4, rfl, hr4, hc4, _, hb4⟩
        have hbe : Below w1.heap.size w1 w4 := ((hbl.trans (hb2.mono hbl.size)).trans (hb3.mono (Nat.le_trans hbl.size hb2.size))).trans (hb4.mono (Nat.le_trans hbl.size (Nat.le_trans hb2.size hb3.size)))
        clear hcr hr2 hr3 hr' hb2 hb3 hb4 hbl
        go_wp2_with fail
        go_roundw
        case rel => exact ⟨k + 1, 128, c4, A4, _, by omega, by go_num, rfl, by omega, bitsN_bits _ _, HV.out, hr4, hbe⟩
        case measure => simp [intOf]; omega
    · have hk64 : k = 64 := by omega
      subst hk64
      have e1 : (bv l + bv []).toNat = x * y := by
        rw [hv, show y % 2 ^ 64 = y from Nat.mod_eq_of_lt (by omega)]
        show (((x * y : Nat) : Int) + 0).toNat = x * y
        rw [Int.add_zero, Int.toNat_natCast]
      have P1 := ref_add' A none n 0 c 0 l [] wr hr Reads.none_ hl (by intro b hb; simp at hb) hn (by omega)
      rw [e1] at P1
      have P2 := Lib.hid P1
      clear P1 e1 hv
      go_wp2_with fail
      refine P2.out.mono ?_
      rintro e w4 ⟨A4, c4, rfl, hr4, hc4, hc4', hb4⟩
      go_wp2_with fail
      go_ret
      exact Gives.from_ ⟨A4, c4, rfl, hr4, hc4, hc4', hb4⟩ (hb6.trans (hbl.mono hb6.size))

/-- Two, of what Gives 128 bits. -/
theorem ref_two' (A : Option Addr) (c z : Nat) (w : World) (hr : Reads w w.heap.size 1 A 128 (ints (bitsN 128 z))) (hc : 128 ≤ c) (hc' : c ≤ 9223372036854775807) (hi lo : Int)
    (h1 : ((z / 18446744073709551616 % 18446744073709551616 : Nat) : Int) = hi) (h2 : ((z % 18446744073709551616 : Nat) : Int) = lo) :
    Calls Tryd.prog 16 #[.slice A 128 c] w fun e w' => e = .returned (.tuple #[.int .u64 hi, .int .u64 lo]) ∧ ∃ n, w' = w.drewN n := by
  have h := ref_two A c z w hr hc hc'
  rw [h1, h2] at h
  exact h

set_option maxHeartbeats 2000000 in
/-- Sum: P1.1 as the reference has it. -/
theorem ref_sum (x y c : Nat) (hx : x < 18446744073709551616) (hy : y < 18446744073709551616) (hc : c < 18446744073709551616) (w : World) :
    Calls Tryd.prog 11 #[.int .u64 x, .int .u64 y, .int .u64 c] w fun e w' => e = .returned (.tuple #[.int .u64 (addLo x y c), .int .u64 (addHi x y c)]) ∧ Below w.heap.size w w' := by
  have B1 := Lib.hid (ref_bits' x hx w)
  have e1 : (bv (bitsN 64 x) + bv (bitsN 64 y)).toNat = x + y := by
    rw [bv_bitsN, bv_bitsN, show x % 2 ^ 64 = x from Nat.mod_eq_of_lt (by omega), show y % 2 ^ 64 = y from Nat.mod_eq_of_lt (by omega)]
    omega
  have E1 := Lib.hid e1
  have e2 : (bv (bitsN 128 (x + y)) + bv [(c : Int) % 2]).toNat = x + y + c % 2 := by
    rw [bv_bitsN, show (x + y) % 2 ^ 128 = x + y from Nat.mod_eq_of_lt (by omega)]
    simp only [bv]
    omega
  have E2 := Lib.hid e2
  have f1 : (((x + y + c % 2) / 18446744073709551616 % 18446744073709551616 : Nat) : Int) = addHi x y c := by unfold addHi; omega
  have f2 : (((x + y + c % 2) % 18446744073709551616 : Nat) : Int) = addLo x y c := by unfold addLo; omega
  have F1 := Lib.hid f1
  have F2 := Lib.hid f2
  clear e1 e2 f1 f2
  go_enter Tryd.func11, Tryd.ntmps11
  go_wp2_with fail
  refine B1.out.mono ?_
  rintro e w1 ⟨A1, c1, rfl, hr1, hc1, _, hb1⟩
  have B2 := Lib.hid (ref_bits' y hy w1)
  go_wp2_with fail
  refine B2.out.mono ?_
  rintro e w2 ⟨A2, c2, rfl, hr2, hc2, _, hb2⟩
  have P1 := ref_add' A1 A2 64 64 c1 c2 (bitsN 64 x) (bitsN 64 y) w2 ((hr1.below hb2).more hb2.size) hr2 (bitsN_bits _ _) (bitsN_bits _ _) (by omega) (by omega)
  rw [E1.out] at P1
  have P2 := Lib.hid P1
  clear P1
  go_wp2_with fail
  refine P2.out.mono ?_
  rintro e w3 ⟨A3, c3, rfl, hr3, hc3, _, hb3⟩
  have hr3' : Reads (w3.alloc (.cells #[.int .i64 ((c : Int) % 2)] 3)) (w3.alloc (.cells #[.int .i64 ((c : Int) % 2)] 3)).heap.size 1 A3 128 (ints (bitsN 128 (x + y))) :=
    (hr3.alloc (Nat.le_refl _) _).more (by simp)
  have hrc : Reads (w3.alloc (.cells #[.int .i64 ((c : Int) % 2)] 3)) (w3.alloc (.cells #[.int .i64 ((c : Int) % 2)] 3)).heap.size 1 (some ⟨w3.heap.size, 0, none⟩) 1 (ints [(c : Int) % 2]) :=
    ⟨rfl, fun _ => ⟨_, rfl, by simp, push_cells _ _ _⟩⟩
  have P3 := ref_add' A3 (some ⟨w3.heap.size, 0, none⟩) 128 1 c3 1 (bitsN 128 (x + y)) [(c : Int) % 2] _ hr3' hrc (bitsN_bits _ _) (by intro b hb; simp at hb; subst hb; unfold Bit; omega) (by omega) (by omega)
  rw [E2.out] at P3
  have P4 := Lib.hid P3
  clear P3 hr3' hrc
  go_wp2_with fail
  refine P4.out.mono ?_
  rintro e w4 ⟨A4, c4, rfl, hr4, hc4, hc4', hb4⟩
  have T := Lib.hid (ref_two' A4 c4 (x + y + c % 2) w4 hr4 hc4 hc4'.1 _ _ F1.out F2.out)
  have hall : Below w.heap.size w w4 := ((((hb1.trans (hb2.mono hb1.size)).trans (hb3.mono (Nat.le_trans hb1.size hb2.size))).alloc (Nat.le_trans hb1.size (Nat.le_trans hb2.size hb3.size)) _).trans (hb4.mono (by simp; have := hb1.size; have := hb2.size; have := hb3.size; omega)))
  clear hb1 hb2 hb3 hb4 hr1 hr2 hr3 hr4
  go_wp2_with fail
  refine T.out.mono ?_
  rintro e w5 ⟨rfl, n, rfl⟩
  go_wp2_with fail
  go_ret2
  exact ⟨rfl, below_drewN_ hall n⟩
end Go.Proofs.YtjdkpbfkkepaiaaDoor
