/-
  The walk of the law ProdShifts. Conditions: the words that came in are words, at most 1048576 of them; TrailingZeros64's table reads as its initialiser lays it.
-/
import Derived.Test.YtonjhcmppiioeaaDoorRows
import Derived.Test.YtonjhcmppiioeaaDoorW3Awake
import Derived.Test.YtonjhcmppiioeaaDoorP3D
import Derived.Test.YtonjhcmppiioeaaDoorNBits
import Derived.Test.YtonjhcmppiioeaaDoorNTold
import Derived.Test.YtonjhcmppiioeaaDoorNShl
import Derived.WalkKit
import Derived.Lib.Hide
import Derived.Outline
import Derived.Deep.RegionHeld3
import Derived.IntWalk
namespace Go.Proofs.YtonjhcmppiioeaaDoor
open Go Go.RowKit
set_option maxRecDepth 100000
set_option linter.unusedVariables false
set_option linter.unusedSimpArgs false
theorem bitLen_two (q : Nat) : bitLen (2 ^ q) = q + 1 := bitLen_of _ q (Nat.le_refl _) (by rw [Nat.pow_succ]; have := Nat.two_pow_pos q; omega)
theorem two_sz {K q : Nat} (h : q < 64 * K) : Sz K (2 ^ q) := by
  unfold Sz
  rw [show (18446744073709551616 : Nat) = 2 ^ 64 from rfl, ← Nat.pow_mul]
  exact (Nat.pow_lt_pow_iff_right (by decide)).2 h
theorem twos_two (q : Nat) : twosN (2 ^ q) = q := (tw_of (x := 2 ^ q) (t := q) (m := 0) (by omega)).symm
set_option maxHeartbeats 16000000 in
theorem prodShifts_walk (A0 : Option Addr) (n0 c0 : Nat) (l0 : List Nat) (a1 : Int) (w : World) (h0 : ArgWords w A0 n0 c0 l0) (hk : 0 ≤ a1 ∧ a1 ≤ 65535) (hT : TabAt w) :
    Calls Tryd.prog 3 #[.slice A0 n0 c0, .int .u16 a1] w fun e w' => e = .returned (.bool true) ∧ Below w.heap.size w w' := by
  obtain ⟨K, hK⟩ : ∃ K, 1048576 = K := ⟨_, rfl⟩
  have O0 := arg_of h0
  have S0 := arg_sz h0
  rw [hK] at S0
  have hK2 : K ≤ 1048576 := by omega
  obtain ⟨x, hx0⟩ : ∃ v, dv 18446744073709551616 l0 = v := ⟨_, rfl⟩
  rw [hx0] at O0 S0
  have HO0 := Lib.hid O0
  have HS0 := Lib.hid S0
  have HTB := Lib.hid (fun w' (h : Below w.heap.size w w') => hT.on h)
  obtain ⟨kn, rfl⟩ : ∃ k : Nat, a1 = (k : Int) := ⟨a1.toNat, by omega⟩
  obtain ⟨q, hq⟩ : ∃ q, kn % 300 = q := ⟨_, rfl⟩
  have hq1 : q < 300 := by omega
  have hqi : (kn : Int) % 300 = (q : Int) := by omega
  have hqt : (kn : Int).tmod 300 = (q : Int) := by rw [Int.tmod_eq_emod_of_nonneg (by omega)]; exact hqi
  clear hT hq hk hK O0 S0 h0 hx0
  go_enter Tryd.func3, Tryd.ntmps3
  go_wp2_with fail
  refine (law3_awake prodC _).mono ?_
  rintro e w1 ⟨rfl, hB⟩
  go_wp2_with fail
  refine (HO0.out _ hB).mono ?_
  rintro e wc1 ⟨Bx, mx, dx, rfl, hw0, hb, _⟩
  have hB := keep_below hB hb
  have HNx := Lib.hid hw0
  clear hb hw0
  have st := up_alloc wc1 (.cells #[.slice Bx mx dx] 26)
  have hB := keep_below hB st
  have HNx := Lib.hid (HNx.out.below st)
  have gx : (wc1.alloc (.cells #[.slice Bx mx dx] 26)).cell? ⟨wc1.heap.size, 0, none⟩ = some (.slice Bx mx dx) := (Blk.new wc1 _ _).cell 0
  clear st
  have hsz : (wc1.alloc (.cells #[.slice Bx mx dx] 26)).heap.size = wc1.heap.size + 1 := by simp
  go_wp2_with fail
  generalize (wc1.alloc (.cells #[.slice Bx mx dx] 26)) = W2 at *
  generalize wc1.heap.size = px at *
  generalize hW : W2.alloc (.cells #[.int .u64 2] 30) = V3
  obtain ⟨b1, b3, b5⟩ := box1 W2 30 #[.int .u64 2]
  rw [hW] at b1 b3 b5
  clear hW
  rw [hsz] at b3
  clear hsz
  refine (of_lits _ [2] V3 _ 1 2 b3 rfl rfl (dgs1 2 (by decide)) rfl (by decide)).mono ?_
  rintro e wc3 ⟨Bt, mt, dt, rfl, hw0, hb, _⟩
  have hb := up2 b1 hb
  have hB := keep_below hB hb
  have HNx := Lib.hid (HNx.out.below hb)
  have gx := keep_cell hb gx
  have HNt := Lib.hid hw0
  clear hb hw0 b1 b3 b5
  obtain rfl : mt = 1 := len_of HNt.out two_dg
  go_wp2_with fail
  refine (prodC.powYes 2 q Bt 1 dt _ HNt.out (by decide) (by omega) (.inr (by rw [two_bits]; omega))).mono ?_
  rintro e wc4 ⟨Bp, mp, dp, rfl, hw0, hb, _⟩
  have hB := keep_below hB hb
  have HNx := Lib.hid (HNx.out.below hb)
  have gx := keep_cell hb gx
  have HNt := Lib.hid (HNt.out.below hb)
  have HNp := Lib.hid hw0
  clear hb hw0
  clear HNt
  have st := up_alloc wc4 (.cells #[.slice Bp mp dp] 26)
  have hB := keep_below hB st
  have HNx := Lib.hid (HNx.out.below st)
  have gx := keep_cell st gx
  have HNp := Lib.hid (HNp.out.below st)
  have gp : (wc4.alloc (.cells #[.slice Bp mp dp] 26)).cell? ⟨wc4.heap.size, 0, none⟩ = some (.slice Bp mp dp) := (Blk.new wc4 _ _).cell 0
  clear st
  go_wp2_with fail
  generalize (wc4.alloc (.cells #[.slice Bp mp dp] 26)) = W5 at *
  generalize wc4.heap.size = pp at *
  have hmx := HS0.out.words HNx.out
  refine (nat_shl x q Bx mx dx _ HNx.out (by omega) (by omega)).mono ?_
  rintro e wc6 ⟨Bs, ms, ds, rfl, hw0, hb, _⟩
  have hB := keep_below hB hb
  have HNx := Lib.hid (HNx.out.below hb)
  have gx := keep_cell hb gx
  have HNp := Lib.hid (HNp.out.below hb)
  have gp := keep_cell hb gp
  have HNs := Lib.hid hw0
  clear hb hw0
  have st := up_alloc wc6 (.cells #[.slice Bs ms ds] 26)
  have hB := keep_below hB st
  have HNx := Lib.hid (HNx.out.below st)
  have gx := keep_cell st gx
  have HNp := Lib.hid (HNp.out.below st)
  have gp := keep_cell st gp
  have HNs := Lib.hid (HNs.out.below st)
  have gs : (wc6.alloc (.cells #[.slice Bs ms ds] 26)).cell? ⟨wc6.heap.size, 0, none⟩ = some (.slice Bs ms ds) := (Blk.new wc6 _ _).cell 0
  clear st
  go_wp2_with fail
  generalize (wc6.alloc (.cells #[.slice Bs ms ds] 26)) = W7 at *
  generalize wc6.heap.size = ps at *
  have hP : Sz 6 (2 ^ q) := two_sz (by omega)
  have hmp := hP.words HNp.out
  have C1 := Lib.hid (fun w' (h : Below W7.heap.size W7 w') => prod_mul x (2 ^ q) Bx Bp mx mp dx dp w' (HNx.out.below h) (HNp.out.below h) (by omega) (by omega))
  have C2 := Lib.hid (fun w' (h : Below W7.heap.size W7 w') A' n' c' (hw : WordsIn w' (x * 2 ^ q) A' n' c') => cmp_same (K := K + 6) (HS0.out.mul hP) (Nat.mul_comm x (2 ^ q)) (by omega) hw (HNs.out.below h))
  have C3 := (fun w' (h : Below W7.heap.size W7 w') => nat_bits (2 ^ q) Bp mp dp w' (HNp.out.below h) (by omega))
  have C4 := (fun w' (h : Below W7.heap.size W7 w') => nat_twos (2 ^ q) Bp mp dp w' (HNp.out.below h) (by omega) (HTB.out _ (keep_below hB h)))
  rw [bitLen_two] at C3
  rw [twos_two] at C4
  have e1 : ((q + 1 : Nat) : Int) = (q : Int) + 1 := by omega
  rw [e1] at C3
  have hC3 := Lib.hid C3
  have hC4 := Lib.hid C4
  have z1 : IntKind.i64.wrap ((q : Int) + 1) = (q : Int) + 1 := IntWalk.i64_in _ (by omega)
  clear C3 C4 e1 hP
  have hb0 : Below W7.heap.size W7 W7.drew := (Below.refl _ W7).drew
  have j0 : W7.drew.cell? ⟨px, 0, none⟩ = some (.slice Bx mx dx) := gx
  have j1 : W7.drew.cell? ⟨pp, 0, none⟩ = some (.slice Bp mp dp) := gp
  have j2 : W7.drew.cell? ⟨ps, 0, none⟩ = some (.slice Bs ms ds) := gs
  go_region_held3 (fun w' => Below W7.heap.size W7 w' ∧ w'.cell? ⟨px, 0, none⟩ = some (.slice Bx mx dx) ∧ w'.cell? ⟨pp, 0, none⟩ = some (.slice Bp mp dp) ∧ w'.cell? ⟨ps, 0, none⟩ = some (.slice Bs ms ds))
    (first | (exact ⟨hb0, j0, j1, j2⟩) | (go_split_ands; refine ⟨?_, ?_, ?_, ?_⟩; all_goals (first | with_reducible assumption | exact keep_below (by with_reducible assumption) hb | exact keep_cell hb (by with_reducible assumption) | exact keep_below_alloc _ (by with_reducible assumption) | exact keep_cell_alloc _ (by with_reducible assumption))))
    (first
      | (go_at_call 9; (with_reducible refine (C1.out _ (by first | with_reducible assumption | exact And.left (by with_reducible assumption))).mono ?_); rintro e w' ⟨A1, n1, c1, rfl, hw1, hb, _⟩)
      | (go_at_call 8; (with_reducible refine (C2.out _ (by first | with_reducible assumption | exact And.left (by with_reducible assumption)) _ _ _ hw1).mono ?_); rintro e w' ⟨rfl, hb⟩)
      | (go_at_call 10; (with_reducible refine (hC3.out _ (by first | with_reducible assumption | exact And.left (by with_reducible assumption))).mono ?_); rintro e w' ⟨rfl, hb⟩)
      | (go_at_call 11; (with_reducible refine (hC4.out _ (by first | with_reducible assumption | exact And.left (by with_reducible assumption))).mono ?_); rintro e w' ⟨rfl, hb⟩))
  rename_i hH
  obtain ⟨hb7, _, _, _⟩ := hH
  have hB := keep_below hB hb7
  clear hb hb0 hb7
  go_wp2
  go_ret
  exact ⟨by first | rfl | simp, hB⟩
end Go.Proofs.YtonjhcmppiioeaaDoor
