/-
  The contracts of the reference of the first stage (actuaryref01): what each call returns, in new memory. Conditions: the arguments are words, or lists of bits.
-/
import Derived.Test.YtjdkpbfkkepaiaaDoorWd4
import Derived.Test.YtjdkpbfkkepaiaaDoorBit
namespace Go.Proofs.YtjdkpbfkkepaiaaDoor
open Go Go.RowKit

abbrev ints (l : List Int) : List Value := l.map (Value.int .i64)
theorem info_int : (Tryd.prog.info? 3).map (fun i => (i.zero, i.size, i.bytes)) = some (some (.int .i64 0), 1, 8) := by kernel_rfl

set_option maxHeartbeats 1000000 in
theorem ref_bits (x : Nat) (hx : x < 18446744073709551616) (w : World) :
    Calls Tryd.prog 20 #[.int .u64 x] w fun e w' => ∃ v, e = .returned v ∧ w'.ownsRow w.heap.size 3 1 v 64 (ints (bitsN 64 x)) ∧ Below w.heap.size w w' := by
  obtain ⟨i0, hi0, hz0, hz1, hz2⟩ := info_parts info_int
  go_enter Tryd.func20, Tryd.ntmps20
  go_wp2
  go_loopw [0, 3, 4] (fun s v i wr => ∃ k : Nat, k ≤ 64 ∧ i = .int .i64 k ∧ s = .int .u64 ((x / 2 ^ k : Nat) : Int) ∧ wr.ownsRow w.heap.size 3 1 v k (ints (bitsN k x)) ∧ Below w.heap.size w wr)
    (fun _ _ i _ => 64 - (intOf i).toNat)
  case atStart => exact ⟨0, Nat.zero_le _, rfl, by simp, World.ownsRow_nil _ _ _ _, Below.refl _ _⟩
  case round =>
    obtain ⟨k, hk, rfl, rfl, hown, hb⟩ := hrel
    have hxk : x / 2 ^ k < 18446744073709551616 := Nat.lt_of_le_of_lt (Nat.div_le_self _ _) hx
    have HS := Lib.hid (bitsN_snoc k x)
    obtain ⟨y, hy⟩ : ∃ y, x / 2 ^ k = y := ⟨_, rfl⟩
    have HD : Hid (x / 2 ^ (k + 1) = y / 2) := by show _ = _; rw [Nat.pow_succ, ← Nat.div_div_eq_div_mul, hy]
    rw [hy] at HS hxk ⊢
    clear hy
    by_cases hlt : k < 64
    · go_wp2_with (at_builtin; refine wpList_append_own _ rfl _ _ 29 rfl w.heap.size 3 i0 (.int .i64 0) 1 8 Tryd.underlying29 hi0 hz0 hz1 hz2 rfl (by decide) _ _ _ rfl (hown.alloc _) ⟨wr.heap.size, 0, none⟩ 1 1 [.int .i64 ((y : Int) % 2)] rfl rfl (push_cells _ _ _) (push_one _ _) (by unfold maxLen; omega) (by omega) (by have := hb.size; simp; omega) ?_; intro v' w1 hown' hgrow _)
      have hb' : Below w.heap.size w w1 := (hb.alloc hb.size _).grown hgrow (by have := hb.size; simp; omega) (fun g hg => (hown.lt g hg).1)
      have hown2 : w1.ownsRow w.heap.size 3 1 v' (k + 1) (ints (bitsN (k + 1) x)) := by
        rw [HS.out]; simpa [ints] using hown'
      clear hown' hgrow hown hb
      go_wp2
      go_roundw
      case rel => exact ⟨k + 1, by omega, by go_num, by rw [HD.out]; go_num, hown2, hb'⟩
      case measure => simp [intOf]; omega
    · have hk64 : k = 64 := by omega
      subst hk64
      go_wp2
      go_ret
      exact ⟨_, rfl, hown, hb⟩

theorem pow_le (m k : Nat) (h : m ≤ k) : (2 : Int) ^ m ≤ 2 ^ k := by
  have := Nat.pow_le_pow_right (n := 2) (by decide) h
  exact_mod_cast this
set_option maxHeartbeats 1000000 in
/-- Word: the number of the first 64 bits. It only reads. -/
theorem ref_word (A : Option Addr) (n c : Nat) (l : List Int) (B : Nat) (w : World) (hr : Reads w B 1 A n (ints l)) (hl : Bits l) (hn : n ≤ 4611686018427387904) :
    Calls Tryd.prog 29 #[.slice A n c] w fun e w' => e = .returned (.int .u64 (bv (l.take 64))) ∧ w' = w := by
  have hlen : l.length = n := by simpa using hr.1
  go_enter Tryd.func29, Tryd.ntmps29
  go_wp2
  go_loop [3, 4] (fun s i => ∃ k : Nat, k ≤ 64 ∧ i = .int .i64 ((k : Int) - 1) ∧ s = .int .u64 (bv ((l.take 64).drop k)))
    (fun _ i => (intOf i + 1).toNat)
  case atStart => exact ⟨64, Nat.le_refl _, rfl, by rw [List.drop_of_length_le (by rw [List.length_take]; omega)]; rfl⟩
  case round =>
    obtain ⟨k, hk, rfl, rfl⟩ := hrel
    have hbits : Bits ((l.take 64).drop k) := fun b hb => hl b (List.mem_of_mem_take (List.mem_of_mem_drop hb))
    have hbd := bv_bd hbits
    have hlk : ((l.take 64).drop k).length ≤ 64 - k := by rw [List.length_drop, List.length_take]; omega
    by_cases hk0 : k = 0
    · subst hk0
      go_wp2
      go_ret
      simp
    · obtain ⟨j, rfl⟩ : ∃ j, k = j + 1 := ⟨k - 1, by omega⟩
      have hpow : (2 : Int) ^ ((l.take 64).drop (j + 1)).length ≤ 9223372036854775808 := by
        have : (2 : Int) ^ 63 = 9223372036854775808 := by decide
        rw [← this]
        exact pow_le _ _ (by omega)
      obtain ⟨s, hs⟩ : ∃ s, bv ((l.take 64).drop (j + 1)) = s := ⟨_, rfl⟩
      rw [hs] at hbd ⊢
      have s0 : 0 ≤ s := hbd.1
      have s1 : s < 9223372036854775808 := by omega
      clear hbd hpow hlk
      by_cases hjn : j < n
      · obtain ⟨ad, u, rfl, _, hu, hc⟩ := hr.at_ hjn
        have hx : l[j]? = some (l.getD j 0) := by rw [List.getD_eq_getElem?_getD, List.getElem?_eq_getElem (by omega)]; rfl
        have hxu : u = .int .i64 (l.getD j 0) := by
          simp only [ints, List.getElem?_map, hx, Option.map_some, Option.some.injEq] at hu
          exact hu.symm
        subst hxu
        have hb1 := hl (l.getD j 0) (by rw [List.mem_iff_getElem?]; exact ⟨j, hx⟩)
        obtain ⟨q0, q1⟩ := hb1
        have HS : Hid (bv ((l.take 64).drop j) = l.getD j 0 + 2 * s) := by
          show _ = _
          have : (l.take 64).drop j = l.getD j 0 :: (l.take 64).drop (j + 1) := by
            have h2 : (l.take 64)[j]? = some (l.getD j 0) := by rw [List.getElem?_take, if_pos (by omega), hx]
            rw [List.drop_eq_getElem_cons (List.getElem?_eq_some_iff.1 h2).1, (List.getElem?_eq_some_iff.1 h2).2]
          rw [this, bv, hs]
        obtain ⟨b, hbe⟩ : ∃ b, l.getD j 0 = b := ⟨_, rfl⟩
        rw [hbe] at HS hc q0 q1
        clear hbe hs hu hx
        go_wp2
        go_round
        case rel => exact ⟨j, by omega, by go_num, by rw [HS.out]; go_num⟩
        case measure => simp only [intOf]; omega
      · have HS : Hid (bv ((l.take 64).drop j) = 2 * s) := by
          have e1 : (l.take 64).drop (j + 1) = [] := List.drop_of_length_le (by rw [List.length_take]; omega)
          have e2 : (l.take 64).drop j = [] := List.drop_of_length_le (by rw [List.length_take]; omega)
          rw [e1] at hs; rw [e2, ← hs]; rfl
        clear hs
        go_wp2
        go_round
        case rel => exact ⟨j, by omega, by go_num, by rw [HS.out]; go_num⟩
        case measure => simp only [intOf]; omega

/-- A cell of a list of ints that is read. -/
theorem int_at {w : World} {B n : Nat} {A : Option Addr} {l : List Int} (hr : Reads w B 1 A n (ints l)) {k : Nat} (hk : k < n) : ∃ ad : Addr, A = some ad ∧ ad.block < B ∧ w.cell? (ad.add k) = some (.int .i64 (l.getD k 0)) := by
  have hlen : l.length = n := by simpa using hr.1
  obtain ⟨ad, u, e, hb, hu, hc⟩ := hr.at_ hk
  refine ⟨ad, e, hb, hc.trans ?_⟩
  rw [List.getD_eq_getElem?_getD, List.getElem?_eq_getElem (by omega)]
  simp only [ints, List.getElem?_map, List.getElem?_eq_getElem (show k < l.length by omega), Option.map_some, Option.some.injEq] at hu
  rw [← hu]; rfl

set_option maxRecDepth 100000 in
set_option maxHeartbeats 4000000 in
/-- Add: 128 bits. -/
theorem ref_add (A D : Option Addr) (n m c d : Nat) (a b : List Int) (w : World) (hA : Reads w w.heap.size 1 A n (ints a)) (hD : Reads w w.heap.size 1 D m (ints b)) (ha : Bits a) (hb : Bits b) (hn : n ≤ 128) (hm : m ≤ 128) :
    Calls Tryd.prog 19 #[.slice A n c, .slice D m d] w fun e w' => ∃ v, e = .returned v ∧ w'.ownsRow w.heap.size 3 1 v 128 (ints (bitsN 128 (bv a + bv b).toNat)) ∧ Below w.heap.size w w' := by
  obtain ⟨i0, hi0, hz0, hz1, hz2⟩ := info_parts info_int
  have HLA := Lib.hid (show a.length = n by simpa using hA.1)
  have HLB := Lib.hid (show b.length = m by simpa using hD.1)
  go_enter Tryd.func19, Tryd.ntmps19
  go_wp2
  go_loopw [5, 6, 7, 8] (fun v s i _ wr => ∃ (k : Nat) (out : List Int) (cc : Int), k ≤ 128 ∧ i = .int .i64 k ∧ s = .int .i64 cc ∧ AddAt a b k out cc ∧ wr.ownsRow w.heap.size 3 1 v k (ints out) ∧ Below w.heap.size w wr)
    (fun _ _ i _ _ => 128 - (intOf i).toNat)
  case atStart => exact ⟨0, [], 0, Nat.zero_le _, rfl, rfl, AddAt.start a b, World.ownsRow_nil _ _ _ _, Below.refl _ _⟩
  case round =>
    obtain ⟨k, out, cc, hk, rfl, rfl, hat, hown, hbl⟩ := hrel
    obtain ⟨z0, z1⟩ := hat.carry
    by_cases hlt : k < 128
    · have hba := getD_bit ha k
      have hbb := getD_bit hb k
      obtain ⟨x0, x1⟩ := hba
      obtain ⟨y0, y1⟩ := hbb
      have HAT := Lib.hid hat
      clear hat
      by_cases hkn : k < n
      · obtain ⟨ad, rfl, hadb, hc⟩ := int_at hA hkn
        have hca : wr.cell? (ad.add k) = some (.int .i64 (a.getD k 0)) := (hbl.cell (by rw [block_of_add]; exact hadb)).trans hc
        clear hc
        obtain ⟨x, hx⟩ : ∃ x, a.getD k 0 = x := ⟨_, rfl⟩
        rw [hx] at hca x0 x1
        have HX := Lib.hid hx
        clear hx
        by_cases hkm : k < m
        · obtain ⟨ae, rfl, haeb, hc⟩ := int_at hD hkm
          have hcb : wr.cell? (ae.add k) = some (.int .i64 (b.getD k 0)) := (hbl.cell (by rw [block_of_add]; exact haeb)).trans hc
          clear hc
          obtain ⟨y, hy⟩ : ∃ x, b.getD k 0 = x := ⟨_, rfl⟩
          rw [hy] at hcb y0 y1
          have HN := Lib.hid (HAT.out.step ha hb (s := cc + x + y) (by rw [HX.out, hy]))
          clear hy
          go_wp2_with (at_builtin; refine wpList_append_own _ rfl _ _ 29 rfl w.heap.size 3 i0 (.int .i64 0) 1 8 Tryd.underlying29 hi0 hz0 hz1 hz2 rfl (by decide) _ _ _ rfl (hown.alloc _) ⟨wr.heap.size, 0, none⟩ 1 1 [.int .i64 ((cc + x + y) % 2)] rfl rfl (push_cells _ _ _) (push_one _ _) (by unfold maxLen; omega) (by omega) (by have := hbl.size; simp; omega) ?_; intro v' w1 hown' hgrow _)
          have hb' : Below w.heap.size w w1 := (hbl.alloc hbl.size _).grown hgrow (by have := hbl.size; simp; omega) (fun g hg => (hown.lt g hg).1)
          have hown2 : w1.ownsRow w.heap.size 3 1 v' (k + 1) (ints (out ++ [(cc + x + y) % 2])) := by simpa [ints] using hown'
          clear hown' hgrow hown hbl hca hcb
          go_wp2
          go_roundw
          case rel => exact ⟨k + 1, _, _, by omega, by go_num, by go_num, HN.out, hown2, hb'⟩
          case measure => simp [intOf]; omega
        · have hy : b.getD k 0 = 0 := by rw [List.getD_eq_getElem?_getD, List.getElem?_eq_none (by have := HLB.out; omega)]; rfl
          have HN := Lib.hid (HAT.out.step ha hb (s := cc + x) (by rw [HX.out, hy]; omega))
          clear hy y0 y1
          go_wp2_with (at_builtin; refine wpList_append_own _ rfl _ _ 29 rfl w.heap.size 3 i0 (.int .i64 0) 1 8 Tryd.underlying29 hi0 hz0 hz1 hz2 rfl (by decide) _ _ _ rfl (hown.alloc _) ⟨wr.heap.size, 0, none⟩ 1 1 [.int .i64 ((cc + x) % 2)] rfl rfl (push_cells _ _ _) (push_one _ _) (by unfold maxLen; omega) (by omega) (by have := hbl.size; simp; omega) ?_; intro v' w1 hown' hgrow _)
          have hb' : Below w.heap.size w w1 := (hbl.alloc hbl.size _).grown hgrow (by have := hbl.size; simp; omega) (fun g hg => (hown.lt g hg).1)
          have hown2 : w1.ownsRow w.heap.size 3 1 v' (k + 1) (ints (out ++ [(cc + x) % 2])) := by simpa [ints] using hown'
          clear hown' hgrow hown hbl hca
          go_wp2
          go_roundw
          case rel => exact ⟨k + 1, _, _, by omega, by go_num, by go_num, HN.out, hown2, hb'⟩
          case measure => simp [intOf]; omega
      · have hx : a.getD k 0 = 0 := by rw [List.getD_eq_getElem?_getD, List.getElem?_eq_none (by have := HLA.out; omega)]; rfl
        have HX := Lib.hid hx
        clear hx x0 x1
        by_cases hkm : k < m
        · obtain ⟨ae, rfl, haeb, hc⟩ := int_at hD hkm
          have hcb : wr.cell? (ae.add k) = some (.int .i64 (b.getD k 0)) := (hbl.cell (by rw [block_of_add]; exact haeb)).trans hc
          clear hc
          obtain ⟨y, hy⟩ : ∃ x, b.getD k 0 = x := ⟨_, rfl⟩
          rw [hy] at hcb y0 y1
          have HN := Lib.hid (HAT.out.step ha hb (s := cc + y) (by rw [HX.out, hy]; omega))
          clear hy
          go_wp2_with (at_builtin; refine wpList_append_own _ rfl _ _ 29 rfl w.heap.size 3 i0 (.int .i64 0) 1 8 Tryd.underlying29 hi0 hz0 hz1 hz2 rfl (by decide) _ _ _ rfl (hown.alloc _) ⟨wr.heap.size, 0, none⟩ 1 1 [.int .i64 ((cc + y) % 2)] rfl rfl (push_cells _ _ _) (push_one _ _) (by unfold maxLen; omega) (by omega) (by have := hbl.size; simp; omega) ?_; intro v' w1 hown' hgrow _)
          have hb' : Below w.heap.size w w1 := (hbl.alloc hbl.size _).grown hgrow (by have := hbl.size; simp; omega) (fun g hg => (hown.lt g hg).1)
          have hown2 : w1.ownsRow w.heap.size 3 1 v' (k + 1) (ints (out ++ [(cc + y) % 2])) := by simpa [ints] using hown'
          clear hown' hgrow hown hbl hcb
          go_wp2
          go_roundw
          case rel => exact ⟨k + 1, _, _, by omega, by go_num, by go_num, HN.out, hown2, hb'⟩
          case measure => simp [intOf]; omega
        · have hy : b.getD k 0 = 0 := by rw [List.getD_eq_getElem?_getD, List.getElem?_eq_none (by have := HLB.out; omega)]; rfl
          have HN := Lib.hid (HAT.out.step ha hb (s := cc) (by rw [HX.out, hy]; omega))
          clear hy y0 y1
          go_wp2_with (at_builtin; refine wpList_append_own _ rfl _ _ 29 rfl w.heap.size 3 i0 (.int .i64 0) 1 8 Tryd.underlying29 hi0 hz0 hz1 hz2 rfl (by decide) _ _ _ rfl (hown.alloc _) ⟨wr.heap.size, 0, none⟩ 1 1 [.int .i64 ((cc) % 2)] rfl rfl (push_cells _ _ _) (push_one _ _) (by unfold maxLen; omega) (by omega) (by have := hbl.size; simp; omega) ?_; intro v' w1 hown' hgrow _)
          have hb' : Below w.heap.size w w1 := (hbl.alloc hbl.size _).grown hgrow (by have := hbl.size; simp; omega) (fun g hg => (hown.lt g hg).1)
          have hown2 : w1.ownsRow w.heap.size 3 1 v' (k + 1) (ints (out ++ [(cc) % 2])) := by simpa [ints] using hown'
          clear hown' hgrow hown hbl
          go_wp2
          go_roundw
          case rel => exact ⟨k + 1, _, _, by omega, by go_num, by go_num, HN.out, hown2, hb'⟩
          case measure => simp [intOf]; omega
    · have hk128 : k = 128 := by omega
      subst hk128
      have hd := hat.done (by have := HLA.out; omega) (by have := HLB.out; omega)
      have HD := Lib.hid hd
      clear hd hat
      go_wp2
      go_ret
      exact ⟨_, rfl, by rw [← HD.out]; exact hown, hbl⟩

/-- Two: the high word, the low word, of 128 bits. -/
theorem ref_two (A : Option Addr) (c z : Nat) (w : World) (hr : Reads w w.heap.size 1 A 128 (ints (bitsN 128 z))) (hc : 128 ≤ c) (hc' : c ≤ 9223372036854775807) :
    Calls Tryd.prog 16 #[.slice A 128 c] w fun e w' => e = .returned (.tuple #[.int .u64 ((z / 18446744073709551616 % 18446744073709551616 : Nat) : Int), .int .u64 ((z % 18446744073709551616 : Nat) : Int)]) ∧ ∃ n, w' = w.drewN n := by
  have hcut := hr.cut (k := 64) (by omega) hc
  have hlow : Reads w w.heap.size 1 A 64 (ints (bitsN 64 z)) := by
    refine ⟨by simp [bitsN_length], fun _ => ?_⟩
    obtain ⟨ad, e, hb, hcell⟩ := hr.2 (by omega)
    refine ⟨ad, e, hb, fun j u hu => hcell j u ?_⟩
    rw [← bitsN_take 64 64 z, ints, List.map_take, List.getElem?_take] at hu
    split at hu
    · exact hu
    · cases hu
  have e1 : (ints (bitsN 128 z)).drop (64 * 1) = ints (bitsN 64 (z / 2 ^ 64)) := by
    rw [ints, ← List.map_drop, bitsN_drop 64 64 z]
  rw [e1] at hcut
  obtain ⟨ad, rfl, hb, _⟩ := hr.2 (by omega)
  rw [if_neg (by omega)] at hcut
  have ea : ad.add 64 = { block := ad.block, off := ad.off + 64 } := by simp [Addr.add]
  simp only [Option.map_some, Nat.mul_one, ea] at hcut
  have v1 : bv ((bitsN 64 (z / 2 ^ 64)).take 64) = ((z / 18446744073709551616 % 18446744073709551616 : Nat) : Int) := by
    rw [List.take_of_length_le (by rw [bitsN_length]; omega), bv_bitsN]
  have v2 : bv ((bitsN 64 z).take 64) = ((z % 18446744073709551616 : Nat) : Int) := by
    rw [List.take_of_length_le (by rw [bitsN_length]; omega), bv_bitsN]
  have W1 := Lib.hid (fun n => ref_word _ 64 (c - 64) (bitsN 64 (z / 2 ^ 64)) _ (w.drewN n) (hcut.drewN n) (bitsN_bits _ _) (by omega))
  have W2 := Lib.hid (fun n => ref_word _ 64 c (bitsN 64 z) _ (w.drewN n) (hlow.drewN n) (bitsN_bits _ _) (by omega))
  rw [v1] at W1
  rw [v2] at W2
  have hcne : ¬ c = 64 := by omega
  clear hcut hlow e1 v1 v2 hr ea
  go_enter Tryd.func16, Tryd.ntmps16
  go_wp2
  go_quiet ((go_at_call 29; first | (with_reducible exact Calls.quiet_of_same (W1.out _)) | (with_reducible exact Calls.quiet_of_same (W2.out _))))
  go_wp2
  go_ret2
  exact ⟨rfl, _, rfl⟩
end Go.Proofs.YtjdkpbfkkepaiaaDoor
