/-
  The contract of digits' Parse: the number of some bytes. Conditions: the bytes read; there are up to 2 to the 38.
-/
import Derived.Test.YtnnhcicdildfaaaRows
import Derived.Test.YtnnhcicdildfaaaH6Small
import Derived.Test.YtnnhcicdildfaaaH6Math
import Derived.Test.YtnnhcicdildfaaaP6C
import Derived.Test.YtnnhcicdildfaaaNWrap
import Derived.WalkKit
import Derived.Lib.Hide
import Derived.Outline
import Derived.LoopTactic
import Derived.Deep.LoopGhost
import Derived.IntWalk
import Derived.RegionTactic
import Derived.Laws.Bits64b
namespace Go.Proofs.Ytnnhcicdildfaaa
open Go Go.RowKit
set_option maxRecDepth 100000
set_option linter.unusedVariables false
set_option linter.unusedSimpArgs false
theorem shl_byte {d p : Nat} (hd : d < 256) (hp : p < 8) : IntKind.u64.wrap ((d : Int) * 2 ^ (p * 8)) = ((2 ^ (8 * p) * d : Nat) : Int) := by
  have h3 : 2 ^ (8 * p) * 256 ≤ 18446744073709551616 := by
    rw [show (256 : Nat) = 2 ^ 8 from rfl, ← Nat.pow_add]
    exact Nat.le_trans (Nat.pow_le_pow_right (by decide) (show 8 * p + 8 ≤ 64 by omega)) (by decide)
  have h2 : 2 ^ (8 * p) * (d + 1) ≤ 2 ^ (8 * p) * 256 := Nat.mul_le_mul_left _ hd
  have h4 := Nat.two_pow_pos (8 * p)
  rw [Nat.mul_add] at h2
  have e : (d : Int) * 2 ^ (p * 8) = ((2 ^ (8 * p) * d : Nat) : Int) := by rw [Nat.mul_comm p 8, Nat.mul_comm (2 ^ (8 * p)) d]; simp
  rw [e, wrap_u64n, Nat.mod_eq_of_lt (by omega)]
theorem or_byte {a d p : Nat} (ha : a < 2 ^ (8 * p)) (hd : d < 256) (hp : p < 8) : bits .or .u64 (a : Int) ((2 ^ (8 * p) * d : Nat) : Int) = ((2 ^ (8 * p) * d + a : Nat) : Int) := by
  have h3 : 2 ^ (8 * p) * 256 ≤ 18446744073709551616 := by
    rw [show (256 : Nat) = 2 ^ 8 from rfl, ← Nat.pow_add]
    exact Nat.le_trans (Nat.pow_le_pow_right (by decide) (show 8 * p + 8 ≤ 64 by omega)) (by decide)
  have h2 : 2 ^ (8 * p) * (d + 1) ≤ 2 ^ (8 * p) * 256 := Nat.mul_le_mul_left _ hd
  rw [Nat.mul_add] at h2
  exact or_u64' ha (by omega)
theorem parse_no (l : List Nat) (A : Option Addr) (n c : Nat) (w : World) (hr : Reads w w.heap.size 1 A n (vals .u8 l)) (hd : Dgs 256 l) (hp : plainL l = false) :
    Calls Try.prog 17 #[.slice A n c] w (GivesNB w 0 false) := by
  obtain ⟨hB, b2, b5⟩ := box1 w 25 #[.slice none 0 0]
  have HP := Lib.hid (digits_plain l A n c _ (((hr.below hB).more (by simp)) : Reads (w.alloc (.cells #[.slice none 0 0] 25)) _ 1 A n (vals .u8 l)) hd)
  rw [hp] at HP
  clear hr hd hp
  go_enter Try.func17, Try.ntmps17
  go_wp2_with fail
  refine HP.out.mono ?_
  rintro e w1 ⟨rfl, rfl⟩
  clear HP b5
  generalize w.alloc (.cells #[.slice none 0 0] 25) = W at *
  have c1 := b2.cell 0
  have f1 := b2.frozen 0
  have p4 : Blk1 W w.heap.size (.slice none 0 0) := ⟨_, b2⟩
  have r4 := (p4.set_ (.slice none 0 0)).cell
  have HG : Hid (Below w.heap.size w (W.setCell ⟨w.heap.size, 0, none⟩ (.slice none 0 0))) := hB.setCell (Nat.le_refl _) _
  clear b2 p4 hB
  go_wp2
  refine bodyPost_ret (v := .tuple #[.agg #[.slice none 0 0], .bool false]) (by simp [results, Try.results17, go_sem, r4]) rfl ?_
  exact ⟨none, 0, 0, rfl, words_zero _, HG.out⟩
set_option maxHeartbeats 4000000 in
theorem parse_yes (l : List Nat) (A : Option Addr) (n c : Nat) (w : World) (hr : Reads w w.heap.size 1 A n (vals .u8 l)) (hd : Dgs 256 l) (hp : plainL l = true) (hn : n ≤ 274877906944) :
    Calls Try.prog 17 #[.slice A n c] w (GivesNB w (valP l) true) := by
  obtain ⟨i0, hi0, hz0, hz1, hz2⟩ := info_parts infoU
  obtain ⟨hB, b2, b5⟩ := box1 w 25 #[.slice none 0 0]
  have HP := Lib.hid (digits_plain l A n c _ (((hr.below hB).more (by simp)) : Reads (w.alloc (.cells #[.slice none 0 0] 25)) _ 1 A n (vals .u8 l)) hd)
  rw [hp] at HP
  have HR := Lib.hid (fun (k : Nat) (hk : k < n) w' (h : Below w.heap.size w w') => val_at (hr.below h) hk)
  have HL := Lib.hid hr.len_
  have HD := Lib.hid (fun k => hd.getD (by decide) k)
  have HTL := Lib.hid (tailP_lt hd)
  have HTS := Lib.hid (fun k (hk : k < l.length) => tailP_step hk)
  have HTA : Hid (tailP l n = valP l) := by show _ = _; rw [← hr.len_]; exact tailP_all l
  obtain ⟨K, hK⟩ : ∃ K, (n + 7) / 8 = K := ⟨_, rfl⟩
  have HVW : Hid (valP l < 18446744073709551616 ^ K) := by
    show _ < _
    rw [← HTA.out]
    refine Nat.lt_of_lt_of_le (tailP_lt hd n) ?_
    rw [p256, p64]
    exact Nat.pow_le_pow_right (by decide) (by omega)
  obtain ⟨Z, hZ⟩ : ∃ Z, madeCells (Value.cells (.int .u64 0)) (K * i0.size) = Z := ⟨_, rfl⟩
  have hmk : ∀ W : World, (Instr.makeSlice 22 (.int .i64 (K : Int)) (.int .i64 (K : Int))).run Try.prog W = .ok (.slice (some ⟨W.heap.size, 0, none⟩) K K) (W.alloc (.cells Z 50)) := fun W => by
    rw [← hZ]; exact run_make_rowN _ _ i0 _ Try.underlying22 hi0 hz0 _ _ K K (Nat.le_refl _) (by rw [hz2]; omega) (by omega) W
  have HM : Hid (∀ W : World, Row64 (W.alloc (.cells Z 50)) 50 W.heap.size K K (List.replicate K 0)) := fun W => by
    have h := Row64.made W 50 K (by unfold maxLen; omega)
    rw [← hZ, hz1, Nat.mul_one]
    exact h
  have e0 : ((n : Int) + 8 - 1) / 8 = (K : Int) := by omega
  have HK : Hid (∀ k, k < n → k / 8 < K) := fun k hk => by omega
  have hKn : K ≤ n + 7 := by omega
  clear hr hd hp hZ hK
  go_enter Try.func17, Try.ntmps17
  go_wp2_with fail
  refine HP.out.mono ?_
  rintro e w1 ⟨rfl, rfl⟩
  clear HP b5
  generalize w.alloc (.cells #[.slice none 0 0] 25) = W at *
  go_wp2
  clear hmk e0
  have hR := HM.out W
  have hB2 := hB.alloc hB.size (.cells Z 50)
  have hk2 := b2.alloc (.cells Z 50)
  have hsz := hB.size
  have hlt1 := b2.lt
  generalize W.alloc (.cells Z 50) = W2 at *
  obtain ⟨r, hr⟩ : ∃ r, W.heap.size = r := ⟨_, rfl⟩
  rw [hr] at hR hsz hlt1 ⊢
  have HF : Hid (HoldsW (List.replicate K 0) K (tailP l 0)) := HoldsW.start K
  clear HM hr b2 hB
  go_loopg [18] (n + 1) (fun g i wr => ∃ (k : Nat) (L : List Nat), k ≤ n ∧ n < g + k ∧ i = .int .i64 k ∧ Hid (HoldsW L K (tailP l k)) ∧ Row64 wr 50 r K K L ∧ Below w.heap.size w wr ∧ Blk wr w.heap.size 25 #[.slice none 0 0])
  case atStart => exact ⟨0, _, Nat.zero_le _, by omega, rfl, HF, hR, hB2, hk2⟩
  case round =>
    clear HF hR hB2 hk2
    obtain ⟨k, L, hkN, hg, rfl, HF, hR, hB, hk⟩ := hrel
    have i1 : (0 : Int) ≤ (k : Int) := by omega
    by_cases hlt : k < n
    · have i2 : (k : Int) < (n : Int) := by omega
      have HST0 := HF.out.step (HTL.out k) (HD.out (n - 1 - k)) (HK.out k hlt)
      have hts := HTS.out k (by rw [HL.out]; exact hlt)
      rw [HL.out] at hts
      rw [← hts] at HST0
      have HST := Lib.hid HST0
      have hrm := wd_room (HTL.out k)
      rw [← HF.out.2 _ (HK.out k hlt)] at hrm
      have hqK := HK.out k hlt
      obtain ⟨ad, rfl, hadb, c2⟩ := HR.out (n - 1 - k) (by omega) wr hB
      have hdl := HD.out (n - 1 - k)
      have hix : (n : Int) - 1 - (k : Int) = ((n - 1 - k : Nat) : Int) := by omega
      obtain ⟨j, hj⟩ : ∃ j, n - 1 - k = j := ⟨_, rfl⟩
      rw [hj] at HST hix c2 hdl
      have hjn : j < n := by omega
      obtain ⟨d, hd⟩ : ∃ d, l.getD j 0 = d := ⟨_, rfl⟩
      rw [hd] at HST c2 hdl
      obtain ⟨q, hq⟩ : ∃ q, k / 8 = q := ⟨_, rfl⟩
      obtain ⟨p, hp⟩ : ∃ q, k % 8 = q := ⟨_, rfl⟩
      have hp8 : p < 8 := by omega
      rw [hq] at HST hrm hqK
      rw [hp] at HST hrm
      have c1 := hR.cell q hqK
      have f1 := hR.frozen q
      obtain ⟨a, ha⟩ : ∃ a, L.getD q 0 = a := ⟨_, rfl⟩
      rw [ha] at HST hrm c1
      have or1 := or_byte hrm hdl hp8
      have sh1 := shl_byte hdl hp8
      obtain ⟨Y, hY⟩ : ∃ y, 2 ^ (8 * p) * d = y := ⟨_, rfl⟩
      rw [hY] at HST or1 sh1
      obtain ⟨V, hV⟩ : ∃ y, Y + a = y := ⟨_, rfl⟩
      rw [hV] at HST or1
      have e1 : (k : Int) / 8 = (q : Int) := by omega
      have e2 : (k : Int) % 8 = (p : Int) := by omega
      have e3 : (k : Int).tdiv 8 = (q : Int) := by rw [Int.tdiv_eq_ediv_of_nonneg (by omega)]; exact e1
      have e4 : (k : Int).tmod 8 = (p : Int) := by rw [Int.tmod_eq_emod_of_nonneg (by omega)]; exact e2
      have e5 : IntKind.i64.wrap ((n : Int) - 1) = (n : Int) - 1 := IntWalk.i64_in _ (by omega)
      have e6 : IntKind.i64.wrap (j : Int) = (j : Int) := IntWalk.i64_in _ (by omega)
      have e7 : IntKind.i64.wrap ((p : Int) * 8) = (p : Int) * 8 := IntWalk.i64_in _ (by omega)
      have e8 : ((p : Int) * 8).toNat = p * 8 := by omega
      have e9 : IntKind.u64.wrap (d : Int) = (d : Int) := by simp [IntKind.wrap, IntKind.bits, IntKind.signed]; omega
      have e10 : IntKind.i64.wrap (q : Int) = (q : Int) := IntWalk.i64_in _ (by omega)
      have e11 : IntKind.i64.wrap (p : Int) = (p : Int) := IntWalk.i64_in _ (by omega)
      have j1 : (0 : Int) ≤ (q : Int) := by omega
      have j2 : (q : Int) < (K : Int) := by omega
      have j3 : (0 : Int) ≤ (j : Int) := by omega
      have j4 : (j : Int) < (n : Int) := by omega
      have j5 : (0 : Int) ≤ (p : Int) * 8 := by omega
      have j6 : p * 8 < 64 := by omega
      have HR2 := Lib.hid (hR.set_ q V hqK)
      have HB2 := Lib.hid (hB.setCell (p := ⟨r, q, none⟩) hsz (.int .u64 (V : Int)))
      have HK2 := Lib.hid (hk.far (p := ⟨r, q, none⟩) (by show w.heap.size ≠ r; omega) (.int .u64 (V : Int)))
      clear hR hk hB HF hts hdl hrm hd hq hp ha hY hV hj HST0
      go_wp2_with fail
      go_region
      go_wp2
      go_roundg (n - k)
      case measure => omega
      case rel => exact ⟨k + 1, _, by omega, by omega, by go_num, HST, HR2.out.drew, HB2.out.drew, HK2.out.drew⟩
    · have hkn : k = n := by omega
      subst hkn
      have hdv := HF.out.dv_ (by rw [HTA.out]; exact HVW.out)
      have hof := nat_of (some ⟨r, 0, none⟩) K K L wr hR.reads HF.out.dgs (Nat.le_refl _) (by omega) (by omega)
      rw [hdv, HTA.out] at hof
      have HOF := Lib.hid hof
      obtain ⟨x, hx⟩ : ∃ x, valP l = x := ⟨_, rfl⟩
      rw [hx] at HOF
      have HX := Lib.hid hx
      clear hdv hof hR HF hx HTA HVW
      go_wp2_with fail
      refine HOF.out.mono ?_
      rintro e w3 ⟨A3, n3, c3, rfl, hw3, hb, hf3⟩
      have hk3 := keep_blk hb hk
      have hB3 := keep_below hB hb
      have hf := hk3.frozen 0
      have hc1 := hk3.cell 0
      have p4 : Blk1 w3 w.heap.size (.slice none 0 0) := ⟨_, hk3⟩
      have r4 := (p4.set_ (.slice A3 n3 c3)).cell
      have hkl := hk.lt
      have HG : Hid (GivesNB w (valP l) true (.returned (.tuple #[.agg #[.slice A3 n3 c3], .bool true])) (w3.setCell ⟨w.heap.size, 0, none⟩ (.slice A3 n3 c3))) := by
        show GivesNB _ _ _ _ _
        rw [HX.out]
        exact ⟨A3, n3, c3, rfl, words_set hw3 (fun ad e => by have := hf3 ad e; show ad.block ≠ _; simp; omega) _, hB3.setCell (Nat.le_refl _) _⟩
      clear hw3 hf3 hk3 p4 hB3 hb hk hB
      go_wp2
      refine bodyPost_ret (v := .tuple #[.agg #[.slice A3 n3 c3], .bool true]) (by simp [results, Try.results17, go_sem, r4]) rfl ?_
      exact HG.out
/-- Parse, of bytes that are a number's and of others. -/
theorem digits_parse (l : List Nat) (A : Option Addr) (n c : Nat) (w : World) (hr : Reads w w.heap.size 1 A n (vals .u8 l)) (hd : Dgs 256 l) (hn : n ≤ 274877906944) :
    Calls Try.prog 17 #[.slice A n c] w (GivesNB w (if plainL l then valP l else 0) (plainL l)) := by
  cases hp : plainL l
  · exact parse_no l A n c w hr hd hp
  · exact parse_yes l A n c w hr hd hp hn
end Go.Proofs.Ytnnhcicdildfaaa
