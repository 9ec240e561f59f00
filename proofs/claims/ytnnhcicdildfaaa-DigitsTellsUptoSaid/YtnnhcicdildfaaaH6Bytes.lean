/-
  The contract of digits' Bytes: a number's bytes, in a row of the call's own. Conditions: the value is a number of up to 2 to the 38 words.
-/
import Derived.Test.YtnnhcicdildfaaaRows
import Derived.Test.YtnnhcicdildfaaaH6Small
import Derived.Test.YtnnhcicdildfaaaH6Math
import Derived.Test.YtnnhcicdildfaaaH6Rev
import Derived.Test.YtnnhcicdildfaaaP6C
import Derived.Test.YtnnhcicdildfaaaNWrap
import Derived.WalkKit
import Derived.Lib.Hide
import Derived.Outline
import Derived.LoopTactic
import Derived.Deep.LoopGhost
import Derived.IntWalk
namespace Go.Proofs.Ytnnhcicdildfaaa
open Go Go.RowKit
set_option maxRecDepth 100000
set_option linter.unusedVariables false
set_option linter.unusedSimpArgs false
theorem infoB8 : (Try.prog.info? 5).map (fun i => (i.zero, i.size, i.bytes)) = some (some (.int .u8 0), 1, 1) := by kernel_rfl
set_option maxHeartbeats 4000000 in
theorem digits_bytes (x : Nat) (A : Option Addr) (n c : Nat) (w : World) (hA : WordsIn w x A n c) (hn : n ≤ 274877906944) :
    Calls Try.prog 12 #[.agg #[.slice A n c]] w (GivesRow8 w (bytesL x)) := by
  obtain ⟨i0, hi0, hz0, hz1, hz2⟩ := info_parts infoB8
  have hsm : (dg 256 x).length ≤ 8 * n := by
    have h := bytes_small (K := n) (x := x) (by have := dg_lt (b := 18446744073709551616) (by decide) x; rwa [hA.len] at this)
    rwa [bytesL_len] at h
  obtain ⟨hB, b2, b5⟩ := box1 w 25 #[.slice A n c]
  have HSZ := Lib.hid (digits_size x A n c _ (hA.below hB) hn)
  have HW := Lib.hid (fun (k : Nat) w' (h : Below w.heap.size w w') => nat_word x A n c k w' (hA.below h))
  have HBO := Lib.hid (byte_of x)
  have HD := Lib.hid (fun k => (dg_dgs (b := 256) (by decide) x).getD (by decide) k)
  obtain ⟨N, hN⟩ : ∃ m, (dg 256 x).length = m := ⟨_, rfl⟩
  have HDONE := Lib.hid (fun M (h : FilledB x N N M) => FilledB.done h hN.symm)
  have HBL : Hid ((bytesL x).length = N) := by show _ = _; rw [bytesL_len, hN]
  rw [hN] at HSZ hsm
  obtain ⟨Z, hZ⟩ : ∃ Z, madeCells (Value.cells (.int .u8 0)) (N * i0.size) = Z := ⟨_, rfl⟩
  have hmk : ∀ W : World, (Instr.makeSlice 30 (.int .i64 (N : Int)) (.int .i64 (N : Int))).run Try.prog W = .ok (.slice (some ⟨W.heap.size, 0, none⟩) N N) (W.alloc (.cells Z 5)) := fun W => by
    rw [← hZ]; exact run_make_rowN _ _ i0 _ Try.underlying30 hi0 hz0 _ _ N N (Nat.le_refl _) (by rw [hz2]; omega) (by omega) W
  have HM : Hid (∀ W : World, Row8 (W.alloc (.cells Z 5)) 5 W.heap.size N N (List.replicate N 0)) := fun W => by
    have h := Row8.made W 5 N (by unfold maxLen; omega)
    rw [← hZ, hz1, Nat.mul_one]
    exact h
  clear hA hN hZ
  go_enter Try.func12, Try.ntmps12
  go_wp2_with fail
  refine HSZ.out.mono ?_
  rintro e w1 ⟨rfl, hb⟩
  have hk := keep_blk hb b2
  have hB1 := keep_below hB hb
  clear hb hB b2 b5 HSZ
  go_wp2
  clear hmk
  have hR := HM.out w1
  have hB2 := hB1.alloc hB1.size (.cells Z 5)
  have hk2 := hk.alloc (.cells Z 5)
  have hsz := hB1.size
  have hlt1 := hk.lt
  generalize w1.alloc (.cells Z 5) = W2 at *
  obtain ⟨r, hr⟩ : ∃ r, w1.heap.size = r := ⟨_, rfl⟩
  rw [hr] at hR hsz hlt1 ⊢
  have HF := Lib.hid (FilledB.start x N)
  clear HM hr hk hB1
  go_loopg [10] (N + 1) (fun g i wr => ∃ (k : Nat) (L : List Nat), k ≤ N ∧ N < g + k ∧ i = .int .i64 k ∧ Hid (FilledB x N k L) ∧ Row8 wr 5 r N N L ∧ Below w.heap.size w wr ∧ Blk wr w.heap.size 25 #[.slice A n c])
  case atStart => exact ⟨0, _, Nat.zero_le _, by omega, rfl, HF, hR, hB2, hk2⟩
  case round =>
    clear HF hR hB2 hk2
    obtain ⟨k, L, hkN, hg, rfl, HF, hR, hB, hk⟩ := hrel
    have i1 : (0 : Int) ≤ (k : Int) := by omega
    by_cases hlt : k < N
    · have i2 : (k : Int) < (N : Int) := by omega
      have HST := Lib.hid (HF.out.step hlt)
      have hbo := HBO.out k
      have hdl := HD.out k
      obtain ⟨d, hd⟩ : ∃ d, (dg 256 x).getD k 0 = d := ⟨_, rfl⟩
      rw [hd] at hbo hdl HST
      have g1 := hk.cell 0
      simp only [List.getElem?_toArray, List.getElem?_cons_zero] at g1
      obtain ⟨q, hq⟩ : ∃ q, k / 8 = q := ⟨_, rfl⟩
      obtain ⟨p, hp⟩ : ∃ q, k % 8 = q := ⟨_, rfl⟩
      have hp8 : p < 8 := by omega
      have HWQ := Lib.hid (HW.out q wr hB)
      have hwl := wd_lt x q
      rw [hq, hp] at hbo
      obtain ⟨v, hv⟩ : ∃ v, wd x q = v := ⟨_, rfl⟩
      rw [hv] at HWQ hwl hbo
      have hix : (N : Int) - 1 - (k : Int) = ((N - 1 - k : Nat) : Int) := by omega
      obtain ⟨j, hj⟩ : ∃ j, N - 1 - k = j := ⟨_, rfl⟩
      rw [hj] at HST hix
      have hjN : j < N := by omega
      have c1 := hR.cell j hjN
      have f1 := hR.frozen j
      have e1 : (k : Int) / 8 = (q : Int) := by omega
      have e2 : (k : Int) % 8 = (p : Int) := by omega
      have HBO2 := Lib.hid hbo
      have HP8 : p * 8 < 64 := by omega
      clear hbo hd hq hp hv hj
      go_wp2_with fail
      refine HWQ.out.mono ?_
      rintro e w3 ⟨rfl, hb⟩
      have hR := hR.keep hb
      have hk := keep_blk hb hk
      have hB := keep_below hB hb
      have f1 := hR.frozen j
      have c1 := hR.cell j hjN
      have HR2 := Lib.hid (hR.set_ j d hjN)
      have HB2 := Lib.hid (hB.setCell (p := ⟨r, j, none⟩) hsz (.int .u8 (d : Int)))
      have HK2 := Lib.hid (hk.far (p := ⟨r, j, none⟩) (by show w.heap.size ≠ r; omega) (.int .u8 (d : Int)))
      have HV : Hid ((v : Int) / 2 ^ (p * 8) % 256 = (d : Int)) := by show _ = _; rw [HBO2.out, Nat.mul_comm 8 p]; simp
      have s1 : ((p : Int) * 8).toNat = p * 8 := by omega
      clear hb hR hk hB HWQ g1
      go_wp2
      go_roundg (N - k)
      case measure => omega
      case rel => exact ⟨k + 1, _, by omega, by omega, by go_num, HST, by rw [HV.out]; exact HR2.out, by rw [HV.out]; exact HB2.out, by rw [HV.out]; exact HK2.out⟩
    · have hkN2 : k = N := by omega
      subst hkN2
      have HE := Lib.hid (HDONE.out _ HF.out)
      have hrow := hR.own hsz
      rw [HE.out] at hrow
      have HG : Hid (GivesRow8 w (bytesL x) (.returned (.slice (some ⟨r, 0, none⟩) k k)) wr) := ⟨_, rfl, by rw [HBL.out]; exact hrow, hB⟩
      clear hrow HE HDONE HBL hR hk HF hB
      go_wp2
      go_ret
      exact HG.out
end Go.Proofs.Ytnnhcicdildfaaa
