/-
  The contract of the reference's Parse (actuaryref06). Conditions: bytes that read, up to 2 to the 31.
-/
import Derived.Test.YtnnhcicdildfaaaRows
import Derived.Test.YtnnhcicdildfaaaBunR
import Derived.Test.YtnnhcicdildfaaaD6Str
import Derived.WalkKit
import Derived.Lib.Hide
import Derived.Outline
import Derived.LoopTactic
import Derived.Deep.LoopGhost
import Derived.IntWalk
namespace Go.Proofs.Ytnnhcicdildfaaa
open Go Go.RowKit
set_option maxRecDepth 100000
set_option linter.unusedVariables false
/-- A number of the reference's, and whether there is one. -/
def GivesR (w : World) (x : Nat) (b : Bool) (e : Ending) (w' : World) : Prop := ∃ (A : Option Addr) (n c : Nat), e = .returned (.tuple #[.slice A n c, .bool b]) ∧ Holds16 w' x A n c ∧ Below w.heap.size w w'
theorem holds_nil (w : World) : Holds16 w 0 none 0 0 := ⟨Reads.none_, Nat.le_refl _, by omega⟩
theorem valP_step (l : List Nat) {k : Nat} (h : k < l.length) : valP (l.take (k + 1)) = valP (l.take k) * 256 + l.getD k 0 := by
  unfold valP
  rw [List.take_succ_eq_append_getElem h, List.reverse_append, List.reverse_singleton, List.singleton_append]
  show l[k] + 256 * _ = _
  rw [List.getD_eq_getElem?_getD, List.getElem?_eq_getElem h, Nat.add_comm, Nat.mul_comm]
  rfl
theorem valP_len {l : List Nat} (hd : Dgs 256 l) : (dg 65536 (valP l)).length ≤ l.length := by
  have h1 := dv_lt (b := 256) (l := l.reverse) (fun d hd' => hd d (by simpa using hd'))
  rw [List.length_reverse] at h1
  exact dg_len_le (by decide) _ _ (Nat.lt_of_lt_of_le h1 (Nat.pow_le_pow_left (by decide) _))
set_option maxHeartbeats 8000000 in
theorem ref6_parse (l : List Nat) (A : Option Addr) (n c : Nat) (w : World) (hr : Reads w w.heap.size 1 A n (vals .u8 l)) (hd : Dgs 256 l) (hn : n ≤ 2147483648) :
    Calls Try.prog 18 #[.slice A n c] w (GivesR w (if plainL l then valP l else 0) (plainL l)) := by
  have hl := hr.len_
  have HL := Lib.hid hl
  have HD := Lib.hid hd
  have HR := Lib.hid (fun w' (h : Below w.heap.size w w') => (hr.below h).more h.size)
  have hcase : (n = 0 ∧ plainL l = true) ∨ (0 < n ∧ l.getD 0 0 = 0 ∧ plainL l = false) ∨ (0 < n ∧ l.getD 0 0 ≠ 0 ∧ plainL l = true) := by
    match l, hl with
    | [], hl => exact .inl ⟨by simpa using hl.symm, rfl⟩
    | a :: t, hl =>
      have h0 : 0 < n := by simp at hl; omega
      by_cases ha : a = 0
      · exact .inr (.inl ⟨h0, by simpa using ha, by simp [plainL, ha]⟩)
      · exact .inr (.inr ⟨h0, by simpa using ha, by simp [plainL, ha]⟩)
  have hB := Below.refl w.heap.size w
  rcases hcase with ⟨h0, hp⟩ | ⟨h0, hz, hp⟩ | ⟨h0, hz, hp⟩
  · rw [hp, if_pos rfl]
    have hv : Hid (valP l = 0) := by
      show _ = _
      rw [List.eq_nil_of_length_eq_zero (hl.trans h0)]; rfl
    subst h0
    clear hr hd hl hp HR HL HD
    go_enter Try.func18, Try.ntmps18
    go_wp2_with fail
    go_loop [4, 5] (fun u ix => u = .slice none 0 0 ∧ ix = .int .i64 0) (fun _ _ => 1)
    case atStart => exact ⟨rfl, rfl⟩
    case round =>
      obtain ⟨rfl, rfl⟩ := hrel
      go_wp2
      go_ret2
      exact ⟨none, 0, 0, rfl, by rw [hv.out]; exact holds_nil _, hB⟩
  · obtain ⟨ad, rfl, hadb, hc0⟩ := val_at hr (k := 0) h0
    rw [hz] at hc0
    have hc1 : w.cell? ad = some (.int .u8 ((0 : Nat) : Int)) := by rw [← addr_zero ad]; exact hc0
    rw [hp]
    have i1 : (0 : Int) < (n : Int) := by omega
    clear hr hd hl hp hz HR HL HD
    go_enter Try.func18, Try.ntmps18
    go_wp2
    go_ret2
    exact ⟨none, 0, 0, rfl, by first | exact holds_nil _ | (rw [if_neg (by simp)]; exact holds_nil _), hB⟩
  · obtain ⟨ad, rfl, hadb, hc0⟩ := val_at hr (k := 0) h0
    rw [hp, if_pos rfl]
    have i0 : (0 : Int) < (n : Int) := by omega
    obtain ⟨a, ha⟩ : ∃ a, l.getD 0 0 = a := ⟨_, rfl⟩
    rw [ha] at hc0 hz
    have hc1 : w.cell? ad = some (.int .u8 (a : Int)) := by rw [← addr_zero ad]; exact hc0
    have hz1 : ((a : Int) == 0) = false := by rw [beq_eq_false_iff_ne]; omega
    clear hr hd hl hp ha
    go_enter Try.func18, Try.ntmps18
    go_wp2_with fail
    clear hc0 hc1 hz1 hz
    go_loopg [4, 5] (n + 1) (fun gg u ix wr => ∃ (k : Nat) (A2 : Option Addr) (n2 c2 : Nat), k ≤ n ∧ n < gg + k ∧ ix = .int .i64 k ∧ u = .slice A2 n2 c2 ∧ Holds16 wr (valP (l.take k)) A2 n2 c2 ∧ Below w.heap.size w wr)
    case atStart => exact ⟨0, none, 0, 0, Nat.zero_le _, by omega, rfl, rfl, holds_nil _, hB⟩
    case round =>
      clear hB
      obtain ⟨k, A2, n2, c2, hk, hg, rfl, rfl, hh, hB⟩ := hrel
      by_cases hlt : k < n
      · obtain ⟨ad', e', hadb', hc⟩ := val_at (HR.out _ hB) (k := k) hlt
        cases e'
        have hdk := HD.out.getD (by decide) k
        have HST := Lib.hid (valP_step l (k := k) (by rw [HL.out]; exact hlt))
        have hn2 : n2 ≤ 549755813888 := by
          rw [hh.len]
          have h1 := valP_len (HD.out.take k)
          rw [List.length_take] at h1
          omega
        obtain ⟨d, hdd⟩ : ∃ d, l.getD k 0 = d := ⟨_, rfl⟩
        rw [hdd] at hc hdk HST
        have SM := Lib.hid (show Calls Try.prog 36 #[.slice A2 n2 c2, .int .i64 256, .int .i64 (d : Int)] wr (Gives16 wr (valP (l.take k) * 256 + d)) from ref2_small (valP (l.take k)) 256 d A2 n2 c2 wr hh hn2 (by decide) (by omega))
        rw [← HST.out] at SM
        have i1 : (0 : Int) ≤ (k : Int) := by omega
        have i2 : (k : Int) < (n : Int) := by omega
        have i3 : IntKind.i64.wrap (d : Int) = (d : Int) := IntWalk.i64_in _ (by omega)
        clear hdd HST hh
        go_wp2_with fail
        refine SM.out.mono ?_
        intro e w3 hg3
        obtain ⟨A3, n3, c3, rfl, hh3, hb⟩ := hg3.elim
        have hB3 := keep_below hB hb
        clear hb hg3 hB hc
        go_wp2
        go_roundg (n - k)
        case measure => omega
        case rel => exact ⟨k + 1, A3, n3, c3, by omega, by omega, by go_num, rfl, hh3, hB3⟩
      · have hkn : k = n := by omega
        subst hkn
        rw [List.take_of_length_le (by rw [HL.out]; exact Nat.le_refl _)] at hh
        go_wp2
        go_ret2
        exact ⟨A2, n2, c2, rfl, hh, hB⟩
end Go.Proofs.Ytnnhcicdildfaaa
