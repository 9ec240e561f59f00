/-
  How long texts and bytes of a number are, and how many words what is read of them has. Conditions: as each says.
-/
import Derived.Test.YtnnhcicdildfaaaD6Str
import Derived.Test.YtnnhcicdildfaaaBunV
import Derived.WalkKit
namespace Go.Proofs.Ytnnhcicdildfaaa
open Go Go.RowKit
set_option linter.unusedVariables false
theorem pow64 (K : Nat) : (18446744073709551616 : Nat) ^ K = 2 ^ (64 * K) := by rw [show (18446744073709551616 : Nat) = 2 ^ 64 from rfl, ← Nat.pow_mul]
theorem bytes_small {K x : Nat} (h : Sz K x) : (bytesL x).length ≤ 8 * K := by
  rw [bytesL_len]
  refine dg_len_le (by decide) _ _ (Nat.lt_of_lt_of_le h ?_)
  rw [pow64, show (256 : Nat) = 2 ^ 8 from rfl, ← Nat.pow_mul, ← Nat.mul_assoc]
  exact Nat.le_refl _
theorem text_small {K x : Nat} (h : Sz K x) : (textS x).length ≤ 64 * K + 1 := by
  rw [text_len]
  unfold tdg
  split
  · simp
  · refine Nat.le_succ_of_le (dg_len_le (by decide) _ _ (Nat.lt_of_lt_of_le h ?_))
    rw [pow64]
    exact Nat.pow_le_pow_left (by decide) _
theorem valP_sz {l : List Nat} {n : Nat} (hd : Dgs 256 l) (h : l.length ≤ n) : Sz n (valP l) := by
  have h1 := dv_lt (b := 256) (l := l.reverse) (fun d hd' => hd d (by simpa using hd'))
  rw [List.length_reverse] at h1
  exact Nat.lt_of_lt_of_le h1 (Nat.le_trans (Nat.pow_le_pow_left (by decide) _) (Nat.pow_le_pow_right (by decide) h))
theorem valR_sz {s : List UInt8} {n : Nat} (hok : okR s = true) (h : s.length ≤ n) : Sz n (valR s) := by
  have ha : s.all isDig = true := by
    unfold okR at hok
    simp only [Bool.and_eq_true] at hok
    exact hok.2
  have h1 := dv_lt (digB_dgs ha)
  have e : (digB s).length = s.length := by simp [digB]
  rw [e] at h1
  exact Nat.lt_of_lt_of_le h1 (Nat.le_trans (Nat.pow_le_pow_left (by decide) _) (Nat.pow_le_pow_right (by decide) h))
theorem zero_sz (n : Nat) : Sz n 0 := Nat.pow_pos (by decide)
theorem str_len (s : ByteArray) : s.data.toList.length = s.size := by rw [Array.length_toList]; rfl
/-- What the law asks of a text's beginning. -/
def headOk (s : List UInt8) : Bool := decide (s ≠ []) && (s.head? != some 48 || decide (s = [48]))
def plainTo (s : List UInt8) (k : Nat) : Bool := headOk s && (s.take k).all isDig
theorem plain_all (s : List UInt8) {k : Nat} (h : s.length ≤ k) : plainTo s k = okR s := by
  unfold plainTo okR headOk
  rw [List.take_of_length_le h]
theorem plain_none (s : List UInt8) : plainTo s 0 = headOk s := by unfold plainTo; simp
theorem plain_step (s : List UInt8) {k : Nat} (h : k < s.length) : plainTo s (k + 1) = (plainTo s k && isDig (s.getD k 0)) := by
  unfold plainTo
  rw [List.take_succ_eq_append_getElem h, List.all_append, Bool.and_assoc]
  simp [List.getD_eq_getElem?_getD, List.getElem?_eq_getElem h]
theorem str_idx {P : Program} {t : TypeId} (ht : P.underlying t = some .string) (s : ByteArray) (k : Nat) (h : k < s.size) (w : World) : (Instr.index t (.string s) (.int .i64 (k : Int))).run P w = .ok (.int .u8 (((s.data.toList.getD k 0).toNat : Nat) : Int)) w := by
  rw [run_index_string w t s .i64 k ht, dif_pos ⟨by omega, by omega⟩]
  have e : (s[(k : Int).toNat]'(by omega)) = s.data.toList.getD k 0 := by
    have hk : k < s.data.toList.length := by rw [str_len]; exact h
    rw [List.getD_eq_getElem?_getD, List.getElem?_eq_getElem hk]
    rfl
  rw [e]
theorem bytes_bits (x : Nat) : (dg 256 x).length = (bitLen x + 7) / 8 := by
  by_cases hx : x = 0
  · subst hx; rfl
  · obtain ⟨h1, h2⟩ := dg_ge (b := 256) (by decide) x hx
    have h3 := dg_lt (b := 256) (by decide) x
    have h4 := Nat.log2_self_le hx
    have h5 := Nat.lt_log2_self (n := x)
    have e : ∀ k, (256 : Nat) ^ k = 2 ^ (8 * k) := fun k => by rw [show (256 : Nat) = 2 ^ 8 from rfl, ← Nat.pow_mul]
    rw [e] at h2 h3
    have h6 := (Nat.pow_lt_pow_iff_right (a := 2) (by decide)).1 (Nat.lt_of_le_of_lt h2 h5)
    have h7 := (Nat.pow_lt_pow_iff_right (a := 2) (by decide)).1 (Nat.lt_of_le_of_lt h4 h3)
    unfold bitLen
    rw [if_neg hx]
    omega
theorem valR_step (l : List UInt8) {k : Nat} (h : k < l.length) : valR (l.take (k + 1)) = valR (l.take k) * 10 + ((l.getD k 0).toNat - 48) := by
  unfold valR digB
  rw [List.take_succ_eq_append_getElem h, List.map_append, List.reverse_append, List.map_singleton, List.reverse_singleton, List.singleton_append]
  show (l[k].toNat - 48) + 10 * _ = _
  rw [List.getD_eq_getElem?_getD, List.getElem?_eq_getElem h, Nat.add_comm, Nat.mul_comm]
  rfl
theorem valR_len {l : List UInt8} (hd : l.all isDig = true) : (dg 65536 (valR l)).length ≤ l.length := by
  have h1 := dv_lt (digB_dgs hd)
  have e : (digB l).length = l.length := by simp [digB]
  rw [e] at h1
  exact dg_len_le (by decide) _ _ (Nat.lt_of_lt_of_le h1 (Nat.pow_le_pow_left (by decide) _))
theorem okR_head (l : List UInt8) : okR l = (headOk l && l.all isDig) := rfl
theorem all_bad {l : List UInt8} {k : Nat} (h : k < l.length) (hb : isDig (l.getD k 0) = false) : l.all isDig = false := by
  cases ha : l.all isDig
  · rfl
  · have := List.all_eq_true.1 ha (l[k]) (List.getElem_mem h)
    rw [List.getD_eq_getElem?_getD, List.getElem?_eq_getElem h] at hb
    have hb' : isDig l[k] = false := hb
    rw [this] at hb'
    cases hb'
theorem all_step {l : List UInt8} {k : Nat} (h : k < l.length) (ha : (l.take k).all isDig = true) (hb : isDig (l.getD k 0) = true) : (l.take (k + 1)).all isDig = true := by
  rw [List.take_succ_eq_append_getElem h, List.all_append, ha]
  rw [List.getD_eq_getElem?_getD, List.getElem?_eq_getElem h] at hb
  have hb' : isDig l[k] = true := hb
  simp [hb']
end Go.Proofs.Ytnnhcicdildfaaa
