/-
  A string of a slice of bytes that reads; what bytes and texts are as strings. Conditions: as each says.
-/
import Derived.Test.YtnnhcicdildfaaaD6Math
import Derived.Test.YtnnhcicdildfaaaMem
import Derived.WalkKit
import Derived.Lib.Hide
import Derived.Laws.BytesArg
namespace Go.Proofs.Ytnnhcicdildfaaa
open Go Go.RowKit
set_option linter.unusedVariables false
/-- Bytes, as a string. -/
def strL (l : List Nat) : ByteArray := ⟨(l.map UInt8.ofNat).toArray⟩
theorem strL_data (l : List Nat) : (strL l).data.toList = l.map UInt8.ofNat := rfl
theorem strL_size (l : List Nat) : (strL l).size = l.length := by simp [strL, ByteArray.size]
theorem reads_string {P : Program} (src dst e : TypeId) (hs : P.underlying src = some (.slice e)) (he : P.underlying e = some (.int .u8)) (hd : P.underlying dst = some .string) {w : World} {B n c : Nat} {A : Option Addr} {l : List Nat} (h : Reads w B 1 A n (vals .u8 l)) :
    (convert src dst (.slice A n c)).run P w = .ok (.string (strL l)) w := by
  have hl := h.len_
  rcases A with _ | ad
  · have hn : n = 0 := by
      rcases Nat.eq_zero_or_pos n with h0 | h0
      · exact h0
      · obtain ⟨ad, e1, _⟩ := h.2 h0
        cases e1
    rw [hn] at hl
    rw [List.eq_nil_of_length_eq_zero hl]
    exact run_convert_bytes_nil w src e hs he n c dst hd
  · rw [run_convert_bytes_string w src dst e _ n c hs he hd]
    have hc : ∀ j v, (vals .u8 l)[j]? = some v → w.cell? (ad.add j) = some v := by
      intro j v hv
      rcases Nat.eq_zero_or_pos n with h0 | h0
      · rw [h0] at hl
        rw [List.eq_nil_of_length_eq_zero hl] at hv
        simp [vals] at hv
      · obtain ⟨ad', e1, _, hc⟩ := h.2 h0
        injection e1 with e1
        subst e1
        exact hc j v hv
    have hld := run_loadCells_list (P := P) w ad (vals .u8 l) hc
    rw [vals_length, hl] at hld
    have e1 : (vals .u8 l).toArray = ((l.map fun d => ((d : Nat) : Int)).map (Value.int .u8)).toArray := by
      unfold vals
      rw [List.map_map]
      rfl
    rw [e1] at hld
    rw [run_bytesToString w ad n c _ hld, foldl_push_bytes]
    refine congrArg (fun s => Result.ok (Value.string s) w) ?_
    unfold strL
    rw [List.map_map]
    simp [ByteArray.empty, ByteArray.emptyWithCapacity]
    rfl
theorem bytes_ch (x : Nat) : (strL (bytesL x)).data.toList = bytesS x := by
  unfold bytesL bytesS chB
  rw [strL_data]
  exact List.map_congr_left fun d _ => by rw [Nat.zero_add]
/-- A text, as a string. -/
def strS (s : List UInt8) : ByteArray := ⟨s.toArray⟩
theorem strS_data (s : List UInt8) : (strS s).data.toList = s := rfl
theorem strS_size (s : List UInt8) : (strS s).size = s.length := by simp [strS, ByteArray.size]
theorem strS_of (s : ByteArray) : strS s.data.toList = s := rfl
theorem str_eql (s t : ByteArray) (b : Bool) (h : decide (s.data.toList = t.data.toList) = b) : (s.toList == t.toList) = b := by
  rw [ByteArray.toList_eq, ByteArray.toList_eq, ← h]
  by_cases e : s.data.toList = t.data.toList
  · rw [e, beq_self_eq_true]; simp
  · rw [beq_eq_false_iff_ne.2 e]; simp [e]
theorem str_lit (s : ByteArray) (l : List UInt8) (b : Bool) (h : decide (s.data.toList = l) = b) : (s.toList == l) = b := by
  rw [ByteArray.toList_eq, ← h]
  by_cases e : s.data.toList = l
  · rw [e, beq_self_eq_true]; simp
  · rw [beq_eq_false_iff_ne.2 e]; simp [e]
theorem addr_zero (ad : Addr) : ad.add 0 = ad := by
  obtain ⟨b, o, s⟩ := ad
  cases s <;> simp [Addr.add]
end Go.Proofs.Ytnnhcicdildfaaa
