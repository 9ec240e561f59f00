/-
  A word's lowest bit. Conditions: none beyond the lemma's own.
-/
import Derived.Test.YtonjhcmppiioeaaWd0
namespace Go.Proofs.Ytonjhcmppiioeaa
open Go Go.RowKit
theorem low1 (c : Int) (hc : Wd c) : bits .and .u64 c 1 = c % 2 := by
  obtain ⟨h0, h1⟩ := hc
  obtain ⟨c, rfl⟩ := Int.eq_ofNat_of_zero_le h0
  have h := bits_and_u64_nat c 1 (by omega) (by omega)
  have e : c &&& 1 = c % 2 := Nat.and_two_pow_sub_one_eq_mod c 1
  rw [e] at h
  simpa using h
end Go.Proofs.Ytonjhcmppiioeaa
