/-
  What the laws on products lean on of package prod, shown of the developers' functions. Conditions: as ProdC says.
-/
import Derived.Test.YtonjhcmppiioeaaRows
import Derived.Test.YtonjhcmppiioeaaP3C
import Derived.Test.YtonjhcmppiioeaaPMul
import Derived.Test.YtonjhcmppiioeaaPBy
import Derived.Test.YtonjhcmppiioeaaPPow
namespace Go.Proofs.Ytonjhcmppiioeaa
open Go Go.RowKit
set_option linter.unusedVariables false
theorem prodC : ProdC where
  mul x y A D n m c d w hA hD hn hm := prod_mul x y A D n m c d w hA hD (by omega) (by omega)
  byWord x a b A n c w hA hn ha hb := prod_byword x a b A n c w hA (by omega) ha hb
  square x A n c w hA hn := prod_square x A n c w hA (by omega)
  powNo x k A n c w hA hn hk h := by
    by_cases h0 : k < 0
    · exact prod_pow_neg k A n c w h0
    · obtain ⟨j, rfl⟩ : ∃ j : Nat, k = (j : Int) := ⟨k.toNat, by omega⟩
      rcases h with h | ⟨h1, h2⟩
      · omega
      · exact prod_pow_long x j A n c w hA (by omega) (by omega) h1 (by rw [← Int.natCast_mul] at h2; omega)
  powYes x k A n c w hA hn hk h := prod_pow x k A n c w hA (by omega) hk h
end Go.Proofs.Ytonjhcmppiioeaa
