/-
  What the laws on quotients lean on of package quot, shown of the developers' functions. Conditions: as QuotC says.
-/
import Derived.Test.YtaemlkoklaoglaaRows
import Derived.Test.YtaemlkoklaoglaaP4C
import Derived.Test.YtaemlkoklaoglaaQMod
namespace Go.Proofs.Ytaemlkoklaoglaa
open Go Go.RowKit
set_option linter.unusedVariables false
theorem quotC : QuotC where
  divMod x y A D n m c d w hA hD hn hm hy := quot_divmod x y A D n m c d w hA hD (by omega) (by omega) hy
  divModNo x y A D n m c d w hA hD hn hm hy := quot_divmod_no x y A D n m c d w hA hD hy
  div x y A D n m c d w hA hD hn hm hy := quot_div_of (x / y) (x % y) true A D n m c d w (fun w' hb => quot_divmod x y A D n m c d w' (hA.below hb) (hD.below hb) (by omega) (by omega) hy)
  mod x y A D n m c d w hA hD hn hm hy := quot_mod_of (x / y) (x % y) true A D n m c d w (fun w' hb => quot_divmod x y A D n m c d w' (hA.below hb) (hD.below hb) (by omega) (by omega) hy)
  byWord x a A n c w hA hn ha ha0 := quot_byword x a A n c w hA (by omega) ha ha0
  byWordNo x A n c w hA hn := quot_byword_no x A n c w hA
  divides y x D A m n d c w hD hA hm hn := by
    by_cases hy : y = 0
    · refine quot_divides_no x _ D A m n d c w hA (by subst hy; exact dvdB_zero x) (fun w' hb => ?_)
      exact quot_mod_of 0 0 false A D n m c d w' (fun w'' hb' => quot_divmod_no x y A D n m c d w'' ((hA.below hb).below hb') ((hD.below hb).below hb') hy)
    · refine quot_divides_yes (x % y) _ D A m n d c w rfl (fun w' hb => ?_)
      exact quot_mod_of (x / y) (x % y) true A D n m c d w' (fun w'' hb' => quot_divmod x y A D n m c d w'' ((hA.below hb).below hb') ((hD.below hb).below hb') (by omega) (by omega) hy)
end Go.Proofs.Ytaemlkoklaoglaa
