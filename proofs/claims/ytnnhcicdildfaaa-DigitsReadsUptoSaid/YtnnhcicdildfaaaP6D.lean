/-
  What the laws on bytes and texts lean on of package digits, shown of the developers' functions. Conditions: as DigitsC says.
-/
import Derived.Test.YtnnhcicdildfaaaRows
import Derived.Test.YtnnhcicdildfaaaP6C
import Derived.Test.YtnnhcicdildfaaaH6Small
import Derived.Test.YtnnhcicdildfaaaH6Bytes
import Derived.Test.YtnnhcicdildfaaaH6Parse
import Derived.Test.YtnnhcicdildfaaaH6Text
import Derived.Test.YtnnhcicdildfaaaH6Read
namespace Go.Proofs.Ytnnhcicdildfaaa
open Go Go.RowKit
set_option linter.unusedVariables false
theorem same_below {P : Program} {f : FuncId} {args : Array Value} {w : World} {v : Value} (h : Calls P f args w fun e w' => e = .returned v ∧ w = w') : Calls P f args w fun e w' => e = .returned v ∧ Below w.heap.size w w' :=
  h.mono fun _ _ ⟨he, hw⟩ => ⟨he, by rw [← hw]; exact Below.refl _ _⟩
theorem digitsC {T : World → Prop} : DigitsC T where
  size x A n c w _ hA hn := digits_size x A n c w hA (by omega)
  bytes x A n c w _ hA hn := digits_bytes x A n c w hA (by omega)
  plain l A n c w _ hr hd _ _ _ := same_below (digits_plain l A n c w hr hd)
  parse l A n c w _ hr hd _ _ hn := digits_parse l A n c w hr hd (by omega)
  text x A n c w _ hA hn := digits_text x A n c w hA (by omega)
  read s w _ hs := digits_read s w (by omega)
end Go.Proofs.Ytnnhcicdildfaaa
