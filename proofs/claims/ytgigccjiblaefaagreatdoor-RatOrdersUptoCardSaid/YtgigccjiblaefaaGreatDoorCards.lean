/-
  DERIVED. GIVEN WITH THE SEED: THE CARDS: each row of YtgigccjiblaefaaGreatDoorRows.lean that lists a variable, with what it lists TIED to the program's text (the seventh form; the later family's looks); each row that meets fmt, with fmt's text TOLD by the authors' own Lean function (tested against real Go, not proved from fmt's source: count such statements apart). THE CARD IS WHAT COUNTS. Prove the row's statement (the work); the ties are given (YtgigccjiblaefaaGreatDoorTie.lean); close each card by the builder's one call (the guide's Derived/Test/ToyasCard.lean, 'card_holds'). Laid BY PROGRAM, IN A SANDBOX (cutbox-door.mjs). By AI agents, Wed Nov 11 2026. No macro, syntax, notation, axiom, sorry.
-/
import Derived.Test.YtgigccjiblaefaaGreatDoorRows
import GoSem.ClaimSeven
namespace Go.Proofs.YtgigccjiblaefaaGreatDoor
namespace Rows

/-- THE TIED CARD OF 'actuarylaw08.RatNews'. -/
def ratNewsCard : Claim7 := { stood := { row := ratNewsRow, standIns := [], harness := (true, "623b2d75199bc96cc3df09e9609c5c3c215f6dd52dfe5f63434e87d8a0fa849d"), looks := false }, kinds := [], alts := [], laidByText := true, laidKinds := [.data], laidTests := true, laidLooks := .later }
def RatNewsCardSaid : Prop := Claim7.holds Tryz.pinned (.plain (OpenSpec.ofChange ratNewsSpec)) ratNewsCard

/-- THE TIED CARD OF 'actuarylaw08.RatSums'. -/
def ratSumsCard : Claim7 := { stood := { row := ratSumsRow, standIns := [], harness := (true, "623b2d75199bc96cc3df09e9609c5c3c215f6dd52dfe5f63434e87d8a0fa849d"), looks := false }, kinds := [], alts := [], laidByText := true, laidKinds := [.data], laidTests := true, laidLooks := .later }
def RatSumsCardSaid : Prop := Claim7.holds Tryz.pinned (.plain (OpenSpec.ofChange ratSumsSpec)) ratSumsCard

/-- THE TIED CARD OF 'actuarylaw08.RatOrders'. -/
def ratOrdersCard : Claim7 := { stood := { row := ratOrdersRow, standIns := [], harness := (true, "623b2d75199bc96cc3df09e9609c5c3c215f6dd52dfe5f63434e87d8a0fa849d"), looks := false }, kinds := [], alts := [], laidByText := true, laidKinds := [.data], laidTests := true, laidLooks := .later }
def RatOrdersCardSaid : Prop := Claim7.holds Tryz.pinned (.plain (OpenSpec.ofChange ratOrdersSpec)) ratOrdersCard

/-- THE TIED CARD OF 'actuarylaw08.RatField'. -/
def ratFieldCard : Claim7 := { stood := { row := ratFieldRow, standIns := [], harness := (true, "623b2d75199bc96cc3df09e9609c5c3c215f6dd52dfe5f63434e87d8a0fa849d"), looks := false }, kinds := [], alts := [], laidByText := true, laidKinds := [.data], laidTests := true, laidLooks := .later }
def RatFieldCardSaid : Prop := Claim7.holds Tryz.pinned (.plain (OpenSpec.ofChange ratFieldSpec)) ratFieldCard

/-- THE TIED CARD OF 'actuarylaw08.RatPlain'. -/
def ratPlainCard : Claim7 := { stood := { row := ratPlainRow, standIns := [], harness := (true, "623b2d75199bc96cc3df09e9609c5c3c215f6dd52dfe5f63434e87d8a0fa849d"), looks := false }, kinds := [], alts := [], laidByText := true, laidKinds := [.data], laidTests := true, laidLooks := .later }
def RatPlainCardSaid : Prop := Claim7.holds Tryz.pinned (.plain (OpenSpec.ofChange ratPlainSpec)) ratPlainCard

/-- THE TIED CARD OF 'actuarylaw08.RatFloors'. -/
def ratFloorsCard : Claim7 := { stood := { row := ratFloorsRow, standIns := [], harness := (true, "623b2d75199bc96cc3df09e9609c5c3c215f6dd52dfe5f63434e87d8a0fa849d"), looks := false }, kinds := [], alts := [], laidByText := true, laidKinds := [.data], laidTests := true, laidLooks := .later }
def RatFloorsCardSaid : Prop := Claim7.holds Tryz.pinned (.plain (OpenSpec.ofChange ratFloorsSpec)) ratFloorsCard

/-- THE SECOND FORM's CARD OF 'actuarylaw08.RatNews'. -/
def ratNewsUptoCard : Claim7 := { stood := { row := ratNewsUptoRow, standIns := [], harness := (true, "623b2d75199bc96cc3df09e9609c5c3c215f6dd52dfe5f63434e87d8a0fa849d"), looks := false }, kinds := [], alts := [], laidByText := true, laidKinds := [.data], laidTests := true, laidLooks := .later }
def RatNewsUptoCardSaid : Prop := Claim7.holds Tryz.pinned (.plain (OpenSpec.upto ratNewsSpec)) ratNewsUptoCard

/-- THE SECOND FORM's CARD OF 'actuarylaw08.RatSums'. -/
def ratSumsUptoCard : Claim7 := { stood := { row := ratSumsUptoRow, standIns := [], harness := (true, "623b2d75199bc96cc3df09e9609c5c3c215f6dd52dfe5f63434e87d8a0fa849d"), looks := false }, kinds := [], alts := [], laidByText := true, laidKinds := [.data], laidTests := true, laidLooks := .later }
def RatSumsUptoCardSaid : Prop := Claim7.holds Tryz.pinned (.plain (OpenSpec.upto ratSumsSpec)) ratSumsUptoCard

/-- THE SECOND FORM's CARD OF 'actuarylaw08.RatOrders'. -/
def ratOrdersUptoCard : Claim7 := { stood := { row := ratOrdersUptoRow, standIns := [], harness := (true, "623b2d75199bc96cc3df09e9609c5c3c215f6dd52dfe5f63434e87d8a0fa849d"), looks := false }, kinds := [], alts := [], laidByText := true, laidKinds := [.data], laidTests := true, laidLooks := .later }
def RatOrdersUptoCardSaid : Prop := Claim7.holds Tryz.pinned (.plain (OpenSpec.upto ratOrdersSpec)) ratOrdersUptoCard

/-- THE SECOND FORM's CARD OF 'actuarylaw08.RatField'. -/
def ratFieldUptoCard : Claim7 := { stood := { row := ratFieldUptoRow, standIns := [], harness := (true, "623b2d75199bc96cc3df09e9609c5c3c215f6dd52dfe5f63434e87d8a0fa849d"), looks := false }, kinds := [], alts := [], laidByText := true, laidKinds := [.data], laidTests := true, laidLooks := .later }
def RatFieldUptoCardSaid : Prop := Claim7.holds Tryz.pinned (.plain (OpenSpec.upto ratFieldSpec)) ratFieldUptoCard

/-- THE SECOND FORM's CARD OF 'actuarylaw08.RatPlain'. -/
def ratPlainUptoCard : Claim7 := { stood := { row := ratPlainUptoRow, standIns := [], harness := (true, "623b2d75199bc96cc3df09e9609c5c3c215f6dd52dfe5f63434e87d8a0fa849d"), looks := false }, kinds := [], alts := [], laidByText := true, laidKinds := [.data], laidTests := true, laidLooks := .later }
def RatPlainUptoCardSaid : Prop := Claim7.holds Tryz.pinned (.plain (OpenSpec.upto ratPlainSpec)) ratPlainUptoCard

/-- THE SECOND FORM's CARD OF 'actuarylaw08.RatFloors'. -/
def ratFloorsUptoCard : Claim7 := { stood := { row := ratFloorsUptoRow, standIns := [], harness := (true, "623b2d75199bc96cc3df09e9609c5c3c215f6dd52dfe5f63434e87d8a0fa849d"), looks := false }, kinds := [], alts := [], laidByText := true, laidKinds := [.data], laidTests := true, laidLooks := .later }
def RatFloorsUptoCardSaid : Prop := Claim7.holds Tryz.pinned (.plain (OpenSpec.upto ratFloorsSpec)) ratFloorsUptoCard
end Rows
end Go.Proofs.YtgigccjiblaefaaGreatDoor
