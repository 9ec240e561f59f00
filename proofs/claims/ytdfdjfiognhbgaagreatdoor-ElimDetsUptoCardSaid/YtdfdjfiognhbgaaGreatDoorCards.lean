/-
  DERIVED. GIVEN WITH THE SEED: THE CARDS: each row of YtdfdjfiognhbgaaGreatDoorRows.lean that lists a variable, with what it lists TIED to the program's text (the seventh form; the later family's looks); each row that meets fmt, with fmt's text TOLD by the authors' own Lean function (tested against real Go, not proved from fmt's source: count such statements apart). THE CARD IS WHAT COUNTS. Prove the row's statement (the work); the ties are given (YtdfdjfiognhbgaaGreatDoorTie.lean); close each card by the builder's one call (the guide's Derived/Test/ToyasCard.lean, 'card_holds'). Laid BY PROGRAM, IN A SANDBOX (cutbox-door.mjs). By AI agents, Wed Nov 11 2026. No macro, syntax, notation, axiom, sorry.
-/
import Derived.Test.YtdfdjfiognhbgaaGreatDoorRows
import GoSem.ClaimSeven
namespace Go.Proofs.YtdfdjfiognhbgaaGreatDoor
namespace Rows

/-- THE TIED CARD OF 'actuarylaw12.ElimDets'. -/
def elimDetsCard : Claim7 := { stood := { row := elimDetsRow, standIns := [], harness := (true, "68c32ab9cc28569df6cc684295c1535e28dcec67797ca37b83d2a73aed06bbf8"), looks := false }, kinds := [], alts := [], laidByText := true, laidKinds := [.data], laidTests := true, laidLooks := .later }
def ElimDetsCardSaid : Prop := Claim7.holds Tryz.pinned (.plain (OpenSpec.ofChange elimDetsSpec)) elimDetsCard

/-- THE TIED CARD OF 'actuarylaw13.LuParts'. -/
def luPartsCard : Claim7 := { stood := { row := luPartsRow, standIns := [], harness := (true, "68c32ab9cc28569df6cc684295c1535e28dcec67797ca37b83d2a73aed06bbf8"), looks := false }, kinds := [], alts := [], laidByText := true, laidKinds := [.data], laidTests := true, laidLooks := .later }
def LuPartsCardSaid : Prop := Claim7.holds Tryz.pinned (.plain (OpenSpec.ofChange luPartsSpec)) luPartsCard

/-- THE SECOND FORM's CARD OF 'actuarylaw12.ElimDets'. -/
def elimDetsUptoCard : Claim7 := { stood := { row := elimDetsUptoRow, standIns := [], harness := (true, "68c32ab9cc28569df6cc684295c1535e28dcec67797ca37b83d2a73aed06bbf8"), looks := false }, kinds := [], alts := [], laidByText := true, laidKinds := [.data], laidTests := true, laidLooks := .later }
def ElimDetsUptoCardSaid : Prop := Claim7.holds Tryz.pinned (.plain (OpenSpec.upto elimDetsSpec)) elimDetsUptoCard

/-- THE SECOND FORM's CARD OF 'actuarylaw13.LuParts'. -/
def luPartsUptoCard : Claim7 := { stood := { row := luPartsUptoRow, standIns := [], harness := (true, "68c32ab9cc28569df6cc684295c1535e28dcec67797ca37b83d2a73aed06bbf8"), looks := false }, kinds := [], alts := [], laidByText := true, laidKinds := [.data], laidTests := true, laidLooks := .later }
def LuPartsUptoCardSaid : Prop := Claim7.holds Tryz.pinned (.plain (OpenSpec.upto luPartsSpec)) luPartsUptoCard
end Rows
end Go.Proofs.YtdfdjfiognhbgaaGreatDoor
