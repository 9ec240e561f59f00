/-
  DERIVED. GIVEN WITH THE SEED: THE CARDS: each row of YtfieheffipfahaaGreatDoorRows.lean that lists a variable, with what it lists TIED to the program's text (the seventh form; the later family's looks); each row that meets fmt, with fmt's text TOLD by the authors' own Lean function (tested against real Go, not proved from fmt's source: count such statements apart). THE CARD IS WHAT COUNTS. Prove the row's statement (the work); the ties are given (YtfieheffipfahaaGreatDoorTie.lean); close each card by the builder's one call (the guide's Derived/Test/ToyasCard.lean, 'card_holds'). Laid BY PROGRAM, IN A SANDBOX (cutbox-door.mjs). By AI agents, Wed Nov 11 2026. No macro, syntax, notation, axiom, sorry.
-/
import Derived.Test.YtfieheffipfahaaGreatDoorRows
import GoSem.ClaimSeven
namespace Go.Proofs.YtfieheffipfahaaGreatDoor
namespace Rows

/-- THE TIED CARD OF 'actuarylaw09.PackTells'. -/
def packTellsCard : Claim7 := { stood := { row := packTellsRow, standIns := [], harness := (true, "f97b0f70ca68826023f5e94cbec88bf9c97515705fa5863343a14fd11e0e7031"), looks := true }, kinds := [], alts := [], laidByText := true, laidKinds := [.data, .handle], laidTests := true, laidLooks := .later }
def PackTellsCardSaid : Prop := Claim7.holds Tryz.pinned (.plain (OpenSpec.ofChange packTellsSpec)) packTellsCard

/-- THE TIED CARD OF 'actuarylaw09.PackReads'. -/
def packReadsCard : Claim7 := { stood := { row := packReadsRow, standIns := [], harness := (true, "f97b0f70ca68826023f5e94cbec88bf9c97515705fa5863343a14fd11e0e7031"), looks := true }, kinds := [], alts := [], laidByText := true, laidKinds := [.data, .handle], laidTests := true, laidLooks := .later }
def PackReadsCardSaid : Prop := Claim7.holds Tryz.pinned (.plain (OpenSpec.ofChange packReadsSpec)) packReadsCard

/-- THE TIED CARD OF 'actuarylaw09.PackBack'. -/
def packBackCard : Claim7 := { stood := { row := packBackRow, standIns := [], harness := (true, "f97b0f70ca68826023f5e94cbec88bf9c97515705fa5863343a14fd11e0e7031"), looks := true }, kinds := [], alts := [], laidByText := true, laidKinds := [.data, .handle], laidTests := true, laidLooks := .later }
def PackBackCardSaid : Prop := Claim7.holds Tryz.pinned (.plain (OpenSpec.ofChange packBackSpec)) packBackCard

/-- THE TIED CARD OF 'actuarylaw09.PackShort'. -/
def packShortCard : Claim7 := { stood := { row := packShortRow, standIns := [], harness := (true, "f97b0f70ca68826023f5e94cbec88bf9c97515705fa5863343a14fd11e0e7031"), looks := true }, kinds := [], alts := [], laidByText := true, laidKinds := [.data, .handle], laidTests := true, laidLooks := .later }
def PackShortCardSaid : Prop := Claim7.holds Tryz.pinned (.plain (OpenSpec.ofChange packShortSpec)) packShortCard

/-- THE TIED CARD OF 'actuarylaw09.PackOne'. -/
def packOneCard : Claim7 := { stood := { row := packOneRow, standIns := [], harness := (true, "f97b0f70ca68826023f5e94cbec88bf9c97515705fa5863343a14fd11e0e7031"), looks := true }, kinds := [], alts := [], laidByText := true, laidKinds := [.data, .handle], laidTests := true, laidLooks := .later }
def PackOneCardSaid : Prop := Claim7.holds Tryz.pinned (.plain (OpenSpec.ofChange packOneSpec)) packOneCard

/-- THE TIED CARD OF 'actuarylaw09.PackErrors'. -/
def packErrorsCard : Claim7 := { stood := { row := packErrorsRow, standIns := [], harness := (true, "f97b0f70ca68826023f5e94cbec88bf9c97515705fa5863343a14fd11e0e7031"), looks := true }, kinds := [], alts := [], laidByText := true, laidKinds := [.data, .handle], laidTests := true, laidLooks := .later }
def PackErrorsCardSaid : Prop := Claim7.holds Tryz.pinned (.plain (OpenSpec.ofChange packErrorsSpec)) packErrorsCard

/-- THE TIED CARD OF 'actuarylaw09.PackSizes'. -/
def packSizesCard : Claim7 := { stood := { row := packSizesRow, standIns := [], harness := (true, "f97b0f70ca68826023f5e94cbec88bf9c97515705fa5863343a14fd11e0e7031"), looks := true }, kinds := [], alts := [], laidByText := true, laidKinds := [.data, .handle], laidTests := true, laidLooks := .later }
def PackSizesCardSaid : Prop := Claim7.holds Tryz.pinned (.plain (OpenSpec.ofChange packSizesSpec)) packSizesCard

/-- THE SECOND FORM's CARD OF 'actuarylaw09.PackTells'. -/
def packTellsUptoCard : Claim7 := { stood := { row := packTellsUptoRow, standIns := [], harness := (true, "f97b0f70ca68826023f5e94cbec88bf9c97515705fa5863343a14fd11e0e7031"), looks := true }, kinds := [], alts := [], laidByText := true, laidKinds := [.data, .handle], laidTests := true, laidLooks := .later }
def PackTellsUptoCardSaid : Prop := Claim7.holds Tryz.pinned (.plain (OpenSpec.upto packTellsSpec)) packTellsUptoCard

/-- THE SECOND FORM's CARD OF 'actuarylaw09.PackReads'. -/
def packReadsUptoCard : Claim7 := { stood := { row := packReadsUptoRow, standIns := [], harness := (true, "f97b0f70ca68826023f5e94cbec88bf9c97515705fa5863343a14fd11e0e7031"), looks := true }, kinds := [], alts := [], laidByText := true, laidKinds := [.data, .handle], laidTests := true, laidLooks := .later }
def PackReadsUptoCardSaid : Prop := Claim7.holds Tryz.pinned (.plain (OpenSpec.upto packReadsSpec)) packReadsUptoCard

/-- THE SECOND FORM's CARD OF 'actuarylaw09.PackBack'. -/
def packBackUptoCard : Claim7 := { stood := { row := packBackUptoRow, standIns := [], harness := (true, "f97b0f70ca68826023f5e94cbec88bf9c97515705fa5863343a14fd11e0e7031"), looks := true }, kinds := [], alts := [], laidByText := true, laidKinds := [.data, .handle], laidTests := true, laidLooks := .later }
def PackBackUptoCardSaid : Prop := Claim7.holds Tryz.pinned (.plain (OpenSpec.upto packBackSpec)) packBackUptoCard

/-- THE SECOND FORM's CARD OF 'actuarylaw09.PackShort'. -/
def packShortUptoCard : Claim7 := { stood := { row := packShortUptoRow, standIns := [], harness := (true, "f97b0f70ca68826023f5e94cbec88bf9c97515705fa5863343a14fd11e0e7031"), looks := true }, kinds := [], alts := [], laidByText := true, laidKinds := [.data, .handle], laidTests := true, laidLooks := .later }
def PackShortUptoCardSaid : Prop := Claim7.holds Tryz.pinned (.plain (OpenSpec.upto packShortSpec)) packShortUptoCard

/-- THE SECOND FORM's CARD OF 'actuarylaw09.PackOne'. -/
def packOneUptoCard : Claim7 := { stood := { row := packOneUptoRow, standIns := [], harness := (true, "f97b0f70ca68826023f5e94cbec88bf9c97515705fa5863343a14fd11e0e7031"), looks := true }, kinds := [], alts := [], laidByText := true, laidKinds := [.data, .handle], laidTests := true, laidLooks := .later }
def PackOneUptoCardSaid : Prop := Claim7.holds Tryz.pinned (.plain (OpenSpec.upto packOneSpec)) packOneUptoCard

/-- THE SECOND FORM's CARD OF 'actuarylaw09.PackErrors'. -/
def packErrorsUptoCard : Claim7 := { stood := { row := packErrorsUptoRow, standIns := [], harness := (true, "f97b0f70ca68826023f5e94cbec88bf9c97515705fa5863343a14fd11e0e7031"), looks := true }, kinds := [], alts := [], laidByText := true, laidKinds := [.data, .handle], laidTests := true, laidLooks := .later }
def PackErrorsUptoCardSaid : Prop := Claim7.holds Tryz.pinned (.plain (OpenSpec.upto packErrorsSpec)) packErrorsUptoCard

/-- THE SECOND FORM's CARD OF 'actuarylaw09.PackSizes'. -/
def packSizesUptoCard : Claim7 := { stood := { row := packSizesUptoRow, standIns := [], harness := (true, "f97b0f70ca68826023f5e94cbec88bf9c97515705fa5863343a14fd11e0e7031"), looks := true }, kinds := [], alts := [], laidByText := true, laidKinds := [.data, .handle], laidTests := true, laidLooks := .later }
def PackSizesUptoCardSaid : Prop := Claim7.holds Tryz.pinned (.plain (OpenSpec.upto packSizesSpec)) packSizesUptoCard
end Rows
end Go.Proofs.YtfieheffipfahaaGreatDoor
