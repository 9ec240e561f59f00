/-
  DERIVED. GIVEN WITH THE SEED: THE CARDS: each row of YtkiedljcgkoaiaaGreatDoorRows.lean that lists a variable, with what it lists TIED to the program's text (the seventh form; the later family's looks); each row that meets fmt, with fmt's text TOLD by the authors' own Lean function (tested against real Go, not proved from fmt's source: count such statements apart). THE CARD IS WHAT COUNTS. Prove the row's statement (the work); the ties are given (YtkiedljcgkoaiaaGreatDoorTie.lean); close each card by the builder's one call (the guide's Derived/Test/ToyasCard.lean, 'card_holds'). Laid BY PROGRAM, IN A SANDBOX (cutbox-door.mjs). By AI agents, Wed Nov 11 2026. No macro, syntax, notation, axiom, sorry.
-/
import Derived.Test.YtkiedljcgkoaiaaGreatDoorRows
import GoSem.ClaimSeven
namespace Go.Proofs.YtkiedljcgkoaiaaGreatDoor
namespace Rows

/-- THE TIED CARD OF 'actuarylaw10.VecReckons'. -/
def vecReckonsCard : Claim7 := { stood := { row := vecReckonsRow, standIns := [], harness := (true, "f6363a9a80a39a8769e0c582a2af786b2fbf9a2b277ce0c10d4c94d522f4dcd2"), looks := false }, kinds := [], alts := [], laidByText := true, laidKinds := [.data], laidTests := true, laidLooks := .later }
def VecReckonsCardSaid : Prop := Claim7.holds Tryz.pinned (.plain (OpenSpec.ofChange vecReckonsSpec)) vecReckonsCard

/-- THE TIED CARD OF 'actuarylaw10.VecTells'. -/
def vecTellsCard : Claim7 := { stood := { row := vecTellsRow, standIns := [], harness := (true, "f6363a9a80a39a8769e0c582a2af786b2fbf9a2b277ce0c10d4c94d522f4dcd2"), looks := false }, kinds := [], alts := [], laidByText := true, laidKinds := [.data], laidTests := true, laidLooks := .later }
def VecTellsCardSaid : Prop := Claim7.holds Tryz.pinned (.plain (OpenSpec.ofChange vecTellsSpec)) vecTellsCard

/-- THE TIED CARD OF 'actuarylaw10.VecRoom'. -/
def vecRoomCard : Claim7 := { stood := { row := vecRoomRow, standIns := [], harness := (true, "f6363a9a80a39a8769e0c582a2af786b2fbf9a2b277ce0c10d4c94d522f4dcd2"), looks := false }, kinds := [], alts := [], laidByText := true, laidKinds := [.data], laidTests := true, laidLooks := .later }
def VecRoomCardSaid : Prop := Claim7.holds Tryz.pinned (.plain (OpenSpec.ofChange vecRoomSpec)) vecRoomCard

/-- THE TIED CARD OF 'actuarylaw10.VecOrder'. -/
def vecOrderCard : Claim7 := { stood := { row := vecOrderRow, standIns := [], harness := (true, "f6363a9a80a39a8769e0c582a2af786b2fbf9a2b277ce0c10d4c94d522f4dcd2"), looks := false }, kinds := [], alts := [], laidByText := true, laidKinds := [.data], laidTests := true, laidLooks := .later }
def VecOrderCardSaid : Prop := Claim7.holds Tryz.pinned (.plain (OpenSpec.ofChange vecOrderSpec)) vecOrderCard

/-- THE TIED CARD OF 'actuarylaw10.VecCombines'. -/
def vecCombinesCard : Claim7 := { stood := { row := vecCombinesRow, standIns := [], harness := (true, "f6363a9a80a39a8769e0c582a2af786b2fbf9a2b277ce0c10d4c94d522f4dcd2"), looks := false }, kinds := [], alts := [], laidByText := true, laidKinds := [.data], laidTests := true, laidLooks := .later }
def VecCombinesCardSaid : Prop := Claim7.holds Tryz.pinned (.plain (OpenSpec.ofChange vecCombinesSpec)) vecCombinesCard

/-- THE TIED CARD OF 'actuarylaw10.VecSquares'. -/
def vecSquaresCard : Claim7 := { stood := { row := vecSquaresRow, standIns := [], harness := (true, "f6363a9a80a39a8769e0c582a2af786b2fbf9a2b277ce0c10d4c94d522f4dcd2"), looks := false }, kinds := [], alts := [], laidByText := true, laidKinds := [.data], laidTests := true, laidLooks := .later }
def VecSquaresCardSaid : Prop := Claim7.holds Tryz.pinned (.plain (OpenSpec.ofChange vecSquaresSpec)) vecSquaresCard

/-- THE SECOND FORM's CARD OF 'actuarylaw10.VecReckons'. -/
def vecReckonsUptoCard : Claim7 := { stood := { row := vecReckonsUptoRow, standIns := [], harness := (true, "f6363a9a80a39a8769e0c582a2af786b2fbf9a2b277ce0c10d4c94d522f4dcd2"), looks := false }, kinds := [], alts := [], laidByText := true, laidKinds := [.data], laidTests := true, laidLooks := .later }
def VecReckonsUptoCardSaid : Prop := Claim7.holds Tryz.pinned (.plain (OpenSpec.upto vecReckonsSpec)) vecReckonsUptoCard

/-- THE SECOND FORM's CARD OF 'actuarylaw10.VecTells'. -/
def vecTellsUptoCard : Claim7 := { stood := { row := vecTellsUptoRow, standIns := [], harness := (true, "f6363a9a80a39a8769e0c582a2af786b2fbf9a2b277ce0c10d4c94d522f4dcd2"), looks := false }, kinds := [], alts := [], laidByText := true, laidKinds := [.data], laidTests := true, laidLooks := .later }
def VecTellsUptoCardSaid : Prop := Claim7.holds Tryz.pinned (.plain (OpenSpec.upto vecTellsSpec)) vecTellsUptoCard

/-- THE SECOND FORM's CARD OF 'actuarylaw10.VecRoom'. -/
def vecRoomUptoCard : Claim7 := { stood := { row := vecRoomUptoRow, standIns := [], harness := (true, "f6363a9a80a39a8769e0c582a2af786b2fbf9a2b277ce0c10d4c94d522f4dcd2"), looks := false }, kinds := [], alts := [], laidByText := true, laidKinds := [.data], laidTests := true, laidLooks := .later }
def VecRoomUptoCardSaid : Prop := Claim7.holds Tryz.pinned (.plain (OpenSpec.upto vecRoomSpec)) vecRoomUptoCard

/-- THE SECOND FORM's CARD OF 'actuarylaw10.VecOrder'. -/
def vecOrderUptoCard : Claim7 := { stood := { row := vecOrderUptoRow, standIns := [], harness := (true, "f6363a9a80a39a8769e0c582a2af786b2fbf9a2b277ce0c10d4c94d522f4dcd2"), looks := false }, kinds := [], alts := [], laidByText := true, laidKinds := [.data], laidTests := true, laidLooks := .later }
def VecOrderUptoCardSaid : Prop := Claim7.holds Tryz.pinned (.plain (OpenSpec.upto vecOrderSpec)) vecOrderUptoCard

/-- THE SECOND FORM's CARD OF 'actuarylaw10.VecCombines'. -/
def vecCombinesUptoCard : Claim7 := { stood := { row := vecCombinesUptoRow, standIns := [], harness := (true, "f6363a9a80a39a8769e0c582a2af786b2fbf9a2b277ce0c10d4c94d522f4dcd2"), looks := false }, kinds := [], alts := [], laidByText := true, laidKinds := [.data], laidTests := true, laidLooks := .later }
def VecCombinesUptoCardSaid : Prop := Claim7.holds Tryz.pinned (.plain (OpenSpec.upto vecCombinesSpec)) vecCombinesUptoCard

/-- THE SECOND FORM's CARD OF 'actuarylaw10.VecSquares'. -/
def vecSquaresUptoCard : Claim7 := { stood := { row := vecSquaresUptoRow, standIns := [], harness := (true, "f6363a9a80a39a8769e0c582a2af786b2fbf9a2b277ce0c10d4c94d522f4dcd2"), looks := false }, kinds := [], alts := [], laidByText := true, laidKinds := [.data], laidTests := true, laidLooks := .later }
def VecSquaresUptoCardSaid : Prop := Claim7.holds Tryz.pinned (.plain (OpenSpec.upto vecSquaresSpec)) vecSquaresUptoCard
end Rows
end Go.Proofs.YtkiedljcgkoaiaaGreatDoor
