/-
  DERIVED. GIVEN WITH THE SEED: THE CARDS: each row of YtlgnacmgepnamaaGreatDoorRows.lean that lists a variable, with what it lists TIED to the program's text (the seventh form; the later family's looks); each row that meets fmt, with fmt's text TOLD by the authors' own Lean function (tested against real Go, not proved from fmt's source: count such statements apart). THE CARD IS WHAT COUNTS. Prove the row's statement (the work); the ties are given (YtlgnacmgepnamaaGreatDoorTie.lean); close each card by the builder's one call (the guide's Derived/Test/ToyasCard.lean, 'card_holds'). Laid BY PROGRAM, IN A SANDBOX (cutbox-door.mjs). By AI agents, Wed Nov 11 2026. No macro, syntax, notation, axiom, sorry.
-/
import Derived.Test.YtlgnacmgepnamaaGreatDoorRows
import GoSem.ClaimSeven
namespace Go.Proofs.YtlgnacmgepnamaaGreatDoor
namespace Rows

/-- THE TIED CARD OF 'actuarylaw11.MatMakes'. -/
def matMakesCard : Claim7 := { stood := { row := matMakesRow, standIns := [], harness := (true, "7df96a01b47aaf0b5ba78515966a5edcf58dec20de490b4e4cfaabf495024285"), looks := false }, kinds := [], alts := [], laidByText := true, laidKinds := [.data], laidTests := true, laidLooks := .later }
def MatMakesCardSaid : Prop := Claim7.holds Tryz.pinned (.plain (OpenSpec.ofChange matMakesSpec)) matMakesCard

/-- THE TIED CARD OF 'actuarylaw11.MatChanges'. -/
def matChangesCard : Claim7 := { stood := { row := matChangesRow, standIns := [], harness := (true, "7df96a01b47aaf0b5ba78515966a5edcf58dec20de490b4e4cfaabf495024285"), looks := false }, kinds := [], alts := [], laidByText := true, laidKinds := [.data], laidTests := true, laidLooks := .later }
def MatChangesCardSaid : Prop := Claim7.holds Tryz.pinned (.plain (OpenSpec.ofChange matChangesSpec)) matChangesCard

/-- THE TIED CARD OF 'actuarylaw11.MatMuls'. -/
def matMulsCard : Claim7 := { stood := { row := matMulsRow, standIns := [], harness := (true, "7df96a01b47aaf0b5ba78515966a5edcf58dec20de490b4e4cfaabf495024285"), looks := false }, kinds := [], alts := [], laidByText := true, laidKinds := [.data], laidTests := true, laidLooks := .later }
def MatMulsCardSaid : Prop := Claim7.holds Tryz.pinned (.plain (OpenSpec.ofChange matMulsSpec)) matMulsCard

/-- THE TIED CARD OF 'actuarylaw11.MatTurns'. -/
def matTurnsCard : Claim7 := { stood := { row := matTurnsRow, standIns := [], harness := (true, "7df96a01b47aaf0b5ba78515966a5edcf58dec20de490b4e4cfaabf495024285"), looks := false }, kinds := [], alts := [], laidByText := true, laidKinds := [.data], laidTests := true, laidLooks := .later }
def MatTurnsCardSaid : Prop := Claim7.holds Tryz.pinned (.plain (OpenSpec.ofChange matTurnsSpec)) matTurnsCard

/-- THE TIED CARD OF 'actuarylaw11.MatGroups'. -/
def matGroupsCard : Claim7 := { stood := { row := matGroupsRow, standIns := [], harness := (true, "7df96a01b47aaf0b5ba78515966a5edcf58dec20de490b4e4cfaabf495024285"), looks := false }, kinds := [], alts := [], laidByText := true, laidKinds := [.data], laidTests := true, laidLooks := .later }
def MatGroupsCardSaid : Prop := Claim7.holds Tryz.pinned (.plain (OpenSpec.ofChange matGroupsSpec)) matGroupsCard

/-- THE TIED CARD OF 'actuarylaw11.MatSame'. -/
def matSameCard : Claim7 := { stood := { row := matSameRow, standIns := [], harness := (true, "7df96a01b47aaf0b5ba78515966a5edcf58dec20de490b4e4cfaabf495024285"), looks := false }, kinds := [], alts := [], laidByText := true, laidKinds := [.data], laidTests := true, laidLooks := .later }
def MatSameCardSaid : Prop := Claim7.holds Tryz.pinned (.plain (OpenSpec.ofChange matSameSpec)) matSameCard

/-- THE SECOND FORM's CARD OF 'actuarylaw11.MatMakes'. -/
def matMakesUptoCard : Claim7 := { stood := { row := matMakesUptoRow, standIns := [], harness := (true, "7df96a01b47aaf0b5ba78515966a5edcf58dec20de490b4e4cfaabf495024285"), looks := false }, kinds := [], alts := [], laidByText := true, laidKinds := [.data], laidTests := true, laidLooks := .later }
def MatMakesUptoCardSaid : Prop := Claim7.holds Tryz.pinned (.plain (OpenSpec.upto matMakesSpec)) matMakesUptoCard

/-- THE SECOND FORM's CARD OF 'actuarylaw11.MatChanges'. -/
def matChangesUptoCard : Claim7 := { stood := { row := matChangesUptoRow, standIns := [], harness := (true, "7df96a01b47aaf0b5ba78515966a5edcf58dec20de490b4e4cfaabf495024285"), looks := false }, kinds := [], alts := [], laidByText := true, laidKinds := [.data], laidTests := true, laidLooks := .later }
def MatChangesUptoCardSaid : Prop := Claim7.holds Tryz.pinned (.plain (OpenSpec.upto matChangesSpec)) matChangesUptoCard

/-- THE SECOND FORM's CARD OF 'actuarylaw11.MatMuls'. -/
def matMulsUptoCard : Claim7 := { stood := { row := matMulsUptoRow, standIns := [], harness := (true, "7df96a01b47aaf0b5ba78515966a5edcf58dec20de490b4e4cfaabf495024285"), looks := false }, kinds := [], alts := [], laidByText := true, laidKinds := [.data], laidTests := true, laidLooks := .later }
def MatMulsUptoCardSaid : Prop := Claim7.holds Tryz.pinned (.plain (OpenSpec.upto matMulsSpec)) matMulsUptoCard

/-- THE SECOND FORM's CARD OF 'actuarylaw11.MatTurns'. -/
def matTurnsUptoCard : Claim7 := { stood := { row := matTurnsUptoRow, standIns := [], harness := (true, "7df96a01b47aaf0b5ba78515966a5edcf58dec20de490b4e4cfaabf495024285"), looks := false }, kinds := [], alts := [], laidByText := true, laidKinds := [.data], laidTests := true, laidLooks := .later }
def MatTurnsUptoCardSaid : Prop := Claim7.holds Tryz.pinned (.plain (OpenSpec.upto matTurnsSpec)) matTurnsUptoCard

/-- THE SECOND FORM's CARD OF 'actuarylaw11.MatGroups'. -/
def matGroupsUptoCard : Claim7 := { stood := { row := matGroupsUptoRow, standIns := [], harness := (true, "7df96a01b47aaf0b5ba78515966a5edcf58dec20de490b4e4cfaabf495024285"), looks := false }, kinds := [], alts := [], laidByText := true, laidKinds := [.data], laidTests := true, laidLooks := .later }
def MatGroupsUptoCardSaid : Prop := Claim7.holds Tryz.pinned (.plain (OpenSpec.upto matGroupsSpec)) matGroupsUptoCard

/-- THE SECOND FORM's CARD OF 'actuarylaw11.MatSame'. -/
def matSameUptoCard : Claim7 := { stood := { row := matSameUptoRow, standIns := [], harness := (true, "7df96a01b47aaf0b5ba78515966a5edcf58dec20de490b4e4cfaabf495024285"), looks := false }, kinds := [], alts := [], laidByText := true, laidKinds := [.data], laidTests := true, laidLooks := .later }
def MatSameUptoCardSaid : Prop := Claim7.holds Tryz.pinned (.plain (OpenSpec.upto matSameSpec)) matSameUptoCard
end Rows
end Go.Proofs.YtlgnacmgepnamaaGreatDoor
