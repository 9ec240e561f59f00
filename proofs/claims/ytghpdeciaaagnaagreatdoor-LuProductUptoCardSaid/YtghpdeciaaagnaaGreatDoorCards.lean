/-
  DERIVED. GIVEN WITH THE SEED: THE CARDS: each row of YtghpdeciaaagnaaGreatDoorRows.lean that lists a variable, with what it lists TIED to the program's text (the seventh form; the later family's looks); each row that meets fmt, with fmt's text TOLD by the authors' own Lean function (tested against real Go, not proved from fmt's source: count such statements apart). THE CARD IS WHAT COUNTS. Prove the row's statement (the work); the ties are given (YtghpdeciaaagnaaGreatDoorTie.lean); close each card by the builder's one call (the guide's Derived/Test/ToyasCard.lean, 'card_holds'). Laid BY PROGRAM, IN A SANDBOX (cutbox-door.mjs). By AI agents, Wed Nov 11 2026. No macro, syntax, notation, axiom, sorry.
-/
import Derived.Test.YtghpdeciaaagnaaGreatDoorRows
import GoSem.ClaimSeven
namespace Go.Proofs.YtghpdeciaaagnaaGreatDoor
namespace Rows

/-- THE TIED CARD OF 'actuarylaw12.ElimDets'. -/
def elimDetsCard : Claim7 := { stood := { row := elimDetsRow, standIns := [], harness := (true, "671d144133e5c17bce8760c5a256876b196f51c62136870c7c7626a345b1c5fe"), looks := false }, kinds := [], alts := [], laidByText := true, laidKinds := [.data], laidTests := true, laidLooks := .later }
def ElimDetsCardSaid : Prop := Claim7.holds Tryz.pinned (.plain (OpenSpec.ofChange elimDetsSpec)) elimDetsCard

/-- THE TIED CARD OF 'actuarylaw12.ElimRanks'. -/
def elimRanksCard : Claim7 := { stood := { row := elimRanksRow, standIns := [], harness := (true, "671d144133e5c17bce8760c5a256876b196f51c62136870c7c7626a345b1c5fe"), looks := false }, kinds := [], alts := [], laidByText := true, laidKinds := [.data], laidTests := true, laidLooks := .later }
def ElimRanksCardSaid : Prop := Claim7.holds Tryz.pinned (.plain (OpenSpec.ofChange elimRanksSpec)) elimRanksCard

/-- THE TIED CARD OF 'actuarylaw12.ElimInverts'. -/
def elimInvertsCard : Claim7 := { stood := { row := elimInvertsRow, standIns := [], harness := (true, "671d144133e5c17bce8760c5a256876b196f51c62136870c7c7626a345b1c5fe"), looks := false }, kinds := [], alts := [], laidByText := true, laidKinds := [.data], laidTests := true, laidLooks := .later }
def ElimInvertsCardSaid : Prop := Claim7.holds Tryz.pinned (.plain (OpenSpec.ofChange elimInvertsSpec)) elimInvertsCard

/-- THE TIED CARD OF 'actuarylaw13.LuParts'. -/
def luPartsCard : Claim7 := { stood := { row := luPartsRow, standIns := [], harness := (true, "671d144133e5c17bce8760c5a256876b196f51c62136870c7c7626a345b1c5fe"), looks := false }, kinds := [], alts := [], laidByText := true, laidKinds := [.data], laidTests := true, laidLooks := .later }
def LuPartsCardSaid : Prop := Claim7.holds Tryz.pinned (.plain (OpenSpec.ofChange luPartsSpec)) luPartsCard

/-- THE TIED CARD OF 'actuarylaw13.LuSolves'. -/
def luSolvesCard : Claim7 := { stood := { row := luSolvesRow, standIns := [], harness := (true, "671d144133e5c17bce8760c5a256876b196f51c62136870c7c7626a345b1c5fe"), looks := false }, kinds := [], alts := [], laidByText := true, laidKinds := [.data], laidTests := true, laidLooks := .later }
def LuSolvesCardSaid : Prop := Claim7.holds Tryz.pinned (.plain (OpenSpec.ofChange luSolvesSpec)) luSolvesCard

/-- THE TIED CARD OF 'actuarylaw13.LuProduct'. -/
def luProductCard : Claim7 := { stood := { row := luProductRow, standIns := [], harness := (true, "671d144133e5c17bce8760c5a256876b196f51c62136870c7c7626a345b1c5fe"), looks := false }, kinds := [], alts := [], laidByText := true, laidKinds := [.data], laidTests := true, laidLooks := .later }
def LuProductCardSaid : Prop := Claim7.holds Tryz.pinned (.plain (OpenSpec.ofChange luProductSpec)) luProductCard

/-- THE TIED CARD OF 'actuarylaw13.LuPivots'. -/
def luPivotsCard : Claim7 := { stood := { row := luPivotsRow, standIns := [], harness := (true, "671d144133e5c17bce8760c5a256876b196f51c62136870c7c7626a345b1c5fe"), looks := false }, kinds := [], alts := [], laidByText := true, laidKinds := [.data], laidTests := true, laidLooks := .later }
def LuPivotsCardSaid : Prop := Claim7.holds Tryz.pinned (.plain (OpenSpec.ofChange luPivotsSpec)) luPivotsCard

/-- THE TIED CARD OF 'actuarylaw13.LuBack'. -/
def luBackCard : Claim7 := { stood := { row := luBackRow, standIns := [], harness := (true, "671d144133e5c17bce8760c5a256876b196f51c62136870c7c7626a345b1c5fe"), looks := false }, kinds := [], alts := [], laidByText := true, laidKinds := [.data], laidTests := true, laidLooks := .later }
def LuBackCardSaid : Prop := Claim7.holds Tryz.pinned (.plain (OpenSpec.ofChange luBackSpec)) luBackCard

/-- THE TIED CARD OF 'actuarylaw13.LuMade'. -/
def luMadeCard : Claim7 := { stood := { row := luMadeRow, standIns := [], harness := (true, "671d144133e5c17bce8760c5a256876b196f51c62136870c7c7626a345b1c5fe"), looks := false }, kinds := [], alts := [], laidByText := true, laidKinds := [.data], laidTests := true, laidLooks := .later }
def LuMadeCardSaid : Prop := Claim7.holds Tryz.pinned (.plain (OpenSpec.ofChange luMadeSpec)) luMadeCard

/-- THE SECOND FORM's CARD OF 'actuarylaw12.ElimDets'. -/
def elimDetsUptoCard : Claim7 := { stood := { row := elimDetsUptoRow, standIns := [], harness := (true, "671d144133e5c17bce8760c5a256876b196f51c62136870c7c7626a345b1c5fe"), looks := false }, kinds := [], alts := [], laidByText := true, laidKinds := [.data], laidTests := true, laidLooks := .later }
def ElimDetsUptoCardSaid : Prop := Claim7.holds Tryz.pinned (.plain (OpenSpec.upto elimDetsSpec)) elimDetsUptoCard

/-- THE SECOND FORM's CARD OF 'actuarylaw12.ElimRanks'. -/
def elimRanksUptoCard : Claim7 := { stood := { row := elimRanksUptoRow, standIns := [], harness := (true, "671d144133e5c17bce8760c5a256876b196f51c62136870c7c7626a345b1c5fe"), looks := false }, kinds := [], alts := [], laidByText := true, laidKinds := [.data], laidTests := true, laidLooks := .later }
def ElimRanksUptoCardSaid : Prop := Claim7.holds Tryz.pinned (.plain (OpenSpec.upto elimRanksSpec)) elimRanksUptoCard

/-- THE SECOND FORM's CARD OF 'actuarylaw12.ElimInverts'. -/
def elimInvertsUptoCard : Claim7 := { stood := { row := elimInvertsUptoRow, standIns := [], harness := (true, "671d144133e5c17bce8760c5a256876b196f51c62136870c7c7626a345b1c5fe"), looks := false }, kinds := [], alts := [], laidByText := true, laidKinds := [.data], laidTests := true, laidLooks := .later }
def ElimInvertsUptoCardSaid : Prop := Claim7.holds Tryz.pinned (.plain (OpenSpec.upto elimInvertsSpec)) elimInvertsUptoCard

/-- THE SECOND FORM's CARD OF 'actuarylaw13.LuParts'. -/
def luPartsUptoCard : Claim7 := { stood := { row := luPartsUptoRow, standIns := [], harness := (true, "671d144133e5c17bce8760c5a256876b196f51c62136870c7c7626a345b1c5fe"), looks := false }, kinds := [], alts := [], laidByText := true, laidKinds := [.data], laidTests := true, laidLooks := .later }
def LuPartsUptoCardSaid : Prop := Claim7.holds Tryz.pinned (.plain (OpenSpec.upto luPartsSpec)) luPartsUptoCard

/-- THE SECOND FORM's CARD OF 'actuarylaw13.LuSolves'. -/
def luSolvesUptoCard : Claim7 := { stood := { row := luSolvesUptoRow, standIns := [], harness := (true, "671d144133e5c17bce8760c5a256876b196f51c62136870c7c7626a345b1c5fe"), looks := false }, kinds := [], alts := [], laidByText := true, laidKinds := [.data], laidTests := true, laidLooks := .later }
def LuSolvesUptoCardSaid : Prop := Claim7.holds Tryz.pinned (.plain (OpenSpec.upto luSolvesSpec)) luSolvesUptoCard

/-- THE SECOND FORM's CARD OF 'actuarylaw13.LuProduct'. -/
def luProductUptoCard : Claim7 := { stood := { row := luProductUptoRow, standIns := [], harness := (true, "671d144133e5c17bce8760c5a256876b196f51c62136870c7c7626a345b1c5fe"), looks := false }, kinds := [], alts := [], laidByText := true, laidKinds := [.data], laidTests := true, laidLooks := .later }
def LuProductUptoCardSaid : Prop := Claim7.holds Tryz.pinned (.plain (OpenSpec.upto luProductSpec)) luProductUptoCard

/-- THE SECOND FORM's CARD OF 'actuarylaw13.LuPivots'. -/
def luPivotsUptoCard : Claim7 := { stood := { row := luPivotsUptoRow, standIns := [], harness := (true, "671d144133e5c17bce8760c5a256876b196f51c62136870c7c7626a345b1c5fe"), looks := false }, kinds := [], alts := [], laidByText := true, laidKinds := [.data], laidTests := true, laidLooks := .later }
def LuPivotsUptoCardSaid : Prop := Claim7.holds Tryz.pinned (.plain (OpenSpec.upto luPivotsSpec)) luPivotsUptoCard

/-- THE SECOND FORM's CARD OF 'actuarylaw13.LuBack'. -/
def luBackUptoCard : Claim7 := { stood := { row := luBackUptoRow, standIns := [], harness := (true, "671d144133e5c17bce8760c5a256876b196f51c62136870c7c7626a345b1c5fe"), looks := false }, kinds := [], alts := [], laidByText := true, laidKinds := [.data], laidTests := true, laidLooks := .later }
def LuBackUptoCardSaid : Prop := Claim7.holds Tryz.pinned (.plain (OpenSpec.upto luBackSpec)) luBackUptoCard

/-- THE SECOND FORM's CARD OF 'actuarylaw13.LuMade'. -/
def luMadeUptoCard : Claim7 := { stood := { row := luMadeUptoRow, standIns := [], harness := (true, "671d144133e5c17bce8760c5a256876b196f51c62136870c7c7626a345b1c5fe"), looks := false }, kinds := [], alts := [], laidByText := true, laidKinds := [.data], laidTests := true, laidLooks := .later }
def LuMadeUptoCardSaid : Prop := Claim7.holds Tryz.pinned (.plain (OpenSpec.upto luMadeSpec)) luMadeUptoCard
end Rows
end Go.Proofs.YtghpdeciaaagnaaGreatDoor
