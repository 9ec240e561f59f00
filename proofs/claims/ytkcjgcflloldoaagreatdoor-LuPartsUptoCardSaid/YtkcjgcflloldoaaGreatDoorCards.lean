/-
  DERIVED. GIVEN WITH THE SEED: THE CARDS: each row of YtkcjgcflloldoaaGreatDoorRows.lean that lists a variable, with what it lists TIED to the program's text (the seventh form; the later family's looks); each row that meets fmt, with fmt's text TOLD by the authors' own Lean function (tested against real Go, not proved from fmt's source: count such statements apart). THE CARD IS WHAT COUNTS. Prove the row's statement (the work); the ties are given (YtkcjgcflloldoaaGreatDoorTie.lean); close each card by the builder's one call (the guide's Derived/Test/ToyasCard.lean, 'card_holds'). Laid BY PROGRAM, IN A SANDBOX (cutbox-door.mjs). By AI agents, Wed Nov 11 2026. No macro, syntax, notation, axiom, sorry.
-/
import Derived.Test.YtkcjgcflloldoaaGreatDoorRows
import GoSem.ClaimSeven
namespace Go.Proofs.YtkcjgcflloldoaaGreatDoor
namespace Rows

/-- THE TIED CARD OF 'actuarylaw13.LuParts'. -/
def luPartsCard : Claim7 := { stood := { row := luPartsRow, standIns := [], harness := (true, "e33982d8343d38733ef4826e26dcbf4c7fcb33977144bfe121549eb807be8377"), looks := false }, kinds := [], alts := [], laidByText := true, laidKinds := [.data], laidTests := true, laidLooks := .later }
def LuPartsCardSaid : Prop := Claim7.holds Tryz.pinned (.plain (OpenSpec.ofChange luPartsSpec)) luPartsCard

/-- THE TIED CARD OF 'actuarylaw13.LuPivots'. -/
def luPivotsCard : Claim7 := { stood := { row := luPivotsRow, standIns := [], harness := (true, "e33982d8343d38733ef4826e26dcbf4c7fcb33977144bfe121549eb807be8377"), looks := false }, kinds := [], alts := [], laidByText := true, laidKinds := [.data], laidTests := true, laidLooks := .later }
def LuPivotsCardSaid : Prop := Claim7.holds Tryz.pinned (.plain (OpenSpec.ofChange luPivotsSpec)) luPivotsCard

/-- THE SECOND FORM's CARD OF 'actuarylaw13.LuParts'. -/
def luPartsUptoCard : Claim7 := { stood := { row := luPartsUptoRow, standIns := [], harness := (true, "e33982d8343d38733ef4826e26dcbf4c7fcb33977144bfe121549eb807be8377"), looks := false }, kinds := [], alts := [], laidByText := true, laidKinds := [.data], laidTests := true, laidLooks := .later }
def LuPartsUptoCardSaid : Prop := Claim7.holds Tryz.pinned (.plain (OpenSpec.upto luPartsSpec)) luPartsUptoCard

/-- THE SECOND FORM's CARD OF 'actuarylaw13.LuPivots'. -/
def luPivotsUptoCard : Claim7 := { stood := { row := luPivotsUptoRow, standIns := [], harness := (true, "e33982d8343d38733ef4826e26dcbf4c7fcb33977144bfe121549eb807be8377"), looks := false }, kinds := [], alts := [], laidByText := true, laidKinds := [.data], laidTests := true, laidLooks := .later }
def LuPivotsUptoCardSaid : Prop := Claim7.holds Tryz.pinned (.plain (OpenSpec.upto luPivotsSpec)) luPivotsUptoCard
end Rows
end Go.Proofs.YtkcjgcflloldoaaGreatDoor
