/-
  DERIVED. GIVEN WITH THE SEED: THE CARDS: each row of YtielpgdebeggbaaGreatDoorRows.lean that lists a variable, with what it lists TIED to the program's text (the seventh form; the later family's looks); each row that meets fmt, with fmt's text TOLD by the authors' own Lean function (tested against real Go, not proved from fmt's source: count such statements apart). THE CARD IS WHAT COUNTS. Prove the row's statement (the work); the ties are given (YtielpgdebeggbaaGreatDoorTie.lean); close each card by the builder's one call (the guide's Derived/Test/ToyasCard.lean, 'card_holds'). Laid BY PROGRAM, IN A SANDBOX (cutbox-door.mjs). By AI agents, Wed Nov 11 2026. No macro, syntax, notation, axiom, sorry.
-/
import Derived.Test.YtielpgdebeggbaaGreatDoorRows
import GoSem.ClaimSeven
namespace Go.Proofs.YtielpgdebeggbaaGreatDoor
namespace Rows

/-- THE TIED CARD OF 'actuarylaw13.LuProduct'. -/
def luProductCard : Claim7 := { stood := { row := luProductRow, standIns := [], harness := (true, "37c8d7c4b26b380ed5f959e8ed906cf7b2e9ecdc4480c2c2da3d0492a3719155"), looks := false }, kinds := [], alts := [], laidByText := true, laidKinds := [.data], laidTests := true, laidLooks := .later }
def LuProductCardSaid : Prop := Claim7.holds Tryz.pinned (.plain (OpenSpec.ofChange luProductSpec)) luProductCard

/-- THE TIED CARD OF 'actuarylaw13.LuPivots'. -/
def luPivotsCard : Claim7 := { stood := { row := luPivotsRow, standIns := [], harness := (true, "37c8d7c4b26b380ed5f959e8ed906cf7b2e9ecdc4480c2c2da3d0492a3719155"), looks := false }, kinds := [], alts := [], laidByText := true, laidKinds := [.data], laidTests := true, laidLooks := .later }
def LuPivotsCardSaid : Prop := Claim7.holds Tryz.pinned (.plain (OpenSpec.ofChange luPivotsSpec)) luPivotsCard

/-- THE TIED CARD OF 'actuarylaw13.LuBack'. -/
def luBackCard : Claim7 := { stood := { row := luBackRow, standIns := [], harness := (true, "37c8d7c4b26b380ed5f959e8ed906cf7b2e9ecdc4480c2c2da3d0492a3719155"), looks := false }, kinds := [], alts := [], laidByText := true, laidKinds := [.data], laidTests := true, laidLooks := .later }
def LuBackCardSaid : Prop := Claim7.holds Tryz.pinned (.plain (OpenSpec.ofChange luBackSpec)) luBackCard

/-- THE TIED CARD OF 'actuarylaw13.LuMade'. -/
def luMadeCard : Claim7 := { stood := { row := luMadeRow, standIns := [], harness := (true, "37c8d7c4b26b380ed5f959e8ed906cf7b2e9ecdc4480c2c2da3d0492a3719155"), looks := false }, kinds := [], alts := [], laidByText := true, laidKinds := [.data], laidTests := true, laidLooks := .later }
def LuMadeCardSaid : Prop := Claim7.holds Tryz.pinned (.plain (OpenSpec.ofChange luMadeSpec)) luMadeCard

/-- THE SECOND FORM's CARD OF 'actuarylaw13.LuProduct'. -/
def luProductUptoCard : Claim7 := { stood := { row := luProductUptoRow, standIns := [], harness := (true, "37c8d7c4b26b380ed5f959e8ed906cf7b2e9ecdc4480c2c2da3d0492a3719155"), looks := false }, kinds := [], alts := [], laidByText := true, laidKinds := [.data], laidTests := true, laidLooks := .later }
def LuProductUptoCardSaid : Prop := Claim7.holds Tryz.pinned (.plain (OpenSpec.upto luProductSpec)) luProductUptoCard

/-- THE SECOND FORM's CARD OF 'actuarylaw13.LuPivots'. -/
def luPivotsUptoCard : Claim7 := { stood := { row := luPivotsUptoRow, standIns := [], harness := (true, "37c8d7c4b26b380ed5f959e8ed906cf7b2e9ecdc4480c2c2da3d0492a3719155"), looks := false }, kinds := [], alts := [], laidByText := true, laidKinds := [.data], laidTests := true, laidLooks := .later }
def LuPivotsUptoCardSaid : Prop := Claim7.holds Tryz.pinned (.plain (OpenSpec.upto luPivotsSpec)) luPivotsUptoCard

/-- THE SECOND FORM's CARD OF 'actuarylaw13.LuBack'. -/
def luBackUptoCard : Claim7 := { stood := { row := luBackUptoRow, standIns := [], harness := (true, "37c8d7c4b26b380ed5f959e8ed906cf7b2e9ecdc4480c2c2da3d0492a3719155"), looks := false }, kinds := [], alts := [], laidByText := true, laidKinds := [.data], laidTests := true, laidLooks := .later }
def LuBackUptoCardSaid : Prop := Claim7.holds Tryz.pinned (.plain (OpenSpec.upto luBackSpec)) luBackUptoCard

/-- THE SECOND FORM's CARD OF 'actuarylaw13.LuMade'. -/
def luMadeUptoCard : Claim7 := { stood := { row := luMadeUptoRow, standIns := [], harness := (true, "37c8d7c4b26b380ed5f959e8ed906cf7b2e9ecdc4480c2c2da3d0492a3719155"), looks := false }, kinds := [], alts := [], laidByText := true, laidKinds := [.data], laidTests := true, laidLooks := .later }
def LuMadeUptoCardSaid : Prop := Claim7.holds Tryz.pinned (.plain (OpenSpec.upto luMadeSpec)) luMadeUptoCard
end Rows
end Go.Proofs.YtielpgdebeggbaaGreatDoor
