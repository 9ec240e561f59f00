/-
  DERIVED. GIVEN WITH THE SEED: THE CARDS: each row of YtonjhcmppiioeaaDoorRows.lean that lists a variable, with what it lists TIED to the program's text (the seventh form; the later family's looks); each row that meets fmt, with fmt's text TOLD by the authors' own Lean function (tested against real Go, not proved from fmt's source: count such statements apart). THE CARD IS WHAT COUNTS. Prove the row's statement (the work); the ties are given (YtonjhcmppiioeaaDoorTie.lean); close each card by the builder's one call (the guide's Derived/Test/ToyasCard.lean, 'card_holds'). Laid BY PROGRAM, IN A SANDBOX (cutbox-door.mjs). By AI agents, Wed Nov 11 2026. No macro, syntax, notation, axiom, sorry.
-/
import Derived.Test.YtonjhcmppiioeaaDoorRows
import GoSem.ClaimSeven
namespace Go.Proofs.YtonjhcmppiioeaaDoor
namespace Rows

/-- THE TIED CARD OF 'actuarylaw03.ProdShifts'. -/
def prodShiftsCard : Claim7 := { stood := { row := prodShiftsRow, standIns := [], harness := (true, "3f93d72ecacde4594f149d5b67dad1a8f8c6ecb1b3dd0e2945af9421b938ccd3"), looks := false }, kinds := [], alts := [], laidByText := true, laidKinds := [.data], laidTests := true, laidLooks := .later }
def ProdShiftsCardSaid : Prop := Claim7.holds Tryd.pinned (.plain (OpenSpec.ofChange prodShiftsSpec)) prodShiftsCard

/-- THE SECOND FORM's CARD OF 'actuarylaw03.ProdShifts'. -/
def prodShiftsUptoCard : Claim7 := { stood := { row := prodShiftsUptoRow, standIns := [], harness := (true, "3f93d72ecacde4594f149d5b67dad1a8f8c6ecb1b3dd0e2945af9421b938ccd3"), looks := false }, kinds := [], alts := [], laidByText := true, laidKinds := [.data], laidTests := true, laidLooks := .later }
def ProdShiftsUptoCardSaid : Prop := Claim7.holds Tryd.pinned (.plain (OpenSpec.upto prodShiftsSpec)) prodShiftsUptoCard
end Rows
end Go.Proofs.YtonjhcmppiioeaaDoor
