/-
  DERIVED. GIVEN WITH THE SEED: THE CARDS: each row of YtipmllfnpldbdaaGreatDoorRows.lean that lists a variable, with what it lists TIED to the program's text (the seventh form; the later family's looks); each row that meets fmt, with fmt's text TOLD by the authors' own Lean function (tested against real Go, not proved from fmt's source: count such statements apart). THE CARD IS WHAT COUNTS. Prove the row's statement (the work); the ties are given (YtipmllfnpldbdaaGreatDoorTie.lean); close each card by the builder's one call (the guide's Derived/Test/ToyasCard.lean, 'card_holds'). Laid BY PROGRAM, IN A SANDBOX (cutbox-door.mjs). By AI agents, Wed Nov 11 2026. No macro, syntax, notation, axiom, sorry.
-/
import Derived.Test.YtipmllfnpldbdaaGreatDoorRows
import GoSem.ClaimSeven
namespace Go.Proofs.YtipmllfnpldbdaaGreatDoor
namespace Rows

/-- THE TIED CARD OF 'actuarylaw16.ProbStandards'. -/
def probStandardsCard : Claim7 := { stood := { row := probStandardsRow, standIns := [], harness := (true, "2fb33b4fe649032009cda5f89c6e4f8a8f10539f6ff2abd1b89ec7329e94b4ad"), looks := true }, kinds := [], alts := [], laidByText := true, laidKinds := [.data], laidTests := true, laidLooks := .later }
def ProbStandardsCardSaid : Prop := Claim7.holds Tryz.pinned (.plain (OpenSpec.ofChange probStandardsSpec)) probStandardsCard

/-- THE TIED CARD OF 'actuarylaw16.ProbMays'. -/
def probMaysCard : Claim7 := { stood := { row := probMaysRow, standIns := [], harness := (true, "2fb33b4fe649032009cda5f89c6e4f8a8f10539f6ff2abd1b89ec7329e94b4ad"), looks := true }, kinds := [], alts := [], laidByText := true, laidKinds := [.data, .handle], laidTests := true, laidLooks := .later }
def ProbMaysCardSaid : Prop := Claim7.holds Tryz.pinned (.plain (OpenSpec.ofChange probMaysSpec)) probMaysCard

/-- THE TIED CARD OF 'actuarylaw16.ProbFits'. -/
def probFitsCard : Claim7 := { stood := { row := probFitsRow, standIns := [], harness := (true, "2fb33b4fe649032009cda5f89c6e4f8a8f10539f6ff2abd1b89ec7329e94b4ad"), looks := true }, kinds := [], alts := [], laidByText := true, laidKinds := [.data], laidTests := true, laidLooks := .later }
def ProbFitsCardSaid : Prop := Claim7.holds Tryz.pinned (.plain (OpenSpec.ofChange probFitsSpec)) probFitsCard

/-- THE TIED CARD OF 'actuarylaw16.ProbLifts'. -/
def probLiftsCard : Claim7 := { stood := { row := probLiftsRow, standIns := [], harness := (true, "2fb33b4fe649032009cda5f89c6e4f8a8f10539f6ff2abd1b89ec7329e94b4ad"), looks := true }, kinds := [], alts := [], laidByText := true, laidKinds := [.data], laidTests := true, laidLooks := .later }
def ProbLiftsCardSaid : Prop := Claim7.holds Tryz.pinned (.plain (OpenSpec.ofChange probLiftsSpec)) probLiftsCard

/-- THE TIED CARD OF 'actuarylaw16.ProbCopies'. -/
def probCopiesCard : Claim7 := { stood := { row := probCopiesRow, standIns := [], harness := (true, "2fb33b4fe649032009cda5f89c6e4f8a8f10539f6ff2abd1b89ec7329e94b4ad"), looks := true }, kinds := [], alts := [], laidByText := true, laidKinds := [.data], laidTests := true, laidLooks := .later }
def ProbCopiesCardSaid : Prop := Claim7.holds Tryz.pinned (.plain (OpenSpec.ofChange probCopiesSpec)) probCopiesCard

/-- THE TIED CARD OF 'actuarylaw16.ProbMixes'. -/
def probMixesCard : Claim7 := { stood := { row := probMixesRow, standIns := [], harness := (true, "2fb33b4fe649032009cda5f89c6e4f8a8f10539f6ff2abd1b89ec7329e94b4ad"), looks := true }, kinds := [], alts := [], laidByText := true, laidKinds := [.data], laidTests := true, laidLooks := .later }
def ProbMixesCardSaid : Prop := Claim7.holds Tryz.pinned (.plain (OpenSpec.ofChange probMixesSpec)) probMixesCard

/-- THE SECOND FORM's CARD OF 'actuarylaw16.ProbStandards'. -/
def probStandardsUptoCard : Claim7 := { stood := { row := probStandardsUptoRow, standIns := [], harness := (true, "2fb33b4fe649032009cda5f89c6e4f8a8f10539f6ff2abd1b89ec7329e94b4ad"), looks := true }, kinds := [], alts := [], laidByText := true, laidKinds := [.data], laidTests := true, laidLooks := .later }
def ProbStandardsUptoCardSaid : Prop := Claim7.holds Tryz.pinned (.plain (OpenSpec.upto probStandardsSpec)) probStandardsUptoCard

/-- THE SECOND FORM's CARD OF 'actuarylaw16.ProbMays'. -/
def probMaysUptoCard : Claim7 := { stood := { row := probMaysUptoRow, standIns := [], harness := (true, "2fb33b4fe649032009cda5f89c6e4f8a8f10539f6ff2abd1b89ec7329e94b4ad"), looks := true }, kinds := [], alts := [], laidByText := true, laidKinds := [.data, .handle], laidTests := true, laidLooks := .later }
def ProbMaysUptoCardSaid : Prop := Claim7.holds Tryz.pinned (.plain (OpenSpec.upto probMaysSpec)) probMaysUptoCard

/-- THE SECOND FORM's CARD OF 'actuarylaw16.ProbFits'. -/
def probFitsUptoCard : Claim7 := { stood := { row := probFitsUptoRow, standIns := [], harness := (true, "2fb33b4fe649032009cda5f89c6e4f8a8f10539f6ff2abd1b89ec7329e94b4ad"), looks := true }, kinds := [], alts := [], laidByText := true, laidKinds := [.data], laidTests := true, laidLooks := .later }
def ProbFitsUptoCardSaid : Prop := Claim7.holds Tryz.pinned (.plain (OpenSpec.upto probFitsSpec)) probFitsUptoCard

/-- THE SECOND FORM's CARD OF 'actuarylaw16.ProbLifts'. -/
def probLiftsUptoCard : Claim7 := { stood := { row := probLiftsUptoRow, standIns := [], harness := (true, "2fb33b4fe649032009cda5f89c6e4f8a8f10539f6ff2abd1b89ec7329e94b4ad"), looks := true }, kinds := [], alts := [], laidByText := true, laidKinds := [.data], laidTests := true, laidLooks := .later }
def ProbLiftsUptoCardSaid : Prop := Claim7.holds Tryz.pinned (.plain (OpenSpec.upto probLiftsSpec)) probLiftsUptoCard

/-- THE SECOND FORM's CARD OF 'actuarylaw16.ProbCopies'. -/
def probCopiesUptoCard : Claim7 := { stood := { row := probCopiesUptoRow, standIns := [], harness := (true, "2fb33b4fe649032009cda5f89c6e4f8a8f10539f6ff2abd1b89ec7329e94b4ad"), looks := true }, kinds := [], alts := [], laidByText := true, laidKinds := [.data], laidTests := true, laidLooks := .later }
def ProbCopiesUptoCardSaid : Prop := Claim7.holds Tryz.pinned (.plain (OpenSpec.upto probCopiesSpec)) probCopiesUptoCard

/-- THE SECOND FORM's CARD OF 'actuarylaw16.ProbMixes'. -/
def probMixesUptoCard : Claim7 := { stood := { row := probMixesUptoRow, standIns := [], harness := (true, "2fb33b4fe649032009cda5f89c6e4f8a8f10539f6ff2abd1b89ec7329e94b4ad"), looks := true }, kinds := [], alts := [], laidByText := true, laidKinds := [.data], laidTests := true, laidLooks := .later }
def ProbMixesUptoCardSaid : Prop := Claim7.holds Tryz.pinned (.plain (OpenSpec.upto probMixesSpec)) probMixesUptoCard
end Rows
end Go.Proofs.YtipmllfnpldbdaaGreatDoor
