/-
  DERIVED. GIVEN WITH THE SEED: THE CARDS: each row of YtcojjcjgbepicaaGreatDoorRows.lean that lists a variable, with what it lists TIED to the program's text (the seventh form; the later family's looks); each row that meets fmt, with fmt's text TOLD by the authors' own Lean function (tested against real Go, not proved from fmt's source: count such statements apart). THE CARD IS WHAT COUNTS. Prove the row's statement (the work); the ties are given (YtcojjcjgbepicaaGreatDoorTie.lean); close each card by the builder's one call (the guide's Derived/Test/ToyasCard.lean, 'card_holds'). Laid BY PROGRAM, IN A SANDBOX (cutbox-door.mjs). By AI agents, Wed Nov 11 2026. No macro, syntax, notation, axiom, sorry.
-/
import Derived.Test.YtcojjcjgbepicaaGreatDoorRows
import GoSem.ClaimSeven
namespace Go.Proofs.YtcojjcjgbepicaaGreatDoor
namespace Rows

/-- THE TIED CARD OF 'actuarylaw11.MatChanges'. -/
def matChangesCard : Claim7 := { stood := { row := matChangesRow, standIns := [], harness := (true, "16327dd5607865dcda101da4deb8e5843d21108764a612550caf90b643ac90cb"), looks := false }, kinds := [], alts := [], laidByText := true, laidKinds := [.data], laidTests := true, laidLooks := .later }
def MatChangesCardSaid : Prop := Claim7.holds Tryz.pinned (.plain (OpenSpec.ofChange matChangesSpec)) matChangesCard

/-- THE TIED CARD OF 'actuarylaw12.ElimDets'. -/
def elimDetsCard : Claim7 := { stood := { row := elimDetsRow, standIns := [], harness := (true, "16327dd5607865dcda101da4deb8e5843d21108764a612550caf90b643ac90cb"), looks := false }, kinds := [], alts := [], laidByText := true, laidKinds := [.data], laidTests := true, laidLooks := .later }
def ElimDetsCardSaid : Prop := Claim7.holds Tryz.pinned (.plain (OpenSpec.ofChange elimDetsSpec)) elimDetsCard

/-- THE TIED CARD OF 'actuarylaw12.ElimRanks'. -/
def elimRanksCard : Claim7 := { stood := { row := elimRanksRow, standIns := [], harness := (true, "16327dd5607865dcda101da4deb8e5843d21108764a612550caf90b643ac90cb"), looks := false }, kinds := [], alts := [], laidByText := true, laidKinds := [.data], laidTests := true, laidLooks := .later }
def ElimRanksCardSaid : Prop := Claim7.holds Tryz.pinned (.plain (OpenSpec.ofChange elimRanksSpec)) elimRanksCard

/-- THE TIED CARD OF 'actuarylaw12.ElimReduces'. -/
def elimReducesCard : Claim7 := { stood := { row := elimReducesRow, standIns := [], harness := (true, "16327dd5607865dcda101da4deb8e5843d21108764a612550caf90b643ac90cb"), looks := false }, kinds := [], alts := [], laidByText := true, laidKinds := [.data], laidTests := true, laidLooks := .later }
def ElimReducesCardSaid : Prop := Claim7.holds Tryz.pinned (.plain (OpenSpec.ofChange elimReducesSpec)) elimReducesCard

/-- THE TIED CARD OF 'actuarylaw12.ElimSolves'. -/
def elimSolvesCard : Claim7 := { stood := { row := elimSolvesRow, standIns := [], harness := (true, "16327dd5607865dcda101da4deb8e5843d21108764a612550caf90b643ac90cb"), looks := false }, kinds := [], alts := [], laidByText := true, laidKinds := [.data], laidTests := true, laidLooks := .later }
def ElimSolvesCardSaid : Prop := Claim7.holds Tryz.pinned (.plain (OpenSpec.ofChange elimSolvesSpec)) elimSolvesCard

/-- THE TIED CARD OF 'actuarylaw12.ElimKernel'. -/
def elimKernelCard : Claim7 := { stood := { row := elimKernelRow, standIns := [], harness := (true, "16327dd5607865dcda101da4deb8e5843d21108764a612550caf90b643ac90cb"), looks := false }, kinds := [], alts := [], laidByText := true, laidKinds := [.data], laidTests := true, laidLooks := .later }
def ElimKernelCardSaid : Prop := Claim7.holds Tryz.pinned (.plain (OpenSpec.ofChange elimKernelSpec)) elimKernelCard

/-- THE TIED CARD OF 'actuarylaw12.ElimInverts'. -/
def elimInvertsCard : Claim7 := { stood := { row := elimInvertsRow, standIns := [], harness := (true, "16327dd5607865dcda101da4deb8e5843d21108764a612550caf90b643ac90cb"), looks := false }, kinds := [], alts := [], laidByText := true, laidKinds := [.data], laidTests := true, laidLooks := .later }
def ElimInvertsCardSaid : Prop := Claim7.holds Tryz.pinned (.plain (OpenSpec.ofChange elimInvertsSpec)) elimInvertsCard

/-- THE SECOND FORM's CARD OF 'actuarylaw11.MatChanges'. -/
def matChangesUptoCard : Claim7 := { stood := { row := matChangesUptoRow, standIns := [], harness := (true, "16327dd5607865dcda101da4deb8e5843d21108764a612550caf90b643ac90cb"), looks := false }, kinds := [], alts := [], laidByText := true, laidKinds := [.data], laidTests := true, laidLooks := .later }
def MatChangesUptoCardSaid : Prop := Claim7.holds Tryz.pinned (.plain (OpenSpec.upto matChangesSpec)) matChangesUptoCard

/-- THE SECOND FORM's CARD OF 'actuarylaw12.ElimDets'. -/
def elimDetsUptoCard : Claim7 := { stood := { row := elimDetsUptoRow, standIns := [], harness := (true, "16327dd5607865dcda101da4deb8e5843d21108764a612550caf90b643ac90cb"), looks := false }, kinds := [], alts := [], laidByText := true, laidKinds := [.data], laidTests := true, laidLooks := .later }
def ElimDetsUptoCardSaid : Prop := Claim7.holds Tryz.pinned (.plain (OpenSpec.upto elimDetsSpec)) elimDetsUptoCard

/-- THE SECOND FORM's CARD OF 'actuarylaw12.ElimRanks'. -/
def elimRanksUptoCard : Claim7 := { stood := { row := elimRanksUptoRow, standIns := [], harness := (true, "16327dd5607865dcda101da4deb8e5843d21108764a612550caf90b643ac90cb"), looks := false }, kinds := [], alts := [], laidByText := true, laidKinds := [.data], laidTests := true, laidLooks := .later }
def ElimRanksUptoCardSaid : Prop := Claim7.holds Tryz.pinned (.plain (OpenSpec.upto elimRanksSpec)) elimRanksUptoCard

/-- THE SECOND FORM's CARD OF 'actuarylaw12.ElimReduces'. -/
def elimReducesUptoCard : Claim7 := { stood := { row := elimReducesUptoRow, standIns := [], harness := (true, "16327dd5607865dcda101da4deb8e5843d21108764a612550caf90b643ac90cb"), looks := false }, kinds := [], alts := [], laidByText := true, laidKinds := [.data], laidTests := true, laidLooks := .later }
def ElimReducesUptoCardSaid : Prop := Claim7.holds Tryz.pinned (.plain (OpenSpec.upto elimReducesSpec)) elimReducesUptoCard

/-- THE SECOND FORM's CARD OF 'actuarylaw12.ElimSolves'. -/
def elimSolvesUptoCard : Claim7 := { stood := { row := elimSolvesUptoRow, standIns := [], harness := (true, "16327dd5607865dcda101da4deb8e5843d21108764a612550caf90b643ac90cb"), looks := false }, kinds := [], alts := [], laidByText := true, laidKinds := [.data], laidTests := true, laidLooks := .later }
def ElimSolvesUptoCardSaid : Prop := Claim7.holds Tryz.pinned (.plain (OpenSpec.upto elimSolvesSpec)) elimSolvesUptoCard

/-- THE SECOND FORM's CARD OF 'actuarylaw12.ElimKernel'. -/
def elimKernelUptoCard : Claim7 := { stood := { row := elimKernelUptoRow, standIns := [], harness := (true, "16327dd5607865dcda101da4deb8e5843d21108764a612550caf90b643ac90cb"), looks := false }, kinds := [], alts := [], laidByText := true, laidKinds := [.data], laidTests := true, laidLooks := .later }
def ElimKernelUptoCardSaid : Prop := Claim7.holds Tryz.pinned (.plain (OpenSpec.upto elimKernelSpec)) elimKernelUptoCard

/-- THE SECOND FORM's CARD OF 'actuarylaw12.ElimInverts'. -/
def elimInvertsUptoCard : Claim7 := { stood := { row := elimInvertsUptoRow, standIns := [], harness := (true, "16327dd5607865dcda101da4deb8e5843d21108764a612550caf90b643ac90cb"), looks := false }, kinds := [], alts := [], laidByText := true, laidKinds := [.data], laidTests := true, laidLooks := .later }
def ElimInvertsUptoCardSaid : Prop := Claim7.holds Tryz.pinned (.plain (OpenSpec.upto elimInvertsSpec)) elimInvertsUptoCard
end Rows
end Go.Proofs.YtcojjcjgbepicaaGreatDoor
