/-
  DERIVED. GIVEN WITH THE SEED: THE CARDS: each row of YtplgbokgfphjaaaDoorRows.lean that lists a variable, with what it lists TIED to the program's text (the seventh form; the later family's looks); each row that meets fmt, with fmt's text TOLD by the authors' own Lean function (tested against real Go, not proved from fmt's source: count such statements apart). THE CARD IS WHAT COUNTS. Prove the row's statement (the work); the ties are given (YtplgbokgfphjaaaDoorTie.lean); close each card by the builder's one call (the guide's Derived/Test/ToyasCard.lean, 'card_holds'). Laid BY PROGRAM, IN A SANDBOX (cutbox-door.mjs). By AI agents, Wed Nov 11 2026. No macro, syntax, notation, axiom, sorry.
-/
import Derived.Test.YtplgbokgfphjaaaDoorRows
import GoSem.ClaimSeven
namespace Go.Proofs.YtplgbokgfphjaaaDoor
namespace Rows

/-- THE TIED CARD OF 'actuarylaw05.GcdFinds'. -/
def gcdFindsCard : Claim7 := { stood := { row := gcdFindsRow, standIns := [], harness := (true, "8ebb4e25b09008416bbd138c0da710622c2b2984bfe426a35b550427babf139e"), looks := false }, kinds := [], alts := [], laidByText := true, laidKinds := [.data], laidTests := true, laidLooks := .later }
def GcdFindsCardSaid : Prop := Claim7.holds Tryd.pinned (.plain (OpenSpec.ofChange gcdFindsSpec)) gcdFindsCard

/-- THE TIED CARD OF 'actuarylaw05.GcdGreatest'. -/
def gcdGreatestCard : Claim7 := { stood := { row := gcdGreatestRow, standIns := [], harness := (true, "8ebb4e25b09008416bbd138c0da710622c2b2984bfe426a35b550427babf139e"), looks := false }, kinds := [], alts := [], laidByText := true, laidKinds := [.data], laidTests := true, laidLooks := .later }
def GcdGreatestCardSaid : Prop := Claim7.holds Tryd.pinned (.plain (OpenSpec.ofChange gcdGreatestSpec)) gcdGreatestCard

/-- THE TIED CARD OF 'actuarylaw05.GcdReduces'. -/
def gcdReducesCard : Claim7 := { stood := { row := gcdReducesRow, standIns := [], harness := (true, "8ebb4e25b09008416bbd138c0da710622c2b2984bfe426a35b550427babf139e"), looks := false }, kinds := [], alts := [], laidByText := true, laidKinds := [.data], laidTests := true, laidLooks := .later }
def GcdReducesCardSaid : Prop := Claim7.holds Tryd.pinned (.plain (OpenSpec.ofChange gcdReducesSpec)) gcdReducesCard

/-- THE TIED CARD OF 'actuarylaw05.GcdLcm'. -/
def gcdLcmCard : Claim7 := { stood := { row := gcdLcmRow, standIns := [], harness := (true, "8ebb4e25b09008416bbd138c0da710622c2b2984bfe426a35b550427babf139e"), looks := false }, kinds := [], alts := [], laidByText := true, laidKinds := [.data], laidTests := true, laidLooks := .later }
def GcdLcmCardSaid : Prop := Claim7.holds Tryd.pinned (.plain (OpenSpec.ofChange gcdLcmSpec)) gcdLcmCard

/-- THE TIED CARD OF 'actuarylaw05.GcdSteps'. -/
def gcdStepsCard : Claim7 := { stood := { row := gcdStepsRow, standIns := [], harness := (true, "8ebb4e25b09008416bbd138c0da710622c2b2984bfe426a35b550427babf139e"), looks := false }, kinds := [], alts := [], laidByText := true, laidKinds := [.data], laidTests := true, laidLooks := .later }
def GcdStepsCardSaid : Prop := Claim7.holds Tryd.pinned (.plain (OpenSpec.ofChange gcdStepsSpec)) gcdStepsCard

/-- THE TIED CARD OF 'actuarylaw05.GcdMany'. -/
def gcdManyCard : Claim7 := { stood := { row := gcdManyRow, standIns := [], harness := (true, "8ebb4e25b09008416bbd138c0da710622c2b2984bfe426a35b550427babf139e"), looks := false }, kinds := [], alts := [], laidByText := true, laidKinds := [.data], laidTests := true, laidLooks := .later }
def GcdManyCardSaid : Prop := Claim7.holds Tryd.pinned (.plain (OpenSpec.ofChange gcdManySpec)) gcdManyCard

/-- THE SECOND FORM's CARD OF 'actuarylaw05.GcdFinds'. -/
def gcdFindsUptoCard : Claim7 := { stood := { row := gcdFindsUptoRow, standIns := [], harness := (true, "8ebb4e25b09008416bbd138c0da710622c2b2984bfe426a35b550427babf139e"), looks := false }, kinds := [], alts := [], laidByText := true, laidKinds := [.data], laidTests := true, laidLooks := .later }
def GcdFindsUptoCardSaid : Prop := Claim7.holds Tryd.pinned (.plain (OpenSpec.upto gcdFindsSpec)) gcdFindsUptoCard

/-- THE SECOND FORM's CARD OF 'actuarylaw05.GcdGreatest'. -/
def gcdGreatestUptoCard : Claim7 := { stood := { row := gcdGreatestUptoRow, standIns := [], harness := (true, "8ebb4e25b09008416bbd138c0da710622c2b2984bfe426a35b550427babf139e"), looks := false }, kinds := [], alts := [], laidByText := true, laidKinds := [.data], laidTests := true, laidLooks := .later }
def GcdGreatestUptoCardSaid : Prop := Claim7.holds Tryd.pinned (.plain (OpenSpec.upto gcdGreatestSpec)) gcdGreatestUptoCard

/-- THE SECOND FORM's CARD OF 'actuarylaw05.GcdReduces'. -/
def gcdReducesUptoCard : Claim7 := { stood := { row := gcdReducesUptoRow, standIns := [], harness := (true, "8ebb4e25b09008416bbd138c0da710622c2b2984bfe426a35b550427babf139e"), looks := false }, kinds := [], alts := [], laidByText := true, laidKinds := [.data], laidTests := true, laidLooks := .later }
def GcdReducesUptoCardSaid : Prop := Claim7.holds Tryd.pinned (.plain (OpenSpec.upto gcdReducesSpec)) gcdReducesUptoCard

/-- THE SECOND FORM's CARD OF 'actuarylaw05.GcdLcm'. -/
def gcdLcmUptoCard : Claim7 := { stood := { row := gcdLcmUptoRow, standIns := [], harness := (true, "8ebb4e25b09008416bbd138c0da710622c2b2984bfe426a35b550427babf139e"), looks := false }, kinds := [], alts := [], laidByText := true, laidKinds := [.data], laidTests := true, laidLooks := .later }
def GcdLcmUptoCardSaid : Prop := Claim7.holds Tryd.pinned (.plain (OpenSpec.upto gcdLcmSpec)) gcdLcmUptoCard

/-- THE SECOND FORM's CARD OF 'actuarylaw05.GcdSteps'. -/
def gcdStepsUptoCard : Claim7 := { stood := { row := gcdStepsUptoRow, standIns := [], harness := (true, "8ebb4e25b09008416bbd138c0da710622c2b2984bfe426a35b550427babf139e"), looks := false }, kinds := [], alts := [], laidByText := true, laidKinds := [.data], laidTests := true, laidLooks := .later }
def GcdStepsUptoCardSaid : Prop := Claim7.holds Tryd.pinned (.plain (OpenSpec.upto gcdStepsSpec)) gcdStepsUptoCard

/-- THE SECOND FORM's CARD OF 'actuarylaw05.GcdMany'. -/
def gcdManyUptoCard : Claim7 := { stood := { row := gcdManyUptoRow, standIns := [], harness := (true, "8ebb4e25b09008416bbd138c0da710622c2b2984bfe426a35b550427babf139e"), looks := false }, kinds := [], alts := [], laidByText := true, laidKinds := [.data], laidTests := true, laidLooks := .later }
def GcdManyUptoCardSaid : Prop := Claim7.holds Tryd.pinned (.plain (OpenSpec.upto gcdManySpec)) gcdManyUptoCard
end Rows
end Go.Proofs.YtplgbokgfphjaaaDoor
