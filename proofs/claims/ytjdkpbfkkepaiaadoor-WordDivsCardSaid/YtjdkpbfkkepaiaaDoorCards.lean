/-
  DERIVED. GIVEN WITH THE SEED: THE CARDS: each row of YtjdkpbfkkepaiaaDoorRows.lean that lists a variable, with what it lists TIED to the program's text (the seventh form; the later family's looks); each row that meets fmt, with fmt's text TOLD by the authors' own Lean function (tested against real Go, not proved from fmt's source: count such statements apart). THE CARD IS WHAT COUNTS. Prove the row's statement (the work); the ties are given (YtjdkpbfkkepaiaaDoorTie.lean); close each card by the builder's one call (the guide's Derived/Test/ToyasCard.lean, 'card_holds'). Laid BY PROGRAM, IN A SANDBOX (cutbox-door.mjs). By AI agents, Wed Nov 11 2026. No macro, syntax, notation, axiom, sorry.
-/
import Derived.Test.YtjdkpbfkkepaiaaDoorRows
import GoSem.ClaimSeven
namespace Go.Proofs.YtjdkpbfkkepaiaaDoor
namespace Rows

/-- THE TIED CARD OF 'actuarylaw01.WordSums'. -/
def wordSumsCard : Claim7 := { stood := { row := wordSumsRow, standIns := [], harness := (true, "02ad818a7233548b9bdb5a5bcf4ca6fbd7dd837da0387add271fda91e7a734cb"), looks := false }, kinds := [], alts := [], laidByText := true, laidKinds := [.data], laidTests := true, laidLooks := .later }
def WordSumsCardSaid : Prop := Claim7.holds Tryd.pinned (.plain (OpenSpec.ofChange wordSumsSpec)) wordSumsCard

/-- THE TIED CARD OF 'actuarylaw01.WordMuls'. -/
def wordMulsCard : Claim7 := { stood := { row := wordMulsRow, standIns := [], harness := (true, "02ad818a7233548b9bdb5a5bcf4ca6fbd7dd837da0387add271fda91e7a734cb"), looks := false }, kinds := [], alts := [], laidByText := true, laidKinds := [.data], laidTests := true, laidLooks := .later }
def WordMulsCardSaid : Prop := Claim7.holds Tryd.pinned (.plain (OpenSpec.ofChange wordMulsSpec)) wordMulsCard

/-- THE TIED CARD OF 'actuarylaw01.WordLens'. -/
def wordLensCard : Claim7 := { stood := { row := wordLensRow, standIns := [], harness := (true, "02ad818a7233548b9bdb5a5bcf4ca6fbd7dd837da0387add271fda91e7a734cb"), looks := false }, kinds := [], alts := [], laidByText := true, laidKinds := [.data], laidTests := true, laidLooks := .later }
def WordLensCardSaid : Prop := Claim7.holds Tryd.pinned (.plain (OpenSpec.ofChange wordLensSpec)) wordLensCard

/-- THE TIED CARD OF 'actuarylaw01.WordBack'. -/
def wordBackCard : Claim7 := { stood := { row := wordBackRow, standIns := [], harness := (true, "02ad818a7233548b9bdb5a5bcf4ca6fbd7dd837da0387add271fda91e7a734cb"), looks := false }, kinds := [], alts := [], laidByText := true, laidKinds := [.data], laidTests := true, laidLooks := .later }
def WordBackCardSaid : Prop := Claim7.holds Tryd.pinned (.plain (OpenSpec.ofChange wordBackSpec)) wordBackCard

/-- THE TIED CARD OF 'actuarylaw01.WordDivs'. -/
def wordDivsCard : Claim7 := { stood := { row := wordDivsRow, standIns := [], harness := (true, "02ad818a7233548b9bdb5a5bcf4ca6fbd7dd837da0387add271fda91e7a734cb"), looks := false }, kinds := [], alts := [], laidByText := true, laidKinds := [.data], laidTests := true, laidLooks := .later }
def WordDivsCardSaid : Prop := Claim7.holds Tryd.pinned (.plain (OpenSpec.ofChange wordDivsSpec)) wordDivsCard

/-- THE TIED CARD OF 'actuarylaw01.WordTurns'. -/
def wordTurnsCard : Claim7 := { stood := { row := wordTurnsRow, standIns := [], harness := (true, "02ad818a7233548b9bdb5a5bcf4ca6fbd7dd837da0387add271fda91e7a734cb"), looks := false }, kinds := [], alts := [], laidByText := true, laidKinds := [.data], laidTests := true, laidLooks := .later }
def WordTurnsCardSaid : Prop := Claim7.holds Tryd.pinned (.plain (OpenSpec.ofChange wordTurnsSpec)) wordTurnsCard

/-- THE TIED CARD OF 'actuarylaw01.WordShifts'. -/
def wordShiftsCard : Claim7 := { stood := { row := wordShiftsRow, standIns := [], harness := (true, "02ad818a7233548b9bdb5a5bcf4ca6fbd7dd837da0387add271fda91e7a734cb"), looks := false }, kinds := [], alts := [], laidByText := true, laidKinds := [.data], laidTests := true, laidLooks := .later }
def WordShiftsCardSaid : Prop := Claim7.holds Tryd.pinned (.plain (OpenSpec.ofChange wordShiftsSpec)) wordShiftsCard

/-- THE SECOND FORM's CARD OF 'actuarylaw01.WordSums'. -/
def wordSumsUptoCard : Claim7 := { stood := { row := wordSumsUptoRow, standIns := [], harness := (true, "02ad818a7233548b9bdb5a5bcf4ca6fbd7dd837da0387add271fda91e7a734cb"), looks := false }, kinds := [], alts := [], laidByText := true, laidKinds := [.data], laidTests := true, laidLooks := .later }
def WordSumsUptoCardSaid : Prop := Claim7.holds Tryd.pinned (.plain (OpenSpec.upto wordSumsSpec)) wordSumsUptoCard

/-- THE SECOND FORM's CARD OF 'actuarylaw01.WordMuls'. -/
def wordMulsUptoCard : Claim7 := { stood := { row := wordMulsUptoRow, standIns := [], harness := (true, "02ad818a7233548b9bdb5a5bcf4ca6fbd7dd837da0387add271fda91e7a734cb"), looks := false }, kinds := [], alts := [], laidByText := true, laidKinds := [.data], laidTests := true, laidLooks := .later }
def WordMulsUptoCardSaid : Prop := Claim7.holds Tryd.pinned (.plain (OpenSpec.upto wordMulsSpec)) wordMulsUptoCard

/-- THE SECOND FORM's CARD OF 'actuarylaw01.WordLens'. -/
def wordLensUptoCard : Claim7 := { stood := { row := wordLensUptoRow, standIns := [], harness := (true, "02ad818a7233548b9bdb5a5bcf4ca6fbd7dd837da0387add271fda91e7a734cb"), looks := false }, kinds := [], alts := [], laidByText := true, laidKinds := [.data], laidTests := true, laidLooks := .later }
def WordLensUptoCardSaid : Prop := Claim7.holds Tryd.pinned (.plain (OpenSpec.upto wordLensSpec)) wordLensUptoCard

/-- THE SECOND FORM's CARD OF 'actuarylaw01.WordBack'. -/
def wordBackUptoCard : Claim7 := { stood := { row := wordBackUptoRow, standIns := [], harness := (true, "02ad818a7233548b9bdb5a5bcf4ca6fbd7dd837da0387add271fda91e7a734cb"), looks := false }, kinds := [], alts := [], laidByText := true, laidKinds := [.data], laidTests := true, laidLooks := .later }
def WordBackUptoCardSaid : Prop := Claim7.holds Tryd.pinned (.plain (OpenSpec.upto wordBackSpec)) wordBackUptoCard

/-- THE SECOND FORM's CARD OF 'actuarylaw01.WordDivs'. -/
def wordDivsUptoCard : Claim7 := { stood := { row := wordDivsUptoRow, standIns := [], harness := (true, "02ad818a7233548b9bdb5a5bcf4ca6fbd7dd837da0387add271fda91e7a734cb"), looks := false }, kinds := [], alts := [], laidByText := true, laidKinds := [.data], laidTests := true, laidLooks := .later }
def WordDivsUptoCardSaid : Prop := Claim7.holds Tryd.pinned (.plain (OpenSpec.upto wordDivsSpec)) wordDivsUptoCard

/-- THE SECOND FORM's CARD OF 'actuarylaw01.WordTurns'. -/
def wordTurnsUptoCard : Claim7 := { stood := { row := wordTurnsUptoRow, standIns := [], harness := (true, "02ad818a7233548b9bdb5a5bcf4ca6fbd7dd837da0387add271fda91e7a734cb"), looks := false }, kinds := [], alts := [], laidByText := true, laidKinds := [.data], laidTests := true, laidLooks := .later }
def WordTurnsUptoCardSaid : Prop := Claim7.holds Tryd.pinned (.plain (OpenSpec.upto wordTurnsSpec)) wordTurnsUptoCard

/-- THE SECOND FORM's CARD OF 'actuarylaw01.WordShifts'. -/
def wordShiftsUptoCard : Claim7 := { stood := { row := wordShiftsUptoRow, standIns := [], harness := (true, "02ad818a7233548b9bdb5a5bcf4ca6fbd7dd837da0387add271fda91e7a734cb"), looks := false }, kinds := [], alts := [], laidByText := true, laidKinds := [.data], laidTests := true, laidLooks := .later }
def WordShiftsUptoCardSaid : Prop := Claim7.holds Tryd.pinned (.plain (OpenSpec.upto wordShiftsSpec)) wordShiftsUptoCard
end Rows
end Go.Proofs.YtjdkpbfkkepaiaaDoor
