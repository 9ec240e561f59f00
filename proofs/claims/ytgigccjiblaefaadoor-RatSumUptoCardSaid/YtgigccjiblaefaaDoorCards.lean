/-
  DERIVED. GIVEN WITH THE SEED: THE CARDS: each row of YtgigccjiblaefaaDoorRows.lean that lists a variable, with what it lists TIED to the program's text (the seventh form; the later family's looks); each row that meets fmt, with fmt's text TOLD by the authors' own Lean function (tested against real Go, not proved from fmt's source: count such statements apart). THE CARD IS WHAT COUNTS. Prove the row's statement (the work); the ties are given (YtgigccjiblaefaaDoorTie.lean); close each card by the builder's one call (the guide's Derived/Test/ToyasCard.lean, 'card_holds'). Laid BY PROGRAM, IN A SANDBOX (cutbox-door.mjs). By AI agents, Wed Nov 11 2026. No macro, syntax, notation, axiom, sorry.
-/
import Derived.Test.YtgigccjiblaefaaDoorRows
import GoSem.ClaimSeven
namespace Go.Proofs.YtgigccjiblaefaaDoor
namespace Rows

/-- THE TIED CARD OF 'actuarylaw08.RatLine'. -/
def ratLineCard : Claim7 := { stood := { row := ratLineRow, standIns := [], harness := (true, "9e8a129254e014d035faf2146bfff2fd2c0a7aa8dad977219ac6ff6d42ad000b"), looks := false }, kinds := [], alts := [], laidByText := true, laidKinds := [.data], laidTests := true, laidLooks := .later }
def RatLineCardSaid : Prop := Claim7.holds Tryd.pinned (.plain (OpenSpec.ofChange ratLineSpec)) ratLineCard

/-- THE TIED CARD OF 'actuarylaw08.RatSum'. -/
def ratSumCard : Claim7 := { stood := { row := ratSumRow, standIns := [], harness := (true, "9e8a129254e014d035faf2146bfff2fd2c0a7aa8dad977219ac6ff6d42ad000b"), looks := false }, kinds := [], alts := [], laidByText := true, laidKinds := [.data], laidTests := true, laidLooks := .later }
def RatSumCardSaid : Prop := Claim7.holds Tryd.pinned (.plain (OpenSpec.ofChange ratSumSpec)) ratSumCard

/-- THE SECOND FORM's CARD OF 'actuarylaw08.RatLine'. -/
def ratLineUptoCard : Claim7 := { stood := { row := ratLineUptoRow, standIns := [], harness := (true, "9e8a129254e014d035faf2146bfff2fd2c0a7aa8dad977219ac6ff6d42ad000b"), looks := false }, kinds := [], alts := [], laidByText := true, laidKinds := [.data], laidTests := true, laidLooks := .later }
def RatLineUptoCardSaid : Prop := Claim7.holds Tryd.pinned (.plain (OpenSpec.upto ratLineSpec)) ratLineUptoCard

/-- THE SECOND FORM's CARD OF 'actuarylaw08.RatSum'. -/
def ratSumUptoCard : Claim7 := { stood := { row := ratSumUptoRow, standIns := [], harness := (true, "9e8a129254e014d035faf2146bfff2fd2c0a7aa8dad977219ac6ff6d42ad000b"), looks := false }, kinds := [], alts := [], laidByText := true, laidKinds := [.data], laidTests := true, laidLooks := .later }
def RatSumUptoCardSaid : Prop := Claim7.holds Tryd.pinned (.plain (OpenSpec.upto ratSumSpec)) ratSumUptoCard
end Rows
end Go.Proofs.YtgigccjiblaefaaDoor
