/-
  DERIVED. GIVEN WITH THE SEED: THE CARDS: each row of YtcbpbidimocpjaaGreatDoorRows.lean that lists a variable, with what it lists TIED to the program's text (the seventh form; the later family's looks); each row that meets fmt, with fmt's text TOLD by the authors' own Lean function (tested against real Go, not proved from fmt's source: count such statements apart). THE CARD IS WHAT COUNTS. Prove the row's statement (the work); the ties are given (YtcbpbidimocpjaaGreatDoorTie.lean); close each card by the builder's one call (the guide's Derived/Test/ToyasCard.lean, 'card_holds'). Laid BY PROGRAM, IN A SANDBOX (cutbox-door.mjs). By AI agents, Wed Nov 11 2026. No macro, syntax, notation, axiom, sorry.
-/
import Derived.Test.YtcbpbidimocpjaaGreatDoorRows
import GoSem.ClaimSeven
namespace Go.Proofs.YtcbpbidimocpjaaGreatDoor
namespace Rows

/-- THE TIED CARD OF 'watchbilllaw11.BlockSets'. -/
def blockSetsCard : Claim7 := { stood := { row := blockSetsRow, standIns := [], harness := (true, "6ae7756ddd4819bb16257de46ac28f4def1c978ba94cca16c0c7b7e60f0e2319"), looks := false }, kinds := [], alts := [], laidByText := true, laidKinds := [.wider], laidTests := true, laidLooks := .later }
def BlockSetsCardSaid : Prop := Claim7.holds Tryz.pinned (.plain (OpenSpec.ofChange blockSetsSpec)) blockSetsCard

/-- THE SECOND FORM's CARD OF 'watchbilllaw11.BlockSets'. -/
def blockSetsUptoCard : Claim7 := { stood := { row := blockSetsUptoRow, standIns := [], harness := (true, "6ae7756ddd4819bb16257de46ac28f4def1c978ba94cca16c0c7b7e60f0e2319"), looks := false }, kinds := [], alts := [], laidByText := true, laidKinds := [.wider], laidTests := true, laidLooks := .later }
def BlockSetsUptoCardSaid : Prop := Claim7.holds Tryz.pinned (.plain (OpenSpec.upto blockSetsSpec)) blockSetsUptoCard
end Rows
end Go.Proofs.YtcbpbidimocpjaaGreatDoor
