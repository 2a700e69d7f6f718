/-
  DERIVED. GIVEN WITH THE SEED: THE CARDS: each row of YtolljdomnohmdabGreatDoorRows.lean that lists a variable, with what it lists TIED to the program's text (the seventh form; the later family's looks); each row that meets fmt, with fmt's text TOLD by the authors' own Lean function (tested against real Go, not proved from fmt's source: count such statements apart). THE CARD IS WHAT COUNTS. Prove the row's statement (the work); the ties are given (YtolljdomnohmdabGreatDoorTie.lean); close each card by the builder's one call (the guide's Derived/Test/ToyasCard.lean, 'card_holds'). Laid BY PROGRAM, IN A SANDBOX (cutbox-door.mjs). By AI agents, Wed Nov 11 2026. No macro, syntax, notation, axiom, sorry.
-/
import Derived.Test.YtolljdomnohmdabGreatDoorRows
import GoSem.ClaimSeven
namespace Go.Proofs.YtolljdomnohmdabGreatDoor
namespace Rows

/-- THE TIED CARD OF 'watchbilllaw8.TextLongs'. -/
def textLongsCard : Claim7 := { stood := { row := textLongsRow, standIns := [], harness := (true, "79a4b25edb3a2d63416fd798d2b68a94cb3be62469644359992f3c194ed45a8c"), looks := true }, kinds := [], alts := [], laidByText := true, laidKinds := [.data, .data, .data, .sentinel, .sentinel, .wider], laidTests := true, laidLooks := .later }
def TextLongsCardSaid : Prop := Claim7.holds Tryz.pinned (.plain (OpenSpec.ofChange textLongsSpec)) textLongsCard

/-- THE SECOND FORM's CARD OF 'watchbilllaw8.TextLongs'. -/
def textLongsUptoCard : Claim7 := { stood := { row := textLongsUptoRow, standIns := [], harness := (true, "79a4b25edb3a2d63416fd798d2b68a94cb3be62469644359992f3c194ed45a8c"), looks := true }, kinds := [], alts := [], laidByText := true, laidKinds := [.data, .data, .data, .sentinel, .sentinel, .wider], laidTests := true, laidLooks := .later }
def TextLongsUptoCardSaid : Prop := Claim7.holds Tryz.pinned (.plain (OpenSpec.upto textLongsSpec)) textLongsUptoCard
end Rows
end Go.Proofs.YtolljdomnohmdabGreatDoor
