/-
  DERIVED. GIVEN WITH THE SEED: THE CARDS: each row of YtlkbphogpbcjfaaGreatDoorRows.lean that lists a variable, with what it lists TIED to the program's text (the seventh form; the later family's looks); each row that meets fmt, with fmt's text TOLD by the authors' own Lean function (tested against real Go, not proved from fmt's source: count such statements apart). THE CARD IS WHAT COUNTS. Prove the row's statement (the work); the ties are given (YtlkbphogpbcjfaaGreatDoorTie.lean); close each card by the builder's one call (the guide's Derived/Test/ToyasCard.lean, 'card_holds'). Laid BY PROGRAM, IN A SANDBOX (cutbox-door.mjs). By AI agents, Wed Nov 11 2026. No macro, syntax, notation, axiom, sorry.
-/
import Derived.Test.YtlkbphogpbcjfaaGreatDoorRows
import GoSem.ClaimSeven
namespace Go.Proofs.YtlkbphogpbcjfaaGreatDoor
namespace Rows

/-- THE TIED CARD OF 'watchbilllaw12.RtaSets'. -/
def rtaSetsCard : Claim7 := { stood := { row := rtaSetsRow, standIns := [], harness := (true, "00be396e9bbf903bf90b91d736b44674732aff2c954772b8238868ac46f70c2a"), looks := false }, kinds := [], alts := [], laidByText := true, laidKinds := [.wider], laidTests := true, laidLooks := .later }
def RtaSetsCardSaid : Prop := Claim7.holds Tryz.pinned (.plain (OpenSpec.ofChange rtaSetsSpec)) rtaSetsCard

/-- THE SECOND FORM's CARD OF 'watchbilllaw12.RtaSets'. -/
def rtaSetsUptoCard : Claim7 := { stood := { row := rtaSetsUptoRow, standIns := [], harness := (true, "00be396e9bbf903bf90b91d736b44674732aff2c954772b8238868ac46f70c2a"), looks := false }, kinds := [], alts := [], laidByText := true, laidKinds := [.wider], laidTests := true, laidLooks := .later }
def RtaSetsUptoCardSaid : Prop := Claim7.holds Tryz.pinned (.plain (OpenSpec.upto rtaSetsSpec)) rtaSetsUptoCard
end Rows
end Go.Proofs.YtlkbphogpbcjfaaGreatDoor
