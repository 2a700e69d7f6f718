/-
  DERIVED. GIVEN WITH THE SEED: THE CARDS: each row of YtembbhbbmkijcaaGreatDoorRows.lean that lists a variable, with what it lists TIED to the program's text (the seventh form; the later family's looks); each row that meets fmt, with fmt's text TOLD by the authors' own Lean function (tested against real Go, not proved from fmt's source: count such statements apart). THE CARD IS WHAT COUNTS. Prove the row's statement (the work); the ties are given (YtembbhbbmkijcaaGreatDoorTie.lean); close each card by the builder's one call (the guide's Derived/Test/ToyasCard.lean, 'card_holds'). Laid BY PROGRAM, IN A SANDBOX (cutbox-door.mjs). By AI agents, Wed Nov 11 2026. No macro, syntax, notation, axiom, sorry.
-/
import Derived.Test.YtembbhbbmkijcaaGreatDoorRows
import GoSem.ClaimSeven
namespace Go.Proofs.YtembbhbbmkijcaaGreatDoor
namespace Rows

/-- THE TIED CARD OF 'watchbilllaw10.CeilSets'. -/
def ceilSetsCard : Claim7 := { stood := { row := ceilSetsRow, standIns := [], harness := (true, "d395db659191bc4b96705266ff6eaadd0d25eccc2e4c9968ed1b88b72afd49fe"), looks := false }, kinds := [], alts := [], laidByText := true, laidKinds := [.wider], laidTests := true, laidLooks := .later }
def CeilSetsCardSaid : Prop := Claim7.holds Tryz.pinned (.plain (OpenSpec.ofChange ceilSetsSpec)) ceilSetsCard

/-- THE SECOND FORM's CARD OF 'watchbilllaw10.CeilSets'. -/
def ceilSetsUptoCard : Claim7 := { stood := { row := ceilSetsUptoRow, standIns := [], harness := (true, "d395db659191bc4b96705266ff6eaadd0d25eccc2e4c9968ed1b88b72afd49fe"), looks := false }, kinds := [], alts := [], laidByText := true, laidKinds := [.wider], laidTests := true, laidLooks := .later }
def CeilSetsUptoCardSaid : Prop := Claim7.holds Tryz.pinned (.plain (OpenSpec.upto ceilSetsSpec)) ceilSetsUptoCard
end Rows
end Go.Proofs.YtembbhbbmkijcaaGreatDoor
