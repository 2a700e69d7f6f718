/-
  DERIVED. GIVEN WITH THE SEED: THE CARDS: each row of YtockpcoegdaipabDoorRows.lean that lists a variable, with what it lists TIED to the program's text (the seventh form; the later family's looks); each row that meets fmt, with fmt's text TOLD by the authors' own Lean function (tested against real Go, not proved from fmt's source: count such statements apart). THE CARD IS WHAT COUNTS. Prove the row's statement (the work); the ties are given (YtockpcoegdaipabDoorTie.lean); close each card by the builder's one call (the guide's Derived/Test/ToyasCard.lean, 'card_holds'). Laid BY PROGRAM, IN A SANDBOX (cutbox-door.mjs). By AI agents, Wed Nov 11 2026. No macro, syntax, notation, axiom, sorry.
-/
import Derived.Test.YtockpcoegdaipabDoorRows
import GoSem.ClaimSeven
namespace Go.Proofs.YtockpcoegdaipabDoor
namespace Rows

/-- THE TIED CARD OF 'watchbilllaw7.SetMany'. -/
def setManyCard : Claim7 := { stood := { row := setManyRow, standIns := [], harness := (true, "3c2d0925e243df2356b4294f82d1712d9a2e5a6d342498525b665fd7892cf809"), looks := false }, kinds := [], alts := [], laidByText := true, laidKinds := [.wider], laidTests := true, laidLooks := .later }
def SetManyCardSaid : Prop := Claim7.holds Tryd.pinned (.plain (OpenSpec.ofChange setManySpec)) setManyCard

/-- THE TIED CARD OF 'watchbilllaw7.SetNames'. -/
def setNamesCard : Claim7 := { stood := { row := setNamesRow, standIns := [], harness := (true, "3c2d0925e243df2356b4294f82d1712d9a2e5a6d342498525b665fd7892cf809"), looks := false }, kinds := [], alts := [], laidByText := true, laidKinds := [.wider], laidTests := true, laidLooks := .later }
def SetNamesCardSaid : Prop := Claim7.holds Tryd.pinned (.plain (OpenSpec.ofChange setNamesSpec)) setNamesCard

/-- THE SECOND FORM's CARD OF 'watchbilllaw7.SetMany'. -/
def setManyUptoCard : Claim7 := { stood := { row := setManyUptoRow, standIns := [], harness := (true, "3c2d0925e243df2356b4294f82d1712d9a2e5a6d342498525b665fd7892cf809"), looks := false }, kinds := [], alts := [], laidByText := true, laidKinds := [.wider], laidTests := true, laidLooks := .later }
def SetManyUptoCardSaid : Prop := Claim7.holds Tryd.pinned (.plain (OpenSpec.upto setManySpec)) setManyUptoCard

/-- THE SECOND FORM's CARD OF 'watchbilllaw7.SetNames'. -/
def setNamesUptoCard : Claim7 := { stood := { row := setNamesUptoRow, standIns := [], harness := (true, "3c2d0925e243df2356b4294f82d1712d9a2e5a6d342498525b665fd7892cf809"), looks := false }, kinds := [], alts := [], laidByText := true, laidKinds := [.wider], laidTests := true, laidLooks := .later }
def SetNamesUptoCardSaid : Prop := Claim7.holds Tryd.pinned (.plain (OpenSpec.upto setNamesSpec)) setNamesUptoCard
end Rows
end Go.Proofs.YtockpcoegdaipabDoor
