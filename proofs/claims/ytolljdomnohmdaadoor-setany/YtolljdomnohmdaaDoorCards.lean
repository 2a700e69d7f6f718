/-
  DERIVED. GIVEN WITH THE SEED: THE CARDS: each row of YtolljdomnohmdaaDoorRows.lean that lists a variable, with what it lists TIED to the program's text (the seventh form; the later family's looks); each row that meets fmt, with fmt's text TOLD by the authors' own Lean function (tested against real Go, not proved from fmt's source: count such statements apart). THE CARD IS WHAT COUNTS. Prove the row's statement (the work); the ties are given (YtolljdomnohmdaaDoorTie.lean); close each card by the builder's one call (the guide's Derived/Test/ToyasCard.lean, 'card_holds'). Laid BY PROGRAM, IN A SANDBOX (cutbox-door.mjs). By AI agents, Wed Nov 11 2026. No macro, syntax, notation, axiom, sorry.
-/
import Derived.Test.YtolljdomnohmdaaDoorRows
import GoSem.ClaimSeven
namespace Go.Proofs.YtolljdomnohmdaaDoor
namespace Rows

/-- THE TIED CARD OF 'watchbilllaw6.ProgAny'. -/
def progAnyCard : Claim7 := { stood := { row := progAnyRow, standIns := [], harness := (true, "19f1d80046b26e3d4e7bb480640c071dbfa8299a3cb4a28d86cb6a12904e4ec8"), looks := false }, kinds := [], alts := [], laidByText := true, laidKinds := [.wider], laidTests := true, laidLooks := .later }
def ProgAnyCardSaid : Prop := Claim7.holds Tryd.pinned (.plain (OpenSpec.ofChange progAnySpec)) progAnyCard

/-- THE TIED CARD OF 'watchbilllaw6.ProgFlat'. -/
def progFlatCard : Claim7 := { stood := { row := progFlatRow, standIns := [], harness := (true, "19f1d80046b26e3d4e7bb480640c071dbfa8299a3cb4a28d86cb6a12904e4ec8"), looks := false }, kinds := [], alts := [], laidByText := true, laidKinds := [.wider], laidTests := true, laidLooks := .later }
def ProgFlatCardSaid : Prop := Claim7.holds Tryd.pinned (.plain (OpenSpec.ofChange progFlatSpec)) progFlatCard

/-- THE TIED CARD OF 'watchbilllaw7.SetAny'. -/
def setAnyCard : Claim7 := { stood := { row := setAnyRow, standIns := [], harness := (true, "19f1d80046b26e3d4e7bb480640c071dbfa8299a3cb4a28d86cb6a12904e4ec8"), looks := false }, kinds := [], alts := [], laidByText := true, laidKinds := [.wider], laidTests := true, laidLooks := .later }
def SetAnyCardSaid : Prop := Claim7.holds Tryd.pinned (.plain (OpenSpec.ofChange setAnySpec)) setAnyCard

/-- THE SECOND FORM's CARD OF 'watchbilllaw6.ProgAny'. -/
def progAnyUptoCard : Claim7 := { stood := { row := progAnyUptoRow, standIns := [], harness := (true, "19f1d80046b26e3d4e7bb480640c071dbfa8299a3cb4a28d86cb6a12904e4ec8"), looks := false }, kinds := [], alts := [], laidByText := true, laidKinds := [.wider], laidTests := true, laidLooks := .later }
def ProgAnyUptoCardSaid : Prop := Claim7.holds Tryd.pinned (.plain (OpenSpec.upto progAnySpec)) progAnyUptoCard

/-- THE SECOND FORM's CARD OF 'watchbilllaw6.ProgFlat'. -/
def progFlatUptoCard : Claim7 := { stood := { row := progFlatUptoRow, standIns := [], harness := (true, "19f1d80046b26e3d4e7bb480640c071dbfa8299a3cb4a28d86cb6a12904e4ec8"), looks := false }, kinds := [], alts := [], laidByText := true, laidKinds := [.wider], laidTests := true, laidLooks := .later }
def ProgFlatUptoCardSaid : Prop := Claim7.holds Tryd.pinned (.plain (OpenSpec.upto progFlatSpec)) progFlatUptoCard

/-- THE SECOND FORM's CARD OF 'watchbilllaw7.SetAny'. -/
def setAnyUptoCard : Claim7 := { stood := { row := setAnyUptoRow, standIns := [], harness := (true, "19f1d80046b26e3d4e7bb480640c071dbfa8299a3cb4a28d86cb6a12904e4ec8"), looks := false }, kinds := [], alts := [], laidByText := true, laidKinds := [.wider], laidTests := true, laidLooks := .later }
def SetAnyUptoCardSaid : Prop := Claim7.holds Tryd.pinned (.plain (OpenSpec.upto setAnySpec)) setAnyUptoCard
end Rows
end Go.Proofs.YtolljdomnohmdaaDoor
