/-
  DERIVED. GIVEN WITH THE SEED: THE CARDS: each row of YtembbhbbmkijcaaDoorRows.lean that lists a variable, with what it lists TIED to the program's text (the seventh form; the later family's looks); each row that meets fmt, with fmt's text TOLD by the authors' own Lean function (tested against real Go, not proved from fmt's source: count such statements apart). THE CARD IS WHAT COUNTS. Prove the row's statement (the work); the ties are given (YtembbhbbmkijcaaDoorTie.lean); close each card by the builder's one call (the guide's Derived/Test/ToyasCard.lean, 'card_holds'). Laid BY PROGRAM, IN A SANDBOX (cutbox-door.mjs). By AI agents, Wed Nov 11 2026. No macro, syntax, notation, axiom, sorry.
-/
import Derived.Test.YtembbhbbmkijcaaDoorRows
import GoSem.ClaimSeven
namespace Go.Proofs.YtembbhbbmkijcaaDoor
namespace Rows

/-- THE TIED CARD OF 'watchbilllaw10.CeilUsers'. -/
def ceilUsersCard : Claim7 := { stood := { row := ceilUsersRow, standIns := [], harness := (true, "9111603ee2d0a6198a7a1ecd5decf893feb5c0b116a12d391d96e5c9c6406618"), looks := false }, kinds := [], alts := [], laidByText := true, laidKinds := [.wider], laidTests := true, laidLooks := .later }
def CeilUsersCardSaid : Prop := Claim7.holds Tryd.pinned (.plain (OpenSpec.ofChange ceilUsersSpec)) ceilUsersCard

/-- THE TIED CARD OF 'watchbilllaw10.CeilNested'. -/
def ceilNestedCard : Claim7 := { stood := { row := ceilNestedRow, standIns := [], harness := (true, "9111603ee2d0a6198a7a1ecd5decf893feb5c0b116a12d391d96e5c9c6406618"), looks := false }, kinds := [], alts := [], laidByText := true, laidKinds := [.wider], laidTests := true, laidLooks := .later }
def CeilNestedCardSaid : Prop := Claim7.holds Tryd.pinned (.plain (OpenSpec.ofChange ceilNestedSpec)) ceilNestedCard

/-- THE SECOND FORM's CARD OF 'watchbilllaw10.CeilUsers'. -/
def ceilUsersUptoCard : Claim7 := { stood := { row := ceilUsersUptoRow, standIns := [], harness := (true, "9111603ee2d0a6198a7a1ecd5decf893feb5c0b116a12d391d96e5c9c6406618"), looks := false }, kinds := [], alts := [], laidByText := true, laidKinds := [.wider], laidTests := true, laidLooks := .later }
def CeilUsersUptoCardSaid : Prop := Claim7.holds Tryd.pinned (.plain (OpenSpec.upto ceilUsersSpec)) ceilUsersUptoCard

/-- THE SECOND FORM's CARD OF 'watchbilllaw10.CeilNested'. -/
def ceilNestedUptoCard : Claim7 := { stood := { row := ceilNestedUptoRow, standIns := [], harness := (true, "9111603ee2d0a6198a7a1ecd5decf893feb5c0b116a12d391d96e5c9c6406618"), looks := false }, kinds := [], alts := [], laidByText := true, laidKinds := [.wider], laidTests := true, laidLooks := .later }
def CeilNestedUptoCardSaid : Prop := Claim7.holds Tryd.pinned (.plain (OpenSpec.upto ceilNestedSpec)) ceilNestedUptoCard
end Rows
end Go.Proofs.YtembbhbbmkijcaaDoor
