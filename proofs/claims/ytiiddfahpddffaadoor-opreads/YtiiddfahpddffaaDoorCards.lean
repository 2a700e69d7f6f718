/-
  DERIVED. GIVEN WITH THE SEED: THE CARDS: each row of YtiiddfahpddffaaDoorRows.lean that lists a variable, with what it lists TIED to the program's text (the seventh form; the later family's looks); each row that meets fmt, with fmt's text TOLD by the authors' own Lean function (tested against real Go, not proved from fmt's source: count such statements apart). THE CARD IS WHAT COUNTS. Prove the row's statement (the work); the ties are given (YtiiddfahpddffaaDoorTie.lean); close each card by the builder's one call (the guide's Derived/Test/ToyasCard.lean, 'card_holds'). Laid BY PROGRAM, IN A SANDBOX (cutbox-door.mjs). By AI agents, Wed Nov 11 2026. No macro, syntax, notation, axiom, sorry.
-/
import Derived.Test.YtiiddfahpddffaaDoorRows
import GoSem.ClaimSeven
namespace Go.Proofs.YtiiddfahpddffaaDoor
namespace Rows

/-- THE TIED CARD OF 'watchbilllaw5.OpAny'. -/
def opAnyCard : Claim7 := { stood := { row := opAnyRow, standIns := [], harness := (true, "7d44dc9ccc8f26db34dcdd1c73ade7b1efc54843c4477e338eaca62e5f21207f"), looks := true }, kinds := [], alts := [], laidByText := true, laidKinds := [.data, .data, .data, .sentinel, .sentinel, .wider], laidTests := true, laidLooks := .later }
def OpAnyCardSaid : Prop := Claim7.holds Tryd.pinned (.plain (OpenSpec.ofChange opAnySpec)) opAnyCard

/-- THE TIED CARD OF 'watchbilllaw5.OpReads'. -/
def opReadsCard : Claim7 := { stood := { row := opReadsRow, standIns := [], harness := (true, "7d44dc9ccc8f26db34dcdd1c73ade7b1efc54843c4477e338eaca62e5f21207f"), looks := true }, kinds := [], alts := [], laidByText := true, laidKinds := [.data, .data, .data, .sentinel, .sentinel, .wider], laidTests := true, laidLooks := .later }
def OpReadsCardSaid : Prop := Claim7.holds Tryd.pinned (.plain (OpenSpec.ofChange opReadsSpec)) opReadsCard

/-- THE TIED CARD OF 'watchbilllaw5.OpNumbers'. -/
def opNumbersCard : Claim7 := { stood := { row := opNumbersRow, standIns := [], harness := (true, "7d44dc9ccc8f26db34dcdd1c73ade7b1efc54843c4477e338eaca62e5f21207f"), looks := true }, kinds := [], alts := [], laidByText := true, laidKinds := [.data, .data, .data, .sentinel, .sentinel, .wider], laidTests := true, laidLooks := .later }
def OpNumbersCardSaid : Prop := Claim7.holds Tryd.pinned (.plain (OpenSpec.ofChange opNumbersSpec)) opNumbersCard

/-- THE TIED CARD OF 'watchbilllaw5.OpCases'. -/
def opCasesCard : Claim7 := { stood := { row := opCasesRow, standIns := [], harness := (true, "7d44dc9ccc8f26db34dcdd1c73ade7b1efc54843c4477e338eaca62e5f21207f"), looks := true }, kinds := [], alts := [], laidByText := true, laidKinds := [.data, .data, .data, .sentinel, .sentinel, .wider], laidTests := true, laidLooks := .later }
def OpCasesCardSaid : Prop := Claim7.holds Tryd.pinned (.plain (OpenSpec.ofChange opCasesSpec)) opCasesCard

/-- THE TIED CARD OF 'watchbilllaw5.OpApart'. -/
def opApartCard : Claim7 := { stood := { row := opApartRow, standIns := [], harness := (true, "7d44dc9ccc8f26db34dcdd1c73ade7b1efc54843c4477e338eaca62e5f21207f"), looks := true }, kinds := [], alts := [], laidByText := true, laidKinds := [.data, .data, .data, .sentinel, .sentinel, .wider], laidTests := true, laidLooks := .later }
def OpApartCardSaid : Prop := Claim7.holds Tryd.pinned (.plain (OpenSpec.ofChange opApartSpec)) opApartCard

/-- THE SECOND FORM's CARD OF 'watchbilllaw5.OpAny'. -/
def opAnyUptoCard : Claim7 := { stood := { row := opAnyUptoRow, standIns := [], harness := (true, "7d44dc9ccc8f26db34dcdd1c73ade7b1efc54843c4477e338eaca62e5f21207f"), looks := true }, kinds := [], alts := [], laidByText := true, laidKinds := [.data, .data, .data, .sentinel, .sentinel, .wider], laidTests := true, laidLooks := .later }
def OpAnyUptoCardSaid : Prop := Claim7.holds Tryd.pinned (.plain (OpenSpec.upto opAnySpec)) opAnyUptoCard

/-- THE SECOND FORM's CARD OF 'watchbilllaw5.OpReads'. -/
def opReadsUptoCard : Claim7 := { stood := { row := opReadsUptoRow, standIns := [], harness := (true, "7d44dc9ccc8f26db34dcdd1c73ade7b1efc54843c4477e338eaca62e5f21207f"), looks := true }, kinds := [], alts := [], laidByText := true, laidKinds := [.data, .data, .data, .sentinel, .sentinel, .wider], laidTests := true, laidLooks := .later }
def OpReadsUptoCardSaid : Prop := Claim7.holds Tryd.pinned (.plain (OpenSpec.upto opReadsSpec)) opReadsUptoCard

/-- THE SECOND FORM's CARD OF 'watchbilllaw5.OpNumbers'. -/
def opNumbersUptoCard : Claim7 := { stood := { row := opNumbersUptoRow, standIns := [], harness := (true, "7d44dc9ccc8f26db34dcdd1c73ade7b1efc54843c4477e338eaca62e5f21207f"), looks := true }, kinds := [], alts := [], laidByText := true, laidKinds := [.data, .data, .data, .sentinel, .sentinel, .wider], laidTests := true, laidLooks := .later }
def OpNumbersUptoCardSaid : Prop := Claim7.holds Tryd.pinned (.plain (OpenSpec.upto opNumbersSpec)) opNumbersUptoCard

/-- THE SECOND FORM's CARD OF 'watchbilllaw5.OpCases'. -/
def opCasesUptoCard : Claim7 := { stood := { row := opCasesUptoRow, standIns := [], harness := (true, "7d44dc9ccc8f26db34dcdd1c73ade7b1efc54843c4477e338eaca62e5f21207f"), looks := true }, kinds := [], alts := [], laidByText := true, laidKinds := [.data, .data, .data, .sentinel, .sentinel, .wider], laidTests := true, laidLooks := .later }
def OpCasesUptoCardSaid : Prop := Claim7.holds Tryd.pinned (.plain (OpenSpec.upto opCasesSpec)) opCasesUptoCard

/-- THE SECOND FORM's CARD OF 'watchbilllaw5.OpApart'. -/
def opApartUptoCard : Claim7 := { stood := { row := opApartUptoRow, standIns := [], harness := (true, "7d44dc9ccc8f26db34dcdd1c73ade7b1efc54843c4477e338eaca62e5f21207f"), looks := true }, kinds := [], alts := [], laidByText := true, laidKinds := [.data, .data, .data, .sentinel, .sentinel, .wider], laidTests := true, laidLooks := .later }
def OpApartUptoCardSaid : Prop := Claim7.holds Tryd.pinned (.plain (OpenSpec.upto opApartSpec)) opApartUptoCard
end Rows
end Go.Proofs.YtiiddfahpddffaaDoor
