/-
  DERIVED. GIVEN WITH THE SEED: THE CARDS: each row of YtohokkdlehahnaaDoorRows.lean that lists a variable, with what it lists TIED to the program's text (the seventh form; the later family's looks); each row that meets fmt, with fmt's text TOLD by the authors' own Lean function (tested against real Go, not proved from fmt's source: count such statements apart). THE CARD IS WHAT COUNTS. Prove the row's statement (the work); the ties are given (YtohokkdlehahnaaDoorTie.lean); close each card by the builder's one call (the guide's Derived/Test/ToyasCard.lean, 'card_holds'). Laid BY PROGRAM, IN A SANDBOX (cutbox-door.mjs). By AI agents, Wed Nov 11 2026. No macro, syntax, notation, axiom, sorry.
-/
import Derived.Test.YtohokkdlehahnaaDoorRows
import GoSem.ClaimSeven
namespace Go.Proofs.YtohokkdlehahnaaDoor
namespace Rows

/-- THE TIED CARD OF 'watchbilllaw6.ProgAny'. -/
def progAnyCard : Claim7 := { stood := { row := progAnyRow, standIns := [], harness := (true, "a339095179ad92a2415ef3c74bd1ba12e3ef5f269e106059f53b1eeaee254ac7"), looks := false }, kinds := [], alts := [], laidByText := true, laidKinds := [.wider], laidTests := true, laidLooks := .later }
def ProgAnyCardSaid : Prop := Claim7.holds Tryd.pinned (.plain (OpenSpec.ofChange progAnySpec)) progAnyCard

/-- THE TIED CARD OF 'watchbilllaw6.ProgLoops'. -/
def progLoopsCard : Claim7 := { stood := { row := progLoopsRow, standIns := [], harness := (true, "a339095179ad92a2415ef3c74bd1ba12e3ef5f269e106059f53b1eeaee254ac7"), looks := false }, kinds := [], alts := [], laidByText := true, laidKinds := [.wider], laidTests := true, laidLooks := .later }
def ProgLoopsCardSaid : Prop := Claim7.holds Tryd.pinned (.plain (OpenSpec.ofChange progLoopsSpec)) progLoopsCard

/-- THE TIED CARD OF 'watchbilllaw6.ProgFlat'. -/
def progFlatCard : Claim7 := { stood := { row := progFlatRow, standIns := [], harness := (true, "a339095179ad92a2415ef3c74bd1ba12e3ef5f269e106059f53b1eeaee254ac7"), looks := false }, kinds := [], alts := [], laidByText := true, laidKinds := [.wider], laidTests := true, laidLooks := .later }
def ProgFlatCardSaid : Prop := Claim7.holds Tryd.pinned (.plain (OpenSpec.ofChange progFlatSpec)) progFlatCard

/-- THE TIED CARD OF 'watchbilllaw6.ProgLocks'. -/
def progLocksCard : Claim7 := { stood := { row := progLocksRow, standIns := [], harness := (true, "a339095179ad92a2415ef3c74bd1ba12e3ef5f269e106059f53b1eeaee254ac7"), looks := false }, kinds := [], alts := [], laidByText := true, laidKinds := [.wider], laidTests := true, laidLooks := .later }
def ProgLocksCardSaid : Prop := Claim7.holds Tryd.pinned (.plain (OpenSpec.ofChange progLocksSpec)) progLocksCard

/-- THE TIED CARD OF 'watchbilllaw6.ProgOrder'. -/
def progOrderCard : Claim7 := { stood := { row := progOrderRow, standIns := [], harness := (true, "a339095179ad92a2415ef3c74bd1ba12e3ef5f269e106059f53b1eeaee254ac7"), looks := false }, kinds := [], alts := [], laidByText := true, laidKinds := [.wider], laidTests := true, laidLooks := .later }
def ProgOrderCardSaid : Prop := Claim7.holds Tryd.pinned (.plain (OpenSpec.ofChange progOrderSpec)) progOrderCard

/-- THE TIED CARD OF 'watchbilllaw6.ProgTwice'. -/
def progTwiceCard : Claim7 := { stood := { row := progTwiceRow, standIns := [], harness := (true, "a339095179ad92a2415ef3c74bd1ba12e3ef5f269e106059f53b1eeaee254ac7"), looks := false }, kinds := [], alts := [], laidByText := true, laidKinds := [.wider], laidTests := true, laidLooks := .later }
def ProgTwiceCardSaid : Prop := Claim7.holds Tryd.pinned (.plain (OpenSpec.ofChange progTwiceSpec)) progTwiceCard

/-- THE SECOND FORM's CARD OF 'watchbilllaw6.ProgAny'. -/
def progAnyUptoCard : Claim7 := { stood := { row := progAnyUptoRow, standIns := [], harness := (true, "a339095179ad92a2415ef3c74bd1ba12e3ef5f269e106059f53b1eeaee254ac7"), looks := false }, kinds := [], alts := [], laidByText := true, laidKinds := [.wider], laidTests := true, laidLooks := .later }
def ProgAnyUptoCardSaid : Prop := Claim7.holds Tryd.pinned (.plain (OpenSpec.upto progAnySpec)) progAnyUptoCard

/-- THE SECOND FORM's CARD OF 'watchbilllaw6.ProgLoops'. -/
def progLoopsUptoCard : Claim7 := { stood := { row := progLoopsUptoRow, standIns := [], harness := (true, "a339095179ad92a2415ef3c74bd1ba12e3ef5f269e106059f53b1eeaee254ac7"), looks := false }, kinds := [], alts := [], laidByText := true, laidKinds := [.wider], laidTests := true, laidLooks := .later }
def ProgLoopsUptoCardSaid : Prop := Claim7.holds Tryd.pinned (.plain (OpenSpec.upto progLoopsSpec)) progLoopsUptoCard

/-- THE SECOND FORM's CARD OF 'watchbilllaw6.ProgFlat'. -/
def progFlatUptoCard : Claim7 := { stood := { row := progFlatUptoRow, standIns := [], harness := (true, "a339095179ad92a2415ef3c74bd1ba12e3ef5f269e106059f53b1eeaee254ac7"), looks := false }, kinds := [], alts := [], laidByText := true, laidKinds := [.wider], laidTests := true, laidLooks := .later }
def ProgFlatUptoCardSaid : Prop := Claim7.holds Tryd.pinned (.plain (OpenSpec.upto progFlatSpec)) progFlatUptoCard

/-- THE SECOND FORM's CARD OF 'watchbilllaw6.ProgLocks'. -/
def progLocksUptoCard : Claim7 := { stood := { row := progLocksUptoRow, standIns := [], harness := (true, "a339095179ad92a2415ef3c74bd1ba12e3ef5f269e106059f53b1eeaee254ac7"), looks := false }, kinds := [], alts := [], laidByText := true, laidKinds := [.wider], laidTests := true, laidLooks := .later }
def ProgLocksUptoCardSaid : Prop := Claim7.holds Tryd.pinned (.plain (OpenSpec.upto progLocksSpec)) progLocksUptoCard

/-- THE SECOND FORM's CARD OF 'watchbilllaw6.ProgOrder'. -/
def progOrderUptoCard : Claim7 := { stood := { row := progOrderUptoRow, standIns := [], harness := (true, "a339095179ad92a2415ef3c74bd1ba12e3ef5f269e106059f53b1eeaee254ac7"), looks := false }, kinds := [], alts := [], laidByText := true, laidKinds := [.wider], laidTests := true, laidLooks := .later }
def ProgOrderUptoCardSaid : Prop := Claim7.holds Tryd.pinned (.plain (OpenSpec.upto progOrderSpec)) progOrderUptoCard

/-- THE SECOND FORM's CARD OF 'watchbilllaw6.ProgTwice'. -/
def progTwiceUptoCard : Claim7 := { stood := { row := progTwiceUptoRow, standIns := [], harness := (true, "a339095179ad92a2415ef3c74bd1ba12e3ef5f269e106059f53b1eeaee254ac7"), looks := false }, kinds := [], alts := [], laidByText := true, laidKinds := [.wider], laidTests := true, laidLooks := .later }
def ProgTwiceUptoCardSaid : Prop := Claim7.holds Tryd.pinned (.plain (OpenSpec.upto progTwiceSpec)) progTwiceUptoCard
end Rows
end Go.Proofs.YtohokkdlehahnaaDoor
