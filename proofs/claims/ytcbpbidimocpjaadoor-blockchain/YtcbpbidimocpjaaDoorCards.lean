/-
  DERIVED. GIVEN WITH THE SEED: THE CARDS: each row of YtcbpbidimocpjaaDoorRows.lean that lists a variable, with what it lists TIED to the program's text (the seventh form; the later family's looks); each row that meets fmt, with fmt's text TOLD by the authors' own Lean function (tested against real Go, not proved from fmt's source: count such statements apart). THE CARD IS WHAT COUNTS. Prove the row's statement (the work); the ties are given (YtcbpbidimocpjaaDoorTie.lean); close each card by the builder's one call (the guide's Derived/Test/ToyasCard.lean, 'card_holds'). Laid BY PROGRAM, IN A SANDBOX (cutbox-door.mjs). By AI agents, Wed Nov 11 2026. No macro, syntax, notation, axiom, sorry.
-/
import Derived.Test.YtcbpbidimocpjaaDoorRows
import GoSem.ClaimSeven
namespace Go.Proofs.YtcbpbidimocpjaaDoor
namespace Rows

/-- THE TIED CARD OF 'watchbilllaw11.BlockFree'. -/
def blockFreeCard : Claim7 := { stood := { row := blockFreeRow, standIns := [], harness := (true, "1045b9a888ad020267b5264840214489d0b4f9e829304f6b56afe1912f7e1110"), looks := false }, kinds := [], alts := [], laidByText := true, laidKinds := [.wider], laidTests := true, laidLooks := .later }
def BlockFreeCardSaid : Prop := Claim7.holds Tryd.pinned (.plain (OpenSpec.ofChange blockFreeSpec)) blockFreeCard

/-- THE TIED CARD OF 'watchbilllaw11.BlockChain'. -/
def blockChainCard : Claim7 := { stood := { row := blockChainRow, standIns := [], harness := (true, "1045b9a888ad020267b5264840214489d0b4f9e829304f6b56afe1912f7e1110"), looks := false }, kinds := [], alts := [], laidByText := true, laidKinds := [.wider], laidTests := true, laidLooks := .later }
def BlockChainCardSaid : Prop := Claim7.holds Tryd.pinned (.plain (OpenSpec.ofChange blockChainSpec)) blockChainCard

/-- THE TIED CARD OF 'watchbilllaw11.BlockBudgets'. -/
def blockBudgetsCard : Claim7 := { stood := { row := blockBudgetsRow, standIns := [], harness := (true, "1045b9a888ad020267b5264840214489d0b4f9e829304f6b56afe1912f7e1110"), looks := false }, kinds := [], alts := [], laidByText := true, laidKinds := [.wider], laidTests := true, laidLooks := .later }
def BlockBudgetsCardSaid : Prop := Claim7.holds Tryd.pinned (.plain (OpenSpec.ofChange blockBudgetsSpec)) blockBudgetsCard

/-- THE SECOND FORM's CARD OF 'watchbilllaw11.BlockFree'. -/
def blockFreeUptoCard : Claim7 := { stood := { row := blockFreeUptoRow, standIns := [], harness := (true, "1045b9a888ad020267b5264840214489d0b4f9e829304f6b56afe1912f7e1110"), looks := false }, kinds := [], alts := [], laidByText := true, laidKinds := [.wider], laidTests := true, laidLooks := .later }
def BlockFreeUptoCardSaid : Prop := Claim7.holds Tryd.pinned (.plain (OpenSpec.upto blockFreeSpec)) blockFreeUptoCard

/-- THE SECOND FORM's CARD OF 'watchbilllaw11.BlockChain'. -/
def blockChainUptoCard : Claim7 := { stood := { row := blockChainUptoRow, standIns := [], harness := (true, "1045b9a888ad020267b5264840214489d0b4f9e829304f6b56afe1912f7e1110"), looks := false }, kinds := [], alts := [], laidByText := true, laidKinds := [.wider], laidTests := true, laidLooks := .later }
def BlockChainUptoCardSaid : Prop := Claim7.holds Tryd.pinned (.plain (OpenSpec.upto blockChainSpec)) blockChainUptoCard

/-- THE SECOND FORM's CARD OF 'watchbilllaw11.BlockBudgets'. -/
def blockBudgetsUptoCard : Claim7 := { stood := { row := blockBudgetsUptoRow, standIns := [], harness := (true, "1045b9a888ad020267b5264840214489d0b4f9e829304f6b56afe1912f7e1110"), looks := false }, kinds := [], alts := [], laidByText := true, laidKinds := [.wider], laidTests := true, laidLooks := .later }
def BlockBudgetsUptoCardSaid : Prop := Claim7.holds Tryd.pinned (.plain (OpenSpec.upto blockBudgetsSpec)) blockBudgetsUptoCard
end Rows
end Go.Proofs.YtcbpbidimocpjaaDoor
