/-
  DERIVED. GIVEN WITH THE SEED: THE CARDS: each row of YtlkbphogpbcjfaaDoorRows.lean that lists a variable, with what it lists TIED to the program's text (the seventh form; the later family's looks); each row that meets fmt, with fmt's text TOLD by the authors' own Lean function (tested against real Go, not proved from fmt's source: count such statements apart). THE CARD IS WHAT COUNTS. Prove the row's statement (the work); the ties are given (YtlkbphogpbcjfaaDoorTie.lean); close each card by the builder's one call (the guide's Derived/Test/ToyasCard.lean, 'card_holds'). Laid BY PROGRAM, IN A SANDBOX (cutbox-door.mjs). By AI agents, Wed Nov 11 2026. No macro, syntax, notation, axiom, sorry.
-/
import Derived.Test.YtlkbphogpbcjfaaDoorRows
import GoSem.ClaimSeven
namespace Go.Proofs.YtlkbphogpbcjfaaDoor
namespace Rows

/-- THE TIED CARD OF 'watchbilllaw12.RtaNext'. -/
def rtaNextCard : Claim7 := { stood := { row := rtaNextRow, standIns := [], harness := (true, "dc99392ec932ca81fef52d908b8f53219a286d16eff1beca025198efd8c364a4"), looks := false }, kinds := [], alts := [], laidByText := true, laidKinds := [.wider], laidTests := true, laidLooks := .later }
def RtaNextCardSaid : Prop := Claim7.holds Tryd.pinned (.plain (OpenSpec.ofChange rtaNextSpec)) rtaNextCard

/-- THE TIED CARD OF 'watchbilllaw12.RtaFix'. -/
def rtaFixCard : Claim7 := { stood := { row := rtaFixRow, standIns := [], harness := (true, "dc99392ec932ca81fef52d908b8f53219a286d16eff1beca025198efd8c364a4"), looks := false }, kinds := [], alts := [], laidByText := true, laidKinds := [.wider], laidTests := true, laidLooks := .later }
def RtaFixCardSaid : Prop := Claim7.holds Tryd.pinned (.plain (OpenSpec.ofChange rtaFixSpec)) rtaFixCard

/-- THE TIED CARD OF 'watchbilllaw12.RtaMore'. -/
def rtaMoreCard : Claim7 := { stood := { row := rtaMoreRow, standIns := [], harness := (true, "dc99392ec932ca81fef52d908b8f53219a286d16eff1beca025198efd8c364a4"), looks := false }, kinds := [], alts := [], laidByText := true, laidKinds := [.wider], laidTests := true, laidLooks := .later }
def RtaMoreCardSaid : Prop := Claim7.holds Tryd.pinned (.plain (OpenSpec.ofChange rtaMoreSpec)) rtaMoreCard

/-- THE TIED CARD OF 'watchbilllaw12.RtaBounds'. -/
def rtaBoundsCard : Claim7 := { stood := { row := rtaBoundsRow, standIns := [], harness := (true, "dc99392ec932ca81fef52d908b8f53219a286d16eff1beca025198efd8c364a4"), looks := false }, kinds := [], alts := [], laidByText := true, laidKinds := [.wider], laidTests := true, laidLooks := .later }
def RtaBoundsCardSaid : Prop := Claim7.holds Tryd.pinned (.plain (OpenSpec.ofChange rtaBoundsSpec)) rtaBoundsCard

/-- THE TIED CARD OF 'watchbilllaw12.RtaSums'. -/
def rtaSumsCard : Claim7 := { stood := { row := rtaSumsRow, standIns := [], harness := (true, "dc99392ec932ca81fef52d908b8f53219a286d16eff1beca025198efd8c364a4"), looks := false }, kinds := [], alts := [], laidByText := true, laidKinds := [.wider], laidTests := true, laidLooks := .later }
def RtaSumsCardSaid : Prop := Claim7.holds Tryd.pinned (.plain (OpenSpec.ofChange rtaSumsSpec)) rtaSumsCard

/-- THE SECOND FORM's CARD OF 'watchbilllaw12.RtaNext'. -/
def rtaNextUptoCard : Claim7 := { stood := { row := rtaNextUptoRow, standIns := [], harness := (true, "dc99392ec932ca81fef52d908b8f53219a286d16eff1beca025198efd8c364a4"), looks := false }, kinds := [], alts := [], laidByText := true, laidKinds := [.wider], laidTests := true, laidLooks := .later }
def RtaNextUptoCardSaid : Prop := Claim7.holds Tryd.pinned (.plain (OpenSpec.upto rtaNextSpec)) rtaNextUptoCard

/-- THE SECOND FORM's CARD OF 'watchbilllaw12.RtaFix'. -/
def rtaFixUptoCard : Claim7 := { stood := { row := rtaFixUptoRow, standIns := [], harness := (true, "dc99392ec932ca81fef52d908b8f53219a286d16eff1beca025198efd8c364a4"), looks := false }, kinds := [], alts := [], laidByText := true, laidKinds := [.wider], laidTests := true, laidLooks := .later }
def RtaFixUptoCardSaid : Prop := Claim7.holds Tryd.pinned (.plain (OpenSpec.upto rtaFixSpec)) rtaFixUptoCard

/-- THE SECOND FORM's CARD OF 'watchbilllaw12.RtaMore'. -/
def rtaMoreUptoCard : Claim7 := { stood := { row := rtaMoreUptoRow, standIns := [], harness := (true, "dc99392ec932ca81fef52d908b8f53219a286d16eff1beca025198efd8c364a4"), looks := false }, kinds := [], alts := [], laidByText := true, laidKinds := [.wider], laidTests := true, laidLooks := .later }
def RtaMoreUptoCardSaid : Prop := Claim7.holds Tryd.pinned (.plain (OpenSpec.upto rtaMoreSpec)) rtaMoreUptoCard

/-- THE SECOND FORM's CARD OF 'watchbilllaw12.RtaBounds'. -/
def rtaBoundsUptoCard : Claim7 := { stood := { row := rtaBoundsUptoRow, standIns := [], harness := (true, "dc99392ec932ca81fef52d908b8f53219a286d16eff1beca025198efd8c364a4"), looks := false }, kinds := [], alts := [], laidByText := true, laidKinds := [.wider], laidTests := true, laidLooks := .later }
def RtaBoundsUptoCardSaid : Prop := Claim7.holds Tryd.pinned (.plain (OpenSpec.upto rtaBoundsSpec)) rtaBoundsUptoCard

/-- THE SECOND FORM's CARD OF 'watchbilllaw12.RtaSums'. -/
def rtaSumsUptoCard : Claim7 := { stood := { row := rtaSumsUptoRow, standIns := [], harness := (true, "dc99392ec932ca81fef52d908b8f53219a286d16eff1beca025198efd8c364a4"), looks := false }, kinds := [], alts := [], laidByText := true, laidKinds := [.wider], laidTests := true, laidLooks := .later }
def RtaSumsUptoCardSaid : Prop := Claim7.holds Tryd.pinned (.plain (OpenSpec.upto rtaSumsSpec)) rtaSumsUptoCard
end Rows
end Go.Proofs.YtlkbphogpbcjfaaDoor
