/-
  DERIVED. GIVEN WITH THE SEED: THE CARDS: each row of YthgiikhkcpbpfaaGreatDoorRows.lean that lists a variable, with what it lists TIED to the program's text (the seventh form; the later family's looks); each row that meets fmt, with fmt's text TOLD by the authors' own Lean function (tested against real Go, not proved from fmt's source: count such statements apart). THE CARD IS WHAT COUNTS. Prove the row's statement (the work); the ties are given (YthgiikhkcpbpfaaGreatDoorTie.lean); close each card by the builder's one call (the guide's Derived/Test/ToyasCard.lean, 'card_holds'). Laid BY PROGRAM, IN A SANDBOX (cutbox-door.mjs). By AI agents, Wed Nov 11 2026. No macro, syntax, notation, axiom, sorry.
-/
import Derived.Test.YthgiikhkcpbpfaaGreatDoorRows
import GoSem.ClaimSeven
namespace Go.Proofs.YthgiikhkcpbpfaaGreatDoor
namespace Rows

/-- THE TIED CARD OF 'redactorlaw10.BracketRow'. -/
def bracketRowCard : Claim7 := { stood := { row := bracketRowRow, standIns := [], harness := (true, "d2e062ab36006ede1aa3abd610a4623cac91a803afcc3b438b7acc18975e4dcf"), looks := true }, kinds := [], alts := [], laidByText := true, laidKinds := [.data, .data, .data, .data, .pinned], laidTests := true, laidLooks := .later }
def BracketRowCardSaid : Prop := Claim7.holds Tryz.pinned (.plain (OpenSpec.ofChange bracketRowSpec)) bracketRowCard

/-- THE TIED CARD OF 'redactorlaw10.BracketMost'. -/
def bracketMostCard : Claim7 := { stood := { row := bracketMostRow, standIns := [], harness := (true, "d2e062ab36006ede1aa3abd610a4623cac91a803afcc3b438b7acc18975e4dcf"), looks := true }, kinds := [], alts := [], laidByText := true, laidKinds := [.data, .data, .data, .data, .pinned], laidTests := true, laidLooks := .later }
def BracketMostCardSaid : Prop := Claim7.holds Tryz.pinned (.plain (OpenSpec.ofChange bracketMostSpec)) bracketMostCard

/-- THE TIED CARD OF 'redactorlaw10.BracketParses'. -/
def bracketParsesCard : Claim7 := { stood := { row := bracketParsesRow, standIns := [], harness := (true, "d2e062ab36006ede1aa3abd610a4623cac91a803afcc3b438b7acc18975e4dcf"), looks := true }, kinds := [], alts := [], laidByText := true, laidKinds := [.data, .data, .data, .data, .pinned], laidTests := true, laidLooks := .later }
def BracketParsesCardSaid : Prop := Claim7.holds Tryz.pinned (.plain (OpenSpec.ofChange bracketParsesSpec)) bracketParsesCard

/-- THE TIED CARD OF 'redactorlaw10.BracketNot'. -/
def bracketNotCard : Claim7 := { stood := { row := bracketNotRow, standIns := [], harness := (true, "d2e062ab36006ede1aa3abd610a4623cac91a803afcc3b438b7acc18975e4dcf"), looks := true }, kinds := [], alts := [], laidByText := true, laidKinds := [.data, .data, .data, .data, .pinned], laidTests := true, laidLooks := .later }
def BracketNotCardSaid : Prop := Claim7.holds Tryz.pinned (.plain (OpenSpec.ofChange bracketNotSpec)) bracketNotCard

/-- THE TIED CARD OF 'redactorlaw10.BracketEach'. -/
def bracketEachCard : Claim7 := { stood := { row := bracketEachRow, standIns := [], harness := (true, "d2e062ab36006ede1aa3abd610a4623cac91a803afcc3b438b7acc18975e4dcf"), looks := true }, kinds := [], alts := [], laidByText := true, laidKinds := [.data, .data, .data, .data, .pinned], laidTests := true, laidLooks := .later }
def BracketEachCardSaid : Prop := Claim7.holds Tryz.pinned (.plain (OpenSpec.ofChange bracketEachSpec)) bracketEachCard

/-- THE SECOND FORM's CARD OF 'redactorlaw10.BracketRow'. -/
def bracketRowUptoCard : Claim7 := { stood := { row := bracketRowUptoRow, standIns := [], harness := (true, "d2e062ab36006ede1aa3abd610a4623cac91a803afcc3b438b7acc18975e4dcf"), looks := true }, kinds := [], alts := [], laidByText := true, laidKinds := [.data, .data, .data, .data, .pinned], laidTests := true, laidLooks := .later }
def BracketRowUptoCardSaid : Prop := Claim7.holds Tryz.pinned (.plain (OpenSpec.upto bracketRowSpec)) bracketRowUptoCard

/-- THE SECOND FORM's CARD OF 'redactorlaw10.BracketMost'. -/
def bracketMostUptoCard : Claim7 := { stood := { row := bracketMostUptoRow, standIns := [], harness := (true, "d2e062ab36006ede1aa3abd610a4623cac91a803afcc3b438b7acc18975e4dcf"), looks := true }, kinds := [], alts := [], laidByText := true, laidKinds := [.data, .data, .data, .data, .pinned], laidTests := true, laidLooks := .later }
def BracketMostUptoCardSaid : Prop := Claim7.holds Tryz.pinned (.plain (OpenSpec.upto bracketMostSpec)) bracketMostUptoCard

/-- THE SECOND FORM's CARD OF 'redactorlaw10.BracketParses'. -/
def bracketParsesUptoCard : Claim7 := { stood := { row := bracketParsesUptoRow, standIns := [], harness := (true, "d2e062ab36006ede1aa3abd610a4623cac91a803afcc3b438b7acc18975e4dcf"), looks := true }, kinds := [], alts := [], laidByText := true, laidKinds := [.data, .data, .data, .data, .pinned], laidTests := true, laidLooks := .later }
def BracketParsesUptoCardSaid : Prop := Claim7.holds Tryz.pinned (.plain (OpenSpec.upto bracketParsesSpec)) bracketParsesUptoCard

/-- THE SECOND FORM's CARD OF 'redactorlaw10.BracketNot'. -/
def bracketNotUptoCard : Claim7 := { stood := { row := bracketNotUptoRow, standIns := [], harness := (true, "d2e062ab36006ede1aa3abd610a4623cac91a803afcc3b438b7acc18975e4dcf"), looks := true }, kinds := [], alts := [], laidByText := true, laidKinds := [.data, .data, .data, .data, .pinned], laidTests := true, laidLooks := .later }
def BracketNotUptoCardSaid : Prop := Claim7.holds Tryz.pinned (.plain (OpenSpec.upto bracketNotSpec)) bracketNotUptoCard

/-- THE SECOND FORM's CARD OF 'redactorlaw10.BracketEach'. -/
def bracketEachUptoCard : Claim7 := { stood := { row := bracketEachUptoRow, standIns := [], harness := (true, "d2e062ab36006ede1aa3abd610a4623cac91a803afcc3b438b7acc18975e4dcf"), looks := true }, kinds := [], alts := [], laidByText := true, laidKinds := [.data, .data, .data, .data, .pinned], laidTests := true, laidLooks := .later }
def BracketEachUptoCardSaid : Prop := Claim7.holds Tryz.pinned (.plain (OpenSpec.upto bracketEachSpec)) bracketEachUptoCard
end Rows
end Go.Proofs.YthgiikhkcpbpfaaGreatDoor
