/-
  DERIVED. GIVEN WITH THE SEED: THE CARDS: each row of YtknjhlbhbnldpaaGreatDoorRows.lean that lists a variable, with what it lists TIED to the program's text (the seventh form; the later family's looks); each row that meets fmt, with fmt's text TOLD by the authors' own Lean function (tested against real Go, not proved from fmt's source: count such statements apart). THE CARD IS WHAT COUNTS. Prove the row's statement (the work); the ties are given (YtknjhlbhbnldpaaGreatDoorTie.lean); close each card by the builder's one call (the guide's Derived/Test/ToyasCard.lean, 'card_holds'). Laid BY PROGRAM, IN A SANDBOX (cutbox-door.mjs). By AI agents, Wed Nov 11 2026. No macro, syntax, notation, axiom, sorry.
-/
import Derived.Test.YtknjhlbhbnldpaaGreatDoorRows
import GoSem.ClaimSeven
namespace Go.Proofs.YtknjhlbhbnldpaaGreatDoor
namespace Rows

/-- THE TIED CARD OF 'redactorlaw08.CollateFolds'. -/
def collateFoldsCard : Claim7 := { stood := { row := collateFoldsRow, standIns := [], harness := (true, "5268fde8d6339d6cf90893a7bb04b3f1608ca882f8447f9fd3eef03d874dfe87"), looks := false }, kinds := [], alts := [], laidByText := true, laidKinds := [.data, .data, .data, .data, .pinned], laidTests := true, laidLooks := .later }
def CollateFoldsCardSaid : Prop := Claim7.holds Tryz.pinned (.plain (OpenSpec.ofChange collateFoldsSpec)) collateFoldsCard

/-- THE TIED CARD OF 'redactorlaw08.CollateNamed'. -/
def collateNamedCard : Claim7 := { stood := { row := collateNamedRow, standIns := [], harness := (true, "5268fde8d6339d6cf90893a7bb04b3f1608ca882f8447f9fd3eef03d874dfe87"), looks := false }, kinds := [], alts := [], laidByText := true, laidKinds := [.data, .data, .data, .data, .pinned], laidTests := true, laidLooks := .later }
def CollateNamedCardSaid : Prop := Claim7.holds Tryz.pinned (.plain (OpenSpec.ofChange collateNamedSpec)) collateNamedCard

/-- THE TIED CARD OF 'redactorlaw08.CollatePlain'. -/
def collatePlainCard : Claim7 := { stood := { row := collatePlainRow, standIns := [], harness := (true, "5268fde8d6339d6cf90893a7bb04b3f1608ca882f8447f9fd3eef03d874dfe87"), looks := false }, kinds := [], alts := [], laidByText := true, laidKinds := [.data, .data, .data, .data, .pinned], laidTests := true, laidLooks := .later }
def CollatePlainCardSaid : Prop := Claim7.holds Tryz.pinned (.plain (OpenSpec.ofChange collatePlainSpec)) collatePlainCard

/-- THE TIED CARD OF 'redactorlaw08.CollateAnswers'. -/
def collateAnswersCard : Claim7 := { stood := { row := collateAnswersRow, standIns := [], harness := (true, "5268fde8d6339d6cf90893a7bb04b3f1608ca882f8447f9fd3eef03d874dfe87"), looks := false }, kinds := [], alts := [], laidByText := true, laidKinds := [.data, .data, .data, .data, .pinned], laidTests := true, laidLooks := .later }
def CollateAnswersCardSaid : Prop := Claim7.holds Tryz.pinned (.plain (OpenSpec.ofChange collateAnswersSpec)) collateAnswersCard

/-- THE TIED CARD OF 'redactorlaw08.CollateCounts'. -/
def collateCountsCard : Claim7 := { stood := { row := collateCountsRow, standIns := [], harness := (true, "5268fde8d6339d6cf90893a7bb04b3f1608ca882f8447f9fd3eef03d874dfe87"), looks := false }, kinds := [], alts := [], laidByText := true, laidKinds := [.data, .data, .data, .data, .pinned], laidTests := true, laidLooks := .later }
def CollateCountsCardSaid : Prop := Claim7.holds Tryz.pinned (.plain (OpenSpec.ofChange collateCountsSpec)) collateCountsCard

/-- THE TIED CARD OF 'redactorlaw08.CollateAlike'. -/
def collateAlikeCard : Claim7 := { stood := { row := collateAlikeRow, standIns := [], harness := (true, "5268fde8d6339d6cf90893a7bb04b3f1608ca882f8447f9fd3eef03d874dfe87"), looks := false }, kinds := [], alts := [], laidByText := true, laidKinds := [.data, .data, .data, .data, .pinned], laidTests := true, laidLooks := .later }
def CollateAlikeCardSaid : Prop := Claim7.holds Tryz.pinned (.plain (OpenSpec.ofChange collateAlikeSpec)) collateAlikeCard

/-- THE TIED CARD OF 'redactorlaw08.CollateBetween'. -/
def collateBetweenCard : Claim7 := { stood := { row := collateBetweenRow, standIns := [], harness := (true, "5268fde8d6339d6cf90893a7bb04b3f1608ca882f8447f9fd3eef03d874dfe87"), looks := false }, kinds := [], alts := [], laidByText := true, laidKinds := [.data, .data, .data, .data, .pinned], laidTests := true, laidLooks := .later }
def CollateBetweenCardSaid : Prop := Claim7.holds Tryz.pinned (.plain (OpenSpec.ofChange collateBetweenSpec)) collateBetweenCard

/-- THE SECOND FORM's CARD OF 'redactorlaw08.CollateFolds'. -/
def collateFoldsUptoCard : Claim7 := { stood := { row := collateFoldsUptoRow, standIns := [], harness := (true, "5268fde8d6339d6cf90893a7bb04b3f1608ca882f8447f9fd3eef03d874dfe87"), looks := false }, kinds := [], alts := [], laidByText := true, laidKinds := [.data, .data, .data, .data, .pinned], laidTests := true, laidLooks := .later }
def CollateFoldsUptoCardSaid : Prop := Claim7.holds Tryz.pinned (.plain (OpenSpec.upto collateFoldsSpec)) collateFoldsUptoCard

/-- THE SECOND FORM's CARD OF 'redactorlaw08.CollateNamed'. -/
def collateNamedUptoCard : Claim7 := { stood := { row := collateNamedUptoRow, standIns := [], harness := (true, "5268fde8d6339d6cf90893a7bb04b3f1608ca882f8447f9fd3eef03d874dfe87"), looks := false }, kinds := [], alts := [], laidByText := true, laidKinds := [.data, .data, .data, .data, .pinned], laidTests := true, laidLooks := .later }
def CollateNamedUptoCardSaid : Prop := Claim7.holds Tryz.pinned (.plain (OpenSpec.upto collateNamedSpec)) collateNamedUptoCard

/-- THE SECOND FORM's CARD OF 'redactorlaw08.CollatePlain'. -/
def collatePlainUptoCard : Claim7 := { stood := { row := collatePlainUptoRow, standIns := [], harness := (true, "5268fde8d6339d6cf90893a7bb04b3f1608ca882f8447f9fd3eef03d874dfe87"), looks := false }, kinds := [], alts := [], laidByText := true, laidKinds := [.data, .data, .data, .data, .pinned], laidTests := true, laidLooks := .later }
def CollatePlainUptoCardSaid : Prop := Claim7.holds Tryz.pinned (.plain (OpenSpec.upto collatePlainSpec)) collatePlainUptoCard

/-- THE SECOND FORM's CARD OF 'redactorlaw08.CollateAnswers'. -/
def collateAnswersUptoCard : Claim7 := { stood := { row := collateAnswersUptoRow, standIns := [], harness := (true, "5268fde8d6339d6cf90893a7bb04b3f1608ca882f8447f9fd3eef03d874dfe87"), looks := false }, kinds := [], alts := [], laidByText := true, laidKinds := [.data, .data, .data, .data, .pinned], laidTests := true, laidLooks := .later }
def CollateAnswersUptoCardSaid : Prop := Claim7.holds Tryz.pinned (.plain (OpenSpec.upto collateAnswersSpec)) collateAnswersUptoCard

/-- THE SECOND FORM's CARD OF 'redactorlaw08.CollateCounts'. -/
def collateCountsUptoCard : Claim7 := { stood := { row := collateCountsUptoRow, standIns := [], harness := (true, "5268fde8d6339d6cf90893a7bb04b3f1608ca882f8447f9fd3eef03d874dfe87"), looks := false }, kinds := [], alts := [], laidByText := true, laidKinds := [.data, .data, .data, .data, .pinned], laidTests := true, laidLooks := .later }
def CollateCountsUptoCardSaid : Prop := Claim7.holds Tryz.pinned (.plain (OpenSpec.upto collateCountsSpec)) collateCountsUptoCard

/-- THE SECOND FORM's CARD OF 'redactorlaw08.CollateAlike'. -/
def collateAlikeUptoCard : Claim7 := { stood := { row := collateAlikeUptoRow, standIns := [], harness := (true, "5268fde8d6339d6cf90893a7bb04b3f1608ca882f8447f9fd3eef03d874dfe87"), looks := false }, kinds := [], alts := [], laidByText := true, laidKinds := [.data, .data, .data, .data, .pinned], laidTests := true, laidLooks := .later }
def CollateAlikeUptoCardSaid : Prop := Claim7.holds Tryz.pinned (.plain (OpenSpec.upto collateAlikeSpec)) collateAlikeUptoCard

/-- THE SECOND FORM's CARD OF 'redactorlaw08.CollateBetween'. -/
def collateBetweenUptoCard : Claim7 := { stood := { row := collateBetweenUptoRow, standIns := [], harness := (true, "5268fde8d6339d6cf90893a7bb04b3f1608ca882f8447f9fd3eef03d874dfe87"), looks := false }, kinds := [], alts := [], laidByText := true, laidKinds := [.data, .data, .data, .data, .pinned], laidTests := true, laidLooks := .later }
def CollateBetweenUptoCardSaid : Prop := Claim7.holds Tryz.pinned (.plain (OpenSpec.upto collateBetweenSpec)) collateBetweenUptoCard
end Rows
end Go.Proofs.YtknjhlbhbnldpaaGreatDoor
