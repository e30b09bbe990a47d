/-
  DERIVED. GIVEN WITH THE SEED: THE CARDS: each row of YthaibekbefndlaaGreatDoorRows.lean that lists a variable, with what it lists TIED to the program's text (the seventh form; the later family's looks); each row that meets fmt, with fmt's text TOLD by the authors' own Lean function (tested against real Go, not proved from fmt's source: count such statements apart). THE CARD IS WHAT COUNTS. Prove the row's statement (the work); the ties are given (YthaibekbefndlaaGreatDoorTie.lean); close each card by the builder's one call (the guide's Derived/Test/ToyasCard.lean, 'card_holds'). Laid BY PROGRAM, IN A SANDBOX (cutbox-door.mjs). By AI agents, Wed Nov 11 2026. No macro, syntax, notation, axiom, sorry.
-/
import Derived.Test.YthaibekbefndlaaGreatDoorRows
import GoSem.ClaimSeven
namespace Go.Proofs.YthaibekbefndlaaGreatDoor
namespace Rows

/-- THE TIED CARD OF 'redactorlaw07.LocaleRow'. -/
def localeRowCard : Claim7 := { stood := { row := localeRowRow, standIns := [], harness := (true, "f339ada1184b9e82f53b562bbe66d16a72563d15318ab093993cb12c5c616fe8"), looks := true }, kinds := [], alts := [], laidByText := true, laidKinds := [.data, .data, .data, .data, .sentinel, .sentinel, .data, .pinned], laidTests := true, laidLooks := .later }
def LocaleRowCardSaid : Prop := Claim7.holds Tryz.pinned (.plain (OpenSpec.ofChange localeRowSpec)) localeRowCard

/-- THE TIED CARD OF 'redactorlaw07.LocaleTwice'. -/
def localeTwiceCard : Claim7 := { stood := { row := localeTwiceRow, standIns := [], harness := (true, "f339ada1184b9e82f53b562bbe66d16a72563d15318ab093993cb12c5c616fe8"), looks := true }, kinds := [], alts := [], laidByText := true, laidKinds := [.data, .data, .data, .data, .sentinel, .sentinel, .sentinel, .data, .pinned, .pinned], laidTests := true, laidLooks := .later }
def LocaleTwiceCardSaid : Prop := Claim7.holds Tryz.pinned (.plain (OpenSpec.ofChange localeTwiceSpec)) localeTwiceCard

/-- THE TIED CARD OF 'redactorlaw07.LocaleLong'. -/
def localeLongCard : Claim7 := { stood := { row := localeLongRow, standIns := [], harness := (true, "f339ada1184b9e82f53b562bbe66d16a72563d15318ab093993cb12c5c616fe8"), looks := true }, kinds := [], alts := [], laidByText := true, laidKinds := [.data, .data, .data, .data, .sentinel, .sentinel, .data, .pinned], laidTests := true, laidLooks := .later }
def LocaleLongCardSaid : Prop := Claim7.holds Tryz.pinned (.plain (OpenSpec.ofChange localeLongSpec)) localeLongCard

/-- THE TIED CARD OF 'redactorlaw07.LocaleRights'. -/
def localeRightsCard : Claim7 := { stood := { row := localeRightsRow, standIns := [], harness := (true, "f339ada1184b9e82f53b562bbe66d16a72563d15318ab093993cb12c5c616fe8"), looks := true }, kinds := [], alts := [], laidByText := true, laidKinds := [.data, .data, .data, .data, .sentinel, .sentinel, .sentinel, .data, .pinned, .pinned], laidTests := true, laidLooks := .later }
def LocaleRightsCardSaid : Prop := Claim7.holds Tryz.pinned (.plain (OpenSpec.ofChange localeRightsSpec)) localeRightsCard

/-- THE TIED CARD OF 'redactorlaw07.LocaleBack'. -/
def localeBackCard : Claim7 := { stood := { row := localeBackRow, standIns := [], harness := (true, "f339ada1184b9e82f53b562bbe66d16a72563d15318ab093993cb12c5c616fe8"), looks := true }, kinds := [], alts := [], laidByText := true, laidKinds := [.data, .data, .data, .data, .sentinel, .sentinel, .sentinel, .data, .pinned, .pinned], laidTests := true, laidLooks := .later }
def LocaleBackCardSaid : Prop := Claim7.holds Tryz.pinned (.plain (OpenSpec.ofChange localeBackSpec)) localeBackCard

/-- THE TIED CARD OF 'redactorlaw07.LocaleReads'. -/
def localeReadsCard : Claim7 := { stood := { row := localeReadsRow, standIns := [], harness := (true, "f339ada1184b9e82f53b562bbe66d16a72563d15318ab093993cb12c5c616fe8"), looks := true }, kinds := [], alts := [], laidByText := true, laidKinds := [.data, .data, .data, .data, .sentinel, .sentinel, .sentinel, .data, .pinned, .pinned], laidTests := true, laidLooks := .later }
def LocaleReadsCardSaid : Prop := Claim7.holds Tryz.pinned (.plain (OpenSpec.ofChange localeReadsSpec)) localeReadsCard

/-- THE SECOND FORM's CARD OF 'redactorlaw07.LocaleRow'. -/
def localeRowUptoCard : Claim7 := { stood := { row := localeRowUptoRow, standIns := [], harness := (true, "f339ada1184b9e82f53b562bbe66d16a72563d15318ab093993cb12c5c616fe8"), looks := true }, kinds := [], alts := [], laidByText := true, laidKinds := [.data, .data, .data, .data, .sentinel, .sentinel, .data, .pinned], laidTests := true, laidLooks := .later }
def LocaleRowUptoCardSaid : Prop := Claim7.holds Tryz.pinned (.plain (OpenSpec.upto localeRowSpec)) localeRowUptoCard

/-- THE SECOND FORM's CARD OF 'redactorlaw07.LocaleTwice'. -/
def localeTwiceUptoCard : Claim7 := { stood := { row := localeTwiceUptoRow, standIns := [], harness := (true, "f339ada1184b9e82f53b562bbe66d16a72563d15318ab093993cb12c5c616fe8"), looks := true }, kinds := [], alts := [], laidByText := true, laidKinds := [.data, .data, .data, .data, .sentinel, .sentinel, .sentinel, .data, .pinned, .pinned], laidTests := true, laidLooks := .later }
def LocaleTwiceUptoCardSaid : Prop := Claim7.holds Tryz.pinned (.plain (OpenSpec.upto localeTwiceSpec)) localeTwiceUptoCard

/-- THE SECOND FORM's CARD OF 'redactorlaw07.LocaleLong'. -/
def localeLongUptoCard : Claim7 := { stood := { row := localeLongUptoRow, standIns := [], harness := (true, "f339ada1184b9e82f53b562bbe66d16a72563d15318ab093993cb12c5c616fe8"), looks := true }, kinds := [], alts := [], laidByText := true, laidKinds := [.data, .data, .data, .data, .sentinel, .sentinel, .data, .pinned], laidTests := true, laidLooks := .later }
def LocaleLongUptoCardSaid : Prop := Claim7.holds Tryz.pinned (.plain (OpenSpec.upto localeLongSpec)) localeLongUptoCard

/-- THE SECOND FORM's CARD OF 'redactorlaw07.LocaleRights'. -/
def localeRightsUptoCard : Claim7 := { stood := { row := localeRightsUptoRow, standIns := [], harness := (true, "f339ada1184b9e82f53b562bbe66d16a72563d15318ab093993cb12c5c616fe8"), looks := true }, kinds := [], alts := [], laidByText := true, laidKinds := [.data, .data, .data, .data, .sentinel, .sentinel, .sentinel, .data, .pinned, .pinned], laidTests := true, laidLooks := .later }
def LocaleRightsUptoCardSaid : Prop := Claim7.holds Tryz.pinned (.plain (OpenSpec.upto localeRightsSpec)) localeRightsUptoCard

/-- THE SECOND FORM's CARD OF 'redactorlaw07.LocaleBack'. -/
def localeBackUptoCard : Claim7 := { stood := { row := localeBackUptoRow, standIns := [], harness := (true, "f339ada1184b9e82f53b562bbe66d16a72563d15318ab093993cb12c5c616fe8"), looks := true }, kinds := [], alts := [], laidByText := true, laidKinds := [.data, .data, .data, .data, .sentinel, .sentinel, .sentinel, .data, .pinned, .pinned], laidTests := true, laidLooks := .later }
def LocaleBackUptoCardSaid : Prop := Claim7.holds Tryz.pinned (.plain (OpenSpec.upto localeBackSpec)) localeBackUptoCard

/-- THE SECOND FORM's CARD OF 'redactorlaw07.LocaleReads'. -/
def localeReadsUptoCard : Claim7 := { stood := { row := localeReadsUptoRow, standIns := [], harness := (true, "f339ada1184b9e82f53b562bbe66d16a72563d15318ab093993cb12c5c616fe8"), looks := true }, kinds := [], alts := [], laidByText := true, laidKinds := [.data, .data, .data, .data, .sentinel, .sentinel, .sentinel, .data, .pinned, .pinned], laidTests := true, laidLooks := .later }
def LocaleReadsUptoCardSaid : Prop := Claim7.holds Tryz.pinned (.plain (OpenSpec.upto localeReadsSpec)) localeReadsUptoCard
end Rows
end Go.Proofs.YthaibekbefndlaaGreatDoor
