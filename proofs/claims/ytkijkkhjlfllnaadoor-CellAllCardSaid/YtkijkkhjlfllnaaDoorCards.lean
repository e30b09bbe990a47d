/-
  DERIVED. GIVEN WITH THE SEED: THE CARDS: each row of YtkijkkhjlfllnaaDoorRows.lean that lists a variable, with what it lists TIED to the program's text (the seventh form; the later family's looks); each row that meets fmt, with fmt's text TOLD by the authors' own Lean function (tested against real Go, not proved from fmt's source: count such statements apart). THE CARD IS WHAT COUNTS. Prove the row's statement (the work); the ties are given (YtkijkkhjlfllnaaDoorTie.lean); close each card by the builder's one call (the guide's Derived/Test/ToyasCard.lean, 'card_holds'). Laid BY PROGRAM, IN A SANDBOX (cutbox-door.mjs). By AI agents, Wed Nov 11 2026. No macro, syntax, notation, axiom, sorry.
-/
import Derived.Test.YtkijkkhjlfllnaaDoorRows
import GoSem.ClaimSeven
namespace Go.Proofs.YtkijkkhjlfllnaaDoor
namespace Rows

/-- THE TIED CARD OF 'redactorlaw01.CellOrder'. -/
def cellOrderCard : Claim7 := { stood := { row := cellOrderRow, standIns := [], harness := (true, "4af222cdb6a376b6a35f068c761ca5bae9649e5ad42113995b6c47a60015a1bd"), looks := false }, kinds := [], alts := [], laidByText := true, laidKinds := [.data, .data, .data], laidTests := true, laidLooks := .later }
def CellOrderCardSaid : Prop := Claim7.holds Tryd.pinned (.plain (OpenSpec.ofChange cellOrderSpec)) cellOrderCard

/-- THE TIED CARD OF 'redactorlaw01.CellCuts'. -/
def cellCutsCard : Claim7 := { stood := { row := cellCutsRow, standIns := [], harness := (true, "4af222cdb6a376b6a35f068c761ca5bae9649e5ad42113995b6c47a60015a1bd"), looks := false }, kinds := [], alts := [], laidByText := true, laidKinds := [.data, .data, .data], laidTests := true, laidLooks := .later }
def CellCutsCardSaid : Prop := Claim7.holds Tryd.pinned (.plain (OpenSpec.ofChange cellCutsSpec)) cellCutsCard

/-- THE TIED CARD OF 'redactorlaw01.CellSeen'. -/
def cellSeenCard : Claim7 := { stood := { row := cellSeenRow, standIns := [], harness := (true, "4af222cdb6a376b6a35f068c761ca5bae9649e5ad42113995b6c47a60015a1bd"), looks := false }, kinds := [], alts := [], laidByText := true, laidKinds := [.data, .data, .data], laidTests := true, laidLooks := .later }
def CellSeenCardSaid : Prop := Claim7.holds Tryd.pinned (.plain (OpenSpec.ofChange cellSeenSpec)) cellSeenCard

/-- THE TIED CARD OF 'redactorlaw01.CellOf'. -/
def cellOfCard : Claim7 := { stood := { row := cellOfRow, standIns := [], harness := (true, "4af222cdb6a376b6a35f068c761ca5bae9649e5ad42113995b6c47a60015a1bd"), looks := false }, kinds := [], alts := [], laidByText := true, laidKinds := [.data, .data, .data], laidTests := true, laidLooks := .later }
def CellOfCardSaid : Prop := Claim7.holds Tryd.pinned (.plain (OpenSpec.ofChange cellOfSpec)) cellOfCard

/-- THE TIED CARD OF 'redactorlaw01.CellTexts'. -/
def cellTextsCard : Claim7 := { stood := { row := cellTextsRow, standIns := [], harness := (true, "4af222cdb6a376b6a35f068c761ca5bae9649e5ad42113995b6c47a60015a1bd"), looks := false }, kinds := [], alts := [], laidByText := true, laidKinds := [.data, .data, .data], laidTests := true, laidLooks := .later }
def CellTextsCardSaid : Prop := Claim7.holds Tryd.pinned (.plain (OpenSpec.ofChange cellTextsSpec)) cellTextsCard

/-- THE TIED CARD OF 'redactorlaw01.CellFinds'. -/
def cellFindsCard : Claim7 := { stood := { row := cellFindsRow, standIns := [], harness := (true, "4af222cdb6a376b6a35f068c761ca5bae9649e5ad42113995b6c47a60015a1bd"), looks := false }, kinds := [], alts := [], laidByText := true, laidKinds := [.data, .data, .data], laidTests := true, laidLooks := .later }
def CellFindsCardSaid : Prop := Claim7.holds Tryd.pinned (.plain (OpenSpec.ofChange cellFindsSpec)) cellFindsCard

/-- THE TIED CARD OF 'redactorlaw01.CellBytes'. -/
def cellBytesCard : Claim7 := { stood := { row := cellBytesRow, standIns := [], harness := (true, "4af222cdb6a376b6a35f068c761ca5bae9649e5ad42113995b6c47a60015a1bd"), looks := false }, kinds := [], alts := [], laidByText := true, laidKinds := [.data, .data, .data], laidTests := true, laidLooks := .later }
def CellBytesCardSaid : Prop := Claim7.holds Tryd.pinned (.plain (OpenSpec.ofChange cellBytesSpec)) cellBytesCard

/-- THE TIED CARD OF 'redactorlaw01.CellAll'. -/
def cellAllCard : Claim7 := { stood := { row := cellAllRow, standIns := [], harness := (true, "4af222cdb6a376b6a35f068c761ca5bae9649e5ad42113995b6c47a60015a1bd"), looks := false }, kinds := [], alts := [], laidByText := true, laidKinds := [.data, .data, .data], laidTests := true, laidLooks := .later }
def CellAllCardSaid : Prop := Claim7.holds Tryd.pinned (.plain (OpenSpec.ofChange cellAllSpec)) cellAllCard

/-- THE TIED CARD OF 'redactorlaw01.CellPlace'. -/
def cellPlaceCard : Claim7 := { stood := { row := cellPlaceRow, standIns := [], harness := (true, "4af222cdb6a376b6a35f068c761ca5bae9649e5ad42113995b6c47a60015a1bd"), looks := false }, kinds := [], alts := [], laidByText := true, laidKinds := [.data, .data, .data], laidTests := true, laidLooks := .later }
def CellPlaceCardSaid : Prop := Claim7.holds Tryd.pinned (.plain (OpenSpec.ofChange cellPlaceSpec)) cellPlaceCard

/-- THE SECOND FORM's CARD OF 'redactorlaw01.CellOrder'. -/
def cellOrderUptoCard : Claim7 := { stood := { row := cellOrderUptoRow, standIns := [], harness := (true, "4af222cdb6a376b6a35f068c761ca5bae9649e5ad42113995b6c47a60015a1bd"), looks := false }, kinds := [], alts := [], laidByText := true, laidKinds := [.data, .data, .data], laidTests := true, laidLooks := .later }
def CellOrderUptoCardSaid : Prop := Claim7.holds Tryd.pinned (.plain (OpenSpec.upto cellOrderSpec)) cellOrderUptoCard

/-- THE SECOND FORM's CARD OF 'redactorlaw01.CellCuts'. -/
def cellCutsUptoCard : Claim7 := { stood := { row := cellCutsUptoRow, standIns := [], harness := (true, "4af222cdb6a376b6a35f068c761ca5bae9649e5ad42113995b6c47a60015a1bd"), looks := false }, kinds := [], alts := [], laidByText := true, laidKinds := [.data, .data, .data], laidTests := true, laidLooks := .later }
def CellCutsUptoCardSaid : Prop := Claim7.holds Tryd.pinned (.plain (OpenSpec.upto cellCutsSpec)) cellCutsUptoCard

/-- THE SECOND FORM's CARD OF 'redactorlaw01.CellSeen'. -/
def cellSeenUptoCard : Claim7 := { stood := { row := cellSeenUptoRow, standIns := [], harness := (true, "4af222cdb6a376b6a35f068c761ca5bae9649e5ad42113995b6c47a60015a1bd"), looks := false }, kinds := [], alts := [], laidByText := true, laidKinds := [.data, .data, .data], laidTests := true, laidLooks := .later }
def CellSeenUptoCardSaid : Prop := Claim7.holds Tryd.pinned (.plain (OpenSpec.upto cellSeenSpec)) cellSeenUptoCard

/-- THE SECOND FORM's CARD OF 'redactorlaw01.CellOf'. -/
def cellOfUptoCard : Claim7 := { stood := { row := cellOfUptoRow, standIns := [], harness := (true, "4af222cdb6a376b6a35f068c761ca5bae9649e5ad42113995b6c47a60015a1bd"), looks := false }, kinds := [], alts := [], laidByText := true, laidKinds := [.data, .data, .data], laidTests := true, laidLooks := .later }
def CellOfUptoCardSaid : Prop := Claim7.holds Tryd.pinned (.plain (OpenSpec.upto cellOfSpec)) cellOfUptoCard

/-- THE SECOND FORM's CARD OF 'redactorlaw01.CellTexts'. -/
def cellTextsUptoCard : Claim7 := { stood := { row := cellTextsUptoRow, standIns := [], harness := (true, "4af222cdb6a376b6a35f068c761ca5bae9649e5ad42113995b6c47a60015a1bd"), looks := false }, kinds := [], alts := [], laidByText := true, laidKinds := [.data, .data, .data], laidTests := true, laidLooks := .later }
def CellTextsUptoCardSaid : Prop := Claim7.holds Tryd.pinned (.plain (OpenSpec.upto cellTextsSpec)) cellTextsUptoCard

/-- THE SECOND FORM's CARD OF 'redactorlaw01.CellFinds'. -/
def cellFindsUptoCard : Claim7 := { stood := { row := cellFindsUptoRow, standIns := [], harness := (true, "4af222cdb6a376b6a35f068c761ca5bae9649e5ad42113995b6c47a60015a1bd"), looks := false }, kinds := [], alts := [], laidByText := true, laidKinds := [.data, .data, .data], laidTests := true, laidLooks := .later }
def CellFindsUptoCardSaid : Prop := Claim7.holds Tryd.pinned (.plain (OpenSpec.upto cellFindsSpec)) cellFindsUptoCard

/-- THE SECOND FORM's CARD OF 'redactorlaw01.CellBytes'. -/
def cellBytesUptoCard : Claim7 := { stood := { row := cellBytesUptoRow, standIns := [], harness := (true, "4af222cdb6a376b6a35f068c761ca5bae9649e5ad42113995b6c47a60015a1bd"), looks := false }, kinds := [], alts := [], laidByText := true, laidKinds := [.data, .data, .data], laidTests := true, laidLooks := .later }
def CellBytesUptoCardSaid : Prop := Claim7.holds Tryd.pinned (.plain (OpenSpec.upto cellBytesSpec)) cellBytesUptoCard

/-- THE SECOND FORM's CARD OF 'redactorlaw01.CellAll'. -/
def cellAllUptoCard : Claim7 := { stood := { row := cellAllUptoRow, standIns := [], harness := (true, "4af222cdb6a376b6a35f068c761ca5bae9649e5ad42113995b6c47a60015a1bd"), looks := false }, kinds := [], alts := [], laidByText := true, laidKinds := [.data, .data, .data], laidTests := true, laidLooks := .later }
def CellAllUptoCardSaid : Prop := Claim7.holds Tryd.pinned (.plain (OpenSpec.upto cellAllSpec)) cellAllUptoCard

/-- THE SECOND FORM's CARD OF 'redactorlaw01.CellPlace'. -/
def cellPlaceUptoCard : Claim7 := { stood := { row := cellPlaceUptoRow, standIns := [], harness := (true, "4af222cdb6a376b6a35f068c761ca5bae9649e5ad42113995b6c47a60015a1bd"), looks := false }, kinds := [], alts := [], laidByText := true, laidKinds := [.data, .data, .data], laidTests := true, laidLooks := .later }
def CellPlaceUptoCardSaid : Prop := Claim7.holds Tryd.pinned (.plain (OpenSpec.upto cellPlaceSpec)) cellPlaceUptoCard
end Rows
end Go.Proofs.YtkijkkhjlfllnaaDoor
