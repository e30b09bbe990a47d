/-
  DERIVED. GIVEN WITH THE SEED: THE CARDS: each row of YtiffofchjmfbpaaDoorRows.lean that lists a variable, with what it lists TIED to the program's text (the seventh form; the later family's looks); each row that meets fmt, with fmt's text TOLD by the authors' own Lean function (tested against real Go, not proved from fmt's source: count such statements apart). THE CARD IS WHAT COUNTS. Prove the row's statement (the work); the ties are given (YtiffofchjmfbpaaDoorTie.lean); close each card by the builder's one call (the guide's Derived/Test/ToyasCard.lean, 'card_holds'). Laid BY PROGRAM, IN A SANDBOX (cutbox-door.mjs). By AI agents, Wed Nov 11 2026. No macro, syntax, notation, axiom, sorry.
-/
import Derived.Test.YtiffofchjmfbpaaDoorRows
import GoSem.ClaimSeven
namespace Go.Proofs.YtiffofchjmfbpaaDoor
namespace Rows

/-- THE TIED CARD OF 'redactorlaw02.Utf8Cut'. -/
def utf8CutCard : Claim7 := { stood := { row := utf8CutRow, standIns := [], harness := (true, "d7c394777f2d3f5ecdc11fd3131512e438614e3ba4dad6b4c67452922fe13b5c"), looks := false }, kinds := [], alts := [], laidByText := true, laidKinds := [.data, .pinned], laidTests := true, laidLooks := .later }
def Utf8CutCardSaid : Prop := Claim7.holds Tryd.pinned (.plain (OpenSpec.ofChange utf8CutSpec)) utf8CutCard

/-- THE TIED CARD OF 'redactorlaw02.Utf8Single'. -/
def utf8SingleCard : Claim7 := { stood := { row := utf8SingleRow, standIns := [], harness := (true, "d7c394777f2d3f5ecdc11fd3131512e438614e3ba4dad6b4c67452922fe13b5c"), looks := false }, kinds := [], alts := [], laidByText := true, laidKinds := [.data, .pinned], laidTests := true, laidLooks := .later }
def Utf8SingleCardSaid : Prop := Claim7.holds Tryd.pinned (.plain (OpenSpec.ofChange utf8SingleSpec)) utf8SingleCard

/-- THE TIED CARD OF 'redactorlaw02.Utf8Bad'. -/
def utf8BadCard : Claim7 := { stood := { row := utf8BadRow, standIns := [], harness := (true, "d7c394777f2d3f5ecdc11fd3131512e438614e3ba4dad6b4c67452922fe13b5c"), looks := false }, kinds := [], alts := [], laidByText := true, laidKinds := [.data, .pinned], laidTests := true, laidLooks := .later }
def Utf8BadCardSaid : Prop := Claim7.holds Tryd.pinned (.plain (OpenSpec.ofChange utf8BadSpec)) utf8BadCard

/-- THE TIED CARD OF 'redactorlaw02.Utf8Decodes'. -/
def utf8DecodesCard : Claim7 := { stood := { row := utf8DecodesRow, standIns := [], harness := (true, "d7c394777f2d3f5ecdc11fd3131512e438614e3ba4dad6b4c67452922fe13b5c"), looks := false }, kinds := [], alts := [], laidByText := true, laidKinds := [.data, .pinned], laidTests := true, laidLooks := .later }
def Utf8DecodesCardSaid : Prop := Claim7.holds Tryd.pinned (.plain (OpenSpec.ofChange utf8DecodesSpec)) utf8DecodesCard

/-- THE TIED CARD OF 'redactorlaw02.Utf8Encodes'. -/
def utf8EncodesCard : Claim7 := { stood := { row := utf8EncodesRow, standIns := [], harness := (true, "d7c394777f2d3f5ecdc11fd3131512e438614e3ba4dad6b4c67452922fe13b5c"), looks := false }, kinds := [], alts := [], laidByText := true, laidKinds := [.data, .pinned], laidTests := true, laidLooks := .later }
def Utf8EncodesCardSaid : Prop := Claim7.holds Tryd.pinned (.plain (OpenSpec.ofChange utf8EncodesSpec)) utf8EncodesCard

/-- THE TIED CARD OF 'redactorlaw02.Utf8Back'. -/
def utf8BackCard : Claim7 := { stood := { row := utf8BackRow, standIns := [], harness := (true, "d7c394777f2d3f5ecdc11fd3131512e438614e3ba4dad6b4c67452922fe13b5c"), looks := false }, kinds := [], alts := [], laidByText := true, laidKinds := [.data, .pinned], laidTests := true, laidLooks := .later }
def Utf8BackCardSaid : Prop := Claim7.holds Tryd.pinned (.plain (OpenSpec.ofChange utf8BackSpec)) utf8BackCard

/-- THE TIED CARD OF 'redactorlaw02.Utf8Scalars'. -/
def utf8ScalarsCard : Claim7 := { stood := { row := utf8ScalarsRow, standIns := [], harness := (true, "d7c394777f2d3f5ecdc11fd3131512e438614e3ba4dad6b4c67452922fe13b5c"), looks := false }, kinds := [], alts := [], laidByText := true, laidKinds := [.data, .pinned], laidTests := true, laidLooks := .later }
def Utf8ScalarsCardSaid : Prop := Claim7.holds Tryd.pinned (.plain (OpenSpec.ofChange utf8ScalarsSpec)) utf8ScalarsCard

/-- THE SECOND FORM's CARD OF 'redactorlaw02.Utf8Cut'. -/
def utf8CutUptoCard : Claim7 := { stood := { row := utf8CutUptoRow, standIns := [], harness := (true, "d7c394777f2d3f5ecdc11fd3131512e438614e3ba4dad6b4c67452922fe13b5c"), looks := false }, kinds := [], alts := [], laidByText := true, laidKinds := [.data, .pinned], laidTests := true, laidLooks := .later }
def Utf8CutUptoCardSaid : Prop := Claim7.holds Tryd.pinned (.plain (OpenSpec.upto utf8CutSpec)) utf8CutUptoCard

/-- THE SECOND FORM's CARD OF 'redactorlaw02.Utf8Single'. -/
def utf8SingleUptoCard : Claim7 := { stood := { row := utf8SingleUptoRow, standIns := [], harness := (true, "d7c394777f2d3f5ecdc11fd3131512e438614e3ba4dad6b4c67452922fe13b5c"), looks := false }, kinds := [], alts := [], laidByText := true, laidKinds := [.data, .pinned], laidTests := true, laidLooks := .later }
def Utf8SingleUptoCardSaid : Prop := Claim7.holds Tryd.pinned (.plain (OpenSpec.upto utf8SingleSpec)) utf8SingleUptoCard

/-- THE SECOND FORM's CARD OF 'redactorlaw02.Utf8Bad'. -/
def utf8BadUptoCard : Claim7 := { stood := { row := utf8BadUptoRow, standIns := [], harness := (true, "d7c394777f2d3f5ecdc11fd3131512e438614e3ba4dad6b4c67452922fe13b5c"), looks := false }, kinds := [], alts := [], laidByText := true, laidKinds := [.data, .pinned], laidTests := true, laidLooks := .later }
def Utf8BadUptoCardSaid : Prop := Claim7.holds Tryd.pinned (.plain (OpenSpec.upto utf8BadSpec)) utf8BadUptoCard

/-- THE SECOND FORM's CARD OF 'redactorlaw02.Utf8Decodes'. -/
def utf8DecodesUptoCard : Claim7 := { stood := { row := utf8DecodesUptoRow, standIns := [], harness := (true, "d7c394777f2d3f5ecdc11fd3131512e438614e3ba4dad6b4c67452922fe13b5c"), looks := false }, kinds := [], alts := [], laidByText := true, laidKinds := [.data, .pinned], laidTests := true, laidLooks := .later }
def Utf8DecodesUptoCardSaid : Prop := Claim7.holds Tryd.pinned (.plain (OpenSpec.upto utf8DecodesSpec)) utf8DecodesUptoCard

/-- THE SECOND FORM's CARD OF 'redactorlaw02.Utf8Encodes'. -/
def utf8EncodesUptoCard : Claim7 := { stood := { row := utf8EncodesUptoRow, standIns := [], harness := (true, "d7c394777f2d3f5ecdc11fd3131512e438614e3ba4dad6b4c67452922fe13b5c"), looks := false }, kinds := [], alts := [], laidByText := true, laidKinds := [.data, .pinned], laidTests := true, laidLooks := .later }
def Utf8EncodesUptoCardSaid : Prop := Claim7.holds Tryd.pinned (.plain (OpenSpec.upto utf8EncodesSpec)) utf8EncodesUptoCard

/-- THE SECOND FORM's CARD OF 'redactorlaw02.Utf8Back'. -/
def utf8BackUptoCard : Claim7 := { stood := { row := utf8BackUptoRow, standIns := [], harness := (true, "d7c394777f2d3f5ecdc11fd3131512e438614e3ba4dad6b4c67452922fe13b5c"), looks := false }, kinds := [], alts := [], laidByText := true, laidKinds := [.data, .pinned], laidTests := true, laidLooks := .later }
def Utf8BackUptoCardSaid : Prop := Claim7.holds Tryd.pinned (.plain (OpenSpec.upto utf8BackSpec)) utf8BackUptoCard

/-- THE SECOND FORM's CARD OF 'redactorlaw02.Utf8Scalars'. -/
def utf8ScalarsUptoCard : Claim7 := { stood := { row := utf8ScalarsUptoRow, standIns := [], harness := (true, "d7c394777f2d3f5ecdc11fd3131512e438614e3ba4dad6b4c67452922fe13b5c"), looks := false }, kinds := [], alts := [], laidByText := true, laidKinds := [.data, .pinned], laidTests := true, laidLooks := .later }
def Utf8ScalarsUptoCardSaid : Prop := Claim7.holds Tryd.pinned (.plain (OpenSpec.upto utf8ScalarsSpec)) utf8ScalarsUptoCard
end Rows
end Go.Proofs.YtiffofchjmfbpaaDoor
