/-
  DERIVED. GIVEN WITH THE SEED: THE CARDS: each row of YtijlecfjgcohhaaDoorRows.lean that lists a variable, with what it lists TIED to the program's text (the seventh form; the later family's looks); each row that meets fmt, with fmt's text TOLD by the authors' own Lean function (tested against real Go, not proved from fmt's source: count such statements apart). THE CARD IS WHAT COUNTS. Prove the row's statement (the work); the ties are given (YtijlecfjgcohhaaDoorTie.lean); close each card by the builder's one call (the guide's Derived/Test/ToyasCard.lean, 'card_holds'). Laid BY PROGRAM, IN A SANDBOX (cutbox-door.mjs). By AI agents, Wed Nov 11 2026. No macro, syntax, notation, axiom, sorry.
-/
import Derived.Test.YtijlecfjgcohhaaDoorRows
import GoSem.ClaimSeven
namespace Go.Proofs.YtijlecfjgcohhaaDoor
namespace Rows

/-- THE TIED CARD OF 'redactorlaw04.CodecBom'. -/
def codecBomCard : Claim7 := { stood := { row := codecBomRow, standIns := [], harness := (true, "a2b46c6acb3274ac02015db05dac908ac26d2fc34d9339293f00102fdda3ac87"), looks := false }, kinds := [], alts := [], laidByText := true, laidKinds := [.data, .pinned], laidTests := true, laidLooks := .later }
def CodecBomCardSaid : Prop := Claim7.holds Tryd.pinned (.plain (OpenSpec.ofChange codecBomSpec)) codecBomCard

/-- THE TIED CARD OF 'redactorlaw04.CodecLatin'. -/
def codecLatinCard : Claim7 := { stood := { row := codecLatinRow, standIns := [], harness := (true, "a2b46c6acb3274ac02015db05dac908ac26d2fc34d9339293f00102fdda3ac87"), looks := false }, kinds := [], alts := [], laidByText := true, laidKinds := [.data, .pinned], laidTests := true, laidLooks := .later }
def CodecLatinCardSaid : Prop := Claim7.holds Tryd.pinned (.plain (OpenSpec.ofChange codecLatinSpec)) codecLatinCard

/-- THE TIED CARD OF 'redactorlaw04.CodecDecodes'. -/
def codecDecodesCard : Claim7 := { stood := { row := codecDecodesRow, standIns := [], harness := (true, "a2b46c6acb3274ac02015db05dac908ac26d2fc34d9339293f00102fdda3ac87"), looks := false }, kinds := [], alts := [], laidByText := true, laidKinds := [.data, .pinned], laidTests := true, laidLooks := .later }
def CodecDecodesCardSaid : Prop := Claim7.holds Tryd.pinned (.plain (OpenSpec.ofChange codecDecodesSpec)) codecDecodesCard

/-- THE TIED CARD OF 'redactorlaw04.CodecEncodes'. -/
def codecEncodesCard : Claim7 := { stood := { row := codecEncodesRow, standIns := [], harness := (true, "a2b46c6acb3274ac02015db05dac908ac26d2fc34d9339293f00102fdda3ac87"), looks := false }, kinds := [], alts := [], laidByText := true, laidKinds := [.data, .pinned], laidTests := true, laidLooks := .later }
def CodecEncodesCardSaid : Prop := Claim7.holds Tryd.pinned (.plain (OpenSpec.ofChange codecEncodesSpec)) codecEncodesCard

/-- THE TIED CARD OF 'redactorlaw04.CodecBack'. -/
def codecBackCard : Claim7 := { stood := { row := codecBackRow, standIns := [], harness := (true, "a2b46c6acb3274ac02015db05dac908ac26d2fc34d9339293f00102fdda3ac87"), looks := false }, kinds := [], alts := [], laidByText := true, laidKinds := [.data, .pinned], laidTests := true, laidLooks := .later }
def CodecBackCardSaid : Prop := Claim7.holds Tryd.pinned (.plain (OpenSpec.ofChange codecBackSpec)) codecBackCard

/-- THE TIED CARD OF 'redactorlaw04.CodecAlike'. -/
def codecAlikeCard : Claim7 := { stood := { row := codecAlikeRow, standIns := [], harness := (true, "a2b46c6acb3274ac02015db05dac908ac26d2fc34d9339293f00102fdda3ac87"), looks := false }, kinds := [], alts := [], laidByText := true, laidKinds := [.data, .pinned], laidTests := true, laidLooks := .later }
def CodecAlikeCardSaid : Prop := Claim7.holds Tryd.pinned (.plain (OpenSpec.ofChange codecAlikeSpec)) codecAlikeCard

/-- THE SECOND FORM's CARD OF 'redactorlaw04.CodecBom'. -/
def codecBomUptoCard : Claim7 := { stood := { row := codecBomUptoRow, standIns := [], harness := (true, "a2b46c6acb3274ac02015db05dac908ac26d2fc34d9339293f00102fdda3ac87"), looks := false }, kinds := [], alts := [], laidByText := true, laidKinds := [.data, .pinned], laidTests := true, laidLooks := .later }
def CodecBomUptoCardSaid : Prop := Claim7.holds Tryd.pinned (.plain (OpenSpec.upto codecBomSpec)) codecBomUptoCard

/-- THE SECOND FORM's CARD OF 'redactorlaw04.CodecLatin'. -/
def codecLatinUptoCard : Claim7 := { stood := { row := codecLatinUptoRow, standIns := [], harness := (true, "a2b46c6acb3274ac02015db05dac908ac26d2fc34d9339293f00102fdda3ac87"), looks := false }, kinds := [], alts := [], laidByText := true, laidKinds := [.data, .pinned], laidTests := true, laidLooks := .later }
def CodecLatinUptoCardSaid : Prop := Claim7.holds Tryd.pinned (.plain (OpenSpec.upto codecLatinSpec)) codecLatinUptoCard

/-- THE SECOND FORM's CARD OF 'redactorlaw04.CodecDecodes'. -/
def codecDecodesUptoCard : Claim7 := { stood := { row := codecDecodesUptoRow, standIns := [], harness := (true, "a2b46c6acb3274ac02015db05dac908ac26d2fc34d9339293f00102fdda3ac87"), looks := false }, kinds := [], alts := [], laidByText := true, laidKinds := [.data, .pinned], laidTests := true, laidLooks := .later }
def CodecDecodesUptoCardSaid : Prop := Claim7.holds Tryd.pinned (.plain (OpenSpec.upto codecDecodesSpec)) codecDecodesUptoCard

/-- THE SECOND FORM's CARD OF 'redactorlaw04.CodecEncodes'. -/
def codecEncodesUptoCard : Claim7 := { stood := { row := codecEncodesUptoRow, standIns := [], harness := (true, "a2b46c6acb3274ac02015db05dac908ac26d2fc34d9339293f00102fdda3ac87"), looks := false }, kinds := [], alts := [], laidByText := true, laidKinds := [.data, .pinned], laidTests := true, laidLooks := .later }
def CodecEncodesUptoCardSaid : Prop := Claim7.holds Tryd.pinned (.plain (OpenSpec.upto codecEncodesSpec)) codecEncodesUptoCard

/-- THE SECOND FORM's CARD OF 'redactorlaw04.CodecBack'. -/
def codecBackUptoCard : Claim7 := { stood := { row := codecBackUptoRow, standIns := [], harness := (true, "a2b46c6acb3274ac02015db05dac908ac26d2fc34d9339293f00102fdda3ac87"), looks := false }, kinds := [], alts := [], laidByText := true, laidKinds := [.data, .pinned], laidTests := true, laidLooks := .later }
def CodecBackUptoCardSaid : Prop := Claim7.holds Tryd.pinned (.plain (OpenSpec.upto codecBackSpec)) codecBackUptoCard

/-- THE SECOND FORM's CARD OF 'redactorlaw04.CodecAlike'. -/
def codecAlikeUptoCard : Claim7 := { stood := { row := codecAlikeUptoRow, standIns := [], harness := (true, "a2b46c6acb3274ac02015db05dac908ac26d2fc34d9339293f00102fdda3ac87"), looks := false }, kinds := [], alts := [], laidByText := true, laidKinds := [.data, .pinned], laidTests := true, laidLooks := .later }
def CodecAlikeUptoCardSaid : Prop := Claim7.holds Tryd.pinned (.plain (OpenSpec.upto codecAlikeSpec)) codecAlikeUptoCard
end Rows
end Go.Proofs.YtijlecfjgcohhaaDoor
