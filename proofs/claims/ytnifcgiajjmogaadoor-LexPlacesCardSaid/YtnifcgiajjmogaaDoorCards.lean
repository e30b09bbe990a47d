/-
  DERIVED. GIVEN WITH THE SEED: THE CARDS: each row of YtnifcgiajjmogaaDoorRows.lean that lists a variable, with what it lists TIED to the program's text (the seventh form; the later family's looks); each row that meets fmt, with fmt's text TOLD by the authors' own Lean function (tested against real Go, not proved from fmt's source: count such statements apart). THE CARD IS WHAT COUNTS. Prove the row's statement (the work); the ties are given (YtnifcgiajjmogaaDoorTie.lean); close each card by the builder's one call (the guide's Derived/Test/ToyasCard.lean, 'card_holds'). Laid BY PROGRAM, IN A SANDBOX (cutbox-door.mjs). By AI agents, Wed Nov 11 2026. No macro, syntax, notation, axiom, sorry.
-/
import Derived.Test.YtnifcgiajjmogaaDoorRows
import GoSem.ClaimSeven
namespace Go.Proofs.YtnifcgiajjmogaaDoor
namespace Rows

/-- THE TIED CARD OF 'redactorlaw06.LexScalar'. -/
def lexScalarCard : Claim7 := { stood := { row := lexScalarRow, standIns := [], harness := (true, "97716eec36cd71ee07f2277c657b797176ce3d73d9a75baa7b331580480dd3ab"), looks := true }, kinds := [], alts := [], laidByText := true, laidKinds := [.data, .data, .data, .data, .sentinel, .sentinel, .data, .pinned, .pinned], laidTests := true, laidLooks := .later }
def LexScalarCardSaid : Prop := Claim7.holds Tryd.pinned (.plain (OpenSpec.ofChange lexScalarSpec)) lexScalarCard

/-- THE TIED CARD OF 'redactorlaw06.LexPlaces'. -/
def lexPlacesCard : Claim7 := { stood := { row := lexPlacesRow, standIns := [], harness := (true, "97716eec36cd71ee07f2277c657b797176ce3d73d9a75baa7b331580480dd3ab"), looks := true }, kinds := [], alts := [], laidByText := true, laidKinds := [.data, .data, .data, .data, .sentinel, .sentinel, .data, .pinned, .pinned], laidTests := true, laidLooks := .later }
def LexPlacesCardSaid : Prop := Claim7.holds Tryd.pinned (.plain (OpenSpec.ofChange lexPlacesSpec)) lexPlacesCard

/-- THE TIED CARD OF 'redactorlaw06.LexNames'. -/
def lexNamesCard : Claim7 := { stood := { row := lexNamesRow, standIns := [], harness := (true, "97716eec36cd71ee07f2277c657b797176ce3d73d9a75baa7b331580480dd3ab"), looks := true }, kinds := [], alts := [], laidByText := true, laidKinds := [.data, .data, .data, .data, .sentinel, .sentinel, .data, .pinned, .pinned], laidTests := true, laidLooks := .later }
def LexNamesCardSaid : Prop := Claim7.holds Tryd.pinned (.plain (OpenSpec.ofChange lexNamesSpec)) lexNamesCard

/-- THE SECOND FORM's CARD OF 'redactorlaw06.LexScalar'. -/
def lexScalarUptoCard : Claim7 := { stood := { row := lexScalarUptoRow, standIns := [], harness := (true, "97716eec36cd71ee07f2277c657b797176ce3d73d9a75baa7b331580480dd3ab"), looks := true }, kinds := [], alts := [], laidByText := true, laidKinds := [.data, .data, .data, .data, .sentinel, .sentinel, .data, .pinned, .pinned], laidTests := true, laidLooks := .later }
def LexScalarUptoCardSaid : Prop := Claim7.holds Tryd.pinned (.plain (OpenSpec.upto lexScalarSpec)) lexScalarUptoCard

/-- THE SECOND FORM's CARD OF 'redactorlaw06.LexPlaces'. -/
def lexPlacesUptoCard : Claim7 := { stood := { row := lexPlacesUptoRow, standIns := [], harness := (true, "97716eec36cd71ee07f2277c657b797176ce3d73d9a75baa7b331580480dd3ab"), looks := true }, kinds := [], alts := [], laidByText := true, laidKinds := [.data, .data, .data, .data, .sentinel, .sentinel, .data, .pinned, .pinned], laidTests := true, laidLooks := .later }
def LexPlacesUptoCardSaid : Prop := Claim7.holds Tryd.pinned (.plain (OpenSpec.upto lexPlacesSpec)) lexPlacesUptoCard

/-- THE SECOND FORM's CARD OF 'redactorlaw06.LexNames'. -/
def lexNamesUptoCard : Claim7 := { stood := { row := lexNamesUptoRow, standIns := [], harness := (true, "97716eec36cd71ee07f2277c657b797176ce3d73d9a75baa7b331580480dd3ab"), looks := true }, kinds := [], alts := [], laidByText := true, laidKinds := [.data, .data, .data, .data, .sentinel, .sentinel, .data, .pinned, .pinned], laidTests := true, laidLooks := .later }
def LexNamesUptoCardSaid : Prop := Claim7.holds Tryd.pinned (.plain (OpenSpec.upto lexNamesSpec)) lexNamesUptoCard
end Rows
end Go.Proofs.YtnifcgiajjmogaaDoor
