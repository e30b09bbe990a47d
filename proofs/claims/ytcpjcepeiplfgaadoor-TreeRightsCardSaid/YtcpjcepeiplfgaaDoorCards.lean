/-
  DERIVED. GIVEN WITH THE SEED: THE CARDS: each row of YtcpjcepeiplfgaaDoorRows.lean that lists a variable, with what it lists TIED to the program's text (the seventh form; the later family's looks); each row that meets fmt, with fmt's text TOLD by the authors' own Lean function (tested against real Go, not proved from fmt's source: count such statements apart). THE CARD IS WHAT COUNTS. Prove the row's statement (the work); the ties are given (YtcpjcepeiplfgaaDoorTie.lean); close each card by the builder's one call (the guide's Derived/Test/ToyasCard.lean, 'card_holds'). Laid BY PROGRAM, IN A SANDBOX (cutbox-door.mjs). By AI agents, Wed Nov 11 2026. No macro, syntax, notation, axiom, sorry.
-/
import Derived.Test.YtcpjcepeiplfgaaDoorRows
import GoSem.ClaimSeven
namespace Go.Proofs.YtcpjcepeiplfgaaDoor
namespace Rows

/-- THE TIED CARD OF 'redactorlaw09.TreeLeaves'. -/
def treeLeavesCard : Claim7 := { stood := { row := treeLeavesRow, standIns := [], harness := (true, "ae146a07ef6744bdd109751d2c2d73215ed00bb3ebfb4027bc3f4575c2333542"), looks := false }, kinds := [], alts := [], laidByText := true, laidKinds := [.data, .data, .data], laidTests := true, laidLooks := .later }
def TreeLeavesCardSaid : Prop := Claim7.holds Tryd.pinned (.plain (OpenSpec.ofChange treeLeavesSpec)) treeLeavesCard

/-- THE TIED CARD OF 'redactorlaw09.TreeTimes'. -/
def treeTimesCard : Claim7 := { stood := { row := treeTimesRow, standIns := [], harness := (true, "ae146a07ef6744bdd109751d2c2d73215ed00bb3ebfb4027bc3f4575c2333542"), looks := false }, kinds := [], alts := [], laidByText := true, laidKinds := [.data, .data, .data], laidTests := true, laidLooks := .later }
def TreeTimesCardSaid : Prop := Claim7.holds Tryd.pinned (.plain (OpenSpec.ofChange treeTimesSpec)) treeTimesCard

/-- THE TIED CARD OF 'redactorlaw09.TreeRights'. -/
def treeRightsCard : Claim7 := { stood := { row := treeRightsRow, standIns := [], harness := (true, "ae146a07ef6744bdd109751d2c2d73215ed00bb3ebfb4027bc3f4575c2333542"), looks := false }, kinds := [], alts := [], laidByText := true, laidKinds := [.data, .data, .data], laidTests := true, laidLooks := .later }
def TreeRightsCardSaid : Prop := Claim7.holds Tryd.pinned (.plain (OpenSpec.ofChange treeRightsSpec)) treeRightsCard

/-- THE TIED CARD OF 'redactorlaw09.TreeBuilds'. -/
def treeBuildsCard : Claim7 := { stood := { row := treeBuildsRow, standIns := [], harness := (true, "ae146a07ef6744bdd109751d2c2d73215ed00bb3ebfb4027bc3f4575c2333542"), looks := false }, kinds := [], alts := [], laidByText := true, laidKinds := [.data, .data, .data], laidTests := true, laidLooks := .later }
def TreeBuildsCardSaid : Prop := Claim7.holds Tryd.pinned (.plain (OpenSpec.ofChange treeBuildsSpec)) treeBuildsCard

/-- THE TIED CARD OF 'redactorlaw09.TreeFew'. -/
def treeFewCard : Claim7 := { stood := { row := treeFewRow, standIns := [], harness := (true, "ae146a07ef6744bdd109751d2c2d73215ed00bb3ebfb4027bc3f4575c2333542"), looks := false }, kinds := [], alts := [], laidByText := true, laidKinds := [.data, .data, .data], laidTests := true, laidLooks := .later }
def TreeFewCardSaid : Prop := Claim7.holds Tryd.pinned (.plain (OpenSpec.ofChange treeFewSpec)) treeFewCard

/-- THE TIED CARD OF 'redactorlaw09.TreeGroups'. -/
def treeGroupsCard : Claim7 := { stood := { row := treeGroupsRow, standIns := [], harness := (true, "ae146a07ef6744bdd109751d2c2d73215ed00bb3ebfb4027bc3f4575c2333542"), looks := false }, kinds := [], alts := [], laidByText := true, laidKinds := [.data, .data, .data], laidTests := true, laidLooks := .later }
def TreeGroupsCardSaid : Prop := Claim7.holds Tryd.pinned (.plain (OpenSpec.ofChange treeGroupsSpec)) treeGroupsCard

/-- THE SECOND FORM's CARD OF 'redactorlaw09.TreeLeaves'. -/
def treeLeavesUptoCard : Claim7 := { stood := { row := treeLeavesUptoRow, standIns := [], harness := (true, "ae146a07ef6744bdd109751d2c2d73215ed00bb3ebfb4027bc3f4575c2333542"), looks := false }, kinds := [], alts := [], laidByText := true, laidKinds := [.data, .data, .data], laidTests := true, laidLooks := .later }
def TreeLeavesUptoCardSaid : Prop := Claim7.holds Tryd.pinned (.plain (OpenSpec.upto treeLeavesSpec)) treeLeavesUptoCard

/-- THE SECOND FORM's CARD OF 'redactorlaw09.TreeTimes'. -/
def treeTimesUptoCard : Claim7 := { stood := { row := treeTimesUptoRow, standIns := [], harness := (true, "ae146a07ef6744bdd109751d2c2d73215ed00bb3ebfb4027bc3f4575c2333542"), looks := false }, kinds := [], alts := [], laidByText := true, laidKinds := [.data, .data, .data], laidTests := true, laidLooks := .later }
def TreeTimesUptoCardSaid : Prop := Claim7.holds Tryd.pinned (.plain (OpenSpec.upto treeTimesSpec)) treeTimesUptoCard

/-- THE SECOND FORM's CARD OF 'redactorlaw09.TreeRights'. -/
def treeRightsUptoCard : Claim7 := { stood := { row := treeRightsUptoRow, standIns := [], harness := (true, "ae146a07ef6744bdd109751d2c2d73215ed00bb3ebfb4027bc3f4575c2333542"), looks := false }, kinds := [], alts := [], laidByText := true, laidKinds := [.data, .data, .data], laidTests := true, laidLooks := .later }
def TreeRightsUptoCardSaid : Prop := Claim7.holds Tryd.pinned (.plain (OpenSpec.upto treeRightsSpec)) treeRightsUptoCard

/-- THE SECOND FORM's CARD OF 'redactorlaw09.TreeBuilds'. -/
def treeBuildsUptoCard : Claim7 := { stood := { row := treeBuildsUptoRow, standIns := [], harness := (true, "ae146a07ef6744bdd109751d2c2d73215ed00bb3ebfb4027bc3f4575c2333542"), looks := false }, kinds := [], alts := [], laidByText := true, laidKinds := [.data, .data, .data], laidTests := true, laidLooks := .later }
def TreeBuildsUptoCardSaid : Prop := Claim7.holds Tryd.pinned (.plain (OpenSpec.upto treeBuildsSpec)) treeBuildsUptoCard

/-- THE SECOND FORM's CARD OF 'redactorlaw09.TreeFew'. -/
def treeFewUptoCard : Claim7 := { stood := { row := treeFewUptoRow, standIns := [], harness := (true, "ae146a07ef6744bdd109751d2c2d73215ed00bb3ebfb4027bc3f4575c2333542"), looks := false }, kinds := [], alts := [], laidByText := true, laidKinds := [.data, .data, .data], laidTests := true, laidLooks := .later }
def TreeFewUptoCardSaid : Prop := Claim7.holds Tryd.pinned (.plain (OpenSpec.upto treeFewSpec)) treeFewUptoCard

/-- THE SECOND FORM's CARD OF 'redactorlaw09.TreeGroups'. -/
def treeGroupsUptoCard : Claim7 := { stood := { row := treeGroupsUptoRow, standIns := [], harness := (true, "ae146a07ef6744bdd109751d2c2d73215ed00bb3ebfb4027bc3f4575c2333542"), looks := false }, kinds := [], alts := [], laidByText := true, laidKinds := [.data, .data, .data], laidTests := true, laidLooks := .later }
def TreeGroupsUptoCardSaid : Prop := Claim7.holds Tryd.pinned (.plain (OpenSpec.upto treeGroupsSpec)) treeGroupsUptoCard
end Rows
end Go.Proofs.YtcpjcepeiplfgaaDoor
