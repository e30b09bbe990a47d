/-
  No cell of these rows narrows 'for every input' (looked for: loops, veiled, ifaces, maps, wideKeys, modest, calm, conditions, laid).
  DERIVED. THE GIVEN ROWS OF THIS SEAT. 7 by the template 'for every input the law returns true; each argument reads behind the call as it read before'; 0 by the template 'total and deterministic' (their statements: YtbocibecjndooaaTotals.lean).
  GIVEN WITH THE SEED: the statements are not yours to turn. If you find one false, say at which input.
  Laid BY PROGRAM, IN A SANDBOX (cutbox-rows.mjs): the forced cells as the released guide's own fill.sh prints them over the translation 8541b4f6e658830c… (all of the seat's roots in one cut). By AI agents, Wed Nov 11 2026. No macro, syntax, notation, axiom, sorry.
-/
import Derived.Test.YtbocibecjndooaaChecked
import GoSem.Claim
import GoSem.ClaimJoined
import GoSem.ClaimMapViews
import Derived.JoinedTies
import Derived.KernelRfl
namespace Go.Proofs.Ytbocibecjndooaa
/- THE CELL 'sum', in the pinned program and in every row, IS THE sha256 OF THE DUMP (.gsa) THAT YtbocibecjndooaaProg.lean LOADS. Nothing in Lean hashes anything: it is a label: what it is worth is what the hold of that sum in a sandbox is worth. -/
noncomputable def Try.pinned : Pinned := { name := "ytbocibecjndooaa", sum := "8541b4f6e658830ce3db891871a1de4326c31d10cc9b145e28dc50451c4bff5d", checked := Try.checked }
namespace Rows
def none {H : Type} : Left H := { results := [], args := [] }

/-- 'redactorlaw03.Utf16Odd': WHATEVER THE INPUT: true; the input reads as it did. -/
def utf16OddSpec : ChangeSpec := { name := "utf16Odd", fn := fun _ => fun
  | [d1, d2, d3] => { results := [.lit (.bool true)], args := [d1, d2, d3] }
  | _ => none }
def utf16OddRow : OpenClaim := { program := "ytbocibecjndooaa", sum := "8541b4f6e658830ce3db891871a1de4326c31d10cc9b145e28dc50451c4bff5d", func := "redactor/redactorlaw03.Utf16Odd", spec := "utf16Odd", unfollowed := true, recurses := true, apart := false }
def Utf16OddSaid : Prop := utf16OddRow.holds Try.pinned (OpenSpec.ofChange utf16OddSpec)

/-- ITS FALSE NEIGHBOUR: 'it returns false'. Refute it at one input. -/
def utf16OddWrong : ChangeSpec := { name := "utf16Odd", fn := fun _ => fun
  | [d1, d2, d3] => { results := [.lit (.bool false)], args := [d1, d2, d3] }
  | _ => none }
def Utf16OddWrongFalsely : Prop := utf16OddRow.holds Try.pinned (OpenSpec.ofChange utf16OddWrong)

/-- 'redactorlaw03.Utf16Lone': WHATEVER THE INPUT: true; the input reads as it did. -/
def utf16LoneSpec : ChangeSpec := { name := "utf16Lone", fn := fun _ => fun
  | [d1, d2, d3] => { results := [.lit (.bool true)], args := [d1, d2, d3] }
  | _ => none }
def utf16LoneRow : OpenClaim := { program := "ytbocibecjndooaa", sum := "8541b4f6e658830ce3db891871a1de4326c31d10cc9b145e28dc50451c4bff5d", func := "redactor/redactorlaw03.Utf16Lone", spec := "utf16Lone", unfollowed := true, recurses := true, apart := false }
def Utf16LoneSaid : Prop := utf16LoneRow.holds Try.pinned (OpenSpec.ofChange utf16LoneSpec)

/-- ITS FALSE NEIGHBOUR: 'it returns false'. Refute it at one input. -/
def utf16LoneWrong : ChangeSpec := { name := "utf16Lone", fn := fun _ => fun
  | [d1, d2, d3] => { results := [.lit (.bool false)], args := [d1, d2, d3] }
  | _ => none }
def Utf16LoneWrongFalsely : Prop := utf16LoneRow.holds Try.pinned (OpenSpec.ofChange utf16LoneWrong)

/-- 'redactorlaw03.Utf16Decodes': WHATEVER THE INPUT: true; the input reads as it did. -/
def utf16DecodesSpec : ChangeSpec := { name := "utf16Decodes", fn := fun _ => fun
  | [d1, d2, d3] => { results := [.lit (.bool true)], args := [d1, d2, d3] }
  | _ => none }
def utf16DecodesRow : OpenClaim := { program := "ytbocibecjndooaa", sum := "8541b4f6e658830ce3db891871a1de4326c31d10cc9b145e28dc50451c4bff5d", func := "redactor/redactorlaw03.Utf16Decodes", spec := "utf16Decodes", unfollowed := true, recurses := true, apart := false }
def Utf16DecodesSaid : Prop := utf16DecodesRow.holds Try.pinned (OpenSpec.ofChange utf16DecodesSpec)

/-- ITS FALSE NEIGHBOUR: 'it returns false'. Refute it at one input. -/
def utf16DecodesWrong : ChangeSpec := { name := "utf16Decodes", fn := fun _ => fun
  | [d1, d2, d3] => { results := [.lit (.bool false)], args := [d1, d2, d3] }
  | _ => none }
def Utf16DecodesWrongFalsely : Prop := utf16DecodesRow.holds Try.pinned (OpenSpec.ofChange utf16DecodesWrong)

/-- 'redactorlaw03.Utf16Encodes': WHATEVER THE INPUT: true; the input reads as it did. -/
def utf16EncodesSpec : ChangeSpec := { name := "utf16Encodes", fn := fun _ => fun
  | [d1, d2, d3] => { results := [.lit (.bool true)], args := [d1, d2, d3] }
  | _ => none }
def utf16EncodesRow : OpenClaim := { program := "ytbocibecjndooaa", sum := "8541b4f6e658830ce3db891871a1de4326c31d10cc9b145e28dc50451c4bff5d", func := "redactor/redactorlaw03.Utf16Encodes", spec := "utf16Encodes", unfollowed := true, recurses := true, apart := false }
def Utf16EncodesSaid : Prop := utf16EncodesRow.holds Try.pinned (OpenSpec.ofChange utf16EncodesSpec)

/-- ITS FALSE NEIGHBOUR: 'it returns false'. Refute it at one input. -/
def utf16EncodesWrong : ChangeSpec := { name := "utf16Encodes", fn := fun _ => fun
  | [d1, d2, d3] => { results := [.lit (.bool false)], args := [d1, d2, d3] }
  | _ => none }
def Utf16EncodesWrongFalsely : Prop := utf16EncodesRow.holds Try.pinned (OpenSpec.ofChange utf16EncodesWrong)

/-- 'redactorlaw03.Utf16Back': WHATEVER THE INPUT: true; the input reads as it did. -/
def utf16BackSpec : ChangeSpec := { name := "utf16Back", fn := fun _ => fun
  | [d1, d2, d3] => { results := [.lit (.bool true)], args := [d1, d2, d3] }
  | _ => none }
def utf16BackRow : OpenClaim := { program := "ytbocibecjndooaa", sum := "8541b4f6e658830ce3db891871a1de4326c31d10cc9b145e28dc50451c4bff5d", func := "redactor/redactorlaw03.Utf16Back", spec := "utf16Back", unfollowed := true, recurses := true, apart := false }
def Utf16BackSaid : Prop := utf16BackRow.holds Try.pinned (OpenSpec.ofChange utf16BackSpec)

/-- ITS FALSE NEIGHBOUR: 'it returns false'. Refute it at one input. -/
def utf16BackWrong : ChangeSpec := { name := "utf16Back", fn := fun _ => fun
  | [d1, d2, d3] => { results := [.lit (.bool false)], args := [d1, d2, d3] }
  | _ => none }
def Utf16BackWrongFalsely : Prop := utf16BackRow.holds Try.pinned (OpenSpec.ofChange utf16BackWrong)

/-- 'redactorlaw03.Utf16Turns': WHATEVER THE INPUT: true; the input reads as it did. -/
def utf16TurnsSpec : ChangeSpec := { name := "utf16Turns", fn := fun _ => fun
  | [d1, d2] => { results := [.lit (.bool true)], args := [d1, d2] }
  | _ => none }
def utf16TurnsRow : OpenClaim := { program := "ytbocibecjndooaa", sum := "8541b4f6e658830ce3db891871a1de4326c31d10cc9b145e28dc50451c4bff5d", func := "redactor/redactorlaw03.Utf16Turns", spec := "utf16Turns", unfollowed := true, recurses := true, apart := false }
def Utf16TurnsSaid : Prop := utf16TurnsRow.holds Try.pinned (OpenSpec.ofChange utf16TurnsSpec)

/-- ITS FALSE NEIGHBOUR: 'it returns false'. Refute it at one input. -/
def utf16TurnsWrong : ChangeSpec := { name := "utf16Turns", fn := fun _ => fun
  | [d1, d2] => { results := [.lit (.bool false)], args := [d1, d2] }
  | _ => none }
def Utf16TurnsWrongFalsely : Prop := utf16TurnsRow.holds Try.pinned (OpenSpec.ofChange utf16TurnsWrong)

/-- 'redactorlaw03.Utf16Cut': WHATEVER THE INPUT: true; the input reads as it did. -/
def utf16CutSpec : ChangeSpec := { name := "utf16Cut", fn := fun _ => fun
  | [d1, d2, d3] => { results := [.lit (.bool true)], args := [d1, d2, d3] }
  | _ => none }
def utf16CutRow : OpenClaim := { program := "ytbocibecjndooaa", sum := "8541b4f6e658830ce3db891871a1de4326c31d10cc9b145e28dc50451c4bff5d", func := "redactor/redactorlaw03.Utf16Cut", spec := "utf16Cut", unfollowed := true, recurses := true, apart := false }
def Utf16CutSaid : Prop := utf16CutRow.holds Try.pinned (OpenSpec.ofChange utf16CutSpec)

/-- ITS FALSE NEIGHBOUR: 'it returns false'. Refute it at one input. -/
def utf16CutWrong : ChangeSpec := { name := "utf16Cut", fn := fun _ => fun
  | [d1, d2, d3] => { results := [.lit (.bool false)], args := [d1, d2, d3] }
  | _ => none }
def Utf16CutWrongFalsely : Prop := utf16CutRow.holds Try.pinned (OpenSpec.ofChange utf16CutWrong)

/- THE SECOND FORM. 'bulk': how many values and letters a reading holds, each counted each time it is reached (what is shared counts as often as it is met; a slice's spare places count too). A statement '..UptoSaid' is the law's where the arguments, and the package variables that the reading takes, are together of bulk at most 1048576: NARROWER than '..Said'. Prove '..Said' where nothing that the law and all that it calls make is longer than what came in: it says more and counts as full. Else prove '..UptoSaid'. A law counts once. -/
mutual
def uptoBulk {H : Type} : DataW H → Nat
  | .lit (.string bytes) => bytes.length + 1
  | .lit _ => 1
  | .nil => 1
  | .ptr d => uptoBulk d + 1
  | .slice elems spare => uptoBulkAll elems + uptoBulkAll spare + 1
  | .agg parts => uptoBulkAll parts + 1
  | .iface _ d => uptoBulk d + 1
  | .map entries => uptoBulkEntries entries + 1
  | .held _ => 1
def uptoBulkAll {H : Type} : List (DataW H) → Nat
  | [] => 0
  | d :: r => uptoBulk d + uptoBulkAll r
def uptoBulkEntries {H : Type} : List (Lit × DataW H) → Nat
  | [] => 0
  | x :: r => uptoBulkEntry x + uptoBulkEntries r
def uptoBulkEntry {H : Type} : Lit × DataW H → Nat
  | (.string bytes, d) => bytes.length + uptoBulk d + 1
  | (_, d) => uptoBulk d + 1
 end
def uptoSmall : (H : Type) → List (DataW H) → Bool := fun _ ds => decide (uptoBulkAll ds ≤ 1048576)
def OpenSpec.upto (s : _root_.Go.ChangeSpec) : _root_.Go.OpenSpec := { _root_.Go.OpenSpec.ofChange s with cond := some uptoSmall }

/-- 'redactorlaw03.Utf16Odd', WHERE WHAT IT READS IS OF BULK AT MOST 1048576: true; the input reads as it did. -/
def utf16OddUptoRow : OpenClaim := { program := "ytbocibecjndooaa", sum := "8541b4f6e658830ce3db891871a1de4326c31d10cc9b145e28dc50451c4bff5d", func := "redactor/redactorlaw03.Utf16Odd", spec := "utf16Odd", unfollowed := true, recurses := true, apart := false, narrowed := true }
def Utf16OddUptoSaid : Prop := utf16OddUptoRow.holds Try.pinned (OpenSpec.upto utf16OddSpec)

/-- 'redactorlaw03.Utf16Lone', WHERE WHAT IT READS IS OF BULK AT MOST 1048576: true; the input reads as it did. -/
def utf16LoneUptoRow : OpenClaim := { program := "ytbocibecjndooaa", sum := "8541b4f6e658830ce3db891871a1de4326c31d10cc9b145e28dc50451c4bff5d", func := "redactor/redactorlaw03.Utf16Lone", spec := "utf16Lone", unfollowed := true, recurses := true, apart := false, narrowed := true }
def Utf16LoneUptoSaid : Prop := utf16LoneUptoRow.holds Try.pinned (OpenSpec.upto utf16LoneSpec)

/-- 'redactorlaw03.Utf16Decodes', WHERE WHAT IT READS IS OF BULK AT MOST 1048576: true; the input reads as it did. -/
def utf16DecodesUptoRow : OpenClaim := { program := "ytbocibecjndooaa", sum := "8541b4f6e658830ce3db891871a1de4326c31d10cc9b145e28dc50451c4bff5d", func := "redactor/redactorlaw03.Utf16Decodes", spec := "utf16Decodes", unfollowed := true, recurses := true, apart := false, narrowed := true }
def Utf16DecodesUptoSaid : Prop := utf16DecodesUptoRow.holds Try.pinned (OpenSpec.upto utf16DecodesSpec)

/-- 'redactorlaw03.Utf16Encodes', WHERE WHAT IT READS IS OF BULK AT MOST 1048576: true; the input reads as it did. -/
def utf16EncodesUptoRow : OpenClaim := { program := "ytbocibecjndooaa", sum := "8541b4f6e658830ce3db891871a1de4326c31d10cc9b145e28dc50451c4bff5d", func := "redactor/redactorlaw03.Utf16Encodes", spec := "utf16Encodes", unfollowed := true, recurses := true, apart := false, narrowed := true }
def Utf16EncodesUptoSaid : Prop := utf16EncodesUptoRow.holds Try.pinned (OpenSpec.upto utf16EncodesSpec)

/-- 'redactorlaw03.Utf16Back', WHERE WHAT IT READS IS OF BULK AT MOST 1048576: true; the input reads as it did. -/
def utf16BackUptoRow : OpenClaim := { program := "ytbocibecjndooaa", sum := "8541b4f6e658830ce3db891871a1de4326c31d10cc9b145e28dc50451c4bff5d", func := "redactor/redactorlaw03.Utf16Back", spec := "utf16Back", unfollowed := true, recurses := true, apart := false, narrowed := true }
def Utf16BackUptoSaid : Prop := utf16BackUptoRow.holds Try.pinned (OpenSpec.upto utf16BackSpec)

/-- 'redactorlaw03.Utf16Turns', WHERE WHAT IT READS IS OF BULK AT MOST 1048576: true; the input reads as it did. -/
def utf16TurnsUptoRow : OpenClaim := { program := "ytbocibecjndooaa", sum := "8541b4f6e658830ce3db891871a1de4326c31d10cc9b145e28dc50451c4bff5d", func := "redactor/redactorlaw03.Utf16Turns", spec := "utf16Turns", unfollowed := true, recurses := true, apart := false, narrowed := true }
def Utf16TurnsUptoSaid : Prop := utf16TurnsUptoRow.holds Try.pinned (OpenSpec.upto utf16TurnsSpec)

/-- 'redactorlaw03.Utf16Cut', WHERE WHAT IT READS IS OF BULK AT MOST 1048576: true; the input reads as it did. -/
def utf16CutUptoRow : OpenClaim := { program := "ytbocibecjndooaa", sum := "8541b4f6e658830ce3db891871a1de4326c31d10cc9b145e28dc50451c4bff5d", func := "redactor/redactorlaw03.Utf16Cut", spec := "utf16Cut", unfollowed := true, recurses := true, apart := false, narrowed := true }
def Utf16CutUptoSaid : Prop := utf16CutUptoRow.holds Try.pinned (OpenSpec.upto utf16CutSpec)

end Rows
end Go.Proofs.Ytbocibecjndooaa
