/-
  NARROWER THAN 'FOR EVERY INPUT', by the rows' own cells (each row's printed sentence says how): Utf8Cut: laid · Utf8Single: laid · Utf8Bad: laid · Utf8Decodes: laid · Utf8Encodes: laid · Utf8Back: laid · Utf8Scalars: laid.
  DERIVED. THE GIVEN ROWS OF THIS SEAT. 7 by the template 'for every input the law returns true; each argument reads behind the call as it read before'; 0 by the template 'total and deterministic' (their statements: YtiffofchjmfbpaaDoorTotals.lean).
  GIVEN WITH THE SEED: the statements are not yours to turn. If you find one false, say at which input.
  Laid BY PROGRAM, IN A SANDBOX (cutbox-rows.mjs): the forced cells as the released guide's own fill.sh prints them over the translation 7b0b6b82c86836a7… (all of the seat's roots in one cut). By AI agents, Wed Nov 11 2026. No macro, syntax, notation, axiom, sorry.
-/
import Derived.Test.YtiffofchjmfbpaaDoorChecked
import GoSem.PinnedTables
import GoSem.Claim
import GoSem.ClaimJoined
import GoSem.ClaimMapViews
import Derived.JoinedTies
import Derived.KernelRfl
namespace Go.Proofs.YtiffofchjmfbpaaDoor
/- THE CELL 'sum', in the pinned program and in every row, IS THE sha256 OF THE DUMP (.gsa) THAT YtiffofchjmfbpaaDoorProg.lean LOADS. Nothing in Lean hashes anything: it is a label: what it is worth is what the hold of that sum in a sandbox is worth. -/
noncomputable def Tryd.pinned : Pinned := { name := "ytiffofchjmfbpaadoor", sum := "7b0b6b82c86836a7cad189bcb7cf0b6005d2f9b47a5d64684ac63ff8b56c6cf6", checked := Tryd.checked }
namespace Rows
def none {H : Type} : Left H := { results := [], args := [] }

/- WHAT THE LISTED PACKAGE-LEVEL VARIABLES READ AS WHEN THE CALL BEGINS. Each datum BY PROGRAM (the guide's laid-datum.mjs) off the statement by which the dump's own 'gosem.cut.vars' lays the variable. In a bare row this is a premise. The card (YtiffofchjmfbpaaDoorCards.lean) ties it to the program's text. -/
def laid_unicode_utf8_acceptRanges {H : Type} : DataW H := .agg [.agg [.lit (.int .u8 128), .lit (.int .u8 191)], .agg [.lit (.int .u8 160), .lit (.int .u8 191)], .agg [.lit (.int .u8 128), .lit (.int .u8 159)], .agg [.lit (.int .u8 144), .lit (.int .u8 191)], .agg [.lit (.int .u8 128), .lit (.int .u8 143)], .agg [.lit (.int .u8 0), .lit (.int .u8 0)], .agg [.lit (.int .u8 0), .lit (.int .u8 0)], .agg [.lit (.int .u8 0), .lit (.int .u8 0)], .agg [.lit (.int .u8 0), .lit (.int .u8 0)], .agg [.lit (.int .u8 0), .lit (.int .u8 0)], .agg [.lit (.int .u8 0), .lit (.int .u8 0)], .agg [.lit (.int .u8 0), .lit (.int .u8 0)], .agg [.lit (.int .u8 0), .lit (.int .u8 0)], .agg [.lit (.int .u8 0), .lit (.int .u8 0)], .agg [.lit (.int .u8 0), .lit (.int .u8 0)], .agg [.lit (.int .u8 0), .lit (.int .u8 0)]]
/-- One of Go's own tables, pinned by name: the form's constant. -/
def laid_unicode_utf8_first : DataW Unit := Go.Pinned.utf8First

/-- 'redactorlaw02.Utf8Cut': WHATEVER THE INPUT: true; the input reads as it did. -/
def utf8CutSpec : ChangeSpec := { name := "utf8Cut", fn := fun _ => fun
  | [d1, d2] => { results := [.lit (.bool true)], args := [d1, d2] }
  | _ => none }
def utf8CutRow : OpenClaim := { program := "ytiffofchjmfbpaadoor", sum := "7b0b6b82c86836a7cad189bcb7cf0b6005d2f9b47a5d64684ac63ff8b56c6cf6", func := "redactor/redactorlaw02.Utf8Cut", spec := "utf8Cut", named := ["unicode/utf8.first", "unicode/utf8.acceptRanges"], apart := false, laid := [("unicode/utf8.acceptRanges", laid_unicode_utf8_acceptRanges), ("unicode/utf8.first", laid_unicode_utf8_first)] }
def Utf8CutSaid : Prop := utf8CutRow.holds Tryd.pinned (OpenSpec.ofChange utf8CutSpec)

/-- ITS FALSE NEIGHBOUR: 'it returns false'. Refute it at one input. -/
def utf8CutWrong : ChangeSpec := { name := "utf8Cut", fn := fun _ => fun
  | [d1, d2] => { results := [.lit (.bool false)], args := [d1, d2] }
  | _ => none }
def Utf8CutWrongFalsely : Prop := utf8CutRow.holds Tryd.pinned (OpenSpec.ofChange utf8CutWrong)

/-- 'redactorlaw02.Utf8Single': WHATEVER THE INPUT: true; the input reads as it did. -/
def utf8SingleSpec : ChangeSpec := { name := "utf8Single", fn := fun _ => fun
  | [d] => { results := [.lit (.bool true)], args := [d] }
  | _ => none }
def utf8SingleRow : OpenClaim := { program := "ytiffofchjmfbpaadoor", sum := "7b0b6b82c86836a7cad189bcb7cf0b6005d2f9b47a5d64684ac63ff8b56c6cf6", func := "redactor/redactorlaw02.Utf8Single", spec := "utf8Single", named := ["unicode/utf8.first", "unicode/utf8.acceptRanges"], apart := false, laid := [("unicode/utf8.acceptRanges", laid_unicode_utf8_acceptRanges), ("unicode/utf8.first", laid_unicode_utf8_first)] }
def Utf8SingleSaid : Prop := utf8SingleRow.holds Tryd.pinned (OpenSpec.ofChange utf8SingleSpec)

/-- ITS FALSE NEIGHBOUR: 'it returns false'. Refute it at one input. -/
def utf8SingleWrong : ChangeSpec := { name := "utf8Single", fn := fun _ => fun
  | [d] => { results := [.lit (.bool false)], args := [d] }
  | _ => none }
def Utf8SingleWrongFalsely : Prop := utf8SingleRow.holds Tryd.pinned (OpenSpec.ofChange utf8SingleWrong)

/-- 'redactorlaw02.Utf8Bad': WHATEVER THE INPUT: true; the input reads as it did. -/
def utf8BadSpec : ChangeSpec := { name := "utf8Bad", fn := fun _ => fun
  | [d1, d2] => { results := [.lit (.bool true)], args := [d1, d2] }
  | _ => none }
def utf8BadRow : OpenClaim := { program := "ytiffofchjmfbpaadoor", sum := "7b0b6b82c86836a7cad189bcb7cf0b6005d2f9b47a5d64684ac63ff8b56c6cf6", func := "redactor/redactorlaw02.Utf8Bad", spec := "utf8Bad", named := ["unicode/utf8.first", "unicode/utf8.acceptRanges"], apart := false, laid := [("unicode/utf8.acceptRanges", laid_unicode_utf8_acceptRanges), ("unicode/utf8.first", laid_unicode_utf8_first)] }
def Utf8BadSaid : Prop := utf8BadRow.holds Tryd.pinned (OpenSpec.ofChange utf8BadSpec)

/-- ITS FALSE NEIGHBOUR: 'it returns false'. Refute it at one input. -/
def utf8BadWrong : ChangeSpec := { name := "utf8Bad", fn := fun _ => fun
  | [d1, d2] => { results := [.lit (.bool false)], args := [d1, d2] }
  | _ => none }
def Utf8BadWrongFalsely : Prop := utf8BadRow.holds Tryd.pinned (OpenSpec.ofChange utf8BadWrong)

/-- 'redactorlaw02.Utf8Decodes': WHATEVER THE INPUT: true; the input reads as it did. -/
def utf8DecodesSpec : ChangeSpec := { name := "utf8Decodes", fn := fun _ => fun
  | [d1, d2] => { results := [.lit (.bool true)], args := [d1, d2] }
  | _ => none }
def utf8DecodesRow : OpenClaim := { program := "ytiffofchjmfbpaadoor", sum := "7b0b6b82c86836a7cad189bcb7cf0b6005d2f9b47a5d64684ac63ff8b56c6cf6", func := "redactor/redactorlaw02.Utf8Decodes", spec := "utf8Decodes", named := ["unicode/utf8.first", "unicode/utf8.acceptRanges"], apart := false, laid := [("unicode/utf8.acceptRanges", laid_unicode_utf8_acceptRanges), ("unicode/utf8.first", laid_unicode_utf8_first)] }
def Utf8DecodesSaid : Prop := utf8DecodesRow.holds Tryd.pinned (OpenSpec.ofChange utf8DecodesSpec)

/-- ITS FALSE NEIGHBOUR: 'it returns false'. Refute it at one input. -/
def utf8DecodesWrong : ChangeSpec := { name := "utf8Decodes", fn := fun _ => fun
  | [d1, d2] => { results := [.lit (.bool false)], args := [d1, d2] }
  | _ => none }
def Utf8DecodesWrongFalsely : Prop := utf8DecodesRow.holds Tryd.pinned (OpenSpec.ofChange utf8DecodesWrong)

/-- 'redactorlaw02.Utf8Encodes': WHATEVER THE INPUT: true; the input reads as it did. -/
def utf8EncodesSpec : ChangeSpec := { name := "utf8Encodes", fn := fun _ => fun
  | [d1, d2] => { results := [.lit (.bool true)], args := [d1, d2] }
  | _ => none }
def utf8EncodesRow : OpenClaim := { program := "ytiffofchjmfbpaadoor", sum := "7b0b6b82c86836a7cad189bcb7cf0b6005d2f9b47a5d64684ac63ff8b56c6cf6", func := "redactor/redactorlaw02.Utf8Encodes", spec := "utf8Encodes", named := ["unicode/utf8.first", "unicode/utf8.acceptRanges"], apart := false, laid := [("unicode/utf8.acceptRanges", laid_unicode_utf8_acceptRanges), ("unicode/utf8.first", laid_unicode_utf8_first)] }
def Utf8EncodesSaid : Prop := utf8EncodesRow.holds Tryd.pinned (OpenSpec.ofChange utf8EncodesSpec)

/-- ITS FALSE NEIGHBOUR: 'it returns false'. Refute it at one input. -/
def utf8EncodesWrong : ChangeSpec := { name := "utf8Encodes", fn := fun _ => fun
  | [d1, d2] => { results := [.lit (.bool false)], args := [d1, d2] }
  | _ => none }
def Utf8EncodesWrongFalsely : Prop := utf8EncodesRow.holds Tryd.pinned (OpenSpec.ofChange utf8EncodesWrong)

/-- 'redactorlaw02.Utf8Back': WHATEVER THE INPUT: true; the input reads as it did. -/
def utf8BackSpec : ChangeSpec := { name := "utf8Back", fn := fun _ => fun
  | [d1, d2] => { results := [.lit (.bool true)], args := [d1, d2] }
  | _ => none }
def utf8BackRow : OpenClaim := { program := "ytiffofchjmfbpaadoor", sum := "7b0b6b82c86836a7cad189bcb7cf0b6005d2f9b47a5d64684ac63ff8b56c6cf6", func := "redactor/redactorlaw02.Utf8Back", spec := "utf8Back", named := ["unicode/utf8.first", "unicode/utf8.acceptRanges"], apart := false, laid := [("unicode/utf8.acceptRanges", laid_unicode_utf8_acceptRanges), ("unicode/utf8.first", laid_unicode_utf8_first)] }
def Utf8BackSaid : Prop := utf8BackRow.holds Tryd.pinned (OpenSpec.ofChange utf8BackSpec)

/-- ITS FALSE NEIGHBOUR: 'it returns false'. Refute it at one input. -/
def utf8BackWrong : ChangeSpec := { name := "utf8Back", fn := fun _ => fun
  | [d1, d2] => { results := [.lit (.bool false)], args := [d1, d2] }
  | _ => none }
def Utf8BackWrongFalsely : Prop := utf8BackRow.holds Tryd.pinned (OpenSpec.ofChange utf8BackWrong)

/-- 'redactorlaw02.Utf8Scalars': WHATEVER THE INPUT: true; the input reads as it did. -/
def utf8ScalarsSpec : ChangeSpec := { name := "utf8Scalars", fn := fun _ => fun
  | [d] => { results := [.lit (.bool true)], args := [d] }
  | _ => none }
def utf8ScalarsRow : OpenClaim := { program := "ytiffofchjmfbpaadoor", sum := "7b0b6b82c86836a7cad189bcb7cf0b6005d2f9b47a5d64684ac63ff8b56c6cf6", func := "redactor/redactorlaw02.Utf8Scalars", spec := "utf8Scalars", named := ["unicode/utf8.first", "unicode/utf8.acceptRanges"], apart := false, laid := [("unicode/utf8.acceptRanges", laid_unicode_utf8_acceptRanges), ("unicode/utf8.first", laid_unicode_utf8_first)] }
def Utf8ScalarsSaid : Prop := utf8ScalarsRow.holds Tryd.pinned (OpenSpec.ofChange utf8ScalarsSpec)

/-- ITS FALSE NEIGHBOUR: 'it returns false'. Refute it at one input. -/
def utf8ScalarsWrong : ChangeSpec := { name := "utf8Scalars", fn := fun _ => fun
  | [d] => { results := [.lit (.bool false)], args := [d] }
  | _ => none }
def Utf8ScalarsWrongFalsely : Prop := utf8ScalarsRow.holds Tryd.pinned (OpenSpec.ofChange utf8ScalarsWrong)

/- THE SECOND FORM. 'bulk': how many values and letters a reading holds, each counted each time it is reached (what is shared counts as often as it is met; a slice's spare places count too). A statement '..UptoSaid' is the law's where the arguments, and the package variables that the reading takes, are together of bulk at most 1048576: NARROWER than '..Said'. Prove '..Said' where nothing that the law and all that it calls make is longer than what came in: it says more and counts as full. Else prove '..UptoSaid'. A law counts once. -/
mutual
def uptoBulk {H : Type} : DataW H → Nat
  | .lit (.string bytes) => bytes.length + 1
  | .lit _ => 1
  | .nil => 1
  | .ptr d => uptoBulk d + 1
  | .slice elems spare => uptoBulkAll elems + uptoBulkAll spare + 1
  | .agg parts => uptoBulkAll parts + 1
  | .iface _ d => uptoBulk d + 1
  | .map entries => uptoBulkEntries entries + 1
  | .held _ => 1
def uptoBulkAll {H : Type} : List (DataW H) → Nat
  | [] => 0
  | d :: r => uptoBulk d + uptoBulkAll r
def uptoBulkEntries {H : Type} : List (Lit × DataW H) → Nat
  | [] => 0
  | x :: r => uptoBulkEntry x + uptoBulkEntries r
def uptoBulkEntry {H : Type} : Lit × DataW H → Nat
  | (.string bytes, d) => bytes.length + uptoBulk d + 1
  | (_, d) => uptoBulk d + 1
 end
def uptoSmall : (H : Type) → List (DataW H) → Bool := fun _ ds => decide (uptoBulkAll ds ≤ 1048576)
def OpenSpec.upto (s : _root_.Go.ChangeSpec) : _root_.Go.OpenSpec := { _root_.Go.OpenSpec.ofChange s with cond := some uptoSmall }

/-- 'redactorlaw02.Utf8Cut', WHERE WHAT IT READS IS OF BULK AT MOST 1048576: true; the input reads as it did. -/
def utf8CutUptoRow : OpenClaim := { program := "ytiffofchjmfbpaadoor", sum := "7b0b6b82c86836a7cad189bcb7cf0b6005d2f9b47a5d64684ac63ff8b56c6cf6", func := "redactor/redactorlaw02.Utf8Cut", spec := "utf8Cut", named := ["unicode/utf8.first", "unicode/utf8.acceptRanges"], apart := false, laid := [("unicode/utf8.acceptRanges", laid_unicode_utf8_acceptRanges), ("unicode/utf8.first", laid_unicode_utf8_first)], narrowed := true }
def Utf8CutUptoSaid : Prop := utf8CutUptoRow.holds Tryd.pinned (OpenSpec.upto utf8CutSpec)

/-- 'redactorlaw02.Utf8Single', WHERE WHAT IT READS IS OF BULK AT MOST 1048576: true; the input reads as it did. -/
def utf8SingleUptoRow : OpenClaim := { program := "ytiffofchjmfbpaadoor", sum := "7b0b6b82c86836a7cad189bcb7cf0b6005d2f9b47a5d64684ac63ff8b56c6cf6", func := "redactor/redactorlaw02.Utf8Single", spec := "utf8Single", named := ["unicode/utf8.first", "unicode/utf8.acceptRanges"], apart := false, laid := [("unicode/utf8.acceptRanges", laid_unicode_utf8_acceptRanges), ("unicode/utf8.first", laid_unicode_utf8_first)], narrowed := true }
def Utf8SingleUptoSaid : Prop := utf8SingleUptoRow.holds Tryd.pinned (OpenSpec.upto utf8SingleSpec)

/-- 'redactorlaw02.Utf8Bad', WHERE WHAT IT READS IS OF BULK AT MOST 1048576: true; the input reads as it did. -/
def utf8BadUptoRow : OpenClaim := { program := "ytiffofchjmfbpaadoor", sum := "7b0b6b82c86836a7cad189bcb7cf0b6005d2f9b47a5d64684ac63ff8b56c6cf6", func := "redactor/redactorlaw02.Utf8Bad", spec := "utf8Bad", named := ["unicode/utf8.first", "unicode/utf8.acceptRanges"], apart := false, laid := [("unicode/utf8.acceptRanges", laid_unicode_utf8_acceptRanges), ("unicode/utf8.first", laid_unicode_utf8_first)], narrowed := true }
def Utf8BadUptoSaid : Prop := utf8BadUptoRow.holds Tryd.pinned (OpenSpec.upto utf8BadSpec)

/-- 'redactorlaw02.Utf8Decodes', WHERE WHAT IT READS IS OF BULK AT MOST 1048576: true; the input reads as it did. -/
def utf8DecodesUptoRow : OpenClaim := { program := "ytiffofchjmfbpaadoor", sum := "7b0b6b82c86836a7cad189bcb7cf0b6005d2f9b47a5d64684ac63ff8b56c6cf6", func := "redactor/redactorlaw02.Utf8Decodes", spec := "utf8Decodes", named := ["unicode/utf8.first", "unicode/utf8.acceptRanges"], apart := false, laid := [("unicode/utf8.acceptRanges", laid_unicode_utf8_acceptRanges), ("unicode/utf8.first", laid_unicode_utf8_first)], narrowed := true }
def Utf8DecodesUptoSaid : Prop := utf8DecodesUptoRow.holds Tryd.pinned (OpenSpec.upto utf8DecodesSpec)

/-- 'redactorlaw02.Utf8Encodes', WHERE WHAT IT READS IS OF BULK AT MOST 1048576: true; the input reads as it did. -/
def utf8EncodesUptoRow : OpenClaim := { program := "ytiffofchjmfbpaadoor", sum := "7b0b6b82c86836a7cad189bcb7cf0b6005d2f9b47a5d64684ac63ff8b56c6cf6", func := "redactor/redactorlaw02.Utf8Encodes", spec := "utf8Encodes", named := ["unicode/utf8.first", "unicode/utf8.acceptRanges"], apart := false, laid := [("unicode/utf8.acceptRanges", laid_unicode_utf8_acceptRanges), ("unicode/utf8.first", laid_unicode_utf8_first)], narrowed := true }
def Utf8EncodesUptoSaid : Prop := utf8EncodesUptoRow.holds Tryd.pinned (OpenSpec.upto utf8EncodesSpec)

/-- 'redactorlaw02.Utf8Back', WHERE WHAT IT READS IS OF BULK AT MOST 1048576: true; the input reads as it did. -/
def utf8BackUptoRow : OpenClaim := { program := "ytiffofchjmfbpaadoor", sum := "7b0b6b82c86836a7cad189bcb7cf0b6005d2f9b47a5d64684ac63ff8b56c6cf6", func := "redactor/redactorlaw02.Utf8Back", spec := "utf8Back", named := ["unicode/utf8.first", "unicode/utf8.acceptRanges"], apart := false, laid := [("unicode/utf8.acceptRanges", laid_unicode_utf8_acceptRanges), ("unicode/utf8.first", laid_unicode_utf8_first)], narrowed := true }
def Utf8BackUptoSaid : Prop := utf8BackUptoRow.holds Tryd.pinned (OpenSpec.upto utf8BackSpec)

/-- 'redactorlaw02.Utf8Scalars', WHERE WHAT IT READS IS OF BULK AT MOST 1048576: true; the input reads as it did. -/
def utf8ScalarsUptoRow : OpenClaim := { program := "ytiffofchjmfbpaadoor", sum := "7b0b6b82c86836a7cad189bcb7cf0b6005d2f9b47a5d64684ac63ff8b56c6cf6", func := "redactor/redactorlaw02.Utf8Scalars", spec := "utf8Scalars", named := ["unicode/utf8.first", "unicode/utf8.acceptRanges"], apart := false, laid := [("unicode/utf8.acceptRanges", laid_unicode_utf8_acceptRanges), ("unicode/utf8.first", laid_unicode_utf8_first)], narrowed := true }
def Utf8ScalarsUptoSaid : Prop := utf8ScalarsUptoRow.holds Tryd.pinned (OpenSpec.upto utf8ScalarsSpec)

end Rows
end Go.Proofs.YtiffofchjmfbpaaDoor
