/-
  Joined: LawKit, MUtfM, MUtfD, MUtfF, MUtfS. Each with what its own head says.
-/
import Derived.Test.YthaibekbefndlaaGreatDoorRows
import Derived.Test.YthaibekbefndlaaGreatDoorG02
import Derived.WalkKit
import Derived.ProofKit
import Derived.OpenShut
import Derived.ShutString
import Derived.ChangeOld
import Derived.Below
import Derived.Carry
import Derived.Deep.DeepHandedRow
import Derived.Lib.LaidTab
import Derived.Lib.LaidU8
import Derived.Stop.LaidErr
import Derived.LaidLaws
import Derived.Lay
import Derived.Test.YthaibekbefndlaaGreatDoorG00
import Derived.Test.YthaibekbefndlaaGreatDoorG09
import Derived.Test.YthaibekbefndlaaGreatDoorG03
import Derived.Test.YthaibekbefndlaaGreatDoorG01
import Derived.Laws.Concat

namespace Go.Proofs.YthaibekbefndlaaGreatDoor.L
open Go.ChangeShapes Go.WideShapes Go.ChangeAt Go.RowKit

theorem own : ownKnob Tryz.prog.godebug = none := by kernel_rfl
theorem laidOut : laidOutB Tryz.prog = true := by kernel_rfl
theorem gTab : Tryz.prog.globalNamed "math/bits.deBruijn64tab" = some 10 := by kernel_rfl
theorem gTabType : (Tryz.prog.globals[10]?).map (·.type) = some 277 := by kernel_rfl
theorem cellsTab : Tryz.prog.cellsOf 277 = 64 := by kernel_rfl
theorem cells5 : Tryz.prog.cellsOf 5 = 1 := by kernel_rfl
theorem gErr : Tryz.prog.globalNamed "strconv.ErrSyntax" = some 5 := by kernel_rfl
theorem gErrType : (Tryz.prog.globals[5]?).map (·.type) = some 179 := by kernel_rfl
theorem cellsErr : Tryz.prog.cellsOf 264 = 1 := by kernel_rfl
theorem cellsStr : Tryz.prog.cellsOf 9 = 1 := by kernel_rfl
theorem star : "*" ++ "errors.errorString" = "*errors.errorString" := by decide
theorem rowErr (u : TypeId) (h : Tryz.prog.typeName? 3 u = some "*errors.errorString") : u = 262 :=
  typeName_ptr_named (nm := "errors.errorString") (by rw [star]; kernel_rfl) (by kernel_rfl) (by decide) u (by rw [star]; exact h)
theorem gSig : Tryz.prog.globalNamed "redactor/lex.signs" = some 0 := by kernel_rfl
theorem gSigType : (Tryz.prog.globals[0]?).map (·.type) = some 158 := by kernel_rfl
theorem cellsSig : Tryz.prog.cellsOf 158 = 5 := by kernel_rfl
theorem table {W : World} (h0 : laidMetH Tryz.prog [("math/bits.deBruijn32tab", Rows.laid_math_bits_deBruijn32tab), ("math/bits.deBruijn64tab", Rows.laid_math_bits_deBruijn64tab), ("internal/strconv.uint64pow10", Rows.laid_internal_strconv_uint64pow10), ("unicode/utf8.acceptRanges", Rows.laid_unicode_utf8_acceptRanges), ("strconv.ErrRange", Rows.laid_strconv_ErrRange), ("strconv.ErrSyntax", Rows.laid_strconv_ErrSyntax), ("bytes.ErrTooLarge", Rows.laid_bytes_ErrTooLarge), ("redactor/lex.signs", Rows.laid_redactor_lex_signs), ("unicode.CaseRanges", Rows.laid_unicode_CaseRanges), ("unicode/utf8.first", Rows.laid_unicode_utf8_first)] W) : W.cell? ⟨10, 15, none⟩ = some (.int .u8 4) := by
  have h : laidMet Tryz.prog [("math/bits.deBruijn32tab", Rows.laid_math_bits_deBruijn32tab), ("math/bits.deBruijn64tab", Rows.laid_math_bits_deBruijn64tab), ("internal/strconv.uint64pow10", Rows.laid_internal_strconv_uint64pow10), ("unicode/utf8.acceptRanges", Rows.laid_unicode_utf8_acceptRanges), ("strconv.ErrRange", Rows.laid_strconv_ErrRange), ("strconv.ErrSyntax", Rows.laid_strconv_ErrSyntax), ("bytes.ErrTooLarge", Rows.laid_bytes_ErrTooLarge), ("redactor/lex.signs", Rows.laid_redactor_lex_signs), ("unicode.CaseRanges", Rows.laid_unicode_CaseRanges), ("unicode/utf8.first", Rows.laid_unicode_utf8_first)] W := h0
  have ht : Lib.TabIs Tryz.prog W "math/bits.deBruijn64tab" .u8 [0, 1, 56, 2, 57, 49, 28, 3, 61, 58, 42, 50, 38, 29, 17, 4, 62, 47, 59, 36, 45, 43, 51, 22, 53, 39, 33, 30, 24, 18, 12, 5, 63, 55, 48, 27, 60, 41, 37, 16, 46, 35, 44, 21, 52, 32, 23, 11, 54, 26, 40, 15, 34, 20, 31, 10, 25, 14, 19, 9, 13, 8, 7, 6] :=
    Lib.tabIs_of_head gTab gTabType Tryz.underlying277 Tryz.underlying5 cells5 cellsTab (laidMet.tail h)
  exact ht.cell gTab 15 (by decide)
theorem sentinel {W : World} (h0 : laidMetH Tryz.prog [("math/bits.deBruijn32tab", Rows.laid_math_bits_deBruijn32tab), ("math/bits.deBruijn64tab", Rows.laid_math_bits_deBruijn64tab), ("internal/strconv.uint64pow10", Rows.laid_internal_strconv_uint64pow10), ("unicode/utf8.acceptRanges", Rows.laid_unicode_utf8_acceptRanges), ("strconv.ErrRange", Rows.laid_strconv_ErrRange), ("strconv.ErrSyntax", Rows.laid_strconv_ErrSyntax), ("bytes.ErrTooLarge", Rows.laid_bytes_ErrTooLarge), ("redactor/lex.signs", Rows.laid_redactor_lex_signs), ("unicode.CaseRanges", Rows.laid_unicode_CaseRanges), ("unicode/utf8.first", Rows.laid_unicode_utf8_first)] W) : ∃ ev, W.cell? ⟨5, 0, none⟩ = some ev ∧ (ev = .nilIface ∨ ∃ te pe, ev = .iface te pe) := by
  have h : laidMet Tryz.prog [("math/bits.deBruijn32tab", Rows.laid_math_bits_deBruijn32tab), ("math/bits.deBruijn64tab", Rows.laid_math_bits_deBruijn64tab), ("internal/strconv.uint64pow10", Rows.laid_internal_strconv_uint64pow10), ("unicode/utf8.acceptRanges", Rows.laid_unicode_utf8_acceptRanges), ("strconv.ErrRange", Rows.laid_strconv_ErrRange), ("strconv.ErrSyntax", Rows.laid_strconv_ErrSyntax), ("bytes.ErrTooLarge", Rows.laid_bytes_ErrTooLarge), ("redactor/lex.signs", Rows.laid_redactor_lex_signs), ("unicode.CaseRanges", Rows.laid_unicode_CaseRanges), ("unicode/utf8.first", Rows.laid_unicode_utf8_first)] W := h0
  obtain ⟨a, s, hv, _, _, _⟩ := laid_sentinel (laidMet.tail (laidMet.tail (laidMet.tail (laidMet.tail (laidMet.tail h))))) gErr gErrType Tryz.underlying179 rowErr Tryz.underlying262 Tryz.underlying264 rfl rfl Tryz.underlying9 cellsErr cellsStr
  exact ⟨_, by simpa using World.var?_cell gErr hv 0, .inr ⟨_, _, rfl⟩⟩
theorem signs {W : World} (h0 : laidMetH Tryz.prog [("math/bits.deBruijn32tab", Rows.laid_math_bits_deBruijn32tab), ("math/bits.deBruijn64tab", Rows.laid_math_bits_deBruijn64tab), ("internal/strconv.uint64pow10", Rows.laid_internal_strconv_uint64pow10), ("unicode/utf8.acceptRanges", Rows.laid_unicode_utf8_acceptRanges), ("strconv.ErrRange", Rows.laid_strconv_ErrRange), ("strconv.ErrSyntax", Rows.laid_strconv_ErrSyntax), ("bytes.ErrTooLarge", Rows.laid_bytes_ErrTooLarge), ("redactor/lex.signs", Rows.laid_redactor_lex_signs), ("unicode.CaseRanges", Rows.laid_unicode_CaseRanges), ("unicode/utf8.first", Rows.laid_unicode_utf8_first)] W) : ∃ t f, W.heap[(0 : Nat)]? = some (.cells #[.string ⟨#[59]⟩, .string ⟨#[44]⟩, .string ⟨#[40]⟩, .string ⟨#[41]⟩, .string ⟨#[46, 46, 46]⟩] t f) := by
  have h : laidMet Tryz.prog [("math/bits.deBruijn32tab", Rows.laid_math_bits_deBruijn32tab), ("math/bits.deBruijn64tab", Rows.laid_math_bits_deBruijn64tab), ("internal/strconv.uint64pow10", Rows.laid_internal_strconv_uint64pow10), ("unicode/utf8.acceptRanges", Rows.laid_unicode_utf8_acceptRanges), ("strconv.ErrRange", Rows.laid_strconv_ErrRange), ("strconv.ErrSyntax", Rows.laid_strconv_ErrSyntax), ("bytes.ErrTooLarge", Rows.laid_bytes_ErrTooLarge), ("redactor/lex.signs", Rows.laid_redactor_lex_signs), ("unicode.CaseRanges", Rows.laid_unicode_CaseRanges), ("unicode/utf8.first", Rows.laid_unicode_utf8_first)] W := h0
  obtain ⟨g, t, cs, fuel, p, hg, hty, hvar, hd⟩ := Lib.laidMet.reads h (n := "redactor/lex.signs") (d := Rows.laid_redactor_lex_signs) (by simp)
  obtain rfl := Option.some.inj (gSig.symm.trans hg)
  obtain rfl := Option.some.inj (gSigType.symm.trans hty)
  obtain ⟨xs, m, _, ex, hlen, hl, hel⟩ := DataW.trod_array Tryz.underlying158 hd
  rw [cellsSig] at hlen
  have ed : (DataW.agg (xs.map (·.1)) : DataW Unit) = Rows.laid_redactor_lex_signs := (Prod.mk.inj ex).1.symm
  have one : ∀ i (hi : i < 5) (b : List UInt8), (xs.map (·.1))[i]? = some (DataW.lit (.string b)) → cs.toList[i]? = some (.string ⟨b.toArray⟩) := by
    intro i hi b hb
    have hE := hel i hi
    rw [cellsStr, Nat.mul_one, List.getElem?_eq_getElem (by omega)] at hE
    obtain ⟨s, e1, e2, _⟩ := DataW.trod_string Tryz.underlying9 hE
    rw [List.getElem?_map, List.getElem?_eq_getElem (by omega), Option.map_some, e2] at hb
    have hs : s.data.toList = b := by simpa using hb
    have h0 : ((cs.toList.drop i).take 1)[0]? = some (.string s) := by rw [e1]; rfl
    have h1 : cs.toList[i]? = some (.string s) := by simpa using h0
    rw [h1, ← hs]
  have ex2 : xs.map (·.1) = [.lit (.string [59]), .lit (.string [44]), .lit (.string [40]), .lit (.string [41]), .lit (.string [46, 46, 46])] := by
    have := ed
    unfold Rows.laid_redactor_lex_signs at this
    exact DataW.agg.inj this
  have hcs : cs.toList = [.string ⟨#[59]⟩, .string ⟨#[44]⟩, .string ⟨#[40]⟩, .string ⟨#[41]⟩, .string ⟨#[46, 46, 46]⟩] := by
    apply List.ext_getElem?
    intro i
    rcases (by omega : i = 0 ∨ i = 1 ∨ i = 2 ∨ i = 3 ∨ i = 4 ∨ 5 ≤ i) with rfl | rfl | rfl | rfl | rfl | h5
    · exact one 0 (by omega) [59] (by rw [ex2]; rfl)
    · exact one 1 (by omega) [44] (by rw [ex2]; rfl)
    · exact one 2 (by omega) [40] (by rw [ex2]; rfl)
    · exact one 3 (by omega) [41] (by rw [ex2]; rfl)
    · exact one 4 (by omega) [46, 46, 46] (by rw [ex2]; rfl)
    · rw [List.getElem?_eq_none (by omega), List.getElem?_eq_none (by simpa using h5)]
  have hv2 := hvar
  unfold World.var? at hv2
  rw [hg] at hv2
  simp only [Option.bind_some] at hv2
  cases hh : W.heap[(0 : Nat)]? with
  | none => rw [hh] at hv2; cases hv2
  | some o =>
    cases o with
    | cells c t f =>
      rw [hh] at hv2
      simp only [Option.some.injEq] at hv2
      subst hv2
      refine ⟨t, f, ?_⟩
      congr 2
      exact Array.toList_inj.1 hcs
    | _ => rw [hh] at hv2; cases hv2
theorem nF : Tryz.prog.globalNamed "unicode/utf8.first" = some 3 := by kernel_rfl
theorem nA : Tryz.prog.globalNamed "unicode/utf8.acceptRanges" = some 4 := by kernel_rfl
theorem yF : (Tryz.prog.globals[3]?).map (·.type) = some 237 := by kernel_rfl
theorem yA : (Tryz.prog.globals[4]?).map (·.type) = some 240 := by kernel_rfl
theorem c5 : Tryz.prog.cellsOf 5 = 1 := by kernel_rfl
theorem c256 : Tryz.prog.cellsOf 237 = 256 := by kernel_rfl
theorem c2 : Tryz.prog.cellsOf 239 = 2 := by kernel_rfl
theorem dF : (Rows.laid_unicode_utf8_first : DataW Unit) = Lib.firstData := by kernel_rfl
theorem dA : (Rows.laid_unicode_utf8_acceptRanges : DataW Unit) = Lib.acceptData := by kernel_rfl
theorem tables {W : World} (h0 : laidMetH Tryz.prog [("math/bits.deBruijn32tab", Rows.laid_math_bits_deBruijn32tab), ("math/bits.deBruijn64tab", Rows.laid_math_bits_deBruijn64tab), ("internal/strconv.uint64pow10", Rows.laid_internal_strconv_uint64pow10), ("unicode/utf8.acceptRanges", Rows.laid_unicode_utf8_acceptRanges), ("strconv.ErrRange", Rows.laid_strconv_ErrRange), ("strconv.ErrSyntax", Rows.laid_strconv_ErrSyntax), ("bytes.ErrTooLarge", Rows.laid_bytes_ErrTooLarge), ("redactor/lex.signs", Rows.laid_redactor_lex_signs), ("unicode.CaseRanges", Rows.laid_unicode_CaseRanges), ("unicode/utf8.first", Rows.laid_unicode_utf8_first)] W) : Lib.Utf8Tabs 3 4 W := by
  have h : laidMet Tryz.prog [("math/bits.deBruijn32tab", Rows.laid_math_bits_deBruijn32tab), ("math/bits.deBruijn64tab", Rows.laid_math_bits_deBruijn64tab), ("internal/strconv.uint64pow10", Rows.laid_internal_strconv_uint64pow10), ("unicode/utf8.acceptRanges", Rows.laid_unicode_utf8_acceptRanges), ("strconv.ErrRange", Rows.laid_strconv_ErrRange), ("strconv.ErrSyntax", Rows.laid_strconv_ErrSyntax), ("bytes.ErrTooLarge", Rows.laid_bytes_ErrTooLarge), ("redactor/lex.signs", Rows.laid_redactor_lex_signs), ("unicode.CaseRanges", Rows.laid_unicode_CaseRanges), ("unicode/utf8.first", Rows.laid_unicode_utf8_first)] W := h0
  have h3 : Lib.VarReads Tryz.prog W "unicode/utf8.first" Lib.firstData := by
    have := Lib.laidMet.reads h (n := "unicode/utf8.first") (d := Rows.laid_unicode_utf8_first) (by simp)
    rwa [dF] at this
  have h4 : Lib.VarReads Tryz.prog W "unicode/utf8.acceptRanges" Lib.acceptData := by
    have := Lib.laidMet.reads h (n := "unicode/utf8.acceptRanges") (d := Rows.laid_unicode_utf8_acceptRanges) (by simp)
    rwa [dA] at this
  refine ⟨fun c hc => ?_, fun i hi => ?_⟩
  · obtain ⟨g, t, cs, fuel, p, hg, hty, hvar, hd⟩ := h3
    obtain rfl := Option.some.inj (nF.symm.trans hg)
    obtain rfl := Option.some.inj (yF.symm.trans hty)
    have hcs := Lib.cells_of_tab Tryz.underlying237 Tryz.underlying5 c5 c256 hd
    rw [World.var?_cell hg hvar c, ← Array.getElem?_toList, hcs]
    simp [Lib.firstTab, hc]
  · obtain ⟨g, t, cs, fuel, p, hg, hty, hvar, hd⟩ := h4
    obtain rfl := Option.some.inj (nA.symm.trans hg)
    obtain rfl := Option.some.inj (yA.symm.trans hty)
    obtain ⟨fuel', d, q, hdi, he⟩ := Lib.array_elem Tryz.underlying240 hd i hi
    simp only [List.getElem?_map, List.getElem?_range hi, Option.map_some, Option.some.injEq] at hdi
    subst hdi
    rw [c2] at he
    have hcs := Lib.ints_of_struct Tryz.underlying239 (fun j f hj => by
      match j, hj with
      | 0, hj => simp at hj; subst hj; exact ⟨Tryz.underlying5, rfl, c5⟩
      | 1, hj => simp at hj; subst hj; exact ⟨Tryz.underlying5, rfl, c5⟩
      | j + 2, hj => simp at hj) (by rw [c2]; rfl) he
    have e0 := congrArg (·[0]?) hcs
    have e1 := congrArg (·[1]?) hcs
    simp only [List.getElem?_take, List.getElem?_drop] at e0 e1
    constructor
    · rw [World.var?_cell hg hvar (2 * i), ← Array.getElem?_toList]
      simpa [Nat.mul_comm] using e0
    · rw [World.var?_cell hg hvar (2 * i + 1), ← Array.getElem?_toList]
      simpa [Nat.mul_comm] using e1

theorem gl0 {W : World} (h0 : laidMetH Tryz.prog [("math/bits.deBruijn32tab", Rows.laid_math_bits_deBruijn32tab), ("math/bits.deBruijn64tab", Rows.laid_math_bits_deBruijn64tab), ("internal/strconv.uint64pow10", Rows.laid_internal_strconv_uint64pow10), ("unicode/utf8.acceptRanges", Rows.laid_unicode_utf8_acceptRanges), ("strconv.ErrRange", Rows.laid_strconv_ErrRange), ("strconv.ErrSyntax", Rows.laid_strconv_ErrSyntax), ("bytes.ErrTooLarge", Rows.laid_bytes_ErrTooLarge), ("redactor/lex.signs", Rows.laid_redactor_lex_signs), ("unicode.CaseRanges", Rows.laid_unicode_CaseRanges), ("unicode/utf8.first", Rows.laid_unicode_utf8_first)] W) : C.Gl W := ⟨sentinel h0, table h0, signs h0⟩
theorem gl {W : World} (h0 : laidMetH Tryz.prog [("math/bits.deBruijn32tab", Rows.laid_math_bits_deBruijn32tab), ("math/bits.deBruijn64tab", Rows.laid_math_bits_deBruijn64tab), ("internal/strconv.uint64pow10", Rows.laid_internal_strconv_uint64pow10), ("unicode/utf8.acceptRanges", Rows.laid_unicode_utf8_acceptRanges), ("strconv.ErrRange", Rows.laid_strconv_ErrRange), ("strconv.ErrSyntax", Rows.laid_strconv_ErrSyntax), ("bytes.ErrTooLarge", Rows.laid_bytes_ErrTooLarge), ("redactor/lex.signs", Rows.laid_redactor_lex_signs), ("unicode.CaseRanges", Rows.laid_unicode_CaseRanges), ("unicode/utf8.first", Rows.laid_unicode_utf8_first)] W) : C.Gm W := ⟨gl0 h0, tables h0⟩

/-- A world for the witness: the settled one, the listed variables holding what their initialisers lay. -/
noncomputable def laidWorld (os : Os) : World := World.laidAll Tryz.prog os [("math/bits.deBruijn32tab", Rows.laid_math_bits_deBruijn32tab), ("math/bits.deBruijn64tab", Rows.laid_math_bits_deBruijn64tab), ("internal/strconv.uint64pow10", Rows.laid_internal_strconv_uint64pow10), ("unicode/utf8.acceptRanges", Rows.laid_unicode_utf8_acceptRanges), ("strconv.ErrRange", Rows.laid_strconv_ErrRange), ("strconv.ErrSyntax", Rows.laid_strconv_ErrSyntax), ("bytes.ErrTooLarge", Rows.laid_bytes_ErrTooLarge), ("redactor/lex.signs", Rows.laid_redactor_lex_signs), ("unicode.CaseRanges", Rows.laid_unicode_CaseRanges), ("unicode/utf8.first", Rows.laid_unicode_utf8_first)]
theorem laid_met (os : Os) (args : Array Value) : laidMet Tryz.prog [("math/bits.deBruijn32tab", Rows.laid_math_bits_deBruijn32tab), ("math/bits.deBruijn64tab", Rows.laid_math_bits_deBruijn64tab), ("internal/strconv.uint64pow10", Rows.laid_internal_strconv_uint64pow10), ("unicode/utf8.acceptRanges", Rows.laid_unicode_utf8_acceptRanges), ("strconv.ErrRange", Rows.laid_strconv_ErrRange), ("strconv.ErrSyntax", Rows.laid_strconv_ErrSyntax), ("bytes.ErrTooLarge", Rows.laid_bytes_ErrTooLarge), ("redactor/lex.signs", Rows.laid_redactor_lex_signs), ("unicode.CaseRanges", Rows.laid_unicode_CaseRanges), ("unicode/utf8.first", Rows.laid_unicode_utf8_first)] ((laidWorld os).forCall (fun _ _ => 0) ⟨#[], args, []⟩).memory :=
  laidMet_laidAll _ (by kernel_rfl) (by kernel_rfl)
/-- a witness, its shape shown in one pass -/
theorem witness {H : Type} {enc : TypeId × Value → H} {C : Checked} {os : Os} {f : FuncId} {fn : Func} {s : OpenSpec} {conds : List PathCond} {apart : Bool} {laid : List (String × DataW Unit)} (modest : Bool) (w0 : World) (args : Array Value) (hos : w0.os = os)
    (hsh : (w0.forCall (fun _ _ => 0) ⟨#[], args, []⟩).Shaped C.prog)
    (hok : Input.okWideB C.prog (w0.forCall (fun _ _ => 0) ⟨#[], args, []⟩) f ⟨#[], args, []⟩ = true)
    (hrow : s.preRow enc C.prog fn conds apart laid (w0.forCall (fun _ _ => 0) ⟨#[], args, []⟩).memory args) :
    ∃ (w : World) (tape : Tape) (i : Input), w.os = os ∧ (w.forCall tape i).Shaped C.prog ∧ i.vars = [] ∧ Input.okWide C.prog (w.forCall tape i) .any w.heap.size f i ∧
      s.preRow enc C.prog fn conds apart laid (w.forCall tape i).memory i.args ∧ ({ modest := modest } : Assume).holds C.prog (lone (Frame.enter C.prog f i.args .normal) [] (w.forCall tape i)) :=
  ⟨w0, fun _ _ => 0, ⟨#[], args, []⟩, hos, hsh, (Input.okWide_of_okWideB (base := 0) hok).1, (Input.okWide_of_okWideB hok).2, hrow, by
    simp only [Assume.holds]
    exact ⟨by simp, by simp, fun _ => Modest.zero, by simp, by simp⟩⟩

/-- what a slice of integers that came in is: nil, or a row of 'cap' cells -/
def IsRow (k : IntKind) (w : World) (a : Option Addr) (len cap : Nat) (zs : List Int) : Prop :=
  (a = none ∧ len = 0 ∧ cap = 0 ∧ zs = []) ∨
  ∃ x, a = some x ∧ len ≤ cap ∧ cap ≤ maxLen ∧ zs.length = cap ∧ (∀ i, i < zs.length → w.cell? (x.add i) = some (.int k (zs.getD i 0))) ∧ ∀ n ∈ zs, (Lit.int k n).wf = true
end Go.Proofs.YthaibekbefndlaaGreatDoor.L

namespace Go.Proofs.YthaibekbefndlaaGreatDoor.C
open Go.RowKit


/-- a slice that came in reads as a list -/
theorem RI.of_row {ki : IntKind} {w : World} {a : Option Addr} {len cap : Nat} {zs : List Int} (h : L.IsRow ki w a len cap zs) : RI ki w w.heap.size a len (zs.take len) := by
  rcases h with ⟨rfl, rfl, rfl, rfl⟩ | ⟨x, rfl, hl, hm, hz, hc, _⟩
  · exact ⟨by simp, fun h => absurd h (by omega)⟩
  · refine ⟨by simp; omega, fun hn => ⟨x, rfl, ?_, fun j u hu => ?_⟩⟩
    · have := World.block_lt_of_cell? w _ (hc 0 (by omega))
      rwa [block_of_add] at this
    · rw [List.getElem?_take] at hu
      split at hu
      · have hj : j < zs.length := (List.getElem?_eq_some_iff.1 hu).1
        rw [hc j hj]
        simp [hu]
      · cases hu
theorem row_len {ki : IntKind} {w : World} {a : Option Addr} {len cap : Nat} {zs : List Int} (h : L.IsRow ki w a len cap zs) : len ≤ cap ∧ cap ≤ maxLen := by
  rcases h with ⟨rfl, rfl, rfl, rfl⟩ | ⟨x, rfl, hl, hm, hz, hc, _⟩
  · exact ⟨Nat.le_refl _, Nat.zero_le _⟩
  · exact ⟨hl, hm⟩
theorem row_u8 {w : World} {a : Option Addr} {len cap : Nat} {zs : List Int} (h : L.IsRow .u8 w a len cap zs) : ∀ z ∈ zs.take len, 0 ≤ z ∧ z ≤ 255 := by
  rcases h with ⟨rfl, rfl, rfl, rfl⟩ | ⟨x, rfl, hl, hm, hz, hc, hw⟩
  · intro z hz; simp at hz
  · intro z hz
    exact bounds_u8 (hw z (List.mem_of_mem_take hz))

section
variable {P : Program} (w : World)
theorem run_append_of_nil (base : Nat) (t ty e : TypeId) (i : TypeInfo) (size : Nat) (ht : P.underlying t = some (.slice e)) (hi : P.info? e = some i)
    (v : Value) (n : Nat) (xs : List Value) (hown : w.ownsRow base e size v n xs) (c : Nat) : (Builtin.append_ #[t, t] ty #[v, .slice none 0 c]).run P w = .ok v w := by
  rcases hown.2 with ⟨rfl, rfl⟩ | ⟨g, cap, cur, rfl, _, _, hnc, _⟩
  · simp [Builtin.append_, run_underlying ht, sizeOf, typeInfo, hi, Builtin.lenOf, Builtin.firstCells]
  · simp [Builtin.append_, run_underlying ht, sizeOf, typeInfo, hi, Builtin.lenOf, Builtin.firstCells, hnc, storeCells]

theorem run_append_ri (base : Nat) (t ty e : TypeId) (i : TypeInfo) (z : Value) (bytes : Nat) (ht : P.underlying t = some (.slice e)) (hi : P.info? e = some i) (hz : i.zero = some z)
    (hsize : i.size = 1) (hby : i.bytes = bytes) (hzs : z.cells.size = 1)
    (v : Value) (n : Nat) (xs : List Value) (hown : w.ownsRow base e 1 v n xs) (ki : IntKind)
    (B : Nat) (A : Option Addr) (m c : Nat) (zs : List Int) (hr : RI ki w B A m zs)
    (h63 : n + m ≤ maxLen) (hbytes : (n + m) * bytes ≤ 140737488355328) (hbase : base ≤ w.heap.size) :
    ∃ v' w', (Builtin.append_ #[t, t] ty #[v, .slice A m c]).run P w = .ok v' w' ∧ w'.ownsRow base e 1 v' (n + m) (xs ++ zs.map (Value.int ki)) ∧ w.grownBy w' v.ownBlock := by
  rcases A with _ | ad
  · have hm : m = 0 := by
      rcases Nat.eq_zero_or_pos m with h0 | h0
      · exact h0
      · obtain ⟨ad, h, _⟩ := hr.2 h0
        cases h
    subst hm
    have hn : zs = [] := List.eq_nil_of_length_eq_zero hr.1
    subst hn
    exact ⟨v, w, run_append_of_nil w base t ty e i 1 ht hi v n xs hown c, by simpa using hown, World.grownBy.refl w _⟩
  · have hcells : ∀ j u, (zs.map (Value.int ki))[j]? = some u → w.cell? (ad.add j) = some u := by
      intro j u hu
      rw [List.getElem?_map] at hu
      obtain ⟨y, hy, rfl⟩ := Option.map_eq_some_iff.1 hu
      rcases Nat.eq_zero_or_pos m with h0 | h0
      · subst h0
        have hn : zs = [] := List.eq_nil_of_length_eq_zero hr.1
        subst hn
        simp at hy
      · obtain ⟨ad', h, _, hc⟩ := hr.2 h0
        injection h with h
        subst h
        exact hc j y hy
    obtain ⟨v', w', hrun, h2, h3, _⟩ := run_append_own_at (P := P) w base t ty e i z 1 bytes ht hi hz hsize hby hzs (by decide) v n xs hown ad m c (zs.map (Value.int ki)) (by simp [hr.1]) hcells (ints_oneCell ki zs) h63 hbytes hbase
    exact ⟨v', w', hrun, h2, h3⟩

theorem wpList_append_ri {ops : Array Oper} {rest : List Oper} {o : Oper} {a : Act} {Q : Exit → Act → World → Prop} (hgd : o.guard = none) (s x : Operand) (t : TypeId)
    (ho : o.op = .call { callee := .builtin .append, args := #[s, x], argTypes := #[t, t] })
    (base : Nat) (e : TypeId) (i : TypeInfo) (z : Value) (bytes : Nat) (ht : P.underlying t = some (.slice e)) (hi : P.info? e = some i) (hz : i.zero = some z)
    (hsize : i.size = 1) (hby : i.bytes = bytes) (hzs : z.cells.size = 1)
    (v : Value) (n : Nat) (xs : List Value) (hs : a.eval s = v) (hown : w.ownsRow base e 1 v n xs) (ki : IntKind)
    (B : Nat) (A : Option Addr) (m c : Nat) (zs : List Int) (hx : a.eval x = .slice A m c) (hr : RI ki w B A m zs)
    (h63 : n + m ≤ maxLen) (hbytes : (n + m) * bytes ≤ 140737488355328) (hbase : base ≤ w.heap.size)
    (h : ∀ v' w', w'.ownsRow base e 1 v' (n + m) (xs ++ zs.map (Value.int ki)) → w.grownBy w' v.ownBlock → wpList P ops Q rest (a.put o.dst v') w') : wpList P ops Q (o :: rest) a w := by
  refine wpList_plain hgd fun K hK => ?_
  obtain ⟨v', w', hr, h2, h3⟩ := run_append_ri (P := P) w base t o.type e i z bytes ht hi hz hsize hby hzs v n xs hown ki B A m c zs hr h63 hbytes hbase
  unfold Oper.wp execOp
  simp only [ho, resolve, invoke, builtin, Sem.run_bind, Sem.run_pure, Result.andThen_ok, List.map_toArray, List.map_cons, List.map_nil, hs, hx, hr]
  exact hK _ _ (h v' w' h2 h3)
end

/-- an owned row is a slice's value -/
theorem own_slice {w : World} {base : Nat} {e : TypeId} {ki : IntKind} {v : Value} {n : Nat} {zs : List Int} (h : w.ownsRow base e 1 v n (zs.map (Value.int ki))) : ∃ A c, v = .slice A n c ∧ n ≤ c ∧ RI ki w w.heap.size A n zs := by
  rcases h.2 with ⟨rfl, rfl⟩ | ⟨g, c, cur, rfl, _, _, hc, _⟩
  · have hz : zs = [] := List.eq_nil_of_length_eq_zero (by have := h.1; simpa using this)
    subst hz
    exact ⟨none, 0, rfl, Nat.le_refl _, RI.none_⟩
  · exact ⟨_, c, rfl, hc, RI.of_own h⟩
end Go.Proofs.YthaibekbefndlaaGreatDoor.C

namespace Go.Proofs.YthaibekbefndlaaGreatDoor.C
open Go.RowKit
open Go.Lib (decodeN)

theorem RI.flat {ki : IntKind} {w : World} {B n : Nat} {A : Option Addr} {zs : List Int} (h : RI ki w B A n zs) (hn : 0 < n) :
    ∃ b off, A = some ⟨b, off, none⟩ ∧ b < B ∧ ∀ j u, zs[j]? = some u → w.cell? ⟨b, off + j, none⟩ = some (.int ki u) := by
  obtain ⟨ad, u, rfl, hb, _, hc⟩ := h.at_ hn
  obtain ⟨ad', e, _, hcell⟩ := h.2 hn
  injection e with e
  subst e
  obtain ⟨b, off, sp⟩ := ad
  have hsp : sp = none := by
    have e0 : (⟨b, off, sp⟩ : Addr).add 0 = ⟨b, off, sp⟩ := by simp [Addr.add]
    rw [e0] at hc
    exact cell_spot hc
  subst hsp
  exact ⟨b, off, rfl, hb, fun j u hu => by rw [← add_plain]; exact hcell j u hu⟩
theorem sb_get {zs : List Int} (h : Bd zs) (j : Nat) (hj : j < zs.length) : (((sb zs).get! j).toNat : Int) = zs[j] := by
  have e := gb_sb h j
  have hb := h zs[j] (List.getElem_mem hj)
  unfold gb nb at e
  rw [e]
  simp [List.getD_eq_getElem?_getD, List.getElem?_eq_getElem hj]
  omega

set_option maxHeartbeats 400000 in
theorem runeCount_zero (w : World) (A : Option Addr) (c : Nat) :
    Calls Tryz.prog 206 #[.slice A 0 c] w fun e w' => e = .returned (.int .i64 0) ∧ w = w' := by
  go_enter Tryz.func206, Tryz.ntmps206
  go_wp2
  go_loop [4] (fun i => i = .int .i64 0) (fun _ => 0)
  case atStart => rfl
  case round =>
    subst hrel
    go_wp2
    go_ret
    exact ⟨rfl, rfl⟩
theorem runeCount_ri (w : World) (B : Nat) (A : Option Addr) (n c : Nat) (zs : List Int) (hx : RI .u8 w B A n zs) (hz : Bd zs) (hnc : n ≤ c) (hn : n ≤ 1099511627776) :
    Calls Tryz.prog 206 #[.slice A n c] w fun e w' => ∃ k : Nat, k ≤ n ∧ e = .returned (.int .i64 k) ∧ Below w.heap.size w w' := by
  rcases Nat.eq_zero_or_pos n with h0 | h0
  · subst h0
    refine (runeCount_zero w A c).mono ?_
    rintro e w' ⟨rfl, rfl⟩
    exact ⟨0, Nat.le_refl _, rfl, Below.refl _ _⟩
  · obtain ⟨b, off, rfl, _, hc⟩ := hx.flat h0
    have hl : (sb zs).size = n := by rw [sb_size]; exact hx.len
    have := Any7.utf8_RuneCount Tryz.lays31 (sb zs) b off c w (by omega) (fun j hj => by
      have hj' : j < zs.length := by rw [sb_size] at hj; exact hj
      rw [hc j zs[j] (List.getElem?_eq_getElem hj'), sb_get hz j hj']) (by omega)
    rw [hl] at this
    refine this.mono ?_
    rintro e w' ⟨rfl, hw⟩
    have hle := Lib.runeCount_le (sb zs)
    refine ⟨Lib.runeCount (sb zs), by omega, rfl, ?_⟩
    rcases hw with rfl | ⟨t, pos, rfl⟩
    · exact Below.refl _ _
    · exact (Below.refl _ _).alloc (Nat.le_refl _) _
theorem decodeRune_ri (w : World) (B : Nat) (A : Option Addr) (n c : Nat) (zs : List Int) (hx : RI .u8 w B A n zs) (hz : Bd zs) (h0 : 0 < n) (hT : Lib.Utf8Tabs 3 4 w) (R K : Nat) (hd : Utf8.decode (sb zs) 0 = (R, K)) :
    Calls Tryz.prog 207 #[.slice A n c] w fun e w' => e = .returned (.tuple #[.int .i32 (R : Int), .int .i64 (K : Int)]) ∧ Below w.heap.size w w' := by
  obtain ⟨b, off, rfl, _, hc⟩ := hx.flat h0
  have hl : (sb zs).size = n := by rw [sb_size]; exact hx.len
  have := Any7.utf8_DecodeRune Tryz.lays32 (sb zs) b off c w hT (fun j hj => by
    have hj' : j < zs.length := by rw [sb_size] at hj; exact hj
    rw [hc j zs[j] (List.getElem?_eq_getElem hj'), sb_get hz j hj'])
  rw [hl] at this
  have e : Lib.decodeGo (sb zs) = (R, K) := by unfold Lib.decodeGo; rw [if_neg (by omega), hd]
  rw [e] at this
  exact this

set_option maxHeartbeats 400000 in
theorem cellOf_bad (b : Int) (w : World) (h0 : 0 ≤ b) (h1 : b ≤ 255) :
    Calls Tryz.prog 208 #[.int .i32 65533, .int .i64 1, .int .u8 b] w fun e w' => e = .returned (.int .i32 (-1 - b)) ∧ w = w' := by
  go_enter Tryz.func208, Tryz.ntmps208
  go_wp2_with (go_at_call 172; refine (escape_any _ _ h0 h1).mono ?_; rintro e w' ⟨rfl, rfl⟩)
  go_ret
  exact ⟨rfl, rfl⟩
set_option maxHeartbeats 400000 in
theorem cellOf_good (r k : Nat) (b : Int) (w : World) (h : ¬ (r, k) = (65533, 1)) :
    Calls Tryz.prog 208 #[.int .i32 (r : Int), .int .i64 (k : Int), .int .u8 b] w fun e w' => e = .returned (.int .i32 (r : Int)) ∧ w = w' := by
  by_cases hr : r = 65533
  · have hk : ¬ k = 1 := fun e => h (by rw [hr, e])
    have t1 : ((r : Int) == 65533) = true := by simp; omega
    have t2 : ((k : Int) == 1) = false := by simp; omega
    clear h hr hk
    go_enter Tryz.func208, Tryz.ntmps208
    go_wp2
    all_goals go_ret
    all_goals exact ⟨rfl, rfl⟩
  · have t1 : ((r : Int) == 65533) = false := by simp; omega
    clear h hr
    go_enter Tryz.func208, Tryz.ntmps208
    go_wp2
    all_goals go_ret
    all_goals exact ⟨rfl, rfl⟩
/-- the cell of what the decoder answers -/
def cellZ (r k : Nat) (b : Int) : Int := if (r, k) = (65533, 1) then -1 - b else (r : Int)
theorem cellOf_any (r k : Nat) (b : Int) (w : World) (h0 : 0 ≤ b) (h1 : b ≤ 255) :
    Calls Tryz.prog 208 #[.int .i32 (r : Int), .int .i64 (k : Int), .int .u8 b] w fun e w' => e = .returned (.int .i32 (cellZ r k b)) ∧ w = w' := by
  unfold cellZ
  split
  · rename_i h
    injection h with h2 h3
    subst h2 h3
    exact cellOf_bad b w h0 h1
  · rename_i h
    exact cellOf_good r k b w h
theorem cellZ_at {zs : List Int} (h : Bd zs) (pos : Nat) (hp : pos < zs.length) (R K : Nat) (hd : Utf8.decode (sb zs) pos = (R, K)) : cellZ R K zs[pos] = cellAt (sb zs) pos := by
  rw [cellAt_sb h pos hp]
  rw [decode_sb h] at hd
  unfold cellZ cellN
  rw [hd]
  have hb := h zs[pos] (List.getElem_mem hp)
  have e : (nb zs pos : Int) = zs[pos] := by
    unfold nb
    simp [List.getD_eq_getElem?_getD, List.getElem?_eq_getElem hp]
    omega
  rw [e]
theorem decode_drop {zs : List Int} (h : Bd zs) (pos : Nat) : Utf8.decode (sb (zs.drop pos)) 0 = Utf8.decode (sb zs) pos := by
  rw [decode_sb (bd_drop h pos), decode_sb h]
  simp only [nb_drop, Nat.add_zero, List.length_drop, Nat.sub_zero, Nat.zero_add]
theorem tabs_below {w w' : World} (h : Lib.Utf8Tabs 3 4 w) (hb : Below w.heap.size w w') : Lib.Utf8Tabs 3 4 w' := Utf8Tabs_below h hb

/-- how long a slice is -/
def lenV : Value → Nat
  | .slice _ n _ => n
  | _ => 0

set_option maxHeartbeats 2000000 in
theorem decode_any (w : World) (B : Nat) (A : Option Addr) (n c : Nat) (zs : List Int) (hx : RI .u8 w B A n zs) (hB : B ≤ w.heap.size) (hz : Bd zs) (hnc : n ≤ c) (hn : n ≤ 1099511627776) (hc : c ≤ maxLen) (hT : Lib.Utf8Tabs 3 4 w) :
    Calls Tryz.prog 192 #[.slice A n c] w fun e w' => ∃ v, e = .returned v ∧ w'.ownsRow w.heap.size 35 1 v (ofL (sb zs)).length ((ofL (sb zs)).map (Value.int .i32)) ∧ Below w.heap.size w w' := by
  unfold maxLen at hc
  obtain ⟨i0, hi, hz0, hz1, hz2⟩ := info_parts info33
  have HL := Lib.hid hx.len
  have HX := Lib.hid hx
  have HZ := Lib.hid hz
  have HT := Lib.hid hT
  clear hx hz hT
  go_enter Tryz.func192, Tryz.ntmps192
  go_wp2_with fail
  refine (runeCount_ri w B A n c zs HX.out HZ.out hnc hn).mono ?_
  rintro e w1 ⟨rc, hrc, rfl, hb1⟩
  have hs1 := hb1.size
  go_wp2_with (at_make; (refine wpList_make_own _ rfl _ _ 32 rfl w.heap.size 35 i0 (.int .i32 0) 1 Tryz.underlying32 hi hz0 hz1 .i64 .i64 _ rc rfl rfl (by omega) (by rw [hz2]; omega) (by unfold maxLen; omega) (by omega) ?_); intro w2 hown hgrow; have hb2 : Below w.heap.size w w2 := hb1.grown hgrow (by omega) (fun _ h => by cases h); clear hgrow; have HO := Lib.hid hown; clear hown)
  go_loopw [0, 3] (fun bv v wr => ∃ (pos f m cp : Nat) (A' : Option Addr) (acc : List Int), bv = .slice A' m cp ∧ Hid (m + pos = n) ∧ m ≤ cp ∧ cp ≤ 9223372036854775807 ∧ Hid (OfSt (sb zs) acc f pos) ∧ Hid (RI .u8 w B A' m (zs.drop pos)) ∧ Hid (wr.ownsRow w.heap.size 35 1 v acc.length (acc.map (Value.int .i32))) ∧ Below w.heap.size w wr) (fun bv _ _ => lenV bv)
  case atStart => exact ⟨0, (sb zs).size, n, c, A, [], rfl, rfl, hnc, hc, ofSt_zero _, HX.out, HO.out, hb2⟩
  case round =>
    obtain ⟨pos, f, m, cp, A', acc, rfl, HM, hmc, hcp, HST, HR, HW, hbr⟩ := hrel
    have hsz := hbr.size
    by_cases hm : 0 < m
    · obtain ⟨ad, z, rfl, hbl, hzp, hcell⟩ := HR.out.at_ hm
      have hp : pos < zs.length := by have := HM.out; have := HL.out; omega
      have hzv : zs[pos] = z := by
        have := hzp
        simp at this
        obtain ⟨_, h⟩ := List.getElem?_eq_some_iff.1 this
        exact h
      have hzb := HZ.out z (by rw [← hzv]; exact List.getElem_mem hp)
      obtain ⟨f', hst'⟩ := ofSt_step HST.out (by rw [sb_size]; exact hp)
      obtain ⟨R, K, hRK⟩ : ∃ R K, Utf8.decode (sb zs) pos = (R, K) := ⟨_, _, rfl⟩
      have hK1 := Lib.decode_width_pos (sb zs) pos (by rw [sb_size]; exact hp)
      have hK2 := decodeN_le (zs.length - pos) (nb zs pos) (nb zs (pos + 1)) (nb zs (pos + 2)) (nb zs (pos + 3)) (by omega)
      rw [← decode_sb HZ.out] at hK2
      have hcv := cellZ_at HZ.out pos hp R K hRK
      rw [hzv] at hcv
      rw [← hcv] at hst'
      rw [hRK] at hK1 hK2 hst'
      have hKm : K ≤ m := by have := HM.out; have := HL.out; simp at hK2; omega
      have hK0 : 0 < K := hK1
      have HRK := Lib.hid hRK
      have HS' := Lib.hid hst'
      have had0 : ad.add 0 = ad := by simp [Addr.add]
      rw [had0] at hcell
      have hcr : wr.cell? ad = some (.int .u8 z) := (hbr.cell (p := ad) (by omega)).trans hcell
      have hrw : RI .u8 wr B (some ad) m (zs.drop pos) := HR.out.keep fun p hp => hbr.cell (p := p) (by omega)
      have HRW := Lib.hid hrw
      clear hrw hst' hcv hRK hK1 hK2 hzp hzv hcell hp had0
      go_wp2_with fail
      refine (decodeRune_ri wr B (some ad) m cp (zs.drop pos) HRW.out (bd_drop HZ.out pos) hm (tabs_below HT.out (hbr.mono (Nat.le_refl _))) R K (by rw [decode_drop HZ.out]; exact HRK.out)).mono ?_
      rintro e w3 ⟨rfl, hb3⟩
      have hs3 := hb3.size
      have HOW := Lib.hid (own_keep HW.out hb3)
      have hbW : Below w.heap.size w w3 := hbr.trans (hb3.mono hsz)
      have hcr3 : w3.cell? ad = some (.int .u8 z) := (hb3.cell (p := ad) (by omega)).trans hcr
      clear hcr
      go_wp2_with fail
      refine (cellOf_any R K z w3 hzb.1 hzb.2).mono ?_
      rintro e w' ⟨rfl, rfl⟩
      generalize cellZ R K z = cv at *
      go_wp2_with (at_builtin; (refine wpList_append_own _ rfl _ _ 32 rfl w.heap.size 35 i0 (.int .i32 0) 1 4 Tryz.underlying32 hi hz0 hz1 hz2 rfl (by decide) _ _ _ rfl (HOW.out.alloc _) _ 1 1 [.int .i32 cv] rfl rfl (cell_one_new _ _ _) (by intro u hu; simp at hu; subst hu; rfl) (by unfold maxLen; have := HST.out.2.2.1; have := HM.out; omega) (by have := HST.out.2.2.1; have := HM.out; omega) (by simp; omega) ?_); intro v' w4 hown' hgrow _; have HO4 := Lib.hid hown'; have HG4 := Lib.hid hgrow; clear hown' hgrow)
      have hcut : RI .u8 w B (if cp = K then some ad else (some ad).map (·.add K)) (m - K) (zs.drop (pos + K)) := by
        have := HR.out.cut (k := K) (m := m - K) (cap := cp) (by omega) hmc
        rw [List.drop_drop, List.take_of_length_le (by rw [List.length_drop, HL.out]; have := HM.out; omega)] at this
        exact this
      go_roundw
      case rel => exact ⟨pos + K, f', m - K, cp - K, _, acc ++ [cv], rfl, by have := HM.out; show m - K + (pos + K) = n; omega, by omega, by omega, HS'.out, hcut, by simpa [Hid] using HO4.out, ((hbW.alloc (by omega) _).grown HG4.out (by simp; omega) (fun k hk => (HOW.out.lt k hk).1))⟩
      case measure => simp [lenV]; omega
    · have hm0 : m = 0 := by omega
      subst hm0
      have hend := ofSt_end HST.out (by rw [sb_size]; have := HM.out; have := HL.out; omega)
      have HE := Lib.hid hend
      clear hend
      go_wp2
      go_ret
      refine ⟨_, rfl, ?_, hbr⟩
      rw [HE.out]
      exact HW.out
end Go.Proofs.YthaibekbefndlaaGreatDoor.C

namespace Go.Proofs.YthaibekbefndlaaGreatDoor.C
open Go.RowKit

theorem info8 : (Tryz.prog.info? 5).map (fun i => (i.zero, i.size, i.bytes)) = some (some (.int .u8 0), 1, 1) := by kernel_rfl

set_option maxHeartbeats 1000000 in
theorem appendCell_any (w : World) (B : Nat) (v : Value) (zs : List Int) (c : Int) (hr : rightB c = true) (hB : B ≤ w.heap.size) (hown : w.ownsRow B 5 1 v zs.length (zs.map (Value.int .u8))) (hlen : zs.length + 4 ≤ 140737488355328) :
    Calls Tryz.prog 142 #[v, .int .i32 c] w fun e w' => ∃ v', e = .returned v' ∧ w'.ownsRow B 5 1 v' (zs ++ encC c).length ((zs ++ encC c).map (Value.int .u8)) ∧ Below B w w' := by
  obtain ⟨i0, hi, hz0, hz1, hz2⟩ := info_parts info8
  have hb : -256 ≤ c ∧ c ≤ 1114111 := by unfold rightB at hr; simp at hr; omega
  have HO := Lib.hid hown
  clear hown hr
  by_cases hc : c < 0
  · have he : encC c = [-1 - c] := by unfold encC; rw [if_pos hc]
    have HE := Lib.hid he
    clear he
    go_enter Tryz.func142, Tryz.ntmps142
    go_wp2_with fail
    refine (byte_yes c w hb.1 hc).mono ?_
    rintro e w' ⟨rfl, rfl⟩
    go_wp2_with (at_builtin; (refine wpList_append_own _ rfl _ _ 38 rfl B 5 i0 (.int .u8 0) 1 1 Tryz.underlying38 hi hz0 hz1 hz2 rfl (by decide) _ _ _ rfl (HO.out.alloc _) _ 1 1 [.int .u8 (-1 - c)] rfl rfl (cell_one_new _ _ _) (by intro u hu; simp at hu; subst hu; rfl) (by unfold maxLen; omega) (by omega) (by simp; omega) ?_); intro v' w3 hown' hgrow _; have HO3 := Lib.hid hown'; have HG3 := Lib.hid hgrow; clear hown' hgrow)
    go_ret
    refine ⟨_, rfl, ?_, (((Below.refl B w).alloc hB _).grown HG3.out (by simp; omega) (fun k hk => (HO.out.lt k hk).1))⟩
    rw [HE.out]
    simpa using HO3.out
  · have he : encC c = Lib.encodeRuneZ c := by unfold encC; rw [if_neg hc]
    have HE := Lib.hid he
    clear he
    go_enter Tryz.func142, Tryz.ntmps142
    go_wp2_with fail
    refine (byte_no c w (by omega)).mono ?_
    rintro e w' ⟨rfl, rfl⟩
    go_wp2_with fail
    refine (Tryz.utf8_AppendRune_plain B v zs.length (zs.map (Value.int .u8)) c (by omega) (by omega) w HO.out hlen hB).mono ?_
    rintro e w1 ⟨v', rfl, hown1, o, hg⟩
    have HO1 := Lib.hid hown1
    have HG := Lib.hid hg
    clear hown1 hg
    go_wp2
    go_ret
    refine ⟨_, rfl, ?_, (((Below.refl B w).alloc hB _).grown HG.out (by simp; omega) (fun k hk => (HO.out.lt k hk).1))⟩
    rw [HE.out]
    have := HO1.out
    unfold Lib.runeCells at this
    simpa using this

/-- what Encode answers -/
def EncTold (xs : List Int) (w : World) (e : Ending) (w' : World) : Prop :=
  Below w.heap.size w w' ∧ ((xs.all rightB = true ∧ ∃ v, e = .returned (.tuple #[v, .int .u16 0]) ∧ w'.ownsRow w.heap.size 5 1 v (encL xs).length ((encL xs).map (Value.int .u8))) ∨
    (xs.all rightB = false ∧ e = .returned (.tuple #[.slice none 0 0, .int .u16 10])))
theorem take_right {xs : List Int} {k : Nat} {c : Int} (h : (xs.take k).all rightB = true) (hc : xs[k]? = some c) (hr : rightB c = true) : (xs.take (k + 1)).all rightB = true := by
  rw [take_snoc hc, List.all_append, h]
  simp [hr]
theorem not_right {xs : List Int} {k : Nat} {c : Int} (hc : xs[k]? = some c) (hr : rightB c = false) : xs.all rightB = false := by
  rw [List.all_eq_false]
  exact ⟨c, List.mem_of_getElem? hc, by simp [hr]⟩

set_option maxHeartbeats 2000000 in
theorem encode_told (w : World) (B : Nat) (A : Option Addr) (n c : Nat) (xs : List Int) (hx : RI .i32 w B A n xs) (hB : B ≤ w.heap.size) (hn : n ≤ 1073741824) :
    Calls Tryz.prog 90 #[.slice A n c] w (EncTold xs w) := by
  obtain ⟨i0, hi, hz0, hz1, hz2⟩ := info_parts info8
  have HX := Lib.hid hx
  clear hx
  go_enter Tryz.func90, Tryz.ntmps90
  go_wp2_with (at_make; (refine wpList_make_own _ rfl _ _ 38 rfl w.heap.size 5 i0 (.int .u8 0) 1 Tryz.underlying38 hi hz0 hz1 .i64 .i64 _ n rfl rfl (by omega) (by rw [hz2]; omega) (by unfold maxLen; omega) (by omega) ?_); intro w2 hown hgrow; have hb2 : Below w.heap.size w w2 := (Below.refl _ _).grown hgrow (by omega) (fun _ h => by cases h); clear hgrow; have HO := Lib.hid hown; clear hown)
  go_loopw [4, 12] (fun v i wr => ∃ k : Nat, k ≤ n ∧ i = .int .i64 k ∧ Hid ((xs.take k).all rightB = true) ∧ Hid (wr.ownsRow w.heap.size 5 1 v (encL (xs.take k)).length ((encL (xs.take k)).map (Value.int .u8))) ∧ Below w.heap.size w wr) (fun _ i _ => n - (intOf i).toNat)
  case atStart => exact ⟨0, Nat.zero_le _, rfl, rfl, HO.out, hb2⟩
  case round =>
    obtain ⟨k, hk, rfl, HA, HW, hbr⟩ := hrel
    have hsz := hbr.size
    by_cases hlt : k < n
    · obtain ⟨ad, u, rfl, hbl, hu, hcell⟩ := HX.out.at_ hlt
      have hcr : wr.cell? (ad.add k) = some (.int .i32 u) := (hbr.cell (p := ad.add k) (by rw [block_of_add]; omega)).trans hcell
      have HU := Lib.hid hu
      clear hu hcell
      cases hru : rightB u with
      | true =>
        have HRU := Lib.hid hru
        clear hru
        have hle := (encL_len (xs.take k)).2
        have hlk : (xs.take k).length ≤ k := List.length_take_le _ _
        go_wp2_with fail
        refine (right_is u wr true HRU.out).mono ?_
        rintro e w' ⟨rfl, rfl⟩
        go_wp2_with fail
        refine (appendCell_any wr w.heap.size _ (encL (xs.take k)) u HRU.out hsz HW.out (by omega)).mono ?_
        rintro e w1 ⟨v1, rfl, hown1, hb1⟩
        have hown2 : Hid (w1.ownsRow w.heap.size 5 1 v1 (encL (xs.take (k + 1))).length ((encL (xs.take (k + 1))).map (Value.int .u8))) := by
          rw [take_snoc HU.out, encL_snoc]
          exact hown1
        clear hown1
        have hb3 := hbr.trans hb1
        go_wp2
        go_roundw
        case rel => exact ⟨k + 1, by omega, by go_num, take_right HA.out HU.out HRU.out, hown2, hb3⟩
        case measure => simp [intOf]; omega
      | false =>
        have HRU := Lib.hid hru
        clear hru
        go_wp2_with fail
        refine (right_is u wr false HRU.out).mono ?_
        rintro e w' ⟨rfl, rfl⟩
        go_wp2
        go_ret2
        exact ⟨hbr, .inr ⟨not_right HU.out HRU.out, rfl⟩⟩
    · have hkn : xs.take k = xs := List.take_of_length_le (by rw [HX.out.len]; omega)
      have HK := Lib.hid hkn
      clear hkn
      go_wp2
      go_ret2
      refine ⟨hbr, .inl ⟨?_, _, rfl, ?_⟩⟩
      · have := HA.out
        rwa [HK.out] at this
      · have := HW.out
        rwa [HK.out] at this
theorem encode_yes (w : World) (B : Nat) (A : Option Addr) (n c : Nat) (xs : List Int) (hx : RI .i32 w B A n xs) (hB : B ≤ w.heap.size) (hn : n ≤ 1073741824) (ha : xs.all rightB = true) :
    Calls Tryz.prog 90 #[.slice A n c] w fun e w' => ∃ v, e = .returned (.tuple #[v, .int .u16 0]) ∧ w'.ownsRow w.heap.size 5 1 v (encL xs).length ((encL xs).map (Value.int .u8)) ∧ Below w.heap.size w w' := by
  refine (encode_told w B A n c xs hx hB hn).mono ?_
  rintro e w' ⟨hb, ⟨_, v, rfl, ho⟩ | ⟨h, _⟩⟩
  · exact ⟨v, rfl, ho, hb⟩
  · rw [ha] at h; cases h
theorem encode_no (w : World) (B : Nat) (A : Option Addr) (n c : Nat) (xs : List Int) (hx : RI .i32 w B A n xs) (hB : B ≤ w.heap.size) (hn : n ≤ 1073741824) (ha : xs.all rightB = false) :
    Calls Tryz.prog 90 #[.slice A n c] w fun e w' => e = .returned (.tuple #[.slice none 0 0, .int .u16 10]) ∧ Below w.heap.size w w' := by
  refine (encode_told w B A n c xs hx hB hn).mono ?_
  rintro e w' ⟨hb, ⟨h, _⟩ | ⟨_, rfl⟩⟩
  · rw [ha] at h; cases h
  · exact ⟨rfl, hb⟩

end Go.Proofs.YthaibekbefndlaaGreatDoor.C

namespace Go.Proofs.YthaibekbefndlaaGreatDoor.C
open Go.RowKit


set_option maxHeartbeats 400000 in
theorem refRight_any (c : Int) (w : World) : Calls Tryz.prog 93 #[.int .i32 c] w fun e w' => e = .returned (.bool (rightB c)) ∧ w = w' := by
  by_cases h1 : c < -256
  · have hr : rightB c = false := by simp [rightB]; omega
    rw [hr]; clear hr
    have t1 : decide (-256 ≤ c) = false := by simp; omega
    have t2 : decide (57343 < c) = false := by simp; omega
    go_enter Tryz.func93, Tryz.ntmps93
    go_wp2
    all_goals go_ret
    all_goals exact ⟨rfl, rfl⟩
  by_cases h2 : c < 55296
  · have hr : rightB c = true := by simp [rightB]; omega
    rw [hr]; clear hr
    go_enter Tryz.func93, Tryz.ntmps93
    go_wp2
    all_goals go_ret
    all_goals exact ⟨rfl, rfl⟩
  have t3 : decide (c < 55296) = false := by simpa using h2
  by_cases h3 : 57343 < c
  · by_cases h4 : c ≤ 1114111
    · have hr : rightB c = true := by simp [rightB]; omega
      rw [hr]; clear hr
      go_enter Tryz.func93, Tryz.ntmps93
      go_wp2
      all_goals go_ret
      all_goals exact ⟨rfl, rfl⟩
    · have hr : rightB c = false := by simp [rightB]; omega
      rw [hr]; clear hr
      have t4 : decide (c ≤ 1114111) = false := by simpa using h4
      go_enter Tryz.func93, Tryz.ntmps93
      go_wp2
      all_goals go_ret
      all_goals exact ⟨rfl, rfl⟩
  · have hr : rightB c = false := by simp [rightB]; omega
    rw [hr]; clear hr
    have t5 : decide (57343 < c) = false := by simpa using h3
    go_enter Tryz.func93, Tryz.ntmps93
    go_wp2
    all_goals go_ret
    all_goals exact ⟨rfl, rfl⟩
theorem refRight_is (c : Int) (w : World) (r : Bool) (hr : rightB c = r) : Calls Tryz.prog 93 #[.int .i32 c] w fun e w' => e = .returned (.bool r) ∧ w = w' := by
  subst hr
  exact refRight_any c w

set_option maxHeartbeats 400000 in
theorem refEscape_any (b : Int) (w : World) (h0 : 0 ≤ b) (h1 : b ≤ 255) : Calls Tryz.prog 226 #[.int .u8 b] w fun e w' => e = .returned (.int .i32 (-1 - b)) ∧ w = w' := by
  go_enter Tryz.func226, Tryz.ntmps226
  go_wp2
  go_ret
  exact ⟨rfl, rfl⟩

set_option maxHeartbeats 400000 in
theorem refByte_yes (c : Int) (w : World) (h0 : -256 ≤ c) (h1 : c < 0) : Calls Tryz.prog 94 #[.int .i32 c] w fun e w' => e = .returned (.tuple #[.int .u8 (-1 - c), .bool true]) ∧ w = w' := by
  have t1 : decide (0 ≤ c) = false := by simp; omega
  go_enter Tryz.func94, Tryz.ntmps94
  go_wp2
  go_ret2
  exact ⟨rfl, rfl⟩
set_option maxHeartbeats 400000 in
theorem refByte_no (c : Int) (w : World) (h0 : c < -256 ∨ 0 ≤ c) : Calls Tryz.prog 94 #[.int .i32 c] w fun e w' => e = .returned (.tuple #[.int .u8 0, .bool false]) ∧ w = w' := by
  rcases h0 with h | h
  · have t1 : decide (0 ≤ c) = false := by simp; omega
    go_enter Tryz.func94, Tryz.ntmps94
    go_wp2
    all_goals go_ret2
    all_goals exact ⟨rfl, rfl⟩
  · go_enter Tryz.func94, Tryz.ntmps94
    go_wp2
    all_goals go_ret2
    all_goals exact ⟨rfl, rfl⟩
end Go.Proofs.YthaibekbefndlaaGreatDoor.C
