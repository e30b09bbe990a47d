/-
  Joined: LawKit, MUtfM, MUtfF, MUtfG, LeG, LeI. Each with what its own head says.
-/
import Derived.Lib.AppendStr
import Derived.Lib.QuoteHex
import Derived.Lib.BufferRead
import Derived.Laws.Concat
import Derived.Shelf.Bytes.SlSmallAll
import Derived.Test.YthaibekbefndlaaGreatDoorH07
import Derived.Test.YthaibekbefndlaaGreatDoorH06

namespace Go.Proofs.YthaibekbefndlaaGreatDoor.L
open Go.ChangeShapes Go.WideShapes Go.ChangeAt Go.RowKit

theorem own : ownKnob Tryz.prog.godebug = none := by kernel_rfl
theorem laidOut : laidOutB Tryz.prog = true := by kernel_rfl
theorem gTab : Tryz.prog.globalNamed "math/bits.deBruijn64tab" = some 10 := by kernel_rfl
theorem gTabType : (Tryz.prog.globals[10]?).map (·.type) = some 277 := by kernel_rfl
theorem cellsTab : Tryz.prog.cellsOf 277 = 64 := by kernel_rfl
theorem cells5 : Tryz.prog.cellsOf 5 = 1 := by kernel_rfl
theorem gErr : Tryz.prog.globalNamed "strconv.ErrSyntax" = some 5 := by kernel_rfl
theorem gErrType : (Tryz.prog.globals[5]?).map (·.type) = some 179 := by kernel_rfl
theorem cellsErr : Tryz.prog.cellsOf 264 = 1 := by kernel_rfl
theorem cellsStr : Tryz.prog.cellsOf 9 = 1 := by kernel_rfl
theorem star : "*" ++ "errors.errorString" = "*errors.errorString" := by decide
theorem rowErr (u : TypeId) (h : Tryz.prog.typeName? 3 u = some "*errors.errorString") : u = 262 :=
 typeName_ptr_named (nm := "errors.errorString") (by rw [star]; kernel_rfl) (by kernel_rfl) (by decide) u (by rw [star]; exact h)
theorem gSig : Tryz.prog.globalNamed "redactor/lex.signs" = some 0 := by kernel_rfl
theorem gSigType : (Tryz.prog.globals[0]?).map (·.type) = some 158 := by kernel_rfl
theorem cellsSig : Tryz.prog.cellsOf 158 = 5 := by kernel_rfl
theorem table {W : World} (h0 : laidMetH Tryz.prog [("math/bits.deBruijn32tab", Rows.laid_math_bits_deBruijn32tab), ("math/bits.deBruijn64tab", Rows.laid_math_bits_deBruijn64tab), ("internal/strconv.uint64pow10", Rows.laid_internal_strconv_uint64pow10), ("unicode/utf8.acceptRanges", Rows.laid_unicode_utf8_acceptRanges), ("strconv.ErrRange", Rows.laid_strconv_ErrRange), ("strconv.ErrSyntax", Rows.laid_strconv_ErrSyntax), ("bytes.ErrTooLarge", Rows.laid_bytes_ErrTooLarge), ("redactor/lex.signs", Rows.laid_redactor_lex_signs), ("unicode.CaseRanges", Rows.laid_unicode_CaseRanges), ("unicode/utf8.first", Rows.laid_unicode_utf8_first)] W) : W.cell? ⟨10, 15, none⟩ = some (.int .u8 4) := by
 have h : laidMet Tryz.prog [("math/bits.deBruijn32tab", Rows.laid_math_bits_deBruijn32tab), ("math/bits.deBruijn64tab", Rows.laid_math_bits_deBruijn64tab), ("internal/strconv.uint64pow10", Rows.laid_internal_strconv_uint64pow10), ("unicode/utf8.acceptRanges", Rows.laid_unicode_utf8_acceptRanges), ("strconv.ErrRange", Rows.laid_strconv_ErrRange), ("strconv.ErrSyntax", Rows.laid_strconv_ErrSyntax), ("bytes.ErrTooLarge", Rows.laid_bytes_ErrTooLarge), ("redactor/lex.signs", Rows.laid_redactor_lex_signs), ("unicode.CaseRanges", Rows.laid_unicode_CaseRanges), ("unicode/utf8.first", Rows.laid_unicode_utf8_first)] W := h0
 have ht : Lib.TabIs Tryz.prog W "math/bits.deBruijn64tab" .u8 [0, 1, 56, 2, 57, 49, 28, 3, 61, 58, 42, 50, 38, 29, 17, 4, 62, 47, 59, 36, 45, 43, 51, 22, 53, 39, 33, 30, 24, 18, 12, 5, 63, 55, 48, 27, 60, 41, 37, 16, 46, 35, 44, 21, 52, 32, 23, 11, 54, 26, 40, 15, 34, 20, 31, 10, 25, 14, 19, 9, 13, 8, 7, 6] :=
  Lib.tabIs_of_head gTab gTabType Tryz.underlying277 Tryz.underlying5 cells5 cellsTab (laidMet.tail h)
 exact ht.cell gTab 15 (by decide)
theorem sentinel {W : World} (h0 : laidMetH Tryz.prog [("math/bits.deBruijn32tab", Rows.laid_math_bits_deBruijn32tab), ("math/bits.deBruijn64tab", Rows.laid_math_bits_deBruijn64tab), ("internal/strconv.uint64pow10", Rows.laid_internal_strconv_uint64pow10), ("unicode/utf8.acceptRanges", Rows.laid_unicode_utf8_acceptRanges), ("strconv.ErrRange", Rows.laid_strconv_ErrRange), ("strconv.ErrSyntax", Rows.laid_strconv_ErrSyntax), ("bytes.ErrTooLarge", Rows.laid_bytes_ErrTooLarge), ("redactor/lex.signs", Rows.laid_redactor_lex_signs), ("unicode.CaseRanges", Rows.laid_unicode_CaseRanges), ("unicode/utf8.first", Rows.laid_unicode_utf8_first)] W) : ∃ ev, W.cell? ⟨5, 0, none⟩ = some ev ∧ (ev = .nilIface ∨ ∃ te pe, ev = .iface te pe) := by
 have h : laidMet Tryz.prog [("math/bits.deBruijn32tab", Rows.laid_math_bits_deBruijn32tab), ("math/bits.deBruijn64tab", Rows.laid_math_bits_deBruijn64tab), ("internal/strconv.uint64pow10", Rows.laid_internal_strconv_uint64pow10), ("unicode/utf8.acceptRanges", Rows.laid_unicode_utf8_acceptRanges), ("strconv.ErrRange", Rows.laid_strconv_ErrRange), ("strconv.ErrSyntax", Rows.laid_strconv_ErrSyntax), ("bytes.ErrTooLarge", Rows.laid_bytes_ErrTooLarge), ("redactor/lex.signs", Rows.laid_redactor_lex_signs), ("unicode.CaseRanges", Rows.laid_unicode_CaseRanges), ("unicode/utf8.first", Rows.laid_unicode_utf8_first)] W := h0
 obtain ⟨a, s, hv, _, _, _⟩ := laid_sentinel (laidMet.tail (laidMet.tail (laidMet.tail (laidMet.tail (laidMet.tail h))))) gErr gErrType Tryz.underlying179 rowErr Tryz.underlying262 Tryz.underlying264 rfl rfl Tryz.underlying9 cellsErr cellsStr
 exact ⟨_, by simpa using World.var?_cell gErr hv 0, .inr ⟨_, _, rfl⟩⟩
theorem signs {W : World} (h0 : laidMetH Tryz.prog [("math/bits.deBruijn32tab", Rows.laid_math_bits_deBruijn32tab), ("math/bits.deBruijn64tab", Rows.laid_math_bits_deBruijn64tab), ("internal/strconv.uint64pow10", Rows.laid_internal_strconv_uint64pow10), ("unicode/utf8.acceptRanges", Rows.laid_unicode_utf8_acceptRanges), ("strconv.ErrRange", Rows.laid_strconv_ErrRange), ("strconv.ErrSyntax", Rows.laid_strconv_ErrSyntax), ("bytes.ErrTooLarge", Rows.laid_bytes_ErrTooLarge), ("redactor/lex.signs", Rows.laid_redactor_lex_signs), ("unicode.CaseRanges", Rows.laid_unicode_CaseRanges), ("unicode/utf8.first", Rows.laid_unicode_utf8_first)] W) : ∃ t f, W.heap[(0 : Nat)]? = some (.cells #[.string ⟨#[59]⟩, .string ⟨#[44]⟩, .string ⟨#[40]⟩, .string ⟨#[41]⟩, .string ⟨#[46, 46, 46]⟩] t f) := by
 have h : laidMet Tryz.prog [("math/bits.deBruijn32tab", Rows.laid_math_bits_deBruijn32tab), ("math/bits.deBruijn64tab", Rows.laid_math_bits_deBruijn64tab), ("internal/strconv.uint64pow10", Rows.laid_internal_strconv_uint64pow10), ("unicode/utf8.acceptRanges", Rows.laid_unicode_utf8_acceptRanges), ("strconv.ErrRange", Rows.laid_strconv_ErrRange), ("strconv.ErrSyntax", Rows.laid_strconv_ErrSyntax), ("bytes.ErrTooLarge", Rows.laid_bytes_ErrTooLarge), ("redactor/lex.signs", Rows.laid_redactor_lex_signs), ("unicode.CaseRanges", Rows.laid_unicode_CaseRanges), ("unicode/utf8.first", Rows.laid_unicode_utf8_first)] W := h0
 obtain ⟨g, t, cs, fuel, p, hg, hty, hvar, hd⟩ := Lib.laidMet.reads h (n := "redactor/lex.signs") (d := Rows.laid_redactor_lex_signs) (by simp)
 obtain rfl := Option.some.inj (gSig.symm.trans hg)
 obtain rfl := Option.some.inj (gSigType.symm.trans hty)
 obtain ⟨xs, m, _, ex, hlen, hl, hel⟩ := DataW.trod_array Tryz.underlying158 hd
 rw [cellsSig] at hlen
 have ed : (DataW.agg (xs.map (·.1)) : DataW Unit) = Rows.laid_redactor_lex_signs := (Prod.mk.inj ex).1.symm
 have one : ∀ i (hi : i < 5) (b : List UInt8), (xs.map (·.1))[i]? = some (DataW.lit (.string b)) → cs.toList[i]? = some (.string ⟨b.toArray⟩) := by
  intro i hi b hb
  have hE := hel i hi
  rw [cellsStr, Nat.mul_one, List.getElem?_eq_getElem (by omega)] at hE
  obtain ⟨s, e1, e2, _⟩ := DataW.trod_string Tryz.underlying9 hE
  rw [List.getElem?_map, List.getElem?_eq_getElem (by omega), Option.map_some, e2] at hb
  have hs : s.data.toList = b := by simpa using hb
  have h0 : ((cs.toList.drop i).take 1)[0]? = some (.string s) := by rw [e1]; rfl
  have h1 : cs.toList[i]? = some (.string s) := by simpa using h0
  rw [h1, ← hs]
 have ex2 : xs.map (·.1) = [.lit (.string [59]), .lit (.string [44]), .lit (.string [40]), .lit (.string [41]), .lit (.string [46, 46, 46])] := by
  have := ed
  unfold Rows.laid_redactor_lex_signs at this
  exact DataW.agg.inj this
 have hcs : cs.toList = [.string ⟨#[59]⟩, .string ⟨#[44]⟩, .string ⟨#[40]⟩, .string ⟨#[41]⟩, .string ⟨#[46, 46, 46]⟩] := by
  apply List.ext_getElem?
  intro i
  rcases (by omega : i = 0 ∨ i = 1 ∨ i = 2 ∨ i = 3 ∨ i = 4 ∨ 5 ≤ i) with rfl | rfl | rfl | rfl | rfl | h5
  ·exact one 0 (by omega) [59] (by rw [ex2]; rfl)
  ·exact one 1 (by omega) [44] (by rw [ex2]; rfl)
  ·exact one 2 (by omega) [40] (by rw [ex2]; rfl)
  ·exact one 3 (by omega) [41] (by rw [ex2]; rfl)
  ·exact one 4 (by omega) [46, 46, 46] (by rw [ex2]; rfl)
  ·rw [List.getElem?_eq_none (by omega), List.getElem?_eq_none (by simpa using h5)]
 have hv2 := hvar
 unfold World.var? at hv2
 rw [hg] at hv2
 simp only [Option.bind_some] at hv2
 cases hh : W.heap[(0 : Nat)]? with
 | none => rw [hh] at hv2; cases hv2
 | some o =>
  cases o with
  | cells c t f =>
   rw [hh] at hv2
   simp only [Option.some.injEq] at hv2
   subst hv2
   refine ⟨t, f, ?_⟩
   congr 2
   exact Array.toList_inj.1 hcs
  | _ => rw [hh] at hv2; cases hv2
theorem nF : Tryz.prog.globalNamed "unicode/utf8.first" = some 3 := by kernel_rfl
theorem nA : Tryz.prog.globalNamed "unicode/utf8.acceptRanges" = some 4 := by kernel_rfl
theorem yF : (Tryz.prog.globals[3]?).map (·.type) = some 237 := by kernel_rfl
theorem yA : (Tryz.prog.globals[4]?).map (·.type) = some 240 := by kernel_rfl
theorem c5 : Tryz.prog.cellsOf 5 = 1 := by kernel_rfl
theorem c256 : Tryz.prog.cellsOf 237 = 256 := by kernel_rfl
theorem c2 : Tryz.prog.cellsOf 239 = 2 := by kernel_rfl
theorem dF : (Rows.laid_unicode_utf8_first : DataW Unit) = Lib.firstData := by kernel_rfl
theorem dA : (Rows.laid_unicode_utf8_acceptRanges : DataW Unit) = Lib.acceptData := by kernel_rfl
theorem tables {W : World} (h0 : laidMetH Tryz.prog [("math/bits.deBruijn32tab", Rows.laid_math_bits_deBruijn32tab), ("math/bits.deBruijn64tab", Rows.laid_math_bits_deBruijn64tab), ("internal/strconv.uint64pow10", Rows.laid_internal_strconv_uint64pow10), ("unicode/utf8.acceptRanges", Rows.laid_unicode_utf8_acceptRanges), ("strconv.ErrRange", Rows.laid_strconv_ErrRange), ("strconv.ErrSyntax", Rows.laid_strconv_ErrSyntax), ("bytes.ErrTooLarge", Rows.laid_bytes_ErrTooLarge), ("redactor/lex.signs", Rows.laid_redactor_lex_signs), ("unicode.CaseRanges", Rows.laid_unicode_CaseRanges), ("unicode/utf8.first", Rows.laid_unicode_utf8_first)] W) : Lib.Utf8Tabs 3 4 W := by
 have h : laidMet Tryz.prog [("math/bits.deBruijn32tab", Rows.laid_math_bits_deBruijn32tab), ("math/bits.deBruijn64tab", Rows.laid_math_bits_deBruijn64tab), ("internal/strconv.uint64pow10", Rows.laid_internal_strconv_uint64pow10), ("unicode/utf8.acceptRanges", Rows.laid_unicode_utf8_acceptRanges), ("strconv.ErrRange", Rows.laid_strconv_ErrRange), ("strconv.ErrSyntax", Rows.laid_strconv_ErrSyntax), ("bytes.ErrTooLarge", Rows.laid_bytes_ErrTooLarge), ("redactor/lex.signs", Rows.laid_redactor_lex_signs), ("unicode.CaseRanges", Rows.laid_unicode_CaseRanges), ("unicode/utf8.first", Rows.laid_unicode_utf8_first)] W := h0
 have h3 : Lib.VarReads Tryz.prog W "unicode/utf8.first" Lib.firstData := by
  have := Lib.laidMet.reads h (n := "unicode/utf8.first") (d := Rows.laid_unicode_utf8_first) (by simp)
  rwa [dF] at this
 have h4 : Lib.VarReads Tryz.prog W "unicode/utf8.acceptRanges" Lib.acceptData := by
  have := Lib.laidMet.reads h (n := "unicode/utf8.acceptRanges") (d := Rows.laid_unicode_utf8_acceptRanges) (by simp)
  rwa [dA] at this
 refine ⟨fun c hc => ?_, fun i hi => ?_⟩
 ·obtain ⟨g, t, cs, fuel, p, hg, hty, hvar, hd⟩ := h3
  obtain rfl := Option.some.inj (nF.symm.trans hg)
  obtain rfl := Option.some.inj (yF.symm.trans hty)
  have hcs := Lib.cells_of_tab Tryz.underlying237 Tryz.underlying5 c5 c256 hd
  rw [World.var?_cell hg hvar c, ← Array.getElem?_toList, hcs]
  simp [Lib.firstTab, hc]
 ·obtain ⟨g, t, cs, fuel, p, hg, hty, hvar, hd⟩ := h4
  obtain rfl := Option.some.inj (nA.symm.trans hg)
  obtain rfl := Option.some.inj (yA.symm.trans hty)
  obtain ⟨fuel', d, q, hdi, he⟩ := Lib.array_elem Tryz.underlying240 hd i hi
  simp only [List.getElem?_map, List.getElem?_range hi, Option.map_some, Option.some.injEq] at hdi
  subst hdi
  rw [c2] at he
  have hcs := Lib.ints_of_struct Tryz.underlying239 (fun j f hj => by
   match j, hj with
   | 0, hj => simp at hj; subst hj; exact ⟨Tryz.underlying5, rfl, c5⟩
   | 1, hj => simp at hj; subst hj; exact ⟨Tryz.underlying5, rfl, c5⟩
   | j + 2, hj => simp at hj) (by rw [c2]; rfl) he
  have e0 := congrArg (·[0]?) hcs
  have e1 := congrArg (·[1]?) hcs
  simp only [List.getElem?_take, List.getElem?_drop] at e0 e1
  constructor
  ·rw [World.var?_cell hg hvar (2 * i), ← Array.getElem?_toList]
   simpa [Nat.mul_comm] using e0
  ·rw [World.var?_cell hg hvar (2 * i + 1), ← Array.getElem?_toList]
   simpa [Nat.mul_comm] using e1

theorem gl0 {W : World} (h0 : laidMetH Tryz.prog [("math/bits.deBruijn32tab", Rows.laid_math_bits_deBruijn32tab), ("math/bits.deBruijn64tab", Rows.laid_math_bits_deBruijn64tab), ("internal/strconv.uint64pow10", Rows.laid_internal_strconv_uint64pow10), ("unicode/utf8.acceptRanges", Rows.laid_unicode_utf8_acceptRanges), ("strconv.ErrRange", Rows.laid_strconv_ErrRange), ("strconv.ErrSyntax", Rows.laid_strconv_ErrSyntax), ("bytes.ErrTooLarge", Rows.laid_bytes_ErrTooLarge), ("redactor/lex.signs", Rows.laid_redactor_lex_signs), ("unicode.CaseRanges", Rows.laid_unicode_CaseRanges), ("unicode/utf8.first", Rows.laid_unicode_utf8_first)] W) : C.Gl W := ⟨sentinel h0, table h0, signs h0⟩
theorem gl {W : World} (h0 : laidMetH Tryz.prog [("math/bits.deBruijn32tab", Rows.laid_math_bits_deBruijn32tab), ("math/bits.deBruijn64tab", Rows.laid_math_bits_deBruijn64tab), ("internal/strconv.uint64pow10", Rows.laid_internal_strconv_uint64pow10), ("unicode/utf8.acceptRanges", Rows.laid_unicode_utf8_acceptRanges), ("strconv.ErrRange", Rows.laid_strconv_ErrRange), ("strconv.ErrSyntax", Rows.laid_strconv_ErrSyntax), ("bytes.ErrTooLarge", Rows.laid_bytes_ErrTooLarge), ("redactor/lex.signs", Rows.laid_redactor_lex_signs), ("unicode.CaseRanges", Rows.laid_unicode_CaseRanges), ("unicode/utf8.first", Rows.laid_unicode_utf8_first)] W) : C.Gm W := ⟨gl0 h0, tables h0⟩

noncomputable def laidWorld (os : Os) : World := World.laidAll Tryz.prog os [("math/bits.deBruijn32tab", Rows.laid_math_bits_deBruijn32tab), ("math/bits.deBruijn64tab", Rows.laid_math_bits_deBruijn64tab), ("internal/strconv.uint64pow10", Rows.laid_internal_strconv_uint64pow10), ("unicode/utf8.acceptRanges", Rows.laid_unicode_utf8_acceptRanges), ("strconv.ErrRange", Rows.laid_strconv_ErrRange), ("strconv.ErrSyntax", Rows.laid_strconv_ErrSyntax), ("bytes.ErrTooLarge", Rows.laid_bytes_ErrTooLarge), ("redactor/lex.signs", Rows.laid_redactor_lex_signs), ("unicode.CaseRanges", Rows.laid_unicode_CaseRanges), ("unicode/utf8.first", Rows.laid_unicode_utf8_first)]
theorem laid_met (os : Os) (args : Array Value) : laidMet Tryz.prog [("math/bits.deBruijn32tab", Rows.laid_math_bits_deBruijn32tab), ("math/bits.deBruijn64tab", Rows.laid_math_bits_deBruijn64tab), ("internal/strconv.uint64pow10", Rows.laid_internal_strconv_uint64pow10), ("unicode/utf8.acceptRanges", Rows.laid_unicode_utf8_acceptRanges), ("strconv.ErrRange", Rows.laid_strconv_ErrRange), ("strconv.ErrSyntax", Rows.laid_strconv_ErrSyntax), ("bytes.ErrTooLarge", Rows.laid_bytes_ErrTooLarge), ("redactor/lex.signs", Rows.laid_redactor_lex_signs), ("unicode.CaseRanges", Rows.laid_unicode_CaseRanges), ("unicode/utf8.first", Rows.laid_unicode_utf8_first)] ((laidWorld os).forCall (fun _ _ => 0) ⟨#[], args, []⟩).memory :=
 laidMet_laidAll _ (by kernel_rfl) (by kernel_rfl)
theorem witness {H : Type} {enc : TypeId × Value → H} {C : Checked} {os : Os} {f : FuncId} {fn : Func} {s : OpenSpec} {conds : List PathCond} {apart : Bool} {laid : List (String × DataW Unit)} (modest : Bool) (w0 : World) (args : Array Value) (hos : w0.os = os)
  (hsh : (w0.forCall (fun _ _ => 0) ⟨#[], args, []⟩).Shaped C.prog)
  (hok : Input.okWideB C.prog (w0.forCall (fun _ _ => 0) ⟨#[], args, []⟩) f ⟨#[], args, []⟩ = true)
  (hrow : s.preRow enc C.prog fn conds apart laid (w0.forCall (fun _ _ => 0) ⟨#[], args, []⟩).memory args) :
  ∃ (w : World) (tape : Tape) (i : Input), w.os = os ∧ (w.forCall tape i).Shaped C.prog ∧ i.vars = [] ∧ Input.okWide C.prog (w.forCall tape i) .any w.heap.size f i ∧
   s.preRow enc C.prog fn conds apart laid (w.forCall tape i).memory i.args ∧ ({ modest := modest } : Assume).holds C.prog (lone (Frame.enter C.prog f i.args .normal) [] (w.forCall tape i)) :=
 ⟨w0, fun _ _ => 0, ⟨#[], args, []⟩, hos, hsh, (Input.okWide_of_okWideB (base := 0) hok).1, (Input.okWide_of_okWideB hok).2, hrow, by
  simp only [Assume.holds]
  exact ⟨by simp, by simp, fun _ => Modest.zero, by simp, by simp⟩⟩

def IsRow (k : IntKind) (w : World) (a : Option Addr) (len cap : Nat) (zs : List Int) : Prop :=
 (a = none ∧ len = 0 ∧ cap = 0 ∧ zs = []) ∨
 ∃ x, a = some x ∧ len ≤ cap ∧ cap ≤ maxLen ∧ zs.length = cap ∧ (∀ i, i < zs.length → w.cell? (x.add i) = some (.int k (zs.getD i 0))) ∧ ∀ n ∈ zs, (Lit.int k n).wf = true
end Go.Proofs.YthaibekbefndlaaGreatDoor.L

namespace Go.Proofs.YthaibekbefndlaaGreatDoor.C
open Go.RowKit


theorem RI.of_row {ki : IntKind} {w : World} {a : Option Addr} {len cap : Nat} {zs : List Int} (h : L.IsRow ki w a len cap zs) : RI ki w w.heap.size a len (zs.take len) := by
 rcases h with ⟨rfl, rfl, rfl, rfl⟩ | ⟨x, rfl, hl, hm, hz, hc, _⟩
 ·exact ⟨by simp, fun h => absurd h (by omega)⟩
 ·refine ⟨by simp; omega, fun hn => ⟨x, rfl, ?_, fun j u hu => ?_⟩⟩
  ·have := World.block_lt_of_cell? w _ (hc 0 (by omega))
   rwa [block_of_add] at this
  ·rw [List.getElem?_take] at hu
   split at hu
   ·have hj : j < zs.length := (List.getElem?_eq_some_iff.1 hu).1
    rw [hc j hj]
    simp [hu]
   ·cases hu
theorem row_u8 {w : World} {a : Option Addr} {len cap : Nat} {zs : List Int} (h : L.IsRow .u8 w a len cap zs) : ∀ z ∈ zs.take len, 0 ≤ z ∧ z ≤ 255 := by
 rcases h with ⟨rfl, rfl, rfl, rfl⟩ | ⟨x, rfl, hl, hm, hz, hc, hw⟩
 ·intro z hz; simp at hz
 ·intro z hz
  exact bounds_u8 (hw z (List.mem_of_mem_take hz))

section
variable {P : Program} (w : World)
end

end Go.Proofs.YthaibekbefndlaaGreatDoor.C

namespace Go.Proofs.YthaibekbefndlaaGreatDoor.C
open Go.RowKit

theorem info8 : (Tryz.prog.info? 5).map (fun i => (i.zero, i.size, i.bytes)) = some (some (.int .u8 0), 1, 1) := by kernel_rfl

set_option maxHeartbeats 1000000 in
theorem appendCell_any (w : World) (B : Nat) (v : Value) (zs : List Int) (c : Int) (hr : rightB c = true) (hB : B ≤ w.heap.size) (hown : w.ownsRow B 5 1 v zs.length (zs.map (Value.int .u8))) (hlen : zs.length + 4 ≤ 140737488355328) :
  Calls Tryz.prog 142 #[v, .int .i32 c] w fun e w' => ∃ v', e = .returned v' ∧ w'.ownsRow B 5 1 v' (zs ++ encC c).length ((zs ++ encC c).map (Value.int .u8)) ∧ Below B w w' := by
 obtain ⟨i0, hi, hz0, hz1, hz2⟩ := info_parts info8
 have hb : -256 ≤ c ∧ c ≤ 1114111 := by unfold rightB at hr; simp at hr; omega
 have HO := Lib.hid hown
 clear hown hr
 by_cases hc : c < 0
 ·have he : encC c = [-1 - c] := by unfold encC; rw [if_pos hc]
  have HE := Lib.hid he
  clear he
  go_enter Tryz.func142, Tryz.ntmps142
  go_wp2_with fail
  refine (byte_yes c w hb.1 hc).mono ?_
  rintro e w' ⟨rfl, rfl⟩
  go_wp2_with (at_builtin; (refine wpList_append_own _ rfl _ _ 38 rfl B 5 i0 (.int .u8 0) 1 1 Tryz.underlying38 hi hz0 hz1 hz2 rfl (by decide) _ _ _ rfl (HO.out.alloc _) _ 1 1 [.int .u8 (-1 - c)] rfl rfl (cell_one_new _ _ _) (by intro u hu; simp at hu; subst hu; rfl) (by unfold maxLen; omega) (by omega) (by simp; omega) ?_); intro v' w3 hown' hgrow _; have HO3 := Lib.hid hown'; have HG3 := Lib.hid hgrow; clear hown' hgrow)
  go_ret
  refine ⟨_, rfl, ?_, (((Below.refl B w).alloc hB _).grown HG3.out (by simp; omega) (fun k hk => (HO.out.lt k hk).1))⟩
  rw [HE.out]
  simpa using HO3.out
 ·have he : encC c = Lib.encodeRuneZ c := by unfold encC; rw [if_neg hc]
  have HE := Lib.hid he
  clear he
  go_enter Tryz.func142, Tryz.ntmps142
  go_wp2_with fail
  refine (byte_no c w (by omega)).mono ?_
  rintro e w' ⟨rfl, rfl⟩
  go_wp2_with fail
  refine (Tryz.utf8_AppendRune_plain B v zs.length (zs.map (Value.int .u8)) c (by omega) (by omega) w HO.out hlen hB).mono ?_
  rintro e w1 ⟨v', rfl, hown1, o, hg⟩
  have HO1 := Lib.hid hown1
  have HG := Lib.hid hg
  clear hown1 hg
  go_wp2
  go_ret
  refine ⟨_, rfl, ?_, (((Below.refl B w).alloc hB _).grown HG.out (by simp; omega) (fun k hk => (HO.out.lt k hk).1))⟩
  rw [HE.out]
  have := HO1.out
  unfold Lib.runeCells at this
  simpa using this

def EncTold (xs : List Int) (w : World) (e : Ending) (w' : World) : Prop :=
 Below w.heap.size w w' ∧ ((xs.all rightB = true ∧ ∃ v, e = .returned (.tuple #[v, .int .u16 0]) ∧ w'.ownsRow w.heap.size 5 1 v (encL xs).length ((encL xs).map (Value.int .u8))) ∨
  (xs.all rightB = false ∧ e = .returned (.tuple #[.slice none 0 0, .int .u16 10])))
theorem take_right {xs : List Int} {k : Nat} {c : Int} (h : (xs.take k).all rightB = true) (hc : xs[k]? = some c) (hr : rightB c = true) : (xs.take (k + 1)).all rightB = true := by
 rw [take_snoc hc, List.all_append, h]
 simp [hr]
theorem not_right {xs : List Int} {k : Nat} {c : Int} (hc : xs[k]? = some c) (hr : rightB c = false) : xs.all rightB = false := by
 rw [List.all_eq_false]
 exact ⟨c, List.mem_of_getElem? hc, by simp [hr]⟩

set_option maxHeartbeats 2000000 in
theorem encode_told (w : World) (B : Nat) (A : Option Addr) (n c : Nat) (xs : List Int) (hx : RI .i32 w B A n xs) (hB : B ≤ w.heap.size) (hn : n ≤ 1073741824) :
  Calls Tryz.prog 90 #[.slice A n c] w (EncTold xs w) := by
 obtain ⟨i0, hi, hz0, hz1, hz2⟩ := info_parts info8
 have HX := Lib.hid hx
 clear hx
 go_enter Tryz.func90, Tryz.ntmps90
 go_wp2_with (at_make; (refine wpList_make_own _ rfl _ _ 38 rfl w.heap.size 5 i0 (.int .u8 0) 1 Tryz.underlying38 hi hz0 hz1 .i64 .i64 _ n rfl rfl (by omega) (by rw [hz2]; omega) (by unfold maxLen; omega) (by omega) ?_); intro w2 hown hgrow; have hb2 : Below w.heap.size w w2 := (Below.refl _ _).grown hgrow (by omega) (fun _ h => by cases h); clear hgrow; have HO := Lib.hid hown; clear hown)
 go_loopw [4, 12] (fun v i wr => ∃ k : Nat, k ≤ n ∧ i = .int .i64 k ∧ Hid ((xs.take k).all rightB = true) ∧ Hid (wr.ownsRow w.heap.size 5 1 v (encL (xs.take k)).length ((encL (xs.take k)).map (Value.int .u8))) ∧ Below w.heap.size w wr) (fun _ i _ => n - (intOf i).toNat)
 case atStart => exact ⟨0, Nat.zero_le _, rfl, rfl, HO.out, hb2⟩
 case round =>
  obtain ⟨k, hk, rfl, HA, HW, hbr⟩ := hrel
  have hsz := hbr.size
  by_cases hlt : k < n
  ·obtain ⟨ad, u, rfl, hbl, hu, hcell⟩ := HX.out.at_ hlt
   have hcr : wr.cell? (ad.add k) = some (.int .i32 u) := (hbr.cell (p := ad.add k) (by rw [block_of_add]; omega)).trans hcell
   have HU := Lib.hid hu
   clear hu hcell
   cases hru : rightB u with
   | true =>
    have HRU := Lib.hid hru
    clear hru
    have hle := (encL_len (xs.take k)).2
    have hlk : (xs.take k).length ≤ k := List.length_take_le _ _
    go_wp2_with fail
    refine (right_is u wr true HRU.out).mono ?_
    rintro e w' ⟨rfl, rfl⟩
    go_wp2_with fail
    refine (appendCell_any wr w.heap.size _ (encL (xs.take k)) u HRU.out hsz HW.out (by omega)).mono ?_
    rintro e w1 ⟨v1, rfl, hown1, hb1⟩
    have hown2 : Hid (w1.ownsRow w.heap.size 5 1 v1 (encL (xs.take (k + 1))).length ((encL (xs.take (k + 1))).map (Value.int .u8))) := by
     rw [take_snoc HU.out, encL_snoc]
     exact hown1
    clear hown1
    have hb3 := hbr.trans hb1
    go_wp2
    go_roundw
    case rel => exact ⟨k + 1, by omega, by go_num, take_right HA.out HU.out HRU.out, hown2, hb3⟩
    case measure => simp [intOf]; omega
   | false =>
    have HRU := Lib.hid hru
    clear hru
    go_wp2_with fail
    refine (right_is u wr false HRU.out).mono ?_
    rintro e w' ⟨rfl, rfl⟩
    go_wp2
    go_ret2
    exact ⟨hbr, .inr ⟨not_right HU.out HRU.out, rfl⟩⟩
  ·have hkn : xs.take k = xs := List.take_of_length_le (by rw [HX.out.len]; omega)
   have HK := Lib.hid hkn
   clear hkn
   go_wp2
   go_ret2
   refine ⟨hbr, .inl ⟨?_, _, rfl, ?_⟩⟩
   ·have := HA.out
    rwa [HK.out] at this
   ·have := HW.out
    rwa [HK.out] at this
theorem encode_yes (w : World) (B : Nat) (A : Option Addr) (n c : Nat) (xs : List Int) (hx : RI .i32 w B A n xs) (hB : B ≤ w.heap.size) (hn : n ≤ 1073741824) (ha : xs.all rightB = true) :
  Calls Tryz.prog 90 #[.slice A n c] w fun e w' => ∃ v, e = .returned (.tuple #[v, .int .u16 0]) ∧ w'.ownsRow w.heap.size 5 1 v (encL xs).length ((encL xs).map (Value.int .u8)) ∧ Below w.heap.size w w' := by
 refine (encode_told w B A n c xs hx hB hn).mono ?_
 rintro e w' ⟨hb, ⟨_, v, rfl, ho⟩ | ⟨h, _⟩⟩
 ·exact ⟨v, rfl, ho, hb⟩
 ·rw [ha] at h; cases h
theorem encode_no (w : World) (B : Nat) (A : Option Addr) (n c : Nat) (xs : List Int) (hx : RI .i32 w B A n xs) (hB : B ≤ w.heap.size) (hn : n ≤ 1073741824) (ha : xs.all rightB = false) :
  Calls Tryz.prog 90 #[.slice A n c] w fun e w' => e = .returned (.tuple #[.slice none 0 0, .int .u16 10]) ∧ Below w.heap.size w w' := by
 refine (encode_told w B A n c xs hx hB hn).mono ?_
 rintro e w' ⟨hb, ⟨h, _⟩ | ⟨_, rfl⟩⟩
 ·rw [ha] at h; cases h
 ·exact ⟨rfl, hb⟩

end Go.Proofs.YthaibekbefndlaaGreatDoor.C

namespace Go.Proofs.YthaibekbefndlaaGreatDoor.C
open Go.RowKit

theorem below_drewN {B : Nat} {a w : World} (h : Below B a w) (n : Nat) : Below B a (w.drewN n) := ⟨h.os, h.tape, h.output, h.size, h.block⟩
theorem conv_ri {w : World} {B n : Nat} {A : Option Addr} {zs : List Int} (h : RI .u8 w B A n zs) (c : Nat) : (convert 38 9 (.slice A n c)).run Tryz.prog w = .ok (.string (sb zs)) w := by
 rcases Nat.eq_zero_or_pos n with h0 | h0
 ·subst h0
  obtain rfl : zs = [] := List.eq_nil_of_length_eq_zero h.1
  exact run_convert_bytes_zero w 38 5 Tryz.underlying38 Tryz.underlying5 A c 9 Tryz.underlying9
 ·obtain ⟨b, off, rfl, _, hc⟩ := h.flat h0
  refine run_convert_bytes_arg w 38 5 Tryz.underlying38 Tryz.underlying5 b off n c zs h.1 (fun i hi => ?_) 9 Tryz.underlying9
  have hi' : i < zs.length := by rw [h.1]; exact hi
  rw [hc i zs[i] (List.getElem?_eq_getElem hi')]
  simp [List.getD_eq_getElem?_getD, List.getElem?_eq_getElem hi']
theorem own_slice2 {w : World} {base : Nat} {e : TypeId} {ki : IntKind} {v : Value} {n : Nat} {zs : List Int} (h : w.ownsRow base e 1 v n (zs.map (Value.int ki))) : ∃ A c, v = .slice A n c ∧ n ≤ c ∧ c ≤ maxLen ∧ RI ki w w.heap.size A n zs := by
 rcases h.2 with ⟨rfl, rfl⟩ | ⟨g, c, cur, rfl, _, _, hc, hm, _⟩
 ·have hz : zs = [] := List.eq_nil_of_length_eq_zero (by have := h.1; simpa using this)
  subst hz
  exact ⟨none, 0, rfl, Nat.le_refl _, Nat.zero_le _, RI.none_⟩
 ·exact ⟨_, c, rfl, hc, hm, RI.of_own h⟩
theorem RI.new (w : World) (ki : IntKind) (zs : List Int) (t : TypeId) : RI ki (w.alloc (.cells (zs.map (Value.int ki)).toArray t)) (w.heap.size + 1) (some ⟨w.heap.size, 0, none⟩) zs.length zs :=
 ⟨rfl, fun _ => ⟨_, rfl, Nat.lt_succ_self _, fun j u hu => by
  rw [add_plain, Nat.zero_add, World.cell?_alloc_new]
  simp [hu]⟩⟩

set_option maxHeartbeats 1000000 in
theorem canonical_any (w : World) (B : Nat) (A : Option Addr) (n c : Nat) (xs : List Int) (hx : RI .i32 w B A n xs) (hB : B ≤ w.heap.size) (hn : n ≤ 268435456) (hT : Lib.Utf8Tabs 3 4 w) :
  Calls Tryz.prog 160 #[.slice A n c] w fun e w' => e = .returned (.bool (canonB xs)) ∧ Below w.heap.size w w' := by
 have HX := Lib.hid hx
 have HT := Lib.hid hT
 clear hx hT
 cases ha : xs.all rightB with
 | false =>
  have hcb : canonB xs = false := by simp only [canonB, ha, Bool.false_and]
  have HA := Lib.hid ha
  rw [hcb]
  clear ha hcb
  go_enter Tryz.func160, Tryz.ntmps160
  go_wp2_with fail
  refine (encode_no w B A n c xs HX.out hB (by omega) HA.out).mono ?_
  rintro e w1 ⟨rfl, hb1⟩
  go_wp2
  go_ret
  exact ⟨rfl, hb1⟩
 | true =>
  have hcb : canonB xs = sameB (ofL (sb (encL xs))) xs := by simp only [canonB, ha, Bool.true_and]
  have HA := Lib.hid ha
  rw [hcb]
  clear ha hcb
  have hle := (encL_len xs).2
  rw [HX.out.len] at hle
  go_enter Tryz.func160, Tryz.ntmps160
  go_wp2_with fail
  refine (encode_yes w B A n c xs HX.out hB (by omega) HA.out).mono ?_
  rintro e w1 ⟨v1, rfl, hown1, hb1⟩
  obtain ⟨A1, c1, rfl, hc1, hm1, hr1⟩ := own_slice2 hown1
  have HR1 := Lib.hid hr1
  have hs1 := hb1.size
  clear hown1 hr1
  generalize hln : (encL xs).length = ln at *
  have HLN := Lib.hid hln
  clear hln
  go_wp2_with fail
  refine (decode_any w1 w1.heap.size A1 ln c1 (encL xs) HR1.out (Nat.le_refl _) (all_bd HA.out) hc1 (by omega) hm1 (tabs_below HT.out hb1)).mono ?_
  rintro e w2 ⟨v2, rfl, hown2, hb2⟩
  obtain ⟨A2, c2, rfl, hc2, hm2, hr2⟩ := own_slice2 hown2
  have HR2 := Lib.hid hr2
  have hs2 := hb2.size
  clear hown2 hr2
  have hx2 : RI .i32 w2 B A n xs := (HX.out.keep fun p hp => hb1.cell (p := p) (by omega)).keep fun p hp => hb2.cell (p := p) (by omega)
  have HX2 := Lib.hid hx2
  clear hx2
  generalize hl2 : (ofL (sb (encL xs))).length = l2 at *
  have HL2 := Lib.hid hl2
  clear hl2
  unfold maxLen at hm2
  go_wp2_with fail
  refine (equal_any w2 w2.heap.size B A2 A l2 c2 n c (ofL (sb (encL xs))) xs HR2.out HX2.out (by omega)).mono ?_
  rintro e w3 ⟨rfl, q, rfl⟩
  go_wp2
  go_ret
  exact ⟨rfl, below_drewN (hb1.trans (hb2.mono hs1)) q⟩
theorem canonical_is (w : World) (B : Nat) (A : Option Addr) (n c : Nat) (xs : List Int) (hx : RI .i32 w B A n xs) (hB : B ≤ w.heap.size) (hn : n ≤ 268435456) (hT : Lib.Utf8Tabs 3 4 w) (r : Bool) (hr : canonB xs = r) :
  Calls Tryz.prog 160 #[.slice A n c] w fun e w' => e = .returned (.bool r) ∧ Below w.heap.size w w' := by
 subst hr
 exact canonical_any w B A n c xs hx hB hn hT

end Go.Proofs.YthaibekbefndlaaGreatDoor.C

namespace Go.Proofs.YthaibekbefndlaaGreatDoor.C
open Go.RowKit

theorem dig_inj : ∀ a, a < 16 → ∀ b, b < 16 → dig a = dig b → a = b := by decide +kernel
theorem dig_no : ∀ a, a < 16 → dig a ≠ 125 := by decide +kernel
theorem hexL_ne : ∀ (n : Nat), hexL n ≠ [] := by
 intro n
 by_cases h : n < 16
 ·rw [hexL_small h]; simp
 ·rw [hexL_big h]; simp
theorem hexL_no (n : Nat) : (125 : UInt8) ∉ hexL n := by
 induction n using Nat.strongRecOn with
 | _ n ih =>
  by_cases h : n < 16
  ·rw [hexL_small h, List.mem_singleton]
   exact fun e => dig_no n h e.symm
  ·rw [hexL_big h, List.mem_append, List.mem_singleton]
   rintro (e | e)
   ·exact ih (n / 16) (by omega) e
   ·exact dig_no (n % 16) (by omega) e.symm
theorem hexL_inj : ∀ (a b : Nat), hexL a = hexL b → a = b := by
 intro a
 induction a using Nat.strongRecOn with
 | _ a ih =>
  intro b h
  by_cases ha : a < 16
  ·by_cases hb : b < 16
   ·rw [hexL_small ha, hexL_small hb] at h
    exact dig_inj a ha b hb (by simpa using h)
   ·rw [hexL_small ha, hexL_big hb] at h
    have := congrArg List.length h
    simp at this
    exact absurd this (hexL_ne _)
  ·by_cases hb : b < 16
   ·rw [hexL_small hb, hexL_big ha] at h
    have := congrArg List.length h
    simp at this
    exact absurd this (hexL_ne _)
   ·rw [hexL_big ha, hexL_big hb] at h
    have h2 := List.append_inj' h rfl
    have h3 := ih (a / 16) (by omega) (b / 16) h2.1
    have h4 := dig_inj (a % 16) (by omega) (b % 16) (by omega) (by simpa using h2.2)
    omega
theorem shown_kind {c : Int} (hc : rightB c = true) : (∃ m : Nat, m < 256 ∧ c = -1 - m ∧ shown c = [92, 120, dig (m / 16), dig (m % 16)]) ∨ (c = 92 ∧ shown c = [92, 92]) ∨ (c = 10 ∧ shown c = [92, 110]) ∨
  (∃ n : Nat, 32 ≤ n ∧ n ≤ 126 ∧ n ≠ 92 ∧ c = n ∧ shown c = [n.toUInt8]) ∨ (∃ n : Nat, c = n ∧ shown c = 92 :: 117 :: 123 :: (hexL n ++ [125])) := by
 have hr : -256 ≤ c ∧ c < 55296 ∨ 57343 < c ∧ c ≤ 1114111 := by
  unfold rightB at hc
  simpa using hc
 by_cases h1 : -256 ≤ c ∧ c < 0
 ·exact .inl ⟨(-1 - c).toNat, by omega, by omega, by unfold shown; rw [if_pos h1]⟩
 ·by_cases h2 : c = 92
  ·exact .inr (.inl ⟨h2, by subst h2; rfl⟩)
  ·by_cases h3 : c = 10
   ·exact .inr (.inr (.inl ⟨h3, by subst h3; rfl⟩))
   ·by_cases h4 : 32 ≤ c ∧ c ≤ 126
    ·refine .inr (.inr (.inr (.inl ⟨c.toNat, by omega, by omega, by omega, by omega, ?_⟩)))
     unfold shown
     rw [if_neg h1, if_neg (fun h => h hr), if_neg h2, if_neg h3, if_pos h4]
    ·refine .inr (.inr (.inr (.inr ⟨c.toNat, by omega, ?_⟩)))
     unfold shown
     rw [if_neg h1, if_neg (fun h => h hr), if_neg h2, if_neg h3, if_neg h4]
     simp
theorem u8_eq {a b : Nat} (ha : a < 256) (hb : b < 256) (h : a.toUInt8 = b.toUInt8) : a = b := by
 have := congrArg UInt8.toNat h
 simp at this
 omega
theorem split_125 : ∀ {a b x y : List UInt8}, (125 : UInt8) ∉ a → (125 : UInt8) ∉ b → a ++ 125 :: x = b ++ 125 :: y → a = b ∧ x = y
 | [], [], x, y, _, _, h => ⟨rfl, by simpa using h⟩
 | [], c :: b, x, y, _, hb, h => by
  simp at h
  exact absurd (h.1 ▸ List.mem_cons_self) hb
 | c :: a, [], x, y, ha, _, h => by
  simp at h
  exact absurd (h.1 ▸ List.mem_cons_self) ha
 | c :: a, d :: b, x, y, ha, hb, h => by
  simp only [List.cons_append, List.cons.injEq] at h
  obtain ⟨h1, h2⟩ := split_125 (fun e => ha (List.mem_cons_of_mem _ e)) (fun e => hb (List.mem_cons_of_mem _ e)) h.2
  exact ⟨by rw [h.1, h1], h2⟩
theorem u8_92 {n : Nat} (h1 : n ≤ 126) (h : n.toUInt8 = 92) : n = 92 := u8_eq (by omega) (by omega) h
theorem shown_cut {a b : Int} (ha : rightB a = true) (hb : rightB b = true) {x y : List UInt8} (h : shown a ++ x = shown b ++ y) : a = b ∧ x = y := by
 rcases shown_kind ha with ⟨m, m1, m2, e1⟩ | ⟨m2, e1⟩ | ⟨m2, e1⟩ | ⟨m, m0, m1, m3, m2, e1⟩ | ⟨m, m2, e1⟩ <;>
 rcases shown_kind hb with ⟨n, n1, n2, e2⟩ | ⟨n2, e2⟩ | ⟨n2, e2⟩ | ⟨n, n0, n1, n3, n2, e2⟩ | ⟨n, n2, e2⟩ <;>
 rw [e1, e2] at h <;> simp only [List.cons_append, List.nil_append, List.cons.injEq, List.append_assoc] at h
 ·have h1 := dig_inj (m / 16) (by omega) (n / 16) (by omega) h.2.2.1
  have h2 := dig_inj (m % 16) (by omega) (n % 16) (by omega) h.2.2.2.1
  exact ⟨by omega, h.2.2.2.2⟩
 ·exact absurd h.2.1 (by decide)
 ·exact absurd h.2.1 (by decide)
 ·exact absurd (u8_92 n1 h.1.symm) n3
 ·exact absurd h.2.1 (by decide)
 ·exact absurd h.2.1 (by decide)
 ·exact ⟨by omega, h.2.2⟩
 ·exact absurd h.2.1 (by decide)
 ·exact absurd (u8_92 n1 h.1.symm) n3
 ·exact absurd h.2.1 (by decide)
 ·exact absurd h.2.1 (by decide)
 ·exact absurd h.2.1 (by decide)
 ·exact ⟨by omega, h.2.2⟩
 ·exact absurd (u8_92 n1 h.1.symm) n3
 ·exact absurd h.2.1 (by decide)
 ·exact absurd (u8_92 m1 h.1) m3
 ·exact absurd (u8_92 m1 h.1) m3
 ·exact absurd (u8_92 m1 h.1) m3
 ·have := u8_eq (by omega) (by omega) h.1
  exact ⟨by omega, h.2⟩
 ·exact absurd (u8_92 m1 h.1) m3
 ·exact absurd h.2.1 (by decide)
 ·exact absurd h.2.1 (by decide)
 ·exact absurd h.2.1 (by decide)
 ·exact absurd (u8_92 n1 h.1.symm) n3
 ·obtain ⟨h1, h2⟩ := split_125 (hexL_no m) (hexL_no n) h.2.2.2
  have := hexL_inj m n h1
  exact ⟨by omega, h2⟩
theorem shown_ne (c : Int) : shown c ≠ [] := by
 unfold shown
 repeat' split
 all_goals simp
theorem textL_inj : ∀ {a b : List Int}, (∀ c ∈ a, rightB c = true) → (∀ c ∈ b, rightB c = true) → textL a = textL b → a = b
 | [], [], _, _, _ => rfl
 | [], c :: b, _, _, h => by
  have h' : [] = shown c ++ textL b := by simpa [textL] using h
  exact absurd (List.append_eq_nil_iff.1 h'.symm).1 (shown_ne c)
 | c :: a, [], _, _, h => by
  have h' : shown c ++ textL a = [] := by simpa [textL] using h
  exact absurd (List.append_eq_nil_iff.1 h').1 (shown_ne c)
 | c :: a, d :: b, ha, hb, h => by
  have h' : shown c ++ textL a = shown d ++ textL b := by simpa [textL] using h
  obtain ⟨h1, h2⟩ := shown_cut (ha c (by simp)) (hb d (by simp)) h'
  rw [h1, textL_inj (fun x hx => ha x (by simp [hx])) (fun x hx => hb x (by simp [hx])) h2]
end Go.Proofs.YthaibekbefndlaaGreatDoor.C

namespace Go.Proofs.YthaibekbefndlaaGreatDoor.C
open Go.RowKit

theorem numL_some {c : UInt8} {d : List UInt8} (hc : c = 85) : (numL (c :: d)).isSome = (decide (4 ≤ d.length) && decide (d.length ≤ 6) && d.all fun b => (digV b).isSome) := by
 rw [numL_cons]
 by_cases h : 4 ≤ d.length ∧ d.length ≤ 6
 ·rw [if_pos ⟨hc, h⟩, hexN_all]
  simp [h]
 ·rw [if_neg (fun hh => h hh.2)]
  by_cases h4 : 4 ≤ d.length
  ·have : ¬ d.length ≤ 6 := fun h6 => h ⟨h4, h6⟩
   simp [this]
  ·simp [h4]
set_option maxRecDepth 100000 in
set_option maxHeartbeats 2000000 in
theorem isScalarName_any (nm : List UInt8) (w : World) (hn : nm.length ≤ maxLen) : Calls Tryz.prog 110 #[.string (str nm)] w fun e w' => e = .returned (.bool (numL nm).isSome) ∧ Below w.heap.size w w' := by
 have hcp := Tryz.strings_CutPrefix (str nm) ⟨#[85]⟩ w
 by_cases h85 : ∃ d, nm = 85 :: d
 ·obtain ⟨d, rfl⟩ := h85
  have e1 : Lib.hasPrefix (str (85 :: d)).data.toList [85] = true := rfl
  have e2 : Lib.trimPrefix (str (85 :: d)).data.toList [85] = d := by unfold Lib.trimPrefix; rw [e1]; rfl
  rw [show (ByteArray.mk #[85]).data.toList = [85] from rfl, e1, e2] at hcp
  have hx := isHex_any (str d) 
  rw [str_list] at hx
  have hsz : (str d).size = d.length := str_size d
  have hdl : d.length ≤ 9223372036854775807 := by unfold maxLen at hn; simp at hn; omega
  rw [numL_some rfl]
  by_cases h4 : 4 ≤ d.length
  ·by_cases h6 : d.length ≤ 6
   ·have i4 : (4 : Int) ≤ (d.length : Int) := by omega
    have i6 : (d.length : Int) ≤ 6 := by omega
    have hne : d.isEmpty = false := by cases d with | nil => simp at h4 | cons => rfl
    rw [decide_eq_true h4, decide_eq_true h6]
    rw [hne] at hx
    simp only [Bool.true_and, Bool.not_false] at hx ⊢
    obtain ⟨r, hr⟩ : ∃ r, r = d.all fun b => (digV b).isSome := ⟨_, rfl⟩
    rw [← hr] at hx ⊢
    have hx2 := hx w (by rw [hsz]; exact hdl)
    change Calls Tryz.prog 118 #[.string (str (85 :: d)), .string ⟨#[85]⟩] w (fun e w' => e = .returned (.tuple #[.string (str d), .bool true]) ∧ w' = w) at hcp
    clear hr hx e1 e2 hne hn h4 h6
    go_enter Tryz.func110, Tryz.ntmps110
    go_wp2_with (first
     | (go_at_call 118; refine hcp.mono ?_; rintro e w1 ⟨rfl, rfl⟩)
     | (go_at_call 57; refine hx2.mono ?_; rintro e w2 ⟨rfl, hb⟩; (have HB := Lib.hid hb); clear hb))
    go_ret
    exact ⟨rfl, HB.out⟩
   ·have i4 : (4 : Int) ≤ (d.length : Int) := by omega
    have i6 : ¬ (d.length : Int) ≤ 6 := by omega
    rw [decide_eq_false h6]
    simp only [Bool.and_false, Bool.false_and]
    change Calls Tryz.prog 118 #[.string (str (85 :: d)), .string ⟨#[85]⟩] w (fun e w' => e = .returned (.tuple #[.string (str d), .bool true]) ∧ w' = w) at hcp
    clear hx e1 e2 hn h4 h6
    go_enter Tryz.func110, Tryz.ntmps110
    go_wp2_with (go_at_call 118; refine hcp.mono ?_; rintro e w1 ⟨rfl, rfl⟩)
    go_ret
    exact ⟨rfl, Below.refl _ _⟩
  ·have i4 : ¬ (4 : Int) ≤ (d.length : Int) := by omega
   rw [decide_eq_false h4]
   simp only [Bool.false_and]
   change Calls Tryz.prog 118 #[.string (str (85 :: d)), .string ⟨#[85]⟩] w (fun e w' => e = .returned (.tuple #[.string (str d), .bool true]) ∧ w' = w) at hcp
   clear hx e1 e2 hn h4
   go_enter Tryz.func110, Tryz.ntmps110
   go_wp2_with (go_at_call 118; refine hcp.mono ?_; rintro e w1 ⟨rfl, rfl⟩)
   go_ret
   exact ⟨rfl, Below.refl _ _⟩
 ·have e1 : Lib.hasPrefix (str nm).data.toList [85] = false := by
   rw [str_list]
   unfold Lib.hasPrefix
   cases nm with
   | nil => rfl
   | cons c d =>
    have : ¬ (85 : UInt8) = c := fun e => h85 ⟨d, by rw [e]⟩
    simp [List.isPrefixOf, this]
  rw [show (ByteArray.mk #[85]).data.toList = [85] from rfl, e1] at hcp
  have hnl : (numL nm).isSome = false := by
   cases nm with
   | nil => rfl
   | cons c d => rw [numL_cons, if_neg (fun hh => h85 ⟨d, by rw [hh.1]⟩)]; rfl
  rw [hnl]
  clear hnl e1 h85 hn
  go_enter Tryz.func110, Tryz.ntmps110
  go_wp2_with (go_at_call 118; refine hcp.mono ?_; rintro e w1 ⟨rfl, rfl⟩)
  go_ret
  exact ⟨rfl, Below.refl _ _⟩
end Go.Proofs.YthaibekbefndlaaGreatDoor.C
