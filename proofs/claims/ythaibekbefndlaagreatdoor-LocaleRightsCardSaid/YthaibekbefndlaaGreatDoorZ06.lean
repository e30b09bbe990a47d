/-
  Joined: LawKit, MLxT, MLxV, MUtfM. Each with what its own head says.
-/
import Derived.Test.YthaibekbefndlaaGreatDoorZ04

namespace Go.Proofs.YthaibekbefndlaaGreatDoor.L
open Go.ChangeShapes Go.WideShapes Go.ChangeAt Go.RowKit

theorem own : ownKnob Tryz.prog.godebug = none := by kernel_rfl
theorem laidOut : laidOutB Tryz.prog = true := by kernel_rfl
theorem gTab : Tryz.prog.globalNamed "math/bits.deBruijn64tab" = some 10 := by kernel_rfl
theorem gTabType : (Tryz.prog.globals[10]?).map (·.type) = some 277 := by kernel_rfl
theorem cellsTab : Tryz.prog.cellsOf 277 = 64 := by kernel_rfl
theorem cells5 : Tryz.prog.cellsOf 5 = 1 := by kernel_rfl
theorem gErr : Tryz.prog.globalNamed "strconv.ErrSyntax" = some 5 := by kernel_rfl
theorem gErrType : (Tryz.prog.globals[5]?).map (·.type) = some 179 := by kernel_rfl
theorem cellsErr : Tryz.prog.cellsOf 264 = 1 := by kernel_rfl
theorem cellsStr : Tryz.prog.cellsOf 9 = 1 := by kernel_rfl
theorem star : "*" ++ "errors.errorString" = "*errors.errorString" := by decide
theorem rowErr (u : TypeId) (h : Tryz.prog.typeName? 3 u = some "*errors.errorString") : u = 262 :=
 typeName_ptr_named (nm := "errors.errorString") (by rw [star]; kernel_rfl) (by kernel_rfl) (by decide) u (by rw [star]; exact h)
theorem gSig : Tryz.prog.globalNamed "redactor/lex.signs" = some 0 := by kernel_rfl
theorem gSigType : (Tryz.prog.globals[0]?).map (·.type) = some 158 := by kernel_rfl
theorem cellsSig : Tryz.prog.cellsOf 158 = 5 := by kernel_rfl
theorem table {W : World} (h0 : laidMetH Tryz.prog [("math/bits.deBruijn32tab", Rows.laid_math_bits_deBruijn32tab), ("math/bits.deBruijn64tab", Rows.laid_math_bits_deBruijn64tab), ("internal/strconv.uint64pow10", Rows.laid_internal_strconv_uint64pow10), ("unicode/utf8.acceptRanges", Rows.laid_unicode_utf8_acceptRanges), ("strconv.ErrRange", Rows.laid_strconv_ErrRange), ("strconv.ErrSyntax", Rows.laid_strconv_ErrSyntax), ("bytes.ErrTooLarge", Rows.laid_bytes_ErrTooLarge), ("redactor/lex.signs", Rows.laid_redactor_lex_signs), ("unicode.CaseRanges", Rows.laid_unicode_CaseRanges), ("unicode/utf8.first", Rows.laid_unicode_utf8_first)] W) : W.cell? ⟨10, 15, none⟩ = some (.int .u8 4) := by
 have h : laidMet Tryz.prog [("math/bits.deBruijn32tab", Rows.laid_math_bits_deBruijn32tab), ("math/bits.deBruijn64tab", Rows.laid_math_bits_deBruijn64tab), ("internal/strconv.uint64pow10", Rows.laid_internal_strconv_uint64pow10), ("unicode/utf8.acceptRanges", Rows.laid_unicode_utf8_acceptRanges), ("strconv.ErrRange", Rows.laid_strconv_ErrRange), ("strconv.ErrSyntax", Rows.laid_strconv_ErrSyntax), ("bytes.ErrTooLarge", Rows.laid_bytes_ErrTooLarge), ("redactor/lex.signs", Rows.laid_redactor_lex_signs), ("unicode.CaseRanges", Rows.laid_unicode_CaseRanges), ("unicode/utf8.first", Rows.laid_unicode_utf8_first)] W := h0
 have ht : Lib.TabIs Tryz.prog W "math/bits.deBruijn64tab" .u8 [0, 1, 56, 2, 57, 49, 28, 3, 61, 58, 42, 50, 38, 29, 17, 4, 62, 47, 59, 36, 45, 43, 51, 22, 53, 39, 33, 30, 24, 18, 12, 5, 63, 55, 48, 27, 60, 41, 37, 16, 46, 35, 44, 21, 52, 32, 23, 11, 54, 26, 40, 15, 34, 20, 31, 10, 25, 14, 19, 9, 13, 8, 7, 6] :=
  Lib.tabIs_of_head gTab gTabType Tryz.underlying277 Tryz.underlying5 cells5 cellsTab (laidMet.tail h)
 exact ht.cell gTab 15 (by decide)
theorem sentinel {W : World} (h0 : laidMetH Tryz.prog [("math/bits.deBruijn32tab", Rows.laid_math_bits_deBruijn32tab), ("math/bits.deBruijn64tab", Rows.laid_math_bits_deBruijn64tab), ("internal/strconv.uint64pow10", Rows.laid_internal_strconv_uint64pow10), ("unicode/utf8.acceptRanges", Rows.laid_unicode_utf8_acceptRanges), ("strconv.ErrRange", Rows.laid_strconv_ErrRange), ("strconv.ErrSyntax", Rows.laid_strconv_ErrSyntax), ("bytes.ErrTooLarge", Rows.laid_bytes_ErrTooLarge), ("redactor/lex.signs", Rows.laid_redactor_lex_signs), ("unicode.CaseRanges", Rows.laid_unicode_CaseRanges), ("unicode/utf8.first", Rows.laid_unicode_utf8_first)] W) : ∃ ev, W.cell? ⟨5, 0, none⟩ = some ev ∧ (ev = .nilIface ∨ ∃ te pe, ev = .iface te pe) := by
 have h : laidMet Tryz.prog [("math/bits.deBruijn32tab", Rows.laid_math_bits_deBruijn32tab), ("math/bits.deBruijn64tab", Rows.laid_math_bits_deBruijn64tab), ("internal/strconv.uint64pow10", Rows.laid_internal_strconv_uint64pow10), ("unicode/utf8.acceptRanges", Rows.laid_unicode_utf8_acceptRanges), ("strconv.ErrRange", Rows.laid_strconv_ErrRange), ("strconv.ErrSyntax", Rows.laid_strconv_ErrSyntax), ("bytes.ErrTooLarge", Rows.laid_bytes_ErrTooLarge), ("redactor/lex.signs", Rows.laid_redactor_lex_signs), ("unicode.CaseRanges", Rows.laid_unicode_CaseRanges), ("unicode/utf8.first", Rows.laid_unicode_utf8_first)] W := h0
 obtain ⟨a, s, hv, _, _, _⟩ := laid_sentinel (laidMet.tail (laidMet.tail (laidMet.tail (laidMet.tail (laidMet.tail h))))) gErr gErrType Tryz.underlying179 rowErr Tryz.underlying262 Tryz.underlying264 rfl rfl Tryz.underlying9 cellsErr cellsStr
 exact ⟨_, by simpa using World.var?_cell gErr hv 0, .inr ⟨_, _, rfl⟩⟩
theorem signs {W : World} (h0 : laidMetH Tryz.prog [("math/bits.deBruijn32tab", Rows.laid_math_bits_deBruijn32tab), ("math/bits.deBruijn64tab", Rows.laid_math_bits_deBruijn64tab), ("internal/strconv.uint64pow10", Rows.laid_internal_strconv_uint64pow10), ("unicode/utf8.acceptRanges", Rows.laid_unicode_utf8_acceptRanges), ("strconv.ErrRange", Rows.laid_strconv_ErrRange), ("strconv.ErrSyntax", Rows.laid_strconv_ErrSyntax), ("bytes.ErrTooLarge", Rows.laid_bytes_ErrTooLarge), ("redactor/lex.signs", Rows.laid_redactor_lex_signs), ("unicode.CaseRanges", Rows.laid_unicode_CaseRanges), ("unicode/utf8.first", Rows.laid_unicode_utf8_first)] W) : ∃ t f, W.heap[(0 : Nat)]? = some (.cells #[.string ⟨#[59]⟩, .string ⟨#[44]⟩, .string ⟨#[40]⟩, .string ⟨#[41]⟩, .string ⟨#[46, 46, 46]⟩] t f) := by
 have h : laidMet Tryz.prog [("math/bits.deBruijn32tab", Rows.laid_math_bits_deBruijn32tab), ("math/bits.deBruijn64tab", Rows.laid_math_bits_deBruijn64tab), ("internal/strconv.uint64pow10", Rows.laid_internal_strconv_uint64pow10), ("unicode/utf8.acceptRanges", Rows.laid_unicode_utf8_acceptRanges), ("strconv.ErrRange", Rows.laid_strconv_ErrRange), ("strconv.ErrSyntax", Rows.laid_strconv_ErrSyntax), ("bytes.ErrTooLarge", Rows.laid_bytes_ErrTooLarge), ("redactor/lex.signs", Rows.laid_redactor_lex_signs), ("unicode.CaseRanges", Rows.laid_unicode_CaseRanges), ("unicode/utf8.first", Rows.laid_unicode_utf8_first)] W := h0
 obtain ⟨g, t, cs, fuel, p, hg, hty, hvar, hd⟩ := Lib.laidMet.reads h (n := "redactor/lex.signs") (d := Rows.laid_redactor_lex_signs) (by simp)
 obtain rfl := Option.some.inj (gSig.symm.trans hg)
 obtain rfl := Option.some.inj (gSigType.symm.trans hty)
 obtain ⟨xs, m, _, ex, hlen, hl, hel⟩ := DataW.trod_array Tryz.underlying158 hd
 rw [cellsSig] at hlen
 have ed : (DataW.agg (xs.map (·.1)) : DataW Unit) = Rows.laid_redactor_lex_signs := (Prod.mk.inj ex).1.symm
 have one : ∀ i (hi : i < 5) (b : List UInt8), (xs.map (·.1))[i]? = some (DataW.lit (.string b)) → cs.toList[i]? = some (.string ⟨b.toArray⟩) := by
  intro i hi b hb
  have hE := hel i hi
  rw [cellsStr, Nat.mul_one, List.getElem?_eq_getElem (by omega)] at hE
  obtain ⟨s, e1, e2, _⟩ := DataW.trod_string Tryz.underlying9 hE
  rw [List.getElem?_map, List.getElem?_eq_getElem (by omega), Option.map_some, e2] at hb
  have hs : s.data.toList = b := by simpa using hb
  have h0 : ((cs.toList.drop i).take 1)[0]? = some (.string s) := by rw [e1]; rfl
  have h1 : cs.toList[i]? = some (.string s) := by simpa using h0
  rw [h1, ← hs]
 have ex2 : xs.map (·.1) = [.lit (.string [59]), .lit (.string [44]), .lit (.string [40]), .lit (.string [41]), .lit (.string [46, 46, 46])] := by
  have := ed
  unfold Rows.laid_redactor_lex_signs at this
  exact DataW.agg.inj this
 have hcs : cs.toList = [.string ⟨#[59]⟩, .string ⟨#[44]⟩, .string ⟨#[40]⟩, .string ⟨#[41]⟩, .string ⟨#[46, 46, 46]⟩] := by
  apply List.ext_getElem?
  intro i
  rcases (by omega : i = 0 ∨ i = 1 ∨ i = 2 ∨ i = 3 ∨ i = 4 ∨ 5 ≤ i) with rfl | rfl | rfl | rfl | rfl | h5
  ·exact one 0 (by omega) [59] (by rw [ex2]; rfl)
  ·exact one 1 (by omega) [44] (by rw [ex2]; rfl)
  ·exact one 2 (by omega) [40] (by rw [ex2]; rfl)
  ·exact one 3 (by omega) [41] (by rw [ex2]; rfl)
  ·exact one 4 (by omega) [46, 46, 46] (by rw [ex2]; rfl)
  ·rw [List.getElem?_eq_none (by omega), List.getElem?_eq_none (by simpa using h5)]
 have hv2 := hvar
 unfold World.var? at hv2
 rw [hg] at hv2
 simp only [Option.bind_some] at hv2
 cases hh : W.heap[(0 : Nat)]? with
 | none => rw [hh] at hv2; cases hv2
 | some o =>
  cases o with
  | cells c t f =>
   rw [hh] at hv2
   simp only [Option.some.injEq] at hv2
   subst hv2
   refine ⟨t, f, ?_⟩
   congr 2
   exact Array.toList_inj.1 hcs
  | _ => rw [hh] at hv2; cases hv2
theorem nF : Tryz.prog.globalNamed "unicode/utf8.first" = some 3 := by kernel_rfl
theorem nA : Tryz.prog.globalNamed "unicode/utf8.acceptRanges" = some 4 := by kernel_rfl
theorem yF : (Tryz.prog.globals[3]?).map (·.type) = some 237 := by kernel_rfl
theorem yA : (Tryz.prog.globals[4]?).map (·.type) = some 240 := by kernel_rfl
theorem c5 : Tryz.prog.cellsOf 5 = 1 := by kernel_rfl
theorem c256 : Tryz.prog.cellsOf 237 = 256 := by kernel_rfl
theorem c2 : Tryz.prog.cellsOf 239 = 2 := by kernel_rfl
theorem dF : (Rows.laid_unicode_utf8_first : DataW Unit) = Lib.firstData := by kernel_rfl
theorem dA : (Rows.laid_unicode_utf8_acceptRanges : DataW Unit) = Lib.acceptData := by kernel_rfl
theorem tables {W : World} (h0 : laidMetH Tryz.prog [("math/bits.deBruijn32tab", Rows.laid_math_bits_deBruijn32tab), ("math/bits.deBruijn64tab", Rows.laid_math_bits_deBruijn64tab), ("internal/strconv.uint64pow10", Rows.laid_internal_strconv_uint64pow10), ("unicode/utf8.acceptRanges", Rows.laid_unicode_utf8_acceptRanges), ("strconv.ErrRange", Rows.laid_strconv_ErrRange), ("strconv.ErrSyntax", Rows.laid_strconv_ErrSyntax), ("bytes.ErrTooLarge", Rows.laid_bytes_ErrTooLarge), ("redactor/lex.signs", Rows.laid_redactor_lex_signs), ("unicode.CaseRanges", Rows.laid_unicode_CaseRanges), ("unicode/utf8.first", Rows.laid_unicode_utf8_first)] W) : Lib.Utf8Tabs 3 4 W := by
 have h : laidMet Tryz.prog [("math/bits.deBruijn32tab", Rows.laid_math_bits_deBruijn32tab), ("math/bits.deBruijn64tab", Rows.laid_math_bits_deBruijn64tab), ("internal/strconv.uint64pow10", Rows.laid_internal_strconv_uint64pow10), ("unicode/utf8.acceptRanges", Rows.laid_unicode_utf8_acceptRanges), ("strconv.ErrRange", Rows.laid_strconv_ErrRange), ("strconv.ErrSyntax", Rows.laid_strconv_ErrSyntax), ("bytes.ErrTooLarge", Rows.laid_bytes_ErrTooLarge), ("redactor/lex.signs", Rows.laid_redactor_lex_signs), ("unicode.CaseRanges", Rows.laid_unicode_CaseRanges), ("unicode/utf8.first", Rows.laid_unicode_utf8_first)] W := h0
 have h3 : Lib.VarReads Tryz.prog W "unicode/utf8.first" Lib.firstData := by
  have := Lib.laidMet.reads h (n := "unicode/utf8.first") (d := Rows.laid_unicode_utf8_first) (by simp)
  rwa [dF] at this
 have h4 : Lib.VarReads Tryz.prog W "unicode/utf8.acceptRanges" Lib.acceptData := by
  have := Lib.laidMet.reads h (n := "unicode/utf8.acceptRanges") (d := Rows.laid_unicode_utf8_acceptRanges) (by simp)
  rwa [dA] at this
 refine ⟨fun c hc => ?_, fun i hi => ?_⟩
 ·obtain ⟨g, t, cs, fuel, p, hg, hty, hvar, hd⟩ := h3
  obtain rfl := Option.some.inj (nF.symm.trans hg)
  obtain rfl := Option.some.inj (yF.symm.trans hty)
  have hcs := Lib.cells_of_tab Tryz.underlying237 Tryz.underlying5 c5 c256 hd
  rw [World.var?_cell hg hvar c, ← Array.getElem?_toList, hcs]
  simp [Lib.firstTab, hc]
 ·obtain ⟨g, t, cs, fuel, p, hg, hty, hvar, hd⟩ := h4
  obtain rfl := Option.some.inj (nA.symm.trans hg)
  obtain rfl := Option.some.inj (yA.symm.trans hty)
  obtain ⟨fuel', d, q, hdi, he⟩ := Lib.array_elem Tryz.underlying240 hd i hi
  simp only [List.getElem?_map, List.getElem?_range hi, Option.map_some, Option.some.injEq] at hdi
  subst hdi
  rw [c2] at he
  have hcs := Lib.ints_of_struct Tryz.underlying239 (fun j f hj => by
   match j, hj with
   | 0, hj => simp at hj; subst hj; exact ⟨Tryz.underlying5, rfl, c5⟩
   | 1, hj => simp at hj; subst hj; exact ⟨Tryz.underlying5, rfl, c5⟩
   | j + 2, hj => simp at hj) (by rw [c2]; rfl) he
  have e0 := congrArg (·[0]?) hcs
  have e1 := congrArg (·[1]?) hcs
  simp only [List.getElem?_take, List.getElem?_drop] at e0 e1
  constructor
  ·rw [World.var?_cell hg hvar (2 * i), ← Array.getElem?_toList]
   simpa [Nat.mul_comm] using e0
  ·rw [World.var?_cell hg hvar (2 * i + 1), ← Array.getElem?_toList]
   simpa [Nat.mul_comm] using e1

theorem gl0 {W : World} (h0 : laidMetH Tryz.prog [("math/bits.deBruijn32tab", Rows.laid_math_bits_deBruijn32tab), ("math/bits.deBruijn64tab", Rows.laid_math_bits_deBruijn64tab), ("internal/strconv.uint64pow10", Rows.laid_internal_strconv_uint64pow10), ("unicode/utf8.acceptRanges", Rows.laid_unicode_utf8_acceptRanges), ("strconv.ErrRange", Rows.laid_strconv_ErrRange), ("strconv.ErrSyntax", Rows.laid_strconv_ErrSyntax), ("bytes.ErrTooLarge", Rows.laid_bytes_ErrTooLarge), ("redactor/lex.signs", Rows.laid_redactor_lex_signs), ("unicode.CaseRanges", Rows.laid_unicode_CaseRanges), ("unicode/utf8.first", Rows.laid_unicode_utf8_first)] W) : C.Gl W := ⟨sentinel h0, table h0, signs h0⟩
theorem gl {W : World} (h0 : laidMetH Tryz.prog [("math/bits.deBruijn32tab", Rows.laid_math_bits_deBruijn32tab), ("math/bits.deBruijn64tab", Rows.laid_math_bits_deBruijn64tab), ("internal/strconv.uint64pow10", Rows.laid_internal_strconv_uint64pow10), ("unicode/utf8.acceptRanges", Rows.laid_unicode_utf8_acceptRanges), ("strconv.ErrRange", Rows.laid_strconv_ErrRange), ("strconv.ErrSyntax", Rows.laid_strconv_ErrSyntax), ("bytes.ErrTooLarge", Rows.laid_bytes_ErrTooLarge), ("redactor/lex.signs", Rows.laid_redactor_lex_signs), ("unicode.CaseRanges", Rows.laid_unicode_CaseRanges), ("unicode/utf8.first", Rows.laid_unicode_utf8_first)] W) : C.Gm W := ⟨gl0 h0, tables h0⟩

noncomputable def laidWorld (os : Os) : World := World.laidAll Tryz.prog os [("math/bits.deBruijn32tab", Rows.laid_math_bits_deBruijn32tab), ("math/bits.deBruijn64tab", Rows.laid_math_bits_deBruijn64tab), ("internal/strconv.uint64pow10", Rows.laid_internal_strconv_uint64pow10), ("unicode/utf8.acceptRanges", Rows.laid_unicode_utf8_acceptRanges), ("strconv.ErrRange", Rows.laid_strconv_ErrRange), ("strconv.ErrSyntax", Rows.laid_strconv_ErrSyntax), ("bytes.ErrTooLarge", Rows.laid_bytes_ErrTooLarge), ("redactor/lex.signs", Rows.laid_redactor_lex_signs), ("unicode.CaseRanges", Rows.laid_unicode_CaseRanges), ("unicode/utf8.first", Rows.laid_unicode_utf8_first)]
theorem laid_met (os : Os) (args : Array Value) : laidMet Tryz.prog [("math/bits.deBruijn32tab", Rows.laid_math_bits_deBruijn32tab), ("math/bits.deBruijn64tab", Rows.laid_math_bits_deBruijn64tab), ("internal/strconv.uint64pow10", Rows.laid_internal_strconv_uint64pow10), ("unicode/utf8.acceptRanges", Rows.laid_unicode_utf8_acceptRanges), ("strconv.ErrRange", Rows.laid_strconv_ErrRange), ("strconv.ErrSyntax", Rows.laid_strconv_ErrSyntax), ("bytes.ErrTooLarge", Rows.laid_bytes_ErrTooLarge), ("redactor/lex.signs", Rows.laid_redactor_lex_signs), ("unicode.CaseRanges", Rows.laid_unicode_CaseRanges), ("unicode/utf8.first", Rows.laid_unicode_utf8_first)] ((laidWorld os).forCall (fun _ _ => 0) ⟨#[], args, []⟩).memory :=
 laidMet_laidAll _ (by kernel_rfl) (by kernel_rfl)
theorem witness {H : Type} {enc : TypeId × Value → H} {C : Checked} {os : Os} {f : FuncId} {fn : Func} {s : OpenSpec} {conds : List PathCond} {apart : Bool} {laid : List (String × DataW Unit)} (modest : Bool) (w0 : World) (args : Array Value) (hos : w0.os = os)
  (hsh : (w0.forCall (fun _ _ => 0) ⟨#[], args, []⟩).Shaped C.prog)
  (hok : Input.okWideB C.prog (w0.forCall (fun _ _ => 0) ⟨#[], args, []⟩) f ⟨#[], args, []⟩ = true)
  (hrow : s.preRow enc C.prog fn conds apart laid (w0.forCall (fun _ _ => 0) ⟨#[], args, []⟩).memory args) :
  ∃ (w : World) (tape : Tape) (i : Input), w.os = os ∧ (w.forCall tape i).Shaped C.prog ∧ i.vars = [] ∧ Input.okWide C.prog (w.forCall tape i) .any w.heap.size f i ∧
   s.preRow enc C.prog fn conds apart laid (w.forCall tape i).memory i.args ∧ ({ modest := modest } : Assume).holds C.prog (lone (Frame.enter C.prog f i.args .normal) [] (w.forCall tape i)) :=
 ⟨w0, fun _ _ => 0, ⟨#[], args, []⟩, hos, hsh, (Input.okWide_of_okWideB (base := 0) hok).1, (Input.okWide_of_okWideB hok).2, hrow, by
  simp only [Assume.holds]
  exact ⟨by simp, by simp, fun _ => Modest.zero, by simp, by simp⟩⟩

def IsRow (k : IntKind) (w : World) (a : Option Addr) (len cap : Nat) (zs : List Int) : Prop :=
 (a = none ∧ len = 0 ∧ cap = 0 ∧ zs = []) ∨
 ∃ x, a = some x ∧ len ≤ cap ∧ cap ≤ maxLen ∧ zs.length = cap ∧ (∀ i, i < zs.length → w.cell? (x.add i) = some (.int k (zs.getD i 0))) ∧ ∀ n ∈ zs, (Lit.int k n).wf = true
end Go.Proofs.YthaibekbefndlaaGreatDoor.L

namespace Go.Proofs.YthaibekbefndlaaGreatDoor.C
open Go.RowKit

def sgB : Nat → ByteArray
 | 0 => ⟨#[59]⟩
 | 1 => ⟨#[44]⟩
 | 2 => ⟨#[40]⟩
 | 3 => ⟨#[41]⟩
 | _ => ⟨#[46, 46, 46]⟩
def SignTold (w : World) (R : Nat) (s : ByteArray) (k : Nat) (ts : List Tok) (J : Nat) (e : Ending) (w' : World) : Prop :=
 if J < 5 then Stepped w R s true (k + (sgB J).size) (ts ++ [⟨2, (sgB J).data.toList, 0, k⟩]) e w' else Stepped w R s false k ts e w'
theorem signs_cells {w : World} (h : Gl w) : w.cell? ⟨0, 0, none⟩ = some (.string ⟨#[59]⟩) ∧ w.cell? ⟨0, 1, none⟩ = some (.string ⟨#[44]⟩) ∧ w.cell? ⟨0, 2, none⟩ = some (.string ⟨#[40]⟩) ∧ w.cell? ⟨0, 3, none⟩ = some (.string ⟨#[41]⟩) ∧ w.cell? ⟨0, 4, none⟩ = some (.string ⟨#[46, 46, 46]⟩) := by
 obtain ⟨_, _, t, f, h⟩ := h
 simp [World.cell?, h]

theorem sig_ix0 (W : World) : (Instr.index 158 (.agg #[.string ⟨#[59]⟩, .string ⟨#[44]⟩, .string ⟨#[40]⟩, .string ⟨#[41]⟩, .string ⟨#[46, 46, 46]⟩]) (.int .i64 0)).run Tryz.prog W = .ok (.string ⟨#[59]⟩) W := by kernel_rfl
theorem sig_ix1 (W : World) : (Instr.index 158 (.agg #[.string ⟨#[59]⟩, .string ⟨#[44]⟩, .string ⟨#[40]⟩, .string ⟨#[41]⟩, .string ⟨#[46, 46, 46]⟩]) (.int .i64 1)).run Tryz.prog W = .ok (.string ⟨#[44]⟩) W := by kernel_rfl
theorem sig_ix2 (W : World) : (Instr.index 158 (.agg #[.string ⟨#[59]⟩, .string ⟨#[44]⟩, .string ⟨#[40]⟩, .string ⟨#[41]⟩, .string ⟨#[46, 46, 46]⟩]) (.int .i64 2)).run Tryz.prog W = .ok (.string ⟨#[40]⟩) W := by kernel_rfl
theorem sig_ix3 (W : World) : (Instr.index 158 (.agg #[.string ⟨#[59]⟩, .string ⟨#[44]⟩, .string ⟨#[40]⟩, .string ⟨#[41]⟩, .string ⟨#[46, 46, 46]⟩]) (.int .i64 3)).run Tryz.prog W = .ok (.string ⟨#[41]⟩) W := by kernel_rfl
theorem sig_ix4 (W : World) : (Instr.index 158 (.agg #[.string ⟨#[59]⟩, .string ⟨#[44]⟩, .string ⟨#[40]⟩, .string ⟨#[41]⟩, .string ⟨#[46, 46, 46]⟩]) (.int .i64 4)).run Tryz.prog W = .ok (.string ⟨#[46, 46, 46]⟩) W := by kernel_rfl

set_option maxRecDepth 100000 in
set_option maxHeartbeats 4000000 in
theorem ssign_any (w : World) (R k : Nat) (s : ByteArray) (ts : List Tok) (h : RD w R s k ts) (hG : Gl w) (hk : k < s.size) (hs : s.size ≤ 4000) (hts : ts.length ≤ 4500) (J : Nat) (hJ : J ≤ 5)
  (hn : ∀ i, i < J → i < 5 → Lib.hasPrefix (s.data.toList.drop k) (sgB i).data.toList = false) (hy : J < 5 → Lib.hasPrefix (s.data.toList.drop k) (sgB J).data.toList = true) :
  Calls Tryz.prog 70 #[.pointer (some ⟨R, 0, none⟩)] w (SignTold w R s k ts J) := by
 have H := Lib.hid h
 have hrest := fun n => rest_any (w.drewN n) R k s ts (h.drewN n) (by omega) hs
 have hno := fun i (h1 : i < J) (h2 : i < 5) W => hasPrefix_no (s.data.toList.drop k) (sgB i) W (hn i h1 h2)
 have hyes := fun h1 W => hasPrefix_yes (s.data.toList.drop k) (sgB J) W (hy h1)
 have hadd := fun n (t : List UInt8) (m : Nat) (h1 : m ≤ 3) (h2 : t.length ≤ 3) => add_any (w.drewN n) R k s ts (h.drewN n) 2 0 m t 0 (by omega) (by omega) (by omega)
 generalize s.data.toList.drop k = L at *
 obtain ⟨z0, z1, z2, z3, z4⟩ := signs_cells hG
 have HG := Lib.hid hG
 clear h hG hn hy
 go_enter Tryz.func70, Tryz.ntmps70
 go_wp2
 clear z0 z1 z2 z3 z4
 go_loopw [6] (fun iv wr => ∃ (i n : Nat) (j : Int), i ≤ J ∧ i ≤ 5 ∧ j = (i : Int) ∧ iv = .int .i64 j ∧ wr = w.drewN n) (fun iv _ => 5 - (intOf iv).toNat)
 case atStart => exact ⟨0, 0, 0, Nat.zero_le _, Nat.zero_le _, rfl, rfl, rfl⟩
 case round =>
  obtain ⟨i, n, j, hiJ, hi5, hj, rfl, rfl⟩ := hrel
  have hcase : i = 0 ∨ i = 1 ∨ i = 2 ∨ i = 3 ∨ i = 4 ∨ i = 5 := by omega
  rcases hcase with rfl | rfl | rfl | rfl | rfl | rfl
  ·obtain rfl : j = 0 := by omega
   have hix := sig_ix0
   clear hj
   by_cases hJi : 0 = J
   ·subst hJi
    have h1 : ∀ W, Calls Tryz.prog 114 #[.string (str L), .string ⟨#[59]⟩] W fun e w' => e = .returned (.bool true) ∧ w' = W := fun W => hyes (by omega) W
    have h2 : ∀ n, Calls Tryz.prog 115 #[.pointer (some ⟨R, 0, none⟩), .agg #[.int .u8 2, .string ⟨#[59]⟩, .int .i64 0, .int .i64 0], .int .i64 1] (w.drewN n) fun e w' => e = .returned (.tuple #[]) ∧ RD w' R s (k + 1) (ts ++ [⟨2, [59], 0, k⟩]) ∧ Bk R (w.drewN n) w' := fun n => hadd n [59] 1 (by omega) (by simp)
    clear hno hyes hadd
    go_wp2_with (first
     | (go_at_call 113; refine (hrest _).mono ?_; rintro e w' ⟨rfl, n, rfl⟩)
     | (go_at_call 114; refine (h1 _).mono ?_; rintro e w' ⟨rfl, rfl⟩)
     | (go_at_call 115; refine (h2 _).mono ?_; rintro e w1 ⟨rfl, hr, hb1⟩))
    go_ret
    exact ⟨rfl, hr, (bk_drewN _ _ _).trans hb1⟩
   ·have h1 : ∀ W, Calls Tryz.prog 114 #[.string (str L), .string ⟨#[59]⟩] W fun e w' => e = .returned (.bool false) ∧ w' = W := fun W => hno 0 (by omega) (by omega) W
    go_wp2_with (first
     | (go_at_call 113; refine (hrest _).mono ?_; rintro e w' ⟨rfl, n, rfl⟩)
     | (go_at_call 114; refine (h1 _).mono ?_; rintro e w' ⟨rfl, rfl⟩))
    go_roundw
    case rel => exact ⟨1, _, 1, by omega, by omega, rfl, rfl, rfl⟩
    case measure => simp [intOf]
  ·obtain rfl : j = 1 := by omega
   have hix := sig_ix1
   clear hj
   by_cases hJi : 1 = J
   ·subst hJi
    have h1 : ∀ W, Calls Tryz.prog 114 #[.string (str L), .string ⟨#[44]⟩] W fun e w' => e = .returned (.bool true) ∧ w' = W := fun W => hyes (by omega) W
    have h2 : ∀ n, Calls Tryz.prog 115 #[.pointer (some ⟨R, 0, none⟩), .agg #[.int .u8 2, .string ⟨#[44]⟩, .int .i64 0, .int .i64 0], .int .i64 1] (w.drewN n) fun e w' => e = .returned (.tuple #[]) ∧ RD w' R s (k + 1) (ts ++ [⟨2, [44], 0, k⟩]) ∧ Bk R (w.drewN n) w' := fun n => hadd n [44] 1 (by omega) (by simp)
    clear hno hyes hadd
    go_wp2_with (first
     | (go_at_call 113; refine (hrest _).mono ?_; rintro e w' ⟨rfl, n, rfl⟩)
     | (go_at_call 114; refine (h1 _).mono ?_; rintro e w' ⟨rfl, rfl⟩)
     | (go_at_call 115; refine (h2 _).mono ?_; rintro e w1 ⟨rfl, hr, hb1⟩))
    go_ret
    exact ⟨rfl, hr, (bk_drewN _ _ _).trans hb1⟩
   ·have h1 : ∀ W, Calls Tryz.prog 114 #[.string (str L), .string ⟨#[44]⟩] W fun e w' => e = .returned (.bool false) ∧ w' = W := fun W => hno 1 (by omega) (by omega) W
    go_wp2_with (first
     | (go_at_call 113; refine (hrest _).mono ?_; rintro e w' ⟨rfl, n, rfl⟩)
     | (go_at_call 114; refine (h1 _).mono ?_; rintro e w' ⟨rfl, rfl⟩))
    go_roundw
    case rel => exact ⟨2, _, 2, by omega, by omega, rfl, rfl, rfl⟩
    case measure => simp [intOf]
  ·obtain rfl : j = 2 := by omega
   have hix := sig_ix2
   clear hj
   by_cases hJi : 2 = J
   ·subst hJi
    have h1 : ∀ W, Calls Tryz.prog 114 #[.string (str L), .string ⟨#[40]⟩] W fun e w' => e = .returned (.bool true) ∧ w' = W := fun W => hyes (by omega) W
    have h2 : ∀ n, Calls Tryz.prog 115 #[.pointer (some ⟨R, 0, none⟩), .agg #[.int .u8 2, .string ⟨#[40]⟩, .int .i64 0, .int .i64 0], .int .i64 1] (w.drewN n) fun e w' => e = .returned (.tuple #[]) ∧ RD w' R s (k + 1) (ts ++ [⟨2, [40], 0, k⟩]) ∧ Bk R (w.drewN n) w' := fun n => hadd n [40] 1 (by omega) (by simp)
    clear hno hyes hadd
    go_wp2_with (first
     | (go_at_call 113; refine (hrest _).mono ?_; rintro e w' ⟨rfl, n, rfl⟩)
     | (go_at_call 114; refine (h1 _).mono ?_; rintro e w' ⟨rfl, rfl⟩)
     | (go_at_call 115; refine (h2 _).mono ?_; rintro e w1 ⟨rfl, hr, hb1⟩))
    go_ret
    exact ⟨rfl, hr, (bk_drewN _ _ _).trans hb1⟩
   ·have h1 : ∀ W, Calls Tryz.prog 114 #[.string (str L), .string ⟨#[40]⟩] W fun e w' => e = .returned (.bool false) ∧ w' = W := fun W => hno 2 (by omega) (by omega) W
    go_wp2_with (first
     | (go_at_call 113; refine (hrest _).mono ?_; rintro e w' ⟨rfl, n, rfl⟩)
     | (go_at_call 114; refine (h1 _).mono ?_; rintro e w' ⟨rfl, rfl⟩))
    go_roundw
    case rel => exact ⟨3, _, 3, by omega, by omega, rfl, rfl, rfl⟩
    case measure => simp [intOf]
  ·obtain rfl : j = 3 := by omega
   have hix := sig_ix3
   clear hj
   by_cases hJi : 3 = J
   ·subst hJi
    have h1 : ∀ W, Calls Tryz.prog 114 #[.string (str L), .string ⟨#[41]⟩] W fun e w' => e = .returned (.bool true) ∧ w' = W := fun W => hyes (by omega) W
    have h2 : ∀ n, Calls Tryz.prog 115 #[.pointer (some ⟨R, 0, none⟩), .agg #[.int .u8 2, .string ⟨#[41]⟩, .int .i64 0, .int .i64 0], .int .i64 1] (w.drewN n) fun e w' => e = .returned (.tuple #[]) ∧ RD w' R s (k + 1) (ts ++ [⟨2, [41], 0, k⟩]) ∧ Bk R (w.drewN n) w' := fun n => hadd n [41] 1 (by omega) (by simp)
    clear hno hyes hadd
    go_wp2_with (first
     | (go_at_call 113; refine (hrest _).mono ?_; rintro e w' ⟨rfl, n, rfl⟩)
     | (go_at_call 114; refine (h1 _).mono ?_; rintro e w' ⟨rfl, rfl⟩)
     | (go_at_call 115; refine (h2 _).mono ?_; rintro e w1 ⟨rfl, hr, hb1⟩))
    go_ret
    exact ⟨rfl, hr, (bk_drewN _ _ _).trans hb1⟩
   ·have h1 : ∀ W, Calls Tryz.prog 114 #[.string (str L), .string ⟨#[41]⟩] W fun e w' => e = .returned (.bool false) ∧ w' = W := fun W => hno 3 (by omega) (by omega) W
    go_wp2_with (first
     | (go_at_call 113; refine (hrest _).mono ?_; rintro e w' ⟨rfl, n, rfl⟩)
     | (go_at_call 114; refine (h1 _).mono ?_; rintro e w' ⟨rfl, rfl⟩))
    go_roundw
    case rel => exact ⟨4, _, 4, by omega, by omega, rfl, rfl, rfl⟩
    case measure => simp [intOf]
  ·obtain rfl : j = 4 := by omega
   have hix := sig_ix4
   clear hj
   by_cases hJi : 4 = J
   ·subst hJi
    have h1 : ∀ W, Calls Tryz.prog 114 #[.string (str L), .string ⟨#[46, 46, 46]⟩] W fun e w' => e = .returned (.bool true) ∧ w' = W := fun W => hyes (by omega) W
    have h2 : ∀ n, Calls Tryz.prog 115 #[.pointer (some ⟨R, 0, none⟩), .agg #[.int .u8 2, .string ⟨#[46, 46, 46]⟩, .int .i64 0, .int .i64 0], .int .i64 3] (w.drewN n) fun e w' => e = .returned (.tuple #[]) ∧ RD w' R s (k + 3) (ts ++ [⟨2, [46, 46, 46], 0, k⟩]) ∧ Bk R (w.drewN n) w' := fun n => hadd n [46, 46, 46] 3 (by omega) (by simp)
    clear hno hyes hadd
    go_wp2_with (first
     | (go_at_call 113; refine (hrest _).mono ?_; rintro e w' ⟨rfl, n, rfl⟩)
     | (go_at_call 114; refine (h1 _).mono ?_; rintro e w' ⟨rfl, rfl⟩)
     | (go_at_call 115; refine (h2 _).mono ?_; rintro e w1 ⟨rfl, hr, hb1⟩))
    go_ret
    exact ⟨rfl, hr, (bk_drewN _ _ _).trans hb1⟩
   ·have h1 : ∀ W, Calls Tryz.prog 114 #[.string (str L), .string ⟨#[46, 46, 46]⟩] W fun e w' => e = .returned (.bool false) ∧ w' = W := fun W => hno 4 (by omega) (by omega) W
    go_wp2_with (first
     | (go_at_call 113; refine (hrest _).mono ?_; rintro e w' ⟨rfl, n, rfl⟩)
     | (go_at_call 114; refine (h1 _).mono ?_; rintro e w' ⟨rfl, rfl⟩))
    go_roundw
    case rel => exact ⟨5, _, 5, by omega, by omega, rfl, rfl, rfl⟩
    case measure => simp [intOf]
  ·obtain rfl : j = 5 := by omega
   clear hj
   obtain rfl : J = 5 := by omega
   go_wp2
   go_ret
   exact ⟨rfl, H.out.drewN _, bk_drewN _ _ _⟩
end Go.Proofs.YthaibekbefndlaaGreatDoor.C

namespace Go.Proofs.YthaibekbefndlaaGreatDoor.C
open Go.RowKit

theorem pre_one (a : UInt8) (r : List UInt8) (c : UInt8) : Lib.hasPrefix (a :: r) [c] = decide (a = c) := by
 rw [hasPrefix_one]; simp
theorem pre_three (a : UInt8) (r : List UInt8) : Lib.hasPrefix (a :: r) [46, 46, 46] = decide (a = 46 ∧ r.take 2 = [46, 46]) := by
 rw [Bool.eq_iff_iff, decide_eq_true_iff]
 unfold Lib.hasPrefix
 rw [List.isPrefixOf_iff_prefix, List.cons_prefix_cons, List.prefix_iff_eq_take]
 constructor
 ·rintro ⟨h1, h2⟩
  exact ⟨h1.symm, h2.symm⟩
 ·rintro ⟨h1, h2⟩
  exact ⟨h1.symm, h2.symm⟩
theorem sign_case (a : UInt8) (r : List UInt8) : (∃ J, J < 5 ∧ signL (a :: r) = some (sgB J).data.toList ∧ (∀ i, i < J → i < 5 → Lib.hasPrefix (a :: r) (sgB i).data.toList = false) ∧ Lib.hasPrefix (a :: r) (sgB J).data.toList = true) ∨
  (signL (a :: r) = none ∧ ∀ i, i < 5 → i < 5 → Lib.hasPrefix (a :: r) (sgB i).data.toList = false) := by
 have h0 : Lib.hasPrefix (a :: r) (sgB 0).data.toList = decide (a = 59) := pre_one a r 59
 have h1 : Lib.hasPrefix (a :: r) (sgB 1).data.toList = decide (a = 44) := pre_one a r 44
 have h2 : Lib.hasPrefix (a :: r) (sgB 2).data.toList = decide (a = 40) := pre_one a r 40
 have h3 : Lib.hasPrefix (a :: r) (sgB 3).data.toList = decide (a = 41) := pre_one a r 41
 have h4 : Lib.hasPrefix (a :: r) (sgB 4).data.toList = decide (a = 46 ∧ r.take 2 = [46, 46]) := pre_three a r
 have all : ∀ n : Nat, n ≤ 5 → (∀ i, i < n → i < 5 → i = 0 ∨ i = 1 ∨ i = 2 ∨ i = 3 ∨ i = 4) := fun n hn i hi _ => by omega
 by_cases e0 : a = 59
 ·subst e0
  exact .inl ⟨0, by omega, by rw [signL_cons, if_pos (by simp)]; rfl, fun i hi => by omega, by rw [h0]; simp⟩
 by_cases e1 : a = 44
 ·subst e1
  refine .inl ⟨1, by omega, by rw [signL_cons, if_pos (by simp)]; rfl, fun i hi _ => ?_, by rw [h1]; simp⟩
  obtain rfl : i = 0 := by omega
  rw [h0]; simp
 by_cases e2 : a = 40
 ·subst e2
  refine .inl ⟨2, by omega, by rw [signL_cons, if_pos (by simp)]; rfl, fun i hi _ => ?_, by rw [h2]; simp⟩
  rcases (by omega : i = 0 ∨ i = 1) with rfl | rfl
  ·rw [h0]; simp
  ·rw [h1]; simp
 by_cases e3 : a = 41
 ·subst e3
  refine .inl ⟨3, by omega, by rw [signL_cons, if_pos (by simp)]; rfl, fun i hi _ => ?_, by rw [h3]; simp⟩
  rcases (by omega : i = 0 ∨ i = 1 ∨ i = 2) with rfl | rfl | rfl
  ·rw [h0]; simp
  ·rw [h1]; simp
  ·rw [h2]; simp
 have n0 : decide (a = 59) = false := decide_eq_false e0
 have n1 : decide (a = 44) = false := decide_eq_false e1
 have n2 : decide (a = 40) = false := decide_eq_false e2
 have n3 : decide (a = 41) = false := decide_eq_false e3
 rw [n0] at h0
 rw [n1] at h1
 rw [n2] at h2
 rw [n3] at h3
 have hs : signL (a :: r) = if a = 46 ∧ r.take 2 = [46, 46] then some [46, 46, 46] else none := by rw [signL_cons, if_neg (by simp [e0, e1, e2, e3])]
 by_cases e4 : a = 46 ∧ r.take 2 = [46, 46]
 ·refine .inl ⟨4, by omega, by rw [hs, if_pos e4]; rfl, fun i hi _ => ?_, by rw [h4]; exact decide_eq_true e4⟩
  rcases (by omega : i = 0 ∨ i = 1 ∨ i = 2 ∨ i = 3) with rfl | rfl | rfl | rfl <;> assumption
 ·refine .inr ⟨by rw [hs, if_neg e4], fun i hi _ => ?_⟩
  rw [decide_eq_false e4] at h4
  rcases (by omega : i = 0 ∨ i = 1 ∨ i = 2 ∨ i = 3 ∨ i = 4) with rfl | rfl | rfl | rfl | rfl <;> assumption

def fns : Nat → Nat
 | 0 => 67
 | 1 => 68
 | 2 => 69
 | 3 => 70
 | 4 => 71
 | 5 => 72
 | 6 => 73
 | _ => 74
def StNo (R k : Nat) (s : ByteArray) (ts : List Tok) (i : Nat) : Prop := ∀ W, RD W R s k ts → Gl W → Calls Tryz.prog (fns i) #[.pointer (some ⟨R, 0, none⟩)] W (Stepped W R s false k ts)
def StYes (R k : Nat) (s : ByteArray) (ts : List Tok) (i k' : Nat) (ts' : List Tok) : Prop := ∀ W, RD W R s k ts → Gl W → Calls Tryz.prog (fns i) #[.pointer (some ⟨R, 0, none⟩)] W (Stepped W R s true k' ts')
def StBad (R k : Nat) (s : ByteArray) (ts : List Tok) : Prop := ∀ W, RD W R s k ts → Gl W → Calls Tryz.prog (fns 4) #[.pointer (some ⟨R, 0, none⟩)] W (Bad W R k)

theorem toNat_ne {a b : UInt8} (h : a ≠ b) : a.toNat ≠ b.toNat := fun e => h (UInt8.toNat_inj.1 e)
theorem steps_case (R k : Nat) (s : ByteArray) (ts : List Tok) (hk : k < s.size) (hs : s.size ≤ 4000) (hts : ts.length ≤ 4500) :
  (∃ J ts' m, J < 8 ∧ stepL (s.data.toList.drop k) k ts = some (ts', m) ∧ (∀ i, i < J → StNo R k s ts i) ∧ StYes R k s ts J (k + m) ts') ∨
  (stepL (s.data.toList.drop k) k ts = none ∧ (∀ i, i < 4 → StNo R k s ts i) ∧ StBad R k s ts) ∨
  (stepL (s.data.toList.drop k) k ts = none ∧ ∀ i, i < 8 → StNo R k s ts i) := by
 have hd := drop_ba hk
 obtain ⟨a, ha⟩ : ∃ a, s[k]'hk = a := ⟨_, rfl⟩
 obtain ⟨r, hr⟩ : ∃ r, s.data.toList.drop (k + 1) = r := ⟨_, rfl⟩
 rw [ha, hr] at hd
 have bl : blankL (s.data.toList.drop k) = if a = 32 ∨ a = 9 then 1 else if a = 37 then 1 + (r.takeWhile (· ≠ 10)).length else 0 := by rw [hd, blankL_cons]
 have n0 : a ≠ 32 → a ≠ 9 → StNo R k s ts 0 := fun h1 h2 W hW _ => blank_no W R k s ts hW hk hs (by rw [ha]; exact toNat_ne h1) (by rw [ha]; exact toNat_ne h2)
 have n1 : a ≠ 37 → StNo R k s ts 1 := fun h1 W hW _ => remark_no W R k s ts hW hk hs (by rw [ha]; exact toNat_ne h1)
 have n2 : a ≠ 10 → StNo R k s ts 2 := fun h1 W hW _ => lineEnd_no W R k s ts hW hk hs (by rw [ha]; exact toNat_ne h1)
 by_cases e0 : a = 32
 ·refine .inl ⟨0, ts, 1, by omega, ?_, fun i hi => by omega, fun W hW _ => blank_32 W R k s ts hW hk hs (by rw [ha, e0]; rfl)⟩
  have bl1 : blankL (s.data.toList.drop k) = 1 := by rw [bl, if_pos (Or.inl e0)]
  unfold stepL
  rw [bl1, if_pos (by decide)]
 by_cases e1 : a = 9
 ·refine .inl ⟨0, ts, 1, by omega, ?_, fun i hi => by omega, fun W hW _ => blank_9 W R k s ts hW hk hs (by rw [ha, e1]; rfl)⟩
  have bl1 : blankL (s.data.toList.drop k) = 1 := by rw [bl, if_pos (Or.inr e1)]
  unfold stepL
  rw [bl1, if_pos (by decide)]
 rw [if_neg (by simp [e0, e1])] at bl
 by_cases e2 : a = 37
 ·refine .inl ⟨1, ts, ((s.data.toList.drop k).takeWhile (fun x : UInt8 => decide (x ≠ 10))).length, by omega, ?_, fun i hi => ?_, fun W hW _ => remark_yes W R k s ts hW hk hs (by rw [ha, e2]; rfl)⟩
  ·have : ((s.data.toList.drop k).takeWhile (fun x : UInt8 => decide (x ≠ 10))).length = 1 + (r.takeWhile (fun x : UInt8 => decide (x ≠ 10))).length := by
    rw [hd, e2, List.takeWhile_cons, if_pos (by decide), List.length_cons]; omega
   rw [this]
   unfold stepL
   rw [bl, if_pos e2, if_pos (by omega)]
  ·obtain rfl : i = 0 := by omega
   exact n0 e0 e1
 rw [if_neg e2] at bl
 have st : stepL (s.data.toList.drop k) k ts = if (s.data.toList.drop k).head? = some 10 then some (endL ts k, 1) else match tokL (s.data.toList.drop k) with
  | some (kd, t, n, m) => some (ts ++ [⟨kd, t, n, k⟩], m)
  | none => none := by
  unfold stepL
  rw [bl, if_neg (by simp)]
  rfl
 rw [st]
 by_cases e3 : a = 10
 ·refine .inl ⟨2, endL ts k, 1, by omega, by rw [hd, if_pos (by rw [e3]; rfl)], fun i hi => ?_, fun W hW _ => lineEnd_yes W R k s ts hW hk hs (by omega) (by rw [ha, e3]; rfl)⟩
  rcases (by omega : i = 0 ∨ i = 1) with rfl | rfl
  ·exact n0 e0 e1
  ·exact n1 e2
 rw [if_neg (by rw [hd]; simp [e3])]
 have n012 : ∀ i, i < 3 → StNo R k s ts i := fun i hi => by
  rcases (by omega : i = 0 ∨ i = 1 ∨ i = 2) with rfl | rfl | rfl
  ·exact n0 e0 e1
  ·exact n1 e2
  ·exact n2 e3
 rcases sign_case a r with ⟨J, hJ, hsg, hn, hy⟩ | ⟨hsg, hn⟩
 ·rw [← hd] at hsg hn hy
  have tk : tokL (s.data.toList.drop k) = some (2, (sgB J).data.toList, 0, (sgB J).data.toList.length) := by unfold tokL; rw [hsg]
  rw [tk]
  refine .inl ⟨3, _, _, by omega, rfl, n012, fun W hW hG => ?_⟩
  have := ssign_any W R k s ts hW hG hk hs hts J (by omega) hn (fun _ => hy)
  refine this.mono fun e w' h => ?_
  unfold SignTold at h
  rw [if_pos hJ, ← size_list] at h
  exact h
 ·rw [← hd] at hsg hn
  have n3 : StNo R k s ts 3 := fun W hW hG => by
   have := ssign_any W R k s ts hW hG hk hs hts 5 (by omega) hn (fun h => absurd h (by omega))
   refine this.mono fun e w' h => ?_
   unfold SignTold at h
   rw [if_neg (by omega)] at h
   exact h
  have n0123 : ∀ i, i < 4 → StNo R k s ts i := fun i hi => by
   rcases (by omega : i < 3 ∨ i = 3) with h | rfl
   ·exact n012 i h
   ·exact n3
  unfold tokL
  rw [hsg]
  simp only
  cases hnum : numL (nameL (s.data.toList.drop k)) with
  | some v =>
   simp only
   cases hv : rightN v with
   | true =>
    exact .inl ⟨4, _, _, by omega, rfl, n0123, fun W hW _ => sscalar_yes W R k s ts hW hk hs hts v hnum hv⟩
   | false =>
    exact .inr (.inl ⟨rfl, n0123, fun W hW _ => sscalar_bad W R k s ts hW hk hs hts v hnum hv⟩)
  | none =>
   simp only
   have n4 : StNo R k s ts 4 := fun W hW hG => sscalar_no W R k s ts hW hk hs hts hG hnum
   have n04 : ∀ i, i < 5 → StNo R k s ts i := fun i hi => by
    rcases (by omega : i < 4 ∨ i = 4) with h | rfl
    ·exact n0123 i h
    ·exact n4
   by_cases hnm : nameL (s.data.toList.drop k) = []
   ·rw [if_neg (by simp [hnm])]
    have n05 : ∀ i, i < 6 → StNo R k s ts i := fun i hi => by
     rcases (by omega : i < 5 ∨ i = 5) with h | rfl
     ·exact n04 i h
     ·exact fun W hW _ => sname_no W R k s ts hW hk hs hts hnm
    have n06 : quoL (s.data.toList.drop k) = none → ∀ i, i < 7 → StNo R k s ts i := fun hq i hi => by
     rcases (by omega : i < 6 ∨ i = 6) with h | rfl
     ·exact n05 i h
     ·intro W hW _
      by_cases e34 : a = 34
      ·rw [e34] at hd
       by_cases hlt : (r.takeWhile (· ≠ 34)).length < r.length
       ·by_cases h10 : 10 ∈ r.takeWhile (· ≠ 34)
        ·exact squoted_no3 W R k s ts hW hk hs hts r hd hlt h10
        ·rw [hd, quoL_cons, if_pos ⟨rfl, hlt, h10⟩] at hq
         cases hq
       ·exact squoted_no2 W R k s ts hW hk hs hts r hd hlt
      ·exact squoted_no1 W R k s ts hW hk hs hts (by rw [hd]; simp [e34])
    cases hq : quoL (s.data.toList.drop k) with
    | some t =>
     simp only
     have hq' := hq
     rw [hd, quoL_cons] at hq'
     by_cases hc : a = 34 ∧ (r.takeWhile (· ≠ 34)).length < r.length ∧ 10 ∉ r.takeWhile (· ≠ 34)
     ·rw [if_pos hc] at hq'
      injection hq' with hq'
      subst hq'
      exact .inl ⟨6, _, _, by omega, rfl, n05, fun W hW _ => squoted_yes W R k s ts hW hk hs hts r (by rw [hd, hc.1]) hc.2.1 hc.2.2⟩
     ·rw [if_neg hc] at hq'
      cases hq'
    | none =>
     simp only
     by_cases hw : wordL (s.data.toList.drop k) = []
     ·rw [if_neg (by simp [hw])]
      refine .inr (.inr ⟨rfl, fun i hi => ?_⟩)
      rcases (by omega : i < 7 ∨ i = 7) with h | rfl
      ·exact n06 hq i h
      ·exact fun W hW _ => sword_no W R k s ts hW hk hs hts hw
     ·rw [if_pos hw]
      exact .inl ⟨7, _, _, by omega, rfl, n06 hq, fun W hW _ => sword_yes W R k s ts hW hk hs hts hw⟩
   ·rw [if_pos hnm]
    exact .inl ⟨5, _, _, by omega, rfl, n04, fun W hW _ => sname_yes W R k s ts hW hk hs hts hnm⟩
end Go.Proofs.YthaibekbefndlaaGreatDoor.C

namespace Go.Proofs.YthaibekbefndlaaGreatDoor.C
open Go.RowKit


theorem RI.of_row {ki : IntKind} {w : World} {a : Option Addr} {len cap : Nat} {zs : List Int} (h : L.IsRow ki w a len cap zs) : RI ki w w.heap.size a len (zs.take len) := by
 rcases h with ⟨rfl, rfl, rfl, rfl⟩ | ⟨x, rfl, hl, hm, hz, hc, _⟩
 ·exact ⟨by simp, fun h => absurd h (by omega)⟩
 ·refine ⟨by simp; omega, fun hn => ⟨x, rfl, ?_, fun j u hu => ?_⟩⟩
  ·have := World.block_lt_of_cell? w _ (hc 0 (by omega))
   rwa [block_of_add] at this
  ·rw [List.getElem?_take] at hu
   split at hu
   ·have hj : j < zs.length := (List.getElem?_eq_some_iff.1 hu).1
    rw [hc j hj]
    simp [hu]
   ·cases hu
theorem row_len {ki : IntKind} {w : World} {a : Option Addr} {len cap : Nat} {zs : List Int} (h : L.IsRow ki w a len cap zs) : len ≤ cap ∧ cap ≤ maxLen := by
 rcases h with ⟨rfl, rfl, rfl, rfl⟩ | ⟨x, rfl, hl, hm, hz, hc, _⟩
 ·exact ⟨Nat.le_refl _, Nat.zero_le _⟩
 ·exact ⟨hl, hm⟩
theorem row_u8 {w : World} {a : Option Addr} {len cap : Nat} {zs : List Int} (h : L.IsRow .u8 w a len cap zs) : ∀ z ∈ zs.take len, 0 ≤ z ∧ z ≤ 255 := by
 rcases h with ⟨rfl, rfl, rfl, rfl⟩ | ⟨x, rfl, hl, hm, hz, hc, hw⟩
 ·intro z hz; simp at hz
 ·intro z hz
  exact bounds_u8 (hw z (List.mem_of_mem_take hz))

section
variable {P : Program} (w : World)
theorem run_append_of_nil (base : Nat) (t ty e : TypeId) (i : TypeInfo) (size : Nat) (ht : P.underlying t = some (.slice e)) (hi : P.info? e = some i)
  (v : Value) (n : Nat) (xs : List Value) (hown : w.ownsRow base e size v n xs) (c : Nat) : (Builtin.append_ #[t, t] ty #[v, .slice none 0 c]).run P w = .ok v w := by
 rcases hown.2 with ⟨rfl, rfl⟩ | ⟨g, cap, cur, rfl, _, _, hnc, _⟩
 ·simp [Builtin.append_, run_underlying ht, sizeOf, typeInfo, hi, Builtin.lenOf, Builtin.firstCells]
 ·simp [Builtin.append_, run_underlying ht, sizeOf, typeInfo, hi, Builtin.lenOf, Builtin.firstCells, hnc, storeCells]

theorem run_append_ri (base : Nat) (t ty e : TypeId) (i : TypeInfo) (z : Value) (bytes : Nat) (ht : P.underlying t = some (.slice e)) (hi : P.info? e = some i) (hz : i.zero = some z)
  (hsize : i.size = 1) (hby : i.bytes = bytes) (hzs : z.cells.size = 1)
  (v : Value) (n : Nat) (xs : List Value) (hown : w.ownsRow base e 1 v n xs) (ki : IntKind)
  (B : Nat) (A : Option Addr) (m c : Nat) (zs : List Int) (hr : RI ki w B A m zs)
  (h63 : n + m ≤ maxLen) (hbytes : (n + m) * bytes ≤ 140737488355328) (hbase : base ≤ w.heap.size) :
  ∃ v' w', (Builtin.append_ #[t, t] ty #[v, .slice A m c]).run P w = .ok v' w' ∧ w'.ownsRow base e 1 v' (n + m) (xs ++ zs.map (Value.int ki)) ∧ w.grownBy w' v.ownBlock := by
 rcases A with _ | ad
 ·have hm : m = 0 := by
   rcases Nat.eq_zero_or_pos m with h0 | h0
   ·exact h0
   ·obtain ⟨ad, h, _⟩ := hr.2 h0
    cases h
  subst hm
  have hn : zs = [] := List.eq_nil_of_length_eq_zero hr.1
  subst hn
  exact ⟨v, w, run_append_of_nil w base t ty e i 1 ht hi v n xs hown c, by simpa using hown, World.grownBy.refl w _⟩
 ·have hcells : ∀ j u, (zs.map (Value.int ki))[j]? = some u → w.cell? (ad.add j) = some u := by
   intro j u hu
   rw [List.getElem?_map] at hu
   obtain ⟨y, hy, rfl⟩ := Option.map_eq_some_iff.1 hu
   rcases Nat.eq_zero_or_pos m with h0 | h0
   ·subst h0
    have hn : zs = [] := List.eq_nil_of_length_eq_zero hr.1
    subst hn
    simp at hy
   ·obtain ⟨ad', h, _, hc⟩ := hr.2 h0
    injection h with h
    subst h
    exact hc j y hy
  obtain ⟨v', w', hrun, h2, h3, _⟩ := run_append_own_at (P := P) w base t ty e i z 1 bytes ht hi hz hsize hby hzs (by decide) v n xs hown ad m c (zs.map (Value.int ki)) (by simp [hr.1]) hcells (ints_oneCell ki zs) h63 hbytes hbase
  exact ⟨v', w', hrun, h2, h3⟩

theorem wpList_append_ri {ops : Array Oper} {rest : List Oper} {o : Oper} {a : Act} {Q : Exit → Act → World → Prop} (hgd : o.guard = none) (s x : Operand) (t : TypeId)
  (ho : o.op = .call { callee := .builtin .append, args := #[s, x], argTypes := #[t, t] })
  (base : Nat) (e : TypeId) (i : TypeInfo) (z : Value) (bytes : Nat) (ht : P.underlying t = some (.slice e)) (hi : P.info? e = some i) (hz : i.zero = some z)
  (hsize : i.size = 1) (hby : i.bytes = bytes) (hzs : z.cells.size = 1)
  (v : Value) (n : Nat) (xs : List Value) (hs : a.eval s = v) (hown : w.ownsRow base e 1 v n xs) (ki : IntKind)
  (B : Nat) (A : Option Addr) (m c : Nat) (zs : List Int) (hx : a.eval x = .slice A m c) (hr : RI ki w B A m zs)
  (h63 : n + m ≤ maxLen) (hbytes : (n + m) * bytes ≤ 140737488355328) (hbase : base ≤ w.heap.size)
  (h : ∀ v' w', w'.ownsRow base e 1 v' (n + m) (xs ++ zs.map (Value.int ki)) → w.grownBy w' v.ownBlock → wpList P ops Q rest (a.put o.dst v') w') : wpList P ops Q (o :: rest) a w := by
 refine wpList_plain hgd fun K hK => ?_
 obtain ⟨v', w', hr, h2, h3⟩ := run_append_ri (P := P) w base t o.type e i z bytes ht hi hz hsize hby hzs v n xs hown ki B A m c zs hr h63 hbytes hbase
 unfold Oper.wp execOp
 simp only [ho, resolve, invoke, builtin, Sem.run_bind, Sem.run_pure, Result.andThen_ok, List.map_toArray, List.map_cons, List.map_nil, hs, hx, hr]
 exact hK _ _ (h v' w' h2 h3)
end

end Go.Proofs.YthaibekbefndlaaGreatDoor.C
