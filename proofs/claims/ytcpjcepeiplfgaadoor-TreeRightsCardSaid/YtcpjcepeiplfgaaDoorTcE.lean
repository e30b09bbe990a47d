/-
  strings.Builder where it lies first in a variable of any type: WriteString, String. No condition but what each names.
-/
import Derived.Test.YtcpjcepeiplfgaaDoorTaX
import Derived.Lib.Builder
import Derived.Lib.AppendStr
import Derived.Lib.UnsafeStr
import Derived.Laws.Externs
namespace Go.Proofs.YtcpjcepeiplfgaaDoor.C
open Go.RowKit

/-- a builder at the beginning of variable b, of type ty, with what else lies there -/
def BuAt (ty : TypeId) (rest : List Value) (B b : Nat) (p : Value) (bs : List UInt8) (w : World) : Prop :=
  B ≤ b ∧ ∃ v, Rw w b ty (p :: v :: rest).toArray ∧ w.ownsRow B 5 1 v bs.length (Lib.byteCells bs)
def IsBu (ty : TypeId) (rest : List Value) (B b : Nat) (bs : List UInt8) (w : World) : Prop := BuAt ty rest B b (.pointer none) bs w ∨ BuAt ty rest B b (.pointer (some ⟨b, 0, none⟩)) bs w
/-- the two kinds of variables that bear a builder -/
def BuTy (ty : TypeId) (rest : List Value) : Prop := (ty = 75 ∧ rest = []) ∨ (ty = 77 ∧ rest.length = 1)
theorem BuTy.ne {ty : TypeId} {rest : List Value} (h : BuTy ty rest) : ty ≠ 5 := by rcases h with ⟨rfl, _⟩ | ⟨rfl, _⟩ <;> decide
theorem sizeBu : (Tryd.prog.info? 75).map (·.size) = some 2 := by kernel_rfl
theorem cellsBu : Tryd.prog.cellsOf 75 = 2 := by kernel_rfl
theorem cellsPr : Tryd.prog.cellsOf 77 = 3 := by kernel_rfl
theorem liesBu : liesAt Tryd.prog Tryd.prog.depth 75 (2 / 2) 0 75 1 = true := by kernel_rfl
theorem liesPr : liesAt Tryd.prog Tryd.prog.depth 77 (3 / 3) 0 75 1 = true := by kernel_rfl
/-- only variable b and rows of bytes may have turned -/
def Kp (b : Nat) (w w' : World) : Prop := Fr w w' (fun j => j = b ∨ ∃ c z, w.heap[j]? = some (.cells c 5 z))
theorem Kp.refl (b : Nat) (w : World) : Kp b w w := Fr.of_below (Below.refl _ _)
theorem Kp.trans {b : Nat} {u v w : World} (h : Kp b u v) (k : Kp b v w) : Kp b u w :=
  ⟨k.os.trans h.os, k.tape.trans h.tape, k.output.trans h.output, Nat.le_trans h.size k.size, fun j hj hn => (k.block j (Nat.lt_of_lt_of_le hj h.size) (fun hx => hn (hx.imp id (by rintro ⟨c, z, hc⟩; exact ⟨c, z, by rw [← h.block j hj hn]; exact hc⟩)))).trans (h.block j hj hn)⟩
theorem Kp.of_below {b : Nat} {w w' : World} (h : Below w.heap.size w w') : Kp b w w' := Fr.of_below h
theorem Kp.rw {b j : Nat} {w w' : World} {t : TypeId} {xs : Array Value} (h : Kp b w w') (hr : Rw w j t xs) (hj : j ≠ b) (ht : t ≠ 5) : Rw w' j t xs :=
  (h.block j hr.lt (by rintro (e | ⟨c, z, e⟩); exact hj e; exact (by rw [show w.heap[j]? = _ from hr] at e; simp at e; exact ht e.2.1))).trans hr
section
variable {ty : TypeId} {rest : List Value} {B b : Nat} {p : Value} {bs : List UInt8} {w w' : World}
theorem BuAt.lt (h : BuAt ty rest B b p bs w) : b < w.heap.size := by obtain ⟨_, v, h1, _⟩ := h; exact h1.lt
theorem BuAt.next (h : BuAt ty rest B b p bs w) (hb : Below w.heap.size w w') : BuAt ty rest B b p bs w' := by
  obtain ⟨h0, v, h1, h2⟩ := h
  exact ⟨h0, v, h1.on hb h1.lt, own_next h2 hb⟩
theorem IsBu.next (h : IsBu ty rest B b bs w) (hb : Below w.heap.size w w') : IsBu ty rest B b bs w' := h.imp (fun h => h.next hb) (fun h => h.next hb)
theorem BuAt.used (h : BuAt ty rest B b p bs w) (hT : BuTy ty rest) (q : Value) : BuAt ty rest B b q bs (w.setCell ⟨b, 0, none⟩ q) ∧ Kp b w (w.setCell ⟨b, 0, none⟩ q) ∧ Below B w (w.setCell ⟨b, 0, none⟩ q) := by
  obtain ⟨h0, v, h1, h2⟩ := h
  have hf : Fr w (w.setCell ⟨b, 0, none⟩ q) (· = b) := (Fr.of_below (X := (· = b)) (Below.refl _ w)).set ⟨b, 0, none⟩ _ (fun _ => rfl)
  exact ⟨⟨h0, v, set_row (i := 0) (l := p :: v :: rest) h1 q, ownsRow_fr h2 hf (fun g hg e => row_neK h2 h1 hT.ne (by rw [hg, e]))⟩, hf.mono (fun _ _ e => .inl e), (Below.refl B w).setCell (p := ⟨b, 0, none⟩) h0 q⟩
end
theorem BuTy.strv {ty : TypeId} {rest : List Value} (hT : BuTy ty rest) {w : World} {b : Nat} {p v : Value} (h : Rw w b ty (p :: v :: rest).toArray) :
    (convert 73 120 (.pointer (some ⟨b, 0, none⟩))).run Tryd.prog w = .ok (.pointer (some ⟨b, 0, none⟩)) w ∧ (convert 120 73 (.pointer (some ⟨b, 0, none⟩))).run Tryd.prog w = .ok (.pointer (some ⟨b, 0, none⟩)) w := by
  obtain ⟨j, hj, hjs⟩ := Option.map_eq_some_iff.1 sizeBu
  rcases hT with ⟨rfl, rfl⟩ | ⟨rfl, hl⟩
  · have hsh : w.shape? b = some (75, 2) := by simp [World.shape?, show w.heap[b]? = _ from h]
    exact ⟨Lib.run_to_unsafe w ⟨b, 0, none⟩ Tryd.underlying73 Tryd.underlying120 hj (by rw [hjs]; decide) hsh (Nat.zero_lt_succ _), Lib.run_from_unsafe w ⟨b, 0, none⟩ Tryd.underlying120 Tryd.underlying73 hj hsh (by rw [cellsBu]; exact liesBu)⟩
  · have hsh : w.shape? b = some (77, 3) := by simp [World.shape?, show w.heap[b]? = _ from h, hl]
    exact ⟨Lib.run_to_unsafe w ⟨b, 0, none⟩ Tryd.underlying73 Tryd.underlying120 hj (by rw [hjs]; decide) hsh (Nat.zero_lt_succ _), Lib.run_from_unsafe w ⟨b, 0, none⟩ Tryd.underlying120 Tryd.underlying73 hj hsh (by rw [cellsPr]; exact liesPr)⟩
set_option maxHeartbeats 1000000 in
set_option maxRecDepth 100000 in
theorem copyCheck_any (ty : TypeId) (rest : List Value) (B b : Nat) (bs : List UInt8) (w : World) (hT : BuTy ty rest) (h : IsBu ty rest B b bs w) :
    Calls Tryd.prog 70 #[.pointer (some ⟨b, 0, none⟩)] w fun e w' => e = .returned (.tuple #[]) ∧ BuAt ty rest B b (.pointer (some ⟨b, 0, none⟩)) bs w' ∧ Kp b w w' ∧ Below B w w' := by
  obtain ⟨j, hj, hjs⟩ := Option.map_eq_some_iff.1 sizeBu
  rcases h with h | h
  · have HE := Lib.hid (h.used hT (.pointer (some ⟨b, 0, none⟩)))
    obtain ⟨h0, v, h1, h2⟩ := h
    obtain ⟨q1, q2⟩ := hT.strv h1
    have c0 : w.cell? ⟨b, 0, none⟩ = some (.pointer none) := h1.cell (i := 0) rfl
    have f0 : w.frozen? ⟨b, 0, none⟩ = false := by simp [World.frozen?, show w.heap[b]? = _ from h1]
    clear h1 h2
    go_enter Tryd.func70, Tryd.ntmps70
    go_wp2
    rw [run_callFunc_extern Tryd.func81 (by kernel_rfl) (by kernel_rfl) (by kernel_rfl) (e := Extern.AbiNoEscape.same) (by kernel_rfl)]
    rw [Lib.run_noEscape]
    simp only [Result.andThen]
    rw [Oper.upon_value]
    go_wp2
    go_end0
    exact ⟨rfl, HE.out⟩
  · have HE := Lib.hid h
    obtain ⟨h0, v, h1, h2⟩ := h
    have c0 : w.cell? ⟨b, 0, none⟩ = some (.pointer (some ⟨b, 0, none⟩)) := h1.cell (i := 0) rfl
    clear h1 h2
    go_enter Tryd.func70, Tryd.ntmps70
    go_wp2
    rw [Lib.run_neq_ptr_same w _ Tryd.underlying73 hj]
    go_wp2
    go_end0
    exact ⟨rfl, HE.out, Kp.refl _ _, Below.refl _ _⟩
theorem infoByT : (Tryd.prog.info? 5).map (fun i => (i.zero, i.size, i.bytes)) = some (some (.int .u8 0), 1, 1) := by kernel_rfl
theorem cellsBy : Tryd.prog.cellsOf 5 = 1 := by kernel_rfl
set_option maxHeartbeats 2000000 in
set_option maxRecDepth 100000 in
theorem writeString_any (ty : TypeId) (rest : List Value) (B b : Nat) (bs l : List UInt8) (w : World) (hT : BuTy ty rest) (h : IsBu ty rest B b bs w) (hlen : bs.length + l.length ≤ 140737488355328) (hBw : B ≤ w.heap.size) :
    Calls Tryd.prog 52 #[.pointer (some ⟨b, 0, none⟩), .string (str l)] w fun e w' => e = .returned (.tuple #[.int .i64 l.length, .nilIface]) ∧ BuAt ty rest B b (.pointer (some ⟨b, 0, none⟩)) (bs ++ l) w' ∧ Kp b w w' ∧ Below B w w' := by
  obtain ⟨i0, hi, hz0, hz1, hz2⟩ := info_parts infoByT
  have hc := copyCheck_any ty rest B b bs w hT h
  have HT := Lib.hid hT
  have hsl : (str l).size = l.length := by simp [str, ByteArray.size]
  have hsc : Lib.strCells (str l) = Lib.byteCells l := rfl
  have HSC := Lib.hid hsc
  clear h hT hsc
  go_enter Tryd.func52, Tryd.ntmps52
  go_wp2_with (go_at_call 70; refine hc.mono ?_)
  rintro e w1 ⟨rfl, ⟨h0, v, hr, hown⟩, hk1, hb1⟩
  have c0 : w1.cell? ⟨b, 0, none⟩ = some (.pointer (some ⟨b, 0, none⟩)) := hr.cell (i := 0) rfl
  have c1 : w1.cell? ⟨b, 1, none⟩ = some v := hr.cell (i := 1) rfl
  have hne := row_neK hown hr HT.out.ne
  have HR := Lib.hid hr
  have HK1 := Lib.hid hk1
  have HB1 := Lib.hid hb1
  have HNE := Lib.hid hne
  clear hc hr hk1 hb1 hne
  go_wp2_with (at_builtin; refine Lib.wpList_append_own_string _ rfl _ _ 38 9 rfl B 5 i0 Tryd.underlying38 Tryd.underlying9 hi hz0 hz1 hz2 _ _ _ rfl hown (str l) rfl ?c3 ?c4 ?c5 ?_)
  case c3 => rw [hsl]; unfold maxLen; omega
  case c4 => rw [hsl]; omega
  case c5 => have := HB1.out.size; omega
  intro v' w2 hown' hgrow _
  have hr2 : Rw w2 b ty (.pointer (some ⟨b, 0, none⟩) :: v :: rest).toArray := (hgrow.block b HR.out.lt (fun e => HNE.out e.symm)).trans HR.out
  have hk2 : Kp b w w2 := HK1.out.trans ((Fr.of_grown hgrow).mono (fun j hj e => .inr (by obtain ⟨c, hc⟩ := ownsRow_ty hown e; exact ⟨c, _, hc⟩)))
  have hb2 : Below B w w2 := HB1.out.grown hgrow (by have := HB1.out.size; omega) (fun k hk => (hown.lt k hk).1)
  have d0 : w2.cell? ⟨b, 0, none⟩ = some (.pointer (some ⟨b, 0, none⟩)) := hr2.cell (i := 0) rfl
  have d1 : w2.cell? ⟨b, 1, none⟩ = some v := hr2.cell (i := 1) rfl
  have f1 : w2.frozen? ⟨b, 1, none⟩ = false := by simp [World.frozen?, show w2.heap[b]? = _ from hr2]
  rw [HSC.out, ← Lib.byteCells_append, ← List.length_append] at hown'
  have hne2 := row_neK hown' hr2 HT.out.ne
  have hf : Fr w2 (w2.setCell ⟨b, 1, none⟩ v') (· = b) := (Fr.of_below (X := (· = b)) (Below.refl _ w2)).set ⟨b, 1, none⟩ _ (fun _ => rfl)
  have HE : Hid (BuAt ty rest B b (.pointer (some ⟨b, 0, none⟩)) (bs ++ l) (w2.setCell ⟨b, 1, none⟩ v') ∧ Kp b w (w2.setCell ⟨b, 1, none⟩ v') ∧ Below B w (w2.setCell ⟨b, 1, none⟩ v')) := Lib.hid ⟨⟨h0, v', set_row (i := 1) (l := _ :: v :: rest) hr2 v', ownsRow_fr hown' hf (fun g hg e => hne2 (by rw [hg, e]))⟩, hk2.trans (hf.mono (fun _ _ e => .inl e)), hb2.setCell (p := ⟨b, 1, none⟩) h0 _⟩
  obtain ⟨ao, cap, rfl⟩ := row_form hown'
  clear hown hown' hgrow hr2 hk2 hb2 hne2 hf
  go_wp2
  go_ret2
  rw [← List.length_append]
  exact ⟨rfl, HE.out⟩
set_option maxHeartbeats 2000000 in
set_option maxRecDepth 100000 in
theorem string_any (ty : TypeId) (rest : List Value) (B b : Nat) (l : List UInt8) (w : World) (h : IsBu ty rest B b l w) (hBw : B ≤ w.heap.size) :
    Calls Tryd.prog 34 #[.pointer (some ⟨b, 0, none⟩)] w fun e w' => e = .returned (.string (str l)) ∧ Below B w w' := by
  obtain ⟨p, h0, v, hr, hown⟩ : ∃ p, BuAt ty rest B b p l w := by
    rcases h with h | h
    · exact ⟨_, h⟩
    · exact ⟨_, h⟩
  have hUN : ∀ (W : World) (q : Option Addr), (Builtin.unsafeString_ #[103, 3] 9 #[.pointer q, .int .i64 0]).run Tryd.prog W = .ok (.string .empty) W := fun W q => Lib.run_unsafeString_none W _ _ _ q
  rcases hown.2 with ⟨rfl, hl0⟩ | ⟨g, cap, cur, rfl, hbg, hg, hnc, hcm, hcs, htake⟩
  · have hle : l = [] := List.length_eq_zero_iff.1 hl0
    subst hle
    have c1 : w.drew.cell? ⟨b, 1, none⟩ = some (.slice none 0 0) := Rw.cell (w := w.drew) hr (i := 1) rfl
    have hSD : (Builtin.unsafeSliceData_ #[38] 103 #[.slice none 0 0]).run Tryd.prog w.drew = .ok (.pointer none) w.drew := rfl
    clear h hr hown hl0
    go_enter Tryd.func34, Tryd.ntmps34
    go_wp2
    go_region
    all_goals (go_wp2; go_ret; exact ⟨rfl, Below.drew (Below.refl B w)⟩)
  · by_cases hl0 : l = []
    · subst hl0
      by_cases hc0 : cap = 0
      · subst hc0
        have c1 : w.drew.cell? ⟨b, 1, none⟩ = some (.slice (some ⟨g, 0, none⟩) 0 0) := Rw.cell (w := w.drew) hr (i := 1) rfl
        have hSD : (Builtin.unsafeSliceData_ #[38] 103 #[.slice (some ⟨g, 0, none⟩) 0 0]).run Tryd.prog w.drew = .ok (.pointer (some ⟨w.drew.heap.size, 0, none⟩)) (w.drew.alloc (.view ⟨g, 0, none⟩ 5)) :=
          Lib.run_unsafeSliceData_zero w.drew _ _ 5 Tryd.underlying103 ⟨g, 0, none⟩ 0 (5, cur.size) (by have hg' : w.drew.heap[g]? = some (.cells cur 5 (0, 0)) := hg; simp [World.shape?, hg'])
        have c2 : (w.drew.alloc (.view ⟨g, 0, none⟩ 5)).cell? ⟨b, 1, none⟩ = some (.slice (some ⟨g, 0, none⟩) 0 0) := Lib.cell?_alloc_some _ c1
        have c3 : (w.alloc (.view ⟨g, 0, none⟩ 5)).drew.cell? ⟨b, 1, none⟩ = some (.slice (some ⟨g, 0, none⟩) 0 0) := c2
        have c0 : w.cell? ⟨b, 1, none⟩ = some (.slice (some ⟨g, 0, none⟩) 0 0) := c1
        clear h hr hown hg hcs htake hnc hcm
        go_enter Tryd.func34, Tryd.ntmps34
        go_wp2
        go_region
        all_goals (go_wp2; go_ret; exact ⟨rfl, (Below.drew (Below.refl B w)).alloc hBw _⟩)
      · have c1 : w.drew.cell? ⟨b, 1, none⟩ = some (.slice (some ⟨g, 0, none⟩) 0 cap) := Rw.cell (w := w.drew) hr (i := 1) rfl
        have hSD : (Builtin.unsafeSliceData_ #[38] 103 #[.slice (some ⟨g, 0, none⟩) 0 cap]).run Tryd.prog w.drew = .ok (.pointer (some ⟨g, 0, none⟩)) w.drew := Lib.run_unsafeSliceData_row _ _ _ _ _ _ hc0
        clear h hr hown hg hcs htake hnc hcm hc0
        go_enter Tryd.func34, Tryd.ntmps34
        go_wp2
        go_region
        all_goals (go_wp2; go_ret; exact ⟨rfl, Below.drew (Below.refl B w)⟩)
    · have hl1 : l.length ≠ 0 := by simpa using hl0
      have c1 : w.drew.cell? ⟨b, 1, none⟩ = some (.slice (some ⟨g, 0, none⟩) l.length cap) := Rw.cell (w := w.drew) hr (i := 1) rfl
      have hSD : (Builtin.unsafeSliceData_ #[38] 103 #[.slice (some ⟨g, 0, none⟩) l.length cap]).run Tryd.prog w.drew = .ok (.pointer (some ⟨g, 0, none⟩)) w.drew := Lib.run_unsafeSliceData_row _ _ _ _ _ _ (by omega)
      have hUS : (Builtin.unsafeString_ #[103, 3] 9 #[.pointer (some ⟨g, 0, none⟩), .int .i64 l.length]).run Tryd.prog w.drew = .ok (.string (str l)) (w.drew.freeze ⟨g, 0, none⟩ l.length) := by
        refine Lib.run_unsafeString_row w.drew 103 3 9 5 Tryd.underlying103 cellsBy g cur.size (by have hg' : w.drew.heap[g]? = some (.cells cur 5 (0, 0)) := hg; simp [World.shape?, hg']) l hl0 (by omega) (by unfold maxLen at hcm; omega) ?_
        intro j x hx
        have := hown.cells (g := g) rfl j (.int .u8 x.toNat) (by simp [Lib.byteCells, hx])
        exact this
      clear h hr hown hg hcs htake hnc hcm hUN
      go_enter Tryd.func34, Tryd.ntmps34
      go_wp2
      go_region
      all_goals (go_wp2; go_ret; exact ⟨rfl, Lib.below_freeze (Below.drew (Below.refl B w)) (p := ⟨g, 0, none⟩) hbg _⟩)
end Go.Proofs.YtcpjcepeiplfgaaDoor.C
