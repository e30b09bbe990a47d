/-
  Joined: LiA, LfO, LhE. Each with what its own head says.
-/
import Derived.Test.YthaibekbefndlaaGreatDoorZ29

namespace Go.Proofs.YthaibekbefndlaaGreatDoor.C
open Go.Lib (decodeN)

theorem cellN_neg (m b0 b1 b2 b3 : Nat) (_hm : 1 ≤ m) (h : cellN m b0 b1 b2 b3 < 0) : cellN m b0 b1 b2 b3 ≤ -129 := by
 unfold cellN at h ⊢
 split
 ·rename_i he
  rw [if_pos he] at h
  by_cases h0 : b0 < 128
  ·exfalso
   have : decodeN m b0 b1 b2 b3 = (b0, 1) := by
    unfold decodeN
    rw [if_pos h0]
   rw [this] at he
   injection he
   omega
  ·omega
 ·rename_i he
  rw [if_neg he] at h
  omega
theorem ofFrom_neg (s : ByteArray) : ∀ f pos, ∀ c ∈ ofFrom s f pos, c < 0 → c ≤ -129
 | 0, _, c, h => by simp [ofFrom] at h
 | f + 1, pos, c, h => by
  rw [ofFrom] at h
  split at h
  ·rename_i hp
   rcases List.mem_cons.1 h with rfl | h
   ·rw [cellAt_eq s pos hp]
    exact cellN_neg _ _ _ _ _ (by omega)
   ·exact ofFrom_neg s f _ c h
  ·simp at h
theorem encRune_low {c : Int} (h0 : 0 ≤ c) {b : Int} (hb : b < 128) (h : b ∈ Lib.encodeRuneZ c) : b = c := by
 unfold Lib.encodeRuneZ at h
 revert h
 repeat' split
 all_goals intro h
 all_goals simp at h
 all_goals omega
theorem low_in {xs : List Int} (h : canonB xs = true) {b : Int} (h0 : 0 ≤ b) (hb : b < 128) (hm : b ∈ encL xs) : b ∈ xs := by
 unfold canonB sameB at h
 simp only [Bool.and_eq_true, decide_eq_true_eq] at h
 obtain ⟨c, hc, hbc⟩ := List.mem_flatMap.1 hm
 unfold encC at hbc
 split at hbc
 ·rename_i hneg
  have h2 : c ∈ ofL (sb (encL xs)) := by rw [h.2]; exact hc
  have := ofFrom_neg _ _ _ c h2 hneg
  simp at hbc
  omega
 ·rw [encRune_low (by omega) hb hbc]
  exact hc
theorem bytesOf_in {xs : List Int} (h : canonB xs = true) {b : UInt8} (hb : b.toNat < 128) (hm : b ∈ bytesOf xs) : (b.toNat : Int) ∈ xs := by
 refine low_in h (by omega) (by omega) ?_
 unfold bytesOf at hm
 have hbd := all_bd (xs := xs) (by unfold canonB at h; exact (Bool.and_eq_true_iff.1 h).1)
 obtain ⟨i, hi, he⟩ := List.mem_iff_getElem.1 hm
 have hi' : i < (encL xs).length := by
  have : (sb (encL xs)).data.toList.length = (encL xs).length := by rw [← sb_size]; rfl
  omega
 have hg := gb_sb hbd i
 rw [gb_list, List.getD_eq_getElem?_getD, List.getElem?_eq_getElem hi, Option.getD_some, he] at hg
 unfold nb at hg
 rw [List.getD_eq_getElem?_getD, List.getElem?_eq_getElem hi', Option.getD_some] at hg
 have h2 := hbd _ (List.getElem_mem hi')
 have : (b.toNat : Int) = (encL xs)[i] := by omega
 rw [this]
 exact List.getElem_mem hi'
theorem quot_free {l : List Int} (h : quotB l = true) : (34 : UInt8) ∉ bytesOf l ∧ (10 : UInt8) ∉ bytesOf l := by
 obtain ⟨-, -, h1, h2, h3⟩ := quotB_parts h
 exact ⟨fun hm => h1 (bytesOf_in (b := 34) h3 (by decide) hm), fun hm => h2 (bytesOf_in (b := 10) h3 (by decide) hm)⟩
theorem named_quot {e : Elm} (h : elemB e = true) (hn : e.name ≠ []) : quotB e.cells = true ∧ wordlyB e.name = true ∧ (numL e.name).isNone = true := by
 obtain ⟨nm, xs, s⟩ := e
 by_cases h1 : xs.length = 1
 ·obtain ⟨u, rfl⟩ : ∃ u, xs = [u] := by
   match xs, h1 with
   | [u], _ => exact ⟨u, rfl⟩
  rw [elemB_one] at h
  have := (Bool.and_eq_true_iff.1 h).2
  exact absurd (List.isEmpty_iff.1 this) hn
 ·rw [elemB_more s h1] at h
  simp only [Bool.and_eq_true] at h
  exact ⟨h.1.1, h.1.2, h.2⟩
theorem right_quot {l : Loc} (h : rightL l = true) : ∀ e ∈ l.ord, e.name ≠ [] → (34 : UInt8) ∉ bytesOf e.cells ∧ (10 : UInt8) ∉ bytesOf e.cells := by
 intro e he hn
 unfold rightL at h
 exact quot_free (named_quot (ordB_mem (Bool.and_eq_true_iff.1 h).2 e he) hn).1
theorem right_good {l : Loc} (h : rightL l = true) : GoodLs (locT l) := good_locT h (right_quot h)
end Go.Proofs.YthaibekbefndlaaGreatDoor.C

namespace Go.Proofs.YthaibekbefndlaaGreatDoor.C
open Go.RowKit

theorem PrsR.more {w : World} {B B' : Nat} {v : Value} {l : List (Int × Int)} (h : PrsR w B v l) (hB : B ≤ B') : PrsR w B' v l := by
 obtain ⟨A, c, e, h1⟩ := h
 exact ⟨A, c, e, h1.more hB⟩
theorem ClsR.more {w : World} {B B' : Nat} {v : Value} {l : List Cls} (h : ClsR w B v l) (hB : B ≤ B') : ClsR w B' v l := by
 obtain ⟨A, c, xs, e, h1, h2⟩ := h
 refine ⟨A, c, xs, e, h1.more hB, fun i k hi => ?_⟩
 obtain ⟨u, a1, a2, a3⟩ := h2 i k hi
 exact ⟨u, a1, a2.more hB, a3⟩
theorem OrdR.more {w : World} {B B' : Nat} {v : Value} {l : List Elm} (h : OrdR w B v l) (hB : B ≤ B') : OrdR w B' v l := by
 obtain ⟨A, c, xs, e, h1, h2⟩ := h
 refine ⟨A, c, xs, e, h1.more hB, fun i k hi => ?_⟩
 obtain ⟨a, b, a1, a2, a3⟩ := h2 i k hi
 exact ⟨a, b, a1, a2.more hB, a3⟩
theorem LocR.more {w : World} {B B' : Nat} {v1 v2 v3 v4 : Value} {l : Loc} (h : LocR w B v1 v2 v3 v4 l) (hB : B ≤ B') : LocR w B' v1 v2 v3 v4 l := ⟨h.1.more hB, h.2.1.more hB, h.2.2.1.more hB, h.2.2.2.1.more hB, h.2.2.2.2⟩
set_option maxRecDepth 100000 in
set_option maxHeartbeats 2000000 in
theorem wcatch_of (w : World) (E : Nat) (older : List PanicEntry) (hE : One w E 28 (.int .u16 0)) :
  CallsD Tryz.prog 22 #[.pointer (some ⟨E, 0, none⟩)] (.panicking ({ v := .iface 28 (.int .u16 3), recovered := false } :: older)) w fun e u' w' =>
   e = .returned (.tuple #[]) ∧ u' = .panicking ({ v := .iface 28 (.int .u16 3), recovered := true } :: older) ∧ ∃ w1, Below w.heap.size w w1 ∧ w' = w1.setCell ⟨E, 0, none⟩ (.int .u16 3) := by
 have hl1 := (Array.getElem?_eq_some_iff.1 hE).1
 have hw := fun W => faultOf_errno W 3
 have hfi : ∀ W : World, (Instr.field 66 (.agg #[.int .u16 3, .int .i64 0]) 0).run Tryz.prog W = .ok (.int .u16 3) W := fun W => by kernel_rfl
 refine callsD_of_wpS Tryz.func22 rfl fun c₀ cs hu => ?_
 apply wpS_seq
 apply wpS_region
 simp [wpOpsS, go_sem, recoverD, hu, Tryz.ntmps22, Exit.thenS]
 simp only [Array.replicate_succ, Array.replicate_zero, List.push_toArray, g1, g2, g3, List.append_toArray, List.nil_append, List.cons_append]
 refine wpS_of_wp ?_
 go_wp2_with fail
 refine (hw _).mono ?_
 rintro e w1 ⟨rfl, hb1⟩
 have k1 : One w1 E 28 (.int .u16 0) := (hb1.block E hl1).trans hE
 have c1 := k1.cell
 have f1 := k1.frozen 0
 have HB := Lib.hid hb1
 clear k1 hb1 hw
 go_wp2
 have hC : ∃ w2, Below w.heap.size w w2 ∧ w1.setCell ⟨E, 0, none⟩ (.int .u16 3) = w2.setCell ⟨E, 0, none⟩ (.int .u16 3) := ⟨w1, HB.out, rfl⟩
 change bodyPostS _ _ _ _ _ _ _ _ _
 simp [bodyPostS, results, Tryz.results22, hC]
theorem wcatch_idle (w : World) (E : Nat) :
  CallsD Tryz.prog 22 #[.pointer (some ⟨E, 0, none⟩)] .returning w fun e u' w' => e = .returned (.tuple #[]) ∧ u' = .returning ∧ w' = w := by
 refine callsD_of_wpS Tryz.func22 rfl fun c₀ cs hu => ?_
 apply wpS_seq
 apply wpS_region
 simp [wpOpsS, go_sem, recoverD, hu, Tryz.ntmps22, Exit.thenS]
 simp only [Array.replicate_succ, Array.replicate_zero, List.push_toArray, g1, g2, g3, List.append_toArray, List.nil_append, List.cons_append]
 refine wpS_of_wp ?_
 go_wp2
 cases c₀
 simp_all [bodyPostS, results, Tryz.results22]
theorem pw_new (w : World) : PW (w.alloc (.cells #[.slice none 0 0, .int .i64 0, .int .i8 0, .int .i64 0] 73)) w.heap.size w.heap.size [] 0 := by
 refine LibA.zero_isBuffer (Nat.le_refl _) (lr := 0) ⟨_, heap_alloc_new w _, rfl, rfl, rfl, fun i hi => ?_⟩
 have h3 : 3 ≤ i := by omega
 unfold tkR
 by_cases h : i = 3
 ·subst h; rfl
 ·rw [if_neg h, Array.getElem?_eq_none (by simp; omega)]
def PrintTold (w : World) (r : List UInt8 × Nat) (e : Ending) (w' : World) : Prop := e = .returned (.tuple #[.string (str r.1), .int .u16 r.2]) ∧ Below w.heap.size w w'
set_option maxRecDepth 100000 in
set_option maxHeartbeats 8000000 in
theorem locPrint_any (w : World) (B : Nat) (v1 v2 v3 v4 : Value) (l : Loc) (h : LocR w B v1 v2 v3 v4 l) (hB : B ≤ w.heap.size) (hG : Gm w) (hn1 : ∀ c ∈ l.cls, c.name.length ≤ 140737488351232) (hn2 : ∀ e ∈ l.ord, e.name.length ≤ 140737488351232) :
  Calls Tryz.prog 12 #[.agg #[v1, v2, v3, v4]] w (PrintTold w (printL l)) := by
 obtain ⟨⟨A1, c1, x1, rfl, -⟩, ⟨A2, c2, rfl, -⟩, ⟨A3, c3, rfl, -⟩, ⟨A4, c4, x4, rfl, -⟩, -⟩ := id h
 have hmf : ∀ (fn : Fn) (first cap : Array Value) (w : World), (Instr.makeFunc fn first cap).run Tryz.prog w = .ok (.func fn first cap) w := fun _ _ _ _ => rfl
 obtain ⟨W, hW⟩ : ∃ W, W = (w.alloc (.cells #[.slice A1 l.cls.length c1, .slice A2 l.up.length c2, .slice A3 l.lo.length c3, .slice A4 l.ord.length c4] 26)).alloc (.cells #[.int .u16 0] 28) := ⟨_, rfl⟩
 have hs1 : (w.alloc (.cells #[.slice A1 l.cls.length c1, .slice A2 l.up.length c2, .slice A3 l.lo.length c3, .slice A4 l.ord.length c4] 26)).heap.size = w.heap.size + 1 := by simp
 have hbW : Below w.heap.size w W := by rw [hW]; exact ((Below.refl _ _).alloc (Nat.le_refl _) _).alloc (by simp) _
 have hE : One W (w.heap.size + 1) 28 (.int .u16 0) := by
  show W.heap[w.heap.size + 1]? = _
  rw [hW, ← hs1]
  exact heap_alloc_new _ _
 have hL : LocZ W w.heap.size (.slice A1 l.cls.length c1) (.slice A2 l.up.length c2) (.slice A3 l.lo.length c3) (.slice A4 l.ord.length c4) := by
  unfold LocZ
  rw [hW, heap_lt _ _ (by simp), heap_new]
 have hri := locRight_any W B _ _ _ _ l (h.on hbW hB) (Nat.le_trans hB hbW.size) (hG.next hbW)
 obtain ⟨q0, q1, q2, q3⟩ := hL.cells
 have HE := Lib.hid hE
 have HL := Lib.hid hL
 have HG := Lib.hid (hG.next hbW)
 have HBW := Lib.hid hbW
 have HR := Lib.hid ((h.on hbW hB).more hB)
 have HN := Lib.hid (And.intro hn1 hn2)
 obtain ⟨S, hS⟩ : ∃ S, S = w.heap.size := ⟨_, rfl⟩
 have HSS := Lib.hid hS
 clear h hG hE hL hn1 hn2 hs1
 rw [hW] at q0 q1 q2 q3
 rw [← hS] at HE HL HBW HR
 by_cases hr : rightL l = true
 rotate_left
 ·have hr0 : rightL l = false := by simpa using hr
  have hp : printL l = ([], 1) := by unfold printL; rw [hr0]; rfl
  rw [hp]
  rw [hr0] at hri
  clear hp hr hr0
  go_enter_defers Tryz.func12, Tryz.ntmps12
  go_wp2_with fail
  rw [← hW]
  with_reducible refine hri.mono ?_
  rintro e w2 ⟨rfl, hb2⟩
  rw [← hS]
  clear hS
  have hE2 : One w2 (S + 1) 28 (.int .u16 0) := (hb2.block _ HE.out.lt).trans HE.out
  have d0 := hE2.cell
  have d1 := hE2.frozen 0
  obtain ⟨W3, hW3⟩ : ∃ W3, W3 = w2.setCell ⟨S + 1, 0, none⟩ (.int .u16 1) := ⟨_, rfl⟩
  have hE3 : One W3 (S + 1) 28 (.int .u16 1) := by rw [hW3]; exact hE2.set_ _
  have hB3 : Below S w W3 := by rw [hW3]; exact (HBW.out.trans (hb2.mono (by have := HSS.out; have := HBW.out.size; omega))).setCell (p := ⟨S + 1, 0, none⟩) (Nat.le_succ S) _
  have d2 := hE3.cell
  clear hri hb2 hE2 hW q0 q1 q2 q3
  go_wp2
  rw [← hW3]
  have hfin : PrintTold w ([], 1) (.returned (.tuple #[.string ⟨#[]⟩, .int .u16 1])) W3 := ⟨rfl, by rw [← HSS.out]; exact hB3⟩
  simp [bodyPostD, Leaves, results, Tryz.results12, go_sem, d2]
  exact hfin
 ·rw [hr] at hri
  go_enter_defers Tryz.func12, Tryz.ntmps12
  go_wp2_with fail
  rw [← hW]
  with_reducible refine hri.mono ?_
  rintro e w2 ⟨rfl, hb2⟩
  rw [← hS]
  clear hS
  obtain ⟨W3, hW3⟩ : ∃ W3, W3 = w2.alloc (.cells #[.slice none 0 0, .int .i64 0, .int .i8 0, .int .i64 0] 73) := ⟨_, rfl⟩
  have hb3 : Below w2.heap.size w2 W3 := by rw [hW3]; exact (Below.refl _ _).alloc (Nat.le_refl _) _
  have hP3 : PW W3 w2.heap.size w2.heap.size [] 0 := by rw [hW3]; exact pw_new w2
  have hSW : S ≤ W.heap.size := by have := HSS.out; have := HBW.out.size; omega
  have hSP : S ≤ w2.heap.size := Nat.le_trans hSW hb2.size
  have hG2 := HG.out.next hb2
  have hE2 : One w2 (S + 1) 28 (.int .u16 0) := (hb2.block _ HE.out.lt).trans HE.out
  have hL2 : LocZ w2 S _ _ _ _ := (hb2.block _ HL.out.lt).trans HL.out
  have hL3 : LocZ W3 S _ _ _ _ := (hb3.block _ hL2.lt).trans hL2
  have hE3 : One W3 (S + 1) 28 (.int .u16 0) := (hb3.block _ hE2.lt).trans hE2
  have hR3 := (((HR.out.on hb2 hSW).on hb3 hSP).more hSP)
  have hdf := definition_any W3 w2.heap.size w2.heap.size _ _ _ _ l hP3 (fun w' h' => hG2.1.next (hb3.trans h')) hb3.size hR3 (prtOk_of hr HN.out.1 HN.out.2)
  obtain ⟨q4, q5, q6, q7⟩ := hL3.cells
  rw [hW3] at q4 q5 q6 q7
  have HB3 : Hid (Below S w W3) := Lib.hid ((HBW.out.trans (hb2.mono hSW)).trans (hb3.mono hSP))
  have HE3 := Lib.hid hE3
  have HEP : Hid (S + 1 < w2.heap.size) := Lib.hid hE2.lt
  have HSP := Lib.hid hSP
  have hp : printL l = if (linesT (locT l)).length ≤ 4000 ∧ (toksT (locT l)).length ≤ 1000 then (linesT (locT l), 0) else ([], 3) := by unfold printL; rw [if_pos hr]
  have HPL := Lib.hid hp
  clear hri hb2 hb3 hP3 hSW hSP hG2 hE2 hL2 hL3 hE3 hR3 hW q0 q1 q2 q3 hp hr
  go_wp2_with fail
  rw [← hW3]
  with_reducible refine hdf.mono ?_
  rintro e w4 (⟨a1, a2, rfl, a3, a4⟩ | ⟨a1, rfl, a2⟩)
  ·obtain ⟨P, hP⟩ : ∃ P, P = w2.heap.size := ⟨_, rfl⟩
   rw [← hP] at a3 a4 HEP HSP ⊢
   clear hP
   have HQL : Hid (printL l = (linesT (locT l), 0)) := Lib.hid (by rw [HPL.out, if_pos ⟨a1, a2⟩])
   have hst := Tryz.Buffer_String_at _ _ _ _ _ _ _ a3
   have hE4 : One w4 (S + 1) 28 (.int .u16 0) := (a4.1.block _ HEP.out).trans HE3.out
   have HB4 : Hid (Below S w w4) := Lib.hid (HB3.out.trans (a4.1.mono HSP.out))
   have HE4 := Lib.hid hE4
   clear a1 a2 a3 a4 hdf hW3 hE4 q4 q5 q6 q7
   go_wp2_with fail
   with_reducible refine hst.mono ?_
   rintro e w5 ⟨rfl, n, rfl⟩
   have hE5 : One (w4.drewN n) (S + 1) 28 (.int .u16 0) := HE4.out
   have d0 : w4.cell? ⟨S + 1, 0, none⟩ = some (.int .u16 0) := HE4.out.cell
   have d1 : w4.frozen? ⟨S + 1, 0, none⟩ = false := HE4.out.frozen 0
   clear hst
   go_wp2
   refine leaves_cons (f := 22) (args := #[.pointer (some ⟨S + 1, 0, none⟩)]) (by simp) (by simp [go_sem]) ?_
   refine (wcatch_idle _ _).mono ?_
   rintro e u' w6 ⟨rfl, rfl, rfl⟩
   have hE6 : One ((w4.drewN n).setCell ⟨S + 1, 0, none⟩ (.int .u16 0)) (S + 1) 28 (.int .u16 0) := hE5.set_ _
   have d2 := hE6.cell
   have hfin : PrintTold w (printL l) (.returned (.tuple #[.string ⟨(linesT (locT l)).toArray⟩, .int .u16 0])) ((w4.drewN n).setCell ⟨S + 1, 0, none⟩ (.int .u16 0)) := by
    rw [HQL.out]
    exact ⟨rfl, by rw [← HSS.out]; exact (show Below S w (w4.drewN n) from ⟨HB4.out.os, HB4.out.tape, HB4.out.output, HB4.out.size, HB4.out.block⟩).setCell (p := ⟨S + 1, 0, none⟩) (Nat.le_succ S) _⟩
   simp [Leaves, settle, results, Tryz.results12, go_sem, d2]
   exact hfin
  ·obtain ⟨P, hP⟩ : ∃ P, P = w2.heap.size := ⟨_, rfl⟩
   rw [← hP] at a2 HEP HSP ⊢
   clear hP
   have HQL : Hid (printL l = ([], 3)) := Lib.hid (by rw [HPL.out, if_neg a1])
   have hE4 : One w4 (S + 1) 28 (.int .u16 0) := (a2.block _ HEP.out).trans HE3.out
   have HB4 : Hid (Below S w w4) := Lib.hid (HB3.out.trans (a2.mono HSP.out))
   clear a1 a2 hdf hW3 q4 q5 q6 q7
   unfold longV
   go_wp2
   refine leaves_cons (f := 22) (args := #[.pointer (some ⟨S + 1, 0, none⟩)]) (by simp) (by simp [go_sem]) ?_
   refine (wcatch_of _ _ [] hE4).mono ?_
   rintro e u' w5 ⟨rfl, rfl, w6, hb6, rfl⟩
   have hE6 : One (w6.setCell ⟨S + 1, 0, none⟩ (.int .u16 3)) (S + 1) 28 (.int .u16 3) := (show One w6 (S + 1) 28 (.int .u16 0) from (hb6.block _ hE4.lt).trans hE4).set_ _
   have d2 := hE6.cell
   have hfin : PrintTold w (printL l) (.returned (.tuple #[.string ⟨#[]⟩, .int .u16 3])) (w6.setCell ⟨S + 1, 0, none⟩ (.int .u16 3)) := by
    rw [HQL.out]
    exact ⟨rfl, by rw [← HSS.out]; exact (HB4.out.trans (hb6.mono (by have := HB4.out.size; have := HSS.out; omega))).setCell (p := ⟨S + 1, 0, none⟩) (Nat.le_succ S) _⟩
   simp [Leaves, settle, results, Tryz.results12, go_sem, d2]
   exact hfin
end Go.Proofs.YthaibekbefndlaaGreatDoor.C

namespace Go.Proofs.YthaibekbefndlaaGreatDoor.C
open Go.RowKit

def ClV (S : Nat) (wp : World) (C : Nat) (nm : List UInt8) (rs : List (Int × Int)) (wx : World) : Prop := wp.heap.size ≤ C ∧ Below wp.heap.size wp wx ∧ ∃ v, Two wx C 47 (.string (str nm)) v ∧ wx.ownsRow S 51 2 v rs.length (prsC rs) ∧ ∀ g, v.ownBlock = some g → wp.heap.size ≤ g
theorem ClV.more {S C g cap : Nat} {wp w1 w2 : World} {nm : List UInt8} {rs : List (Int × Int)} {v : Value} (p : Int × Int) (hC : wp.heap.size ≤ C) (hb : Below wp.heap.size wp w1) (ht : Two w1 C 47 (.string (str nm)) v) (hov : w1.ownsRow S 51 2 v rs.length (prsC rs)) (hvb : ∀ g, v.ownBlock = some g → wp.heap.size ≤ g) (hg : w1.grownBy w2 v.ownBlock) (ho : w2.ownsRow S 51 2 (.slice (some ⟨g, 0, none⟩) (rs.length + 1) cap) (rs.length + 1) (prsC rs ++ [.int .i32 p.1, .int .i32 p.2])) (hat : v.ownBlock = some g ∨ wp.heap.size ≤ g) :
  ClV S wp C nm (rs ++ [p]) (w2.setCell ⟨C, 1, none⟩ (.slice (some ⟨g, 0, none⟩) (rs.length + 1) cap)) := by
 have hne := row_ne hov ht (by decide)
 have h2 := ht.kept hg (fun e => hne e.symm)
 have hf : Fr w2 (w2.setCell ⟨C, 1, none⟩ (.slice (some ⟨g, 0, none⟩) (rs.length + 1) cap)) (· = C) := (Fr.of_below (Below.refl _ _)).set _ _ (fun _ => rfl)
 refine ⟨hC, (hb.trans ((Fr.of_grown hg).below (fun j _ hj => hvb j hj) hb.size)).setCell (p := ⟨C, 1, none⟩) hC _, _, h2.set1 _, ?_, fun g' hg' => ?_⟩
 ·rw [List.length_append, prsC_snoc]
  exact ownsRow_fr ho hf (fun g' hg' hx => by subst hx; exact row_ne ho h2 (by decide) hg')
 ·have hgg : g = g' := by simpa [Value.ownBlock] using hg'
  subst hgg
  rcases hat with hat | hat
  ·exact hvb g hat
  ·exact hat
theorem ownsRow_new (w : World) (S : Nat) (hS : S ≤ w.heap.size) (e : TypeId) (size n : Nat) (xs : List Value) (hl : xs.length = n * size) (hn : n ≤ maxLen) : (w.alloc (.cells xs.toArray e)).ownsRow S e size (.slice (some ⟨w.heap.size, 0, none⟩) n n) n xs :=
 ⟨hl, .inr ⟨w.heap.size, n, xs.toArray, rfl, hS, heap_alloc_new w _, Nat.le_refl _, hn, by simpa using hl, by rw [List.take_of_length_le (by simp [hl])]⟩⟩
theorem ClV.newA (w : World) {S : Nat} (hS : S ≤ w.heap.size) (nm : List UInt8) (a b : Int) : ClV S w (w.heap.size + 1) nm [(a, b)] ((w.alloc (.cells #[.int .i32 a, .int .i32 b] 51)).alloc (.cells #[.string (str nm), .slice (some ⟨w.heap.size, 0, none⟩) 1 1] 47)).drew := by
 have hs : (w.alloc (.cells #[.int .i32 a, .int .i32 b] 51)).heap.size = w.heap.size + 1 := by simp
 refine ⟨Nat.le_succ _, below_drew (((Below.refl _ _).alloc (Nat.le_refl _) _).alloc (by rw [hs]; omega) _), _, ?_, ((ownsRow_new w S hS 51 2 1 [.int .i32 a, .int .i32 b] rfl (by unfold maxLen; omega)).alloc _).drew, fun g hg => ?_⟩
 ·have h := Two.new (w.alloc (.cells #[.int .i32 a, .int .i32 b] 51)) 47 (.string (str nm)) (.slice (some ⟨w.heap.size, 0, none⟩) 1 1)
  rw [hs] at h
  exact h
 ·have : w.heap.size = g := by simpa [Value.ownBlock] using hg
  omega
theorem ClV.newB (w : World) {S : Nat} (hS : S ≤ w.heap.size) (nm : List UInt8) (a b : Int) : ClV S w w.heap.size nm [(a, b)] ((w.alloc (.cells #[.string (str nm), .slice (some ⟨w.heap.size + 1, 0, none⟩) 1 1] 47)).alloc (.cells #[.int .i32 a, .int .i32 b] 51)).drew := by
 have hs : (w.alloc (.cells #[.string (str nm), .slice (some ⟨w.heap.size + 1, 0, none⟩) 1 1] 47)).heap.size = w.heap.size + 1 := by simp
 have ho := ownsRow_new (w.alloc (.cells #[.string (str nm), .slice (some ⟨w.heap.size + 1, 0, none⟩) 1 1] 47)) S (by rw [hs]; omega) 51 2 1 [.int .i32 a, .int .i32 b] rfl (by unfold maxLen; omega)
 rw [hs] at ho
 refine ⟨Nat.le_refl _, below_drew (((Below.refl _ _).alloc (Nat.le_refl _) _).alloc (by rw [hs]; omega) _), _, ((Two.new w 47 (.string (str nm)) (.slice (some ⟨w.heap.size + 1, 0, none⟩) 1 1)).alloc _).drew, ho.drew, fun g hg => ?_⟩
 have : w.heap.size + 1 = g := by simpa [Value.ownBlock] using hg
 omega
def ElV (S : Nat) (wp : World) (E : Nat) (nm : List UInt8) (cs : List Int) (sm : Int) (wx : World) : Prop := wp.heap.size ≤ E ∧ Below wp.heap.size wp wx ∧ ∃ Ac cc, Rw wx E 34 #[.string (str nm), .slice Ac cs.length cc, .int .i64 sm] ∧ wx.ownsRow S 35 1 (.slice Ac cs.length cc) cs.length (celC cs)
theorem ElV.new (w : World) (S : Nat) (hS : S ≤ w.heap.size) (r k : Int) : ElV S w (w.heap.size + 1) [] [r] k ((w.alloc (.cells #[.int .i32 r] 35)).alloc (.cells #[.string (str []), .slice (some ⟨w.heap.size, 0, none⟩) 1 1, .int .i64 k] 34)) := by
 have hs : (w.alloc (.cells #[.int .i32 r] 35)).heap.size = w.heap.size + 1 := by simp
 refine ⟨Nat.le_succ _, ((Below.refl _ _).alloc (Nat.le_refl _) _).alloc (by rw [hs]; omega) _, _, _, ?_, (ownsRow_new w S hS 35 1 1 [.int .i32 r] rfl (by unfold maxLen; omega)).alloc _⟩
 unfold Rw
 rw [← hs]
 exact heap_alloc_new _ _
theorem Rw.frozen {w : World} {b : Nat} {t : TypeId} {xs : Array Value} (h : Rw w b t xs) (i : Nat) : w.frozen? ⟨b, i, none⟩ = false := by simp [World.frozen?, show w.heap[b]? = _ from h]
theorem Rw.alloc {w : World} {b : Nat} {t : TypeId} {xs : Array Value} (h : Rw w b t xs) (o : Obj) : Rw (w.alloc o) b t xs := (Below.heap_alloc w o b h.lt).trans h
theorem ElV.name1 {S E : Nat} {wp w : World} {nm : List UInt8} {cs : List Int} {sm : Int} (h : ElV S wp E nm cs sm w) (nm' : List UInt8) (o : Obj) :
  ElV S wp E nm' cs sm ((w.alloc o).setCell ⟨E, 0, none⟩ (.string (str nm'))) := by
 obtain ⟨hE, hb, Ac, cc, hr, ho⟩ := h
 exact ⟨hE, (hb.alloc hb.size o).setCell (p := ⟨E, 0, none⟩) hE _, Ac, cc, set_row (i := 0) (l := [_, _, _]) (hr.alloc o) _, Go.ownsRow_setCell_other (ho.alloc o) (fun he => row_ne (ho.alloc o) (hr.alloc o) (by decide) he) _⟩
theorem ElV.cells1 {S E : Nat} {wp w : World} {nm : List UInt8} {cs : List Int} {sm : Int} (h : ElV S wp E nm cs sm w) (hS : S ≤ wp.heap.size) (a b : Int) :
  ElV S wp E nm [a, b] sm ((w.alloc (.cells #[.int .i32 a, .int .i32 b] 35)).setCell ⟨E, 1, none⟩ (.slice (some ⟨w.heap.size, 0, none⟩) 2 2)) := by
 obtain ⟨hE, hb, Ac, cc, hr, -⟩ := h
 have hn := ownsRow_new w S (Nat.le_trans hS hb.size) 35 1 2 [.int .i32 a, .int .i32 b] rfl (by unfold maxLen; omega)
 refine ⟨hE, (hb.alloc hb.size _).setCell (p := ⟨E, 1, none⟩) hE _, some ⟨w.heap.size, 0, none⟩, 2, set_row (i := 1) (l := [_, _, _]) (hr.alloc _) _, Go.ownsRow_setCell_other hn (fun he => ?_) _⟩
 have : w.heap.size = E := by simpa [Value.ownBlock] using he
 have := hr.lt
 omega
def namArr : Array Value := #[.string ⟨#[99, 104]⟩, .string ⟨#[97, 98]⟩, .string ⟨#[101, 115, 122, 101, 116, 116]⟩]
theorem nam_cell (w : World) (t : TypeId) {j : Nat} (hj : j < 3) : (w.alloc (.cells namArr t)).cell? ⟨w.heap.size, j, none⟩ = some (.string (str (nmElm (j : Int)))) := by
 rw [World.cell?_alloc_new]
 rcases (by omega : j = 0 ∨ j = 1 ∨ j = 2) with rfl | rfl | rfl <;> rfl
theorem ElV.samed {S E : Nat} {wp w : World} {nm : List UInt8} {cs : List Int} {sm : Int} (h : ElV S wp E nm cs sm w) (s : Int) : ElV S wp E nm cs s (w.setCell ⟨E, 2, none⟩ (.int .i64 s)) := by
 obtain ⟨hE, hb, Ac, cc, hr, ho⟩ := h
 refine ⟨hE, hb.setCell (p := ⟨E, 2, none⟩) hE _, Ac, cc, set_row (i := 2) (l := [_, _, _]) hr _, Go.ownsRow_setCell_other ho (fun he => ?_) _⟩
 exact row_ne ho hr (by decide) he
theorem ElV.next {S E : Nat} {wp w w' : World} {nm : List UInt8} {cs : List Int} {sm : Int} (h : ElV S wp E nm cs sm w) (hb : Below w.heap.size w w') : ElV S wp E nm cs sm w' := by
 obtain ⟨hE, hb0, Ac, cc, hr, ho⟩ := h
 exact ⟨hE, hb0.trans (hb.mono hb0.size), Ac, cc, (hb.block _ hr.lt).trans hr, ownsRow_fr ho (.of_below hb) (X := fun _ => False) (fun _ _ => id)⟩
theorem GSt.mid {w0 w w' : World} {S sz n : Nat} {l : Loc} {v1 v2 v3 v4 v : Value} {t0 : TypeId} {xs : List Value} (h : GSt w0 S l v1 v2 v3 v4 w) (e2 : w.ownsRow S t0 sz v n xs) (h1 : 26 ≠ t0) (h2 : 9 ≠ t0) (hg : w.grownBy w' v.ownBlock) : LocZ w' (S + 1) v1 v2 v3 v4 ∧ Below S w0 w' := by
 have hq := h.step (grown_fr hg) (ownBlock_ge e2) (fun j hx => ⟨fun e => row_ne e2 h.r h1 (e ▸ hx), fun e => row_ne e2 h.z h1 (e ▸ hx), fun e => row_ne e2 h.nm h2 (e ▸ hx)⟩) (row_tyeq e2)
 exact ⟨hq.1, hq.2.2.2.1⟩
theorem nm_at {w0 w : World} {S : Nat} {l : Loc} {v1 v2 v3 v4 : Value} (h : GSt w0 S l v1 v2 v3 v4 w) {i : Nat} (hi : i < 3) : w.cell? ⟨S + 1 + 1, i, none⟩ = some (.string (str (nmCls i))) := by
 rcases (by omega : i = 0 ∨ i = 1 ∨ i = 2) with rfl | rfl | rfl
 ·exact h.nm.cell rfl
 ·exact h.nm.cell rfl
 ·exact h.nm.cell rfl
theorem take_end {α : Type} {l : List α} {i n k : Nat} (hl : l.length = n) (h1 : i ≤ n) (h2 : i ≤ k) (h3 : ¬ (i < n ∧ i < k)) : l.take i = l.take k := by
 rcases (by omega : i = n ∨ i = k) with h | h
 ·rw [List.take_of_length_le (by omega), List.take_of_length_le (by omega)]
 ·rw [h]
theorem take_drop_end {α : Type} {l : List α} {i n a k : Nat} (hl : l.length = n) (h0 : a ≤ i) (_ : i ≤ n ∨ i = a) (h2 : i ≤ a + k) (h3 : ¬ (i < n ∧ i < a + k)) : (l.drop a).take (i - a) = (l.drop a).take k := by
 rcases (by omega : i = a + k ∨ n ≤ i) with h | h
 ·rw [h, Nat.add_sub_cancel_left]
 ·rw [List.take_of_length_le (by rw [List.length_drop]; omega), List.take_of_length_le (by rw [List.length_drop]; omega)]
theorem take_drop_one {α : Type} {l : List α} {i a : Nat} {z : α} (h : l[i]? = some z) (h0 : a ≤ i) : (l.drop a).take (i + 1 - a) = (l.drop a).take (i - a) ++ [z] := by
 rw [show i + 1 - a = (i - a) + 1 by omega]
 exact take_one (by rw [List.getElem?_drop, show a + (i - a) = i by omega]; exact h)
theorem take_len {α : Type} {l : List α} {i a : Nat} {z : α} (h : l[i]? = some z) (h0 : a ≤ i) : ((l.drop a).take (i - a)).length = i - a := by
 have := (List.getElem?_eq_some_iff.1 h).1
 rw [List.length_take, List.length_drop]
 omega
theorem GSt.told {w0 w : World} {S : Nat} {l : Loc} {v1 v2 v3 v4 : Value} (h : GSt w0 S l v1 v2 v3 v4 w) (hS : w0.heap.size = S) (x1 x2 x3 x4 : Value) :
  LocAt ((((w.setCell ⟨S, 0, none⟩ x1).setCell ⟨S, 1, none⟩ x2).setCell ⟨S, 2, none⟩ x3).setCell ⟨S, 3, none⟩ x4) w0.heap.size v1 v2 v3 v4 l ∧ Below w0.heap.size w0 ((((w.setCell ⟨S, 0, none⟩ x1).setCell ⟨S, 1, none⟩ x2).setCell ⟨S, 2, none⟩ x3).setCell ⟨S, 3, none⟩ x4) := by
 rw [hS]
 have hf : Fr w ((((w.setCell ⟨S, 0, none⟩ x1).setCell ⟨S, 1, none⟩ x2).setCell ⟨S, 2, none⟩ x3).setCell ⟨S, 3, none⟩ x4) (fun j => j = S) := ((((Fr.of_below (X := fun j => j = S) (Below.refl _ _)).set ⟨S, 0, none⟩ x1 (fun _ => rfl)).set ⟨S, 1, none⟩ x2 (fun _ => rfl)).set ⟨S, 2, none⟩ x3 (fun _ => rfl)).set ⟨S, 3, none⟩ x4 (fun _ => rfl)
 have hty : ∀ g c z t, g = S → w.heap[g]? = some (.cells c t z) → t = 26 := by
  rintro g c z t rfl hg
  have := hg.symm.trans h.r
  simp at this
  exact this.2.1
 obtain ⟨a1, a2, a3, a4⟩ := h.loc
 have no : ∀ {e : TypeId} {sz n : Nat} {v : Value} {xs : List Value}, w.ownsRow S e sz v n xs → 26 ≠ e → ∀ g, v.ownBlock = some g → ¬ g = S := fun hw he g hg hx => by
  subst hx
  exact row_ne hw h.r he hg
 refine ⟨⟨a1.fr hf (fun g c z t hx hg => ?_), ownsRow_fr a2 hf (no a2 (by decide)), ownsRow_fr a3 hf (no a3 (by decide)), a4.fr hf (fun g c z t hx hg => ?_)⟩, (((h.b.setCell (p := ⟨S, 0, none⟩) (Nat.le_refl S) _).setCell (p := ⟨S, 1, none⟩) (Nat.le_refl S) _).setCell (p := ⟨S, 2, none⟩) (Nat.le_refl S) _).setCell (p := ⟨S, 3, none⟩) (Nat.le_refl S) _⟩
 ·rw [hty g c z t hx hg]; decide
 ·rw [hty g c z t hx hg]; decide
end Go.Proofs.YthaibekbefndlaaGreatDoor.C
