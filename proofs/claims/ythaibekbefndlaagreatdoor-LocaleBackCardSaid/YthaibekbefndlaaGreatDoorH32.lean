/-
  Joined: LfO. Each with what its own head says.
-/
import Derived.Test.YthaibekbefndlaaGreatDoorH31

namespace Go.Proofs.YthaibekbefndlaaGreatDoor.C
open Go.RowKit

theorem PrsR.more {w : World} {B B' : Nat} {v : Value} {l : List (Int × Int)} (h : PrsR w B v l) (hB : B ≤ B') : PrsR w B' v l := by
 obtain ⟨A, c, e, h1⟩ := h
 exact ⟨A, c, e, h1.more hB⟩
theorem ClsR.more {w : World} {B B' : Nat} {v : Value} {l : List Cls} (h : ClsR w B v l) (hB : B ≤ B') : ClsR w B' v l := by
 obtain ⟨A, c, xs, e, h1, h2⟩ := h
 refine ⟨A, c, xs, e, h1.more hB, fun i k hi => ?_⟩
 obtain ⟨u, a1, a2, a3⟩ := h2 i k hi
 exact ⟨u, a1, a2.more hB, a3⟩
theorem OrdR.more {w : World} {B B' : Nat} {v : Value} {l : List Elm} (h : OrdR w B v l) (hB : B ≤ B') : OrdR w B' v l := by
 obtain ⟨A, c, xs, e, h1, h2⟩ := h
 refine ⟨A, c, xs, e, h1.more hB, fun i k hi => ?_⟩
 obtain ⟨a, b, a1, a2, a3⟩ := h2 i k hi
 exact ⟨a, b, a1, a2.more hB, a3⟩
theorem LocR.more {w : World} {B B' : Nat} {v1 v2 v3 v4 : Value} {l : Loc} (h : LocR w B v1 v2 v3 v4 l) (hB : B ≤ B') : LocR w B' v1 v2 v3 v4 l := ⟨h.1.more hB, h.2.1.more hB, h.2.2.1.more hB, h.2.2.2.1.more hB, h.2.2.2.2⟩
set_option maxRecDepth 100000 in
set_option maxHeartbeats 2000000 in
theorem wcatch_of (w : World) (E : Nat) (older : List PanicEntry) (hE : One w E 28 (.int .u16 0)) :
  CallsD Tryz.prog 22 #[.pointer (some ⟨E, 0, none⟩)] (.panicking ({ v := .iface 28 (.int .u16 3), recovered := false } :: older)) w fun e u' w' =>
   e = .returned (.tuple #[]) ∧ u' = .panicking ({ v := .iface 28 (.int .u16 3), recovered := true } :: older) ∧ ∃ w1, Below w.heap.size w w1 ∧ w' = w1.setCell ⟨E, 0, none⟩ (.int .u16 3) := by
 have hl1 := (Array.getElem?_eq_some_iff.1 hE).1
 have hw := fun W => faultOf_errno W 3
 have hfi : ∀ W : World, (Instr.field 66 (.agg #[.int .u16 3, .int .i64 0]) 0).run Tryz.prog W = .ok (.int .u16 3) W := fun W => by kernel_rfl
 refine callsD_of_wpS Tryz.func22 rfl fun c₀ cs hu => ?_
 apply wpS_seq
 apply wpS_region
 simp [wpOpsS, go_sem, recoverD, hu, Tryz.ntmps22, Exit.thenS]
 simp only [Array.replicate_succ, Array.replicate_zero, List.push_toArray, List.setIfInBounds_toArray, List.set_cons_zero, List.set_cons_succ, List.append_toArray, List.nil_append, List.cons_append]
 refine wpS_of_wp ?_
 go_wp2_with fail
 refine (hw _).mono ?_
 rintro e w1 ⟨rfl, hb1⟩
 have k1 : One w1 E 28 (.int .u16 0) := (hb1.block E hl1).trans hE
 have c1 := k1.cell
 have f1 := k1.frozen 0
 have HB := Lib.hid hb1
 clear k1 hb1 hw
 go_wp2
 have hC : ∃ w2, Below w.heap.size w w2 ∧ w1.setCell ⟨E, 0, none⟩ (.int .u16 3) = w2.setCell ⟨E, 0, none⟩ (.int .u16 3) := ⟨w1, HB.out, rfl⟩
 change bodyPostS _ _ _ _ _ _ _ _ _
 simp [bodyPostS, results, Tryz.results22, hC]
theorem wcatch_idle (w : World) (E : Nat) :
  CallsD Tryz.prog 22 #[.pointer (some ⟨E, 0, none⟩)] .returning w fun e u' w' => e = .returned (.tuple #[]) ∧ u' = .returning ∧ w' = w := by
 refine callsD_of_wpS Tryz.func22 rfl fun c₀ cs hu => ?_
 apply wpS_seq
 apply wpS_region
 simp [wpOpsS, go_sem, recoverD, hu, Tryz.ntmps22, Exit.thenS]
 simp only [Array.replicate_succ, Array.replicate_zero, List.push_toArray, List.setIfInBounds_toArray, List.set_cons_zero, List.set_cons_succ, List.append_toArray, List.nil_append, List.cons_append]
 refine wpS_of_wp ?_
 go_wp2
 cases c₀
 simp_all [bodyPostS, results, Tryz.results22]
theorem pw_new (w : World) : PW (w.alloc (.cells #[.slice none 0 0, .int .i64 0, .int .i8 0, .int .i64 0] 73)) w.heap.size w.heap.size [] 0 := by
 refine LibA.zero_isBuffer (Nat.le_refl _) (lr := 0) ⟨_, heap_alloc_new w _, rfl, rfl, rfl, fun i hi => ?_⟩
 have h3 : 3 ≤ i := by omega
 unfold tkR
 by_cases h : i = 3
 ·subst h; rfl
 ·rw [if_neg h, Array.getElem?_eq_none (by simp; omega)]
def PrintTold (w : World) (r : List UInt8 × Nat) (e : Ending) (w' : World) : Prop := e = .returned (.tuple #[.string (str r.1), .int .u16 r.2]) ∧ Below w.heap.size w w'
set_option maxRecDepth 100000 in
set_option maxHeartbeats 8000000 in
theorem locPrint_any (w : World) (B : Nat) (v1 v2 v3 v4 : Value) (l : Loc) (h : LocR w B v1 v2 v3 v4 l) (hB : B ≤ w.heap.size) (hG : Gm w) (hn1 : ∀ c ∈ l.cls, c.name.length ≤ 5000) (hn2 : ∀ e ∈ l.ord, e.name.length ≤ 5000) :
  Calls Tryz.prog 12 #[.agg #[v1, v2, v3, v4]] w (PrintTold w (printL l)) := by
 obtain ⟨⟨A1, c1, x1, rfl, -⟩, ⟨A2, c2, rfl, -⟩, ⟨A3, c3, rfl, -⟩, ⟨A4, c4, x4, rfl, -⟩, -⟩ := id h
 have hmf : ∀ (fn : Fn) (first cap : Array Value) (w : World), (Instr.makeFunc fn first cap).run Tryz.prog w = .ok (.func fn first cap) w := fun _ _ _ _ => rfl
 obtain ⟨W, hW⟩ : ∃ W, W = (w.alloc (.cells #[.slice A1 l.cls.length c1, .slice A2 l.up.length c2, .slice A3 l.lo.length c3, .slice A4 l.ord.length c4] 26)).alloc (.cells #[.int .u16 0] 28) := ⟨_, rfl⟩
 have hs1 : (w.alloc (.cells #[.slice A1 l.cls.length c1, .slice A2 l.up.length c2, .slice A3 l.lo.length c3, .slice A4 l.ord.length c4] 26)).heap.size = w.heap.size + 1 := by simp
 have hbW : Below w.heap.size w W := by rw [hW]; exact ((Below.refl _ _).alloc (Nat.le_refl _) _).alloc (by simp) _
 have hE : One W (w.heap.size + 1) 28 (.int .u16 0) := by
  show W.heap[w.heap.size + 1]? = _
  rw [hW, ← hs1]
  exact heap_alloc_new _ _
 have hL : LocZ W w.heap.size (.slice A1 l.cls.length c1) (.slice A2 l.up.length c2) (.slice A3 l.lo.length c3) (.slice A4 l.ord.length c4) := by
  unfold LocZ
  rw [hW, heap_lt _ _ (by simp), heap_new]
 have hri := locRight_any W B _ _ _ _ l (h.on hbW hB) (Nat.le_trans hB hbW.size) (hG.next hbW)
 obtain ⟨q0, q1, q2, q3⟩ := hL.cells
 have HE := Lib.hid hE
 have HL := Lib.hid hL
 have HG := Lib.hid (hG.next hbW)
 have HBW := Lib.hid hbW
 have HR := Lib.hid ((h.on hbW hB).more hB)
 have HN := Lib.hid (And.intro hn1 hn2)
 obtain ⟨S, hS⟩ : ∃ S, S = w.heap.size := ⟨_, rfl⟩
 have HSS := Lib.hid hS
 clear h hG hE hL hn1 hn2 hs1
 rw [hW] at q0 q1 q2 q3
 rw [← hS] at HE HL HBW HR
 by_cases hr : rightL l = true
 rotate_left
 ·have hr0 : rightL l = false := by simpa using hr
  have hp : printL l = ([], 1) := by unfold printL; rw [hr0]; rfl
  rw [hp]
  rw [hr0] at hri
  clear hp hr hr0
  go_enter_defers Tryz.func12, Tryz.ntmps12
  go_wp2_with fail
  rw [← hW]
  with_reducible refine hri.mono ?_
  rintro e w2 ⟨rfl, hb2⟩
  rw [← hS]
  clear hS
  have hE2 : One w2 (S + 1) 28 (.int .u16 0) := (hb2.block _ HE.out.lt).trans HE.out
  have d0 := hE2.cell
  have d1 := hE2.frozen 0
  obtain ⟨W3, hW3⟩ : ∃ W3, W3 = w2.setCell ⟨S + 1, 0, none⟩ (.int .u16 1) := ⟨_, rfl⟩
  have hE3 : One W3 (S + 1) 28 (.int .u16 1) := by rw [hW3]; exact hE2.set_ _
  have hB3 : Below S w W3 := by rw [hW3]; exact (HBW.out.trans (hb2.mono (by have := HSS.out; have := HBW.out.size; omega))).setCell (p := ⟨S + 1, 0, none⟩) (Nat.le_succ S) _
  have d2 := hE3.cell
  clear hri hb2 hE2 hW q0 q1 q2 q3
  go_wp2
  rw [← hW3]
  have hfin : PrintTold w ([], 1) (.returned (.tuple #[.string ⟨#[]⟩, .int .u16 1])) W3 := ⟨rfl, by rw [← HSS.out]; exact hB3⟩
  simp [bodyPostD, Leaves, results, Tryz.results12, go_sem, d2]
  exact hfin
 ·rw [hr] at hri
  go_enter_defers Tryz.func12, Tryz.ntmps12
  go_wp2_with fail
  rw [← hW]
  with_reducible refine hri.mono ?_
  rintro e w2 ⟨rfl, hb2⟩
  rw [← hS]
  clear hS
  obtain ⟨W3, hW3⟩ : ∃ W3, W3 = w2.alloc (.cells #[.slice none 0 0, .int .i64 0, .int .i8 0, .int .i64 0] 73) := ⟨_, rfl⟩
  have hb3 : Below w2.heap.size w2 W3 := by rw [hW3]; exact (Below.refl _ _).alloc (Nat.le_refl _) _
  have hP3 : PW W3 w2.heap.size w2.heap.size [] 0 := by rw [hW3]; exact pw_new w2
  have hSW : S ≤ W.heap.size := by have := HSS.out; have := HBW.out.size; omega
  have hSP : S ≤ w2.heap.size := Nat.le_trans hSW hb2.size
  have hG2 := HG.out.next hb2
  have hE2 : One w2 (S + 1) 28 (.int .u16 0) := (hb2.block _ HE.out.lt).trans HE.out
  have hL2 : LocZ w2 S _ _ _ _ := (hb2.block _ HL.out.lt).trans HL.out
  have hL3 : LocZ W3 S _ _ _ _ := (hb3.block _ hL2.lt).trans hL2
  have hE3 : One W3 (S + 1) 28 (.int .u16 0) := (hb3.block _ hE2.lt).trans hE2
  have hR3 := (((HR.out.on hb2 hSW).on hb3 hSP).more hSP)
  have hdf := definition_any W3 w2.heap.size w2.heap.size _ _ _ _ l hP3 (fun w' h' => hG2.1.next (hb3.trans h')) hb3.size hR3 (prtOk_of hr HN.out.1 HN.out.2)
  obtain ⟨q4, q5, q6, q7⟩ := hL3.cells
  rw [hW3] at q4 q5 q6 q7
  have HB3 : Hid (Below S w W3) := Lib.hid ((HBW.out.trans (hb2.mono hSW)).trans (hb3.mono hSP))
  have HE3 := Lib.hid hE3
  have HEP : Hid (S + 1 < w2.heap.size) := Lib.hid hE2.lt
  have HSP := Lib.hid hSP
  have hp : printL l = if (linesT (locT l)).length ≤ 4000 ∧ (toksT (locT l)).length ≤ 1000 then (linesT (locT l), 0) else ([], 3) := by unfold printL; rw [if_pos hr]
  have HPL := Lib.hid hp
  clear hri hb2 hb3 hP3 hSW hSP hG2 hE2 hL2 hL3 hE3 hR3 hW q0 q1 q2 q3 hp hr
  go_wp2_with fail
  rw [← hW3]
  with_reducible refine hdf.mono ?_
  rintro e w4 (⟨a1, a2, rfl, a3, a4⟩ | ⟨a1, rfl, a2⟩)
  ·obtain ⟨P, hP⟩ : ∃ P, P = w2.heap.size := ⟨_, rfl⟩
   rw [← hP] at a3 a4 HEP HSP ⊢
   clear hP
   have HQL : Hid (printL l = (linesT (locT l), 0)) := Lib.hid (by rw [HPL.out, if_pos ⟨a1, a2⟩])
   have hst := Tryz.Buffer_String_at _ _ _ _ _ _ _ a3
   have hE4 : One w4 (S + 1) 28 (.int .u16 0) := (a4.1.block _ HEP.out).trans HE3.out
   have HB4 : Hid (Below S w w4) := Lib.hid (HB3.out.trans (a4.1.mono HSP.out))
   have HE4 := Lib.hid hE4
   clear a1 a2 a3 a4 hdf hW3 hE4 q4 q5 q6 q7
   go_wp2_with fail
   with_reducible refine hst.mono ?_
   rintro e w5 ⟨rfl, n, rfl⟩
   have hE5 : One (w4.drewN n) (S + 1) 28 (.int .u16 0) := HE4.out
   have d0 : w4.cell? ⟨S + 1, 0, none⟩ = some (.int .u16 0) := HE4.out.cell
   have d1 : w4.frozen? ⟨S + 1, 0, none⟩ = false := HE4.out.frozen 0
   clear hst
   go_wp2
   refine leaves_cons (f := 22) (args := #[.pointer (some ⟨S + 1, 0, none⟩)]) (by simp) (by simp [go_sem]) ?_
   refine (wcatch_idle _ _).mono ?_
   rintro e u' w6 ⟨rfl, rfl, rfl⟩
   have hE6 : One ((w4.drewN n).setCell ⟨S + 1, 0, none⟩ (.int .u16 0)) (S + 1) 28 (.int .u16 0) := hE5.set_ _
   have d2 := hE6.cell
   have hfin : PrintTold w (printL l) (.returned (.tuple #[.string ⟨(linesT (locT l)).toArray⟩, .int .u16 0])) ((w4.drewN n).setCell ⟨S + 1, 0, none⟩ (.int .u16 0)) := by
    rw [HQL.out]
    exact ⟨rfl, by rw [← HSS.out]; exact (show Below S w (w4.drewN n) from ⟨HB4.out.os, HB4.out.tape, HB4.out.output, HB4.out.size, HB4.out.block⟩).setCell (p := ⟨S + 1, 0, none⟩) (Nat.le_succ S) _⟩
   simp [Leaves, settle, results, Tryz.results12, go_sem, d2]
   exact hfin
  ·obtain ⟨P, hP⟩ : ∃ P, P = w2.heap.size := ⟨_, rfl⟩
   rw [← hP] at a2 HEP HSP ⊢
   clear hP
   have HQL : Hid (printL l = ([], 3)) := Lib.hid (by rw [HPL.out, if_neg a1])
   have hE4 : One w4 (S + 1) 28 (.int .u16 0) := (a2.block _ HEP.out).trans HE3.out
   have HB4 : Hid (Below S w w4) := Lib.hid (HB3.out.trans (a2.mono HSP.out))
   clear a1 a2 hdf hW3 q4 q5 q6 q7
   unfold longV
   go_wp2
   refine leaves_cons (f := 22) (args := #[.pointer (some ⟨S + 1, 0, none⟩)]) (by simp) (by simp [go_sem]) ?_
   refine (wcatch_of _ _ [] hE4).mono ?_
   rintro e u' w5 ⟨rfl, rfl, w6, hb6, rfl⟩
   have hE6 : One (w6.setCell ⟨S + 1, 0, none⟩ (.int .u16 3)) (S + 1) 28 (.int .u16 3) := (show One w6 (S + 1) 28 (.int .u16 0) from (hb6.block _ hE4.lt).trans hE4).set_ _
   have d2 := hE6.cell
   have hfin : PrintTold w (printL l) (.returned (.tuple #[.string ⟨#[]⟩, .int .u16 3])) (w6.setCell ⟨S + 1, 0, none⟩ (.int .u16 3)) := by
    rw [HQL.out]
    exact ⟨rfl, by rw [← HSS.out]; exact (HB4.out.trans (hb6.mono (by have := HB4.out.size; have := HSS.out; omega))).setCell (p := ⟨S + 1, 0, none⟩) (Nat.le_succ S) _⟩
   simp [Leaves, settle, results, Tryz.results12, go_sem, d2]
   exact hfin
end Go.Proofs.YthaibekbefndlaaGreatDoor.C
