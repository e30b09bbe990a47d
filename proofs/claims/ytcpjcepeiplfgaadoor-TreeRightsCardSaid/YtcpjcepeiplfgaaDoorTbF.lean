/-
  isNode: whether a node has what its kind asks for, and nothing else; which group it keeps. Condition: at most nine groups.
-/
import Derived.Test.YtcpjcepeiplfgaaDoorTbE
import Derived.Deep.DeepCutAuto
import Derived.Deep.CutBlock
namespace Go.Proofs.YtcpjcepeiplfgaaDoor.C
open Go.RowKit

def restN (x : Nd) : Nd := if x.k = 1 then { x with c := 0 } else if x.k = 2 ∨ x.k = 4 ∨ x.k = 5 ∨ x.k = 11 then x else if x.k = 3 then { x with nt := false, rs := [], ts := [] } else if x.k = 6 then { x with n := 0 } else if x.k = 7 then { x with n := 0, ks := [] } else if x.k = 8 ∨ x.k = 9 then { x with ks := [] } else if x.k = 10 then { x with mn := 0, mx := 0, ks := [] } else x
def isN (x : Nd) (g : Int) : Bool := if x.k = 1 then celOk x.c else if x.k = 2 ∨ x.k = 4 ∨ x.k = 5 ∨ x.k = 11 then true else if x.k = 3 then setB x else if x.k = 6 then decide (1 ≤ x.n) && decide (x.n ≤ g) else if x.k = 7 then (decide (1 ≤ x.n) && decide (x.n ≤ g)) && decide (x.ks.length = 1) else if x.k = 8 ∨ x.k = 9 then decide (2 ≤ x.ks.length) else if x.k = 10 then timB x.mn x.mx && decide (x.ks.length = 1) else false
theorem nodeB_rest (x : Nd) (g : Int) : nodeB x g = (isN x g && blankB (restN x)) := by
  unfold nodeB isN restN blankB noSetB bareB timB
  by_cases h1 : x.k = 1
  · simp only [if_pos h1]; simp; ac_rfl
  by_cases h2 : x.k = 2 ∨ x.k = 4 ∨ x.k = 5 ∨ x.k = 11
  · simp only [if_neg h1, if_pos h2]; simp; ac_rfl
  by_cases h3 : x.k = 3
  · simp only [if_neg h1, if_neg h2, if_pos h3]; simp; ac_rfl
  by_cases h4 : x.k = 6
  · simp only [if_neg h1, if_neg h2, if_neg h3, if_pos h4]; simp; ac_rfl
  by_cases h5 : x.k = 7
  · simp only [if_neg h1, if_neg h2, if_neg h3, if_neg h4, if_pos h5]; simp; ac_rfl
  by_cases h6 : x.k = 8 ∨ x.k = 9
  · simp only [if_neg h1, if_neg h2, if_neg h3, if_neg h4, if_neg h5, if_pos h6]; simp; ac_rfl
  by_cases h7 : x.k = 10
  · simp only [if_neg h1, if_neg h2, if_neg h3, if_neg h4, if_neg h5, if_neg h6, if_pos h7]; simp; ac_rfl
  · simp only [if_neg h1, if_neg h2, if_neg h3, if_neg h4, if_neg h5, if_neg h6, if_neg h7]; simp
/-- what isNode answers -/
def NodeTold (w : World) (C M : Nat) (g : Int) (gs : List Int) (x : Nd) (e : Ending) (w' : World) : Prop := ∃ r, e = .returned (.bool r) ∧ Fr w w' (· = C) ∧ (r = true → nodeB x g = true ∧ (x.k = 7 → x.n ∉ gs) ∧ CkAt w' C g (if x.k = 7 then gs ++ [x.n] else gs) M) ∧ (r = false → nodeB x g = false ∨ (x.k = 7 ∧ x.n ∈ gs))
/-- behind the switch -/
structure NodeMid (w : World) (C R : Nat) (g : Int) (gs : List Int) (M : Nat) (x : Nd) (wx : World) (is : Bool) : Prop where
  fr : Fr w wx (· = C)
  rest : ∃ AR cR AT cT AK cK, Rw wx R 31 (ndRow (restN x) (.slice AR (restN x).rs.length cR) (.slice AT (restN x).ts.length cT) (.slice AK (restN x).ks.length cK)).toArray
  yes : is = true → isN x g = true ∧ (x.k = 7 → x.n ∉ gs) ∧ CkAt wx C g (if x.k = 7 then gs ++ [x.n] else gs) M
  no : is = false → isN x g = false ∨ (x.k = 7 ∧ x.n ∈ gs)
theorem node_start (w W1 : World) (S : Nat) (x : Nd) (vR vT vK : Value) (hS : w.heap.size = S) (hW1 : W1 = w.alloc (.cells #[.int .u8 x.k, .int .i32 x.c, .bool x.nt, vR, vT, .int .i64 x.n, .int .i64 x.mn, .int .i64 x.mx, vK] 31)) :
    Rw W1 S 31 (ndRow x vR vT vK).toArray ∧ W1.heap.size = S + 1 ∧ Below S w W1 := by
  subst hS hW1
  exact ⟨heap_alloc_new w _, by simp, (Below.refl _ _).alloc (Nat.le_refl _) _⟩
/-- the whole node is stored into a new box -/
theorem node_box {W1 : World} {R : Nat} {x : Nd} {vR vT vK : Value} {l : List Value} (hr : Rw W1 R 31 l.toArray) (hl : l.length = 9) :
    Rw (((((((((W1.setCell ⟨R, 0, none⟩ (.int .u8 x.k)).setCell ⟨R, 1, none⟩ (.int .i32 x.c)).setCell ⟨R, 2, none⟩ (.bool x.nt)).setCell ⟨R, 3, none⟩ vR).setCell ⟨R, 4, none⟩ vT).setCell ⟨R, 5, none⟩ (.int .i64 x.n)).setCell ⟨R, 6, none⟩ (.int .i64 x.mn)).setCell ⟨R, 7, none⟩ (.int .i64 x.mx)).setCell ⟨R, 8, none⟩ vK) R 31 (ndRow x vR vT vK).toArray := by
  match l, hl with
  | [a, b, c, d, e, f, g, h, i], _ =>
    exact set_row (i := 8) (l := [_, _, _, _, _, _, _, _, _]) (set_row (i := 7) (l := [_, _, _, _, _, _, _, _, _]) (set_row (i := 6) (l := [_, _, _, _, _, _, _, _, _]) (set_row (i := 5) (l := [_, _, _, _, _, _, _, _, _]) (set_row (i := 4) (l := [_, _, _, _, _, _, _, _, _]) (set_row (i := 3) (l := [_, _, _, _, _, _, _, _, _]) (set_row (i := 2) (l := [_, _, _, _, _, _, _, _, _]) (set_row (i := 1) (l := [_, _, _, _, _, _, _, _, _]) (set_row (i := 0) (l := [_, _, _, _, _, _, _, _, _]) hr _) _) _) _) _) _) _) _) _
theorem rest1 {x : Nd} (h : x.k = 1) : restN x = { x with c := 0 } := by
  unfold restN
  rw [h]
  simp
theorem is1 {x : Nd} (g : Int) (h : x.k = 1) : isN x g = (celOk x.c) := by
  unfold isN
  rw [h]
  simp
theorem rest2 {x : Nd} (h : x.k = 2) : restN x = x := by
  unfold restN
  rw [h]
  simp
theorem is2 {x : Nd} (g : Int) (h : x.k = 2) : isN x g = (true) := by
  unfold isN
  rw [h]
  simp
theorem rest4 {x : Nd} (h : x.k = 4) : restN x = x := by
  unfold restN
  rw [h]
  simp
theorem is4 {x : Nd} (g : Int) (h : x.k = 4) : isN x g = (true) := by
  unfold isN
  rw [h]
  simp
theorem rest5 {x : Nd} (h : x.k = 5) : restN x = x := by
  unfold restN
  rw [h]
  simp
theorem is5 {x : Nd} (g : Int) (h : x.k = 5) : isN x g = (true) := by
  unfold isN
  rw [h]
  simp
theorem rest11 {x : Nd} (h : x.k = 11) : restN x = x := by
  unfold restN
  rw [h]
  simp
theorem is11 {x : Nd} (g : Int) (h : x.k = 11) : isN x g = (true) := by
  unfold isN
  rw [h]
  simp
theorem rest3 {x : Nd} (h : x.k = 3) : restN x = { x with nt := false, rs := [], ts := [] } := by
  unfold restN
  rw [h]
  simp
theorem is3 {x : Nd} (g : Int) (h : x.k = 3) : isN x g = (setB x) := by
  unfold isN
  rw [h]
  simp
theorem rest6 {x : Nd} (h : x.k = 6) : restN x = { x with n := 0 } := by
  unfold restN
  rw [h]
  simp
theorem is6 {x : Nd} (g : Int) (h : x.k = 6) : isN x g = (decide (1 ≤ x.n) && decide (x.n ≤ g)) := by
  unfold isN
  rw [h]
  simp
theorem rest7 {x : Nd} (h : x.k = 7) : restN x = { x with n := 0, ks := [] } := by
  unfold restN
  rw [h]
  simp
theorem is7 {x : Nd} (g : Int) (h : x.k = 7) : isN x g = ((decide (1 ≤ x.n) && decide (x.n ≤ g)) && decide (x.ks.length = 1)) := by
  unfold isN
  rw [h]
  simp
theorem rest8 {x : Nd} (h : x.k = 8) : restN x = { x with ks := [] } := by
  unfold restN
  rw [h]
  simp
theorem is8 {x : Nd} (g : Int) (h : x.k = 8) : isN x g = (decide (2 ≤ x.ks.length)) := by
  unfold isN
  rw [h]
  simp
theorem rest9 {x : Nd} (h : x.k = 9) : restN x = { x with ks := [] } := by
  unfold restN
  rw [h]
  simp
theorem is9 {x : Nd} (g : Int) (h : x.k = 9) : isN x g = (decide (2 ≤ x.ks.length)) := by
  unfold isN
  rw [h]
  simp
theorem rest10 {x : Nd} (h : x.k = 10) : restN x = { x with mn := 0, mx := 0, ks := [] } := by
  unfold restN
  rw [h]
  simp
theorem is10 {x : Nd} (g : Int) (h : x.k = 10) : isN x g = (timB x.mn x.mx && decide (x.ks.length = 1)) := by
  unfold isN
  rw [h]
  simp
theorem rest_else {x : Nd} (h : x.k ≠ 1 ∧ x.k ≠ 2 ∧ x.k ≠ 4 ∧ x.k ≠ 5 ∧ x.k ≠ 11 ∧ x.k ≠ 3 ∧ x.k ≠ 6 ∧ x.k ≠ 7 ∧ x.k ≠ 8 ∧ x.k ≠ 9 ∧ x.k ≠ 10) : restN x = x := by
  unfold restN
  simp [h]
theorem is_else {x : Nd} (g : Int) (h : x.k ≠ 1 ∧ x.k ≠ 2 ∧ x.k ≠ 4 ∧ x.k ≠ 5 ∧ x.k ≠ 11 ∧ x.k ≠ 3 ∧ x.k ≠ 6 ∧ x.k ≠ 7 ∧ x.k ≠ 8 ∧ x.k ≠ 9 ∧ x.k ≠ 10) : isN x g = false := by
  unfold isN
  simp [h]
theorem ck_set2 {w : World} {C S i M : Nat} {g : Int} {gs : List Int} {u : Value} (h : CkAt w C g gs M) (hne : C ≠ S + 1 := by omega) : CkAt (w.setCell ⟨S + 1, i, none⟩ u) C g gs M := (Below.heap_setCell w ⟨S + 1, i, none⟩ u C hne).trans h
theorem mid_fr {w W3 wx : World} {S C : Nat} (hb : Below S w W3) (hS : w.heap.size = S) (hf : Fr W3 wx (fun b => b = C ∨ b = S + 1)) : Fr w wx (· = C) := by
  subst hS
  exact (Fr.of_below (X := (· = C)) hb).next hf (fun j hj h => by rcases h with h | h <;> omega)
theorem fr_sets {W3 : World} {C R : Nat} : Fr W3 W3 (fun b => b = C ∨ b = R) := Fr.of_below (Below.refl _ _)
/-- two boxes that hold the node -/
structure Node2 (w : World) (S : Nat) (x : Nd) (vR vT vK : Value) (W3 : World) : Prop where
  b : Below S w W3
  n : Rw W3 S 31 (ndRow x vR vT vK).toArray
  r : Rw W3 (S + 1) 31 (ndRow x vR vT vK).toArray
theorem node_two {w W1 W2 : World} {S : Nat} {x : Nd} {vR vT vK : Value} (h1 : Rw W1 S 31 (ndRow x vR vT vK).toArray ∧ W1.heap.size = S + 1 ∧ Below S w W1) (hW2 : W2 = (W1.alloc (.cells #[.int .u8 0, .int .i32 0, .bool false, .slice none 0 0, .slice none 0 0, .int .i64 0, .int .i64 0, .int .i64 0, .slice none 0 0] 31)).drew) :
    Node2 w S x vR vT vK (((((((((W2.setCell ⟨S + 1, 0, none⟩ (.int .u8 x.k)).setCell ⟨S + 1, 1, none⟩ (.int .i32 x.c)).setCell ⟨S + 1, 2, none⟩ (.bool x.nt)).setCell ⟨S + 1, 3, none⟩ vR).setCell ⟨S + 1, 4, none⟩ vT).setCell ⟨S + 1, 5, none⟩ (.int .i64 x.n)).setCell ⟨S + 1, 6, none⟩ (.int .i64 x.mn)).setCell ⟨S + 1, 7, none⟩ (.int .i64 x.mx)).setCell ⟨S + 1, 8, none⟩ vK) ∧ Rw W2 (S + 1) 31 #[.int .u8 0, .int .i32 0, .bool false, .slice none 0 0, .slice none 0 0, .int .i64 0, .int .i64 0, .int .i64 0, .slice none 0 0] ∧ Rw W2 S 31 (ndRow x vR vT vK).toArray := by
  obtain ⟨h0, hs, hb⟩ := h1
  have hb2 : Below (S + 1) W1 W2 := by rw [hW2]; exact below_drew ((Below.refl _ _).alloc (by omega) _)
  have hr2 : Rw W2 (S + 1) 31 #[.int .u8 0, .int .i32 0, .bool false, .slice none 0 0, .slice none 0 0, .int .i64 0, .int .i64 0, .int .i64 0, .slice none 0 0] := by
    have := heap_alloc_new W1 (.cells #[.int .u8 0, .int .i32 0, .bool false, .slice none 0 0, .slice none 0 0, .int .i64 0, .int .i64 0, .int .i64 0, .slice none 0 0] 31)
    rw [hs] at this
    rw [hW2]; exact this
  have hn2 : Rw W2 S 31 (ndRow x vR vT vK).toArray := h0.on hb2 (by omega)
  have hr3 := node_box (x := x) (vR := vR) (vT := vT) (vK := vK) (l := [_, _, _, _, _, _, _, _, _]) hr2 rfl
  have hf : Below (S + 1) W2 (((((((((W2.setCell ⟨S + 1, 0, none⟩ (.int .u8 x.k)).setCell ⟨S + 1, 1, none⟩ (.int .i32 x.c)).setCell ⟨S + 1, 2, none⟩ (.bool x.nt)).setCell ⟨S + 1, 3, none⟩ vR).setCell ⟨S + 1, 4, none⟩ vT).setCell ⟨S + 1, 5, none⟩ (.int .i64 x.n)).setCell ⟨S + 1, 6, none⟩ (.int .i64 x.mn)).setCell ⟨S + 1, 7, none⟩ (.int .i64 x.mx)).setCell ⟨S + 1, 8, none⟩ vK) := by
    have hC : S + 1 ≤ S + 1 := Nat.le_refl _
    exact (((((((((Below.refl _ W2).setCell (p := ⟨S + 1, 0, none⟩) hC _).setCell (p := ⟨S + 1, 1, none⟩) hC _).setCell (p := ⟨S + 1, 2, none⟩) hC _).setCell (p := ⟨S + 1, 3, none⟩) hC _).setCell (p := ⟨S + 1, 4, none⟩) hC _).setCell (p := ⟨S + 1, 5, none⟩) hC _).setCell (p := ⟨S + 1, 6, none⟩) hC _).setCell (p := ⟨S + 1, 7, none⟩) hC _).setCell (p := ⟨S + 1, 8, none⟩) hC _
  exact ⟨⟨hb.trans ((hb2.trans hf).mono (Nat.le_succ _)), hn2.on hf (Nat.lt_succ_self _), hr3⟩, hr2, hn2⟩
set_option maxRecDepth 100000 in
set_option maxHeartbeats 8000000 in
theorem isNode_any (w : World) (C M : Nat) (g : Int) (gs : List Int) (x : Nd) (vR vT vK : Value) (P : Nat → Prop) (hC : CkAt w C g gs M) (hg : 0 ≤ g ∧ g ≤ 9) (hx : NdP w P x vR vT vK) (hP : ∀ b, P b → b < w.heap.size) :
    Calls Tryd.prog 22 #[.pointer (some ⟨C, 0, none⟩), ndVal x vR vT vK] w (NodeTold w C M g gs x) := by
  unfold ndVal
  obtain ⟨⟨AR, cR, rfl, hR, hRl⟩, ⟨AT, cT, us, rfl, hT, hTl, hTs⟩, ⟨AK, cK, rfl, hK, hKl⟩⟩ := id hx
  clear hR hRl hT hTl hTs hK hKl
  obtain ⟨S, hS⟩ : ∃ S, w.heap.size = S := ⟨_, rfl⟩
  obtain ⟨W1, hW1⟩ : ∃ W1, W1 = w.alloc (.cells #[.int .u8 x.k, .int .i32 x.c, .bool x.nt, .slice AR x.rs.length cR, .slice AT x.ts.length cT, .int .i64 x.n, .int .i64 x.mn, .int .i64 x.mx, .slice AK x.ks.length cK] 31) := ⟨_, rfl⟩
  have H1 := Lib.hid (node_start w W1 S x _ _ _ hS hW1)
  have HX := Lib.hid hx
  have HP := Lib.hid hP
  have HC := Lib.hid hC
  have HG := Lib.hid hg
  have HSS := Lib.hid hS
  have p0 : W1.cell? ⟨S, 0, none⟩ = some (.int .u8 x.k) := H1.out.1.cell (i := 0) rfl
  have p1 : W1.cell? ⟨S, 1, none⟩ = some (.int .i32 x.c) := H1.out.1.cell (i := 1) rfl
  have p2 : W1.cell? ⟨S, 2, none⟩ = some (.bool x.nt) := H1.out.1.cell (i := 2) rfl
  have p3 : W1.cell? ⟨S, 3, none⟩ = some (.slice AR x.rs.length cR) := H1.out.1.cell (i := 3) rfl
  have p4 : W1.cell? ⟨S, 4, none⟩ = some (.slice AT x.ts.length cT) := H1.out.1.cell (i := 4) rfl
  have p5 : W1.cell? ⟨S, 5, none⟩ = some (.int .i64 x.n) := H1.out.1.cell (i := 5) rfl
  have p6 : W1.cell? ⟨S, 6, none⟩ = some (.int .i64 x.mn) := H1.out.1.cell (i := 6) rfl
  have p7 : W1.cell? ⟨S, 7, none⟩ = some (.int .i64 x.mx) := H1.out.1.cell (i := 7) rfl
  have p8 : W1.cell? ⟨S, 8, none⟩ = some (.slice AK x.ks.length cK) := H1.out.1.cell (i := 8) rfl
  clear hx hP hC hg
  go_enter Tryd.func22, Tryd.ntmps22
  go_upto_region 1 with fail
  rw [← hW1]
  clear hW1
  have hs1 : W1.heap.size = S + 1 := H1.out.2.1
  refine wp_region_E (S := fun W' : World => W'.cell? ⟨S, 0, none⟩ = some (.int .u8 x.k) ∧ W'.cell? ⟨S, 1, none⟩ = some (.int .i32 x.c) ∧ W'.cell? ⟨S, 2, none⟩ = some (.bool x.nt) ∧ W'.cell? ⟨S, 3, none⟩ = some (.slice AR x.rs.length cR) ∧ W'.cell? ⟨S, 4, none⟩ = some (.slice AT x.ts.length cT) ∧ W'.cell? ⟨S, 5, none⟩ = some (.int .i64 x.n) ∧ W'.cell? ⟨S, 6, none⟩ = some (.int .i64 x.mn) ∧ W'.cell? ⟨S, 7, none⟩ = some (.int .i64 x.mx) ∧ W'.cell? ⟨S, 8, none⟩ = some (.slice AK x.ks.length cK)) (L := 3) (by kernel_rfl) ?_
  have hS1 : (fun W' : World => W'.cell? ⟨S, 0, none⟩ = some (.int .u8 x.k) ∧ W'.cell? ⟨S, 1, none⟩ = some (.int .i32 x.c) ∧ W'.cell? ⟨S, 2, none⟩ = some (.bool x.nt) ∧ W'.cell? ⟨S, 3, none⟩ = some (.slice AR x.rs.length cR) ∧ W'.cell? ⟨S, 4, none⟩ = some (.slice AT x.ts.length cT) ∧ W'.cell? ⟨S, 5, none⟩ = some (.int .i64 x.n) ∧ W'.cell? ⟨S, 6, none⟩ = some (.int .i64 x.mn) ∧ W'.cell? ⟨S, 7, none⟩ = some (.int .i64 x.mx) ∧ W'.cell? ⟨S, 8, none⟩ = some (.slice AK x.ks.length cK)) W1.drew := ⟨p0, p1, p2, p3, p4, p5, p6, p7, p8⟩
  refine wpEn 0 rfl ?_
  try simp only [Act.put, g1, g2, g3, g4, g6]
  refine wpAnyE_one (i := 1) (by kernel_rfl) rfl (fun K hK => ?_)
  simp only [g4, g5, g6]
  go_simp
  obtain ⟨W2, hW2⟩ : ∃ W2, W2 = (W1.alloc (.cells #[.int .u8 0, .int .i32 0, .bool false, .slice none 0 0, .slice none 0 0, .int .i64 0, .int .i64 0, .int .i64 0, .slice none 0 0] 31)).drew := ⟨_, rfl⟩
  obtain ⟨h2, hz, hy⟩ := node_two H1.out hW2
  have HN2 := Lib.hid h2
  rw [← hW2]
  have hS2 : (fun W' : World => W'.cell? ⟨S, 0, none⟩ = some (.int .u8 x.k) ∧ W'.cell? ⟨S, 1, none⟩ = some (.int .i32 x.c) ∧ W'.cell? ⟨S, 2, none⟩ = some (.bool x.nt) ∧ W'.cell? ⟨S, 3, none⟩ = some (.slice AR x.rs.length cR) ∧ W'.cell? ⟨S, 4, none⟩ = some (.slice AT x.ts.length cT) ∧ W'.cell? ⟨S, 5, none⟩ = some (.int .i64 x.n) ∧ W'.cell? ⟨S, 6, none⟩ = some (.int .i64 x.mn) ∧ W'.cell? ⟨S, 7, none⟩ = some (.int .i64 x.mx) ∧ W'.cell? ⟨S, 8, none⟩ = some (.slice AK x.ks.length cK)) W2 := ⟨hy.cell (i := 0) rfl, hy.cell (i := 1) rfl, hy.cell (i := 2) rfl, hy.cell (i := 3) rfl, hy.cell (i := 4) rfl, hy.cell (i := 5) rfl, hy.cell (i := 6) rfl, hy.cell (i := 7) rfl, hy.cell (i := 8) rfl⟩
  have z0 := hz.cell (i := 0) rfl
  have z1 := hz.cell (i := 1) rfl
  have z2 := hz.cell (i := 2) rfl
  have z3 := hz.cell (i := 3) rfl
  have z4 := hz.cell (i := 4) rfl
  have z5 := hz.cell (i := 5) rfl
  have z6 := hz.cell (i := 6) rfl
  have z7 := hz.cell (i := 7) rfl
  have z8 := hz.cell (i := 8) rfl
  have f0 := rw_frozen hz 0
  have f1 := rw_frozen hz 1
  have f2 := rw_frozen hz 2
  have f3 := rw_frozen hz 3
  have f4 := rw_frozen hz 4
  have f5 := rw_frozen hz 5
  have f6 := rw_frozen hz 6
  have f7 := rw_frozen hz 7
  have f8 := rw_frozen hz 8
  clear hW2 h2 hz hy p0 p1 p2 p3 p4 p5 p6 p7 p8
  refine hK.out _ _ (fun _ => hS2) (fun _ => ?_)
  clear hK
  try simp only [Act.put, g1, g2, g3, g4, g5, g6]
  refine wpEn 2 rfl ?_
  try simp only [Act.put, g1, g2, g3, g4, g5, g6]
  refine wpAnyE_one (i := 3) (by kernel_rfl) rfl (fun K hK => ?_)
  simp only [g4, g5, g6]
  go_simp
  refine hK.out _ _ (fun h => absurd rfl h) (fun _ => ?_)
  try simp only [Act.put, g1, g2, g3, g4, g5, g6]
  refine wpAnyE_done (by kernel_rfl) ?_ _
  obtain ⟨W3, hW3⟩ : ∃ W3, W3 = (((((((((W2.setCell ⟨S + 1, 0, none⟩ (.int .u8 x.k)).setCell ⟨S + 1, 1, none⟩ (.int .i32 x.c)).setCell ⟨S + 1, 2, none⟩ (.bool x.nt)).setCell ⟨S + 1, 3, none⟩ (.slice AR x.rs.length cR)).setCell ⟨S + 1, 4, none⟩ (.slice AT x.ts.length cT)).setCell ⟨S + 1, 5, none⟩ (.int .i64 x.n)).setCell ⟨S + 1, 6, none⟩ (.int .i64 x.mn)).setCell ⟨S + 1, 7, none⟩ (.int .i64 x.mx)).setCell ⟨S + 1, 8, none⟩ (.slice AK x.ks.length cK)) := ⟨_, rfl⟩
  rw [← hW3] at HN2 ⊢
  clear hW3 hS1 hS2 z0 z1 z2 z3 z4 z5 z6 z7 z8 f0 f1 f2 f3 f4 f5 f6 f7 f8 hs1 hK H1
  have p0 : W3.cell? ⟨S, 0, none⟩ = some (.int .u8 x.k) := HN2.out.n.cell (i := 0) rfl
  have p1 : W3.cell? ⟨S, 1, none⟩ = some (.int .i32 x.c) := HN2.out.n.cell (i := 1) rfl
  have p2 : W3.cell? ⟨S, 2, none⟩ = some (.bool x.nt) := HN2.out.n.cell (i := 2) rfl
  have p3 : W3.cell? ⟨S, 3, none⟩ = some (.slice AR x.rs.length cR) := HN2.out.n.cell (i := 3) rfl
  have p4 : W3.cell? ⟨S, 4, none⟩ = some (.slice AT x.ts.length cT) := HN2.out.n.cell (i := 4) rfl
  have p5 : W3.cell? ⟨S, 5, none⟩ = some (.int .i64 x.n) := HN2.out.n.cell (i := 5) rfl
  have p6 : W3.cell? ⟨S, 6, none⟩ = some (.int .i64 x.mn) := HN2.out.n.cell (i := 6) rfl
  have p7 : W3.cell? ⟨S, 7, none⟩ = some (.int .i64 x.mx) := HN2.out.n.cell (i := 7) rfl
  have p8 : W3.cell? ⟨S, 8, none⟩ = some (.slice AK x.ks.length cK) := HN2.out.n.cell (i := 8) rfl
  have z0 : W3.cell? ⟨S + 1, 0, none⟩ = some (.int .u8 x.k) := HN2.out.r.cell (i := 0) rfl
  have z1 : W3.cell? ⟨S + 1, 1, none⟩ = some (.int .i32 x.c) := HN2.out.r.cell (i := 1) rfl
  have z2 : W3.cell? ⟨S + 1, 2, none⟩ = some (.bool x.nt) := HN2.out.r.cell (i := 2) rfl
  have z3 : W3.cell? ⟨S + 1, 3, none⟩ = some (.slice AR x.rs.length cR) := HN2.out.r.cell (i := 3) rfl
  have z4 : W3.cell? ⟨S + 1, 4, none⟩ = some (.slice AT x.ts.length cT) := HN2.out.r.cell (i := 4) rfl
  have z5 : W3.cell? ⟨S + 1, 5, none⟩ = some (.int .i64 x.n) := HN2.out.r.cell (i := 5) rfl
  have z6 : W3.cell? ⟨S + 1, 6, none⟩ = some (.int .i64 x.mn) := HN2.out.r.cell (i := 6) rfl
  have z7 : W3.cell? ⟨S + 1, 7, none⟩ = some (.int .i64 x.mx) := HN2.out.r.cell (i := 7) rfl
  have z8 : W3.cell? ⟨S + 1, 8, none⟩ = some (.slice AK x.ks.length cK) := HN2.out.r.cell (i := 8) rfl
  have f1 := rw_frozen HN2.out.r 1
  have f2 := rw_frozen HN2.out.r 2
  have f3 := rw_frozen HN2.out.r 3
  have f4 := rw_frozen HN2.out.r 4
  have f5 := rw_frozen HN2.out.r 5
  have f6 := rw_frozen HN2.out.r 6
  have f7 := rw_frozen HN2.out.r 7
  have f8 := rw_frozen HN2.out.r 8
  have HCK : Hid (CkAt W3 C g gs M) := Lib.hid (HC.out.on HN2.out.b (by have := HC.out.lt; rw [hS] at this; exact this))
  clear hS
  go_upto_block 0 with fail
  go_cut [5] (fun iv wx => ∃ is : Bool, iv = .bool is ∧ Hid (NodeMid w C (S + 1) g gs M x wx is))
  case first =>
    have hCS : C < S := by have := HC.out.lt; have := HSS.out; omega
    by_cases hk : x.k = 1
    · have HK := Lib.hid hk
      have e1 : (x.k == 1) = true := by rw [hk]; rfl
      clear hk
      go_wp2_with (go_at_call 35; refine (celR_any _ _).mono ?_; rintro e w' ⟨rfl, rfl⟩)
      go_meet
      refine ⟨celOk x.c, rfl, Lib.hid ⟨mid_fr HN2.out.b HSS.out (fr_sets.set ⟨S + 1, 1, none⟩ _ (fun _ => .inr rfl)), ⟨AR, cR, AT, cT, AK, cK, ?_⟩, fun hy => ?_, fun hn => ?_⟩⟩
      · rw [rest1 HK.out]
        exact (set_row (i := 1) (l := ndRow x (.slice AR x.rs.length cR) (.slice AT x.ts.length cT) (.slice AK x.ks.length cK)) HN2.out.r (.int .i32 0))
      · refine ⟨by rw [is1 g HK.out]; exact hy, fun h => by have := HK.out; omega, ?_⟩
        rw [if_neg (by have := HK.out; omega)]
        exact (ck_set2 HCK.out)
      · exact .inl (by rw [is1 g HK.out]; exact hn)
    by_cases hk : x.k = 2
    · have HK := Lib.hid hk
      have e1 : (x.k == 1) = false := by rw [hk]; rfl
      have e2 : (x.k == 2) = true := by rw [hk]; rfl
      clear hk
      go_wp2
      go_meet
      refine ⟨true, rfl, Lib.hid ⟨mid_fr HN2.out.b HSS.out fr_sets, ⟨AR, cR, AT, cT, AK, cK, ?_⟩, fun hy => ?_, fun hn => ?_⟩⟩
      · rw [rest2 HK.out]
        exact HN2.out.r
      · refine ⟨by rw [is2 g HK.out], fun h => by have := HK.out; omega, ?_⟩
        rw [if_neg (by have := HK.out; omega)]
        exact HCK.out
      · cases hn
    by_cases hk : x.k = 4
    · have HK := Lib.hid hk
      have e1 : (x.k == 1) = false := by rw [hk]; rfl
      have e2 : (x.k == 2) = false := by rw [hk]; rfl
      have e4 : (x.k == 4) = true := by rw [hk]; rfl
      clear hk
      go_wp2
      go_meet
      refine ⟨true, rfl, Lib.hid ⟨mid_fr HN2.out.b HSS.out fr_sets, ⟨AR, cR, AT, cT, AK, cK, ?_⟩, fun hy => ?_, fun hn => ?_⟩⟩
      · rw [rest4 HK.out]
        exact HN2.out.r
      · refine ⟨by rw [is4 g HK.out], fun h => by have := HK.out; omega, ?_⟩
        rw [if_neg (by have := HK.out; omega)]
        exact HCK.out
      · cases hn
    by_cases hk : x.k = 5
    · have HK := Lib.hid hk
      have e1 : (x.k == 1) = false := by rw [hk]; rfl
      have e2 : (x.k == 2) = false := by rw [hk]; rfl
      have e4 : (x.k == 4) = false := by rw [hk]; rfl
      have e5 : (x.k == 5) = true := by rw [hk]; rfl
      clear hk
      go_wp2
      go_meet
      refine ⟨true, rfl, Lib.hid ⟨mid_fr HN2.out.b HSS.out fr_sets, ⟨AR, cR, AT, cT, AK, cK, ?_⟩, fun hy => ?_, fun hn => ?_⟩⟩
      · rw [rest5 HK.out]
        exact HN2.out.r
      · refine ⟨by rw [is5 g HK.out], fun h => by have := HK.out; omega, ?_⟩
        rw [if_neg (by have := HK.out; omega)]
        exact HCK.out
      · cases hn
    by_cases hk : x.k = 11
    · have HK := Lib.hid hk
      have e1 : (x.k == 1) = false := by rw [hk]; rfl
      have e2 : (x.k == 2) = false := by rw [hk]; rfl
      have e4 : (x.k == 4) = false := by rw [hk]; rfl
      have e5 : (x.k == 5) = false := by rw [hk]; rfl
      have e11 : (x.k == 11) = true := by rw [hk]; rfl
      clear hk
      go_wp2
      go_meet
      refine ⟨true, rfl, Lib.hid ⟨mid_fr HN2.out.b HSS.out fr_sets, ⟨AR, cR, AT, cT, AK, cK, ?_⟩, fun hy => ?_, fun hn => ?_⟩⟩
      · rw [rest11 HK.out]
        exact HN2.out.r
      · refine ⟨by rw [is11 g HK.out], fun h => by have := HK.out; omega, ?_⟩
        rw [if_neg (by have := HK.out; omega)]
        exact HCK.out
      · cases hn
    by_cases hk : x.k = 3
    · have HK := Lib.hid hk
      have e1 : (x.k == 1) = false := by rw [hk]; rfl
      have e2 : (x.k == 2) = false := by rw [hk]; rfl
      have e4 : (x.k == 4) = false := by rw [hk]; rfl
      have e5 : (x.k == 5) = false := by rw [hk]; rfl
      have e11 : (x.k == 11) = false := by rw [hk]; rfl
      have e3 : (x.k == 3) = true := by rw [hk]; rfl
      clear hk
      have hPW : ∀ b, P b → b < W3.heap.size := fun b hp => Nat.lt_of_lt_of_le (HP.out b hp) HN2.out.b.size
      have hcells := below_cells (P := P) HN2.out.b (fun b hp => by rw [← HSS.out]; exact HP.out b hp)
      have hc := isSet_any W3 P x x.nt _ _ (HX.out.1.keep hcells) (HX.out.2.1.keep hcells) hPW
      obtain ⟨bb, hbb⟩ : ∃ bb, setB x = bb := ⟨_, rfl⟩
      rw [hbb] at hc
      have HBB := Lib.hid hbb
      clear hbb hPW hcells
      go_wp2_with fail
      refine hc.mono ?_
      rintro e w4 ⟨rfl, hb4⟩
      have HB4 := Lib.hid hb4
      have hr4 := HN2.out.r.on hb4 HN2.out.r.lt
      have z2 : w4.cell? ⟨S + 1, 2, none⟩ = some (.bool x.nt) := hr4.cell (i := 2) rfl
      have z3 : w4.cell? ⟨S + 1, 3, none⟩ = some (.slice AR x.rs.length cR) := hr4.cell (i := 3) rfl
      have z4 : w4.cell? ⟨S + 1, 4, none⟩ = some (.slice AT x.ts.length cT) := hr4.cell (i := 4) rfl
      have f2 := rw_frozen hr4 2
      have f3 := rw_frozen hr4 3
      have f4 := rw_frozen hr4 4
      have HR4 := Lib.hid hr4
      have HCK4 : Hid (CkAt w4 C g gs M) := Lib.hid (HCK.out.on hb4 HCK.out.lt)
      clear hc hb4 hr4
      go_wp2
      go_meet
      refine ⟨bb, rfl, Lib.hid ⟨mid_fr HN2.out.b HSS.out ((((Fr.of_below (X := fun b => b = C ∨ b = S + 1) HB4.out).set ⟨S + 1, 2, none⟩ _ (fun _ => .inr rfl)).set ⟨S + 1, 3, none⟩ _ (fun _ => .inr rfl)).set ⟨S + 1, 4, none⟩ _ (fun _ => .inr rfl)), ⟨none, 0, none, 0, AK, cK, ?_⟩, fun hy => ?_, fun hn => ?_⟩⟩
      · rw [rest3 HK.out]
        exact (set_row (i := 4) (l := [_, _, _, _, _, _, _, _, _]) (set_row (i := 3) (l := [_, _, _, _, _, _, _, _, _]) (set_row (i := 2) (l := ndRow x (.slice AR x.rs.length cR) (.slice AT x.ts.length cT) (.slice AK x.ks.length cK)) HR4.out (.bool false)) (.slice none 0 0)) (.slice none 0 0))
      · refine ⟨by rw [is3 g HK.out]; rw [HBB.out]; exact hy, fun h => by have := HK.out; omega, ?_⟩
        rw [if_neg (by have := HK.out; omega)]
        exact (ck_set2 (ck_set2 (ck_set2 HCK4.out)))
      · exact .inl (by rw [is3 g HK.out]; rw [HBB.out]; exact hn)
    by_cases hk : x.k = 6
    · have HK := Lib.hid hk
      have e1 : (x.k == 1) = false := by rw [hk]; rfl
      have e2 : (x.k == 2) = false := by rw [hk]; rfl
      have e4 : (x.k == 4) = false := by rw [hk]; rfl
      have e5 : (x.k == 5) = false := by rw [hk]; rfl
      have e11 : (x.k == 11) = false := by rw [hk]; rfl
      have e3 : (x.k == 3) = false := by rw [hk]; rfl
      have e6 : (x.k == 6) = true := by rw [hk]; rfl
      clear hk
      have hc := isNumber_any W3 C M g gs x.n HCK.out
      obtain ⟨bb, hbb⟩ : ∃ bb, (decide (1 ≤ x.n) && decide (x.n ≤ g)) = bb := ⟨_, rfl⟩
      rw [hbb] at hc
      have HBB := Lib.hid hbb
      clear hbb
      go_wp2_with (go_at_call 37; refine hc.mono ?_; rintro e w' ⟨rfl, rfl⟩; clear hc)
      go_meet
      refine ⟨bb, rfl, Lib.hid ⟨mid_fr HN2.out.b HSS.out (fr_sets.set ⟨S + 1, 5, none⟩ _ (fun _ => .inr rfl)), ⟨AR, cR, AT, cT, AK, cK, ?_⟩, fun hy => ?_, fun hn => ?_⟩⟩
      · rw [rest6 HK.out]
        exact (set_row (i := 5) (l := ndRow x (.slice AR x.rs.length cR) (.slice AT x.ts.length cT) (.slice AK x.ks.length cK)) HN2.out.r (.int .i64 0))
      · refine ⟨by rw [is6 g HK.out]; rw [HBB.out]; exact hy, fun h => by have := HK.out; omega, ?_⟩
        rw [if_neg (by have := HK.out; omega)]
        exact (ck_set2 HCK.out)
      · exact .inl (by rw [is6 g HK.out]; rw [HBB.out]; exact hn)
    by_cases hk : x.k = 7
    · have HK := Lib.hid hk
      have e1 : (x.k == 1) = false := by rw [hk]; rfl
      have e2 : (x.k == 2) = false := by rw [hk]; rfl
      have e4 : (x.k == 4) = false := by rw [hk]; rfl
      have e5 : (x.k == 5) = false := by rw [hk]; rfl
      have e11 : (x.k == 11) = false := by rw [hk]; rfl
      have e3 : (x.k == 3) = false := by rw [hk]; rfl
      have e6 : (x.k == 6) = false := by rw [hk]; rfl
      have e7 : (x.k == 7) = true := by rw [hk]; rfl
      clear hk
      have HCS : Hid (C < S) := Lib.hid (by have := HC.out.lt; have := HSS.out; omega)
      obtain ⟨bl, hbl⟩ : ∃ bl, decide (x.ks.length = 1) = bl := ⟨_, rfl⟩
      have hbi : ((x.ks.length : Int) == 1) = bl := by rw [← hbl, Bool.eq_iff_iff]; simp; omega
      have HBL := Lib.hid hbl
      clear hbl
      by_cases hyn : (1 ≤ x.n ∧ x.n ≤ g) ∧ x.n ∉ gs
      · have hc := isNew_yes W3 C M g gs x.n HCK.out HG.out.2 hyn.1 hyn.2
        have HYN := Lib.hid hyn
        clear hyn
        go_wp2_with fail
        refine hc.mono ?_
        rintro e w4 ⟨rfl, hck4, hf4, -⟩
        have hr4 : Rw w4 (S + 1) 31 (ndRow x (.slice AR x.rs.length cR) (.slice AT x.ts.length cT) (.slice AK x.ks.length cK)).toArray := (hf4.block (S + 1) HN2.out.r.lt (by have := HCS.out; omega)).trans HN2.out.r
        have hn4 : Rw w4 S 31 (ndRow x (.slice AR x.rs.length cR) (.slice AT x.ts.length cT) (.slice AK x.ks.length cK)).toArray := (hf4.block S HN2.out.n.lt (by have := HCS.out; omega)).trans HN2.out.n
        have p8 : w4.cell? ⟨S, 8, none⟩ = some (.slice AK x.ks.length cK) := hn4.cell (i := 8) rfl
        have z5 : w4.cell? ⟨S + 1, 5, none⟩ = some (.int .i64 x.n) := hr4.cell (i := 5) rfl
        have z8 : w4.cell? ⟨S + 1, 8, none⟩ = some (.slice AK x.ks.length cK) := hr4.cell (i := 8) rfl
        have f5 := rw_frozen hr4 5
        have f8 := rw_frozen hr4 8
        have HR4 := Lib.hid hr4
        have HCK4 := Lib.hid hck4
        have HF4 := Lib.hid hf4
        clear hr4 hn4 hck4 hf4 hc
        go_wp2
        go_meet
        refine ⟨bl, rfl, Lib.hid ⟨mid_fr HN2.out.b HSS.out (((HF4.out.mono (Y := fun b => b = C ∨ b = S + 1) (fun _ _ h => .inl h)).set ⟨S + 1, 5, none⟩ _ (fun _ => .inr rfl)).set ⟨S + 1, 8, none⟩ _ (fun _ => .inr rfl)), ⟨AR, cR, AT, cT, none, 0, ?_⟩, fun hy => ?_, fun hn => ?_⟩⟩
        · rw [rest7 HK.out]
          exact (set_row (i := 8) (l := [_, _, _, _, _, _, _, _, _]) (set_row (i := 5) (l := ndRow x (.slice AR x.rs.length cR) (.slice AT x.ts.length cT) (.slice AK x.ks.length cK)) HR4.out (.int .i64 0)) (.slice none 0 0))
        · refine ⟨by rw [is7 g HK.out, HBL.out, decide_eq_true HYN.out.1.1, decide_eq_true HYN.out.1.2]; exact hy, fun _ => HYN.out.2, ?_⟩
          rw [if_pos HK.out]
          exact (ck_set2 (ck_set2 HCK4.out))
        · exact .inl (by rw [is7 g HK.out, HBL.out, decide_eq_true HYN.out.1.1, decide_eq_true HYN.out.1.2]; exact hn)
      · have hno : ¬ (1 ≤ x.n ∧ x.n ≤ g) ∨ x.n ∈ gs := by
          by_cases h1 : 1 ≤ x.n ∧ x.n ≤ g
          · by_cases h2 : x.n ∈ gs
            · exact .inr h2
            · exact absurd ⟨h1, h2⟩ hyn
          · exact .inl h1
        have hc := isNew_no W3 C M g gs x.n HCK.out HG.out.2 hno
        have HNO := Lib.hid hno
        clear hyn hno
        go_wp2_with fail
        refine hc.mono ?_
        rintro e w4 ⟨rfl, rfl⟩
        clear hc
        go_wp2
        go_meet
        refine ⟨false, rfl, Lib.hid ⟨mid_fr HN2.out.b HSS.out ((fr_sets.set ⟨S + 1, 5, none⟩ _ (fun _ => .inr rfl)).set ⟨S + 1, 8, none⟩ _ (fun _ => .inr rfl)), ⟨AR, cR, AT, cT, none, 0, ?_⟩, fun hy => ?_, fun hn => ?_⟩⟩
        · rw [rest7 HK.out]
          exact (set_row (i := 8) (l := [_, _, _, _, _, _, _, _, _]) (set_row (i := 5) (l := ndRow x (.slice AR x.rs.length cR) (.slice AT x.ts.length cT) (.slice AK x.ks.length cK)) HN2.out.r (.int .i64 0)) (.slice none 0 0))
        · cases hy
        · rcases HNO.out with h | h
          · refine .inl ?_
            rw [is7 g HK.out]
            have : (decide (1 ≤ x.n) && decide (x.n ≤ g)) = false := by rw [Bool.and_eq_false_iff, decide_eq_false_iff_not, decide_eq_false_iff_not]; omega
            rw [this]
            rfl
          · exact .inr ⟨HK.out, h⟩
    by_cases hk : x.k = 8
    · have HK := Lib.hid hk
      have e1 : (x.k == 1) = false := by rw [hk]; rfl
      have e2 : (x.k == 2) = false := by rw [hk]; rfl
      have e4 : (x.k == 4) = false := by rw [hk]; rfl
      have e5 : (x.k == 5) = false := by rw [hk]; rfl
      have e11 : (x.k == 11) = false := by rw [hk]; rfl
      have e3 : (x.k == 3) = false := by rw [hk]; rfl
      have e6 : (x.k == 6) = false := by rw [hk]; rfl
      have e7 : (x.k == 7) = false := by rw [hk]; rfl
      have e8 : (x.k == 8) = true := by rw [hk]; rfl
      clear hk
      obtain ⟨bb, hbb⟩ : ∃ bb, decide (2 ≤ x.ks.length) = bb := ⟨_, rfl⟩
      have hbi : decide ((2 : Int) ≤ (x.ks.length : Int)) = bb := by rw [← hbb, decide_eq_decide]; omega
      have HBB := Lib.hid hbb
      clear hbb
      go_wp2
      go_meet
      refine ⟨bb, rfl, Lib.hid ⟨mid_fr HN2.out.b HSS.out (fr_sets.set ⟨S + 1, 8, none⟩ _ (fun _ => .inr rfl)), ⟨AR, cR, AT, cT, none, 0, ?_⟩, fun hy => ?_, fun hn => ?_⟩⟩
      · rw [rest8 HK.out]
        exact (set_row (i := 8) (l := ndRow x (.slice AR x.rs.length cR) (.slice AT x.ts.length cT) (.slice AK x.ks.length cK)) HN2.out.r (.slice none 0 0))
      · refine ⟨by rw [is8 g HK.out]; rw [HBB.out]; exact hy, fun h => by have := HK.out; omega, ?_⟩
        rw [if_neg (by have := HK.out; omega)]
        exact (ck_set2 HCK.out)
      · exact .inl (by rw [is8 g HK.out]; rw [HBB.out]; exact hn)
    by_cases hk : x.k = 9
    · have HK := Lib.hid hk
      have e1 : (x.k == 1) = false := by rw [hk]; rfl
      have e2 : (x.k == 2) = false := by rw [hk]; rfl
      have e4 : (x.k == 4) = false := by rw [hk]; rfl
      have e5 : (x.k == 5) = false := by rw [hk]; rfl
      have e11 : (x.k == 11) = false := by rw [hk]; rfl
      have e3 : (x.k == 3) = false := by rw [hk]; rfl
      have e6 : (x.k == 6) = false := by rw [hk]; rfl
      have e7 : (x.k == 7) = false := by rw [hk]; rfl
      have e8 : (x.k == 8) = false := by rw [hk]; rfl
      have e9 : (x.k == 9) = true := by rw [hk]; rfl
      clear hk
      obtain ⟨bb, hbb⟩ : ∃ bb, decide (2 ≤ x.ks.length) = bb := ⟨_, rfl⟩
      have hbi : decide ((2 : Int) ≤ (x.ks.length : Int)) = bb := by rw [← hbb, decide_eq_decide]; omega
      have HBB := Lib.hid hbb
      clear hbb
      go_wp2
      go_meet
      refine ⟨bb, rfl, Lib.hid ⟨mid_fr HN2.out.b HSS.out (fr_sets.set ⟨S + 1, 8, none⟩ _ (fun _ => .inr rfl)), ⟨AR, cR, AT, cT, none, 0, ?_⟩, fun hy => ?_, fun hn => ?_⟩⟩
      · rw [rest9 HK.out]
        exact (set_row (i := 8) (l := ndRow x (.slice AR x.rs.length cR) (.slice AT x.ts.length cT) (.slice AK x.ks.length cK)) HN2.out.r (.slice none 0 0))
      · refine ⟨by rw [is9 g HK.out]; rw [HBB.out]; exact hy, fun h => by have := HK.out; omega, ?_⟩
        rw [if_neg (by have := HK.out; omega)]
        exact (ck_set2 HCK.out)
      · exact .inl (by rw [is9 g HK.out]; rw [HBB.out]; exact hn)
    by_cases hk : x.k = 10
    · have HK := Lib.hid hk
      have e1 : (x.k == 1) = false := by rw [hk]; rfl
      have e2 : (x.k == 2) = false := by rw [hk]; rfl
      have e4 : (x.k == 4) = false := by rw [hk]; rfl
      have e5 : (x.k == 5) = false := by rw [hk]; rfl
      have e11 : (x.k == 11) = false := by rw [hk]; rfl
      have e3 : (x.k == 3) = false := by rw [hk]; rfl
      have e6 : (x.k == 6) = false := by rw [hk]; rfl
      have e7 : (x.k == 7) = false := by rw [hk]; rfl
      have e8 : (x.k == 8) = false := by rw [hk]; rfl
      have e9 : (x.k == 9) = false := by rw [hk]; rfl
      have e10 : (x.k == 10) = true := by rw [hk]; rfl
      clear hk
      have hc := areTimes_any W3 x.mn x.mx
      obtain ⟨bb, hbb⟩ : ∃ bb, timB x.mn x.mx = bb := ⟨_, rfl⟩
      obtain ⟨bl, hbl⟩ : ∃ bl, decide (x.ks.length = 1) = bl := ⟨_, rfl⟩
      have hbi : ((x.ks.length : Int) == 1) = bl := by rw [← hbl, Bool.eq_iff_iff]; simp; omega
      rw [hbb] at hc
      have HBB := Lib.hid hbb
      have HBL := Lib.hid hbl
      clear hbb hbl
      cases bb
      all_goals
        go_wp2_with (go_at_call 39; refine hc.mono ?_; rintro e w' ⟨rfl, rfl⟩; clear hc)
        go_meet
      · refine ⟨false, rfl, Lib.hid ⟨mid_fr HN2.out.b HSS.out (((fr_sets.set ⟨S + 1, 6, none⟩ _ (fun _ => .inr rfl)).set ⟨S + 1, 7, none⟩ _ (fun _ => .inr rfl)).set ⟨S + 1, 8, none⟩ _ (fun _ => .inr rfl)), ⟨AR, cR, AT, cT, none, 0, ?_⟩, fun hy => ?_, fun hn => ?_⟩⟩
        · rw [rest10 HK.out]
          exact (set_row (i := 8) (l := [_, _, _, _, _, _, _, _, _]) (set_row (i := 7) (l := [_, _, _, _, _, _, _, _, _]) (set_row (i := 6) (l := ndRow x (.slice AR x.rs.length cR) (.slice AT x.ts.length cT) (.slice AK x.ks.length cK)) HN2.out.r (.int .i64 0)) (.int .i64 0)) (.slice none 0 0))
        · cases hy
        · exact .inl (by rw [is10 g HK.out, HBB.out]; rfl)
      · refine ⟨bl, rfl, Lib.hid ⟨mid_fr HN2.out.b HSS.out (((fr_sets.set ⟨S + 1, 6, none⟩ _ (fun _ => .inr rfl)).set ⟨S + 1, 7, none⟩ _ (fun _ => .inr rfl)).set ⟨S + 1, 8, none⟩ _ (fun _ => .inr rfl)), ⟨AR, cR, AT, cT, none, 0, ?_⟩, fun hy => ?_, fun hn => ?_⟩⟩
        · rw [rest10 HK.out]
          exact (set_row (i := 8) (l := [_, _, _, _, _, _, _, _, _]) (set_row (i := 7) (l := [_, _, _, _, _, _, _, _, _]) (set_row (i := 6) (l := ndRow x (.slice AR x.rs.length cR) (.slice AT x.ts.length cT) (.slice AK x.ks.length cK)) HN2.out.r (.int .i64 0)) (.int .i64 0)) (.slice none 0 0))
        · refine ⟨by rw [is10 g HK.out]; rw [HBB.out, HBL.out]; exact hy, fun h => by have := HK.out; omega, ?_⟩
          rw [if_neg (by have := HK.out; omega)]
          exact (ck_set2 (ck_set2 (ck_set2 HCK.out)))
        · exact .inl (by rw [is10 g HK.out]; rw [HBB.out, HBL.out]; exact hn)
    have hels : x.k ≠ 1 ∧ x.k ≠ 2 ∧ x.k ≠ 4 ∧ x.k ≠ 5 ∧ x.k ≠ 11 ∧ x.k ≠ 3 ∧ x.k ≠ 6 ∧ x.k ≠ 7 ∧ x.k ≠ 8 ∧ x.k ≠ 9 ∧ x.k ≠ 10 := by omega
    have HE := Lib.hid hels
    have e1 : (x.k == 1) = false := beq_eq_false_iff_ne.2 (by omega)
    have e2 : (x.k == 2) = false := beq_eq_false_iff_ne.2 (by omega)
    have e4 : (x.k == 4) = false := beq_eq_false_iff_ne.2 (by omega)
    have e5 : (x.k == 5) = false := beq_eq_false_iff_ne.2 (by omega)
    have e11 : (x.k == 11) = false := beq_eq_false_iff_ne.2 (by omega)
    have e3 : (x.k == 3) = false := beq_eq_false_iff_ne.2 (by omega)
    have e6 : (x.k == 6) = false := beq_eq_false_iff_ne.2 (by omega)
    have e7 : (x.k == 7) = false := beq_eq_false_iff_ne.2 (by omega)
    have e8 : (x.k == 8) = false := beq_eq_false_iff_ne.2 (by omega)
    have e9 : (x.k == 9) = false := beq_eq_false_iff_ne.2 (by omega)
    have e10 : (x.k == 10) = false := beq_eq_false_iff_ne.2 (by omega)
    clear hels
    go_wp2
    go_meet
    refine ⟨false, rfl, Lib.hid ⟨mid_fr HN2.out.b HSS.out fr_sets, ⟨AR, cR, AT, cT, AK, cK, ?_⟩, fun hy => (by cases hy), fun _ => .inl (is_else g HE.out)⟩⟩
    rw [rest_else HE.out]
    exact HN2.out.r
  case rest =>
    obtain ⟨is, rfl, HM⟩ := hcut
    generalize wc = wx at *
    clear p0 p1 p2 p3 p4 p5 p6 p7 p8 z0 z1 z2 z3 z4 z5 z6 z7 z8 f1 f2 f3 f4 f5 f6 f7 f8 HCK
    cases is with
    | false =>
      go_wp2
      go_ret
      refine ⟨false, rfl, HM.out.fr, fun h => (by cases h), fun _ => ?_⟩
      rcases HM.out.no rfl with h | h
      · exact .inl (by rw [nodeB_rest, h]; rfl)
      · exact .inr h
    | true =>
      obtain ⟨BR, dR, BT, dT, BK, dK, hrr⟩ := HM.out.rest
      have z0 : wx.cell? ⟨S + 1, 0, none⟩ = some (.int .u8 (restN x).k) := hrr.cell (i := 0) rfl
      have z1 : wx.cell? ⟨S + 1, 1, none⟩ = some (.int .i32 (restN x).c) := hrr.cell (i := 1) rfl
      have z2 : wx.cell? ⟨S + 1, 2, none⟩ = some (.bool (restN x).nt) := hrr.cell (i := 2) rfl
      have z3 : wx.cell? ⟨S + 1, 3, none⟩ = some (.slice BR (restN x).rs.length dR) := hrr.cell (i := 3) rfl
      have z4 : wx.cell? ⟨S + 1, 4, none⟩ = some (.slice BT (restN x).ts.length dT) := hrr.cell (i := 4) rfl
      have z5 : wx.cell? ⟨S + 1, 5, none⟩ = some (.int .i64 (restN x).n) := hrr.cell (i := 5) rfl
      have z6 : wx.cell? ⟨S + 1, 6, none⟩ = some (.int .i64 (restN x).mn) := hrr.cell (i := 6) rfl
      have z7 : wx.cell? ⟨S + 1, 7, none⟩ = some (.int .i64 (restN x).mx) := hrr.cell (i := 7) rfl
      have z8 : wx.cell? ⟨S + 1, 8, none⟩ = some (.slice BK (restN x).ks.length dK) := hrr.cell (i := 8) rfl
      have hc := isBlank_any wx (restN x) BR BT BK dR dT dK
      unfold ndVal at hc
      clear hrr
      obtain ⟨bb, hbb⟩ : ∃ bb, blankB (restN x) = bb := ⟨_, rfl⟩
      rw [hbb] at hc
      have HBB := Lib.hid hbb
      clear hbb
      go_wp2_with fail
      refine hc.mono ?_
      rintro e w5 ⟨rfl, hb5⟩
      have HB5 := Lib.hid hb5
      clear hc hb5 z0 z1 z2 z3 z4 z5 z6 z7 z8
      go_wp2
      go_ret
      refine ⟨bb, rfl, HM.out.fr.trans (Fr.of_below HB5.out), fun h => ?_, fun h => ?_⟩
      · obtain ⟨h1, h2, h3⟩ := HM.out.yes rfl
        refine ⟨by rw [nodeB_rest, h1, HBB.out]; exact h, h2, ?_⟩
        exact Rw.on h3 HB5.out h3.lt
      · refine .inl ?_
        rw [nodeB_rest, HBB.out, h, Bool.and_false]
end Go.Proofs.YtcpjcepeiplfgaaDoor.C
