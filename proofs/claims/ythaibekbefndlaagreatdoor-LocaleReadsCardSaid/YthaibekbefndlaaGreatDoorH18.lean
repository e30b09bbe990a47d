/-
  Joined: LdR, LeA, LeB, LeC, LeD. Each with what its own head says.
-/
import Derived.Deep.WholeRow
import Derived.Test.YthaibekbefndlaaGreatDoorH17

namespace Go.Proofs.YthaibekbefndlaaGreatDoor.C
open Go.RowKit

theorem set_same {w : World} {E : Nat} {t : TypeId} {v : Value} (h : One w E t v) : Below w.heap.size w (w.setCell ⟨E, 0, none⟩ v) := by
 refine ⟨rfl, rfl, rfl, by simp [World.setCell], fun i hi => ?_⟩
 by_cases he : i = E
 ·subst he
  exact (set_row (i := 0) (l := [v]) h v).trans (by simpa using h.symm)
 ·exact Below.heap_setCell w ⟨E, 0, none⟩ v i he
theorem One.set_ {w : World} {b : Nat} {t : TypeId} {v : Value} (h : One w b t v) (u : Value) : One (w.setCell ⟨b, 0, none⟩ u) b t u := set_row (i := 0) (l := [v]) h u
theorem One.frozen {w : World} {b : Nat} {t : TypeId} {v : Value} (h : One w b t v) (i : Nat) : w.frozen? ⟨b, i, none⟩ = false := by simp [World.frozen?, show w.heap[b]? = _ from h]
theorem One.far4 {w : World} {b c : Nat} {t : TypeId} {v : Value} (h : One w b t v) (hb : b ≠ c) (x0 x1 x2 x3 : Value) : One ((((w.setCell ⟨c, 0, none⟩ x0).setCell ⟨c, 1, none⟩ x1).setCell ⟨c, 2, none⟩ x2).setCell ⟨c, 3, none⟩ x3) b t v :=
 (((h.far (p := ⟨c, 0, none⟩) hb x0).far (p := ⟨c, 1, none⟩) hb x1).far (p := ⟨c, 2, none⟩) hb x2).far (p := ⟨c, 3, none⟩) hb x3
theorem row_form {w : World} {lo n sz : Nat} {v : Value} {xs : List Value} {e : TypeId} (h : w.ownsRow lo e sz v n xs) : ∃ A c, v = .slice A n c := by
 rcases Joins.ownsRow_forms h with ⟨rfl, h0⟩ | ⟨g, c, rfl⟩
 ·exact ⟨none, 0, by rw [h0]⟩
 ·exact ⟨_, _, rfl⟩
theorem ClsAt.form {w : World} {lo : Nat} {v : Value} {cs : List Cls} (h : ClsAt w lo v cs) : ∃ A c, v = .slice A cs.length c := by
 obtain ⟨vs, _, h2, _⟩ := h
 exact row_form h2
def ParseTold (w : World) (r : Loc × Nat × Nat) (e : Ending) (w' : World) : Prop :=
 ∃ v1 v2 v3 v4 lo, e = .returned (.tuple #[.agg #[v1, v2, v3, v4], .int .u16 r.2.1, .int .i64 r.2.2]) ∧ w.heap.size ≤ lo ∧ lo ≤ w'.heap.size ∧ LocAt w' lo v1 v2 v3 v4 r.1 ∧ Below w.heap.size w w'
theorem lex_at {t : List UInt8} {ts : List Tok} {a : Nat} (h : lexL t = (ts, 0, a)) : a = 0 := by
 unfold lexL at h
 by_cases h4 : 4000 < t.length
 ·rw [if_pos h4] at h
  cases h
 ·rw [if_neg h4] at h
  cases hr : runL t 0 [] with
  | inr k => rw [hr] at h; cases h
  | inl us =>
   rw [hr] at h
   simp only at h
   by_cases hb : 1000 < us.length
   ·rw [if_pos hb] at h
    cases h
   ·rw [if_neg hb] at h
    simp at h
    exact h.2.symm
theorem lex_er {t : List UInt8} {ts : List Tok} {er a : Nat} (h : lexL t = (ts, er, a)) : er = 0 ∨ er = 3 ∨ er = 20 := by
 unfold lexL at h
 by_cases h4 : 4000 < t.length
 ·rw [if_pos h4] at h
  simp at h; omega
 ·rw [if_neg h4] at h
  cases hr : runL t 0 [] with
  | inr k => rw [hr] at h; simp at h; omega
  | inl us =>
   rw [hr] at h
   simp only at h
   by_cases hb : 1000 < us.length
   ·rw [if_pos hb] at h
    simp at h; omega
   ·rw [if_neg hb] at h
    simp at h; omega
def parW (w : World) : World := ((w.alloc (.cells #[.slice none 0 0, .slice none 0 0, .slice none 0 0, .slice none 0 0] 26)).alloc (.cells #[.int .u16 0] 28)).alloc (.cells #[.int .i64 0] 3)
theorem parW_below (w : World) : Below w.heap.size w (parW w) := (((Below.refl _ _).alloc (Nat.le_refl _) _).alloc (by simp) _).alloc (by simp; omega) _
theorem parW_size (w : World) : (parW w).heap.size = w.heap.size + 1 + 1 + 1 := by simp [parW]
theorem setLoc {w : World} {b : Nat} {v1 v2 v3 v4 : Value} (h : w.heap[b]? = some (.cells #[v1, v2, v3, v4] 26 (0, 0))) (x0 x1 x2 x3 : Value) : ((((w.setCell ⟨b, 0, none⟩ x0).setCell ⟨b, 1, none⟩ x1).setCell ⟨b, 2, none⟩ x2).setCell ⟨b, 3, none⟩ x3).heap[b]? = some (.cells #[x0, x1, x2, x3] 26 (0, 0)) :=
 set_row (i := 3) (l := [x0, x1, x2, v4]) (set_row (i := 2) (l := [x0, x1, v3, v4]) (set_row (i := 1) (l := [x0, v2, v3, v4]) (set_row (i := 0) (l := [v1, v2, v3, v4]) h x0) x1) x2) x3
def LocZ (w : World) (b : Nat) (v1 v2 v3 v4 : Value) : Prop := w.heap[b]? = some (.cells #[v1, v2, v3, v4] 26 (0, 0))
theorem LocZ.cells {w : World} {b : Nat} {v1 v2 v3 v4 : Value} (h : LocZ w b v1 v2 v3 v4) : w.cell? ⟨b, 0, none⟩ = some v1 ∧ w.cell? ⟨b, 1, none⟩ = some v2 ∧ w.cell? ⟨b, 2, none⟩ = some v3 ∧ w.cell? ⟨b, 3, none⟩ = some v4 := by
 simp [World.cell?, show w.heap[b]? = _ from h]
theorem LocZ.frozen {w : World} {b : Nat} {v1 v2 v3 v4 : Value} (h : LocZ w b v1 v2 v3 v4) (i : Nat) : w.frozen? ⟨b, i, none⟩ = false := by simp [World.frozen?, show w.heap[b]? = _ from h]
theorem LocZ.lt {w : World} {b : Nat} {v1 v2 v3 v4 : Value} (h : LocZ w b v1 v2 v3 v4) : b < w.heap.size := (Array.getElem?_eq_some_iff.1 h).1
theorem parW_new (w : World) : LocZ (parW w) w.heap.size (.slice none 0 0) (.slice none 0 0) (.slice none 0 0) (.slice none 0 0) ∧ One (parW w) (w.heap.size + 1) 28 (.int .u16 0) ∧ One (parW w) (w.heap.size + 1 + 1) 3 (.int .i64 0) := by
 unfold parW
 refine ⟨?_, ?_, ?_⟩
 ·unfold LocZ
  rw [heap_lt _ _ (by simp; omega), heap_lt _ _ (by simp), heap_new]
 ·unfold One
  rw [heap_lt _ _ (by simp)]
  have := heap_new (w.alloc (.cells #[.slice none 0 0, .slice none 0 0, .slice none 0 0, .slice none 0 0] 26)) (.cells #[.int .u16 0] 28)
  simpa using this
 ·unfold One
  have := heap_new ((w.alloc (.cells #[.slice none 0 0, .slice none 0 0, .slice none 0 0, .slice none 0 0] 26)).alloc (.cells #[.int .u16 0] 28)) (.cells #[.int .i64 0] 3)
  simpa using this
set_option maxRecDepth 100000 in
set_option maxHeartbeats 4000000 in
theorem locParse_any (s : ByteArray) (w : World) (hG : Gl w) : Calls Tryz.prog 9 #[.string s] w (ParseTold w (parseL s.data.toList)) := by
 have hmf : ∀ (fn : Fn) (first cap : Array Value) (w : World), (Instr.makeFunc fn first cap).run Tryz.prog w = .ok (.func fn first cap) w := fun _ _ _ _ => rfl
 have hmm := @run_makeMap Tryz.prog
 have hto := tokens_any s (parW w) (hG.next (parW_below w))
 obtain ⟨⟨ts, er, at_⟩, hlx⟩ : ∃ y, y = lexL s.data.toList := ⟨_, rfl⟩
 rw [← hlx] at hto
 unfold TokTold at hto
 simp only at hto
 have HB0 := Lib.hid (parW_below w)
 have HN0 := Lib.hid (parW_new w)
 have HS0 := Lib.hid (parW_size w)
 have herr := lex_er hlx.symm
 clear hG
 by_cases he0 : er = 0
 rotate_left
 ·have hp : parseL s.data.toList = (noL, er, at_) := by
   unfold parseL
   rw [← hlx]
   rcases herr with rfl | rfl | rfl
   ·exact absurd rfl he0
   ·rfl
   ·rfl
  rw [hp]
  have i0 : ¬ (er : Int) = 0 := by omega
  clear hp hlx herr he0
  go_enter_defers Tryz.func9, Tryz.ntmps9
  go_wp2_with fail
  change Calls _ _ _ (parW w) _
  refine hto.mono ?_
  rintro e w1 ⟨A, n, c, rfl, hnc, hcm, hti, hb1⟩
  obtain ⟨n0, n1, n2⟩ := HN0.out
  have m0 : LocZ w1 w.heap.size _ _ _ _ := (hb1.block _ n0.lt).trans n0
  have m1 : One w1 (w.heap.size + 1) _ _ := (hb1.block _ n1.lt).trans n1
  have m2 : One w1 (w.heap.size + 1 + 1) _ _ := (hb1.block _ n2.lt).trans n2
  have HM0 := Lib.hid m0
  have HM1 := Lib.hid m1
  have HM2 := Lib.hid m2
  have HB1 : Hid (Below w.heap.size w w1) := Lib.hid (HB0.out.trans (hb1.mono HB0.out.size))
  have c1 := m1.cell
  have c2 := m2.cell
  have f1 : w1.frozen? ⟨w.heap.size + 1, 0, none⟩ = false := by simp [World.frozen?, show w1.heap[_]? = _ from m1]
  have f2 : w1.frozen? ⟨w.heap.size + 1 + 1, 0, none⟩ = false := by simp [World.frozen?, show w1.heap[_]? = _ from m2]
  clear hti hb1 m0 m1 m2 hto n0 n1 n2
  obtain ⟨S, hS⟩ : ∃ S, w.heap.size = S := ⟨_, rfl⟩
  rw [hS] at HM0 HM1 HM2 HB1 c1 c2 f1 f2 ⊢
  have HSS := Lib.hid hS
  clear hS
  obtain ⟨F, hF⟩ : ∃ F, F = S + 1 + 1 := ⟨_, rfl⟩
  rw [← hF] at HM2 c2 f2 ⊢
  obtain ⟨E, hE⟩ : ∃ E, E = S + 1 := ⟨_, rfl⟩
  rw [← hE] at HM1 c1 f1 ⊢
  have hES : E ≠ S := by omega
  have hFS : F ≠ S := by omega
  have hEF : E ≠ F := by omega
  have HEF := Lib.hid (And.intro hE hF)
  clear hE hF
  obtain ⟨W2, hW2⟩ : ∃ W2, W2 = (w1.setCell ⟨E, 0, none⟩ (.int .u16 er)).setCell ⟨F, 0, none⟩ (.int .i64 at_) := ⟨_, rfl⟩
  have HE2 : Hid (One W2 E 28 (.int .u16 er)) := Lib.hid (by rw [hW2]; exact (HM1.out.set_ _).far (p := ⟨F, 0, none⟩) hEF _)
  have HF2 : Hid (One W2 F 3 (.int .i64 at_)) := Lib.hid (by rw [hW2]; exact (One.far HM2.out (p := ⟨E, 0, none⟩) hEF.symm _).set_ _)
  have HZ2 : Hid (LocZ W2 S (.slice none 0 0) (.slice none 0 0) (.slice none 0 0) (.slice none 0 0)) := Lib.hid (by rw [hW2]; exact (Below.heap_setCell _ ⟨F, 0, none⟩ _ S hFS.symm).trans ((Below.heap_setCell _ ⟨E, 0, none⟩ _ S hES.symm).trans HM0.out))
  have HB2 : Hid (Below S w W2) := Lib.hid (by rw [hW2]; exact (HB1.out.setCell (p := ⟨E, 0, none⟩) (by have := HEF.out; show S ≤ E; omega) _).setCell (p := ⟨F, 0, none⟩) (by have := HEF.out; show S ≤ F; omega) _)
  have d1 : ((w1.setCell ⟨E, 0, none⟩ (.int .u16 er)).setCell ⟨F, 0, none⟩ (.int .i64 at_)).cell? ⟨E, 0, none⟩ = some (.int .u16 er) := by rw [← hW2]; exact HE2.out.cell
  go_wp2
  rw [← hW2]
  clear hW2 c1 c2 f1 f2 d1
  have hS2 := (show (fun W : World => W.cell? ⟨E, 0, none⟩ = some (.int .u16 er) ∧ W.cell? ⟨F, 0, none⟩ = some (.int .i64 at_)) W2.drew from ⟨HE2.out.drew.cell, HF2.out.drew.cell⟩)
  obtain ⟨z0, z1, z2, z3⟩ := HZ2.out.cells
  have y0 := HZ2.out.frozen 0
  have y1 := HZ2.out.frozen 1
  have y2 := HZ2.out.frozen 2
  have y3 := HZ2.out.frozen 3
  refine wp_region_noPanic ?_
  refine wp_region_held (S := fun W : World => W.cell? ⟨E, 0, none⟩ = some (.int .u16 er) ∧ W.cell? ⟨F, 0, none⟩ = some (.int .i64 at_)) (by kernel_rfl) ?_
  change wpAnyH _ _ _ _ _ _ _ _ W2.drew
  refine wpAnyH_take (i := 0) (oi := ?oi0) (v := ?v0) ?hi0 (by kernel_rfl) (by kernel_rfl) (by kernel_rfl) ?hq0 (Or.inl ⟨?hw0, ?hy0⟩) hS2 ?rest0
  case hi0 => exact rfl
  case hq0 => exact fun _ _ _ h => h
  case hw0 => rfl
  case hy0 => (intro x hx; (try dsimp only at hx); simp only [List.getElem_toArray, List.getElem_cons_zero]; go_split_ands; go_simp; try with_reducible rfl)
  try simp only [Act.put, List.setIfInBounds_toArray, List.set_cons_zero, List.set_cons_succ, List.getElem_toArray, List.getElem_cons_zero]
  refine wpAnyH_take (i := 1) (oi := ?oi1) (v := ?v1) ?hi1 (by kernel_rfl) (by kernel_rfl) (by kernel_rfl) ?hq1 (Or.inl ⟨?hw1, ?hy1⟩) hS2 ?rest1
  case hi1 => exact rfl
  case hq1 => exact fun _ _ _ h => h
  case hw1 => rfl
  case hy1 => (intro x hx; (try dsimp only at hx); simp only [List.getElem_toArray, List.getElem_cons_succ, List.getElem_cons_zero]; go_split_ands; go_simp; try with_reducible rfl)
  try simp only [Act.put, List.setIfInBounds_toArray, List.set_cons_zero, List.set_cons_succ, List.getElem_toArray, List.getElem_cons_succ, List.getElem_cons_zero]
  refine wpAnyH_take (i := 2) (oi := ?oi2) (v := ?v2) ?hi2 (by kernel_rfl) (by kernel_rfl) (by kernel_rfl) ?hq2 (Or.inl ⟨?hw2, ?hy2⟩) hS2 ?rest2
  case hi2 => exact rfl
  case hq2 => exact fun _ _ _ h => h
  case hw2 => rfl
  case hy2 => (intro x hx; (try dsimp only at hx); simp only [List.getElem_toArray, List.getElem_cons_succ, List.getElem_cons_zero]; go_split_ands; go_simp; try with_reducible rfl)
  try simp only [Act.put, List.setIfInBounds_toArray, List.set_cons_zero, List.set_cons_succ, List.getElem_toArray, List.getElem_cons_succ, List.getElem_cons_zero]
  refine wpAnyH_one (i := 3) (by kernel_rfl) rfl (fun K hK => ?_)
  simp only [List.getElem_toArray, List.getElem_cons_succ, List.getElem_cons_zero]
  have HE3 := Lib.hid (HE2.out.drew.far4 hES (.slice none 0 0) (.slice none 0 0) (.slice none 0 0) (.slice none 0 0))
  have HF3 := Lib.hid (HF2.out.drew.far4 hFS (.slice none 0 0) (.slice none 0 0) (.slice none 0 0) (.slice none 0 0))
  have HZ3 : Hid (LocZ ((((W2.drew.setCell ⟨S, 0, none⟩ (.slice none 0 0)).setCell ⟨S, 1, none⟩ (.slice none 0 0)).setCell ⟨S, 2, none⟩ (.slice none 0 0)).setCell ⟨S, 3, none⟩ (.slice none 0 0)) S (.slice none 0 0) (.slice none 0 0) (.slice none 0 0) (.slice none 0 0)) := Lib.hid (setLoc HZ2.out _ _ _ _)
  go_simp
  refine hK.out _ _ ⟨HE3.out.cell, HF3.out.cell⟩ (fun hS3 => ?_)
  clear z0 z1 z2 z3 y0 y1 y2 y3
  obtain ⟨W3, hW3⟩ : ∃ W3, W3 = ((((W2.setCell ⟨S, 0, none⟩ (.slice none 0 0)).setCell ⟨S, 1, none⟩ (.slice none 0 0)).setCell ⟨S, 2, none⟩ (.slice none 0 0)).setCell ⟨S, 3, none⟩ (.slice none 0 0)) := ⟨_, rfl⟩
  have HE4 : Hid (One W3 E 28 (.int .u16 er)) := Lib.hid (by rw [hW3]; exact HE3.out)
  have HF4 : Hid (One W3 F 3 (.int .i64 at_)) := Lib.hid (by rw [hW3]; exact HF3.out)
  have HZ4 : Hid (LocZ W3 S (.slice none 0 0) (.slice none 0 0) (.slice none 0 0) (.slice none 0 0)) := Lib.hid (by rw [hW3]; exact HZ3.out)
  have HB4 : Hid (Below S w W3) := Lib.hid (by rw [hW3]; exact (((HB2.out.setCell (p := ⟨S, 0, none⟩) (Nat.le_refl S) _).setCell (p := ⟨S, 1, none⟩) (Nat.le_refl S) _).setCell (p := ⟨S, 2, none⟩) (Nat.le_refl S) _).setCell (p := ⟨S, 3, none⟩) (Nat.le_refl S) _)
  rw [← hW3] at hS3 ⊢
  clear hW3 HE3 HF3 HZ3
  refine wpAnyH_one (i := 4) (by kernel_rfl) rfl (fun K hK => ?_)
  simp only [List.getElem_toArray, List.getElem_cons_succ, List.getElem_cons_zero]
  have x0 := HE4.out.cell
  have x1 := HE4.out.frozen 0
  go_simp
  refine hK.out _ _ ⟨(HE4.out.set_ _).cell, (HF4.out.far (p := ⟨E, 0, none⟩) hEF.symm _).cell⟩ (fun hS4 => ?_)
  clear x0 x1
  refine wpAnyH_one (i := 5) (by kernel_rfl) rfl (fun K hK => ?_)
  simp only [List.getElem_toArray, List.getElem_cons_succ, List.getElem_cons_zero]
  have x0 := (HF4.out.far (p := ⟨E, 0, none⟩) hEF.symm (.int .u16 er)).cell
  have x1 := (HF4.out.far (p := ⟨E, 0, none⟩) hEF.symm (.int .u16 er)).frozen 0
  go_simp
  refine hK.out _ _ ⟨((HE4.out.set_ _).far (p := ⟨F, 0, none⟩) hEF _).cell, ((HF4.out.far (p := ⟨E, 0, none⟩) hEF.symm _).set_ _).cell⟩ (fun hS5 => ?_)
  refine wpAnyH_done (by kernel_rfl) (NoPanic.normal ?_) _
  obtain ⟨W5, hW5⟩ : ∃ W5, W5 = ((W3.setCell ⟨E, 0, none⟩ (.int .u16 er)).setCell ⟨F, 0, none⟩ (.int .i64 at_)).drew := ⟨_, rfl⟩
  have HE5 : Hid (One W5 E 28 (.int .u16 er)) := Lib.hid (by rw [hW5]; exact ((HE4.out.set_ _).far (p := ⟨F, 0, none⟩) hEF _))
  have HF5 : Hid (One W5 F 3 (.int .i64 at_)) := Lib.hid (by rw [hW5]; exact ((HF4.out.far (p := ⟨E, 0, none⟩) hEF.symm _).set_ _))
  have HZ5 : Hid (LocZ W5 S (.slice none 0 0) (.slice none 0 0) (.slice none 0 0) (.slice none 0 0)) := Lib.hid (by rw [hW5]; exact (Below.heap_setCell _ ⟨F, 0, none⟩ _ S hFS.symm).trans ((Below.heap_setCell _ ⟨E, 0, none⟩ _ S hES.symm).trans HZ4.out))
  have HB5 : Hid (Below S w W5) := Lib.hid (by rw [hW5]; exact below_drew ((HB4.out.setCell (p := ⟨E, 0, none⟩) (by have := HEF.out; show S ≤ E; omega) _).setCell (p := ⟨F, 0, none⟩) (by have := HEF.out; show S ≤ F; omega) _))
  rw [← hW5]
  clear hW5 hS5 hS4 hS3 hS2 x0 x1
  obtain ⟨z0, z1, z2, z3⟩ := HZ5.out.cells
  have z4 := HE5.out.cell
  have z5 := HF5.out.cell
  go_wp2
  have hfin : ParseTold w (noL, er, at_) (.returned (.tuple #[.agg #[.slice none 0 0, .slice none 0 0, .slice none 0 0, .slice none 0 0], .int .u16 er, .int .i64 at_])) W5 := ⟨_, _, _, _, w.heap.size, rfl, Nat.le_refl _, HB5.out.size, LocAt.nil _ _, by rw [HSS.out]; exact HB5.out⟩
  simp [bodyPostD, Leaves, results, Tryz.results9, go_sem, z0, z1, z2, z3, z4, z5]
  exact hfin
 ·subst he0
  have hat := lex_at hlx.symm
  subst hat
  obtain ⟨hTok, hEnd, hLen⟩ := lex_ok hlx.symm
  have hp : parseL s.data.toList = match readL ts with
   | .ok l => (l, 0, 0)
   | .error e => (noL, e.1, e.2) := by
   unfold parseL
   rw [← hlx]
   rfl
  rw [hp]
  obtain ⟨X, hX⟩ : ∃ X, X = readL ts := ⟨_, rfl⟩
  rw [← hX]
  have HX := Lib.hid hX
  clear hX
  have HTK := Lib.hid (And.intro hTok (And.intro hEnd hLen))
  clear hp hlx herr hTok hEnd hLen
  go_enter_defers Tryz.func9, Tryz.ntmps9
  go_wp2_with fail
  change Calls _ _ _ (parW w) _
  refine hto.mono ?_
  rintro e w1 ⟨A, n, c, rfl, hnc, hcm, hti, hb1⟩
  obtain ⟨n0, n1, n2⟩ := HN0.out
  have m0 : LocZ w1 w.heap.size _ _ _ _ := (hb1.block _ n0.lt).trans n0
  have m1 : One w1 (w.heap.size + 1) _ _ := (hb1.block _ n1.lt).trans n1
  have m2 : One w1 (w.heap.size + 1 + 1) _ _ := (hb1.block _ n2.lt).trans n2
  have HM0 := Lib.hid m0
  have HM1 := Lib.hid m1
  have HM2 := Lib.hid m2
  have HB1 : Hid (Below w.heap.size w w1) := Lib.hid (HB0.out.trans (hb1.mono HB0.out.size))
  have HTI := Lib.hid hti
  have HSZ : Hid (w.heap.size + 1 + 1 < w1.heap.size) := Lib.hid m2.lt
  have c1 := m1.cell
  have c2 := m2.cell
  have f1 : w1.frozen? ⟨w.heap.size + 1, 0, none⟩ = false := m1.frozen 0
  have f2 : w1.frozen? ⟨w.heap.size + 1 + 1, 0, none⟩ = false := m2.frozen 0
  clear hti hb1 m0 m1 m2 hto n0 n1 n2
  obtain ⟨S, hS⟩ : ∃ S, w.heap.size = S := ⟨_, rfl⟩
  rw [hS] at HM0 HM1 HM2 HB1 HSZ c1 c2 f1 f2 ⊢
  have HSS := Lib.hid hS
  have HSL : Hid (∀ W : World, Below S w W → S ≤ W.heap.size) := Lib.hid fun W h => by rw [← hS]; exact h.size
  clear hS
  obtain ⟨F, hF⟩ : ∃ F, F = S + 1 + 1 := ⟨_, rfl⟩
  rw [← hF] at HM2 HSZ c2 f2 ⊢
  obtain ⟨E, hE⟩ : ∃ E, E = S + 1 := ⟨_, rfl⟩
  rw [← hE] at HM1 c1 f1 ⊢
  have hES : E ≠ S := by omega
  have hFS : F ≠ S := by omega
  have hEF : E ≠ F := by omega
  have HEF := Lib.hid (And.intro hE hF)
  clear hE hF
  obtain ⟨W2, hW2⟩ : ∃ W2, W2 = (w1.setCell ⟨E, 0, none⟩ (.int .u16 0)).setCell ⟨F, 0, none⟩ (.int .i64 0) := ⟨_, rfl⟩
  have hb2 : Below w1.heap.size w1 W2 := by
   rw [hW2]
   have h1 := set_same HM1.out
   have h2 : One (w1.setCell ⟨E, 0, none⟩ (.int .u16 0)) F _ _ := HM2.out.far (p := ⟨E, 0, none⟩) hEF.symm _
   have h3 := set_same h2
   exact h1.trans (h3.mono (by simp [World.setCell]))
  have hsz2 : W2.heap.size = w1.heap.size := by rw [hW2]; simp [World.setCell]
  obtain ⟨W3, hW3⟩ : ∃ W3, W3 = (W2.alloc (.map #[] 0)).alloc (.cells #[.slice A n c, .int .i64 0, .slice none 0 0, .slice none 0 0, .slice none 0 0, .slice none 0 0, .map (some w1.heap.size)] 64) := ⟨_, rfl⟩
  have hb3 : Below w1.heap.size w1 W3 := by rw [hW3]; exact (hb2.alloc hb2.size _).alloc (by simp [hsz2]) _
  have hmap : MapIs W3 w1.heap.size .string [] := by
   rw [hW3]
   have := MapIs.new W2 .string
   rw [hsz2] at this
   exact this.at_ (heap_lt _ _ (by simp [hsz2]))
  have hcu : CU W3 (w1.heap.size + 1) ⟨A, n, c, ts⟩ 0 (.slice none 0 0) (.slice none 0 0) (.slice none 0 0) (.slice none 0 0) (.map (some w1.heap.size)) := by
   refine ⟨?_, ((HTI.out.on hb3 (Nat.le_refl _)).more (Nat.le_succ _)), ?_, Nat.zero_le _⟩
   ·rw [hW3]
    have := heap_alloc_new (W2.alloc (.map #[] 0)) (.cells #[.slice A n c, .int .i64 0, .slice none 0 0, .slice none 0 0, .slice none 0 0, .slice none 0 0, .map (some w1.heap.size)] 64)
    rw [World.size_alloc, hsz2] at this
    exact this
   ·have := HTI.out.len
    have := HTK.out.2.2
    show n ≤ 1001
    omega
  have hrd := read_new W3 ⟨A, n, c, ts⟩ w1.heap.size (w1.heap.size + 1) w1.heap.size hcu hmap (fun t ht => (HTK.out.1 t ht).1) (fun t ht => (HTK.out.1 t ht).2) HTK.out.2.1 (Nat.le_succ _) (Nat.le_refl _)
  have HB3 : Hid (Below S w W3) := Lib.hid (HB1.out.trans (hb3.mono (HSL.out _ HB1.out)))
  have HLZ : Hid (LocZ W3 S (.slice none 0 0) (.slice none 0 0) (.slice none 0 0) (.slice none 0 0) ∧ One W3 E 28 (.int .u16 0) ∧ One W3 F 3 (.int .i64 0)) := Lib.hid ⟨(hb3.block _ HM0.out.lt).trans HM0.out, (hb3.block _ HM1.out.lt).trans HM1.out, (hb3.block _ HM2.out.lt).trans HM2.out⟩
  have hs3 : W3.heap.size = w1.heap.size + 1 + 1 := by rw [hW3]; simp [hsz2]
  have HS3 := Lib.hid hs3
  have d1 : ((w1.setCell ⟨E, 0, none⟩ (.int .u16 0)).setCell ⟨F, 0, none⟩ (.int .i64 0)).cell? ⟨E, 0, none⟩ = some (.int .u16 0) := by
   have : One ((w1.setCell ⟨E, 0, none⟩ (.int .u16 0)).setCell ⟨F, 0, none⟩ (.int .i64 0)) E _ _ := (HM1.out.set_ _).far (p := ⟨F, 0, none⟩) hEF _
   exact this.cell
  rw [hW2] at hW3
  clear hb2 hb3 hmap hcu hs3 hsz2 hW2
  rw [← HX.out] at hrd
  go_wp2_with fail
  rw [← hW3]
  clear hW3 c1 c2 f1 f2 d1
  refine hrd.mono ?_
  intro e w4 h4
  clear hrd
  cases X with
  | error er =>
   obtain ⟨rfl, hf4⟩ := h4
   have hk : ∀ j, j < w1.heap.size → w4.heap[j]? = W3.heap[j]? := fun j hj => hf4.block j (by have := HS3.out; omega) (by show ¬ w1.heap.size ≤ j; omega)
   have hE4 : ErrAt w4 E F := ⟨(hk E (by have := HSZ.out; have := HEF.out; omega)).trans HLZ.out.2.1, (hk F (by have := HSZ.out; omega)).trans HLZ.out.2.2, hEF⟩
   have hZ4 : LocZ w4 S (.slice none 0 0) (.slice none 0 0) (.slice none 0 0) (.slice none 0 0) := (hk S (by have := HSZ.out; have := HEF.out; omega)).trans HLZ.out.1
   have HB4 : Hid (Below S w w4) := Lib.hid (HB3.out.trans ⟨hf4.os, hf4.tape, hf4.output, hf4.size, fun i hi => hk i (by have := HSZ.out; have := HEF.out; omega)⟩)
   clear hf4 hk
   unfold faultV
   go_wp2
   refine leaves_cons (f := 19) (args := #[.pointer (some ⟨E, 0, none⟩), .pointer (some ⟨F, 0, none⟩)]) (by simp) (by simp [go_sem]) ?_
   refine (pcatch_of _ _ _ [] er.1 er.2 hE4).mono ?_
   rintro e u' w5 ⟨rfl, rfl, w6, hb6, rfl⟩
   have g0 : LocZ w6 S _ _ _ _ := (hb6.block _ hZ4.lt).trans hZ4
   have g1 : One w6 E _ _ := (hb6.block _ (Array.getElem?_eq_some_iff.1 hE4.1).1).trans hE4.1
   have g2 : One w6 F _ _ := (hb6.block _ (Array.getElem?_eq_some_iff.1 hE4.2.1).1).trans hE4.2.1
   obtain ⟨W7, hW7⟩ : ∃ W7, W7 = (w6.setCell ⟨E, 0, none⟩ (.int .u16 er.1)).setCell ⟨F, 0, none⟩ (.int .i64 er.2) := ⟨_, rfl⟩
   have y1 : One W7 E 28 (.int .u16 er.1) := by rw [hW7]; exact (g1.set_ _).far (p := ⟨F, 0, none⟩) hEF _
   have y2 : One W7 F 3 (.int .i64 er.2) := by rw [hW7]; exact (g2.far (p := ⟨E, 0, none⟩) hEF.symm _).set_ _
   have y0 : LocZ W7 S (.slice none 0 0) (.slice none 0 0) (.slice none 0 0) (.slice none 0 0) := by rw [hW7]; exact (Below.heap_setCell _ ⟨F, 0, none⟩ _ S hFS.symm).trans ((Below.heap_setCell _ ⟨E, 0, none⟩ _ S hES.symm).trans g0)
   have hB7 : Below S w W7 := by
    rw [hW7]
    exact ((HB4.out.trans (hb6.mono (HSL.out _ HB4.out))).setCell (p := ⟨E, 0, none⟩) (by have := HEF.out; show S ≤ E; omega) _).setCell (p := ⟨F, 0, none⟩) (by have := HEF.out; show S ≤ F; omega) _
   obtain ⟨z0, z1, z2, z3⟩ := y0.cells
   have z4 := y1.cell
   have z5 := y2.cell
   have hfin : ParseTold w (noL, er.1, er.2) (.returned (.tuple #[.agg #[.slice none 0 0, .slice none 0 0, .slice none 0 0, .slice none 0 0], .int .u16 er.1, .int .i64 er.2])) W7 := ⟨_, _, _, _, w.heap.size, rfl, Nat.le_refl _, hB7.size, LocAt.nil _ _, by rw [HSS.out]; exact hB7⟩
   rw [← hW7]
   simp [Leaves, settle, results, Tryz.results9, go_sem, z0, z1, z2, z3, z4, z5]
   exact hfin
  | ok l =>
   obtain ⟨k, v1, v2, v3, v4, rfl, hc4, hl4, hf4⟩ := h4
   obtain ⟨q1, g1, p1, hv1⟩ : ∃ q g p, v1 = .slice q g p := by obtain ⟨a, b, h⟩ := hl4.1.form; exact ⟨a, _, b, h⟩
   obtain ⟨q2, g2, p2, hv2⟩ : ∃ q g p, v2 = .slice q g p := by obtain ⟨a, b, h⟩ := row_form hl4.2.1; exact ⟨a, _, b, h⟩
   obtain ⟨q3, g3, p3, hv3⟩ : ∃ q g p, v3 = .slice q g p := by obtain ⟨a, b, h⟩ := row_form hl4.2.2.1; exact ⟨a, _, b, h⟩
   obtain ⟨q4, g4, p4, hv4⟩ : ∃ q g p, v4 = .slice q g p := by obtain ⟨a, b, h⟩ := hl4.2.2.2.form; exact ⟨a, _, b, h⟩
   have hk : ∀ j, j < w1.heap.size → w4.heap[j]? = W3.heap[j]? := fun j hj => hf4.block j (by have := HS3.out; omega) (by show ¬ w1.heap.size ≤ j; omega)
   have e1 : One w4 E 28 (.int .u16 0) := (hk E (by have := HSZ.out; have := HEF.out; omega)).trans HLZ.out.2.1
   have e2 : One w4 F 3 (.int .i64 0) := (hk F (by have := HSZ.out; omega)).trans HLZ.out.2.2
   have e0 : LocZ w4 S (.slice none 0 0) (.slice none 0 0) (.slice none 0 0) (.slice none 0 0) := (hk S (by have := HSZ.out; have := HEF.out; omega)).trans HLZ.out.1
   have HB4 : Hid (Below S w w4) := Lib.hid (HB3.out.trans ⟨hf4.os, hf4.tape, hf4.output, hf4.size, fun i hi => hk i (by have := HSZ.out; have := HEF.out; omega)⟩)
   obtain ⟨W5, hW5⟩ : ∃ W5, W5 = (((((w4.setCell ⟨S, 0, none⟩ v1).setCell ⟨S, 1, none⟩ v2).setCell ⟨S, 2, none⟩ v3).setCell ⟨S, 3, none⟩ v4).setCell ⟨E, 0, none⟩ (.int .u16 0)).setCell ⟨F, 0, none⟩ (.int .i64 0) := ⟨_, rfl⟩
   have HE5 : Hid (One W5 E 28 (.int .u16 0)) := Lib.hid (by rw [hW5]; exact ((e1.far4 hES _ _ _ _).set_ _).far (p := ⟨F, 0, none⟩) hEF _)
   have HF5 : Hid (One W5 F 3 (.int .i64 0)) := Lib.hid (by rw [hW5]; exact ((e2.far4 hFS _ _ _ _).far (p := ⟨E, 0, none⟩) hEF.symm _).set_ _)
   have HZ5 : Hid (LocZ W5 S v1 v2 v3 v4) := Lib.hid (by rw [hW5]; exact (Below.heap_setCell _ ⟨F, 0, none⟩ _ S hFS.symm).trans ((Below.heap_setCell _ ⟨E, 0, none⟩ _ S hES.symm).trans (setLoc e0 _ _ _ _)))
   have hfr : Fr w4 W5 (fun j => j = S ∨ j = E ∨ j = F) := by
    rw [hW5]
    exact ((((((Fr.of_below (Below.refl _ w4)).set ⟨S, 0, none⟩ _ (fun _ => .inl rfl)).set ⟨S, 1, none⟩ _ (fun _ => .inl rfl)).set ⟨S, 2, none⟩ _ (fun _ => .inl rfl)).set ⟨S, 3, none⟩ _ (fun _ => .inl rfl)).set ⟨E, 0, none⟩ _ (fun _ => .inr (.inl rfl))).set ⟨F, 0, none⟩ _ (fun _ => .inr (.inr rfl))
   have hty : ∀ g c z t, (g = S ∨ g = E ∨ g = F) → w4.heap[g]? = some (.cells c t z) → t = 26 ∨ t = 28 ∨ t = 3 := by
    rintro g c z t (rfl | rfl | rfl) hg
    ·have := hg.symm.trans e0
     simp at this
     exact .inl this.2.1
    ·have := hg.symm.trans e1
     simp at this
     exact .inr (.inl this.2.1)
    ·have := hg.symm.trans e2
     simp at this
     exact .inr (.inr this.2.1)
   have HL5 : Hid (LocAt W5 W3.heap.size v1 v2 v3 v4 l) := Lib.hid ⟨hl4.1.fr hfr (fun g c z t hx hg => by rcases hty g c z t hx hg with e | e | e <;> subst e <;> decide), ownsRow_fr hl4.2.1 hfr (fun g hg hx => by
    obtain ⟨c, hc⟩ := ownsRow_ty hl4.2.1 hg
    rcases hty g c _ _ hx hc with e | e | e <;> exact absurd e (by decide)), ownsRow_fr hl4.2.2.1 hfr (fun g hg hx => by
    obtain ⟨c, hc⟩ := ownsRow_ty hl4.2.2.1 hg
    rcases hty g c _ _ hx hc with e | e | e <;> exact absurd e (by decide)), hl4.2.2.2.fr hfr (fun g c z t hx hg => by rcases hty g c z t hx hg with e | e | e <;> subst e <;> decide)⟩
   have HB5 : Hid (Below S w W5) := Lib.hid (HB4.out.trans (hfr.below (by
    rintro j _ (rfl | rfl | rfl)
    ·exact Nat.le_refl _
    ·have := HEF.out; omega
    ·have := HEF.out; omega) (HSL.out _ HB4.out)))
   have HS5 : Hid (W3.heap.size ≤ W5.heap.size) := Lib.hid (Nat.le_trans hf4.size hfr.size)
   obtain ⟨r1, r2, r3, r4, r5⟩ := hc4.more
   obtain ⟨z0, z1, z2, z3⟩ := e0.cells
   have y0 := e0.frozen 0
   have y1 := e0.frozen 1
   have y2 := e0.frozen 2
   have y3 := e0.frozen 3
   have x1 := (e1.far4 hES v1 v2 v3 v4).cell
   have x2 := (e1.far4 hES v1 v2 v3 v4).frozen 0
   have x3 := ((e2.far4 hFS v1 v2 v3 v4).far (p := ⟨E, 0, none⟩) hEF.symm (.int .u16 0)).cell
   have x4 := ((e2.far4 hFS v1 v2 v3 v4).far (p := ⟨E, 0, none⟩) hEF.symm (.int .u16 0)).frozen 0
   clear hk e0 e1 e2 hfr hty hl4 hf4 hc4
   subst hv1 hv2 hv3 hv4
   go_wp2
   refine leaves_cons (f := 19) (args := #[.pointer (some ⟨E, 0, none⟩), .pointer (some ⟨F, 0, none⟩)]) (by simp) (by simp [go_sem]) ?_
   refine (pcatch_idle _ _ _).mono ?_
   rintro e u' w5 ⟨rfl, rfl, rfl⟩
   rw [← hW5]
   obtain ⟨z0, z1, z2, z3⟩ := HZ5.out.cells
   have z4 := HE5.out.cell
   have z5 := HF5.out.cell
   have hfin : ParseTold w (l, 0, 0) (.returned (.tuple #[.agg #[.slice q1 g1 p1, .slice q2 g2 p2, .slice q3 g3 p3, .slice q4 g4 p4], .int .u16 0, .int .i64 0])) W5 := ⟨_, _, _, _, W3.heap.size, rfl, HB3.out.size, HS5.out, HL5.out, by rw [HSS.out]; exact HB5.out⟩
   simp [Leaves, settle, results, Tryz.results9, go_sem, z0, z1, z2, z3, z4, z5]
   exact hfin
end Go.Proofs.YthaibekbefndlaaGreatDoor.C

namespace Go.Proofs.YthaibekbefndlaaGreatDoor.C
open Go.RowKit

set_option maxRecDepth 100000 in
set_option maxHeartbeats 1000000 in
theorem isScalar_any (c : Int) (w : World) : Calls Tryz.prog 63 #[.int .i32 c] w fun e w' => e = .returned (.bool (scalB c)) ∧ w' = w := by
 have hr := right_any c
 by_cases h0 : 0 ≤ c
 ·have hs : scalB c = rightB c := by unfold scalB; simp [h0]
  have HS := Lib.hid hs
  clear hs
  go_enter Tryz.func63, Tryz.ntmps63
  go_wp2_with (go_at_call 108; refine (hr _).mono ?_; rintro e w2 ⟨rfl, rfl⟩)
  go_ret
  exact ⟨by rw [HS.out]; rfl, rfl⟩
 ·have hs : scalB c = false := by unfold scalB; simp [h0]
  have HS := Lib.hid hs
  clear hs hr
  go_enter Tryz.func63, Tryz.ntmps63
  go_wp2
  go_ret
  exact ⟨by rw [HS.out]; rfl, rfl⟩

theorem contains_any (b : Nat) (x : UInt8) (v : Bool) (w : World) (hc : w.cell? ⟨b, x.toNat, none⟩ = some (.bool v)) :
  Calls Tryz.prog 187 #[.pointer (some ⟨b, 0, none⟩), .int .u8 x.toNat] w fun e w' => e = .returned (.bool v) ∧ w' = w := Any.asciiSet_contains Tryz.lays228 b x v w hc
theorem makeSet_any (chars : ByteArray) (w : World) (hs : chars.size < 4294967281) (hascii : ∀ (j : Nat) b, chars.data.toList[j]? = some b → b.toNat < 128) :
  Calls Tryz.prog 152 #[.string chars] w fun e w' => e = .returned (.tuple #[.agg (Lib.setCells chars.data.toList), .bool true]) ∧ w' = w.alloc (.cells (Lib.setCells chars.data.toList) 186) := Any.strings_makeASCIISet Tryz.lays227 (fun _ => by kernel_rfl) (by kernel_rfl) chars w hs hascii
def SetAt (w : World) (b : Nat) (cs : List UInt8) : Prop := ∀ x : UInt8, w.cell? ⟨b, x.toNat, none⟩ = some (.bool (cs.contains x))
theorem list_split {z : ByteArray} {m : Nat} (h : z.size = m + 1) : ∃ x : UInt8, z.data.toList = z.data.toList.take m ++ [x] ∧ z[m]'(by omega) = x := by
 have hm : m < z.data.toList.length := by rw [← Lib.size_eq]; omega
 refine ⟨z[m]'(by omega), ?_, rfl⟩
 have h1 := Lib.data_getElem? z m (by omega)
 have h2 := List.take_append_drop m z.data.toList
 rw [List.drop_eq_getElem?_toList_append, h1, List.drop_eq_nil_of_le (by rw [← Lib.size_eq]; omega)] at h2
 exact h2.symm
theorem list_front {z : ByteArray} {m : Nat} (h : z.size = m + 1) : ∃ x : UInt8, z.data.toList = x :: z.data.toList.drop 1 ∧ z[0]'(by omega) = x := by
 have hm : 0 < z.data.toList.length := by rw [← Lib.size_eq]; omega
 refine ⟨z[0]'(by omega), ?_, rfl⟩
 have h1 := Lib.data_getElem? z 0 (by omega)
 have h2 := List.drop_eq_getElem?_toList_append (l := z.data.toList) (i := 0)
 rw [List.drop_zero, h1] at h2
 exact h2
def AllIn (cs : List UInt8) (z : ByteArray) : Bool := z.data.toList.all cs.contains
theorem allIn_nil {cs : List UInt8} {z : ByteArray} (h : z.size = 0) : AllIn cs z = true := by
 have : z.data.toList = [] := List.eq_nil_of_length_eq_zero (by rw [← Lib.size_eq]; exact h)
 unfold AllIn
 rw [this]
 rfl
def TrimTold (s : ByteArray) (cs : List UInt8) (w : World) (e : Ending) (w' : World) : Prop := (∃ z : ByteArray, e = .returned (.string z) ∧ z.size ≤ s.size ∧ ((AllIn cs s = true ∧ z.size = 0) ∨ (AllIn cs s = false ∧ AllIn cs z = false))) ∧ w' = w

set_option maxRecDepth 100000 in
set_option maxHeartbeats 2000000 in
theorem trimRight_any (s : ByteArray) (w : World) (b : Nat) (cs : List UInt8) (hs : s.size ≤ 9223372036854775807) (hc : SetAt w b cs) :
  Calls Tryz.prog 154 #[.string s, .pointer (some ⟨b, 0, none⟩)] w (TrimTold s cs w) := by
 have HC := Lib.hid hc
 clear hc
 go_enter Tryz.func154, Tryz.ntmps154
 go_wp2
 go_loopg [0] s.size (fun g s0 wx => ∃ z : ByteArray, s0 = .string z ∧ z.size = g ∧ z.size ≤ s.size ∧ wx = w ∧ Hid (AllIn cs s = AllIn cs z))
 case atStart => exact ⟨s, rfl, rfl, Nat.le_refl _, rfl, Lib.hid rfl⟩
 case round =>
  obtain ⟨z, rfl, hg, hle, rfl, HA⟩ := hrel
  cases gk with
  | zero =>
   have hz0 : ¬ (0 : Int) < (z.size : Int) := by omega
   go_wp2
   go_ret
   exact ⟨⟨z, rfl, hle, .inl ⟨HA.out.trans (allIn_nil hg), hg⟩⟩, rfl⟩
  | succ m =>
   obtain ⟨x, hx, hxi⟩ := list_split hg
   have hz0 : (0 : Int) < (z.size : Int) := by omega
   have hzm : (z.size : Int) - 1 = (m : Int) := by omega
   have hmz : m < z.size := by omega
   have hmi : (m : Int) < (z.size : Int) := by omega
   have hm0 : (0 : Int) ≤ (m : Int) := by omega
   have hml : (m : Int) ≤ (z.size : Int) := by omega
   have HX := Lib.hid hx
   have hcx := contains_any b x _ wr (HC.out x)
   cases hin : cs.contains x with
   | false =>
    rw [hin] at hcx
    have HIN := Lib.hid hin
    clear hx hin
    go_wp2_with (go_at_call 187; refine hcx.mono ?_; rintro e w' ⟨rfl, rfl⟩)
    go_ret
    have hf : AllIn cs z = false := by
     unfold AllIn
     rw [HX.out, List.all_append]
     simp only [List.all_cons, List.all_nil, Bool.and_true]
     rw [HIN.out, Bool.and_false]
    exact ⟨⟨z, rfl, hle, .inr ⟨HA.out.trans hf, hf⟩⟩, rfl⟩
   | true =>
    rw [hin] at hcx
    have HIN := Lib.hid hin
    have hez : (z.extract 0 m).data.toList = z.data.toList.take m := by rw [Lib.extract_data]; simp
    have hes : (z.extract 0 m).size = m := by rw [Lib.size_eq, hez, List.length_take, ← Lib.size_eq]; omega
    have hA2 : AllIn cs z = AllIn cs (z.extract 0 m) := by
     unfold AllIn
     rw [hez]
     conv => lhs; rw [HX.out, List.all_append]
     simp only [List.all_cons, List.all_nil, Bool.and_true]
     rw [HIN.out, Bool.and_true]
    have HA2 := Lib.hid hA2
    have HES := Lib.hid hes
    clear hx hin hez hes hA2
    go_wp2_with (go_at_call 187; refine hcx.mono ?_; rintro e w' ⟨rfl, rfl⟩)
    go_roundg m
    case measure => omega
    case rel => exact ⟨z.extract 0 m, by rfl, HES.out, by have := HES.out; omega, rfl, Lib.hid (HA.out.trans HA2.out)⟩

set_option maxRecDepth 100000 in
set_option maxHeartbeats 2000000 in
theorem trimLeft_any (s : ByteArray) (w : World) (b : Nat) (cs : List UInt8) (hc : SetAt w b cs) :
  Calls Tryz.prog 153 #[.string s, .pointer (some ⟨b, 0, none⟩)] w (TrimTold s cs w) := by
 have HC := Lib.hid hc
 clear hc
 go_enter Tryz.func153, Tryz.ntmps153
 go_wp2
 go_loopg [0] s.size (fun g s0 wx => ∃ z : ByteArray, s0 = .string z ∧ z.size = g ∧ z.size ≤ s.size ∧ wx = w ∧ Hid (AllIn cs s = AllIn cs z))
 case atStart => exact ⟨s, rfl, rfl, Nat.le_refl _, rfl, Lib.hid rfl⟩
 case round =>
  obtain ⟨z, rfl, hg, hle, rfl, HA⟩ := hrel
  cases gk with
  | zero =>
   have hz0 : ¬ (0 : Int) < (z.size : Int) := by omega
   go_wp2
   go_ret
   exact ⟨⟨z, rfl, hle, .inl ⟨HA.out.trans (allIn_nil hg), hg⟩⟩, rfl⟩
  | succ m =>
   obtain ⟨x, hx, hxi⟩ := list_front hg
   have hz0 : (0 : Int) < (z.size : Int) := by omega
   have hmz : 0 < z.size := by omega
   have hml : (1 : Int) ≤ (z.size : Int) := by omega
   have HX := Lib.hid hx
   have hcx := contains_any b x _ wr (HC.out x)
   cases hin : cs.contains x with
   | false =>
    rw [hin] at hcx
    have HIN := Lib.hid hin
    clear hx hin
    go_wp2_with (go_at_call 187; refine hcx.mono ?_; rintro e w' ⟨rfl, rfl⟩)
    go_ret
    have hf : AllIn cs z = false := by
     unfold AllIn
     rw [HX.out, List.all_cons, HIN.out, Bool.false_and]
    exact ⟨⟨z, rfl, hle, .inr ⟨HA.out.trans hf, hf⟩⟩, rfl⟩
   | true =>
    rw [hin] at hcx
    have HIN := Lib.hid hin
    have hez : (z.extract 1 z.size).data.toList = z.data.toList.drop 1 := Lib.extract_to_end z 1
    have hes : (z.extract 1 z.size).size = m := by rw [Lib.size_eq, hez, List.length_drop, ← Lib.size_eq]; omega
    have hA2 : AllIn cs z = AllIn cs (z.extract 1 z.size) := by
     unfold AllIn
     rw [hez]
     conv => lhs; rw [HX.out, List.all_cons, HIN.out, Bool.true_and]
    have HA2 := Lib.hid hA2
    have HES := Lib.hid hes
    clear hx hin hez hes hA2
    go_wp2_with (go_at_call 187; refine hcx.mono ?_; rintro e w' ⟨rfl, rfl⟩)
    go_roundg m
    case measure => omega
    case rel => exact ⟨z.extract 1 z.size, by rw [hg], HES.out, by have := HES.out; omega, rfl, Lib.hid (HA.out.trans HA2.out)⟩

def TrimmedTold (s : ByteArray) (cs : List UInt8) (w : World) (e : Ending) (w' : World) : Prop := (∃ z : ByteArray, e = .returned (.string z) ∧ (z.size == 0) = AllIn cs s) ∧ Below w.heap.size w w'
theorem isEmpty_size (z : ByteArray) : z.toList.isEmpty = (z.size == 0) := by
 rw [Lib.toList_data]
 have := Lib.size_eq z
 cases h : z.data.toList with
 | nil => rw [h] at this; simp at this; simp [this]
 | cons a r => rw [h] at this; simp at this; simp [this]
set_option maxRecDepth 100000 in
set_option maxHeartbeats 4000000 in
theorem trim_any (s cut : ByteArray) (w : World) (hs : s.size ≤ 9223372036854775807) (h2 : 2 ≤ cut.size) (hcs : cut.size < 4294967281) (hascii : ∀ (j : Nat) b, cut.data.toList[j]? = some b → b.toNat < 128) :
  Calls Tryz.prog 102 #[.string s, .string cut] w (TrimmedTold s cut.data.toList w) := by
 have hM := makeSet_any cut w hcs hascii
 have hemp : cut.toList.isEmpty = false := by
  rw [isEmpty_size]
  exact beq_eq_false_iff_ne.2 (by omega)
 have hn1 : ((cut.size : Int) == 1) = false := beq_eq_false_iff_ne.2 (by omega)
 clear hascii
 by_cases h0 : s.size = 0
 ·have hse : s.toList.isEmpty = true := by rw [isEmpty_size, h0]; rfl
  have HE : Hid ((s.size == 0) = AllIn cut.data.toList s) := Lib.hid (by rw [allIn_nil h0, h0]; rfl)
  clear hM h0
  go_enter Tryz.func102, Tryz.ntmps102
  go_wp2
  go_ret
  exact ⟨⟨s, rfl, HE.out⟩, Below.refl _ _⟩
 have hse : s.toList.isEmpty = false := by rw [isEmpty_size]; exact beq_eq_false_iff_ne.2 h0
 have hsz := Lib.setCells_size cut.data.toList
 obtain ⟨cs, hcs2⟩ : ∃ cs, cs = cut.data.toList := ⟨_, rfl⟩
 rw [← hcs2] at hM hsz ⊢
 clear hcs2
 have hsc : (storeCells ⟨w.heap.size + 1, 0, none⟩ (Lib.setCells cs).toList 0).run Tryz.prog ((w.alloc (.cells (Lib.setCells cs) 186)).alloc (.cells (Array.replicate 256 (.bool false)) 186)) = .ok () ((w.alloc (.cells (Lib.setCells cs) 186)).alloc (.cells (Lib.setCells cs) 186)) := by
  have := run_storeCells_new (P := Tryz.prog) (w.alloc (.cells (Lib.setCells cs) 186)) 186 (Array.replicate 256 (.bool false)) (Lib.setCells cs) (by rw [hsz]; kernel_rfl) (by rw [hsz, Array.size_replicate]) (Lib.setCells_one _)
  simpa using this
 have hcellAt : SetAt ((w.alloc (.cells (Lib.setCells cs) 186)).alloc (.cells (Lib.setCells cs) 186)) (w.heap.size + 1) cs := fun x => by
  rw [World.cell?_alloc_at _ _ _ _ (by simp), Lib.setCells_at]
 have HC := Lib.hid hcellAt
 have hzv : ∀ W, (zeroValue 186).run Tryz.prog W = .ok (.agg (Array.replicate 256 (.bool false))) W := fun _ => by kernel_rfl
 clear hcellAt h0
 go_enter Tryz.func102, Tryz.ntmps102
 go_wp2_with fail
 refine hM.mono ?_
 rintro e w' ⟨rfl, rfl⟩
 go_wp2_with fail
 refine (trimRight_any s _ (w.heap.size + 1) cs hs HC.out).mono ?_
 rintro e w1 ⟨⟨z, rfl, hz, hca⟩, rfl⟩
 have HCA := Lib.hid hca
 clear hca
 go_wp2_with fail
 refine (trimLeft_any z _ (w.heap.size + 1) cs HC.out).mono ?_
 rintro e w1 ⟨⟨y, rfl, hy, hcb⟩, rfl⟩
 have HY : Hid ((y.size == 0) = AllIn cs s) := Lib.hid (by
  rcases HCA.out with ⟨a1, a2⟩ | ⟨a1, a2⟩
  ·rw [a1]
   rcases hcb with ⟨_, b2⟩ | ⟨b1, _⟩
   ·rw [b2]; rfl
   ·rw [allIn_nil a2] at b1; cases b1
  ·rw [a1]
   rcases hcb with ⟨b1, _⟩ | ⟨_, b2⟩
   ·rw [a2] at b1; cases b1
   ·refine beq_eq_false_iff_ne.2 (fun h => ?_)
    rw [allIn_nil h] at b2
    cases b2)
 clear hcb hsc
 go_wp2
 go_ret
 exact ⟨⟨y, rfl, HY.out⟩, ((Below.refl _ _).alloc (Nat.le_refl _) _).alloc (by simp) _⟩
end Go.Proofs.YthaibekbefndlaaGreatDoor.C

namespace Go.Proofs.YthaibekbefndlaaGreatDoor.C
open Go.RowKit

set_option maxRecDepth 100000 in
set_option maxHeartbeats 1000000 in
theorem isOf_any (cut s : ByteArray) (w : World) (r : Bool) (hr : (!(s.size == 0) && AllIn cut.data.toList s) = r) (hs : s.size ≤ 9223372036854775807) (h2 : 2 ≤ cut.size) (hcs : cut.size < 4294967281) (hascii : ∀ (j : Nat) b, cut.data.toList[j]? = some b → b.toNat < 128) :
  Calls Tryz.prog 57 #[.string cut, .string s] w fun e w' => e = .returned (.bool r) ∧ Below w.heap.size w w' := by
 have ht := trim_any s cut w hs h2 hcs hascii
 unfold TrimmedTold at ht
 by_cases h0 : s.size = 0
 ·have hse : s.toList.isEmpty = true := by rw [isEmpty_size, h0]; rfl
  have hrf : r = false := by rw [← hr, h0]; rfl
  subst hrf
  clear ht hr h0
  go_enter Tryz.func57, Tryz.ntmps57
  go_wp2
  go_ret
  exact ⟨rfl, Below.refl _ _⟩
 have hse : s.toList.isEmpty = false := by rw [isEmpty_size]; exact beq_eq_false_iff_ne.2 h0
 have hr2 : AllIn cut.data.toList s = r := by rw [← hr, beq_eq_false_iff_ne.2 h0]; rfl
 rw [hr2] at ht
 clear hr hr2 h0 hascii
 go_enter Tryz.func57, Tryz.ntmps57
 go_wp2_with fail
 refine ht.mono ?_
 rintro e w1 ⟨⟨z, rfl, hz⟩, hb⟩
 have hze : z.toList.isEmpty = r := by rw [isEmpty_size, hz]
 have HB := Lib.hid hb
 clear hz hb ht
 go_wp2
 go_ret
 exact ⟨rfl, HB.out⟩
def wSigns : ByteArray := ⟨#[97, 98, 99, 100, 101, 102, 103, 104, 105, 106, 107, 108, 109, 110, 111, 112, 113, 114, 115, 116, 117, 118, 119, 120, 121, 122, 65, 66, 67, 68, 69, 70, 71, 72, 73, 74, 75, 76, 77, 78, 79, 80, 81, 82, 83, 84, 85, 86, 87, 88, 89, 90, 48, 49, 50, 51, 52, 53, 54, 55, 56, 57, 45, 95]⟩
def hSigns : ByteArray := ⟨#[48, 49, 50, 51, 52, 53, 54, 55, 56, 57, 97, 98, 99, 100, 101, 102, 65, 66, 67, 68, 69, 70]⟩
theorem w_signs : ∀ b : UInt8, wSigns.data.toList.contains b = isW b := by
 have : ∀ n : Fin 256, wSigns.data.toList.contains (UInt8.ofNat n.val) = isW (UInt8.ofNat n.val) := by decide +kernel
 intro b
 have h := this ⟨b.toNat, UInt8.toNat_lt b⟩
 simpa using h
theorem h_signs : ∀ b : UInt8, hSigns.data.toList.contains b = (digV b).isSome := by
 have : ∀ n : Fin 256, hSigns.data.toList.contains (UInt8.ofNat n.val) = (digV (UInt8.ofNat n.val)).isSome := by decide +kernel
 intro b
 have h := this ⟨b.toNat, UInt8.toNat_lt b⟩
 simpa using h
theorem w_ascii : ∀ (j : Nat) b, wSigns.data.toList[j]? = some b → b.toNat < 128 := by
 intro j b hb
 have := List.mem_of_getElem? hb
 revert this
 exact (show ∀ b ∈ wSigns.data.toList, b.toNat < 128 by decide) b
theorem h_ascii : ∀ (j : Nat) b, hSigns.data.toList[j]? = some b → b.toNat < 128 := by
 intro j b hb
 have := List.mem_of_getElem? hb
 revert this
 exact (show ∀ b ∈ hSigns.data.toList, b.toNat < 128 by decide) b
theorem all_eq {α : Type} {p q : α → Bool} (h : ∀ x, p x = q x) (l : List α) : l.all p = l.all q := by rw [show p = q from funext h]
theorem isEmpty_list (s : ByteArray) : (s.size == 0) = s.data.toList.isEmpty := by rw [← isEmpty_size, Lib.toList_data]
theorem isWord_any (s : ByteArray) (w : World) (hs : s.size ≤ 9223372036854775807) : Calls Tryz.prog 57 #[.string ⟨#[97, 98, 99, 100, 101, 102, 103, 104, 105, 106, 107, 108, 109, 110, 111, 112, 113, 114, 115, 116, 117, 118, 119, 120, 121, 122, 65, 66, 67, 68, 69, 70, 71, 72, 73, 74, 75, 76, 77, 78, 79, 80, 81, 82, 83, 84, 85, 86, 87, 88, 89, 90, 48, 49, 50, 51, 52, 53, 54, 55, 56, 57, 45, 95]⟩, .string s] w fun e w' => e = .returned (.bool (wordlyB s.data.toList)) ∧ Below w.heap.size w w' :=
 isOf_any wSigns s w _ (by unfold wordlyB AllIn; rw [isEmpty_list, all_eq w_signs]) hs (by decide) (by decide) w_ascii
theorem isHex_any (s : ByteArray) (w : World) (hs : s.size ≤ 9223372036854775807) : Calls Tryz.prog 57 #[.string ⟨#[48, 49, 50, 51, 52, 53, 54, 55, 56, 57, 97, 98, 99, 100, 101, 102, 65, 66, 67, 68, 69, 70]⟩, .string s] w fun e w' => e = .returned (.bool (!s.data.toList.isEmpty && s.data.toList.all fun b => (digV b).isSome)) ∧ Below w.heap.size w w' :=
 isOf_any hSigns s w _ (by unfold AllIn; rw [isEmpty_list, all_eq h_signs]) hs (by decide) (by decide) h_ascii
theorem hexN_all : ∀ (d : List UInt8) (n : Nat), (hexN d n).isSome = d.all fun b => (digV b).isSome
 | [], n => rfl
 | b :: r, n => by
  unfold hexN
  cases h : digV b with
  | none => simp [h]
  | some v =>
   simp only [List.all_cons, h, Option.isSome_some, Bool.true_and]
   exact hexN_all r _

set_option maxRecDepth 100000 in
set_option maxHeartbeats 2000000 in
theorem isRange_any (w : World) (r : Int × Int) : Calls Tryz.prog 59 #[.agg #[.int .i32 r.1, .int .i32 r.2]] w fun e w' => e = .returned (.bool (rangeB r)) ∧ Below w.heap.size w w' := by
 obtain ⟨a, b⟩ := r
 obtain ⟨W, hW⟩ : ∃ W, W = w.alloc (.cells #[.int .i32 a, .int .i32 b] 51) := ⟨_, rfl⟩
 have hb : Below w.heap.size w W := by rw [hW]; exact (Below.refl _ _).alloc (Nat.le_refl _) _
 have HB := Lib.hid hb
 have h1 := fun W => isScalar_any a W
 have h2 := fun W => isScalar_any b W
 have hr : rangeB (a, b) = (scalB a && scalB b && decide (a ≤ b)) := rfl
 rw [hr]
 clear hr hb
 have hal : ∀ W, Calls Tryz.prog 63 #[.int .i32 a] W fun e w' => e = .returned (.bool (scalB a)) ∧ w' = W := h1
 cases ha : scalB a with
 | false =>
  rw [ha] at h1
  clear h2
  go_enter Tryz.func59, Tryz.ntmps59
  go_wp2_with (go_at_call 63; refine (h1 _).mono ?_; rintro e w' ⟨rfl, rfl⟩)
  go_ret
  rw [← hW]
  exact ⟨rfl, HB.out⟩
 | true =>
  rw [ha] at h1
  cases hb2 : scalB b with
  | false =>
   rw [hb2] at h2
   clear ha hb2 hal
   go_enter Tryz.func59, Tryz.ntmps59
   go_wp2_with (first
    | (go_at_call 63; with_reducible refine (h1 _).mono ?_; rintro e w' ⟨rfl, rfl⟩)
    | (go_at_call 63; with_reducible refine (h2 _).mono ?_; rintro e w' ⟨rfl, rfl⟩))
   go_ret
   rw [← hW]
   exact ⟨rfl, HB.out⟩
  | true =>
   rw [hb2] at h2
   clear ha hb2 hal
   go_enter Tryz.func59, Tryz.ntmps59
   go_wp2_with (first
    | (go_at_call 63; with_reducible refine (h1 _).mono ?_; rintro e w' ⟨rfl, rfl⟩)
    | (go_at_call 63; with_reducible refine (h2 _).mono ?_; rintro e w' ⟨rfl, rfl⟩))
   go_ret
   rw [← hW]
   exact ⟨rfl, HB.out⟩
end Go.Proofs.YthaibekbefndlaaGreatDoor.C

namespace Go.Proofs.YthaibekbefndlaaGreatDoor.C
open Go.RowKit

def prRow (r : Int × Int) : List Value := [.int .i32 r.1, .int .i32 r.2]
def PrsR (w : World) (B : Nat) (v : Value) (l : List (Int × Int)) : Prop := ∃ A c, v = .slice A l.length c ∧ SI 2 w B A l.length (l.map prRow)
def ClsR (w : World) (B : Nat) (v : Value) (cs : List Cls) : Prop := ∃ A c xs, v = .slice A cs.length c ∧ SI 2 w B A cs.length xs ∧ ∀ (i : Nat) (k : Cls), cs[i]? = some k → ∃ u, xs[i]? = some [.string (str k.name), u] ∧ PrsR w B u k.rs ∧ k.name.length ≤ maxLen ∧ k.rs.length ≤ maxLen
def OrdR (w : World) (B : Nat) (v : Value) (o : List Elm) : Prop := ∃ A c xs, v = .slice A o.length c ∧ SI 3 w B A o.length xs ∧ ∀ (i : Nat) (e : Elm), o[i]? = some e → ∃ Ac cc, xs[i]? = some [.string (str e.name), .slice Ac e.cells.length cc, .int .i64 e.same] ∧ RI .i32 w B Ac e.cells.length e.cells ∧ e.name.length ≤ maxLen ∧ e.cells.length ≤ maxLen
section
variable {w w' : World} {B : Nat} {v : Value}
theorem PrsR.keep {l : List (Int × Int)} (h : PrsR w B v l) (hk : ∀ p : Addr, p.block < B → w'.cell? p = w.cell? p) : PrsR w' B v l := by
 obtain ⟨A, c, e, h1⟩ := h
 exact ⟨A, c, e, h1.keep hk⟩
theorem ClsR.keep {l : List Cls} (h : ClsR w B v l) (hk : ∀ p : Addr, p.block < B → w'.cell? p = w.cell? p) : ClsR w' B v l := by
 obtain ⟨A, c, xs, e, h1, h2⟩ := h
 refine ⟨A, c, xs, e, h1.keep hk, fun i k hi => ?_⟩
 obtain ⟨u, a1, a2, a3⟩ := h2 i k hi
 exact ⟨u, a1, a2.keep hk, a3⟩
theorem OrdR.keep {l : List Elm} (h : OrdR w B v l) (hk : ∀ p : Addr, p.block < B → w'.cell? p = w.cell? p) : OrdR w' B v l := by
 obtain ⟨A, c, xs, e, h1, h2⟩ := h
 refine ⟨A, c, xs, e, h1.keep hk, fun i k hi => ?_⟩
 obtain ⟨a, b, a1, a2, a3⟩ := h2 i k hi
 exact ⟨a, b, a1, a2.keep hk, a3⟩
theorem PrsR.on {l : List (Int × Int)} {B' : Nat} (h : PrsR w B v l) (hb : Below B' w w') (hB : B ≤ B') : PrsR w' B v l := h.keep fun p hp => hb.cell (p := p) (by omega)
theorem ClsR.on {l : List Cls} {B' : Nat} (h : ClsR w B v l) (hb : Below B' w w') (hB : B ≤ B') : ClsR w' B v l := h.keep fun p hp => hb.cell (p := p) (by omega)
theorem OrdR.on {l : List Elm} {B' : Nat} (h : OrdR w B v l) (hb : Below B' w w') (hB : B ≤ B') : OrdR w' B v l := h.keep fun p hp => hb.cell (p := p) (by omega)
end
theorem prRow_at {l : List (Int × Int)} {k : Nat} {u v : Value} (h : (l.map prRow)[k]? = some [u, v]) : ∃ r, l[k]? = some r ∧ u = .int .i32 r.1 ∧ v = .int .i32 r.2 := by
 rw [List.getElem?_map] at h
 cases hl : l[k]? with
 | none => rw [hl] at h; cases h
 | some r =>
  rw [hl] at h
  simp [prRow] at h
  exact ⟨r, rfl, h.1.symm, h.2.symm⟩
theorem range_all_true {n : Nat} {f : Nat → Bool} (h : ∀ j, j < n → (!f j) = false) : (List.range n).all f = true := List.all_eq_true.2 fun j hj => by have := h j (List.mem_range.1 hj); simpa using this
theorem range_all_false {n k : Nat} {f : Nat → Bool} (hk : k < n) (h : (!f k) = true) : (List.range n).all f = false := by
 rw [List.all_eq_false]
 exact ⟨k, List.mem_range.2 hk, by simpa using h⟩
def atB {α : Type} (p : α → Bool) (l : List α) (j : Nat) : Bool := match l[j]? with
 | some x => p x
 | none => true
theorem atB_some {α : Type} {p : α → Bool} {l : List α} {j : Nat} {x : α} (h : l[j]? = some x) : atB p l j = p x := by unfold atB; rw [h]
theorem all_range_list {α : Type} (l : List α) (p : α → Bool) : (List.range l.length).all (atB p l) = l.all p := by
 rw [Bool.eq_iff_iff, List.all_eq_true, List.all_eq_true]
 constructor
 ·intro h x hx
  obtain ⟨j, hj, rfl⟩ := List.mem_iff_getElem.1 hx
  have := h j (List.mem_range.2 hj)
  rwa [atB_some (List.getElem?_eq_getElem hj)] at this
 ·intro h j hj
  have hj := List.mem_range.1 hj
  rw [atB_some (List.getElem?_eq_getElem hj)]
  exact h _ (List.getElem_mem hj)
set_option maxRecDepth 100000 in
set_option maxHeartbeats 2000000 in
theorem allRange1_any (W : World) (V0 : Nat) (r : Int × Int) (h : One W V0 117 (.func (.func 59) #[] #[])) :
  Calls Tryz.prog 104 #[.agg #[.int .i32 r.1, .int .i32 r.2], .pointer (some ⟨V0, 0, none⟩)] W fun e w' => e = .returned (.bool (!rangeB r)) ∧ Below W.heap.size W w' := by
 have hi := isRange_any (W.alloc (.cells #[.int .i32 r.1, .int .i32 r.2] 51)) r
 have q0 := (h.alloc (.cells #[.int .i32 r.1, .int .i32 r.2] 51)).cell
 clear h
 obtain ⟨a, b⟩ := r
 go_enter Tryz.func104, Tryz.ntmps104
 go_wp2_with fail
 refine hi.mono ?_
 rintro e w1 ⟨rfl, hb⟩
 have HB := Lib.hid hb
 clear hi hb
 go_wp2
 go_ret
 exact ⟨rfl, ((Below.refl _ _).alloc (Nat.le_refl _) _).trans (HB.out.mono (by simp))⟩
set_option maxRecDepth 100000 in
set_option maxHeartbeats 2000000 in
theorem allRange_any (w : World) (B : Nat) (v : Value) (rs : List (Int × Int)) (h : PrsR w B v rs) (hB : B ≤ w.heap.size) (hn : rs.length ≤ maxLen) :
  Calls Tryz.prog 58 #[v, .func (.func 59) #[] #[]] w fun e w' => e = .returned (.bool (rs.all rangeB)) ∧ Below w.heap.size w w' := by
 obtain ⟨A, c, rfl, hsi⟩ := h
 obtain ⟨W, hW⟩ : ∃ W, W = w.alloc (.cells #[.func (.func 59) #[] #[]] 117) := ⟨_, rfl⟩
 have hb : Below w.heap.size w W := by rw [hW]; exact (Below.refl _ _).alloc (Nat.le_refl _) _
 have hone : One W w.heap.size 117 (.func (.func 59) #[] #[]) := by rw [hW]; exact heap_alloc_new w _
 have hmf : ∀ (fn : Fn) (first cap : Array Value) (w : World), (Instr.makeFunc fn first cap).run Tryz.prog w = .ok (.func fn first cap) w := fun _ _ _ _ => rfl
 have hf := hasRange_any W B A rs.length c (rs.map prRow) w.heap.size (fun j => !atB rangeB rs j) (fun _ w' => Below W.heap.size W w') (fun _ w' => Below W.heap.size W w') hn (Below.refl _ _)
  (fun k w' hw => (hsi.on hb hB).on hw (by have := hb.size; omega))
  (fun k u v w' hx hw => by
   obtain ⟨r, hr, rfl, rfl⟩ := prRow_at hx
   refine (allRange1_any w' w.heap.size r ((hw.block _ hone.lt).trans hone)).mono ?_
   rintro e w2 ⟨rfl, hb2⟩
   have hw2 : Below W.heap.size W w2 := hw.trans ⟨hb2.os, hb2.tape, hb2.output, hb2.size, fun i hi => hb2.block i (by have := hw.size; omega)⟩
   simp only [atB_some hr]
   exact ⟨rfl, fun _ => hw2, fun _ => hw2⟩)
 have HB := Lib.hid hb
 have hbb : ∀ w2, Below W.heap.size W w2 → Below w.heap.size w w2 := fun w2 h2 => HB.out.trans ⟨h2.os, h2.tape, h2.output, h2.size, fun i hi => h2.block i (by have := HB.out.size; omega)⟩
 clear hsi hb hone
 go_enter Tryz.func58, Tryz.ntmps58
 go_wp2_with fail
 rw [← hW]
 refine hf.mono ?_
 rintro e w2 (⟨j, hj, hq, -, rfl, hb2⟩ | ⟨hq, rfl, hb2⟩)
 ·have hp : rs.all rangeB = false := by rw [← all_range_list]; exact range_all_false hj hq
  clear hq hf
  go_wp2
  go_ret
  rw [hp]
  exact ⟨rfl, hbb _ hb2⟩
 ·have hp : rs.all rangeB = true := by rw [← all_range_list]; exact range_all_true hq
  clear hq hf
  go_wp2
  go_ret
  rw [hp]
  exact ⟨rfl, hbb _ hb2⟩
end Go.Proofs.YthaibekbefndlaaGreatDoor.C

namespace Go.Proofs.YthaibekbefndlaaGreatDoor.C
open Go.RowKit

def strV (ks : List (List UInt8)) : List Value := ks.map fun n => .string (str n)
theorem strV_in {ks : List (List UInt8)} {n : List UInt8} : Value.string (str n) ∈ strV ks ↔ n ∈ ks := by
 unfold strV
 rw [List.mem_map]
 constructor
 ·rintro ⟨c, hc, he⟩
  injection he with he
  exact str_inj he ▸ hc
 ·intro h
  exact ⟨n, h, rfl⟩
theorem strV_snoc (ks : List (List UInt8)) (n : List UInt8) : strV ks ++ [.string (str n)] = strV (ks ++ [n]) := by simp [strV]
def clsOk (ks : List (List UInt8)) (k : Cls) : Bool := wordlyB k.name && !(ks.contains k.name) && !k.rs.isEmpty && k.rs.all rangeB
theorem clsOk_at {cs : List Cls} {i : Nat} {k : Cls} (h : cs[i]? = some k) : clsAt cs i = clsOk ((cs.take i).map Cls.name) k := by
 unfold clsAt clsOk
 rw [h]
def RcTold (W : World) (A M : Nat) (ks : List (List UInt8)) (k : Cls) (e : Ending) (w' : World) : Prop := e = .returned (.bool (clsOk ks k)) ∧ (clsOk ks k = true → FT w' 151 .string A M (strV (ks ++ [k.name]))) ∧ Fr W w' (fun j => j = M)
set_option maxRecDepth 100000 in
set_option maxHeartbeats 4000000 in
theorem rightClasses1_any (W : World) (B T3 A M : Nat) (ks : List (List UInt8)) (k : Cls) (u : Value) (h3 : One W T3 110 (FnS A)) (hft : FT W 151 .string A M (strV ks)) (hu : PrsR W B u k.rs) (hB : B ≤ W.heap.size) (hBM : B ≤ M) (hn : k.name.length ≤ maxLen) (hr : k.rs.length ≤ maxLen) :
  Calls Tryz.prog 56 #[.agg #[.string (str k.name), u], .pointer (some ⟨T3, 0, none⟩)] W (RcTold W A M ks k) := by
 obtain ⟨nm, rs⟩ := k
 simp only at hn hr hu
 have hu0 := hu
 obtain ⟨Ar, cr, rfl, -⟩ := hu
 obtain ⟨W1, hW1⟩ : ∃ W1, W1 = W.alloc (.cells #[.string (str nm), .slice Ar rs.length cr] 47) := ⟨_, rfl⟩
 have hb1 : Below W.heap.size W W1 := by rw [hW1]; exact (Below.refl _ _).alloc (Nat.le_refl _) _
 have HB1 := Lib.hid hb1
 have HX1 : Hid (Two W1 W.heap.size 47 (.string (str nm)) (.slice Ar rs.length cr)) := Lib.hid (by rw [hW1]; exact Two.new W _ _ _)
 have hw := isWord_any (str nm) W1 (by rw [str_size]; unfold maxLen at hn; omega)
 rw [str_list] at hw
 have HU := Lib.hid hu0
 have H3 := Lib.hid h3
 have HFT := Lib.hid hft
 clear hb1 hu0 h3 hft
 cases hwd : wordlyB nm with
 | false =>
  rw [hwd] at hw
  have hok : clsOk ks ⟨nm, rs⟩ = false := by simp [clsOk, hwd]
  unfold RcTold
  rw [hok]
  clear hwd hok
  go_enter Tryz.func56, Tryz.ntmps56
  go_wp2_with fail
  rw [← hW1]
  refine hw.mono ?_
  rintro e w2 ⟨rfl, hb2⟩
  have HF : Hid (Fr W w2 (fun j => j = M)) := Lib.hid ((Fr.of_below HB1.out).trans (.of_below hb2))
  clear hb2 hw
  go_wp2
  go_ret
  exact ⟨rfl, by simp, HF.out⟩
 | true =>
  rw [hwd] at hw
  by_cases hin : nm ∈ ks
  ·have hok : clsOk ks ⟨nm, rs⟩ = false := by simp [clsOk, hin]
   unfold RcTold
   rw [hok]
   have hno := fun W' hf => isNewS_no W' A M (strV ks) (str nm) hf (strV_in.2 hin)
   have HNO := Lib.hid hno
   clear hwd hok hin hno
   go_enter Tryz.func56, Tryz.ntmps56
   go_wp2_with fail
   rw [← hW1]
   refine hw.mono ?_
   rintro e w2 ⟨rfl, hb2⟩
   have hbW : Below W.heap.size W w2 := HB1.out.trans (hb2.mono HB1.out.size)
   have q1 := (show One w2 T3 _ _ from (hbW.block _ H3.out.lt).trans H3.out).cell
   obtain ⟨q2, q3⟩ := (show Two w2 W.heap.size _ _ _ from (hb2.block _ HX1.out.lt).trans HX1.out).cells
   unfold FnS at q1
   have HN2 := Lib.hid (HNO.out w2 (HFT.out.next (hbW.block _ HFT.out.lt) (hbW.block _ HFT.out.2.lt)))
   have HBW := Lib.hid hbW
   clear hb2 hbW hw
   go_wp2_with (go_at_call 99; refine HN2.out.mono ?_; rintro e w3 ⟨rfl, hg3⟩; (have HG3 := Lib.hid hg3); clear hg3)
   go_ret
   exact ⟨rfl, by simp, (Fr.of_below HBW.out).trans ((Fr.of_grown HG3.out).mono (fun j _ e => by injection e with e; exact e.symm))⟩
  ·have hyes := fun W' hf => isNewS_yes W' A M (strV ks) (str nm) hf (fun h => hin (strV_in.1 h))
   have HYES := Lib.hid hyes
   clear hyes
   by_cases hrs : rs = []
   ·have hok : clsOk ks ⟨nm, rs⟩ = false := by simp [clsOk, hrs]
    unfold RcTold
    rw [hok]
    have hl0 : ¬ (0 : Int) < (rs.length : Int) := by rw [hrs]; simp
    clear hwd hok hin hrs
    go_enter Tryz.func56, Tryz.ntmps56
    go_wp2_with fail
    rw [← hW1]
    refine hw.mono ?_
    rintro e w2 ⟨rfl, hb2⟩
    have hbW : Below W.heap.size W w2 := HB1.out.trans (hb2.mono HB1.out.size)
    have q1 := (show One w2 T3 _ _ from (hbW.block _ H3.out.lt).trans H3.out).cell
    have hX2 : Two w2 W.heap.size _ _ _ := (hb2.block _ HX1.out.lt).trans HX1.out
    obtain ⟨q2, q3⟩ := hX2.cells
    have HX2 := Lib.hid hX2
    unfold FnS at q1
    have hft2 := HFT.out.next (hbW.block _ HFT.out.lt) (hbW.block _ HFT.out.2.lt)
    have HFT2 := Lib.hid hft2
    have HN2 := Lib.hid (HYES.out w2 hft2)
    have HBW := Lib.hid hbW
    clear hb2 hbW hw hft2 hX2
    go_wp2_with (go_at_call 99; refine HN2.out.mono ?_; rintro e w3 ⟨rfl, hf3, hg3⟩; (have HX3 := Lib.hid (HX2.out.kept hg3 (fun e => by have := HFT2.out.2.lt; injection e with e; (obtain ⟨es, q, h1, _⟩ := HFT2.out.2); (have e2 := HX2.out.symm.trans (e ▸ h1)); simp at e2))); (have q4 := HX3.out.cells.2); (have HG3 := Lib.hid hg3); clear hg3 hf3)
    go_ret
    exact ⟨rfl, by simp, (Fr.of_below HBW.out).trans ((Fr.of_grown HG3.out).mono (fun j _ e => by injection e with e; exact e.symm))⟩
   ·have hok : clsOk ks ⟨nm, rs⟩ = rs.all rangeB := by
     cases rs with
     | nil => exact absurd rfl hrs
     | cons a r => simp [clsOk, hin, hwd]
    unfold RcTold
    rw [hok]
    have hl0 : (0 : Int) < (rs.length : Int) := by
     cases rs with
     | nil => exact absurd rfl hrs
     | cons a r => simp
    have HRL := Lib.hid hr
    clear hwd hok hin hrs
    go_enter Tryz.func56, Tryz.ntmps56
    go_wp2_with fail
    rw [← hW1]
    refine hw.mono ?_
    rintro e w2 ⟨rfl, hb2⟩
    have hbW : Below W.heap.size W w2 := HB1.out.trans (hb2.mono HB1.out.size)
    have q1 := (show One w2 T3 _ _ from (hbW.block _ H3.out.lt).trans H3.out).cell
    have hX2 : Two w2 W.heap.size _ _ _ := (hb2.block _ HX1.out.lt).trans HX1.out
    obtain ⟨q2, q3⟩ := hX2.cells
    have HX2 := Lib.hid hX2
    unfold FnS at q1
    have hft2 := HFT.out.next (hbW.block _ HFT.out.lt) (hbW.block _ HFT.out.2.lt)
    have HFT2 := Lib.hid hft2
    have HN2 := Lib.hid (HYES.out w2 hft2)
    have HBW := Lib.hid hbW
    clear hb2 hbW hw hft2 hX2 hr
    go_wp2_with fail
    refine HN2.out.mono ?_
    rintro e w3 ⟨rfl, hf3, hg3⟩
    have hX3 : Two w3 W.heap.size _ _ _ := HX2.out.kept hg3 (fun e => by
     injection e with e
     obtain ⟨es, q, h1, _⟩ := HFT2.out.2
     have e2 := HX2.out.symm.trans (e ▸ h1)
     simp at e2)
    obtain ⟨q4, q5⟩ := hX3.cells
    have hs2 := HBW.out.size
    have hu3 : PrsR w3 B (.slice Ar rs.length cr) rs := (HU.out.on HBW.out hB).keep (fun p hp => World.cell?_of_block (hg3.block p.block (by omega) (fun e => by injection e with e; omega)))
    have har := allRange_any w3 B (.slice Ar rs.length cr) rs hu3 (by have := hg3.size; omega) HRL.out
    have HF3 := Lib.hid hf3
    have HG3 := Lib.hid hg3
    clear hX3 hf3 hg3 hu3 q2 q3 HX2
    go_wp2_with fail
    refine har.mono ?_
    rintro e w4 ⟨rfl, hb4⟩
    have HB4 := Lib.hid hb4
    clear hb4 har
    go_wp2
    go_ret
    refine ⟨rfl, fun _ => ?_, ((Fr.of_below HBW.out).trans ((Fr.of_grown HG3.out).mono (fun j _ e => by injection e with e; exact e.symm))).trans (.of_below HB4.out)⟩
    rw [← strV_snoc]
    exact HF3.out.next (HB4.out.block _ HF3.out.lt) (HB4.out.block _ HF3.out.2.lt)
end Go.Proofs.YthaibekbefndlaaGreatDoor.C
