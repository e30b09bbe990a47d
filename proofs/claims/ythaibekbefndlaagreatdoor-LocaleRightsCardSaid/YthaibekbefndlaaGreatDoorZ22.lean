/-
  Joined: LdP, LdR, LeM, LeO. Each with what its own head says.
-/
import Derived.Test.YthaibekbefndlaaGreatDoorZ21
import Derived.Test.YthaibekbefndlaaGreatDoorZ20

namespace Go.Proofs.YthaibekbefndlaaGreatDoor.C
open Go.RowKit

theorem lsIs_all {q q' : Pl} {l : List (Value × Value)} (h : LsP ⟨true, true, true, true, true, true, true, true, true⟩ q l) (e1 : q'.f1 = q.f1) (e2 : q'.f2 = q.f2) (e3 : q'.f3 = q.f3) (e4 : q'.f4 = q.f4) (e5 : q'.f5 = q.f5) : LsIs q' l := by
 intro k v
 rw [h k v, e1, e2, e3, e4, e5]
 simp
theorem read_new (w : World) (T : TV) (B R Md : Nat) (hc : CU w R T 0 (.slice none 0 0) (.slice none 0 0) (.slice none 0 0) (.slice none 0 0) (.map (some Md))) (hM : MapIs w Md .string []) (hN : NumOk T) (hXT : TxtOk T) (hT : Rest T.ts) (hLO : LnsAsk T) (hB1 : B ≤ R) (hB2 : B ≤ Md) :
  Calls Tryz.prog 21 #[.pointer (some ⟨R, 0, none⟩)] w (ReaTold T B R Md w (readL T.ts)) := by
 have hR := hc.lt
 have hMd := hM.lt
 refine read_lines w T B R Md hN hXT hT hLO ((lines_any w R).mono ?_)
 rintro e w' ⟨q, hqR, he, hL⟩
 obtain ⟨_, g1, l, hl, hp⟩ := hL.hm rfl
 obtain ⟨_, g2, g3, n1⟩ := hL.h1 rfl
 obtain ⟨_, g4, g5, n2, n3⟩ := hL.h2 rfl
 obtain ⟨_, g6, g7, n4, n5, n6⟩ := hL.h3 rfl
 have hs := hL.bel.size
 refine ⟨{ q with B := B, lo := w.heap.size, Md := Md }, hqR, rfl, rfl, rfl, ⟨?_, ?_, ?_, ?_, ?_, ?_, ?_, ?_, n1 rfl, n2 rfl, n4 rfl, n3, n5, n6, ?_, hB2⟩, he, ?_, .of_below hL.bel⟩
 ·show q.R < w.heap.size
  omega
 ·show q.R < q.M1
  omega
 ·show q.R < q.M2
  omega
 ·show q.R < q.M3
  omega
 ·show Md ≠ q.M1
  omega
 ·show Md ≠ q.M2
  omega
 ·show Md ≠ q.M3
  omega
 ·show q.ML ≠ Md
  omega
 ·show B ≤ q.R
  omega
 subst hqR
 exact ⟨hc.next hL.bel, ClsAt.nil _ _, World.ownsRow_nil _ _ _ _, World.ownsRow_nil _ _ _ _, OrdAt.nil _ _, ⟨[], rfl, hM.at_ (hL.bel.block _ hMd), by simp⟩, g2.2.2, g4.2.2.2, g6.2.2.2, g2.1, g2.2.1, g4.1, g4.2.1, g4.2.2.1, g6.1, g6.2.1, g6.2.2.1, ⟨l, hl, lsIs_all hp rfl rfl rfl rfl rfl⟩, by simp [Value.ownBlock], Nat.zero_le _, Nat.zero_le _, Nat.zero_le _, Nat.zero_le _, hs⟩
end Go.Proofs.YthaibekbefndlaaGreatDoor.C

namespace Go.Proofs.YthaibekbefndlaaGreatDoor.C
open Go.RowKit

theorem set_same {w : World} {E : Nat} {t : TypeId} {v : Value} (h : One w E t v) : Below w.heap.size w (w.setCell ⟨E, 0, none⟩ v) := by
 refine ⟨rfl, rfl, rfl, by simp [World.setCell], fun i hi => ?_⟩
 by_cases he : i = E
 ·subst he
  exact (set_row (i := 0) (l := [v]) h v).trans (by simpa using h.symm)
 ·exact Below.heap_setCell w ⟨E, 0, none⟩ v i he
theorem One.set_ {w : World} {b : Nat} {t : TypeId} {v : Value} (h : One w b t v) (u : Value) : One (w.setCell ⟨b, 0, none⟩ u) b t u := set_row (i := 0) (l := [v]) h u
theorem One.frozen {w : World} {b : Nat} {t : TypeId} {v : Value} (h : One w b t v) (i : Nat) : w.frozen? ⟨b, i, none⟩ = false := by simp [World.frozen?, show w.heap[b]? = _ from h]
theorem One.far4 {w : World} {b c : Nat} {t : TypeId} {v : Value} (h : One w b t v) (hb : b ≠ c) (x0 x1 x2 x3 : Value) : One ((((w.setCell ⟨c, 0, none⟩ x0).setCell ⟨c, 1, none⟩ x1).setCell ⟨c, 2, none⟩ x2).setCell ⟨c, 3, none⟩ x3) b t v :=
 (((h.far (p := ⟨c, 0, none⟩) hb x0).far (p := ⟨c, 1, none⟩) hb x1).far (p := ⟨c, 2, none⟩) hb x2).far (p := ⟨c, 3, none⟩) hb x3
theorem row_form {w : World} {lo n sz : Nat} {v : Value} {xs : List Value} {e : TypeId} (h : w.ownsRow lo e sz v n xs) : ∃ A c, v = .slice A n c := by
 rcases Joins.ownsRow_forms h with ⟨rfl, h0⟩ | ⟨g, c, rfl⟩
 ·exact ⟨none, 0, by rw [h0]⟩
 ·exact ⟨_, _, rfl⟩
theorem ClsAt.form {w : World} {lo : Nat} {v : Value} {cs : List Cls} (h : ClsAt w lo v cs) : ∃ A c, v = .slice A cs.length c := by
 obtain ⟨vs, _, h2, _⟩ := h
 exact row_form h2
def ParseTold (w : World) (r : Loc × Nat × Nat) (e : Ending) (w' : World) : Prop :=
 ∃ v1 v2 v3 v4 lo, e = .returned (.tuple #[.agg #[v1, v2, v3, v4], .int .u16 r.2.1, .int .i64 r.2.2]) ∧ w.heap.size ≤ lo ∧ lo ≤ w'.heap.size ∧ LocAt w' lo v1 v2 v3 v4 r.1 ∧ Below w.heap.size w w'
theorem lex_at {t : List UInt8} {ts : List Tok} {a : Nat} (h : lexL t = (ts, 0, a)) : a = 0 := by
 unfold lexL at h
 by_cases h4 : 4000 < t.length
 ·rw [if_pos h4] at h
  cases h
 ·rw [if_neg h4] at h
  cases hr : runL t 0 [] with
  | inr k => rw [hr] at h; cases h
  | inl us =>
   rw [hr] at h
   simp only at h
   by_cases hb : 1000 < us.length
   ·rw [if_pos hb] at h
    cases h
   ·rw [if_neg hb] at h
    simp at h
    exact h.2.symm
theorem lex_er {t : List UInt8} {ts : List Tok} {er a : Nat} (h : lexL t = (ts, er, a)) : er = 0 ∨ er = 3 ∨ er = 20 := by
 unfold lexL at h
 by_cases h4 : 4000 < t.length
 ·rw [if_pos h4] at h
  simp at h; omega
 ·rw [if_neg h4] at h
  cases hr : runL t 0 [] with
  | inr k => rw [hr] at h; simp at h; omega
  | inl us =>
   rw [hr] at h
   simp only at h
   by_cases hb : 1000 < us.length
   ·rw [if_pos hb] at h
    simp at h; omega
   ·rw [if_neg hb] at h
    simp at h; omega
def parW (w : World) : World := ((w.alloc (.cells #[.slice none 0 0, .slice none 0 0, .slice none 0 0, .slice none 0 0] 26)).alloc (.cells #[.int .u16 0] 28)).alloc (.cells #[.int .i64 0] 3)
theorem parW_below (w : World) : Below w.heap.size w (parW w) := (((Below.refl _ _).alloc (Nat.le_refl _) _).alloc (by simp) _).alloc (by simp; omega) _
theorem parW_size (w : World) : (parW w).heap.size = w.heap.size + 1 + 1 + 1 := by simp [parW]
theorem setLoc {w : World} {b : Nat} {v1 v2 v3 v4 : Value} (h : w.heap[b]? = some (.cells #[v1, v2, v3, v4] 26 (0, 0))) (x0 x1 x2 x3 : Value) : ((((w.setCell ⟨b, 0, none⟩ x0).setCell ⟨b, 1, none⟩ x1).setCell ⟨b, 2, none⟩ x2).setCell ⟨b, 3, none⟩ x3).heap[b]? = some (.cells #[x0, x1, x2, x3] 26 (0, 0)) :=
 set_row (i := 3) (l := [x0, x1, x2, v4]) (set_row (i := 2) (l := [x0, x1, v3, v4]) (set_row (i := 1) (l := [x0, v2, v3, v4]) (set_row (i := 0) (l := [v1, v2, v3, v4]) h x0) x1) x2) x3
def LocZ (w : World) (b : Nat) (v1 v2 v3 v4 : Value) : Prop := w.heap[b]? = some (.cells #[v1, v2, v3, v4] 26 (0, 0))
theorem LocZ.cells {w : World} {b : Nat} {v1 v2 v3 v4 : Value} (h : LocZ w b v1 v2 v3 v4) : w.cell? ⟨b, 0, none⟩ = some v1 ∧ w.cell? ⟨b, 1, none⟩ = some v2 ∧ w.cell? ⟨b, 2, none⟩ = some v3 ∧ w.cell? ⟨b, 3, none⟩ = some v4 := by
 simp [World.cell?, show w.heap[b]? = _ from h]
theorem LocZ.frozen {w : World} {b : Nat} {v1 v2 v3 v4 : Value} (h : LocZ w b v1 v2 v3 v4) (i : Nat) : w.frozen? ⟨b, i, none⟩ = false := by simp [World.frozen?, show w.heap[b]? = _ from h]
theorem LocZ.lt {w : World} {b : Nat} {v1 v2 v3 v4 : Value} (h : LocZ w b v1 v2 v3 v4) : b < w.heap.size := (Array.getElem?_eq_some_iff.1 h).1
theorem parW_new (w : World) : LocZ (parW w) w.heap.size (.slice none 0 0) (.slice none 0 0) (.slice none 0 0) (.slice none 0 0) ∧ One (parW w) (w.heap.size + 1) 28 (.int .u16 0) ∧ One (parW w) (w.heap.size + 1 + 1) 3 (.int .i64 0) := by
 unfold parW
 refine ⟨?_, ?_, ?_⟩
 ·unfold LocZ
  rw [heap_lt _ _ (by simp; omega), heap_lt _ _ (by simp), heap_new]
 ·unfold One
  rw [heap_lt _ _ (by simp)]
  have := heap_new (w.alloc (.cells #[.slice none 0 0, .slice none 0 0, .slice none 0 0, .slice none 0 0] 26)) (.cells #[.int .u16 0] 28)
  simpa using this
 ·unfold One
  have := heap_new ((w.alloc (.cells #[.slice none 0 0, .slice none 0 0, .slice none 0 0, .slice none 0 0] 26)).alloc (.cells #[.int .u16 0] 28)) (.cells #[.int .i64 0] 3)
  simpa using this
set_option maxRecDepth 100000 in
set_option maxHeartbeats 4000000 in
theorem locParse_lines (s : ByteArray) (w : World) (hG : Gl w) (hLO : ∀ (T : TV) (a : Nat), lexL s.data.toList = (T.ts, 0, a) → LnsAsk T) : Calls Tryz.prog 9 #[.string s] w (ParseTold w (parseL s.data.toList)) := by
 have hmf : ∀ (fn : Fn) (first cap : Array Value) (w : World), (Instr.makeFunc fn first cap).run Tryz.prog w = .ok (.func fn first cap) w := fun _ _ _ _ => rfl
 have hmm := @run_makeMap Tryz.prog
 have hto := tokens_any s (parW w) (hG.next (parW_below w))
 obtain ⟨⟨ts, er, at_⟩, hlx⟩ : ∃ y, y = lexL s.data.toList := ⟨_, rfl⟩
 have HLX : Hid (er = 0 → ∀ A n c, LnsAsk ⟨A, n, c, ts⟩) := Lib.hid (fun h A n c => hLO ⟨A, n, c, ts⟩ at_ (by rw [← hlx, h]))
 rw [← hlx] at hto
 unfold TokTold at hto
 simp only at hto
 have HB0 := Lib.hid (parW_below w)
 have HN0 := Lib.hid (parW_new w)
 have HS0 := Lib.hid (parW_size w)
 have herr := lex_er hlx.symm
 clear hG hLO
 by_cases he0 : er = 0
 rotate_left
 ·have hp : parseL s.data.toList = (noL, er, at_) := by
   unfold parseL
   rw [← hlx]
   rcases herr with rfl | rfl | rfl
   ·exact absurd rfl he0
   ·rfl
   ·rfl
  rw [hp]
  have i0 : ¬ (er : Int) = 0 := by omega
  clear hp hlx herr he0
  go_enter_defers Tryz.func9, Tryz.ntmps9
  go_wp2_with fail
  change Calls _ _ _ (parW w) _
  refine hto.mono ?_
  rintro e w1 ⟨A, n, c, rfl, hnc, hcm, hti, hb1⟩
  obtain ⟨n0, n1, n2⟩ := HN0.out
  have m0 : LocZ w1 w.heap.size _ _ _ _ := (hb1.block _ n0.lt).trans n0
  have m1 : One w1 (w.heap.size + 1) _ _ := (hb1.block _ n1.lt).trans n1
  have m2 : One w1 (w.heap.size + 1 + 1) _ _ := (hb1.block _ n2.lt).trans n2
  have HM0 := Lib.hid m0
  have HM1 := Lib.hid m1
  have HM2 := Lib.hid m2
  have HB1 : Hid (Below w.heap.size w w1) := Lib.hid (HB0.out.trans (hb1.mono HB0.out.size))
  have c1 := m1.cell
  have c2 := m2.cell
  have f1 : w1.frozen? ⟨w.heap.size + 1, 0, none⟩ = false := by simp [World.frozen?, show w1.heap[_]? = _ from m1]
  have f2 : w1.frozen? ⟨w.heap.size + 1 + 1, 0, none⟩ = false := by simp [World.frozen?, show w1.heap[_]? = _ from m2]
  clear hti hb1 m0 m1 m2 hto n0 n1 n2
  obtain ⟨S, hS⟩ : ∃ S, w.heap.size = S := ⟨_, rfl⟩
  rw [hS] at HM0 HM1 HM2 HB1 c1 c2 f1 f2 ⊢
  have HSS := Lib.hid hS
  clear hS
  obtain ⟨F, hF⟩ : ∃ F, F = S + 1 + 1 := ⟨_, rfl⟩
  rw [← hF] at HM2 c2 f2 ⊢
  obtain ⟨E, hE⟩ : ∃ E, E = S + 1 := ⟨_, rfl⟩
  rw [← hE] at HM1 c1 f1 ⊢
  have hES : E ≠ S := by omega
  have hFS : F ≠ S := by omega
  have hEF : E ≠ F := by omega
  have HEF := Lib.hid (And.intro hE hF)
  clear hE hF
  obtain ⟨W2, hW2⟩ : ∃ W2, W2 = (w1.setCell ⟨E, 0, none⟩ (.int .u16 er)).setCell ⟨F, 0, none⟩ (.int .i64 at_) := ⟨_, rfl⟩
  have HE2 : Hid (One W2 E 28 (.int .u16 er)) := Lib.hid (by rw [hW2]; exact (HM1.out.set_ _).far (p := ⟨F, 0, none⟩) hEF _)
  have HF2 : Hid (One W2 F 3 (.int .i64 at_)) := Lib.hid (by rw [hW2]; exact (One.far HM2.out (p := ⟨E, 0, none⟩) hEF.symm _).set_ _)
  have HZ2 : Hid (LocZ W2 S (.slice none 0 0) (.slice none 0 0) (.slice none 0 0) (.slice none 0 0)) := Lib.hid (by rw [hW2]; exact (Below.heap_setCell _ ⟨F, 0, none⟩ _ S hFS.symm).trans ((Below.heap_setCell _ ⟨E, 0, none⟩ _ S hES.symm).trans HM0.out))
  have HB2 : Hid (Below S w W2) := Lib.hid (by rw [hW2]; exact (HB1.out.setCell (p := ⟨E, 0, none⟩) (by have := HEF.out; show S ≤ E; omega) _).setCell (p := ⟨F, 0, none⟩) (by have := HEF.out; show S ≤ F; omega) _)
  have d1 : ((w1.setCell ⟨E, 0, none⟩ (.int .u16 er)).setCell ⟨F, 0, none⟩ (.int .i64 at_)).cell? ⟨E, 0, none⟩ = some (.int .u16 er) := by rw [← hW2]; exact HE2.out.cell
  go_wp2
  rw [← hW2]
  clear hW2 c1 c2 f1 f2 d1
  have hS2 := (show (fun W : World => W.cell? ⟨E, 0, none⟩ = some (.int .u16 er) ∧ W.cell? ⟨F, 0, none⟩ = some (.int .i64 at_)) W2.drew from ⟨HE2.out.drew.cell, HF2.out.drew.cell⟩)
  obtain ⟨z0, z1, z2, z3⟩ := HZ2.out.cells
  have y0 := HZ2.out.frozen 0
  have y1 := HZ2.out.frozen 1
  have y2 := HZ2.out.frozen 2
  have y3 := HZ2.out.frozen 3
  refine wp_region_noPanic ?_
  refine wp_region_held (S := fun W : World => W.cell? ⟨E, 0, none⟩ = some (.int .u16 er) ∧ W.cell? ⟨F, 0, none⟩ = some (.int .i64 at_)) (by kernel_rfl) ?_
  change wpAnyH _ _ _ _ _ _ _ _ W2.drew
  iterate 3 (refine wpH rfl rfl ?_; try simp only [Act.put, g1, g2, g3, g4, g5, g6])
  refine wpAnyH_one (i := 3) (by kernel_rfl) rfl (fun K hK => ?_)
  simp only [g4, g5, g6]
  have HE3 := Lib.hid (HE2.out.drew.far4 hES (.slice none 0 0) (.slice none 0 0) (.slice none 0 0) (.slice none 0 0))
  have HF3 := Lib.hid (HF2.out.drew.far4 hFS (.slice none 0 0) (.slice none 0 0) (.slice none 0 0) (.slice none 0 0))
  have HZ3 : Hid (LocZ ((((W2.drew.setCell ⟨S, 0, none⟩ (.slice none 0 0)).setCell ⟨S, 1, none⟩ (.slice none 0 0)).setCell ⟨S, 2, none⟩ (.slice none 0 0)).setCell ⟨S, 3, none⟩ (.slice none 0 0)) S (.slice none 0 0) (.slice none 0 0) (.slice none 0 0) (.slice none 0 0)) := Lib.hid (setLoc HZ2.out _ _ _ _)
  go_simp
  refine hK.out _ _ ⟨HE3.out.cell, HF3.out.cell⟩ (fun hS3 => ?_)
  clear z0 z1 z2 z3 y0 y1 y2 y3
  obtain ⟨W3, hW3⟩ : ∃ W3, W3 = ((((W2.setCell ⟨S, 0, none⟩ (.slice none 0 0)).setCell ⟨S, 1, none⟩ (.slice none 0 0)).setCell ⟨S, 2, none⟩ (.slice none 0 0)).setCell ⟨S, 3, none⟩ (.slice none 0 0)) := ⟨_, rfl⟩
  have HE4 : Hid (One W3 E 28 (.int .u16 er)) := Lib.hid (by rw [hW3]; exact HE3.out)
  have HF4 : Hid (One W3 F 3 (.int .i64 at_)) := Lib.hid (by rw [hW3]; exact HF3.out)
  have HZ4 : Hid (LocZ W3 S (.slice none 0 0) (.slice none 0 0) (.slice none 0 0) (.slice none 0 0)) := Lib.hid (by rw [hW3]; exact HZ3.out)
  have HB4 : Hid (Below S w W3) := Lib.hid (by rw [hW3]; exact (((HB2.out.setCell (p := ⟨S, 0, none⟩) (Nat.le_refl S) _).setCell (p := ⟨S, 1, none⟩) (Nat.le_refl S) _).setCell (p := ⟨S, 2, none⟩) (Nat.le_refl S) _).setCell (p := ⟨S, 3, none⟩) (Nat.le_refl S) _)
  rw [← hW3] at hS3 ⊢
  clear hW3 HE3 HF3 HZ3
  refine wpAnyH_one (i := 4) (by kernel_rfl) rfl (fun K hK => ?_)
  simp only [g4, g5, g6]
  have x0 := HE4.out.cell
  have x1 := HE4.out.frozen 0
  go_simp
  refine hK.out _ _ ⟨(HE4.out.set_ _).cell, (HF4.out.far (p := ⟨E, 0, none⟩) hEF.symm _).cell⟩ (fun hS4 => ?_)
  clear x0 x1
  refine wpAnyH_one (i := 5) (by kernel_rfl) rfl (fun K hK => ?_)
  simp only [g4, g5, g6]
  have x0 := (HF4.out.far (p := ⟨E, 0, none⟩) hEF.symm (.int .u16 er)).cell
  have x1 := (HF4.out.far (p := ⟨E, 0, none⟩) hEF.symm (.int .u16 er)).frozen 0
  go_simp
  refine hK.out _ _ ⟨((HE4.out.set_ _).far (p := ⟨F, 0, none⟩) hEF _).cell, ((HF4.out.far (p := ⟨E, 0, none⟩) hEF.symm _).set_ _).cell⟩ (fun hS5 => ?_)
  refine wpAnyH_done (by kernel_rfl) (NoPanic.normal ?_) _
  obtain ⟨W5, hW5⟩ : ∃ W5, W5 = ((W3.setCell ⟨E, 0, none⟩ (.int .u16 er)).setCell ⟨F, 0, none⟩ (.int .i64 at_)).drew := ⟨_, rfl⟩
  have HE5 : Hid (One W5 E 28 (.int .u16 er)) := Lib.hid (by rw [hW5]; exact ((HE4.out.set_ _).far (p := ⟨F, 0, none⟩) hEF _))
  have HF5 : Hid (One W5 F 3 (.int .i64 at_)) := Lib.hid (by rw [hW5]; exact ((HF4.out.far (p := ⟨E, 0, none⟩) hEF.symm _).set_ _))
  have HZ5 : Hid (LocZ W5 S (.slice none 0 0) (.slice none 0 0) (.slice none 0 0) (.slice none 0 0)) := Lib.hid (by rw [hW5]; exact (Below.heap_setCell _ ⟨F, 0, none⟩ _ S hFS.symm).trans ((Below.heap_setCell _ ⟨E, 0, none⟩ _ S hES.symm).trans HZ4.out))
  have HB5 : Hid (Below S w W5) := Lib.hid (by rw [hW5]; exact below_drew ((HB4.out.setCell (p := ⟨E, 0, none⟩) (by have := HEF.out; show S ≤ E; omega) _).setCell (p := ⟨F, 0, none⟩) (by have := HEF.out; show S ≤ F; omega) _))
  rw [← hW5]
  clear hW5 hS5 hS4 hS3 hS2 x0 x1
  obtain ⟨z0, z1, z2, z3⟩ := HZ5.out.cells
  have z4 := HE5.out.cell
  have z5 := HF5.out.cell
  go_wp2
  have hfin : ParseTold w (noL, er, at_) (.returned (.tuple #[.agg #[.slice none 0 0, .slice none 0 0, .slice none 0 0, .slice none 0 0], .int .u16 er, .int .i64 at_])) W5 := ⟨_, _, _, _, w.heap.size, rfl, Nat.le_refl _, HB5.out.size, LocAt.nil _ _, by rw [HSS.out]; exact HB5.out⟩
  simp [bodyPostD, Leaves, results, Tryz.results9, go_sem, z0, z1, z2, z3, z4, z5]
  exact hfin
 ·subst he0
  have hat := lex_at hlx.symm
  subst hat
  obtain ⟨hTok, hEnd, hLen⟩ := lex_ok hlx.symm
  have hp : parseL s.data.toList = match readL ts with
   | .ok l => (l, 0, 0)
   | .error e => (noL, e.1, e.2) := by
   unfold parseL
   rw [← hlx]
   rfl
  rw [hp]
  obtain ⟨X, hX⟩ : ∃ X, X = readL ts := ⟨_, rfl⟩
  rw [← hX]
  have HX := Lib.hid hX
  clear hX
  have HTK := Lib.hid (And.intro hTok (And.intro hEnd hLen))
  clear hp hlx herr hTok hEnd hLen
  go_enter_defers Tryz.func9, Tryz.ntmps9
  go_wp2_with fail
  change Calls _ _ _ (parW w) _
  refine hto.mono ?_
  rintro e w1 ⟨A, n, c, rfl, hnc, hcm, hti, hb1⟩
  obtain ⟨n0, n1, n2⟩ := HN0.out
  have m0 : LocZ w1 w.heap.size _ _ _ _ := (hb1.block _ n0.lt).trans n0
  have m1 : One w1 (w.heap.size + 1) _ _ := (hb1.block _ n1.lt).trans n1
  have m2 : One w1 (w.heap.size + 1 + 1) _ _ := (hb1.block _ n2.lt).trans n2
  have HM0 := Lib.hid m0
  have HM1 := Lib.hid m1
  have HM2 := Lib.hid m2
  have HB1 : Hid (Below w.heap.size w w1) := Lib.hid (HB0.out.trans (hb1.mono HB0.out.size))
  have HTI := Lib.hid hti
  have HSZ : Hid (w.heap.size + 1 + 1 < w1.heap.size) := Lib.hid m2.lt
  have c1 := m1.cell
  have c2 := m2.cell
  have f1 : w1.frozen? ⟨w.heap.size + 1, 0, none⟩ = false := m1.frozen 0
  have f2 : w1.frozen? ⟨w.heap.size + 1 + 1, 0, none⟩ = false := m2.frozen 0
  clear hti hb1 m0 m1 m2 hto n0 n1 n2
  obtain ⟨S, hS⟩ : ∃ S, w.heap.size = S := ⟨_, rfl⟩
  rw [hS] at HM0 HM1 HM2 HB1 HSZ c1 c2 f1 f2 ⊢
  have HSS := Lib.hid hS
  have HSL : Hid (∀ W : World, Below S w W → S ≤ W.heap.size) := Lib.hid fun W h => by rw [← hS]; exact h.size
  clear hS
  obtain ⟨F, hF⟩ : ∃ F, F = S + 1 + 1 := ⟨_, rfl⟩
  rw [← hF] at HM2 HSZ c2 f2 ⊢
  obtain ⟨E, hE⟩ : ∃ E, E = S + 1 := ⟨_, rfl⟩
  rw [← hE] at HM1 c1 f1 ⊢
  have hES : E ≠ S := by omega
  have hFS : F ≠ S := by omega
  have hEF : E ≠ F := by omega
  have HEF := Lib.hid (And.intro hE hF)
  clear hE hF
  obtain ⟨W2, hW2⟩ : ∃ W2, W2 = (w1.setCell ⟨E, 0, none⟩ (.int .u16 0)).setCell ⟨F, 0, none⟩ (.int .i64 0) := ⟨_, rfl⟩
  have hb2 : Below w1.heap.size w1 W2 := by
   rw [hW2]
   have h1 := set_same HM1.out
   have h2 : One (w1.setCell ⟨E, 0, none⟩ (.int .u16 0)) F _ _ := HM2.out.far (p := ⟨E, 0, none⟩) hEF.symm _
   have h3 := set_same h2
   exact h1.trans (h3.mono (by simp [World.setCell]))
  have hsz2 : W2.heap.size = w1.heap.size := by rw [hW2]; simp [World.setCell]
  obtain ⟨W3, hW3⟩ : ∃ W3, W3 = (W2.alloc (.map #[] 0)).alloc (.cells #[.slice A n c, .int .i64 0, .slice none 0 0, .slice none 0 0, .slice none 0 0, .slice none 0 0, .map (some w1.heap.size)] 64) := ⟨_, rfl⟩
  have hb3 : Below w1.heap.size w1 W3 := by rw [hW3]; exact (hb2.alloc hb2.size _).alloc (by simp [hsz2]) _
  have hmap : MapIs W3 w1.heap.size .string [] := by
   rw [hW3]
   have := MapIs.new W2 .string
   rw [hsz2] at this
   exact this.at_ (heap_lt _ _ (by simp [hsz2]))
  have hcu : CU W3 (w1.heap.size + 1) ⟨A, n, c, ts⟩ 0 (.slice none 0 0) (.slice none 0 0) (.slice none 0 0) (.slice none 0 0) (.map (some w1.heap.size)) := by
   refine ⟨?_, ((HTI.out.on hb3 (Nat.le_refl _)).more (Nat.le_succ _)), ?_, Nat.zero_le _⟩
   ·rw [hW3]
    have := heap_alloc_new (W2.alloc (.map #[] 0)) (.cells #[.slice A n c, .int .i64 0, .slice none 0 0, .slice none 0 0, .slice none 0 0, .slice none 0 0, .map (some w1.heap.size)] 64)
    rw [World.size_alloc, hsz2] at this
    exact this
   ·have := HTI.out.len
    have := HTK.out.2.2
    show n ≤ 1001
    omega
  have hrd := read_new W3 ⟨A, n, c, ts⟩ w1.heap.size (w1.heap.size + 1) w1.heap.size hcu hmap (fun t ht => (HTK.out.1 t ht).1) (fun t ht => (HTK.out.1 t ht).2) HTK.out.2.1 (HLX.out (by first | trivial | rfl | assumption) A n c) (Nat.le_succ _) (Nat.le_refl _)
  have HB3 : Hid (Below S w W3) := Lib.hid (HB1.out.trans (hb3.mono (HSL.out _ HB1.out)))
  have HLZ : Hid (LocZ W3 S (.slice none 0 0) (.slice none 0 0) (.slice none 0 0) (.slice none 0 0) ∧ One W3 E 28 (.int .u16 0) ∧ One W3 F 3 (.int .i64 0)) := Lib.hid ⟨(hb3.block _ HM0.out.lt).trans HM0.out, (hb3.block _ HM1.out.lt).trans HM1.out, (hb3.block _ HM2.out.lt).trans HM2.out⟩
  have hs3 : W3.heap.size = w1.heap.size + 1 + 1 := by rw [hW3]; simp [hsz2]
  have HS3 := Lib.hid hs3
  have d1 : ((w1.setCell ⟨E, 0, none⟩ (.int .u16 0)).setCell ⟨F, 0, none⟩ (.int .i64 0)).cell? ⟨E, 0, none⟩ = some (.int .u16 0) := by
   have : One ((w1.setCell ⟨E, 0, none⟩ (.int .u16 0)).setCell ⟨F, 0, none⟩ (.int .i64 0)) E _ _ := (HM1.out.set_ _).far (p := ⟨F, 0, none⟩) hEF _
   exact this.cell
  rw [hW2] at hW3
  clear hb2 hb3 hmap hcu hs3 hsz2 hW2
  rw [← HX.out] at hrd
  go_wp2_with fail
  rw [← hW3]
  clear hW3 c1 c2 f1 f2 d1
  refine hrd.mono ?_
  intro e w4 h4
  clear hrd
  cases X with
  | error er =>
   obtain ⟨rfl, hf4⟩ := h4
   have hk : ∀ j, j < w1.heap.size → w4.heap[j]? = W3.heap[j]? := fun j hj => hf4.block j (by have := HS3.out; omega) (by show ¬ w1.heap.size ≤ j; omega)
   have hE4 : ErrAt w4 E F := ⟨(hk E (by have := HSZ.out; have := HEF.out; omega)).trans HLZ.out.2.1, (hk F (by have := HSZ.out; omega)).trans HLZ.out.2.2, hEF⟩
   have hZ4 : LocZ w4 S (.slice none 0 0) (.slice none 0 0) (.slice none 0 0) (.slice none 0 0) := (hk S (by have := HSZ.out; have := HEF.out; omega)).trans HLZ.out.1
   have HB4 : Hid (Below S w w4) := Lib.hid (HB3.out.trans ⟨hf4.os, hf4.tape, hf4.output, hf4.size, fun i hi => hk i (by have := HSZ.out; have := HEF.out; omega)⟩)
   clear hf4 hk
   unfold faultV
   go_wp2
   refine leaves_cons (f := 19) (args := #[.pointer (some ⟨E, 0, none⟩), .pointer (some ⟨F, 0, none⟩)]) (by simp) (by simp [go_sem]) ?_
   refine (pcatch_of _ _ _ [] er.1 er.2 hE4).mono ?_
   rintro e u' w5 ⟨rfl, rfl, w6, hb6, rfl⟩
   have g0 : LocZ w6 S _ _ _ _ := (hb6.block _ hZ4.lt).trans hZ4
   have g1 : One w6 E _ _ := (hb6.block _ (Array.getElem?_eq_some_iff.1 hE4.1).1).trans hE4.1
   have g2 : One w6 F _ _ := (hb6.block _ (Array.getElem?_eq_some_iff.1 hE4.2.1).1).trans hE4.2.1
   obtain ⟨W7, hW7⟩ : ∃ W7, W7 = (w6.setCell ⟨E, 0, none⟩ (.int .u16 er.1)).setCell ⟨F, 0, none⟩ (.int .i64 er.2) := ⟨_, rfl⟩
   have y1 : One W7 E 28 (.int .u16 er.1) := by rw [hW7]; exact (g1.set_ _).far (p := ⟨F, 0, none⟩) hEF _
   have y2 : One W7 F 3 (.int .i64 er.2) := by rw [hW7]; exact (g2.far (p := ⟨E, 0, none⟩) hEF.symm _).set_ _
   have y0 : LocZ W7 S (.slice none 0 0) (.slice none 0 0) (.slice none 0 0) (.slice none 0 0) := by rw [hW7]; exact (Below.heap_setCell _ ⟨F, 0, none⟩ _ S hFS.symm).trans ((Below.heap_setCell _ ⟨E, 0, none⟩ _ S hES.symm).trans g0)
   have hB7 : Below S w W7 := by
    rw [hW7]
    exact ((HB4.out.trans (hb6.mono (HSL.out _ HB4.out))).setCell (p := ⟨E, 0, none⟩) (by have := HEF.out; show S ≤ E; omega) _).setCell (p := ⟨F, 0, none⟩) (by have := HEF.out; show S ≤ F; omega) _
   obtain ⟨z0, z1, z2, z3⟩ := y0.cells
   have z4 := y1.cell
   have z5 := y2.cell
   have hfin : ParseTold w (noL, er.1, er.2) (.returned (.tuple #[.agg #[.slice none 0 0, .slice none 0 0, .slice none 0 0, .slice none 0 0], .int .u16 er.1, .int .i64 er.2])) W7 := ⟨_, _, _, _, w.heap.size, rfl, Nat.le_refl _, hB7.size, LocAt.nil _ _, by rw [HSS.out]; exact hB7⟩
   rw [← hW7]
   simp [Leaves, settle, results, Tryz.results9, go_sem, z0, z1, z2, z3, z4, z5]
   exact hfin
  | ok l =>
   obtain ⟨k, v1, v2, v3, v4, rfl, hc4, hl4, hf4⟩ := h4
   obtain ⟨q1, g1, p1, hv1⟩ : ∃ q g p, v1 = .slice q g p := by obtain ⟨a, b, h⟩ := hl4.1.form; exact ⟨a, _, b, h⟩
   obtain ⟨q2, g2, p2, hv2⟩ : ∃ q g p, v2 = .slice q g p := by obtain ⟨a, b, h⟩ := row_form hl4.2.1; exact ⟨a, _, b, h⟩
   obtain ⟨q3, g3, p3, hv3⟩ : ∃ q g p, v3 = .slice q g p := by obtain ⟨a, b, h⟩ := row_form hl4.2.2.1; exact ⟨a, _, b, h⟩
   obtain ⟨q4, g4, p4, hv4⟩ : ∃ q g p, v4 = .slice q g p := by obtain ⟨a, b, h⟩ := hl4.2.2.2.form; exact ⟨a, _, b, h⟩
   have hk : ∀ j, j < w1.heap.size → w4.heap[j]? = W3.heap[j]? := fun j hj => hf4.block j (by have := HS3.out; omega) (by show ¬ w1.heap.size ≤ j; omega)
   have e1 : One w4 E 28 (.int .u16 0) := (hk E (by have := HSZ.out; have := HEF.out; omega)).trans HLZ.out.2.1
   have e2 : One w4 F 3 (.int .i64 0) := (hk F (by have := HSZ.out; omega)).trans HLZ.out.2.2
   have e0 : LocZ w4 S (.slice none 0 0) (.slice none 0 0) (.slice none 0 0) (.slice none 0 0) := (hk S (by have := HSZ.out; have := HEF.out; omega)).trans HLZ.out.1
   have HB4 : Hid (Below S w w4) := Lib.hid (HB3.out.trans ⟨hf4.os, hf4.tape, hf4.output, hf4.size, fun i hi => hk i (by have := HSZ.out; have := HEF.out; omega)⟩)
   obtain ⟨W5, hW5⟩ : ∃ W5, W5 = (((((w4.setCell ⟨S, 0, none⟩ v1).setCell ⟨S, 1, none⟩ v2).setCell ⟨S, 2, none⟩ v3).setCell ⟨S, 3, none⟩ v4).setCell ⟨E, 0, none⟩ (.int .u16 0)).setCell ⟨F, 0, none⟩ (.int .i64 0) := ⟨_, rfl⟩
   have HE5 : Hid (One W5 E 28 (.int .u16 0)) := Lib.hid (by rw [hW5]; exact ((e1.far4 hES _ _ _ _).set_ _).far (p := ⟨F, 0, none⟩) hEF _)
   have HF5 : Hid (One W5 F 3 (.int .i64 0)) := Lib.hid (by rw [hW5]; exact ((e2.far4 hFS _ _ _ _).far (p := ⟨E, 0, none⟩) hEF.symm _).set_ _)
   have HZ5 : Hid (LocZ W5 S v1 v2 v3 v4) := Lib.hid (by rw [hW5]; exact (Below.heap_setCell _ ⟨F, 0, none⟩ _ S hFS.symm).trans ((Below.heap_setCell _ ⟨E, 0, none⟩ _ S hES.symm).trans (setLoc e0 _ _ _ _)))
   have hfr : Fr w4 W5 (fun j => j = S ∨ j = E ∨ j = F) := by
    rw [hW5]
    exact ((((((Fr.of_below (Below.refl _ w4)).set ⟨S, 0, none⟩ _ (fun _ => .inl rfl)).set ⟨S, 1, none⟩ _ (fun _ => .inl rfl)).set ⟨S, 2, none⟩ _ (fun _ => .inl rfl)).set ⟨S, 3, none⟩ _ (fun _ => .inl rfl)).set ⟨E, 0, none⟩ _ (fun _ => .inr (.inl rfl))).set ⟨F, 0, none⟩ _ (fun _ => .inr (.inr rfl))
   have hty : ∀ g c z t, (g = S ∨ g = E ∨ g = F) → w4.heap[g]? = some (.cells c t z) → t = 26 ∨ t = 28 ∨ t = 3 := by
    rintro g c z t (rfl | rfl | rfl) hg
    ·have := hg.symm.trans e0
     simp at this
     exact .inl this.2.1
    ·have := hg.symm.trans e1
     simp at this
     exact .inr (.inl this.2.1)
    ·have := hg.symm.trans e2
     simp at this
     exact .inr (.inr this.2.1)
   have HL5 : Hid (LocAt W5 W3.heap.size v1 v2 v3 v4 l) := Lib.hid ⟨hl4.1.fr hfr (fun g c z t hx hg => by rcases hty g c z t hx hg with e | e | e <;> subst e <;> decide), ownsRow_fr hl4.2.1 hfr (fun g hg hx => by
    obtain ⟨c, hc⟩ := ownsRow_ty hl4.2.1 hg
    rcases hty g c _ _ hx hc with e | e | e <;> exact absurd e (by decide)), ownsRow_fr hl4.2.2.1 hfr (fun g hg hx => by
    obtain ⟨c, hc⟩ := ownsRow_ty hl4.2.2.1 hg
    rcases hty g c _ _ hx hc with e | e | e <;> exact absurd e (by decide)), hl4.2.2.2.fr hfr (fun g c z t hx hg => by rcases hty g c z t hx hg with e | e | e <;> subst e <;> decide)⟩
   have HB5 : Hid (Below S w W5) := Lib.hid (HB4.out.trans (hfr.below (by
    rintro j _ (rfl | rfl | rfl)
    ·exact Nat.le_refl _
    ·have := HEF.out; omega
    ·have := HEF.out; omega) (HSL.out _ HB4.out)))
   have HS5 : Hid (W3.heap.size ≤ W5.heap.size) := Lib.hid (Nat.le_trans hf4.size hfr.size)
   obtain ⟨r1, r2, r3, r4, r5⟩ := hc4.more
   obtain ⟨z0, z1, z2, z3⟩ := e0.cells
   have y0 := e0.frozen 0
   have y1 := e0.frozen 1
   have y2 := e0.frozen 2
   have y3 := e0.frozen 3
   have x1 := (e1.far4 hES v1 v2 v3 v4).cell
   have x2 := (e1.far4 hES v1 v2 v3 v4).frozen 0
   have x3 := ((e2.far4 hFS v1 v2 v3 v4).far (p := ⟨E, 0, none⟩) hEF.symm (.int .u16 0)).cell
   have x4 := ((e2.far4 hFS v1 v2 v3 v4).far (p := ⟨E, 0, none⟩) hEF.symm (.int .u16 0)).frozen 0
   clear hk e0 e1 e2 hfr hty hl4 hf4 hc4
   subst hv1 hv2 hv3 hv4
   go_wp2
   refine leaves_cons (f := 19) (args := #[.pointer (some ⟨E, 0, none⟩), .pointer (some ⟨F, 0, none⟩)]) (by simp) (by simp [go_sem]) ?_
   refine (pcatch_idle _ _ _).mono ?_
   rintro e u' w5 ⟨rfl, rfl, rfl⟩
   rw [← hW5]
   obtain ⟨z0, z1, z2, z3⟩ := HZ5.out.cells
   have z4 := HE5.out.cell
   have z5 := HF5.out.cell
   have hfin : ParseTold w (l, 0, 0) (.returned (.tuple #[.agg #[.slice q1 g1 p1, .slice q2 g2 p2, .slice q3 g3 p3, .slice q4 g4 p4], .int .u16 0, .int .i64 0])) W5 := ⟨_, _, _, _, W3.heap.size, rfl, HB3.out.size, HS5.out, HL5.out, by rw [HSS.out]; exact HB5.out⟩
   simp [Leaves, settle, results, Tryz.results9, go_sem, z0, z1, z2, z3, z4, z5]
   exact hfin
end Go.Proofs.YthaibekbefndlaaGreatDoor.C

namespace Go.Proofs.YthaibekbefndlaaGreatDoor.C
open Go.RowKit

def LocR (w : World) (B : Nat) (v1 v2 v3 v4 : Value) (l : Loc) : Prop :=
 ClsR w B v1 l.cls ∧ PrsR w B v2 l.up ∧ PrsR w B v3 l.lo ∧ OrdR w B v4 l.ord ∧ l.cls.length ≤ maxLen ∧ l.up.length ≤ maxLen ∧ l.lo.length ≤ maxLen
theorem LocR.on {w w' : World} {B B' : Nat} {v1 v2 v3 v4 : Value} {l : Loc} (h : LocR w B v1 v2 v3 v4 l) (hb : Below B' w w') (hB : B ≤ B') : LocR w' B v1 v2 v3 v4 l :=
 ⟨h.1.on hb hB, h.2.1.on hb hB, h.2.2.1.on hb hB, h.2.2.2.1.on hb hB, h.2.2.2.2⟩
theorem own_len {w : World} {lo n sz : Nat} {v : Value} {xs : List Value} {e : TypeId} (h : w.ownsRow lo e sz v n xs) : n ≤ maxLen := by
 rcases h.2 with ⟨_, h0⟩ | ⟨g, cap, cur, _, _, _, h1, h2, _⟩
 ·rw [h0]; exact Nat.zero_le _
 ·omega
theorem prsC_flat (l : List (Int × Int)) : prsC l = (l.map prRow).flatten := by
 induction l with
 | nil => rfl
 | cons a r ih =>
  have h : prsC (a :: r) = prRow a ++ prsC r := rfl
  rw [h, ih]
  rfl
theorem PrsR.of {w : World} {lo : Nat} {v : Value} {l : List (Int × Int)} {e : TypeId} (h : w.ownsRow lo e 2 v l.length (prsC l)) : PrsR w w.heap.size v l := by
 obtain ⟨A, c, rfl⟩ := row_form h
 rw [prsC_flat] at h
 exact ⟨A, c, rfl, SI.of_own h (by simp) (by intro x hx; obtain ⟨y, _, rfl⟩ := List.mem_map.1 hx; rfl)⟩
theorem clsC_flat (cs : List Cls) (vs : List Value) : clsC cs vs = ((cs.zip vs).map fun x => [Value.string (str x.1.name), x.2]).flatten := by
 unfold clsC
 rw [List.flatMap_def]
theorem ClsR.of {w : World} {lo : Nat} {v : Value} {cs : List Cls} (h : ClsAt w lo v cs) (hn : ∀ c ∈ cs, c.name.length ≤ maxLen) : ClsR w w.heap.size v cs := by
 obtain ⟨vs, h1, h2, h3⟩ := h
 obtain ⟨A, c, rfl⟩ := row_form h2
 rw [clsC_flat] at h2
 refine ⟨A, c, _, rfl, SI.of_own h2 (by simp [h1]) (by intro x hx; obtain ⟨y, _, rfl⟩ := List.mem_map.1 hx; rfl), fun i k hi => ?_⟩
 have hk : i < cs.length := (List.getElem?_eq_some_iff.1 hi).1
 have hv : vs[i]? = some (vs[i]'(by omega)) := List.getElem?_eq_getElem (by omega)
 refine ⟨vs[i]'(by omega), ?_, PrsR.of (h3 i k _ hi hv), hn k (List.mem_of_getElem? hi), own_len (h3 i k _ hi hv)⟩
 have hz : (cs.zip vs)[i]? = some (k, vs[i]'(by omega)) := by rw [List.getElem?_zip_eq_some]; exact ⟨hi, hv⟩
 rw [List.getElem?_map, hz]
 rfl
theorem OrdR.of {w : World} {lo : Nat} {v : Value} {o : List Elm} (h : OrdAt w lo v o) (hn : ∀ e ∈ o, e.name.length ≤ maxLen) : OrdR w w.heap.size v o := by
 obtain ⟨vs, h1, h2, h3⟩ := h
 obtain ⟨A, c, rfl⟩ := row_form h2
 refine ⟨A, c, _, rfl, SI.of_own h2 (ordR_len h1) ordR_each, fun i e hi => ?_⟩
 have hk : i < o.length := (List.getElem?_eq_some_iff.1 hi).1
 have hv : vs[i]? = some (vs[i]'(by omega)) := List.getElem?_eq_getElem (by omega)
 have ho := h3 i e _ hi hv
 obtain ⟨Ac, cc, he⟩ := row_form ho
 refine ⟨Ac, cc, ?_, RI.of_own (e := 35) (by rw [← he]; exact ho), hn e (List.mem_of_getElem? hi), own_len ho⟩
 unfold ordR
 have hz : (o.zip vs)[i]? = some (e, vs[i]'(by omega)) := by rw [List.getElem?_zip_eq_some]; exact ⟨hi, hv⟩
 rw [List.getElem?_map, hz, ← he]
 rfl
theorem LocR.of {w : World} {lo : Nat} {v1 v2 v3 v4 : Value} {l : Loc} (h : LocAt w lo v1 v2 v3 v4 l) (h1 : ∀ c ∈ l.cls, c.name.length ≤ maxLen) (h2 : ∀ e ∈ l.ord, e.name.length ≤ maxLen) : LocR w w.heap.size v1 v2 v3 v4 l := by
 obtain ⟨a1, a2, a3, a4⟩ := h
 have a0 := a1
 obtain ⟨vs, _, b, _⟩ := a0
 exact ⟨ClsR.of a1 h1, PrsR.of a2, PrsR.of a3, OrdR.of a4 h2, own_len b, own_len a2, own_len a3⟩

def Rw (w : World) (b : Nat) (t : TypeId) (xs : Array Value) : Prop := w.heap[b]? = some (.cells xs t (0, 0))
theorem Rw.lt {w : World} {b : Nat} {t : TypeId} {xs : Array Value} (h : Rw w b t xs) : b < w.heap.size := (Array.getElem?_eq_some_iff.1 h).1
theorem Rw.cell {w : World} {b : Nat} {t : TypeId} {xs : Array Value} (h : Rw w b t xs) {i : Nat} {v : Value} (hi : xs[i]? = some v) : w.cell? ⟨b, i, none⟩ = some v := by simp [World.cell?, show w.heap[b]? = _ from h, hi]
theorem Rw.on {w w' : World} {b B : Nat} {t : TypeId} {xs : Array Value} (h : Rw w b t xs) (hb : Below B w w') (hB : b < B) : Rw w' b t xs := (hb.block b hB).trans h
set_option maxRecDepth 100000 in
set_option maxHeartbeats 4000000 in
theorem locRight_any (w : World) (B : Nat) (v1 v2 v3 v4 : Value) (l : Loc) (h : LocR w B v1 v2 v3 v4 l) (hB : B ≤ w.heap.size) (hG : Gm w) :
  Calls Tryz.prog 16 #[.agg #[v1, v2, v3, v4]] w fun e w' => e = .returned (.bool (rightL l)) ∧ Below w.heap.size w w' := by
 obtain ⟨W, hW⟩ : ∃ W, W = w.alloc (.cells #[v1, v2, v3, v4] 26) := ⟨_, rfl⟩
 have hb : Below w.heap.size w W := by rw [hW]; exact (Below.refl _ _).alloc (Nat.le_refl _) _
 have hGW := hG.next hb
 have hR := h.on hb hB
 have hsz := hb.size
 obtain ⟨r1, r2, r3, r4, n1, n2, n3⟩ := hR
 have hrow : Rw W w.heap.size 26 #[v1, v2, v3, v4] := by rw [hW]; exact heap_alloc_new w _
 obtain ⟨⟨A1, c1, x1, rfl, -⟩, ⟨A2, c2, rfl, -⟩, ⟨A3, c3, rfl, -⟩, ⟨A4, c4, x4, rfl, -⟩, -⟩ := h
 have d1 := rightClasses_any W B _ l.cls r1 (by omega) n1
 have HG := Lib.hid hGW
 have HR2 := Lib.hid r2
 have HR3 := Lib.hid r3
 have HR4 := Lib.hid r4
 have HB := Lib.hid hb
 have HW := Lib.hid hrow
 have HN2 := Lib.hid n2
 have HN3 := Lib.hid n3
 have HBW : Hid (B ≤ W.heap.size) := Lib.hid (by omega)
 clear r1 r2 r3 r4 hG hGW hb hrow n1 n2 n3 hsz hB
 go_enter Tryz.func16, Tryz.ntmps16
 go_wp2_with fail
 rw [← hW]
 refine d1.mono ?_
 rintro e w1 ⟨rfl, hb1⟩
 have HB1 := Lib.hid hb1
 clear hb1 d1
 cases k1 : clsB l.cls with
 | false =>
  have hr : rightL l = false := by unfold rightL; rw [k1]; rfl
  go_wp2
  go_ret
  exact ⟨by rw [hr]; rfl, HB.out.trans (HB1.out.mono HB.out.size)⟩
 | true =>
  have d2 := rightPairs_any w1 B _ l.up (HR2.out.on HB1.out HBW.out) (Nat.le_trans HBW.out HB1.out.size) HN2.out
  have p1 := (HW.out.on HB1.out HW.out.lt).cell (i := 1) rfl
  go_wp2_with fail
  refine d2.mono ?_
  rintro e w2 ⟨rfl, hb2⟩
  have HB2 := Lib.hid (HB1.out.trans (hb2.mono HB1.out.size))
  clear hb2 d2 p1
  cases k2 : pairsB l.up with
  | false =>
   have hr : rightL l = false := by unfold rightL; rw [k1, k2]; rfl
   go_wp2
   go_ret
   exact ⟨by rw [hr]; rfl, HB.out.trans (HB2.out.mono HB.out.size)⟩
  | true =>
   have d3 := rightPairs_any w2 B _ l.lo (HR3.out.on HB2.out HBW.out) (Nat.le_trans HBW.out HB2.out.size) HN3.out
   have p2 := (HW.out.on HB2.out HW.out.lt).cell (i := 2) rfl
   go_wp2_with fail
   refine d3.mono ?_
   rintro e w3 ⟨rfl, hb3⟩
   have HB3 := Lib.hid (HB2.out.trans (hb3.mono HB2.out.size))
   clear hb3 d3 p2
   cases k3 : pairsB l.lo with
   | false =>
    have hr : rightL l = false := by unfold rightL; rw [k1, k2, k3]; rfl
    go_wp2
    go_ret
    exact ⟨by rw [hr]; rfl, HB.out.trans (HB3.out.mono HB.out.size)⟩
   | true =>
    have d4 := rightOrder_any w3 B _ l.ord (HR4.out.on HB3.out HBW.out) (Nat.le_trans HBW.out HB3.out.size) (HG.out.next HB3.out)
    have p3 := (HW.out.on HB3.out HW.out.lt).cell (i := 3) rfl
    have hr : rightL l = ordB l.ord := by unfold rightL; rw [k1, k2, k3]; rfl
    go_wp2_with fail
    refine d4.mono ?_
    rintro e w4 ⟨rfl, hb4⟩
    have HB4 := Lib.hid (HB3.out.trans (hb4.mono HB3.out.size))
    clear hb4 d4 p3
    go_wp2
    go_ret
    exact ⟨by rw [hr]; rfl, HB.out.trans (HB4.out.mono HB.out.size)⟩
end Go.Proofs.YthaibekbefndlaaGreatDoor.C

namespace Go.Proofs.YthaibekbefndlaaGreatDoor.C
open Go.RowKit

set_option maxRecDepth 100000 in
set_option maxHeartbeats 8000000 in
theorem known07_any (w : World) (hG : Gm w) : Calls Tryz.prog 11 #[] w fun e w' => e = .returned (.bool true) ∧ Below w.heap.size w w' := by
 have h1 := locParse_lines ⟨#[99, 108, 97, 115, 115, 32, 120, 32, 60, 85, 48, 48, 52, 49, 62, 46, 46, 46, 60, 85, 48, 48, 52, 51, 62, 59, 60, 85, 48, 48, 54, 49, 62]⟩ w hG.1 (fun T a h => lines_known1 T a h)
 rw [show (ByteArray.mk #[99, 108, 97, 115, 115, 32, 120, 32, 60, 85, 48, 48, 52, 49, 62, 46, 46, 46, 60, 85, 48, 48, 52, 51, 62, 59, 60, 85, 48, 48, 54, 49, 62]).data.toList = [99, 108, 97, 115, 115, 32, 120, 32, 60, 85, 48, 48, 52, 49, 62, 46, 46, 46, 60, 85, 48, 48, 52, 51, 62, 59, 60, 85, 48, 48, 54, 49, 62] from rfl, parse_known1] at h1
 have h2 := fun W (hW : Gl W) => locParse_lines ⟨#[111, 114, 100, 101, 114, 32, 60, 99, 104, 62]⟩ W hW (fun T a h => lines_known2 T a h)
 rw [show (ByteArray.mk #[111, 114, 100, 101, 114, 32, 60, 99, 104, 62]).data.toList = [111, 114, 100, 101, 114, 32, 60, 99, 104, 62] from rfl, parse_known2] at h2
 have HG := Lib.hid hG
 clear hG
 go_enter Tryz.func11, Tryz.ntmps11
 go_wp2_with fail
 refine h1.mono ?_
 rintro e w1 ⟨v1, v2, v3, v4, lo, rfl, hlo1, hlo2, hL, hb1⟩
 have HG1 := Lib.hid (HG.out.next hb1)
 have hR := LocR.of hL (by intro c hc; simp [knownL] at hc; subst hc; decide) (by intro e he; simp [knownL] at he)
 obtain ⟨A1, c1, f1⟩ : ∃ A c, v1 = .slice A 1 c := hL.1.form
 obtain ⟨A2, c2, f2⟩ : ∃ A c, v2 = .slice A 0 c := row_form hL.2.1
 obtain ⟨A3, c3, f3⟩ : ∃ A c, v3 = .slice A 0 c := row_form hL.2.2.1
 obtain ⟨A4, c4, f4⟩ : ∃ A c, v4 = .slice A 0 c := hL.2.2.2.form
 subst f1 f2 f3 f4
 clear hL hlo1 hlo2
 have HR := Lib.hid hR
 have HB1 := Lib.hid hb1
 clear hR hb1 h1
 obtain ⟨W1, hW1⟩ : ∃ W1, W1 = w1.alloc (.cells #[.slice A1 1 c1, .slice A2 0 c2, .slice A3 0 c3, .slice A4 0 c4] 26) := ⟨_, rfl⟩
 have hbW : Below w1.heap.size w1 W1 := by rw [hW1]; exact (Below.refl _ _).alloc (Nat.le_refl _) _
 have hrow : Rw W1 w1.heap.size 26 #[.slice A1 1 c1, .slice A2 0 c2, .slice A3 0 c3, .slice A4 0 c4] := by rw [hW1]; exact heap_alloc_new w1 _
 have HBW := Lib.hid (HB1.out.trans (hbW.mono HB1.out.size))
 have HW := Lib.hid hrow
 have HRW := Lib.hid (HR.out.on hbW (Nat.le_refl _))
 have HGW := Lib.hid (HG1.out.next hbW)
 have HSW := Lib.hid hbW.size
 clear hbW hrow
 go_wp2_with fail
 rw [← hW1]
 refine (h2 _ HGW.out.1).mono ?_
 rintro e w2 ⟨u1, u2, u3, u4, lo2, rfl, hlo3, hlo4, hL2, hb2⟩
 obtain ⟨D1, e1, f1⟩ : ∃ A c, u1 = .slice A 0 c := hL2.1.form
 obtain ⟨D2, e2, f2⟩ : ∃ A c, u2 = .slice A 0 c := row_form hL2.2.1
 obtain ⟨D3, e3, f3⟩ : ∃ A c, u3 = .slice A 0 c := row_form hL2.2.2.1
 obtain ⟨D4, e4, f4⟩ : ∃ A c, u4 = .slice A 0 c := hL2.2.2.2.form
 subst f1 f2 f3 f4
 clear hL2 hlo3 hlo4 h2
 obtain ⟨W2, hW2⟩ : ∃ W2, W2 = w2.alloc (.cells #[.slice D1 0 e1, .slice D2 0 e2, .slice D3 0 e3, .slice D4 0 e4] 26) := ⟨_, rfl⟩
 have hbW2 : Below w2.heap.size w2 W2 := by rw [hW2]; exact (Below.refl _ _).alloc (Nat.le_refl _) _
 have hbb2 : Below W1.heap.size W1 W2 := hb2.trans (hbW2.mono hb2.size)
 have HB2 := Lib.hid (HBW.out.trans (hbb2.mono HBW.out.size))
 have hR2 := HRW.out.on hbb2 HSW.out
 have hrow2 := HW.out.on hbb2 HW.out.lt
 have hG2 := HGW.out.next hbb2
 have hsz2 : w1.heap.size ≤ W2.heap.size := Nat.le_trans HSW.out hbb2.size
 have hri := locRight_any W2 _ _ _ _ _ knownL hR2 hsz2 hG2
 rw [right_known] at hri
 obtain ⟨Ac, cc, xs, hv, hsi, hel⟩ := hR2.1
 have hv' : (Value.slice A1 1 c1) = .slice Ac 1 cc := hv
 injection hv' with ha _ hc
 subst ha
 obtain ⟨ad, rfl, hbl, hce⟩ := hsi.2.2 (by decide)
 obtain ⟨u, hx0, ⟨Ar, cr, rfl, hsr⟩, -⟩ := hel 0 _ rfl
 obtain ⟨ar, rfl, hbr, hcr⟩ := hsr.2.2 (by decide)
 subst hc
 have p0 : W2.cell? ⟨w1.heap.size, 0, none⟩ = some (.slice (some ad) 1 c1) := hrow2.cell rfl
 have p1 : W2.cell? ⟨w1.heap.size, 1, none⟩ = some (.slice A2 0 c2) := hrow2.cell rfl
 have p2 : W2.cell? ⟨w1.heap.size, 2, none⟩ = some (.slice A3 0 c3) := hrow2.cell rfl
 have p3 : W2.cell? ⟨w1.heap.size, 3, none⟩ = some (.slice A4 0 c4) := hrow2.cell rfl
 have q0 : W2.cell? ad = some (.string ⟨#[120]⟩) := by have := hce 0 _ hx0 0 _ rfl; rwa [show (0 * 2 + 0) = 0 from rfl, Addr.add_zero'] at this
 have q1 : W2.cell? (ad.add 1) = some (.slice (some ar) 2 cr) := hce 0 _ hx0 1 _ rfl
 have r0 : W2.cell? ar = some (.int .i32 65) := by have := hcr 0 _ rfl 0 _ rfl; rwa [show (0 * 2 + 0) = 0 from rfl, Addr.add_zero'] at this
 have r1 : W2.cell? (ar.add 1) = some (.int .i32 67) := hcr 0 _ rfl 1 _ rfl
 rw [add_pos _ _ (by omega)] at q1 r1
 have hnil : LocR W2 W2.heap.size (.slice none 0 0) (.slice none 0 0) (.slice none 0 0) (.slice none 0 0) noL := LocR.of (LocAt.nil W2 W2.heap.size) (by simp [noL]) (by simp [noL])
 have HNI := Lib.hid hnil
 have HG2 := Lib.hid hG2
 have HB1' := Lib.hid hbb2
 clear hR2 hrow2 hG2 hb2 hbW2 hbb2 hel hsi hsr hce hcr hx0 hv hnil HR HRW HW hW1
 subst hW2
 go_wp2_with (go_at_call 16; fail)
 refine hri.mono ?_
 rintro e w3 ⟨rfl, hb3⟩
 have hn3 := HNI.out.on hb3 (Nat.le_refl _)
 have hri3 := locRight_any w3 _ _ _ _ _ noL hn3 hb3.size (HG2.out.next hb3)
 rw [right_noL] at hri3
 have HB3 := Lib.hid (HB2.out.trans (hb3.mono HB2.out.size))
 clear hri hb3 hn3
 go_wp2_with (go_at_call 16; fail)
 refine hri3.mono ?_
 rintro e w4 ⟨rfl, hb4⟩
 have HB4 := Lib.hid (HB3.out.trans (hb4.mono HB3.out.size))
 clear hri3 hb4
 go_wp2
 go_ret
 exact ⟨rfl, HB4.out⟩
end Go.Proofs.YthaibekbefndlaaGreatDoor.C
