/-
  Joined: KoM, KoN, KoX, KpB, KpI. Each with what its own head says.
-/
import Derived.Test.YtknjhlbhbnldpaaGreatDoorB20

namespace Go.Proofs.YtknjhlbhbnldpaaGreatDoor.C
open Go.RowKit

theorem OrdAt.low {w : World} {b b' : Nat} {v : Value} {o : List Elm} (h : OrdAt w b v o) (hb : b' ≤ b) : OrdAt w b' v o := by
 obtain ⟨vs, h1, h2, h3⟩ := h
 exact ⟨vs, h1, own_low h2 hb, fun i e x a c => own_low (h3 i e x a c) hb⟩
theorem ClsAt.low {w : World} {b b' : Nat} {v : Value} {o : List Cls} (h : ClsAt w b v o) (hb : b' ≤ b) : ClsAt w b' v o := by
 obtain ⟨vs, h1, h2, h3⟩ := h
 exact ⟨vs, h1, own_low h2 hb, fun i e x a c => own_low (h3 i e x a c) hb⟩
theorem own_next {w w' : World} {b n sz : Nat} {v : Value} {xs : List Value} {e : TypeId} (h : w.ownsRow b e sz v n xs) (hb : Below w.heap.size w w') : w'.ownsRow b e sz v n xs := ownsRow_fr h (X := fun _ => False) (.of_below hb) (by rintro _ _ ⟨⟩)
theorem LocAt.fr {w w' : World} {lo : Nat} {v1 v2 v3 v4 : Value} {l : Loc} {X : Nat → Prop} (h : LocAt w lo v1 v2 v3 v4 l) (hf : Fr w w' X) (hX : ∀ j, X j → j < lo) : LocAt w' lo v1 v2 v3 v4 l := by
 have ho : ∀ {e : TypeId} {sz n : Nat} {v : Value} {xs : List Value}, w.ownsRow lo e sz v n xs → w'.ownsRow lo e sz v n xs := fun k => ownsRow_fr k hf fun g hg hx => by have := (k.lt g hg).1; have := hX g hx; omega
 obtain ⟨⟨vs, a1, a2, a3⟩, b, c, ⟨us, d1, d2, d3⟩⟩ := h
 exact ⟨⟨vs, a1, ho a2, fun i e x h1 h2 => ho (a3 i e x h1 h2)⟩, ho b, ho c, ⟨us, d1, ho d2, fun i e x h1 h2 => ho (d3 i e x h1 h2)⟩⟩
theorem LocAt.turned {w W : World} {lo S : Nat} {v1 v2 v3 v4 : Value} {l : Loc} (h : LocAt w lo v1 v2 v3 v4 l) (hf : Fr w W (· = S)) (hS : S < lo) (hlo : lo ≤ w.heap.size) (h1 : ∀ c ∈ l.cls, c.name.length ≤ maxLen) (h2 : ∀ e ∈ l.ord, e.name.length ≤ maxLen) : LocR W w.heap.size v1 v2 v3 v4 l := by
 have hSW : S < W.heap.size := by have := hf.size; omega
 have hV : Fr w (putObj w S W.heap[S]) (· = S) := ⟨rfl, rfl, rfl, by rw [putObj_size]; exact Nat.le_refl _, fun b _ hx => putObj_else w _ hx⟩
 have hb : Below w.heap.size (putObj w S W.heap[S]) W := ⟨hf.os, hf.tape, hf.output, by rw [putObj_size]; exact hf.size, fun k hk => by
  by_cases e : k = S
  ·subst e
   rw [putObj_at _ (by omega), Array.getElem?_eq_getElem hSW]
  ·rw [putObj_else w _ e]
   exact hf.block k hk e⟩
 have := LocR.of (h.fr hV (by rintro j rfl; exact hS)) h1 h2
 rw [putObj_size] at this
 exact this.on hb (Nat.le_refl _)
structure NewOk (l : Loc) : Prop where
 cls : l.cls.length ≤ 1073741824 ∧ ∀ e ∈ l.cls, e.name.length ≤ 281474976710656 ∧ e.rs.length ≤ 17592186044416
 up : l.up.length ≤ 1073741824
 lo : l.lo.length ≤ 1073741824
 ord : ∀ e ∈ l.ord, e.name.length ≤ 281474976710656
def tabL (v1 v2 v3 v4 : Value) : List Value := [.int .i64 0, v4, .int .u32 0, .int .i32 0, .int .u32 0, .map none, .int .u32 0, .int .i32 0, .int .u32 0, .map none, .int .u32 0, .int .i32 0, .int .u32 0, .map none,
 .int .u32 0, .int .i32 0, .int .u32 0, .map none, v1, .int .u32 0, .int .i32 0, .int .u32 0, .map none, v2, .int .u32 0, .int .i32 0, .int .u32 0, .map none, v3]
theorem TabAt.new {w : World} {T : Nat} {v1 v2 v3 v4 : Value} {l : Loc} (h : Row w T 107 (tabL v1 v2 v3 v4)) (hl : LocR w T v1 v2 v3 v4 l) : TabAt w T l 0 :=
 ⟨_, v1, v2, v3, v4, h, rfl, rfl, rfl, rfl, rfl, rfl, hl, ⟨rfl, .inl ⟨rfl, rfl⟩⟩, ⟨rfl, .inl ⟨rfl, rfl⟩⟩, ⟨rfl, .inl ⟨rfl, rfl⟩⟩, ⟨rfl, .inl ⟨rfl, rfl⟩⟩, ⟨rfl, .inl ⟨rfl, rfl⟩⟩, ⟨rfl, .inl ⟨rfl, rfl⟩⟩⟩
set_option maxRecDepth 100000 in
set_option maxHeartbeats 4000000 in
theorem new_no (w : World) (B : Nat) (v1 v2 v3 v4 : Value) (l : Loc) (h : LocR w B v1 v2 v3 v4 l) (hB : B ≤ w.heap.size) (hG : Gm w) (hR : rightL l = false) :
  Calls Tryz.prog 10 #[.agg #[v1, v2, v3, v4]] w fun e w' => e = .returned (.pointer none) ∧ Below w.heap.size w w' := by
 obtain ⟨W, hW⟩ : ∃ W, W = w.alloc (.cells #[v1, v2, v3, v4] 30) := ⟨_, rfl⟩
 have hb : Below w.heap.size w W := by rw [hW]; exact (Below.refl _ _).alloc (Nat.le_refl _) _
 have hr := locRight_any W B v1 v2 v3 v4 l (h.on hb hB) (by have := hb.size; omega) (hG.next hb)
 rw [hR] at hr
 have hrow : Rw W w.heap.size 30 #[v1, v2, v3, v4] := by rw [hW]; exact heap_alloc_new w _
 obtain ⟨⟨A1, c1, x1, rfl, -⟩, ⟨A2, c2, rfl, -⟩, ⟨A3, c3, rfl, -⟩, ⟨A4, c4, x4, rfl, -⟩, -⟩ := h
 have p0 := hrow.cell (i := 0) rfl
 have p1 := hrow.cell (i := 1) rfl
 have p2 := hrow.cell (i := 2) rfl
 have p3 := hrow.cell (i := 3) rfl
 have HB := Lib.hid hb
 clear hb hrow hG
 go_enter Tryz.func10, Tryz.ntmps10
 go_wp2_with fail
 rw [← hW]
 clear hW
 refine hr.mono ?_
 rintro e w1 ⟨rfl, hb1⟩
 have HB1 : Hid (Below w.heap.size w w1) := Lib.hid (HB.out.trans (hb1.mono HB.out.size))
 clear hr hb1 p0 p1 p2 p3
 go_wp2
 go_ret
 exact ⟨rfl, HB1.out⟩
set_option maxRecDepth 100000 in
set_option maxHeartbeats 8000000 in
theorem new_yes (w : World) (B : Nat) (v1 v2 v3 v4 : Value) (l : Loc) (h : LocR w B v1 v2 v3 v4 l) (hB : B ≤ w.heap.size) (hG : Gm w) (hR : rightL l = true) (hok : NewOk l) :
  Calls Tryz.prog 10 #[.agg #[v1, v2, v3, v4]] w fun e w' => ∃ T, e = .returned (.pointer (some ⟨T, 0, none⟩)) ∧ w.heap.size ≤ T ∧ TabAt w' T l 0 ∧ Below w.heap.size w w' ∧ (∀ S W, S < w.heap.size → Fr w' W (· = S) → TabAt W T l 0) := by
 obtain ⟨X, hX⟩ : ∃ X, X = w.heap.size := ⟨_, rfl⟩
 obtain ⟨W, hW⟩ : ∃ W, W = w.alloc (.cells #[v1, v2, v3, v4] 30) := ⟨_, rfl⟩
 have hb : Below w.heap.size w W := by rw [hW]; exact (Below.refl _ _).alloc (Nat.le_refl _) _
 have hr := locRight_any W B v1 v2 v3 v4 l (h.on hb hB) (by have := hb.size; omega) (hG.next hb)
 rw [hR] at hr
 have hrow : Rw W X 30 #[v1, v2, v3, v4] := by rw [hW, hX]; exact heap_alloc_new w _
 have HL := Lib.hid (h.on hb hB)
 have hsz := hb.size
 obtain ⟨⟨A1, c1, x1, rfl, -⟩, ⟨A2, c2, rfl, -⟩, ⟨A3, c3, rfl, -⟩, ⟨A4, c4, x4, rfl, -⟩, -⟩ := h
 have p0 : W.cell? ⟨X, 0, none⟩ = some (.slice A1 l.cls.length c1) := hrow.cell rfl
 have p1 : W.cell? ⟨X, 1, none⟩ = some (.slice A2 l.up.length c2) := hrow.cell rfl
 have p2 : W.cell? ⟨X, 2, none⟩ = some (.slice A3 l.lo.length c3) := hrow.cell rfl
 have p3 : W.cell? ⟨X, 3, none⟩ = some (.slice A4 l.ord.length c4) := hrow.cell rfl
 have HB := Lib.hid hb
 have HBW : Hid (B ≤ W.heap.size) := Lib.hid (by omega)
 have HRW := Lib.hid hrow
 clear hb hrow hG hsz
 go_enter Tryz.func10, Tryz.ntmps10
 go_wp2_with fail
 rw [← hX, ← hW]
 clear hW hX
 refine hr.mono ?_
 rintro e w1 ⟨rfl, hb1⟩
 have HB1 : Hid (Below w.heap.size w w1) := Lib.hid (HB.out.trans (hb1.mono HB.out.size))
 have HL1 : Hid (LocR w1.drew B _ _ _ _ l) := Lib.hid ((HL.out.on hb1 HBW.out).on (Below.refl _ _).drew (Nat.le_trans HBW.out hb1.size))
 have q0 := below_cell hb1 p0
 have q1 := below_cell hb1 p1
 have q2 := below_cell hb1 p2
 have q3 := below_cell hb1 p3
 have hb1s := hb1.size
 clear hr hb1 p0 p1 p2 p3
 have hord := right_ord hR
 have hce := copiesE_any w1.drew B _ l.ord HL1.out.2.2.2.1 (Nat.le_trans HBW.out hb1s) (by unfold ordB at hord; simp only [Bool.and_eq_true, decide_eq_true_eq] at hord; omega) (fun e he => ⟨hok.ord e he, by have := len4 hord he; omega⟩)
 clear hord
 go_wp2
 refine wp_region_held (S := fun W' : World => W'.cell? ⟨X, 0, none⟩ = some (.slice A1 l.cls.length c1) ∧ W'.cell? ⟨X, 1, none⟩ = some (.slice A2 l.up.length c2) ∧ W'.cell? ⟨X, 2, none⟩ = some (.slice A3 l.lo.length c3) ∧ W'.cell? ⟨X, 3, none⟩ = some (.slice A4 l.ord.length c4)) (by kernel_rfl) ?_
 change wpAnyH _ _ _ _ _ _ _ _ w1.drew
 have hS1 : (fun W' : World => W'.cell? ⟨X, 0, none⟩ = some (.slice A1 l.cls.length c1) ∧ W'.cell? ⟨X, 1, none⟩ = some (.slice A2 l.up.length c2) ∧ W'.cell? ⟨X, 2, none⟩ = some (.slice A3 l.lo.length c3) ∧ W'.cell? ⟨X, 3, none⟩ = some (.slice A4 l.ord.length c4)) w1.drew := ⟨q0, q1, q2, q3⟩
 iterate 2 (refine wpH rfl rfl ?_; try simp only [Act.put, g1, g2, g3, g4, g5, g6])
 refine wpHn 4 rfl ?_; try simp only [Act.put, g1, g2, g3, g4, g5, g6]
 refine wpHn 5 rfl ?_; try simp only [Act.put, g1, g2, g3, g4, g5, g6]
 refine wpHn 8 rfl ?_; try simp only [Act.put, g1, g2, g3, g4, g5, g6]
 refine wpHn 9 rfl ?_; try simp only [Act.put, g1, g2, g3, g4, g5, g6]
 refine wpHn 12 rfl ?_; try simp only [Act.put, g1, g2, g3, g4, g5, g6]
 refine wpHn 13 rfl ?_; try simp only [Act.put, g1, g2, g3, g4, g5, g6]
 have HS := Lib.hid hS1
 clear q0 q1 q2 q3
 refine wpAnyH_one (i := 2) (by kernel_rfl) rfl (fun K hK => ?_)
 simp only [g4, g5, g6]
 go_simp
 go_at_call 28
 refine hce.mono ?_
 rintro e w2 ⟨u4, rfl, ho, hb⟩
 obtain ⟨B4, d4, rfl⟩ := ho.form
 have hS2 : (fun W' : World => W'.cell? ⟨X, 0, none⟩ = some (.slice A1 l.cls.length c1) ∧ W'.cell? ⟨X, 1, none⟩ = some (.slice A2 l.up.length c2) ∧ W'.cell? ⟨X, 2, none⟩ = some (.slice A3 l.lo.length c3) ∧ W'.cell? ⟨X, 3, none⟩ = some (.slice A4 l.ord.length c4)) w2 := ⟨below_cell hb HS.out.1, below_cell hb HS.out.2.1, below_cell hb HS.out.2.2.1, below_cell hb HS.out.2.2.2⟩
 have HL2 := Lib.hid (HL1.out.on hb (Nat.le_trans HBW.out hb1s))
 have HB2 : Hid (Below w.heap.size w w2) := Lib.hid (HB1.out.drew.trans (hb.mono HB1.out.size))
 have hs2 : w1.heap.size ≤ w2.heap.size := hb.size
 have HO2 := Lib.hid (ho.low (b' := w.heap.size) HB1.out.size)
 have hcc := copiesC_any w2 B _ l.cls HL2.out.1 (Nat.le_trans (Nat.le_trans HBW.out hb1s) hs2) hok.cls.1 hok.cls.2
 clear hce ho hb HL1 HB1 HS
 have HS := Lib.hid hS2
 refine hK.out _ _ hS2 (fun _ => ?_)
 try simp only [Act.put, g1, g2, g3, g4, g5, g6]
 refine wpHn 3 rfl ?_; try simp only [Act.put, g1, g2, g3, g4, g5, g6]
 refine wpAnyH_one (i := 6) (by kernel_rfl) rfl (fun K hK => ?_)
 simp only [g4, g5, g6]
 go_simp
 go_at_call 30
 refine hcc.mono ?_
 rintro e w3 ⟨u1, rfl, hc, hb⟩
 obtain ⟨B1, d1, rfl⟩ : ∃ B1 d1, u1 = .slice B1 l.cls.length d1 := by obtain ⟨_, _, h2, _⟩ := hc; exact row_form h2
 have hS3 : (fun W' : World => W'.cell? ⟨X, 0, none⟩ = some (.slice A1 l.cls.length c1) ∧ W'.cell? ⟨X, 1, none⟩ = some (.slice A2 l.up.length c2) ∧ W'.cell? ⟨X, 2, none⟩ = some (.slice A3 l.lo.length c3) ∧ W'.cell? ⟨X, 3, none⟩ = some (.slice A4 l.ord.length c4)) w3 := ⟨below_cell hb HS.out.1, below_cell hb HS.out.2.1, below_cell hb HS.out.2.2.1, below_cell hb HS.out.2.2.2⟩
 have HL3 := Lib.hid (HL2.out.on hb (by have := HBW.out; omega))
 have HB3 : Hid (Below w.heap.size w w3) := Lib.hid (HB2.out.trans (hb.mono HB2.out.size))
 have hs3 := hb.size
 have HO3 := Lib.hid (HO2.out.next hb)
 have HC3 := Lib.hid (hc.low (b' := w.heap.size) HB2.out.size)
 have hcp := cloneP_any w3 B _ l.up HL3.out.2.1 hok.up
 clear hcc hc hb HL2 HB2 HO2 HS
 have HS := Lib.hid hS3
 refine hK.out _ _ hS3 (fun _ => ?_)
 try simp only [Act.put, g1, g2, g3, g4, g5, g6]
 refine wpHn 7 rfl ?_; try simp only [Act.put, g1, g2, g3, g4, g5, g6]
 refine wpAnyH_one (i := 10) (by kernel_rfl) rfl (fun K hK => ?_)
 simp only [g4, g5, g6]
 go_simp
 go_at_call 32
 refine hcp.mono ?_
 rintro e w4 ⟨u2, rfl, hp, hb⟩
 obtain ⟨B2, d2, rfl⟩ := row_form hp
 have hS4 : (fun W' : World => W'.cell? ⟨X, 0, none⟩ = some (.slice A1 l.cls.length c1) ∧ W'.cell? ⟨X, 1, none⟩ = some (.slice A2 l.up.length c2) ∧ W'.cell? ⟨X, 2, none⟩ = some (.slice A3 l.lo.length c3) ∧ W'.cell? ⟨X, 3, none⟩ = some (.slice A4 l.ord.length c4)) w4 := ⟨below_cell hb HS.out.1, below_cell hb HS.out.2.1, below_cell hb HS.out.2.2.1, below_cell hb HS.out.2.2.2⟩
 have HL4 := Lib.hid (HL3.out.on hb (by have := HBW.out; omega))
 have HB4 : Hid (Below w.heap.size w w4) := Lib.hid (HB3.out.trans (hb.mono HB3.out.size))
 have hs4 := hb.size
 have HO4 := Lib.hid (HO3.out.next hb)
 have HC4 := Lib.hid (HC3.out.next hb)
 have HP4 := Lib.hid (own_low (b' := w.heap.size) hp HB3.out.size)
 have hcq := cloneP_any w4 B _ l.lo HL4.out.2.2.1 hok.lo
 clear hcp hp hb HL3 HB3 HO3 HC3 HS
 have HS := Lib.hid hS4
 refine hK.out _ _ hS4 (fun _ => ?_)
 try simp only [Act.put, g1, g2, g3, g4, g5, g6]
 refine wpHn 11 rfl ?_; try simp only [Act.put, g1, g2, g3, g4, g5, g6]
 refine wpAnyH_one (i := 14) (by kernel_rfl) rfl (fun K hK => ?_)
 simp only [g4, g5, g6]
 go_simp
 go_at_call 32
 refine hcq.mono ?_
 rintro e w5 ⟨u3, rfl, hp, hb⟩
 obtain ⟨B3, d3, rfl⟩ := row_form hp
 have hS5 : (fun W' : World => W'.cell? ⟨X, 0, none⟩ = some (.slice A1 l.cls.length c1) ∧ W'.cell? ⟨X, 1, none⟩ = some (.slice A2 l.up.length c2) ∧ W'.cell? ⟨X, 2, none⟩ = some (.slice A3 l.lo.length c3) ∧ W'.cell? ⟨X, 3, none⟩ = some (.slice A4 l.ord.length c4)) w5 := ⟨below_cell hb HS.out.1, below_cell hb HS.out.2.1, below_cell hb HS.out.2.2.1, below_cell hb HS.out.2.2.2⟩
 have HB5 : Hid (Below w.heap.size w w5) := Lib.hid (HB4.out.trans (hb.mono HB4.out.size))
 have HLA : Hid (LocAt w5 w.heap.size (.slice B1 l.cls.length d1) (.slice B2 l.up.length d2) (.slice B3 l.lo.length d3) (.slice B4 l.ord.length d4) l) := Lib.hid ⟨HC4.out.next hb, own_next HP4.out hb, own_low hp HB4.out.size, HO4.out.next hb⟩
 clear hcq hp hb HL4 HB4 HO4 HC4 HP4 HS
 have hend : Hid (Below w.heap.size w (w5.alloc (.cells (tabL (.slice B1 l.cls.length d1) (.slice B2 l.up.length d2) (.slice B3 l.lo.length d3) (.slice B4 l.ord.length d4)).toArray 107)) ∧ TabAt (w5.alloc (.cells (tabL (.slice B1 l.cls.length d1) (.slice B2 l.up.length d2) (.slice B3 l.lo.length d3) (.slice B4 l.ord.length d4)).toArray 107)) w5.heap.size l 0 ∧ (∀ S W, S < w.heap.size → Fr (w5.alloc (.cells (tabL (.slice B1 l.cls.length d1) (.slice B2 l.up.length d2) (.slice B3 l.lo.length d3) (.slice B4 l.ord.length d4)).toArray 107)) W (· = S) → TabAt W w5.heap.size l 0)) := by
  have h1 : Row (w5.alloc (.cells (tabL (.slice B1 l.cls.length d1) (.slice B2 l.up.length d2) (.slice B3 l.lo.length d3) (.slice B4 l.ord.length d4)).toArray 107)) w5.heap.size 107 (tabL (.slice B1 l.cls.length d1) (.slice B2 l.up.length d2) (.slice B3 l.lo.length d3) (.slice B4 l.ord.length d4)) := heap_alloc_new w5 _
  have hb : Below w5.heap.size w5 (w5.alloc (.cells (tabL (.slice B1 l.cls.length d1) (.slice B2 l.up.length d2) (.slice B3 l.lo.length d3) (.slice B4 l.ord.length d4)).toArray 107)) := (Below.refl _ _).alloc (Nat.le_refl _) _
  have hok1 : ∀ c ∈ l.cls, c.name.length ≤ maxLen := fun c hc => by have := (hok.cls.2 c hc).1; unfold maxLen; omega
  have hok2 : ∀ e ∈ l.ord, e.name.length ≤ maxLen := fun e he => by have := hok.ord e he; unfold maxLen; omega
  have h0 := HB5.out.size
  refine Lib.hid ⟨HB5.out.alloc HB5.out.size _, TabAt.new h1 ((LocR.of HLA.out hok1 hok2).on hb (Nat.le_refl _)), fun S W hS hf => ?_⟩
  have hf2 : Fr w5 W (· = S) := (Fr.of_below hb).trans hf
  exact TabAt.new (h1.fr hf (by omega)) (HLA.out.turned hf2 hS h0 hok1 hok2)
 refine hK.out _ _ hS5 (fun _ => ?_)
 try simp only [Act.put, g1, g2, g3, g4, g5, g6]
 refine wpHn 15 rfl ?_; try simp only [Act.put, g1, g2, g3, g4, g5, g6]
 refine wpHn 16 rfl ?_; try simp only [Act.put, g1, g2, g3, g4, g5, g6]
 refine wpAnyH_one (i := 17) (by kernel_rfl) rfl (fun K hK => ?_)
 simp only [g4, g5, g6]
 go_simp
 unfold tabL at hend
 have hba : Below w5.heap.size w5 (w5.alloc (.cells (tabL (.slice B1 l.cls.length d1) (.slice B2 l.up.length d2) (.slice B3 l.lo.length d3) (.slice B4 l.ord.length d4)).toArray 107)) := (Below.refl _ _).alloc (Nat.le_refl _) _
 have hS6 : (fun W' : World => W'.cell? ⟨X, 0, none⟩ = some (.slice A1 l.cls.length c1) ∧ W'.cell? ⟨X, 1, none⟩ = some (.slice A2 l.up.length c2) ∧ W'.cell? ⟨X, 2, none⟩ = some (.slice A3 l.lo.length c3) ∧ W'.cell? ⟨X, 3, none⟩ = some (.slice A4 l.ord.length c4)) (w5.alloc (.cells (tabL (.slice B1 l.cls.length d1) (.slice B2 l.up.length d2) (.slice B3 l.lo.length d3) (.slice B4 l.ord.length d4)).toArray 107)) := ⟨below_cell hba hS5.1, below_cell hba hS5.2.1, below_cell hba hS5.2.2.1, below_cell hba hS5.2.2.2⟩
 unfold tabL at hS6
 have hT : Hid (w.heap.size ≤ w5.heap.size) := Lib.hid HB5.out.size
 clear hba hS5 HB5 HLA
 refine hK.out _ _ hS6 (fun _ => ?_)
 try simp only [Act.put, g1, g2, g3, g4, g5, g6]
 refine wpHn 18 rfl ?_; try simp only [Act.put, g1, g2, g3, g4, g5, g6]
 refine wpAnyH_done (by kernel_rfl) ?_ _
 go_wp2
 go_ret
 exact ⟨w5.heap.size, rfl, hT.out, hend.out.2.1, hend.out.1, hend.out.2.2⟩
end Go.Proofs.YtknjhlbhbnldpaaGreatDoor.C

namespace Go.Proofs.YtknjhlbhbnldpaaGreatDoor.C
open Go.RowKit

def plainCls : List Cls := [⟨[117, 112, 112, 101, 114], [(65, 90)]⟩, ⟨[108, 111, 119, 101, 114], [(97, 122)]⟩, ⟨[97, 108, 112, 104, 97], [(65, 90), (97, 122)]⟩, ⟨[100, 105, 103, 105, 116], [(48, 57)]⟩, ⟨[97, 108, 110, 117, 109], [(48, 57), (65, 90), (97, 122)]⟩, ⟨[115, 112, 97, 99, 101], [(9, 13), (32, 32)]⟩, ⟨[98, 108, 97, 110, 107], [(9, 9), (32, 32)]⟩, ⟨[112, 117, 110, 99, 116], [(33, 47), (58, 64), (91, 96), (123, 126)]⟩, ⟨[112, 114, 105, 110, 116], [(32, 126)]⟩, ⟨[103, 114, 97, 112, 104], [(33, 126)]⟩, ⟨[99, 110, 116, 114, 108], [(0, 31), (127, 127)]⟩, ⟨[120, 100, 105, 103, 105, 116], [(48, 57), (65, 70), (97, 102)]⟩]
set_option maxRecDepth 100000 in
theorem span_any (a b : Int) (w : World) : Calls Tryz.prog 73 #[.int .i32 a, .int .i32 b] w fun e w' => e = .returned (.agg #[.int .i32 a, .int .i32 b]) ∧ Below w.heap.size w w' := by
 go_enter Tryz.func73, Tryz.ntmps73
 go_wp2
 refine bodyPost_ret (v := .agg #[.int .i32 a, .int .i32 b]) (by simp [results, Tryz.results73, go_sem]) rfl ⟨rfl, ?_⟩
 exact (Below.refl _ _).alloc (Nat.le_refl _) _
set_option maxRecDepth 100000 in
theorem class_any (s : ByteArray) (A : Option Addr) (n c : Nat) (w : World) : Calls Tryz.prog 74 #[.string s, .slice A n c] w fun e w' => e = .returned (.agg #[.string s, .slice A n c]) ∧ Below w.heap.size w w' := by
 go_enter Tryz.func74, Tryz.ntmps74
 go_wp2
 refine bodyPost_ret (v := .agg #[.string s, .slice A n c]) (by simp [results, Tryz.results74, go_sem]) rfl ⟨rfl, ?_⟩
 exact (Below.refl _ _).alloc (Nat.le_refl _) _
def OwnAll (W : World) (B : Nat) (L : List (Value × List (Int × Int))) : Prop := ∀ p ∈ L, W.ownsRow B 109 2 p.1 p.2.length (prsC p.2)
theorem OwnAll.next {W W' : World} {B : Nat} {L : List (Value × List (Int × Int))} (h : OwnAll W B L) (hb : Below W.heap.size W W') : OwnAll W' B L := fun p hp => own_next (h p hp) hb
theorem own_newK {W : World} {B n sz : Nat} {e : TypeId} {l : List Value} (hB : B ≤ W.heap.size) (hl : l.length = n * sz) (hn : n ≤ maxLen) : (W.alloc (.cells l.toArray e)).ownsRow B e sz (.slice (some ⟨W.heap.size, 0, none⟩) n n) n l :=
 ⟨hl, .inr ⟨W.heap.size, n, l.toArray, rfl, hB, heap_alloc_new W _, Nat.le_refl _, hn, by simpa using hl, by rw [List.toList_toArray, List.take_of_length_le (by omega)]⟩⟩
theorem OwnAll.cons {W : World} {B n : Nat} {L : List (Value × List (Int × Int))} (rs : List (Int × Int)) (h : OwnAll W B L) (hB : B ≤ W.heap.size) (hn : rs.length = n) (hm : n ≤ maxLen) : OwnAll (W.alloc (.cells (prsC rs).toArray 109)) B (L ++ [(.slice (some ⟨W.heap.size, 0, none⟩) n n, rs)]) := by
 intro p hp
 rcases List.mem_append.1 hp with hp | hp
 ·exact own_next (h p hp) ((Below.refl _ _).alloc (Nat.le_refl _) _)
 ·rw [List.mem_singleton] at hp
  subst hp
  subst hn
  exact own_newK hB (by rw [prsC_flat, flat_lenK (sz := 2) (by intro x hx; obtain ⟨y, _, rfl⟩ := List.mem_map.1 hx; rfl), List.length_map]) hm
structure Fp where
 b1 : Bool
 b2 : Bool
 b3 : Bool
 b4 : Bool
 b5 : Bool
 c1 : Bool
 c2 : Bool
 c3 : Bool
 c4 : Bool
 c5 : Bool
def Fp.left (f : Fp) : Nat := (!f.b1).toNat + (!f.b2).toNat + (!f.b3).toNat + (!f.b4).toNat + (!f.b5).toNat + (!f.c1).toNat + (!f.c2).toNat + (!f.c3).toNat + (!f.c4).toNat + (!f.c5).toNat
def Fp.arr (f : Fp) : Array Bool := #[true, f.b1, f.c1, true, f.b2, f.c2, true, true, f.b3, f.c3, true, f.b4, f.c4, true, true, true, f.b5, f.c5, false, true, false, false, false, true, false, false, false, false, false, false, false, false, false, false, false, false, false, false, false, false, false, false, true, false, false, false, false, false, false]
def Fp.ok (f : Fp) : Nat → Bool
 | 1 => !f.b1
 | 4 => !f.b2
 | 8 => !f.b3
 | 11 => !f.b4
 | 16 => !f.b5
 | 2 => f.b1 && !f.c1
 | 5 => f.b2 && f.c1 && !f.c2
 | 9 => f.b3 && f.c2 && !f.c3
 | 12 => f.b4 && f.c3 && !f.c4
 | 17 => f.b5 && f.c4 && !f.c5
 | 18 => f.left == 0
 | _ => false
def Fp.fit (f : Fp) : Bool := (!f.c1 || (f.b1)) && (!f.c2 || (f.b2 && f.c1)) && (!f.c3 || (f.b3 && f.c2)) && (!f.c4 || (f.b4 && f.c3)) && (!f.c5 || (f.b5 && f.c4))
noncomputable def pcOps : Array Oper := match Tryz.f34.body with | some (.seq _ (.seq _ (.seq _ (.seq (.region _ ops _) _)))) => ops | _ => #[]
set_option maxHeartbeats 4000000 in
theorem pc_ready0 : ∀ b1 b2 b3 b4 b5 c1 c2 c3 c4 c5 : Bool, ((!(Fp.fit ⟨b1, b2, b3, b4, b5, c1, c2, c3, c4, c5⟩)) || ((Region.ready .any pcOps (Fp.arr ⟨b1, b2, b3, b4, b5, c1, c2, c3, c4, c5⟩)).all (Fp.ok ⟨b1, b2, b3, b4, b5, c1, c2, c3, c4, c5⟩) && ((Fp.left ⟨b1, b2, b3, b4, b5, c1, c2, c3, c4, c5⟩ == 0) || !(Region.ready .any pcOps (Fp.arr ⟨b1, b2, b3, b4, b5, c1, c2, c3, c4, c5⟩)).isEmpty))) = true := by decide +kernel
theorem pc_ready (f : Fp) (h : f.fit = true) : (Region.ready .any pcOps f.arr).all f.ok = true ∧ ((f.left == 0) || !(Region.ready .any pcOps f.arr).isEmpty) = true := by
 have := pc_ready0 f.b1 f.b2 f.b3 f.b4 f.b5 f.c1 f.c2 f.c3 f.c4 f.c5
 rw [show Fp.fit ⟨f.b1, f.b2, f.b3, f.b4, f.b5, f.c1, f.c2, f.c3, f.c4, f.c5⟩ = true from h, Bool.not_true, Bool.false_or, Bool.and_eq_true] at this
 exact this
structure PcI (w0 : World) (f : Fp) (x10 x11 x13 x14 x17 x18 x20 x21 x25 x26 : Value) (W : World) : Prop where
 bel : Below w0.heap.size w0 W
 fit : f.fit = true
 hb1 : f.b1 = true → (∃ g c, x10 = .slice (some ⟨g, 0, none⟩) 1 c) ∧ W.ownsRow w0.heap.size 109 2 x10 1 (prsC [(65, 90)])
 hb2 : f.b2 = true → (∃ g c, x13 = .slice (some ⟨g, 0, none⟩) 1 c) ∧ W.ownsRow w0.heap.size 109 2 x13 1 (prsC [(97, 122)])
 hb3 : f.b3 = true → (∃ g c, x17 = .slice (some ⟨g, 0, none⟩) 2 c) ∧ W.ownsRow w0.heap.size 109 2 x17 2 (prsC [(65, 90), (97, 122)])
 hb4 : f.b4 = true → (∃ g c, x20 = .slice (some ⟨g, 0, none⟩) 1 c) ∧ W.ownsRow w0.heap.size 109 2 x20 1 (prsC [(48, 57)])
 hb5 : f.b5 = true → (∃ g c, x25 = .slice (some ⟨g, 0, none⟩) 3 c) ∧ W.ownsRow w0.heap.size 109 2 x25 3 (prsC [(48, 57), (65, 90), (97, 122)])
 hc1 : f.c1 = true → x11 = .agg #[.string ⟨#[117, 112, 112, 101, 114]⟩, x10]
 hc2 : f.c2 = true → x14 = .agg #[.string ⟨#[108, 111, 119, 101, 114]⟩, x13]
 hc3 : f.c3 = true → x18 = .agg #[.string ⟨#[97, 108, 112, 104, 97]⟩, x17]
 hc4 : f.c4 = true → x21 = .agg #[.string ⟨#[100, 105, 103, 105, 116]⟩, x20]
 hc5 : f.c5 = true → x26 = .agg #[.string ⟨#[97, 108, 110, 117, 109]⟩, x25]
theorem PcI.next {w0 W W' : World} {f : Fp} {x10 x11 x13 x14 x17 x18 x20 x21 x25 x26 : Value} (h : PcI w0 f x10 x11 x13 x14 x17 x18 x20 x21 x25 x26 W) (hb : Below W.heap.size W W') : PcI w0 f x10 x11 x13 x14 x17 x18 x20 x21 x25 x26 W' :=
 ⟨h.bel.trans (hb.mono h.bel.size), h.fit, fun e => ⟨(h.hb1 e).1, own_next (h.hb1 e).2 hb⟩, fun e => ⟨(h.hb2 e).1, own_next (h.hb2 e).2 hb⟩, fun e => ⟨(h.hb3 e).1, own_next (h.hb3 e).2 hb⟩, fun e => ⟨(h.hb4 e).1, own_next (h.hb4 e).2 hb⟩, fun e => ⟨(h.hb5 e).1, own_next (h.hb5 e).2 hb⟩, h.hc1, h.hc2, h.hc3, h.hc4, h.hc5⟩
def pcAct (p1 p2 p3 p4 : Nat) (x10 x11 x13 x14 x17 x18 x20 x21 x25 x26 : Value) : Act := { tmps := #[.slice none 0 0, .pointer (some ⟨p1, 0, none⟩), .pointer (some ⟨p2, 0, none⟩), .pointer (some ⟨p3, 0, none⟩), .pointer (some ⟨p4, 0, none⟩), .agg #[.int .i32 65, .int .i32 90], .agg #[.int .i32 97, .int .i32 122], .agg #[.int .i32 48, .int .i32 57], .agg #[.int .i32 32, .int .i32 32], .agg #[.int .i32 65, .int .i32 90], x10, x11, .agg #[.int .i32 97, .int .i32 122], x13, x14, .agg #[.int .i32 65, .int .i32 90], .agg #[.int .i32 97, .int .i32 122], x17, x18, .agg #[.int .i32 48, .int .i32 57], x20, x21, .agg #[.int .i32 48, .int .i32 57], .agg #[.int .i32 65, .int .i32 90], .agg #[.int .i32 97, .int .i32 122], x25, x26, undef, .agg #[.int .i32 32, .int .i32 32], undef, undef, undef, .agg #[.int .i32 32, .int .i32 32], undef, undef, undef, undef, undef, undef, undef, undef, undef, undef, undef, undef, undef, undef, undef, undef, undef, undef, .agg #[.int .i32 48, .int .i32 57], undef, undef, undef, undef, undef], defers := [] }
def PcS (p1 p2 p3 p4 : Nat) : World → Prop := fun W' => W'.cell? ⟨p1, 0, none⟩ = some (.int .i32 65) ∧ W'.cell? ⟨p1, 1, none⟩ = some (.int .i32 90) ∧ W'.cell? ⟨p2, 0, none⟩ = some (.int .i32 97) ∧ W'.cell? ⟨p2, 1, none⟩ = some (.int .i32 122) ∧ W'.cell? ⟨p3, 0, none⟩ = some (.int .i32 48) ∧ W'.cell? ⟨p3, 1, none⟩ = some (.int .i32 57) ∧ W'.cell? ⟨p4, 0, none⟩ = some (.int .i32 32) ∧ W'.cell? ⟨p4, 1, none⟩ = some (.int .i32 32)
theorem PcS.next {p1 p2 p3 p4 : Nat} {W W' : World} (h : PcS p1 p2 p3 p4 W) (hb : Below W.heap.size W W') : PcS p1 p2 p3 p4 W' := ⟨below_cell hb h.1, below_cell hb h.2.1, below_cell hb h.2.2.1, below_cell hb h.2.2.2.1, below_cell hb h.2.2.2.2.1, below_cell hb h.2.2.2.2.2.1, below_cell hb h.2.2.2.2.2.2.1, below_cell hb h.2.2.2.2.2.2.2⟩
def PcQ (w0 : World) (p1 p2 p3 p4 : Nat) (n : Nat) (listed : Array Bool) (a : Act) (W : World) : Prop := ∃ (f : Fp) (x10 x11 x13 x14 x17 x18 x20 x21 x25 x26 : Value), n = f.left ∧ listed = f.arr ∧ a = pcAct p1 p2 p3 p4 x10 x11 x13 x14 x17 x18 x20 x21 x25 x26 ∧ PcS p1 p2 p3 p4 W ∧ PcI w0 f x10 x11 x13 x14 x17 x18 x20 x21 x25 x26 W
end Go.Proofs.YtknjhlbhbnldpaaGreatDoor.C

namespace Go.Proofs.YtknjhlbhbnldpaaGreatDoor.C
open Go.RowKit

theorem row_len {ki : IntKind} {w : World} {a : Option Addr} {len cap : Nat} {zs : List Int} (h : L.IsRow ki w a len cap zs) : len ≤ cap ∧ cap ≤ maxLen := by
 rcases h with ⟨rfl, rfl, rfl, rfl⟩ | ⟨x, rfl, hl, hm, hz, hc, _⟩
 ·exact ⟨Nat.le_refl _, Nat.zero_le _⟩
 ·exact ⟨hl, hm⟩
theorem row_u8 {w : World} {a : Option Addr} {len cap : Nat} {zs : List Int} (h : L.IsRow .u8 w a len cap zs) : ∀ z ∈ zs.take len, 0 ≤ z ∧ z ≤ 255 := by
 rcases h with ⟨rfl, rfl, rfl, rfl⟩ | ⟨x, rfl, hl, hm, hz, hc, hw⟩
 ·intro z hz; simp at hz
 ·intro z hz
  exact bounds_u8 (hw z (List.mem_of_mem_take hz))
theorem byte_in {a : Int} (h : (Lit.int .u8 a).wf = true) : 0 ≤ a ∧ a < 256 := by
 have hmin : IntKind.u8.min = 0 := rfl
 have hmax : IntKind.u8.max = 255 := rfl
 simp only [Lit.wf, Bool.and_eq_true, decide_eq_true_eq] at h
 omega
theorem i32_in {a : Int} (h : (Lit.int .i32 a).wf = true) : -2147483648 ≤ a ∧ a < 2147483648 := by
 have hmin : IntKind.i32.min = -2147483648 := rfl
 have hmax : IntKind.i32.max = 2147483647 := rfl
 simp only [Lit.wf, Bool.and_eq_true, decide_eq_true_eq] at h
 omega
theorem RI.on {ki : IntKind} {w w' : World} {B B' n : Nat} {A : Option Addr} {zs : List Int} (h : RI ki w B A n zs) (hb : Below B' w w') (hB : B ≤ B') : RI ki w' B A n zs := h.keep fun p hp => hb.cell (p := p) (by omega)
theorem own_apart {w w' : World} {T n sz : Nat} {A : Option Addr} {c : Nat} {xs : List Value} {e : TypeId} (h : w'.ownsRow w.heap.size e sz (.slice A n c) n xs) (hT : T < w.heap.size) (hn : 0 < n) : ∀ ad, A = some ad → ad.block ≠ T := by
 intro ad ha
 obtain ⟨g, cap, hv, hg, hlt⟩ := h.form hn
 subst ha
 injection hv with hv
 injection hv with hv
 subst hv
 simp only
 omega
theorem genL_new (zs : List Int) (hb : Byt zs) : NewOk (genL zs) := by
 obtain ⟨hs, _⟩ := genL_small zs hb
 refine ⟨⟨by have := hs.fc; omega, fun e he => ⟨by have := (hs.n1 e he).1; omega, ?_⟩⟩, by have := hs.fu; omega, by have := hs.fl; omega, fun e he => by have := hs.n2 e he; omega⟩
 have := (clsG_rs _ _ e he).2
 omega
theorem genL_locR {w : World} {lo : Nat} {v1 v2 v3 v4 : Value} {zs : List Int} (hb : Byt zs) (h : LocAt w lo v1 v2 v3 v4 (genL zs)) : LocR w w.heap.size v1 v2 v3 v4 (genL zs) := by
 obtain ⟨_, g1, g2, _⟩ := genL_ok zs hb
 exact LocR.of h (fun c hc => by have := g1 c hc; unfold maxLen; omega) (fun e he => by have := g2 e he; unfold maxLen; omega)
theorem genL_right {zs : List Int} (hb : Byt zs) : rightL (genL zs) = true := (genL_ok zs hb).1
end Go.Proofs.YtknjhlbhbnldpaaGreatDoor.C

namespace Go.Proofs.YtknjhlbhbnldpaaGreatDoor.C
open Go.RowKit

def plK (o : List Elm) (k : Nat) (s : Int) : List Nat := (List.range k).filter fun i => (o[i]?.map Elm.same) == some s
theorem plK_all (o : List Elm) (s : Int) : plK o o.length s = placesL o s := rfl
theorem plK_next {o : List Elm} {k : Nat} {e : Elm} (he : o[k]? = some e) (s : Int) : plK o (k + 1) s = plK o k s ++ (if e.same = s then [k] else []) := by
 unfold plK
 rw [List.range_succ, List.filter_append]
 congr 1
 by_cases h : e.same = s
 ·simp [he, h]
 ·simp [he, h]
theorem plK_le (o : List Elm) (k : Nat) (s : Int) : (plK o k s).length ≤ k := by
 unfold plK
 exact Nat.le_trans (List.length_filter_le _ _) (by rw [List.length_range]; exact Nat.le_refl _)
def nat64 (l : List Nat) : List Value := l.map fun i => .int .i64 (i : Nat)
def kvV (kv : List (Int × Value)) : List (Value × Value) := kv.map fun x => (.int .i64 x.1, x.2)
structure AlSt (T M : Nat) (o : List Elm) (w : World) (k : Nat) (kv : List (Int × Value)) : Prop where
 m : MapIs w M (.int .i64) (kvV kv)
 a : ∀ (i : Nat) (e : Elm), i < k → o[i]? = some e → e.same ∈ kv.map Prod.fst
 r : ∀ x ∈ kv, w.ownsRow (T + 1) 3 1 x.2 (plK o k x.1).length (nat64 (plK o k x.1))
 p : ∀ (i j : Nat) (x y : Int × Value), kv[i]? = some x → kv[j]? = some y → i ≠ j → ∀ g, x.2.ownBlock = some g → y.2.ownBlock ≠ some g
section
variable {T M k : Nat} {o : List Elm} {w w' : World} {kv : List (Int × Value)}
theorem AlSt.next (h : AlSt T M o w k kv) (hb : Below w.heap.size w w') : AlSt T M o w' k kv :=
 ⟨h.m.at_ (hb.block M h.m.lt), h.a, fun x hx => own_next (h.r x hx) hb, h.p⟩
theorem kvV_keys (kv : List (Int × Value)) : (kvV kv).map Prod.fst = (kv.map Prod.fst).map (Value.int .i64) := by simp [kvV]
theorem AlSt.keys (h : AlSt T M o w k kv) {i j : Nat} {x y : Int × Value} (hi : kv[i]? = some x) (hj : kv[j]? = some y) (e : x.1 = y.1) : i = j := by
 obtain ⟨_, _, _, _, _, hn⟩ := h.m
 have e1 : ((kvV kv).map Prod.fst)[i]? = some (.int .i64 x.1) := by rw [kvV_keys, List.getElem?_map, List.getElem?_map, hi]; rfl
 have e2 : ((kvV kv).map Prod.fst)[j]? = some (.int .i64 x.1) := by rw [kvV_keys, List.getElem?_map, List.getElem?_map, hj, e]; rfl
 have q1 := List.getElem?_eq_some_iff.1 e1
 have q2 := List.getElem?_eq_some_iff.1 e2
 rcases Nat.lt_trichotomy i j with hlt | hlt | hlt
 ·exact absurd (q1.2.trans q2.2.symm) ((List.pairwise_iff_getElem.1 hn) i j q1.1 q2.1 hlt)
 ·exact hlt
 ·exact absurd (q2.2.trans q1.2.symm) ((List.pairwise_iff_getElem.1 hn) j i q2.1 q1.1 hlt)
theorem own_nomap {base n sz : Nat} {v : Value} {xs : List Value} {e : TypeId} {kd : TypeDesc} {l : List (Value × Value)} (h : w.ownsRow base e sz v n xs) (hm : MapIs w M kd l) : v.ownBlock ≠ some M := by
 intro hv
 obtain ⟨es, c, h1, _⟩ := hm
 rcases h.2 with ⟨rfl, _⟩ | ⟨g, cap, cur, rfl, _, hg, _⟩
 ·simp [Value.ownBlock] at hv
 ·have : g = M := by simpa [Value.ownBlock] using hv
  subst this
  rw [h1] at hg
  cases hg
theorem zeroInts (w : World) : (zeroValue 143).run Tryz.prog w = .ok (.slice none 0 0) w := by kernel_rfl
theorem AlSt.look (h : AlSt T M o w k kv) (s : Int) : ∃ A c, (∀ X, MapIs X M (.int .i64) (kvV kv) → (Instr.lookup 78 (.map (some M)) (.int .i64 s) false).run Tryz.prog X = .ok (.slice A (plK o k s).length c) X) ∧
  w.ownsRow (T + 1) 3 1 (.slice A (plK o k s).length c) (plK o k s).length (nat64 (plK o k s)) ∧ ((∃ j : Nat, kv[j]? = some (s, .slice A (plK o k s).length c)) ∨ (A = none ∧ s ∉ kv.map Prod.fst)) := by
 by_cases hs : s ∈ kv.map Prod.fst
 ·obtain ⟨x, hx, rfl⟩ := List.mem_map.1 hs
  have ho := h.r x hx
  obtain ⟨j, hj⟩ := List.mem_iff_getElem?.1 hx
  obtain ⟨s, v⟩ := x
  simp only at ho hs ⊢
  obtain ⟨A, c, rfl⟩ := row_form ho
  refine ⟨A, c, fun X hX => ?_, ho, .inl ⟨j, hj⟩⟩
  exact hX.look_yes (P := Tryz.prog) Tryz.underlying78 Tryz.underlying3 (by first | trivial | rfl) (List.mem_map.2 ⟨_, hx, rfl⟩) false
 ·have hpl : plK o k s = [] := by
   rw [plK, List.filter_eq_nil_iff]
   intro i hi hc
   cases he : o[i]? with
   | none => rw [he] at hc; cases hc
   | some e =>
    rw [he] at hc
    have : e.same = s := by simpa using hc
    exact hs (this ▸ h.a i e (List.mem_range.1 hi) he)
  rw [hpl]
  refine ⟨none, 0, fun X hX => ?_, World.ownsRow_nil _ _ _ _, .inr ⟨rfl, hs⟩⟩
  exact hX.look_no (P := Tryz.prog) Tryz.underlying78 Tryz.underlying3 (by first | trivial | rfl) (by
   rw [kvV_keys]
   intro hm
   obtain ⟨y, hy, e⟩ := List.mem_map.1 hm
   injection e with _ e
   exact hs (e ▸ hy)) (zeroInts X) false
theorem AlSt.step {Y : World} {s : Int} {A : Option Addr} {c g cap : Nat} {e : Elm} (h : AlSt T M o w k kv) (he : o[k]? = some e) (hs : e.same = s) (hv : w.ownsRow (T + 1) 3 1 (.slice A (plK o k s).length c) (plK o k s).length (nat64 (plK o k s)))
  (hj : (∃ j : Nat, kv[j]? = some (s, .slice A (plK o k s).length c)) ∨ (A = none ∧ s ∉ kv.map Prod.fst)) (hg : w.grownBy Y (Value.slice A (plK o k s).length c).ownBlock)
  (ho : Y.ownsRow (T + 1) 3 1 (.slice (some ⟨g, 0, none⟩) ((plK o k s).length + 1) cap) ((plK o k s).length + 1) (nat64 (plK o k s) ++ [.int .i64 (k : Int)])) (hat : (Value.slice A (plK o k s).length c).ownBlock = some g ∨ w.heap.size ≤ g) :
  ∃ ob kv', (Instr.mapUpdate 78 (.map (some M)) (.int .i64 s) (.slice (some ⟨g, 0, none⟩) ((plK o k s).length + 1) cap)).run Tryz.prog Y = .ok () (putObj Y M ob) ∧ AlSt T M o (putObj Y M ob) (k + 1) kv' := by
 have hmY : MapIs Y M (.int .i64) (kvV kv) := h.m.at_ (hg.block M h.m.lt (fun e => own_nomap hv h.m e.symm))
 have hput : ∀ {v : Value} {n : Nat} {xs : List Value} (ob : Obj), Y.ownsRow (T + 1) 3 1 v n xs → (putObj Y M ob).ownsRow (T + 1) 3 1 v n xs := fun ob hr => ownsRow_fr hr (.of_grown (putObj_only ob)) (fun g hg hx => own_nomap hr hmY (by rw [hg]; exact hx.symm))
 have hkeep : ∀ x ∈ kv, (x.2.ownBlock = none ∨ x.2.ownBlock ≠ (Value.slice A (plK o k s).length c).ownBlock) → Y.ownsRow (T + 1) 3 1 x.2 (plK o k x.1).length (nat64 (plK o k x.1)) := fun x hx hne => (h.r x hx).kept hg hne
 have hplo : ∀ s', s' ≠ s → plK o (k + 1) s' = plK o k s' := fun s' hne => by rw [plK_next he, if_neg (fun h => hne (h.symm.trans hs)), List.append_nil]
 have hpls : plK o (k + 1) s = plK o k s ++ [k] := by rw [plK_next he, if_pos hs]
 have hnew : Y.ownsRow (T + 1) 3 1 (.slice (some ⟨g, 0, none⟩) ((plK o k s).length + 1) cap) (plK o (k + 1) s).length (nat64 (plK o (k + 1) s)) := by
  rw [hpls, List.length_append]
  unfold nat64 at ho ⊢
  rw [List.map_append]
  exact ho
 have hblk : (Value.slice (some ⟨g, 0, none⟩) ((plK o k s).length + 1) cap).ownBlock = some g := rfl
 rcases hj with ⟨j, hj⟩ | ⟨rfl, hno⟩
 ·have hkj : (kvV kv)[j]? = some (.int .i64 s, .slice A (plK o k s).length c) := by unfold kvV; rw [List.getElem?_map, hj]; rfl
  obtain ⟨ob, hrun, hm2⟩ := hmY.put_same (P := Tryz.prog) Tryz.underlying78 Tryz.underlying3 (key := .int .i64 s) (by first | trivial | rfl) hkj (.slice (some ⟨g, 0, none⟩) ((plK o k s).length + 1) cap)
  have hset : kvV (kv.set j (s, .slice (some ⟨g, 0, none⟩) ((plK o k s).length + 1) cap)) = (kvV kv).set j (.int .i64 s, .slice (some ⟨g, 0, none⟩) ((plK o k s).length + 1) cap) := by unfold kvV; rw [List.map_set]
  have hfst : (kv.set j (s, .slice (some ⟨g, 0, none⟩) ((plK o k s).length + 1) cap)).map Prod.fst = kv.map Prod.fst := by
   rw [List.map_set]
   refine List.ext_getElem? fun n => ?_
   rw [List.getElem?_set]
   by_cases hin : j = n
   ·subst hin
    have e2 : (kv.map Prod.fst)[j]? = some s := by rw [List.getElem?_map, hj]; rfl
    rw [if_pos rfl, if_pos (List.getElem?_eq_some_iff.1 e2).1, e2]
   ·rw [if_neg hin]
  have hjl := (List.getElem?_eq_some_iff.1 hj).1
  have hat' : ∀ (i : Nat) (x : Int × Value), kv[i]? = some x → i ≠ j → ∀ g', x.2.ownBlock = some g' → g' ≠ g := by
   intro i x hi hij g' hg' e
   subst e
   rcases hat with hat | hat
   ·exact h.p i j x _ hi hj hij g' hg' hat
   ·have := ((h.r x (List.mem_of_getElem? hi)).lt g' hg').2
    omega
  refine ⟨ob, kv.set j (s, .slice (some ⟨g, 0, none⟩) ((plK o k s).length + 1) cap), hrun, by rw [hset]; exact hm2, fun i e' hi he' => ?_, fun x hx => ?_, fun i1 i2 x y h1 h2 hne b hb => ?_⟩
  ·rw [hfst]
   rcases Nat.lt_or_ge i k with h1 | h1
   ·exact h.a i e' h1 he'
   ·obtain rfl : i = k := by omega
    rw [he] at he'
    rw [← Option.some.inj he', hs]
    exact List.mem_map.2 ⟨_, List.mem_of_getElem? hj, rfl⟩
  ·obtain ⟨i, hi⟩ := List.mem_iff_getElem?.1 hx
   rw [List.getElem?_set] at hi
   by_cases hji : j = i
   ·rw [if_pos hji, if_pos (by omega)] at hi
    rw [← Option.some.inj hi]
    exact hput ob hnew
   ·rw [if_neg hji] at hi
    have hxs : x.1 ≠ s := fun e => hji (h.keys hj hi e.symm)
    rw [hplo _ hxs]
    refine hput ob (hkeep x (List.mem_of_getElem? hi) ?_)
    cases hb : x.2.ownBlock with
    | none => exact .inl rfl
    | some b => exact .inr fun e => h.p i j x _ hi hj (fun e => hji e.symm) b hb e.symm
  ·rw [List.getElem?_set] at h1 h2
   by_cases e1 : j = i1
   ·rw [if_pos e1, if_pos (by omega)] at h1
    rw [if_neg (by omega)] at h2
    rw [← Option.some.inj h1, hblk] at hb
    injection hb with hb
    subst hb
    intro e
    exact hat' i2 y h2 (by omega) g e rfl
   ·rw [if_neg e1] at h1
    by_cases e2 : j = i2
    ·rw [if_pos e2, if_pos (by omega)] at h2
     rw [← Option.some.inj h2, hblk]
     intro e
     injection e with e
     exact hat' i1 x h1 (by omega) b hb e.symm
    ·rw [if_neg e2] at h2
     exact h.p i1 i2 x y h1 h2 hne b hb
 ·have hkn : (Value.int .i64 s) ∉ (kvV kv).map Prod.fst := by
   rw [kvV_keys]
   intro hm
   obtain ⟨y, hy, e⟩ := List.mem_map.1 hm
   injection e with _ e
   exact hno (e ▸ hy)
  obtain ⟨ob, hrun, hm2⟩ := hmY.put_new (P := Tryz.prog) Tryz.underlying78 Tryz.underlying3 (key := .int .i64 s) (by first | trivial | rfl) hkn (.slice (some ⟨g, 0, none⟩) ((plK o k s).length + 1) cap)
  have hfresh : ∀ (i : Nat) (x : Int × Value), kv[i]? = some x → ∀ g', x.2.ownBlock = some g' → g' ≠ g := by
   intro i x hi g' hg' e
   subst e
   rcases hat with hat | hat
   ·simp [Value.ownBlock] at hat
   ·have := ((h.r x (List.mem_of_getElem? hi)).lt g' hg').2
    omega
  refine ⟨ob, kv ++ [(s, .slice (some ⟨g, 0, none⟩) ((plK o k s).length + 1) cap)], hrun, by unfold kvV at hm2 ⊢; rw [List.map_append]; exact hm2, fun i e' hi he' => ?_, fun x hx => ?_, fun i1 i2 x y h1 h2 hne b hb => ?_⟩
  ·rw [List.map_append]
   rcases Nat.lt_or_ge i k with h1 | h1
   ·exact List.mem_append.2 (.inl (h.a i e' h1 he'))
   ·obtain rfl : i = k := by omega
    rw [he] at he'
    rw [← Option.some.inj he', hs]
    exact List.mem_append.2 (.inr (by simp))
  ·rcases List.mem_append.1 hx with hx | hx
   ·have hxs : x.1 ≠ s := fun e => hno (List.mem_map.2 ⟨x, hx, e⟩)
    rw [hplo _ hxs]
    refine hput ob (hkeep x hx ?_)
    cases hb : x.2.ownBlock with
    | none => exact .inl rfl
    | some b => exact .inr (by simp [Value.ownBlock])
   ·rw [List.mem_singleton] at hx
    subst hx
    exact hput ob hnew
  ·rw [List.getElem?_append] at h1 h2
   split at h1
   ·split at h2
    ·exact h.p i1 i2 x y h1 h2 hne b hb
    ·have : y = (s, .slice (some ⟨g, 0, none⟩) ((plK o k s).length + 1) cap) := by
      have := List.mem_of_getElem? h2
      simpa using this
     subst this
     rw [hblk]
     intro e
     injection e with e
     exact hfresh i1 x h1 b hb e.symm
   ·have hx' : x = (s, .slice (some ⟨g, 0, none⟩) ((plK o k s).length + 1) cap) := by
     have := List.mem_of_getElem? h1
     simpa using this
    subst hx'
    rw [hblk] at hb
    injection hb with hb
    subst hb
    split at h2
    ·intro e
     exact hfresh i2 y h2 g e rfl
    ·exfalso
     have q1 := (List.getElem?_eq_some_iff.1 h1).1
     have q2 := (List.getElem?_eq_some_iff.1 h2).1
     simp only [List.length_singleton] at q1 q2
     omega
end
end Go.Proofs.YtknjhlbhbnldpaaGreatDoor.C

namespace Go.Proofs.YtknjhlbhbnldpaaGreatDoor.C
open Go.RowKit

theorem find_at {α : Type} {l : List α} {f : α → Bool} {k : Nat} {p : α} (hp : l[k]? = some p) (hf : f p = true) (hx : ∀ x ∈ l.take k, f x = false) : l.find? f = some p := by
 induction l generalizing k with
 | nil => cases hp
 | cons q r ih =>
  cases k with
  | zero =>
   obtain rfl : q = p := by simpa using hp
   rw [List.find?_cons, hf]
  | succ j =>
   rw [List.find?_cons, hx q (by rw [List.take_succ_cons]; exact List.mem_cons_self)]
   exact ih (by simpa using hp) fun x hxm => hx x (by rw [List.take_succ_cons]; exact List.mem_cons_of_mem _ hxm)
theorem take_no {α : Type} {l : List α} {f : α → Bool} {k : Nat} {p : α} (hp : l[k]? = some p) (hf : f p = false) (hx : ∀ x ∈ l.take k, f x = false) : ∀ x ∈ l.take (k + 1), f x = false := by
 rw [take_one hp]
 intro x hxm
 rcases List.mem_append.1 hxm with hxm | hxm
 ·exact hx x hxm
 ·rw [List.mem_singleton] at hxm
  subst hxm
  exact hf
theorem find_out {α : Type} {l : List α} {f : α → Bool} (hx : ∀ x ∈ l.take l.length, f x = false) : l.find? f = none := by
 rw [List.find?_eq_none]
 intro x hxm
 rw [hx x (by rw [List.take_length]; exact hxm)]
 decide
set_option maxRecDepth 100000 in
set_option maxHeartbeats 4000000 in
theorem class08_any (w : World) (B : Nat) (v1 v2 v3 v4 : Value) (l : Loc) (nm : List UInt8) (h : LocR w B v1 v2 v3 v4 l) (hB : B ≤ w.heap.size) :
  Calls Tryz.prog 50 #[.agg #[v1, v2, v3, v4], .string (str nm)] w fun e w' => Below w.heap.size w w' ∧ ∃ v, e = .returned (.tuple #[v, .bool (rangesL l.cls nm).isSome]) ∧ PrsR w' B v ((rangesL l.cls nm).getD []) := by
 obtain ⟨W, hW⟩ : ∃ W, W = w.alloc (.cells #[v1, v2, v3, v4] 30) := ⟨_, rfl⟩
 have hb : Below w.heap.size w W := by rw [hW]; exact (Below.refl _ _).alloc (Nat.le_refl _) _
 have hrow : Rw W w.heap.size 30 #[v1, v2, v3, v4] := by rw [hW]; exact heap_alloc_new w _
 obtain ⟨r1, -, -, -, n1, -, -⟩ := h.on hb hB
 obtain ⟨A, c, xs, rfl, hsi, hel⟩ := r1
 have p0 : W.cell? ⟨w.heap.size, 0, none⟩ = some (.slice A l.cls.length c) := hrow.cell rfl
 have HSI := Lib.hid hsi
 have HEL := Lib.hid hel
 have HB := Lib.hid hb
 unfold maxLen at n1
 clear hsi hel hb hrow h
 subst hW
 go_enter Tryz.func50, Tryz.ntmps50
 go_wp2
 go_loop [6] (fun i => ∃ k : Nat, k ≤ l.cls.length ∧ i = .int .i64 k ∧ Hid (∀ x ∈ l.cls.take k, (x.name == nm) = false)) (fun i => l.cls.length - (intOf i).toNat)
 case atStart => exact ⟨0, Nat.zero_le _, rfl, Lib.hid (by simp)⟩
 case round =>
  obtain ⟨k, hk, rfl, HQ⟩ := hrel
  by_cases hlt : k < l.cls.length
  ·obtain ⟨p, hp⟩ : ∃ p, l.cls[k]? = some p := ⟨_, List.getElem?_eq_getElem hlt⟩
   obtain ⟨ad, a, b, rfl, hbl, hx, hc0, hc1⟩ := HSI.out.at2 hlt
   obtain ⟨u, hx', hpr, _⟩ := HEL.out k p hp
   obtain ⟨rfl, rfl⟩ : a = .string (str p.name) ∧ b = u := by rw [hx] at hx'; simpa using hx'
   have i0 : (0 : Int) ≤ (k : Int) := by omega
   have i1 : (k : Int) < (l.cls.length : Int) := by omega
   have HP := Lib.hid hp
   have HPR := Lib.hid hpr
   by_cases e : p.name = nm
   ·have e2 : ((str p.name).toList == (str nm).toList) = true := by rw [e]; exact beq_self_eq_true _
    have HV : Hid (rangesL l.cls nm = some p.rs) := Lib.hid (by unfold rangesL; rw [find_at HP.out (by simpa using e) HQ.out]; rfl)
    obtain ⟨bA, bc, rfl, _⟩ := hpr
    clear hp hx hx' e hbl
    go_wp2
    go_ret2
    exact ⟨HB.out, _, by rw [HV.out]; rfl, by rw [HV.out]; exact HPR.out⟩
   ·have e2 : ((str p.name).toList == (str nm).toList) = false := by
     rw [beq_eq_false_iff_ne]
     intro h
     rw [Lib.toList_data, Lib.toList_data] at h
     exact e h
    have HN := Lib.hid (take_no (f := fun x : Cls => x.name == nm) HP.out (beq_eq_false_iff_ne.2 e) HQ.out)
    clear hp hx hx' hpr e hbl
    go_wp2
    go_round
    case rel => exact ⟨k + 1, by omega, by go_num, HN⟩
    case measure => simp [intOf]; omega
  ·obtain rfl : k = l.cls.length := by omega
   have HV : Hid (rangesL l.cls nm = none) := Lib.hid (by unfold rangesL; rw [find_out HQ.out]; rfl)
   go_wp2
   go_ret2
   exact ⟨HB.out, _, by rw [HV.out]; rfl, by rw [HV.out]; exact ⟨none, 0, rfl, SI.nil _ _ _ _⟩⟩
end Go.Proofs.YtknjhlbhbnldpaaGreatDoor.C
