/-
  Joined: KoM, KoN, KoQ, KoW, KpO. Each with what its own head says.
-/
import Derived.Test.YthgiikhkcpbpfaaGreatDoorB16


namespace Go.Proofs.YthgiikhkcpbpfaaGreatDoor.C
open Go.RowKit
theorem OrdAt.low {w : World} {b b' : Nat} {v : Value} {o : List Elm} (h : OrdAt w b v o) (hb : b' ≤ b) : OrdAt w b' v o := by
 obtain ⟨vs, h1, h2, h3⟩ := h
 exact ⟨vs, h1, own_low h2 hb, fun i e x a c => own_low (h3 i e x a c) hb⟩
theorem ClsAt.low {w : World} {b b' : Nat} {v : Value} {o : List Cls} (h : ClsAt w b v o) (hb : b' ≤ b) : ClsAt w b' v o := by
 obtain ⟨vs, h1, h2, h3⟩ := h
 exact ⟨vs, h1, own_low h2 hb, fun i e x a c => own_low (h3 i e x a c) hb⟩
theorem own_next {w w' : World} {b n sz : Nat} {v : Value} {xs : List Value} {e : TypeId} (h : w.ownsRow b e sz v n xs) (hb : Below w.heap.size w w') : w'.ownsRow b e sz v n xs := ownsRow_fr h (X := fun _ => False) (.of_below hb) (by rintro _ _ ⟨⟩)
theorem LocAt.fr {w w' : World} {lo : Nat} {v1 v2 v3 v4 : Value} {l : Loc} {X : Nat → Prop} (h : LocAt w lo v1 v2 v3 v4 l) (hf : Fr w w' X) (hX : ∀ j, X j → j < lo) : LocAt w' lo v1 v2 v3 v4 l := by
 have ho : ∀ {e : TypeId} {sz n : Nat} {v : Value} {xs : List Value}, w.ownsRow lo e sz v n xs → w'.ownsRow lo e sz v n xs := fun k => ownsRow_fr k hf fun g hg hx => by have := (k.lt g hg).1; have := hX g hx; omega
 obtain ⟨⟨vs, a1, a2, a3⟩, b, c, ⟨us, d1, d2, d3⟩⟩ := h
 exact ⟨⟨vs, a1, ho a2, fun i e x h1 h2 => ho (a3 i e x h1 h2)⟩, ho b, ho c, ⟨us, d1, ho d2, fun i e x h1 h2 => ho (d3 i e x h1 h2)⟩⟩
theorem LocAt.turned {w W : World} {lo S : Nat} {v1 v2 v3 v4 : Value} {l : Loc} (h : LocAt w lo v1 v2 v3 v4 l) (hf : Fr w W (· = S)) (hS : S < lo) (hlo : lo ≤ w.heap.size) (h1 : ∀ c ∈ l.cls, c.name.length ≤ maxLen) (h2 : ∀ e ∈ l.ord, e.name.length ≤ maxLen) : LocR W w.heap.size v1 v2 v3 v4 l := by
 have hSW : S < W.heap.size := by have := hf.size; omega
 have hV : Fr w (putObj w S W.heap[S]) (· = S) := ⟨rfl, rfl, rfl, by rw [putObj_size]; exact Nat.le_refl _, fun b _ hx => putObj_else w _ hx⟩
 have hb : Below w.heap.size (putObj w S W.heap[S]) W := ⟨hf.os, hf.tape, hf.output, by rw [putObj_size]; exact hf.size, fun k hk => by
  by_cases e : k = S
  ·subst e
   rw [putObj_at _ (by omega), Array.getElem?_eq_getElem hSW]
  ·rw [putObj_else w _ e]
   exact hf.block k hk e⟩
 have := LocR.of (h.fr hV (by rintro j rfl; exact hS)) h1 h2
 rw [putObj_size] at this
 exact this.on hb (Nat.le_refl _)
structure NewOk (l : Loc) : Prop where
 cls : l.cls.length ≤ 1073741824 ∧ ∀ e ∈ l.cls, e.name.length ≤ 281474976710656 ∧ e.rs.length ≤ 17592186044416
 up : l.up.length ≤ 1073741824
 lo : l.lo.length ≤ 1073741824
 ord : ∀ e ∈ l.ord, e.name.length ≤ 281474976710656
def tabL (v1 v2 v3 v4 : Value) : List Value := [.int .i64 0, v4, .int .u32 0, .int .i32 0, .int .u32 0, .map none, .int .u32 0, .int .i32 0, .int .u32 0, .map none, .int .u32 0, .int .i32 0, .int .u32 0, .map none,
 .int .u32 0, .int .i32 0, .int .u32 0, .map none, v1, .int .u32 0, .int .i32 0, .int .u32 0, .map none, v2, .int .u32 0, .int .i32 0, .int .u32 0, .map none, v3]
theorem TabAt.new {w : World} {T : Nat} {v1 v2 v3 v4 : Value} {l : Loc} (h : Row w T 131 (tabL v1 v2 v3 v4)) (hl : LocR w T v1 v2 v3 v4 l) : TabAt w T l 0 :=
 ⟨_, v1, v2, v3, v4, h, rfl, rfl, rfl, rfl, rfl, rfl, hl, ⟨rfl, .inl ⟨rfl, rfl⟩⟩, ⟨rfl, .inl ⟨rfl, rfl⟩⟩, ⟨h.lt, rfl, .inl ⟨rfl, rfl⟩⟩, ⟨rfl, .inl ⟨rfl, rfl⟩⟩, ⟨rfl, .inl ⟨rfl, rfl⟩⟩, ⟨rfl, .inl ⟨rfl, rfl⟩⟩⟩
set_option maxRecDepth 100000 in
set_option maxHeartbeats 8000000 in
theorem new_yes (w : World) (B : Nat) (v1 v2 v3 v4 : Value) (l : Loc) (h : LocR w B v1 v2 v3 v4 l) (hB : B ≤ w.heap.size) (hG : Gm w) (hR : rightL l = true) (hok : NewOk l) :
  Calls Tryz.prog 17 #[.agg #[v1, v2, v3, v4]] w fun e w' => ∃ T, e = .returned (.pointer (some ⟨T, 0, none⟩)) ∧ w.heap.size ≤ T ∧ TabAt w' T l 0 ∧ Below w.heap.size w w' ∧ (∀ S W, S < w.heap.size → Fr w' W (· = S) → TabAt W T l 0) := by
 obtain ⟨X, hX⟩ : ∃ X, X = w.heap.size := ⟨_, rfl⟩
 obtain ⟨W, hW⟩ : ∃ W, W = w.alloc (.cells #[v1, v2, v3, v4] 27) := ⟨_, rfl⟩
 have hb : Below w.heap.size w W := by rw [hW]; exact (Below.refl _ _).alloc (Nat.le_refl _) _
 have hr := locRight_any W B v1 v2 v3 v4 l (h.on hb hB) (by have := hb.size; omega) (hG.next hb)
 rw [hR] at hr
 have hrow : Rw W X 27 #[v1, v2, v3, v4] := by rw [hW, hX]; exact heap_alloc_new w _
 have HL := Lib.hid (h.on hb hB)
 have hsz := hb.size
 obtain ⟨⟨A1, c1, x1, rfl, -⟩, ⟨A2, c2, rfl, -⟩, ⟨A3, c3, rfl, -⟩, ⟨A4, c4, x4, rfl, -⟩, -⟩ := h
 have p0 : W.cell? ⟨X, 0, none⟩ = some (.slice A1 l.cls.length c1) := hrow.cell rfl
 have p1 : W.cell? ⟨X, 1, none⟩ = some (.slice A2 l.up.length c2) := hrow.cell rfl
 have p2 : W.cell? ⟨X, 2, none⟩ = some (.slice A3 l.lo.length c3) := hrow.cell rfl
 have p3 : W.cell? ⟨X, 3, none⟩ = some (.slice A4 l.ord.length c4) := hrow.cell rfl
 have HB := Lib.hid hb
 have HBW : Hid (B ≤ W.heap.size) := Lib.hid (by omega)
 have HRW := Lib.hid hrow
 clear hb hrow hG hsz
 go_enter Tryz.func17, Tryz.ntmps17
 go_wp2_with fail
 rw [← hX, ← hW]
 clear hW hX
 refine hr.mono ?_
 rintro e w1 ⟨rfl, hb1⟩
 have HB1 : Hid (Below w.heap.size w w1) := Lib.hid (HB.out.trans (hb1.mono HB.out.size))
 have HL1 : Hid (LocR w1.drew B _ _ _ _ l) := Lib.hid ((HL.out.on hb1 HBW.out).on (Below.refl _ _).drew (Nat.le_trans HBW.out hb1.size))
 have q0 := below_cell hb1 p0
 have q1 := below_cell hb1 p1
 have q2 := below_cell hb1 p2
 have q3 := below_cell hb1 p3
 have hb1s := hb1.size
 clear hr hb1 p0 p1 p2 p3
 have hord := right_ord hR
 have hce := copiesE_any w1.drew B _ l.ord HL1.out.2.2.2.1 (Nat.le_trans HBW.out hb1s) (by unfold ordB at hord; simp only [Bool.and_eq_true, decide_eq_true_eq] at hord; omega) (fun e he => ⟨hok.ord e he, by have := len4 hord he; omega⟩)
 clear hord
 go_wp2
 refine wp_region_held (S := fun W' : World => W'.cell? ⟨X, 0, none⟩ = some (.slice A1 l.cls.length c1) ∧ W'.cell? ⟨X, 1, none⟩ = some (.slice A2 l.up.length c2) ∧ W'.cell? ⟨X, 2, none⟩ = some (.slice A3 l.lo.length c3) ∧ W'.cell? ⟨X, 3, none⟩ = some (.slice A4 l.ord.length c4)) (by kernel_rfl) ?_
 change wpAnyH _ _ _ _ _ _ _ _ w1.drew
 have hS1 : (fun W' : World => W'.cell? ⟨X, 0, none⟩ = some (.slice A1 l.cls.length c1) ∧ W'.cell? ⟨X, 1, none⟩ = some (.slice A2 l.up.length c2) ∧ W'.cell? ⟨X, 2, none⟩ = some (.slice A3 l.lo.length c3) ∧ W'.cell? ⟨X, 3, none⟩ = some (.slice A4 l.ord.length c4)) w1.drew := ⟨q0, q1, q2, q3⟩
 iterate 2 (refine wpH rfl rfl ?_; try simp only [Act.put, g1, g2, g3, g4, g5, g6])
 refine wpHn 4 rfl ?_; try simp only [Act.put, g1, g2, g3, g4, g5, g6]
 refine wpHn 5 rfl ?_; try simp only [Act.put, g1, g2, g3, g4, g5, g6]
 refine wpHn 8 rfl ?_; try simp only [Act.put, g1, g2, g3, g4, g5, g6]
 refine wpHn 9 rfl ?_; try simp only [Act.put, g1, g2, g3, g4, g5, g6]
 refine wpHn 12 rfl ?_; try simp only [Act.put, g1, g2, g3, g4, g5, g6]
 refine wpHn 13 rfl ?_; try simp only [Act.put, g1, g2, g3, g4, g5, g6]
 have HS := Lib.hid hS1
 clear q0 q1 q2 q3
 refine wpAnyH_one (i := 2) (by kernel_rfl) rfl (fun K hK => ?_)
 simp only [g4, g5, g6]
 go_simp
 go_at_call 36
 refine hce.mono ?_
 rintro e w2 ⟨u4, rfl, ho, hb⟩
 obtain ⟨B4, d4, rfl⟩ := ho.form
 have hS2 : (fun W' : World => W'.cell? ⟨X, 0, none⟩ = some (.slice A1 l.cls.length c1) ∧ W'.cell? ⟨X, 1, none⟩ = some (.slice A2 l.up.length c2) ∧ W'.cell? ⟨X, 2, none⟩ = some (.slice A3 l.lo.length c3) ∧ W'.cell? ⟨X, 3, none⟩ = some (.slice A4 l.ord.length c4)) w2 := ⟨below_cell hb HS.out.1, below_cell hb HS.out.2.1, below_cell hb HS.out.2.2.1, below_cell hb HS.out.2.2.2⟩
 have HL2 := Lib.hid (HL1.out.on hb (Nat.le_trans HBW.out hb1s))
 have HB2 : Hid (Below w.heap.size w w2) := Lib.hid (HB1.out.drew.trans (hb.mono HB1.out.size))
 have hs2 : w1.heap.size ≤ w2.heap.size := hb.size
 have HO2 := Lib.hid (ho.low (b' := w.heap.size) HB1.out.size)
 have hcc := copiesC_any w2 B _ l.cls HL2.out.1 (Nat.le_trans (Nat.le_trans HBW.out hb1s) hs2) hok.cls.1 hok.cls.2
 clear hce ho hb HL1 HB1 HS
 have HS := Lib.hid hS2
 refine hK.out _ _ hS2 (fun _ => ?_)
 try simp only [Act.put, g1, g2, g3, g4, g5, g6]
 refine wpHn 3 rfl ?_; try simp only [Act.put, g1, g2, g3, g4, g5, g6]
 refine wpAnyH_one (i := 6) (by kernel_rfl) rfl (fun K hK => ?_)
 simp only [g4, g5, g6]
 go_simp
 go_at_call 38
 refine hcc.mono ?_
 rintro e w3 ⟨u1, rfl, hc, hb⟩
 obtain ⟨B1, d1, rfl⟩ : ∃ B1 d1, u1 = .slice B1 l.cls.length d1 := by obtain ⟨_, _, h2, _⟩ := hc; exact row_form h2
 have hS3 : (fun W' : World => W'.cell? ⟨X, 0, none⟩ = some (.slice A1 l.cls.length c1) ∧ W'.cell? ⟨X, 1, none⟩ = some (.slice A2 l.up.length c2) ∧ W'.cell? ⟨X, 2, none⟩ = some (.slice A3 l.lo.length c3) ∧ W'.cell? ⟨X, 3, none⟩ = some (.slice A4 l.ord.length c4)) w3 := ⟨below_cell hb HS.out.1, below_cell hb HS.out.2.1, below_cell hb HS.out.2.2.1, below_cell hb HS.out.2.2.2⟩
 have HL3 := Lib.hid (HL2.out.on hb (by have := HBW.out; omega))
 have HB3 : Hid (Below w.heap.size w w3) := Lib.hid (HB2.out.trans (hb.mono HB2.out.size))
 have hs3 := hb.size
 have HO3 := Lib.hid (HO2.out.next hb)
 have HC3 := Lib.hid (hc.low (b' := w.heap.size) HB2.out.size)
 have hcp := cloneP_any w3 B _ l.up HL3.out.2.1 hok.up
 clear hcc hc hb HL2 HB2 HO2 HS
 have HS := Lib.hid hS3
 refine hK.out _ _ hS3 (fun _ => ?_)
 try simp only [Act.put, g1, g2, g3, g4, g5, g6]
 refine wpHn 7 rfl ?_; try simp only [Act.put, g1, g2, g3, g4, g5, g6]
 refine wpAnyH_one (i := 10) (by kernel_rfl) rfl (fun K hK => ?_)
 simp only [g4, g5, g6]
 go_simp
 go_at_call 40
 refine hcp.mono ?_
 rintro e w4 ⟨u2, rfl, hp, hb⟩
 obtain ⟨B2, d2, rfl⟩ := row_form hp
 have hS4 : (fun W' : World => W'.cell? ⟨X, 0, none⟩ = some (.slice A1 l.cls.length c1) ∧ W'.cell? ⟨X, 1, none⟩ = some (.slice A2 l.up.length c2) ∧ W'.cell? ⟨X, 2, none⟩ = some (.slice A3 l.lo.length c3) ∧ W'.cell? ⟨X, 3, none⟩ = some (.slice A4 l.ord.length c4)) w4 := ⟨below_cell hb HS.out.1, below_cell hb HS.out.2.1, below_cell hb HS.out.2.2.1, below_cell hb HS.out.2.2.2⟩
 have HL4 := Lib.hid (HL3.out.on hb (by have := HBW.out; omega))
 have HB4 : Hid (Below w.heap.size w w4) := Lib.hid (HB3.out.trans (hb.mono HB3.out.size))
 have hs4 := hb.size
 have HO4 := Lib.hid (HO3.out.next hb)
 have HC4 := Lib.hid (HC3.out.next hb)
 have HP4 := Lib.hid (own_low (b' := w.heap.size) hp HB3.out.size)
 have hcq := cloneP_any w4 B _ l.lo HL4.out.2.2.1 hok.lo
 clear hcp hp hb HL3 HB3 HO3 HC3 HS
 have HS := Lib.hid hS4
 refine hK.out _ _ hS4 (fun _ => ?_)
 try simp only [Act.put, g1, g2, g3, g4, g5, g6]
 refine wpHn 11 rfl ?_; try simp only [Act.put, g1, g2, g3, g4, g5, g6]
 refine wpAnyH_one (i := 14) (by kernel_rfl) rfl (fun K hK => ?_)
 simp only [g4, g5, g6]
 go_simp
 go_at_call 40
 refine hcq.mono ?_
 rintro e w5 ⟨u3, rfl, hp, hb⟩
 obtain ⟨B3, d3, rfl⟩ := row_form hp
 have hS5 : (fun W' : World => W'.cell? ⟨X, 0, none⟩ = some (.slice A1 l.cls.length c1) ∧ W'.cell? ⟨X, 1, none⟩ = some (.slice A2 l.up.length c2) ∧ W'.cell? ⟨X, 2, none⟩ = some (.slice A3 l.lo.length c3) ∧ W'.cell? ⟨X, 3, none⟩ = some (.slice A4 l.ord.length c4)) w5 := ⟨below_cell hb HS.out.1, below_cell hb HS.out.2.1, below_cell hb HS.out.2.2.1, below_cell hb HS.out.2.2.2⟩
 have HB5 : Hid (Below w.heap.size w w5) := Lib.hid (HB4.out.trans (hb.mono HB4.out.size))
 have HLA : Hid (LocAt w5 w.heap.size (.slice B1 l.cls.length d1) (.slice B2 l.up.length d2) (.slice B3 l.lo.length d3) (.slice B4 l.ord.length d4) l) := Lib.hid ⟨HC4.out.next hb, own_next HP4.out hb, own_low hp HB4.out.size, HO4.out.next hb⟩
 clear hcq hp hb HL4 HB4 HO4 HC4 HP4 HS
 have hend : Hid (Below w.heap.size w (w5.alloc (.cells (tabL (.slice B1 l.cls.length d1) (.slice B2 l.up.length d2) (.slice B3 l.lo.length d3) (.slice B4 l.ord.length d4)).toArray 131)) ∧ TabAt (w5.alloc (.cells (tabL (.slice B1 l.cls.length d1) (.slice B2 l.up.length d2) (.slice B3 l.lo.length d3) (.slice B4 l.ord.length d4)).toArray 131)) w5.heap.size l 0 ∧ (∀ S W, S < w.heap.size → Fr (w5.alloc (.cells (tabL (.slice B1 l.cls.length d1) (.slice B2 l.up.length d2) (.slice B3 l.lo.length d3) (.slice B4 l.ord.length d4)).toArray 131)) W (· = S) → TabAt W w5.heap.size l 0)) := by
  have h1 : Row (w5.alloc (.cells (tabL (.slice B1 l.cls.length d1) (.slice B2 l.up.length d2) (.slice B3 l.lo.length d3) (.slice B4 l.ord.length d4)).toArray 131)) w5.heap.size 131 (tabL (.slice B1 l.cls.length d1) (.slice B2 l.up.length d2) (.slice B3 l.lo.length d3) (.slice B4 l.ord.length d4)) := heap_alloc_new w5 _
  have hb : Below w5.heap.size w5 (w5.alloc (.cells (tabL (.slice B1 l.cls.length d1) (.slice B2 l.up.length d2) (.slice B3 l.lo.length d3) (.slice B4 l.ord.length d4)).toArray 131)) := (Below.refl _ _).alloc (Nat.le_refl _) _
  have hok1 : ∀ c ∈ l.cls, c.name.length ≤ maxLen := fun c hc => by have := (hok.cls.2 c hc).1; unfold maxLen; omega
  have hok2 : ∀ e ∈ l.ord, e.name.length ≤ maxLen := fun e he => by have := hok.ord e he; unfold maxLen; omega
  have h0 := HB5.out.size
  refine Lib.hid ⟨HB5.out.alloc HB5.out.size _, TabAt.new h1 ((LocR.of HLA.out hok1 hok2).on hb (Nat.le_refl _)), fun S W hS hf => ?_⟩
  have hf2 : Fr w5 W (· = S) := (Fr.of_below hb).trans hf
  exact TabAt.new (h1.fr hf (by omega)) (HLA.out.turned hf2 hS h0 hok1 hok2)
 refine hK.out _ _ hS5 (fun _ => ?_)
 try simp only [Act.put, g1, g2, g3, g4, g5, g6]
 refine wpHn 15 rfl ?_; try simp only [Act.put, g1, g2, g3, g4, g5, g6]
 refine wpHn 16 rfl ?_; try simp only [Act.put, g1, g2, g3, g4, g5, g6]
 refine wpAnyH_one (i := 17) (by kernel_rfl) rfl (fun K hK => ?_)
 simp only [g4, g5, g6]
 go_simp
 unfold tabL at hend
 have hba : Below w5.heap.size w5 (w5.alloc (.cells (tabL (.slice B1 l.cls.length d1) (.slice B2 l.up.length d2) (.slice B3 l.lo.length d3) (.slice B4 l.ord.length d4)).toArray 131)) := (Below.refl _ _).alloc (Nat.le_refl _) _
 have hS6 : (fun W' : World => W'.cell? ⟨X, 0, none⟩ = some (.slice A1 l.cls.length c1) ∧ W'.cell? ⟨X, 1, none⟩ = some (.slice A2 l.up.length c2) ∧ W'.cell? ⟨X, 2, none⟩ = some (.slice A3 l.lo.length c3) ∧ W'.cell? ⟨X, 3, none⟩ = some (.slice A4 l.ord.length c4)) (w5.alloc (.cells (tabL (.slice B1 l.cls.length d1) (.slice B2 l.up.length d2) (.slice B3 l.lo.length d3) (.slice B4 l.ord.length d4)).toArray 131)) := ⟨below_cell hba hS5.1, below_cell hba hS5.2.1, below_cell hba hS5.2.2.1, below_cell hba hS5.2.2.2⟩
 unfold tabL at hS6
 have hT : Hid (w.heap.size ≤ w5.heap.size) := Lib.hid HB5.out.size
 clear hba hS5 HB5 HLA
 refine hK.out _ _ hS6 (fun _ => ?_)
 try simp only [Act.put, g1, g2, g3, g4, g5, g6]
 refine wpHn 18 rfl ?_; try simp only [Act.put, g1, g2, g3, g4, g5, g6]
 refine wpAnyH_done (by kernel_rfl) ?_ _
 go_wp2
 go_ret
 exact ⟨w5.heap.size, rfl, hT.out, hend.out.2.1, hend.out.1, hend.out.2.2⟩
end Go.Proofs.YthgiikhkcpbpfaaGreatDoor.C


namespace Go.Proofs.YthgiikhkcpbpfaaGreatDoor.C
open Go.RowKit
def plainCls : List Cls := [⟨[117, 112, 112, 101, 114], [(65, 90)]⟩, ⟨[108, 111, 119, 101, 114], [(97, 122)]⟩, ⟨[97, 108, 112, 104, 97], [(65, 90), (97, 122)]⟩, ⟨[100, 105, 103, 105, 116], [(48, 57)]⟩, ⟨[97, 108, 110, 117, 109], [(48, 57), (65, 90), (97, 122)]⟩, ⟨[115, 112, 97, 99, 101], [(9, 13), (32, 32)]⟩, ⟨[98, 108, 97, 110, 107], [(9, 9), (32, 32)]⟩, ⟨[112, 117, 110, 99, 116], [(33, 47), (58, 64), (91, 96), (123, 126)]⟩, ⟨[112, 114, 105, 110, 116], [(32, 126)]⟩, ⟨[103, 114, 97, 112, 104], [(33, 126)]⟩, ⟨[99, 110, 116, 114, 108], [(0, 31), (127, 127)]⟩, ⟨[120, 100, 105, 103, 105, 116], [(48, 57), (65, 70), (97, 102)]⟩]
def OwnAll (W : World) (B : Nat) (L : List (Value × List (Int × Int))) : Prop := ∀ p ∈ L, W.ownsRow B 46 2 p.1 p.2.length (prsC p.2)
theorem OwnAll.next {W W' : World} {B : Nat} {L : List (Value × List (Int × Int))} (h : OwnAll W B L) (hb : Below W.heap.size W W') : OwnAll W' B L := fun p hp => own_next (h p hp) hb
theorem own_newK {W : World} {B n sz : Nat} {e : TypeId} {l : List Value} (hB : B ≤ W.heap.size) (hl : l.length = n * sz) (hn : n ≤ maxLen) : (W.alloc (.cells l.toArray e)).ownsRow B e sz (.slice (some ⟨W.heap.size, 0, none⟩) n n) n l :=
 ⟨hl, .inr ⟨W.heap.size, n, l.toArray, rfl, hB, heap_alloc_new W _, Nat.le_refl _, hn, by simpa using hl, by rw [List.toList_toArray, List.take_of_length_le (by omega)]⟩⟩
theorem OwnAll.cons {W : World} {B n : Nat} {L : List (Value × List (Int × Int))} (rs : List (Int × Int)) (h : OwnAll W B L) (hB : B ≤ W.heap.size) (hn : rs.length = n) (hm : n ≤ maxLen) : OwnAll (W.alloc (.cells (prsC rs).toArray 46)) B (L ++ [(.slice (some ⟨W.heap.size, 0, none⟩) n n, rs)]) := by
 intro p hp
 rcases List.mem_append.1 hp with hp | hp
 ·exact own_next (h p hp) ((Below.refl _ _).alloc (Nat.le_refl _) _)
 ·rw [List.mem_singleton] at hp
  subst hp
  subst hn
  exact own_newK hB (by rw [prsC_flat, flat_lenK (sz := 2) (by intro x hx; obtain ⟨y, _, rfl⟩ := List.mem_map.1 hx; rfl), List.length_map]) hm
structure Fp where
 b1 : Bool
 b2 : Bool
 b3 : Bool
 b4 : Bool
 b5 : Bool
 c1 : Bool
 c2 : Bool
 c3 : Bool
 c4 : Bool
 c5 : Bool
def Fp.left (f : Fp) : Nat := (!f.b1).toNat + (!f.b2).toNat + (!f.b3).toNat + (!f.b4).toNat + (!f.b5).toNat + (!f.c1).toNat + (!f.c2).toNat + (!f.c3).toNat + (!f.c4).toNat + (!f.c5).toNat
def Fp.ok (f : Fp) : Nat → Bool
 | 1 => !f.b1
 | 4 => !f.b2
 | 8 => !f.b3
 | 11 => !f.b4
 | 16 => !f.b5
 | 2 => f.b1 && !f.c1
 | 5 => f.b2 && f.c1 && !f.c2
 | 9 => f.b3 && f.c2 && !f.c3
 | 12 => f.b4 && f.c3 && !f.c4
 | 17 => f.b5 && f.c4 && !f.c5
 | 18 => f.left == 0
 | _ => false
def Fp.fit (f : Fp) : Bool := (!f.c1 || (f.b1)) && (!f.c2 || (f.b2 && f.c1)) && (!f.c3 || (f.b3 && f.c2)) && (!f.c4 || (f.b4 && f.c3)) && (!f.c5 || (f.b5 && f.c4))
structure PcI (w0 : World) (f : Fp) (x10 x11 x13 x14 x17 x18 x20 x21 x25 x26 : Value) (W : World) : Prop where
 bel : Below w0.heap.size w0 W
 fit : f.fit = true
 hb1 : f.b1 = true → (∃ g c, x10 = .slice (some ⟨g, 0, none⟩) 1 c) ∧ W.ownsRow w0.heap.size 46 2 x10 1 (prsC [(65, 90)])
 hb2 : f.b2 = true → (∃ g c, x13 = .slice (some ⟨g, 0, none⟩) 1 c) ∧ W.ownsRow w0.heap.size 46 2 x13 1 (prsC [(97, 122)])
 hb3 : f.b3 = true → (∃ g c, x17 = .slice (some ⟨g, 0, none⟩) 2 c) ∧ W.ownsRow w0.heap.size 46 2 x17 2 (prsC [(65, 90), (97, 122)])
 hb4 : f.b4 = true → (∃ g c, x20 = .slice (some ⟨g, 0, none⟩) 1 c) ∧ W.ownsRow w0.heap.size 46 2 x20 1 (prsC [(48, 57)])
 hb5 : f.b5 = true → (∃ g c, x25 = .slice (some ⟨g, 0, none⟩) 3 c) ∧ W.ownsRow w0.heap.size 46 2 x25 3 (prsC [(48, 57), (65, 90), (97, 122)])
 hc1 : f.c1 = true → x11 = .agg #[.string ⟨#[117, 112, 112, 101, 114]⟩, x10]
 hc2 : f.c2 = true → x14 = .agg #[.string ⟨#[108, 111, 119, 101, 114]⟩, x13]
 hc3 : f.c3 = true → x18 = .agg #[.string ⟨#[97, 108, 112, 104, 97]⟩, x17]
 hc4 : f.c4 = true → x21 = .agg #[.string ⟨#[100, 105, 103, 105, 116]⟩, x20]
 hc5 : f.c5 = true → x26 = .agg #[.string ⟨#[97, 108, 110, 117, 109]⟩, x25]
theorem PcI.next {w0 W W' : World} {f : Fp} {x10 x11 x13 x14 x17 x18 x20 x21 x25 x26 : Value} (h : PcI w0 f x10 x11 x13 x14 x17 x18 x20 x21 x25 x26 W) (hb : Below W.heap.size W W') : PcI w0 f x10 x11 x13 x14 x17 x18 x20 x21 x25 x26 W' :=
 ⟨h.bel.trans (hb.mono h.bel.size), h.fit, fun e => ⟨(h.hb1 e).1, own_next (h.hb1 e).2 hb⟩, fun e => ⟨(h.hb2 e).1, own_next (h.hb2 e).2 hb⟩, fun e => ⟨(h.hb3 e).1, own_next (h.hb3 e).2 hb⟩, fun e => ⟨(h.hb4 e).1, own_next (h.hb4 e).2 hb⟩, fun e => ⟨(h.hb5 e).1, own_next (h.hb5 e).2 hb⟩, h.hc1, h.hc2, h.hc3, h.hc4, h.hc5⟩
def PcS (p1 p2 p3 p4 : Nat) : World → Prop := fun W' => W'.cell? ⟨p1, 0, none⟩ = some (.int .i32 65) ∧ W'.cell? ⟨p1, 1, none⟩ = some (.int .i32 90) ∧ W'.cell? ⟨p2, 0, none⟩ = some (.int .i32 97) ∧ W'.cell? ⟨p2, 1, none⟩ = some (.int .i32 122) ∧ W'.cell? ⟨p3, 0, none⟩ = some (.int .i32 48) ∧ W'.cell? ⟨p3, 1, none⟩ = some (.int .i32 57) ∧ W'.cell? ⟨p4, 0, none⟩ = some (.int .i32 32) ∧ W'.cell? ⟨p4, 1, none⟩ = some (.int .i32 32)
theorem PcS.next {p1 p2 p3 p4 : Nat} {W W' : World} (h : PcS p1 p2 p3 p4 W) (hb : Below W.heap.size W W') : PcS p1 p2 p3 p4 W' := ⟨below_cell hb h.1, below_cell hb h.2.1, below_cell hb h.2.2.1, below_cell hb h.2.2.2.1, below_cell hb h.2.2.2.2.1, below_cell hb h.2.2.2.2.2.1, below_cell hb h.2.2.2.2.2.2.1, below_cell hb h.2.2.2.2.2.2.2⟩
end Go.Proofs.YthgiikhkcpbpfaaGreatDoor.C


namespace Go.Proofs.YthgiikhkcpbpfaaGreatDoor.C
open Go.RowKit
def upP (n : Nat) : List (Int × Int) := (List.range n).map fun (i : Nat) => ((97 + i : Int), (65 + i : Int))
def loP (n : Nat) : List (Int × Int) := (List.range n).map fun (i : Nat) => ((65 + i : Int), (97 + i : Int))
def ordP (n : Nat) : List Elm := (List.range n).map fun (i : Nat) => ⟨[], [(i : Int)], (i : Int)⟩
def plainLoc : Loc := ⟨plainCls, upP 26, loP 26, ordP 128⟩
theorem upP_next (n : Nat) : upP (n + 1) = upP n ++ [(97 + (n : Int), 65 + (n : Int))] := by unfold upP; rw [List.range_succ, List.map_append]; rfl
theorem loP_next (n : Nat) : loP (n + 1) = loP n ++ [(65 + (n : Int), 97 + (n : Int))] := by unfold loP; rw [List.range_succ, List.map_append]; rfl
theorem ordP_next (n : Nat) : ordP (n + 1) = ordP n ++ [⟨[], [(n : Int)], (n : Int)⟩] := by unfold ordP; rw [List.range_succ, List.map_append]; rfl
theorem upP_len (n : Nat) : (upP n).length = n := by simp [upP]
theorem loP_len (n : Nat) : (loP n).length = n := by simp [loP]
theorem ordP_len (n : Nat) : (ordP n).length = n := by simp [ordP]
structure PSt (w0 : World) (S T : Nat) (l : Loc) (v1 v2 v3 v4 : Value) (w : World) : Prop where
 z : LocZ w T v1 v2 v3 v4
 r : LocZ w S (.slice none 0 0) (.slice none 0 0) (.slice none 0 0) (.slice none 0 0)
 st : S < T
 loc : LocAt w S v1 v2 v3 v4 l
 ne : ∀ g, v2.ownBlock = some g → v3.ownBlock ≠ some g
 b : Below S w0 w
section
variable {w0 w w' : World} {S T : Nat} {l : Loc} {v1 v2 v3 v4 : Value}
theorem PSt.step {X : Nat → Prop} {t0 : TypeId} (h : PSt w0 S T l v1 v2 v3 v4 w) (hf : Fr w w' X) (hS : ∀ j, X j → S ≤ j) (hz : ∀ j, X j → j ≠ S ∧ j ≠ T) (ht : ∀ g c z t, X g → w.heap[g]? = some (.cells c t z) → t = t0) :
  LocZ w' T v1 v2 v3 v4 ∧ LocZ w' S (.slice none 0 0) (.slice none 0 0) (.slice none 0 0) (.slice none 0 0) ∧ Below S w0 w' ∧
  (t0 ≠ 79 ∧ t0 ≠ 46 → ClsAt w' S v1 l.cls) ∧ (t0 ≠ 83 ∧ t0 ≠ 30 → OrdAt w' S v4 l.ord) ∧ ((∀ g, v2.ownBlock = some g → ¬ X g) → w'.ownsRow S 81 2 v2 l.up.length (prsC l.up)) ∧ ((∀ g, v3.ownBlock = some g → ¬ X g) → w'.ownsRow S 81 2 v3 l.lo.length (prsC l.lo)) := by
 obtain ⟨a1, a2, a3, a4⟩ := h.loc
 have hsz : S ≤ w.heap.size := Nat.le_of_lt (Array.getElem?_eq_some_iff.1 h.r).1
 refine ⟨(hf.block _ (Array.getElem?_eq_some_iff.1 h.z).1 fun hx => (hz _ hx).2 rfl).trans h.z, (hf.block _ (Array.getElem?_eq_some_iff.1 h.r).1 fun hx => (hz _ hx).1 rfl).trans h.r, h.b.trans (hf.below (fun j _ hx => hS j hx) hsz), fun hn => a1.fr hf (fun g c z t hx hg => ?_), fun hn => a4.fr hf (fun g c z t hx hg => ?_), fun hx => ownsRow_fr a2 hf hx, fun hx => ownsRow_fr a3 hf hx⟩
 ·rw [ht g c z t hx hg]
  exact hn
 ·rw [ht g c z t hx hg]
  exact ⟨hn.2, hn.1⟩
theorem PSt.next (h : PSt w0 S T l v1 v2 v3 v4 w) (hb : Below w.heap.size w w') : PSt w0 S T l v1 v2 v3 v4 w' := by
 obtain ⟨z, r, b, c1, c4, c2, c3⟩ := h.step (X := fun _ => False) (t0 := 3) (.of_below hb) (fun _ hx => hx.elim) (fun _ hx => hx.elim) (fun _ _ _ _ hx => hx.elim)
 exact ⟨z, r, h.st, ⟨c1 (by decide), c2 (fun _ _ => id), c3 (fun _ _ => id), c4 (by decide)⟩, h.ne, b⟩
theorem row_neK {base sz n : Nat} {e t : TypeId} {v : Value} {xs : List Value} {b : Nat} {cs : Array Value} (h : w.ownsRow base e sz v n xs) (hb : w.heap[b]? = some (.cells cs t (0, 0))) (hne : t ≠ e) : v.ownBlock ≠ some b := by
 intro hg
 obtain ⟨c', hc'⟩ := ownsRow_ty h hg
 have := hb.symm.trans hc'
 simp at this
 exact hne this.2
theorem PSt.put {x1 x2 x3 x4 : Value} {l' : Loc} {i : Nat} {u : Value} (hz : LocZ w T v1 v2 v3 v4) (hr : LocZ w S (.slice none 0 0) (.slice none 0 0) (.slice none 0 0) (.slice none 0 0)) (hST : S < T) (hL : LocAt w S x1 x2 x3 x4 l') (hne : ∀ g, x2.ownBlock = some g → x3.ownBlock ≠ some g) (hb : Below S w0 w) (hi : [v1, v2, v3, v4].set i u = [x1, x2, x3, x4]) :
  PSt w0 S T l' x1 x2 x3 x4 (w.setCell ⟨T, i, none⟩ u) := by
 have hf : Fr w (w.setCell ⟨T, i, none⟩ u) (fun j => j = T) := (Fr.of_below (Below.refl _ _)).set ⟨T, i, none⟩ u (fun _ => rfl)
 have hty : ∀ g c z t, g = T → w.heap[g]? = some (.cells c t z) → t = 27 := by
  rintro g c z t rfl hg
  have := hg.symm.trans hz
  simp at this
  exact this.2.1
 obtain ⟨a1, a2, a3, a4⟩ := hL
 have no : ∀ {e : TypeId} {sz n : Nat} {v : Value} {xs : List Value}, w.ownsRow S e sz v n xs → 27 ≠ e → ∀ g, v.ownBlock = some g → ¬ g = T := fun hw he g hg hx => by
  subst hx
  exact row_neK hw hz he hg
 refine ⟨?_, (hf.block _ (Array.getElem?_eq_some_iff.1 hr).1 (by omega)).trans hr, hST, ⟨a1.fr hf (fun g c z t hx hg => ?_), ownsRow_fr a2 hf (no a2 (by decide)), ownsRow_fr a3 hf (no a3 (by decide)), a4.fr hf (fun g c z t hx hg => ?_)⟩, hne, hb.setCell (p := ⟨T, i, none⟩) (Nat.le_of_lt hST) _⟩
 ·show _ = _
  rw [set_row (l := [v1, v2, v3, v4]) hz u, hi]
 ·rw [hty g c z t hx hg]; decide
 ·rw [hty g c z t hx hg]; decide
theorem row_tyK {base sz n : Nat} {e : TypeId} {v : Value} {xs : List Value} (h : w.ownsRow base e sz v n xs) : ∀ g c z t, (v.ownBlock = some g) → w.heap[g]? = some (.cells c t z) → t = e := by
 intro g c z t hx hh
 obtain ⟨c', hc'⟩ := ownsRow_ty h hx
 have := hh.symm.trans hc'
 simp at this
 exact this.2.1
theorem prs_snocK (l : List (Int × Int)) (p : Int × Int) : prsC (l ++ [p]) = prsC l ++ [.int .i32 p.1, .int .i32 p.2] := by unfold prsC; rw [List.flatMap_append]; rfl
theorem PSt.up {g cap : Nat} (p : Int × Int) (h : PSt w0 S T l v1 v2 v3 v4 w) (hg : w.grownBy w' v2.ownBlock) (ho : w'.ownsRow S 81 2 (.slice (some ⟨g, 0, none⟩) (l.up.length + 1) cap) (l.up.length + 1) (prsC l.up ++ [.int .i32 p.1, .int .i32 p.2])) (hat : v2.ownBlock = some g ∨ w.heap.size ≤ g) :
  PSt w0 S T { l with up := l.up ++ [p] } v1 (.slice (some ⟨g, 0, none⟩) (l.up.length + 1) cap) v3 v4 (w'.setCell ⟨T, 1, none⟩ (.slice (some ⟨g, 0, none⟩) (l.up.length + 1) cap)) := by
 have e2 := h.loc.2.1
 have hty := row_tyK e2
 obtain ⟨z, r, b, c1, c4, -, c3⟩ := h.step (Fr.of_grown hg) (fun j hj => (e2.lt j hj).1) (fun j hx => ⟨fun e => row_neK e2 h.r (by decide) (e ▸ hx), fun e => row_neK e2 h.z (by decide) (e ▸ hx)⟩) hty
 have q3 := c3 (fun g hg hx => h.ne g hx hg)
 refine PSt.put z r h.st ⟨c1 (by decide), ?_, q3, c4 (by decide)⟩ (fun g' hg' hq => ?_) b rfl
 ·rw [List.length_append, prs_snocK]
  exact ho
 ·have hgg : g = g' := by simpa [Value.ownBlock] using hg'
  subst hgg
  rcases hat with hat | hat
  ·exact h.ne g hat hq
  ·have := (h.loc.2.2.1.lt g hq).2
   omega
theorem PSt.lo {g cap : Nat} (p : Int × Int) (h : PSt w0 S T l v1 v2 v3 v4 w) (hg : w.grownBy w' v3.ownBlock) (ho : w'.ownsRow S 81 2 (.slice (some ⟨g, 0, none⟩) (l.lo.length + 1) cap) (l.lo.length + 1) (prsC l.lo ++ [.int .i32 p.1, .int .i32 p.2])) (hat : v3.ownBlock = some g ∨ w.heap.size ≤ g) :
  PSt w0 S T { l with lo := l.lo ++ [p] } v1 v2 (.slice (some ⟨g, 0, none⟩) (l.lo.length + 1) cap) v4 (w'.setCell ⟨T, 2, none⟩ (.slice (some ⟨g, 0, none⟩) (l.lo.length + 1) cap)) := by
 have e2 := h.loc.2.2.1
 have hty := row_tyK e2
 obtain ⟨z, r, b, c1, c4, c2, -⟩ := h.step (Fr.of_grown hg) (fun j hj => (e2.lt j hj).1) (fun j hx => ⟨fun e => row_neK e2 h.r (by decide) (e ▸ hx), fun e => row_neK e2 h.z (by decide) (e ▸ hx)⟩) hty
 have q2 := c2 (fun g hg hx => h.ne g hg hx)
 refine PSt.put z r h.st ⟨c1 (by decide), q2, ?_, c4 (by decide)⟩ (fun g' hg' hq => ?_) b rfl
 ·rw [List.length_append, prs_snocK]
  exact ho
 ·have hgg : g = g' := by simpa [Value.ownBlock] using hq
  subst hgg
  rcases hat with hat | hat
  ·exact h.ne g hg' hat
  ·have := (h.loc.2.1.lt g hg').2
   omega
theorem PSt.mid {v : Value} {e : TypeId} {sz n : Nat} {xs : List Value} (h : PSt w0 S T l v1 v2 v3 v4 w) (e2 : w.ownsRow S e sz v n xs) (h1 : 27 ≠ e) (hg : w.grownBy w' v.ownBlock) : LocZ w' T v1 v2 v3 v4 := ((Fr.of_grown hg).block _ (Array.getElem?_eq_some_iff.1 h.z).1 fun hx => row_neK e2 h.z h1 hx).trans h.z
theorem PSt.ord {vs : List Value} {x : Value} {g cap : Nat} (e : Elm) (h : PSt w0 S T l v1 v2 v3 v4 w) (e1 : vs.length = l.ord.length) (e2 : w.ownsRow S 83 3 v4 l.ord.length (ordR l.ord vs).flatten) (e3 : ∀ (i : Nat) (e : Elm) (x : Value), l.ord[i]? = some e → vs[i]? = some x → w.ownsRow S 30 1 x e.cells.length (celC e.cells)) (hx : w.ownsRow S 30 1 x e.cells.length (celC e.cells)) (hg : w.grownBy w' v4.ownBlock) (ho : w'.ownsRow S 83 3 (.slice (some ⟨g, 0, none⟩) (l.ord.length + 1) cap) (l.ord.length + 1) ((ordR l.ord vs).flatten ++ [.string (str e.name), x, .int .i64 e.same])) :
  PSt w0 S T { l with ord := l.ord ++ [e] } v1 v2 v3 (.slice (some ⟨g, 0, none⟩) (l.ord.length + 1) cap) (w'.setCell ⟨T, 3, none⟩ (.slice (some ⟨g, 0, none⟩) (l.ord.length + 1) cap)) := by
 have hty := row_tyK e2
 obtain ⟨z, r, b, c1, -, c2, c3⟩ := h.step (Fr.of_grown hg) (fun j hj => (e2.lt j hj).1) (fun j hx => ⟨fun e => row_neK e2 h.r (by decide) (e ▸ hx), fun e => row_neK e2 h.z (by decide) (e ▸ hx)⟩) hty
 have q2 := c2 (fun g hg hx => by
  obtain ⟨c', hc'⟩ := ownsRow_ty h.loc.2.1 hg
  have := hty g _ _ _ hx hc'
  exact absurd this (by decide))
 have q3 := c3 (fun g hg hx => by
  obtain ⟨c', hc'⟩ := ownsRow_ty h.loc.2.2.1 hg
  have := hty g _ _ _ hx hc'
  exact absurd this (by decide))
 exact PSt.put z r h.st ⟨c1 (by decide), q2, q3, OrdAt.snoc e e1 e2 e3 hx hg ho⟩ h.ne b rfl
end
section
variable {w0 w w' : World} {S T : Nat} {v1 v2 v3 v4 : Value}
theorem PSt.told {l : Loc} (h : PSt w0 S T l v1 v2 v3 v4 w) (x1 x2 x3 x4 : Value) :
  LocAt ((((w.setCell ⟨S, 0, none⟩ x1).setCell ⟨S, 1, none⟩ x2).setCell ⟨S, 2, none⟩ x3).setCell ⟨S, 3, none⟩ x4) S v1 v2 v3 v4 l ∧ Below S w0 ((((w.setCell ⟨S, 0, none⟩ x1).setCell ⟨S, 1, none⟩ x2).setCell ⟨S, 2, none⟩ x3).setCell ⟨S, 3, none⟩ x4) := by
 have hf : Fr w ((((w.setCell ⟨S, 0, none⟩ x1).setCell ⟨S, 1, none⟩ x2).setCell ⟨S, 2, none⟩ x3).setCell ⟨S, 3, none⟩ x4) (fun j => j = S) := ((((Fr.refl w _).setT _ _).setT _ _).setT _ _).setT _ _
 have hty : ∀ g c z t, g = S → w.heap[g]? = some (.cells c t z) → t = 27 := by
  rintro g c z t rfl hg
  have := hg.symm.trans h.r
  simp at this
  exact this.2.1
 obtain ⟨a1, a2, a3, a4⟩ := h.loc
 have no : ∀ {e : TypeId} {sz n : Nat} {v : Value} {xs : List Value}, w.ownsRow S e sz v n xs → 27 ≠ e → ∀ g, v.ownBlock = some g → ¬ g = S := fun hw he g hg hx => by
  subst hx
  exact row_neK hw h.r he hg
 refine ⟨⟨a1.fr hf (fun g c z t hx hg => ?_), ownsRow_fr a2 hf (no a2 (by decide)), ownsRow_fr a3 hf (no a3 (by decide)), a4.fr hf (fun g c z t hx hg => ?_)⟩, h.b.trans (hf.below (by rintro j _ rfl; exact Nat.le_refl _) (Nat.le_of_lt (Array.getElem?_eq_some_iff.1 h.r).1))⟩
 ·rw [hty g c z t hx hg]; decide
 ·rw [hty g c z t hx hg]; decide
theorem PSt.up2 {k m g cap c2 : Nat} {A2 : Option Addr} {cs : List Cls} {o : List Elm} {pa pb : Int} (h : PSt w0 S T ⟨cs, upP k, loP m, o⟩ v1 (.slice A2 k c2) v3 v4 w) (hpa : pa = 97 + (k : Int)) (hpb : pb = 65 + (k : Int))
  (hg : (w.alloc (.cells #[.int .i32 pa, .int .i32 pb] 81)).grownBy w' (Value.slice A2 k c2).ownBlock) (ho : w'.ownsRow S 81 2 (.slice (some ⟨g, 0, none⟩) (k + 1) cap) (k + 1) (prsC (upP k) ++ [.int .i32 pa, .int .i32 pb])) (hat : (Value.slice A2 k c2).ownBlock = some g ∨ (w.alloc (.cells #[.int .i32 pa, .int .i32 pb] 81)).heap.size ≤ g) :
  PSt w0 S T ⟨cs, upP (k + 1), loP m, o⟩ v1 (.slice (some ⟨g, 0, none⟩) (k + 1) cap) v3 v4 (w'.setCell ⟨T, 1, none⟩ (.slice (some ⟨g, 0, none⟩) (k + 1) cap)) ∧ LocZ w' T v1 (.slice A2 k c2) v3 v4 := by
 have hal := h.next ((Below.refl w.heap.size w).alloc (Nat.le_refl _) (.cells #[.int .i32 pa, .int .i32 pb] 81))
 have el : (⟨cs, upP k, loP m, o⟩ : Loc).up.length = k := upP_len k
 have hz := hal.mid hal.loc.2.1 (by decide) hg
 have hn := hal.up (g := g) (cap := cap) (pa, pb) hg (by rw [el]; exact ho) hat
 rw [el] at hn
 have e2 : ({ (⟨cs, upP k, loP m, o⟩ : Loc) with up := (⟨cs, upP k, loP m, o⟩ : Loc).up ++ [(pa, pb)] } : Loc) = ⟨cs, upP (k + 1), loP m, o⟩ := by rw [upP_next, hpa, hpb]
 rw [e2] at hn
 exact ⟨hn, hz⟩
theorem PSt.lo2 {k m g cap c3 : Nat} {A3 : Option Addr} {cs : List Cls} {o : List Elm} {pa pb : Int} (h : PSt w0 S T ⟨cs, upP m, loP k, o⟩ v1 v2 (.slice A3 k c3) v4 w) (hpa : pa = 97 + (k : Int)) (hpb : pb = 65 + (k : Int))
  (hg : (w.alloc (.cells #[.int .i32 pb, .int .i32 pa] 81)).grownBy w' (Value.slice A3 k c3).ownBlock) (ho : w'.ownsRow S 81 2 (.slice (some ⟨g, 0, none⟩) (k + 1) cap) (k + 1) (prsC (loP k) ++ [.int .i32 pb, .int .i32 pa])) (hat : (Value.slice A3 k c3).ownBlock = some g ∨ (w.alloc (.cells #[.int .i32 pb, .int .i32 pa] 81)).heap.size ≤ g) :
  PSt w0 S T ⟨cs, upP m, loP (k + 1), o⟩ v1 v2 (.slice (some ⟨g, 0, none⟩) (k + 1) cap) v4 (w'.setCell ⟨T, 2, none⟩ (.slice (some ⟨g, 0, none⟩) (k + 1) cap)) ∧ LocZ w' T v1 v2 (.slice A3 k c3) v4 := by
 have hal := h.next ((Below.refl w.heap.size w).alloc (Nat.le_refl _) (.cells #[.int .i32 pb, .int .i32 pa] 81))
 have el : (⟨cs, upP m, loP k, o⟩ : Loc).lo.length = k := loP_len k
 have hz := hal.mid hal.loc.2.2.1 (by decide) hg
 have hn := hal.lo (g := g) (cap := cap) (pb, pa) hg (by rw [el]; exact ho) hat
 rw [el] at hn
 have e2 : ({ (⟨cs, upP m, loP k, o⟩ : Loc) with lo := (⟨cs, upP m, loP k, o⟩ : Loc).lo ++ [(pb, pa)] } : Loc) = ⟨cs, upP m, loP (k + 1), o⟩ := by rw [loP_next, hpa, hpb]
 rw [e2] at hn
 exact ⟨hn, hz⟩
def eBox (w : World) (k : Int) : World := (w.alloc (.cells #[.int .i32 k] 30)).alloc (.cells #[.string ⟨#[]⟩, .slice (some ⟨w.heap.size, 0, none⟩) 1 1, .int .i64 k] 83)
theorem PSt.ord2 {k g cap c4 : Nat} {A4 : Option Addr} {cs : List Cls} {us ls : List (Int × Int)} {vs : List Value} (h : PSt w0 S T ⟨cs, us, ls, ordP k⟩ v1 v2 v3 (.slice A4 k c4) w)
  (e1 : vs.length = k) (e2 : w.ownsRow S 83 3 (.slice A4 k c4) k (ordR (ordP k) vs).flatten) (e3 : ∀ (i : Nat) (e : Elm) (x : Value), (ordP k)[i]? = some e → vs[i]? = some x → w.ownsRow S 30 1 x e.cells.length (celC e.cells))
  (hg : (eBox w k).grownBy w' (Value.slice A4 k c4).ownBlock) (ho : w'.ownsRow S 83 3 (.slice (some ⟨g, 0, none⟩) (k + 1) cap) (k + 1) ((ordR (ordP k) vs).flatten ++ [.string ⟨#[]⟩, .slice (some ⟨w.heap.size, 0, none⟩) 1 1, .int .i64 k])) :
  PSt w0 S T ⟨cs, us, ls, ordP (k + 1)⟩ v1 v2 v3 (.slice (some ⟨g, 0, none⟩) (k + 1) cap) (w'.setCell ⟨T, 3, none⟩ (.slice (some ⟨g, 0, none⟩) (k + 1) cap)) ∧ LocZ w' T v1 v2 v3 (.slice A4 k c4) := by
 have hb : Below w.heap.size w (eBox w k) := ((Below.refl _ _).alloc (Nat.le_refl _) _).alloc (by simp) _
 have hsz : S ≤ w.heap.size := Nat.le_of_lt (Array.getElem?_eq_some_iff.1 h.r).1
 have hal := h.next hb
 have q2 := own_next e2 hb
 have hz := hal.mid q2 (by decide) hg
 have el : (⟨cs, us, ls, ordP k⟩ : Loc).ord.length = k := ordP_len k
 have hx : (eBox w k).ownsRow S 30 1 (.slice (some ⟨w.heap.size, 0, none⟩) 1 1) 1 (celC [(k : Int)]) := own_next (own_newK (l := celC [(k : Int)]) hsz rfl (by decide)) ((Below.refl _ _).alloc (Nat.le_refl _) _)
 have hn := hal.ord (g := g) (cap := cap) (vs := vs) (x := .slice (some ⟨w.heap.size, 0, none⟩) 1 1) ⟨[], [(k : Int)], (k : Int)⟩ (by rw [el]; exact e1) (by rw [el]; exact q2) (fun i e x a b => own_next (e3 i e x a b) hb) hx hg (by rw [el]; exact ho)
 rw [el] at hn
 have e4 : ({ (⟨cs, us, ls, ordP k⟩ : Loc) with ord := (⟨cs, us, ls, ordP k⟩ : Loc).ord ++ [⟨[], [(k : Int)], (k : Int)⟩] } : Loc) = ⟨cs, us, ls, ordP (k + 1)⟩ := by rw [ordP_next]
 rw [e4] at hn
 exact ⟨hn, hz⟩
end
end Go.Proofs.YthgiikhkcpbpfaaGreatDoor.C


namespace Go.Proofs.YthgiikhkcpbpfaaGreatDoor.C
open Go.RowKit
theorem plain_right : rightL plainLoc = true := by decide +kernel
theorem plain_new : NewOk plainLoc where
 cls := by decide +kernel
 up := by decide +kernel
 lo := by decide +kernel
 ord := by decide +kernel
theorem plain_cls : ∀ c ∈ plainLoc.cls, c.name.length ≤ maxLen := by decide +kernel
theorem plain_ord : ∀ e ∈ plainLoc.ord, e.name.length ≤ maxLen := by decide +kernel
theorem plain_fold : foldL plainLoc 97 = [65, 97] := by decide +kernel
end Go.Proofs.YthgiikhkcpbpfaaGreatDoor.C


namespace Go.Proofs.YthgiikhkcpbpfaaGreatDoor.C
open Go.RowKit
theorem infoRange8 : (Tryz.prog.info? 46).map (fun i => (i.zero, i.size, i.bytes)) = some (some (.agg #[.int .i32 0, .int .i32 0]), 2, 8) := by kernel_rfl
def flatP (ps : List (Int × Int)) : List Int := ps.flatMap fun p => [p.1, p.2]
theorem flatP_len (ps : List (Int × Int)) : (flatP ps).length = 2 * ps.length := by
 induction ps with
 | nil => rfl
 | cons p r ih => unfold flatP at ih ⊢; rw [List.flatMap_cons, List.length_append, ih, List.length_cons]; simp; omega
theorem flatP_at : ∀ {ps : List (Int × Int)} {m : Nat} {p : Int × Int}, ps[m]? = some p → (flatP ps)[2 * m]? = some p.1 ∧ (flatP ps)[2 * m + 1]? = some p.2
 | [], _, _, h => by cases h
 | q :: r, 0, p, h => by
  obtain rfl : q = p := by simpa using h
  exact ⟨rfl, rfl⟩
 | q :: r, m + 1, p, h => by
  have := flatP_at (ps := r) (m := m) (p := p) (by simpa using h)
  exact ⟨this.1, this.2⟩
theorem pair_new8 (w : World) (a b : Int) (t : TypeId) (j : Nat) (u : Value) (h : [Value.int .i32 a, .int .i32 b][j]? = some u) : (w.alloc (.cells #[.int .i32 a, .int .i32 b] t)).cell? ((⟨w.heap.size, 0, none⟩ : Addr).add j) = some u := by
 rcases j with _ | _ | j
 ·simp at h; subst h; simp [Addr.add, World.cell?_alloc_new]
 ·simp at h; subst h; simp [Addr.add, World.cell?_alloc_new]
 ·simp at h
set_option maxRecDepth 100000 in
set_option maxHeartbeats 8000000 in
theorem ranges08_any (w : World) (B : Nat) (A : Option Addr) (n c : Nat) (ps : List (Int × Int)) (hx : RI .i32 w B A n (flatP ps)) (hB : B ≤ w.heap.size) (hn : ps.length ≤ 1000) :
  Calls Tryz.prog 34 #[.slice A n c] w fun e w' => ∃ v, e = .returned v ∧ w'.ownsRow w.heap.size 46 2 v ps.length (prsC ps) ∧ Below w.heap.size w w' := by
 obtain ⟨i0, hi, hz0, hz1, hz2⟩ := info_parts infoRange8
 have hln : n = 2 * ps.length := by rw [← hx.len, flatP_len]
 have HX := Lib.hid hx
 clear hx
 go_enter Tryz.func34, Tryz.ntmps34
 go_wp2
 go_loopw [3, 4] (fun v iv wr => ∃ m : Nat, m ≤ ps.length ∧ iv = .int .i64 ((2 * m : Nat) : Int) ∧ Hid (wr.ownsRow w.heap.size 46 2 v m (prsC (ps.take m)) ∧ Below w.heap.size w wr)) (fun _ iv _ => 2 * ps.length - (intOf iv).toNat)
 case atStart => exact ⟨0, Nat.zero_le _, rfl, Lib.hid ⟨World.ownsRow_nil _ _ _ _, Below.refl _ _⟩⟩
 case round =>
  obtain ⟨m, hm, rfl, HV⟩ := hrel
  obtain ⟨k, hk⟩ : ∃ k, k = 2 * m := ⟨_, rfl⟩
  obtain ⟨k1, hk1⟩ : ∃ k1, k1 = k + 1 := ⟨_, rfl⟩
  obtain ⟨k2, hk2⟩ : ∃ k2, k2 = 2 * (m + 1) := ⟨_, rfl⟩
  rw [← hk]
  by_cases hlt : m < ps.length
  ·obtain ⟨p, hp⟩ : ∃ p, ps[m]? = some p := ⟨_, List.getElem?_eq_getElem hlt⟩
   obtain ⟨f1, f2⟩ := flatP_at hp
   obtain ⟨ad, rfl, had, hc⟩ := HX.out.2 (by omega)
   have hV := HV.out
   have c1 : wr.cell? (ad.add k) = some (.int .i32 p.1) := (hV.2.cell (p := ad.add k) (by rw [block_of_add]; omega)).trans (hc _ _ (by rw [hk]; exact f1))
   have c2 : wr.cell? (ad.add k1) = some (.int .i32 p.2) := (hV.2.cell (p := ad.add k1) (by rw [block_of_add]; omega)).trans (hc _ _ (by rw [hk1, hk]; exact f2))
   have HO := Lib.hid hV.1
   have HBW := Lib.hid hV.2
   have HP := Lib.hid hp
   have hsz := hV.2.size
   have w1 : IntKind.i64.wrap ((k : Int) + 1) = (k1 : Int) := by rw [IntKind.wrap_i64]; omega
   have w2 : IntKind.i64.wrap ((k : Int) + 2) = (k2 : Int) := by rw [IntKind.wrap_i64]; omega
   have i0' : (0 : Int) ≤ (k : Int) := by omega
   have i1 : (k : Int) < (n : Int) := by omega
   have i2 : (0 : Int) ≤ (k1 : Int) := by omega
   have i3 : (k1 : Int) < (n : Int) := by omega
   obtain ⟨pa, pb⟩ := p
   simp only at c1 c2
   have HK2 := Lib.hid hk2
   have HM : Hid (k2 = k + 2 ∧ k = 2 * m ∧ n = 2 * ps.length) := Lib.hid (by omega)
   clear hV hc f1 f2 hp hk hk1 hk2 hln
   go_wp2
   refine wp_region_held (S := fun W' : World => W'.cell? (ad.add k) = some (.int .i32 pa) ∧ W'.cell? (ad.add k1) = some (.int .i32 pb)) (by kernel_rfl) ?_
   change wpAnyH _ _ _ _ _ _ _ _ wr.drew
   have hS1 : (fun W' : World => W'.cell? (ad.add k) = some (.int .i32 pa) ∧ W'.cell? (ad.add k1) = some (.int .i32 pb)) wr.drew := ⟨c1, c2⟩
   iterate 11 (refine wpH rfl rfl ?_; try simp only [Act.put, g1, g2, g3, g4, g5, g6])
   have HS1 := Lib.hid hS1
   refine wpAnyH_one (i := 11) (by kernel_rfl) rfl (fun K hK => ?_)
   simp only [g4, g5, g6]
   go_simp
   obtain ⟨w3, hw3⟩ : ∃ w3, w3 = wr.drew.alloc (.cells #[.int .i32 pa, .int .i32 pb] 46) := ⟨_, rfl⟩
   have hb3 : Below wr.heap.size wr w3 := by rw [hw3]; exact (below_drew (Below.refl _ _)).alloc (Nat.le_refl _) _
   have hs3 : w3.heap.size = wr.heap.size + 1 := by rw [hw3]; simp
   have hS3 : (fun W' : World => W'.cell? (ad.add k) = some (.int .i32 pa) ∧ W'.cell? (ad.add k1) = some (.int .i32 pb)) w3 := ⟨below_cell (p := ad.add k) hb3 c1, below_cell (p := ad.add k1) hb3 c2⟩
   rw [show (wr.alloc (.cells #[.int .i32 pa, .int .i32 pb] 46)).drew = w3 from by rw [hw3]; rfl]
   have HB3 := Lib.hid hb3
   have HO3 := Lib.hid (own_next HO.out hb3)
   refine hK.out _ _ hS3 (fun _ => ?_)
   try simp only [Act.put, g1, g2, g3, g4, g5, g6]
   refine wpAnyH_one (i := 12) (by kernel_rfl) rfl (fun K hK => ?_)
   refine step_append_lies _ (by rfl) _ _ _ (by rfl) w.heap.size 46 i0 (.agg #[.int .i32 0, .int .i32 0]) 2 8 Tryz.underlying31 hi hz0 hz1 hz2 rfl (by decide) _ m (prsC (ps.take m)) (by rfl) HO3.out ⟨wr.heap.size, 0, none⟩ 1 1 [.int .i32 pa, .int .i32 pb] (by rfl) (by rfl) (by rw [hw3]; exact pair_new8 wr.drew pa pb _) (by intro u hu; simp at hu; rcases hu with rfl | rfl <;> rfl) (by omega) (by unfold maxLen; omega) (by omega) (by omega) _ rfl ?_
   intro g cap w5 hown5 hgr5 hat5 _
   have hb5 : Below w.heap.size w3 w5 := (Below.refl _ _).grown hgr5 (by omega) (fun b hb => (HO3.out.lt b hb).1)
   have hS5 : (fun W' : World => W'.cell? (ad.add k) = some (.int .i32 pa) ∧ W'.cell? (ad.add k1) = some (.int .i32 pb)) w5 := ⟨(hb5.cell (p := ad.add k) (by rw [block_of_add]; omega)).trans hS3.1, (hb5.cell (p := ad.add k1) (by rw [block_of_add]; omega)).trans hS3.2⟩
   have HEND : Hid (w5.ownsRow w.heap.size 46 2 (.slice (some ⟨g, 0, none⟩) (m + 1) cap) (m + 1) (prsC (ps.take (m + 1))) ∧ Below w.heap.size w w5) := Lib.hid ⟨by rw [take_one HP.out, prs_snocK]; exact hown5, (HBW.out.trans (HB3.out.mono hsz)).trans hb5⟩
   clear hown5 hgr5 hat5 hb5
   refine hK.out _ _ hS5 (fun _ => ?_)
   try simp only [Act.put, g1, g2, g3, g4, g5, g6]
   refine wpH rfl rfl ?_; try simp only [Act.put, g1, g2, g3, g4, g5, g6]
   refine wpAnyH_done (by kernel_rfl) ?_ _
   clear hS1 hS3 hS5 hK hb3 hw3 c1 c2
   go_wp2
   go_roundw
   case rel => exact ⟨m + 1, by omega, by rw [HK2.out], HEND⟩
   case measure => simp [intOf]; have := HM.out; omega
  ·obtain rfl : m = ps.length := by omega
   have hV := HV.out
   rw [List.take_length] at hV
   have w1 : IntKind.i64.wrap ((k : Int) + 1) = (k1 : Int) := by rw [IntKind.wrap_i64]; omega
   have i1 : ¬ (k1 : Int) < (n : Int) := by omega
   obtain ⟨A2, c2, rfl⟩ := row_form hV.1
   have HE := Lib.hid hV
   clear hV hk hk1 hk2 hln
   go_wp2
   go_ret
   exact ⟨_, rfl, HE.out⟩
end Go.Proofs.YthgiikhkcpbpfaaGreatDoor.C
