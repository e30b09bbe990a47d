/-
  The builder's lay: a copy of a node behind others. Condition: at most 1000 nodes, a node without texts.
-/
import Derived.Test.YtcpjcepeiplfgaaDoorTcA
namespace Go.Proofs.YtcpjcepeiplfgaaDoor.C
open Go.RowKit

/-- the builder: its box, its row, what it laid -/
def RowB (w : World) (Bb : Nat) (v : Value) : Nat → Prop := fun b => Bb < b ∧ b < w.heap.size ∧ v.ownBlock ≠ some b
def BuSt (w : World) (Bb : Nat) (v : Value) (t : Tr) : Prop := Rw w Bb 69 #[v, .int .i64 t.g] ∧ NdsO w (Bb + 1) (RowB w Bb v) v t.ns
def BuTold (w : World) (Bb : Nat) (v : Value) (t : Tr) (x : Nd) (e : Ending) (w' : World) : Prop := e = .returned (.int .i64 t.ns.length) ∧ ∃ v', BuSt w' Bb v' (layT t x) ∧ Fr w w' (fun b => b = Bb ∨ v.ownBlock = some b) ∧ (v'.ownBlock = v.ownBlock ∨ ∃ g, v'.ownBlock = some g ∧ w.heap.size ≤ g)
theorem NdsO.fr {w w' : World} {base : Nat} {P Q X : Nat → Prop} {v : Value} {ns : List Nd} (h : NdsO w base P v ns) (hf : Fr w w' X) (hv : ∀ g, v.ownBlock = some g → ¬ X g) (hP : ∀ b, P b → b < w.heap.size ∧ ¬ X b) (hQ : ∀ b, P b → Q b) : NdsO w' base Q v ns := by
  obtain ⟨xs, h1, h2, h3⟩ := h
  refine ⟨xs, h1, ownsRow_fr h2 hf hv, fun i x hx => ?_⟩
  obtain ⟨a, b, d, h4, h5⟩ := h3 i x hx
  exact ⟨a, b, d, h4, (h5.keep (fr_cells hf hP)).mono fun b _ => hQ b⟩
theorem BuSt.next {w w' : World} {Bb : Nat} {v : Value} {t : Tr} (h : BuSt w Bb v t) (hb : Below w.heap.size w w') : BuSt w' Bb v t :=
  ⟨h.1.on hb h.1.lt, h.2.fr (X := fun _ => False) (Fr.of_below hb) (fun _ _ h => h) (fun _ hp => ⟨hp.2.1, id⟩) (fun _ hp => ⟨hp.1, Nat.lt_of_lt_of_le hp.2.1 hb.size, hp.2.2⟩)⟩
theorem BuSt.row_ne {w : World} {Bb : Nat} {v : Value} {t : Tr} (h : BuSt w Bb v t) : v.ownBlock ≠ some Bb := by
  obtain ⟨xs, h1, h2, h3⟩ := h.2
  exact row_neK h2 h.1 (by decide)
/-- behind the count of groups -/
structure LayMid (w : World) (S Bb : Nat) (v : Value) (t : Tr) (x : Nd) (vR vT vK : Value) (wx : World) : Prop where
  f : Fr w wx (· = Bb)
  b : Rw wx Bb 69 #[v, .int .i64 (layT t x).g]
  o : NdsO wx (Bb + 1) (RowB w Bb v) v t.ns
  n : Rw wx S 31 (ndRow x vR vT vK).toArray
theorem lay_mid0 {w W1 : World} {S Bb : Nat} {v : Value} {t : Tr} {x : Nd} {vR vT vK : Value} (h : BuSt w Bb v t) (hS : w.heap.size = S) (hW1 : W1 = w.alloc (.cells #[.int .u8 x.k, .int .i32 x.c, .bool x.nt, vR, vT, .int .i64 x.n, .int .i64 x.mn, .int .i64 x.mx, vK] 31)) : Rw W1 Bb 69 #[v, .int .i64 t.g] ∧ NdsO W1 (Bb + 1) (RowB w Bb v) v t.ns ∧ Rw W1 S 31 (ndRow x vR vT vK).toArray ∧ Below S w W1 ∧ W1.heap.size = S + 1 ∧ Bb < S := by
  have hb : Below w.heap.size w W1 := by rw [hW1]; exact (Below.refl _ _).alloc (Nat.le_refl _) _
  refine ⟨h.1.on hb h.1.lt, h.2.fr (X := fun _ => False) (Fr.of_below hb) (fun _ _ h => h) (fun _ hp => ⟨hp.2.1, id⟩) (fun _ hp => hp), ?_, by rw [← hS]; exact hb, by rw [hW1]; simp; omega, by rw [← hS]; exact h.1.lt⟩
  rw [hW1, ← hS]
  exact heap_alloc_new w _
theorem layT_g {t : Tr} {x : Nd} : (layT t x).g = if x.k = 7 then t.g + 1 else t.g := rfl
/-- the end -/
theorem lay_end9 {w wx w5 w6 w7 : World} {S Bb g cap : Nat} {v : Value} {t : Tr} {x : Nd} {vR vT vK uR uT uK : Value} {xs : List (List Value)} (h : LayMid w S Bb v t x vR vT vK wx) (hS : w.heap.size = S) (hrow : v.ownBlock ≠ some Bb) (hb5 : Below wx.heap.size wx w5) (hn5 : NdP w5 (NewB wx w5) x uR uT uK)
    (hl : xs.length = t.ns.length) (hxs : ∀ (i : Nat) (x : Nd), t.ns[i]? = some x → ∃ a b d, xs[i]? = some (ndRow x a b d) ∧ NdP wx (RowB w Bb v) x a b d)
    (hb6 : Below w5.heap.size w5 w6) (hgr : w6.grownBy w7 v.ownBlock) (hown : w7.ownsRow (Bb + 1) 31 9 (.slice (some ⟨g, 0, none⟩) (t.ns.length + 1) cap) (t.ns.length + 1) (xs.flatten ++ ndRow x uR uT uK)) (hat : v.ownBlock = some g ∨ g = w6.heap.size) (hlt : ∀ b, v.ownBlock = some b → Bb < b ∧ b < w.heap.size) :
    BuTold w Bb v t x (.returned (.int .i64 t.ns.length)) (w7.setCell ⟨Bb, 0, none⟩ (.slice (some ⟨g, 0, none⟩) (t.ns.length + 1) cap)) := by
  have hBb := h.b.lt
  have hsz5 := hb5.size
  have hsz6 := hb6.size
  have hszx := h.f.size
  have f56 : Fr wx w6 (fun b => v.ownBlock = some b) := (Fr.of_below hb5).trans (Fr.of_below hb6)
  have f7 : Fr wx w7 (fun b => v.ownBlock = some b) := f56.trans (Fr.of_grown hgr)
  have hf8 : Fr w7 (w7.setCell ⟨Bb, 0, none⟩ (.slice (some ⟨g, 0, none⟩) (t.ns.length + 1) cap)) (· = Bb) := (Fr.of_below (X := (· = Bb)) (Below.refl _ w7)).set ⟨Bb, 0, none⟩ _ (fun _ => rfl)
  have hb7 : Rw w7 Bb 69 #[v, .int .i64 (layT t x).g] := (f7.block Bb hBb hrow).trans h.b
  have hsz8 : (w7.setCell ⟨Bb, 0, none⟩ (.slice (some ⟨g, 0, none⟩) (t.ns.length + 1) cap)).heap.size = w7.heap.size := by simp [World.setCell]
  have hg7 := hown.lt g rfl
  have hsz7 := f7.size
  have hsz67 := hgr.size
  refine ⟨rfl, .slice (some ⟨g, 0, none⟩) (t.ns.length + 1) cap, ⟨set_row (i := 0) (l := [_, _]) hb7 _, ?_⟩, ?_, ?_⟩
  · refine NdsO.fr (w := w7) (P := RowB w7 Bb (.slice (some ⟨g, 0, none⟩) (t.ns.length + 1) cap)) ⟨xs ++ [ndRow x uR uT uK], by simp [layT, hl], ?_, ?_⟩ hf8 (fun b hb e => ?_) (fun b hb => ⟨hb.2.1, by have := hb.1; omega⟩) (fun b hb => ⟨hb.1, by rw [hsz8]; exact hb.2.1, hb.2.2⟩)
    · rw [show (layT t x).ns.length = t.ns.length + 1 from by simp [layT], List.flatten_append]
      simpa using hown
    · have key7 : ∀ b, RowB w Bb v b → RowB w7 Bb (.slice (some ⟨g, 0, none⟩) (t.ns.length + 1) cap) b := fun b hb => ⟨hb.1, by have := hb.2.1; omega, fun e => by
        have e : g = b := by simpa [Value.ownBlock] using e
        subst e
        rcases hat with e | e
        · exact hb.2.2 e
        · have := hb.2.1; omega⟩
      have keyn : ∀ b, NewB wx w5 b → RowB w7 Bb (.slice (some ⟨g, 0, none⟩) (t.ns.length + 1) cap) b := fun b hb => by
        obtain ⟨hb1, hb2⟩ := hb
        refine ⟨by omega, by omega, fun e => ?_⟩
        have e : g = b := by simpa [Value.ownBlock] using e
        subst e
        rcases hat with e | e
        · have := (hlt g e).2; omega
        · omega
      refine snoc_nds hl (fun i y hy => ?_) ?_
      · obtain ⟨a, b, d, h1, h2⟩ := hxs i y hy
        exact ⟨a, b, d, h1, (h2.keep (fr_cells f7 fun b hb => ⟨by have := hb.2.1; omega, hb.2.2⟩)).mono fun b _ => key7 b⟩
      · have c1 := hn5.keep (below_cells hb6 (fun b hb => hb.2))
        exact (c1.keep (fr_cells (P := NewB wx w5) (Fr.of_grown hgr) fun b hb => ⟨Nat.lt_of_lt_of_le hb.2 hsz6, fun e => by have := (hlt b e).2; have := hb.1; omega⟩)).mono fun b _ => keyn b
    · have : g = b := by simpa [Value.ownBlock] using hb
      omega
  · refine ((h.f.mono (Y := fun b => b = Bb ∨ v.ownBlock = some b) (fun _ _ h => .inl h)).next f7 (fun b hb e => .inr e)).next hf8 (fun b hb e => .inl e)
  · rcases hat with e | e
    · exact .inl (by rw [e]; rfl)
    · exact .inr ⟨g, rfl, by omega⟩
set_option maxRecDepth 100000 in
set_option maxHeartbeats 8000000 in
theorem blay_any (w : World) (P : Nat → Prop) (Bb : Nat) (v : Value) (t : Tr) (x : Nd) (vR vT vK : Value) (h : BuSt w Bb v t) (hx : NdP w P x vR vT vK) (hP : ∀ b, P b → b < w.heap.size ∧ b ≠ Bb) (ht : x.ts = []) (hr : x.rs.length ≤ 1073741824) (hk : x.ks.length ≤ 1073741824) (hl : t.ns.length ≤ 1000) (hg : 0 ≤ t.g ∧ t.g ≤ 1000) :
    Calls Tryd.prog 29 #[.pointer (some ⟨Bb, 0, none⟩), ndVal x vR vT vK] w (BuTold w Bb v t x) := by
  unfold ndVal
  obtain ⟨⟨AR, cR, rfl, -⟩, ⟨AT, cT, us, rfl, -⟩, ⟨AK, cK, rfl, -⟩⟩ := id hx
  obtain ⟨i0, hi, hz0, hz1, hz2⟩ := info_parts infoNode
  obtain ⟨S, hS⟩ : ∃ S, w.heap.size = S := ⟨_, rfl⟩
  obtain ⟨W1, hW1⟩ : ∃ W1, W1 = w.alloc (.cells #[.int .u8 x.k, .int .i32 x.c, .bool x.nt, .slice AR x.rs.length cR, .slice AT x.ts.length cT, .int .i64 x.n, .int .i64 x.mn, .int .i64 x.mx, .slice AK x.ks.length cK] 31) := ⟨_, rfl⟩
  obtain ⟨m1, m2, m3, m4, m5, m6⟩ := lay_mid0 h hS hW1
  have HBU := Lib.hid h
  have HX := Lib.hid hx
  have HP := Lib.hid hP
  have HT := Lib.hid ht
  have HSS := Lib.hid hS
  have HM := Lib.hid (And.intro m1 (And.intro m2 (And.intro m3 m4)))
  have HSB := Lib.hid m6
  have HKR := Lib.hid (And.intro hr hk)
  have p0 : W1.cell? ⟨S, 0, none⟩ = some (.int .u8 x.k) := m3.cell (i := 0) rfl
  have d1 : W1.cell? ⟨Bb, 1, none⟩ = some (.int .i64 t.g) := m1.cell (i := 1) rfl
  have f1 := rw_frozen m1 1
  have wg : IntKind.i64.wrap (t.g + 1) = t.g + 1 := by rw [IntKind.wrap_i64]; omega
  have HL := Lib.hid (And.intro hl hg)
  clear h hx hP ht m1 m2 m3 m4 m6 hl hg hr hk
  go_enter Tryd.func29, Tryd.ntmps29
  go_upto_if 7 with fail
  rw [← hW1]
  clear hW1
  go_cut [] (fun wx => Hid (LayMid w S Bb v t x (.slice AR x.rs.length cR) (.slice AT x.ts.length cT) (.slice AK x.ks.length cK) wx))
  case first =>
    have hfW : Fr w W1 (· = Bb) := Fr.of_below (by rw [HSS.out]; exact HM.out.2.2.2)
    have HF := Lib.hid hfW
    clear hfW
    by_cases h7 : x.k = 7
    · have H7 := Lib.hid h7
      have e7 : (x.k == 7) = true := by rw [h7]; rfl
      clear h7
      go_wp2
      go_meet
      have hf : Fr W1 (W1.setCell ⟨Bb, 1, none⟩ (.int .i64 (t.g + 1))) (· = Bb) := (Fr.of_below (X := (· = Bb)) (Below.refl _ W1)).set ⟨Bb, 1, none⟩ _ (fun _ => rfl)
      have hne := HBU.out.row_ne
      refine Lib.hid ⟨HF.out.trans hf, ?_, ?_, (hf.block S HM.out.2.2.1.lt (by have := HSB.out; omega)).trans HM.out.2.2.1⟩
      · rw [layT_g, if_pos H7.out]
        exact set_row (i := 1) (l := [_, _]) HM.out.1 _
      · exact HM.out.2.1.fr hf (fun g hg e => hne (by rw [hg, e])) (fun b hb => ⟨Nat.lt_of_lt_of_le hb.2.1 HF.out.size, by have := hb.1; omega⟩) (fun _ h => h)
    · have H7 := Lib.hid h7
      have e7 : (x.k == 7) = false := beq_eq_false_iff_ne.2 h7
      clear h7
      go_wp2
      go_meet
      refine Lib.hid ⟨HF.out, ?_, HM.out.2.1, HM.out.2.2.1⟩
      rw [layT_g, if_neg H7.out]
      exact HM.out.1
  case rest =>
    generalize wc = wx at *
    have HC := Lib.hid hcut.out
    clear hcut p0 d1 f1 wg m5
    have hn := HC.out.n
    have hb := HC.out.b
    have p0 : wx.cell? ⟨S, 0, none⟩ = some (.int .u8 x.k) := hn.cell (i := 0) rfl
    have p1 : wx.cell? ⟨S, 1, none⟩ = some (.int .i32 x.c) := hn.cell (i := 1) rfl
    have p2 : wx.cell? ⟨S, 2, none⟩ = some (.bool x.nt) := hn.cell (i := 2) rfl
    have p3 : wx.cell? ⟨S, 3, none⟩ = some (.slice AR x.rs.length cR) := hn.cell (i := 3) rfl
    have p4 : wx.cell? ⟨S, 4, none⟩ = some (.slice AT x.ts.length cT) := hn.cell (i := 4) rfl
    have p5 : wx.cell? ⟨S, 5, none⟩ = some (.int .i64 x.n) := hn.cell (i := 5) rfl
    have p6 : wx.cell? ⟨S, 6, none⟩ = some (.int .i64 x.mn) := hn.cell (i := 6) rfl
    have p7 : wx.cell? ⟨S, 7, none⟩ = some (.int .i64 x.mx) := hn.cell (i := 7) rfl
    have p8 : wx.cell? ⟨S, 8, none⟩ = some (.slice AK x.ks.length cK) := hn.cell (i := 8) rfl
    have d0 : wx.cell? ⟨Bb, 0, none⟩ = some v := hb.cell (i := 0) rfl
    have hcopy := copyOf_any wx.drew P x _ _ _ (HX.out.keep (fr_cells HC.out.f.drew HP.out)) (fun b hb => Nat.lt_of_lt_of_le (HP.out b hb).1 HC.out.f.size) HT.out HKR.out.1 HKR.out.2
    unfold ndVal at hcopy
    clear hn hb
    go_upto_region 3 with fail
    have hS1 : (fun W' : World => W'.cell? ⟨Bb, 0, none⟩ = some v ∧ W'.cell? ⟨S, 0, none⟩ = some (.int .u8 x.k) ∧ W'.cell? ⟨S, 1, none⟩ = some (.int .i32 x.c) ∧ W'.cell? ⟨S, 2, none⟩ = some (.bool x.nt) ∧ W'.cell? ⟨S, 3, none⟩ = some (.slice AR x.rs.length cR) ∧ W'.cell? ⟨S, 4, none⟩ = some (.slice AT x.ts.length cT) ∧ W'.cell? ⟨S, 5, none⟩ = some (.int .i64 x.n) ∧ W'.cell? ⟨S, 6, none⟩ = some (.int .i64 x.mn) ∧ W'.cell? ⟨S, 7, none⟩ = some (.int .i64 x.mx) ∧ W'.cell? ⟨S, 8, none⟩ = some (.slice AK x.ks.length cK)) wx.drew := ⟨d0, p0, p1, p2, p3, p4, p5, p6, p7, p8⟩
    refine wp_region_E (S := fun W' : World => W'.cell? ⟨Bb, 0, none⟩ = some v ∧ W'.cell? ⟨S, 0, none⟩ = some (.int .u8 x.k) ∧ W'.cell? ⟨S, 1, none⟩ = some (.int .i32 x.c) ∧ W'.cell? ⟨S, 2, none⟩ = some (.bool x.nt) ∧ W'.cell? ⟨S, 3, none⟩ = some (.slice AR x.rs.length cR) ∧ W'.cell? ⟨S, 4, none⟩ = some (.slice AT x.ts.length cT) ∧ W'.cell? ⟨S, 5, none⟩ = some (.int .i64 x.n) ∧ W'.cell? ⟨S, 6, none⟩ = some (.int .i64 x.mn) ∧ W'.cell? ⟨S, 7, none⟩ = some (.int .i64 x.mx) ∧ W'.cell? ⟨S, 8, none⟩ = some (.slice AK x.ks.length cK)) (L := 11) (by kernel_rfl) ?_
    iterate 6 (refine wpE rfl rfl ?_; try simp only [Act.put, g1, g2, g3, g4, g5, g6])
    refine wpAnyE_one (i := 6) (by kernel_rfl) rfl (fun K hK => ?_)
    simp only [g4, g5, g6]
    go_simp
    go_at_call 31
    with_reducible refine hcopy.mono ?_
    rintro e w5 ⟨uR, uT, uK, rfl, hn5, hb5⟩
    have hb5' : Below wx.heap.size wx w5 := ⟨hb5.os, hb5.tape, hb5.output, hb5.size, hb5.block⟩
    have hS5 : (fun W' : World => W'.cell? ⟨Bb, 0, none⟩ = some v ∧ W'.cell? ⟨S, 0, none⟩ = some (.int .u8 x.k) ∧ W'.cell? ⟨S, 1, none⟩ = some (.int .i32 x.c) ∧ W'.cell? ⟨S, 2, none⟩ = some (.bool x.nt) ∧ W'.cell? ⟨S, 3, none⟩ = some (.slice AR x.rs.length cR) ∧ W'.cell? ⟨S, 4, none⟩ = some (.slice AT x.ts.length cT) ∧ W'.cell? ⟨S, 5, none⟩ = some (.int .i64 x.n) ∧ W'.cell? ⟨S, 6, none⟩ = some (.int .i64 x.mn) ∧ W'.cell? ⟨S, 7, none⟩ = some (.int .i64 x.mx) ∧ W'.cell? ⟨S, 8, none⟩ = some (.slice AK x.ks.length cK)) w5 := ⟨below_cell hb5' d0, below_cell hb5' p0, below_cell hb5' p1, below_cell hb5' p2, below_cell hb5' p3, below_cell hb5' p4, below_cell hb5' p5, below_cell hb5' p6, below_cell hb5' p7, below_cell hb5' p8⟩
    refine hK.out _ _ (fun _ => hS5) (fun hS => ?_)
    try simp only [Act.put, g1, g2, g3, g4, g5, g6]
    have HB5 := Lib.hid hb5'
    have HN5 : Hid (NdP w5 (NewB wx w5) x uR uT uK) := Lib.hid hn5
    clear hK hS hcopy hn5 hb5 hb5' hS1 d0 p0 p1 p2 p3 p4 p5 p6 p7 p8
    refine wpAnyE_one (i := 7) (by kernel_rfl) rfl (fun K hK => ?_)
    simp only [g4, g5, g6]
    go_simp
    obtain ⟨w6, hw6⟩ : ∃ w6, w6 = w5.alloc (.cells #[.int .u8 x.k, .int .i32 x.c, .bool x.nt, uR, uT, .int .i64 x.n, .int .i64 x.mn, .int .i64 x.mx, uK] 31) := ⟨_, rfl⟩
    have hb6 : Below w5.heap.size w5 w6 := by rw [hw6]; exact (Below.refl _ _).alloc (Nat.le_refl _) _
    have hnine := nine_new w5 [.int .u8 x.k, .int .i32 x.c, .bool x.nt, uR, uT, .int .i64 x.n, .int .i64 x.mn, .int .i64 x.mx, uK] 31 w5.heap.size rfl
    rw [← hw6]
    rw [show (World.alloc w5 (.cells [.int .u8 x.k, .int .i32 x.c, .bool x.nt, uR, uT, .int .i64 x.n, .int .i64 x.mn, .int .i64 x.mx, uK].toArray 31)) = w6 from hw6.symm] at hnine
    have hS6 : (fun W' : World => W'.cell? ⟨Bb, 0, none⟩ = some v ∧ W'.cell? ⟨S, 0, none⟩ = some (.int .u8 x.k) ∧ W'.cell? ⟨S, 1, none⟩ = some (.int .i32 x.c) ∧ W'.cell? ⟨S, 2, none⟩ = some (.bool x.nt) ∧ W'.cell? ⟨S, 3, none⟩ = some (.slice AR x.rs.length cR) ∧ W'.cell? ⟨S, 4, none⟩ = some (.slice AT x.ts.length cT) ∧ W'.cell? ⟨S, 5, none⟩ = some (.int .i64 x.n) ∧ W'.cell? ⟨S, 6, none⟩ = some (.int .i64 x.mn) ∧ W'.cell? ⟨S, 7, none⟩ = some (.int .i64 x.mx) ∧ W'.cell? ⟨S, 8, none⟩ = some (.slice AK x.ks.length cK)) w6 := ⟨below_cell hb6 hS5.1, below_cell hb6 hS5.2.1, below_cell hb6 hS5.2.2.1, below_cell hb6 hS5.2.2.2.1, below_cell hb6 hS5.2.2.2.2.1, below_cell hb6 hS5.2.2.2.2.2.1, below_cell hb6 hS5.2.2.2.2.2.2.1, below_cell hb6 hS5.2.2.2.2.2.2.2.1, below_cell hb6 hS5.2.2.2.2.2.2.2.2.1, below_cell hb6 hS5.2.2.2.2.2.2.2.2.2⟩
    refine hK.out _ _ (fun _ => hS6) (fun hS => ?_)
    try simp only [Act.put, g1, g2, g3, g4, g5, g6]
    have HB6 := Lib.hid hb6
    have HW6 := Lib.hid hw6
    have HNINE := Lib.hid hnine
    have HS6 := Lib.hid hS6
    clear hK hS hS5 hb6 hw6 hnine hS6
    obtain ⟨xs, hxl, hown, hxs⟩ := HC.out.o
    have hbx6 : Below wx.heap.size wx w6 := HB5.out.trans (HB6.out.mono HB5.out.size)
    have hown6 := own_next hown hbx6
    have hlt : ∀ b, v.ownBlock = some b → Bb < b ∧ b < w.heap.size := fun b hb => by
      obtain ⟨ys, _, hy, _⟩ := HBU.out.2
      have := hy.lt b hb
      omega
    have HLT := Lib.hid hlt
    have HXS := Lib.hid (And.intro hxl hxs)
    have HOWN6 := Lib.hid hown6
    clear hxl hown hxs hbx6 hown6 hlt
    refine wpAnyE_one (i := 8) (by kernel_rfl) rfl (fun K hK => ?_)
    refine step_append_lies _ (by rfl) _ _ _ (by rfl) (Bb + 1) 31 i0 (.agg #[.int .u8 0, .int .i32 0, .bool false, .slice none 0 0, .slice none 0 0, .int .i64 0, .int .i64 0, .int .i64 0, .slice none 0 0]) 9 112 Tryd.underlying32 hi hz0 hz1 hz2 rfl (by decide) v t.ns.length xs.flatten (by rfl) HOWN6.out ⟨w5.heap.size, 0, none⟩ 1 1 [.int .u8 x.k, .int .i32 x.c, .bool x.nt, uR, uT, .int .i64 x.n, .int .i64 x.mn, .int .i64 x.mx, uK] (by rfl) (by rfl) HNINE.out (ndRow_one x HN5.out) (by decide) (by have := HL.out.1; unfold maxLen; omega) (by have := HL.out.1; omega) (by have := HB5.out.size; have := HB6.out.size; have := HC.out.b.lt; omega) _ rfl ?_
    intro g cap w7 hown7 hgr7 hat7 _
    have hkeep : ∀ p : Addr, p.block = Bb ∨ p.block = S → ∀ u, w6.cell? p = some u → w7.cell? p = some u := fun p hp u hu => (World.cell?_of_block (hgr7.block p.block (World.block_lt_of_cell? w6 _ hu) (fun e => by have := HLT.out p.block e.symm; have := HSS.out; have := HSB.out; omega))).trans hu
    have hS7 : (fun W' : World => W'.cell? ⟨Bb, 0, none⟩ = some v ∧ W'.cell? ⟨S, 0, none⟩ = some (.int .u8 x.k) ∧ W'.cell? ⟨S, 1, none⟩ = some (.int .i32 x.c) ∧ W'.cell? ⟨S, 2, none⟩ = some (.bool x.nt) ∧ W'.cell? ⟨S, 3, none⟩ = some (.slice AR x.rs.length cR) ∧ W'.cell? ⟨S, 4, none⟩ = some (.slice AT x.ts.length cT) ∧ W'.cell? ⟨S, 5, none⟩ = some (.int .i64 x.n) ∧ W'.cell? ⟨S, 6, none⟩ = some (.int .i64 x.mn) ∧ W'.cell? ⟨S, 7, none⟩ = some (.int .i64 x.mx) ∧ W'.cell? ⟨S, 8, none⟩ = some (.slice AK x.ks.length cK)) w7 := ⟨hkeep _ (.inl rfl) _ HS6.out.1, hkeep _ (.inr rfl) _ HS6.out.2.1, hkeep _ (.inr rfl) _ HS6.out.2.2.1, hkeep _ (.inr rfl) _ HS6.out.2.2.2.1, hkeep _ (.inr rfl) _ HS6.out.2.2.2.2.1, hkeep _ (.inr rfl) _ HS6.out.2.2.2.2.2.1, hkeep _ (.inr rfl) _ HS6.out.2.2.2.2.2.2.1, hkeep _ (.inr rfl) _ HS6.out.2.2.2.2.2.2.2.1, hkeep _ (.inr rfl) _ HS6.out.2.2.2.2.2.2.2.2.1, hkeep _ (.inr rfl) _ HS6.out.2.2.2.2.2.2.2.2.2⟩
    refine hK.out _ _ (fun _ => hS7) (fun hS => ?_)
    have HE := Lib.hid (lay_end9 HC.out HSS.out HBU.out.row_ne HB5.out HN5.out HXS.out.1 HXS.out.2 HB6.out hgr7 hown7 hat7 HLT.out)
    have d0 : w7.cell? ⟨Bb, 0, none⟩ = some v := hS7.1
    have hr7 : Rw w7 Bb 69 #[v, .int .i64 (layT t x).g] := (hgr7.block Bb (by have := HC.out.b.lt; have := HB5.out.size; have := HB6.out.size; omega) (fun e => HBU.out.row_ne e.symm)).trans (((HB6.out.block Bb (by have := HC.out.b.lt; have := HB5.out.size; omega)).trans (HB5.out.block Bb HC.out.b.lt)).trans HC.out.b)
    have f0 := rw_frozen hr7 0
    clear hK hS hown7 hgr7 hat7 hkeep hr7
    try simp only [Act.put, g1, g2, g3, g4, g5, g6]
    refine wpAnyE_one (i := 9) (by kernel_rfl) rfl (fun K hK => ?_)
    simp only [g4, g5, g6]
    go_simp
    refine hK.out _ _ (fun _ => hS7) (fun _ => ?_)
    clear hK
    try simp only [Act.put, g1, g2, g3, g4, g5, g6]
    refine wpEn 10 rfl ?_
    try simp only [Act.put, g1, g2, g3, g4, g5, g6]
    refine wpAnyE_one (i := 11) (by kernel_rfl) rfl (fun K hK => ?_)
    simp only [g4, g5, g6]
    go_simp
    refine hK.out _ _ (fun h => absurd rfl h) (fun _ => ?_)
    try simp only [Act.put, g1, g2, g3, g4, g5, g6]
    refine wpAnyE_done (by kernel_rfl) ?_ _
    clear hK hS7
    obtain ⟨w8, hw8⟩ : ∃ w8, w8 = w7.setCell ⟨Bb, 0, none⟩ (.slice (some ⟨g, 0, none⟩) (t.ns.length + 1) cap) := ⟨_, rfl⟩
    rw [← hw8] at HE ⊢
    have q0 : w8.cell? ⟨Bb, 0, none⟩ = some (.slice (some ⟨g, 0, none⟩) (t.ns.length + 1) cap) := by rw [hw8]; exact World.cell?_setCell_same' w7 _ _ (by rw [d0]; rfl)
    have wn : IntKind.i64.wrap (t.ns.length : Int) = (t.ns.length : Int) := by rw [IntKind.wrap_i64]; have := HL.out.1; omega
    have wn2 : wrap64 (t.ns.length : Int) = (t.ns.length : Int) := by have := HL.out.1; unfold wrap64; omega
    clear hw8 d0 f0
    go_wp2
    go_ret
    exact HE.out
end Go.Proofs.YtcpjcepeiplfgaaDoor.C
