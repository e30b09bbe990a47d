/-
  The statements' Tree(c): the tree of choices, in new memory. Condition: the choices are a row of bytes.
-/
import Derived.Test.YtcpjcepeiplfgaaDoorTaG
import Derived.Deep.DeepCutAuto
import Derived.Deep.CutBlock
namespace Go.Proofs.YtcpjcepeiplfgaaDoor.C
open Go.RowKit

theorem lit_kind (W : World) (t : TypeId) (a : Int) (r : Nat) (h : a % 7 = (r : Int)) : (W.alloc (.cells #[.int .u8 1, .int .u8 1, .int .u8 2, .int .u8 4, .int .u8 5, .int .u8 11, .int .u8 3] t)).cell? ⟨W.heap.size, r, none⟩ = some (.int .u8 (kindG a)) := by
  have h7 : r < 7 := by omega
  unfold kindG
  match r, h7 with
  | 0, _ => rw [h]; simp [World.cell?_alloc_new]
  | 1, _ => rw [h]; simp [World.cell?_alloc_new]
  | 2, _ => rw [h]; simp [World.cell?_alloc_new]
  | 3, _ => rw [h]; simp [World.cell?_alloc_new]
  | 4, _ => rw [h]; simp [World.cell?_alloc_new]
  | 5, _ => rw [h]; simp [World.cell?_alloc_new]
  | 6, _ => rw [h]; simp [World.cell?_alloc_new]
/-- a node in its box: block C -/
structure NB (wr : World) (C : Nat) (x : Nd) (wx : World) : Prop where
  b : Below wr.heap.size wr wx
  n : ∃ vR vT vK, Rw wx C 31 (ndRow x vR vT vK).toArray ∧ NdP wx (fun b => wr.heap.size < b ∧ b ≠ C ∧ b < wx.heap.size) x vR vT vK
  c : C = wr.heap.size + 1
theorem layT_g' {t : Tr} {x : Nd} : (layT t x).g = if x.k = 7 then t.g + 1 else t.g := rfl
theorem int_newE (w : World) (z : Int) : RIp .i64 (w.alloc (.cells #[.int .i64 z] 3)) (· = w.heap.size) (some ⟨w.heap.size, 0, none⟩) 1 [z] := by
  refine ⟨rfl, fun _ => ⟨_, rfl, rfl, fun j u hj => ?_⟩⟩
  rcases j with _ | j
  · obtain rfl : z = u := by simpa using hj
    rw [add_plain, World.cell?_alloc_new]
    rfl
  · simp at hj
def leaf1 (kk b : Int) : Nd := if kk = 1 then { nd 1 with c := 97 + b % 3 } else nd kk
def leaf2 (kk b : Int) : Nd := if kk = 3 then { nd 3 with nt := decide (b % 2 = 0), rs := [(97, 97 + b / 2 % 3)] } else leaf1 kk b
theorem leaf1_k (kk b : Int) : (leaf1 kk b).k = kk := by
  unfold leaf1
  split
  · exact (by assumption : kk = 1).symm
  · rfl
theorem nb_start (wr wp : World) (t : TypeId) (C : Nat) (kk : Int) (l : Array Value) (hC : wr.heap.size + 1 = C) (hwp : wp = (wr.alloc (.cells l t)).alloc (.cells #[.int .u8 kk, .int .i32 0, .bool false, .slice none 0 0, .slice none 0 0, .int .i64 0, .int .i64 0, .int .i64 0, .slice none 0 0] 31)) : NB wr C (nd kk) wp := by
  have hb1 : Below wr.heap.size wr (wr.alloc (.cells l t)) := (Below.refl _ _).alloc (Nat.le_refl _) _
  refine ⟨by rw [hwp]; exact hb1.alloc (by simp) _, ⟨.slice none 0 0, .slice none 0 0, .slice none 0 0, ?_, nd_plain kk⟩, hC.symm⟩
  have := heap_alloc_new (wr.alloc (.cells l t)) (.cells #[.int .u8 kk, .int .i32 0, .bool false, .slice none 0 0, .slice none 0 0, .int .i64 0, .int .i64 0, .int .i64 0, .slice none 0 0] 31)
  rw [World.size_alloc, hC] at this
  rw [hwp]
  exact this
theorem NB.xb {wr wx : World} {C : Nat} {x : Nd} (h : NB wr C x wx) {p : Addr} {v : Value} (hx : wr.cell? p = some v) : wx.cell? p = some v := below_cell h.b hx
/-- one cell of the node turns -/
theorem NB.set {wr wx : World} {C : Nat} {x x' : Nd} {i : Nat} {u : Value} (h : NB wr C x wx) (hr : ∀ vR vT vK, (ndRow x vR vT vK).set i u = ndRow x' vR vT vK) (hs : x'.rs = x.rs ∧ x'.ts = x.ts ∧ x'.ks = x.ks) : NB wr C x' (wx.setCell ⟨C, i, none⟩ u) := by
  obtain ⟨vR, vT, vK, hrw, hnd⟩ := h.n
  have hc := h.c
  have hf : Fr wx (wx.setCell ⟨C, i, none⟩ u) (· = C) := (Fr.of_below (X := (· = C)) (Below.refl _ wx)).set ⟨C, i, none⟩ _ (fun _ => rfl)
  have hsz : (wx.setCell ⟨C, i, none⟩ u).heap.size = wx.heap.size := by simp [World.setCell]
  refine ⟨h.b.trans (hf.below (by rintro j _ rfl; omega) h.b.size), ⟨vR, vT, vK, ?_, ?_⟩, hc⟩
  · have := set_row (i := i) (l := ndRow x vR vT vK) hrw u
    rw [hr] at this
    exact this
  · have h2 := (hnd.keep (fr_cells (P := fun b => wr.heap.size < b ∧ b ≠ C ∧ b < wx.heap.size) hf fun b hb => ⟨hb.2.2, hb.2.1⟩)).mono (Q := fun b => wr.heap.size < b ∧ b ≠ C ∧ b < (wx.setCell ⟨C, i, none⟩ u).heap.size) (fun b _ hb => ⟨hb.1, hb.2.1, by rw [hsz]; exact hb.2.2⟩)
    unfold NdP at h2 ⊢
    rw [hs.1, hs.2.1, hs.2.2]
    exact h2
/-- a row of one range, new -/
def RgNew (wr : World) (C : Nat) (wx w4 : World) (cg : Int) : Prop := wr.heap.size < wx.heap.size ∧ wx.heap.size ≠ C ∧ wx.heap.size < w4.heap.size ∧ PrsP w4 (fun b => wr.heap.size < b ∧ b ≠ C ∧ b < w4.heap.size) (.slice (some ⟨wx.heap.size, 0, none⟩) 1 1) [(97, cg)]
theorem NB.next {wr wx w4 : World} {C : Nat} {x : Nd} (h : NB wr C x wx) (hb : Below wx.heap.size wx w4) : NB wr C x w4 := by
  obtain ⟨vR, vT, vK, hrw, hnd⟩ := h.n
  exact ⟨h.b.trans (hb.mono h.b.size), ⟨vR, vT, vK, hrw.on hb hrw.lt, (hnd.keep (below_cells (P := fun b => wr.heap.size < b ∧ b ≠ C ∧ b < wx.heap.size) hb fun b hb => hb.2.2)).mono fun b _ hx => ⟨hx.1, hx.2.1, Nat.lt_of_lt_of_le hx.2.2 hb.size⟩⟩, h.c⟩
theorem nb_range {wr wx w4 : World} {C : Nat} {cg : Int} {x : Nd} (h : NB wr C x wx) (hw4 : w4 = (wx.alloc (.cells #[.int .i32 97, .int .i32 cg] 62)).drew) : NB wr C x w4 ∧ RgNew wr C wx w4 cg := by
  have hb : Below wx.heap.size wx w4 := by rw [hw4]; exact below_drew ((Below.refl _ _).alloc (Nat.le_refl _) _)
  obtain ⟨vR, vT, vK, hrw, hnd⟩ := h.n
  have hC := hrw.lt
  have hc := h.c
  have hs : w4.heap.size = wx.heap.size + 1 := by rw [hw4]; show (wx.alloc _).heap.size = _; simp
  refine ⟨h.next hb, by omega, by omega, by omega, _, 1, rfl, ⟨rfl, by simp [prRow], fun _ => ⟨_, rfl, ⟨by show wr.heap.size < wx.heap.size; omega, by show wx.heap.size ≠ C; omega, by show wx.heap.size < _; omega⟩, ?_⟩⟩, by show 1 ≤ maxLen; decide⟩
  intro j r hr i u hu
  rcases j with _ | j
  · obtain rfl : prRow (97, cg) = r := by simpa using hr
    rw [hw4]
    show (wx.alloc _).cell? _ = _
    rcases i with _ | _ | i
    · simp [prRow] at hu; subst hu; simp [Addr.add, World.cell?_alloc_new]
    · simp [prRow] at hu; subst hu; simp [Addr.add, World.cell?_alloc_new]
    · simp [prRow] at hu
  · simp at hr
theorem nb_bracket {wr wx w4 : World} {C : Nat} {cg : Int} {bn : Bool} (h : NB wr C (nd 3) w4) (hr : RgNew wr C wx w4 cg) : NB wr C { nd 3 with nt := bn, rs := [(97, cg)] } (((w4.setCell ⟨C, 2, none⟩ (.bool bn)).setCell ⟨C, 3, none⟩ (.slice (some ⟨wx.heap.size, 0, none⟩) 1 1)).setCell ⟨C, 4, none⟩ (.slice none 0 0)) := by
  obtain ⟨vR, vT, vK, hrw, hnd⟩ := h.n
  have hc := h.c
  have hf : Fr w4 (((w4.setCell ⟨C, 2, none⟩ (.bool bn)).setCell ⟨C, 3, none⟩ (.slice (some ⟨wx.heap.size, 0, none⟩) 1 1)).setCell ⟨C, 4, none⟩ (.slice none 0 0)) (· = C) := (((Fr.of_below (X := (· = C)) (Below.refl _ w4)).set ⟨C, 2, none⟩ _ (fun _ => rfl)).set ⟨C, 3, none⟩ _ (fun _ => rfl)).set ⟨C, 4, none⟩ _ (fun _ => rfl)
  have hsz : (((w4.setCell ⟨C, 2, none⟩ (.bool bn)).setCell ⟨C, 3, none⟩ (.slice (some ⟨wx.heap.size, 0, none⟩) 1 1)).setCell ⟨C, 4, none⟩ (.slice none 0 0)).heap.size = w4.heap.size := by simp [World.setCell]
  have key := fr_cells (P := fun b => wr.heap.size < b ∧ b ≠ C ∧ b < w4.heap.size) hf fun b hb => ⟨hb.2.2, hb.2.1⟩
  have hm : ∀ b, wr.heap.size < b ∧ b ≠ C ∧ b < w4.heap.size → wr.heap.size < b ∧ b ≠ C ∧ b < (((w4.setCell ⟨C, 2, none⟩ (.bool bn)).setCell ⟨C, 3, none⟩ (.slice (some ⟨wx.heap.size, 0, none⟩) 1 1)).setCell ⟨C, 4, none⟩ (.slice none 0 0)).heap.size := fun b hb => ⟨hb.1, hb.2.1, by rw [hsz]; exact hb.2.2⟩
  refine ⟨h.b.trans (hf.below (by rintro j _ rfl; omega) h.b.size), ⟨.slice (some ⟨wx.heap.size, 0, none⟩) 1 1, .slice none 0 0, vK, ?_, ?_⟩, hc⟩
  · exact set_row (i := 4) (l := [_, _, _, _, _, _, _, _, _]) (set_row (i := 3) (l := [_, _, _, _, _, _, _, _, _]) (set_row (i := 2) (l := ndRow (nd 3) vR vT vK) hrw _) _) _
  · exact ⟨(hr.2.2.2.keep key).mono fun b _ hb => hm b hb, ⟨none, 0, [], rfl, ⟨rfl, by simp, fun h => by simp [nd] at h⟩, Nat.zero_le _, by simp [nd]⟩, (hnd.2.2.keep key).mono fun b _ hb => hm b hb⟩
theorem leaf2_eq (a b : Int) : leaf2 (kindG a) b = leafG a b := by
  unfold leaf2 leafG leaf1
  rcases kindG_in a with h | h | h | h | h | h <;> rw [h] <;> rfl
/-- the whole node turns -/
theorem nb_whole {wr wx : World} {C : Nat} {x : Nd} {n : Int} (h : NB wr C x wx) : NB wr C { nd 6 with n := n } (((((((((wx.setCell ⟨C, 0, none⟩ (.int .u8 6)).setCell ⟨C, 1, none⟩ (.int .i32 0)).setCell ⟨C, 2, none⟩ (.bool false)).setCell ⟨C, 3, none⟩ (.slice none 0 0)).setCell ⟨C, 4, none⟩ (.slice none 0 0)).setCell ⟨C, 5, none⟩ (.int .i64 n)).setCell ⟨C, 6, none⟩ (.int .i64 0)).setCell ⟨C, 7, none⟩ (.int .i64 0)).setCell ⟨C, 8, none⟩ (.slice none 0 0)) := by
  obtain ⟨vR, vT, vK, hrw, hnd⟩ := h.n
  have hc := h.c
  refine ⟨?_, ⟨.slice none 0 0, .slice none 0 0, .slice none 0 0, ?_, nd_plain 6⟩, hc⟩
  · have hC : wr.heap.size ≤ C := by omega
    exact ((((((((h.b.setCell (p := ⟨C, 0, none⟩) hC _).setCell (p := ⟨C, 1, none⟩) hC _).setCell (p := ⟨C, 2, none⟩) hC _).setCell (p := ⟨C, 3, none⟩) hC _).setCell (p := ⟨C, 4, none⟩) hC _).setCell (p := ⟨C, 5, none⟩) hC _).setCell (p := ⟨C, 6, none⟩) hC _).setCell (p := ⟨C, 7, none⟩) hC _).setCell (p := ⟨C, 8, none⟩) hC _
  · exact set_row (i := 8) (l := [_, _, _, _, _, _, _, _, _]) (set_row (i := 7) (l := [_, _, _, _, _, _, _, _, _]) (set_row (i := 6) (l := [_, _, _, _, _, _, _, _, _]) (set_row (i := 5) (l := [_, _, _, _, _, _, _, _, _]) (set_row (i := 4) (l := [_, _, _, _, _, _, _, _, _]) (set_row (i := 3) (l := [_, _, _, _, _, _, _, _, _]) (set_row (i := 2) (l := [_, _, _, _, _, _, _, _, _]) (set_row (i := 1) (l := [_, _, _, _, _, _, _, _, _]) (set_row (i := 0) (l := ndRow x vR vT vK) hrw _) _) _) _) _) _) _) _) _
theorem nb_wholeD {wr wx : World} {C : Nat} {x : Nd} {n : Int} (h : NB wr C x wx) : NB wr C { nd 6 with n := n } ((((((((((wx.setCell ⟨C, 0, none⟩ (.int .u8 6)).setCell ⟨C, 1, none⟩ (.int .i32 0)).setCell ⟨C, 2, none⟩ (.bool false)).setCell ⟨C, 3, none⟩ (.slice none 0 0)).setCell ⟨C, 4, none⟩ (.slice none 0 0)).setCell ⟨C, 5, none⟩ (.int .i64 n)).setCell ⟨C, 6, none⟩ (.int .i64 0)).setCell ⟨C, 7, none⟩ (.int .i64 0)).setCell ⟨C, 8, none⟩ (.slice none 0 0))).drew := (nb_whole h).next (below_drew (Below.refl _ _))
theorem NB.cell1 {wr wx : World} {C : Nat} {kk b : Int} (h : NB wr C (nd kk) wx) (hk : kk = 1) : NB wr C (leaf1 kk b) (wx.setCell ⟨C, 1, none⟩ (.int .i32 (97 + b % 3))) := by
  subst hk
  refine h.set (fun _ _ _ => rfl) ⟨rfl, rfl, rfl⟩
set_option maxRecDepth 100000 in
set_option maxHeartbeats 200000000 in
theorem tree_any (w : World) (B : Nat) (Ax : Option Addr) (n cx : Nat) (zs : List Int) (hx : RI .u8 w B Ax n zs) (hB : B ≤ w.heap.size) (hz : ∀ z ∈ zs, 0 ≤ z ∧ z ≤ 255) (hn : n ≤ maxLen) :
    Calls Tryd.prog 11 #[.slice Ax n cx] w fun e w' => Below w.heap.size w w' ∧ ∃ A c xs, e = .returned (.agg #[.slice A (treeG zs).ns.length c, .int .i64 (treeG zs).g]) ∧ NdsP w' (fun b => w.heap.size ≤ b ∧ b < w'.heap.size) A (treeG zs).ns xs ∧ AptW w' A c xs := by
  unfold maxLen at hn
  obtain ⟨S, hS⟩ : ∃ S, w.heap.size = S := ⟨_, rfl⟩
  obtain ⟨W0, hW0⟩ : ∃ W0, W0 = (w.alloc (.cells #[.slice none 0 0, .int .i64 0] 34)).alloc (.cells #[.slice none 0 0, .int .i64 0] 34) := ⟨_, rfl⟩
  have h0 : TgSt w S (S + 1) (S + 1) ⟨[], 0⟩ [] (.slice none 0 0) W0 := by
    have hb1 : Below S w (w.alloc (.cells #[.slice none 0 0, .int .i64 0] 34)) := by rw [← hS]; exact (Below.refl _ _).alloc (Nat.le_refl _) _
    have hb2 : Below (S + 1) (w.alloc (.cells #[.slice none 0 0, .int .i64 0] 34)) W0 := by rw [hW0, ← hS]; exact (Below.refl _ _).alloc (by simp) _
    have hr0 : Rw (w.alloc (.cells #[.slice none 0 0, .int .i64 0] 34)) S 34 #[.slice none 0 0, .int .i64 0] := by rw [← hS]; exact heap_alloc_new w _
    have hr1 : Rw W0 (S + 1) 34 #[.slice none 0 0, .int .i64 0] := by
      have := heap_alloc_new (w.alloc (.cells #[.slice none 0 0, .int .i64 0] 34)) (.cells #[.slice none 0 0, .int .i64 0] 34)
      rw [World.size_alloc, hS] at this
      rw [hW0]; exact this
    exact ⟨hb1.trans (hb2.mono (by omega)), ⟨none, 0, [], hr1, ⟨⟨rfl, by simp, fun h => by simp at h⟩, by simp⟩, apt_nil _ _ _⟩, World.ownsRow_nil _ _ _ _, hr0.on hb2 (by omega), by omega⟩
  have HS0 := Lib.hid h0
  have HX := Lib.hid hx
  have HZ := Lib.hid hz
  have HBX := Lib.hid hB
  have HW0 := Lib.hid hW0
  have HSS := Lib.hid hS
  obtain ⟨T, hT⟩ : ∃ T, S + 1 = T := ⟨_, rfl⟩
  clear h0 hx hz hB hW0
  go_enter Tryd.func11, Tryd.ntmps11
  go_wp2
  rw [hT] at HS0
  have HST : Hid (S < T) := Lib.hid (by omega)
  clear hT hS
  go_loopw [4, 5] (fun vo iv wr => ∃ k : Nat, k ≤ 20 ∧ iv = .int .i64 ((2 * k : Nat) : Int) ∧ Hid (TgSt w S T T (runG zs k).t (runG zs k).o vo wr)) (fun _ iv _ => 40 - (intOf iv).toNat)
  case atStart => exact ⟨0, by omega, rfl, by rw [← HW0.out]; exact HS0⟩
  case round =>
    clear HS0
    obtain ⟨k, hk, rfl, HQ⟩ := hrel
    obtain ⟨j, hj⟩ : ∃ j, j = 2 * k := ⟨_, rfl⟩
    obtain ⟨j1, hj1⟩ : ∃ j1, j1 = j + 1 := ⟨_, rfl⟩
    obtain ⟨j2, hj2⟩ : ∃ j2, j2 = 2 * (k + 1) := ⟨_, rfl⟩
    rw [← hj]
    have w1 : IntKind.i64.wrap ((j : Int) + 1) = (j1 : Int) := by rw [IntKind.wrap_i64]; omega
    have w2 : IntKind.i64.wrap ((j : Int) + 2) = (j2 : Int) := by rw [IntKind.wrap_i64]; omega
    have hzl := HX.out.len
    by_cases hc : 2 * k + 1 < zs.length ∧ 2 * k < 40
    · have c1 : (j1 : Int) < (n : Int) := by omega
      have c0 : (j : Int) < (n : Int) := by omega
      have c2 : (j : Int) < 40 := by omega
      have i0 : (0 : Int) ≤ (j : Int) := by omega
      have i1 : (0 : Int) ≤ (j1 : Int) := by omega
      obtain ⟨a, ha⟩ : ∃ a, zs[j]? = some a := ⟨_, List.getElem?_eq_getElem (by omega)⟩
      obtain ⟨b, hb⟩ : ∃ b, zs[j1]? = some b := ⟨_, List.getElem?_eq_getElem (by omega)⟩
      obtain ⟨a0, a1⟩ := HZ.out a (List.mem_of_getElem? ha)
      obtain ⟨b0, b1⟩ := HZ.out b (List.mem_of_getElem? hb)
      obtain ⟨ad, rfl, hadb, hadc⟩ := HX.out.2 (by omega)
      have HBA : Hid (ad.block < S) := Lib.hid (by have := HBX.out; have := HSS.out; omega)
      have x0 : wr.cell? (ad.add j) = some (.int .u8 a) := (HQ.out.b.cell (p := ad.add j) (by rw [block_of_add]; exact HBA.out)).trans (hadc j a ha)
      have x1 : wr.cell? (ad.add j1) = some (.int .u8 b) := (HQ.out.b.cell (p := ad.add j1) (by rw [block_of_add]; exact HBA.out)).trans (hadc j1 b hb)
      have HSTEP : Hid (runG zs (k + 1) = stepG (runG zs k) a b) := Lib.hid (runG_next (by rw [← hj]; exact ha) (by rw [← hj, ← hj1]; exact hb))
      have HJ2 := Lib.hid hj2
      have HJ : Hid (j2 = j + 2 ∧ j < 40 ∧ k < 20) := Lib.hid (by omega)
      obtain ⟨s, hs⟩ : ∃ s, s = runG zs k := ⟨_, rfl⟩
      have hinv : InvG s 80 := by rw [hs]; exact runG_inv zs k (by omega)
      rw [← hs] at HQ HSTEP
      have HINV := Lib.hid hinv
      have XW0 := Lib.hid ((HQ.out.b.cell (p := ad.add j) (by rw [block_of_add]; exact HBA.out)).symm.trans x0)
      have XW1 := Lib.hid ((HQ.out.b.cell (p := ad.add j1) (by rw [block_of_add]; exact HBA.out)).symm.trans x1)
      clear hadc ha hb hj hj1 hj2 hc hzl hs hinv
      obtain ⟨r, hr⟩ : ∃ r : Nat, a % 7 = (r : Int) := ⟨(a % 7).toNat, by omega⟩
      have hr7 : (r : Int) < 7 := by omega
      have hr0 : (0 : Int) ≤ (r : Int) := by omega
      have wr7 : IntKind.u8.wrap (a.tmod 7) = (r : Int) := by rw [Int.tmod_eq_emod_of_nonneg a0, hr, IntKind.wrap_u8]; omega
      have x0' : ∀ o, (wr.alloc o).cell? (ad.add j) = some (.int .u8 a) := fun o => Lib.cell?_alloc_some _ x0
      have hk7 := lit_kind wr 5 a r hr
      obtain ⟨kk, hkk⟩ : ∃ kk, kindG a = kk := ⟨_, rfl⟩
      rw [hkk] at hk7
      obtain ⟨C, hC⟩ : ∃ C, wr.heap.size + 1 = C := ⟨_, rfl⟩
      have HKK := Lib.hid hkk
      clear hkk
      obtain ⟨b3, hb3⟩ : ∃ b3, b % 3 = b3 := ⟨_, rfl⟩
      have wb3 : IntKind.u8.wrap (b.tmod 3) = b3 := by rw [Int.tmod_eq_emod_of_nonneg b0, IntKind.wrap_u8]; omega
      obtain ⟨cb, hcb⟩ : ∃ cb, 97 + b3 = cb := ⟨_, rfl⟩
      have wcb : IntKind.u8.wrap (97 + b3) = cb := by rw [IntKind.wrap_u8]; omega
      have wcc : IntKind.i32.wrap cb = cb := by rw [IntKind.wrap_i32]; omega
      go_upto_if 36 with fail
      refine wp_nameW fun wp hwp => ?_
      have HNB := Lib.hid (nb_start wr wp 5 C kk _ hC hwp)
      have HC := Lib.hid hC
      have HCB : Hid (97 + b % 3 = cb) := Lib.hid (by rw [hb3]; exact hcb)
      have y1 := HNB.out.xb x1
      clear hwp hk7 hcb x0'
      go_cut [] (fun wx => Hid (NB wr C (leaf1 kk b) wx))
      case first =>
        as_aux_lemma =>
          obtain ⟨vR, vT, vK, hrw, hnd⟩ := HNB.out.n
          by_cases h1 : kk = 1
          · have q1 := hrw.cell (i := 1) rfl
            have f1 := rw_frozen hrw 1
            have HE := Lib.hid (HNB.out.cell1 (b := b) h1)
            go_wp2
            go_meet
            exact Lib.hid (by have h := HE.out; rw [HCB.out] at h; exact h)
          · have HE : Hid (leaf1 kk b = nd kk) := Lib.hid (if_neg h1)
            go_wp2
            go_meet
            exact Lib.hid (by rw [HE.out]; exact HNB.out)
      case rest =>
        generalize wc = wx at *
        have HN1 := Lib.hid hcut.out
        clear hcut HNB y1 HCB wb3 wcb wcc hb3
        have y1 := HN1.out.xb x1
        obtain ⟨bn, hbn⟩ : ∃ bn, decide (b % 2 = 0) = bn := ⟨_, rfl⟩
        obtain ⟨b2, hb2⟩ : ∃ b2, b % 2 = b2 := ⟨_, rfl⟩
        have tb2 : b.tmod 2 = b2 := by rw [Int.tmod_eq_emod_of_nonneg b0]; exact hb2
        have wb2 : IntKind.u8.wrap (b.tmod 2) = b2 := by rw [Int.tmod_eq_emod_of_nonneg b0, IntKind.wrap_u8]; omega
        have hbn2 : (b2 == 0) = bn := by rw [← hbn, ← hb2]; rfl
        obtain ⟨bh, hbh⟩ : ∃ bh, b / 2 = bh := ⟨_, rfl⟩
        have wbh : IntKind.u8.wrap (b.tdiv 2) = bh := by rw [Int.tdiv_eq_ediv_of_nonneg b0, IntKind.wrap_u8]; omega
        obtain ⟨bg, hbg⟩ : ∃ bg, bh % 3 = bg := ⟨_, rfl⟩
        have tbg : bh.tmod 3 = bg := by rw [Int.tmod_eq_emod_of_nonneg (by omega)]; exact hbg
        have wbg : IntKind.u8.wrap (bh.tmod 3) = bg := by rw [Int.tmod_eq_emod_of_nonneg (by omega), IntKind.wrap_u8]; omega
        have wbi : IntKind.i32.wrap bg = bg := by rw [IntKind.wrap_i32]; omega
        obtain ⟨cg, hcg⟩ : ∃ cg, 97 + bg = cg := ⟨_, rfl⟩
        have wcg : IntKind.i32.wrap (97 + bg) = cg := by rw [IntKind.wrap_i32]; omega
        have HCG : Hid (97 + b / 2 % 3 = cg ∧ decide (b % 2 = 0) = bn) := Lib.hid ⟨by rw [hbh, hbg]; exact hcg, hbn⟩
        clear hbn hb2 hbh hbg hcg
        obtain ⟨vR, vT, vK, hrw, hnd⟩ := HN1.out.n
        have k0 : wx.cell? ⟨C, 0, none⟩ = some (.int .u8 kk) := by
          have h : wx.cell? ⟨C, 0, none⟩ = some (.int .u8 (leaf1 kk b).k) := hrw.cell (i := 0) rfl
          rw [leaf1_k] at h; exact h
        go_upto_if 48 with fail
        go_cut [] (fun wy => Hid (NB wr C (leaf2 kk b) wy))
        case first =>
          as_aux_lemma =>
            by_cases h3 : kk = 3
            · have HK3 := Lib.hid h3
              have HN3 : Hid (NB wr C (nd 3) wx) := Lib.hid (by have h := HN1.out; rw [h3] at h; exact h)
              have e3 : (kk == 3) = true := by rw [h3]; rfl
              clear h3
              go_wp2
              refine wp_region_E (S := fun W' : World => W'.cell? (ad.add j1) = some (.int .u8 b)) (L := 20) (by kernel_rfl) ?_
              have hS1 : (fun W' : World => W'.cell? (ad.add j1) = some (.int .u8 b)) wx.drew := y1
              iterate 17 (refine wpE rfl rfl ?_; try simp only [Act.put, g1, g2, g3, g4, g5, g6])
              refine wpAnyE_one (i := 17) (by kernel_rfl) rfl (fun K hK => ?_)
              simp only [g4, g5, g6]
              go_simp
              obtain ⟨w4, hw4⟩ : ∃ w4, w4 = (wx.alloc (.cells #[.int .i32 97, .int .i32 cg] 62)).drew := ⟨_, rfl⟩
              have HP : Hid (NB wr C (nd 3) w4 ∧ RgNew wr C wx w4 cg) := Lib.hid (nb_range HN3.out hw4)
              have hS4 : (fun W' : World => W'.cell? (ad.add j1) = some (.int .u8 b)) w4 := by rw [hw4]; exact Lib.cell?_alloc_some _ y1
              rw [← hw4]
              obtain ⟨uR, uT, uK, hrw4, -⟩ := HP.out.1.n
              have y2 := hrw4.cell (i := 2) (v := .bool false) rfl
              have y3 : w4.cell? ⟨C, 3, none⟩ = some uR := hrw4.cell (i := 3) rfl
              have y4 : w4.cell? ⟨C, 4, none⟩ = some uT := hrw4.cell (i := 4) rfl
              have f2 := rw_frozen hrw4 2
              have f3 := rw_frozen hrw4 3
              have f4 := rw_frozen hrw4 4
              have hwx : wx.heap.size = wx.heap.size := rfl
              obtain ⟨RB, hRB⟩ : ∃ RB, wx.heap.size = RB := ⟨_, rfl⟩
              clear hw4 hrw4
              refine hK.out _ _ (fun _ => hS4) (fun hS => ?_)
              replace hS := hS (by decide)
              try simp only [Act.put, g1, g2, g3, g4, g5, g6]
              refine wpEn 18 rfl ?_
              try simp only [Act.put, g1, g2, g3, g4, g5, g6]
              refine wpEn 19 rfl ?_
              try simp only [Act.put, g1, g2, g3, g4, g5, g6]
              refine wpAnyE_one (i := 20) (by kernel_rfl) rfl (fun K hK => ?_)
              simp only [g4, g5, g6]
              go_simp
              refine hK.out _ _ (fun h => absurd rfl h) (fun _ => ?_)
              try simp only [Act.put, g1, g2, g3, g4, g5, g6]
              refine wpAnyE_done (by kernel_rfl) ?_ _
              go_wp2
              go_meet
              exact Lib.hid (by
                have h := nb_bracket (bn := bn) HP.out.1 HP.out.2
                rw [hRB] at h
                unfold leaf2
                rw [if_pos HK3.out, HCG.out.1, HCG.out.2]
                exact h)
            · have HE : Hid (leaf2 kk b = leaf1 kk b) := Lib.hid (if_neg h3)
              go_wp2
              go_meet
              exact Lib.hid (by rw [HE.out]; exact HN1.out)
        case rest =>
          generalize wc = wy at *
          have HN2 := Lib.hid hcut.out
          clear hcut HN1 y1 HCG wb2 hbn2 wbh wbg tbg tb2 wbi wcg k0 hrw hnd
          have y1 := HN2.out.xb x1
          have y0 := HN2.out.xb x0
          have hTy := HQ.out.next HN2.out.b
          obtain ⟨A, c, xs, hTw, -⟩ := hTy.tr
          obtain ⟨gs, hgs⟩ : ∃ gs, s.t.g = gs := ⟨_, rfl⟩
          have t1 : wy.cell? ⟨T, 1, none⟩ = some (.int .i64 gs) := by rw [← hgs]; exact hTw.cell (i := 1) rfl
          have hg0 : 0 ≤ gs := by rw [← hgs]; exact HINV.out.g0
          have hg9 : gs ≤ 9 := by rw [← hgs]; exact HINV.out.g9
          have HGS := Lib.hid hgs
          obtain ⟨y, hy⟩ : ∃ y, leaf2 kk b = y := ⟨_, rfl⟩
          have HY := Lib.hid hy
          rw [hy] at HN2
          clear hTy hTw hgs hy
          go_upto_region 11 with fail
          go_cut [78] (fun sb wx => sb = .bool (decide (200 < a ∧ 0 < gs)) ∧ wy = wx)
          case first =>
            as_aux_lemma =>
              by_cases s1 : 200 < a
              · by_cases s2 : 0 < gs
                · have s4 : decide (200 < a ∧ 0 < gs) = true := decide_eq_true ⟨s1, s2⟩
                  go_wp2
                  go_meet
                  exact ⟨by rw [s4], rfl⟩
                · have s4 : decide (200 < a ∧ 0 < gs) = false := decide_eq_false (fun h => s2 h.2)
                  go_wp2
                  go_meet
                  exact ⟨by rw [s4], rfl⟩
              · have s4 : decide (200 < a ∧ 0 < gs) = false := decide_eq_false (fun h => s1 h.1)
                go_wp2
                go_meet
                exact ⟨by rw [s4], rfl⟩
          case rest =>
            generalize wc = wy2 at *
            obtain ⟨rfl, rfl⟩ := hcut
            go_upto_if 78 with fail
            go_cut [] (fun wz => Hid (NB wr C (backG gs a b) wz))
            case first =>
              obtain ⟨vR, vT, vK, hrw, hnd⟩ := HN2.out.n
              have HBE : Hid (y = leafG a b) := Lib.hid (by rw [← HY.out, ← HKK.out]; exact leaf2_eq a b)
              by_cases s1 : 200 < a ∧ 0 < gs
              · have s4 : decide (200 < a ∧ 0 < gs) = true := decide_eq_true s1
                rw [s4]
                obtain ⟨h2, h6⟩ := s1
                obtain ⟨bm, hbm⟩ : ∃ bm, b % gs = bm := ⟨_, rfl⟩
                have hbm0 : 0 ≤ bm := by rw [← hbm]; exact Int.emod_nonneg b (by omega)
                have hbm1 : bm < gs := by rw [← hbm]; exact Int.emod_lt_of_pos b h6
                have tbm : b.tmod gs = bm := by rw [Int.tmod_eq_emod_of_nonneg b0]; exact hbm
                have wbm : IntKind.i64.wrap bm = bm := by rw [IntKind.wrap_i64]; omega
                have wb : IntKind.i64.wrap b = b := by rw [IntKind.wrap_i64]; omega
                have wb1 : IntKind.i64.wrap (1 + bm) = 1 + bm := by rw [IntKind.wrap_i64]; omega
                have gn : ¬ gs = 0 := by omega
                have HE : Hid (backG gs a b = { nd 6 with n := 1 + bm }) := Lib.hid (by unfold backG; rw [if_pos ⟨h2, h6⟩, hbm])
                have hb6 := nb_wholeD (n := 1 + bm) HN2.out
                rw [← HE.out] at hb6
                have HB6 := Lib.hid hb6
                clear hb6
                clear hbm s4 hnd
                go_wp2
                have HRW := Lib.hid hrw
                clear hrw
                refine wp_region_E (S := fun W' : World => W'.cell? (ad.add j1) = some (.int .u8 b) ∧ W'.cell? ⟨T, 1, none⟩ = some (.int .i64 gs)) (L := 11) (by kernel_rfl) ?_
                have hS1 : (fun W' : World => W'.cell? (ad.add j1) = some (.int .u8 b) ∧ W'.cell? ⟨T, 1, none⟩ = some (.int .i64 gs)) wy.drew := ⟨y1, t1⟩
                iterate 11 (refine wpE rfl rfl ?_; try simp only [Act.put, g1, g2, g3, g4, g5, g6])
                have z0 : wy.cell? ⟨C, 0, none⟩ = some (.int .u8 y.k) := HRW.out.cell (i := 0) rfl
                have f0 := rw_frozen HRW.out 0
                have z1 : wy.cell? ⟨C, 1, none⟩ = some (.int .i32 y.c) := HRW.out.cell (i := 1) rfl
                have f1 := rw_frozen HRW.out 1
                have z2 : wy.cell? ⟨C, 2, none⟩ = some (.bool y.nt) := HRW.out.cell (i := 2) rfl
                have f2 := rw_frozen HRW.out 2
                have z3 : wy.cell? ⟨C, 3, none⟩ = some (vR) := HRW.out.cell (i := 3) rfl
                have f3 := rw_frozen HRW.out 3
                have z4 : wy.cell? ⟨C, 4, none⟩ = some (vT) := HRW.out.cell (i := 4) rfl
                have f4 := rw_frozen HRW.out 4
                have z5 : wy.cell? ⟨C, 5, none⟩ = some (.int .i64 y.n) := HRW.out.cell (i := 5) rfl
                have f5 := rw_frozen HRW.out 5
                have z6 : wy.cell? ⟨C, 6, none⟩ = some (.int .i64 y.mn) := HRW.out.cell (i := 6) rfl
                have f6 := rw_frozen HRW.out 6
                have z7 : wy.cell? ⟨C, 7, none⟩ = some (.int .i64 y.mx) := HRW.out.cell (i := 7) rfl
                have f7 := rw_frozen HRW.out 7
                have z8 : wy.cell? ⟨C, 8, none⟩ = some (vK) := HRW.out.cell (i := 8) rfl
                have f8 := rw_frozen HRW.out 8
                refine wpAnyE_one (i := 11) (by kernel_rfl) rfl (fun K hK => ?_)
                simp only [g4, g5, g6]
                go_simp
                refine hK.out _ _ (fun h => absurd rfl h) (fun _ => ?_)
                try simp only [Act.put, g1, g2, g3, g4, g5, g6]
                refine wpAnyE_done (by kernel_rfl) ?_ _
                go_wp2
                go_meet
                with_reducible exact HB6
              · have s4 : decide (200 < a ∧ 0 < gs) = false := decide_eq_false s1
                have HE : Hid (backG gs a b = y) := Lib.hid (by unfold backG; rw [if_neg s1]; exact HBE.out.symm)
                rw [s4]
                clear s1 s4
                go_wp2
                go_meet
                exact Lib.hid (by rw [HE.out]; exact HN2.out)
            case rest =>
              as_aux_lemma =>
                generalize wc = wz at *
                have HNB := Lib.hid hcut.out
                clear hcut HN2
                obtain ⟨x, hxe⟩ : ∃ x, x = backG gs a b := ⟨_, rfl⟩
                rw [← hxe] at HNB
                have HXE : Hid (x = backG s.t.g a b) := Lib.hid (by rw [HGS.out]; exact hxe)
                clear hxe
                have hst := HQ.out.next HNB.out.b
                have HTL : Hid (T < wr.heap.size ∧ S < T) := Lib.hid ⟨HQ.out.lt, HQ.out.st⟩
                have HOW : Hid (∀ b, u4.ownBlock = some b → b < wr.heap.size) := Lib.hid (fun b hb => (HQ.out.o.lt b hb).2)
                obtain ⟨A, c, xs, hT, hN, -⟩ := hst.tr
                obtain ⟨vR, vT, vK, hrw, hnd⟩ := HNB.out.n
                have hnd2 : NdP wz (XO wz S T T u4) x vR vT vK := hnd.mono fun b _ hb => ⟨by have := HTL.out; omega, by have := HTL.out; omega, by have := HTL.out; omega, hb.2.2, fun e => by have := HOW.out b e; omega⟩
                obtain ⟨⟨AR, cR, rfl, -⟩, ⟨AT, cT, us, rfl, -⟩, ⟨AK, cK, rfl, -⟩⟩ := id hnd
                have hlay := lay_any wz (XO wz S T T u4) A c s.t xs x _ _ _ hN hnd2 (fun b hb => hb.2.2.2.1) (by have := HINV.out.len; omega) ⟨HINV.out.g0, by have := HINV.out.g9; omega⟩
                unfold ndVal at hlay
                have t0 : wz.cell? ⟨T, 0, none⟩ = some (.slice A s.t.ns.length c) := hT.cell (i := 0) rfl
                have t1 : wz.cell? ⟨T, 1, none⟩ = some (.int .i64 s.t.g) := hT.cell (i := 1) rfl
                have n0 : wz.cell? ⟨C, 0, none⟩ = some (.int .u8 x.k) := hrw.cell (i := 0) rfl
                have n1 : wz.cell? ⟨C, 1, none⟩ = some (.int .i32 x.c) := hrw.cell (i := 1) rfl
                have n2 : wz.cell? ⟨C, 2, none⟩ = some (.bool x.nt) := hrw.cell (i := 2) rfl
                have n3 : wz.cell? ⟨C, 3, none⟩ = some (.slice AR x.rs.length cR) := hrw.cell (i := 3) rfl
                have n4 : wz.cell? ⟨C, 4, none⟩ = some (.slice AT x.ts.length cT) := hrw.cell (i := 4) rfl
                have n5 : wz.cell? ⟨C, 5, none⟩ = some (.int .i64 x.n) := hrw.cell (i := 5) rfl
                have n6 : wz.cell? ⟨C, 6, none⟩ = some (.int .i64 x.mn) := hrw.cell (i := 6) rfl
                have n7 : wz.cell? ⟨C, 7, none⟩ = some (.int .i64 x.mx) := hrw.cell (i := 7) rfl
                have n8 : wz.cell? ⟨C, 8, none⟩ = some (.slice AK x.ks.length cK) := hrw.cell (i := 8) rfl
                have HST := Lib.hid hst
                clear hst hT hN hnd hnd2 hrw y0 y1
                go_wp2_with fail
                refine hlay.mono ?_
                rintro e w2 ⟨hb2, A', c', rfl, hO⟩
                obtain ⟨U, hU⟩ : ∃ U, w2.heap.size = U := ⟨_, rfl⟩
                obtain ⟨ta, hta⟩ : ∃ ta, ta = layT s.t x := ⟨_, rfl⟩
                have hln : s.t.ns.length + 1 = ta.ns.length := by rw [hta]; simp [layT]
                rw [← hta, hln] at hO
                rw [← hta, hln]
                obtain ⟨w3, hw3⟩ : ∃ w3, w3 = w2.alloc (.cells #[.slice A' ta.ns.length c', .int .i64 ta.g] 34) := ⟨_, rfl⟩
                have HL4 := Lib.hid (first_lay HST.out hb2 hO hU hw3)
                have hb23 : Below wz.heap.size wz w3 := by rw [hw3]; exact hb2.alloc hb2.size _
                have s0 : w3.cell? ⟨T, 0, none⟩ = some (.slice A s.t.ns.length c) := below_cell hb23 t0
                have s1 : w3.cell? ⟨T, 1, none⟩ = some (.int .i64 s.t.g) := below_cell hb23 t1
                have u0 : w3.cell? ⟨U, 0, none⟩ = some (.slice A' ta.ns.length c') := by rw [hw3, ← hU]; simp [World.cell?_alloc_new]
                have u1 : w3.cell? ⟨U, 1, none⟩ = some (.int .i64 ta.g) := by rw [hw3, ← hU]; simp [World.cell?_alloc_new]
                have HTW := Lib.hid (HST.out.tr)
                have f0 : w3.frozen? ⟨T, 0, none⟩ = false := by obtain ⟨_, _, _, h, _⟩ := HTW.out; exact rw_frozen (h.on hb23 h.lt) 0
                have f1 : w3.frozen? ⟨T, 1, none⟩ = false := by obtain ⟨_, _, _, h, _⟩ := HTW.out; exact rw_frozen (h.on hb23 h.lt) 1
                have HTA : Hid (ta = layT s.t x ∧ ta.ns.length = s.t.ns.length + 1) := Lib.hid ⟨hta, hln.symm⟩
                clear hlay hb2 hO hb23 t0 t1 n0 n1 n2 n3 n4 n5 n6 n7 n8 HTW hta hln
                go_upto_region 14 with fail
                rw [← hw3]
                clear hw3
                go_upto_region 15 with fail
                refine wp_nameW fun w4 hw4 => ?_
                rw [← hw4] at HL4
                clear hw4 s0 s1 u0 u1 f0 f1
                -- REST
                have x0 := HL4.out.byte (p := ad.add j) (by rw [block_of_add]; exact HBA.out) XW0.out
                obtain ⟨k8, hk8⟩ : ∃ k8 : Int, k8 = (s.t.ns.length : Int) := ⟨_, rfl⟩
                rw [← hk8]
                have HK8 : Hid (k8 = lastT ta) := Lib.hid (by rw [HTA.out.1, lastT_lay]; exact hk8)
                clear hk8
                obtain ⟨ga, hga⟩ : ∃ ga, ta.g = ga := ⟨_, rfl⟩
                have hgab : 0 ≤ ga ∧ ga ≤ 9 := by
                  have h1 := HINV.out.g0
                  have h2 := HINV.out.g9
                  have h3 : ta.g = s.t.g := by rw [HTA.out.1, layT_g', if_neg (by rw [HXE.out]; exact (backG_ok a b s.t.g).2.2)]
                  omega
                have HGA := Lib.hid hga
                have HGAB := Lib.hid hgab
                obtain ⟨Aq, cq, xsq, ua, ub, ⟨t0, t1⟩, ⟨f0, f1⟩, ⟨v0, v1⟩, ⟨h0, h1⟩, hNq⟩ := HL4.out.cells
                rw [hga] at t1
                clear hga hgab
                obtain ⟨a7, ha7⟩ : ∃ a7, a / 7 = a7 := ⟨_, rfl⟩
                have wa7 : IntKind.u8.wrap (a.tdiv 7) = a7 := by rw [Int.tdiv_eq_ediv_of_nonneg a0, IntKind.wrap_u8]; omega
                obtain ⟨a74, ha74⟩ : ∃ a74, a7 % 4 = a74 := ⟨_, rfl⟩
                have ta74 : a7.tmod 4 = a74 := by rw [Int.tmod_eq_emod_of_nonneg (by omega)]; exact ha74
                have wa74 : IntKind.u8.wrap (a7.tmod 4) = a74 := by rw [ta74, IntKind.wrap_u8]; omega
                have HA7 : Hid (a / 7 % 4 = a74) := Lib.hid (by rw [ha7]; exact ha74)
                clear ha7 ha74
                go_cut [108] (fun sb wx => sb = .bool (decide (a74 = 0 ∧ ga < 9)) ∧ w4 = wx)
                case first =>
                  as_aux_lemma =>
                    by_cases s1 : a74 = 0
                    · have b1 : (a74 == 0) = true := by rw [s1]; rfl
                      by_cases s2 : ga < 9
                      · have HE : Hid (decide (a74 = 0 ∧ ga < 9) = true) := Lib.hid (decide_eq_true ⟨s1, s2⟩)
                        clear s1
                        go_wp2
                        go_meet
                        exact ⟨by rw [HE.out], rfl⟩
                      · have HE : Hid (decide (a74 = 0 ∧ ga < 9) = false) := Lib.hid (decide_eq_false (fun h => s2 h.2))
                        clear s1
                        go_wp2
                        go_meet
                        exact ⟨by rw [HE.out], rfl⟩
                    · have b1 : (a74 == 0) = false := beq_eq_false_iff_ne.2 s1
                      have HE : Hid (decide (a74 = 0 ∧ ga < 9) = false) := Lib.hid (decide_eq_false (fun h => s1 h.1))
                      clear s1
                      go_wp2
                      go_meet
                      exact ⟨by rw [HE.out], rfl⟩
                case rest =>
                  as_aux_lemma =>
                    generalize wc = w4' at *
                    obtain ⟨rfl, rfl⟩ := hcut
                    clear wa7 ta74 wa74
                    go_upto_if 108 with fail
                    go_cut [8] (fun kv wx => kv = .int .i64 (lastT (grpG ta a)) ∧ Hid (LdSt w S T U (grpG ta a) s.o u4 wx))
                    case first =>
                      as_aux_lemma =>
                        by_cases s1 : a74 = 0 ∧ ga < 9
                        · have s4 : decide (a74 = 0 ∧ ga < 9) = true := decide_eq_true s1
                          rw [s4]
                          have HGR : Hid (grpG ta a = layT ta { nd 7 with n := ga + 1, ks := [lastT ta] }) := Lib.hid (by unfold grpG; rw [if_pos ⟨by rw [HA7.out]; exact s1.1, by rw [HGA.out]; exact s1.2⟩, HGA.out])
                          have wg1 : IntKind.i64.wrap (ga + 1) = ga + 1 := by rw [IntKind.wrap_i64]; have := HGAB.out; omega
                          clear s1 s4
                          obtain ⟨w5, hw5⟩ : ∃ w5, w5 = w4.alloc (.cells #[.int .i64 k8] 3) := ⟨_, rfl⟩
                          have hb5 : Below w4.heap.size w4 w5 := by rw [hw5]; exact (Below.refl _ _).alloc (Nat.le_refl _) _
                          have hL5 := HL4.out.next hb5
                          have hN5 : NdsP w5 (XO w5 S T U u4) Aq ta.ns xsq := (hNq.keep (below_cells hb5 fun b hb => hb.2.2.2.1)).mono fun b _ hx => ⟨hx.1, hx.2.1, hx.2.2.1, Nat.lt_of_lt_of_le hx.2.2.2.1 hb5.size, hx.2.2.2.2⟩
                          have hkp : RIp .i64 w5 (XO w5 S T U u4) (some ⟨w4.heap.size, 0, none⟩) 1 [k8] := by
                            have h := int_newE w4 k8
                            rw [← hw5] at h
                            exact h.mono fun b hb1 hb2 => by
                              subst hb2
                              have q1 := HL4.out.st.lt
                              have q2 := HL4.out.tu
                              have q3 : U < w4.heap.size := by obtain ⟨_, _, hu⟩ := HL4.out.u; exact hu.lt
                              exact ⟨by have := HL4.out.st.st; omega, by omega, by omega, hb1, fun e => by have := (HL4.out.st.o.lt _ e).2; omega⟩
                          have hnd5 : NdP w5 (XO w5 S T U u4) { nd 7 with n := ga + 1, ks := [k8] } (.slice none 0 0) (.slice none 0 0) (.slice (some ⟨w4.heap.size, 0, none⟩) 1 1) := nd_kids (c := 1) 7 hkp (by simp [maxLen]) (ga + 1) 0 0
                          have hlay := lay_any w5 (XO w5 S T U u4) Aq cq ta xsq _ _ _ _ hN5 hnd5 (fun b hb => hb.2.2.2.1) (by have := HTA.out.2; have := HINV.out.len; omega) (by rw [HGA.out]; have := HGAB.out; omega)
                          unfold ndVal at hlay
                          rw [HGA.out] at hlay
                          have t0' := below_cell hb5 t0
                          have t1' := below_cell hb5 t1
                          have HL5 := Lib.hid hL5
                          clear hb5 hL5 hN5 hkp hnd5 hNq v0 v1 h0 h1 f0 f1
                          go_wp2_with fail
                          rw [← hw5]
                          clear hw5 t0 t1 t0' t1'
                          refine hlay.mono ?_
                          rintro e w6 ⟨hb6, A6, c6, rfl, hO6⟩
                          obtain ⟨tg, htg⟩ : ∃ tg, tg = layT ta { nd 7 with n := ga + 1, ks := [k8] } := ⟨_, rfl⟩
                          have hln : ta.ns.length + 1 = tg.ns.length := by rw [htg]; simp [layT]
                          rw [← htg, hln] at hO6
                          rw [← htg, hln]
                          have HLN := Lib.hid (next_lay HL5.out hb6 hO6)
                          have HTG : Hid (grpG ta a = tg ∧ lastT tg = (ta.ns.length : Int)) := Lib.hid ⟨by rw [HGR.out, htg, ← HK8.out], by rw [htg, lastT_lay]⟩
                          obtain ⟨A7, c7, xs7, uc, ud, ⟨t0, t1⟩, ⟨f0, f1⟩, ⟨v0, v1⟩, ⟨h0, h1⟩, -⟩ := (HL5.out.next hb6).cells
                          have HMID := Lib.hid ((HL5.out.next hb6).mid (.slice A6 tg.ns.length c6) (.int .i64 tg.g))
                          clear hlay hb6 hO6 htg hln
                          go_upto_region 17 with fail
                          refine wp_nameW fun w7 hw7 => ?_
                          rw [← hw7] at HMID HLN
                          obtain ⟨⟨m0, m1⟩, ⟨ma, mb, m2, m3⟩, m4, m5⟩ := HMID.out
                          clear hw7 t0 t1 f0 f1 v0 v1 h0 h1
                          go_wp2
                          go_meet
                          exact ⟨by rw [HTG.out.1, HTG.out.2], by rw [HTG.out.1]; exact HLN⟩
                        · have s4 : decide (a74 = 0 ∧ ga < 9) = false := decide_eq_false s1
                          rw [s4]
                          have HGR : Hid (grpG ta a = ta) := Lib.hid (by unfold grpG; rw [if_neg (fun h => s1 ⟨by rw [← HA7.out]; exact h.1, by rw [← HGA.out]; exact h.2⟩)])
                          clear s1 s4 hNq
                          go_wp2
                          go_meet
                          exact ⟨by rw [HGR.out, HK8.out], by rw [HGR.out]; exact HL4⟩
                    case rest =>
                      as_aux_lemma =>
                        generalize wc = wg at *
                        obtain ⟨rfl, hcut9⟩ := hcut
                        have HLG := Lib.hid hcut9.out
                        clear hcut9 HL4 x0 t0 t1 f0 f1 v0 v1 h0 h1 hNq
                        obtain ⟨tg, htg⟩ : ∃ tg, grpG ta a = tg := ⟨_, rfl⟩
                        rw [htg] at HLG ⊢
                        obtain ⟨kg, hkg⟩ : ∃ kg, lastT tg = kg := ⟨_, rfl⟩
                        rw [hkg]
                        have HTG := Lib.hid htg
                        have HKG := Lib.hid hkg
                        have HTGS : Hid (tg.ns.length ≤ 90 ∧ 0 ≤ tg.g ∧ tg.g ≤ 10) := Lib.hid (by
                          have h1 := grp_size ta a
                          rw [htg] at h1
                          have h2 := HTA.out.2
                          have h3 := HINV.out.len
                          have h4 := HGAB.out
                          rw [HGA.out] at h1
                          omega)
                        clear htg hkg
                        obtain ⟨Aq, cq, xsq, ua, ub, ⟨t0, t1⟩, ⟨f0, f1⟩, ⟨v0, v1⟩, ⟨h0, h1⟩, hNq⟩ := HLG.out.cells
                        have x0 := HLG.out.byte (p := ad.add j) (by rw [block_of_add]; exact HBA.out) XW0.out
                        have x1' := HLG.out.byte (p := ad.add j1) (by rw [block_of_add]; exact HBA.out) XW1.out
                        obtain ⟨a28, ha28⟩ : ∃ a28, a / 28 = a28 := ⟨_, rfl⟩
                        have wa28 : IntKind.u8.wrap (a.tdiv 28) = a28 := by rw [Int.tdiv_eq_ediv_of_nonneg a0, IntKind.wrap_u8]; omega
                        obtain ⟨a284, ha284⟩ : ∃ a284, a28 % 4 = a284 := ⟨_, rfl⟩
                        have ta284 : a28.tmod 4 = a284 := by rw [Int.tmod_eq_emod_of_nonneg (by omega)]; exact ha284
                        have wa284 : IntKind.u8.wrap (a28.tmod 4) = a284 := by rw [ta284, IntKind.wrap_u8]; omega
                        have HA28 : Hid (a / 28 % 4 = a284) := Lib.hid (by rw [ha28]; exact ha284)
                        clear ha28 ha284
                        go_upto_if 127 with fail
                        clear x0
                        go_cut [8] (fun kv wx => kv = .int .i64 (lastT (timG tg a b)) ∧ Hid (LdSt w S T U (timG tg a b) s.o u4 wx))
                        case first =>
                          as_aux_lemma =>
                            by_cases s1 : a284 = 0
                            · have b1 : (a284 == 0) = true := by rw [s1]; rfl
                              have HTI : Hid (timG tg a b = layT tg { nd 10 with mn := leastG b, mx := mostG b, ks := [lastT tg] }) := Lib.hid (by unfold timG; rw [if_pos (by rw [HA28.out]; exact s1)])
                              clear s1
                              obtain ⟨b4, hb4⟩ : ∃ b4, b % 4 = b4 := ⟨_, rfl⟩
                              have tb4 : b.tmod 4 = b4 := by rw [Int.tmod_eq_emod_of_nonneg b0]; exact hb4
                              have wb4 : IntKind.u8.wrap (b.tmod 4) = b4 := by rw [tb4, IntKind.wrap_u8]; omega
                              have wi4 : IntKind.i64.wrap b4 = b4 := by rw [IntKind.wrap_i64]; omega
                              have hb40 : 0 ≤ b4 ∧ b4 < 4 := by omega
                              have HB4 := Lib.hid hb4
                              have HB40 := Lib.hid hb40
                              clear hb4 hb40
                              go_upto_if 136 with fail
                              go_cut [9] (fun mv wx => mv = .int .i64 (mostG b) ∧ wg = wx)
                              case first =>
                                as_aux_lemma =>
                                  by_cases s3 : b4 = 3
                                  · have HE : Hid (mostG b = -1) := Lib.hid (by unfold mostG; rw [if_pos (by rw [HB4.out]; exact s3)])
                                    have e3 : (b4 == 3) = true := by rw [s3]; rfl
                                    clear s3
                                    go_wp2
                                    go_meet
                                    exact ⟨by rw [HE.out], rfl⟩
                                  · have HE : Hid (mostG b = b4) := Lib.hid (by unfold mostG; rw [if_neg (by rw [HB4.out]; exact s3)]; exact HB4.out)
                                    have e3 : (b4 == 3) = false := beq_eq_false_iff_ne.2 s3
                                    clear s3
                                    go_wp2
                                    go_meet
                                    exact ⟨by rw [HE.out], rfl⟩
                              case rest =>
                                as_aux_lemma =>
                                  generalize wc = wq at *
                                  obtain ⟨rfl, rfl⟩ := hcut
                                  clear tb4 wb4 wi4
                                  obtain ⟨m, hm⟩ : ∃ m, mostG b = m := ⟨_, rfl⟩
                                  rw [hm]
                                  have hmin := mostG_in b
                                  have hlin := leastG_in b
                                  obtain ⟨l, hl⟩ : ∃ l, leastG b = l := ⟨_, rfl⟩
                                  obtain ⟨bq, hbq⟩ : ∃ bq, b / 4 = bq := ⟨_, rfl⟩
                                  have wbq : IntKind.u8.wrap (b.tdiv 4) = bq := by rw [Int.tdiv_eq_ediv_of_nonneg b0, IntKind.wrap_u8]; omega
                                  obtain ⟨br, hbr⟩ : ∃ br, bq % 3 = br := ⟨_, rfl⟩
                                  have tbr : bq.tmod 3 = br := by rw [Int.tmod_eq_emod_of_nonneg (by omega)]; exact hbr
                                  have wbr : IntKind.u8.wrap (bq.tmod 3) = br := by rw [tbr, IntKind.wrap_u8]; omega
                                  have wbi : IntKind.i64.wrap br = br := by rw [IntKind.wrap_i64]; omega
                                  have HLE : Hid (l = if br ≤ (if m ≤ 0 then 0 else m) then br else if m ≤ 0 then 0 else m) := Lib.hid (by rw [← hl, ← hm]; unfold leastG; rw [hbq, hbr])
                                  rw [hm] at hmin hlin HTI
                                  rw [hl] at hlin HTI
                                  have HML := Lib.hid (And.intro hmin hlin)
                                  have HM := Lib.hid (And.intro hm hl)
                                  clear hm hl hbq hbr hmin hlin
                                  go_upto_region 22 with fail
                                  have hS1 : (fun W' : World => W'.cell? ⟨T, 0, none⟩ = some (.slice Aq tg.ns.length cq) ∧ W'.cell? ⟨T, 1, none⟩ = some (.int .i64 tg.g) ∧ W'.cell? (ad.add j1) = some (.int .u8 b)) wg.drew := ⟨t0, t1, x1'⟩
                                  refine wp_region_held (S := fun W' : World => W'.cell? ⟨T, 0, none⟩ = some (.slice Aq tg.ns.length cq) ∧ W'.cell? ⟨T, 1, none⟩ = some (.int .i64 tg.g) ∧ W'.cell? (ad.add j1) = some (.int .u8 b)) (by kernel_rfl) ?_
                                  change wpAnyH _ _ _ _ _ _ _ _ wg.drew
                                  iterate 10 (refine wpH rfl rfl ?_; try simp only [Act.put, g1, g2, g3, g4, g5, g6])
                                  iterate 2 (first | (refine wpH rfl rfl ?_; try simp only [Act.put, g1, g2, g3, g4, g5, g6]) | (refine wpAnyH_one (i := 10) (by kernel_rfl) rfl (fun K hK => ?_); simp only [g4, g5, g6]; go_simp; refine hK.out _ _ hS1 (fun _ => ?_); clear hK; try simp only [Act.put, g1, g2, g3, g4, g5, g6]) | (refine wpAnyH_one (i := 11) (by kernel_rfl) rfl (fun K hK => ?_); simp only [g4, g5, g6]; go_simp; refine hK.out _ _ hS1 (fun _ => ?_); clear hK; try simp only [Act.put, g1, g2, g3, g4, g5, g6]))
                                  iterate 2 (refine wpH rfl rfl ?_; try simp only [Act.put, g1, g2, g3, g4, g5, g6])
                                  obtain ⟨w5, hw5⟩ : ∃ w5, w5 = (wg.alloc (.cells #[.int .i64 kg] 3)).drew := ⟨_, rfl⟩
                                  have hb5 : Below wg.heap.size wg w5 := by rw [hw5]; exact below_drew ((Below.refl _ _).alloc (Nat.le_refl _) _)
                                  have hL5 := HLG.out.next hb5
                                  have hN5 : NdsP w5 (XO w5 S T U u4) Aq tg.ns xsq := (hNq.keep (below_cells hb5 fun b hb => hb.2.2.2.1)).mono fun b _ hx => ⟨hx.1, hx.2.1, hx.2.2.1, Nat.lt_of_lt_of_le hx.2.2.2.1 hb5.size, hx.2.2.2.2⟩
                                  have hkp : RIp .i64 w5 (XO w5 S T U u4) (some ⟨wg.heap.size, 0, none⟩) 1 [kg] := by
                                    have h : RIp .i64 w5 (· = wg.heap.size) (some ⟨wg.heap.size, 0, none⟩) 1 [kg] := (int_newE wg kg).keep fun p _ => by rw [hw5]; rfl
                                    exact h.mono fun b hb1 hb2 => by
                                      subst hb2
                                      have q1 := HLG.out.st.lt
                                      have q2 := HLG.out.tu
                                      have q3 : U < wg.heap.size := by obtain ⟨_, _, hu⟩ := HLG.out.u; exact hu.lt
                                      exact ⟨by have := HLG.out.st.st; omega, by omega, by omega, hb1, fun e => by have := (HLG.out.st.o.lt _ e).2; omega⟩
                                  have hnd5 : NdP w5 (XO w5 S T U u4) { nd 10 with mn := l, mx := m, ks := [kg] } (.slice none 0 0) (.slice none 0 0) (.slice (some ⟨wg.heap.size, 0, none⟩) 1 1) := nd_kids (c := 1) 10 hkp (by simp [maxLen]) 0 l m
                                  have hlay := lay_any w5 (XO w5 S T U u4) Aq cq tg xsq _ _ _ _ hN5 hnd5 (fun b hb => hb.2.2.2.1) (by have := HTGS.out; omega) (by have := HTGS.out; omega)
                                  unfold ndVal at hlay
                                  change Calls _ _ #[.agg #[.slice Aq tg.ns.length cq, .int .i64 tg.g], .agg #[.int .u8 10, .int .i32 0, .bool false, .slice none 0 0, .slice none 0 0, .int .i64 0, .int .i64 l, .int .i64 m, .slice (some ⟨wg.heap.size, 0, none⟩) 1 1]] w5 _ at hlay
                                  have hmm : min br (max m 0) = l := by have h := HLE.out; rw [h]; split <;> split <;> omega
                                  have hS5 : (fun W' : World => W'.cell? ⟨T, 0, none⟩ = some (.slice Aq tg.ns.length cq) ∧ W'.cell? ⟨T, 1, none⟩ = some (.int .i64 tg.g) ∧ W'.cell? (ad.add j1) = some (.int .u8 b)) w5 := ⟨below_cell hb5 t0, below_cell hb5 t1, below_cell hb5 x1'⟩
                                  have HL5 := Lib.hid hL5
                                  clear hb5 hL5 hN5 hkp hnd5 hNq v0 v1 h0 h1 f0 f1
                                  refine wpAnyH_one (i := 14) (by kernel_rfl) rfl (fun K hK => ?_)
                                  simp only [g4, g5, g6]
                                  go_simp
                                  rw [← hw5]
                                  refine hK.out _ _ hS5 (fun _ => ?_)
                                  clear hK hS1
                                  try simp only [Act.put, g1, g2, g3, g4, g5, g6]
                                  iterate 1 (refine wpH rfl rfl ?_; try simp only [Act.put, g1, g2, g3, g4, g5, g6])
                                  refine wpAnyH_one (i := 16) (by kernel_rfl) rfl (fun K hK => ?_)
                                  simp only [g4, g5, g6]
                                  go_simp
                                  go_at_call 25
                                  try rw [hmm]
                                  try rw [← hw5]
                                  with_reducible refine hlay.mono ?_
                                  rintro e w6 ⟨hb6, A6, c6, rfl, hO6⟩
                                  obtain ⟨th, hth⟩ : ∃ th, th = layT tg { nd 10 with mn := l, mx := m, ks := [kg] } := ⟨_, rfl⟩
                                  have hln : tg.ns.length + 1 = th.ns.length := by rw [hth]; simp [layT]
                                  rw [← hth, hln] at hO6
                                  rw [← hth, hln]
                                  have hS6 : (fun W' : World => W'.cell? ⟨T, 0, none⟩ = some (.slice Aq tg.ns.length cq) ∧ W'.cell? ⟨T, 1, none⟩ = some (.int .i64 tg.g) ∧ W'.cell? (ad.add j1) = some (.int .u8 b)) w6 := ⟨below_cell hb6 hS5.1, below_cell hb6 hS5.2.1, below_cell hb6 hS5.2.2⟩
                                  have HLN := Lib.hid (next_lay HL5.out hb6 hO6)
                                  have HTH : Hid (timG tg a b = th ∧ lastT th = (tg.ns.length : Int)) := Lib.hid ⟨by rw [HTI.out, hth, HKG.out], by rw [hth, lastT_lay]⟩
                                  have HL6 := Lib.hid (HL5.out.next hb6)
                                  obtain ⟨A7, c7, xs7, uc, ud, ⟨p0, p1⟩, ⟨f0, f1⟩, ⟨v0, v1⟩, ⟨h0, h1⟩, -⟩ := HL6.out.cells
                                  have HMID := Lib.hid (HL6.out.mid (.slice A6 th.ns.length c6) (.int .i64 th.g))
                                  refine hK.out _ _ hS6 (fun _ => ?_)
                                  clear hK hlay hb6 hO6 hth hln hw5 hS5 t0 t1 hmm
                                  try simp only [Act.put, g1, g2, g3, g4, g5, g6]
                                  iterate 3 (refine wpH rfl rfl ?_; try simp only [Act.put, g1, g2, g3, g4, g5, g6])
                                  obtain ⟨w7, hw7⟩ : ∃ w7, w7 = (w6.setCell ⟨U, 0, none⟩ (.slice A6 th.ns.length c6)).setCell ⟨U, 1, none⟩ (.int .i64 th.g) := ⟨_, rfl⟩
                                  have hS7 : (fun W' : World => W'.cell? ⟨T, 0, none⟩ = some (.slice Aq tg.ns.length cq) ∧ W'.cell? ⟨T, 1, none⟩ = some (.int .i64 tg.g) ∧ W'.cell? (ad.add j1) = some (.int .u8 b)) w7 := by
                                    have hTU := HL6.out.tu
                                    have hST := HL6.out.st.st
                                    have hT7 : w7.heap[T]? = w6.heap[T]? := by rw [hw7]; exact (Below.heap_setCell _ ⟨U, 1, none⟩ _ T (by show T ≠ U; omega)).trans (Below.heap_setCell _ ⟨U, 0, none⟩ _ T (by show T ≠ U; omega))
                                    have hA7 : w7.heap[(ad.add j1).block]? = w6.heap[(ad.add j1).block]? := by
                                      rw [block_of_add, hw7]
                                      have := HBA.out
                                      exact (Below.heap_setCell _ ⟨U, 1, none⟩ _ _ (by show ad.block ≠ U; omega)).trans (Below.heap_setCell _ ⟨U, 0, none⟩ _ _ (by show ad.block ≠ U; omega))
                                    exact ⟨(World.cell?_of_block (a := ⟨T, 0, none⟩) hT7).trans hS6.1, (World.cell?_of_block (a := ⟨T, 1, none⟩) hT7).trans hS6.2.1, (World.cell?_of_block (a := ad.add j1) hA7).trans hS6.2.2⟩
                                  refine wpAnyH_one (i := 20) (by kernel_rfl) rfl (fun K hK => ?_)
                                  simp only [g4, g5, g6]
                                  go_simp
                                  rw [← hw7]
                                  refine hK.out _ _ hS7 (fun _ => ?_)
                                  clear hK
                                  rw [← hw7] at HMID HLN
                                  clear hw7
                                  try simp only [Act.put, g1, g2, g3, g4, g5, g6]
                                  refine wpAnyH_one (i := 21) (by kernel_rfl) rfl (fun K hK => ?_)
                                  simp only [g4, g5, g6]
                                  go_simp
                                  refine hK.out _ _ hS7 (fun _ => ?_)
                                  clear hK
                                  try simp only [Act.put, g1, g2, g3, g4, g5, g6]
                                  refine wpAnyH_done (by kernel_rfl) ?_ _
                                  obtain ⟨⟨m0, m1⟩, ⟨ma, mb, m2, m3⟩, m4, m5⟩ := HMID.out
                                  clear hS6 hS7 p0 p1 f0 f1 v0 v1 h0 h1 x1'
                                  go_wp2
                                  go_meet
                                  exact ⟨by rw [HTH.out.1, HTH.out.2], by rw [HTH.out.1]; exact HLN⟩
                            · have b1 : (a284 == 0) = false := beq_eq_false_iff_ne.2 s1
                              have HTI : Hid (timG tg a b = tg) := Lib.hid (by unfold timG; rw [if_neg (by rw [HA28.out]; exact s1)])
                              clear s1
                              go_wp2
                              go_meet
                              exact ⟨by rw [HTI.out, HKG.out], by rw [HTI.out]; exact HLG⟩
                        case rest =>
                          as_aux_lemma =>
                            generalize wc = wt at *
                            obtain ⟨rfl, hcut9⟩ := hcut
                            have HLT := Lib.hid hcut9.out
                            clear hcut9 HLG x1' wa28 wa284 ta284 t0 t1 f0 f1 v0 v1 h0 h1 hNq
                            obtain ⟨t3, ht3⟩ : ∃ t3, timG tg a b = t3 := ⟨_, rfl⟩
                            rw [ht3] at HLT ⊢
                            obtain ⟨k3, hk3⟩ : ∃ k3, lastT t3 = k3 := ⟨_, rfl⟩
                            rw [hk3]
                            obtain ⟨q, hq⟩ : ∃ q, s.o.length = q := ⟨_, rfl⟩
                            obtain ⟨m, hm⟩ : ∃ m, q + 1 = m := ⟨_, rfl⟩
                            have HS3 : Hid (step3 s a b = ⟨t3, s.o ++ [k3]⟩) := Lib.hid (by unfold step3; rw [← HXE.out, ← HTA.out.1, HTG.out, ht3, hk3])
                            have HQM : Hid (s.o.length = q ∧ q + 1 = m ∧ q ≤ 80) := Lib.hid ⟨hq, hm, by have := HINV.out.olen; omega⟩
                            have HSZ : Hid (t3.ns.length ≤ 91 ∧ 0 ≤ t3.g ∧ t3.g ≤ 10) := Lib.hid (by
                              have h1 := tim_size tg a b
                              rw [ht3] at h1
                              have h2 := HTGS.out
                              omega)
                            have hq80 := HQM.out.2.2
                            clear ht3 hk3 hq
                            obtain ⟨i0, hi, hz0, hz1, hz2⟩ := info_parts infoInt9
                            obtain ⟨w8, hw8⟩ : ∃ w8, w8 = wt.alloc (.cells #[.int .i64 k3] 3) := ⟨_, rfl⟩
                            have hb8 : Below wt.heap.size wt w8 := by rw [hw8]; exact (Below.refl _ _).alloc (Nat.le_refl _) _
                            have HL8 := Lib.hid (HLT.out.next hb8)
                            have HNEW : Hid (∀ jj u, [Value.int .i64 k3][jj]? = some u → w8.cell? ((⟨wt.heap.size, 0, none⟩ : Addr).add jj) = some u) := Lib.hid (by rw [hw8]; exact one_new wt k3)
                            have HOW : Hid (w8.ownsRow S 3 1 u4 q (s.o.map (Value.int .i64))) := Lib.hid (by rw [← HQM.out.1]; exact HL8.out.st.o)
                            have HBS : Hid (S ≤ w8.heap.size) := Lib.hid (by have := HL8.out.st.r.lt; omega)
                            clear hb8
                            go_upto_region 25 with (at_builtin; rw [← hw8]; (refine wpList_append_lies _ rfl _ _ 29 rfl S 3 i0 (.int .i64 0) 1 8 Tryd.underlying29 hi hz0 hz1 hz2 rfl (by decide) u4 q (s.o.map (Value.int .i64)) rfl HOW.out ⟨wt.heap.size, 0, none⟩ 1 1 [.int .i64 k3] rfl rfl HNEW.out (by intro u hu; simp at hu; subst hu; rfl) (by omega) (by unfold maxLen; omega) (by omega) HBS.out w8.heap.size rfl ?_); intro g cap w9 hown9 hgr9 hat9 hlt9)
                            rw [hm] at hown9
                            try rw [hm]
                            have HLA := Lib.hid (HL8.out.push HQM.out.1 HQM.out.2.1 hown9 hgr9 hat9)
                            clear hown9 hgr9 hat9 hlt9 hw8 hm hq80 HOW HNEW HL8 HLT HBS
                            have x1' := HLA.out.byte (p := ad.add j1) (by rw [block_of_add]; exact HBA.out) XW1.out
                            obtain ⟨b3, hb3⟩ : ∃ b3, b % 3 = b3 := ⟨_, rfl⟩
                            have tb3 : b.tmod 3 = b3 := by rw [Int.tmod_eq_emod_of_nonneg b0]; exact hb3
                            have wb3 : IntKind.u8.wrap (b.tmod 3) = b3 := by rw [tb3, IntKind.wrap_u8]; omega
                            have HB3 := Lib.hid hb3
                            clear hb3
                            go_cut [173] (fun sb wx => sb = .bool (decide (b3 = 0 ∧ 0 < q)) ∧ w9 = wx)
                            case first =>
                              as_aux_lemma =>
                                by_cases s1 : b3 = 0
                                · have e1 : (b3 == 0) = true := by rw [s1]; rfl
                                  by_cases s2 : 0 < q
                                  · have HE : Hid (decide (b3 = 0 ∧ 0 < q) = true) := Lib.hid (decide_eq_true ⟨s1, s2⟩)
                                    have c1 : (1 : Int) < (m : Int) := by have := HQM.out; omega
                                    clear s1
                                    go_wp2
                                    go_meet
                                    exact ⟨by rw [HE.out], rfl⟩
                                  · have HE : Hid (decide (b3 = 0 ∧ 0 < q) = false) := Lib.hid (decide_eq_false (fun h => s2 h.2))
                                    have c1 : ¬ (1 : Int) < (m : Int) := by have := HQM.out; omega
                                    clear s1
                                    go_wp2
                                    go_meet
                                    exact ⟨by rw [HE.out], rfl⟩
                                · have e1 : (b3 == 0) = false := beq_eq_false_iff_ne.2 s1
                                  have HE : Hid (decide (b3 = 0 ∧ 0 < q) = false) := Lib.hid (decide_eq_false (fun h => s1 h.1))
                                  clear s1
                                  go_wp2
                                  go_meet
                                  exact ⟨by rw [HE.out], rfl⟩
                            case rest =>
                              as_aux_lemma =>
                                generalize wc = w9' at *
                                obtain ⟨rfl, rfl⟩ := hcut
                                clear tb3 wb3
                                go_upto_if 173 with fail
                                by_cases s1 : b3 = 0 ∧ 0 < q
                                · have s4 : decide (b3 = 0 ∧ 0 < q) = true := decide_eq_true s1
                                  rw [s4]
                                  obtain ⟨p, y, hpy⟩ : ∃ p y, s.o = p ++ [y] := by
                                    have h1 : s.o ≠ [] := fun h => by
                                      have h2 := HQM.out.1
                                      rw [h] at h2
                                      simp at h2
                                      omega
                                    exact ⟨_, _, (List.dropLast_concat_getLast h1).symm⟩
                                  obtain ⟨e, he⟩ : ∃ e, p.length = e := ⟨_, rfl⟩
                                  have heq : e + 1 = q := by have := HQM.out.1; rw [hpy] at this; simp at this; omega
                                  have HPY : Hid (s.o = p ++ [y] ∧ p.length = e ∧ e + 1 = q ∧ e + 2 = m) := Lib.hid ⟨hpy, he, heq, by have := HQM.out; omega⟩
                                  obtain ⟨b2, hb2⟩ : ∃ b2, b % 2 = b2 := ⟨_, rfl⟩
                                  have tb2 : b.tmod 2 = b2 := by rw [Int.tmod_eq_emod_of_nonneg b0]; exact hb2
                                  have wb2 : IntKind.u8.wrap (b.tmod 2) = b2 := by rw [tb2, IntKind.wrap_u8]; omega
                                  obtain ⟨kk, hkk⟩ : ∃ kk : Int, (if b2 = 0 then 9 else 8) = kk := ⟨_, rfl⟩
                                  obtain ⟨kn, hkn⟩ : ∃ kn : Int, (t3.ns.length : Int) = kn := ⟨_, rfl⟩
                                  obtain ⟨th, hth⟩ : ∃ th, th = layT t3 { nd kk with ks := [y, k3] } := ⟨_, rfl⟩
                                  have HJG : Hid (stepG s a b = ⟨th, p ++ [kn]⟩) := Lib.hid (by
                                    have hd : (s.o ++ [k3]).length - 2 = p.length := by rw [hpy]; simp
                                    unfold stepG joinG
                                    rw [HS3.out, if_pos ⟨by rw [HB3.out]; exact s1.1, by rw [hpy]; simp⟩]
                                    show TS.mk (layT t3 { nd (if b % 2 = 0 then 9 else 8) with ks := (s.o ++ [k3]).drop ((s.o ++ [k3]).length - 2) }) ((s.o ++ [k3]).take ((s.o ++ [k3]).length - 2) ++ [(t3.ns.length : Int)]) = _
                                    rw [hd, hb2, hkk, hkn, hpy, List.append_assoc, List.drop_left, List.take_left, hth]
                                    rfl)
                                  have HKK := Lib.hid hkk
                                  have HTH := Lib.hid hth
                                  have HKN := Lib.hid hkn
                                  clear s1 s4 hpy he hb2 hkk hth
                                  go_upto_if 180 with fail
                                  go_cut [10] (fun kv wx => kv = .int .u8 kk ∧ w9 = wx)
                                  case first =>
                                    as_aux_lemma =>
                                      by_cases s3 : b2 = 0
                                      · have HE : Hid (kk = 9) := Lib.hid (by rw [← HKK.out, if_pos s3])
                                        have e3 : (b2 == 0) = true := by rw [s3]; rfl
                                        clear s3
                                        go_wp2
                                        go_meet
                                        exact ⟨by rw [HE.out], rfl⟩
                                      · have HE : Hid (kk = 8) := Lib.hid (by rw [← HKK.out, if_neg s3])
                                        have e3 : (b2 == 0) = false := beq_eq_false_iff_ne.2 s3
                                        clear s3
                                        go_wp2
                                        go_meet
                                        exact ⟨by rw [HE.out], rfl⟩
                                  case rest =>
                                    as_aux_lemma =>
                                      generalize wc = wq at *
                                      obtain ⟨rfl, rfl⟩ := hcut
                                      clear tb2 wb2 x1'
                                      obtain ⟨Aq, cq, xsq, ua, ub, ⟨t0, t1⟩, ⟨f0, f1⟩, ⟨v0, v1⟩, ⟨h0, h1⟩, hNq⟩ := HLA.out.cells
                                      obtain ⟨ag, hag⟩ : ∃ ag : Addr, (⟨g, 0, none⟩ : Addr) = ag := ⟨_, rfl⟩
                                      have hgets := row_get (S := S) (w := w9) (g := g) (cap := cap) (m := m) (l := s.o ++ [k3]) (by have h := HLA.out.st.o; rw [show (s.o ++ [k3]).length = m from by have := HQM.out; simp; omega] at h; exact h)
                                      have r0 : w9.cell? (ag.add e) = some (.int .i64 y) := by rw [← hag]; exact hgets.1 e y (by rw [HPY.out.1, ← HPY.out.2.1, List.append_assoc]; simp)
                                      have r1 : w9.cell? (ag.add q) = some (.int .i64 k3) := by rw [← hag]; exact hgets.1 q k3 (by rw [← HQM.out.1]; simp)
                                      have hagb : ag.block = g := by rw [← hag]
                                      have hcap := hgets.2.1
                                      have HCM : Hid (m ≤ cap ∧ cap ≤ maxLen) := Lib.hid hgets.2
                                      have HAG := Lib.hid hag
                                      have HAGB := Lib.hid hagb
                                      have wm2 : IntKind.i64.wrap ((m : Int) - 2) = (e : Int) := by rw [IntKind.wrap_i64]; have := HPY.out; have := HQM.out; omega
                                      have wm1 : IntKind.i64.wrap ((m : Int) - 1) = (q : Int) := by rw [IntKind.wrap_i64]; have := HQM.out; omega
                                      have ie0 : (0 : Int) ≤ (e : Int) := by omega
                                      have ie1 : (e : Int) < (m : Int) := by have := HPY.out; omega
                                      have iq0 : (0 : Int) ≤ (q : Int) := by omega
                                      have iq1 : (q : Int) < (m : Int) := by have := HQM.out; omega
                                      rw [hag]
                                      clear hgets hag hagb hcap
                                      go_upto_region 29 with fail
                                      have hS1 : (fun W' : World => W'.cell? ⟨T, 0, none⟩ = some (.slice Aq t3.ns.length cq) ∧ W'.cell? ⟨T, 1, none⟩ = some (.int .i64 t3.g) ∧ W'.cell? (ag.add e) = some (.int .i64 y) ∧ W'.cell? (ag.add q) = some (.int .i64 k3)) w9.drew := ⟨t0, t1, r0, r1⟩
                                      refine wp_region_held (S := (fun W' : World => W'.cell? ⟨T, 0, none⟩ = some (.slice Aq t3.ns.length cq) ∧ W'.cell? ⟨T, 1, none⟩ = some (.int .i64 t3.g) ∧ W'.cell? (ag.add e) = some (.int .i64 y) ∧ W'.cell? (ag.add q) = some (.int .i64 k3))) (by kernel_rfl) ?_
                                      change wpAnyH _ _ _ _ _ _ _ _ w9.drew
                                      iterate 14 (refine wpH rfl rfl ?_; try simp only [Act.put, g1, g2, g3, g4, g5, g6])
                                      obtain ⟨w5, hw5⟩ : ∃ w5, w5 = (w9.alloc (.cells #[.int .i64 y, .int .i64 k3] 3)).drew := ⟨_, rfl⟩
                                      have hb5 : Below w9.heap.size w9 w5 := by rw [hw5]; exact below_drew ((Below.refl _ _).alloc (Nat.le_refl _) _)
                                      have hL5 := HLA.out.next hb5
                                      rw [HAG.out] at hL5 hNq
                                      have hN5 : NdsP w5 (XO w5 S T U (.slice (some ag) m cap)) Aq t3.ns xsq := (hNq.keep (below_cells hb5 fun b hb => hb.2.2.2.1)).mono fun b _ hx => ⟨hx.1, hx.2.1, hx.2.2.1, Nat.lt_of_lt_of_le hx.2.2.2.1 hb5.size, hx.2.2.2.2⟩
                                      have hkp : RIp .i64 w5 (XO w5 S T U (.slice (some ag) m cap)) (some ⟨w9.heap.size, 0, none⟩) 2 [y, k3] := by
                                        have h : RIp .i64 w5 (· = w9.heap.size) (some ⟨w9.heap.size, 0, none⟩) 2 [y, k3] := (int_newE2 w9 y k3).keep fun p _ => by rw [hw5]; rfl
                                        exact h.mono fun b hb1 hb2 => by
                                          subst hb2
                                          have q1 := HLA.out.st.lt
                                          have q2 := HLA.out.tu
                                          have q3 : U < w9.heap.size := by obtain ⟨_, _, hu⟩ := HLA.out.u; exact hu.lt
                                          exact ⟨by have := HLA.out.st.st; omega, by omega, by omega, hb1, fun e => by rw [← HAG.out] at e; have := (HLA.out.st.o.lt _ e).2; omega⟩
                                      have hnd5 : NdP w5 (XO w5 S T U (.slice (some ag) m cap)) { nd kk with ks := [y, k3] } (.slice none 0 0) (.slice none 0 0) (.slice (some ⟨w9.heap.size, 0, none⟩) 2 2) := nd_kids (c := 2) kk hkp (by simp [maxLen]) 0 0 0
                                      have hlay := lay_any w5 (XO w5 S T U (.slice (some ag) m cap)) Aq cq t3 xsq _ _ _ _ hN5 hnd5 (fun b hb => hb.2.2.2.1) (by have := HSZ.out; omega) (by have := HSZ.out; omega)
                                      unfold ndVal at hlay
                                      change Calls _ _ #[.agg #[.slice Aq t3.ns.length cq, .int .i64 t3.g], .agg #[.int .u8 kk, .int .i32 0, .bool false, .slice none 0 0, .slice none 0 0, .int .i64 0, .int .i64 0, .int .i64 0, .slice (some ⟨w9.heap.size, 0, none⟩) 2 2]] w5 _ at hlay
                                      rw [HKN.out] at hlay
                                      have hS5 : (fun W' : World => W'.cell? ⟨T, 0, none⟩ = some (.slice Aq t3.ns.length cq) ∧ W'.cell? ⟨T, 1, none⟩ = some (.int .i64 t3.g) ∧ W'.cell? (ag.add e) = some (.int .i64 y) ∧ W'.cell? (ag.add q) = some (.int .i64 k3)) w5 := ⟨below_cell hb5 t0, below_cell hb5 t1, below_cell hb5 r0, below_cell hb5 r1⟩
                                      have HL5 := Lib.hid hL5
                                      clear hb5 hL5 hN5 hkp hnd5 hNq v0 v1 h0 h1 f0 f1
                                      refine wpAnyH_one (i := 14) (by kernel_rfl) rfl (fun K hK => ?_)
                                      simp only [g4, g5, g6]
                                      go_simp
                                      rw [← hw5]
                                      refine hK.out _ _ hS5 (fun _ => ?_)
                                      clear hK hS1
                                      try simp only [Act.put, g1, g2, g3, g4, g5, g6]
                                      iterate 1 (refine wpH rfl rfl ?_; try simp only [Act.put, g1, g2, g3, g4, g5, g6])
                                      refine wpAnyH_one (i := 16) (by kernel_rfl) rfl (fun K hK => ?_)
                                      simp only [g4, g5, g6]
                                      go_simp
                                      go_at_call 25
                                      try rw [← hw5]
                                      with_reducible refine hlay.mono ?_
                                      rintro e' w6 ⟨hb6, A6, c6, rfl, hO6⟩
                                      have hln : t3.ns.length + 1 = th.ns.length := by rw [HTH.out]; simp [layT]
                                      rw [← HTH.out, hln] at hO6
                                      rw [← HTH.out, hln]
                                      have hS6 : (fun W' : World => W'.cell? ⟨T, 0, none⟩ = some (.slice Aq t3.ns.length cq) ∧ W'.cell? ⟨T, 1, none⟩ = some (.int .i64 t3.g) ∧ W'.cell? (ag.add e) = some (.int .i64 y) ∧ W'.cell? (ag.add q) = some (.int .i64 k3)) w6 := ⟨below_cell hb6 hS5.1, below_cell hb6 hS5.2.1, below_cell hb6 hS5.2.2.1, below_cell hb6 hS5.2.2.2⟩
                                      have HLN := Lib.hid (next_lay HL5.out hb6 hO6)
                                      have HL6 := Lib.hid (HL5.out.next hb6)
                                      obtain ⟨A7, c7, xs7, uc, ud, ⟨p0, p1⟩, ⟨f0, f1⟩, ⟨v0, v1⟩, ⟨h0, h1⟩, -⟩ := HL6.out.cells
                                      have HMID := Lib.hid (HL6.out.mid (.slice A6 th.ns.length c6) (.int .i64 th.g))
                                      refine hK.out _ _ hS6 (fun _ => ?_)
                                      clear hK hlay hb6 hO6 hln hw5 hS5 t0 t1 r0 r1
                                      try simp only [Act.put, g1, g2, g3, g4, g5, g6]
                                      iterate 3 (refine wpH rfl rfl ?_; try simp only [Act.put, g1, g2, g3, g4, g5, g6])
                                      obtain ⟨w7, hw7⟩ : ∃ w7, w7 = (w6.setCell ⟨U, 0, none⟩ (.slice A6 th.ns.length c6)).setCell ⟨U, 1, none⟩ (.int .i64 th.g) := ⟨_, rfl⟩
                                      have hS7 : (fun W' : World => W'.cell? ⟨T, 0, none⟩ = some (.slice Aq t3.ns.length cq) ∧ W'.cell? ⟨T, 1, none⟩ = some (.int .i64 t3.g) ∧ W'.cell? (ag.add e) = some (.int .i64 y) ∧ W'.cell? (ag.add q) = some (.int .i64 k3)) w7 := by
                                        have hTU := HL6.out.tu
                                        have hST := HL6.out.st.st
                                        have hT7 : w7.heap[T]? = w6.heap[T]? := by rw [hw7]; exact (Below.heap_setCell _ ⟨U, 1, none⟩ _ T (by show T ≠ U; omega)).trans (Below.heap_setCell _ ⟨U, 0, none⟩ _ T (by show T ≠ U; omega))
                                        have hgU : ag.block ≠ U := fun e => by
                                          obtain ⟨_, _, hu⟩ := HL6.out.u
                                          exact row_neK HL6.out.st.o hu (by decide) (by rw [← HAG.out, ← e, HAGB.out]; rfl)
                                        have hA7 : ∀ i, w7.heap[(ag.add i).block]? = w6.heap[(ag.add i).block]? := fun i => by
                                          rw [block_of_add, hw7]
                                          exact (Below.heap_setCell _ ⟨U, 1, none⟩ _ _ (by show ag.block ≠ U; exact hgU)).trans (Below.heap_setCell _ ⟨U, 0, none⟩ _ _ (by show ag.block ≠ U; exact hgU))
                                        exact ⟨(World.cell?_of_block (a := ⟨T, 0, none⟩) hT7).trans hS6.1, (World.cell?_of_block (a := ⟨T, 1, none⟩) hT7).trans hS6.2.1, (World.cell?_of_block (a := ag.add e) (hA7 e)).trans hS6.2.2.1, (World.cell?_of_block (a := ag.add q) (hA7 q)).trans hS6.2.2.2⟩
                                      refine wpAnyH_one (i := 20) (by kernel_rfl) rfl (fun K hK => ?_)
                                      simp only [g4, g5, g6]
                                      go_simp
                                      rw [← hw7]
                                      refine hK.out _ _ hS7 (fun _ => ?_)
                                      clear hK
                                      rw [← hw7] at HMID HLN
                                      clear hw7
                                      try simp only [Act.put, g1, g2, g3, g4, g5, g6]
                                      refine wpAnyH_one (i := 21) (by kernel_rfl) rfl (fun K hK => ?_)
                                      simp only [g4, g5, g6]
                                      go_simp
                                      refine hK.out _ _ hS7 (fun _ => ?_)
                                      clear hK
                                      try simp only [Act.put, g1, g2, g3, g4, g5, g6]
                                      refine wpAnyH_done (by kernel_rfl) ?_ _
                                      obtain ⟨⟨m0, m1⟩, ⟨ma, mb, m2, m3⟩, m4, m5⟩ := HMID.out
                                      clear hS6 hS7 p0 p1 f0 f1 v0 v1 h0 h1
                                      go_upto_region 31 with fail
                                      refine wp_nameW fun wb hwb => ?_
                                      rw [← hwb] at HLN
                                      clear hwb m0 m1 m2 m3 m4 m5
                                      have HLP : Hid (LdSt w S T U th p (.slice (some ag) e cap) wb) := Lib.hid (by
                                        have h := HLN.out
                                        have hp := HPY.out
                                        rw [hp.1, List.append_assoc, ← hp.2.2.2, ← hp.2.1, ← HAG.out] at h
                                        rw [← hp.2.1, ← HAG.out]
                                        exact (show LdSt w S T U th (p ++ [y, k3]) _ wb from h).pop)
                                      obtain ⟨w12, hw12⟩ : ∃ w12, w12 = wb.alloc (.cells #[.int .i64 kn] 3) := ⟨_, rfl⟩
                                      have hb12 : Below wb.heap.size wb w12 := by rw [hw12]; exact (Below.refl _ _).alloc (Nat.le_refl _) _
                                      have HL12 := Lib.hid (HLP.out.next hb12)
                                      have HNEW : Hid (∀ jj u, [Value.int .i64 kn][jj]? = some u → w12.cell? ((⟨wb.heap.size, 0, none⟩ : Addr).add jj) = some u) := Lib.hid (by rw [hw12]; exact one_new wb kn)
                                      have HOW : Hid (w12.ownsRow S 3 1 (.slice (some ag) e cap) e (p.map (Value.int .i64))) := Lib.hid (by have h := HL12.out.st.o; rw [HPY.out.2.1] at h; exact h)
                                      have HBS : Hid (S ≤ w12.heap.size) := Lib.hid (by have := HL12.out.st.r.lt; omega)
                                      have he80 : e ≤ 80 := by have := HPY.out; have := HQM.out; omega
                                      have hec : (e : Int) ≤ (cap : Int) := by have := HCM.out; have := HPY.out; omega
                                      have hec' : e ≤ cap := by have := HCM.out; have := HPY.out; omega
                                      clear hb12
                                      go_wp2_with (at_builtin; rw [← hw12]; (refine wpList_append_lies _ rfl _ _ 29 rfl S 3 i0 (.int .i64 0) 1 8 Tryd.underlying29 hi hz0 hz1 hz2 rfl (by decide) (.slice (some ag) e cap) e (p.map (Value.int .i64)) rfl HOW.out ⟨wb.heap.size, 0, none⟩ 1 1 [.int .i64 kn] rfl rfl HNEW.out (by intro u hu; simp at hu; subst hu; rfl) (by omega) (by unfold maxLen; omega) (by omega) HBS.out w12.heap.size rfl ?_); intro g2 cap2 w13 hown13 hgr13 hat13 hlt13; rw [heq] at hown13; try rw [heq]; have HLF := Lib.hid (HL12.out.push HPY.out.2.1 heq hown13 hgr13 hat13); clear hown13 hgr13 hat13 hlt13 hw12 HL12 HNEW HOW)
                                      go_roundw
                                      case rel => exact ⟨k + 1, by have := HJ.out; omega, by have := HJ2.out; go_num, Lib.hid (by rw [HSTEP.out, HJG.out]; exact HLF.out.back)⟩
                                      case measure => have := HJ.out; simp [intOf]; omega
                                · have s4 : decide (b3 = 0 ∧ 0 < q) = false := decide_eq_false s1
                                  rw [s4]
                                  have HJG : Hid (stepG s a b = ⟨t3, s.o ++ [k3]⟩) := Lib.hid (by
                                    unfold stepG joinG
                                    rw [HS3.out, if_neg (fun h => s1 ⟨by rw [← HB3.out]; exact h.1, by have h2 := h.2; have := HQM.out; simp at h2; omega⟩)])
                                  clear s1 s4 x1'
                                  go_wp2
                                  go_roundw
                                  case rel => exact ⟨k + 1, by have := HJ.out; omega, by have := HJ2.out; go_num, Lib.hid (by rw [HSTEP.out, HJG.out]; exact HLA.out.back)⟩
                                  case measure => have := HJ.out; simp [intOf]; omega
    · -- LAST
      obtain ⟨s, hs⟩ : ∃ s, s = runG zs k := ⟨_, rfl⟩
      have hinv : InvG s 80 := by rw [hs]; exact runG_inv zs k (by omega)
      have hend : treeG zs = sevT s.t 8 s.o := by
        rw [← doneG_sev, hs]
        unfold treeG
        rw [runG_end hk hc]
      rw [← hs] at HQ
      have HEND := Lib.hid hend
      obtain ⟨A, c, xs, hT, hN, hap⟩ := HQ.out.tr
      have t0 : wr.cell? ⟨T, 0, none⟩ = some (.slice A s.t.ns.length c) := hT.cell (i := 0) rfl
      have t1 : wr.cell? ⟨T, 1, none⟩ = some (.int .i64 s.t.g) := hT.cell (i := 1) rfl
      obtain ⟨Al, cl, rfl, -, -, -⟩ := own_slice2 HQ.out.o
      have hls : RIp .i64 wr (· < wr.heap.size) Al s.o.length s.o := RIp.of_own HQ.out.o (fun g hg => (HQ.out.o.lt g hg).2)
      have hsev := several_any wr (XO wr S T T (.slice Al s.o.length cl)) A c s.t xs 8 Al cl s.o hN hap hls (fun b hb => hb.2.2.2.1) (by have := hinv.len; omega) (by have := hinv.olen; omega) ⟨hinv.g0, by have := hinv.g9; omega⟩
      by_cases c1 : (j1 : Int) < (n : Int)
      · have c2 : ¬ (j : Int) < 40 := by omega
        clear hs hinv hend hT hN hap hls hj hj1 hj2 hc hzl hk
        go_wp2_with fail
        with_reducible refine hsev.mono ?_
        rintro e w2 ⟨hb2, A', c', i', xs', rfl, hN2, hap2⟩
        rw [← HEND.out] at hN2 ⊢
        obtain ⟨U, hU⟩ : ∃ U, w2.heap.size = U := ⟨_, rfl⟩
        obtain ⟨w3, hw3⟩ : ∃ w3, w3 = w2.alloc (.cells #[.slice A' (treeG zs).ns.length c', .int .i64 (treeG zs).g] 34) := ⟨_, rfl⟩
        have HE := Lib.hid (tree_end HQ.out hb2 hN2 hap2 hw3 (.slice A' (treeG zs).ns.length c') (.int .i64 (treeG zs).g))
        have hb3 : Below w2.heap.size w2 w3 := by rw [hw3]; exact (Below.refl _ _).alloc (Nat.le_refl _) _
        have hr3 : Rw w3 S 34 #[.slice none 0 0, .int .i64 0] := (HQ.out.r.on hb2 HQ.out.r.lt).on hb3 (Nat.lt_of_lt_of_le HQ.out.r.lt hb2.size)
        have s0 := hr3.cell (i := 0) rfl
        have s1 := hr3.cell (i := 1) rfl
        have f0 := rw_frozen hr3 0
        have f1 := rw_frozen hr3 1
        have u0 : w3.cell? ⟨U, 0, none⟩ = some (.slice A' (treeG zs).ns.length c') := by rw [hw3, ← hU]; simp [World.cell?_alloc_new]
        have u1 : w3.cell? ⟨U, 1, none⟩ = some (.int .i64 (treeG zs).g) := by rw [hw3, ← hU]; simp [World.cell?_alloc_new]
        have q0 := HE.out.1.cell (i := 0) rfl
        have q1 := HE.out.1.cell (i := 1) rfl
        clear hsev hb2 hN2 hap2 hb3 hr3 t0 t1
        go_upto_region 33 with fail
        rw [← hw3]
        clear hw3
        go_wp2
        refine bodyPost_ret (v := .agg #[.slice A' (treeG zs).ns.length c', .int .i64 (treeG zs).g]) (by simp [results, Tryd.results11, go_sem, q0, q1]) rfl ⟨by rw [HSS.out]; exact HE.out.2.1, A', c', xs', rfl, by rw [HSS.out]; exact HE.out.2.2⟩
      · clear hs hinv hend hT hN hap hls hj hj1 hj2 hc hzl hk
        go_wp2_with fail
        with_reducible refine hsev.mono ?_
        rintro e w2 ⟨hb2, A', c', i', xs', rfl, hN2, hap2⟩
        rw [← HEND.out] at hN2 ⊢
        obtain ⟨U, hU⟩ : ∃ U, w2.heap.size = U := ⟨_, rfl⟩
        obtain ⟨w3, hw3⟩ : ∃ w3, w3 = w2.alloc (.cells #[.slice A' (treeG zs).ns.length c', .int .i64 (treeG zs).g] 34) := ⟨_, rfl⟩
        have HE := Lib.hid (tree_end HQ.out hb2 hN2 hap2 hw3 (.slice A' (treeG zs).ns.length c') (.int .i64 (treeG zs).g))
        have hb3 : Below w2.heap.size w2 w3 := by rw [hw3]; exact (Below.refl _ _).alloc (Nat.le_refl _) _
        have hr3 : Rw w3 S 34 #[.slice none 0 0, .int .i64 0] := (HQ.out.r.on hb2 HQ.out.r.lt).on hb3 (Nat.lt_of_lt_of_le HQ.out.r.lt hb2.size)
        have s0 := hr3.cell (i := 0) rfl
        have s1 := hr3.cell (i := 1) rfl
        have f0 := rw_frozen hr3 0
        have f1 := rw_frozen hr3 1
        have u0 : w3.cell? ⟨U, 0, none⟩ = some (.slice A' (treeG zs).ns.length c') := by rw [hw3, ← hU]; simp [World.cell?_alloc_new]
        have u1 : w3.cell? ⟨U, 1, none⟩ = some (.int .i64 (treeG zs).g) := by rw [hw3, ← hU]; simp [World.cell?_alloc_new]
        have q0 := HE.out.1.cell (i := 0) rfl
        have q1 := HE.out.1.cell (i := 1) rfl
        clear hsev hb2 hN2 hap2 hb3 hr3 t0 t1
        go_upto_region 33 with fail
        rw [← hw3]
        clear hw3
        go_wp2
        refine bodyPost_ret (v := .agg #[.slice A' (treeG zs).ns.length c', .int .i64 (treeG zs).g]) (by simp [results, Tryd.results11, go_sem, q0, q1]) rfl ⟨by rw [HSS.out]; exact HE.out.2.1, A', c', xs', rfl, by rw [HSS.out]; exact HE.out.2.2⟩
end Go.Proofs.YtcpjcepeiplfgaaDoor.C
