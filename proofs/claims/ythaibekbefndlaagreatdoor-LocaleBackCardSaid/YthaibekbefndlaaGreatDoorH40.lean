/-
  Joined: LhE. Each with what its own head says.
-/
import Derived.Test.YthaibekbefndlaaGreatDoorH39

namespace Go.Proofs.YthaibekbefndlaaGreatDoor.C
open Go.RowKit

def ClV (S : Nat) (wp : World) (C : Nat) (nm : List UInt8) (rs : List (Int × Int)) (wx : World) : Prop := wp.heap.size ≤ C ∧ Below wp.heap.size wp wx ∧ ∃ v, Two wx C 47 (.string (str nm)) v ∧ wx.ownsRow S 51 2 v rs.length (prsC rs) ∧ ∀ g, v.ownBlock = some g → wp.heap.size ≤ g
theorem ClV.more {S C g cap : Nat} {wp w1 w2 : World} {nm : List UInt8} {rs : List (Int × Int)} {v : Value} (p : Int × Int) (hC : wp.heap.size ≤ C) (hb : Below wp.heap.size wp w1) (ht : Two w1 C 47 (.string (str nm)) v) (hov : w1.ownsRow S 51 2 v rs.length (prsC rs)) (hvb : ∀ g, v.ownBlock = some g → wp.heap.size ≤ g) (hg : w1.grownBy w2 v.ownBlock) (ho : w2.ownsRow S 51 2 (.slice (some ⟨g, 0, none⟩) (rs.length + 1) cap) (rs.length + 1) (prsC rs ++ [.int .i32 p.1, .int .i32 p.2])) (hat : v.ownBlock = some g ∨ wp.heap.size ≤ g) :
  ClV S wp C nm (rs ++ [p]) (w2.setCell ⟨C, 1, none⟩ (.slice (some ⟨g, 0, none⟩) (rs.length + 1) cap)) := by
 have hne := row_ne hov ht (by decide)
 have h2 := ht.kept hg (fun e => hne e.symm)
 have hf : Fr w2 (w2.setCell ⟨C, 1, none⟩ (.slice (some ⟨g, 0, none⟩) (rs.length + 1) cap)) (· = C) := (Fr.of_below (Below.refl _ _)).set _ _ (fun _ => rfl)
 refine ⟨hC, (hb.trans ((Fr.of_grown hg).below (fun j _ hj => hvb j hj) hb.size)).setCell (p := ⟨C, 1, none⟩) hC _, _, h2.set1 _, ?_, fun g' hg' => ?_⟩
 ·rw [List.length_append, prsC_snoc]
  exact ownsRow_fr ho hf (fun g' hg' hx => by subst hx; exact row_ne ho h2 (by decide) hg')
 ·have hgg : g = g' := by simpa [Value.ownBlock] using hg'
  subst hgg
  rcases hat with hat | hat
  ·exact hvb g hat
  ·exact hat
theorem ownsRow_new (w : World) (S : Nat) (hS : S ≤ w.heap.size) (e : TypeId) (size n : Nat) (xs : List Value) (hl : xs.length = n * size) (hn : n ≤ maxLen) : (w.alloc (.cells xs.toArray e)).ownsRow S e size (.slice (some ⟨w.heap.size, 0, none⟩) n n) n xs :=
 ⟨hl, .inr ⟨w.heap.size, n, xs.toArray, rfl, hS, heap_alloc_new w _, Nat.le_refl _, hn, by simpa using hl, by rw [List.take_of_length_le (by simp [hl])]⟩⟩
theorem ClV.newA (w : World) {S : Nat} (hS : S ≤ w.heap.size) (nm : List UInt8) (a b : Int) : ClV S w (w.heap.size + 1) nm [(a, b)] ((w.alloc (.cells #[.int .i32 a, .int .i32 b] 51)).alloc (.cells #[.string (str nm), .slice (some ⟨w.heap.size, 0, none⟩) 1 1] 47)).drew := by
 have hs : (w.alloc (.cells #[.int .i32 a, .int .i32 b] 51)).heap.size = w.heap.size + 1 := by simp
 refine ⟨Nat.le_succ _, below_drew (((Below.refl _ _).alloc (Nat.le_refl _) _).alloc (by rw [hs]; omega) _), _, ?_, ((ownsRow_new w S hS 51 2 1 [.int .i32 a, .int .i32 b] rfl (by unfold maxLen; omega)).alloc _).drew, fun g hg => ?_⟩
 ·have h := Two.new (w.alloc (.cells #[.int .i32 a, .int .i32 b] 51)) 47 (.string (str nm)) (.slice (some ⟨w.heap.size, 0, none⟩) 1 1)
  rw [hs] at h
  exact h
 ·have : w.heap.size = g := by simpa [Value.ownBlock] using hg
  omega
theorem ClV.newB (w : World) {S : Nat} (hS : S ≤ w.heap.size) (nm : List UInt8) (a b : Int) : ClV S w w.heap.size nm [(a, b)] ((w.alloc (.cells #[.string (str nm), .slice (some ⟨w.heap.size + 1, 0, none⟩) 1 1] 47)).alloc (.cells #[.int .i32 a, .int .i32 b] 51)).drew := by
 have hs : (w.alloc (.cells #[.string (str nm), .slice (some ⟨w.heap.size + 1, 0, none⟩) 1 1] 47)).heap.size = w.heap.size + 1 := by simp
 have ho := ownsRow_new (w.alloc (.cells #[.string (str nm), .slice (some ⟨w.heap.size + 1, 0, none⟩) 1 1] 47)) S (by rw [hs]; omega) 51 2 1 [.int .i32 a, .int .i32 b] rfl (by unfold maxLen; omega)
 rw [hs] at ho
 refine ⟨Nat.le_refl _, below_drew (((Below.refl _ _).alloc (Nat.le_refl _) _).alloc (by rw [hs]; omega) _), _, ((Two.new w 47 (.string (str nm)) (.slice (some ⟨w.heap.size + 1, 0, none⟩) 1 1)).alloc _).drew, ho.drew, fun g hg => ?_⟩
 have : w.heap.size + 1 = g := by simpa [Value.ownBlock] using hg
 omega
def ElV (S : Nat) (wp : World) (E : Nat) (nm : List UInt8) (cs : List Int) (sm : Int) (wx : World) : Prop := wp.heap.size ≤ E ∧ Below wp.heap.size wp wx ∧ ∃ Ac cc, Rw wx E 34 #[.string (str nm), .slice Ac cs.length cc, .int .i64 sm] ∧ wx.ownsRow S 35 1 (.slice Ac cs.length cc) cs.length (celC cs)
theorem ElV.new (w : World) (S : Nat) (hS : S ≤ w.heap.size) (r k : Int) : ElV S w (w.heap.size + 1) [] [r] k ((w.alloc (.cells #[.int .i32 r] 35)).alloc (.cells #[.string (str []), .slice (some ⟨w.heap.size, 0, none⟩) 1 1, .int .i64 k] 34)) := by
 have hs : (w.alloc (.cells #[.int .i32 r] 35)).heap.size = w.heap.size + 1 := by simp
 refine ⟨Nat.le_succ _, ((Below.refl _ _).alloc (Nat.le_refl _) _).alloc (by rw [hs]; omega) _, _, _, ?_, (ownsRow_new w S hS 35 1 1 [.int .i32 r] rfl (by unfold maxLen; omega)).alloc _⟩
 unfold Rw
 rw [← hs]
 exact heap_alloc_new _ _
theorem Rw.frozen {w : World} {b : Nat} {t : TypeId} {xs : Array Value} (h : Rw w b t xs) (i : Nat) : w.frozen? ⟨b, i, none⟩ = false := by simp [World.frozen?, show w.heap[b]? = _ from h]
theorem Rw.alloc {w : World} {b : Nat} {t : TypeId} {xs : Array Value} (h : Rw w b t xs) (o : Obj) : Rw (w.alloc o) b t xs := (Below.heap_alloc w o b h.lt).trans h
theorem ElV.name1 {S E : Nat} {wp w : World} {nm : List UInt8} {cs : List Int} {sm : Int} (h : ElV S wp E nm cs sm w) (nm' : List UInt8) (o : Obj) :
  ElV S wp E nm' cs sm ((w.alloc o).setCell ⟨E, 0, none⟩ (.string (str nm'))) := by
 obtain ⟨hE, hb, Ac, cc, hr, ho⟩ := h
 exact ⟨hE, (hb.alloc hb.size o).setCell (p := ⟨E, 0, none⟩) hE _, Ac, cc, set_row (i := 0) (l := [_, _, _]) (hr.alloc o) _, Go.ownsRow_setCell_other (ho.alloc o) (fun he => row_ne (ho.alloc o) (hr.alloc o) (by decide) he) _⟩
theorem ElV.cells1 {S E : Nat} {wp w : World} {nm : List UInt8} {cs : List Int} {sm : Int} (h : ElV S wp E nm cs sm w) (hS : S ≤ wp.heap.size) (a b : Int) :
  ElV S wp E nm [a, b] sm ((w.alloc (.cells #[.int .i32 a, .int .i32 b] 35)).setCell ⟨E, 1, none⟩ (.slice (some ⟨w.heap.size, 0, none⟩) 2 2)) := by
 obtain ⟨hE, hb, Ac, cc, hr, -⟩ := h
 have hn := ownsRow_new w S (Nat.le_trans hS hb.size) 35 1 2 [.int .i32 a, .int .i32 b] rfl (by unfold maxLen; omega)
 refine ⟨hE, (hb.alloc hb.size _).setCell (p := ⟨E, 1, none⟩) hE _, some ⟨w.heap.size, 0, none⟩, 2, set_row (i := 1) (l := [_, _, _]) (hr.alloc _) _, Go.ownsRow_setCell_other hn (fun he => ?_) _⟩
 have : w.heap.size = E := by simpa [Value.ownBlock] using he
 have := hr.lt
 omega
def namArr : Array Value := #[.string ⟨#[99, 104]⟩, .string ⟨#[97, 98]⟩, .string ⟨#[101, 115, 122, 101, 116, 116]⟩]
theorem nam_cell (w : World) (t : TypeId) {j : Nat} (hj : j < 3) : (w.alloc (.cells namArr t)).cell? ⟨w.heap.size, j, none⟩ = some (.string (str (nmElm (j : Int)))) := by
 rw [World.cell?_alloc_new]
 rcases (by omega : j = 0 ∨ j = 1 ∨ j = 2) with rfl | rfl | rfl <;> rfl
theorem ElV.samed {S E : Nat} {wp w : World} {nm : List UInt8} {cs : List Int} {sm : Int} (h : ElV S wp E nm cs sm w) (s : Int) : ElV S wp E nm cs s (w.setCell ⟨E, 2, none⟩ (.int .i64 s)) := by
 obtain ⟨hE, hb, Ac, cc, hr, ho⟩ := h
 refine ⟨hE, hb.setCell (p := ⟨E, 2, none⟩) hE _, Ac, cc, set_row (i := 2) (l := [_, _, _]) hr _, Go.ownsRow_setCell_other ho (fun he => ?_) _⟩
 exact row_ne ho hr (by decide) he
theorem ElV.next {S E : Nat} {wp w w' : World} {nm : List UInt8} {cs : List Int} {sm : Int} (h : ElV S wp E nm cs sm w) (hb : Below w.heap.size w w') : ElV S wp E nm cs sm w' := by
 obtain ⟨hE, hb0, Ac, cc, hr, ho⟩ := h
 exact ⟨hE, hb0.trans (hb.mono hb0.size), Ac, cc, (hb.block _ hr.lt).trans hr, ownsRow_fr ho (.of_below hb) (X := fun _ => False) (fun _ _ => id)⟩
theorem GSt.mid {w0 w w' : World} {S sz n : Nat} {l : Loc} {v1 v2 v3 v4 v : Value} {t0 : TypeId} {xs : List Value} (h : GSt w0 S l v1 v2 v3 v4 w) (e2 : w.ownsRow S t0 sz v n xs) (h1 : 26 ≠ t0) (h2 : 9 ≠ t0) (hg : w.grownBy w' v.ownBlock) : LocZ w' (S + 1) v1 v2 v3 v4 ∧ Below S w0 w' := by
 have hq := h.step (grown_fr hg) (ownBlock_ge e2) (fun j hx => ⟨fun e => row_ne e2 h.r h1 (e ▸ hx), fun e => row_ne e2 h.z h1 (e ▸ hx), fun e => row_ne e2 h.nm h2 (e ▸ hx)⟩) (row_tyeq e2)
 exact ⟨hq.1, hq.2.2.2.1⟩
theorem nm_at {w0 w : World} {S : Nat} {l : Loc} {v1 v2 v3 v4 : Value} (h : GSt w0 S l v1 v2 v3 v4 w) {i : Nat} (hi : i < 3) : w.cell? ⟨S + 1 + 1, i, none⟩ = some (.string (str (nmCls i))) := by
 rcases (by omega : i = 0 ∨ i = 1 ∨ i = 2) with rfl | rfl | rfl
 ·exact h.nm.cell rfl
 ·exact h.nm.cell rfl
 ·exact h.nm.cell rfl
theorem take_end {α : Type} {l : List α} {i n k : Nat} (hl : l.length = n) (h1 : i ≤ n) (h2 : i ≤ k) (h3 : ¬ (i < n ∧ i < k)) : l.take i = l.take k := by
 rcases (by omega : i = n ∨ i = k) with h | h
 ·rw [List.take_of_length_le (by omega), List.take_of_length_le (by omega)]
 ·rw [h]
theorem take_drop_end {α : Type} {l : List α} {i n a k : Nat} (hl : l.length = n) (h0 : a ≤ i) (_ : i ≤ n ∨ i = a) (h2 : i ≤ a + k) (h3 : ¬ (i < n ∧ i < a + k)) : (l.drop a).take (i - a) = (l.drop a).take k := by
 rcases (by omega : i = a + k ∨ n ≤ i) with h | h
 ·rw [h, Nat.add_sub_cancel_left]
 ·rw [List.take_of_length_le (by rw [List.length_drop]; omega), List.take_of_length_le (by rw [List.length_drop]; omega)]
theorem take_drop_one {α : Type} {l : List α} {i a : Nat} {z : α} (h : l[i]? = some z) (h0 : a ≤ i) : (l.drop a).take (i + 1 - a) = (l.drop a).take (i - a) ++ [z] := by
 rw [show i + 1 - a = (i - a) + 1 by omega]
 exact take_one (by rw [List.getElem?_drop, show a + (i - a) = i by omega]; exact h)
theorem take_len {α : Type} {l : List α} {i a : Nat} {z : α} (h : l[i]? = some z) (h0 : a ≤ i) : ((l.drop a).take (i - a)).length = i - a := by
 have := (List.getElem?_eq_some_iff.1 h).1
 rw [List.length_take, List.length_drop]
 omega
theorem GSt.told {w0 w : World} {S : Nat} {l : Loc} {v1 v2 v3 v4 : Value} (h : GSt w0 S l v1 v2 v3 v4 w) (hS : w0.heap.size = S) (x1 x2 x3 x4 : Value) :
  LocAt ((((w.setCell ⟨S, 0, none⟩ x1).setCell ⟨S, 1, none⟩ x2).setCell ⟨S, 2, none⟩ x3).setCell ⟨S, 3, none⟩ x4) w0.heap.size v1 v2 v3 v4 l ∧ Below w0.heap.size w0 ((((w.setCell ⟨S, 0, none⟩ x1).setCell ⟨S, 1, none⟩ x2).setCell ⟨S, 2, none⟩ x3).setCell ⟨S, 3, none⟩ x4) := by
 rw [hS]
 have hf : Fr w ((((w.setCell ⟨S, 0, none⟩ x1).setCell ⟨S, 1, none⟩ x2).setCell ⟨S, 2, none⟩ x3).setCell ⟨S, 3, none⟩ x4) (fun j => j = S) := ((((Fr.of_below (X := fun j => j = S) (Below.refl _ _)).set ⟨S, 0, none⟩ x1 (fun _ => rfl)).set ⟨S, 1, none⟩ x2 (fun _ => rfl)).set ⟨S, 2, none⟩ x3 (fun _ => rfl)).set ⟨S, 3, none⟩ x4 (fun _ => rfl)
 have hty : ∀ g c z t, g = S → w.heap[g]? = some (.cells c t z) → t = 26 := by
  rintro g c z t rfl hg
  have := hg.symm.trans h.r
  simp at this
  exact this.2.1
 obtain ⟨a1, a2, a3, a4⟩ := h.loc
 have no : ∀ {e : TypeId} {sz n : Nat} {v : Value} {xs : List Value}, w.ownsRow S e sz v n xs → 26 ≠ e → ∀ g, v.ownBlock = some g → ¬ g = S := fun hw he g hg hx => by
  subst hx
  exact row_ne hw h.r he hg
 refine ⟨⟨a1.fr hf (fun g c z t hx hg => ?_), ownsRow_fr a2 hf (no a2 (by decide)), ownsRow_fr a3 hf (no a3 (by decide)), a4.fr hf (fun g c z t hx hg => ?_)⟩, (((h.b.setCell (p := ⟨S, 0, none⟩) (Nat.le_refl S) _).setCell (p := ⟨S, 1, none⟩) (Nat.le_refl S) _).setCell (p := ⟨S, 2, none⟩) (Nat.le_refl S) _).setCell (p := ⟨S, 3, none⟩) (Nat.le_refl S) _⟩
 ·rw [hty g c z t hx hg]; decide
 ·rw [hty g c z t hx hg]; decide
end Go.Proofs.YthaibekbefndlaaGreatDoor.C
