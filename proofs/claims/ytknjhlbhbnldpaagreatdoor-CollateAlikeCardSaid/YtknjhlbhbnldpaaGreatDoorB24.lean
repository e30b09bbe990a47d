/-
  Joined: KoQ. Each with what its own head says.
-/
import Derived.Test.YtknjhlbhbnldpaaGreatDoorB23

namespace Go.Proofs.YtknjhlbhbnldpaaGreatDoor.C
open Go.RowKit

def upP (n : Nat) : List (Int × Int) := (List.range n).map fun (i : Nat) => ((97 + i : Int), (65 + i : Int))
def loP (n : Nat) : List (Int × Int) := (List.range n).map fun (i : Nat) => ((65 + i : Int), (97 + i : Int))
def ordP (n : Nat) : List Elm := (List.range n).map fun (i : Nat) => ⟨[], [(i : Int)], (i : Int)⟩
def plainLoc : Loc := ⟨plainCls, upP 26, loP 26, ordP 128⟩
theorem upP_next (n : Nat) : upP (n + 1) = upP n ++ [(97 + (n : Int), 65 + (n : Int))] := by unfold upP; rw [List.range_succ, List.map_append]; rfl
theorem loP_next (n : Nat) : loP (n + 1) = loP n ++ [(65 + (n : Int), 97 + (n : Int))] := by unfold loP; rw [List.range_succ, List.map_append]; rfl
theorem ordP_next (n : Nat) : ordP (n + 1) = ordP n ++ [⟨[], [(n : Int)], (n : Int)⟩] := by unfold ordP; rw [List.range_succ, List.map_append]; rfl
theorem upP_len (n : Nat) : (upP n).length = n := by simp [upP]
theorem loP_len (n : Nat) : (loP n).length = n := by simp [loP]
theorem ordP_len (n : Nat) : (ordP n).length = n := by simp [ordP]
structure PSt (w0 : World) (S T : Nat) (l : Loc) (v1 v2 v3 v4 : Value) (w : World) : Prop where
 z : LocZ w T v1 v2 v3 v4
 r : LocZ w S (.slice none 0 0) (.slice none 0 0) (.slice none 0 0) (.slice none 0 0)
 st : S < T
 loc : LocAt w S v1 v2 v3 v4 l
 ne : ∀ g, v2.ownBlock = some g → v3.ownBlock ≠ some g
 b : Below S w0 w
section
variable {w0 w w' : World} {S T : Nat} {l : Loc} {v1 v2 v3 v4 : Value}
theorem PSt.step {X : Nat → Prop} {t0 : TypeId} (h : PSt w0 S T l v1 v2 v3 v4 w) (hf : Fr w w' X) (hS : ∀ j, X j → S ≤ j) (hz : ∀ j, X j → j ≠ S ∧ j ≠ T) (ht : ∀ g c z t, X g → w.heap[g]? = some (.cells c t z) → t = t0) :
  LocZ w' T v1 v2 v3 v4 ∧ LocZ w' S (.slice none 0 0) (.slice none 0 0) (.slice none 0 0) (.slice none 0 0) ∧ Below S w0 w' ∧
  (t0 ≠ 86 ∧ t0 ≠ 109 → ClsAt w' S v1 l.cls) ∧ (t0 ≠ 39 ∧ t0 ≠ 23 → OrdAt w' S v4 l.ord) ∧ ((∀ g, v2.ownBlock = some g → ¬ X g) → w'.ownsRow S 95 2 v2 l.up.length (prsC l.up)) ∧ ((∀ g, v3.ownBlock = some g → ¬ X g) → w'.ownsRow S 95 2 v3 l.lo.length (prsC l.lo)) := by
 obtain ⟨a1, a2, a3, a4⟩ := h.loc
 have hsz : S ≤ w.heap.size := Nat.le_of_lt (Array.getElem?_eq_some_iff.1 h.r).1
 refine ⟨(hf.block _ (Array.getElem?_eq_some_iff.1 h.z).1 fun hx => (hz _ hx).2 rfl).trans h.z, (hf.block _ (Array.getElem?_eq_some_iff.1 h.r).1 fun hx => (hz _ hx).1 rfl).trans h.r, h.b.trans (hf.below (fun j _ hx => hS j hx) hsz), fun hn => a1.fr hf (fun g c z t hx hg => ?_), fun hn => a4.fr hf (fun g c z t hx hg => ?_), fun hx => ownsRow_fr a2 hf hx, fun hx => ownsRow_fr a3 hf hx⟩
 ·rw [ht g c z t hx hg]
  exact hn
 ·rw [ht g c z t hx hg]
  exact ⟨hn.2, hn.1⟩
theorem PSt.next (h : PSt w0 S T l v1 v2 v3 v4 w) (hb : Below w.heap.size w w') : PSt w0 S T l v1 v2 v3 v4 w' := by
 obtain ⟨z, r, b, c1, c4, c2, c3⟩ := h.step (X := fun _ => False) (t0 := 3) (.of_below hb) (fun _ hx => hx.elim) (fun _ hx => hx.elim) (fun _ _ _ _ hx => hx.elim)
 exact ⟨z, r, h.st, ⟨c1 (by decide), c2 (fun _ _ => id), c3 (fun _ _ => id), c4 (by decide)⟩, h.ne, b⟩
theorem row_neK {base sz n : Nat} {e t : TypeId} {v : Value} {xs : List Value} {b : Nat} {cs : Array Value} (h : w.ownsRow base e sz v n xs) (hb : w.heap[b]? = some (.cells cs t (0, 0))) (hne : t ≠ e) : v.ownBlock ≠ some b := by
 intro hg
 obtain ⟨c', hc'⟩ := ownsRow_ty h hg
 have := hb.symm.trans hc'
 simp at this
 exact hne this.2
theorem PSt.put {x1 x2 x3 x4 : Value} {l' : Loc} {i : Nat} {u : Value} (hz : LocZ w T v1 v2 v3 v4) (hr : LocZ w S (.slice none 0 0) (.slice none 0 0) (.slice none 0 0) (.slice none 0 0)) (hST : S < T) (hL : LocAt w S x1 x2 x3 x4 l') (hne : ∀ g, x2.ownBlock = some g → x3.ownBlock ≠ some g) (hb : Below S w0 w) (hi : [v1, v2, v3, v4].set i u = [x1, x2, x3, x4]) :
  PSt w0 S T l' x1 x2 x3 x4 (w.setCell ⟨T, i, none⟩ u) := by
 have hf : Fr w (w.setCell ⟨T, i, none⟩ u) (fun j => j = T) := (Fr.of_below (Below.refl _ _)).set ⟨T, i, none⟩ u (fun _ => rfl)
 have hty : ∀ g c z t, g = T → w.heap[g]? = some (.cells c t z) → t = 30 := by
  rintro g c z t rfl hg
  have := hg.symm.trans hz
  simp at this
  exact this.2.1
 obtain ⟨a1, a2, a3, a4⟩ := hL
 have no : ∀ {e : TypeId} {sz n : Nat} {v : Value} {xs : List Value}, w.ownsRow S e sz v n xs → 30 ≠ e → ∀ g, v.ownBlock = some g → ¬ g = T := fun hw he g hg hx => by
  subst hx
  exact row_neK hw hz he hg
 refine ⟨?_, (hf.block _ (Array.getElem?_eq_some_iff.1 hr).1 (by omega)).trans hr, hST, ⟨a1.fr hf (fun g c z t hx hg => ?_), ownsRow_fr a2 hf (no a2 (by decide)), ownsRow_fr a3 hf (no a3 (by decide)), a4.fr hf (fun g c z t hx hg => ?_)⟩, hne, hb.setCell (p := ⟨T, i, none⟩) (Nat.le_of_lt hST) _⟩
 ·show _ = _
  rw [set_row (l := [v1, v2, v3, v4]) hz u, hi]
 ·rw [hty g c z t hx hg]; decide
 ·rw [hty g c z t hx hg]; decide
theorem row_tyK {base sz n : Nat} {e : TypeId} {v : Value} {xs : List Value} (h : w.ownsRow base e sz v n xs) : ∀ g c z t, (v.ownBlock = some g) → w.heap[g]? = some (.cells c t z) → t = e := by
 intro g c z t hx hh
 obtain ⟨c', hc'⟩ := ownsRow_ty h hx
 have := hh.symm.trans hc'
 simp at this
 exact this.2.1
theorem prs_snocK (l : List (Int × Int)) (p : Int × Int) : prsC (l ++ [p]) = prsC l ++ [.int .i32 p.1, .int .i32 p.2] := by unfold prsC; rw [List.flatMap_append]; rfl
theorem PSt.up {g cap : Nat} (p : Int × Int) (h : PSt w0 S T l v1 v2 v3 v4 w) (hg : w.grownBy w' v2.ownBlock) (ho : w'.ownsRow S 95 2 (.slice (some ⟨g, 0, none⟩) (l.up.length + 1) cap) (l.up.length + 1) (prsC l.up ++ [.int .i32 p.1, .int .i32 p.2])) (hat : v2.ownBlock = some g ∨ w.heap.size ≤ g) :
  PSt w0 S T { l with up := l.up ++ [p] } v1 (.slice (some ⟨g, 0, none⟩) (l.up.length + 1) cap) v3 v4 (w'.setCell ⟨T, 1, none⟩ (.slice (some ⟨g, 0, none⟩) (l.up.length + 1) cap)) := by
 have e2 := h.loc.2.1
 have hty := row_tyK e2
 obtain ⟨z, r, b, c1, c4, -, c3⟩ := h.step (Fr.of_grown hg) (fun j hj => (e2.lt j hj).1) (fun j hx => ⟨fun e => row_neK e2 h.r (by decide) (e ▸ hx), fun e => row_neK e2 h.z (by decide) (e ▸ hx)⟩) hty
 have q3 := c3 (fun g hg hx => h.ne g hx hg)
 refine PSt.put z r h.st ⟨c1 (by decide), ?_, q3, c4 (by decide)⟩ (fun g' hg' hq => ?_) b rfl
 ·rw [List.length_append, prs_snocK]
  exact ho
 ·have hgg : g = g' := by simpa [Value.ownBlock] using hg'
  subst hgg
  rcases hat with hat | hat
  ·exact h.ne g hat hq
  ·have := (h.loc.2.2.1.lt g hq).2
   omega
theorem PSt.lo {g cap : Nat} (p : Int × Int) (h : PSt w0 S T l v1 v2 v3 v4 w) (hg : w.grownBy w' v3.ownBlock) (ho : w'.ownsRow S 95 2 (.slice (some ⟨g, 0, none⟩) (l.lo.length + 1) cap) (l.lo.length + 1) (prsC l.lo ++ [.int .i32 p.1, .int .i32 p.2])) (hat : v3.ownBlock = some g ∨ w.heap.size ≤ g) :
  PSt w0 S T { l with lo := l.lo ++ [p] } v1 v2 (.slice (some ⟨g, 0, none⟩) (l.lo.length + 1) cap) v4 (w'.setCell ⟨T, 2, none⟩ (.slice (some ⟨g, 0, none⟩) (l.lo.length + 1) cap)) := by
 have e2 := h.loc.2.2.1
 have hty := row_tyK e2
 obtain ⟨z, r, b, c1, c4, c2, -⟩ := h.step (Fr.of_grown hg) (fun j hj => (e2.lt j hj).1) (fun j hx => ⟨fun e => row_neK e2 h.r (by decide) (e ▸ hx), fun e => row_neK e2 h.z (by decide) (e ▸ hx)⟩) hty
 have q2 := c2 (fun g hg hx => h.ne g hg hx)
 refine PSt.put z r h.st ⟨c1 (by decide), q2, ?_, c4 (by decide)⟩ (fun g' hg' hq => ?_) b rfl
 ·rw [List.length_append, prs_snocK]
  exact ho
 ·have hgg : g = g' := by simpa [Value.ownBlock] using hq
  subst hgg
  rcases hat with hat | hat
  ·exact h.ne g hg' hat
  ·have := (h.loc.2.1.lt g hg').2
   omega
theorem PSt.mid {v : Value} {e : TypeId} {sz n : Nat} {xs : List Value} (h : PSt w0 S T l v1 v2 v3 v4 w) (e2 : w.ownsRow S e sz v n xs) (h1 : 30 ≠ e) (hg : w.grownBy w' v.ownBlock) : LocZ w' T v1 v2 v3 v4 := ((Fr.of_grown hg).block _ (Array.getElem?_eq_some_iff.1 h.z).1 fun hx => row_neK e2 h.z h1 hx).trans h.z
theorem PSt.ord {vs : List Value} {x : Value} {g cap : Nat} (e : Elm) (h : PSt w0 S T l v1 v2 v3 v4 w) (e1 : vs.length = l.ord.length) (e2 : w.ownsRow S 39 3 v4 l.ord.length (ordR l.ord vs).flatten) (e3 : ∀ (i : Nat) (e : Elm) (x : Value), l.ord[i]? = some e → vs[i]? = some x → w.ownsRow S 23 1 x e.cells.length (celC e.cells)) (hx : w.ownsRow S 23 1 x e.cells.length (celC e.cells)) (hg : w.grownBy w' v4.ownBlock) (ho : w'.ownsRow S 39 3 (.slice (some ⟨g, 0, none⟩) (l.ord.length + 1) cap) (l.ord.length + 1) ((ordR l.ord vs).flatten ++ [.string (str e.name), x, .int .i64 e.same])) :
  PSt w0 S T { l with ord := l.ord ++ [e] } v1 v2 v3 (.slice (some ⟨g, 0, none⟩) (l.ord.length + 1) cap) (w'.setCell ⟨T, 3, none⟩ (.slice (some ⟨g, 0, none⟩) (l.ord.length + 1) cap)) := by
 have hty := row_tyK e2
 obtain ⟨z, r, b, c1, -, c2, c3⟩ := h.step (Fr.of_grown hg) (fun j hj => (e2.lt j hj).1) (fun j hx => ⟨fun e => row_neK e2 h.r (by decide) (e ▸ hx), fun e => row_neK e2 h.z (by decide) (e ▸ hx)⟩) hty
 have q2 := c2 (fun g hg hx => by
  obtain ⟨c', hc'⟩ := ownsRow_ty h.loc.2.1 hg
  have := hty g _ _ _ hx hc'
  exact absurd this (by decide))
 have q3 := c3 (fun g hg hx => by
  obtain ⟨c', hc'⟩ := ownsRow_ty h.loc.2.2.1 hg
  have := hty g _ _ _ hx hc'
  exact absurd this (by decide))
 exact PSt.put z r h.st ⟨c1 (by decide), q2, q3, OrdAt.snoc e e1 e2 e3 hx hg ho⟩ h.ne b rfl
end
section
variable {w0 w w' : World} {S T : Nat} {v1 v2 v3 v4 : Value}
theorem PSt.told {l : Loc} (h : PSt w0 S T l v1 v2 v3 v4 w) (x1 x2 x3 x4 : Value) :
  LocAt ((((w.setCell ⟨S, 0, none⟩ x1).setCell ⟨S, 1, none⟩ x2).setCell ⟨S, 2, none⟩ x3).setCell ⟨S, 3, none⟩ x4) S v1 v2 v3 v4 l ∧ Below S w0 ((((w.setCell ⟨S, 0, none⟩ x1).setCell ⟨S, 1, none⟩ x2).setCell ⟨S, 2, none⟩ x3).setCell ⟨S, 3, none⟩ x4) := by
 have hf : Fr w ((((w.setCell ⟨S, 0, none⟩ x1).setCell ⟨S, 1, none⟩ x2).setCell ⟨S, 2, none⟩ x3).setCell ⟨S, 3, none⟩ x4) (fun j => j = S) := ((((Fr.refl w _).setT _ _).setT _ _).setT _ _).setT _ _
 have hty : ∀ g c z t, g = S → w.heap[g]? = some (.cells c t z) → t = 30 := by
  rintro g c z t rfl hg
  have := hg.symm.trans h.r
  simp at this
  exact this.2.1
 obtain ⟨a1, a2, a3, a4⟩ := h.loc
 have no : ∀ {e : TypeId} {sz n : Nat} {v : Value} {xs : List Value}, w.ownsRow S e sz v n xs → 30 ≠ e → ∀ g, v.ownBlock = some g → ¬ g = S := fun hw he g hg hx => by
  subst hx
  exact row_neK hw h.r he hg
 refine ⟨⟨a1.fr hf (fun g c z t hx hg => ?_), ownsRow_fr a2 hf (no a2 (by decide)), ownsRow_fr a3 hf (no a3 (by decide)), a4.fr hf (fun g c z t hx hg => ?_)⟩, h.b.trans (hf.below (by rintro j _ rfl; exact Nat.le_refl _) (Nat.le_of_lt (Array.getElem?_eq_some_iff.1 h.r).1))⟩
 ·rw [hty g c z t hx hg]; decide
 ·rw [hty g c z t hx hg]; decide
theorem PSt.up2 {k m g cap c2 : Nat} {A2 : Option Addr} {cs : List Cls} {o : List Elm} {pa pb : Int} (h : PSt w0 S T ⟨cs, upP k, loP m, o⟩ v1 (.slice A2 k c2) v3 v4 w) (hpa : pa = 97 + (k : Int)) (hpb : pb = 65 + (k : Int))
  (hg : (w.alloc (.cells #[.int .i32 pa, .int .i32 pb] 95)).grownBy w' (Value.slice A2 k c2).ownBlock) (ho : w'.ownsRow S 95 2 (.slice (some ⟨g, 0, none⟩) (k + 1) cap) (k + 1) (prsC (upP k) ++ [.int .i32 pa, .int .i32 pb])) (hat : (Value.slice A2 k c2).ownBlock = some g ∨ (w.alloc (.cells #[.int .i32 pa, .int .i32 pb] 95)).heap.size ≤ g) :
  PSt w0 S T ⟨cs, upP (k + 1), loP m, o⟩ v1 (.slice (some ⟨g, 0, none⟩) (k + 1) cap) v3 v4 (w'.setCell ⟨T, 1, none⟩ (.slice (some ⟨g, 0, none⟩) (k + 1) cap)) ∧ LocZ w' T v1 (.slice A2 k c2) v3 v4 := by
 have hal := h.next ((Below.refl w.heap.size w).alloc (Nat.le_refl _) (.cells #[.int .i32 pa, .int .i32 pb] 95))
 have el : (⟨cs, upP k, loP m, o⟩ : Loc).up.length = k := upP_len k
 have hz := hal.mid hal.loc.2.1 (by decide) hg
 have hn := hal.up (g := g) (cap := cap) (pa, pb) hg (by rw [el]; exact ho) hat
 rw [el] at hn
 have e2 : ({ (⟨cs, upP k, loP m, o⟩ : Loc) with up := (⟨cs, upP k, loP m, o⟩ : Loc).up ++ [(pa, pb)] } : Loc) = ⟨cs, upP (k + 1), loP m, o⟩ := by rw [upP_next, hpa, hpb]
 rw [e2] at hn
 exact ⟨hn, hz⟩
theorem PSt.lo2 {k m g cap c3 : Nat} {A3 : Option Addr} {cs : List Cls} {o : List Elm} {pa pb : Int} (h : PSt w0 S T ⟨cs, upP m, loP k, o⟩ v1 v2 (.slice A3 k c3) v4 w) (hpa : pa = 97 + (k : Int)) (hpb : pb = 65 + (k : Int))
  (hg : (w.alloc (.cells #[.int .i32 pb, .int .i32 pa] 95)).grownBy w' (Value.slice A3 k c3).ownBlock) (ho : w'.ownsRow S 95 2 (.slice (some ⟨g, 0, none⟩) (k + 1) cap) (k + 1) (prsC (loP k) ++ [.int .i32 pb, .int .i32 pa])) (hat : (Value.slice A3 k c3).ownBlock = some g ∨ (w.alloc (.cells #[.int .i32 pb, .int .i32 pa] 95)).heap.size ≤ g) :
  PSt w0 S T ⟨cs, upP m, loP (k + 1), o⟩ v1 v2 (.slice (some ⟨g, 0, none⟩) (k + 1) cap) v4 (w'.setCell ⟨T, 2, none⟩ (.slice (some ⟨g, 0, none⟩) (k + 1) cap)) ∧ LocZ w' T v1 v2 (.slice A3 k c3) v4 := by
 have hal := h.next ((Below.refl w.heap.size w).alloc (Nat.le_refl _) (.cells #[.int .i32 pb, .int .i32 pa] 95))
 have el : (⟨cs, upP m, loP k, o⟩ : Loc).lo.length = k := loP_len k
 have hz := hal.mid hal.loc.2.2.1 (by decide) hg
 have hn := hal.lo (g := g) (cap := cap) (pb, pa) hg (by rw [el]; exact ho) hat
 rw [el] at hn
 have e2 : ({ (⟨cs, upP m, loP k, o⟩ : Loc) with lo := (⟨cs, upP m, loP k, o⟩ : Loc).lo ++ [(pb, pa)] } : Loc) = ⟨cs, upP m, loP (k + 1), o⟩ := by rw [loP_next, hpa, hpb]
 rw [e2] at hn
 exact ⟨hn, hz⟩
def eBox (w : World) (k : Int) : World := (w.alloc (.cells #[.int .i32 k] 23)).alloc (.cells #[.string ⟨#[]⟩, .slice (some ⟨w.heap.size, 0, none⟩) 1 1, .int .i64 k] 39)
theorem PSt.ord2 {k g cap c4 : Nat} {A4 : Option Addr} {cs : List Cls} {us ls : List (Int × Int)} {vs : List Value} (h : PSt w0 S T ⟨cs, us, ls, ordP k⟩ v1 v2 v3 (.slice A4 k c4) w)
  (e1 : vs.length = k) (e2 : w.ownsRow S 39 3 (.slice A4 k c4) k (ordR (ordP k) vs).flatten) (e3 : ∀ (i : Nat) (e : Elm) (x : Value), (ordP k)[i]? = some e → vs[i]? = some x → w.ownsRow S 23 1 x e.cells.length (celC e.cells))
  (hg : (eBox w k).grownBy w' (Value.slice A4 k c4).ownBlock) (ho : w'.ownsRow S 39 3 (.slice (some ⟨g, 0, none⟩) (k + 1) cap) (k + 1) ((ordR (ordP k) vs).flatten ++ [.string ⟨#[]⟩, .slice (some ⟨w.heap.size, 0, none⟩) 1 1, .int .i64 k])) :
  PSt w0 S T ⟨cs, us, ls, ordP (k + 1)⟩ v1 v2 v3 (.slice (some ⟨g, 0, none⟩) (k + 1) cap) (w'.setCell ⟨T, 3, none⟩ (.slice (some ⟨g, 0, none⟩) (k + 1) cap)) ∧ LocZ w' T v1 v2 v3 (.slice A4 k c4) := by
 have hb : Below w.heap.size w (eBox w k) := ((Below.refl _ _).alloc (Nat.le_refl _) _).alloc (by simp) _
 have hsz : S ≤ w.heap.size := Nat.le_of_lt (Array.getElem?_eq_some_iff.1 h.r).1
 have hal := h.next hb
 have q2 := own_next e2 hb
 have hz := hal.mid q2 (by decide) hg
 have el : (⟨cs, us, ls, ordP k⟩ : Loc).ord.length = k := ordP_len k
 have hx : (eBox w k).ownsRow S 23 1 (.slice (some ⟨w.heap.size, 0, none⟩) 1 1) 1 (celC [(k : Int)]) := own_next (own_newK (l := celC [(k : Int)]) hsz rfl (by decide)) ((Below.refl _ _).alloc (Nat.le_refl _) _)
 have hn := hal.ord (g := g) (cap := cap) (vs := vs) (x := .slice (some ⟨w.heap.size, 0, none⟩) 1 1) ⟨[], [(k : Int)], (k : Int)⟩ (by rw [el]; exact e1) (by rw [el]; exact q2) (fun i e x a b => own_next (e3 i e x a b) hb) hx hg (by rw [el]; exact ho)
 rw [el] at hn
 have e4 : ({ (⟨cs, us, ls, ordP k⟩ : Loc) with ord := (⟨cs, us, ls, ordP k⟩ : Loc).ord ++ [⟨[], [(k : Int)], (k : Int)⟩] } : Loc) = ⟨cs, us, ls, ordP (k + 1)⟩ := by rw [ordP_next]
 rw [e4] at hn
 exact ⟨hn, hz⟩
end

set_option maxRecDepth 100000 in
set_option maxHeartbeats 8000000 in
theorem plain_any (w : World) : Calls Tryz.prog 12 #[] w fun e w' => ∃ v1 v2 v3 v4, e = .returned (.agg #[v1, v2, v3, v4]) ∧ LocAt w' w.heap.size v1 v2 v3 v4 plainLoc ∧ Below w.heap.size w w' := by
 obtain ⟨S, hS⟩ : ∃ S, S = w.heap.size := ⟨_, rfl⟩
 obtain ⟨W, hW⟩ : ∃ W, W = w.alloc (.cells #[.slice none 0 0, .slice none 0 0, .slice none 0 0, .slice none 0 0] 30) := ⟨_, rfl⟩
 have hr0 : LocZ W S (.slice none 0 0) (.slice none 0 0) (.slice none 0 0) (.slice none 0 0) := by rw [hW, hS]; exact heap_alloc_new w _
 have hb0 : Below S w W := by rw [hW, hS]; exact (Below.refl _ _).alloc (Nat.le_refl _) _
 have hpc := plainClasses_any W
 obtain ⟨iP, hiP, hp0, hp1, hp2⟩ := info_parts infoPair
 obtain ⟨iE, hiE, he0, he1, he2⟩ := info_parts infoElem
 have HS := Lib.hid hS
 have HR0 := Lib.hid hr0
 have HB0 := Lib.hid hb0
 have hSW : S < W.heap.size := (Array.getElem?_eq_some_iff.1 hr0).1
 rw [← hS]
 clear hr0 hb0
 go_enter Tryz.func12, Tryz.ntmps12
 go_wp2_with fail
 rw [← HS.out, ← hW]
 clear hW hS
 refine hpc.mono ?_
 rintro e w1 ⟨v1, rfl, hc, hb1⟩
 obtain ⟨A1, c1, rfl⟩ : ∃ A1 c1, v1 = .slice A1 plainCls.length c1 := by obtain ⟨_, _, h2, _⟩ := hc; exact row_form h2
 obtain ⟨T, hT⟩ : ∃ T, T = w1.heap.size := ⟨_, rfl⟩
 have hs1 := hb1.size
 have hST : S < T := by omega
 have HP : Hid (PSt w S T ⟨plainCls, upP 0, loP 0, []⟩ (.slice A1 plainCls.length c1) (.slice none 0 0) (.slice none 0 0) (.slice none 0 0) (w1.alloc (.cells #[.slice A1 plainCls.length c1, .slice none 0 0, .slice none 0 0, .slice none 0 0] 30))) :=
  Lib.hid ⟨by rw [hT]; exact heap_alloc_new w1 _, (heap_lt _ _ (by omega)).trans ((hb1.block S hSW).trans HR0.out), hST, ⟨(hc.next ((Below.refl _ _).alloc (Nat.le_refl _) _)).low (Nat.le_of_lt hSW), World.ownsRow_nil _ _ _ _, World.ownsRow_nil _ _ _ _, OrdAt.nil _ _⟩, by intro g hg; simp [Value.ownBlock] at hg, (HB0.out.trans (hb1.mono (Nat.le_of_lt hSW))).alloc (by omega) _⟩
 clear hpc hc hb1 HR0 HB0
 go_wp2
 rw [← hT]
 generalize w1.alloc (.cells #[.slice A1 plainCls.length c1, .slice none 0 0, .slice none 0 0, .slice none 0 0] 30) = W1 at *
 clear hT hs1 hSW
 go_loopw [6] (fun iv wr => ∃ (k : Nat) (A2 A3 : Option Addr) (c2 c3 : Nat), k ≤ 26 ∧ iv = .int .i32 (k : Int) ∧ Hid (PSt w S T ⟨plainCls, upP k, loP k, []⟩ (.slice A1 plainCls.length c1) (.slice A2 k c2) (.slice A3 k c3) (.slice none 0 0) wr)) (fun iv _ => 26 - (intOf iv).toNat)
 case atStart => exact ⟨0, none, none, 0, 0, by omega, rfl, HP⟩
 case round =>
  obtain ⟨k, A2, A3, c2, c3, hk, rfl, HQ⟩ := hrel
  by_cases hlt : k < 26
  ·have hl' : (k : Int) < 26 := by omega
   obtain ⟨pa, hpa⟩ : ∃ pa : Int, pa = 97 + (k : Int) := ⟨_, rfl⟩
   obtain ⟨pb, hpb⟩ : ∃ pb : Int, pb = 65 + (k : Int) := ⟨_, rfl⟩
   have x1 : IntKind.i32.wrap (97 + (k : Int)) = pa := by rw [IntKind.wrap_i32]; omega
   have x2 : IntKind.i32.wrap (65 + (k : Int)) = pb := by rw [IntKind.wrap_i32]; omega
   have x3 : IntKind.i32.wrap ((k : Int) + 1) = ((k + 1 : Nat) : Int) := by rw [IntKind.wrap_i32]; omega
   obtain ⟨d0, d1, d2, d3⟩ := HQ.out.z.cells
   have hsz : S ≤ wr.heap.size := by have := (Array.getElem?_eq_some_iff.1 HQ.out.r).1; omega
   have HU : Hid (wr.ownsRow S 95 2 (.slice A2 k c2) k (prsC (upP k))) := Lib.hid (by have h := HQ.out.loc.2.1; rw [show (⟨plainCls, upP k, loP k, []⟩ : Loc).up.length = k from upP_len k] at h; exact h)
   have HPA := Lib.hid hpa
   have HPB := Lib.hid hpb
   clear hpa hpb
   go_wp2_with (first | (at_builtin; (refine wpList_append_lies _ rfl _ _ 27 rfl S 95 iP (.agg #[.int .i32 0, .int .i32 0]) 2 8 Tryz.underlying27 hiP hp0 hp1 hp2 rfl (by decide) (.slice A2 k c2) k (prsC (upP k)) rfl (HU.out.alloc _) ⟨wr.heap.size, 0, none⟩ 1 1 [.int .i32 pa, .int .i32 pb] rfl rfl (pair_new _ _ _ _ _ rfl) (by intro u hu; simp at hu; rcases hu with rfl | rfl <;> rfl) (by omega) (by unfold maxLen; omega) (by omega) (by simp; omega) (wr.heap.size + 1) (by simp) ?_); intro g cap w3 hown' hgrow hat hlt3; (obtain ⟨hP4, hz3⟩ := PSt.up2 HQ.out HPA.out HPB.out hgrow hown' (hat.imp id fun h => by rw [h, World.size_alloc]; exact Nat.le_refl _)); (have HP4 := Lib.hid hP4); (obtain ⟨y0, y1, y2, y3⟩ := hz3.cells); (obtain ⟨s0, s1, s2, s3⟩ := hP4.z.cells); (have z1 := hz3.frozen 1); (have HV : Hid ((w3.setCell ⟨T, 1, none⟩ (.slice (some ⟨g, 0, none⟩) (k + 1) cap)).ownsRow S 95 2 (.slice A3 k c3) k (prsC (loP k))) := Lib.hid (by have h := HP4.out.loc.2.2.1; rw [show (⟨plainCls, upP (k + 1), loP k, []⟩ : Loc).lo.length = k from loP_len k] at h; exact h)); (have hsz4 : S ≤ (w3.setCell ⟨T, 1, none⟩ (.slice (some ⟨g, 0, none⟩) (k + 1) cap)).heap.size := Nat.le_of_lt (Array.getElem?_eq_some_iff.1 HP4.out.r).1); clear hown' hgrow hat hz3 hP4 HU) | (at_builtin; (refine wpList_append_lies _ rfl _ _ 27 rfl S 95 iP (.agg #[.int .i32 0, .int .i32 0]) 2 8 Tryz.underlying27 hiP hp0 hp1 hp2 rfl (by decide) (.slice A3 k c3) k (prsC (loP k)) rfl (HV.out.alloc _) ⟨w3.heap.size, 0, none⟩ 1 1 [.int .i32 pb, .int .i32 pa] rfl rfl (pair_new _ _ _ _ _ (by simp [World.setCell])) (by intro u hu; simp at hu; rcases hu with rfl | rfl <;> rfl) (by omega) (by unfold maxLen; omega) (by omega) (by simp only [World.size_alloc]; omega) (w3.heap.size + 1) (by simp [World.setCell]) ?_); intro g' cap' w5 hown' hgrow hat hlt5; (obtain ⟨hP6, hz5⟩ := PSt.lo2 HP4.out HPA.out HPB.out hgrow hown' (hat.imp id fun h => by rw [h]; simp [World.setCell])); (have HP6 := Lib.hid hP6); (obtain ⟨t0, t1, t2, t3⟩ := hz5.cells); (have z2 := hz5.frozen 2); clear hown' hgrow hat hz5 hP6 HV HP4))
   go_roundw
   case rel => exact ⟨k + 1, some ⟨g, 0, none⟩, some ⟨g', 0, none⟩, cap, cap', by omega, by simp, HP6⟩
   case measure => simp [intOf]; omega
  ·obtain rfl : k = 26 := by omega
   have HQ26 : Hid (PSt w S T ⟨plainCls, upP 26, loP 26, ordP 0⟩ (.slice A1 plainCls.length c1) (.slice A2 26 c2) (.slice A3 26 c3) (.slice none 0 0) wr) := HQ
   clear HQ HP
   rw [show ((26 : Nat) : Int) = (26 : Int) from rfl]
   go_wp2
   go_loopw [30] (fun iv wq => ∃ (k : Nat) (A4 : Option Addr) (c4 : Nat), k ≤ 128 ∧ iv = .int .i64 (k : Int) ∧ Hid (PSt w S T ⟨plainCls, upP 26, loP 26, ordP k⟩ (.slice A1 plainCls.length c1) (.slice A2 26 c2) (.slice A3 26 c3) (.slice A4 k c4) wq)) (fun iv _ => 128 - (intOf iv).toNat)
   case atStart => exact ⟨0, none, 0, by omega, rfl, HQ26⟩
   case round =>
    clear HQ26
    obtain ⟨k, A4, c4, hk, rfl, HQ⟩ := hrel
    by_cases hlt2 : k < 128
    ·have hl2 : (k : Int) < 128 := by omega
     have x1 : IntKind.i32.wrap (k : Int) = (k : Int) := by rw [IntKind.wrap_i32]; omega
     obtain ⟨d0, d1, d2, d3⟩ := HQ.out.z.cells
     have hsz2 : S ≤ wr.heap.size := Nat.le_of_lt (Array.getElem?_eq_some_iff.1 HQ.out.r).1
     obtain ⟨vs, e1, e2, e3⟩ := HQ.out.loc.2.2.2
     rw [show (⟨plainCls, upP 26, loP 26, ordP k⟩ : Loc).ord.length = k from ordP_len k] at e1 e2
     have HE1 := Lib.hid e1
     have HE2 : Hid (wr.ownsRow S 39 3 (.slice A4 k c4) k (ordR (ordP k) vs).flatten) := Lib.hid e2
     have HE3 : Hid (∀ (i : Nat) (e : Elm) (x : Value), (ordP k)[i]? = some e → vs[i]? = some x → wr.ownsRow S 23 1 x e.cells.length (celC e.cells)) := Lib.hid e3
     clear e1 e2 e3
     go_wp2_with (at_builtin; (refine wpList_append_lies _ rfl _ _ 28 rfl S 39 iE (.agg #[.string (str []), .slice none 0 0, .int .i64 0]) 3 48 Tryz.underlying28 hiE he0 he1 he2 rfl (by decide) (.slice A4 k c4) k (ordR (ordP k) vs).flatten rfl ((HE2.out.alloc _).alloc _) ⟨wr.heap.size + 1, 0, none⟩ 1 1 [.string ⟨#[]⟩, .slice (some ⟨wr.heap.size, 0, none⟩) 1 1, .int .i64 k] rfl rfl (trip_new _ _ _ _ _ _ (by simp)) (by intro u hu; simp at hu; rcases hu with rfl | rfl | rfl <;> rfl) (by omega) (by unfold maxLen; omega) (by omega) (by simp only [World.size_alloc]; omega) (wr.heap.size + 1 + 1) (by simp) ?_); intro g cap w5 hown' hgrow hat hlt5; (obtain ⟨hP6, hz5⟩ := PSt.ord2 HQ.out HE1.out HE2.out HE3.out hgrow hown'); (have HP6 := Lib.hid hP6); (obtain ⟨t0, t1, t2, t3⟩ := hz5.cells); (have z3 := hz5.frozen 3); clear hown' hgrow hat hz5 hP6)
     go_roundw
     case rel =>
      exact ⟨k + 1, some ⟨g, 0, none⟩, cap, by omega, by go_num, HP6⟩
     case measure => simp [intOf]; omega
    ·obtain rfl : k = 128 := by omega
     obtain ⟨d0, d1, d2, d3⟩ := HQ.out.z.cells
     have hr : LocZ wr S _ _ _ _ := HQ.out.r
     obtain ⟨r0, r1, r2, r3⟩ := hr.cells
     have f0 := LocZ.frozen hr 0
     have f1 := LocZ.frozen hr 1
     have f2 := LocZ.frozen hr 2
     have f3 := LocZ.frozen hr 3
     have HF := Lib.hid (HQ.out.told (.slice A1 plainCls.length c1) (.slice A2 26 c2) (.slice A3 26 c3) (.slice A4 128 c4))
     have hrz := set_row (i := 3) (l := [_, _, _, _]) (set_row (i := 2) (l := [_, _, _, _]) (set_row (i := 1) (l := [_, _, _, _]) (set_row (i := 0) (l := [_, _, _, _]) hr (.slice A1 plainCls.length c1)) (.slice A2 26 c2)) (.slice A3 26 c3)) (.slice A4 128 c4)
     have hrz' : LocZ ((((wr.setCell ⟨S, 0, none⟩ (.slice A1 plainCls.length c1)).setCell ⟨S, 1, none⟩ (.slice A2 26 c2)).setCell ⟨S, 2, none⟩ (.slice A3 26 c3)).setCell ⟨S, 3, none⟩ (.slice A4 128 c4)) S (.slice A1 plainCls.length c1) (.slice A2 26 c2) (.slice A3 26 c3) (.slice A4 128 c4) := hrz
     obtain ⟨q0, q1, q2, q3⟩ := hrz'.cells
     clear hr hrz hrz'
     go_wp2
     refine bodyPost_ret (v := .agg #[.slice A1 plainCls.length c1, .slice A2 26 c2, .slice A3 26 c3, .slice A4 128 c4]) (by simp [results, Tryz.results12, go_sem, q0, q1, q2, q3]) rfl ⟨_, _, _, _, rfl, HF.out⟩
end Go.Proofs.YtknjhlbhbnldpaaGreatDoor.C
