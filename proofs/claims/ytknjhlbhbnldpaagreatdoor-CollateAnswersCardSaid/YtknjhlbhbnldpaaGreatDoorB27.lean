/-
  Joined: KoQ, KpC, KpD, KpP. Each with what its own head says.
-/
import Derived.Test.YtknjhlbhbnldpaaGreatDoorB24

namespace Go.Proofs.YtknjhlbhbnldpaaGreatDoor.C
open Go.RowKit

def upP (n : Nat) : List (Int × Int) := (List.range n).map fun (i : Nat) => ((97 + i : Int), (65 + i : Int))
def loP (n : Nat) : List (Int × Int) := (List.range n).map fun (i : Nat) => ((65 + i : Int), (97 + i : Int))
def ordP (n : Nat) : List Elm := (List.range n).map fun (i : Nat) => ⟨[], [(i : Int)], (i : Int)⟩
def plainLoc : Loc := ⟨plainCls, upP 26, loP 26, ordP 128⟩
theorem upP_next (n : Nat) : upP (n + 1) = upP n ++ [(97 + (n : Int), 65 + (n : Int))] := by unfold upP; rw [List.range_succ, List.map_append]; rfl
theorem loP_next (n : Nat) : loP (n + 1) = loP n ++ [(65 + (n : Int), 97 + (n : Int))] := by unfold loP; rw [List.range_succ, List.map_append]; rfl
theorem ordP_next (n : Nat) : ordP (n + 1) = ordP n ++ [⟨[], [(n : Int)], (n : Int)⟩] := by unfold ordP; rw [List.range_succ, List.map_append]; rfl
theorem upP_len (n : Nat) : (upP n).length = n := by simp [upP]
theorem loP_len (n : Nat) : (loP n).length = n := by simp [loP]
theorem ordP_len (n : Nat) : (ordP n).length = n := by simp [ordP]
structure PSt (w0 : World) (S T : Nat) (l : Loc) (v1 v2 v3 v4 : Value) (w : World) : Prop where
 z : LocZ w T v1 v2 v3 v4
 r : LocZ w S (.slice none 0 0) (.slice none 0 0) (.slice none 0 0) (.slice none 0 0)
 st : S < T
 loc : LocAt w S v1 v2 v3 v4 l
 ne : ∀ g, v2.ownBlock = some g → v3.ownBlock ≠ some g
 b : Below S w0 w
section
variable {w0 w w' : World} {S T : Nat} {l : Loc} {v1 v2 v3 v4 : Value}
theorem PSt.step {X : Nat → Prop} {t0 : TypeId} (h : PSt w0 S T l v1 v2 v3 v4 w) (hf : Fr w w' X) (hS : ∀ j, X j → S ≤ j) (hz : ∀ j, X j → j ≠ S ∧ j ≠ T) (ht : ∀ g c z t, X g → w.heap[g]? = some (.cells c t z) → t = t0) :
  LocZ w' T v1 v2 v3 v4 ∧ LocZ w' S (.slice none 0 0) (.slice none 0 0) (.slice none 0 0) (.slice none 0 0) ∧ Below S w0 w' ∧
  (t0 ≠ 86 ∧ t0 ≠ 109 → ClsAt w' S v1 l.cls) ∧ (t0 ≠ 39 ∧ t0 ≠ 23 → OrdAt w' S v4 l.ord) ∧ ((∀ g, v2.ownBlock = some g → ¬ X g) → w'.ownsRow S 95 2 v2 l.up.length (prsC l.up)) ∧ ((∀ g, v3.ownBlock = some g → ¬ X g) → w'.ownsRow S 95 2 v3 l.lo.length (prsC l.lo)) := by
 obtain ⟨a1, a2, a3, a4⟩ := h.loc
 have hsz : S ≤ w.heap.size := Nat.le_of_lt (Array.getElem?_eq_some_iff.1 h.r).1
 refine ⟨(hf.block _ (Array.getElem?_eq_some_iff.1 h.z).1 fun hx => (hz _ hx).2 rfl).trans h.z, (hf.block _ (Array.getElem?_eq_some_iff.1 h.r).1 fun hx => (hz _ hx).1 rfl).trans h.r, h.b.trans (hf.below (fun j _ hx => hS j hx) hsz), fun hn => a1.fr hf (fun g c z t hx hg => ?_), fun hn => a4.fr hf (fun g c z t hx hg => ?_), fun hx => ownsRow_fr a2 hf hx, fun hx => ownsRow_fr a3 hf hx⟩
 ·rw [ht g c z t hx hg]
  exact hn
 ·rw [ht g c z t hx hg]
  exact ⟨hn.2, hn.1⟩
theorem PSt.next (h : PSt w0 S T l v1 v2 v3 v4 w) (hb : Below w.heap.size w w') : PSt w0 S T l v1 v2 v3 v4 w' := by
 obtain ⟨z, r, b, c1, c4, c2, c3⟩ := h.step (X := fun _ => False) (t0 := 3) (.of_below hb) (fun _ hx => hx.elim) (fun _ hx => hx.elim) (fun _ _ _ _ hx => hx.elim)
 exact ⟨z, r, h.st, ⟨c1 (by decide), c2 (fun _ _ => id), c3 (fun _ _ => id), c4 (by decide)⟩, h.ne, b⟩
theorem row_neK {base sz n : Nat} {e t : TypeId} {v : Value} {xs : List Value} {b : Nat} {cs : Array Value} (h : w.ownsRow base e sz v n xs) (hb : w.heap[b]? = some (.cells cs t (0, 0))) (hne : t ≠ e) : v.ownBlock ≠ some b := by
 intro hg
 obtain ⟨c', hc'⟩ := ownsRow_ty h hg
 have := hb.symm.trans hc'
 simp at this
 exact hne this.2
theorem PSt.put {x1 x2 x3 x4 : Value} {l' : Loc} {i : Nat} {u : Value} (hz : LocZ w T v1 v2 v3 v4) (hr : LocZ w S (.slice none 0 0) (.slice none 0 0) (.slice none 0 0) (.slice none 0 0)) (hST : S < T) (hL : LocAt w S x1 x2 x3 x4 l') (hne : ∀ g, x2.ownBlock = some g → x3.ownBlock ≠ some g) (hb : Below S w0 w) (hi : [v1, v2, v3, v4].set i u = [x1, x2, x3, x4]) :
  PSt w0 S T l' x1 x2 x3 x4 (w.setCell ⟨T, i, none⟩ u) := by
 have hf : Fr w (w.setCell ⟨T, i, none⟩ u) (fun j => j = T) := (Fr.of_below (Below.refl _ _)).set ⟨T, i, none⟩ u (fun _ => rfl)
 have hty : ∀ g c z t, g = T → w.heap[g]? = some (.cells c t z) → t = 30 := by
  rintro g c z t rfl hg
  have := hg.symm.trans hz
  simp at this
  exact this.2.1
 obtain ⟨a1, a2, a3, a4⟩ := hL
 have no : ∀ {e : TypeId} {sz n : Nat} {v : Value} {xs : List Value}, w.ownsRow S e sz v n xs → 30 ≠ e → ∀ g, v.ownBlock = some g → ¬ g = T := fun hw he g hg hx => by
  subst hx
  exact row_neK hw hz he hg
 refine ⟨?_, (hf.block _ (Array.getElem?_eq_some_iff.1 hr).1 (by omega)).trans hr, hST, ⟨a1.fr hf (fun g c z t hx hg => ?_), ownsRow_fr a2 hf (no a2 (by decide)), ownsRow_fr a3 hf (no a3 (by decide)), a4.fr hf (fun g c z t hx hg => ?_)⟩, hne, hb.setCell (p := ⟨T, i, none⟩) (Nat.le_of_lt hST) _⟩
 ·show _ = _
  rw [set_row (l := [v1, v2, v3, v4]) hz u, hi]
 ·rw [hty g c z t hx hg]; decide
 ·rw [hty g c z t hx hg]; decide
theorem row_tyK {base sz n : Nat} {e : TypeId} {v : Value} {xs : List Value} (h : w.ownsRow base e sz v n xs) : ∀ g c z t, (v.ownBlock = some g) → w.heap[g]? = some (.cells c t z) → t = e := by
 intro g c z t hx hh
 obtain ⟨c', hc'⟩ := ownsRow_ty h hx
 have := hh.symm.trans hc'
 simp at this
 exact this.2.1
theorem prs_snocK (l : List (Int × Int)) (p : Int × Int) : prsC (l ++ [p]) = prsC l ++ [.int .i32 p.1, .int .i32 p.2] := by unfold prsC; rw [List.flatMap_append]; rfl
theorem PSt.up {g cap : Nat} (p : Int × Int) (h : PSt w0 S T l v1 v2 v3 v4 w) (hg : w.grownBy w' v2.ownBlock) (ho : w'.ownsRow S 95 2 (.slice (some ⟨g, 0, none⟩) (l.up.length + 1) cap) (l.up.length + 1) (prsC l.up ++ [.int .i32 p.1, .int .i32 p.2])) (hat : v2.ownBlock = some g ∨ w.heap.size ≤ g) :
  PSt w0 S T { l with up := l.up ++ [p] } v1 (.slice (some ⟨g, 0, none⟩) (l.up.length + 1) cap) v3 v4 (w'.setCell ⟨T, 1, none⟩ (.slice (some ⟨g, 0, none⟩) (l.up.length + 1) cap)) := by
 have e2 := h.loc.2.1
 have hty := row_tyK e2
 obtain ⟨z, r, b, c1, c4, -, c3⟩ := h.step (Fr.of_grown hg) (fun j hj => (e2.lt j hj).1) (fun j hx => ⟨fun e => row_neK e2 h.r (by decide) (e ▸ hx), fun e => row_neK e2 h.z (by decide) (e ▸ hx)⟩) hty
 have q3 := c3 (fun g hg hx => h.ne g hx hg)
 refine PSt.put z r h.st ⟨c1 (by decide), ?_, q3, c4 (by decide)⟩ (fun g' hg' hq => ?_) b rfl
 ·rw [List.length_append, prs_snocK]
  exact ho
 ·have hgg : g = g' := by simpa [Value.ownBlock] using hg'
  subst hgg
  rcases hat with hat | hat
  ·exact h.ne g hat hq
  ·have := (h.loc.2.2.1.lt g hq).2
   omega
theorem PSt.lo {g cap : Nat} (p : Int × Int) (h : PSt w0 S T l v1 v2 v3 v4 w) (hg : w.grownBy w' v3.ownBlock) (ho : w'.ownsRow S 95 2 (.slice (some ⟨g, 0, none⟩) (l.lo.length + 1) cap) (l.lo.length + 1) (prsC l.lo ++ [.int .i32 p.1, .int .i32 p.2])) (hat : v3.ownBlock = some g ∨ w.heap.size ≤ g) :
  PSt w0 S T { l with lo := l.lo ++ [p] } v1 v2 (.slice (some ⟨g, 0, none⟩) (l.lo.length + 1) cap) v4 (w'.setCell ⟨T, 2, none⟩ (.slice (some ⟨g, 0, none⟩) (l.lo.length + 1) cap)) := by
 have e2 := h.loc.2.2.1
 have hty := row_tyK e2
 obtain ⟨z, r, b, c1, c4, c2, -⟩ := h.step (Fr.of_grown hg) (fun j hj => (e2.lt j hj).1) (fun j hx => ⟨fun e => row_neK e2 h.r (by decide) (e ▸ hx), fun e => row_neK e2 h.z (by decide) (e ▸ hx)⟩) hty
 have q2 := c2 (fun g hg hx => h.ne g hg hx)
 refine PSt.put z r h.st ⟨c1 (by decide), q2, ?_, c4 (by decide)⟩ (fun g' hg' hq => ?_) b rfl
 ·rw [List.length_append, prs_snocK]
  exact ho
 ·have hgg : g = g' := by simpa [Value.ownBlock] using hq
  subst hgg
  rcases hat with hat | hat
  ·exact h.ne g hg' hat
  ·have := (h.loc.2.1.lt g hg').2
   omega
theorem PSt.mid {v : Value} {e : TypeId} {sz n : Nat} {xs : List Value} (h : PSt w0 S T l v1 v2 v3 v4 w) (e2 : w.ownsRow S e sz v n xs) (h1 : 30 ≠ e) (hg : w.grownBy w' v.ownBlock) : LocZ w' T v1 v2 v3 v4 := ((Fr.of_grown hg).block _ (Array.getElem?_eq_some_iff.1 h.z).1 fun hx => row_neK e2 h.z h1 hx).trans h.z
theorem PSt.ord {vs : List Value} {x : Value} {g cap : Nat} (e : Elm) (h : PSt w0 S T l v1 v2 v3 v4 w) (e1 : vs.length = l.ord.length) (e2 : w.ownsRow S 39 3 v4 l.ord.length (ordR l.ord vs).flatten) (e3 : ∀ (i : Nat) (e : Elm) (x : Value), l.ord[i]? = some e → vs[i]? = some x → w.ownsRow S 23 1 x e.cells.length (celC e.cells)) (hx : w.ownsRow S 23 1 x e.cells.length (celC e.cells)) (hg : w.grownBy w' v4.ownBlock) (ho : w'.ownsRow S 39 3 (.slice (some ⟨g, 0, none⟩) (l.ord.length + 1) cap) (l.ord.length + 1) ((ordR l.ord vs).flatten ++ [.string (str e.name), x, .int .i64 e.same])) :
  PSt w0 S T { l with ord := l.ord ++ [e] } v1 v2 v3 (.slice (some ⟨g, 0, none⟩) (l.ord.length + 1) cap) (w'.setCell ⟨T, 3, none⟩ (.slice (some ⟨g, 0, none⟩) (l.ord.length + 1) cap)) := by
 have hty := row_tyK e2
 obtain ⟨z, r, b, c1, -, c2, c3⟩ := h.step (Fr.of_grown hg) (fun j hj => (e2.lt j hj).1) (fun j hx => ⟨fun e => row_neK e2 h.r (by decide) (e ▸ hx), fun e => row_neK e2 h.z (by decide) (e ▸ hx)⟩) hty
 have q2 := c2 (fun g hg hx => by
  obtain ⟨c', hc'⟩ := ownsRow_ty h.loc.2.1 hg
  have := hty g _ _ _ hx hc'
  exact absurd this (by decide))
 have q3 := c3 (fun g hg hx => by
  obtain ⟨c', hc'⟩ := ownsRow_ty h.loc.2.2.1 hg
  have := hty g _ _ _ hx hc'
  exact absurd this (by decide))
 exact PSt.put z r h.st ⟨c1 (by decide), q2, q3, OrdAt.snoc e e1 e2 e3 hx hg ho⟩ h.ne b rfl
end
section
variable {w0 w w' : World} {S T : Nat} {v1 v2 v3 v4 : Value}
theorem PSt.told {l : Loc} (h : PSt w0 S T l v1 v2 v3 v4 w) (x1 x2 x3 x4 : Value) :
  LocAt ((((w.setCell ⟨S, 0, none⟩ x1).setCell ⟨S, 1, none⟩ x2).setCell ⟨S, 2, none⟩ x3).setCell ⟨S, 3, none⟩ x4) S v1 v2 v3 v4 l ∧ Below S w0 ((((w.setCell ⟨S, 0, none⟩ x1).setCell ⟨S, 1, none⟩ x2).setCell ⟨S, 2, none⟩ x3).setCell ⟨S, 3, none⟩ x4) := by
 have hf : Fr w ((((w.setCell ⟨S, 0, none⟩ x1).setCell ⟨S, 1, none⟩ x2).setCell ⟨S, 2, none⟩ x3).setCell ⟨S, 3, none⟩ x4) (fun j => j = S) := ((((Fr.refl w _).setT _ _).setT _ _).setT _ _).setT _ _
 have hty : ∀ g c z t, g = S → w.heap[g]? = some (.cells c t z) → t = 30 := by
  rintro g c z t rfl hg
  have := hg.symm.trans h.r
  simp at this
  exact this.2.1
 obtain ⟨a1, a2, a3, a4⟩ := h.loc
 have no : ∀ {e : TypeId} {sz n : Nat} {v : Value} {xs : List Value}, w.ownsRow S e sz v n xs → 30 ≠ e → ∀ g, v.ownBlock = some g → ¬ g = S := fun hw he g hg hx => by
  subst hx
  exact row_neK hw h.r he hg
 refine ⟨⟨a1.fr hf (fun g c z t hx hg => ?_), ownsRow_fr a2 hf (no a2 (by decide)), ownsRow_fr a3 hf (no a3 (by decide)), a4.fr hf (fun g c z t hx hg => ?_)⟩, h.b.trans (hf.below (by rintro j _ rfl; exact Nat.le_refl _) (Nat.le_of_lt (Array.getElem?_eq_some_iff.1 h.r).1))⟩
 ·rw [hty g c z t hx hg]; decide
 ·rw [hty g c z t hx hg]; decide
theorem PSt.up2 {k m g cap c2 : Nat} {A2 : Option Addr} {cs : List Cls} {o : List Elm} {pa pb : Int} (h : PSt w0 S T ⟨cs, upP k, loP m, o⟩ v1 (.slice A2 k c2) v3 v4 w) (hpa : pa = 97 + (k : Int)) (hpb : pb = 65 + (k : Int))
  (hg : (w.alloc (.cells #[.int .i32 pa, .int .i32 pb] 95)).grownBy w' (Value.slice A2 k c2).ownBlock) (ho : w'.ownsRow S 95 2 (.slice (some ⟨g, 0, none⟩) (k + 1) cap) (k + 1) (prsC (upP k) ++ [.int .i32 pa, .int .i32 pb])) (hat : (Value.slice A2 k c2).ownBlock = some g ∨ (w.alloc (.cells #[.int .i32 pa, .int .i32 pb] 95)).heap.size ≤ g) :
  PSt w0 S T ⟨cs, upP (k + 1), loP m, o⟩ v1 (.slice (some ⟨g, 0, none⟩) (k + 1) cap) v3 v4 (w'.setCell ⟨T, 1, none⟩ (.slice (some ⟨g, 0, none⟩) (k + 1) cap)) ∧ LocZ w' T v1 (.slice A2 k c2) v3 v4 := by
 have hal := h.next ((Below.refl w.heap.size w).alloc (Nat.le_refl _) (.cells #[.int .i32 pa, .int .i32 pb] 95))
 have el : (⟨cs, upP k, loP m, o⟩ : Loc).up.length = k := upP_len k
 have hz := hal.mid hal.loc.2.1 (by decide) hg
 have hn := hal.up (g := g) (cap := cap) (pa, pb) hg (by rw [el]; exact ho) hat
 rw [el] at hn
 have e2 : ({ (⟨cs, upP k, loP m, o⟩ : Loc) with up := (⟨cs, upP k, loP m, o⟩ : Loc).up ++ [(pa, pb)] } : Loc) = ⟨cs, upP (k + 1), loP m, o⟩ := by rw [upP_next, hpa, hpb]
 rw [e2] at hn
 exact ⟨hn, hz⟩
theorem PSt.lo2 {k m g cap c3 : Nat} {A3 : Option Addr} {cs : List Cls} {o : List Elm} {pa pb : Int} (h : PSt w0 S T ⟨cs, upP m, loP k, o⟩ v1 v2 (.slice A3 k c3) v4 w) (hpa : pa = 97 + (k : Int)) (hpb : pb = 65 + (k : Int))
  (hg : (w.alloc (.cells #[.int .i32 pb, .int .i32 pa] 95)).grownBy w' (Value.slice A3 k c3).ownBlock) (ho : w'.ownsRow S 95 2 (.slice (some ⟨g, 0, none⟩) (k + 1) cap) (k + 1) (prsC (loP k) ++ [.int .i32 pb, .int .i32 pa])) (hat : (Value.slice A3 k c3).ownBlock = some g ∨ (w.alloc (.cells #[.int .i32 pb, .int .i32 pa] 95)).heap.size ≤ g) :
  PSt w0 S T ⟨cs, upP m, loP (k + 1), o⟩ v1 v2 (.slice (some ⟨g, 0, none⟩) (k + 1) cap) v4 (w'.setCell ⟨T, 2, none⟩ (.slice (some ⟨g, 0, none⟩) (k + 1) cap)) ∧ LocZ w' T v1 v2 (.slice A3 k c3) v4 := by
 have hal := h.next ((Below.refl w.heap.size w).alloc (Nat.le_refl _) (.cells #[.int .i32 pb, .int .i32 pa] 95))
 have el : (⟨cs, upP m, loP k, o⟩ : Loc).lo.length = k := loP_len k
 have hz := hal.mid hal.loc.2.2.1 (by decide) hg
 have hn := hal.lo (g := g) (cap := cap) (pb, pa) hg (by rw [el]; exact ho) hat
 rw [el] at hn
 have e2 : ({ (⟨cs, upP m, loP k, o⟩ : Loc) with lo := (⟨cs, upP m, loP k, o⟩ : Loc).lo ++ [(pb, pa)] } : Loc) = ⟨cs, upP m, loP (k + 1), o⟩ := by rw [loP_next, hpa, hpb]
 rw [e2] at hn
 exact ⟨hn, hz⟩
def eBox (w : World) (k : Int) : World := (w.alloc (.cells #[.int .i32 k] 23)).alloc (.cells #[.string ⟨#[]⟩, .slice (some ⟨w.heap.size, 0, none⟩) 1 1, .int .i64 k] 39)
theorem PSt.ord2 {k g cap c4 : Nat} {A4 : Option Addr} {cs : List Cls} {us ls : List (Int × Int)} {vs : List Value} (h : PSt w0 S T ⟨cs, us, ls, ordP k⟩ v1 v2 v3 (.slice A4 k c4) w)
  (e1 : vs.length = k) (e2 : w.ownsRow S 39 3 (.slice A4 k c4) k (ordR (ordP k) vs).flatten) (e3 : ∀ (i : Nat) (e : Elm) (x : Value), (ordP k)[i]? = some e → vs[i]? = some x → w.ownsRow S 23 1 x e.cells.length (celC e.cells))
  (hg : (eBox w k).grownBy w' (Value.slice A4 k c4).ownBlock) (ho : w'.ownsRow S 39 3 (.slice (some ⟨g, 0, none⟩) (k + 1) cap) (k + 1) ((ordR (ordP k) vs).flatten ++ [.string ⟨#[]⟩, .slice (some ⟨w.heap.size, 0, none⟩) 1 1, .int .i64 k])) :
  PSt w0 S T ⟨cs, us, ls, ordP (k + 1)⟩ v1 v2 v3 (.slice (some ⟨g, 0, none⟩) (k + 1) cap) (w'.setCell ⟨T, 3, none⟩ (.slice (some ⟨g, 0, none⟩) (k + 1) cap)) ∧ LocZ w' T v1 v2 v3 (.slice A4 k c4) := by
 have hb : Below w.heap.size w (eBox w k) := ((Below.refl _ _).alloc (Nat.le_refl _) _).alloc (by simp) _
 have hsz : S ≤ w.heap.size := Nat.le_of_lt (Array.getElem?_eq_some_iff.1 h.r).1
 have hal := h.next hb
 have q2 := own_next e2 hb
 have hz := hal.mid q2 (by decide) hg
 have el : (⟨cs, us, ls, ordP k⟩ : Loc).ord.length = k := ordP_len k
 have hx : (eBox w k).ownsRow S 23 1 (.slice (some ⟨w.heap.size, 0, none⟩) 1 1) 1 (celC [(k : Int)]) := own_next (own_newK (l := celC [(k : Int)]) hsz rfl (by decide)) ((Below.refl _ _).alloc (Nat.le_refl _) _)
 have hn := hal.ord (g := g) (cap := cap) (vs := vs) (x := .slice (some ⟨w.heap.size, 0, none⟩) 1 1) ⟨[], [(k : Int)], (k : Int)⟩ (by rw [el]; exact e1) (by rw [el]; exact q2) (fun i e x a b => own_next (e3 i e x a b) hb) hx hg (by rw [el]; exact ho)
 rw [el] at hn
 have e4 : ({ (⟨cs, us, ls, ordP k⟩ : Loc) with ord := (⟨cs, us, ls, ordP k⟩ : Loc).ord ++ [⟨[], [(k : Int)], (k : Int)⟩] } : Loc) = ⟨cs, us, ls, ordP (k + 1)⟩ := by rw [ordP_next]
 rw [e4] at hn
 exact ⟨hn, hz⟩
end

set_option maxRecDepth 100000 in
set_option maxHeartbeats 8000000 in
theorem plain_any (w : World) : Calls Tryz.prog 12 #[] w fun e w' => ∃ v1 v2 v3 v4, e = .returned (.agg #[v1, v2, v3, v4]) ∧ LocAt w' w.heap.size v1 v2 v3 v4 plainLoc ∧ Below w.heap.size w w' := by
 obtain ⟨S, hS⟩ : ∃ S, S = w.heap.size := ⟨_, rfl⟩
 obtain ⟨W, hW⟩ : ∃ W, W = w.alloc (.cells #[.slice none 0 0, .slice none 0 0, .slice none 0 0, .slice none 0 0] 30) := ⟨_, rfl⟩
 have hr0 : LocZ W S (.slice none 0 0) (.slice none 0 0) (.slice none 0 0) (.slice none 0 0) := by rw [hW, hS]; exact heap_alloc_new w _
 have hb0 : Below S w W := by rw [hW, hS]; exact (Below.refl _ _).alloc (Nat.le_refl _) _
 have hpc := plainClasses_any W
 obtain ⟨iP, hiP, hp0, hp1, hp2⟩ := info_parts infoPair
 obtain ⟨iE, hiE, he0, he1, he2⟩ := info_parts infoElem
 have HS := Lib.hid hS
 have HR0 := Lib.hid hr0
 have HB0 := Lib.hid hb0
 have hSW : S < W.heap.size := (Array.getElem?_eq_some_iff.1 hr0).1
 rw [← hS]
 clear hr0 hb0
 go_enter Tryz.func12, Tryz.ntmps12
 go_wp2_with fail
 rw [← HS.out, ← hW]
 clear hW hS
 refine hpc.mono ?_
 rintro e w1 ⟨v1, rfl, hc, hb1⟩
 obtain ⟨A1, c1, rfl⟩ : ∃ A1 c1, v1 = .slice A1 plainCls.length c1 := by obtain ⟨_, _, h2, _⟩ := hc; exact row_form h2
 obtain ⟨T, hT⟩ : ∃ T, T = w1.heap.size := ⟨_, rfl⟩
 have hs1 := hb1.size
 have hST : S < T := by omega
 have HP : Hid (PSt w S T ⟨plainCls, upP 0, loP 0, []⟩ (.slice A1 plainCls.length c1) (.slice none 0 0) (.slice none 0 0) (.slice none 0 0) (w1.alloc (.cells #[.slice A1 plainCls.length c1, .slice none 0 0, .slice none 0 0, .slice none 0 0] 30))) :=
  Lib.hid ⟨by rw [hT]; exact heap_alloc_new w1 _, (heap_lt _ _ (by omega)).trans ((hb1.block S hSW).trans HR0.out), hST, ⟨(hc.next ((Below.refl _ _).alloc (Nat.le_refl _) _)).low (Nat.le_of_lt hSW), World.ownsRow_nil _ _ _ _, World.ownsRow_nil _ _ _ _, OrdAt.nil _ _⟩, by intro g hg; simp [Value.ownBlock] at hg, (HB0.out.trans (hb1.mono (Nat.le_of_lt hSW))).alloc (by omega) _⟩
 clear hpc hc hb1 HR0 HB0
 go_wp2
 rw [← hT]
 generalize w1.alloc (.cells #[.slice A1 plainCls.length c1, .slice none 0 0, .slice none 0 0, .slice none 0 0] 30) = W1 at *
 clear hT hs1 hSW
 go_loopw [6] (fun iv wr => ∃ (k : Nat) (A2 A3 : Option Addr) (c2 c3 : Nat), k ≤ 26 ∧ iv = .int .i32 (k : Int) ∧ Hid (PSt w S T ⟨plainCls, upP k, loP k, []⟩ (.slice A1 plainCls.length c1) (.slice A2 k c2) (.slice A3 k c3) (.slice none 0 0) wr)) (fun iv _ => 26 - (intOf iv).toNat)
 case atStart => exact ⟨0, none, none, 0, 0, by omega, rfl, HP⟩
 case round =>
  obtain ⟨k, A2, A3, c2, c3, hk, rfl, HQ⟩ := hrel
  by_cases hlt : k < 26
  ·have hl' : (k : Int) < 26 := by omega
   obtain ⟨pa, hpa⟩ : ∃ pa : Int, pa = 97 + (k : Int) := ⟨_, rfl⟩
   obtain ⟨pb, hpb⟩ : ∃ pb : Int, pb = 65 + (k : Int) := ⟨_, rfl⟩
   have x1 : IntKind.i32.wrap (97 + (k : Int)) = pa := by rw [IntKind.wrap_i32]; omega
   have x2 : IntKind.i32.wrap (65 + (k : Int)) = pb := by rw [IntKind.wrap_i32]; omega
   have x3 : IntKind.i32.wrap ((k : Int) + 1) = ((k + 1 : Nat) : Int) := by rw [IntKind.wrap_i32]; omega
   obtain ⟨d0, d1, d2, d3⟩ := HQ.out.z.cells
   have hsz : S ≤ wr.heap.size := by have := (Array.getElem?_eq_some_iff.1 HQ.out.r).1; omega
   have HU : Hid (wr.ownsRow S 95 2 (.slice A2 k c2) k (prsC (upP k))) := Lib.hid (by have h := HQ.out.loc.2.1; rw [show (⟨plainCls, upP k, loP k, []⟩ : Loc).up.length = k from upP_len k] at h; exact h)
   have HPA := Lib.hid hpa
   have HPB := Lib.hid hpb
   clear hpa hpb
   go_wp2_with (first | (at_builtin; (refine wpList_append_lies _ rfl _ _ 27 rfl S 95 iP (.agg #[.int .i32 0, .int .i32 0]) 2 8 Tryz.underlying27 hiP hp0 hp1 hp2 rfl (by decide) (.slice A2 k c2) k (prsC (upP k)) rfl (HU.out.alloc _) ⟨wr.heap.size, 0, none⟩ 1 1 [.int .i32 pa, .int .i32 pb] rfl rfl (pair_new _ _ _ _ _ rfl) (by intro u hu; simp at hu; rcases hu with rfl | rfl <;> rfl) (by omega) (by unfold maxLen; omega) (by omega) (by simp; omega) (wr.heap.size + 1) (by simp) ?_); intro g cap w3 hown' hgrow hat hlt3; (obtain ⟨hP4, hz3⟩ := PSt.up2 HQ.out HPA.out HPB.out hgrow hown' (hat.imp id fun h => by rw [h, World.size_alloc]; exact Nat.le_refl _)); (have HP4 := Lib.hid hP4); (obtain ⟨y0, y1, y2, y3⟩ := hz3.cells); (obtain ⟨s0, s1, s2, s3⟩ := hP4.z.cells); (have z1 := hz3.frozen 1); (have HV : Hid ((w3.setCell ⟨T, 1, none⟩ (.slice (some ⟨g, 0, none⟩) (k + 1) cap)).ownsRow S 95 2 (.slice A3 k c3) k (prsC (loP k))) := Lib.hid (by have h := HP4.out.loc.2.2.1; rw [show (⟨plainCls, upP (k + 1), loP k, []⟩ : Loc).lo.length = k from loP_len k] at h; exact h)); (have hsz4 : S ≤ (w3.setCell ⟨T, 1, none⟩ (.slice (some ⟨g, 0, none⟩) (k + 1) cap)).heap.size := Nat.le_of_lt (Array.getElem?_eq_some_iff.1 HP4.out.r).1); clear hown' hgrow hat hz3 hP4 HU) | (at_builtin; (refine wpList_append_lies _ rfl _ _ 27 rfl S 95 iP (.agg #[.int .i32 0, .int .i32 0]) 2 8 Tryz.underlying27 hiP hp0 hp1 hp2 rfl (by decide) (.slice A3 k c3) k (prsC (loP k)) rfl (HV.out.alloc _) ⟨w3.heap.size, 0, none⟩ 1 1 [.int .i32 pb, .int .i32 pa] rfl rfl (pair_new _ _ _ _ _ (by simp [World.setCell])) (by intro u hu; simp at hu; rcases hu with rfl | rfl <;> rfl) (by omega) (by unfold maxLen; omega) (by omega) (by simp only [World.size_alloc]; omega) (w3.heap.size + 1) (by simp [World.setCell]) ?_); intro g' cap' w5 hown' hgrow hat hlt5; (obtain ⟨hP6, hz5⟩ := PSt.lo2 HP4.out HPA.out HPB.out hgrow hown' (hat.imp id fun h => by rw [h]; simp [World.setCell])); (have HP6 := Lib.hid hP6); (obtain ⟨t0, t1, t2, t3⟩ := hz5.cells); (have z2 := hz5.frozen 2); clear hown' hgrow hat hz5 hP6 HV HP4))
   go_roundw
   case rel => exact ⟨k + 1, some ⟨g, 0, none⟩, some ⟨g', 0, none⟩, cap, cap', by omega, by simp, HP6⟩
   case measure => simp [intOf]; omega
  ·obtain rfl : k = 26 := by omega
   have HQ26 : Hid (PSt w S T ⟨plainCls, upP 26, loP 26, ordP 0⟩ (.slice A1 plainCls.length c1) (.slice A2 26 c2) (.slice A3 26 c3) (.slice none 0 0) wr) := HQ
   clear HQ HP
   rw [show ((26 : Nat) : Int) = (26 : Int) from rfl]
   go_wp2
   go_loopw [30] (fun iv wq => ∃ (k : Nat) (A4 : Option Addr) (c4 : Nat), k ≤ 128 ∧ iv = .int .i64 (k : Int) ∧ Hid (PSt w S T ⟨plainCls, upP 26, loP 26, ordP k⟩ (.slice A1 plainCls.length c1) (.slice A2 26 c2) (.slice A3 26 c3) (.slice A4 k c4) wq)) (fun iv _ => 128 - (intOf iv).toNat)
   case atStart => exact ⟨0, none, 0, by omega, rfl, HQ26⟩
   case round =>
    clear HQ26
    obtain ⟨k, A4, c4, hk, rfl, HQ⟩ := hrel
    by_cases hlt2 : k < 128
    ·have hl2 : (k : Int) < 128 := by omega
     have x1 : IntKind.i32.wrap (k : Int) = (k : Int) := by rw [IntKind.wrap_i32]; omega
     obtain ⟨d0, d1, d2, d3⟩ := HQ.out.z.cells
     have hsz2 : S ≤ wr.heap.size := Nat.le_of_lt (Array.getElem?_eq_some_iff.1 HQ.out.r).1
     obtain ⟨vs, e1, e2, e3⟩ := HQ.out.loc.2.2.2
     rw [show (⟨plainCls, upP 26, loP 26, ordP k⟩ : Loc).ord.length = k from ordP_len k] at e1 e2
     have HE1 := Lib.hid e1
     have HE2 : Hid (wr.ownsRow S 39 3 (.slice A4 k c4) k (ordR (ordP k) vs).flatten) := Lib.hid e2
     have HE3 : Hid (∀ (i : Nat) (e : Elm) (x : Value), (ordP k)[i]? = some e → vs[i]? = some x → wr.ownsRow S 23 1 x e.cells.length (celC e.cells)) := Lib.hid e3
     clear e1 e2 e3
     go_wp2_with (at_builtin; (refine wpList_append_lies _ rfl _ _ 28 rfl S 39 iE (.agg #[.string (str []), .slice none 0 0, .int .i64 0]) 3 48 Tryz.underlying28 hiE he0 he1 he2 rfl (by decide) (.slice A4 k c4) k (ordR (ordP k) vs).flatten rfl ((HE2.out.alloc _).alloc _) ⟨wr.heap.size + 1, 0, none⟩ 1 1 [.string ⟨#[]⟩, .slice (some ⟨wr.heap.size, 0, none⟩) 1 1, .int .i64 k] rfl rfl (trip_new _ _ _ _ _ _ (by simp)) (by intro u hu; simp at hu; rcases hu with rfl | rfl | rfl <;> rfl) (by omega) (by unfold maxLen; omega) (by omega) (by simp only [World.size_alloc]; omega) (wr.heap.size + 1 + 1) (by simp) ?_); intro g cap w5 hown' hgrow hat hlt5; (obtain ⟨hP6, hz5⟩ := PSt.ord2 HQ.out HE1.out HE2.out HE3.out hgrow hown'); (have HP6 := Lib.hid hP6); (obtain ⟨t0, t1, t2, t3⟩ := hz5.cells); (have z3 := hz5.frozen 3); clear hown' hgrow hat hz5 hP6)
     go_roundw
     case rel =>
      exact ⟨k + 1, some ⟨g, 0, none⟩, cap, by omega, by go_num, HP6⟩
     case measure => simp [intOf]; omega
    ·obtain rfl : k = 128 := by omega
     obtain ⟨d0, d1, d2, d3⟩ := HQ.out.z.cells
     have hr : LocZ wr S _ _ _ _ := HQ.out.r
     obtain ⟨r0, r1, r2, r3⟩ := hr.cells
     have f0 := LocZ.frozen hr 0
     have f1 := LocZ.frozen hr 1
     have f2 := LocZ.frozen hr 2
     have f3 := LocZ.frozen hr 3
     have HF := Lib.hid (HQ.out.told (.slice A1 plainCls.length c1) (.slice A2 26 c2) (.slice A3 26 c3) (.slice A4 128 c4))
     have hrz := set_row (i := 3) (l := [_, _, _, _]) (set_row (i := 2) (l := [_, _, _, _]) (set_row (i := 1) (l := [_, _, _, _]) (set_row (i := 0) (l := [_, _, _, _]) hr (.slice A1 plainCls.length c1)) (.slice A2 26 c2)) (.slice A3 26 c3)) (.slice A4 128 c4)
     have hrz' : LocZ ((((wr.setCell ⟨S, 0, none⟩ (.slice A1 plainCls.length c1)).setCell ⟨S, 1, none⟩ (.slice A2 26 c2)).setCell ⟨S, 2, none⟩ (.slice A3 26 c3)).setCell ⟨S, 3, none⟩ (.slice A4 128 c4)) S (.slice A1 plainCls.length c1) (.slice A2 26 c2) (.slice A3 26 c3) (.slice A4 128 c4) := hrz
     obtain ⟨q0, q1, q2, q3⟩ := hrz'.cells
     clear hr hrz hrz'
     go_wp2
     refine bodyPost_ret (v := .agg #[.slice A1 plainCls.length c1, .slice A2 26 c2, .slice A3 26 c3, .slice A4 128 c4]) (by simp [results, Tryz.results12, go_sem, q0, q1, q2, q3]) rfl ⟨_, _, _, _, rfl, HF.out⟩
end Go.Proofs.YtknjhlbhbnldpaaGreatDoor.C

namespace Go.Proofs.YtknjhlbhbnldpaaGreatDoor.C
open Go.RowKit

theorem infoInt8 : (Tryz.prog.info? 3).map (fun i => (i.zero, i.size, i.bytes)) = some (some (.int .i64 0), 1, 8) := by kernel_rfl
set_option maxRecDepth 100000 in
set_option maxHeartbeats 8000000 in
theorem fillAlike (T : Nat) (t : TypeId) (l : List Value) (w : World) (v : Value) (es : List Elm) (hl : l[1]? = some v) (hes : OrdR w T v es) (ho : ordB es = true) (hT : T < w.heap.size) :
  Fills 97 (.pointer (some ⟨T, 1, none⟩)) (.int .i64) T 10 t w l (PAlike T es) := by
 intro W M hf hr hM hm
 have hn : es.length ≤ 500 := by unfold ordB at ho; simp only [Bool.and_eq_true, decide_eq_true_eq] at ho; exact ho.1
 have hb := hf.belowT (Nat.le_of_lt hT)
 have hWT : T < W.heap.size := by have := hf.size; omega
 have c4 : W.cell? ⟨T, 1, none⟩ = some v := hr.cell (by rw [set_ne (by omega), set_ne (by omega)]; exact hl)
 have hO := hes.on hb (Nat.le_refl _)
 obtain ⟨A, c, xs, rfl, _⟩ := id hO
 obtain ⟨i0, hi, hz0, hz1, hz2⟩ := info_parts infoInt8
 have HO := Lib.hid hO
 have HTM : Hid (T < M ∧ T < W.heap.size) := Lib.hid ⟨by omega, hWT⟩
 have HM := Lib.hid hm
 obtain ⟨D, hD⟩ : ∃ D, W.heap.size = D + 1 := ⟨W.heap.size - 1, by omega⟩
 have HD := Lib.hid hD
 clear hf hr hes hb hO hl hm hM hT hWT ho hD
 go_enter Tryz.func97, Tryz.ntmps97
 go_wp2
 go_loopw [11] (fun iv wr => ∃ k : Nat, k ≤ es.length ∧ iv = .int .i64 k ∧ Hid (∃ kv, Fr W wr (· = M) ∧ AlSt D M es wr k kv)) (fun iv _ => es.length - (intOf iv).toNat)
 case atStart => exact ⟨0, Nat.zero_le _, rfl, Lib.hid ⟨[], Fr.refl _ _, HM.out, fun i e h => by omega, by simp, by simp⟩⟩
 case round =>
  obtain ⟨k, hk, rfl, HQ⟩ := hrel
  by_cases hlt : k < es.length
  ·obtain ⟨kv, hfr, hal⟩ := HQ.out
   obtain ⟨e, he⟩ : ∃ e, es[k]? = some e := ⟨_, List.getElem?_eq_getElem hlt⟩
   have hB := keep_map hfr (Nat.le_of_lt HTM.out.2) (Nat.le_of_lt HTM.out.1)
   obtain ⟨ad, c', Ac, cc, hv, hbl, hc0, hc1, hc2, hri⟩ := elmR_at (HO.out.on hB (Nat.le_refl _)) he
   injection hv with hv _ hcc
   subst hv hcc
   obtain ⟨nm, cl, sm⟩ := e
   obtain ⟨w2, hw2⟩ : ∃ w2, w2 = wr.alloc (.cells #[.string (str nm), .slice Ac cl.length cc, .int .i64 sm] 39) := ⟨_, rfl⟩
   have hb2 : Below wr.heap.size wr w2 := by rw [hw2]; exact (Below.refl _ _).alloc (Nat.le_refl _) _
   have hs2 : w2.heap.size = wr.heap.size + 1 := by rw [hw2]; simp
   have x2 : w2.cell? ⟨wr.heap.size, 2, none⟩ = some (.int .i64 sm) := by rw [hw2]; simp
   have hal2 := hal.next hb2
   obtain ⟨Av, cv, hlook, hown, hj⟩ := hal2.look sm
   have hle := plK_le es k sm
   obtain ⟨w3, hw3⟩ : ∃ w3, w3 = w2.drew.alloc (.cells #[.int .i64 (k : Int)] 3) := ⟨_, rfl⟩
   have hb3 : Below w2.heap.size w2 w3 := by rw [hw3]; exact (below_drew (Below.refl _ _)).alloc (Nat.le_refl _) _
   have hs3 : w3.heap.size = w2.heap.size + 1 := by rw [hw3]; simp
   have hal3 := hal2.next hb3
   have hown3 := own_next hown hb3
   have hbox : (Value.slice Av (plK es k sm).length cv).ownBlock ≠ some wr.heap.size := row_neK hown (by rw [hw2]; exact heap_alloc_new wr _) (by decide)
   have hS1 : (fun W' : World => W'.cell? ⟨wr.heap.size, 2, none⟩ = some (.int .i64 sm) ∧ (Instr.lookup 78 (.map (some M)) (.int .i64 sm) false).run Tryz.prog W' = .ok (.slice Av (plK es k sm).length cv) W') w2.drew := ⟨x2, hlook _ hal2.m⟩
   have hS3 : (fun W' : World => W'.cell? ⟨wr.heap.size, 2, none⟩ = some (.int .i64 sm) ∧ (Instr.lookup 78 (.map (some M)) (.int .i64 sm) false).run Tryz.prog W' = .ok (.slice Av (plK es k sm).length cv) W') w3 := ⟨below_cell (p := ⟨wr.heap.size, 2, none⟩) hb3 x2, hlook _ hal3.m⟩
   have i0' : (0 : Int) ≤ (k : Int) := by omega
   have i1 : (k : Int) < (es.length : Int) := by omega
   have HAL3 := Lib.hid hal3
   have HOWN3 := Lib.hid hown3
   have HJ := Lib.hid hj
   have HLOOK := Lib.hid hlook
   have HBOX := Lib.hid hbox
   have HE := Lib.hid he
   have HS := Lib.hid hs3
   have HF3 : Hid (Fr W w3 (· = M)) := Lib.hid ((hfr.trans (.of_below hb2)).trans (.of_below hb3))
   have HS3 := Lib.hid hS3
   have hsW := hfr.size
   have HW3 := Lib.hid hw3
   have HS2 := Lib.hid hs2
   clear hfr hal hB hri hbl hb2 hal2 hlook hown hj hb3 hal3 hown3 hbox he hs3 hw3 x2
   subst hw2
   go_wp2
   refine wp_region_E (S := fun W' : World => W'.cell? ⟨wr.heap.size, 2, none⟩ = some (.int .i64 sm) ∧ (Instr.lookup 78 (.map (some M)) (.int .i64 sm) false).run Tryz.prog W' = .ok (.slice Av (plK es k sm).length cv) W') (L := 10) (by kernel_rfl) ?_
   iterate 8 (refine wpE rfl rfl ?_; try simp only [Act.put, g1, g2, g3, g4, g5, g6])
   refine wpAnyE_one (i := 8) (by kernel_rfl) rfl (fun K hK => ?_)
   simp only [g4, g5, g6]
   go_simp
   rw [show ((wr.alloc (.cells #[.string (str nm), .slice Ac cl.length cc, .int .i64 sm] 39)).alloc (.cells #[.int .i64 (k : Int)] 3)).drew = w3 from by rw [HW3.out]; rfl]
   refine hK.out _ _ (fun _ => HS3.out) (fun hS => ?_)
   replace hS := hS (by decide)
   refine wpAnyE_one (i := 9) (by kernel_rfl) rfl (fun K hK => ?_)
   refine step_append_lies _ (by rfl) _ _ _ (by rfl) (D + 1) 3 i0 (.int .i64 0) 1 8 Tryz.underlying143 hi hz0 hz1 hz2 rfl (by decide) (.slice Av (plK es k sm).length cv) (plK es k sm).length (nat64 (plK es k sm)) (by rfl) HOWN3.out ⟨wr.heap.size + 1, 0, none⟩ 1 1 [.int .i64 (k : Int)] (by rfl) (by rfl) (by rw [HW3.out, ← HS2.out]; exact cell_one_new _ _ _) (by intro u hu; simp at hu; subst hu; rfl) (by decide) (by unfold maxLen; omega) (by omega) (by have := HS.out; have := HS2.out; have := HD.out; omega) _ rfl ?_
   intro g cap w5 hown5 hgr5 hat5 _
   obtain ⟨ob, kv', hrun, hal'⟩ := HAL3.out.step HE.out rfl HOWN3.out HJ.out hgr5 hown5 (hat5.imp_right (by rintro rfl; exact Nat.le_refl _))
   have hS5 : (fun W' : World => W'.cell? ⟨wr.heap.size, 2, none⟩ = some (.int .i64 sm) ∧ (Instr.lookup 78 (.map (some M)) (.int .i64 sm) false).run Tryz.prog W' = .ok (.slice Av (plK es k sm).length cv) W') w5 := ⟨(World.cell?_of_block (hgr5.block wr.heap.size (by have := HS.out; have := HS2.out; omega) (fun h => HBOX.out h.symm))).trans HS3.out.1, HLOOK.out w5 (HAL3.out.m.at_ (hgr5.block M HAL3.out.m.lt (fun h => own_nomap HOWN3.out HAL3.out.m h.symm)))⟩
   have HEND : Hid (∃ kv, Fr W (putObj w5 M ob) (· = M) ∧ AlSt D M es (putObj w5 M ob) (k + 1) kv) := Lib.hid ⟨kv', (HF3.out.next (.of_grown hgr5) (fun j hj hx => by have := (HOWN3.out.lt j hx).1; have := HD.out; omega)).next (.of_grown (putObj_only ob)) (by intro j _ e; injection e with e; exact e.symm), hal'⟩
   clear hown5 hgr5 hat5 hal'
   refine hK.out _ _ (fun _ => hS5) (fun hS => ?_)
   replace hS := hS (by decide)
   refine wpAnyE_one (i := 10) (by kernel_rfl) rfl (fun K hK => ?_)
   simp only [g4, g5, g6]
   go_simp
   refine hK.out _ _ (fun h => absurd rfl h) (fun _ => ?_)
   refine wpAnyE_done (by kernel_rfl) ?_ _
   clear hS hS5 hS1 hS3 hrun
   go_wp2
   go_roundw
   case rel => exact ⟨k + 1, by omega, by go_num, HEND⟩
   case measure => simp [intOf]; omega
  ·obtain rfl : k = es.length := by omega
   have HE : Hid (Fr W wr (· = M) ∧ PAlike T es wr M) := Lib.hid (by
    obtain ⟨kv, h1, h2⟩ := HQ.out
    refine ⟨h1, HTM.out.1, kv, h2.m, fun e he => ?_, fun x hx => own_low (h2.r x hx) (by have := HTM.out; have := HD.out; omega)⟩
    obtain ⟨i, hi⟩ := List.mem_iff_getElem?.1 he
    exact h2.a i e (List.getElem?_eq_some_iff.1 hi).1 hi)
   go_wp2
   go_end0
   exact ⟨rfl, HE.out⟩
end Go.Proofs.YtknjhlbhbnldpaaGreatDoor.C

namespace Go.Proofs.YtknjhlbhbnldpaaGreatDoor.C
open Go.RowKit

set_option maxRecDepth 100000 in
set_option maxHeartbeats 4000000 in
theorem placesAlike_any (w : World) (T : Nat) (L : Loc) (n : Int) (i : Nat) (x : Elm) (h : TabAt w T L n) (hR : rightL L = true) (hx : L.ord[i]? = some x) :
  Calls Tryz.prog 66 #[.pointer (some ⟨T, 1, none⟩), .int .i64 (i : Int)] w fun e w' => ∃ v, e = .returned v ∧ TabAt w' T L n ∧ Fr w w' (· = T) ∧
   w'.ownsRow (T + 1) 3 1 v (placesL L.ord x.same).length ((placesL L.ord x.same).map fun i => .int .i64 (i : Nat)) := by
 have hord := right_ord hR
 obtain ⟨l, v1, v2, v3, v4, hr, h1, h2, h3, h4, h5, h6, h7, k1, k2, k3, k4, k5, k6⟩ := h.drew
 have hget := getII_any T 10 _ l w.drew 97 (.pointer (some ⟨T, 1, none⟩)) (PAlike T L.ord) hr k3 (fun W W' M h hf => h.fr hf) (fun args w => run_enter Tryz.func97 (by kernel_rfl) rfl args w) (fillAlike T _ l w.drew v4 L.ord h3 h7.2.2.2.1 hord hr.lt)
 have hmf : ∀ (fn : Fn) (first cap : Array Value) (w : World), (Instr.makeFunc fn first cap).run Tryz.prog w = .ok (.func fn first cap) w := fun _ _ _ _ => rfl
 have HS : Hid (∀ w' l', Fr w.drew w' (· = T) → Row w' T 107 l' → Lk l' 10 (PAlike T L.ord w') → Else l l' 10 → TabAt w' T L n) := Lib.hid (fun w' l' hf hr' hk' he => TabAt.step hf hr hr' 10 (by simp) he ⟨h1, h2, h3, h4, h5, h6, h7⟩ (.inr ⟨by omega, k1⟩) (.inr ⟨by omega, k2⟩) (.inl hk') (.inr ⟨by omega, k4⟩) (.inr ⟨by omega, k5⟩) (.inr ⟨by omega, k6⟩))
 have hE : ∀ l', Else l l' 10 → l'[1]? = some v4 := fun l' he => (he.2 1 (by omega) (by omega) (by omega)).trans h3
 have q4 : w.drew.cell? ⟨T, 1, none⟩ = some v4 := hr.cell h3
 obtain ⟨ad, c, Ac, cc, rfl, hbl, -, -, q5, -⟩ := elmR_at h7.2.2.2.1 hx
 have h500 : L.ord.length ≤ 500 := by unfold ordB at hord; simp only [Bool.and_eq_true, decide_eq_true_eq] at hord; exact hord.1
 have HTl : Hid (T < w.drew.heap.size ∧ ad.block < T) := Lib.hid ⟨hr.lt, hbl⟩
 have i0 : (0 : Int) ≤ (i : Int) := by omega
 have i1 : (i : Int) < (L.ord.length : Int) := by have := (List.getElem?_eq_some_iff.1 hx).1; omega
 have HX := Lib.hid hx
 have HEL := Lib.hid hE
 obtain ⟨nm, cl, sm⟩ := x
 simp only at q5
 clear hr h1 h2 h3 h4 h5 h6 h7 k1 k2 k3 k4 k5 k6 hord hbl h hx hE
 go_enter Tryz.func66, Tryz.ntmps66
 go_wp2
 refine wp_region_held (S := fun W' : World => W'.cell? ⟨T, 1, none⟩ = some (.slice (some ad) L.ord.length c) ∧ W'.cell? ⟨(ad.add (i * 3)).block, (ad.add (i * 3)).off + 2, none⟩ = some (.int .i64 sm)) (by kernel_rfl) ?_
 change wpAnyH _ _ _ _ _ _ _ _ w.drew
 have hS1 : (fun W' : World => W'.cell? ⟨T, 1, none⟩ = some (.slice (some ad) L.ord.length c) ∧ W'.cell? ⟨(ad.add (i * 3)).block, (ad.add (i * 3)).off + 2, none⟩ = some (.int .i64 sm)) w.drew := ⟨q4, q5⟩
 iterate 5 (refine wpH rfl rfl ?_; try simp only [Act.put, g1, g2, g3, g4, g5, g6])
 refine wpHn 6 rfl ?_; try simp only [Act.put, g1, g2, g3, g4, g5, g6]
 refine wpHn 7 rfl ?_; try simp only [Act.put, g1, g2, g3, g4, g5, g6]
 refine wpHn 8 rfl ?_; try simp only [Act.put, g1, g2, g3, g4, g5, g6]
 refine wpHn 9 rfl ?_; try simp only [Act.put, g1, g2, g3, g4, g5, g6]
 refine wpHn 10 rfl ?_; try simp only [Act.put, g1, g2, g3, g4, g5, g6]
 refine wpHn 11 rfl ?_; try simp only [Act.put, g1, g2, g3, g4, g5, g6]
 refine wpHn 12 rfl ?_; try simp only [Act.put, g1, g2, g3, g4, g5, g6]
 refine wpHn 13 rfl ?_; try simp only [Act.put, g1, g2, g3, g4, g5, g6]
 have HS1 := Lib.hid hS1
 clear q4 q5
 refine wpAnyH_one (i := 5) (by kernel_rfl) rfl (fun K hK => ?_)
 simp only [g4, g5, g6]
 go_simp
 refine hget.mono ?_
 rintro e w1 ⟨M, rfl, hp, hf, l', hr', hk', he⟩
 have HQ : Hid (TabAt w1 T L n ∧ Fr w w1 (· = T)) := Lib.hid ⟨HS.out _ _ hf hr' hk' he, (Fr.refl w _).drew.trans hf⟩
 have hbl := hf.belowT (Nat.le_of_lt HTl.out.1)
 have hS2 : (fun W' : World => W'.cell? ⟨T, 1, none⟩ = some (.slice (some ad) L.ord.length c) ∧ W'.cell? ⟨(ad.add (i * 3)).block, (ad.add (i * 3)).off + 2, none⟩ = some (.int .i64 sm)) w1 := ⟨hr'.cell (HEL.out l' he), (hbl.cell (p := ⟨(ad.add (i * 3)).block, (ad.add (i * 3)).off + 2, none⟩) (by show (ad.add (i * 3)).block < T; rw [block_of_add]; exact HTl.out.2)).trans HS1.out.2⟩
 obtain ⟨_, kv, hm, hall, hrows⟩ := hp
 obtain ⟨y, hy, hys⟩ := List.mem_map.1 (hall _ (List.mem_of_getElem? HX.out))
 obtain ⟨ys, yv⟩ := y
 simp only at hys
 subst hys
 have ho := hrows _ hy
 simp only at ho
 have q := hm.look_yes (P := Tryz.prog) Tryz.underlying78 Tryz.underlying3 (key := .int .i64 ys) (v := yv) (by first | trivial | rfl) (List.mem_map.2 ⟨_, hy, rfl⟩) false
 have HO := Lib.hid ho
 obtain ⟨Ay, cy, rfl⟩ := row_form ho
 clear hget hf hr' hk' he hbl hm hall hrows hy ho
 refine hK.out _ _ hS2 (fun _ => ?_)
 try simp only [Act.put, g1, g2, g3, g4, g5, g6]
 refine wpAnyH_one (i := 14) (by kernel_rfl) rfl (fun K hK => ?_)
 simp only [g4, g5, g6]
 go_simp
 refine hK.out _ _ hS2 (fun _ => ?_)
 try simp only [Act.put, g1, g2, g3, g4, g5, g6]
 refine wpH rfl rfl ?_; try simp only [Act.put, g1, g2, g3, g4, g5, g6]
 refine wpAnyH_done (by kernel_rfl) ?_ _
 clear hS1 hS2 hK q
 go_wp2
 go_ret
 exact ⟨_, rfl, HQ.out.1, HQ.out.2, HO.out⟩
end Go.Proofs.YtknjhlbhbnldpaaGreatDoor.C

namespace Go.Proofs.YtknjhlbhbnldpaaGreatDoor.C
open Go.RowKit

section
variable {w0 w w' : World} {S T : Nat} {l : Loc} {v1 v2 v3 v4 : Value}
theorem PSt.cls {vs : List Value} {x : Value} {g cap : Nat} (k : Cls) (h : PSt w0 S T l v1 v2 v3 v4 w) (e1 : vs.length = l.cls.length) (e2 : w.ownsRow S 86 2 v1 l.cls.length (clsC l.cls vs)) (e3 : ∀ (i : Nat) (k : Cls) (x : Value), l.cls[i]? = some k → vs[i]? = some x → w.ownsRow S 109 2 x k.rs.length (prsC k.rs)) (hx : w.ownsRow S 109 2 x k.rs.length (prsC k.rs)) (hg : w.grownBy w' v1.ownBlock) (ho : w'.ownsRow S 86 2 (.slice (some ⟨g, 0, none⟩) (l.cls.length + 1) cap) (l.cls.length + 1) (clsC l.cls vs ++ [.string (str k.name), x])) :
  PSt w0 S T { l with cls := l.cls ++ [k] } (.slice (some ⟨g, 0, none⟩) (l.cls.length + 1) cap) v2 v3 v4 (w'.setCell ⟨T, 0, none⟩ (.slice (some ⟨g, 0, none⟩) (l.cls.length + 1) cap)) := by
 have hty := row_tyK e2
 obtain ⟨z, r, b, -, c4, c2, c3⟩ := h.step (Fr.of_grown hg) (fun j hj => (e2.lt j hj).1) (fun j hx => ⟨fun e => row_neK e2 h.r (by decide) (e ▸ hx), fun e => row_neK e2 h.z (by decide) (e ▸ hx)⟩) hty
 have q2 := c2 (fun g hg hx => by
  obtain ⟨c', hc'⟩ := ownsRow_ty h.loc.2.1 hg
  have := hty g _ _ _ hx hc'
  exact absurd this (by decide))
 have q3 := c3 (fun g hg hx => by
  obtain ⟨c', hc'⟩ := ownsRow_ty h.loc.2.2.1 hg
  have := hty g _ _ _ hx hc'
  exact absurd this (by decide))
 exact PSt.put z r h.st ⟨ClsAt.snoc k e1 e2 e3 hx hg ho, q2, q3, c4 (by decide)⟩ h.ne b rfl
end
theorem plainCls_len : plainCls.length = 12 := by decide +kernel
end Go.Proofs.YtknjhlbhbnldpaaGreatDoor.C
