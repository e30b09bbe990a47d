/-
  Joined: LhB. Each with what its own head says.
-/
import Derived.Test.YthaibekbefndlaaGreatDoorH38

namespace Go.Proofs.YthaibekbefndlaaGreatDoor.C
open Go.RowKit

structure GSt (w0 : World) (S : Nat) (l : Loc) (v1 v2 v3 v4 : Value) (w : World) : Prop where
 z : LocZ w (S + 1) v1 v2 v3 v4
 r : LocZ w S (.slice none 0 0) (.slice none 0 0) (.slice none 0 0) (.slice none 0 0)
 nm : Rw w (S + 2) 9 #[.string (str (nmCls 0)), .string (str (nmCls 1)), .string (str (nmCls 2)), .string (str [85, 48, 48, 52, 49])]
 loc : LocAt w S v1 v2 v3 v4 l
 ne : ∀ g, v2.ownBlock = some g → v3.ownBlock ≠ some g
 b : Below S w0 w
section
variable {w0 w w' : World} {S : Nat} {l : Loc} {v1 v2 v3 v4 : Value}
theorem GSt.step {X : Nat → Prop} {t0 : TypeId} (h : GSt w0 S l v1 v2 v3 v4 w) (hf : Fr w w' X) (hS : ∀ j, X j → S ≤ j) (hz : ∀ j, X j → j ≠ S ∧ j ≠ S + 1 ∧ j ≠ S + 2) (ht : ∀ g c z t, X g → w.heap[g]? = some (.cells c t z) → t = t0) :
  LocZ w' (S + 1) v1 v2 v3 v4 ∧ LocZ w' S (.slice none 0 0) (.slice none 0 0) (.slice none 0 0) (.slice none 0 0) ∧ Rw w' (S + 2) 9 #[.string (str (nmCls 0)), .string (str (nmCls 1)), .string (str (nmCls 2)), .string (str [85, 48, 48, 52, 49])] ∧ Below S w0 w' ∧
  (t0 ≠ 47 ∧ t0 ≠ 51 → ClsAt w' S v1 l.cls) ∧ (t0 ≠ 34 ∧ t0 ≠ 35 → OrdAt w' S v4 l.ord) ∧ ((∀ g, v2.ownBlock = some g → ¬ X g) → w'.ownsRow S 49 2 v2 l.up.length (prsC l.up)) ∧ ((∀ g, v3.ownBlock = some g → ¬ X g) → w'.ownsRow S 49 2 v3 l.lo.length (prsC l.lo)) := by
 obtain ⟨a1, a2, a3, a4⟩ := h.loc
 have hsz : S ≤ w.heap.size := Nat.le_of_lt h.r.lt
 refine ⟨(hf.block _ h.z.lt fun hx => (hz _ hx).2.1 rfl).trans h.z, (hf.block _ h.r.lt fun hx => (hz _ hx).1 rfl).trans h.r, (hf.block _ h.nm.lt fun hx => (hz _ hx).2.2 rfl).trans h.nm, h.b.trans (hf.below (fun j _ hx => hS j hx) hsz), fun hn => a1.fr hf (fun g c z t hx hg => ?_), fun hn => a4.fr hf (fun g c z t hx hg => ?_), fun hx => ownsRow_fr a2 hf hx, fun hx => ownsRow_fr a3 hf hx⟩
 ·rw [ht g c z t hx hg]
  exact hn
 ·rw [ht g c z t hx hg]
  exact ⟨hn.2, hn.1⟩
theorem GSt.next (h : GSt w0 S l v1 v2 v3 v4 w) (hb : Below w.heap.size w w') : GSt w0 S l v1 v2 v3 v4 w' := by
 obtain ⟨z, r, nm, b, c1, c4, c2, c3⟩ := h.step (X := fun _ => False) (t0 := 3) (.of_below hb) (fun _ hx => hx.elim) (fun _ hx => hx.elim) (fun _ _ _ _ hx => hx.elim)
 exact ⟨z, r, nm, ⟨c1 (by decide), c2 (fun _ _ => id), c3 (fun _ _ => id), c4 (by decide)⟩, h.ne, b⟩
theorem GSt.drew (h : GSt w0 S l v1 v2 v3 v4 w) : GSt w0 S l v1 v2 v3 v4 w.drew := h.next (below_drew (Below.refl _ _))
theorem GSt.size (h : GSt w0 S l v1 v2 v3 v4 w) : S + 2 < w.heap.size := h.nm.lt
theorem locz_set {w : World} {b : Nat} {x1 x2 x3 x4 : Value} (h : LocZ w b x1 x2 x3 x4) (i : Nat) (u : Value) : (w.setCell ⟨b, i, none⟩ u).heap[b]? = some (.cells ([x1, x2, x3, x4].set i u).toArray 26 (0, 0)) := set_row (l := [x1, x2, x3, x4]) h u
theorem ownBlock_ge {e : TypeId} {sz n : Nat} {v : Value} {xs : List Value} (h : w.ownsRow S e sz v n xs) : ∀ g, v.ownBlock = some g → S ≤ g := fun g hg => (h.lt g hg).1
theorem GSt.put {x1 x2 x3 x4 : Value} {l' : Loc} {i : Nat} {u : Value} (hz : LocZ w (S + 1) v1 v2 v3 v4) (hr : LocZ w S (.slice none 0 0) (.slice none 0 0) (.slice none 0 0) (.slice none 0 0)) (hn : Rw w (S + 2) 9 #[.string (str (nmCls 0)), .string (str (nmCls 1)), .string (str (nmCls 2)), .string (str [85, 48, 48, 52, 49])]) (hL : LocAt w S x1 x2 x3 x4 l') (hne : ∀ g, x2.ownBlock = some g → x3.ownBlock ≠ some g) (hb : Below S w0 w) (hi : [v1, v2, v3, v4].set i u = [x1, x2, x3, x4]) :
  GSt w0 S l' x1 x2 x3 x4 (w.setCell ⟨S + 1, i, none⟩ u) := by
 have hf : Fr w (w.setCell ⟨S + 1, i, none⟩ u) (fun j => j = S + 1) := (Fr.of_below (Below.refl _ _)).set ⟨S + 1, i, none⟩ u (fun _ => rfl)
 have hty : ∀ g c z t, g = S + 1 → w.heap[g]? = some (.cells c t z) → t = 26 := by
  rintro g c z t rfl hg
  have := hg.symm.trans hz
  simp at this
  exact this.2.1
 obtain ⟨a1, a2, a3, a4⟩ := hL
 have no : ∀ {e : TypeId} {sz n : Nat} {v : Value} {xs : List Value}, w.ownsRow S e sz v n xs → 26 ≠ e → ∀ g, v.ownBlock = some g → ¬ g = S + 1 := fun hw he g hg hx => by
  subst hx
  exact row_ne hw hz he hg
 refine ⟨?_, (hf.block _ hr.lt (by omega)).trans hr, (hf.block _ hn.lt (by omega)).trans hn, ⟨a1.fr hf (fun g c z t hx hg => ?_), ownsRow_fr a2 hf (no a2 (by decide)), ownsRow_fr a3 hf (no a3 (by decide)), a4.fr hf (fun g c z t hx hg => ?_)⟩, hne, hb.setCell (p := ⟨S + 1, i, none⟩) (Nat.le_succ S) _⟩
 ·show _ = _
  rw [locz_set hz i u, hi]
 ·rw [hty g c z t hx hg]; decide
 ·rw [hty g c z t hx hg]; decide
theorem row_tyeq {base sz n : Nat} {e : TypeId} {v : Value} {xs : List Value} (h : w.ownsRow base e sz v n xs) : ∀ g c z t, (v.ownBlock = some g) → w.heap[g]? = some (.cells c t z) → t = e := by
 intro g c z t hx hh
 obtain ⟨c', hc'⟩ := ownsRow_ty h hx
 have := hh.symm.trans hc'
 simp at this
 exact this.2.1
theorem grown_fr {row : Option Nat} (h : w.grownBy w' row) : Fr w w' (fun j => row = some j) := Fr.of_grown h
theorem GSt.cls {vs : List Value} {x : Value} {g cap : Nat} (c : Cls) (h : GSt w0 S l v1 v2 v3 v4 w) (e1 : vs.length = l.cls.length) (e2 : w.ownsRow S 47 2 v1 l.cls.length (clsC l.cls vs)) (e3 : ∀ (i : Nat) (c : Cls) (x : Value), l.cls[i]? = some c → vs[i]? = some x → w.ownsRow S 51 2 x c.rs.length (prsC c.rs)) (hx : w.ownsRow S 51 2 x c.rs.length (prsC c.rs)) (hg : w.grownBy w' v1.ownBlock) (ho : w'.ownsRow S 47 2 (.slice (some ⟨g, 0, none⟩) (l.cls.length + 1) cap) (l.cls.length + 1) (clsC l.cls vs ++ [.string (str c.name), x])) :
  GSt w0 S { l with cls := l.cls ++ [c] } (.slice (some ⟨g, 0, none⟩) (l.cls.length + 1) cap) v2 v3 v4 (w'.setCell ⟨S + 1, 0, none⟩ (.slice (some ⟨g, 0, none⟩) (l.cls.length + 1) cap)) := by
 have hty := row_tyeq e2
 obtain ⟨z, r, nm, b, -, c4, c2, c3⟩ := h.step (grown_fr hg) (ownBlock_ge e2) (fun j hx => ⟨fun e => row_ne e2 h.r (by decide) (e ▸ hx), fun e => row_ne e2 h.z (by decide) (e ▸ hx), fun e => row_ne e2 h.nm (by decide) (e ▸ hx)⟩) hty
 have q2 := c2 (fun g hg hx => by
  obtain ⟨c', hc'⟩ := ownsRow_ty h.loc.2.1 hg
  have := hty g _ _ _ hx hc'
  exact absurd this (by decide))
 have q3 := c3 (fun g hg hx => by
  obtain ⟨c', hc'⟩ := ownsRow_ty h.loc.2.2.1 hg
  have := hty g _ _ _ hx hc'
  exact absurd this (by decide))
 exact GSt.put z r nm ⟨ClsAt.snoc c e1 e2 e3 hx hg ho, q2, q3, c4 (by decide)⟩ h.ne b rfl
theorem GSt.up {g cap : Nat} (p : Int × Int) (h : GSt w0 S l v1 v2 v3 v4 w) (hg : w.grownBy w' v2.ownBlock) (ho : w'.ownsRow S 49 2 (.slice (some ⟨g, 0, none⟩) (l.up.length + 1) cap) (l.up.length + 1) (prsC l.up ++ [.int .i32 p.1, .int .i32 p.2])) (hat : v2.ownBlock = some g ∨ w.heap.size ≤ g) :
  GSt w0 S { l with up := l.up ++ [p] } v1 (.slice (some ⟨g, 0, none⟩) (l.up.length + 1) cap) v3 v4 (w'.setCell ⟨S + 1, 1, none⟩ (.slice (some ⟨g, 0, none⟩) (l.up.length + 1) cap)) := by
 have e2 := h.loc.2.1
 have hty := row_tyeq e2
 obtain ⟨z, r, nm, b, c1, c4, -, c3⟩ := h.step (grown_fr hg) (ownBlock_ge e2) (fun j hx => ⟨fun e => row_ne e2 h.r (by decide) (e ▸ hx), fun e => row_ne e2 h.z (by decide) (e ▸ hx), fun e => row_ne e2 h.nm (by decide) (e ▸ hx)⟩) hty
 have q3 := c3 (fun g hg hx => h.ne g hx hg)
 refine GSt.put z r nm ⟨c1 (by decide), ?_, q3, c4 (by decide)⟩ (fun g' hg' hq => ?_) b rfl
 ·rw [List.length_append, prsC_snoc]
  exact ho
 ·have hgg : g = g' := by simpa [Value.ownBlock] using hg'
  subst hgg
  rcases hat with hat | hat
  ·exact h.ne g hat hq
  ·have := (h.loc.2.2.1.lt g hq).2
   omega
theorem GSt.lo {g cap : Nat} (p : Int × Int) (h : GSt w0 S l v1 v2 v3 v4 w) (hg : w.grownBy w' v3.ownBlock) (ho : w'.ownsRow S 49 2 (.slice (some ⟨g, 0, none⟩) (l.lo.length + 1) cap) (l.lo.length + 1) (prsC l.lo ++ [.int .i32 p.1, .int .i32 p.2])) (hat : v3.ownBlock = some g ∨ w.heap.size ≤ g) :
  GSt w0 S { l with lo := l.lo ++ [p] } v1 v2 (.slice (some ⟨g, 0, none⟩) (l.lo.length + 1) cap) v4 (w'.setCell ⟨S + 1, 2, none⟩ (.slice (some ⟨g, 0, none⟩) (l.lo.length + 1) cap)) := by
 have e2 := h.loc.2.2.1
 have hty := row_tyeq e2
 obtain ⟨z, r, nm, b, c1, c4, c2, -⟩ := h.step (grown_fr hg) (ownBlock_ge e2) (fun j hx => ⟨fun e => row_ne e2 h.r (by decide) (e ▸ hx), fun e => row_ne e2 h.z (by decide) (e ▸ hx), fun e => row_ne e2 h.nm (by decide) (e ▸ hx)⟩) hty
 have q2 := c2 (fun g hg hx => h.ne g hg hx)
 refine GSt.put z r nm ⟨c1 (by decide), q2, ?_, c4 (by decide)⟩ (fun g' hg' hq => ?_) b rfl
 ·rw [List.length_append, prsC_snoc]
  exact ho
 ·have hgg : g = g' := by simpa [Value.ownBlock] using hq
  subst hgg
  rcases hat with hat | hat
  ·exact h.ne g hg' hat
  ·have := (h.loc.2.1.lt g hg').2
   omega
theorem GSt.ord {vs : List Value} {x : Value} {g cap : Nat} (e : Elm) (h : GSt w0 S l v1 v2 v3 v4 w) (e1 : vs.length = l.ord.length) (e2 : w.ownsRow S 34 3 v4 l.ord.length (ordR l.ord vs).flatten) (e3 : ∀ (i : Nat) (e : Elm) (x : Value), l.ord[i]? = some e → vs[i]? = some x → w.ownsRow S 35 1 x e.cells.length (celC e.cells)) (hx : w.ownsRow S 35 1 x e.cells.length (celC e.cells)) (hg : w.grownBy w' v4.ownBlock) (ho : w'.ownsRow S 34 3 (.slice (some ⟨g, 0, none⟩) (l.ord.length + 1) cap) (l.ord.length + 1) ((ordR l.ord vs).flatten ++ [.string (str e.name), x, .int .i64 e.same])) :
  GSt w0 S { l with ord := l.ord ++ [e] } v1 v2 v3 (.slice (some ⟨g, 0, none⟩) (l.ord.length + 1) cap) (w'.setCell ⟨S + 1, 3, none⟩ (.slice (some ⟨g, 0, none⟩) (l.ord.length + 1) cap)) := by
 have hty := row_tyeq e2
 obtain ⟨z, r, nm, b, c1, -, c2, c3⟩ := h.step (grown_fr hg) (ownBlock_ge e2) (fun j hx => ⟨fun e => row_ne e2 h.r (by decide) (e ▸ hx), fun e => row_ne e2 h.z (by decide) (e ▸ hx), fun e => row_ne e2 h.nm (by decide) (e ▸ hx)⟩) hty
 have q2 := c2 (fun g hg hx => by
  obtain ⟨c', hc'⟩ := ownsRow_ty h.loc.2.1 hg
  have := hty g _ _ _ hx hc'
  exact absurd this (by decide))
 have q3 := c3 (fun g hg hx => by
  obtain ⟨c', hc'⟩ := ownsRow_ty h.loc.2.2.1 hg
  have := hty g _ _ _ hx hc'
  exact absurd this (by decide))
 exact GSt.put z r nm ⟨c1 (by decide), q2, q3, OrdAt.snoc e e1 e2 e3 hx hg ho⟩ h.ne b rfl
end
end Go.Proofs.YthaibekbefndlaaGreatDoor.C
