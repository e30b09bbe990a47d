/-
  Joined: LhB, LhE. Each with what its own head says.
-/
import Derived.Test.YthgiikhkcpbpfaaGreatDoorB10
import Derived.Test.YthgiikhkcpbpfaaGreatDoorB11


namespace Go.Proofs.YthgiikhkcpbpfaaGreatDoor.C
open Go.RowKit
structure GSt (w0 : World) (S : Nat) (l : Loc) (v1 v2 v3 v4 : Value) (w : World) : Prop where
 z : LocZ w (S + 1) v1 v2 v3 v4
 r : LocZ w S (.slice none 0 0) (.slice none 0 0) (.slice none 0 0) (.slice none 0 0)
 nm : Rw w (S + 2) 9 #[.string (str (nmCls 0)), .string (str (nmCls 1)), .string (str (nmCls 2)), .string (str [85, 48, 48, 52, 49])]
 loc : LocAt w S v1 v2 v3 v4 l
 ne : ∀ g, v2.ownBlock = some g → v3.ownBlock ≠ some g
 b : Below S w0 w
section
variable {w0 w w' : World} {S : Nat} {l : Loc} {v1 v2 v3 v4 : Value}
theorem GSt.step {X : Nat → Prop} {t0 : TypeId} (h : GSt w0 S l v1 v2 v3 v4 w) (hf : Fr w w' X) (hS : ∀ j, X j → S ≤ j) (hz : ∀ j, X j → j ≠ S ∧ j ≠ S + 1 ∧ j ≠ S + 2) (ht : ∀ g c z t, X g → w.heap[g]? = some (.cells c t z) → t = t0) :
  LocZ w' (S + 1) v1 v2 v3 v4 ∧ LocZ w' S (.slice none 0 0) (.slice none 0 0) (.slice none 0 0) (.slice none 0 0) ∧ Rw w' (S + 2) 9 #[.string (str (nmCls 0)), .string (str (nmCls 1)), .string (str (nmCls 2)), .string (str [85, 48, 48, 52, 49])] ∧ Below S w0 w' ∧
  (t0 ≠ 79 ∧ t0 ≠ 46 → ClsAt w' S v1 l.cls) ∧ (t0 ≠ 83 ∧ t0 ≠ 30 → OrdAt w' S v4 l.ord) ∧ ((∀ g, v2.ownBlock = some g → ¬ X g) → w'.ownsRow S 81 2 v2 l.up.length (prsC l.up)) ∧ ((∀ g, v3.ownBlock = some g → ¬ X g) → w'.ownsRow S 81 2 v3 l.lo.length (prsC l.lo)) := by
 obtain ⟨a1, a2, a3, a4⟩ := h.loc
 have hsz : S ≤ w.heap.size := Nat.le_of_lt h.r.lt
 refine ⟨(hf.block _ h.z.lt fun hx => (hz _ hx).2.1 rfl).trans h.z, (hf.block _ h.r.lt fun hx => (hz _ hx).1 rfl).trans h.r, (hf.block _ h.nm.lt fun hx => (hz _ hx).2.2 rfl).trans h.nm, h.b.trans (hf.below (fun j _ hx => hS j hx) hsz), fun hn => a1.fr hf (fun g c z t hx hg => ?_), fun hn => a4.fr hf (fun g c z t hx hg => ?_), fun hx => ownsRow_fr a2 hf hx, fun hx => ownsRow_fr a3 hf hx⟩
 ·rw [ht g c z t hx hg]
  exact hn
 ·rw [ht g c z t hx hg]
  exact ⟨hn.2, hn.1⟩
theorem GSt.next (h : GSt w0 S l v1 v2 v3 v4 w) (hb : Below w.heap.size w w') : GSt w0 S l v1 v2 v3 v4 w' := by
 obtain ⟨z, r, nm, b, c1, c4, c2, c3⟩ := h.step (X := fun _ => False) (t0 := 3) (.of_below hb) (fun _ hx => hx.elim) (fun _ hx => hx.elim) (fun _ _ _ _ hx => hx.elim)
 exact ⟨z, r, nm, ⟨c1 (by decide), c2 (fun _ _ => id), c3 (fun _ _ => id), c4 (by decide)⟩, h.ne, b⟩
theorem GSt.drew (h : GSt w0 S l v1 v2 v3 v4 w) : GSt w0 S l v1 v2 v3 v4 w.drew := h.next (below_drew (Below.refl _ _))
theorem GSt.size (h : GSt w0 S l v1 v2 v3 v4 w) : S + 2 < w.heap.size := h.nm.lt
theorem locz_set {w : World} {b : Nat} {x1 x2 x3 x4 : Value} (h : LocZ w b x1 x2 x3 x4) (i : Nat) (u : Value) : (w.setCell ⟨b, i, none⟩ u).heap[b]? = some (.cells ([x1, x2, x3, x4].set i u).toArray 27 (0, 0)) := set_row (l := [x1, x2, x3, x4]) h u
theorem ownBlock_ge {e : TypeId} {sz n : Nat} {v : Value} {xs : List Value} (h : w.ownsRow S e sz v n xs) : ∀ g, v.ownBlock = some g → S ≤ g := fun g hg => (h.lt g hg).1
theorem GSt.put {x1 x2 x3 x4 : Value} {l' : Loc} {i : Nat} {u : Value} (hz : LocZ w (S + 1) v1 v2 v3 v4) (hr : LocZ w S (.slice none 0 0) (.slice none 0 0) (.slice none 0 0) (.slice none 0 0)) (hn : Rw w (S + 2) 9 #[.string (str (nmCls 0)), .string (str (nmCls 1)), .string (str (nmCls 2)), .string (str [85, 48, 48, 52, 49])]) (hL : LocAt w S x1 x2 x3 x4 l') (hne : ∀ g, x2.ownBlock = some g → x3.ownBlock ≠ some g) (hb : Below S w0 w) (hi : [v1, v2, v3, v4].set i u = [x1, x2, x3, x4]) :
  GSt w0 S l' x1 x2 x3 x4 (w.setCell ⟨S + 1, i, none⟩ u) := by
 have hf : Fr w (w.setCell ⟨S + 1, i, none⟩ u) (fun j => j = S + 1) := (Fr.of_below (Below.refl _ _)).set ⟨S + 1, i, none⟩ u (fun _ => rfl)
 have hty : ∀ g c z t, g = S + 1 → w.heap[g]? = some (.cells c t z) → t = 27 := by
  rintro g c z t rfl hg
  have := hg.symm.trans hz
  simp at this
  exact this.2.1
 obtain ⟨a1, a2, a3, a4⟩ := hL
 have no : ∀ {e : TypeId} {sz n : Nat} {v : Value} {xs : List Value}, w.ownsRow S e sz v n xs → 27 ≠ e → ∀ g, v.ownBlock = some g → ¬ g = S + 1 := fun hw he g hg hx => by
  subst hx
  exact row_ne hw hz he hg
 refine ⟨?_, (hf.block _ hr.lt (by omega)).trans hr, (hf.block _ hn.lt (by omega)).trans hn, ⟨a1.fr hf (fun g c z t hx hg => ?_), ownsRow_fr a2 hf (no a2 (by decide)), ownsRow_fr a3 hf (no a3 (by decide)), a4.fr hf (fun g c z t hx hg => ?_)⟩, hne, hb.setCell (p := ⟨S + 1, i, none⟩) (Nat.le_succ S) _⟩
 ·show _ = _
  rw [locz_set hz i u, hi]
 ·rw [hty g c z t hx hg]; decide
 ·rw [hty g c z t hx hg]; decide
theorem row_tyeq {base sz n : Nat} {e : TypeId} {v : Value} {xs : List Value} (h : w.ownsRow base e sz v n xs) : ∀ g c z t, (v.ownBlock = some g) → w.heap[g]? = some (.cells c t z) → t = e := by
 intro g c z t hx hh
 obtain ⟨c', hc'⟩ := ownsRow_ty h hx
 have := hh.symm.trans hc'
 simp at this
 exact this.2.1
theorem grown_fr {row : Option Nat} (h : w.grownBy w' row) : Fr w w' (fun j => row = some j) := Fr.of_grown h
theorem GSt.cls {vs : List Value} {x : Value} {g cap : Nat} (c : Cls) (h : GSt w0 S l v1 v2 v3 v4 w) (e1 : vs.length = l.cls.length) (e2 : w.ownsRow S 79 2 v1 l.cls.length (clsC l.cls vs)) (e3 : ∀ (i : Nat) (c : Cls) (x : Value), l.cls[i]? = some c → vs[i]? = some x → w.ownsRow S 46 2 x c.rs.length (prsC c.rs)) (hx : w.ownsRow S 46 2 x c.rs.length (prsC c.rs)) (hg : w.grownBy w' v1.ownBlock) (ho : w'.ownsRow S 79 2 (.slice (some ⟨g, 0, none⟩) (l.cls.length + 1) cap) (l.cls.length + 1) (clsC l.cls vs ++ [.string (str c.name), x])) :
  GSt w0 S { l with cls := l.cls ++ [c] } (.slice (some ⟨g, 0, none⟩) (l.cls.length + 1) cap) v2 v3 v4 (w'.setCell ⟨S + 1, 0, none⟩ (.slice (some ⟨g, 0, none⟩) (l.cls.length + 1) cap)) := by
 have hty := row_tyeq e2
 obtain ⟨z, r, nm, b, -, c4, c2, c3⟩ := h.step (grown_fr hg) (ownBlock_ge e2) (fun j hx => ⟨fun e => row_ne e2 h.r (by decide) (e ▸ hx), fun e => row_ne e2 h.z (by decide) (e ▸ hx), fun e => row_ne e2 h.nm (by decide) (e ▸ hx)⟩) hty
 have q2 := c2 (fun g hg hx => by
  obtain ⟨c', hc'⟩ := ownsRow_ty h.loc.2.1 hg
  have := hty g _ _ _ hx hc'
  exact absurd this (by decide))
 have q3 := c3 (fun g hg hx => by
  obtain ⟨c', hc'⟩ := ownsRow_ty h.loc.2.2.1 hg
  have := hty g _ _ _ hx hc'
  exact absurd this (by decide))
 exact GSt.put z r nm ⟨ClsAt.snoc c e1 e2 e3 hx hg ho, q2, q3, c4 (by decide)⟩ h.ne b rfl
theorem GSt.up {g cap : Nat} (p : Int × Int) (h : GSt w0 S l v1 v2 v3 v4 w) (hg : w.grownBy w' v2.ownBlock) (ho : w'.ownsRow S 81 2 (.slice (some ⟨g, 0, none⟩) (l.up.length + 1) cap) (l.up.length + 1) (prsC l.up ++ [.int .i32 p.1, .int .i32 p.2])) (hat : v2.ownBlock = some g ∨ w.heap.size ≤ g) :
  GSt w0 S { l with up := l.up ++ [p] } v1 (.slice (some ⟨g, 0, none⟩) (l.up.length + 1) cap) v3 v4 (w'.setCell ⟨S + 1, 1, none⟩ (.slice (some ⟨g, 0, none⟩) (l.up.length + 1) cap)) := by
 have e2 := h.loc.2.1
 have hty := row_tyeq e2
 obtain ⟨z, r, nm, b, c1, c4, -, c3⟩ := h.step (grown_fr hg) (ownBlock_ge e2) (fun j hx => ⟨fun e => row_ne e2 h.r (by decide) (e ▸ hx), fun e => row_ne e2 h.z (by decide) (e ▸ hx), fun e => row_ne e2 h.nm (by decide) (e ▸ hx)⟩) hty
 have q3 := c3 (fun g hg hx => h.ne g hx hg)
 refine GSt.put z r nm ⟨c1 (by decide), ?_, q3, c4 (by decide)⟩ (fun g' hg' hq => ?_) b rfl
 ·rw [List.length_append, prsC_snoc]
  exact ho
 ·have hgg : g = g' := by simpa [Value.ownBlock] using hg'
  subst hgg
  rcases hat with hat | hat
  ·exact h.ne g hat hq
  ·have := (h.loc.2.2.1.lt g hq).2
   omega
theorem GSt.lo {g cap : Nat} (p : Int × Int) (h : GSt w0 S l v1 v2 v3 v4 w) (hg : w.grownBy w' v3.ownBlock) (ho : w'.ownsRow S 81 2 (.slice (some ⟨g, 0, none⟩) (l.lo.length + 1) cap) (l.lo.length + 1) (prsC l.lo ++ [.int .i32 p.1, .int .i32 p.2])) (hat : v3.ownBlock = some g ∨ w.heap.size ≤ g) :
  GSt w0 S { l with lo := l.lo ++ [p] } v1 v2 (.slice (some ⟨g, 0, none⟩) (l.lo.length + 1) cap) v4 (w'.setCell ⟨S + 1, 2, none⟩ (.slice (some ⟨g, 0, none⟩) (l.lo.length + 1) cap)) := by
 have e2 := h.loc.2.2.1
 have hty := row_tyeq e2
 obtain ⟨z, r, nm, b, c1, c4, c2, -⟩ := h.step (grown_fr hg) (ownBlock_ge e2) (fun j hx => ⟨fun e => row_ne e2 h.r (by decide) (e ▸ hx), fun e => row_ne e2 h.z (by decide) (e ▸ hx), fun e => row_ne e2 h.nm (by decide) (e ▸ hx)⟩) hty
 have q2 := c2 (fun g hg hx => h.ne g hg hx)
 refine GSt.put z r nm ⟨c1 (by decide), q2, ?_, c4 (by decide)⟩ (fun g' hg' hq => ?_) b rfl
 ·rw [List.length_append, prsC_snoc]
  exact ho
 ·have hgg : g = g' := by simpa [Value.ownBlock] using hq
  subst hgg
  rcases hat with hat | hat
  ·exact h.ne g hg' hat
  ·have := (h.loc.2.1.lt g hg').2
   omega
theorem GSt.ord {vs : List Value} {x : Value} {g cap : Nat} (e : Elm) (h : GSt w0 S l v1 v2 v3 v4 w) (e1 : vs.length = l.ord.length) (e2 : w.ownsRow S 83 3 v4 l.ord.length (ordR l.ord vs).flatten) (e3 : ∀ (i : Nat) (e : Elm) (x : Value), l.ord[i]? = some e → vs[i]? = some x → w.ownsRow S 30 1 x e.cells.length (celC e.cells)) (hx : w.ownsRow S 30 1 x e.cells.length (celC e.cells)) (hg : w.grownBy w' v4.ownBlock) (ho : w'.ownsRow S 83 3 (.slice (some ⟨g, 0, none⟩) (l.ord.length + 1) cap) (l.ord.length + 1) ((ordR l.ord vs).flatten ++ [.string (str e.name), x, .int .i64 e.same])) :
  GSt w0 S { l with ord := l.ord ++ [e] } v1 v2 v3 (.slice (some ⟨g, 0, none⟩) (l.ord.length + 1) cap) (w'.setCell ⟨S + 1, 3, none⟩ (.slice (some ⟨g, 0, none⟩) (l.ord.length + 1) cap)) := by
 have hty := row_tyeq e2
 obtain ⟨z, r, nm, b, c1, -, c2, c3⟩ := h.step (grown_fr hg) (ownBlock_ge e2) (fun j hx => ⟨fun e => row_ne e2 h.r (by decide) (e ▸ hx), fun e => row_ne e2 h.z (by decide) (e ▸ hx), fun e => row_ne e2 h.nm (by decide) (e ▸ hx)⟩) hty
 have q2 := c2 (fun g hg hx => by
  obtain ⟨c', hc'⟩ := ownsRow_ty h.loc.2.1 hg
  have := hty g _ _ _ hx hc'
  exact absurd this (by decide))
 have q3 := c3 (fun g hg hx => by
  obtain ⟨c', hc'⟩ := ownsRow_ty h.loc.2.2.1 hg
  have := hty g _ _ _ hx hc'
  exact absurd this (by decide))
 exact GSt.put z r nm ⟨c1 (by decide), q2, q3, OrdAt.snoc e e1 e2 e3 hx hg ho⟩ h.ne b rfl
end
end Go.Proofs.YthgiikhkcpbpfaaGreatDoor.C


namespace Go.Proofs.YthgiikhkcpbpfaaGreatDoor.C
open Go.RowKit
def ClV (S : Nat) (wp : World) (C : Nat) (nm : List UInt8) (rs : List (Int × Int)) (wx : World) : Prop := wp.heap.size ≤ C ∧ Below wp.heap.size wp wx ∧ ∃ v, Two wx C 79 (.string (str nm)) v ∧ wx.ownsRow S 46 2 v rs.length (prsC rs) ∧ ∀ g, v.ownBlock = some g → wp.heap.size ≤ g
theorem ClV.more {S C g cap : Nat} {wp w1 w2 : World} {nm : List UInt8} {rs : List (Int × Int)} {v : Value} (p : Int × Int) (hC : wp.heap.size ≤ C) (hb : Below wp.heap.size wp w1) (ht : Two w1 C 79 (.string (str nm)) v) (hov : w1.ownsRow S 46 2 v rs.length (prsC rs)) (hvb : ∀ g, v.ownBlock = some g → wp.heap.size ≤ g) (hg : w1.grownBy w2 v.ownBlock) (ho : w2.ownsRow S 46 2 (.slice (some ⟨g, 0, none⟩) (rs.length + 1) cap) (rs.length + 1) (prsC rs ++ [.int .i32 p.1, .int .i32 p.2])) (hat : v.ownBlock = some g ∨ wp.heap.size ≤ g) :
  ClV S wp C nm (rs ++ [p]) (w2.setCell ⟨C, 1, none⟩ (.slice (some ⟨g, 0, none⟩) (rs.length + 1) cap)) := by
 have hne := row_ne hov ht (by decide)
 have h2 := ht.kept hg (fun e => hne e.symm)
 have hf : Fr w2 (w2.setCell ⟨C, 1, none⟩ (.slice (some ⟨g, 0, none⟩) (rs.length + 1) cap)) (· = C) := (Fr.of_below (Below.refl _ _)).set _ _ (fun _ => rfl)
 refine ⟨hC, (hb.trans ((Fr.of_grown hg).below (fun j _ hj => hvb j hj) hb.size)).setCell (p := ⟨C, 1, none⟩) hC _, _, h2.set1 _, ?_, fun g' hg' => ?_⟩
 ·rw [List.length_append, prsC_snoc]
  exact ownsRow_fr ho hf (fun g' hg' hx => by subst hx; exact row_ne ho h2 (by decide) hg')
 ·have hgg : g = g' := by simpa [Value.ownBlock] using hg'
  subst hgg
  rcases hat with hat | hat
  ·exact hvb g hat
  ·exact hat
theorem ownsRow_new (w : World) (S : Nat) (hS : S ≤ w.heap.size) (e : TypeId) (size n : Nat) (xs : List Value) (hl : xs.length = n * size) (hn : n ≤ maxLen) : (w.alloc (.cells xs.toArray e)).ownsRow S e size (.slice (some ⟨w.heap.size, 0, none⟩) n n) n xs :=
 ⟨hl, .inr ⟨w.heap.size, n, xs.toArray, rfl, hS, heap_alloc_new w _, Nat.le_refl _, hn, by simpa using hl, by rw [List.take_of_length_le (by simp [hl])]⟩⟩
theorem ClV.newA (w : World) {S : Nat} (hS : S ≤ w.heap.size) (nm : List UInt8) (a b : Int) : ClV S w (w.heap.size + 1) nm [(a, b)] ((w.alloc (.cells #[.int .i32 a, .int .i32 b] 46)).alloc (.cells #[.string (str nm), .slice (some ⟨w.heap.size, 0, none⟩) 1 1] 79)).drew := by
 have hs : (w.alloc (.cells #[.int .i32 a, .int .i32 b] 46)).heap.size = w.heap.size + 1 := by simp
 refine ⟨Nat.le_succ _, below_drew (((Below.refl _ _).alloc (Nat.le_refl _) _).alloc (by rw [hs]; omega) _), _, ?_, ((ownsRow_new w S hS 46 2 1 [.int .i32 a, .int .i32 b] rfl (by unfold maxLen; omega)).alloc _).drew, fun g hg => ?_⟩
 ·have h := Two.new (w.alloc (.cells #[.int .i32 a, .int .i32 b] 46)) 79 (.string (str nm)) (.slice (some ⟨w.heap.size, 0, none⟩) 1 1)
  rw [hs] at h
  exact h
 ·have : w.heap.size = g := by simpa [Value.ownBlock] using hg
  omega
theorem ClV.newB (w : World) {S : Nat} (hS : S ≤ w.heap.size) (nm : List UInt8) (a b : Int) : ClV S w w.heap.size nm [(a, b)] ((w.alloc (.cells #[.string (str nm), .slice (some ⟨w.heap.size + 1, 0, none⟩) 1 1] 79)).alloc (.cells #[.int .i32 a, .int .i32 b] 46)).drew := by
 have hs : (w.alloc (.cells #[.string (str nm), .slice (some ⟨w.heap.size + 1, 0, none⟩) 1 1] 79)).heap.size = w.heap.size + 1 := by simp
 have ho := ownsRow_new (w.alloc (.cells #[.string (str nm), .slice (some ⟨w.heap.size + 1, 0, none⟩) 1 1] 79)) S (by rw [hs]; omega) 46 2 1 [.int .i32 a, .int .i32 b] rfl (by unfold maxLen; omega)
 rw [hs] at ho
 refine ⟨Nat.le_refl _, below_drew (((Below.refl _ _).alloc (Nat.le_refl _) _).alloc (by rw [hs]; omega) _), _, ((Two.new w 79 (.string (str nm)) (.slice (some ⟨w.heap.size + 1, 0, none⟩) 1 1)).alloc _).drew, ho.drew, fun g hg => ?_⟩
 have : w.heap.size + 1 = g := by simpa [Value.ownBlock] using hg
 omega
def ElV (S : Nat) (wp : World) (E : Nat) (nm : List UInt8) (cs : List Int) (sm : Int) (wx : World) : Prop := wp.heap.size ≤ E ∧ Below wp.heap.size wp wx ∧ ∃ Ac cc, Rw wx E 83 #[.string (str nm), .slice Ac cs.length cc, .int .i64 sm] ∧ wx.ownsRow S 30 1 (.slice Ac cs.length cc) cs.length (celC cs)
theorem ElV.new (w : World) (S : Nat) (hS : S ≤ w.heap.size) (r k : Int) : ElV S w (w.heap.size + 1) [] [r] k ((w.alloc (.cells #[.int .i32 r] 30)).alloc (.cells #[.string (str []), .slice (some ⟨w.heap.size, 0, none⟩) 1 1, .int .i64 k] 83)) := by
 have hs : (w.alloc (.cells #[.int .i32 r] 30)).heap.size = w.heap.size + 1 := by simp
 refine ⟨Nat.le_succ _, ((Below.refl _ _).alloc (Nat.le_refl _) _).alloc (by rw [hs]; omega) _, _, _, ?_, (ownsRow_new w S hS 30 1 1 [.int .i32 r] rfl (by unfold maxLen; omega)).alloc _⟩
 unfold Rw
 rw [← hs]
 exact heap_alloc_new _ _
theorem Rw.frozen {w : World} {b : Nat} {t : TypeId} {xs : Array Value} (h : Rw w b t xs) (i : Nat) : w.frozen? ⟨b, i, none⟩ = false := by simp [World.frozen?, show w.heap[b]? = _ from h]
theorem Rw.alloc {w : World} {b : Nat} {t : TypeId} {xs : Array Value} (h : Rw w b t xs) (o : Obj) : Rw (w.alloc o) b t xs := (Below.heap_alloc w o b h.lt).trans h
theorem ElV.name1 {S E : Nat} {wp w : World} {nm : List UInt8} {cs : List Int} {sm : Int} (h : ElV S wp E nm cs sm w) (nm' : List UInt8) (o : Obj) :
  ElV S wp E nm' cs sm ((w.alloc o).setCell ⟨E, 0, none⟩ (.string (str nm'))) := by
 obtain ⟨hE, hb, Ac, cc, hr, ho⟩ := h
 exact ⟨hE, (hb.alloc hb.size o).setCell (p := ⟨E, 0, none⟩) hE _, Ac, cc, set_row (i := 0) (l := [_, _, _]) (hr.alloc o) _, Go.ownsRow_setCell_other (ho.alloc o) (fun he => row_ne (ho.alloc o) (hr.alloc o) (by decide) he) _⟩
theorem ElV.cells1 {S E : Nat} {wp w : World} {nm : List UInt8} {cs : List Int} {sm : Int} (h : ElV S wp E nm cs sm w) (hS : S ≤ wp.heap.size) (a b : Int) :
  ElV S wp E nm [a, b] sm ((w.alloc (.cells #[.int .i32 a, .int .i32 b] 30)).setCell ⟨E, 1, none⟩ (.slice (some ⟨w.heap.size, 0, none⟩) 2 2)) := by
 obtain ⟨hE, hb, Ac, cc, hr, -⟩ := h
 have hn := ownsRow_new w S (Nat.le_trans hS hb.size) 30 1 2 [.int .i32 a, .int .i32 b] rfl (by unfold maxLen; omega)
 refine ⟨hE, (hb.alloc hb.size _).setCell (p := ⟨E, 1, none⟩) hE _, some ⟨w.heap.size, 0, none⟩, 2, set_row (i := 1) (l := [_, _, _]) (hr.alloc _) _, Go.ownsRow_setCell_other hn (fun he => ?_) _⟩
 have : w.heap.size = E := by simpa [Value.ownBlock] using he
 have := hr.lt
 omega
def namArr : Array Value := #[.string ⟨#[99, 104]⟩, .string ⟨#[97, 98]⟩, .string ⟨#[101, 115, 122, 101, 116, 116]⟩]
theorem nam_cell (w : World) (t : TypeId) {j : Nat} (hj : j < 3) : (w.alloc (.cells namArr t)).cell? ⟨w.heap.size, j, none⟩ = some (.string (str (nmElm (j : Int)))) := by
 rw [World.cell?_alloc_new]
 rcases (by omega : j = 0 ∨ j = 1 ∨ j = 2) with rfl | rfl | rfl <;> rfl
theorem ElV.samed {S E : Nat} {wp w : World} {nm : List UInt8} {cs : List Int} {sm : Int} (h : ElV S wp E nm cs sm w) (s : Int) : ElV S wp E nm cs s (w.setCell ⟨E, 2, none⟩ (.int .i64 s)) := by
 obtain ⟨hE, hb, Ac, cc, hr, ho⟩ := h
 refine ⟨hE, hb.setCell (p := ⟨E, 2, none⟩) hE _, Ac, cc, set_row (i := 2) (l := [_, _, _]) hr _, Go.ownsRow_setCell_other ho (fun he => ?_) _⟩
 exact row_ne ho hr (by decide) he
theorem ElV.next {S E : Nat} {wp w w' : World} {nm : List UInt8} {cs : List Int} {sm : Int} (h : ElV S wp E nm cs sm w) (hb : Below w.heap.size w w') : ElV S wp E nm cs sm w' := by
 obtain ⟨hE, hb0, Ac, cc, hr, ho⟩ := h
 exact ⟨hE, hb0.trans (hb.mono hb0.size), Ac, cc, (hb.block _ hr.lt).trans hr, ownsRow_fr ho (.of_below hb) (X := fun _ => False) (fun _ _ => id)⟩
theorem GSt.mid {w0 w w' : World} {S sz n : Nat} {l : Loc} {v1 v2 v3 v4 v : Value} {t0 : TypeId} {xs : List Value} (h : GSt w0 S l v1 v2 v3 v4 w) (e2 : w.ownsRow S t0 sz v n xs) (h1 : 27 ≠ t0) (h2 : 9 ≠ t0) (hg : w.grownBy w' v.ownBlock) : LocZ w' (S + 1) v1 v2 v3 v4 ∧ Below S w0 w' := by
 have hq := h.step (grown_fr hg) (ownBlock_ge e2) (fun j hx => ⟨fun e => row_ne e2 h.r h1 (e ▸ hx), fun e => row_ne e2 h.z h1 (e ▸ hx), fun e => row_ne e2 h.nm h2 (e ▸ hx)⟩) (row_tyeq e2)
 exact ⟨hq.1, hq.2.2.2.1⟩
theorem nm_at {w0 w : World} {S : Nat} {l : Loc} {v1 v2 v3 v4 : Value} (h : GSt w0 S l v1 v2 v3 v4 w) {i : Nat} (hi : i < 3) : w.cell? ⟨S + 1 + 1, i, none⟩ = some (.string (str (nmCls i))) := by
 rcases (by omega : i = 0 ∨ i = 1 ∨ i = 2) with rfl | rfl | rfl
 ·exact h.nm.cell rfl
 ·exact h.nm.cell rfl
 ·exact h.nm.cell rfl
theorem take_end {α : Type} {l : List α} {i n k : Nat} (hl : l.length = n) (h1 : i ≤ n) (h2 : i ≤ k) (h3 : ¬ (i < n ∧ i < k)) : l.take i = l.take k := by
 rcases (by omega : i = n ∨ i = k) with h | h
 ·rw [List.take_of_length_le (by omega), List.take_of_length_le (by omega)]
 ·rw [h]
theorem take_drop_end {α : Type} {l : List α} {i n a k : Nat} (hl : l.length = n) (h0 : a ≤ i) (_ : i ≤ n ∨ i = a) (h2 : i ≤ a + k) (h3 : ¬ (i < n ∧ i < a + k)) : (l.drop a).take (i - a) = (l.drop a).take k := by
 rcases (by omega : i = a + k ∨ n ≤ i) with h | h
 ·rw [h, Nat.add_sub_cancel_left]
 ·rw [List.take_of_length_le (by rw [List.length_drop]; omega), List.take_of_length_le (by rw [List.length_drop]; omega)]
theorem take_drop_one {α : Type} {l : List α} {i a : Nat} {z : α} (h : l[i]? = some z) (h0 : a ≤ i) : (l.drop a).take (i + 1 - a) = (l.drop a).take (i - a) ++ [z] := by
 rw [show i + 1 - a = (i - a) + 1 by omega]
 exact take_one (by rw [List.getElem?_drop, show a + (i - a) = i by omega]; exact h)
theorem take_len {α : Type} {l : List α} {i a : Nat} {z : α} (h : l[i]? = some z) (h0 : a ≤ i) : ((l.drop a).take (i - a)).length = i - a := by
 have := (List.getElem?_eq_some_iff.1 h).1
 rw [List.length_take, List.length_drop]
 omega
theorem GSt.told {w0 w : World} {S : Nat} {l : Loc} {v1 v2 v3 v4 : Value} (h : GSt w0 S l v1 v2 v3 v4 w) (hS : w0.heap.size = S) (x1 x2 x3 x4 : Value) :
  LocAt ((((w.setCell ⟨S, 0, none⟩ x1).setCell ⟨S, 1, none⟩ x2).setCell ⟨S, 2, none⟩ x3).setCell ⟨S, 3, none⟩ x4) w0.heap.size v1 v2 v3 v4 l ∧ Below w0.heap.size w0 ((((w.setCell ⟨S, 0, none⟩ x1).setCell ⟨S, 1, none⟩ x2).setCell ⟨S, 2, none⟩ x3).setCell ⟨S, 3, none⟩ x4) := by
 rw [hS]
 have hf : Fr w ((((w.setCell ⟨S, 0, none⟩ x1).setCell ⟨S, 1, none⟩ x2).setCell ⟨S, 2, none⟩ x3).setCell ⟨S, 3, none⟩ x4) (fun j => j = S) := ((((Fr.of_below (X := fun j => j = S) (Below.refl _ _)).set ⟨S, 0, none⟩ x1 (fun _ => rfl)).set ⟨S, 1, none⟩ x2 (fun _ => rfl)).set ⟨S, 2, none⟩ x3 (fun _ => rfl)).set ⟨S, 3, none⟩ x4 (fun _ => rfl)
 have hty : ∀ g c z t, g = S → w.heap[g]? = some (.cells c t z) → t = 27 := by
  rintro g c z t rfl hg
  have := hg.symm.trans h.r
  simp at this
  exact this.2.1
 obtain ⟨a1, a2, a3, a4⟩ := h.loc
 have no : ∀ {e : TypeId} {sz n : Nat} {v : Value} {xs : List Value}, w.ownsRow S e sz v n xs → 27 ≠ e → ∀ g, v.ownBlock = some g → ¬ g = S := fun hw he g hg hx => by
  subst hx
  exact row_ne hw h.r he hg
 refine ⟨⟨a1.fr hf (fun g c z t hx hg => ?_), ownsRow_fr a2 hf (no a2 (by decide)), ownsRow_fr a3 hf (no a3 (by decide)), a4.fr hf (fun g c z t hx hg => ?_)⟩, (((h.b.setCell (p := ⟨S, 0, none⟩) (Nat.le_refl S) _).setCell (p := ⟨S, 1, none⟩) (Nat.le_refl S) _).setCell (p := ⟨S, 2, none⟩) (Nat.le_refl S) _).setCell (p := ⟨S, 3, none⟩) (Nat.le_refl S) _⟩
 ·rw [hty g c z t hx hg]; decide
 ·rw [hty g c z t hx hg]; decide
end Go.Proofs.YthgiikhkcpbpfaaGreatDoor.C
