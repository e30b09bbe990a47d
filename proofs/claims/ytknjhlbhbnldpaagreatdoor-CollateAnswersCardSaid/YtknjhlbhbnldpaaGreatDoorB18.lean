/-
  Joined: LhB, LhE, LiE. Each with what its own head says.
-/
import Derived.Test.YtknjhlbhbnldpaaGreatDoorB15
import Derived.Test.YtknjhlbhbnldpaaGreatDoorB14


namespace Go.Proofs.YtknjhlbhbnldpaaGreatDoor.C
open Go.RowKit
structure GSt (w0 : World) (S : Nat) (l : Loc) (v1 v2 v3 v4 : Value) (w : World) : Prop where
 z : LocZ w (S + 1) v1 v2 v3 v4
 r : LocZ w S (.slice none 0 0) (.slice none 0 0) (.slice none 0 0) (.slice none 0 0)
 nm : Rw w (S + 2) 9 #[.string (str (nmCls 0)), .string (str (nmCls 1)), .string (str (nmCls 2)), .string (str [85, 48, 48, 52, 49])]
 loc : LocAt w S v1 v2 v3 v4 l
 ne : ∀ g, v2.ownBlock = some g → v3.ownBlock ≠ some g
 b : Below S w0 w
section
variable {w0 w w' : World} {S : Nat} {l : Loc} {v1 v2 v3 v4 : Value}
theorem GSt.step {X : Nat → Prop} {t0 : TypeId} (h : GSt w0 S l v1 v2 v3 v4 w) (hf : Fr w w' X) (hS : ∀ j, X j → S ≤ j) (hz : ∀ j, X j → j ≠ S ∧ j ≠ S + 1 ∧ j ≠ S + 2) (ht : ∀ g c z t, X g → w.heap[g]? = some (.cells c t z) → t = t0) :
  LocZ w' (S + 1) v1 v2 v3 v4 ∧ LocZ w' S (.slice none 0 0) (.slice none 0 0) (.slice none 0 0) (.slice none 0 0) ∧ Rw w' (S + 2) 9 #[.string (str (nmCls 0)), .string (str (nmCls 1)), .string (str (nmCls 2)), .string (str [85, 48, 48, 52, 49])] ∧ Below S w0 w' ∧
  (t0 ≠ 86 ∧ t0 ≠ 109 → ClsAt w' S v1 l.cls) ∧ (t0 ≠ 39 ∧ t0 ≠ 23 → OrdAt w' S v4 l.ord) ∧ ((∀ g, v2.ownBlock = some g → ¬ X g) → w'.ownsRow S 95 2 v2 l.up.length (prsC l.up)) ∧ ((∀ g, v3.ownBlock = some g → ¬ X g) → w'.ownsRow S 95 2 v3 l.lo.length (prsC l.lo)) := by
 obtain ⟨a1, a2, a3, a4⟩ := h.loc
 have hsz : S ≤ w.heap.size := Nat.le_of_lt h.r.lt
 refine ⟨(hf.block _ h.z.lt fun hx => (hz _ hx).2.1 rfl).trans h.z, (hf.block _ h.r.lt fun hx => (hz _ hx).1 rfl).trans h.r, (hf.block _ h.nm.lt fun hx => (hz _ hx).2.2 rfl).trans h.nm, h.b.trans (hf.below (fun j _ hx => hS j hx) hsz), fun hn => a1.fr hf (fun g c z t hx hg => ?_), fun hn => a4.fr hf (fun g c z t hx hg => ?_), fun hx => ownsRow_fr a2 hf hx, fun hx => ownsRow_fr a3 hf hx⟩
 ·rw [ht g c z t hx hg]
  exact hn
 ·rw [ht g c z t hx hg]
  exact ⟨hn.2, hn.1⟩
theorem GSt.next (h : GSt w0 S l v1 v2 v3 v4 w) (hb : Below w.heap.size w w') : GSt w0 S l v1 v2 v3 v4 w' := by
 obtain ⟨z, r, nm, b, c1, c4, c2, c3⟩ := h.step (X := fun _ => False) (t0 := 3) (.of_below hb) (fun _ hx => hx.elim) (fun _ hx => hx.elim) (fun _ _ _ _ hx => hx.elim)
 exact ⟨z, r, nm, ⟨c1 (by decide), c2 (fun _ _ => id), c3 (fun _ _ => id), c4 (by decide)⟩, h.ne, b⟩
theorem GSt.drew (h : GSt w0 S l v1 v2 v3 v4 w) : GSt w0 S l v1 v2 v3 v4 w.drew := h.next (below_drew (Below.refl _ _))
theorem GSt.size (h : GSt w0 S l v1 v2 v3 v4 w) : S + 2 < w.heap.size := h.nm.lt
theorem locz_set {w : World} {b : Nat} {x1 x2 x3 x4 : Value} (h : LocZ w b x1 x2 x3 x4) (i : Nat) (u : Value) : (w.setCell ⟨b, i, none⟩ u).heap[b]? = some (.cells ([x1, x2, x3, x4].set i u).toArray 30 (0, 0)) := set_row (l := [x1, x2, x3, x4]) h u
theorem ownBlock_ge {e : TypeId} {sz n : Nat} {v : Value} {xs : List Value} (h : w.ownsRow S e sz v n xs) : ∀ g, v.ownBlock = some g → S ≤ g := fun g hg => (h.lt g hg).1
theorem GSt.put {x1 x2 x3 x4 : Value} {l' : Loc} {i : Nat} {u : Value} (hz : LocZ w (S + 1) v1 v2 v3 v4) (hr : LocZ w S (.slice none 0 0) (.slice none 0 0) (.slice none 0 0) (.slice none 0 0)) (hn : Rw w (S + 2) 9 #[.string (str (nmCls 0)), .string (str (nmCls 1)), .string (str (nmCls 2)), .string (str [85, 48, 48, 52, 49])]) (hL : LocAt w S x1 x2 x3 x4 l') (hne : ∀ g, x2.ownBlock = some g → x3.ownBlock ≠ some g) (hb : Below S w0 w) (hi : [v1, v2, v3, v4].set i u = [x1, x2, x3, x4]) :
  GSt w0 S l' x1 x2 x3 x4 (w.setCell ⟨S + 1, i, none⟩ u) := by
 have hf : Fr w (w.setCell ⟨S + 1, i, none⟩ u) (fun j => j = S + 1) := (Fr.of_below (Below.refl _ _)).set ⟨S + 1, i, none⟩ u (fun _ => rfl)
 have hty : ∀ g c z t, g = S + 1 → w.heap[g]? = some (.cells c t z) → t = 30 := by
  rintro g c z t rfl hg
  have := hg.symm.trans hz
  simp at this
  exact this.2.1
 obtain ⟨a1, a2, a3, a4⟩ := hL
 have no : ∀ {e : TypeId} {sz n : Nat} {v : Value} {xs : List Value}, w.ownsRow S e sz v n xs → 30 ≠ e → ∀ g, v.ownBlock = some g → ¬ g = S + 1 := fun hw he g hg hx => by
  subst hx
  exact row_ne hw hz he hg
 refine ⟨?_, (hf.block _ hr.lt (by omega)).trans hr, (hf.block _ hn.lt (by omega)).trans hn, ⟨a1.fr hf (fun g c z t hx hg => ?_), ownsRow_fr a2 hf (no a2 (by decide)), ownsRow_fr a3 hf (no a3 (by decide)), a4.fr hf (fun g c z t hx hg => ?_)⟩, hne, hb.setCell (p := ⟨S + 1, i, none⟩) (Nat.le_succ S) _⟩
 ·show _ = _
  rw [locz_set hz i u, hi]
 ·rw [hty g c z t hx hg]; decide
 ·rw [hty g c z t hx hg]; decide
theorem row_tyeq {base sz n : Nat} {e : TypeId} {v : Value} {xs : List Value} (h : w.ownsRow base e sz v n xs) : ∀ g c z t, (v.ownBlock = some g) → w.heap[g]? = some (.cells c t z) → t = e := by
 intro g c z t hx hh
 obtain ⟨c', hc'⟩ := ownsRow_ty h hx
 have := hh.symm.trans hc'
 simp at this
 exact this.2.1
theorem grown_fr {row : Option Nat} (h : w.grownBy w' row) : Fr w w' (fun j => row = some j) := Fr.of_grown h
theorem GSt.cls {vs : List Value} {x : Value} {g cap : Nat} (c : Cls) (h : GSt w0 S l v1 v2 v3 v4 w) (e1 : vs.length = l.cls.length) (e2 : w.ownsRow S 86 2 v1 l.cls.length (clsC l.cls vs)) (e3 : ∀ (i : Nat) (c : Cls) (x : Value), l.cls[i]? = some c → vs[i]? = some x → w.ownsRow S 109 2 x c.rs.length (prsC c.rs)) (hx : w.ownsRow S 109 2 x c.rs.length (prsC c.rs)) (hg : w.grownBy w' v1.ownBlock) (ho : w'.ownsRow S 86 2 (.slice (some ⟨g, 0, none⟩) (l.cls.length + 1) cap) (l.cls.length + 1) (clsC l.cls vs ++ [.string (str c.name), x])) :
  GSt w0 S { l with cls := l.cls ++ [c] } (.slice (some ⟨g, 0, none⟩) (l.cls.length + 1) cap) v2 v3 v4 (w'.setCell ⟨S + 1, 0, none⟩ (.slice (some ⟨g, 0, none⟩) (l.cls.length + 1) cap)) := by
 have hty := row_tyeq e2
 obtain ⟨z, r, nm, b, -, c4, c2, c3⟩ := h.step (grown_fr hg) (ownBlock_ge e2) (fun j hx => ⟨fun e => row_ne e2 h.r (by decide) (e ▸ hx), fun e => row_ne e2 h.z (by decide) (e ▸ hx), fun e => row_ne e2 h.nm (by decide) (e ▸ hx)⟩) hty
 have q2 := c2 (fun g hg hx => by
  obtain ⟨c', hc'⟩ := ownsRow_ty h.loc.2.1 hg
  have := hty g _ _ _ hx hc'
  exact absurd this (by decide))
 have q3 := c3 (fun g hg hx => by
  obtain ⟨c', hc'⟩ := ownsRow_ty h.loc.2.2.1 hg
  have := hty g _ _ _ hx hc'
  exact absurd this (by decide))
 exact GSt.put z r nm ⟨ClsAt.snoc c e1 e2 e3 hx hg ho, q2, q3, c4 (by decide)⟩ h.ne b rfl
theorem GSt.up {g cap : Nat} (p : Int × Int) (h : GSt w0 S l v1 v2 v3 v4 w) (hg : w.grownBy w' v2.ownBlock) (ho : w'.ownsRow S 95 2 (.slice (some ⟨g, 0, none⟩) (l.up.length + 1) cap) (l.up.length + 1) (prsC l.up ++ [.int .i32 p.1, .int .i32 p.2])) (hat : v2.ownBlock = some g ∨ w.heap.size ≤ g) :
  GSt w0 S { l with up := l.up ++ [p] } v1 (.slice (some ⟨g, 0, none⟩) (l.up.length + 1) cap) v3 v4 (w'.setCell ⟨S + 1, 1, none⟩ (.slice (some ⟨g, 0, none⟩) (l.up.length + 1) cap)) := by
 have e2 := h.loc.2.1
 have hty := row_tyeq e2
 obtain ⟨z, r, nm, b, c1, c4, -, c3⟩ := h.step (grown_fr hg) (ownBlock_ge e2) (fun j hx => ⟨fun e => row_ne e2 h.r (by decide) (e ▸ hx), fun e => row_ne e2 h.z (by decide) (e ▸ hx), fun e => row_ne e2 h.nm (by decide) (e ▸ hx)⟩) hty
 have q3 := c3 (fun g hg hx => h.ne g hx hg)
 refine GSt.put z r nm ⟨c1 (by decide), ?_, q3, c4 (by decide)⟩ (fun g' hg' hq => ?_) b rfl
 ·rw [List.length_append, prsC_snoc]
  exact ho
 ·have hgg : g = g' := by simpa [Value.ownBlock] using hg'
  subst hgg
  rcases hat with hat | hat
  ·exact h.ne g hat hq
  ·have := (h.loc.2.2.1.lt g hq).2
   omega
theorem GSt.lo {g cap : Nat} (p : Int × Int) (h : GSt w0 S l v1 v2 v3 v4 w) (hg : w.grownBy w' v3.ownBlock) (ho : w'.ownsRow S 95 2 (.slice (some ⟨g, 0, none⟩) (l.lo.length + 1) cap) (l.lo.length + 1) (prsC l.lo ++ [.int .i32 p.1, .int .i32 p.2])) (hat : v3.ownBlock = some g ∨ w.heap.size ≤ g) :
  GSt w0 S { l with lo := l.lo ++ [p] } v1 v2 (.slice (some ⟨g, 0, none⟩) (l.lo.length + 1) cap) v4 (w'.setCell ⟨S + 1, 2, none⟩ (.slice (some ⟨g, 0, none⟩) (l.lo.length + 1) cap)) := by
 have e2 := h.loc.2.2.1
 have hty := row_tyeq e2
 obtain ⟨z, r, nm, b, c1, c4, c2, -⟩ := h.step (grown_fr hg) (ownBlock_ge e2) (fun j hx => ⟨fun e => row_ne e2 h.r (by decide) (e ▸ hx), fun e => row_ne e2 h.z (by decide) (e ▸ hx), fun e => row_ne e2 h.nm (by decide) (e ▸ hx)⟩) hty
 have q2 := c2 (fun g hg hx => h.ne g hg hx)
 refine GSt.put z r nm ⟨c1 (by decide), q2, ?_, c4 (by decide)⟩ (fun g' hg' hq => ?_) b rfl
 ·rw [List.length_append, prsC_snoc]
  exact ho
 ·have hgg : g = g' := by simpa [Value.ownBlock] using hq
  subst hgg
  rcases hat with hat | hat
  ·exact h.ne g hg' hat
  ·have := (h.loc.2.1.lt g hg').2
   omega
theorem GSt.ord {vs : List Value} {x : Value} {g cap : Nat} (e : Elm) (h : GSt w0 S l v1 v2 v3 v4 w) (e1 : vs.length = l.ord.length) (e2 : w.ownsRow S 39 3 v4 l.ord.length (ordR l.ord vs).flatten) (e3 : ∀ (i : Nat) (e : Elm) (x : Value), l.ord[i]? = some e → vs[i]? = some x → w.ownsRow S 23 1 x e.cells.length (celC e.cells)) (hx : w.ownsRow S 23 1 x e.cells.length (celC e.cells)) (hg : w.grownBy w' v4.ownBlock) (ho : w'.ownsRow S 39 3 (.slice (some ⟨g, 0, none⟩) (l.ord.length + 1) cap) (l.ord.length + 1) ((ordR l.ord vs).flatten ++ [.string (str e.name), x, .int .i64 e.same])) :
  GSt w0 S { l with ord := l.ord ++ [e] } v1 v2 v3 (.slice (some ⟨g, 0, none⟩) (l.ord.length + 1) cap) (w'.setCell ⟨S + 1, 3, none⟩ (.slice (some ⟨g, 0, none⟩) (l.ord.length + 1) cap)) := by
 have hty := row_tyeq e2
 obtain ⟨z, r, nm, b, c1, -, c2, c3⟩ := h.step (grown_fr hg) (ownBlock_ge e2) (fun j hx => ⟨fun e => row_ne e2 h.r (by decide) (e ▸ hx), fun e => row_ne e2 h.z (by decide) (e ▸ hx), fun e => row_ne e2 h.nm (by decide) (e ▸ hx)⟩) hty
 have q2 := c2 (fun g hg hx => by
  obtain ⟨c', hc'⟩ := ownsRow_ty h.loc.2.1 hg
  have := hty g _ _ _ hx hc'
  exact absurd this (by decide))
 have q3 := c3 (fun g hg hx => by
  obtain ⟨c', hc'⟩ := ownsRow_ty h.loc.2.2.1 hg
  have := hty g _ _ _ hx hc'
  exact absurd this (by decide))
 exact GSt.put z r nm ⟨c1 (by decide), q2, q3, OrdAt.snoc e e1 e2 e3 hx hg ho⟩ h.ne b rfl
end
end Go.Proofs.YtknjhlbhbnldpaaGreatDoor.C


namespace Go.Proofs.YtknjhlbhbnldpaaGreatDoor.C
open Go.RowKit
def ClV (S : Nat) (wp : World) (C : Nat) (nm : List UInt8) (rs : List (Int × Int)) (wx : World) : Prop := wp.heap.size ≤ C ∧ Below wp.heap.size wp wx ∧ ∃ v, Two wx C 86 (.string (str nm)) v ∧ wx.ownsRow S 109 2 v rs.length (prsC rs) ∧ ∀ g, v.ownBlock = some g → wp.heap.size ≤ g
theorem ClV.more {S C g cap : Nat} {wp w1 w2 : World} {nm : List UInt8} {rs : List (Int × Int)} {v : Value} (p : Int × Int) (hC : wp.heap.size ≤ C) (hb : Below wp.heap.size wp w1) (ht : Two w1 C 86 (.string (str nm)) v) (hov : w1.ownsRow S 109 2 v rs.length (prsC rs)) (hvb : ∀ g, v.ownBlock = some g → wp.heap.size ≤ g) (hg : w1.grownBy w2 v.ownBlock) (ho : w2.ownsRow S 109 2 (.slice (some ⟨g, 0, none⟩) (rs.length + 1) cap) (rs.length + 1) (prsC rs ++ [.int .i32 p.1, .int .i32 p.2])) (hat : v.ownBlock = some g ∨ wp.heap.size ≤ g) :
  ClV S wp C nm (rs ++ [p]) (w2.setCell ⟨C, 1, none⟩ (.slice (some ⟨g, 0, none⟩) (rs.length + 1) cap)) := by
 have hne := row_ne hov ht (by decide)
 have h2 := ht.kept hg (fun e => hne e.symm)
 have hf : Fr w2 (w2.setCell ⟨C, 1, none⟩ (.slice (some ⟨g, 0, none⟩) (rs.length + 1) cap)) (· = C) := (Fr.of_below (Below.refl _ _)).set _ _ (fun _ => rfl)
 refine ⟨hC, (hb.trans ((Fr.of_grown hg).below (fun j _ hj => hvb j hj) hb.size)).setCell (p := ⟨C, 1, none⟩) hC _, _, h2.set1 _, ?_, fun g' hg' => ?_⟩
 ·rw [List.length_append, prsC_snoc]
  exact ownsRow_fr ho hf (fun g' hg' hx => by subst hx; exact row_ne ho h2 (by decide) hg')
 ·have hgg : g = g' := by simpa [Value.ownBlock] using hg'
  subst hgg
  rcases hat with hat | hat
  ·exact hvb g hat
  ·exact hat
theorem ownsRow_new (w : World) (S : Nat) (hS : S ≤ w.heap.size) (e : TypeId) (size n : Nat) (xs : List Value) (hl : xs.length = n * size) (hn : n ≤ maxLen) : (w.alloc (.cells xs.toArray e)).ownsRow S e size (.slice (some ⟨w.heap.size, 0, none⟩) n n) n xs :=
 ⟨hl, .inr ⟨w.heap.size, n, xs.toArray, rfl, hS, heap_alloc_new w _, Nat.le_refl _, hn, by simpa using hl, by rw [List.take_of_length_le (by simp [hl])]⟩⟩
theorem ClV.newA (w : World) {S : Nat} (hS : S ≤ w.heap.size) (nm : List UInt8) (a b : Int) : ClV S w (w.heap.size + 1) nm [(a, b)] ((w.alloc (.cells #[.int .i32 a, .int .i32 b] 109)).alloc (.cells #[.string (str nm), .slice (some ⟨w.heap.size, 0, none⟩) 1 1] 86)).drew := by
 have hs : (w.alloc (.cells #[.int .i32 a, .int .i32 b] 109)).heap.size = w.heap.size + 1 := by simp
 refine ⟨Nat.le_succ _, below_drew (((Below.refl _ _).alloc (Nat.le_refl _) _).alloc (by rw [hs]; omega) _), _, ?_, ((ownsRow_new w S hS 109 2 1 [.int .i32 a, .int .i32 b] rfl (by unfold maxLen; omega)).alloc _).drew, fun g hg => ?_⟩
 ·have h := Two.new (w.alloc (.cells #[.int .i32 a, .int .i32 b] 109)) 86 (.string (str nm)) (.slice (some ⟨w.heap.size, 0, none⟩) 1 1)
  rw [hs] at h
  exact h
 ·have : w.heap.size = g := by simpa [Value.ownBlock] using hg
  omega
theorem ClV.newB (w : World) {S : Nat} (hS : S ≤ w.heap.size) (nm : List UInt8) (a b : Int) : ClV S w w.heap.size nm [(a, b)] ((w.alloc (.cells #[.string (str nm), .slice (some ⟨w.heap.size + 1, 0, none⟩) 1 1] 86)).alloc (.cells #[.int .i32 a, .int .i32 b] 109)).drew := by
 have hs : (w.alloc (.cells #[.string (str nm), .slice (some ⟨w.heap.size + 1, 0, none⟩) 1 1] 86)).heap.size = w.heap.size + 1 := by simp
 have ho := ownsRow_new (w.alloc (.cells #[.string (str nm), .slice (some ⟨w.heap.size + 1, 0, none⟩) 1 1] 86)) S (by rw [hs]; omega) 109 2 1 [.int .i32 a, .int .i32 b] rfl (by unfold maxLen; omega)
 rw [hs] at ho
 refine ⟨Nat.le_refl _, below_drew (((Below.refl _ _).alloc (Nat.le_refl _) _).alloc (by rw [hs]; omega) _), _, ((Two.new w 86 (.string (str nm)) (.slice (some ⟨w.heap.size + 1, 0, none⟩) 1 1)).alloc _).drew, ho.drew, fun g hg => ?_⟩
 have : w.heap.size + 1 = g := by simpa [Value.ownBlock] using hg
 omega
def ElV (S : Nat) (wp : World) (E : Nat) (nm : List UInt8) (cs : List Int) (sm : Int) (wx : World) : Prop := wp.heap.size ≤ E ∧ Below wp.heap.size wp wx ∧ ∃ Ac cc, Rw wx E 39 #[.string (str nm), .slice Ac cs.length cc, .int .i64 sm] ∧ wx.ownsRow S 23 1 (.slice Ac cs.length cc) cs.length (celC cs)
theorem ElV.new (w : World) (S : Nat) (hS : S ≤ w.heap.size) (r k : Int) : ElV S w (w.heap.size + 1) [] [r] k ((w.alloc (.cells #[.int .i32 r] 23)).alloc (.cells #[.string (str []), .slice (some ⟨w.heap.size, 0, none⟩) 1 1, .int .i64 k] 39)) := by
 have hs : (w.alloc (.cells #[.int .i32 r] 23)).heap.size = w.heap.size + 1 := by simp
 refine ⟨Nat.le_succ _, ((Below.refl _ _).alloc (Nat.le_refl _) _).alloc (by rw [hs]; omega) _, _, _, ?_, (ownsRow_new w S hS 23 1 1 [.int .i32 r] rfl (by unfold maxLen; omega)).alloc _⟩
 unfold Rw
 rw [← hs]
 exact heap_alloc_new _ _
theorem Rw.frozen {w : World} {b : Nat} {t : TypeId} {xs : Array Value} (h : Rw w b t xs) (i : Nat) : w.frozen? ⟨b, i, none⟩ = false := by simp [World.frozen?, show w.heap[b]? = _ from h]
theorem Rw.alloc {w : World} {b : Nat} {t : TypeId} {xs : Array Value} (h : Rw w b t xs) (o : Obj) : Rw (w.alloc o) b t xs := (Below.heap_alloc w o b h.lt).trans h
theorem ElV.name1 {S E : Nat} {wp w : World} {nm : List UInt8} {cs : List Int} {sm : Int} (h : ElV S wp E nm cs sm w) (nm' : List UInt8) (o : Obj) :
  ElV S wp E nm' cs sm ((w.alloc o).setCell ⟨E, 0, none⟩ (.string (str nm'))) := by
 obtain ⟨hE, hb, Ac, cc, hr, ho⟩ := h
 exact ⟨hE, (hb.alloc hb.size o).setCell (p := ⟨E, 0, none⟩) hE _, Ac, cc, set_row (i := 0) (l := [_, _, _]) (hr.alloc o) _, Go.ownsRow_setCell_other (ho.alloc o) (fun he => row_ne (ho.alloc o) (hr.alloc o) (by decide) he) _⟩
theorem ElV.cells1 {S E : Nat} {wp w : World} {nm : List UInt8} {cs : List Int} {sm : Int} (h : ElV S wp E nm cs sm w) (hS : S ≤ wp.heap.size) (a b : Int) :
  ElV S wp E nm [a, b] sm ((w.alloc (.cells #[.int .i32 a, .int .i32 b] 23)).setCell ⟨E, 1, none⟩ (.slice (some ⟨w.heap.size, 0, none⟩) 2 2)) := by
 obtain ⟨hE, hb, Ac, cc, hr, -⟩ := h
 have hn := ownsRow_new w S (Nat.le_trans hS hb.size) 23 1 2 [.int .i32 a, .int .i32 b] rfl (by unfold maxLen; omega)
 refine ⟨hE, (hb.alloc hb.size _).setCell (p := ⟨E, 1, none⟩) hE _, some ⟨w.heap.size, 0, none⟩, 2, set_row (i := 1) (l := [_, _, _]) (hr.alloc _) _, Go.ownsRow_setCell_other hn (fun he => ?_) _⟩
 have : w.heap.size = E := by simpa [Value.ownBlock] using he
 have := hr.lt
 omega
def namArr : Array Value := #[.string ⟨#[99, 104]⟩, .string ⟨#[97, 98]⟩, .string ⟨#[101, 115, 122, 101, 116, 116]⟩]
theorem nam_cell (w : World) (t : TypeId) {j : Nat} (hj : j < 3) : (w.alloc (.cells namArr t)).cell? ⟨w.heap.size, j, none⟩ = some (.string (str (nmElm (j : Int)))) := by
 rw [World.cell?_alloc_new]
 rcases (by omega : j = 0 ∨ j = 1 ∨ j = 2) with rfl | rfl | rfl <;> rfl
theorem ElV.samed {S E : Nat} {wp w : World} {nm : List UInt8} {cs : List Int} {sm : Int} (h : ElV S wp E nm cs sm w) (s : Int) : ElV S wp E nm cs s (w.setCell ⟨E, 2, none⟩ (.int .i64 s)) := by
 obtain ⟨hE, hb, Ac, cc, hr, ho⟩ := h
 refine ⟨hE, hb.setCell (p := ⟨E, 2, none⟩) hE _, Ac, cc, set_row (i := 2) (l := [_, _, _]) hr _, Go.ownsRow_setCell_other ho (fun he => ?_) _⟩
 exact row_ne ho hr (by decide) he
theorem ElV.next {S E : Nat} {wp w w' : World} {nm : List UInt8} {cs : List Int} {sm : Int} (h : ElV S wp E nm cs sm w) (hb : Below w.heap.size w w') : ElV S wp E nm cs sm w' := by
 obtain ⟨hE, hb0, Ac, cc, hr, ho⟩ := h
 exact ⟨hE, hb0.trans (hb.mono hb0.size), Ac, cc, (hb.block _ hr.lt).trans hr, ownsRow_fr ho (.of_below hb) (X := fun _ => False) (fun _ _ => id)⟩
theorem GSt.mid {w0 w w' : World} {S sz n : Nat} {l : Loc} {v1 v2 v3 v4 v : Value} {t0 : TypeId} {xs : List Value} (h : GSt w0 S l v1 v2 v3 v4 w) (e2 : w.ownsRow S t0 sz v n xs) (h1 : 30 ≠ t0) (h2 : 9 ≠ t0) (hg : w.grownBy w' v.ownBlock) : LocZ w' (S + 1) v1 v2 v3 v4 ∧ Below S w0 w' := by
 have hq := h.step (grown_fr hg) (ownBlock_ge e2) (fun j hx => ⟨fun e => row_ne e2 h.r h1 (e ▸ hx), fun e => row_ne e2 h.z h1 (e ▸ hx), fun e => row_ne e2 h.nm h2 (e ▸ hx)⟩) (row_tyeq e2)
 exact ⟨hq.1, hq.2.2.2.1⟩
theorem nm_at {w0 w : World} {S : Nat} {l : Loc} {v1 v2 v3 v4 : Value} (h : GSt w0 S l v1 v2 v3 v4 w) {i : Nat} (hi : i < 3) : w.cell? ⟨S + 1 + 1, i, none⟩ = some (.string (str (nmCls i))) := by
 rcases (by omega : i = 0 ∨ i = 1 ∨ i = 2) with rfl | rfl | rfl
 ·exact h.nm.cell rfl
 ·exact h.nm.cell rfl
 ·exact h.nm.cell rfl
theorem take_end {α : Type} {l : List α} {i n k : Nat} (hl : l.length = n) (h1 : i ≤ n) (h2 : i ≤ k) (h3 : ¬ (i < n ∧ i < k)) : l.take i = l.take k := by
 rcases (by omega : i = n ∨ i = k) with h | h
 ·rw [List.take_of_length_le (by omega), List.take_of_length_le (by omega)]
 ·rw [h]
theorem take_drop_end {α : Type} {l : List α} {i n a k : Nat} (hl : l.length = n) (h0 : a ≤ i) (_ : i ≤ n ∨ i = a) (h2 : i ≤ a + k) (h3 : ¬ (i < n ∧ i < a + k)) : (l.drop a).take (i - a) = (l.drop a).take k := by
 rcases (by omega : i = a + k ∨ n ≤ i) with h | h
 ·rw [h, Nat.add_sub_cancel_left]
 ·rw [List.take_of_length_le (by rw [List.length_drop]; omega), List.take_of_length_le (by rw [List.length_drop]; omega)]
theorem take_drop_one {α : Type} {l : List α} {i a : Nat} {z : α} (h : l[i]? = some z) (h0 : a ≤ i) : (l.drop a).take (i + 1 - a) = (l.drop a).take (i - a) ++ [z] := by
 rw [show i + 1 - a = (i - a) + 1 by omega]
 exact take_one (by rw [List.getElem?_drop, show a + (i - a) = i by omega]; exact h)
theorem take_len {α : Type} {l : List α} {i a : Nat} {z : α} (h : l[i]? = some z) (h0 : a ≤ i) : ((l.drop a).take (i - a)).length = i - a := by
 have := (List.getElem?_eq_some_iff.1 h).1
 rw [List.length_take, List.length_drop]
 omega
theorem GSt.told {w0 w : World} {S : Nat} {l : Loc} {v1 v2 v3 v4 : Value} (h : GSt w0 S l v1 v2 v3 v4 w) (hS : w0.heap.size = S) (x1 x2 x3 x4 : Value) :
  LocAt ((((w.setCell ⟨S, 0, none⟩ x1).setCell ⟨S, 1, none⟩ x2).setCell ⟨S, 2, none⟩ x3).setCell ⟨S, 3, none⟩ x4) w0.heap.size v1 v2 v3 v4 l ∧ Below w0.heap.size w0 ((((w.setCell ⟨S, 0, none⟩ x1).setCell ⟨S, 1, none⟩ x2).setCell ⟨S, 2, none⟩ x3).setCell ⟨S, 3, none⟩ x4) := by
 rw [hS]
 have hf : Fr w ((((w.setCell ⟨S, 0, none⟩ x1).setCell ⟨S, 1, none⟩ x2).setCell ⟨S, 2, none⟩ x3).setCell ⟨S, 3, none⟩ x4) (fun j => j = S) := ((((Fr.of_below (X := fun j => j = S) (Below.refl _ _)).set ⟨S, 0, none⟩ x1 (fun _ => rfl)).set ⟨S, 1, none⟩ x2 (fun _ => rfl)).set ⟨S, 2, none⟩ x3 (fun _ => rfl)).set ⟨S, 3, none⟩ x4 (fun _ => rfl)
 have hty : ∀ g c z t, g = S → w.heap[g]? = some (.cells c t z) → t = 30 := by
  rintro g c z t rfl hg
  have := hg.symm.trans h.r
  simp at this
  exact this.2.1
 obtain ⟨a1, a2, a3, a4⟩ := h.loc
 have no : ∀ {e : TypeId} {sz n : Nat} {v : Value} {xs : List Value}, w.ownsRow S e sz v n xs → 30 ≠ e → ∀ g, v.ownBlock = some g → ¬ g = S := fun hw he g hg hx => by
  subst hx
  exact row_ne hw h.r he hg
 refine ⟨⟨a1.fr hf (fun g c z t hx hg => ?_), ownsRow_fr a2 hf (no a2 (by decide)), ownsRow_fr a3 hf (no a3 (by decide)), a4.fr hf (fun g c z t hx hg => ?_)⟩, (((h.b.setCell (p := ⟨S, 0, none⟩) (Nat.le_refl S) _).setCell (p := ⟨S, 1, none⟩) (Nat.le_refl S) _).setCell (p := ⟨S, 2, none⟩) (Nat.le_refl S) _).setCell (p := ⟨S, 3, none⟩) (Nat.le_refl S) _⟩
 ·rw [hty g c z t hx hg]; decide
 ·rw [hty g c z t hx hg]; decide
end Go.Proofs.YtknjhlbhbnldpaaGreatDoor.C


namespace Go.Proofs.YtknjhlbhbnldpaaGreatDoor.C
open Go.RowKit
theorem clsAt_no {cs : List Cls} {i : Nat} {k : Cls} (h : cs[i]? = some k) (hf : clsAt cs i = false) : clsB cs = false := range_all_false (List.getElem?_eq_some_iff.1 h).1 (by rw [hf]; rfl)
set_option maxRecDepth 100000 in
set_option maxHeartbeats 8000000 in
theorem right07_any (w : World) (B : Nat) (v1 v2 v3 v4 : Value) (l : Loc) (h : LocR w B v1 v2 v3 v4 l) (hB : B ≤ w.heap.size) (hfew : l.ord.length ≤ 500) :
  Calls Tryz.prog 21 #[.agg #[v1, v2, v3, v4]] w fun e w' => e = .returned (.bool (rightL l)) ∧ Below w.heap.size w w' := by
 obtain ⟨W, hW⟩ : ∃ W, W = w.alloc (.cells #[v1, v2, v3, v4] 30) := ⟨_, rfl⟩
 have hb : Below w.heap.size w W := by rw [hW]; exact (Below.refl _ _).alloc (Nat.le_refl _) _
 have hR := h.on hb hB
 have hrow : Rw W w.heap.size 30 #[v1, v2, v3, v4] := by rw [hW]; exact heap_alloc_new w _
 obtain ⟨⟨A1, c, x1, rfl, -⟩, ⟨A2, c2, rfl, -⟩, ⟨A3, c3, rfl, -⟩, ⟨A4, c4, x4, rfl, -⟩, -⟩ := h
 have HR := Lib.hid hR
 have HB := Lib.hid hb
 have HW := Lib.hid hrow
 have HBW : Hid (B ≤ W.heap.size) := Lib.hid (Nat.le_trans hB hb.size)
 have HWS : Hid (w.heap.size < W.heap.size) := Lib.hid hrow.lt
 have hnC := hR.2.2.2.2.1
 unfold maxLen at hnC
 clear hR hb hrow hB
 go_enter Tryz.func21, Tryz.ntmps21
 go_wp2
 rw [← hW]
 clear hW
 go_loopw [3] (fun iv wr => ∃ i : Nat, i ≤ l.cls.length ∧ iv = .int .i64 i ∧ Hid (Below W.heap.size W wr ∧ ∀ j, j < i → (!clsAt l.cls j) = false)) (fun iv _ => l.cls.length - (intOf iv).toNat)
 case atStart => exact ⟨0, Nat.zero_le _, rfl, Lib.hid ⟨Below.refl _ _, by intro j hj; omega⟩⟩
 case round =>
  obtain ⟨wp, hwp⟩ : ∃ wp, wp = wr := ⟨_, rfl⟩
  subst hwp
  obtain ⟨i, hin, rfl, HQ⟩ := hrel
  have f0 : wp.cell? ⟨w.heap.size, 0, none⟩ = some (.slice A1 l.cls.length c) := (HW.out.on HQ.out.1 HW.out.lt).cell rfl
  by_cases hlt : i < l.cls.length
  rotate_left
  ·obtain rfl : i = l.cls.length := by omega
   have HC : Hid (clsB l.cls = true) := Lib.hid (range_all_true HQ.out.2)
   have f1 : wp.cell? ⟨w.heap.size, 1, none⟩ = some (.slice A2 l.up.length c2) := (HW.out.on HQ.out.1 HW.out.lt).cell rfl
   have hrw := HR.out.on HQ.out.1 HBW.out
   have hm := mapped07_any wp B _ l.up hrw.2.1 hrw.2.2.2.2.2.1
   have HRW := Lib.hid hrw
   clear hrw
   cases hu : pairsB l.up with
   | false =>
    rw [hu] at hm
    have HF : Hid (rightL l = false) := Lib.hid (by unfold rightL; rw [hu, Bool.and_false, Bool.false_and, Bool.false_and])
    clear hu
    go_wp2_with fail
    with_reducible refine hm.mono ?_
    rintro e w2 ⟨rfl, hq⟩
    have HB2 : Hid (Below W.heap.size W w2) := Lib.hid (by obtain ⟨q, rfl⟩ := hq; exact below_drewN HQ.out.1 q)
    clear hq hm
    go_wp2
    go_ret
    exact ⟨by rw [HF.out]; rfl, HB.out.trans (HB2.out.mono HB.out.size)⟩
   | true =>
   rw [hu] at hm
   go_wp2_with fail
   with_reducible refine hm.mono ?_
   rintro e w2 ⟨rfl, hq⟩
   have HB2 : Hid (Below W.heap.size W w2) := Lib.hid (by obtain ⟨q, rfl⟩ := hq; exact below_drewN HQ.out.1 q)
   have hrw2 := HR.out.on HB2.out HBW.out
   have hm2 := mapped07_any w2 B _ l.lo hrw2.2.2.1 hrw2.2.2.2.2.2.2
   have f2 : w2.cell? ⟨w.heap.size, 2, none⟩ = some (.slice A3 l.lo.length c3) := (HW.out.on HB2.out HW.out.lt).cell rfl
   clear hq hm hrw2 f0 f1
   cases hl : pairsB l.lo with
   | false =>
    rw [hl] at hm2
    have HF : Hid (rightL l = false) := Lib.hid (by unfold rightL; rw [hl, Bool.and_false, Bool.false_and])
    clear hl hu
    go_wp2_with fail
    with_reducible refine hm2.mono ?_
    rintro e w3 ⟨rfl, hq⟩
    have HB3 : Hid (Below W.heap.size W w3) := Lib.hid (by obtain ⟨q, rfl⟩ := hq; exact below_drewN HB2.out q)
    clear hq hm2
    go_wp2
    go_ret
    exact ⟨by rw [HF.out]; rfl, HB.out.trans (HB3.out.mono HB.out.size)⟩
   | true =>
   rw [hl] at hm2
   have HF : Hid (rightL l = ordB l.ord) := Lib.hid (by unfold rightL; rw [HC.out, hu, hl]; rfl)
   clear hl hu
   go_wp2_with fail
   with_reducible refine hm2.mono ?_
   rintro e w3 ⟨rfl, hq⟩
   have HB3 : Hid (Below W.heap.size W w3) := Lib.hid (by obtain ⟨q, rfl⟩ := hq; exact below_drewN HB2.out q)
   have hrw3 := HR.out.on HB3.out HBW.out
   have hm3 := orders07_any w3 B _ l.ord hrw3.2.2.2.1 (Nat.le_trans HBW.out HB3.out.size) hfew
   have f3 : w3.cell? ⟨w.heap.size, 3, none⟩ = some (.slice A4 l.ord.length c4) := (HW.out.on HB3.out HW.out.lt).cell rfl
   clear hq hm2 hrw3 f2
   go_wp2_with fail
   with_reducible refine hm3.mono ?_
   rintro e w4 ⟨rfl, hb4⟩
   have HB4 : Hid (Below W.heap.size W w4) := Lib.hid (HB3.out.trans (hb4.mono HB3.out.size))
   clear hb4 hm3
   go_wp2
   go_ret
   exact ⟨by rw [HF.out]; rfl, HB.out.trans (HB4.out.mono HB.out.size)⟩
  obtain ⟨kc, hkc⟩ : ∃ kc, l.cls[i]? = some kc := ⟨_, List.getElem?_eq_getElem hlt⟩
  have hrw := HR.out.on HQ.out.1 HBW.out
  obtain ⟨ad, c', Ar, cr, hA, hbad, u0, u1, hpr, hnr⟩ := clsR_at hrw.1 hkc
  have hnm : kc.name.length ≤ maxLen := by
   obtain ⟨_, _, _, _, _, hel⟩ := hrw.1
   obtain ⟨_, _, _, h3, _⟩ := hel i kc hkc
   exact h3
  injection hA with hA _ hC'
  subst hA hC'
  have hcl := clsOk_at hkc
  obtain ⟨nm, rs⟩ := kc
  dsimp only at u0 u1 hpr hnr hnm
  unfold clsOk at hcl
  dsimp only at hcl
  obtain ⟨n, hn⟩ : ∃ n, n = rs.length := ⟨_, rfl⟩
  rw [← hn] at u1 hpr hnr
  have HN := Lib.hid hn
  have HCL := Lib.hid hcl
  have HKC := Lib.hid hkc
  have i0 : (0 : Int) ≤ (i : Int) := by omega
  have i1 : (i : Int) < (l.cls.length : Int) := by omega
  obtain ⟨W1, hW1⟩ : ∃ W1, W1 = wp.alloc (.cells #[.string (str nm), .slice Ar n cr] 86) := ⟨_, rfl⟩
  have hb1 : Below wp.heap.size wp W1 := by rw [hW1]; exact (Below.refl _ _).alloc (Nat.le_refl _) _
  have hX : Rw W1 wp.heap.size 86 #[.string (str nm), .slice Ar n cr] := by rw [hW1]; exact heap_alloc_new wp _
  have HX := Lib.hid hX
  have HB1 : Hid (Below W.heap.size W W1) := Lib.hid (HQ.out.1.trans (hb1.mono HQ.out.1.size))
  have hBp : B ≤ wp.heap.size := Nat.le_trans HBW.out HQ.out.1.size
  have HPR : Hid (PrsR W1 B (.slice Ar n cr) rs) := Lib.hid (hpr.on hb1 hBp)
  have HBL : Hid (ad.block < B) := Lib.hid hbad
  have HBW1 : Hid (B ≤ W1.heap.size) := Lib.hid (Nat.le_trans hBp hb1.size)
  have HSZ1 : Hid (wp.heap.size < W1.heap.size) := Lib.hid hX.lt
  have hwd0 := fun (b : Bool) (hb : wordlyB nm = b) => wordly07_is nm W1 hnm hb
  have z0 : W1.cell? ⟨wp.heap.size, 0, none⟩ = some (.string (str nm)) := hX.cell rfl
  have z1 : W1.cell? ⟨wp.heap.size, 1, none⟩ = some (.slice Ar n cr) := hX.cell rfl
  unfold maxLen at hnr
  clear hrw hpr hkc hcl hn hb1 hX hbad hBp hnm
  go_upto_region 5 with fail
  rw [← hW1]
  clear hW1 u0 u1
  cases hwd : wordlyB nm with
  | false =>
   have hw := hwd0 _ hwd
   have HF : Hid (rightL l = false) := Lib.hid (by unfold rightL; rw [clsAt_no HKC.out (by rw [HCL.out, hwd, Bool.false_and, Bool.false_and, Bool.false_and])]; rfl)
   clear hwd hwd0
   go_wp2_with fail
   with_reducible refine hw.mono ?_
   rintro e w2 ⟨rfl, rfl⟩
   go_wp2
   go_ret
   exact ⟨by rw [HF.out]; rfl, HB.out.trans (HB1.out.mono HB.out.size)⟩
  | true =>
  have hw := hwd0 _ hwd
  have HWD := Lib.hid hwd
  clear hwd hwd0
  by_cases hn0 : n = 0
  ·have HF : Hid (rightL l = false) := Lib.hid (by
    have he : rs = [] := List.eq_nil_of_length_eq_zero (by have := HN.out; omega)
    unfold rightL
    rw [clsAt_no HKC.out (by rw [HCL.out, he]; simp)]
    rfl)
   subst hn0
   go_wp2_with fail
   with_reducible refine hw.mono ?_
   rintro e w2 ⟨rfl, rfl⟩
   go_wp2
   go_ret
   exact ⟨by rw [HF.out]; rfl, HB.out.trans (HB1.out.mono HB.out.size)⟩
  have en : ¬ (n : Int) = 0 := by omega
  have en2 : ((n : Int) == 0) = false := by simpa using en
  go_wp2_with fail
  with_reducible refine hw.mono ?_
  rintro e w2 ⟨rfl, hwe⟩
  have hwe := hwe.symm
  subst hwe
  clear hw
  go_wp2
  clear en en2 z0 z1
  go_loopw [5] (fun jv wi => ∃ j : Nat, j ≤ n ∧ jv = .int .i64 j ∧ Hid (Below W1.heap.size W1 wi ∧ (rs.take j).all rangeB = true)) (fun jv _ => n - (intOf jv).toNat)
  case atStart => exact ⟨0, Nat.zero_le _, rfl, Lib.hid ⟨Below.refl _ _, rfl⟩⟩
  case round =>
   obtain ⟨wi, hwi⟩ : ∃ wi, wi = wr := ⟨_, rfl⟩
   subst hwi
   obtain ⟨j, hjn, rfl, HQ2⟩ := hrel
   have z1 : wi.cell? ⟨wp.heap.size, 1, none⟩ = some (.slice Ar n cr) := (HX.out.on HQ2.out.1 HSZ1.out).cell rfl
   by_cases hj : j < n
   ·obtain ⟨r, hr⟩ : ∃ r, rs[j]? = some r := ⟨_, List.getElem?_eq_getElem (by have := HN.out; omega)⟩
    obtain ⟨_, _, hg, hsi⟩ := HPR.out.on HQ2.out.1 HBW1.out
    injection hg with hg hg2 hg3
    clear hg2
    subst hg hg3
    obtain ⟨rd, rfl, hrb, y0, y1⟩ := prsR_at hsi hr
    have HR2 := Lib.hid hr
    obtain ⟨a, b⟩ := r
    dsimp only at y0 y1
    have j0 : (0 : Int) ≤ (j : Int) := by omega
    have j1 : (j : Int) < (n : Int) := by omega
    obtain ⟨W2, hW2⟩ : ∃ W2, W2 = wi.alloc (.cells #[.int .i32 a, .int .i32 b] 109) := ⟨_, rfl⟩
    have HB2 : Hid (Below W1.heap.size W1 W2) := Lib.hid (by rw [hW2]; exact HQ2.out.1.alloc HQ2.out.1.size _)
    have hY : Rw W2 wi.heap.size 109 #[.int .i32 a, .int .i32 b] := by rw [hW2]; exact heap_alloc_new wi _
    have x0 : W2.cell? ⟨wi.heap.size, 0, none⟩ = some (.int .i32 a) := hY.cell rfl
    have x1 : W2.cell? ⟨wi.heap.size, 1, none⟩ = some (.int .i32 b) := hY.cell rfl
    have hsc := fun (x : Int) (r : Bool) (hx : scalB x = r) => scalar07_is x W2 hx
    have HFF : Hid (rangeB (a, b) = false → rightL l = false) := Lib.hid (fun hx => by
     unfold rightL
     rw [clsAt_no HKC.out (by rw [HCL.out, all_fails HR2.out hx, Bool.and_false])]
     rfl)
    clear hr hsi hrb hY
    go_upto_region 11 with fail
    rw [← hW2]
    clear hW2 y0 y1
    cases ha : scalB a with
    | false =>
     have hsa := hsc a _ ha
     have HF : Hid (rightL l = false) := Lib.hid (HFF.out (by unfold rangeB; rw [ha, Bool.false_and, Bool.false_and]))
     clear ha hsc
     go_wp2_with fail
     with_reducible refine hsa.mono ?_
     rintro e w3 ⟨rfl, rfl⟩
     go_wp2
     go_ret
     exact ⟨by rw [HF.out]; rfl, HB.out.trans ((HB1.out.trans (HB2.out.mono HB1.out.size)).mono HB.out.size)⟩
    | true =>
    have hsa := hsc a _ ha
    cases hbb : scalB b with
    | false =>
     have hsb := hsc b _ hbb
     have HF : Hid (rightL l = false) := Lib.hid (HFF.out (by unfold rangeB; rw [hbb, Bool.and_false, Bool.false_and]))
     clear ha hbb hsc
     go_wp2_with fail
     with_reducible refine hsa.mono ?_
     rintro e w3 ⟨rfl, rfl⟩
     go_wp2_with fail
     with_reducible refine hsb.mono ?_
     rintro e w3 ⟨rfl, rfl⟩
     go_wp2
     go_ret
     exact ⟨by rw [HF.out]; rfl, HB.out.trans ((HB1.out.trans (HB2.out.mono HB1.out.size)).mono HB.out.size)⟩
    | true =>
    have hsb := hsc b _ hbb
    by_cases hba : b < a
    ·have HF : Hid (rightL l = false) := Lib.hid (HFF.out (by unfold rangeB; rw [decide_eq_false (by simp only; omega), Bool.and_false]))
     clear ha hbb hsc
     go_wp2_with fail
     with_reducible refine hsa.mono ?_
     rintro e w3 ⟨rfl, rfl⟩
     go_wp2_with fail
     with_reducible refine hsb.mono ?_
     rintro e w3 ⟨rfl, rfl⟩
     go_wp2
     go_ret
     exact ⟨by rw [HF.out]; rfl, HB.out.trans ((HB1.out.trans (HB2.out.mono HB1.out.size)).mono HB.out.size)⟩
    ·have HT : Hid ((rs.take (j + 1)).all rangeB = true) := Lib.hid (all_next HR2.out HQ2.out.2 (by unfold rangeB; rw [ha, hbb, decide_eq_true (by simp only; omega)]; rfl))
     clear ha hbb hsc
     go_wp2_with fail
     with_reducible refine hsa.mono ?_
     rintro e w3 ⟨rfl, rfl⟩
     go_wp2_with fail
     with_reducible refine hsb.mono ?_
     rintro e w3 ⟨rfl, rfl⟩
     go_wp2
     go_roundw
     case rel => exact ⟨j + 1, by omega, by go_num, Lib.hid ⟨HB2.out, HT.out⟩⟩
     case measure => simp [intOf]; omega
   ·obtain rfl : j = n := by omega
    have HAL : Hid (rs.all rangeB = true) := Lib.hid (by
     have := HQ2.out.2
     rwa [List.take_of_length_le (by have := HN.out; omega)] at this)
    have HCL2 : Hid (clsAt l.cls i = !(((l.cls.take i).map Cls.name).contains nm)) := Lib.hid (by
     rw [HCL.out, HWD.out, HAL.out, show rs.isEmpty = false by
      cases rs with
      | nil => exact absurd HN.out (by simpa using hn0)
      | cons _ _ => rfl, Bool.true_and, Bool.and_true, Bool.not_false, Bool.and_true])
    have HBW2 := Lib.hid HQ2.out.1
    go_wp2
    go_loopw [7] (fun kv wi => ∃ k : Nat, k ≤ i ∧ kv = .int .i64 k ∧ Hid (Below W1.heap.size W1 wi ∧ ∀ x ∈ l.cls.take k, x.name ≠ nm)) (fun kv _ => i - (intOf kv).toNat)
    case atStart => exact ⟨0, Nat.zero_le _, rfl, Lib.hid ⟨HBW2.out, by simp⟩⟩
    case round =>
     obtain ⟨wi, hwi⟩ : ∃ wi, wi = wr := ⟨_, rfl⟩
     subst hwi
     obtain ⟨k, hki, rfl, HQ3⟩ := hrel
     have HBk : Hid (Below W.heap.size W wi) := Lib.hid (HB1.out.trans (HQ3.out.1.mono HB1.out.size))
     by_cases hk : k < i
     ·obtain ⟨ek, hek⟩ : ∃ ek, l.cls[k]? = some ek := ⟨_, List.getElem?_eq_getElem (by omega)⟩
      obtain ⟨ad', c', _, _, hA', _, y0, _, _, _⟩ := clsR_at (HR.out.on HBk.out HBW.out).1 hek
      injection hA' with hA' _ hC'
      injection hA' with hA'
      subst hA' hC'
      have f0 : wi.cell? ⟨w.heap.size, 0, none⟩ = some (.slice (some ad) l.cls.length c) := (HW.out.on HBk.out HW.out.lt).cell rfl
      have x0 : wi.cell? ⟨wp.heap.size, 0, none⟩ = some (.string (str nm)) := (HX.out.on HQ3.out.1 HSZ1.out).cell rfl
      obtain ⟨nk, rk⟩ := ek
      dsimp only at y0
      have HEK := Lib.hid hek
      have k0 : (0 : Int) ≤ (k : Int) := by omega
      have k1 : (k : Int) < (l.cls.length : Int) := by omega
      have k2 : (k : Int) < (i : Int) := by omega
      clear hek
      by_cases hnk : nk = nm
      ·have HF : Hid (rightL l = false) := Lib.hid (by
        unfold rightL
        rw [clsAt_no HKC.out (by
         rw [HCL2.out, show ((l.cls.take i).map Cls.name).contains nm = true from List.contains_iff_mem.2 (List.mem_map.2 ⟨⟨nk, rk⟩, List.mem_of_getElem? (i := k) (by rw [List.getElem?_take, if_pos hk]; exact HEK.out), hnk⟩)]
         rfl)]
        rfl)
       subst hnk
       go_wp2
       refine wp_region_held (S := fun W' : World => W'.cell? ⟨w.heap.size, 0, none⟩ = some (.slice (some ad) l.cls.length c) ∧ W'.cell? (ad.add (k * 2)) = some (.string (str nk)) ∧ W'.cell? ⟨wp.heap.size, 0, none⟩ = some (.string (str nk))) (by kernel_rfl) ?_
       change wpAnyH _ _ _ _ _ _ _ _ wi.drew
       have hS1 : (fun W' : World => W'.cell? ⟨w.heap.size, 0, none⟩ = some (.slice (some ad) l.cls.length c) ∧ W'.cell? (ad.add (k * 2)) = some (.string (str nk)) ∧ W'.cell? ⟨wp.heap.size, 0, none⟩ = some (.string (str nk))) wi.drew := ⟨f0, y0, x0⟩
       iterate 9 (refine wpH rfl rfl ?_; try simp only [Act.put, g1, g2, g3, g4, g5, g6])
       refine wpAnyH_done (by kernel_rfl) ?_ _
       have HQ4 : Hid (Below W1.heap.size W1 wi.drew) := Lib.hid (below_drew HQ3.out.1)
       clear hS1 f0 y0 x0
       go_wp2
       go_ret
       exact ⟨by rw [HF.out]; rfl, HB.out.trans ((HB1.out.trans (HQ4.out.mono HB1.out.size)).mono HB.out.size)⟩
      ·have e86 := str_ne0 hnk
       have HNX : Hid (∀ x ∈ l.cls.take (k + 1), x.name ≠ nm) := Lib.hid (by
        rw [take_one HEK.out]
        intro x hx
        rcases List.mem_append.1 hx with hx | hx
        ·exact HQ3.out.2 x hx
        ·rw [List.mem_singleton] at hx
         subst hx
         exact hnk)
       clear hnk
       go_wp2
       refine wp_region_held (S := fun W' : World => W'.cell? ⟨w.heap.size, 0, none⟩ = some (.slice (some ad) l.cls.length c) ∧ W'.cell? (ad.add (k * 2)) = some (.string (str nk)) ∧ W'.cell? ⟨wp.heap.size, 0, none⟩ = some (.string (str nm))) (by kernel_rfl) ?_
       change wpAnyH _ _ _ _ _ _ _ _ wi.drew
       have hS1 : (fun W' : World => W'.cell? ⟨w.heap.size, 0, none⟩ = some (.slice (some ad) l.cls.length c) ∧ W'.cell? (ad.add (k * 2)) = some (.string (str nk)) ∧ W'.cell? ⟨wp.heap.size, 0, none⟩ = some (.string (str nm))) wi.drew := ⟨f0, y0, x0⟩
       iterate 9 (refine wpH rfl rfl ?_; try simp only [Act.put, g1, g2, g3, g4, g5, g6])
       refine wpAnyH_done (by kernel_rfl) ?_ _
       have HQ4 : Hid (Below W1.heap.size W1 wi.drew) := Lib.hid (below_drew HQ3.out.1)
       clear hS1 f0 y0 x0
       go_wp2
       go_roundw
       case rel => exact ⟨k + 1, by omega, by go_num, Lib.hid ⟨HQ4.out, HNX.out⟩⟩
       case measure => simp [intOf]; omega
     ·obtain rfl : k = i := by omega
      have HT : Hid ((!clsAt l.cls k) = false) := Lib.hid (by
       rw [HCL2.out, show ((l.cls.take k).map Cls.name).contains nm = false from by
        rw [← Bool.not_eq_true, List.contains_iff_mem]
        intro hm
        obtain ⟨x, hx, he⟩ := List.mem_map.1 hm
        exact HQ3.out.2 x hx he]
       rfl)
      go_wp2
      go_roundw
      case rel => exact ⟨k + 1, by omega, by go_num, Lib.hid ⟨HBk.out, fun j hj => by
       rcases (by omega : j < k ∨ j = k) with h1 | h1
       ·exact HQ.out.2 j h1
       ·rw [h1]; exact HT.out⟩⟩
      case measure => simp [intOf]; omega
end Go.Proofs.YtknjhlbhbnldpaaGreatDoor.C
