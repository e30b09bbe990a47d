/-
  A bracket's reader: elements are laid behind all others. Condition: no more of them than 10000000.
-/
import Derived.Test.YthgiikhkcpbpfaaGreatDoorQBaE
import Derived.Test.YthgiikhkcpbpfaaGreatDoorB17
import Derived.Test.YthgiikhkcpbpfaaGreatDoorB24
import Derived.Test.YthgiikhkcpbpfaaGreatDoorB27
namespace Go.Proofs.YthgiikhkcpbpfaaGreatDoor.C
open Go.RowKit

section
variable {w w2 : World} {q : BSit} {m k : Nat} {hi : Value → Value → Prop} {s : BSet} {vR vT v' : Value}
structure RdX (w : World) (q : BSit) (m : Nat) (k : Nat) (s : BSet) (vR vT : Value) : Prop where
 h : RdB w q m (fun _ _ => True) k s
 row : Row w q.R 60 (rdRow q.Al q.l.length q.cl k s.no vR vT q.T)
 r : w.ownsRow (q.R + 1) 46 2 vR s.rs.length (prsC s.rs)
 t : RowsAt w (q.R + 1) vT s.ts
theorem RdB.open_ (h : RdB w q m hi k s) : ∃ vR vT, RdX w q m k s vR vT ∧ hi vR vT := by
 obtain ⟨vR, vT, r1, r2, r3, r4⟩ := h.row
 exact ⟨vR, vT, ⟨h.imp fun _ _ _ => trivial, r1, r2, r3⟩, r4⟩
theorem RdX.below (h : RdX w q m k s vR vT) (hb : Below w.heap.size w w2) : RdX w2 q m k s vR vT := ⟨h.h.below hb, h.row.below hb, own_next h.r hb, h.t.next hb⟩
theorem RdX.close (h : RdX w q m k s vR vT) (hh : hi vR vT) : RdB w q m hi k s := ⟨⟨vR, vT, h.row, h.r, h.t, hh⟩, h.h.le, h.h.lc, h.h.cells, h.h.ac, h.h.tr, h.h.tab, h.h.gl, h.h.gt⟩
theorem RowsAt.frB {w w' : World} {lo : Nat} {v : Value} {rs : List (List Int)} {X : Nat → Prop} (h : RowsAt w lo v rs) (hf : Fr w w' X) (h1 : ∀ g, v.ownBlock = some g → ¬ X g) (h2 : ∀ g c z t, X g → w.heap[g]? = some (.cells c t z) → t ≠ 30) : RowsAt w' lo v rs := by
 obtain ⟨vs, a1, a2, a3⟩ := h
 refine ⟨vs, a1, ownsRow_fr a2 hf h1, fun i r u a b => ownsRow_fr (a3 i r u a b) hf fun g hg hX => ?_⟩
 obtain ⟨c, hc⟩ := ownsRow_ty (a3 i r u a b) hg
 exact h2 g _ _ _ hX hc rfl
theorem RdX.kept (h : RdX w q m k s vR vT) {X : Nat → Prop} (hf : Fr w w2 X) (hX : ∀ g, X g → g = q.R ∨ (q.R + 1 ≤ g ∧ ∃ c t z, w.heap[g]? = some (.cells c t z) ∧ t ≠ 3)) : RI .i32 w2 q.R q.Al q.l.length q.l ∧ TabU q.F w2 q.T q.L m ∧ Gl w2 := by
 have htr := h.h.tr
 refine ⟨h.h.cells.fr hf (Nat.le_of_lt h.h.rlt) (fun h0 ad ha hx => ?_), ?_, h.h.gl.frq hf fun hx => ?_⟩
 ·obtain ⟨ad', e, hb, _⟩ := h.h.cells.2 h0
  rw [ha] at e
  injection e with e
  subst e
  rcases hX _ hx with e | ⟨e, _⟩ <;> omega
 ·obtain ⟨n, a, b, c⟩ := h.h.tab
  refine ⟨n, a, b, c.frK hf fun g hx _ => ?_⟩
  rcases hX g hx with rfl | ⟨e, c, t, z, e1, e2⟩
  ·exact ⟨htr, _, _, _, h.row, .inl (by decide)⟩
  ·exact ⟨by omega, c, t, z, e1, .inl e2⟩
 ·have := h.h.gt
  rcases hX _ hx with e | ⟨e, _⟩ <;> omega
theorem prsC_append (a b : List (Int × Int)) : prsC (a ++ b) = prsC a ++ prsC b := by simp [prsC]
theorem own_ge {w : World} {lo sz n : Nat} {e : TypeId} {v : Value} {xs : List Value} (h : w.ownsRow lo e sz v n xs) {g : Nat} (hg : v.ownBlock = some g) : lo ≤ g := (h.lt g hg).1
theorem RdX.addR (h : RdX w q m k s vR vT) (rs' : List (Int × Int)) {n : Nat} (hn : n = s.rs.length + rs'.length) (hg : w.grownBy w2 vR.ownBlock) (ho : w2.ownsRow (q.R + 1) 46 2 v' n (prsC s.rs ++ prsC rs')) :
  RdX (w2.setCell ⟨q.R, 3, none⟩ v') q m k ⟨s.no, s.rs ++ rs', s.ts⟩ v' vT ∧ Fr w (w2.setCell ⟨q.R, 3, none⟩ v') (fun g => g = q.R ∨ vR.ownBlock = some g) := by
 have h2 : Fr w w2 (fun g => vR.ownBlock = some g) := Fr.of_grown hg
 have h3 : Fr w2 (w2.setCell ⟨q.R, 3, none⟩ v') (· = q.R) := (Fr.refl w2 _).set _ _ fun _ => rfl
 have hf : Fr w (w2.setCell ⟨q.R, 3, none⟩ v') (fun g => g = q.R ∨ vR.ownBlock = some g) := (h2.mono fun _ _ e => .inr e).trans (h3.mono fun _ _ e => .inl e)
 have hty : ∀ g, (g = q.R ∨ vR.ownBlock = some g) → g = q.R ∨ (q.R + 1 ≤ g ∧ ∃ c t z, w.heap[g]? = some (.cells c t z) ∧ t ≠ 3) := by
  rintro g (rfl | e)
  ·exact .inl rfl
  ·obtain ⟨c, hc⟩ := ownsRow_ty h.r e
   exact .inr ⟨own_ge h.r e, c, _, _, hc, by decide⟩
 obtain ⟨k1, k2, k3⟩ := h.kept hf hty
 have hrow : Row (w2.setCell ⟨q.R, 3, none⟩ v') q.R 60 (rdRow q.Al q.l.length q.cl k s.no v' vT q.T) := (h.row.fr h2 (fun e => by have := own_ge h.r e; omega)).set 3 v'
 have hrs : (w2.setCell ⟨q.R, 3, none⟩ v').ownsRow (q.R + 1) 46 2 v' (s.rs ++ rs').length (prsC (s.rs ++ rs')) := by
  have := ownsRow_fr ho h3 (fun g e x => by have := own_ge ho e; omega)
  rw [List.length_append, ← hn, prsC_append]
  exact this
 have hts : RowsAt (w2.setCell ⟨q.R, 3, none⟩ v') (q.R + 1) vT s.ts := h.t.frT hf (by
  rintro g c z t (rfl | e) hc
  ·have := h.row.symm.trans hc
   injection this with this
   injection this with _ this
   subst this
   exact ⟨by decide, by decide⟩
  ·obtain ⟨c2, hc2⟩ := ownsRow_ty h.r e
   have := hc2.symm.trans hc
   injection this with this
   injection this with _ this
   subst this
   exact ⟨by decide, by decide⟩)
 exact ⟨⟨⟨⟨v', vT, hrow, hrs, hts, trivial⟩, h.h.le, h.h.lc, k1, h.h.ac, h.h.tr, k2, k3, h.h.gt⟩, hrow, hrs, hts⟩, hf⟩
theorem RdX.addT (h : RdX w q m k s vR vT) (r : List Int) {u : Value} {n : Nat} {vs : List Value} (h1 : vs.length = s.ts.length) (ht : w.ownsRow (q.R + 1) 39 1 vT n vs) (h3 : ∀ (i : Nat) (r : List Int) (u : Value), s.ts[i]? = some r → vs[i]? = some u → w.ownsRow (q.R + 1) 30 1 u r.length (celC r))
  (hx : w.ownsRow (q.R + 1) 30 1 u r.length (celC r)) (hn : n = s.ts.length) (hg : w.grownBy w2 vT.ownBlock) (ho : w2.ownsRow (q.R + 1) 39 1 v' (n + 1) (vs ++ [u])) :
  RdX (w2.setCell ⟨q.R, 4, none⟩ v') q m k ⟨s.no, s.rs, s.ts ++ [r]⟩ vR v' ∧ Fr w (w2.setCell ⟨q.R, 4, none⟩ v') (fun g => g = q.R ∨ vT.ownBlock = some g) := by
 have h2 : Fr w w2 (fun g => vT.ownBlock = some g) := Fr.of_grown hg
 have h4 : Fr w2 (w2.setCell ⟨q.R, 4, none⟩ v') (· = q.R) := (Fr.refl w2 _).set _ _ fun _ => rfl
 have hf : Fr w (w2.setCell ⟨q.R, 4, none⟩ v') (fun g => g = q.R ∨ vT.ownBlock = some g) := (h2.mono fun _ _ e => .inr e).trans (h4.mono fun _ _ e => .inl e)
 have hty : ∀ g, (g = q.R ∨ vT.ownBlock = some g) → g = q.R ∨ (q.R + 1 ≤ g ∧ ∃ c t z, w.heap[g]? = some (.cells c t z) ∧ t ≠ 3) := by
  rintro g (rfl | e)
  ·exact .inl rfl
  ·obtain ⟨c, hc⟩ := ownsRow_ty ht e
   exact .inr ⟨own_ge ht e, c, _, _, hc, by decide⟩
 obtain ⟨k1, k2, k3⟩ := h.kept hf hty
 have hrow : Row (w2.setCell ⟨q.R, 4, none⟩ v') q.R 60 (rdRow q.Al q.l.length q.cl k s.no vR v' q.T) := (h.row.fr h2 (fun e => by have := own_ge ht e; omega)).set 4 v'
 have hrs : (w2.setCell ⟨q.R, 4, none⟩ v').ownsRow (q.R + 1) 46 2 vR s.rs.length (prsC s.rs) := ownsRow_fr h.r hf (by
  rintro g e (x | x)
  ·have := own_ge h.r e; omega
  ·obtain ⟨c1, hc1⟩ := ownsRow_ty h.r e
   obtain ⟨c2, hc2⟩ := ownsRow_ty ht x
   have := hc1.symm.trans hc2
   injection this with this
   injection this with _ this
   exact absurd this (by decide))
 have hts : RowsAt (w2.setCell ⟨q.R, 4, none⟩ v') (q.R + 1) v' (s.ts ++ [r]) := by
  have a := RowsAt.snoc r h1 ht h3 hx hg hn ho
  exact a.frX h4 fun g hg e => by omega
 exact ⟨⟨⟨⟨vR, v', hrow, hrs, hts, trivial⟩, h.h.le, h.h.lc, k1, h.h.ac, h.h.tr, k2, k3, h.h.gt⟩, hrow, hrs, hts⟩, hf⟩
theorem RdX.cell3 (h : RdX w q m k s vR vT) : w.cell? ⟨q.R, 3, none⟩ = some vR := h.row.cell rfl
theorem RdX.cell4 (h : RdX w q m k s vR vT) : w.cell? ⟨q.R, 4, none⟩ = some vT := h.row.cell rfl
end
theorem putL_snoc (s : BSet) (rows : List (List Int)) (r : List Int) : putL s (rows ++ [r]) = put1 (putL s rows) r := by unfold putL; rw [List.foldl_append]; rfl
theorem put1_one (s : BSet) (c : Int) : put1 s [c] = ⟨s.no, s.rs ++ [(c, c)], s.ts⟩ := rfl
theorem put1_text (s : BSet) {r : List Int} (h : r.length ≠ 1) : put1 s r = ⟨s.no, s.rs, s.ts ++ [r]⟩ := by
 match r, h with
 | [], _ => rfl
 | [c], h => exact absurd rfl h
 | _ :: _ :: _, _ => rfl
theorem put1_len (s : BSet) (r : List Int) : (put1 s r).rs.length ≤ s.rs.length + 1 ∧ (put1 s r).ts.length ≤ s.ts.length + 1 := by
 by_cases h : r.length = 1
 ·match r, h with
  | [c], _ => rw [put1_one]; simp
 ·rw [put1_text s h]; simp
theorem putL_len : ∀ (rows : List (List Int)) (s : BSet), (putL s rows).rs.length ≤ s.rs.length + rows.length ∧ (putL s rows).ts.length ≤ s.ts.length + rows.length
 | [], s => ⟨Nat.le_refl _, Nat.le_refl _⟩
 | r :: rows, s => by
  have h1 := put1_len s r
  have h2 := putL_len rows (put1 s r)
  have e : putL s (r :: rows) = putL (put1 s r) rows := rfl
  rw [e, List.length_cons]
  omega
theorem prsC_one (a b : Int) : prsC [(a, b)] = [.int .i32 a, .int .i32 b] := rfl
theorem grown_ge {v : Value} {q : BSit} (hX : ∀ g, v.ownBlock = some g → q.R + 1 ≤ g) : ∀ g, (g = q.R ∨ v.ownBlock = some g) → BY q g := by
 rintro g (rfl | e)
 ·exact .inr (Nat.le_refl _)
 ·exact .inr (by have := hX g e; omega)
end Go.Proofs.YthgiikhkcpbpfaaGreatDoor.C
