/-
  A bracket's reader in memory; what its methods leave. No condition.
-/
import Derived.Test.YthgiikhkcpbpfaaGreatDoorQBaA
import Derived.Test.YthgiikhkcpbpfaaGreatDoorB17
import Derived.Test.YthgiikhkcpbpfaaGreatDoorB24
import Derived.Test.YthgiikhkcpbpfaaGreatDoorB27
namespace Go.Proofs.YthgiikhkcpbpfaaGreatDoor.C
open Go.RowKit

def rdRow (Al : Option Addr) (n cl k : Nat) (no : Bool) (vR vT : Value) (T : Nat) : List Value := [.slice Al n cl, .int .i64 (k : Int), .bool no, vR, vT, .pointer (some ⟨T, 0, none⟩)]
def Odd (F : Nat) (w : World) (T : Nat) (X : Nat → Prop) : Prop := ∀ b, X b → b < w.heap.size → T < b ∧ ∃ c t z, w.heap[b]? = some (.cells c t z) ∧ (t ≠ 3 ∨ b = F)
theorem TabG.frK {F : Nat} {w w' : World} {T : Nat} {L : Loc} {n : Int} {X : Nat → Prop} (h : TabG F w T L n) (hf : Fr w w' X) (hX : Odd F w T X) : TabG F w' T L n := by
 have hT := h.lt
 obtain ⟨l, v1, v2, v3, v4, hr, h1, h2, h3, h4, h5, h6, h7, k1, k2, k3, k4, k5, k6⟩ := h
 have hb : Below T w w' := ⟨hf.os, hf.tape, hf.output, hf.size, fun i hi => hf.block i (by omega) fun hx => by have := (hX i hx (by omega)).1; omega⟩
 have hm : ∀ {M : Nat} {kd : TypeDesc} {ks : List (Value × Value)}, MapIs w M kd ks → MapIs w' M kd ks := fun hM => hM.fr hf fun hx => by
  obtain ⟨es, c0, e1, _⟩ := hM
  obtain ⟨_, c, t, z, e2, _⟩ := hX _ hx (Array.getElem?_eq_some_iff.1 e1).1
  rw [e1] at e2
  cases e2
 refine ⟨l, v1, v2, v3, v4, hr.fr hf (fun hx => by have := (hX T hx hT).1; omega), h1, h2, h3, h4, h5, h6, h7.on hb (Nat.le_refl _), k1.mono fun M h => ⟨h.1, hm h.2⟩, k2.mono fun M h => ?_, ⟨Nat.lt_of_lt_of_le k3.1 hf.size, k3.2.mono fun M h => ?_⟩, k4.mono fun M h => ?_, k5.mono fun M h => ⟨h.1, hm h.2⟩, k6.mono fun M h => ⟨h.1, hm h.2⟩⟩
 ·obtain ⟨h0, vs, g1, g2, g3⟩ := h
  refine ⟨h0, vs, g1, hm g2, fun i e u a b => ?_⟩
  obtain ⟨Ac, cc, j1, j2⟩ := g3 i e u a b
  exact ⟨Ac, cc, j1, j2.keep fun p hp => hb.cell (p := p) hp⟩
 ·obtain ⟨h0, kv, g1, g2, g3, g4⟩ := h
  refine ⟨h0, kv, hm g1, g2, fun x hx => ownsRow_fr (g3 x hx) hf fun g hg hxg => ?_, g4⟩
  obtain ⟨c, hc⟩ := ownsRow_ty (g3 x hx) hg
  obtain ⟨_, c2, t, z, e2, ht⟩ := hX g hxg (Array.getElem?_eq_some_iff.1 hc).1
  rw [hc] at e2
  injection e2 with e2
  injection e2 with _ e3
  exact ht.elim (fun h => h e3.symm) (g4 x hx g hg)
 ·obtain ⟨h0, vs, g1, g2, g3⟩ := h
  exact ⟨h0, vs, g1, hm g2, fun i k u a b => (g3 i k u a b).on hb (Nat.le_refl _)⟩
def TabU (F : Nat) (w : World) (T : Nat) (L : Loc) (m : Nat) : Prop := ∃ n : Int, 0 ≤ n ∧ n ≤ m ∧ TabG F w T L n
theorem TabU.up {F : Nat} {w : World} {T m m' : Nat} {L : Loc} (h : TabU F w T L m) (hm : m ≤ m') : TabU F w T L m' := by obtain ⟨n, a, b, c⟩ := h; exact ⟨n, a, by omega, c⟩
theorem TabU.lt {F : Nat} {w : World} {T m : Nat} {L : Loc} (h : TabU F w T L m) : T < w.heap.size := by obtain ⟨_, _, _, h⟩ := h; exact h.lt
theorem TabU.keep {F : Nat} {w w' : World} {T m : Nat} {L : Loc} (h : TabU F w T L m) (hb : Below w.heap.size w w') : TabU F w' T L m := by obtain ⟨n, a, b, c⟩ := h; exact ⟨n, a, b, c.keep hb⟩
structure BSit where
 R : Nat
 T : Nat
 Al : Option Addr
 cl : Nat
 l : List Int
 L : Loc
 F : Nat
structure RdB (w : World) (q : BSit) (m : Nat) (hi : Value → Value → Prop) (k : Nat) (s : BSet) : Prop where
 row : ∃ vR vT, Row w q.R 60 (rdRow q.Al q.l.length q.cl k s.no vR vT q.T) ∧ w.ownsRow (q.R + 1) 46 2 vR s.rs.length (prsC s.rs) ∧ RowsAt w (q.R + 1) vT s.ts ∧ hi vR vT
 le : k ≤ q.l.length
 lc : q.l.length ≤ q.cl
 cells : RI .i32 w q.R q.Al q.l.length q.l
 ac : 0 < q.l.length → ∀ ad, q.Al = some ad → ad.block ≠ q.T
 tr : q.T < q.R
 tab : TabU q.F w q.T q.L m
 gl : Gl w
 gt : (5 : Nat) < q.T
abbrev BX (q : BSit) : Nat → Prop := fun b => b = q.T ∨ b = q.R
abbrev BY (q : BSit) : Nat → Prop := fun b => b = q.T ∨ q.R ≤ b
section
variable {w w' : World} {q : BSit} {m m' k k' : Nat} {hi hi' : Value → Value → Prop} {s : BSet}
theorem RdB.rlt (h : RdB w q m hi k s) : q.R < w.heap.size := by obtain ⟨_, _, hr, _⟩ := h.row; exact hr.lt
theorem RowsAt.frX {w w' : World} {lo : Nat} {v : Value} {rs : List (List Int)} {X : Nat → Prop} (h : RowsAt w lo v rs) (hf : Fr w w' X) (hx : ∀ g, lo ≤ g → ¬ X g) : RowsAt w' lo v rs := by
 obtain ⟨vs, h1, h2, h3⟩ := h
 exact ⟨vs, h1, ownsRow_fr h2 hf fun g hg => hx g (h2.lt g hg).1, fun i r u a b => ownsRow_fr (h3 i r u a b) hf fun g hg => hx g ((h3 i r u a b).lt g hg).1⟩
theorem BX.up (q : BSit) (h : q.T < q.R) : ∀ g, q.R + 1 ≤ g → ¬ BX q g := by
 rintro g hg (rfl | rfl) <;> omega
theorem Gl.frq {X : Nat → Prop} (h : Gl w) (hf : Fr w w' X) (hx : ¬ X (5 : Nat)) : Gl w' := (World.cell?_of_block (hf.block _ (World.block_lt_of_cell? w _ h) hx)).trans h
theorem RdB.go (h : RdB w q m hi k s) (hf : Fr w w' (BX q)) (hk : k' ≤ q.l.length) (hr : ∀ vR vT, Row w q.R 60 (rdRow q.Al q.l.length q.cl k s.no vR vT q.T) → Row w' q.R 60 (rdRow q.Al q.l.length q.cl k' s.no vR vT q.T)) (ht : TabU q.F w' q.T q.L m') : RdB w' q m' hi k' s := by
 obtain ⟨vR, vT, r1, r2, r3, r4⟩ := h.row
 have hx := BX.up q h.tr
 exact ⟨⟨vR, vT, hr vR vT r1, ownsRow_fr r2 hf fun g hg => hx g (r2.lt g hg).1, r3.frX hf hx, r4⟩, hk, h.lc, h.cells.fr hf (Nat.le_of_lt h.rlt) (fun h0 ad ha hX => by
  obtain ⟨ad', e, hb, _⟩ := h.cells.2 h0
  rw [ha] at e
  injection e with e
  subst e
  rcases hX with hX | hX
  ·exact h.ac h0 ad ha hX
  ·omega), h.ac, h.tr, ht, h.gl.frq hf (by have := h.gt; have := h.tr; rintro (e | e) <;> omega), h.gt⟩
theorem RdB.below (h : RdB w q m hi k s) (hb : Below w.heap.size w w') : RdB w' q m hi k s := h.go (.of_below hb) h.le (fun _ _ hr => hr.below hb) (h.tab.keep hb)
theorem RdB.drew (h : RdB w q m hi k s) : RdB w.drew q m hi k s := h.below (below_drew (Below.refl _ _))
theorem RdB.up (h : RdB w q m hi k s) (hm : m ≤ m') : RdB w q m' hi k s := ⟨h.row, h.le, h.lc, h.cells, h.ac, h.tr, h.tab.up hm, h.gl, h.gt⟩
theorem RdB.imp (h : RdB w q m hi k s) (hh : ∀ a b, hi a b → hi' a b) : RdB w q m hi' k s := by
 obtain ⟨vR, vT, r1, r2, r3, r4⟩ := h.row
 exact ⟨⟨vR, vT, r1, r2, r3, hh _ _ r4⟩, h.le, h.lc, h.cells, h.ac, h.tr, h.tab, h.gl, h.gt⟩
theorem RdB.exact_ (h : RdB w q m hi k s) : ∃ vR vT, RdB w q m (fun a b => a = vR ∧ b = vT) k s ∧ hi vR vT := by
 obtain ⟨vR, vT, r1, r2, r3, r4⟩ := h.row
 exact ⟨vR, vT, ⟨⟨vR, vT, r1, r2, r3, rfl, rfl⟩, h.le, h.lc, h.cells, h.ac, h.tr, h.tab, h.gl, h.gt⟩, r4⟩
theorem RdB.top (h : RdB w q m hi k s) : RdB w q m (fun _ b => ∀ g, b.ownBlock = some g → g < w.heap.size) k s := by
 obtain ⟨vR, vT, r1, r2, r3, r4⟩ := h.row
 obtain ⟨vs, a, b, c⟩ := id r3
 exact ⟨⟨vR, vT, r1, r2, r3, fun g hg => (b.lt g hg).2⟩, h.le, h.lc, h.cells, h.ac, h.tr, h.tab, h.gl, h.gt⟩
theorem RdB.asked (h : RdB w q m hi k s) (hf : Fr w w' (· = q.T)) (ht : TabU q.F w' q.T q.L m') : RdB w' q m' hi k s := h.go (hf.mono fun j _ e => .inl e) h.le (fun _ _ hr => hr.fr hf (by have := h.tr; omega)) ht
theorem RdB.to_ (h : RdB w q m hi k s) (hk : k' ≤ q.l.length) : RdB (w.setCell ⟨q.R, 1, none⟩ (.int .i64 (k' : Int))) q m hi k' s := by
 have hf : Fr w (w.setCell ⟨q.R, 1, none⟩ (.int .i64 (k' : Int))) (· = q.R) := (Fr.refl w _).set _ _ fun _ => rfl
 refine h.go (hf.mono fun j _ e => .inr e) hk (fun vR vT hr => hr.set 1 _) ?_
 obtain ⟨n, a, b, c⟩ := h.tab
 obtain ⟨vR, vT, hr, _⟩ := h.row
 exact ⟨n, a, b, c.frK hf (by rintro _ rfl _; exact ⟨h.tr, _, _, _, hr, .inl (by decide)⟩)⟩
theorem RdB.cell0 (h : RdB w q m hi k s) : w.cell? ⟨q.R, 0, none⟩ = some (.slice q.Al q.l.length q.cl) := by obtain ⟨_, _, hr, _⟩ := h.row; exact hr.cell rfl
theorem RdB.cell1 (h : RdB w q m hi k s) : w.cell? ⟨q.R, 1, none⟩ = some (.int .i64 (k : Int)) := by obtain ⟨_, _, hr, _⟩ := h.row; exact hr.cell rfl
theorem RdB.cell2 (h : RdB w q m hi k s) : w.cell? ⟨q.R, 2, none⟩ = some (.bool s.no) := by obtain ⟨_, _, hr, _⟩ := h.row; exact hr.cell rfl
theorem RdB.cell5 (h : RdB w q m hi k s) : w.cell? ⟨q.R, 5, none⟩ = some (.pointer (some ⟨q.T, 0, none⟩)) := by obtain ⟨_, _, hr, _⟩ := h.row; exact hr.cell rfl
theorem RdB.frozen (h : RdB w q m hi k s) (i : Nat) : w.frozen? ⟨q.R, i, none⟩ = false := by obtain ⟨_, _, hr, _⟩ := h.row; exact hr.frozen i
theorem RdB.rest (h : RdB w q m hi k s) : RI .i32 w q.R (if q.cl = k then q.Al else q.Al.map (·.add k)) (q.l.length - k) (q.l.drop k) := h.cells.dropK h.le h.lc
end
def panB (er : BEr) : List PanicEntry := [{ v := if er.1 = 30 then .iface 36 (.int .u16 30) else .iface 134 (.agg #[.int .u16 er.1, .int .i64 er.2]), recovered := false }]
structure BadB (w w' : World) (q : BSit) (m : Nat) : Prop where
 fr : Fr w w' (BY q)
 cell : w'.cell? ⟨q.R, 0, none⟩ = some (.slice q.Al q.l.length q.cl)
 tab : TabU q.F w' q.T q.L m
theorem BadB.up {w w' : World} {q : BSit} {m m' : Nat} (h : BadB w w' q m) (hm : m ≤ m') : BadB w w' q m' := ⟨h.fr, h.cell, h.tab.up hm⟩
theorem BadB.behind {w w1 w' : World} {q : BSit} {m : Nat} (h : BadB w1 w' q m) (hf : Fr w w1 (BY q)) : BadB w w' q m := ⟨hf.trans h.fr, h.cell, h.tab⟩
theorem BX.all (q : BSit) {w w' : World} (h : Fr w w' (BX q)) : Fr w w' (BY q) := h.mono fun j _ e => by rcases e with e | e; exact .inl e; exact .inr (by omega)
theorem RdB.bad {w w' : World} {q : BSit} {m k : Nat} {hi : Value → Value → Prop} {s : BSet} (h : RdB w' q m hi k s) (hf : Fr w w' (BY q)) : BadB w w' q m := ⟨hf, h.cell0, h.tab⟩
def BOut {α : Type} (w : World) (q : BSit) (m : Nat) (r : Except BEr α) (P : α → Ending → World → Prop) (e : Ending) (w' : World) : Prop :=
 match r with
 | .error er => e = .panicked (panB er) ∧ BadB w w' q m
 | .ok x => P x e w'
theorem BOut.ok {α : Type} {w w' : World} {q : BSit} {m : Nat} {r : Except BEr α} {P : α → Ending → World → Prop} {e : Ending} {x : α} (hr : r = .ok x) (h : P x e w') : BOut w q m r P e w' := by rw [hr]; exact h
theorem BOut.bad {α : Type} {w w' : World} {q : BSit} {m : Nat} {r : Except BEr α} {P : α → Ending → World → Prop} {e : Ending} {er : BEr} (hr : r = .error er) (h : e = .panicked (panB er) ∧ BadB w w' q m) : BOut w q m r P e w' := by rw [hr]; exact h
theorem pan30 (l : Nat) : panB (30, l) = [{ v := .iface 36 (.int .u16 30), recovered := false }] := rfl
theorem pan31 (l : Nat) : panB (31, l) = [{ v := .iface 134 (.agg #[.int .u16 31, .int .i64 l]), recovered := false }] := rfl
theorem pan40 (l : Nat) : panB (40, l) = [{ v := .iface 134 (.agg #[.int .u16 40, .int .i64 l]), recovered := false }] := rfl
end Go.Proofs.YthgiikhkcpbpfaaGreatDoor.C
