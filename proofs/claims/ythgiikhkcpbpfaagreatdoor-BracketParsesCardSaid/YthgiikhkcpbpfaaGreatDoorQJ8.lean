/-
  Joined: QBbB, QBbC, QBbD, QBbT, QBbE, QBbF. The document's own sets in memory, its reader's cells; append of a slice that reads as rows of values. No condition but what each names. | The document's own fail, stands, inner. No condition but what each names. | The document's own put. Condition: no more than 2000000000 of each. | The document's own Byte, hex and Text of cells. No condition. | The document's own named: an element by its name, or itself. No condition but what it names. | A function of the document's reader at work: its boxes. No condition.
-/
import Derived.Test.YthgiikhkcpbpfaaGreatDoorQBaP
import Derived.Test.YthgiikhkcpbpfaaGreatDoorB17
import Derived.Test.YthgiikhkcpbpfaaGreatDoorB24
import Derived.Test.YthgiikhkcpbpfaaGreatDoorB27
import Derived.Test.YthgiikhkcpbpfaaGreatDoorQBaC
import Derived.Test.YthgiikhkcpbpfaaGreatDoorQBaF
import Derived.Test.YthgiikhkcpbpfaaGreatDoorQBaA
import Derived.Laws.Concat
import Derived.Deep.LoopGhost
namespace Go.Proofs.YthgiikhkcpbpfaaGreatDoor.C
open Go.RowKit

theorem flat_in {sz : Nat} {xs : List (List Value)} (h : ∀ x ∈ xs, x.length = sz) {j : Nat} {u : Value} (hu : xs.flatten[j]? = some u) : ∃ k i x, xs[k]? = some x ∧ x[i]? = some u ∧ j = k * sz + i := by
 have hl : xs.flatten.length = xs.length * sz := by
  rw [List.length_flatten]
  rw [List.map_congr_left (g := fun _ => sz) h]
  rw [List.map_const', List.sum_replicate_nat]
 have hj := (List.getElem?_eq_some_iff.1 hu).1
 rw [hl] at hj
 have h0 : 0 < sz := by
  rcases Nat.eq_zero_or_pos sz with h0 | h0
  ·rw [h0] at hj; omega
  ·exact h0
 have hk : j / sz < xs.length := Nat.div_lt_of_lt_mul (by rw [Nat.mul_comm]; exact hj)
 obtain ⟨x, hx⟩ : ∃ x, xs[j / sz]? = some x := ⟨_, List.getElem?_eq_getElem hk⟩
 have hxl := h x (List.mem_of_getElem? hx)
 obtain ⟨y, hy⟩ : ∃ y, x[j % sz]? = some y := ⟨_, List.getElem?_eq_getElem (by rw [hxl]; exact Nat.mod_lt _ h0)⟩
 have := flat_at (sz := sz) h hx hy
 rw [show j / sz * sz + j % sz = j from by rw [Nat.mul_comm]; exact Nat.div_add_mod j sz, hu] at this
 injection this with this
 exact ⟨_, _, x, hx, by rw [hy, this], by rw [Nat.mul_comm]; exact (Nat.div_add_mod j sz).symm⟩
section
variable {P : Program} {w : World}
theorem run_append_of_nilB (base : Nat) (t ty e : TypeId) (i : TypeInfo) (size : Nat) (ht : P.underlying t = some (.slice e)) (hi : P.info? e = some i)
  (v : Value) (n : Nat) (xs : List Value) (hown : w.ownsRow base e size v n xs) (c : Nat) : (Builtin.append_ #[t, t] ty #[v, .slice none 0 c]).run P w = .ok v w := by
 rcases hown.2 with ⟨rfl, rfl⟩ | ⟨g, cap, cur, rfl, _, _, hnc, _⟩
 ·simp [Builtin.append_, run_underlying ht, sizeOf, typeInfo, hi, Builtin.lenOf, Builtin.firstCells]
 ·simp [Builtin.append_, run_underlying ht, sizeOf, typeInfo, hi, Builtin.lenOf, Builtin.firstCells, hnc, storeCells]

theorem run_append_si (base : Nat) (t ty : TypeId) (e : TypeId) (i : TypeInfo) (z : Value) (size bytes : Nat) (ht : P.underlying t = some (.slice e)) (hi : P.info? e = some i) (hz : i.zero = some z)
  (hsize : i.size = size) (hby : i.bytes = bytes) (hzs : z.cells.size = size) (hsz : 0 < size)
  (v : Value) (n : Nat) (xs : List Value) (hown : w.ownsRow base e size v n xs) (B : Nat)
  (A : Option Addr) (m c : Nat) (rs : List (List Value)) (hr : SI size w B A m rs) (h1 : ∀ u ∈ rs.flatten, u.oneCell' = true)
  (h63 : n + m ≤ maxLen) (hbytes : (n + m) * bytes ≤ 140737488355328) (hbase : base ≤ w.heap.size) :
  ∃ v' w', (Builtin.append_ #[t, t] ty #[v, .slice A m c]).run P w = .ok v' w' ∧ w'.ownsRow base e size v' (n + m) (xs ++ rs.flatten) ∧ w.grownBy w' v.ownBlock ∧ (v'.ownBlock = v.ownBlock ∨ v'.ownBlock = some w.heap.size) := by
 rcases A with _ | ad
 ·have hm : m = 0 := by
   rcases Nat.eq_zero_or_pos m with h0 | h0
   ·exact h0
   ·obtain ⟨ad, h, _⟩ := hr.2.2 h0
    cases h
  subst hm
  have hn : rs = [] := List.eq_nil_of_length_eq_zero hr.1
  subst hn
  exact ⟨v, w, run_append_of_nilB base t ty e i size ht hi v n xs hown c, by simpa using hown, World.grownBy.refl w _, .inl rfl⟩
 ·have hcells : ∀ j u, rs.flatten[j]? = some u → w.cell? (ad.add j) = some u := by
   intro j u hu
   obtain ⟨k, i, x, hx, hxi, rfl⟩ := flat_in hr.2.1 hu
   obtain ⟨ad', h, _, hc⟩ := hr.2.2 (by have := (List.getElem?_eq_some_iff.1 hx).1; have := hr.1; omega)
   injection h with h
   subst h
   exact hc k x hx i u hxi
  have hl : rs.flatten.length = m * size := by
   rw [List.length_flatten, List.map_congr_left (g := fun _ => size) hr.2.1, List.map_const', List.sum_replicate_nat, hr.1]
  obtain ⟨v', w', hrun, h2, h3, _, h5⟩ := run_append_own_at (P := P) w base t ty e i z size bytes ht hi hz hsize hby hzs hsz v n xs hown ad m c rs.flatten hl hcells h1 h63 hbytes hbase
  exact ⟨v', w', hrun, h2, h3, h5⟩
theorem wpList_append_si {ops : Array Oper} {rest : List Oper} {o : Oper} {a : Act} {Q : Exit → Act → World → Prop} (hgd : o.guard = none) (s x : Operand) (t : TypeId)
  (ho : o.op = .call { callee := .builtin .append, args := #[s, x], argTypes := #[t, t] })
  (base : Nat) (e : TypeId) (i : TypeInfo) (z : Value) (size bytes : Nat) (ht : P.underlying t = some (.slice e)) (hi : P.info? e = some i) (hz : i.zero = some z)
  (hsize : i.size = size) (hby : i.bytes = bytes) (hzs : z.cells.size = size) (hsz : 0 < size)
  (v : Value) (n : Nat) (xs : List Value) (hs : a.eval s = v) (hown : w.ownsRow base e size v n xs) (B : Nat)
  (A : Option Addr) (m c : Nat) (rs : List (List Value)) (hx : a.eval x = .slice A m c) (hr : SI size w B A m rs) (h1 : ∀ u ∈ rs.flatten, u.oneCell' = true)
  (h63 : n + m ≤ maxLen) (hbytes : (n + m) * bytes ≤ 140737488355328) (hbase : base ≤ w.heap.size)
  (h : ∀ v' w', w'.ownsRow base e size v' (n + m) (xs ++ rs.flatten) → w.grownBy w' v.ownBlock → (v'.ownBlock = v.ownBlock ∨ v'.ownBlock = some w.heap.size) → wpList P ops Q rest (a.put o.dst v') w') : wpList P ops Q (o :: rest) a w := by
 refine wpList_plain hgd fun K hK => ?_
 obtain ⟨v', w', hr, h2, h3, h4⟩ := run_append_si (P := P) (w := w) base t o.type e i z size bytes ht hi hz hsize hby hzs hsz v n xs hown B A m c rs hr h1 h63 hbytes hbase
 unfold Oper.wp execOp
 simp only [ho, resolve, invoke, builtin, Sem.run_bind, Sem.run_pure, Result.andThen_ok, List.map_toArray, List.map_cons, List.map_nil, hs, hx, hr]
 exact hK _ _ (h v' w' h2 h3 h4)
end
theorem RowsR.vals {w : World} {B : Nat} {A : Option Addr} {rs : List (List Int)} (h : RowsR w B A rs) : ∃ vs, RowsV w B vs rs ∧ SI 1 w B A rs.length (vs.map fun v => [v]) := by
 rcases Nat.eq_zero_or_pos rs.length with h0 | h0
 ·have : rs = [] := List.eq_nil_of_length_eq_zero h0
  subst this
  exact ⟨[], ⟨rfl, fun i r u a => by simp at a⟩, SI.nil _ _ _ _⟩
 ·obtain ⟨ad, rfl, hb, hc⟩ := h h0
  obtain ⟨vs, hvs⟩ : ∃ vs : List Value, vs = (List.range rs.length).map fun i => (w.cell? (ad.add i)).getD (.slice none 0 0) := ⟨_, rfl⟩
  have hlen : vs.length = rs.length := by rw [hvs]; simp
  have hat : ∀ (i : Nat) (r : List Int), rs[i]? = some r → ∃ a c, vs[i]? = some (.slice a r.length c) ∧ w.cell? (ad.add i) = some (.slice a r.length c) ∧ RI .i32 w B a r.length r ∧ r.length ≤ maxLen := by
   intro i r hr
   obtain ⟨a, c, h1, h2, h3⟩ := hc i r hr
   refine ⟨a, c, ?_, h1, h2, h3⟩
   have hi := (List.getElem?_eq_some_iff.1 hr).1
   rw [hvs, List.getElem?_map, List.getElem?_range hi]
   simp [h1]
  refine ⟨vs, ⟨hlen, fun i r u hr hu => ?_⟩, by rw [List.length_map, hlen], by intro x hx; obtain ⟨y, _, rfl⟩ := List.mem_map.1 hx; rfl, fun _ => ⟨ad, rfl, hb, fun j x hx i u hu => ?_⟩⟩
  ·obtain ⟨a, c, h1, h2, h3, h4⟩ := hat i r hr
   rw [h1] at hu
   injection hu with hu
   exact ⟨a, c, hu.symm, h3, h4⟩
  ·rw [List.getElem?_map] at hx
   obtain ⟨y, hy, rfl⟩ := Option.map_eq_some_iff.1 hx
   rcases i with _ | i
   ·simp at hu
    subst hu
    have hj := (List.getElem?_eq_some_iff.1 hy).1
    obtain ⟨r, hr⟩ : ∃ r, rs[j]? = some r := ⟨_, List.getElem?_eq_getElem (by omega)⟩
    obtain ⟨a, c, h1, h2, _⟩ := hat j r hr
    rw [h1] at hy
    injection hy with hy
    subst hy
    simpa using h2
   ·simp at hu
theorem one_flat (vs : List Value) : (vs.map fun v => [v]).flatten = vs := by induction vs with
 | nil => rfl
 | cons v r ih => simp [ih]
theorem RowsV.one {w : World} {B : Nat} {vs : List Value} {rs : List (List Int)} (h : RowsV w B vs rs) : ∀ u ∈ vs, u.oneCell' = true := by
 intro u hu
 obtain ⟨i, hi⟩ := List.mem_iff_getElem?.1 hu
 have hl := (List.getElem?_eq_some_iff.1 hi).1
 obtain ⟨r, hr⟩ : ∃ r, rs[i]? = some r := ⟨_, List.getElem?_eq_getElem (by have := h.1; omega)⟩
 obtain ⟨a, c, rfl, _⟩ := h.2 i r u hr hi
 rfl
theorem RowsR.more {w : World} {B B' : Nat} {A : Option Addr} {rs : List (List Int)} (h : RowsR w B A rs) (hB : B ≤ B') : RowsR w B' A rs := fun h0 => by
 obtain ⟨ad, e, h1, h2⟩ := h h0
 refine ⟨ad, e, by omega, fun i r hr => ?_⟩
 obtain ⟨a, c, h3, h4, h5⟩ := h2 i r hr
 exact ⟨a, c, h3, h4.more hB, h5⟩
theorem RowsR.at_ {w : World} {B : Nat} {A : Option Addr} {rs : List (List Int)} (h : RowsR w B A rs) {i : Nat} {r : List Int} (hr : rs[i]? = some r) : ∃ ad a c, A = some ad ∧ ad.block < B ∧ w.cell? (ad.add i) = some (.slice a r.length c) ∧ RI .i32 w B a r.length r ∧ r.length ≤ maxLen := by
 obtain ⟨ad, e, h1, h2⟩ := h (Nat.lt_of_le_of_lt (Nat.zero_le i) (List.getElem?_eq_some_iff.1 hr).1)
 obtain ⟨a, c, h3⟩ := h2 i r hr
 exact ⟨ad, a, c, e, h1, h3⟩
structure SetW (w : World) (AR AT : Option Addr) (s : BSet) : Prop where
 r : SI 2 w w.heap.size AR s.rs.length (s.rs.map prRow)
 t : RowsR w w.heap.size AT s.ts
 lt : ∀ ad, AT = some ad → ad.block < w.heap.size
theorem SetW.next {w w' : World} {AR AT : Option Addr} {s : BSet} (h : SetW w AR AT s) (hb : Below w.heap.size w w') : SetW w' AR AT s :=
 ⟨(h.r.on hb (Nat.le_refl _)).more hb.size, (h.t.on hb (Nat.le_refl _)).more hb.size, fun ad e => Nat.lt_of_lt_of_le (h.lt ad e) hb.size⟩
theorem SetW.nil (w : World) (b : Bool) : SetW w none none ⟨b, [], []⟩ := ⟨SI.nil _ _ _ _, fun h => absurd h (by simp), fun ad e => by cases e⟩
def NewOr (w : World) (AT AT' : Option Addr) : Prop := ∀ ad, AT' = some ad → AT = some ad ∨ w.heap.size ≤ ad.block
theorem NewOr.refl (w : World) (A : Option Addr) : NewOr w A A := fun _ e => .inl e
theorem NewOr.trans {w w1 : World} {A A1 A2 : Option Addr} (h : NewOr w A A1) (h1 : NewOr w1 A1 A2) (hs : w.heap.size ≤ w1.heap.size) : NewOr w A A2 := fun ad e => by
 rcases h1 ad e with h2 | h2
 ·exact h ad h2
 ·exact .inr (by omega)
def No32 (w : World) (b : Nat) : Prop := ∀ (p : Addr) (u : Int), p.block = b → w.cell? p ≠ some (.int .i32 u)
theorem Rw.no32 {w : World} {b : Nat} {t : TypeId} {xs : Array Value} (h : Rw w b t xs) (hk : ∀ x ∈ xs.toList, ∀ u, x ≠ .int .i32 u) : No32 w b := by
 intro p u hp hc
 subst hp
 unfold World.cell? at hc
 unfold Rw at h
 rw [h] at hc
 simp only at hc
 split at hc
 ·cases hc
 ·exact hk _ (Array.mem_toList_iff.2 (Array.mem_of_getElem? hc)) u rfl
section
variable {w w' : World} {b B : Nat}
theorem RI.box {A : Option Addr} {n : Nat} {zs : List Int} (h : RI .i32 w B A n zs) (hf : Fr w w' (· = b)) (hn : No32 w b) (hB : B ≤ w.heap.size) : RI .i32 w' B A n zs :=
 h.fr hf hB fun h0 ad e hb => by
  obtain ⟨ad', u, e', _, _, hc⟩ := h.at_ h0
  rw [e] at e'
  injection e' with e'
  subst e'
  exact hn _ u (by rw [block_of_add]; exact hb) hc
theorem SI.box {A : Option Addr} {n : Nat} {ps : List (Int × Int)} (h : SI 2 w B A n (ps.map prRow)) (hf : Fr w w' (· = b)) (hn : No32 w b) (hB : B ≤ w.heap.size) : SI 2 w' B A n (ps.map prRow) :=
 ⟨h.1, h.2.1, fun h0 => by
  obtain ⟨ad, e, hb, hc⟩ := h.2.2 h0
  have hne : ad.block ≠ b := by
   intro hb'
   have hl : 0 < ps.length := by have := h.1; rw [List.length_map] at this; omega
   obtain ⟨p, hp⟩ : ∃ p, ps[0]? = some p := ⟨_, List.getElem?_eq_getElem hl⟩
   exact hn (ad.add (0 * 2 + 0)) p.1 (by rw [block_of_add]; exact hb') (hc 0 (prRow p) (by rw [List.getElem?_map, hp]; rfl) 0 _ rfl)
  exact ⟨ad, e, hb, fun j x hx i u hu => (World.cell?_of_block (hf.block _ (by rw [block_of_add]; omega) (by rw [block_of_add]; exact hne))).trans (hc j x hx i u hu)⟩⟩
theorem RowsR.box {A : Option Addr} {rs : List (List Int)} (h : RowsR w B A rs) (hf : Fr w w' (· = b)) (hn : No32 w b) (hA : ∀ ad, A = some ad → ad.block ≠ b) (hB : B ≤ w.heap.size) : RowsR w' B A rs := fun h0 => by
 obtain ⟨ad, e, h1, h2⟩ := h h0
 refine ⟨ad, e, h1, fun i r hr => ?_⟩
 obtain ⟨a, c, h3, h4, h5⟩ := h2 i r hr
 exact ⟨a, c, (World.cell?_of_block (hf.block _ (by rw [block_of_add]; omega) (by rw [block_of_add]; exact hA ad e))).trans h3, h4.box hf hn hB, h5⟩
theorem SetW.box {AR AT : Option Addr} {s : BSet} (h : SetW w AR AT s) (hf : Fr w w' (· = b)) (hn : No32 w b) (hA : ∀ ad, AT = some ad → ad.block ≠ b) : SetW w' AR AT s :=
 ⟨(h.r.box hf hn (Nat.le_refl _)).more hf.size, (h.t.box hf hn hA (Nat.le_refl _)).more hf.size, fun ad e => Nat.lt_of_lt_of_le (h.lt ad e) hf.size⟩
end
def SetTold (w w' : World) (AT : Option Addr) (s : BSet) (e : Ending) : Prop := Below w.heap.size w w' ∧ ∃ AR' cR' AT' cT', e = .returned (.agg #[.bool s.no, .slice AR' s.rs.length cR', .slice AT' s.ts.length cT']) ∧ SetW w' AR' AT' s ∧ NewOr w AT AT'
def rvV (Al : Option Addr) (n cl k : Nat) (no : Bool) (AR : Option Addr) (nR cR : Nat) (AT : Option Addr) (nT cT E P : Nat) : Value := .agg #[.slice Al n cl, .int .i64 k, .bool no, .slice AR nR cR, .slice AT nT cT, .int .i64 E, .int .i64 P]
def RTold (w w' : World) (Al : Option Addr) (n cl : Nat) (AT : Option Addr) (r : Except BEr (BSet × Nat)) (v : Value) : Prop := Below w.heap.size w w' ∧ ∃ (s' : BSet) (AR' : Option Addr) (cR' : Nat) (AT' : Option Addr) (cT' k' E P : Nat),
 v = rvV Al n cl k' s'.no AR' s'.rs.length cR' AT' s'.ts.length cT' E P ∧ SetW w' AR' AT' s' ∧ NewOr w AT AT' ∧ ((E = 0 ∧ P = 0 ∧ r = .ok (s', k')) ∨ (E ≠ 0 ∧ r = .error (E, P)))
def s7 (w : World) (b : Nat) (v0 v1 v2 v3 v4 v5 v6 : Value) : World := ((((((w.setCell ⟨b, 0, none⟩ v0).setCell ⟨b, 1, none⟩ v1).setCell ⟨b, 2, none⟩ v2).setCell ⟨b, 3, none⟩ v3).setCell ⟨b, 4, none⟩ v4).setCell ⟨b, 5, none⟩ v5).setCell ⟨b, 6, none⟩ v6
theorem Rw.set {w : World} {b : Nat} {t : TypeId} {xs : Array Value} (h : Rw w b t xs) (i : Nat) (v : Value) : Rw (w.setCell ⟨b, i, none⟩ v) b t (xs.setIfInBounds i v) := by
 unfold Rw World.setCell at *
 simp [Array.getElem?_modify, h]
theorem s7_rw {w : World} {b : Nat} {t : TypeId} {u0 u1 u2 u3 u4 u5 u6 : Value} (v0 v1 v2 v3 v4 v5 v6 : Value) (h : Rw w b t #[u0, u1, u2, u3, u4, u5, u6]) : Rw (s7 w b v0 v1 v2 v3 v4 v5 v6) b t #[v0, v1, v2, v3, v4, v5, v6] := by
 have h6 := ((((((h.set 0 v0).set 1 v1).set 2 v2).set 3 v3).set 4 v4).set 5 v5).set 6 v6
 simp only [g1, g2, g3] at h6
 exact h6
theorem Fr.setB {a b : World} {T : Nat} (h : Fr a b (· = T)) (i : Nat) (u : Value) : Fr a (b.setCell ⟨T, i, none⟩ u) (· = T) := h.set _ _ fun _ => rfl
theorem s7_fr (w : World) (b : Nat) (v0 v1 v2 v3 v4 v5 v6 : Value) : Fr w (s7 w b v0 v1 v2 v3 v4 v5 v6) (· = b) := by
 unfold s7
 exact (((((((Fr.of_below (X := (· = b)) (Below.refl _ w)).setB 0 v0).setB 1 v1).setB 2 v2).setB 3 v3).setB 4 v4).setB 5 v5).setB 6 v6
theorem s7_below {w w1 : World} {S b : Nat} (v0 v1 v2 v3 v4 v5 v6 : Value) (h : Below S w w1) (hb : S ≤ b) (hS : S ≤ w1.heap.size) : Below S w (s7 w1 b v0 v1 v2 v3 v4 v5 v6) := h.trans ((s7_fr w1 b v0 v1 v2 v3 v4 v5 v6).below (by rintro j _ rfl; exact hb) hS)
end Go.Proofs.YthgiikhkcpbpfaaGreatDoor.C
namespace Go.Proofs.YthgiikhkcpbpfaaGreatDoor.C
open Go.RowKit

set_option maxRecDepth 100000 in
set_option maxHeartbeats 1000000 in
theorem fail10_any (w : World) (Al : Option Addr) (n cl : Nat) (k : Int) (no : Bool) (AR : Option Addr) (nR cR : Nat) (AT : Option Addr) (nT cT : Nat) (E P : Int) :
  Calls Tryz.prog 53 #[.agg #[.slice Al n cl, .int .i64 k, .bool no, .slice AR nR cR, .slice AT nT cT, .int .i64 0, .int .i64 0], .int .i64 E, .int .i64 P] w fun e w' => e = .returned (.agg #[.slice Al n cl, .int .i64 k, .bool no, .slice AR nR cR, .slice AT nT cT, .int .i64 E, .int .i64 P]) ∧ Below w.heap.size w w' := by
 go_enter Tryz.func53, Tryz.ntmps53
 go_wp2
 exact bodyPost_ret (v := .agg #[.slice Al n cl, .int .i64 k, .bool no, .slice AR nR cR, .slice AT nT cT, .int .i64 E, .int .i64 P]) (by simp [results, Tryz.results53, go_sem]) rfl ⟨rfl, ((Below.refl _ _).alloc (Nat.le_refl _) _).alloc (by simp) _⟩
set_option maxRecDepth 100000 in
set_option maxHeartbeats 1000000 in
theorem stands10_any (w : World) (B : Nat) (Al : Option Addr) (n cl : Nat) (l : List Int) (k : Nat) (z c : Int) (hl : RI .i32 w B Al n l) (hz : z = (k : Int)) :
  Calls Tryz.prog 52 #[.slice Al n cl, .int .i64 z, .int .i32 c] w fun e w' => e = .returned (.bool (atS l k [c])) ∧ w' = w := by
 subst hz
 obtain rfl := hl.len
 by_cases hk : k < l.length
 ·obtain ⟨ad, u, rfl, hb, hu, hc⟩ := hl.at_ hk
  have hat : atS l k [c] = (u == c) := by
   have := atS_yes hu
   by_cases h : u = c
   ·subst h; simp [this]
   ·rw [atS_one hu [] (fun e => h e.symm)]; simp [h]
  rw [hat]
  have i0 : (0 : Int) ≤ (k : Int) := by omega
  have i1 : (k : Int) < (l.length : Int) := by omega
  clear hl hu hat
  go_enter Tryz.func52, Tryz.ntmps52
  go_wp2
  go_ret
  exact ⟨rfl, rfl⟩
 ·have hat : atS l k [c] = false := by
   rw [Bool.eq_false_iff]
   intro h
   have := atS_len h (by simp)
   simp at this
   omega
  rw [hat]
  have i0 : (0 : Int) ≤ (k : Int) := by omega
  have i1 : ¬ (k : Int) < (l.length : Int) := by omega
  have i2 : decide (k < l.length) = false := by simpa using hk
  clear hl hat
  go_enter Tryz.func52, Tryz.ntmps52
  go_wp2
  go_ret
  exact ⟨rfl, rfl⟩
def InTold (w w' : World) (B : Nat) (l : List Int) (k : Nat) (x : Int) (e : Ending) : Prop := (∃ q, w' = w.drewN q) ∧
 match upToL l k x with
 | .ok (cs, k') => ∃ A c, e = .returned (.tuple #[.slice A cs.length c, .int .i64 k', .bool true]) ∧ RI .i32 w' B A cs.length cs
 | .error _ => ∃ A n c i, e = .returned (.tuple #[.slice A n c, .int .i64 i, .bool false])
theorem upTo_yes {l : List Int} {k j : Nat} {x : Int} (hu : l[k + j]? = some x) (hq : ∀ c ∈ (l.drop k).take j, c ≠ x) : (l.drop k).takeWhile (fun c => c != x) = (l.drop k).take j := by
 have e : l.drop k = (l.drop k).take j ++ (l.drop k).drop j := (List.take_append_drop _ _).symm
 have h2 : (l.drop k).drop j = x :: (l.drop k).drop (j + 1) := by
  rw [List.drop_drop, List.drop_drop]
  exact List.drop_eq_getElem?_toList_append.trans (by rw [hu]; rfl)
 conv => lhs; rw [e]
 rw [List.takeWhile_append_of_pos (by intro c hc; simpa using hq c hc), h2, List.takeWhile_cons, if_neg (by simp), List.append_nil]
set_option maxRecDepth 100000 in
set_option maxHeartbeats 2000000 in
theorem inner10_any (w : World) (B : Nat) (Al : Option Addr) (n cl : Nat) (l : List Int) (k : Nat) (z x : Int) (hl : RI .i32 w B Al n l) (_hB : B ≤ w.heap.size) (hcl : n ≤ cl) (hk : k ≤ n) (hn : n ≤ 1000000) (hz : z = (k : Int)) :
  Calls Tryz.prog 123 #[.slice Al n cl, .int .i64 z, .int .i32 x] w fun e w' => InTold w w' B l k x e := by
 subst hz
 have HL := Lib.hid hl
 clear hl
 go_enter Tryz.func123, Tryz.ntmps123
 go_wp2
 go_loop [9] (fun iv => ∃ j : Nat, k + j ≤ n ∧ iv = .int .i64 ((k + j : Nat) : Int) ∧ Hid (∀ c ∈ (l.drop k).take j, c ≠ x)) (fun iv => n - (intOf iv).toNat)
 case atStart => exact ⟨0, by omega, rfl, Lib.hid (by simp)⟩
 case round =>
  obtain ⟨j, hj, rfl, HQ⟩ := hrel
  obtain ⟨p, hp⟩ : ∃ p, p = k + j := ⟨_, rfl⟩
  rw [← hp]
  have HP := Lib.hid hp
  by_cases hlt : p < n
  ·obtain ⟨ad, u, rfl, hb, hu, hc⟩ := HL.out.at_ hlt
   have HU := Lib.hid hu
   have i0 : (0 : Int) ≤ (p : Int) := by omega
   have i1 : (p : Int) < (n : Int) := by omega
   clear hu hp
   by_cases hux : u = x
   ·subst hux
    have hst := fun q => stands10_any (w.drewN q) B (some ad) n cl l (p + 1) ((p : Int) + 1) 93 (HL.out.drewN q) (by omega)
    have HV : Hid (upToL l k u = if atS l (p + 1) [93] = true then .ok ((l.drop k).take j, p + 2) else .error (30, l.length)) := Lib.hid (by
     have h1 := upTo_yes (l := l) (k := k) (j := j) (x := u) (by rw [← HP.out]; exact HU.out) HQ.out
     have hlen : ((l.drop k).take j).length = j := by rw [List.length_take, List.length_drop]; have := HL.out.len; have := HP.out; omega
     unfold upToL
     simp only
     rw [h1, hlen, ← HP.out]
     have h2 : atS l p [u, 93] = atS l (p + 1) [93] := by
      unfold atS
      rw [show l.drop p = u :: l.drop (p + 1) from List.drop_eq_getElem?_toList_append.trans (by rw [HU.out]; rfl)]
      simp
     rw [h2])
    have HRI : Hid (∀ q, RI .i32 (w.drewN q) B (some (ad.add k)) ((l.drop k).take j).length ((l.drop k).take j)) := Lib.hid (fun q => by
     have := HL.out.cut (k := k) (m := j) (cap := cl) (by have := HP.out; omega) hcl
     rw [if_neg (by have := HP.out; omega)] at this
     have hlen : ((l.drop k).take j).length = j := by rw [List.length_take, List.length_drop]; have := HL.out.len; have := HP.out; omega
     rw [hlen]
     exact this)
    have HJ : Hid (((l.drop k).take j).length = j) := Lib.hid (by rw [List.length_take, List.length_drop]; have := HL.out.len; have := HP.out; omega)
    obtain ⟨b, hb2⟩ : ∃ b, b = atS l (p + 1) [93] := ⟨_, rfl⟩
    rw [← hb2] at hst HV
    have k0 : (0 : Int) ≤ (k : Int) := by omega
    have k1 : (k : Int) ≤ (p : Int) := by have := HP.out; omega
    have k2 : (p : Int) ≤ (cl : Int) := by omega
    have w1 : IntKind.i64.wrap ((p : Int) + 1) = (p : Int) + 1 := by rw [IntKind.wrap_i64]; omega
    have w2 : IntKind.i64.wrap ((p : Int) + 2) = (p : Int) + 2 := by rw [IntKind.wrap_i64]; omega
    have hpk : ¬ cl = k := by have := HP.out; omega
    clear hb2
    go_wp2
    go_quiet ((go_at_call 52; exact Calls.quiet_of_same (hst _)))
    go_wp2
    cases b with
    | true =>
     go_ret3
     refine ⟨⟨_, rfl⟩, ?_⟩
     rw [HV.out]
     exact ⟨_, _, by rw [HJ.out, show j = p - k by have := HP.out; omega]; rfl, HRI.out _⟩
    | false =>
     go_ret3
     refine ⟨⟨_, rfl⟩, ?_⟩
     rw [HV.out]
     exact ⟨_, _, _, _, rfl⟩
   ·have HQ2 : Hid (∀ c ∈ (l.drop k).take (j + 1), c ≠ x) := Lib.hid (by
     have h1 : (l.drop k)[j]? = some u := by rw [List.getElem?_drop, ← HP.out]; exact HU.out
     rw [take_snoc h1]
     intro c hc
     rcases List.mem_append.1 hc with hc | hc
     ·exact HQ.out c hc
     ·rw [List.mem_singleton] at hc
      subst hc
      exact hux)
    have e1 : (u == x) = false := by simpa using hux
    go_wp2
    go_round
    case rel => exact ⟨j + 1, by have := HP.out; omega, by have := HP.out; rw [show k + (j + 1) = p + 1 by omega]; go_num, HQ2⟩
    case measure => simp [intOf]; omega
  ·have i1 : ¬ (p : Int) < (n : Int) := by omega
   have HV : Hid (upToL l k x = .error (30, l.length)) := Lib.hid (by
    have hlen := HL.out.len
    have htk : (l.drop k).take j = l.drop k := List.take_of_length_le (by rw [List.length_drop]; have := HP.out; omega)
    unfold upToL
    simp only
    rw [tw_none (fun hm => by have := HQ.out x (by rw [htk]; exact hm); exact this rfl), List.length_drop, if_neg]
    intro h
    have := atS_len h (by simp)
    simp at this
    omega)
   clear hp
   go_wp2
   go_ret3
   refine ⟨⟨0, by rw [World.drewN_zero]⟩, ?_⟩
   rw [HV.out]
   exact ⟨_, _, _, _, rfl⟩
end Go.Proofs.YthgiikhkcpbpfaaGreatDoor.C
namespace Go.Proofs.YthgiikhkcpbpfaaGreatDoor.C
open Go.RowKit

def s3 (w : World) (b : Nat) (v0 v1 v2 : Value) : World := ((w.setCell ⟨b, 0, none⟩ v0).setCell ⟨b, 1, none⟩ v1).setCell ⟨b, 2, none⟩ v2
theorem s3_rw {w : World} {b : Nat} {t : TypeId} {u0 u1 u2 : Value} (v0 v1 v2 : Value) (h : Rw w b t #[u0, u1, u2]) : Rw (s3 w b v0 v1 v2) b t #[v0, v1, v2] := by
 have h6 := ((h.set 0 v0).set 1 v1).set 2 v2
 simp only [g1, g2, g3] at h6
 exact h6
theorem s3_fr (w : World) (b : Nat) (v0 v1 v2 : Value) : Fr w (s3 w b v0 v1 v2) (· = b) := by
 unfold s3
 exact (((Fr.of_below (X := (· = b)) (Below.refl _ w)).setB 0 v0).setB 1 v1).setB 2 v2
theorem Rw.fr {w w' : World} {b b2 : Nat} {t : TypeId} {xs : Array Value} (h : Rw w b t xs) (hf : Fr w w' (· = b2)) (hne : b ≠ b2) : Rw w' b t xs := (hf.block b h.lt hne).trans h
theorem two_rowsB {w w2 : World} {R : Nat} {t t2 : TypeId} {l m : Array Value} (hR : w.heap.size = R) (h : w2 = (w.alloc (.cells l t)).alloc (.cells m t2)) : Rw w2 R t l ∧ Rw w2 (R + 1) t2 m ∧ Below R w w2 ∧ w2.heap.size = R + 2 := by
 subst hR
 have hb : Below (w.heap.size + 1) (w.alloc (.cells l t)) w2 := by rw [h]; exact (Below.refl _ _).alloc (by simp) _
 have h1 : Rw (w.alloc (.cells l t)) w.heap.size t l := heap_alloc_new w _
 have h2 := heap_alloc_new (w.alloc (.cells l t)) (.cells m t2)
 rw [World.size_alloc] at h2
 exact ⟨h1.on hb (Nat.lt_succ_self _), by rw [h]; exact h2, ((Below.refl _ w).alloc (Nat.le_refl _) _).trans (hb.mono (Nat.le_succ _)), by rw [h]; simp⟩
theorem three_rowsB {w w3 : World} {R : Nat} {t t2 t3 : TypeId} {l m k : Array Value} (hR : w.heap.size = R) (h : w3 = ((w.alloc (.cells l t)).alloc (.cells m t2)).alloc (.cells k t3)) : Rw w3 R t l ∧ Rw w3 (R + 1) t2 m ∧ Rw w3 (R + 1 + 1) t3 k ∧ Below R w w3 ∧ w3.heap.size = R + 3 := by
 obtain ⟨w2, h2⟩ : ∃ w2, w2 = (w.alloc (.cells l t)).alloc (.cells m t2) := ⟨_, rfl⟩
 rw [← h2] at h
 obtain ⟨a, b, c, d⟩ := two_rowsB hR h2
 have hb : Below (R + 2) w2 w3 := by rw [h]; exact (Below.refl _ _).alloc (by omega) _
 have h3 := heap_alloc_new w2 (.cells k t3)
 rw [d] at h3
 exact ⟨a.on hb (by omega), b.on hb (by omega), by rw [h]; exact h3, c.trans (hb.mono (by omega)), by rw [h]; simp; omega⟩
theorem put_end {w w5 : World} {S : Nat} {t : TypeId} {u0 u1 u2 z0 z1 z2 : Value} (hS : w.heap.size = S) (hb : Below S w w5) (hr : Rw w5 S t #[u0, u1, u2]) (hz : Rw w5 (S + 1) t #[z0, z1, z2])
  (hu : ∀ x ∈ [u0, u1, u2, z0, z1, z2], ∀ i, x ≠ .int .i32 i) {AR' AT' : Option Addr} {s' : BSet} (hs : SetW w5 AR' AT' s') (hA : ∀ ad, AT' = some ad → ad.block ≠ S ∧ ad.block ≠ S + 1) (i : Nat) (v a b c : Value) :
  ∀ w9, w9 = s3 (w5.setCell ⟨S, i, none⟩ v) (S + 1) a b c → SetW w9 AR' AT' s' ∧ Below S w w9 ∧ Rw w9 (S + 1) t #[a, b, c] := by
 rintro w9 rfl
 have hf1 : Fr w5 (w5.setCell ⟨S, i, none⟩ v) (· = S) := (Fr.of_below (X := (· = S)) (Below.refl _ w5)).set _ _ (fun _ => rfl)
 have n1 : No32 w5 S := hr.no32 (by intro x hx; exact hu x (by simp at hx ⊢; rcases hx with h | h | h <;> simp [h]))
 have h1 := hs.box hf1 n1 (fun ad e => (hA ad e).1)
 have hz1 := hz.fr hf1 (by omega)
 have n2 : No32 (w5.setCell ⟨S, i, none⟩ v) (S + 1) := hz1.no32 (by intro x hx; exact hu x (by simp at hx ⊢; rcases hx with h | h | h <;> simp [h]))
 have hf2 := s3_fr (w5.setCell ⟨S, i, none⟩ v) (S + 1) a b c
 exact ⟨h1.box hf2 n2 (fun ad e => (hA ad e).2), (hb.trans (hf1.below (by rintro j _ rfl; exact Nat.le_refl _) (by have := hb.size; omega))).trans (hf2.below (by rintro j _ rfl; omega) (by have := hb.size; simp; omega)), s3_rw a b c hz1⟩
theorem SetW.ones {w : World} {AR AT : Option Addr} {s : BSet} (_ : SetW w AR AT s) : ∀ u ∈ (s.rs.map prRow).flatten, u.oneCell' = true := by
 intro u hu
 obtain ⟨x, hx, hux⟩ := List.mem_flatten.1 hu
 obtain ⟨y, _, rfl⟩ := List.mem_map.1 hx
 simp [prRow] at hux
 rcases hux with rfl | rfl <;> rfl
theorem pr_flat (l : List (Int × Int)) : (l.map prRow).flatten = prsC l := by unfold prsC; rw [List.flatMap_def]; rfl
theorem SetTold.mk' {w w' : World} {AT AR' AT' : Option Addr} {cR' cT' : Nat} {s : BSet} (hb : Below w.heap.size w w') (hs : SetW w' AR' AT' s) (hn : NewOr w AT AT') : SetTold w w' AT s (.returned (.agg #[.bool s.no, .slice AR' s.rs.length cR', .slice AT' s.ts.length cT'])) := ⟨hb, AR', cR', AT', cT', rfl, hs, hn⟩
set_option maxRecDepth 100000 in
set_option maxHeartbeats 4000000 in
theorem put10_any (w : World) (s : BSet) (AR AT A : Option Addr) (cR cT c B m : Nat) (cs : List Int) (h : SetW w AR AT s) (hc : RI .i32 w B A m cs) (hB : B ≤ w.heap.size) (h1 : s.rs.length ≤ 2000000000) (h2 : s.ts.length ≤ 2000000000) (h3 : m ≤ maxLen) :
  Calls Tryz.prog 79 #[.agg #[.bool s.no, .slice AR s.rs.length cR, .slice AT s.ts.length cT], .slice A m c] w fun e w' => SetTold w w' AT (put1 s cs) e := by
 obtain ⟨i0, hi, hz0, hz1, hz2⟩ := info_parts infoRange8
 obtain ⟨j0, hj, hy0, hy1, hy2⟩ := info_parts infoRowC
 obtain ⟨S, hS⟩ : ∃ S, w.heap.size = S := ⟨_, rfl⟩
 obtain ⟨W, hW⟩ : ∃ W, W = (w.alloc (.cells #[.bool s.no, .slice AR s.rs.length cR, .slice AT s.ts.length cT] 34)).alloc (.cells #[.bool false, .slice none 0 0, .slice none 0 0] 34) := ⟨_, rfl⟩
 obtain ⟨r1, r2, hbW, hsW⟩ := two_rowsB hS hW
 have HSW := Lib.hid (h.next (by rw [hS]; exact hbW))
 have HRC := Lib.hid (hc.on hbW (by omega))
 have HBW := Lib.hid hbW
 have HR2 := Lib.hid r2
 have HSS := Lib.hid hS
 have HSZ := Lib.hid hsW
 have HLT : Hid (∀ ad, AT = some ad → ad.block < S) := Lib.hid (by rw [← hS]; exact h.lt)
 have HON := Lib.hid h.ones
 have HML := Lib.hid h3
 unfold maxLen at h3
 obtain ⟨nR, hnR⟩ : ∃ nR, nR = s.rs.length := ⟨_, rfl⟩
 obtain ⟨nT, hnT⟩ : ∃ nT, nT = s.ts.length := ⟨_, rfl⟩
 obtain ⟨b, hb⟩ : ∃ b, b = s.no := ⟨_, rfl⟩
 rw [← hnR] at h1 r1 hW ⊢
 rw [← hnT] at h2 r1 hW ⊢
 rw [← hb] at r1 hW ⊢
 have HR1 := Lib.hid r1
 have HN : Hid (nR = s.rs.length ∧ nT = s.ts.length ∧ b = s.no) := Lib.hid ⟨hnR, hnT, hb⟩
 clear h hc hbW r2 hsW hnR hnT hb r1
 by_cases hl1 : m = 1
 ·subst hl1
  obtain ⟨x, rfl⟩ : ∃ x, cs = [x] := by
   have := HRC.out.len
   match cs, this with
   | [y], _ => exact ⟨y, rfl⟩
  obtain ⟨ad, rfl, hbl, hcc⟩ := HRC.out.2 (by omega)
  have d0 : W.cell? ad = some (.int .i32 x) := by have := hcc 0 x rfl; rwa [Addr.add_zero'] at this
  have HP : Hid (put1 s [x] = ⟨b, s.rs ++ [(x, x)], s.ts⟩) := Lib.hid (by rw [HN.out.2.2]; rfl)
  have HBL : Hid (ad.block < S) := Lib.hid (by omega)
  have HD0 := Lib.hid d0
  clear hcc d0 hbl
  go_enter Tryz.func79, Tryz.ntmps79
  go_wp2_with (at_builtin; rw [← hW]; clear hW hS; refine wpList_append_si rfl _ _ 31 rfl (S + 2) 46 i0 (.agg #[.int .i32 0, .int .i32 0]) 2 8 Tryz.underlying31 hi hz0 hz1 hz2 rfl (by decide) (.slice none 0 0) 0 [] rfl (World.ownsRow_nil _ _ _ _) W.heap.size AR nR cR (s.rs.map prRow) rfl (by rw [HN.out.1]; exact HSW.out.r) HON.out (by unfold maxLen; omega) (by omega) (by have := HSZ.out; omega) ?_; intro v4 w4 hown hgr hat; rw [Nat.zero_add, List.nil_append, pr_flat] at hown; obtain ⟨A4, c4, rfl⟩ := row_form hown; have hb4 : Below (S + 2) W w4 := (Below.refl _ _).grown hgr (by have := HSZ.out; omega) (by intro b hb; cases hb); have HO4 := Lib.hid hown; have HB4 := Lib.hid hb4; clear hown hgr hat hb4)
  have d4 : w4.cell? ad = some (.int .i32 x) := (HB4.out.cell (p := ad) (by have := HBL.out; omega)).trans HD0.out
  refine wp_region_held (S := fun W' : World => W'.cell? ad = some (.int .i32 x)) (by kernel_rfl) ?_
  change wpAnyH _ _ _ _ _ _ _ _ w4.drew
  have hS1 : (fun W' : World => W'.cell? ad = some (.int .i32 x)) w4.drew := d4
  iterate 8 (refine wpH rfl rfl ?_; try simp only [Act.put, g1, g2, g3, g4, g5, g6])
  refine wpAnyH_one (i := 8) (by kernel_rfl) rfl (fun K hK => ?_)
  simp only [g4, g5, g6]
  go_simp
  obtain ⟨w5, hw5⟩ : ∃ w5, w5 = w4.drew.alloc (.cells #[.int .i32 x, .int .i32 x] 46) := ⟨_, rfl⟩
  have hb5 : Below w4.heap.size w4 w5 := by rw [hw5]; exact (below_drew (Below.refl _ _)).alloc (Nat.le_refl _) _
  have hs5 : w5.heap.size = w4.heap.size + 1 := by rw [hw5]; simp
  have hS5 : (fun W' : World => W'.cell? ad = some (.int .i32 x)) w5 := below_cell hb5 d4
  have hp5 : ∀ (j : Nat) (u : Value), [Value.int .i32 x, .int .i32 x][j]? = some u → w5.cell? ((⟨w4.heap.size, 0, none⟩ : Addr).add j) = some u := by rw [hw5]; exact pair_new8 w4.drew x x _
  rw [show (w4.alloc (.cells #[.int .i32 x, .int .i32 x] 46)).drew = w5 from by rw [hw5]; rfl]
  have HO5 := Lib.hid (own_next HO4.out hb5)
  have HB5 : Hid (Below (S + 2) W w5) := Lib.hid (HB4.out.trans (hb5.mono (by have := HB4.out.size; have := HSZ.out; omega)))
  refine hK.out _ _ hS5 (fun _ => ?_)
  clear hK hw5 hb5 d4
  try simp only [Act.put, g1, g2, g3, g4, g5, g6]
  refine wpAnyH_one (i := 9) (by kernel_rfl) rfl (fun K hK => ?_)
  refine step_append_lies _ (by rfl) _ _ _ (by rfl) (S + 2) 46 i0 (.agg #[.int .i32 0, .int .i32 0]) 2 8 Tryz.underlying31 hi hz0 hz1 hz2 rfl (by decide) _ nR (prsC s.rs) (by rfl) HO5.out ⟨w4.heap.size, 0, none⟩ 1 1 [.int .i32 x, .int .i32 x] (by rfl) (by rfl) hp5 (by intro u hu; simp at hu; subst hu; rfl) (by omega) (by unfold maxLen; omega) (by omega) (by have := HB5.out.size; have := HSZ.out; omega) _ rfl ?_
  intro g cap w6 hown6 hgr6 hat6 _
  have hb6 : Below (S + 2) w5 w6 := (Below.refl _ _).grown hgr6 (by have := HB5.out.size; have := HSZ.out; omega) (fun b hb => (HO5.out.lt b hb).1)
  have hS6 : (fun W' : World => W'.cell? ad = some (.int .i32 x)) w6 := (hb6.cell (p := ad) (by have := HBL.out; omega)).trans hS5
  have HB6 : Hid (Below (S + 2) W w6) := Lib.hid (HB5.out.trans hb6)
  have HO6 := Lib.hid hown6
  clear hown6 hgr6 hat6 hb6 hp5
  refine hK.out _ _ hS6 (fun _ => ?_)
  try simp only [Act.put, g1, g2, g3, g4, g5, g6]
  refine wpH rfl rfl ?_; try simp only [Act.put, g1, g2, g3, g4, g5, g6]
  refine wpAnyH_done (by kernel_rfl) ?_ _
  clear hK hS1 hS5 hS6
  have q1 := HR1.out.on HB6.out (by omega)
  have q2 := HR2.out.on HB6.out (by omega)
  have HQ1 := Lib.hid q1
  have HQ2 := Lib.hid q2
  have p0 := q1.cell (i := 0) rfl
  have p1 := q1.cell (i := 1) rfl
  have p2 := q1.cell (i := 2) rfl
  have f1 := q1.frozen 1
  have z0 := q2.cell (i := 0) rfl
  have z1 := q2.cell (i := 1) rfl
  have z2 := q2.cell (i := 2) rfl
  have y0 := q2.frozen 0
  have y1 := q2.frozen 1
  have y2 := q2.frozen 2
  clear q1 q2
  go_wp2
  have hlen : (s.rs ++ [(x, x)]).length = nR + 1 := by rw [List.length_append, ← HN.out.1]; rfl
  have hown : w6.ownsRow (S + 2) 46 2 (.slice (some ⟨g, 0, none⟩) (nR + 1) cap) (s.rs ++ [(x, x)]).length (prsC (s.rs ++ [(x, x)])) := by rw [hlen, prs_snocK]; exact HO6.out
  have hsi : SI 2 w6 w6.heap.size (some ⟨g, 0, none⟩) (s.rs ++ [(x, x)]).length ((s.rs ++ [(x, x)]).map prRow) := by
   rw [← hlen] at hown
   obtain ⟨A', c', hv, hsi⟩ := PrsR.of hown
   injection hv with hA
   rw [hA]
   exact hsi
  have hs6 : SetW w6 (some ⟨g, 0, none⟩) AT ⟨b, s.rs ++ [(x, x)], s.ts⟩ := ⟨hsi, (HSW.out.t.on HB6.out (by rw [HSZ.out]; exact Nat.le_refl _)).more (by have := HB6.out.size; omega), fun ad e => by have := HLT.out ad e; have := HB6.out.size; have := HSZ.out; omega⟩
  obtain ⟨hs9, hb9, hr9⟩ := put_end HSS.out (HBW.out.trans (HB6.out.mono (by omega))) HQ1.out HQ2.out (by intro y hy i; simp at hy; rcases hy with rfl | rfl | rfl | rfl | rfl | rfl <;> simp) hs6 (fun ad e => by have := HLT.out ad e; omega) 1 (.slice (some ⟨g, 0, none⟩) (nR + 1) cap) (.bool b) (.slice (some ⟨g, 0, none⟩) (nR + 1) cap) (.slice AT nT cT) _ rfl
  have e0 := hr9.cell (i := 0) rfl
  have e1 := hr9.cell (i := 1) rfl
  have e2 := hr9.cell (i := 2) rfl
  unfold s3 at e0 e1 e2 hs9 hb9
  refine bodyPost_ret (v := .agg #[.bool b, .slice (some ⟨g, 0, none⟩) (nR + 1) cap, .slice AT nT cT]) (by simp [results, Tryz.results79, go_sem, e0, e1, e2]) rfl ?_
  rw [HP.out]
  exact ⟨by rw [HSS.out]; exact hb9, _, cap, _, cT, by rw [hlen, ← HN.out.2.1], hs9, NewOr.refl _ _⟩
 ·have HP : Hid (put1 s cs = ⟨b, s.rs, s.ts ++ [cs]⟩) := Lib.hid (by rw [put1_text s (by rw [HRC.out.len]; exact hl1), HN.out.2.2])
  have e1 : ((m : Int) == 1) = false := by simp; omega
  obtain ⟨vs, hvs, hsi⟩ := HSW.out.t.vals
  have HVS := Lib.hid hvs
  have HSI := Lib.hid hsi
  clear hvs hsi hl1
  go_enter Tryz.func79, Tryz.ntmps79
  go_wp2_with (first | (at_builtin; rw [← hW]; clear hW hS; refine wpList_append_si rfl _ _ 32 rfl (S + 2) 39 j0 (.slice none 0 0) 1 24 Tryz.underlying32 hj hy0 hy1 hy2 rfl (by decide) (.slice none 0 0) 0 [] rfl (World.ownsRow_nil _ _ _ _) W.heap.size AT nT cT (vs.map fun v => [v]) rfl (by rw [HN.out.2.1]; exact HSI.out) (by rw [one_flat]; exact HVS.out.one) (by unfold maxLen; omega) (by omega) (by have := HSZ.out; omega) ?_; intro v4 w4 hown hgr hat; rw [Nat.zero_add, List.nil_append, one_flat] at hown; obtain ⟨A4, c4, rfl⟩ := row_form hown; have hb4 : Below (S + 2) W w4 := (Below.refl _ _).grown hgr (by have := HSZ.out; omega) (by intro b hb; cases hb); have HO4 := Lib.hid hown; have HB4 := Lib.hid hb4; clear hown hgr hat hb4) | (at_builtin; refine wpList_append_own _ rfl _ _ 32 rfl (S + 2) 39 j0 (.slice none 0 0) 1 24 Tryz.underlying32 hj hy0 hy1 hy2 rfl (by decide) _ nT vs rfl (HO4.out.alloc _) _ 1 1 [.slice A m c] rfl rfl (cell_one_new _ _ _) (by intro u hu; simp at hu; subst hu; rfl) (by unfold maxLen; omega) (by omega) (by have := HB4.out.size; have := HSZ.out; simp; omega) ?_; intro v6 w6 hown6 hgr6 _; have hb6 : Below (S + 2) W w6 := (HB4.out.alloc (by have := HB4.out.size; have := HSZ.out; omega) _).grown hgr6 (by have := HB4.out.size; have := HSZ.out; simp; omega) (fun b hb => (HO4.out.lt b hb).1); obtain ⟨A6, c6, rfl⟩ := row_form hown6; have HO6 := Lib.hid hown6; have HB6 := Lib.hid hb6; have q1 := HR1.out.on hb6 (by omega); have q2 := HR2.out.on hb6 (by omega); have HQ1 := Lib.hid q1; have HQ2 := Lib.hid q2; have p0 := q1.cell (i := 0) rfl; have p1 := q1.cell (i := 1) rfl; have p2 := q1.cell (i := 2) rfl; have f1 := q1.frozen 2; have z0 := q2.cell (i := 0) rfl; have z1 := q2.cell (i := 1) rfl; have z2 := q2.cell (i := 2) rfl; have y0 := q2.frozen 0; have y1 := q2.frozen 1; have y2 := q2.frozen 2; clear q1 q2 hown6 hgr6 hb6))
  have hlen : (s.ts ++ [cs]).length = nT + 1 := by rw [List.length_append, ← HN.out.2.1]; rfl
  have hrv : RowsV w6 W.heap.size (vs ++ [.slice A m c]) (s.ts ++ [cs]) := by
   have hri := (HRC.out.on HB6.out (by have := HSS.out; omega)).more (B' := W.heap.size) (by have := HSZ.out; have := HSS.out; omega)
   have hln := HRC.out.len
   rw [← hln] at hri ⊢
   exact (HVS.out.on HB6.out (by rw [HSZ.out]; exact Nat.le_refl _)).snoc hri (by rw [hln]; exact HML.out)
  obtain ⟨A', c', hv, hrr⟩ := hrv.readsQ (S := S + 2) (n := nT + 1) hlen.symm HO6.out
  injection hv with hA _ _
  have hs6 : SetW w6 AR A6 ⟨b, s.rs, s.ts ++ [cs]⟩ := ⟨(HSW.out.r.on HB6.out (by rw [HSZ.out]; exact Nat.le_refl _)).more (by have := HB6.out.size; omega), by rw [hA]; exact hrr.toR (by have := HB6.out.size; omega), fun ad e => by
   obtain ⟨g, cap, hv, hg, hlt⟩ := HO6.out.form (by omega)
   injection hv with hv
   rw [e] at hv
   injection hv with hv
   subst hv
   exact hlt⟩
  have hge : ∀ ad, A6 = some ad → S + 2 ≤ ad.block := fun ad e => by
   obtain ⟨g, cap, hv, hg, hlt⟩ := HO6.out.form (by omega)
   injection hv with hv
   rw [e] at hv
   injection hv with hv
   subst hv
   exact hg
  obtain ⟨hs9, hb9, hr9⟩ := put_end HSS.out (HBW.out.trans (HB6.out.mono (by omega))) HQ1.out HQ2.out (by intro y hy i; simp at hy; rcases hy with rfl | rfl | rfl | rfl | rfl | rfl <;> simp) hs6 (fun ad e => by have := hge ad e; omega) 2 (.slice A6 (nT + 1) c6) (.bool b) (.slice AR nR cR) (.slice A6 (nT + 1) c6) _ rfl
  have e0 := hr9.cell (i := 0) rfl
  have e1 := hr9.cell (i := 1) rfl
  have e2 := hr9.cell (i := 2) rfl
  unfold s3 at e0 e1 e2 hs9 hb9
  refine bodyPost_ret (v := .agg #[.bool b, .slice AR nR cR, .slice A6 (nT + 1) c6]) (by simp [results, Tryz.results79, go_sem, e0, e1, e2]) rfl ?_
  rw [HP.out]
  exact ⟨by rw [HSS.out]; exact hb9, _, cR, _, c6, by rw [hlen, ← HN.out.1], hs9, fun ad e => .inr (by have := hge ad e; have := HSS.out; omega)⟩
end Go.Proofs.YthgiikhkcpbpfaaGreatDoor.C
namespace Go.Proofs.YthgiikhkcpbpfaaGreatDoor.C
open Go.RowKit

theorem str_appT (a b : List UInt8) : str a ++ str b = str (a ++ b) := by
 unfold str
 apply ByteArray.ext
 simp
set_option maxRecDepth 100000 in
set_option maxHeartbeats 1000000 in
theorem str_sizeE (l : List UInt8) : (str l).size = l.length := by simp [str, ByteArray.size]
theorem toUInt8_toNat (n : Nat) (h : n < 256) : n.toUInt8.toNat = n := by simp [Nat.toUInt8, UInt8.toNat_ofNat']; omega
theorem conv_one (W : World) (x : Int) (h0 : 0 ≤ x) (h1 : x ≤ 255) : (convert 44 9 (.slice (some ⟨W.heap.size, 0, none⟩) 1 1)).run Tryz.prog (W.alloc (.cells #[.int .u8 x] 5)) = .ok (.string (str [x.toNat.toUInt8])) (W.alloc (.cells #[.int .u8 x] 5)) := by
 refine run_convert_bytes_back _ 44 9 5 ⟨W.heap.size, 0, none⟩ 1 [x.toNat.toUInt8] Tryz.underlying44 Tryz.underlying5 Tryz.underlying9 ?_
 intro j hj
 have hj0 : j = 0 := by simp at hj; omega
 subst hj0
 have := cell_one_new W (.int .u8 x) 5 0 _ rfl
 rw [this]
 simp only [List.getElem_cons_zero]
 rw [toUInt8_toNat _ (by omega), Int.toNat_of_nonneg h0]



set_option maxHeartbeats 400000 in
theorem refCR_any (c : Int) (w : World) : Calls Tryz.prog 51 #[.int .i32 c] w fun e w' => e = .returned (.bool (rightB c)) ∧ w = w' := by
 by_cases h1 : c < -256
 ·have hr : rightB c = false := by simp [rightB]; omega
  rw [hr]; clear hr
  have t1 : decide (-256 ≤ c) = false := by simp; omega
  have t2 : decide (57343 < c) = false := by simp; omega
  go_enter Tryz.func51, Tryz.ntmps51
  go_wp2
  all_goals go_ret
  all_goals exact ⟨rfl, rfl⟩
 by_cases h2 : c < 55296
 ·have hr : rightB c = true := by simp [rightB]; omega
  rw [hr]; clear hr
  go_enter Tryz.func51, Tryz.ntmps51
  go_wp2
  all_goals go_ret
  all_goals exact ⟨rfl, rfl⟩
 have t3 : decide (c < 55296) = false := by simpa using h2
 by_cases h3 : 57343 < c
 ·by_cases h4 : c ≤ 1114111
  ·have hr : rightB c = true := by simp [rightB]; omega
   rw [hr]; clear hr
   go_enter Tryz.func51, Tryz.ntmps51
   go_wp2
   all_goals go_ret
   all_goals exact ⟨rfl, rfl⟩
  ·have hr : rightB c = false := by simp [rightB]; omega
   rw [hr]; clear hr
   have t4 : decide (c ≤ 1114111) = false := by simpa using h4
   go_enter Tryz.func51, Tryz.ntmps51
   go_wp2
   all_goals go_ret
   all_goals exact ⟨rfl, rfl⟩
 ·have hr : rightB c = false := by simp [rightB]; omega
  rw [hr]; clear hr
  have t5 : decide (57343 < c) = false := by simpa using h3
  go_enter Tryz.func51, Tryz.ntmps51
  go_wp2
  all_goals go_ret
  all_goals exact ⟨rfl, rfl⟩
theorem refCR_is (c : Int) (w : World) (r : Bool) (hr : rightB c = r) : Calls Tryz.prog 51 #[.int .i32 c] w fun e w' => e = .returned (.bool r) ∧ w = w' := by
 subst hr
 exact refCR_any c w

set_option maxHeartbeats 400000 in
set_option maxHeartbeats 400000 in
theorem refByte_yes (c : Int) (w : World) (h0 : -256 ≤ c) (h1 : c < 0) : Calls Tryz.prog 162 #[.int .i32 c] w fun e w' => e = .returned (.tuple #[.int .u8 (-1 - c), .bool true]) ∧ w = w' := by
 have t1 : decide (0 ≤ c) = false := by simp; omega
 go_enter Tryz.func162, Tryz.ntmps162
 go_wp2
 go_ret2
 exact ⟨rfl, rfl⟩
set_option maxHeartbeats 400000 in
theorem refByte_no (c : Int) (w : World) (h0 : c < -256 ∨ 0 ≤ c) : Calls Tryz.prog 162 #[.int .i32 c] w fun e w' => e = .returned (.tuple #[.int .u8 0, .bool false]) ∧ w = w' := by
 rcases h0 with h | h
 ·have t1 : decide (0 ≤ c) = false := by simp; omega
  go_enter Tryz.func162, Tryz.ntmps162
  go_wp2
  all_goals go_ret2
  all_goals exact ⟨rfl, rfl⟩
 ·go_enter Tryz.func162, Tryz.ntmps162
  go_wp2
  all_goals go_ret2
  all_goals exact ⟨rfl, rfl⟩

def HexR (n0 nn : Nat) (d : List UInt8) : Prop := (d = [] ∧ nn = n0) ∨ (d ≠ [] ∧ ((nn = 0 ∧ hexL n0 = d) ∨ (0 < nn ∧ hexL n0 = hexL nn ++ d)))
theorem hexR_zero (n : Nat) : HexR n n [] := .inl ⟨rfl, rfl⟩
theorem hexR_step {n0 nn : Nat} {d : List UInt8} (h : HexR n0 nn d) (hgo : 0 < nn ∨ d = []) : HexR n0 (nn / 16) (dig (nn % 16) :: d) := by
 have key : hexL n0 = hexL nn ++ d := by
  rcases h with ⟨rfl, rfl⟩ | ⟨hd, h⟩
  ·simp
  ·rcases h with ⟨h1, _⟩ | ⟨_, h2⟩
   ·rcases hgo with h3 | h3
    ·omega
    ·exact absurd h3 hd
   ·exact h2
 refine .inr ⟨by simp, ?_⟩
 by_cases hs : nn < 16
 ·left
  refine ⟨by omega, ?_⟩
  rw [key, hexL_small hs, Nat.mod_eq_of_lt hs]
  rfl
 ·right
  refine ⟨by omega, ?_⟩
  rw [key, hexL_big hs]
  simp
theorem hexR_end {n0 : Nat} {d : List UInt8} (h : HexR n0 0 d) (hd : d ≠ []) : hexL n0 = d := by
 rcases h with ⟨h1, _⟩ | ⟨_, h⟩
 ·exact absurd h1 hd
 ·rcases h with ⟨_, h2⟩ | ⟨h3, _⟩
  ·exact h2
  ·omega
theorem hex_cut (x : Nat) (h : x < 16) : (ByteArray.mk #[48, 49, 50, 51, 52, 53, 54, 55, 56, 57, 97, 98, 99, 100, 101, 102]).extract x (x + 1) = str [dig x] := by
 have : ∀ x : Fin 16, (ByteArray.mk #[48, 49, 50, 51, 52, 53, 54, 55, 56, 57, 97, 98, 99, 100, 101, 102]).extract x.val (x.val + 1) = str [dig x.val] := by decide +kernel
 exact this ⟨x, h⟩

set_option maxHeartbeats 2000000 in
theorem hex_one (n : Nat) (hn : n ≤ 1114111) (w : World) : Calls Tryz.prog 163 #[.int .i64 n, .int .i64 1] w fun e w' => e = .returned (.string (str (hexL n))) ∧ w = w' := by
 go_enter Tryz.func163, Tryz.ntmps163
 go_wp2
 go_loopg [0, 5] (n + 1) (fun g nv sv wr => ∃ (nn : Nat) (d : List UInt8), nv = .int .i64 nn ∧ sv = .string (str d) ∧ nn ≤ n ∧ d.length + nn ≤ n + 1 ∧ HexR n nn d ∧ (d = [] → nn + 1 ≤ g) ∧ nn ≤ g ∧ w = wr)
 case atStart => exact ⟨n, [], rfl, rfl, Nat.le_refl _, by simp, hexR_zero n, fun _ => Nat.le_refl _, by omega, rfl⟩
 case round =>
  obtain ⟨nn, d, rfl, rfl, hnn, hdl, hst, hg1, hg2, rfl⟩ := hrel
  have HS := Lib.hid hst
  have HG := Lib.hid hg1
  clear hst hg1
  have hsd : (str d).size ≤ n + 1 := by rw [str_sizeE]; omega
  have hq1 : ((nn % 16 : Nat) : Int) = (nn : Int) % 16 := by omega
  obtain ⟨q, hq⟩ : ∃ q : Nat, q = nn % 16 := ⟨_, rfl⟩
  rw [← hq] at hq1
  have hq2 : q < 16 := by omega
  have hcut := hex_cut q hq2
  have hz : (str [dig q]).size + (str d).size ≤ 9223372036854775807 := by
   have e1 := str_sizeE [dig q]
   have e2 : [dig q].length = 1 := rfl
   omega
  have happ : str [dig q] ++ str d = str (dig q :: d) := str_appT [dig q] d
  have hq3 : (nn : Int) % 16 = (q : Int) := hq1.symm
  have HQ := Lib.hid hq
  clear hq hq1
  by_cases hgo : 0 < nn
  ·have hst := hexR_step HS.out (.inl hgo)
   rw [← HQ.out] at hst
   have HS2 := Lib.hid hst
   clear hst
   go_wp2
   go_roundg (nn / 16)
   case measure => have := HG.out; omega
   case rel => exact ⟨nn / 16, dig q :: d, by go_num, rfl, by omega, by simp; omega, HS2.out, fun h => (by cases h), Nat.le_refl _, rfl⟩
  ·have hn0 : nn = 0 := by omega
   subst hn0
   by_cases hd : d = []
   ·subst hd
    have hst := hexR_step HS.out (.inr rfl)
    rw [← HQ.out] at hst
    have HS2 := Lib.hid hst
    clear hst
    have h0 : q = 0 := by have := HQ.out; omega
    subst h0
    go_wp2
    go_roundg 0
    case measure => have := HG.out trivial; omega
    case rel => exact ⟨0, [dig 0], rfl, rfl, by omega, by simp, HS2.out, fun h => (by cases h), Nat.le_refl _, rfl⟩
   ·have hd1 : ¬ (str d).size < 1 := by
     rw [str_sizeE]
     have : 0 < d.length := List.length_pos_iff.2 hd
     omega
    have hend := hexR_end HS.out hd
    have HE := Lib.hid hend
    clear hend
    go_wp2
    go_ret
    exact ⟨by rw [HE.out]; rfl, rfl⟩

set_option maxHeartbeats 2000000 in
theorem hex_two (b : Nat) (hb : b ≤ 255) (w : World) : Calls Tryz.prog 163 #[.int .i64 b, .int .i64 2] w fun e w' => e = .returned (.string (str [dig (b / 16), dig (b % 16)])) ∧ w = w' := by
 obtain ⟨p, hp⟩ : ∃ p : Nat, p = b / 16 := ⟨_, rfl⟩
 obtain ⟨q, hq⟩ : ∃ q : Nat, q = b % 16 := ⟨_, rfl⟩
 rw [← hp, ← hq]
 have hp1 : (b : Int) / 16 = (p : Int) := by omega
 have hq1 : (b : Int) % 16 = (q : Int) := by omega
 have hp2 : p < 16 := by omega
 have hq2 : q < 16 := by omega
 have hp3 : (p : Int) % 16 = (p : Int) := by omega
 have hp4 : (p : Int) / 16 = 0 := by omega
 have hcq := hex_cut q hq2
 have hcp := hex_cut p hp2
 have a1 : str [dig q] ++ str [] = str [dig q] := str_appT [dig q] []
 have a2 : str [dig p] ++ str [dig q] = str [dig p, dig q] := str_appT [dig p] [dig q]
 have z0 : (str ([] : List UInt8)).size = 0 := rfl
 have z1 : (str [dig q]).size = 1 := rfl
 have z2 : (str [dig p]).size = 1 := rfl
 have z3 : (str [dig p, dig q]).size = 2 := rfl
 clear hp hq
 go_enter Tryz.func163, Tryz.ntmps163
 go_wp2
 go_loopg [0, 5] 2 (fun g nv sv wr => w = wr ∧ ((g = 2 ∧ nv = .int .i64 b ∧ sv = .string (str [])) ∨ (g = 1 ∧ nv = .int .i64 p ∧ sv = .string (str [dig q])) ∨ (g = 0 ∧ nv = .int .i64 0 ∧ sv = .string (str [dig p, dig q]))))
 case atStart => exact ⟨rfl, .inl ⟨rfl, rfl, rfl⟩⟩
 case round =>
  obtain ⟨rfl, hrel⟩ := hrel
  rcases hrel with ⟨hg, rfl, rfl⟩ | ⟨hg, rfl, rfl⟩ | ⟨hg, rfl, rfl⟩
  ·have HG := Lib.hid hg
   clear hg
   by_cases hb0 : 0 < b
   all_goals
    go_wp2
    go_roundg 1
    case measure => have := HG.out; omega
    case rel => exact ⟨rfl, .inr (.inl ⟨rfl, by first | rfl | go_num, rfl⟩)⟩
  ·have HG := Lib.hid hg
   clear hg
   by_cases hb0 : 0 < p
   all_goals
    go_wp2
    go_roundg 0
    case measure => have := HG.out; omega
    case rel => exact ⟨rfl, .inr (.inr ⟨rfl, by first | rfl | go_num, rfl⟩)⟩
  ·clear hg
   go_wp2
   go_ret
   exact ⟨rfl, rfl⟩


theorem bytes_assoc (a b c : ByteArray) : a ++ b ++ c = a ++ (b ++ c) := by
 apply ByteArray.ext
 simp

set_option maxHeartbeats 4000000 in
theorem refText_any (w : World) (Bx : Nat) (Ax : Option Addr) (n cx : Nat) (xs : List Int) (hx : RI .i32 w Bx Ax n xs) (hBx : Bx ≤ w.heap.size) (hn : n ≤ 1000) :
  Calls Tryz.prog 125 #[.slice Ax n cx] w fun e w' => e = .returned (.string (str (textL xs))) ∧ Below w.heap.size w w' := by
 have HX := Lib.hid hx
 clear hx
 go_enter Tryz.func125, Tryz.ntmps125
 go_wp2
 go_loopw [3, 4] (fun sv iv wr => ∃ i : Nat, i ≤ n ∧ sv = .string (str (textL (xs.take i))) ∧ iv = .int .i64 i ∧ Below w.heap.size w wr) (fun _ iv _ => n - (intOf iv).toNat)
 case atStart => exact ⟨0, Nat.zero_le _, rfl, rfl, Below.refl _ _⟩
 case round =>
  obtain ⟨i, hin, rfl, rfl, hb⟩ := hrel
  by_cases hlt : i < n
  ·obtain ⟨ad, c, rfl, hbl, hc, hcell⟩ := HX.out.at_ hlt
   have hcr : wr.cell? (ad.add i) = some (.int .i32 c) := (hb.cell (p := ad.add i) (by rw [block_of_add]; omega)).trans hcell
   have hTI : (str (textL (xs.take i))).size ≤ 10000 := by
    rw [str_sizeE]
    have h1 := textL_le (xs.take i)
    have h2 : (xs.take i).length ≤ i := List.length_take_le _ _
    omega
   have hsn : str (textL (xs.take i)) ++ str (shown c) = str (textL (xs.take (i + 1))) := by rw [str_appT, take_snoc hc, textL_snoc]
   have HSN := Lib.hid hsn
   clear hsn hc hcell
   generalize str (textL (xs.take i)) = TI at *
   by_cases h1 : ¬ (-256 ≤ c ∧ c < 55296 ∨ 57343 < c ∧ c ≤ 1114111)
   ·have hsh : shown c = [92, 63] := by
     unfold shown
     rw [if_neg (by omega), if_pos h1]
    have HSH := Lib.hid hsh
    clear hsh
    have hr : rightB c = false := by simp [rightB]; omega
    have HR := Lib.hid hr
    clear hr
    go_wp2_with fail
    refine (refByte_no c wr (by omega)).mono ?_
    rintro e w' ⟨rfl, rfl⟩
    go_wp2_with fail
    refine (refCR_is c wr _ HR.out).mono ?_
    rintro e w' ⟨rfl, rfl⟩
    go_wp2
    go_roundw
    case rel => exact ⟨i + 1, by omega, by rw [← HSN.out, HSH.out]; rfl, by go_num, hb⟩
    case measure => simp [intOf]; omega
   have h1' : -256 ≤ c ∧ c < 55296 ∨ 57343 < c ∧ c ≤ 1114111 := by omega
   clear h1
   have hr : rightB c = true := by simp [rightB]; omega
   have HR := Lib.hid hr
   clear hr
   by_cases h2 : -256 ≤ c ∧ c < 0
   ·obtain ⟨h2a, h2b⟩ := h2
    have hsh : shown c = [92, 120, dig ((-1 - c).toNat / 16), dig ((-1 - c).toNat % 16)] := by
     unfold shown
     rw [if_pos ⟨h2a, h2b⟩]
    obtain ⟨b, hb0⟩ : ∃ b : Nat, -1 - c = b := ⟨(-1 - c).toNat, by omega⟩
    rw [hb0, Int.toNat_natCast] at hsh
    have hb2 : b ≤ 255 := by omega
    have HSH := Lib.hid hsh
    have HB := Lib.hid hb0
    clear hsh hb0
    go_wp2_with fail
    refine (refByte_yes c wr h2a h2b).mono ?_
    rintro e w' ⟨rfl, rfl⟩
    rw [HB.out]
    go_wp2_with fail
    refine (refCR_is c wr _ HR.out).mono ?_
    rintro e w' ⟨rfl, rfl⟩
    go_wp2_with fail
    refine (hex_two b hb2 wr).mono ?_
    rintro e w' ⟨rfl, rfl⟩
    have z2 : (str [dig (b / 16), dig (b % 16)]).size = 2 := rfl
    have heq : TI ++ ByteArray.mk #[92, 120] ++ str [dig (b / 16), dig (b % 16)] = str (textL (xs.take (i + 1))) := by
     rw [← HSN.out, HSH.out, bytes_assoc]
     rfl
    have HEQ := Lib.hid heq
    clear heq
    generalize str [dig (b / 16), dig (b % 16)] = HX2 at *
    go_wp2
    go_roundw
    case rel => exact ⟨i + 1, by omega, by rw [HEQ.out], by go_num, hb⟩
    case measure => simp [intOf]; omega
   have c0 : 0 ≤ c := by omega
   by_cases h3 : c = 10
   ·subst h3
    have hsh : shown 10 = [92, 110] := by
     rfl
    have HSH := Lib.hid hsh
    clear hsh
    go_wp2_with fail
    refine (refByte_no 10 wr (by omega)).mono ?_
    rintro e w' ⟨rfl, rfl⟩
    go_wp2_with fail
    refine (refCR_is 10 wr _ HR.out).mono ?_
    rintro e w' ⟨rfl, rfl⟩
    go_wp2
    go_roundw
    case rel => exact ⟨i + 1, by omega, by rw [← HSN.out, HSH.out]; rfl, by go_num, hb⟩
    case measure => simp [intOf]; omega
   by_cases h4 : c = 92
   ·subst h4
    have hsh : shown 92 = [92, 92] := by
     rfl
    have HSH := Lib.hid hsh
    clear hsh
    go_wp2_with fail
    refine (refByte_no 92 wr (by omega)).mono ?_
    rintro e w' ⟨rfl, rfl⟩
    go_wp2_with fail
    refine (refCR_is 92 wr _ HR.out).mono ?_
    rintro e w' ⟨rfl, rfl⟩
    go_wp2
    go_roundw
    case rel => exact ⟨i + 1, by omega, by rw [← HSN.out, HSH.out]; rfl, by go_num, hb⟩
    case measure => simp [intOf]; omega
   have e3 : (c == 10) = false := by simpa using h3
   have e4 : (c == 92) = false := by simpa using h4
   by_cases h5 : 32 ≤ c ∧ c ≤ 126
   ·obtain ⟨h5a, h5b⟩ := h5
    have hsh : shown c = [c.toNat.toUInt8] := by
     unfold shown
     rw [if_neg (by omega), if_neg (by omega), if_neg h4, if_neg h3, if_pos ⟨h5a, h5b⟩]
    have HSH := Lib.hid hsh
    have hcv := fun W => conv_one W c (by omega) (by omega)
    have z1 : (str [c.toNat.toUInt8]).size = 1 := rfl
    clear hsh h3 h4 h1'
    go_wp2_with fail
    refine (refByte_no c wr (by omega)).mono ?_
    rintro e w' ⟨rfl, rfl⟩
    go_wp2_with fail
    refine (refCR_is c wr _ HR.out).mono ?_
    rintro e w' ⟨rfl, rfl⟩
    go_wp2
    go_roundw
    case rel => exact ⟨i + 1, by omega, by rw [← HSN.out, HSH.out], by go_num, hb.alloc hb.size _⟩
    case measure => simp [intOf]; omega
   have hsh : shown c = [92, 117, 123] ++ hexL c.toNat ++ [125] := by
    unfold shown
    rw [if_neg (by omega), if_neg (by omega), if_neg h4, if_neg h3, if_neg h5]
   have hle : c ≤ 1114111 := by omega
   have hlen := hexL_len 5 c.toNat (by have h16 : (16 : Nat) ^ (5 + 1) = 16777216 := (by decide); omega)
   have h6 : c < 32 ∨ 126 < c := by omega
   have HSH := Lib.hid hsh
   have hxs : (str (hexL c.toNat)).size ≤ 6 := by rw [str_sizeE]; exact hlen
   have heq : TI ++ ByteArray.mk #[92, 117, 123] ++ str (hexL c.toNat) ++ ByteArray.mk #[125] = str (textL (xs.take (i + 1))) := by
    rw [← HSN.out, HSH.out, ← str_appT, ← str_appT, ← bytes_assoc, ← bytes_assoc]
    rfl
   have HEQ := Lib.hid heq
   have hc2 : c = ((c.toNat : Nat) : Int) := by omega
   have HC2 := Lib.hid hc2
   have hcn : c.toNat ≤ 1114111 := by omega
   clear hsh h3 h4 h1' h5 hlen heq hc2
   rcases h6 with h6 | h6
   all_goals
    go_wp2_with fail
    refine (refByte_no c wr (by omega)).mono ?_
    rintro e w' ⟨rfl, rfl⟩
    go_wp2_with fail
    refine (refCR_is c wr _ HR.out).mono ?_
    rintro e w' ⟨rfl, rfl⟩
    have t1 : decide (126 < c) = decide (126 < c) := rfl
    clear t1
    go_wp2_with fail
    rw [HC2.out]
    refine (hex_one c.toNat hcn wr).mono ?_
    rintro e w' ⟨rfl, rfl⟩
    generalize str (hexL c.toNat) = HX2 at *
    go_wp2
    go_roundw
    case rel => exact ⟨i + 1, by omega, by rw [HEQ.out], by go_num, hb⟩
    case measure => simp [intOf]; omega
  ·have e1 : xs.take i = xs := List.take_of_length_le (by rw [HX.out.len]; omega)
   rw [e1]
   clear e1
   go_wp2
   go_ret
   exact ⟨rfl, hb⟩
end Go.Proofs.YthgiikhkcpbpfaaGreatDoor.C
namespace Go.Proofs.YthgiikhkcpbpfaaGreatDoor.C
open Go.RowKit

theorem Rw.seven {w : World} {b : Nat} {t : TypeId} {v0 v1 v2 v3 v4 v5 v6 : Value} (h : Rw w b t #[v0, v1, v2, v3, v4, v5, v6]) : w.cell? ⟨b, 0, none⟩ = some v0 ∧ w.cell? ⟨b, 1, none⟩ = some v1 ∧ w.cell? ⟨b, 2, none⟩ = some v2 ∧ w.cell? ⟨b, 3, none⟩ = some v3 ∧ w.cell? ⟨b, 4, none⟩ = some v4 ∧ w.cell? ⟨b, 5, none⟩ = some v5 ∧ w.cell? ⟨b, 6, none⟩ = some v6 :=
 ⟨h.cell (i := 0) rfl, h.cell (i := 1) rfl, h.cell (i := 2) rfl, h.cell (i := 3) rfl, h.cell (i := 4) rfl, h.cell (i := 5) rfl, h.cell (i := 6) rfl⟩
theorem Rw.four {w : World} {b : Nat} {t : TypeId} {v0 v1 v2 v3 : Value} (h : Rw w b t #[v0, v1, v2, v3]) : w.cell? ⟨b, 0, none⟩ = some v0 ∧ w.cell? ⟨b, 1, none⟩ = some v1 ∧ w.cell? ⟨b, 2, none⟩ = some v2 ∧ w.cell? ⟨b, 3, none⟩ = some v3 :=
 ⟨h.cell (i := 0) rfl, h.cell (i := 1) rfl, h.cell (i := 2) rfl, h.cell (i := 3) rfl⟩
theorem Rw.fz7 {w : World} {b : Nat} {t : TypeId} {xs : Array Value} (h : Rw w b t xs) : w.frozen? ⟨b, 0, none⟩ = false ∧ w.frozen? ⟨b, 1, none⟩ = false ∧ w.frozen? ⟨b, 2, none⟩ = false ∧ w.frozen? ⟨b, 3, none⟩ = false ∧ w.frozen? ⟨b, 4, none⟩ = false ∧ w.frozen? ⟨b, 5, none⟩ = false ∧ w.frozen? ⟨b, 6, none⟩ = false :=
 ⟨h.frozen 0, h.frozen 1, h.frozen 2, h.frozen 3, h.frozen 4, h.frozen 5, h.frozen 6⟩
def no32B (xs : List Value) : Bool := xs.all fun x => match x with | .int .i32 _ => false | _ => true
theorem no32_of {xs : List Value} (h : no32B xs = true) : ∀ x ∈ xs, ∀ u, x ≠ .int .i32 u := by
 rintro x hx u rfl
 have := List.all_eq_true.1 h _ hx
 simp at this
theorem r_end {w w5 : World} {S b : Nat} {t : TypeId} {u0 u1 u2 u3 u4 u5 u6 : Value} (hb : Below S w w5) (hS : S ≤ w5.heap.size) (hSb : S ≤ b) (hz : Rw w5 b t #[u0, u1, u2, u3, u4, u5, u6])
  (hu : no32B [u0, u1, u2, u3, u4, u5, u6] = true) {AR AT : Option Addr} {s : BSet} (hs : SetW w5 AR AT s) (hA : ∀ ad, AT = some ad → ad.block ≠ b) (v0 v1 v2 v3 v4 v5 v6 : Value) :
  ∀ w9, w9 = s7 w5 b v0 v1 v2 v3 v4 v5 v6 → SetW w9 AR AT s ∧ Below S w w9 ∧ Rw w9 b t #[v0, v1, v2, v3, v4, v5, v6] ∧ ∀ B A n zs, B ≤ w5.heap.size → RI .i32 w5 B A n zs → RI .i32 w9 w9.heap.size A n zs := by
 rintro w9 rfl
 have hn : No32 w5 b := hz.no32 (no32_of hu)
 have hf := s7_fr w5 b v0 v1 v2 v3 v4 v5 v6
 exact ⟨hs.box hf hn hA, s7_below v0 v1 v2 v3 v4 v5 v6 hb hSb hS, s7_rw v0 v1 v2 v3 v4 v5 v6 hz, fun B A n zs hB h => (h.box hf hn hB).more (Nat.le_trans hB hf.size)⟩
def namedC (L : Loc) (cs : List Int) (b : Nat) : Except BEr (List Int) := if namedT L.ord (textL cs) ≠ [] then .ok (namedT L.ord (textL cs)) else if placeV L.ord cs < 0 then .error (31, b) else .ok cs
def NdTold (w w' : World) (L : Loc) (cs : List Int) (b : Nat) (Al : Option Addr) (n cl : Nat) (k : Nat) (s : BSet) (AR : Option Addr) (cR : Nat) (AT : Option Addr) (cT : Nat) (e : Ending) : Prop :=
 Below w.heap.size w w' ∧ ∃ (A' : Option Addr) (c' : Nat) (cs' : List Int) (E P : Nat), e = .returned (.tuple #[rvV Al n cl k s.no AR s.rs.length cR AT s.ts.length cT E P, .slice A' cs'.length c']) ∧ RI .i32 w' w'.heap.size A' cs'.length cs' ∧ SetW w' AR AT s ∧ ((E = 0 ∧ P = 0 ∧ namedC L cs b = .ok cs') ∨ (E ≠ 0 ∧ namedC L cs b = .error (E, P)))
set_option maxRecDepth 100000 in
set_option maxHeartbeats 4000000 in
theorem named10_any (w : World) (B Bc : Nat) (v1 v2 v3 v4 : Value) (L : Loc) (Al : Option Addr) (n cl k : Nat) (s : BSet) (AR : Option Addr) (cR : Nat) (AT : Option Addr) (cT : Nat) (A : Option Addr) (m c : Nat) (cs : List Int) (z : Int) (b : Nat)
  (hL : LocR w B v1 v2 v3 v4 L) (hB : B ≤ w.heap.size) (h5 : L.ord.length ≤ 500) (hs : SetW w AR AT s) (hc : RI .i32 w Bc A m cs) (hBc : Bc ≤ w.heap.size) (hm : m ≤ 1000) (hz : z = (b : Int)) :
  Calls Tryz.prog 126 #[rvV Al n cl k s.no AR s.rs.length cR AT s.ts.length cT 0 0, .agg #[v1, v2, v3, v4], .slice A m c, .int .i64 z] w fun e w' => NdTold w w' L cs b Al n cl k s AR cR AT cT e := by
 subst hz
 unfold rvV
 obtain ⟨nR, hnR⟩ : ∃ nR, nR = s.rs.length := ⟨_, rfl⟩
 obtain ⟨nT, hnT⟩ : ∃ nT, nT = s.ts.length := ⟨_, rfl⟩
 obtain ⟨no, hno⟩ : ∃ no, no = s.no := ⟨_, rfl⟩
 rw [← hnR, ← hnT, ← hno]
 have HN : Hid (nR = s.rs.length ∧ nT = s.ts.length ∧ no = s.no) := Lib.hid ⟨hnR, hnT, hno⟩
 obtain ⟨S, hS⟩ : ∃ S, w.heap.size = S := ⟨_, rfl⟩
 obtain ⟨W, hW⟩ : ∃ W, W = ((w.alloc (.cells #[.slice Al n cl, .int .i64 k, .bool no, .slice AR nR cR, .slice AT nT cT, .int .i64 0, .int .i64 0] 144)).alloc (.cells #[v1, v2, v3, v4] 27)).alloc (.cells #[.slice none 0 0, .int .i64 0, .bool false, .slice none 0 0, .slice none 0 0, .int .i64 0, .int .i64 0] 144) := ⟨_, rfl⟩
 obtain ⟨r1, r2, r3, hbW, hsW⟩ := three_rowsB hS hW
 have HSW := Lib.hid (hs.next (by rw [hS]; exact hbW))
 have HLT : Hid (∀ ad, AT = some ad → ad.block < S) := Lib.hid (by rw [← hS]; exact hs.lt)
 have HRC := Lib.hid (hc.on hbW (by omega))
 have hLW := hL.on hbW (by omega)
 have HLW := Lib.hid hLW
 obtain ⟨A4, c4, xx, hv4, -⟩ := id hLW.2.2.2.1
 subst hv4
 have HBW := Lib.hid hbW
 have HR1 := Lib.hid r1
 have HR2 := Lib.hid r2
 have HR3 := Lib.hid r3
 have HSS := Lib.hid hS
 have HSZ := Lib.hid hsW
 clear hL hs hc hLW hbW r1 r2 r3 hsW hnR hnT hno
 go_enter Tryz.func126, Tryz.ntmps126
 go_upto_region 1 with fail
 rw [← hW]
 clear hW hS
 obtain ⟨d0, d1, d2, d3⟩ := (HR2.out).four
 have hS1 : (fun W' : World => W'.cell? ⟨S + 1, 0, none⟩ = some v1 ∧ W'.cell? ⟨S + 1, 1, none⟩ = some v2 ∧ W'.cell? ⟨S + 1, 2, none⟩ = some v3 ∧ W'.cell? ⟨S + 1, 3, none⟩ = some (.slice A4 L.ord.length c4)) W.drew := ⟨d0, d1, d2, d3⟩
 refine wp_region_held (S := fun W' : World => W'.cell? ⟨S + 1, 0, none⟩ = some v1 ∧ W'.cell? ⟨S + 1, 1, none⟩ = some v2 ∧ W'.cell? ⟨S + 1, 2, none⟩ = some v3 ∧ W'.cell? ⟨S + 1, 3, none⟩ = some (.slice A4 L.ord.length c4)) (by kernel_rfl) ?_
 change wpAnyH _ _ _ _ _ _ _ _ W.drew
 iterate 2 (refine wpH rfl rfl ?_; try simp only [Act.put, g1, g2, g3, g4, g5, g6])
 have htx := refText_any W.drew W.heap.size A m c cs (HRC.out.more (by have := HSZ.out; have := HSS.out; omega)).drew (Nat.le_refl _) hm
 refine wpAnyH_one (i := 2) (by kernel_rfl) rfl (fun K hK => ?_)
 simp only [g4, g5, g6]
 go_simp
 go_at_call 125
 refine htx.mono ?_
 rintro e w2 ⟨rfl, hb2⟩
 have hb2' : Below W.heap.size W w2 := (below_drew (Below.refl _ _)).trans hb2
 have HB2 := Lib.hid hb2'
 have hS2 : (fun W' : World => W'.cell? ⟨S + 1, 0, none⟩ = some v1 ∧ W'.cell? ⟨S + 1, 1, none⟩ = some v2 ∧ W'.cell? ⟨S + 1, 2, none⟩ = some v3 ∧ W'.cell? ⟨S + 1, 3, none⟩ = some (.slice A4 L.ord.length c4)) w2 := ⟨below_cell hb2' d0, below_cell hb2' d1, below_cell hb2' d2, below_cell hb2' d3⟩
 have hnm := named08_any w2 B v1 v2 v3 (.slice A4 L.ord.length c4) L (textL cs) (HLW.out.on hb2' (by have := HSZ.out; have := HSS.out; omega)) (by have := hb2'.size; have := HSZ.out; have := HSS.out; omega) h5 (by have := textL_le cs; have := HRC.out.len; omega)
 clear htx hb2 hb2'
 refine hK.out _ _ hS2 (fun _ => ?_)
 clear hK hS1 d0 d1 d2 d3
 try simp only [Act.put, g1, g2, g3, g4, g5, g6]
 refine wpAnyH_one (i := 3) (by kernel_rfl) rfl (fun K hK => ?_)
 simp only [g4, g5, g6]
 go_simp
 go_at_call 164
 refine hnm.mono ?_
 rintro e w3 ⟨hb3, A5, c5, rfl, hri⟩
 have HB3 : Hid (Below W.heap.size W w3) := Lib.hid (HB2.out.trans (hb3.mono HB2.out.size))
 have hS3 : (fun W' : World => W'.cell? ⟨S + 1, 0, none⟩ = some v1 ∧ W'.cell? ⟨S + 1, 1, none⟩ = some v2 ∧ W'.cell? ⟨S + 1, 2, none⟩ = some v3 ∧ W'.cell? ⟨S + 1, 3, none⟩ = some (.slice A4 L.ord.length c4)) w3 := ⟨below_cell hb3 hS2.1, below_cell hb3 hS2.2.1, below_cell hb3 hS2.2.2.1, below_cell hb3 hS2.2.2.2⟩
 have HRI := Lib.hid hri
 clear hnm hb3 hri
 refine hK.out _ _ hS3 (fun _ => ?_)
 clear hK hS2
 try simp only [Act.put, g1, g2, g3, g4, g5, g6]
 iterate 1 (refine wpH rfl rfl ?_; try simp only [Act.put, g1, g2, g3, g4, g5, g6])
 refine wpAnyH_done (by kernel_rfl) ?_ _
 have e3 : w3.cell? ⟨S + 1, 3, none⟩ = some (.slice A4 L.ord.length c4) := hS3.2.2.2
 clear hS3
 obtain ⟨nm, hnm⟩ : ∃ nm, nm = namedT L.ord (textL cs) := ⟨_, rfl⟩
 have HC : Hid (namedC L cs b = if nm ≠ [] then .ok nm else if placeV L.ord cs < 0 then .error (31, b) else .ok cs) := Lib.hid (by unfold namedC; rw [hnm])
 rw [← hnm] at HRI ⊢
 clear hnm
 have hsz3 : S + 3 ≤ w3.heap.size := by have := HB3.out.size; have := HSZ.out; omega
 have HSZ3 := Lib.hid hsz3
 have HSW3 := Lib.hid (HSW.out.next HB3.out)
 have HQ1 := Lib.hid (HR1.out.on HB3.out (by have := HSZ.out; omega))
 have HQ3 := Lib.hid (HR3.out.on HB3.out (by have := HSZ.out; omega))
 have HBB : Hid (Below S w w3) := Lib.hid (HBW.out.trans (HB3.out.mono (by have := HSZ.out; omega)))
 clear hsz3
 by_cases hn0 : nm = []
 ·have l0 : ((nm.length : Nat) : Int) = 0 := by rw [hn0]; rfl
  have hl0 : nm.length = 0 := by rw [hn0]; rfl
  have HC1 : Hid (namedC L cs b = if placeV L.ord cs < 0 then .error (31, b) else .ok cs) := Lib.hid (by rw [HC.out, if_neg (by simp [hn0])])
  have hpl := place07_any w3 B Bc (.slice A4 L.ord.length c4) L.ord A m c cs (HLW.out.on HB3.out (by have := HSZ.out; have := HSS.out; omega)).2.2.2.1 (HRC.out.on HB3.out (by have := HSZ.out; have := HSS.out; omega)) h5 (by unfold maxLen; omega)
  rw [hl0]
  clear HC hn0 l0 hl0 HRI
  obtain ⟨pl, hpp⟩ : ∃ pl, pl = placeV L.ord cs := ⟨_, rfl⟩
  rw [← hpp] at hpl HC1
  clear hpp
  go_wp2_with fail
  refine hpl.mono ?_
  rintro e w4 ⟨rfl, q, rfl⟩
  clear hpl
  have HQ1q : Hid (Rw (w3.drewN q) S 144 _) := Lib.hid HQ1.out
  obtain ⟨p0, p1, p2, p3, p4, p5, p6⟩ := HQ1q.out.seven
  by_cases hp : pl < 0
  ·have hfl := fail10_any (w3.drewN q) Al n cl k no AR nR cR AT nT cT 31 b
   have HC2 : Hid (namedC L cs b = .error (31, b)) := Lib.hid (by rw [HC1.out, if_pos hp])
   clear e3
   go_wp2_with fail
   refine hfl.mono ?_
   rintro e w5 ⟨rfl, hb5⟩
   have hb5' : Below w3.heap.size w3 w5 := (below_drewN (Below.refl _ _) q).trans hb5
   have HB5 := Lib.hid hb5'
   have HQ5 := Lib.hid (HQ3.out.on hb5' (by have := HSZ3.out; omega))
   obtain ⟨z0, z1, z2, z3, z4, z5, z6⟩ := HQ5.out.seven
   obtain ⟨y0, y1, y2, y3, y4, y5, y6⟩ := HQ5.out.fz7
   clear hfl hb5 hb5' p0 p1 p2 p3 p4 p5 p6
   go_wp2
   obtain ⟨hs9, hb9, hr9, -⟩ := r_end (S := S) (w := w) (HBB.out.trans (HB5.out.mono (by have := HSZ3.out; omega))) (by have := HSZ3.out; have := HB5.out.size; omega) (by omega) HQ5.out rfl (HSW3.out.next HB5.out) (fun ad e => by have := HLT.out ad e; omega) (.slice Al n cl) (.int .i64 k) (.bool no) (.slice AR nR cR) (.slice AT nT cT) (.int .i64 31) (.int .i64 b) _ rfl
   obtain ⟨e0, e1, e2, e3, e4, e5, e6⟩ := hr9.seven
   unfold s7 at e0 e1 e2 e3 e4 e5 e6 hs9 hb9
   refine bodyPost_ret (v := .tuple #[.agg #[.slice Al n cl, .int .i64 k, .bool no, .slice AR nR cR, .slice AT nT cT, .int .i64 31, .int .i64 b], .slice none 0 0]) (by simp [results, Tryz.results126, go_sem, e0, e1, e2, e3, e4, e5, e6]) rfl ?_
   refine ⟨by rw [HSS.out]; exact hb9, none, 0, [], 31, b, by unfold rvV; rw [← HN.out.1, ← HN.out.2.1, ← HN.out.2.2]; rfl, RI.none_, hs9, .inr ⟨by omega, HC2.out⟩⟩
  ·have HC2 : Hid (namedC L cs b = .ok cs) := Lib.hid (by rw [HC1.out, if_neg hp])
   obtain ⟨z0, z1, z2, z3, z4, z5, z6⟩ := (show Rw (w3.drewN q) (S + 1 + 1) 144 _ from HQ3.out).seven
   obtain ⟨y0, y1, y2, y3, y4, y5, y6⟩ := (show Rw (w3.drewN q) (S + 1 + 1) 144 _ from HQ3.out).fz7
   clear e3
   go_wp2
   obtain ⟨hs9, hb9, hr9, hri9⟩ := r_end (S := S) (w := w) (w5 := w3.drewN q) (below_drewN HBB.out q) (by have := HSZ3.out; show S ≤ w3.heap.size; omega) (by omega) HQ3.out rfl (HSW3.out.next (below_drewN (Below.refl _ _) q)) (fun ad e => by have := HLT.out ad e; omega) (.slice Al n cl) (.int .i64 k) (.bool no) (.slice AR nR cR) (.slice AT nT cT) (.int .i64 0) (.int .i64 0) _ rfl
   have hrc := hri9 Bc A m cs (by have := HSZ3.out; have := HSS.out; show Bc ≤ w3.heap.size; omega) ((HRC.out.on HB3.out (by have := HSZ.out; have := HSS.out; omega)).drewN q)
   obtain ⟨e0, e1, e2, e3, e4, e5, e6⟩ := hr9.seven
   unfold s7 at e0 e1 e2 e3 e4 e5 e6 hs9 hb9 hrc
   have hlen := HRC.out.len
   refine bodyPost_ret (v := .tuple #[.agg #[.slice Al n cl, .int .i64 k, .bool no, .slice AR nR cR, .slice AT nT cT, .int .i64 0, .int .i64 0], .slice A m c]) (by simp [results, Tryz.results126, go_sem, e0, e1, e2, e3, e4, e5, e6]) rfl ?_
   rw [← hlen] at hrc ⊢
   refine ⟨by rw [HSS.out]; exact hb9, A, c, cs, 0, 0, by unfold rvV; rw [← HN.out.1, ← HN.out.2.1, ← HN.out.2.2]; rfl, hrc, hs9, .inl ⟨rfl, rfl, HC2.out⟩⟩
 ·have l0 : (0 : Int) < ((nm.length : Nat) : Int) := by have := List.length_pos_iff.2 hn0; omega
  have HC2 : Hid (namedC L cs b = .ok nm) := Lib.hid (by rw [HC.out, if_pos hn0])
  obtain ⟨p0, p1, p2, p3, p4, p5, p6⟩ := HQ1.out.seven
  obtain ⟨z0, z1, z2, z3, z4, z5, z6⟩ := HQ3.out.seven
  obtain ⟨y0, y1, y2, y3, y4, y5, y6⟩ := HQ3.out.fz7
  clear e3 hn0 HC
  go_wp2
  obtain ⟨hs9, hb9, hr9, hri9⟩ := r_end (S := S) (w := w) (w5 := w3) HBB.out (by have := HSZ3.out; omega) (by omega) HQ3.out rfl HSW3.out (fun ad e => by have := HLT.out ad e; omega) (.slice Al n cl) (.int .i64 k) (.bool no) (.slice AR nR cR) (.slice AT nT cT) (.int .i64 0) (.int .i64 0) _ rfl
  have hrc := hri9 _ A5 nm.length nm (Nat.le_refl _) HRI.out
  obtain ⟨e0, e1, e2, e3, e4, e5, e6⟩ := hr9.seven
  unfold s7 at e0 e1 e2 e3 e4 e5 e6 hs9 hb9 hrc
  refine bodyPost_ret (v := .tuple #[.agg #[.slice Al n cl, .int .i64 k, .bool no, .slice AR nR cR, .slice AT nT cT, .int .i64 0, .int .i64 0], .slice A5 nm.length c5]) (by simp [results, Tryz.results126, go_sem, e0, e1, e2, e3, e4, e5, e6]) rfl ?_
  refine ⟨by rw [HSS.out]; exact hb9, A5, c5, nm, 0, 0, by unfold rvV; rw [← HN.out.1, ← HN.out.2.1, ← HN.out.2.2]; rfl, hrc, hs9, .inl ⟨rfl, rfl, HC2.out⟩⟩
end Go.Proofs.YthgiikhkcpbpfaaGreatDoor.C
namespace Go.Proofs.YthgiikhkcpbpfaaGreatDoor.C
open Go.RowKit

abbrev rvC (Al : Option Addr) (n cl k : Nat) (s : BSet) (AR : Option Addr) (cR : Nat) (AT : Option Addr) (cT : Nat) : Array Value := #[.slice Al n cl, .int .i64 k, .bool s.no, .slice AR s.rs.length cR, .slice AT s.ts.length cT, .int .i64 0, .int .i64 0]
structure RSt (w0 : World) (S Q B : Nat) (Al : Option Addr) (n cl : Nat) (l : List Int) (v1 v2 v3 v4 : Value) (L : Loc) (k : Nat) (s : BSet) (AR : Option Addr) (cR : Nat) (AT : Option Addr) (cT : Nat) (w : World) : Prop where
 r1 : Rw w Q 144 (rvC Al n cl k s AR cR AT cT)
 r2 : Rw w (S + 1) 27 #[v1, v2, v3, v4]
 r3 : Rw w (S + 1 + 1) 144 #[.slice none 0 0, .int .i64 0, .bool false, .slice none 0 0, .slice none 0 0, .int .i64 0, .int .i64 0]
 b : Below S w0 w
 sz : S + 3 ≤ w.heap.size
 qS : S ≤ Q
 q1 : Q ≠ S + 1
 q2 : Q ≠ S + 1 + 1
 qz : Q < w.heap.size
 hB : B ≤ S
 sw : SetW w AR AT s
 lt : ∀ ad, AT = some ad → ad.block ≠ Q ∧ ad.block ≠ S + 1 ∧ ad.block ≠ S + 1 + 1
 l : RI .i32 w B Al n l
 loc : LocR w B v1 v2 v3 v4 L
section
variable {w0 w w' : World} {S Q B : Nat} {Al : Option Addr} {n cl : Nat} {l : List Int} {v1 v2 v3 v4 : Value} {L : Loc} {k : Nat} {s : BSet} {AR : Option Addr} {cR : Nat} {AT : Option Addr} {cT : Nat}
theorem RSt.start (hS : w0.heap.size = S) (hW : w = ((w0.alloc (.cells (rvC Al n cl k s AR cR AT cT) 144)).alloc (.cells #[v1, v2, v3, v4] 27)).alloc (.cells #[.slice none 0 0, .int .i64 0, .bool false, .slice none 0 0, .slice none 0 0, .int .i64 0, .int .i64 0] 144))
  (hB : B ≤ S) (hs : SetW w0 AR AT s) (hl : RI .i32 w0 B Al n l) (hL : LocR w0 B v1 v2 v3 v4 L) : RSt w0 S S B Al n cl l v1 v2 v3 v4 L k s AR cR AT cT w := by
 obtain ⟨r1, r2, r3, hbW, hsW⟩ := three_rowsB hS hW
 exact ⟨r1, r2, r3, hbW, by omega, Nat.le_refl _, by omega, by omega, by omega, hB, hs.next (by rw [hS]; exact hbW), fun ad e => by have := hs.lt ad e; omega, hl.on hbW hB, hL.on hbW hB⟩
theorem RSt.next (h : RSt w0 S Q B Al n cl l v1 v2 v3 v4 L k s AR cR AT cT w) (hb : Below w.heap.size w w') : RSt w0 S Q B Al n cl l v1 v2 v3 v4 L k s AR cR AT cT w' := by
 have hz := h.sz
 exact ⟨h.r1.on hb h.qz, h.r2.on hb (by omega), h.r3.on hb (by omega), h.b.trans (hb.mono (by omega)), Nat.le_trans hz hb.size, h.qS, h.q1, h.q2, Nat.lt_of_lt_of_le h.qz hb.size, h.hB, h.sw.next hb, h.lt, h.l.on hb (by have := h.hB; omega), h.loc.on hb (by have := h.hB; omega)⟩
theorem RSt.drewN (h : RSt w0 S Q B Al n cl l v1 v2 v3 v4 L k s AR cR AT cT w) (q : Nat) : RSt w0 S Q B Al n cl l v1 v2 v3 v4 L k s AR cR AT cT (w.drewN q) := h.next (below_drewN (Below.refl _ _) q)
theorem RSt.drew (h : RSt w0 S Q B Al n cl l v1 v2 v3 v4 L k s AR cR AT cT w) : RSt w0 S Q B Al n cl l v1 v2 v3 v4 L k s AR cR AT cT w.drew := h.next (below_drew (Below.refl _ _))
theorem rvC_no32 : no32B (rvC Al n cl k s AR cR AT cT).toList = true := rfl
theorem RSt.own (h : RSt w0 S Q B Al n cl l v1 v2 v3 v4 L k s AR cR AT cT w) (hf : Fr w w' (· = Q)) {k' : Nat} {s' : BSet} {AR' : Option Addr} {cR' : Nat} {AT' : Option Addr} {cT' : Nat} (hr : Rw w' Q 144 (rvC Al n cl k' s' AR' cR' AT' cT')) (hs : SetW w AR' AT' s')
  (hA : ∀ ad, AT' = some ad → ad.block ≠ Q ∧ ad.block ≠ S + 1 ∧ ad.block ≠ S + 1 + 1) : RSt w0 S Q B Al n cl l v1 v2 v3 v4 L k' s' AR' cR' AT' cT' w' := by
 have hz := h.sz
 have hb : Below S w w' := hf.below (by rintro j _ rfl; exact h.qS) (by omega)
 exact ⟨hr, h.r2.fr hf (fun e => h.q1 e.symm), h.r3.fr hf (fun e => h.q2 e.symm), h.b.trans hb, Nat.le_trans hz hf.size, h.qS, h.q1, h.q2, Nat.lt_of_lt_of_le h.qz hf.size, h.hB, hs.box hf (h.r1.no32 (no32_of rvC_no32)) (fun ad e => (hA ad e).1), hA, h.l.on hb h.hB, h.loc.on hb h.hB⟩
theorem RSt.setI (h : RSt w0 S Q B Al n cl l v1 v2 v3 v4 L k s AR cR AT cT w) (k' : Nat) {z : Int} (hz : z = (k' : Int)) : RSt w0 S Q B Al n cl l v1 v2 v3 v4 L k' s AR cR AT cT (w.setCell ⟨Q, 1, none⟩ (.int .i64 z)) := by
 subst hz
 have h1 := h.r1
 unfold rvC at h1
 have hr := h1.set 1 (.int .i64 (k' : Int))
 simp only [g1, g2, g3] at hr
 exact h.own ((Fr.of_below (X := (· = Q)) (Below.refl _ w)).setB 1 _) hr h.sw h.lt
theorem RSt.setS (h : RSt w0 S Q B Al n cl l v1 v2 v3 v4 L k s AR cR AT cT w) {s' : BSet} {AR' : Option Addr} (cR' : Nat) {AT' : Option Addr} (cT' : Nat) (hs : SetW w AR' AT' s') (hA : ∀ ad, AT' = some ad → ad.block ≠ Q ∧ ad.block ≠ S + 1 ∧ ad.block ≠ S + 1 + 1) :
  RSt w0 S Q B Al n cl l v1 v2 v3 v4 L k s' AR' cR' AT' cT' (((w.setCell ⟨Q, 2, none⟩ (.bool s'.no)).setCell ⟨Q, 3, none⟩ (.slice AR' s'.rs.length cR')).setCell ⟨Q, 4, none⟩ (.slice AT' s'.ts.length cT')) := by
 have h1 := h.r1
 unfold rvC at h1
 have hr := ((h1.set 2 (.bool s'.no)).set 3 (.slice AR' s'.rs.length cR')).set 4 (.slice AT' s'.ts.length cT')
 simp only [g1, g2, g3] at hr
 exact h.own ((((Fr.of_below (X := (· = Q)) (Below.refl _ w)).setB 2 _).setB 3 _).setB 4 _) hr hs hA
theorem RSt.setR (h : RSt w0 S Q B Al n cl l v1 v2 v3 v4 L k s AR cR AT cT w) (k' : Nat) {rs : List (Int × Int)} {m : Nat} {AR' : Option Addr} (cR' : Nat) (hm : m = rs.length) (hs : SetW w AR' AT ⟨s.no, rs, s.ts⟩) :
  RSt w0 S Q B Al n cl l v1 v2 v3 v4 L k' ⟨s.no, rs, s.ts⟩ AR' cR' AT cT ((w.setCell ⟨Q, 3, none⟩ (.slice AR' m cR')).setCell ⟨Q, 1, none⟩ (.int .i64 k')) := by
 subst hm
 have h1 := h.r1
 unfold rvC at h1
 have hr := (h1.set 3 (.slice AR' rs.length cR')).set 1 (.int .i64 (k' : Int))
 simp only [g1, g2, g3] at hr
 exact h.own (((Fr.of_below (X := (· = Q)) (Below.refl _ w)).setB 3 _).setB 1 _) hr hs h.lt
theorem RSt.setR0 (h : RSt w0 S Q B Al n cl l v1 v2 v3 v4 L k s AR cR AT cT w) {rs : List (Int × Int)} {m : Nat} {AR' : Option Addr} (cR' : Nat) (hm : m = rs.length) (hs : SetW w AR' AT ⟨s.no, rs, s.ts⟩) :
  RSt w0 S Q B Al n cl l v1 v2 v3 v4 L k ⟨s.no, rs, s.ts⟩ AR' cR' AT cT (w.setCell ⟨Q, 3, none⟩ (.slice AR' m cR')) := by
 subst hm
 have h1 := h.r1
 unfold rvC at h1
 have hr := h1.set 3 (.slice AR' rs.length cR')
 simp only [g1, g2, g3] at hr
 exact h.own ((Fr.of_below (X := (· = Q)) (Below.refl _ w)).setB 3 _) hr hs h.lt
theorem SetW.ofR {w w' : World} {AR AT : Option Addr} {s : BSet} (h : SetW w AR AT s) (hb : Below w.heap.size w w') {base m c : Nat} {AR' : Option Addr} {rs : List (Int × Int)} (hm : m = rs.length) (ho : w'.ownsRow base 46 2 (.slice AR' m c) m (prsC rs)) : SetW w' AR' AT ⟨s.no, rs, s.ts⟩ := by
 subst hm
 have h2 := h.next hb
 obtain ⟨A', c', hv, hsi⟩ := PrsR.of ho
 injection hv with hA
 subst hA
 exact ⟨hsi, h2.t, h2.lt⟩
theorem RSt.box (h : RSt w0 S Q B Al n cl l v1 v2 v3 v4 L k s AR cR AT cT w) (k' : Nat) {s' : BSet} {AR' : Option Addr} (cR' : Nat) {AT' : Option Addr} (cT' : Nat) (hs : SetW w AR' AT' s') (hA : ∀ ad, AT' = some ad → ad.block ≠ Q ∧ ad.block ≠ S + 1 ∧ ad.block ≠ S + 1 + 1) :
  ∀ w5, w5 = w.alloc (.cells (rvC Al n cl k' s' AR' cR' AT' cT') 144) → RSt w0 S w.heap.size B Al n cl l v1 v2 v3 v4 L k' s' AR' cR' AT' cT' w5 := by
 rintro w5 rfl
 have hb : Below w.heap.size w (w.alloc (.cells (rvC Al n cl k' s' AR' cR' AT' cT') 144)) := (Below.refl _ _).alloc (Nat.le_refl _) _
 have hz := h.sz
 exact ⟨heap_alloc_new w _, h.r2.on hb (by omega), h.r3.on hb (by omega), h.b.trans (hb.mono (by omega)), Nat.le_trans hz hb.size, by omega, by omega, by omega, by simp, h.hB, hs.next hb, fun ad e => ⟨by have := hs.lt ad e; omega, (hA ad e).2⟩, h.l.on hb (by have := h.hB; omega), h.loc.on hb (by have := h.hB; omega)⟩
theorem RSt.new (h : RSt w0 S Q B Al n cl l v1 v2 v3 v4 L k s AR cR AT cT w) {AT' : Option Addr} (hn : NewOr w AT AT') : ∀ ad, AT' = some ad → ad.block ≠ Q ∧ ad.block ≠ S + 1 ∧ ad.block ≠ S + 1 + 1 := fun ad e => by
 rcases hn ad e with h1 | h1
 ·exact h.lt ad h1
 ·have := h.sz
  have := h.qz
  omega
theorem RSt.end_ (h : RSt w0 S Q B Al n cl l v1 v2 v3 v4 L k s AR cR AT cT w) {s' : BSet} {AR' AT' : Option Addr} (hs : SetW w AR' AT' s') (hA : ∀ ad, AT' = some ad → ad.block ≠ Q ∧ ad.block ≠ S + 1 ∧ ad.block ≠ S + 1 + 1) (u0 u1 u2 u3 u4 u5 u6 : Value) :
  ∀ w9, w9 = s7 w (S + 1 + 1) u0 u1 u2 u3 u4 u5 u6 → SetW w9 AR' AT' s' ∧ Below S w0 w9 ∧ Rw w9 (S + 1 + 1) 144 #[u0, u1, u2, u3, u4, u5, u6] ∧ ∀ B A n zs, B ≤ w.heap.size → RI .i32 w B A n zs → RI .i32 w9 w9.heap.size A n zs :=
 r_end h.b (by have := h.sz; omega) (by omega) h.r3 rfl hs (fun ad e => (hA ad e).2.2) u0 u1 u2 u3 u4 u5 u6
theorem RSt.end2 (h : RSt w0 S Q B Al n cl l v1 v2 v3 v4 L k s AR cR AT cT w) {s' : BSet} {AR' AT' : Option Addr} (hs : SetW w AR' AT' s') (hA : ∀ ad, AT' = some ad → ad.block ≠ Q ∧ ad.block ≠ S + 1 ∧ ad.block ≠ S + 1 + 1) (u0 u1 u2 u3 u4 u5 u6 : Value) :
  ∀ w9, w9 = (s7 w (S + 1 + 1) u0 u1 u2 u3 u4 u5 u6).drew → SetW w9 AR' AT' s' ∧ Below S w0 w9 ∧ Rw w9 (S + 1 + 1) 144 #[u0, u1, u2, u3, u4, u5, u6] ∧ (∀ B A n zs, B ≤ w.heap.size → RI .i32 w B A n zs → RI .i32 w9 w9.heap.size A n zs) ∧ Rw w9 Q 144 (rvC Al n cl k s AR cR AT cT) := by
 intro w9 hw9
 obtain ⟨w8, hw8⟩ : ∃ w8, w8 = s7 w (S + 1 + 1) u0 u1 u2 u3 u4 u5 u6 := ⟨_, rfl⟩
 have hf : Fr w w8 (· = S + 1 + 1) := by rw [hw8]; exact s7_fr w (S + 1 + 1) u0 u1 u2 u3 u4 u5 u6
 obtain ⟨h1, h2, h3, h4⟩ := h.end_ hs hA u0 u1 u2 u3 u4 u5 u6 w8 hw8
 rw [← hw8] at hw9
 subst hw9
 exact ⟨h1.next (below_drew (Below.refl _ _)), below_drew h2, h3, fun B A n zs hB hr => h4 B A n zs hB hr, h.r1.fr hf.drew h.q2⟩
end
def ElTold (w w' : World) (r : Except BEr (List Int × Nat)) (Al : Option Addr) (n cl : Nat) (s : BSet) (AR : Option Addr) (cR : Nat) (AT : Option Addr) (cT : Nat) (e : Ending) : Prop :=
 Below w.heap.size w w' ∧ ∃ (A' : Option Addr) (c' : Nat) (cs' : List Int) (k' E P : Nat), e = .returned (.tuple #[rvV Al n cl k' s.no AR s.rs.length cR AT s.ts.length cT E P, .slice A' cs'.length c']) ∧ RI .i32 w' w'.heap.size A' cs'.length cs' ∧ SetW w' AR AT s ∧ ((E = 0 ∧ P = 0 ∧ r = .ok (cs', k')) ∨ (E ≠ 0 ∧ r = .error (E, P)))
theorem atS_two (l : List Int) (k : Nat) (a b : Int) : atS l k [a, b] = (atS l k [a] && atS l (k + 1) [b]) := by
 unfold atS
 rcases hd : l.drop k with _ | ⟨x, r⟩
 ·have h2 : l.drop (k + 1) = [] := by rw [← List.drop_drop, hd]; rfl
  rw [h2]
  simp
 ·have h2 : l.drop (k + 1) = r := by rw [← List.drop_drop, hd]; rfl
  rw [h2]
  rcases r with _ | ⟨y, r⟩ <;> simp [List.isPrefixOf]
end Go.Proofs.YthgiikhkcpbpfaaGreatDoor.C
