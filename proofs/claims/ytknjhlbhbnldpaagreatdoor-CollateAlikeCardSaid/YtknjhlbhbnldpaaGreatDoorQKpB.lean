/-
  The map of the places of those that are as good as one: what it holds after so many elements. No condition.
-/
import Derived.Test.YtknjhlbhbnldpaaGreatDoorQKpA
import Derived.Test.YtknjhlbhbnldpaaGreatDoorB20
import Derived.Test.YtknjhlbhbnldpaaGreatDoorB22
import Derived.Test.YtknjhlbhbnldpaaGreatDoorB24
namespace Go.Proofs.YtknjhlbhbnldpaaGreatDoor.C
open Go.RowKit

def plK (o : List Elm) (k : Nat) (s : Int) : List Nat := (List.range k).filter fun i => (o[i]?.map Elm.same) == some s
theorem plK_all (o : List Elm) (s : Int) : plK o o.length s = placesL o s := rfl
theorem plK_next {o : List Elm} {k : Nat} {e : Elm} (he : o[k]? = some e) (s : Int) : plK o (k + 1) s = plK o k s ++ (if e.same = s then [k] else []) := by
 unfold plK
 rw [List.range_succ, List.filter_append]
 congr 1
 by_cases h : e.same = s
 ·simp [he, h]
 ·simp [he, h]
theorem plK_le (o : List Elm) (k : Nat) (s : Int) : (plK o k s).length ≤ k := by
 unfold plK
 exact Nat.le_trans (List.length_filter_le _ _) (by rw [List.length_range]; exact Nat.le_refl _)
def nat64 (l : List Nat) : List Value := l.map fun i => .int .i64 (i : Nat)
def kvV (kv : List (Int × Value)) : List (Value × Value) := kv.map fun x => (.int .i64 x.1, x.2)
structure AlSt (T M : Nat) (o : List Elm) (w : World) (k : Nat) (kv : List (Int × Value)) : Prop where
 m : MapIs w M (.int .i64) (kvV kv)
 a : ∀ (i : Nat) (e : Elm), i < k → o[i]? = some e → e.same ∈ kv.map Prod.fst
 r : ∀ x ∈ kv, w.ownsRow (T + 1) 3 1 x.2 (plK o k x.1).length (nat64 (plK o k x.1))
 p : ∀ (i j : Nat) (x y : Int × Value), kv[i]? = some x → kv[j]? = some y → i ≠ j → ∀ g, x.2.ownBlock = some g → y.2.ownBlock ≠ some g
section
variable {T M k : Nat} {o : List Elm} {w w' : World} {kv : List (Int × Value)}
theorem AlSt.next (h : AlSt T M o w k kv) (hb : Below w.heap.size w w') : AlSt T M o w' k kv :=
 ⟨h.m.at_ (hb.block M h.m.lt), h.a, fun x hx => own_next (h.r x hx) hb, h.p⟩
theorem kvV_keys (kv : List (Int × Value)) : (kvV kv).map Prod.fst = (kv.map Prod.fst).map (Value.int .i64) := by simp [kvV]
theorem AlSt.keys (h : AlSt T M o w k kv) {i j : Nat} {x y : Int × Value} (hi : kv[i]? = some x) (hj : kv[j]? = some y) (e : x.1 = y.1) : i = j := by
 obtain ⟨_, _, _, _, _, hn⟩ := h.m
 have e1 : ((kvV kv).map Prod.fst)[i]? = some (.int .i64 x.1) := by rw [kvV_keys, List.getElem?_map, List.getElem?_map, hi]; rfl
 have e2 : ((kvV kv).map Prod.fst)[j]? = some (.int .i64 x.1) := by rw [kvV_keys, List.getElem?_map, List.getElem?_map, hj, e]; rfl
 have q1 := List.getElem?_eq_some_iff.1 e1
 have q2 := List.getElem?_eq_some_iff.1 e2
 rcases Nat.lt_trichotomy i j with hlt | hlt | hlt
 ·exact absurd (q1.2.trans q2.2.symm) ((List.pairwise_iff_getElem.1 hn) i j q1.1 q2.1 hlt)
 ·exact hlt
 ·exact absurd (q2.2.trans q1.2.symm) ((List.pairwise_iff_getElem.1 hn) j i q2.1 q1.1 hlt)
theorem own_nomap {base n sz : Nat} {v : Value} {xs : List Value} {e : TypeId} {kd : TypeDesc} {l : List (Value × Value)} (h : w.ownsRow base e sz v n xs) (hm : MapIs w M kd l) : v.ownBlock ≠ some M := by
 intro hv
 obtain ⟨es, c, h1, _⟩ := hm
 rcases h.2 with ⟨rfl, _⟩ | ⟨g, cap, cur, rfl, _, hg, _⟩
 ·simp [Value.ownBlock] at hv
 ·have : g = M := by simpa [Value.ownBlock] using hv
  subst this
  rw [h1] at hg
  cases hg
theorem zeroInts (w : World) : (zeroValue 143).run Tryz.prog w = .ok (.slice none 0 0) w := by kernel_rfl
theorem AlSt.look (h : AlSt T M o w k kv) (s : Int) : ∃ A c, (∀ X, MapIs X M (.int .i64) (kvV kv) → (Instr.lookup 78 (.map (some M)) (.int .i64 s) false).run Tryz.prog X = .ok (.slice A (plK o k s).length c) X) ∧
  w.ownsRow (T + 1) 3 1 (.slice A (plK o k s).length c) (plK o k s).length (nat64 (plK o k s)) ∧ ((∃ j : Nat, kv[j]? = some (s, .slice A (plK o k s).length c)) ∨ (A = none ∧ s ∉ kv.map Prod.fst)) := by
 by_cases hs : s ∈ kv.map Prod.fst
 ·obtain ⟨x, hx, rfl⟩ := List.mem_map.1 hs
  have ho := h.r x hx
  obtain ⟨j, hj⟩ := List.mem_iff_getElem?.1 hx
  obtain ⟨s, v⟩ := x
  simp only at ho hs ⊢
  obtain ⟨A, c, rfl⟩ := row_form ho
  refine ⟨A, c, fun X hX => ?_, ho, .inl ⟨j, hj⟩⟩
  exact hX.look_yes (P := Tryz.prog) Tryz.underlying78 Tryz.underlying3 (by first | trivial | rfl) (List.mem_map.2 ⟨_, hx, rfl⟩) false
 ·have hpl : plK o k s = [] := by
   rw [plK, List.filter_eq_nil_iff]
   intro i hi hc
   cases he : o[i]? with
   | none => rw [he] at hc; cases hc
   | some e =>
    rw [he] at hc
    have : e.same = s := by simpa using hc
    exact hs (this ▸ h.a i e (List.mem_range.1 hi) he)
  rw [hpl]
  refine ⟨none, 0, fun X hX => ?_, World.ownsRow_nil _ _ _ _, .inr ⟨rfl, hs⟩⟩
  exact hX.look_no (P := Tryz.prog) Tryz.underlying78 Tryz.underlying3 (by first | trivial | rfl) (by
   rw [kvV_keys]
   intro hm
   obtain ⟨y, hy, e⟩ := List.mem_map.1 hm
   injection e with _ e
   exact hs (e ▸ hy)) (zeroInts X) false
theorem AlSt.step {Y : World} {s : Int} {A : Option Addr} {c g cap : Nat} {e : Elm} (h : AlSt T M o w k kv) (he : o[k]? = some e) (hs : e.same = s) (hv : w.ownsRow (T + 1) 3 1 (.slice A (plK o k s).length c) (plK o k s).length (nat64 (plK o k s)))
  (hj : (∃ j : Nat, kv[j]? = some (s, .slice A (plK o k s).length c)) ∨ (A = none ∧ s ∉ kv.map Prod.fst)) (hg : w.grownBy Y (Value.slice A (plK o k s).length c).ownBlock)
  (ho : Y.ownsRow (T + 1) 3 1 (.slice (some ⟨g, 0, none⟩) ((plK o k s).length + 1) cap) ((plK o k s).length + 1) (nat64 (plK o k s) ++ [.int .i64 (k : Int)])) (hat : (Value.slice A (plK o k s).length c).ownBlock = some g ∨ w.heap.size ≤ g) :
  ∃ ob kv', (Instr.mapUpdate 78 (.map (some M)) (.int .i64 s) (.slice (some ⟨g, 0, none⟩) ((plK o k s).length + 1) cap)).run Tryz.prog Y = .ok () (putObj Y M ob) ∧ AlSt T M o (putObj Y M ob) (k + 1) kv' := by
 have hmY : MapIs Y M (.int .i64) (kvV kv) := h.m.at_ (hg.block M h.m.lt (fun e => own_nomap hv h.m e.symm))
 have hput : ∀ {v : Value} {n : Nat} {xs : List Value} (ob : Obj), Y.ownsRow (T + 1) 3 1 v n xs → (putObj Y M ob).ownsRow (T + 1) 3 1 v n xs := fun ob hr => ownsRow_fr hr (.of_grown (putObj_only ob)) (fun g hg hx => own_nomap hr hmY (by rw [hg]; exact hx.symm))
 have hkeep : ∀ x ∈ kv, (x.2.ownBlock = none ∨ x.2.ownBlock ≠ (Value.slice A (plK o k s).length c).ownBlock) → Y.ownsRow (T + 1) 3 1 x.2 (plK o k x.1).length (nat64 (plK o k x.1)) := fun x hx hne => (h.r x hx).kept hg hne
 have hplo : ∀ s', s' ≠ s → plK o (k + 1) s' = plK o k s' := fun s' hne => by rw [plK_next he, if_neg (fun h => hne (h.symm.trans hs)), List.append_nil]
 have hpls : plK o (k + 1) s = plK o k s ++ [k] := by rw [plK_next he, if_pos hs]
 have hnew : Y.ownsRow (T + 1) 3 1 (.slice (some ⟨g, 0, none⟩) ((plK o k s).length + 1) cap) (plK o (k + 1) s).length (nat64 (plK o (k + 1) s)) := by
  rw [hpls, List.length_append]
  unfold nat64 at ho ⊢
  rw [List.map_append]
  exact ho
 have hblk : (Value.slice (some ⟨g, 0, none⟩) ((plK o k s).length + 1) cap).ownBlock = some g := rfl
 rcases hj with ⟨j, hj⟩ | ⟨rfl, hno⟩
 ·have hkj : (kvV kv)[j]? = some (.int .i64 s, .slice A (plK o k s).length c) := by unfold kvV; rw [List.getElem?_map, hj]; rfl
  obtain ⟨ob, hrun, hm2⟩ := hmY.put_same (P := Tryz.prog) Tryz.underlying78 Tryz.underlying3 (key := .int .i64 s) (by first | trivial | rfl) hkj (.slice (some ⟨g, 0, none⟩) ((plK o k s).length + 1) cap)
  have hset : kvV (kv.set j (s, .slice (some ⟨g, 0, none⟩) ((plK o k s).length + 1) cap)) = (kvV kv).set j (.int .i64 s, .slice (some ⟨g, 0, none⟩) ((plK o k s).length + 1) cap) := by unfold kvV; rw [List.map_set]
  have hfst : (kv.set j (s, .slice (some ⟨g, 0, none⟩) ((plK o k s).length + 1) cap)).map Prod.fst = kv.map Prod.fst := by
   rw [List.map_set]
   refine List.ext_getElem? fun n => ?_
   rw [List.getElem?_set]
   by_cases hin : j = n
   ·subst hin
    have e2 : (kv.map Prod.fst)[j]? = some s := by rw [List.getElem?_map, hj]; rfl
    rw [if_pos rfl, if_pos (List.getElem?_eq_some_iff.1 e2).1, e2]
   ·rw [if_neg hin]
  have hjl := (List.getElem?_eq_some_iff.1 hj).1
  have hat' : ∀ (i : Nat) (x : Int × Value), kv[i]? = some x → i ≠ j → ∀ g', x.2.ownBlock = some g' → g' ≠ g := by
   intro i x hi hij g' hg' e
   subst e
   rcases hat with hat | hat
   ·exact h.p i j x _ hi hj hij g' hg' hat
   ·have := ((h.r x (List.mem_of_getElem? hi)).lt g' hg').2
    omega
  refine ⟨ob, kv.set j (s, .slice (some ⟨g, 0, none⟩) ((plK o k s).length + 1) cap), hrun, by rw [hset]; exact hm2, fun i e' hi he' => ?_, fun x hx => ?_, fun i1 i2 x y h1 h2 hne b hb => ?_⟩
  ·rw [hfst]
   rcases Nat.lt_or_ge i k with h1 | h1
   ·exact h.a i e' h1 he'
   ·obtain rfl : i = k := by omega
    rw [he] at he'
    rw [← Option.some.inj he', hs]
    exact List.mem_map.2 ⟨_, List.mem_of_getElem? hj, rfl⟩
  ·obtain ⟨i, hi⟩ := List.mem_iff_getElem?.1 hx
   rw [List.getElem?_set] at hi
   by_cases hji : j = i
   ·rw [if_pos hji, if_pos (by omega)] at hi
    rw [← Option.some.inj hi]
    exact hput ob hnew
   ·rw [if_neg hji] at hi
    have hxs : x.1 ≠ s := fun e => hji (h.keys hj hi e.symm)
    rw [hplo _ hxs]
    refine hput ob (hkeep x (List.mem_of_getElem? hi) ?_)
    cases hb : x.2.ownBlock with
    | none => exact .inl rfl
    | some b => exact .inr fun e => h.p i j x _ hi hj (fun e => hji e.symm) b hb e.symm
  ·rw [List.getElem?_set] at h1 h2
   by_cases e1 : j = i1
   ·rw [if_pos e1, if_pos (by omega)] at h1
    rw [if_neg (by omega)] at h2
    rw [← Option.some.inj h1, hblk] at hb
    injection hb with hb
    subst hb
    intro e
    exact hat' i2 y h2 (by omega) g e rfl
   ·rw [if_neg e1] at h1
    by_cases e2 : j = i2
    ·rw [if_pos e2, if_pos (by omega)] at h2
     rw [← Option.some.inj h2, hblk]
     intro e
     injection e with e
     exact hat' i1 x h1 (by omega) b hb e.symm
    ·rw [if_neg e2] at h2
     exact h.p i1 i2 x y h1 h2 hne b hb
 ·have hkn : (Value.int .i64 s) ∉ (kvV kv).map Prod.fst := by
   rw [kvV_keys]
   intro hm
   obtain ⟨y, hy, e⟩ := List.mem_map.1 hm
   injection e with _ e
   exact hno (e ▸ hy)
  obtain ⟨ob, hrun, hm2⟩ := hmY.put_new (P := Tryz.prog) Tryz.underlying78 Tryz.underlying3 (key := .int .i64 s) (by first | trivial | rfl) hkn (.slice (some ⟨g, 0, none⟩) ((plK o k s).length + 1) cap)
  have hfresh : ∀ (i : Nat) (x : Int × Value), kv[i]? = some x → ∀ g', x.2.ownBlock = some g' → g' ≠ g := by
   intro i x hi g' hg' e
   subst e
   rcases hat with hat | hat
   ·simp [Value.ownBlock] at hat
   ·have := ((h.r x (List.mem_of_getElem? hi)).lt g' hg').2
    omega
  refine ⟨ob, kv ++ [(s, .slice (some ⟨g, 0, none⟩) ((plK o k s).length + 1) cap)], hrun, by unfold kvV at hm2 ⊢; rw [List.map_append]; exact hm2, fun i e' hi he' => ?_, fun x hx => ?_, fun i1 i2 x y h1 h2 hne b hb => ?_⟩
  ·rw [List.map_append]
   rcases Nat.lt_or_ge i k with h1 | h1
   ·exact List.mem_append.2 (.inl (h.a i e' h1 he'))
   ·obtain rfl : i = k := by omega
    rw [he] at he'
    rw [← Option.some.inj he', hs]
    exact List.mem_append.2 (.inr (by simp))
  ·rcases List.mem_append.1 hx with hx | hx
   ·have hxs : x.1 ≠ s := fun e => hno (List.mem_map.2 ⟨x, hx, e⟩)
    rw [hplo _ hxs]
    refine hput ob (hkeep x hx ?_)
    cases hb : x.2.ownBlock with
    | none => exact .inl rfl
    | some b => exact .inr (by simp [Value.ownBlock])
   ·rw [List.mem_singleton] at hx
    subst hx
    exact hput ob hnew
  ·rw [List.getElem?_append] at h1 h2
   split at h1
   ·split at h2
    ·exact h.p i1 i2 x y h1 h2 hne b hb
    ·have : y = (s, .slice (some ⟨g, 0, none⟩) ((plK o k s).length + 1) cap) := by
      have := List.mem_of_getElem? h2
      simpa using this
     subst this
     rw [hblk]
     intro e
     injection e with e
     exact hfresh i1 x h1 b hb e.symm
   ·have hx' : x = (s, .slice (some ⟨g, 0, none⟩) ((plK o k s).length + 1) cap) := by
     have := List.mem_of_getElem? h1
     simpa using this
    subst hx'
    rw [hblk] at hb
    injection hb with hb
    subst hb
    split at h2
    ·intro e
     exact hfresh i2 y h2 g e rfl
    ·exfalso
     have q1 := (List.getElem?_eq_some_iff.1 h1).1
     have q2 := (List.getElem?_eq_some_iff.1 h2).1
     simp only [List.length_singleton] at q1 q2
     omega
end
end Go.Proofs.YtknjhlbhbnldpaaGreatDoor.C
