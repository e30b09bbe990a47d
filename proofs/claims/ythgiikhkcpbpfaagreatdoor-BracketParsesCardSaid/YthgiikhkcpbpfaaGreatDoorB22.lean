/-
  Joined: KpB, KpC, KpD. Each with what its own head says.
-/
import Derived.Test.YthgiikhkcpbpfaaGreatDoorB19


namespace Go.Proofs.YthgiikhkcpbpfaaGreatDoor.C
open Go.RowKit
def plK (o : List Elm) (k : Nat) (s : Int) : List Nat := (List.range k).filter fun i => (o[i]?.map Elm.same) == some s
theorem plK_all (o : List Elm) (s : Int) : plK o o.length s = placesL o s := rfl
theorem plK_next {o : List Elm} {k : Nat} {e : Elm} (he : o[k]? = some e) (s : Int) : plK o (k + 1) s = plK o k s ++ (if e.same = s then [k] else []) := by
 unfold plK
 rw [List.range_succ, List.filter_append]
 congr 1
 by_cases h : e.same = s
 ·simp [he, h]
 ·simp [he, h]
theorem plK_le (o : List Elm) (k : Nat) (s : Int) : (plK o k s).length ≤ k := by
 unfold plK
 exact Nat.le_trans (List.length_filter_le _ _) (by rw [List.length_range]; exact Nat.le_refl _)
def nat64 (l : List Nat) : List Value := l.map fun i => .int .i64 (i : Nat)
def kvV (kv : List (Int × Value)) : List (Value × Value) := kv.map fun x => (.int .i64 x.1, x.2)
structure AlSt (T M : Nat) (o : List Elm) (w : World) (k : Nat) (kv : List (Int × Value)) : Prop where
 m : MapIs w M (.int .i64) (kvV kv)
 a : ∀ (i : Nat) (e : Elm), i < k → o[i]? = some e → e.same ∈ kv.map Prod.fst
 r : ∀ x ∈ kv, w.ownsRow (T + 1) 3 1 x.2 (plK o k x.1).length (nat64 (plK o k x.1))
 p : ∀ (i j : Nat) (x y : Int × Value), kv[i]? = some x → kv[j]? = some y → i ≠ j → ∀ g, x.2.ownBlock = some g → y.2.ownBlock ≠ some g
section
variable {T M k : Nat} {o : List Elm} {w w' : World} {kv : List (Int × Value)}
theorem AlSt.next (h : AlSt T M o w k kv) (hb : Below w.heap.size w w') : AlSt T M o w' k kv :=
 ⟨h.m.at_ (hb.block M h.m.lt), h.a, fun x hx => own_next (h.r x hx) hb, h.p⟩
theorem kvV_keys (kv : List (Int × Value)) : (kvV kv).map Prod.fst = (kv.map Prod.fst).map (Value.int .i64) := by simp [kvV]
theorem AlSt.keys (h : AlSt T M o w k kv) {i j : Nat} {x y : Int × Value} (hi : kv[i]? = some x) (hj : kv[j]? = some y) (e : x.1 = y.1) : i = j := by
 obtain ⟨_, _, _, _, _, hn⟩ := h.m
 have e1 : ((kvV kv).map Prod.fst)[i]? = some (.int .i64 x.1) := by rw [kvV_keys, List.getElem?_map, List.getElem?_map, hi]; rfl
 have e2 : ((kvV kv).map Prod.fst)[j]? = some (.int .i64 x.1) := by rw [kvV_keys, List.getElem?_map, List.getElem?_map, hj, e]; rfl
 have q1 := List.getElem?_eq_some_iff.1 e1
 have q2 := List.getElem?_eq_some_iff.1 e2
 rcases Nat.lt_trichotomy i j with hlt | hlt | hlt
 ·exact absurd (q1.2.trans q2.2.symm) ((List.pairwise_iff_getElem.1 hn) i j q1.1 q2.1 hlt)
 ·exact hlt
 ·exact absurd (q2.2.trans q1.2.symm) ((List.pairwise_iff_getElem.1 hn) j i q2.1 q1.1 hlt)
theorem own_nomap {base n sz : Nat} {v : Value} {xs : List Value} {e : TypeId} {kd : TypeDesc} {l : List (Value × Value)} (h : w.ownsRow base e sz v n xs) (hm : MapIs w M kd l) : v.ownBlock ≠ some M := by
 intro hv
 obtain ⟨es, c, h1, _⟩ := hm
 rcases h.2 with ⟨rfl, _⟩ | ⟨g, cap, cur, rfl, _, hg, _⟩
 ·simp [Value.ownBlock] at hv
 ·have : g = M := by simpa [Value.ownBlock] using hv
  subst this
  rw [h1] at hg
  cases hg
theorem zeroInts (w : World) : (zeroValue 40).run Tryz.prog w = .ok (.slice none 0 0) w := by kernel_rfl
theorem AlSt.look (h : AlSt T M o w k kv) (s : Int) : ∃ A c, (∀ X, MapIs X M (.int .i64) (kvV kv) → (Instr.lookup 107 (.map (some M)) (.int .i64 s) false).run Tryz.prog X = .ok (.slice A (plK o k s).length c) X) ∧
  w.ownsRow (T + 1) 3 1 (.slice A (plK o k s).length c) (plK o k s).length (nat64 (plK o k s)) ∧ ((∃ j : Nat, kv[j]? = some (s, .slice A (plK o k s).length c)) ∨ (A = none ∧ s ∉ kv.map Prod.fst)) := by
 by_cases hs : s ∈ kv.map Prod.fst
 ·obtain ⟨x, hx, rfl⟩ := List.mem_map.1 hs
  have ho := h.r x hx
  obtain ⟨j, hj⟩ := List.mem_iff_getElem?.1 hx
  obtain ⟨s, v⟩ := x
  simp only at ho hs ⊢
  obtain ⟨A, c, rfl⟩ := row_form ho
  refine ⟨A, c, fun X hX => ?_, ho, .inl ⟨j, hj⟩⟩
  exact hX.look_yes (P := Tryz.prog) Tryz.underlying107 Tryz.underlying3 (by first | trivial | rfl) (List.mem_map.2 ⟨_, hx, rfl⟩) false
 ·have hpl : plK o k s = [] := by
   rw [plK, List.filter_eq_nil_iff]
   intro i hi hc
   cases he : o[i]? with
   | none => rw [he] at hc; cases hc
   | some e =>
    rw [he] at hc
    have : e.same = s := by simpa using hc
    exact hs (this ▸ h.a i e (List.mem_range.1 hi) he)
  rw [hpl]
  refine ⟨none, 0, fun X hX => ?_, World.ownsRow_nil _ _ _ _, .inr ⟨rfl, hs⟩⟩
  exact hX.look_no (P := Tryz.prog) Tryz.underlying107 Tryz.underlying3 (by first | trivial | rfl) (by
   rw [kvV_keys]
   intro hm
   obtain ⟨y, hy, e⟩ := List.mem_map.1 hm
   injection e with _ e
   exact hs (e ▸ hy)) (zeroInts X) false
theorem AlSt.step {Y : World} {s : Int} {A : Option Addr} {c g cap : Nat} {e : Elm} (h : AlSt T M o w k kv) (he : o[k]? = some e) (hs : e.same = s) (hv : w.ownsRow (T + 1) 3 1 (.slice A (plK o k s).length c) (plK o k s).length (nat64 (plK o k s)))
  (hj : (∃ j : Nat, kv[j]? = some (s, .slice A (plK o k s).length c)) ∨ (A = none ∧ s ∉ kv.map Prod.fst)) (hg : w.grownBy Y (Value.slice A (plK o k s).length c).ownBlock)
  (ho : Y.ownsRow (T + 1) 3 1 (.slice (some ⟨g, 0, none⟩) ((plK o k s).length + 1) cap) ((plK o k s).length + 1) (nat64 (plK o k s) ++ [.int .i64 (k : Int)])) (hat : (Value.slice A (plK o k s).length c).ownBlock = some g ∨ w.heap.size ≤ g) :
  ∃ ob kv', (Instr.mapUpdate 107 (.map (some M)) (.int .i64 s) (.slice (some ⟨g, 0, none⟩) ((plK o k s).length + 1) cap)).run Tryz.prog Y = .ok () (putObj Y M ob) ∧ AlSt T M o (putObj Y M ob) (k + 1) kv' := by
 have hmY : MapIs Y M (.int .i64) (kvV kv) := h.m.at_ (hg.block M h.m.lt (fun e => own_nomap hv h.m e.symm))
 have hput : ∀ {v : Value} {n : Nat} {xs : List Value} (ob : Obj), Y.ownsRow (T + 1) 3 1 v n xs → (putObj Y M ob).ownsRow (T + 1) 3 1 v n xs := fun ob hr => ownsRow_fr hr (.of_grown (putObj_only ob)) (fun g hg hx => own_nomap hr hmY (by rw [hg]; exact hx.symm))
 have hkeep : ∀ x ∈ kv, (x.2.ownBlock = none ∨ x.2.ownBlock ≠ (Value.slice A (plK o k s).length c).ownBlock) → Y.ownsRow (T + 1) 3 1 x.2 (plK o k x.1).length (nat64 (plK o k x.1)) := fun x hx hne => (h.r x hx).kept hg hne
 have hplo : ∀ s', s' ≠ s → plK o (k + 1) s' = plK o k s' := fun s' hne => by rw [plK_next he, if_neg (fun h => hne (h.symm.trans hs)), List.append_nil]
 have hpls : plK o (k + 1) s = plK o k s ++ [k] := by rw [plK_next he, if_pos hs]
 have hnew : Y.ownsRow (T + 1) 3 1 (.slice (some ⟨g, 0, none⟩) ((plK o k s).length + 1) cap) (plK o (k + 1) s).length (nat64 (plK o (k + 1) s)) := by
  rw [hpls, List.length_append]
  unfold nat64 at ho ⊢
  rw [List.map_append]
  exact ho
 have hblk : (Value.slice (some ⟨g, 0, none⟩) ((plK o k s).length + 1) cap).ownBlock = some g := rfl
 rcases hj with ⟨j, hj⟩ | ⟨rfl, hno⟩
 ·have hkj : (kvV kv)[j]? = some (.int .i64 s, .slice A (plK o k s).length c) := by unfold kvV; rw [List.getElem?_map, hj]; rfl
  obtain ⟨ob, hrun, hm2⟩ := hmY.put_same (P := Tryz.prog) Tryz.underlying107 Tryz.underlying3 (key := .int .i64 s) (by first | trivial | rfl) hkj (.slice (some ⟨g, 0, none⟩) ((plK o k s).length + 1) cap)
  have hset : kvV (kv.set j (s, .slice (some ⟨g, 0, none⟩) ((plK o k s).length + 1) cap)) = (kvV kv).set j (.int .i64 s, .slice (some ⟨g, 0, none⟩) ((plK o k s).length + 1) cap) := by unfold kvV; rw [List.map_set]
  have hfst : (kv.set j (s, .slice (some ⟨g, 0, none⟩) ((plK o k s).length + 1) cap)).map Prod.fst = kv.map Prod.fst := by
   rw [List.map_set]
   refine List.ext_getElem? fun n => ?_
   rw [List.getElem?_set]
   by_cases hin : j = n
   ·subst hin
    have e2 : (kv.map Prod.fst)[j]? = some s := by rw [List.getElem?_map, hj]; rfl
    rw [if_pos rfl, if_pos (List.getElem?_eq_some_iff.1 e2).1, e2]
   ·rw [if_neg hin]
  have hjl := (List.getElem?_eq_some_iff.1 hj).1
  have hat' : ∀ (i : Nat) (x : Int × Value), kv[i]? = some x → i ≠ j → ∀ g', x.2.ownBlock = some g' → g' ≠ g := by
   intro i x hi hij g' hg' e
   subst e
   rcases hat with hat | hat
   ·exact h.p i j x _ hi hj hij g' hg' hat
   ·have := ((h.r x (List.mem_of_getElem? hi)).lt g' hg').2
    omega
  refine ⟨ob, kv.set j (s, .slice (some ⟨g, 0, none⟩) ((plK o k s).length + 1) cap), hrun, by rw [hset]; exact hm2, fun i e' hi he' => ?_, fun x hx => ?_, fun i1 i2 x y h1 h2 hne b hb => ?_⟩
  ·rw [hfst]
   rcases Nat.lt_or_ge i k with h1 | h1
   ·exact h.a i e' h1 he'
   ·obtain rfl : i = k := by omega
    rw [he] at he'
    rw [← Option.some.inj he', hs]
    exact List.mem_map.2 ⟨_, List.mem_of_getElem? hj, rfl⟩
  ·obtain ⟨i, hi⟩ := List.mem_iff_getElem?.1 hx
   rw [List.getElem?_set] at hi
   by_cases hji : j = i
   ·rw [if_pos hji, if_pos (by omega)] at hi
    rw [← Option.some.inj hi]
    exact hput ob hnew
   ·rw [if_neg hji] at hi
    have hxs : x.1 ≠ s := fun e => hji (h.keys hj hi e.symm)
    rw [hplo _ hxs]
    refine hput ob (hkeep x (List.mem_of_getElem? hi) ?_)
    cases hb : x.2.ownBlock with
    | none => exact .inl rfl
    | some b => exact .inr fun e => h.p i j x _ hi hj (fun e => hji e.symm) b hb e.symm
  ·rw [List.getElem?_set] at h1 h2
   by_cases e1 : j = i1
   ·rw [if_pos e1, if_pos (by omega)] at h1
    rw [if_neg (by omega)] at h2
    rw [← Option.some.inj h1, hblk] at hb
    injection hb with hb
    subst hb
    intro e
    exact hat' i2 y h2 (by omega) g e rfl
   ·rw [if_neg e1] at h1
    by_cases e2 : j = i2
    ·rw [if_pos e2, if_pos (by omega)] at h2
     rw [← Option.some.inj h2, hblk]
     intro e
     injection e with e
     exact hat' i1 x h1 (by omega) b hb e.symm
    ·rw [if_neg e2] at h2
     exact h.p i1 i2 x y h1 h2 hne b hb
 ·have hkn : (Value.int .i64 s) ∉ (kvV kv).map Prod.fst := by
   rw [kvV_keys]
   intro hm
   obtain ⟨y, hy, e⟩ := List.mem_map.1 hm
   injection e with _ e
   exact hno (e ▸ hy)
  obtain ⟨ob, hrun, hm2⟩ := hmY.put_new (P := Tryz.prog) Tryz.underlying107 Tryz.underlying3 (key := .int .i64 s) (by first | trivial | rfl) hkn (.slice (some ⟨g, 0, none⟩) ((plK o k s).length + 1) cap)
  have hfresh : ∀ (i : Nat) (x : Int × Value), kv[i]? = some x → ∀ g', x.2.ownBlock = some g' → g' ≠ g := by
   intro i x hi g' hg' e
   subst e
   rcases hat with hat | hat
   ·simp [Value.ownBlock] at hat
   ·have := ((h.r x (List.mem_of_getElem? hi)).lt g' hg').2
    omega
  refine ⟨ob, kv ++ [(s, .slice (some ⟨g, 0, none⟩) ((plK o k s).length + 1) cap)], hrun, by unfold kvV at hm2 ⊢; rw [List.map_append]; exact hm2, fun i e' hi he' => ?_, fun x hx => ?_, fun i1 i2 x y h1 h2 hne b hb => ?_⟩
  ·rw [List.map_append]
   rcases Nat.lt_or_ge i k with h1 | h1
   ·exact List.mem_append.2 (.inl (h.a i e' h1 he'))
   ·obtain rfl : i = k := by omega
    rw [he] at he'
    rw [← Option.some.inj he', hs]
    exact List.mem_append.2 (.inr (by simp))
  ·rcases List.mem_append.1 hx with hx | hx
   ·have hxs : x.1 ≠ s := fun e => hno (List.mem_map.2 ⟨x, hx, e⟩)
    rw [hplo _ hxs]
    refine hput ob (hkeep x hx ?_)
    cases hb : x.2.ownBlock with
    | none => exact .inl rfl
    | some b => exact .inr (by simp [Value.ownBlock])
   ·rw [List.mem_singleton] at hx
    subst hx
    exact hput ob hnew
  ·rw [List.getElem?_append] at h1 h2
   split at h1
   ·split at h2
    ·exact h.p i1 i2 x y h1 h2 hne b hb
    ·have : y = (s, .slice (some ⟨g, 0, none⟩) ((plK o k s).length + 1) cap) := by
      have := List.mem_of_getElem? h2
      simpa using this
     subst this
     rw [hblk]
     intro e
     injection e with e
     exact hfresh i1 x h1 b hb e.symm
   ·have hx' : x = (s, .slice (some ⟨g, 0, none⟩) ((plK o k s).length + 1) cap) := by
     have := List.mem_of_getElem? h1
     simpa using this
    subst hx'
    rw [hblk] at hb
    injection hb with hb
    subst hb
    split at h2
    ·intro e
     exact hfresh i2 y h2 g e rfl
    ·exfalso
     have q1 := (List.getElem?_eq_some_iff.1 h1).1
     have q2 := (List.getElem?_eq_some_iff.1 h2).1
     simp only [List.length_singleton] at q1 q2
     omega
end
end Go.Proofs.YthgiikhkcpbpfaaGreatDoor.C


namespace Go.Proofs.YthgiikhkcpbpfaaGreatDoor.C
open Go.RowKit
theorem infoInt8 : (Tryz.prog.info? 3).map (fun i => (i.zero, i.size, i.bytes)) = some (some (.int .i64 0), 1, 8) := by kernel_rfl
set_option maxRecDepth 100000 in
set_option maxHeartbeats 8000000 in
theorem fillAlike (F T : Nat) (t : TypeId) (l : List Value) (w : World) (v : Value) (es : List Elm) (hl : l[1]? = some v) (hes : OrdR w T v es) (ho : ordB es = true) (hT : T < w.heap.size) (hF : F < w.heap.size) :
  Fills 146 (.pointer (some ⟨T, 1, none⟩)) (.int .i64) T 10 t w l (PAlike F T es) := by
 intro W M hf hr hM hm
 have hn : es.length ≤ 500 := by unfold ordB at ho; simp only [Bool.and_eq_true, decide_eq_true_eq] at ho; exact ho.1
 have hb := hf.belowT (Nat.le_of_lt hT)
 have hWT : T < W.heap.size := by have := hf.size; omega
 have HFW : Hid (F < W.heap.size) := Lib.hid (by have := hf.size; omega)
 have c4 : W.cell? ⟨T, 1, none⟩ = some v := hr.cell (by rw [set_ne (by omega), set_ne (by omega)]; exact hl)
 have hO := hes.on hb (Nat.le_refl _)
 obtain ⟨A, c, xs, rfl, _⟩ := id hO
 obtain ⟨i0, hi, hz0, hz1, hz2⟩ := info_parts infoInt8
 have HO := Lib.hid hO
 have HTM : Hid (T < M ∧ T < W.heap.size) := Lib.hid ⟨by omega, hWT⟩
 have HM := Lib.hid hm
 obtain ⟨D, hD⟩ : ∃ D, W.heap.size = D + 1 := ⟨W.heap.size - 1, by omega⟩
 have HD := Lib.hid hD
 clear hf hr hes hb hO hl hm hM hT hWT ho hD hF
 go_enter Tryz.func146, Tryz.ntmps146
 go_wp2
 go_loopw [11] (fun iv wr => ∃ k : Nat, k ≤ es.length ∧ iv = .int .i64 k ∧ Hid (∃ kv, Fr W wr (· = M) ∧ AlSt D M es wr k kv)) (fun iv _ => es.length - (intOf iv).toNat)
 case atStart => exact ⟨0, Nat.zero_le _, rfl, Lib.hid ⟨[], Fr.refl _ _, HM.out, fun i e h => by omega, by simp, by simp⟩⟩
 case round =>
  obtain ⟨k, hk, rfl, HQ⟩ := hrel
  by_cases hlt : k < es.length
  ·obtain ⟨kv, hfr, hal⟩ := HQ.out
   obtain ⟨e, he⟩ : ∃ e, es[k]? = some e := ⟨_, List.getElem?_eq_getElem hlt⟩
   have hB := keep_map hfr (Nat.le_of_lt HTM.out.2) (Nat.le_of_lt HTM.out.1)
   obtain ⟨ad, c', Ac, cc, hv, hbl, hc0, hc1, hc2, hri⟩ := elmR_at (HO.out.on hB (Nat.le_refl _)) he
   injection hv with hv _ hcc
   subst hv hcc
   obtain ⟨nm, cl, sm⟩ := e
   obtain ⟨w2, hw2⟩ : ∃ w2, w2 = wr.alloc (.cells #[.string (str nm), .slice Ac cl.length cc, .int .i64 sm] 83) := ⟨_, rfl⟩
   have hb2 : Below wr.heap.size wr w2 := by rw [hw2]; exact (Below.refl _ _).alloc (Nat.le_refl _) _
   have hs2 : w2.heap.size = wr.heap.size + 1 := by rw [hw2]; simp
   have x2 : w2.cell? ⟨wr.heap.size, 2, none⟩ = some (.int .i64 sm) := by rw [hw2]; simp
   have hal2 := hal.next hb2
   obtain ⟨Av, cv, hlook, hown, hj⟩ := hal2.look sm
   have hle := plK_le es k sm
   obtain ⟨w3, hw3⟩ : ∃ w3, w3 = w2.drew.alloc (.cells #[.int .i64 (k : Int)] 3) := ⟨_, rfl⟩
   have hb3 : Below w2.heap.size w2 w3 := by rw [hw3]; exact (below_drew (Below.refl _ _)).alloc (Nat.le_refl _) _
   have hs3 : w3.heap.size = w2.heap.size + 1 := by rw [hw3]; simp
   have hal3 := hal2.next hb3
   have hown3 := own_next hown hb3
   have hbox : (Value.slice Av (plK es k sm).length cv).ownBlock ≠ some wr.heap.size := row_neK hown (by rw [hw2]; exact heap_alloc_new wr _) (by decide)
   have hS1 : (fun W' : World => W'.cell? ⟨wr.heap.size, 2, none⟩ = some (.int .i64 sm) ∧ (Instr.lookup 107 (.map (some M)) (.int .i64 sm) false).run Tryz.prog W' = .ok (.slice Av (plK es k sm).length cv) W') w2.drew := ⟨x2, hlook _ hal2.m⟩
   have hS3 : (fun W' : World => W'.cell? ⟨wr.heap.size, 2, none⟩ = some (.int .i64 sm) ∧ (Instr.lookup 107 (.map (some M)) (.int .i64 sm) false).run Tryz.prog W' = .ok (.slice Av (plK es k sm).length cv) W') w3 := ⟨below_cell (p := ⟨wr.heap.size, 2, none⟩) hb3 x2, hlook _ hal3.m⟩
   have i0' : (0 : Int) ≤ (k : Int) := by omega
   have i1 : (k : Int) < (es.length : Int) := by omega
   have HAL3 := Lib.hid hal3
   have HOWN3 := Lib.hid hown3
   have HJ := Lib.hid hj
   have HLOOK := Lib.hid hlook
   have HBOX := Lib.hid hbox
   have HE := Lib.hid he
   have HS := Lib.hid hs3
   have HF3 : Hid (Fr W w3 (· = M)) := Lib.hid ((hfr.trans (.of_below hb2)).trans (.of_below hb3))
   have HS3 := Lib.hid hS3
   have hsW := hfr.size
   have HW3 := Lib.hid hw3
   have HS2 := Lib.hid hs2
   clear hfr hal hB hri hbl hb2 hal2 hlook hown hj hb3 hal3 hown3 hbox he hs3 hw3 x2
   subst hw2
   go_wp2
   refine wp_region_E (S := fun W' : World => W'.cell? ⟨wr.heap.size, 2, none⟩ = some (.int .i64 sm) ∧ (Instr.lookup 107 (.map (some M)) (.int .i64 sm) false).run Tryz.prog W' = .ok (.slice Av (plK es k sm).length cv) W') (L := 10) (by kernel_rfl) ?_
   iterate 8 (refine wpE rfl rfl ?_; try simp only [Act.put, g1, g2, g3, g4, g5, g6])
   refine wpAnyE_one (i := 8) (by kernel_rfl) rfl (fun K hK => ?_)
   simp only [g4, g5, g6]
   go_simp
   rw [show ((wr.alloc (.cells #[.string (str nm), .slice Ac cl.length cc, .int .i64 sm] 83)).alloc (.cells #[.int .i64 (k : Int)] 3)).drew = w3 from by rw [HW3.out]; rfl]
   refine hK.out _ _ (fun _ => HS3.out) (fun hS => ?_)
   replace hS := hS (by decide)
   refine wpAnyE_one (i := 9) (by kernel_rfl) rfl (fun K hK => ?_)
   refine step_append_lies _ (by rfl) _ _ _ (by rfl) (D + 1) 3 i0 (.int .i64 0) 1 8 Tryz.underlying40 hi hz0 hz1 hz2 rfl (by decide) (.slice Av (plK es k sm).length cv) (plK es k sm).length (nat64 (plK es k sm)) (by rfl) HOWN3.out ⟨wr.heap.size + 1, 0, none⟩ 1 1 [.int .i64 (k : Int)] (by rfl) (by rfl) (by rw [HW3.out, ← HS2.out]; exact cell_one_new _ _ _) (by intro u hu; simp at hu; subst hu; rfl) (by decide) (by unfold maxLen; omega) (by omega) (by have := HS.out; have := HS2.out; have := HD.out; omega) _ rfl ?_
   intro g cap w5 hown5 hgr5 hat5 _
   obtain ⟨ob, kv', hrun, hal'⟩ := HAL3.out.step HE.out rfl HOWN3.out HJ.out hgr5 hown5 (hat5.imp_right (by rintro rfl; exact Nat.le_refl _))
   have hS5 : (fun W' : World => W'.cell? ⟨wr.heap.size, 2, none⟩ = some (.int .i64 sm) ∧ (Instr.lookup 107 (.map (some M)) (.int .i64 sm) false).run Tryz.prog W' = .ok (.slice Av (plK es k sm).length cv) W') w5 := ⟨(World.cell?_of_block (hgr5.block wr.heap.size (by have := HS.out; have := HS2.out; omega) (fun h => HBOX.out h.symm))).trans HS3.out.1, HLOOK.out w5 (HAL3.out.m.at_ (hgr5.block M HAL3.out.m.lt (fun h => own_nomap HOWN3.out HAL3.out.m h.symm)))⟩
   have HEND : Hid (∃ kv, Fr W (putObj w5 M ob) (· = M) ∧ AlSt D M es (putObj w5 M ob) (k + 1) kv) := Lib.hid ⟨kv', (HF3.out.next (.of_grown hgr5) (fun j hj hx => by have := (HOWN3.out.lt j hx).1; have := HD.out; omega)).next (.of_grown (putObj_only ob)) (by intro j _ e; injection e with e; exact e.symm), hal'⟩
   clear hown5 hgr5 hat5 hal'
   refine hK.out _ _ (fun _ => hS5) (fun hS => ?_)
   replace hS := hS (by decide)
   refine wpAnyE_one (i := 10) (by kernel_rfl) rfl (fun K hK => ?_)
   simp only [g4, g5, g6]
   go_simp
   refine hK.out _ _ (fun h => absurd rfl h) (fun _ => ?_)
   refine wpAnyE_done (by kernel_rfl) ?_ _
   clear hS hS5 hS1 hS3 hrun
   go_wp2
   go_roundw
   case rel => exact ⟨k + 1, by omega, by go_num, HEND⟩
   case measure => simp [intOf]; omega
  ·obtain rfl : k = es.length := by omega
   have HE : Hid (Fr W wr (· = M) ∧ PAlike F T es wr M) := Lib.hid (by
    obtain ⟨kv, h1, h2⟩ := HQ.out
    refine ⟨h1, HTM.out.1, kv, h2.m, fun e he => ?_, fun x hx => own_low (h2.r x hx) (by have := HTM.out; have := HD.out; omega), fun x hx g hg e => by have := ((h2.r x hx).lt g hg).1; have := HFW.out; have := HD.out; omega⟩
    obtain ⟨i, hi⟩ := List.mem_iff_getElem?.1 he
    exact h2.a i e (List.getElem?_eq_some_iff.1 hi).1 hi)
   go_wp2
   go_end0
   exact ⟨rfl, HE.out⟩
end Go.Proofs.YthgiikhkcpbpfaaGreatDoor.C


namespace Go.Proofs.YthgiikhkcpbpfaaGreatDoor.C
open Go.RowKit
variable {F : Nat}
set_option maxRecDepth 100000 in
set_option maxHeartbeats 4000000 in
theorem placesAlike_any (w : World) (T : Nat) (L : Loc) (n : Int) (i : Nat) (x : Elm) (h : TabG F w T L n) (hR : rightL L = true) (hx : L.ord[i]? = some x) :
  Calls Tryz.prog 101 #[.pointer (some ⟨T, 1, none⟩), .int .i64 (i : Int)] w fun e w' => ∃ v, e = .returned v ∧ TabG F w' T L n ∧ Fr w w' (· = T) ∧
   w'.ownsRow (T + 1) 3 1 v (placesL L.ord x.same).length ((placesL L.ord x.same).map fun i => .int .i64 (i : Nat)) := by
 have hord := right_ord hR
 obtain ⟨l, v1, v2, v3, v4, hr, h1, h2, h3, h4, h5, h6, h7, k1, k2, k3, k4, k5, k6⟩ := h.drew
 have hget := getII_any T 10 _ l w.drew 146 (.pointer (some ⟨T, 1, none⟩)) (PAlike F T L.ord) hr k3.2 (fun W W' M h hf => h.fr hf) (fun args w => run_enter Tryz.func146 (by kernel_rfl) rfl args w) (fillAlike F T _ l w.drew v4 L.ord h3 h7.2.2.2.1 hord hr.lt k3.1)
 have hmf : ∀ (fn : Fn) (first cap : Array Value) (w : World), (Instr.makeFunc fn first cap).run Tryz.prog w = .ok (.func fn first cap) w := fun _ _ _ _ => rfl
 have HS : Hid (∀ w' l', Fr w.drew w' (· = T) → Row w' T 131 l' → Lk l' 10 (PAlike F T L.ord w') → Else l l' 10 → TabG F w' T L n) := Lib.hid (fun w' l' hf hr' hk' he => TabG.step hf hr hr' 10 (by simp) he ⟨h1, h2, h3, h4, h5, h6, h7⟩ (.inr ⟨by omega, k1⟩) (.inr ⟨by omega, k2⟩) (.inl ⟨by have := hf.size; have := k3.1; omega, hk'⟩) (.inr ⟨by omega, k4⟩) (.inr ⟨by omega, k5⟩) (.inr ⟨by omega, k6⟩))
 have hE : ∀ l', Else l l' 10 → l'[1]? = some v4 := fun l' he => (he.2 1 (by omega) (by omega) (by omega)).trans h3
 have q4 : w.drew.cell? ⟨T, 1, none⟩ = some v4 := hr.cell h3
 obtain ⟨ad, c, Ac, cc, rfl, hbl, -, -, q5, -⟩ := elmR_at h7.2.2.2.1 hx
 have h500 : L.ord.length ≤ 500 := by unfold ordB at hord; simp only [Bool.and_eq_true, decide_eq_true_eq] at hord; exact hord.1
 have HTl : Hid (T < w.drew.heap.size ∧ ad.block < T) := Lib.hid ⟨hr.lt, hbl⟩
 have i0 : (0 : Int) ≤ (i : Int) := by omega
 have i1 : (i : Int) < (L.ord.length : Int) := by have := (List.getElem?_eq_some_iff.1 hx).1; omega
 have HX := Lib.hid hx
 have HEL := Lib.hid hE
 obtain ⟨nm, cl, sm⟩ := x
 simp only at q5
 clear hr h1 h2 h3 h4 h5 h6 h7 k1 k2 k3 k4 k5 k6 hord hbl h hx hE
 go_enter Tryz.func101, Tryz.ntmps101
 go_wp2
 refine wp_region_held (S := fun W' : World => W'.cell? ⟨T, 1, none⟩ = some (.slice (some ad) L.ord.length c) ∧ W'.cell? ⟨(ad.add (i * 3)).block, (ad.add (i * 3)).off + 2, none⟩ = some (.int .i64 sm)) (by kernel_rfl) ?_
 change wpAnyH _ _ _ _ _ _ _ _ w.drew
 have hS1 : (fun W' : World => W'.cell? ⟨T, 1, none⟩ = some (.slice (some ad) L.ord.length c) ∧ W'.cell? ⟨(ad.add (i * 3)).block, (ad.add (i * 3)).off + 2, none⟩ = some (.int .i64 sm)) w.drew := ⟨q4, q5⟩
 iterate 5 (refine wpH rfl rfl ?_; try simp only [Act.put, g1, g2, g3, g4, g5, g6])
 refine wpHn 6 rfl ?_; try simp only [Act.put, g1, g2, g3, g4, g5, g6]
 refine wpHn 7 rfl ?_; try simp only [Act.put, g1, g2, g3, g4, g5, g6]
 refine wpHn 8 rfl ?_; try simp only [Act.put, g1, g2, g3, g4, g5, g6]
 refine wpHn 9 rfl ?_; try simp only [Act.put, g1, g2, g3, g4, g5, g6]
 refine wpHn 10 rfl ?_; try simp only [Act.put, g1, g2, g3, g4, g5, g6]
 refine wpHn 11 rfl ?_; try simp only [Act.put, g1, g2, g3, g4, g5, g6]
 refine wpHn 12 rfl ?_; try simp only [Act.put, g1, g2, g3, g4, g5, g6]
 refine wpHn 13 rfl ?_; try simp only [Act.put, g1, g2, g3, g4, g5, g6]
 have HS1 := Lib.hid hS1
 clear q4 q5
 refine wpAnyH_one (i := 5) (by kernel_rfl) rfl (fun K hK => ?_)
 simp only [g4, g5, g6]
 go_simp
 refine hget.mono ?_
 rintro e w1 ⟨M, rfl, hp, hf, l', hr', hk', he⟩
 have HQ : Hid (TabG F w1 T L n ∧ Fr w w1 (· = T)) := Lib.hid ⟨HS.out _ _ hf hr' hk' he, (Fr.refl w _).drew.trans hf⟩
 have hbl := hf.belowT (Nat.le_of_lt HTl.out.1)
 have hS2 : (fun W' : World => W'.cell? ⟨T, 1, none⟩ = some (.slice (some ad) L.ord.length c) ∧ W'.cell? ⟨(ad.add (i * 3)).block, (ad.add (i * 3)).off + 2, none⟩ = some (.int .i64 sm)) w1 := ⟨hr'.cell (HEL.out l' he), (hbl.cell (p := ⟨(ad.add (i * 3)).block, (ad.add (i * 3)).off + 2, none⟩) (by show (ad.add (i * 3)).block < T; rw [block_of_add]; exact HTl.out.2)).trans HS1.out.2⟩
 obtain ⟨_, kv, hm, hall, hrows, -⟩ := hp
 obtain ⟨y, hy, hys⟩ := List.mem_map.1 (hall _ (List.mem_of_getElem? HX.out))
 obtain ⟨ys, yv⟩ := y
 simp only at hys
 subst hys
 have ho := hrows _ hy
 simp only at ho
 have q := hm.look_yes (P := Tryz.prog) Tryz.underlying107 Tryz.underlying3 (key := .int .i64 ys) (v := yv) (by first | trivial | rfl) (List.mem_map.2 ⟨_, hy, rfl⟩) false
 have HO := Lib.hid ho
 obtain ⟨Ay, cy, rfl⟩ := row_form ho
 clear hget hf hr' hk' he hbl hm hall hrows hy ho
 refine hK.out _ _ hS2 (fun _ => ?_)
 try simp only [Act.put, g1, g2, g3, g4, g5, g6]
 refine wpAnyH_one (i := 14) (by kernel_rfl) rfl (fun K hK => ?_)
 simp only [g4, g5, g6]
 go_simp
 refine hK.out _ _ hS2 (fun _ => ?_)
 try simp only [Act.put, g1, g2, g3, g4, g5, g6]
 refine wpH rfl rfl ?_; try simp only [Act.put, g1, g2, g3, g4, g5, g6]
 refine wpAnyH_done (by kernel_rfl) ?_ _
 clear hS1 hS2 hK q
 go_wp2
 go_ret
 exact ⟨_, rfl, HQ.out.1, HQ.out.2, HO.out⟩
end Go.Proofs.YthgiikhkcpbpfaaGreatDoor.C
