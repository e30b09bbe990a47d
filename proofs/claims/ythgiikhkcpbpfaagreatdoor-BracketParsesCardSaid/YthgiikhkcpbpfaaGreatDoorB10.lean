/-
  Joined: LeJ, LeK, LeL, LeM, KoC, LfO. Each with what its own head says.
-/
import Derived.Test.YthgiikhkcpbpfaaGreatDoorB09
import Derived.Test.YthgiikhkcpbpfaaGreatDoorB07
import Derived.Test.YthgiikhkcpbpfaaGreatDoorB08


namespace Go.Proofs.YthgiikhkcpbpfaaGreatDoor.C
open Go.RowKit
theorem str_empty (l : List UInt8) : (str l).toList.isEmpty = l.isEmpty := by rw [Lib.toList_data, str_list]
theorem elemB_one (nm : List UInt8) (u s : Int) : elemB ⟨nm, [u], s⟩ = (scalB u && nm.isEmpty) := rfl
theorem elemB_more {nm : List UInt8} {xs : List Int} (s : Int) (h : xs.length ≠ 1) : elemB ⟨nm, xs, s⟩ = (quotB xs && wordlyB nm && (numL nm).isNone) := by
 match xs, h with
 | [], _ => rfl
 | [_], h => exact absurd rfl h
 | _ :: _ :: _, _ => rfl
def Three (w : World) (b : Nat) (t : TypeId) (u v x : Value) : Prop := w.heap[b]? = some (.cells #[u, v, x] t (0, 0))
theorem Three.cells {w : World} {b : Nat} {t : TypeId} {u v x : Value} (h : Three w b t u v x) : w.cell? ⟨b, 0, none⟩ = some u ∧ w.cell? ⟨b, 1, none⟩ = some v ∧ w.cell? ⟨b, 2, none⟩ = some x := by simp [World.cell?, show w.heap[b]? = _ from h]
theorem Three.lt {w : World} {b : Nat} {t : TypeId} {u v x : Value} (h : Three w b t u v x) : b < w.heap.size := (Array.getElem?_eq_some_iff.1 h).1
theorem Three.new (w : World) (t : TypeId) (u v x : Value) : Three (w.alloc (.cells #[u, v, x] t)) w.heap.size t u v x := heap_alloc_new w _
set_option maxRecDepth 100000 in
set_option maxHeartbeats 4000000 in
theorem isElem_any (w : World) (B : Nat) (A : Option Addr) (n c : Nat) (nm : List UInt8) (xs : List Int) (s : Int) (h : RI .i32 w B A n xs) (hB : B ≤ w.heap.size) (hG : Gm w) (hn : nm.length ≤ maxLen) :
  Calls Tryz.prog 92 #[.agg #[.string (str nm), .slice A n c, .int .i64 s]] w fun e w' => e = .returned (.bool (elemB ⟨nm, xs, s⟩)) ∧ Below w.heap.size w w' := by
 obtain ⟨W1, hW1⟩ : ∃ W1, W1 = w.alloc (.cells #[.string (str nm), .slice A n c, .int .i64 s] 83) := ⟨_, rfl⟩
 have hb1 : Below w.heap.size w W1 := by rw [hW1]; exact (Below.refl _ _).alloc (Nat.le_refl _) _
 have HB1 := Lib.hid hb1
 have HX1 : Hid (Three W1 w.heap.size 83 (.string (str nm)) (.slice A n c) (.int .i64 s)) := Lib.hid (by rw [hW1]; exact Three.new w _ _ _ _)
 have hG1 := hG.next hb1
 have hs1 := hb1.size
 have hl := h.len
 by_cases h1 : n = 1
 ·subst h1
  obtain ⟨ad, u, rfl, hbl, hu, hc⟩ := h.at_ (k := 0) (by omega)
  have hz : ad.add 0 = ad := by
   unfold Addr.add
   cases ad
   simp
  rw [hz] at hc
  have hxs : xs = [u] := by
   match xs, hl, hu with
   | [x], _, hu => simp at hu; rw [hu]
  subst hxs
  rw [elemB_one]
  have q3 : W1.cell? ad = some (.int .i32 u) := (hb1.cell (by omega)).trans hc
  have hsc := isScalar_any u W1
  have hem := str_empty nm
  rw [hW1] at q3 hsc
  clear h hG hG1 hb1 hu hl hc
  cases hsb : scalB u with
  | false =>
   rw [hsb] at hsc
   clear hsb
   go_enter Tryz.func92, Tryz.ntmps92
   go_wp2_with (go_at_call 91; refine hsc.mono ?_; rintro e w' ⟨rfl, rfl⟩)
   go_ret
   rw [← hW1]
   exact ⟨rfl, HB1.out⟩
  | true =>
   rw [hsb] at hsc
   clear hsb
   obtain ⟨r, hr⟩ : ∃ r, r = nm.isEmpty := ⟨_, rfl⟩
   rw [← hr] at hem ⊢
   clear hr
   go_enter Tryz.func92, Tryz.ntmps92
   go_wp2_with (go_at_call 91; refine hsc.mono ?_; rintro e w' ⟨rfl, rfl⟩)
   go_ret
   rw [← hW1]
   exact ⟨rfl, HB1.out⟩
 have i1 : ¬ (n : Int) = 1 := by omega
 rw [elemB_more s (by omega)]
 have hiq := isQuotable_any W1 B A n c xs (h.keep fun p hp => hb1.cell (by omega)) (by omega) hG1
 rw [hW1] at hiq
 clear h hG hG1 hb1 hl
 cases hq : quotB xs with
 | false =>
  rw [hq] at hiq
  simp only [Bool.false_and]
  clear hq
  go_enter Tryz.func92, Tryz.ntmps92
  go_wp2_with (go_at_call 138; refine hiq.mono ?_; rintro e w2 ⟨rfl, hb⟩; (have HB := Lib.hid hb); clear hb)
  go_ret
  exact ⟨rfl, HB1.out.trans (by rw [hW1]; exact HB.out.mono (by simp))⟩
 | true =>
  rw [hq] at hiq
  simp only [Bool.true_and]
  clear hq
  have hiw := fun W => isWord_any (str nm) W (by rw [str_size]; unfold maxLen at hn; omega)
  rw [str_list] at hiw
  have hsn := fun W => isScalarName_any nm W hn
  have hstep : ∀ w2, Below (w.alloc (.cells #[.string (str nm), .slice A n c, .int .i64 s] 83)).heap.size (w.alloc (.cells #[.string (str nm), .slice A n c, .int .i64 s] 83)) w2 → w2.cell? ⟨w.heap.size, 0, none⟩ = some (.string (str nm)) := by
   rw [← hW1]
   intro w2 hb
   exact (show Three w2 w.heap.size _ _ _ _ from (hb.block _ HX1.out.lt).trans HX1.out).cells.1
  have HST := Lib.hid hstep
  clear hstep
  cases hwd : wordlyB nm with
  | false =>
   rw [hwd] at hiw
   simp only [Bool.false_and]
   clear hwd hsn
   go_enter Tryz.func92, Tryz.ntmps92
   go_wp2_with (first
    | (go_at_call 138; refine hiq.mono ?_; rintro e w2 ⟨rfl, hb⟩; (have q9 := HST.out w2 hb); (have HB := Lib.hid hb); clear hb)
    | (go_at_call 85; refine (hiw _).mono ?_; rintro e w3 ⟨rfl, hb3⟩; (have HB3 := Lib.hid hb3); clear hb3))
   go_ret
   exact ⟨rfl, HB1.out.trans (by rw [hW1]; exact (HB.out.trans (HB3.out.mono HB.out.size)).mono (by simp))⟩
  | true =>
   rw [hwd] at hiw
   simp only [Bool.true_and]
   obtain ⟨r, hr⟩ : ∃ r, r = (numL nm).isSome := ⟨_, rfl⟩
   have hnr : (numL nm).isNone = !r := by rw [hr]; cases numL nm <;> rfl
   rw [← hr] at hsn
   rw [hnr]
   clear hwd hr hnr
   go_enter Tryz.func92, Tryz.ntmps92
   go_wp2_with (first
    | (go_at_call 138; refine hiq.mono ?_; rintro e w2 ⟨rfl, hb⟩; (have q9 := HST.out w2 hb); (have HB := Lib.hid hb); clear hb)
    | (go_at_call 85; refine (hiw _).mono ?_; rintro e w3 ⟨rfl, hb3⟩; (have q8 := HST.out w3 (HB.out.trans (hb3.mono HB.out.size))); (have HB3 := Lib.hid hb3); clear hb3)
    | (go_at_call 139; refine (hsn _).mono ?_; rintro e w4 ⟨rfl, hb4⟩; (have HB4 := Lib.hid hb4); clear hb4))
   go_ret
   have hb3 := HB.out.trans (HB3.out.mono HB.out.size)
   exact ⟨rfl, HB1.out.trans (by rw [hW1]; exact (hb3.trans (HB4.out.mono hb3.size)).mono (by simp))⟩
theorem SI.at_same {w : World} {B : Nat} {A : Option Addr} {o : List Elm} {xs : List (List Value)} {i : Nat} {e : Elm} (hsi : SI 3 w B A o.length xs) (hel : ∃ Ac cc, xs[i]? = some [.string (str e.name), .slice Ac e.cells.length cc, .int .i64 e.same]) (hi : i < o.length) : ∃ ad : Addr, A = some ad ∧ w.cell? ⟨(ad.add (i * 3)).block, (ad.add (i * 3)).off + 2, none⟩ = some (.int .i64 e.same) := by
 obtain ⟨ad, a, b, z, hA, _, hx, _, _, c2⟩ := hsi.at3 hi
 obtain ⟨Ac, cc, hxe⟩ := hel
 rw [hx] at hxe
 simp at hxe
 rw [hxe.2.2] at c2
 exact ⟨ad, hA, c2⟩
set_option maxRecDepth 100000 in
set_option maxHeartbeats 2000000 in
theorem rightSame_any (w : World) (B : Nat) (v : Value) (o : List Elm) (h : OrdR w B v o) (i : Nat) (e : Elm) (he : o[i]? = some e) :
  Calls Tryz.prog 94 #[v, .int .i64 i] w fun r w' => r = .returned (.bool (sameAt o i e)) ∧ w' = w := by
 obtain ⟨A, c, xs, rfl, hsi, hel⟩ := h
 have hi : i < o.length := (List.getElem?_eq_some_iff.1 he).1
 have hAt : ∀ (j : Nat) (x : Elm), o[j]? = some x → ∃ Ac cc, xs[j]? = some [.string (str x.name), .slice Ac x.cells.length cc, .int .i64 x.same] := fun j x hx => by
  obtain ⟨a, b, h1, _⟩ := hel j x hx
  exact ⟨a, b, h1⟩
 obtain ⟨ad, rfl, q0⟩ := hsi.at_same (hAt i e he) hi
 have i0 : (0 : Int) ≤ (i : Int) := by omega
 have i1 : (i : Int) < (o.length : Int) := by omega
 by_cases h0 : 0 ≤ e.same
 ·by_cases h1 : e.same ≤ i
  ·have hj : e.same.toNat < o.length := by omega
   obtain ⟨x, hx⟩ : ∃ x, o[e.same.toNat]? = some x := ⟨_, List.getElem?_eq_getElem hj⟩
   obtain ⟨ad2, had, q1⟩ := hsi.at_same (hAt _ x hx) hj
   injection had with had
   subst had
   have hr : sameAt o i e = decide (x.same = e.same) := by unfold sameAt; rw [hx, decide_eq_true ⟨h0, h1⟩]; rfl
   rw [hr]
   obtain ⟨j, hjn⟩ : ∃ j, j = e.same.toNat := ⟨_, rfl⟩
   rw [← hjn] at q1 hj
   have hse : e.same = (j : Int) := by omega
   rw [hse] at q0 ⊢
   have j0 : (0 : Int) ≤ (j : Int) := by omega
   have j1 : (j : Int) ≤ (i : Int) := by omega
   have j2 : (j : Int) < (o.length : Int) := by omega
   obtain ⟨y, hy⟩ : ∃ y, y = x.same := ⟨_, rfl⟩
   rw [← hy] at q1 ⊢
   clear hsi hel hAt he hr hx hjn hse h0 h1 hy
   go_enter Tryz.func94, Tryz.ntmps94
   go_wp2
   go_ret
   exact ⟨rfl, rfl⟩
  ·have hr : sameAt o i e = false := by unfold sameAt; rw [decide_eq_false (fun h => h1 h.2)]; rfl
   rw [hr]
   clear hsi hel hAt he hr
   go_enter Tryz.func94, Tryz.ntmps94
   go_wp2
   go_ret
   exact ⟨rfl, rfl⟩
 ·have hr : sameAt o i e = false := by unfold sameAt; rw [decide_eq_false (fun h => h0 h.1)]; rfl
  rw [hr]
  clear hsi hel hAt he hr
  go_enter Tryz.func94, Tryz.ntmps94
  go_wp2
  go_ret
  exact ⟨rfl, rfl⟩
end Go.Proofs.YthgiikhkcpbpfaaGreatDoor.C


namespace Go.Proofs.YthgiikhkcpbpfaaGreatDoor.C
open Go.RowKit
def namesK (o : List Elm) (a : Nat) : List (List UInt8) := ((o.take a).filter fun x => !x.name.isEmpty).map Elm.name
def textsK (o : List Elm) (b : Nat) : List (List UInt8) := (o.take b).map fun x => textL x.cells
theorem elemB_right {e : Elm} (h : elemB e = true) : ∀ c ∈ e.cells, rightB c = true := by
 obtain ⟨nm, xs, s⟩ := e
 by_cases h1 : xs.length = 1
 ·obtain ⟨u, rfl⟩ : ∃ u, xs = [u] := by
   match xs, h1 with
   | [u], _ => exact ⟨u, rfl⟩
  rw [elemB_one] at h
  intro c hc
  simp at hc
  subst hc
  have := (Bool.and_eq_true_iff.1 h).1
  unfold scalB at this
  exact (Bool.and_eq_true_iff.1 this).2
 ·rw [elemB_more s h1] at h
  have h2 := (Bool.and_eq_true_iff.1 (Bool.and_eq_true_iff.1 h).1).1
  have h3 := (quotB_parts h2).2.2.2.2
  unfold canonB at h3
  exact fun c hc => (List.all_eq_true.1 (Bool.and_eq_true_iff.1 h3).1) c hc
theorem elemAt_elem {o : List Elm} {i : Nat} {e : Elm} (he : o[i]? = some e) (h : elemAt o i = true) : elemB e = true := by
 unfold elemAt at h
 rw [he] at h
 simp only [Bool.and_eq_true] at h
 exact h.1.1.1
theorem elemAt_is {o : List Elm} {i : Nat} {e : Elm} (he : o[i]? = some e) : elemAt o i = (elemB e && !((o.take i).any fun x => decide (x.cells = e.cells)) && sameAt o i e && (e.name.isEmpty || !((o.take i).any fun x => decide (x.name = e.name)))) := by
 unfold elemAt
 rw [he]
theorem texts_in {o : List Elm} {i : Nat} {e : Elm} (hok : ∀ j, j < i → elemAt o j = true) (he : elemB e = true) : textL e.cells ∈ textsK o i ↔ ((o.take i).any fun x => decide (x.cells = e.cells)) = true := by
 unfold textsK
 rw [List.mem_map, List.any_eq_true]
 constructor
 ·rintro ⟨x, hx, hxe⟩
  refine ⟨x, hx, decide_eq_true (textL_inj ?_ (elemB_right he) hxe)⟩
  obtain ⟨j, hj, rfl⟩ := List.mem_iff_getElem.1 hx
  rw [List.getElem_take]
  rw [List.length_take] at hj
  exact elemB_right (elemAt_elem (List.getElem?_eq_getElem (by omega)) (hok j (by omega)))
 ·rintro ⟨x, hx, hxe⟩
  exact ⟨x, hx, by rw [of_decide_eq_true hxe]⟩
theorem names_at {o : List Elm} {i : Nat} {nm : List UInt8} (hn : nm ≠ []) : nm ∈ namesK o i ↔ ((o.take i).any fun x => decide (x.name = nm)) = true := by
 unfold namesK
 rw [List.mem_map, List.any_eq_true]
 constructor
 ·rintro ⟨x, hx, hxe⟩
  exact ⟨x, (List.mem_filter.1 hx).1, decide_eq_true hxe⟩
 ·rintro ⟨x, hx, hxe⟩
  have := of_decide_eq_true hxe
  refine ⟨x, List.mem_filter.2 ⟨hx, ?_⟩, this⟩
  rw [this]
  cases nm with
  | nil => exact absurd rfl hn
  | cons => rfl
theorem texts_next {o : List Elm} {i : Nat} {e : Elm} (he : o[i]? = some e) : textsK o (i + 1) = textsK o i ++ [textL e.cells] := by
 unfold textsK
 rw [take_next he, List.map_append]
 rfl
theorem names_next {o : List Elm} {i : Nat} {e : Elm} (he : o[i]? = some e) : namesK o (i + 1) = if e.name = [] then namesK o i else namesK o i ++ [e.name] := by
 unfold namesK
 rw [take_next he, List.filter_append, List.map_append]
 by_cases h : e.name = []
 ·rw [if_pos h]
  simp [h]
 ·rw [if_neg h]
  have : (!e.name.isEmpty) = true := by cases hn : e.name with | nil => exact absurd hn h | cons => rfl
  simp [this]
structure RoI (w : World) (o : List Elm) (An Mn At Mt a b : Nat) (W : World) : Prop where
 bel : Below w.heap.size w W
 fn : FT W 217 .string An Mn (strV (namesK o a))
 ft : FT W 217 .string At Mt (strV (textsK o b))
section
variable {w W W' : World} {o : List Elm} {An Mn At Mt a b : Nat}
theorem RoI.below (h : RoI w o An Mn At Mt a b W) (hb : Below W.heap.size W W') : RoI w o An Mn At Mt a b W' :=
 ⟨h.bel.trans (hb.mono h.bel.size), h.fn.next (hb.block _ h.fn.lt) (hb.block _ h.fn.2.lt), h.ft.next (hb.block _ h.ft.lt) (hb.block _ h.ft.2.lt)⟩
theorem ft_apart {A M A' M' : Nat} {ks ks' : List Value} {t : TypeId} {kd kd' : TypeDesc} (h : FT W t kd A M ks) (h' : FT W t kd' A' M' ks') (hg : W.grownBy W' (some M')) (hne : M ≠ M') : FT W' t kd A M ks :=
 h.fr (X := fun j => j = M') ((Fr.of_grown hg).mono (fun j _ e => by injection e with e; exact e.symm)) (One.nomap h.1 h'.2) hne
theorem RoI.text {b' : Nat} (h : RoI w o An Mn At Mt a b W) (hf : FT W' 217 .string At Mt (strV (textsK o b'))) (hg : W.grownBy W' (some Mt)) (hne : Mn ≠ Mt) (hM : w.heap.size ≤ Mt) : RoI w o An Mn At Mt a b' W' :=
 ⟨h.bel.trans (((Fr.of_grown hg).below (B := w.heap.size) (fun j _ e => by injection e with e; omega) h.bel.size)), ft_apart h.fn h.ft hg hne, hf⟩
theorem RoI.name {a' : Nat} (h : RoI w o An Mn At Mt a b W) (hf : FT W' 217 .string An Mn (strV (namesK o a'))) (hg : W.grownBy W' (some Mn)) (hne : Mn ≠ Mt) (hM : w.heap.size ≤ Mn) : RoI w o An Mn At Mt a' b W' :=
 ⟨h.bel.trans (((Fr.of_grown hg).below (B := w.heap.size) (fun j _ e => by injection e with e; omega) h.bel.size)), hf, ft_apart h.ft h.fn hg hne.symm⟩
theorem RoI.end_ {M : Nat} (h : RoI w o An Mn At Mt a b W) (hg : W.grownBy W' (some M)) (hM : w.heap.size ≤ M) : Below w.heap.size w W' :=
 h.bel.trans (((Fr.of_grown hg).below (B := w.heap.size) (fun j _ e => by injection e with e; omega) h.bel.size))
end
theorem Three.grown {w w' : World} {b : Nat} {t : TypeId} {u v x : Value} {M : Nat} {kd : TypeDesc} {l : List (Value × Value)} (h : Three w b t u v x) (hm : MapIs w M kd l) (hg : w.grownBy w' (some M)) : Three w' b t u v x := (hg.block b h.lt (by
 intro e
 injection e with e
 subst e
 obtain ⟨es, c, h1, _⟩ := hm
 have e := h.symm.trans h1
 simp at e)).trans h
theorem Three.below {w w' : World} {b : Nat} {t : TypeId} {u v x : Value} (h : Three w b t u v x) (hb : Below w.heap.size w w') : Three w' b t u v x := (hb.block _ h.lt).trans h
end Go.Proofs.YthgiikhkcpbpfaaGreatDoor.C


namespace Go.Proofs.YthgiikhkcpbpfaaGreatDoor.C
open Go.RowKit
theorem elemB_len {e : Elm} (h : elemB e = true) : e.cells.length ≤ 4 := by
 obtain ⟨nm, xs, s⟩ := e
 by_cases h1 : xs.length = 1
 ·show xs.length ≤ 4
  omega
 ·rw [elemB_more s h1] at h
  exact (quotB_parts (Bool.and_eq_true_iff.1 (Bool.and_eq_true_iff.1 h).1).1).2.1
set_option maxRecDepth 100000 in
set_option maxHeartbeats 8000000 in
theorem rightOrder_any (w : World) (B : Nat) (v : Value) (o : List Elm) (h : OrdR w B v o) (hB : B ≤ w.heap.size) (hG : Gm w) :
  Calls Tryz.prog 59 #[v] w fun e w' => e = .returned (.bool (ordB o)) ∧ Below w.heap.size w w' := by
 obtain ⟨A, c, xs, rfl, hsi, hel⟩ := h
 by_cases h5 : 500 < o.length
 ·have hr : ordB o = false := by unfold ordB; rw [decide_eq_false (by omega)]; rfl
  have i5 : (500 : Int) < (o.length : Int) := by omega
  rw [hr]
  clear hsi hel hG hr
  go_enter Tryz.func59, Tryz.ntmps59
  go_wp2
  go_ret
  exact ⟨rfl, Below.refl _ _⟩
 have i5 : ¬ (500 : Int) < (o.length : Int) := by omega
 have hmf : ∀ (fn : Fn) (first cap : Array Value) (w : World), (Instr.makeFunc fn first cap).run Tryz.prog w = .ok (.func fn first cap) w := fun _ _ _ _ => rfl
 have HSI := Lib.hid hsi
 have HEL := Lib.hid hel
 have HG := Lib.hid hG
 have HO : Hid (∀ b, (∀ j, j < o.length → elemAt o j = true) → b = true → ordB o = b) := Lib.hid (fun b hb e => by
  subst e
  unfold ordB
  rw [decide_eq_true (by omega), Bool.true_and]
  exact List.all_eq_true.2 fun j hj => hb j (List.mem_range.1 hj))
 have HN : Hid (∀ j, j < o.length → elemAt o j = false → ordB o = false) := Lib.hid (fun j hj hb => by
  unfold ordB
  rw [range_all_false (f := elemAt o) hj (by rw [hb]; rfl), Bool.and_false])
 clear hsi hel hG h5
 go_enter Tryz.func59, Tryz.ntmps59
 go_wp2_with fail
 refine (firstS_any _).mono ?_
 rintro e w1 ⟨rfl, hf1, hb1, hs1⟩
 have HF1 := Lib.hid hf1
 have HB1 := Lib.hid hb1
 have HS1 := Lib.hid hs1
 clear hf1 hb1 hs1
 go_wp2_with fail
 refine (firstS_any _).mono ?_
 rintro e w2 ⟨rfl, hf2, hb2, hs2⟩
 obtain ⟨An, hAn⟩ : ∃ An, An = w.heap.size + 1 := ⟨_, rfl⟩
 obtain ⟨At, hAt⟩ : ∃ At, At = w1.heap.size + 1 := ⟨_, rfl⟩
 obtain ⟨Mt, hMt⟩ : ∃ Mt, Mt = w1.heap.size := ⟨_, rfl⟩
 have HI0 : Hid (RoI w o An w.heap.size At Mt 0 0 w2) := Lib.hid (by
  rw [hAn, hAt, hMt]
  exact ⟨HB1.out.trans (hb2.mono HB1.out.size), HF1.out.next (hb2.block _ HF1.out.lt) (hb2.block _ HF1.out.2.lt), hf2⟩)
 have hne : w.heap.size ≠ Mt := by have := HS1.out; omega
 have hMt2 : w.heap.size ≤ Mt := by have := HB1.out.size; omega
 rw [← hAn, ← hAt]
 have HNE := Lib.hid hne
 have HMT := Lib.hid hMt2
 clear hf2 hb2 hs2 hAn hAt hMt HF1 HB1 HS1 hne hMt2
 go_wp2
 go_loopw [14] (fun iv wr => ∃ i : Nat, i ≤ o.length ∧ iv = .int .i64 i ∧ Hid (RoI w o An w.heap.size At Mt i i wr) ∧ Hid (∀ j, j < i → elemAt o j = true)) (fun iv _ => o.length - (intOf iv).toNat)
 case atStart => exact ⟨0, Nat.zero_le _, rfl, HI0, Lib.hid (fun j hj => absurd hj (by omega))⟩
 case round =>
  obtain ⟨i, hin, rfl, HI, HOK⟩ := hrel
  by_cases hlt : i < o.length
  rotate_left
  ·obtain rfl : i = o.length := by omega
   go_wp2
   go_ret
   exact ⟨by rw [HO.out true HOK.out rfl]; rfl, HI.out.bel⟩
  obtain ⟨e, he⟩ : ∃ e, o[i]? = some e := ⟨_, List.getElem?_eq_getElem hlt⟩
  obtain ⟨Ac, cc, hx1, hri, hnl, -⟩ := HEL.out i e he
  obtain ⟨ad, a1, a2, a3, rfl, hbl, hx2, c0, c1, c2⟩ := (HSI.out.on HI.out.bel hB).at3 hlt
  rw [hx1] at hx2
  simp at hx2
  obtain ⟨rfl, rfl, rfl⟩ := hx2
  obtain ⟨W1, hW1⟩ : ∃ W1, W1 = wr.alloc (.cells #[.string (str e.name), .slice Ac e.cells.length cc, .int .i64 e.same] 83) := ⟨_, rfl⟩
  have hb1 : Below wr.heap.size wr W1 := by rw [hW1]; exact (Below.refl _ _).alloc (Nat.le_refl _) _
  have hI1 := HI.out.below hb1
  have hX1 : Three W1 wr.heap.size 83 (.string (str e.name)) (.slice Ac e.cells.length cc) (.int .i64 e.same) := by rw [hW1]; exact Three.new wr _ _ _ _
  have hs0 := hI1.bel.size
  have hG1 : Gm W1 := HG.out.next hI1.bel
  have hri1 : RI .i32 W1 B Ac e.cells.length e.cells := hri.keep fun p hp => hI1.bel.cell (by omega)
  have hie := isElem_any W1 B Ac e.cells.length cc e.name e.cells e.same hri1 (by omega) hG1 hnl
  rw [show (⟨e.name, e.cells, e.same⟩ : Elm) = e from rfl] at hie
  obtain ⟨q0, q1, q2⟩ := hX1.cells
  rw [hW1] at q0 q1 q2
  have HI1 := Lib.hid hI1
  have HX1 := Lib.hid hX1
  have HR1 := Lib.hid hri1
  have HG1 := Lib.hid hG1
  have HE := Lib.hid he
  have HRI := Lib.hid hri
  have i0 : (0 : Int) ≤ (i : Int) := by omega
  have i1 : (i : Int) < (o.length : Int) := by omega
  clear hI1 hX1 hri1 hG1 hri hb1 hx1 he
  cases heb : elemB e with
  | false =>
   rw [heb] at hie
   have hno := HN.out i hlt (by rw [elemAt_is HE.out, heb]; rfl)
   have HNO := Lib.hid hno
   clear heb hno
   go_wp2_with fail
   rw [← hW1]
   refine hie.mono ?_
   rintro r w3 ⟨rfl, hb3⟩
   have HB3 := Lib.hid (HI1.out.below hb3).bel
   clear hb3 hie
   go_wp2
   go_ret
   exact ⟨by rw [HNO.out]; rfl, HB3.out⟩
  | true =>
   rw [heb] at hie
   have HEB := Lib.hid heb
   clear heb
   go_wp2_with fail
   rw [← hW1]
   refine hie.mono ?_
   rintro r w3 ⟨rfl, hb3⟩
   have hI3 := HI1.out.below hb3
   have hX3 := HX1.out.below hb3
   have hs3 := hI3.bel.size
   have htx := text_any w3 B Ac e.cells.length cc e.cells (HRI.out.keep fun p hp => hI3.bel.cell (by omega)) (by omega) (by have := (elemB_len HEB.out); omega) ((HG.out.next hI3.bel).1)
   obtain ⟨p0, p1, p2⟩ := hX3.cells
   have HI3 := Lib.hid hI3
   have HX3 := Lib.hid hX3
   clear hb3 hI3 hX3 hie q0 q1 q2 c0 c1 c2 hW1
   go_wp2_with fail
   refine htx.mono ?_
   rintro r w4 ⟨rfl, hb4⟩
   have hI4 := HI3.out.below hb4
   have hX4 := HX3.out.below hb4
   have HI4 := Lib.hid hI4
   have HX4 := Lib.hid hX4
   clear hb4 hI4 hX4 htx p0 p1 p2
   by_cases hti : textL e.cells ∈ textsK o i
   ·have hno := HN.out i hlt (by rw [elemAt_is HE.out, (texts_in HOK.out HEB.out).1 hti]; simp)
    have hnew := isNewS_no w4 At Mt (strV (textsK o i)) (str (textL e.cells)) HI4.out.ft (strV_in.2 hti)
    have HNO := Lib.hid hno
    clear hti hno
    go_wp2_with fail
    refine hnew.mono ?_
    rintro r w5 ⟨rfl, hg5⟩
    have HB5 := Lib.hid (HI4.out.end_ hg5 HMT.out)
    clear hg5 hnew
    go_wp2
    go_ret
    exact ⟨by rw [HNO.out]; rfl, HB5.out⟩
   have hnew := isNewS_yes w4 At Mt (strV (textsK o i)) (str (textL e.cells)) HI4.out.ft (fun h => hti (strV_in.1 h))
   have HTI : Hid (((o.take i).any fun x => decide (x.cells = e.cells)) = false) := Lib.hid (by
    cases hq : ((o.take i).any fun x => decide (x.cells = e.cells)) with
    | false => rfl
    | true => exact absurd ((texts_in HOK.out HEB.out).2 hq) hti)
   clear hti
   go_wp2_with fail
   refine hnew.mono ?_
   rintro r w5 ⟨rfl, hf5, hg5⟩
   rw [strV_snoc, ← texts_next HE.out] at hf5
   have hI5 := HI4.out.text hf5 hg5 HNE.out HMT.out
   have hX5 := HX4.out.grown HI4.out.ft.2 hg5
   have hs5 := hI5.bel.size
   have hrs := rightSame_any w5 B (.slice (some ad) o.length c) o ⟨_, c, xs, rfl, HSI.out.on hI5.bel hB, fun j x hj => by
    obtain ⟨u1, u2, u3, u4, u5⟩ := HEL.out j x hj
    exact ⟨u1, u2, u3, u4.keep fun p hp => hI5.bel.cell (by omega), u5⟩⟩ i e HE.out
   have HI5 := Lib.hid hI5
   have HX5 := Lib.hid hX5
   clear hf5 hg5 hI5 hX5 hnew
   cases hsm : sameAt o i e with
   | false =>
    rw [hsm] at hrs
    have hno := HN.out i hlt (by rw [elemAt_is HE.out, hsm]; simp)
    have HNO := Lib.hid hno
    clear hsm hno
    go_wp2_with fail
    refine hrs.mono ?_
    rintro r w6 ⟨rfl, rfl⟩
    clear hrs
    go_wp2
    go_ret
    exact ⟨by rw [HNO.out]; rfl, HI5.out.bel⟩
   | true =>
    rw [hsm] at hrs
    have HSM := Lib.hid hsm
    clear hsm
    go_wp2_with fail
    refine hrs.mono ?_
    rintro r w6 ⟨rfl, rfl⟩
    obtain ⟨p0, p1, p2⟩ := HX5.out.cells
    have hem := str_empty e.name
    clear hrs
    by_cases hnm : e.name = []
    ·have hem2 : (str e.name).toList.isEmpty = true := by rw [hem, hnm]; rfl
     have hI7 : RoI w o An w.heap.size At Mt (i + 1) (i + 1) w6 := by
      have := HI5.out
      refine ⟨this.bel, ?_, this.ft⟩
      rw [names_next HE.out, if_pos hnm]
      exact this.fn
     have hok : ∀ j, j < i + 1 → elemAt o j = true := by
      intro j hj
      rcases Nat.lt_or_ge j i with h | h
      ·exact HOK.out j h
      ·obtain rfl : j = i := by omega
       rw [elemAt_is HE.out, HEB.out, HTI.out, HSM.out, hnm]
       rfl
     have HI7 := Lib.hid hI7
     have HOK7 := Lib.hid hok
     clear hem hnm hI7 hok
     go_wp2
     go_roundw
     case rel => exact ⟨i + 1, by omega, by go_num, HI7, HOK7⟩
     case measure => simp [intOf]; omega
    ·have hem2 : (str e.name).toList.isEmpty = false := by
      rw [hem]
      cases hq : e.name with
      | nil => exact absurd hq hnm
      | cons => rfl
     by_cases hni : e.name ∈ namesK o i
     ·have hno := HN.out i hlt (by
       rw [elemAt_is HE.out, (names_at hnm).1 hni]
       cases hq : e.name with
       | nil => exact absurd hq hnm
       | cons => simp)
      have hnew := isNewS_no w6 An w.heap.size (strV (namesK o i)) (str e.name) HI5.out.fn (strV_in.2 hni)
      have HNO := Lib.hid hno
      clear hem hnm hni hno
      go_wp2_with fail
      refine hnew.mono ?_
      rintro r w7 ⟨rfl, hg7⟩
      have HB7 := Lib.hid (HI5.out.end_ hg7 (Nat.le_refl _))
      clear hg7 hnew
      go_wp2
      go_ret
      exact ⟨by rw [HNO.out]; rfl, HB7.out⟩
     ·have hnew := isNewS_yes w6 An w.heap.size (strV (namesK o i)) (str e.name) HI5.out.fn (fun h => hni (strV_in.1 h))
      have hok : ∀ j, j < i + 1 → elemAt o j = true := by
       intro j hj
       rcases Nat.lt_or_ge j i with h | h
       ·exact HOK.out j h
       ·obtain rfl : j = i := by omega
        have hq : ((o.take j).any fun x => decide (x.name = e.name)) = false := by
         cases hq : ((o.take j).any fun x => decide (x.name = e.name)) with
         | false => rfl
         | true => exact absurd ((names_at hnm).2 hq) hni
        rw [elemAt_is HE.out, HEB.out, HTI.out, HSM.out, hq]
        simp
      have HOK7 := Lib.hid hok
      have HNM := Lib.hid hnm
      clear hem hnm hni hok
      go_wp2_with fail
      refine hnew.mono ?_
      rintro r w7 ⟨rfl, hf7, hg7⟩
      rw [strV_snoc] at hf7
      have HI7 : Hid (RoI w o An w.heap.size At Mt (i + 1) (i + 1) w7) := Lib.hid (HI5.out.name (by rw [names_next HE.out, if_neg HNM.out]; exact hf7) hg7 HNE.out (Nat.le_refl _))
      clear hf7 hg7 hnew
      go_wp2
      go_roundw
      case rel => exact ⟨i + 1, by omega, by go_num, HI7, HOK7⟩
      case measure => simp [intOf]; omega
end Go.Proofs.YthgiikhkcpbpfaaGreatDoor.C


namespace Go.Proofs.YthgiikhkcpbpfaaGreatDoor.C
open Go.RowKit
def LocR (w : World) (B : Nat) (v1 v2 v3 v4 : Value) (l : Loc) : Prop :=
 ClsR w B v1 l.cls ∧ PrsR w B v2 l.up ∧ PrsR w B v3 l.lo ∧ OrdR w B v4 l.ord ∧ l.cls.length ≤ maxLen ∧ l.up.length ≤ maxLen ∧ l.lo.length ≤ maxLen
theorem LocR.on {w w' : World} {B B' : Nat} {v1 v2 v3 v4 : Value} {l : Loc} (h : LocR w B v1 v2 v3 v4 l) (hb : Below B' w w') (hB : B ≤ B') : LocR w' B v1 v2 v3 v4 l :=
 ⟨h.1.on hb hB, h.2.1.on hb hB, h.2.2.1.on hb hB, h.2.2.2.1.on hb hB, h.2.2.2.2⟩
theorem own_len {w : World} {lo n sz : Nat} {v : Value} {xs : List Value} {e : TypeId} (h : w.ownsRow lo e sz v n xs) : n ≤ maxLen := by
 rcases h.2 with ⟨_, h0⟩ | ⟨g, cap, cur, _, _, _, h1, h2, _⟩
 ·rw [h0]; exact Nat.zero_le _
 ·omega
theorem prsC_flat (l : List (Int × Int)) : prsC l = (l.map prRow).flatten := by
 induction l with
 | nil => rfl
 | cons a r ih =>
  have h : prsC (a :: r) = prRow a ++ prsC r := rfl
  rw [h, ih]
  rfl
theorem PrsR.of {w : World} {lo : Nat} {v : Value} {l : List (Int × Int)} {e : TypeId} (h : w.ownsRow lo e 2 v l.length (prsC l)) : PrsR w w.heap.size v l := by
 obtain ⟨A, c, rfl⟩ := row_form h
 rw [prsC_flat] at h
 exact ⟨A, c, rfl, SI.of_own h (by simp) (by intro x hx; obtain ⟨y, _, rfl⟩ := List.mem_map.1 hx; rfl)⟩
theorem clsC_flat (cs : List Cls) (vs : List Value) : clsC cs vs = ((cs.zip vs).map fun x => [Value.string (str x.1.name), x.2]).flatten := by
 unfold clsC
 rw [List.flatMap_def]
theorem ClsR.of {w : World} {lo : Nat} {v : Value} {cs : List Cls} (h : ClsAt w lo v cs) (hn : ∀ c ∈ cs, c.name.length ≤ maxLen) : ClsR w w.heap.size v cs := by
 obtain ⟨vs, h1, h2, h3⟩ := h
 obtain ⟨A, c, rfl⟩ := row_form h2
 rw [clsC_flat] at h2
 refine ⟨A, c, _, rfl, SI.of_own h2 (by simp [h1]) (by intro x hx; obtain ⟨y, _, rfl⟩ := List.mem_map.1 hx; rfl), fun i k hi => ?_⟩
 have hk : i < cs.length := (List.getElem?_eq_some_iff.1 hi).1
 have hv : vs[i]? = some (vs[i]'(by omega)) := List.getElem?_eq_getElem (by omega)
 refine ⟨vs[i]'(by omega), ?_, PrsR.of (h3 i k _ hi hv), hn k (List.mem_of_getElem? hi), own_len (h3 i k _ hi hv)⟩
 have hz : (cs.zip vs)[i]? = some (k, vs[i]'(by omega)) := by rw [List.getElem?_zip_eq_some]; exact ⟨hi, hv⟩
 rw [List.getElem?_map, hz]
 rfl
theorem OrdR.of {w : World} {lo : Nat} {v : Value} {o : List Elm} (h : OrdAt w lo v o) (hn : ∀ e ∈ o, e.name.length ≤ maxLen) : OrdR w w.heap.size v o := by
 obtain ⟨vs, h1, h2, h3⟩ := h
 obtain ⟨A, c, rfl⟩ := row_form h2
 refine ⟨A, c, _, rfl, SI.of_own h2 (ordR_len h1) ordR_each, fun i e hi => ?_⟩
 have hk : i < o.length := (List.getElem?_eq_some_iff.1 hi).1
 have hv : vs[i]? = some (vs[i]'(by omega)) := List.getElem?_eq_getElem (by omega)
 have ho := h3 i e _ hi hv
 obtain ⟨Ac, cc, he⟩ := row_form ho
 refine ⟨Ac, cc, ?_, RI.of_own (e := 30) (by rw [← he]; exact ho), hn e (List.mem_of_getElem? hi), own_len ho⟩
 unfold ordR
 have hz : (o.zip vs)[i]? = some (e, vs[i]'(by omega)) := by rw [List.getElem?_zip_eq_some]; exact ⟨hi, hv⟩
 rw [List.getElem?_map, hz, ← he]
 rfl
theorem LocR.of {w : World} {lo : Nat} {v1 v2 v3 v4 : Value} {l : Loc} (h : LocAt w lo v1 v2 v3 v4 l) (h1 : ∀ c ∈ l.cls, c.name.length ≤ maxLen) (h2 : ∀ e ∈ l.ord, e.name.length ≤ maxLen) : LocR w w.heap.size v1 v2 v3 v4 l := by
 obtain ⟨a1, a2, a3, a4⟩ := h
 have a0 := a1
 obtain ⟨vs, _, b, _⟩ := a0
 exact ⟨ClsR.of a1 h1, PrsR.of a2, PrsR.of a3, OrdR.of a4 h2, own_len b, own_len a2, own_len a3⟩
def Rw (w : World) (b : Nat) (t : TypeId) (xs : Array Value) : Prop := w.heap[b]? = some (.cells xs t (0, 0))
theorem Rw.lt {w : World} {b : Nat} {t : TypeId} {xs : Array Value} (h : Rw w b t xs) : b < w.heap.size := (Array.getElem?_eq_some_iff.1 h).1
theorem Rw.cell {w : World} {b : Nat} {t : TypeId} {xs : Array Value} (h : Rw w b t xs) {i : Nat} {v : Value} (hi : xs[i]? = some v) : w.cell? ⟨b, i, none⟩ = some v := by simp [World.cell?, show w.heap[b]? = _ from h, hi]
theorem Rw.on {w w' : World} {b B : Nat} {t : TypeId} {xs : Array Value} (h : Rw w b t xs) (hb : Below B w w') (hB : b < B) : Rw w' b t xs := (hb.block b hB).trans h
set_option maxRecDepth 100000 in
set_option maxHeartbeats 4000000 in
theorem locRight_any (w : World) (B : Nat) (v1 v2 v3 v4 : Value) (l : Loc) (h : LocR w B v1 v2 v3 v4 l) (hB : B ≤ w.heap.size) (hG : Gm w) :
  Calls Tryz.prog 35 #[.agg #[v1, v2, v3, v4]] w fun e w' => e = .returned (.bool (rightL l)) ∧ Below w.heap.size w w' := by
 obtain ⟨W, hW⟩ : ∃ W, W = w.alloc (.cells #[v1, v2, v3, v4] 27) := ⟨_, rfl⟩
 have hb : Below w.heap.size w W := by rw [hW]; exact (Below.refl _ _).alloc (Nat.le_refl _) _
 have hGW := hG.next hb
 have hR := h.on hb hB
 have hsz := hb.size
 obtain ⟨r1, r2, r3, r4, n1, n2, n3⟩ := hR
 have hrow : Rw W w.heap.size 27 #[v1, v2, v3, v4] := by rw [hW]; exact heap_alloc_new w _
 obtain ⟨⟨A1, c1, x1, rfl, -⟩, ⟨A2, c2, rfl, -⟩, ⟨A3, c3, rfl, -⟩, ⟨A4, c4, x4, rfl, -⟩, -⟩ := h
 have d1 := rightClasses_any W B _ l.cls r1 (by omega) n1
 have HG := Lib.hid hGW
 have HR2 := Lib.hid r2
 have HR3 := Lib.hid r3
 have HR4 := Lib.hid r4
 have HB := Lib.hid hb
 have HW := Lib.hid hrow
 have HN2 := Lib.hid n2
 have HN3 := Lib.hid n3
 have HBW : Hid (B ≤ W.heap.size) := Lib.hid (by omega)
 clear r1 r2 r3 r4 hG hGW hb hrow n1 n2 n3 hsz hB
 go_enter Tryz.func35, Tryz.ntmps35
 go_wp2_with fail
 rw [← hW]
 refine d1.mono ?_
 rintro e w1 ⟨rfl, hb1⟩
 have HB1 := Lib.hid hb1
 clear hb1 d1
 cases k1 : clsB l.cls with
 | false =>
  have hr : rightL l = false := by unfold rightL; rw [k1]; rfl
  go_wp2
  go_ret
  exact ⟨by rw [hr]; rfl, HB.out.trans (HB1.out.mono HB.out.size)⟩
 | true =>
  have d2 := rightPairs_any w1 B _ l.up (HR2.out.on HB1.out HBW.out) (Nat.le_trans HBW.out HB1.out.size) HN2.out
  have p1 := (HW.out.on HB1.out HW.out.lt).cell (i := 1) rfl
  go_wp2_with fail
  refine d2.mono ?_
  rintro e w2 ⟨rfl, hb2⟩
  have HB2 := Lib.hid (HB1.out.trans (hb2.mono HB1.out.size))
  clear hb2 d2 p1
  cases k2 : pairsB l.up with
  | false =>
   have hr : rightL l = false := by unfold rightL; rw [k1, k2]; rfl
   go_wp2
   go_ret
   exact ⟨by rw [hr]; rfl, HB.out.trans (HB2.out.mono HB.out.size)⟩
  | true =>
   have d3 := rightPairs_any w2 B _ l.lo (HR3.out.on HB2.out HBW.out) (Nat.le_trans HBW.out HB2.out.size) HN3.out
   have p2 := (HW.out.on HB2.out HW.out.lt).cell (i := 2) rfl
   go_wp2_with fail
   refine d3.mono ?_
   rintro e w3 ⟨rfl, hb3⟩
   have HB3 := Lib.hid (HB2.out.trans (hb3.mono HB2.out.size))
   clear hb3 d3 p2
   cases k3 : pairsB l.lo with
   | false =>
    have hr : rightL l = false := by unfold rightL; rw [k1, k2, k3]; rfl
    go_wp2
    go_ret
    exact ⟨by rw [hr]; rfl, HB.out.trans (HB3.out.mono HB.out.size)⟩
   | true =>
    have d4 := rightOrder_any w3 B _ l.ord (HR4.out.on HB3.out HBW.out) (Nat.le_trans HBW.out HB3.out.size) (HG.out.next HB3.out)
    have p3 := (HW.out.on HB3.out HW.out.lt).cell (i := 3) rfl
    have hr : rightL l = ordB l.ord := by unfold rightL; rw [k1, k2, k3]; rfl
    go_wp2_with fail
    refine d4.mono ?_
    rintro e w4 ⟨rfl, hb4⟩
    have HB4 := Lib.hid (HB3.out.trans (hb4.mono HB3.out.size))
    clear hb4 d4 p3
    go_wp2
    go_ret
    exact ⟨by rw [hr]; rfl, HB.out.trans (HB4.out.mono HB.out.size)⟩
end Go.Proofs.YthgiikhkcpbpfaaGreatDoor.C


namespace Go.Proofs.YthgiikhkcpbpfaaGreatDoor.C
open Go.RowKit
def PPair (T : Nat) (ps : List (Int × Int)) (w : World) (M : Nat) : Prop := T < M ∧ MapIs w M (.int .i32) (ps.map fun p => (.int .i32 p.1, .int .i32 p.2))
def rankKV : Nat → List Elm → List (Value × Value)
 | _, [] => []
 | i, e :: r => (.string (str (textL e.cells)), .int .i64 (i : Nat)) :: rankKV (i + 1) r
def PRank (T : Nat) (o : List Elm) (w : World) (M : Nat) : Prop := T < M ∧ MapIs w M .string (rankKV 0 o)
def PCls (T : Nat) (cs : List Cls) (w : World) (M : Nat) : Prop := T < M ∧ ∃ vs, vs.length = cs.length ∧ MapIs w M .string ((cs.zip vs).map fun x => (.string (str x.1.name), x.2)) ∧ ∀ (i : Nat) (k : Cls) (u : Value), cs[i]? = some k → vs[i]? = some u → PrsR w T u k.rs
def PName (T : Nat) (o : List Elm) (w : World) (M : Nat) : Prop := T < M ∧ ∃ vs, vs.length = o.length ∧ MapIs w M .string (((o.zip vs).filter fun x => !x.1.name.isEmpty).map fun x => (.string (str x.1.name), x.2)) ∧ ∀ (i : Nat) (e : Elm) (u : Value), o[i]? = some e → vs[i]? = some u → ∃ Ac cc, u = .slice Ac e.cells.length cc ∧ RI .i32 w T Ac e.cells.length e.cells
def placesL (o : List Elm) (s : Int) : List Nat := (List.range o.length).filter fun i => (o[i]?.map Elm.same) == some s
def PAlike (F T : Nat) (o : List Elm) (w : World) (M : Nat) : Prop := T < M ∧ ∃ kv : List (Int × Value), MapIs w M (.int .i64) (kv.map fun x => (.int .i64 x.1, x.2)) ∧ (∀ e ∈ o, e.same ∈ kv.map Prod.fst) ∧ (∀ x ∈ kv, w.ownsRow (T + 1) 3 1 x.2 (placesL o x.1).length ((placesL o x.1).map fun i => .int .i64 (i : Nat))) ∧ ∀ x ∈ kv, ∀ g, x.2.ownBlock = some g → g ≠ F
section
variable {F T M : Nat} {w w' : World}
theorem Fr.belowT (hf : Fr w w' (· = T)) (hT : T ≤ w.heap.size) : Below T w w' := hf.below (by rintro j _ rfl; exact Nat.le_refl _) hT
theorem MapIs.le {kd : TypeDesc} {l : List (Value × Value)} (h : MapIs w M kd l) (hT : T < M) : T ≤ w.heap.size := by have := h.lt; omega
theorem PPair.fr {ps : List (Int × Int)} (h : PPair T ps w M) (hf : Fr w w' (· = T)) : PPair T ps w' M := ⟨h.1, h.2.fr hf (by have := h.1; omega)⟩
theorem PRank.fr {o : List Elm} (h : PRank T o w M) (hf : Fr w w' (· = T)) : PRank T o w' M := ⟨h.1, h.2.fr hf (by have := h.1; omega)⟩
theorem PCls.fr {cs : List Cls} (h : PCls T cs w M) (hf : Fr w w' (· = T)) : PCls T cs w' M := by
 obtain ⟨h0, vs, h1, h2, h3⟩ := h
 exact ⟨h0, vs, h1, h2.fr hf (by omega), fun i k u a b => (h3 i k u a b).on (hf.belowT (h2.le h0)) (Nat.le_refl _)⟩
theorem PName.fr {o : List Elm} (h : PName T o w M) (hf : Fr w w' (· = T)) : PName T o w' M := by
 obtain ⟨h0, vs, h1, h2, h3⟩ := h
 refine ⟨h0, vs, h1, h2.fr hf (by omega), fun i e u a b => ?_⟩
 obtain ⟨Ac, cc, k1, k2⟩ := h3 i e u a b
 have hb := hf.belowT (h2.le h0)
 exact ⟨Ac, cc, k1, k2.keep fun p hp => hb.cell (p := p) hp⟩
theorem PAlike.fr {o : List Elm} (h : PAlike F T o w M) (hf : Fr w w' (· = T)) : PAlike F T o w' M := by
 obtain ⟨h0, kv, h1, h2, h3, h4⟩ := h
 exact ⟨h0, kv, h1.fr hf (by omega), h2, fun x hx => ownsRow_fr (h3 x hx) hf fun g hg e => by have := ((h3 x hx).lt g hg).1; omega, h4⟩
def LkA (F T : Nat) (o : List Elm) (l : List Value) (w : World) : Prop := F < w.heap.size ∧ Lk l 10 (PAlike F T o w)
theorem LkA.fr {o : List Elm} {l : List Value} (h : LkA F T o l w) (hf : Fr w w' (· = T)) : LkA F T o l w' := ⟨by have := hf.size; have := h.1; omega, h.2.mono fun M h => h.fr hf⟩
end
theorem LkA.same {F T : Nat} {w : World} {o : List Elm} {l l' : List Value} (h : LkA F T o l w) (h0 : l'[10]? = l[10]?) (h1 : l'[10 + 1]? = l[10 + 1]?) (h3 : l'[10 + 3]? = l[10 + 3]?) : LkA F T o l' w := ⟨h.1, h.2.same h0 h1 h3⟩
variable {F : Nat}
def TabG (F : Nat) (w : World) (T : Nat) (L : Loc) (n : Int) : Prop := ∃ (l : List Value) (v1 v2 v3 v4 : Value), Row w T 131 l ∧ l.length = 29 ∧ l[0]? = some (.int .i64 n) ∧ l[1]? = some v4 ∧ l[18]? = some v1 ∧ l[23]? = some v2 ∧ l[28]? = some v3 ∧ LocR w T v1 v2 v3 v4 L ∧
 Lk l 2 (PRank T L.ord w) ∧ Lk l 6 (PName T L.ord w) ∧ LkA F T L.ord l w ∧ Lk l 14 (PCls T L.cls w) ∧ Lk l 19 (PPair T L.up w) ∧ Lk l 24 (PPair T L.lo w)
abbrev TabAt (w : World) (T : Nat) (L : Loc) (n : Int) : Prop := TabG T w T L n
theorem TabG.lt {w : World} {T : Nat} {L : Loc} {n : Int} (h : TabG F w T L n) : T < w.heap.size := by obtain ⟨l, _, _, _, _, h, _⟩ := h; exact h.lt
theorem TabG.keep {w w' : World} {T : Nat} {L : Loc} {n : Int} (h : TabG F w T L n) (hb : Below w.heap.size w w') : TabG F w' T L n := by
 have hT := h.lt
 obtain ⟨l, v1, v2, v3, v4, hr, h1, h2, h3, h4, h5, h6, h7, k1, k2, k3, k4, k5, k6⟩ := h
 have hf : Fr w w' (· = T) := .of_below hb
 exact ⟨l, v1, v2, v3, v4, hr.below hb, h1, h2, h3, h4, h5, h6, h7.on hb (by omega), k1.mono fun M h => h.fr hf, k2.mono fun M h => h.fr hf, k3.fr hf, k4.mono fun M h => h.fr hf, k5.mono fun M h => h.fr hf, k6.mono fun M h => h.fr hf⟩
theorem TabG.step {w w' : World} {T : Nat} {L : Loc} {n : Int} {l l' : List Value} {v1 v2 v3 v4 : Value} (hf : Fr w w' (· = T)) (hr : Row w T 131 l) (hr' : Row w' T 131 l') (o : Nat) (ho : o ∈ [2, 6, 10, 14, 19, 24]) (he : Else l l' o)
  (h : l.length = 29 ∧ l[0]? = some (.int .i64 n) ∧ l[1]? = some v4 ∧ l[18]? = some v1 ∧ l[23]? = some v2 ∧ l[28]? = some v3 ∧ LocR w T v1 v2 v3 v4 L)
  (k1 : Lk l' 2 (PRank T L.ord w') ∨ (o ≠ 2 ∧ Lk l 2 (PRank T L.ord w))) (k2 : Lk l' 6 (PName T L.ord w') ∨ (o ≠ 6 ∧ Lk l 6 (PName T L.ord w))) (k3 : LkA F T L.ord l' w' ∨ (o ≠ 10 ∧ LkA F T L.ord l w))
  (k4 : Lk l' 14 (PCls T L.cls w') ∨ (o ≠ 14 ∧ Lk l 14 (PCls T L.cls w))) (k5 : Lk l' 19 (PPair T L.up w') ∨ (o ≠ 19 ∧ Lk l 19 (PPair T L.up w))) (k6 : Lk l' 24 (PPair T L.lo w') ∨ (o ≠ 24 ∧ Lk l 24 (PPair T L.lo w))) : TabG F w' T L n := by
 obtain ⟨h1, h2, h3, h4, h5, h6, h7⟩ := h
 obtain ⟨e1, e2⟩ := he
 have hb := hf.belowT (Nat.le_of_lt hr.lt)
 have ho' : o = 2 ∨ o = 6 ∨ o = 10 ∨ o = 14 ∨ o = 19 ∨ o = 24 := by simpa using ho
 refine ⟨l', v1, v2, v3, v4, hr', e1.trans h1, (e2 0 (by omega) (by omega) (by omega)).trans h2, (e2 1 (by omega) (by omega) (by omega)).trans h3, (e2 18 (by omega) (by omega) (by omega)).trans h4, (e2 23 (by omega) (by omega) (by omega)).trans h5, (e2 28 (by omega) (by omega) (by omega)).trans h6, h7.on hb (Nat.le_refl _), ?_, ?_, ?_, ?_, ?_, ?_⟩
 ·exact k1.elim id fun ⟨a, b⟩ => (b.mono fun M h => h.fr hf).same (e2 _ (by omega) (by omega) (by omega)) (e2 _ (by omega) (by omega) (by omega)) (e2 _ (by omega) (by omega) (by omega))
 ·exact k2.elim id fun ⟨a, b⟩ => (b.mono fun M h => h.fr hf).same (e2 _ (by omega) (by omega) (by omega)) (e2 _ (by omega) (by omega) (by omega)) (e2 _ (by omega) (by omega) (by omega))
 ·exact k3.elim id fun ⟨a, b⟩ => (b.fr hf).same (e2 _ (by omega) (by omega) (by omega)) (e2 _ (by omega) (by omega) (by omega)) (e2 _ (by omega) (by omega) (by omega))
 ·exact k4.elim id fun ⟨a, b⟩ => (b.mono fun M h => h.fr hf).same (e2 _ (by omega) (by omega) (by omega)) (e2 _ (by omega) (by omega) (by omega)) (e2 _ (by omega) (by omega) (by omega))
 ·exact k5.elim id fun ⟨a, b⟩ => (b.mono fun M h => h.fr hf).same (e2 _ (by omega) (by omega) (by omega)) (e2 _ (by omega) (by omega) (by omega)) (e2 _ (by omega) (by omega) (by omega))
 ·exact k6.elim id fun ⟨a, b⟩ => (b.mono fun M h => h.fr hf).same (e2 _ (by omega) (by omega) (by omega)) (e2 _ (by omega) (by omega) (by omega)) (e2 _ (by omega) (by omega) (by omega))
theorem TabG.count {w : World} {T : Nat} {L : Loc} {n m : Int} (h : TabG F w T L n) : TabG F (w.setCell ⟨T, 0, none⟩ (.int .i64 m)) T L m := by
 obtain ⟨l, v1, v2, v3, v4, hr, h1, h2, h3, h4, h5, h6, h7, k1, k2, k3, k4, k5, k6⟩ := h
 have hf : Fr w (w.setCell ⟨T, 0, none⟩ (.int .i64 m)) (· = T) := (Fr.refl w _).setT _ _
 have hb := hf.belowT (Nat.le_of_lt hr.lt)
 exact ⟨l.set 0 (.int .i64 m), v1, v2, v3, v4, hr.set _ _, by simp [h1], set_eq h2, (set_ne (by omega)).trans h3, (set_ne (by omega)).trans h4, (set_ne (by omega)).trans h5, (set_ne (by omega)).trans h6, h7.on hb (Nat.le_refl _),
  (k1.mono fun M h => h.fr hf).same (set_ne (by omega)) (set_ne (by omega)) (set_ne (by omega)), (k2.mono fun M h => h.fr hf).same (set_ne (by omega)) (set_ne (by omega)) (set_ne (by omega)), (k3.fr hf).same (set_ne (by omega)) (set_ne (by omega)) (set_ne (by omega)),
  (k4.mono fun M h => h.fr hf).same (set_ne (by omega)) (set_ne (by omega)) (set_ne (by omega)), (k5.mono fun M h => h.fr hf).same (set_ne (by omega)) (set_ne (by omega)) (set_ne (by omega)), (k6.mono fun M h => h.fr hf).same (set_ne (by omega)) (set_ne (by omega)) (set_ne (by omega))⟩
theorem TabG.cell0 {w : World} {T : Nat} {L : Loc} {n : Int} (h : TabG F w T L n) : w.cell? ⟨T, 0, none⟩ = some (.int .i64 n) ∧ w.frozen? ⟨T, 0, none⟩ = false := by
 obtain ⟨l, _, _, _, _, hr, _, h0, _⟩ := h
 exact ⟨hr.cell h0, hr.frozen _⟩
theorem TabG.free {F F' : Nat} {w w2 : World} {T : Nat} {L : Loc} {n : Int} (h : TabG F w T L n) (hb : Below w.heap.size w w2) (h1 : w.heap.size ≤ F') (h2 : F' < w2.heap.size) : TabG F' w2 T L n := by
 obtain ⟨l, v1, v2, v3, v4, hr, a1, a2, a3, a4, a5, a6, a7, k1, k2, k3, k4, k5, k6⟩ := h
 have hT := hr.lt
 have hf : Fr w w2 (· = T) := .of_below hb
 exact ⟨l, v1, v2, v3, v4, hr.below hb, a1, a2, a3, a4, a5, a6, a7.on hb (by omega), k1.mono fun M h => h.fr hf, k2.mono fun M h => h.fr hf, ⟨h2, k3.2.mono fun M h => by
  obtain ⟨h0, kv, g1, g2, g3, g4⟩ := h
  exact ⟨h0, kv, g1.fr hf (by omega), g2, fun x hx => ownsRow_fr (g3 x hx) hf fun g hg e => by have := ((g3 x hx).lt g hg).1; omega, fun x hx g hg e => by have := ((g3 x hx).lt g hg).2; omega⟩⟩, k4.mono fun M h => h.fr hf, k5.mono fun M h => h.fr hf, k6.mono fun M h => h.fr hf⟩
theorem TabG.base {F : Nat} {w : World} {T : Nat} {L : Loc} {n : Int} (h : TabG F w T L n) : TabAt w T L n := by
 obtain ⟨l, v1, v2, v3, v4, hr, a1, a2, a3, a4, a5, a6, a7, k1, k2, k3, k4, k5, k6⟩ := h
 exact ⟨l, v1, v2, v3, v4, hr, a1, a2, a3, a4, a5, a6, a7, k1, k2, ⟨hr.lt, k3.2.mono fun M h => by
  obtain ⟨h0, kv, g1, g2, g3, g4⟩ := h
  exact ⟨h0, kv, g1, g2, g3, fun x hx g hg e => by have := ((g3 x hx).lt g hg).1; omega⟩⟩, k4, k5, k6⟩
end Go.Proofs.YthgiikhkcpbpfaaGreatDoor.C


namespace Go.Proofs.YthgiikhkcpbpfaaGreatDoor.C
open Go.RowKit
theorem PrsR.more {w : World} {B B' : Nat} {v : Value} {l : List (Int × Int)} (h : PrsR w B v l) (hB : B ≤ B') : PrsR w B' v l := by
 obtain ⟨A, c, e, h1⟩ := h
 exact ⟨A, c, e, h1.more hB⟩
theorem ClsR.more {w : World} {B B' : Nat} {v : Value} {l : List Cls} (h : ClsR w B v l) (hB : B ≤ B') : ClsR w B' v l := by
 obtain ⟨A, c, xs, e, h1, h2⟩ := h
 refine ⟨A, c, xs, e, h1.more hB, fun i k hi => ?_⟩
 obtain ⟨u, a1, a2, a3⟩ := h2 i k hi
 exact ⟨u, a1, a2.more hB, a3⟩
theorem OrdR.more {w : World} {B B' : Nat} {v : Value} {l : List Elm} (h : OrdR w B v l) (hB : B ≤ B') : OrdR w B' v l := by
 obtain ⟨A, c, xs, e, h1, h2⟩ := h
 refine ⟨A, c, xs, e, h1.more hB, fun i k hi => ?_⟩
 obtain ⟨a, b, a1, a2, a3⟩ := h2 i k hi
 exact ⟨a, b, a1, a2.more hB, a3⟩
theorem LocR.more {w : World} {B B' : Nat} {v1 v2 v3 v4 : Value} {l : Loc} (h : LocR w B v1 v2 v3 v4 l) (hB : B ≤ B') : LocR w B' v1 v2 v3 v4 l := ⟨h.1.more hB, h.2.1.more hB, h.2.2.1.more hB, h.2.2.2.1.more hB, h.2.2.2.2⟩
end Go.Proofs.YthgiikhkcpbpfaaGreatDoor.C
