/-
  Joined: MLxZ, MLxL, LdL, LeJ, LeK, LfB, LfK, LiC, KoP. Each with what its own head says.
-/
import Derived.Test.YtknjhlbhbnldpaaGreatDoorB10
import Derived.Test.YtknjhlbhbnldpaaGreatDoorB09
import Derived.Test.YtknjhlbhbnldpaaGreatDoorB08


namespace Go.Proofs.YtknjhlbhbnldpaaGreatDoor.C
open Go.RowKit
def TI (w : World) (B : Nat) (A : Option Addr) (n : Nat) (ts : List Tok) : Prop :=
 ts.length = n ∧ (0 < n → ∃ ad, A = some ad ∧ ad.block < B ∧ ∀ j x, ts[j]? = some x → ∀ i u, (tkC x)[i]? = some u → w.cell? (ad.add (j * 4 + i)) = some u)
section
variable {w w' : World} {B B' n : Nat} {A : Option Addr} {ts : List Tok}
theorem TI.len (h : TI w B A n ts) : ts.length = n := h.1
theorem TI.nil (w : World) (B : Nat) (A : Option Addr) : TI w B A 0 [] := ⟨rfl, fun h => absurd h (by omega)⟩
theorem TI.keep (h : TI w B A n ts) (hk : ∀ p : Addr, p.block < B → w'.cell? p = w.cell? p) : TI w' B A n ts :=
 ⟨h.1, fun hn => by
  obtain ⟨ad, e, hb, hc⟩ := h.2 hn
  exact ⟨ad, e, hb, fun j x hx i u hu => (hk _ (by rw [block_of_add]; exact hb)).trans (hc j x hx i u hu)⟩⟩
theorem TI.more (h : TI w B A n ts) (hB : B ≤ B') : TI w B' A n ts :=
 ⟨h.1, fun hn => by
  obtain ⟨ad, e, hb, hc⟩ := h.2 hn
  exact ⟨ad, e, by omega, hc⟩⟩
theorem TI.on (h : TI w B A n ts) (hb : Below B' w w') (hB : B ≤ B') : TI w' B A n ts := h.keep fun p hp => hb.cell (p := p) (by omega)
theorem TI.drewN (h : TI w B A n ts) (k : Nat) : TI (w.drewN k) B A n ts := h
theorem TI.at_ (h : TI w B A n ts) {k : Nat} (hk : k < n) : ∃ ad x, A = some ad ∧ ad.block < B ∧ ts[k]? = some x ∧ (∀ i u, (tkC x)[i]? = some u → w.cell? (ad.add (k * 4 + i)) = some u) := by
 obtain ⟨ad, e, hb, hc⟩ := h.2 (by omega)
 have hl : k < ts.length := by have := h.1; omega
 exact ⟨ad, ts[k], e, hb, List.getElem?_eq_getElem hl, hc k _ (List.getElem?_eq_getElem hl)⟩
end
theorem ErrAt.on {w w' : World} {E A R : Nat} (h : ErrAt w E A) (hb : Below R w w') (h1 : E < R) (h2 : A < R) : ErrAt w' E A :=
 ⟨(hb.block E h1).trans h.1, (hb.block A h2).trans h.2.1, h.2.2⟩
end Go.Proofs.YtknjhlbhbnldpaaGreatDoor.C


namespace Go.Proofs.YtknjhlbhbnldpaaGreatDoor.C
open Go.RowKit
theorem prt_len (x : Tok) (ht : x.t.length ≤ 5000) (hn : x.n < 1048576 * 1048576) : (prt x).length ≤ 5020 := by
 have := greatL_len hn
 unfold prt
 repeat' split
 all_goals simp
 all_goals omega
theorem prtL_len : ∀ (ts : List Tok), (∀ x ∈ ts, x.t.length ≤ 5000 ∧ x.n < 1048576 * 1048576) → (prtL ts).length ≤ 5020 * ts.length
 | [], _ => by simp [prtL]
 | x :: r, h => by
  have h1 := prt_len x (h x (by simp)).1 (h x (by simp)).2
  have h2 := prtL_len r (fun y hy => h y (by simp [hy]))
  have : prtL (x :: r) = prt x ++ prtL r := rfl
  rw [this, List.length_append, List.length_cons]
  omega
end Go.Proofs.YtknjhlbhbnldpaaGreatDoor.C


namespace Go.Proofs.YtknjhlbhbnldpaaGreatDoor.C
open Go.RowKit
section
variable {P : Program} {ops : Array Oper} {Q : Exit → Act → World → Prop} {md : Region.Mode} {S : World → Prop}
end
structure Fl where
 m : Bool
 c1 : Bool
 c2 : Bool
 c3 : Bool
 i1 : Bool
 i2 : Bool
 i3 : Bool
 i4 : Bool
 i5 : Bool
def Fl.left (f : Fl) : Nat := (!f.m).toNat + (!f.c1).toNat + (!f.c2).toNat + (!f.c3).toNat + (!f.i1).toNat + (!f.i2).toNat + (!f.i3).toNat + (!f.i4).toNat + (!f.i5).toNat
def Fl.ok (f : Fl) : Nat → Bool
 | 0 => !f.m
 | 2 => !f.c1
 | 3 => f.m && f.c1 && !f.i1
 | 9 => f.c1 && !f.c2
 | 10 => f.m && f.c2 && !f.i2
 | 16 => f.c2 && !f.c3
 | 17 => f.m && f.c3 && !f.i3
 | 20 => f.m && !f.i4
 | 23 => f.m && !f.i5
 | 24 => f.left == 0
 | 25 => f.left == 0
 | _ => false
section
variable {w0 W W' : World} {f : Fl} {q : Pl} {x3 x5 x11 x17 : Value}
end
end Go.Proofs.YtknjhlbhbnldpaaGreatDoor.C


namespace Go.Proofs.YtknjhlbhbnldpaaGreatDoor.C
open Go.RowKit
theorem str_empty (l : List UInt8) : (str l).toList.isEmpty = l.isEmpty := by rw [Lib.toList_data, str_list]
theorem elemB_one (nm : List UInt8) (u s : Int) : elemB ⟨nm, [u], s⟩ = (scalB u && nm.isEmpty) := rfl
theorem elemB_more {nm : List UInt8} {xs : List Int} (s : Int) (h : xs.length ≠ 1) : elemB ⟨nm, xs, s⟩ = (quotB xs && wordlyB nm && (numL nm).isNone) := by
 match xs, h with
 | [], _ => rfl
 | [_], h => exact absurd rfl h
 | _ :: _ :: _, _ => rfl
def Three (w : World) (b : Nat) (t : TypeId) (u v x : Value) : Prop := w.heap[b]? = some (.cells #[u, v, x] t (0, 0))
theorem Three.cells {w : World} {b : Nat} {t : TypeId} {u v x : Value} (h : Three w b t u v x) : w.cell? ⟨b, 0, none⟩ = some u ∧ w.cell? ⟨b, 1, none⟩ = some v ∧ w.cell? ⟨b, 2, none⟩ = some x := by simp [World.cell?, show w.heap[b]? = _ from h]
theorem Three.lt {w : World} {b : Nat} {t : TypeId} {u v x : Value} (h : Three w b t u v x) : b < w.heap.size := (Array.getElem?_eq_some_iff.1 h).1
theorem Three.new (w : World) (t : TypeId) (u v x : Value) : Three (w.alloc (.cells #[u, v, x] t)) w.heap.size t u v x := heap_alloc_new w _
set_option maxRecDepth 100000 in
set_option maxHeartbeats 4000000 in
theorem isElem_any (w : World) (B : Nat) (A : Option Addr) (n c : Nat) (nm : List UInt8) (xs : List Int) (s : Int) (h : RI .i32 w B A n xs) (hB : B ≤ w.heap.size) (hG : Gm w) (hn : nm.length ≤ maxLen) :
  Calls Tryz.prog 109 #[.agg #[.string (str nm), .slice A n c, .int .i64 s]] w fun e w' => e = .returned (.bool (elemB ⟨nm, xs, s⟩)) ∧ Below w.heap.size w w' := by
 obtain ⟨W1, hW1⟩ : ∃ W1, W1 = w.alloc (.cells #[.string (str nm), .slice A n c, .int .i64 s] 39) := ⟨_, rfl⟩
 have hb1 : Below w.heap.size w W1 := by rw [hW1]; exact (Below.refl _ _).alloc (Nat.le_refl _) _
 have HB1 := Lib.hid hb1
 have HX1 : Hid (Three W1 w.heap.size 39 (.string (str nm)) (.slice A n c) (.int .i64 s)) := Lib.hid (by rw [hW1]; exact Three.new w _ _ _ _)
 have hG1 := hG.next hb1
 have hs1 := hb1.size
 have hl := h.len
 by_cases h1 : n = 1
 ·subst h1
  obtain ⟨ad, u, rfl, hbl, hu, hc⟩ := h.at_ (k := 0) (by omega)
  have hz : ad.add 0 = ad := by
   unfold Addr.add
   cases ad
   simp
  rw [hz] at hc
  have hxs : xs = [u] := by
   match xs, hl, hu with
   | [x], _, hu => simp at hu; rw [hu]
  subst hxs
  rw [elemB_one]
  have q3 : W1.cell? ad = some (.int .i32 u) := (hb1.cell (by omega)).trans hc
  have hsc := isScalar_any u W1
  have hem := str_empty nm
  rw [hW1] at q3 hsc
  clear h hG hG1 hb1 hu hl hc
  cases hsb : scalB u with
  | false =>
   rw [hsb] at hsc
   clear hsb
   go_enter Tryz.func109, Tryz.ntmps109
   go_wp2_with (go_at_call 108; refine hsc.mono ?_; rintro e w' ⟨rfl, rfl⟩)
   go_ret
   rw [← hW1]
   exact ⟨rfl, HB1.out⟩
  | true =>
   rw [hsb] at hsc
   clear hsb
   obtain ⟨r, hr⟩ : ∃ r, r = nm.isEmpty := ⟨_, rfl⟩
   rw [← hr] at hem ⊢
   clear hr
   go_enter Tryz.func109, Tryz.ntmps109
   go_wp2_with (go_at_call 108; refine hsc.mono ?_; rintro e w' ⟨rfl, rfl⟩)
   go_ret
   rw [← hW1]
   exact ⟨rfl, HB1.out⟩
 have i1 : ¬ (n : Int) = 1 := by omega
 rw [elemB_more s (by omega)]
 have hiq := isQuotable_any W1 B A n c xs (h.keep fun p hp => hb1.cell (by omega)) (by omega) hG1
 rw [hW1] at hiq
 clear h hG hG1 hb1 hl
 cases hq : quotB xs with
 | false =>
  rw [hq] at hiq
  simp only [Bool.false_and]
  clear hq
  go_enter Tryz.func109, Tryz.ntmps109
  go_wp2_with (go_at_call 137; refine hiq.mono ?_; rintro e w2 ⟨rfl, hb⟩; (have HB := Lib.hid hb); clear hb)
  go_ret
  exact ⟨rfl, HB1.out.trans (by rw [hW1]; exact HB.out.mono (by simp))⟩
 | true =>
  rw [hq] at hiq
  simp only [Bool.true_and]
  clear hq
  have hiw := fun W => isWord_any (str nm) W (by rw [str_size]; unfold maxLen at hn; omega)
  rw [str_list] at hiw
  have hsn := fun W => isScalarName_any nm W hn
  have hstep : ∀ w2, Below (w.alloc (.cells #[.string (str nm), .slice A n c, .int .i64 s] 39)).heap.size (w.alloc (.cells #[.string (str nm), .slice A n c, .int .i64 s] 39)) w2 → w2.cell? ⟨w.heap.size, 0, none⟩ = some (.string (str nm)) := by
   rw [← hW1]
   intro w2 hb
   exact (show Three w2 w.heap.size _ _ _ _ from (hb.block _ HX1.out.lt).trans HX1.out).cells.1
  have HST := Lib.hid hstep
  clear hstep
  cases hwd : wordlyB nm with
  | false =>
   rw [hwd] at hiw
   simp only [Bool.false_and]
   clear hwd hsn
   go_enter Tryz.func109, Tryz.ntmps109
   go_wp2_with (first
    | (go_at_call 137; refine hiq.mono ?_; rintro e w2 ⟨rfl, hb⟩; (have q9 := HST.out w2 hb); (have HB := Lib.hid hb); clear hb)
    | (go_at_call 102; refine (hiw _).mono ?_; rintro e w3 ⟨rfl, hb3⟩; (have HB3 := Lib.hid hb3); clear hb3))
   go_ret
   exact ⟨rfl, HB1.out.trans (by rw [hW1]; exact (HB.out.trans (HB3.out.mono HB.out.size)).mono (by simp))⟩
  | true =>
   rw [hwd] at hiw
   simp only [Bool.true_and]
   obtain ⟨r, hr⟩ : ∃ r, r = (numL nm).isSome := ⟨_, rfl⟩
   have hnr : (numL nm).isNone = !r := by rw [hr]; cases numL nm <;> rfl
   rw [← hr] at hsn
   rw [hnr]
   clear hwd hr hnr
   go_enter Tryz.func109, Tryz.ntmps109
   go_wp2_with (first
    | (go_at_call 137; refine hiq.mono ?_; rintro e w2 ⟨rfl, hb⟩; (have q9 := HST.out w2 hb); (have HB := Lib.hid hb); clear hb)
    | (go_at_call 102; refine (hiw _).mono ?_; rintro e w3 ⟨rfl, hb3⟩; (have q8 := HST.out w3 (HB.out.trans (hb3.mono HB.out.size))); (have HB3 := Lib.hid hb3); clear hb3)
    | (go_at_call 138; refine (hsn _).mono ?_; rintro e w4 ⟨rfl, hb4⟩; (have HB4 := Lib.hid hb4); clear hb4))
   go_ret
   have hb3 := HB.out.trans (HB3.out.mono HB.out.size)
   exact ⟨rfl, HB1.out.trans (by rw [hW1]; exact (hb3.trans (HB4.out.mono hb3.size)).mono (by simp))⟩
theorem SI.at_same {w : World} {B : Nat} {A : Option Addr} {o : List Elm} {xs : List (List Value)} {i : Nat} {e : Elm} (hsi : SI 3 w B A o.length xs) (hel : ∃ Ac cc, xs[i]? = some [.string (str e.name), .slice Ac e.cells.length cc, .int .i64 e.same]) (hi : i < o.length) : ∃ ad : Addr, A = some ad ∧ w.cell? ⟨(ad.add (i * 3)).block, (ad.add (i * 3)).off + 2, none⟩ = some (.int .i64 e.same) := by
 obtain ⟨ad, a, b, z, hA, _, hx, _, _, c2⟩ := hsi.at3 hi
 obtain ⟨Ac, cc, hxe⟩ := hel
 rw [hx] at hxe
 simp at hxe
 rw [hxe.2.2] at c2
 exact ⟨ad, hA, c2⟩
set_option maxRecDepth 100000 in
set_option maxHeartbeats 2000000 in
theorem rightSame_any (w : World) (B : Nat) (v : Value) (o : List Elm) (h : OrdR w B v o) (i : Nat) (e : Elm) (he : o[i]? = some e) :
  Calls Tryz.prog 110 #[v, .int .i64 i] w fun r w' => r = .returned (.bool (sameAt o i e)) ∧ w' = w := by
 obtain ⟨A, c, xs, rfl, hsi, hel⟩ := h
 have hi : i < o.length := (List.getElem?_eq_some_iff.1 he).1
 have hAt : ∀ (j : Nat) (x : Elm), o[j]? = some x → ∃ Ac cc, xs[j]? = some [.string (str x.name), .slice Ac x.cells.length cc, .int .i64 x.same] := fun j x hx => by
  obtain ⟨a, b, h1, _⟩ := hel j x hx
  exact ⟨a, b, h1⟩
 obtain ⟨ad, rfl, q0⟩ := hsi.at_same (hAt i e he) hi
 have i0 : (0 : Int) ≤ (i : Int) := by omega
 have i1 : (i : Int) < (o.length : Int) := by omega
 by_cases h0 : 0 ≤ e.same
 ·by_cases h1 : e.same ≤ i
  ·have hj : e.same.toNat < o.length := by omega
   obtain ⟨x, hx⟩ : ∃ x, o[e.same.toNat]? = some x := ⟨_, List.getElem?_eq_getElem hj⟩
   obtain ⟨ad2, had, q1⟩ := hsi.at_same (hAt _ x hx) hj
   injection had with had
   subst had
   have hr : sameAt o i e = decide (x.same = e.same) := by unfold sameAt; rw [hx, decide_eq_true ⟨h0, h1⟩]; rfl
   rw [hr]
   obtain ⟨j, hjn⟩ : ∃ j, j = e.same.toNat := ⟨_, rfl⟩
   rw [← hjn] at q1 hj
   have hse : e.same = (j : Int) := by omega
   rw [hse] at q0 ⊢
   have j0 : (0 : Int) ≤ (j : Int) := by omega
   have j1 : (j : Int) ≤ (i : Int) := by omega
   have j2 : (j : Int) < (o.length : Int) := by omega
   obtain ⟨y, hy⟩ : ∃ y, y = x.same := ⟨_, rfl⟩
   rw [← hy] at q1 ⊢
   clear hsi hel hAt he hr hx hjn hse h0 h1 hy
   go_enter Tryz.func110, Tryz.ntmps110
   go_wp2
   go_ret
   exact ⟨rfl, rfl⟩
  ·have hr : sameAt o i e = false := by unfold sameAt; rw [decide_eq_false (fun h => h1 h.2)]; rfl
   rw [hr]
   clear hsi hel hAt he hr
   go_enter Tryz.func110, Tryz.ntmps110
   go_wp2
   go_ret
   exact ⟨rfl, rfl⟩
 ·have hr : sameAt o i e = false := by unfold sameAt; rw [decide_eq_false (fun h => h0 h.1)]; rfl
  rw [hr]
  clear hsi hel hAt he hr
  go_enter Tryz.func110, Tryz.ntmps110
  go_wp2
  go_ret
  exact ⟨rfl, rfl⟩
end Go.Proofs.YtknjhlbhbnldpaaGreatDoor.C


namespace Go.Proofs.YtknjhlbhbnldpaaGreatDoor.C
open Go.RowKit
def namesK (o : List Elm) (a : Nat) : List (List UInt8) := ((o.take a).filter fun x => !x.name.isEmpty).map Elm.name
def textsK (o : List Elm) (b : Nat) : List (List UInt8) := (o.take b).map fun x => textL x.cells
theorem elemB_right {e : Elm} (h : elemB e = true) : ∀ c ∈ e.cells, rightB c = true := by
 obtain ⟨nm, xs, s⟩ := e
 by_cases h1 : xs.length = 1
 ·obtain ⟨u, rfl⟩ : ∃ u, xs = [u] := by
   match xs, h1 with
   | [u], _ => exact ⟨u, rfl⟩
  rw [elemB_one] at h
  intro c hc
  simp at hc
  subst hc
  have := (Bool.and_eq_true_iff.1 h).1
  unfold scalB at this
  exact (Bool.and_eq_true_iff.1 this).2
 ·rw [elemB_more s h1] at h
  have h2 := (Bool.and_eq_true_iff.1 (Bool.and_eq_true_iff.1 h).1).1
  have h3 := (quotB_parts h2).2.2.2.2
  unfold canonB at h3
  exact fun c hc => (List.all_eq_true.1 (Bool.and_eq_true_iff.1 h3).1) c hc
theorem elemAt_elem {o : List Elm} {i : Nat} {e : Elm} (he : o[i]? = some e) (h : elemAt o i = true) : elemB e = true := by
 unfold elemAt at h
 rw [he] at h
 simp only [Bool.and_eq_true] at h
 exact h.1.1.1
theorem elemAt_is {o : List Elm} {i : Nat} {e : Elm} (he : o[i]? = some e) : elemAt o i = (elemB e && !((o.take i).any fun x => decide (x.cells = e.cells)) && sameAt o i e && (e.name.isEmpty || !((o.take i).any fun x => decide (x.name = e.name)))) := by
 unfold elemAt
 rw [he]
theorem texts_in {o : List Elm} {i : Nat} {e : Elm} (hok : ∀ j, j < i → elemAt o j = true) (he : elemB e = true) : textL e.cells ∈ textsK o i ↔ ((o.take i).any fun x => decide (x.cells = e.cells)) = true := by
 unfold textsK
 rw [List.mem_map, List.any_eq_true]
 constructor
 ·rintro ⟨x, hx, hxe⟩
  refine ⟨x, hx, decide_eq_true (textL_inj ?_ (elemB_right he) hxe)⟩
  obtain ⟨j, hj, rfl⟩ := List.mem_iff_getElem.1 hx
  rw [List.getElem_take]
  rw [List.length_take] at hj
  exact elemB_right (elemAt_elem (List.getElem?_eq_getElem (by omega)) (hok j (by omega)))
 ·rintro ⟨x, hx, hxe⟩
  exact ⟨x, hx, by rw [of_decide_eq_true hxe]⟩
theorem names_at {o : List Elm} {i : Nat} {nm : List UInt8} (hn : nm ≠ []) : nm ∈ namesK o i ↔ ((o.take i).any fun x => decide (x.name = nm)) = true := by
 unfold namesK
 rw [List.mem_map, List.any_eq_true]
 constructor
 ·rintro ⟨x, hx, hxe⟩
  exact ⟨x, (List.mem_filter.1 hx).1, decide_eq_true hxe⟩
 ·rintro ⟨x, hx, hxe⟩
  have := of_decide_eq_true hxe
  refine ⟨x, List.mem_filter.2 ⟨hx, ?_⟩, this⟩
  rw [this]
  cases nm with
  | nil => exact absurd rfl hn
  | cons => rfl
theorem texts_next {o : List Elm} {i : Nat} {e : Elm} (he : o[i]? = some e) : textsK o (i + 1) = textsK o i ++ [textL e.cells] := by
 unfold textsK
 rw [take_next he, List.map_append]
 rfl
theorem names_next {o : List Elm} {i : Nat} {e : Elm} (he : o[i]? = some e) : namesK o (i + 1) = if e.name = [] then namesK o i else namesK o i ++ [e.name] := by
 unfold namesK
 rw [take_next he, List.filter_append, List.map_append]
 by_cases h : e.name = []
 ·rw [if_pos h]
  simp [h]
 ·rw [if_neg h]
  have : (!e.name.isEmpty) = true := by cases hn : e.name with | nil => exact absurd hn h | cons => rfl
  simp [this]
structure RoI (w : World) (o : List Elm) (An Mn At Mt a b : Nat) (W : World) : Prop where
 bel : Below w.heap.size w W
 fn : FT W 200 .string An Mn (strV (namesK o a))
 ft : FT W 200 .string At Mt (strV (textsK o b))
section
variable {w W W' : World} {o : List Elm} {An Mn At Mt a b : Nat}
theorem RoI.below (h : RoI w o An Mn At Mt a b W) (hb : Below W.heap.size W W') : RoI w o An Mn At Mt a b W' :=
 ⟨h.bel.trans (hb.mono h.bel.size), h.fn.next (hb.block _ h.fn.lt) (hb.block _ h.fn.2.lt), h.ft.next (hb.block _ h.ft.lt) (hb.block _ h.ft.2.lt)⟩
theorem ft_apart {A M A' M' : Nat} {ks ks' : List Value} {t : TypeId} {kd kd' : TypeDesc} (h : FT W t kd A M ks) (h' : FT W t kd' A' M' ks') (hg : W.grownBy W' (some M')) (hne : M ≠ M') : FT W' t kd A M ks :=
 h.fr (X := fun j => j = M') ((Fr.of_grown hg).mono (fun j _ e => by injection e with e; exact e.symm)) (One.nomap h.1 h'.2) hne
theorem RoI.text {b' : Nat} (h : RoI w o An Mn At Mt a b W) (hf : FT W' 200 .string At Mt (strV (textsK o b'))) (hg : W.grownBy W' (some Mt)) (hne : Mn ≠ Mt) (hM : w.heap.size ≤ Mt) : RoI w o An Mn At Mt a b' W' :=
 ⟨h.bel.trans (((Fr.of_grown hg).below (B := w.heap.size) (fun j _ e => by injection e with e; omega) h.bel.size)), ft_apart h.fn h.ft hg hne, hf⟩
theorem RoI.name {a' : Nat} (h : RoI w o An Mn At Mt a b W) (hf : FT W' 200 .string An Mn (strV (namesK o a'))) (hg : W.grownBy W' (some Mn)) (hne : Mn ≠ Mt) (hM : w.heap.size ≤ Mn) : RoI w o An Mn At Mt a' b W' :=
 ⟨h.bel.trans (((Fr.of_grown hg).below (B := w.heap.size) (fun j _ e => by injection e with e; omega) h.bel.size)), hf, ft_apart h.ft h.fn hg hne.symm⟩
theorem RoI.end_ {M : Nat} (h : RoI w o An Mn At Mt a b W) (hg : W.grownBy W' (some M)) (hM : w.heap.size ≤ M) : Below w.heap.size w W' :=
 h.bel.trans (((Fr.of_grown hg).below (B := w.heap.size) (fun j _ e => by injection e with e; omega) h.bel.size))
end
theorem Three.grown {w w' : World} {b : Nat} {t : TypeId} {u v x : Value} {M : Nat} {kd : TypeDesc} {l : List (Value × Value)} (h : Three w b t u v x) (hm : MapIs w M kd l) (hg : w.grownBy w' (some M)) : Three w' b t u v x := (hg.block b h.lt (by
 intro e
 injection e with e
 subst e
 obtain ⟨es, c, h1, _⟩ := hm
 have e := h.symm.trans h1
 simp at e)).trans h
theorem Three.below {w w' : World} {b : Nat} {t : TypeId} {u v x : Value} (h : Three w b t u v x) (hb : Below w.heap.size w w') : Three w' b t u v x := (hb.block _ h.lt).trans h
end Go.Proofs.YtknjhlbhbnldpaaGreatDoor.C


namespace Go.Proofs.YtknjhlbhbnldpaaGreatDoor.C
open Go.RowKit
theorem Kp.set {B P : Nat} {w w' : World} (h : Kp B P w w') (hB : B ≤ P) (i : Nat) (v : Value) : Kp B P w (w'.setCell ⟨P, i, none⟩ v) := ⟨h.1.setCell (p := ⟨P, i, none⟩) hB _, h.2.setCell ⟨P, i, none⟩ rfl _⟩
theorem Kp.size {B P : Nat} {w w' : World} (h : Kp B P w w') : w.heap.size ≤ w'.heap.size := h.1.size
def Printable (ts : List Tok) : Prop := ∀ x ∈ ts, x.t.length ≤ 5000 ∧ x.n < 1048576 * 1048576
def PrnL (ts : List Tok) : Prop := (∀ x ∈ ts, x.n < 1048576 * 1048576) ∧ (prtL ts).length + 4000 ≤ 140737488355328
theorem PrnL.of {ts : List Tok} (h : Printable ts) (hn : ts.length ≤ 5000) : PrnL ts := ⟨fun x hx => (h x hx).2, by have := prtL_len ts h; omega⟩
end Go.Proofs.YtknjhlbhbnldpaaGreatDoor.C


namespace Go.Proofs.YtknjhlbhbnldpaaGreatDoor.C
open Go.RowKit
section
variable {P : Program} {ops : Array Oper} {Q : Exit → Act → World → Prop} {md : Region.Mode} {S : World → Prop}
def Closed (md : Region.Mode) (ops : Array Oper) (listed : Array Bool) : Prop := ∀ (j : Nat) (o : Oper), ops[j]? = some o → listed.getD j false = true → ∀ e ∈ o.after, Region.binds md e = true → listed.getD e.on false = true
theorem getD_set_self {listed : Array Bool} {j : Nat} (h : j < listed.size) (d : Bool) : (listed.setIfInBounds j true).getD j d = true := by
 simp [Array.getD, h]
theorem getD_set_mono {listed : Array Bool} {j k : Nat} (h : listed.getD k false = true) : (listed.setIfInBounds j true).getD k false = true := by
 by_cases hk : k < listed.size
 ·by_cases hjk : j = k
  ·subst hjk; exact getD_set_self hk _
  ·rw [getD_set_ne false hjk]; exact h
 ·simp [Array.getD, hk] at h
theorem Closed.set {listed : Array Bool} (h : Closed md ops listed) {j : Nat} (hj : j ∈ Region.ready md ops listed) : Closed md ops (listed.setIfInBounds j true) := by
 intro k o ho hl e he hb
 by_cases hjk : j = k
 ·subst hjk
  obtain ⟨_, o', ho', hall⟩ := mem_ready.1 hj
  obtain rfl : o = o' := Option.some.inj (ho.symm.trans ho')
  exact getD_set_mono (hall e he hb)
 ·rw [getD_set_ne false hjk] at hl
  exact getD_set_mono (h k o ho hl e he hb)
end
end Go.Proofs.YtknjhlbhbnldpaaGreatDoor.C


namespace Go.Proofs.YtknjhlbhbnldpaaGreatDoor.C
open Go.RowKit
def namedB (nm : List UInt8) (xs : List Int) : Bool := quotB xs && wordlyB nm && (numL nm).isNone
theorem quotB_parts4 (xs : List Int) : quotB xs = (decide (2 ≤ xs.length ∧ xs.length ≤ 4) && !(xs.contains 34) && !(xs.contains 10) && canonB xs) := rfl
theorem namedB_no1 {nm : List UInt8} {xs : List Int} (h : wordlyB nm = false) : namedB nm xs = false := by unfold namedB; rw [h, Bool.and_false, Bool.false_and]
theorem namedB_no2 {nm : List UInt8} {xs : List Int} (h : (numL nm).isSome = true) : namedB nm xs = false := by
 have h3 : (numL nm).isNone = false := by
  cases hn : numL nm with
  | none => rw [hn] at h; cases h
  | some _ => rfl
 unfold namedB
 rw [h3, Bool.and_false]
theorem namedB_no3 {nm : List UInt8} {xs : List Int} (h : quotB xs = false) : namedB nm xs = false := by unfold namedB; rw [h, Bool.false_and, Bool.false_and]
theorem namedB_is {nm : List UInt8} {xs : List Int} (h1 : wordlyB nm = true) (h2 : (numL nm).isSome = false) : namedB nm xs = quotB xs := by
 unfold namedB
 have h3 : (numL nm).isNone = true := by
  cases hn : numL nm with
  | none => rfl
  | some _ => rw [hn] at h2; cases h2
 rw [h1, h3, Bool.and_true, Bool.and_true]
set_option maxRecDepth 100000 in
set_option maxHeartbeats 4000000 in
theorem named07_any (w : World) (B : Nat) (A : Option Addr) (n c : Nat) (nm : List UInt8) (xs : List Int) (s : Int) (h : RI .i32 w B A n xs) (hB : B ≤ w.heap.size) (hn : nm.length ≤ maxLen) (hx : n ≤ maxLen) :
  Calls Tryz.prog 90 #[.agg #[.string (str nm), .slice A n c, .int .i64 s]] w fun e w' => e = .returned (.bool (namedB nm xs)) ∧ Below w.heap.size w w' := by
 have hl := h.len
 obtain ⟨W1, hW1⟩ : ∃ W1, W1 = w.alloc (.cells #[.string (str nm), .slice A n c, .int .i64 s] 39) := ⟨_, rfl⟩
 have hb1 : Below w.heap.size w W1 := by rw [hW1]; exact (Below.refl _ _).alloc (Nat.le_refl _) _
 have HB1 := Lib.hid hb1
 have hX1 : Three W1 w.heap.size 39 (.string (str nm)) (.slice A n c) (.int .i64 s) := by rw [hW1]; exact Three.new w _ _ _ _
 have HX1 := Lib.hid hX1
 have hri : RI .i32 W1 B A n xs := h.keep fun p hp => hb1.cell (by omega)
 have HRI := Lib.hid hri
 have HBs : Hid (B ≤ W1.heap.size) := Lib.hid (Nat.le_trans hB hb1.size)
 unfold maxLen at hx
 cases hwd : wordlyB nm with
 | false =>
  rw [namedB_no1 hwd]
  have hw := wordly07_is nm W1 hn hwd
  rw [hW1] at hw
  clear hwd h hb1 hX1 hri
  go_enter Tryz.func90, Tryz.ntmps90
  go_wp2_with fail
  with_reducible refine hw.mono ?_
  rintro e w' ⟨rfl, rfl⟩
  go_wp2
  go_ret
  rw [← hW1]
  exact ⟨rfl, HB1.out⟩
 | true =>
 have hw := wordly07_is nm W1 hn hwd
 rw [hW1] at hw
 cases hd : (numL nm).isSome with
 | true =>
  rw [namedB_no2 hd]
  have hg := digits07_is nm W1 hd
  rw [hW1] at hg
  clear hwd hd h hb1 hX1 hri
  go_enter Tryz.func90, Tryz.ntmps90
  go_wp2_with fail
  with_reducible refine hw.mono ?_
  rintro e w' ⟨rfl, rfl⟩
  go_wp2_with fail
  with_reducible refine hg.mono ?_
  rintro e w' ⟨rfl, rfl⟩
  go_wp2
  go_ret
  rw [← hW1]
  exact ⟨rfl, HB1.out⟩
 | false =>
 have hg := digits07_is nm W1 hd
 rw [hW1] at hg
 rw [namedB_is hwd hd]
 clear hwd hd
 by_cases h2 : n < 2
 ·have i2 : (n : Int) < 2 := by omega
  have hq : quotB xs = false := by rw [quotB_parts4, decide_eq_false (by omega), Bool.false_and, Bool.false_and, Bool.false_and]
  rw [hq]
  clear hq h2 h hb1 hX1 hri
  go_enter Tryz.func90, Tryz.ntmps90
  go_wp2_with fail
  with_reducible refine hw.mono ?_
  rintro e w' ⟨rfl, rfl⟩
  go_wp2_with fail
  with_reducible refine hg.mono ?_
  rintro e w' ⟨rfl, rfl⟩
  go_wp2
  go_ret
  rw [← hW1]
  exact ⟨rfl, HB1.out⟩
 have i2 : ¬ (n : Int) < 2 := by omega
 by_cases h4 : 4 < n
 ·have i4 : (4 : Int) < (n : Int) := by omega
  have hq : quotB xs = false := by rw [quotB_parts4, decide_eq_false (by omega), Bool.false_and, Bool.false_and, Bool.false_and]
  rw [hq]
  clear hq h2 h4 h hb1 hX1 hri
  go_enter Tryz.func90, Tryz.ntmps90
  go_wp2_with fail
  with_reducible refine hw.mono ?_
  rintro e w' ⟨rfl, rfl⟩
  go_wp2_with fail
  with_reducible refine hg.mono ?_
  rintro e w' ⟨rfl, rfl⟩
  go_wp2
  go_ret
  rw [← hW1]
  exact ⟨rfl, HB1.out⟩
 have i4 : ¬ (4 : Int) < (n : Int) := by omega
 have hcn := refCanonical_any W1 B A n c xs hri HBs.out (by omega)
 rw [hW1] at hcn
 cases hc : canonB xs with
 | false =>
  have hq : quotB xs = false := by rw [quotB_parts4, hc, Bool.and_false]
  rw [hq]
  rw [hc] at hcn
  clear hq hc h2 h4 h hb1 hX1 hri
  go_enter Tryz.func90, Tryz.ntmps90
  go_wp2_with fail
  with_reducible refine hw.mono ?_
  rintro e w' ⟨rfl, rfl⟩
  go_wp2_with fail
  with_reducible refine hg.mono ?_
  rintro e w' ⟨rfl, rfl⟩
  go_wp2_with fail
  with_reducible refine hcn.mono ?_
  rintro e w' ⟨rfl, hb2⟩
  rw [← hW1] at hb2
  have HB2 := Lib.hid (HB1.out.trans (hb2.mono HB1.out.size))
  clear hb2
  go_wp2
  go_ret
  exact ⟨rfl, HB2.out⟩
 | true =>
 have hq : quotB xs = (!(xs.contains 34) && !(xs.contains 10)) := by rw [quotB_parts4, hc, Bool.and_true, decide_eq_true (by omega), Bool.true_and]
 rw [hc] at hcn
 obtain ⟨r, hr⟩ : ∃ r, r = (!(xs.contains 34) && !(xs.contains 10)) := ⟨_, rfl⟩
 rw [hq, ← hr]
 have HRR := Lib.hid hr
 clear hq hc h hb1 hX1 hri hr
 go_enter Tryz.func90, Tryz.ntmps90
 go_wp2_with fail
 with_reducible refine hw.mono ?_
 rintro e w' ⟨rfl, rfl⟩
 go_wp2_with fail
 with_reducible refine hg.mono ?_
 rintro e w' ⟨rfl, rfl⟩
 go_wp2_with fail
 with_reducible refine hcn.mono ?_
 rintro e w3 ⟨rfl, hb2⟩
 rw [← hW1] at hb2
 have HB3 := Lib.hid (HB1.out.trans (hb2.mono HB1.out.size))
 have hx3 : Three w3 w.heap.size 39 (.string (str nm)) (.slice A n c) (.int .i64 s) := (hb2.block _ HX1.out.lt).trans HX1.out
 obtain ⟨q0, q1, q2⟩ := hx3.cells
 have HR3 : Hid (RI .i32 w3 B A n xs) := Lib.hid (HRI.out.keep fun p hp => hb2.cell (by have := HBs.out; omega))
 clear hb2 hw hg hcn hW1 hx3
 go_wp2
 go_loop [3] (fun iv => ∃ i : Nat, i ≤ n ∧ iv = .int .i64 i ∧ Hid (∀ x ∈ xs.take i, x ≠ 34 ∧ x ≠ 10)) (fun iv => n - (intOf iv).toNat)
 case atStart => exact ⟨0, Nat.zero_le _, rfl, Lib.hid (by simp)⟩
 case round =>
  obtain ⟨i, hi, rfl, HK⟩ := hrel
  by_cases hlt : i < n
  ·obtain ⟨ad, x, rfl, -, hk, hcell⟩ := HR3.out.at_ hlt
   have i0 : (0 : Int) ≤ (i : Int) := by omega
   have i1 : (i : Int) < (n : Int) := by omega
   have HM := Lib.hid hk
   clear hk
   by_cases h34 : x = 34
   ·subst h34
    have HF : Hid ((!(xs.contains 34) && !(xs.contains 10)) = false) := Lib.hid (by rw [show xs.contains 34 = true from List.contains_iff_mem.2 (List.mem_of_getElem? HM.out)]; rfl)
    go_wp2
    go_ret
    exact ⟨by rw [HRR.out, HF.out]; rfl, HB3.out⟩
   ·have e1 : (x == 34) = false := by simpa using h34
    by_cases h10 : x = 10
    ·subst h10
     have HF : Hid ((!(xs.contains 34) && !(xs.contains 10)) = false) := Lib.hid (by rw [show xs.contains 10 = true from List.contains_iff_mem.2 (List.mem_of_getElem? HM.out)]; simp)
     clear h34
     go_wp2
     go_ret
     exact ⟨by rw [HRR.out, HF.out]; rfl, HB3.out⟩
    ·have e2 : (x == 10) = false := by simpa using h10
     have HN : Hid (∀ y ∈ xs.take (i + 1), y ≠ 34 ∧ y ≠ 10) := Lib.hid (by
      rw [take_one HM.out]
      intro y hy
      rcases List.mem_append.1 hy with hy | hy
      ·exact HK.out y hy
      ·rw [List.mem_singleton] at hy
       subst hy
       exact ⟨h34, h10⟩)
     clear h34 h10
     go_wp2
     go_round
     case rel => exact ⟨i + 1, by omega, by go_num, HN⟩
     case measure => simp [intOf]; omega
  ·obtain rfl : i = n := by omega
   have HF : Hid ((!(xs.contains 34) && !(xs.contains 10)) = true) := Lib.hid (by
    have hk := HK.out
    rw [List.take_of_length_le (by omega)] at hk
    rw [show xs.contains 34 = false from by
     rw [← Bool.not_eq_true, List.contains_iff_mem]
     exact fun hm => (hk _ hm).1 rfl, show xs.contains 10 = false from by
     rw [← Bool.not_eq_true, List.contains_iff_mem]
     exact fun hm => (hk _ hm).2 rfl]
    rfl)
   go_wp2
   go_ret
   exact ⟨by rw [HRR.out, HF.out]; rfl, HB3.out⟩
theorem pairAt_no {l : List (Int × Int)} {i : Nat} {p : Int × Int} (h : l[i]? = some p) (hf : pairAt l i = false) : pairsB l = false := range_all_false (List.getElem?_eq_some_iff.1 h).1 (by rw [hf]; rfl)
set_option maxRecDepth 100000 in
set_option maxHeartbeats 4000000 in
theorem mapped07_any (w : World) (B : Nat) (v : Value) (l : List (Int × Int)) (h : PrsR w B v l) (hn : l.length ≤ maxLen) :
  Calls Tryz.prog 60 #[v] w fun e w' => e = .returned (.bool (pairsB l)) ∧ ∃ q, w' = w.drewN q := by
 obtain ⟨A, c, rfl, hs⟩ := h
 have HS := Lib.hid hs
 unfold maxLen at hn
 clear hs
 go_enter Tryz.func60, Tryz.ntmps60
 go_wp2
 go_loopw [3] (fun iv wr => ∃ i : Nat, i ≤ l.length ∧ iv = .int .i64 i ∧ Hid ((∃ q, wr = w.drewN q) ∧ ∀ j, j < i → (!pairAt l j) = false)) (fun iv _ => l.length - (intOf iv).toNat)
 case atStart => exact ⟨0, Nat.zero_le _, rfl, Lib.hid ⟨⟨0, rfl⟩, by intro j hj; omega⟩⟩
 case round =>
  obtain ⟨wp, hwp⟩ : ∃ wp, wp = wr := ⟨_, rfl⟩
  subst hwp
  obtain ⟨i, hin, rfl, HQ⟩ := hrel
  by_cases hlt : i < l.length
  rotate_left
  ·obtain rfl : i = l.length := by omega
   have HF : Hid (pairsB l = true) := Lib.hid (range_all_true HQ.out.2)
   go_wp2
   go_ret
   exact ⟨by rw [HF.out]; rfl, HQ.out.1⟩
  obtain ⟨r, hri⟩ : ∃ r, l[i]? = some r := ⟨_, List.getElem?_eq_getElem hlt⟩
  have hS2 : SI 2 wp B A l.length (l.map prRow) := by obtain ⟨⟨q, rfl⟩, _⟩ := HQ.out; exact HS.out.drewN q
  obtain ⟨ad, rfl, _, c0, c1⟩ := prsR_at hS2 hri
  obtain ⟨a, b⟩ := r
  dsimp only at c0 c1
  have i0 : (0 : Int) ≤ (i : Int) := by omega
  have i1 : (i : Int) < (l.length : Int) := by omega
  have hpa := prOk_at hri
  unfold prOk at hpa
  dsimp only at hpa
  have HPA := Lib.hid hpa
  have HRI := Lib.hid hri
  clear hS2 hri hpa
  cases ha : scalB a with
  | false =>
   have hsa := scalar07_is a wp ha
   have HF : Hid (pairsB l = false) := Lib.hid (pairAt_no HRI.out (by rw [HPA.out, ha, Bool.false_and, Bool.false_and]))
   clear ha
   go_wp2_with fail
   with_reducible refine hsa.mono ?_
   rintro e w1 ⟨rfl, rfl⟩
   go_wp2
   go_ret
   exact ⟨by rw [HF.out]; rfl, HQ.out.1⟩
  | true =>
  have hsa := scalar07_is a wp ha
  cases hb : scalB b with
  | false =>
   have hsb := scalar07_is b wp hb
   have HF : Hid (pairsB l = false) := Lib.hid (pairAt_no HRI.out (by rw [HPA.out, hb, Bool.and_false, Bool.false_and]))
   clear ha hb
   go_wp2_with fail
   with_reducible refine hsa.mono ?_
   rintro e w1 ⟨rfl, rfl⟩
   go_wp2_with fail
   with_reducible refine hsb.mono ?_
   rintro e w1 ⟨rfl, rfl⟩
   go_wp2
   go_ret
   exact ⟨by rw [HF.out]; rfl, HQ.out.1⟩
  | true =>
  have hsb := scalar07_is b wp hb
  have HPA2 : Hid (pairAt l i = !(((l.take i).map Prod.fst).contains a)) := Lib.hid (by rw [HPA.out, ha, hb]; rfl)
  clear ha hb HPA
  go_wp2_with fail
  with_reducible refine hsa.mono ?_
  rintro e w1 ⟨rfl, rfl⟩
  go_wp2_with fail
  with_reducible refine hsb.mono ?_
  rintro e w1 ⟨rfl, rfl⟩
  clear hsa hsb
  go_wp2
  go_loopw [4] (fun kv wi => ∃ k : Nat, k ≤ i ∧ kv = .int .i64 k ∧ Hid ((∃ q, wi = w.drewN q) ∧ ∀ x ∈ l.take k, x.1 ≠ a)) (fun kv _ => i - (intOf kv).toNat)
  case atStart => exact ⟨0, Nat.zero_le _, rfl, Lib.hid ⟨HQ.out.1, by simp⟩⟩
  case round =>
   obtain ⟨wi, hwi⟩ : ∃ wi, wi = wr := ⟨_, rfl⟩
   subst hwi
   obtain ⟨k, hki, rfl, HQ2⟩ := hrel
   by_cases hk : k < i
   ·obtain ⟨r2, hr2⟩ : ∃ r, l[k]? = some r := ⟨_, List.getElem?_eq_getElem (by omega)⟩
    have hS3 : SI 2 wi B (some ad) l.length (l.map prRow) := by obtain ⟨⟨q, rfl⟩, _⟩ := HQ2.out; exact HS.out.drewN q
    obtain ⟨ad', he, _, d0, _⟩ := prsR_at hS3 hr2
    obtain ⟨ad'', he', _, c0, _⟩ := prsR_at hS3 HRI.out
    injection he with he
    injection he' with he'
    subst he he'
    obtain ⟨y, y2⟩ := r2
    dsimp only at d0 c0
    have HR2 := Lib.hid hr2
    have k0 : (0 : Int) ≤ (k : Int) := by omega
    have k1 : (k : Int) < (l.length : Int) := by omega
    have k2 : (k : Int) < (i : Int) := by omega
    clear hS3 hr2
    by_cases hya : y = a
    ·have e1 : (y == a) = true := by simpa using hya
     have HF : Hid (pairsB l = false) := Lib.hid (pairAt_no HRI.out (by
      rw [HPA2.out, show ((l.take i).map Prod.fst).contains a = true from List.contains_iff_mem.2 (List.mem_map.2 ⟨(y, y2), List.mem_of_getElem? (i := k) (by rw [List.getElem?_take, if_pos hk]; exact HR2.out), hya⟩)]
      rfl))
     clear hya
     go_wp2
     refine wp_region_held (S := fun W' : World => W'.cell? (ad.add (k * 2)) = some (.int .i32 y) ∧ W'.cell? (ad.add (i * 2)) = some (.int .i32 a)) (by kernel_rfl) ?_
     change wpAnyH _ _ _ _ _ _ _ _ wi.drew
     have hS1 : (fun W' : World => W'.cell? (ad.add (k * 2)) = some (.int .i32 y) ∧ W'.cell? (ad.add (i * 2)) = some (.int .i32 a)) wi.drew := ⟨d0, c0⟩
     iterate 11 (refine wpH rfl rfl ?_; try simp only [Act.put, g1, g2, g3, g4, g5, g6])
     refine wpAnyH_done (by kernel_rfl) ?_ _
     have HQ3 : Hid (∃ q, wi.drew = w.drewN q) := Lib.hid (by obtain ⟨q, rfl⟩ := HQ2.out.1; exact ⟨q + 1, rfl⟩)
     clear hS1 c0 d0
     go_wp2
     go_ret
     exact ⟨by rw [HF.out]; rfl, HQ3.out⟩
    ·have e1 : (y == a) = false := by simpa using hya
     have HN : Hid (∀ x ∈ l.take (k + 1), x.1 ≠ a) := Lib.hid (by
      rw [take_one HR2.out]
      intro x hx
      rcases List.mem_append.1 hx with hx | hx
      ·exact HQ2.out.2 x hx
      ·rw [List.mem_singleton] at hx
       subst hx
       exact hya)
     clear hya
     go_wp2
     refine wp_region_held (S := fun W' : World => W'.cell? (ad.add (k * 2)) = some (.int .i32 y) ∧ W'.cell? (ad.add (i * 2)) = some (.int .i32 a)) (by kernel_rfl) ?_
     change wpAnyH _ _ _ _ _ _ _ _ wi.drew
     have hS1 : (fun W' : World => W'.cell? (ad.add (k * 2)) = some (.int .i32 y) ∧ W'.cell? (ad.add (i * 2)) = some (.int .i32 a)) wi.drew := ⟨d0, c0⟩
     iterate 11 (refine wpH rfl rfl ?_; try simp only [Act.put, g1, g2, g3, g4, g5, g6])
     refine wpAnyH_done (by kernel_rfl) ?_ _
     have HQ3 : Hid (∃ q, wi.drew = w.drewN q) := Lib.hid (by obtain ⟨q, rfl⟩ := HQ2.out.1; exact ⟨q + 1, rfl⟩)
     clear hS1 c0 d0
     go_wp2
     go_roundw
     case rel => exact ⟨k + 1, by omega, by go_num, Lib.hid ⟨HQ3.out, HN.out⟩⟩
     case measure => simp [intOf]; omega
   ·obtain rfl : k = i := by omega
    have HT : Hid ((!pairAt l k) = false) := Lib.hid (by
     rw [HPA2.out, show ((l.take k).map Prod.fst).contains a = false from by
      rw [← Bool.not_eq_true, List.contains_iff_mem]
      intro hm
      obtain ⟨x, hx, he⟩ := List.mem_map.1 hm
      exact HQ2.out.2 x hx he]
     rfl)
    clear c0 c1
    go_wp2
    go_roundw
    case rel => exact ⟨k + 1, by omega, by go_num, Lib.hid ⟨HQ2.out.1, fun j hj => by
     rcases (by omega : j < k ∨ j = k) with h1 | h1
     ·exact HQ.out.2 j h1
     ·rw [h1]; exact HT.out⟩⟩
    case measure => simp [intOf]; omega
end Go.Proofs.YtknjhlbhbnldpaaGreatDoor.C

namespace Go.Proofs.YtknjhlbhbnldpaaGreatDoor.C
open Go.RowKit

theorem nodup_take {α : Type} {l : List α} (h : ∀ i x, l[i]? = some x → x ∉ l.take i) : l.Nodup :=
 List.pairwise_iff_getElem.2 fun i j hi hj hij e => h j l[j] (List.getElem?_eq_getElem hj) (by rw [← e]; exact List.mem_take_iff_getElem.2 ⟨i, by omega, rfl⟩)
theorem all_rangeK {n : Nat} {f : Nat → Bool} (h : (List.range n).all f = true) {i : Nat} (hi : i < n) : f i = true := List.all_eq_true.1 h i (List.mem_range.2 hi)
theorem pairs_nodup {ps : List (Int × Int)} (h : pairsB ps = true) : (ps.map Prod.fst).Nodup := by
 refine nodup_take fun i x hx hm => ?_
 rw [List.getElem?_map] at hx
 obtain ⟨p, hp, rfl⟩ := Option.map_eq_some_iff.1 hx
 have h1 := all_rangeK h (List.getElem?_eq_some_iff.1 hp).1
 unfold pairAt at h1
 rw [hp] at h1
 rw [← List.map_take] at hm
 have h2 : ((ps.take i).map Prod.fst).contains p.1 = true := List.elem_eq_true_of_mem hm
 simp only [h2, Bool.not_true, Bool.and_false] at h1
 cases h1
theorem cls_nodup {cs : List Cls} (h : clsB cs = true) : (cs.map Cls.name).Nodup := by
 refine nodup_take fun i x hx hm => ?_
 rw [List.getElem?_map] at hx
 obtain ⟨p, hp, rfl⟩ := Option.map_eq_some_iff.1 hx
 have h1 := all_rangeK h (List.getElem?_eq_some_iff.1 hp).1
 unfold clsAt at h1
 rw [hp] at h1
 rw [← List.map_take] at hm
 have h2 : ((cs.take i).map Cls.name).contains p.name = true := List.elem_eq_true_of_mem hm
 simp only [h2, Bool.not_true, Bool.and_false, Bool.false_and] at h1
 cases h1
theorem ord_at {o : List Elm} (h : ordB o = true) {i : Nat} {e : Elm} (he : o[i]? = some e) : elemB e = true ∧ ((o.take i).any fun x => decide (x.cells = e.cells)) = false ∧ sameAt o i e = true ∧ (e.name ≠ [] → ((o.take i).any fun x => decide (x.name = e.name)) = false) := by
 unfold ordB at h
 rw [Bool.and_eq_true] at h
 have h1 := all_rangeK h.2 (List.getElem?_eq_some_iff.1 he).1
 rw [elemAt_is he] at h1
 simp only [Bool.and_eq_true, Bool.not_eq_true', Bool.or_eq_true, List.isEmpty_iff] at h1
 exact ⟨h1.1.1.1, h1.1.1.2, h1.1.2, fun hn => h1.2.resolve_left hn⟩
theorem ord_elem {o : List Elm} (h : ordB o = true) {e : Elm} (he : e ∈ o) : elemB e = true := by
 obtain ⟨i, hi, rfl⟩ := List.mem_iff_getElem.1 he
 exact (ord_at h (List.getElem?_eq_getElem hi)).1
theorem cells_nodup {o : List Elm} (h : ordB o = true) : (o.map Elm.cells).Nodup := by
 refine nodup_take fun i x hx hm => ?_
 rw [List.getElem?_map] at hx
 obtain ⟨e, he, rfl⟩ := Option.map_eq_some_iff.1 hx
 have h1 := (ord_at h he).2.1
 rw [← List.map_take, List.mem_map] at hm
 obtain ⟨y, hy, e1⟩ := hm
 have h2 : ((o.take i).any fun x => decide (x.cells = e.cells)) = true := List.any_eq_true.2 ⟨y, hy, by simpa using e1⟩
 rw [h2] at h1
 cases h1
theorem shown_odd {c d : Int} (hc : rightB c = true) (hd : rightB d = false) {x y : List UInt8} (h : shown c ++ x = shown d ++ y) : False := by
 have e2 : shown d = [92, 63] := by
  unfold rightB at hd
  have hd' : ¬ (-256 ≤ d ∧ d < 55296 ∨ 57343 < d ∧ d ≤ 1114111) := by simpa using hd
  unfold shown
  rw [if_neg (by omega), if_pos hd']
 rcases shown_kind hc with ⟨m, m1, m2, e1⟩ | ⟨m2, e1⟩ | ⟨m2, e1⟩ | ⟨m, m0, m1, m3, m2, e1⟩ | ⟨m, m2, e1⟩ <;> rw [e1, e2] at h <;> simp only [List.cons_append, List.nil_append, List.cons.injEq] at h
 ·exact absurd h.2.1 (by decide)
 ·exact absurd h.2.1 (by decide)
 ·exact absurd h.2.1 (by decide)
 ·exact absurd (u8_92 m1 h.1) m3
 ·exact absurd h.2.1 (by decide)
theorem textL_any : ∀ {a b : List Int}, (∀ c ∈ a, rightB c = true) → textL a = textL b → a = b
 | [], [], _, _ => rfl
 | [], c :: b, _, h => by
  have h' : [] = shown c ++ textL b := by simpa [textL] using h
  exact absurd (List.append_eq_nil_iff.1 h'.symm).1 (shown_ne c)
 | c :: a, [], _, h => by
  have h' : shown c ++ textL a = [] := by simpa [textL] using h
  exact absurd (List.append_eq_nil_iff.1 h').1 (shown_ne c)
 | c :: a, d :: b, ha, h => by
  have h' : shown c ++ textL a = shown d ++ textL b := by simpa [textL] using h
  cases hd : rightB d with
  | false => exact (shown_odd (ha c (by simp)) hd h').elim
  | true =>
   obtain ⟨h1, h2⟩ := shown_cut (ha c (by simp)) hd h'
   rw [h1, textL_any (fun x hx => ha x (by simp [hx])) h2]
theorem strV_inj {a b : List UInt8} (h : Value.string (str a) = .string (str b)) : a = b := by
 have h1 : str a = str b := by injection h
 have h2 := congrArg (fun s => s.data.toList) h1
 simpa [str] using h2
theorem nodup_map {α β : Type} {f : α → β} : ∀ {l : List α}, (∀ a ∈ l, ∀ b ∈ l, f a = f b → a = b) → l.Nodup → (l.map f).Nodup
 | [], _, _ => by simp
 | x :: r, hf, h => by
  rw [List.nodup_cons] at h
  rw [List.map_cons, List.nodup_cons]
  refine ⟨fun hm => ?_, nodup_map (fun a ha b hb => hf a (by simp [ha]) b (by simp [hb])) h.2⟩
  obtain ⟨y, hy, e⟩ := List.mem_map.1 hm
  exact h.1 (hf y (by simp [hy]) x (by simp) e ▸ hy)
def toL : List (Int × Int) → Int → Int
 | [], c => c
 | p :: r, c => if p.1 = c then p.2 else toL r c
theorem toL_in : ∀ {ps : List (Int × Int)} {p : Int × Int}, (ps.map Prod.fst).Nodup → p ∈ ps → toL ps p.1 = p.2
 | q :: r, p, hn, hp => by
  rw [List.map_cons, List.nodup_cons] at hn
  unfold toL
  rcases List.mem_cons.1 hp with rfl | hp
  ·rw [if_pos rfl]
  ·rw [if_neg (fun e => hn.1 (by rw [e]; exact List.mem_map_of_mem hp))]
   exact toL_in hn.2 hp
theorem toL_out : ∀ {ps : List (Int × Int)} {c : Int}, c ∉ ps.map Prod.fst → toL ps c = c
 | [], _, _ => rfl
 | q :: r, c, h => by
  rw [List.map_cons, List.mem_cons, not_or] at h
  unfold toL
  rw [if_neg (Ne.symm h.1)]
  exact toL_out h.2
def insU (x : Int) : List Int → List Int
 | [] => [x]
 | y :: r => if x < y then x :: y :: r else if x = y then y :: r else y :: insU x r
def riseL (l : List Int) : List Int := l.foldl (fun r x => insU x r) []
theorem insU_mem {x z : Int} : ∀ {l : List Int}, z ∈ insU x l ↔ z = x ∨ z ∈ l
 | [] => by simp [insU]
 | y :: r => by
  unfold insU
  split
  ·simp
  ·split
   ·rename_i h
    subst h
    simp
   ·rw [List.mem_cons, insU_mem, List.mem_cons]
    constructor
    ·rintro (h | h | h)
     ·exact .inr (.inl h)
     ·exact .inl h
     ·exact .inr (.inr h)
    ·rintro (h | h | h)
     ·exact .inr (.inl h)
     ·exact .inl h
     ·exact .inr (.inr h)
theorem insU_up {x : Int} : ∀ {l : List Int}, l.Pairwise (· < ·) → (insU x l).Pairwise (· < ·)
 | [], _ => by simp [insU]
 | y :: r, h => by
  rw [List.pairwise_cons] at h
  unfold insU
  split
  ·rename_i hx
   rw [List.pairwise_cons, List.pairwise_cons]
   refine ⟨fun z hz => ?_, h⟩
   rcases List.mem_cons.1 hz with rfl | hz
   ·exact hx
   ·exact Int.lt_trans hx (h.1 z hz)
  ·split
   ·exact List.pairwise_cons.2 h
   ·rename_i h1 h2
    rw [List.pairwise_cons]
    refine ⟨fun z hz => ?_, insU_up h.2⟩
    rcases insU_mem.1 hz with rfl | hz
    ·omega
    ·exact h.1 z hz
theorem insU_len {x : Int} : ∀ {l : List Int}, (insU x l).length ≤ l.length + 1
 | [] => by simp [insU]
 | y :: r => by
  unfold insU
  split
  ·simp
  ·split
   ·simp
   ·have := insU_len (x := x) (l := r)
    simp only [List.length_cons]
    omega
theorem rise_all : ∀ {l a : List Int}, (∀ z, z ∈ l.foldl (fun r x => insU x r) a ↔ z ∈ l ∨ z ∈ a) ∧ (a.Pairwise (· < ·) → (l.foldl (fun r x => insU x r) a).Pairwise (· < ·)) ∧ (l.foldl (fun r x => insU x r) a).length ≤ l.length + a.length
 | [], a => by simp
 | x :: r, a => by
  obtain ⟨h1, h2, h3⟩ := rise_all (l := r) (a := insU x a)
  refine ⟨fun z => ?_, fun ha => h2 (insU_up ha), ?_⟩
  ·rw [List.foldl_cons, h1, insU_mem, List.mem_cons]
   constructor
   ·rintro (h | h | h)
    ·exact .inl (.inr h)
    ·exact .inl (.inl h)
    ·exact .inr h
   ·rintro ((h | h) | h)
    ·exact .inr (.inl h)
    ·exact .inl h
    ·exact .inr (.inr h)
  ·rw [List.foldl_cons]
   have := insU_len (x := x) (l := a)
   simp only [List.length_cons]
   omega
theorem rise_mem {l : List Int} {z : Int} : z ∈ riseL l ↔ z ∈ l := by
 have := (rise_all (l := l) (a := [])).1 z
 unfold riseL
 simpa using this
theorem rise_up (l : List Int) : (riseL l).Pairwise (· < ·) := (rise_all (l := l) (a := [])).2.1 (by simp)
theorem rise_len (l : List Int) : (riseL l).length ≤ l.length := by
 unfold riseL
 simpa using (rise_all (l := l) (a := [])).2.2
theorem up_one : ∀ {a b : List Int}, a.Pairwise (· < ·) → b.Pairwise (· < ·) → (∀ z, z ∈ a ↔ z ∈ b) → a = b
 | [], [], _, _, _ => rfl
 | [], y :: r, _, _, h => by have := (h y).2 (by simp); simp at this
 | x :: r, [], _, _, h => by have := (h x).1 (by simp); simp at this
 | x :: r, y :: s, ha, hb, h => by
  rw [List.pairwise_cons] at ha hb
  have e : x = y := by
   have h1 := (h x).1 (by simp)
   have h2 := (h y).2 (by simp)
   rcases List.mem_cons.1 h1 with e | h1
   ·exact e
   ·rcases List.mem_cons.1 h2 with e | h2
    ·exact e.symm
    ·have := hb.1 x h1
     have := ha.1 y h2
     omega
  subst e
  congr 1
  refine up_one ha.2 hb.2 fun z => ⟨fun hz => ?_, fun hz => ?_⟩
  ·rcases List.mem_cons.1 ((h z).1 (by simp [hz])) with e | h1
   ·have := ha.1 z hz
    omega
   ·exact h1
  ·rcases List.mem_cons.1 ((h z).2 (by simp [hz])) with e | h1
   ·have := hb.1 z hz
    omega
   ·exact h1
def foldL (L : Loc) (c : Int) : List Int := riseL [c, toL L.up c, toL L.lo c, toL L.lo (toL L.up c), toL L.up (toL L.lo c)]
end Go.Proofs.YtknjhlbhbnldpaaGreatDoor.C
