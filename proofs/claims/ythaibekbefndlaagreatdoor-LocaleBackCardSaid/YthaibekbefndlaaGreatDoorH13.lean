/-
  Joined: LgA, LgE, LgF, LeH. Each with what its own head says.
-/
import Derived.Test.YthaibekbefndlaaGreatDoorH10
import Derived.Test.YthaibekbefndlaaGreatDoorH09

namespace Go.Proofs.YthaibekbefndlaaGreatDoor.C

theorem lineT_le18 : ∀ (l : List Tok), (∀ x ∈ l, (bodyT x).length ≤ 18) → (lineT l).length ≤ 19 * (l.length + 1)
 | [], _ => by simp [lineT]
 | [x], h => by
  have := h x (by simp)
  simp [lineT]
  omega
 | x :: y :: r, h => by
  have h1 := h x (by simp)
  have h2 := lineT_le18 (y :: r) (fun z hz => h z (by simp at hz ⊢; exact .inr hz))
  have h3 : lineT (x :: y :: r) = bodyT x ++ 32 :: lineT (y :: r) := rfl
  rw [h3]
  simp only [List.length_append, List.length_cons] at h2 ⊢
  omega
theorem linesT_le18 : ∀ (ls : List (List Tok)), (∀ l ∈ ls, ∀ x ∈ l, (bodyT x).length ≤ 18) → (linesT ls).length ≤ 19 * (toksT ls).length
 | [], _ => by simp [linesT, toksT]
 | l :: r, h => by
  have h1 := lineT_le18 l (h l (by simp))
  have h2 := linesT_le18 r (fun z hz => h z (by simp [hz]))
  rw [linesT_cons, toksT_cons]
  simp only [List.length_append, List.length_cons]
  omega
structure Short (l : Loc) : Prop where
 cls : ∀ c ∈ l.cls, c.name.length ≤ 16 ∧ ∀ r ∈ c.rs, r.1 ≤ 1114111 ∧ r.2 ≤ 1114111
 up : ∀ r ∈ l.up, r.1 ≤ 1114111 ∧ r.2 ≤ 1114111
 lo : ∀ r ∈ l.lo, r.1 ≤ 1114111 ∧ r.2 ≤ 1114111
 ord : ∀ e ∈ l.ord, e.name.length ≤ 16 ∧ (e.name ≠ [] → e.cells.length ≤ 4) ∧ e.cells.headD 0 ≤ 1114111
theorem body_tC {c : Int} (h : c ≤ 1114111) : (bodyT (tC c)).length ≤ 18 := by
 have := great_len (c := c.toNat) (by omega)
 simp [bodyT, tC]
 omega
theorem body_tS {t : List UInt8} (h : t.length ≤ 18) : (bodyT (tS t)).length ≤ 18 := by simpa [bodyT, tS] using h
theorem body_tW {t : List UInt8} (h : t.length ≤ 18) : (bodyT (tW t)).length ≤ 18 := by simpa [bodyT, tW] using h
theorem body_tN {t : List UInt8} (h : t.length ≤ 16) : (bodyT (tN t)).length ≤ 18 := by simp [bodyT, tN]; omega
theorem body_tQ {t : List UInt8} (h : t.length ≤ 16) : (bodyT (tQ t)).length ≤ 18 := by simp [bodyT, tQ]; omega
theorem body_sep {α : Type} (f : α → List Tok) : ∀ (l : List α), (∀ a ∈ l, ∀ x ∈ f a, (bodyT x).length ≤ 18) → ∀ x ∈ sepT f l, (bodyT x).length ≤ 18
 | [], _, x, hx => by simp [sepT] at hx
 | [a], h, x, hx => h a (by simp) x hx
 | a :: b :: r, h, x, hx => by
  have h' : x ∈ f a ++ tS sSemi :: sepT f (b :: r) := hx
  rcases List.mem_append.1 h' with h1 | h1
  ·exact h a (by simp) x h1
  ·rcases List.mem_cons.1 h1 with rfl | h2
   ·exact body_tS (by decide)
   ·exact body_sep f (b :: r) (fun z hz => h z (by simp at hz ⊢; exact .inr hz)) x h2
theorem body_range {r : Int × Int} (h : r.1 ≤ 1114111 ∧ r.2 ≤ 1114111) : ∀ x ∈ rangeT r, (bodyT x).length ≤ 18 := by
 intro x hx
 unfold rangeT at hx
 split at hx
 ·simp at hx; subst hx; exact body_tC h.1
 ·simp at hx
  rcases hx with rfl | rfl | rfl
  ·exact body_tC h.1
  ·exact body_tS (by decide)
  ·exact body_tC h.2
theorem body_pair {r : Int × Int} (h : r.1 ≤ 1114111 ∧ r.2 ≤ 1114111) : ∀ x ∈ pairT r, (bodyT x).length ≤ 18 := by
 intro x hx
 unfold pairT at hx
 simp at hx
 rcases hx with rfl | rfl | rfl | rfl | rfl
 ·exact body_tS (by decide)
 ·exact body_tC h.1
 ·exact body_tS (by decide)
 ·exact body_tC h.2
 ·exact body_tS (by decide)
theorem body_map {m : List UInt8} {l : List (Int × Int)} (hm : m.length ≤ 18) (h : ∀ r ∈ l, r.1 ≤ 1114111 ∧ r.2 ≤ 1114111) : ∀ t ∈ mapT m l, ∀ x ∈ t, (bodyT x).length ≤ 18 := by
 intro t ht x hx
 unfold mapT at ht
 split at ht
 ·simp at ht
 ·simp at ht
  subst ht
  rcases List.mem_cons.1 hx with rfl | hx
  ·exact body_tW hm
  ·exact body_sep _ _ (fun a ha => body_pair (h a ha)) x hx
theorem body_item {e : Elm} (h : e.name.length ≤ 16 ∧ e.cells.headD 0 ≤ 1114111) : (bodyT (itemT e)).length ≤ 18 := by
 unfold itemT
 split
 ·exact body_tC h.2
 ·exact body_tN h.1
theorem bytesOf_le (l : List Int) : (bytesOf l).length ≤ 4 * l.length := by
 unfold bytesOf
 have h1 := (encL_len l).2
 have h2 := sb_size (encL l)
 have h3 : (sb (encL l)).data.toList.length = (sb (encL l)).size := by rw [Array.length_toList]; rfl
 omega
theorem body_ords (o : List Elm) (ho : ∀ e ∈ o, e.name.length ≤ 16 ∧ e.cells.headD 0 ≤ 1114111) : ∀ (r : List Elm) (i : Nat), (∀ e ∈ r, e.name.length ≤ 16 ∧ e.cells.headD 0 ≤ 1114111) → ∀ t ∈ ordsT o i r, ∀ x ∈ t, (bodyT x).length ≤ 18
 | [], _, _, t, ht => by simp [ordsT] at ht
 | e :: r, i, h, t, ht => by
  have h' : t ∈ ordT o i e :: ordsT o (i + 1) r := ht
  rcases List.mem_cons.1 h' with rfl | h2
  ·intro x hx
   unfold ordT at hx
   rcases List.mem_cons.1 hx with rfl | hx
   ·exact body_tW (by decide)
   ·rcases List.mem_cons.1 hx with rfl | hx
    ·exact body_item (h e (by simp))
    ·split at hx
     ·simp at hx
     ·split at hx
      ·rename_i y hy
       simp at hx
       rcases hx with rfl | rfl
       ·exact body_tS (by decide)
       ·exact body_item (ho y (List.mem_of_getElem? hy))
      ·simp at hx
  ·exact body_ords o ho r (i + 1) (fun z hz => h z (by simp [hz])) t h2
theorem short_body {l : Loc} (h : Short l) : ∀ t ∈ locT l, ∀ x ∈ t, (bodyT x).length ≤ 18 := by
 intro t ht
 unfold locT at ht
 simp only [List.mem_append] at ht
 rcases ht with (((ht | ht) | ht) | ht) | ht
 ·obtain ⟨c, hc, rfl⟩ := List.mem_map.1 ht
  intro x hx
  have hx' : x ∈ tW wClass :: tW c.name :: sepT rangeT c.rs := hx
  have hcc := h.cls c hc
  rcases List.mem_cons.1 hx' with rfl | hx
  ·exact body_tW (by decide)
  ·rcases List.mem_cons.1 hx with rfl | hx
   ·exact body_tW (by omega)
   ·exact body_sep _ _ (fun a ha => body_range (hcc.2 a ha)) x hx
 ·exact body_map (by decide) h.up t ht
 ·exact body_map (by decide) h.lo t ht
 ·obtain ⟨e, he, ht⟩ := List.mem_flatMap.1 ht
  have hee := h.ord e he
  unfold elemT at ht
  split at ht
  ·simp at ht
  ·rename_i hne
   simp at ht
   subst ht
   intro x hx
   simp at hx
   have hb := bytesOf_le e.cells
   have hc := hee.2.1 hne
   rcases hx with rfl | rfl | rfl | rfl
   ·exact body_tW (by decide)
   ·exact body_item ⟨hee.1, hee.2.2⟩
   ·exact body_tW (by decide)
   ·exact body_tQ (by omega)
 ·exact body_ords l.ord (fun e he => ⟨(h.ord e he).1, (h.ord e he).2.2⟩) l.ord 0 (fun e he => ⟨(h.ord e he).1, (h.ord e he).2.2⟩) t ht
def mO : Nat → List Elm → Nat
 | _, [] => 0
 | i, e :: r => (if e.same = i then 3 else 5) + (if e.name = [] then 0 else 5) + mO (i + 1) r
def mT (l : Loc) : Nat := (l.cls.map fun c => (clsT c).length + 1).sum + 6 * (l.up.length + l.lo.length) + mO 0 l.ord
theorem mO_snoc : ∀ (r : List Elm) (i : Nat) (e : Elm), mO i (r ++ [e]) = mO i r + ((if e.same = (i + r.length : Nat) then 3 else 5) + (if e.name = [] then 0 else 5))
 | [], i, e => by simp [mO]
 | a :: r, i, e => by
  show (if a.same = i then 3 else 5) + (if a.name = [] then 0 else 5) + mO (i + 1) (r ++ [e]) = _
  rw [mO_snoc r (i + 1) e, show i + 1 + r.length = i + (a :: r).length by simp; omega]
  simp only [mO]
  omega
theorem len_sepP : ∀ (l : List (Int × Int)), (sepT pairT l).length ≤ 6 * l.length
 | [] => by simp [sepT]
 | [a] => by simp [sepT, pairT]
 | a :: b :: r => by
  have h := len_sepP (b :: r)
  have h3 : sepT pairT (a :: b :: r) = pairT a ++ tS sSemi :: sepT pairT (b :: r) := rfl
  rw [h3]
  simp only [List.length_append, List.length_cons] at h ⊢
  simp [pairT]
  omega
theorem len_map (m : List UInt8) (l : List (Int × Int)) : (toksT (mapT m l)).length ≤ 6 * l.length + 2 := by
 unfold mapT
 split
 ·simp [toksT]
 ·have := len_sepP l
  simp [toksT]
  omega
theorem len_elems : ∀ (l : List Elm), (toksT (l.flatMap elemT)).length = (l.map fun e => if e.name = [] then 0 else 5).sum
 | [] => by simp [toksT]
 | e :: r => by
  rw [List.flatMap_cons, toksT_app, List.length_append, len_elems r, List.map_cons, List.sum_cons]
  congr 1
  unfold elemT
  split <;> simp [toksT]
theorem len_ords (o : List Elm) : ∀ (r : List Elm) (i : Nat), (r.map fun e => if e.name = [] then 0 else 5).sum + (toksT (ordsT o i r)).length ≤ mO i r
 | [], i => by simp [ordsT, toksT, mO]
 | e :: r, i => by
  have h := len_ords o r (i + 1)
  have h3 : ordsT o i (e :: r) = ordT o i e :: ordsT o (i + 1) r := rfl
  have h4 : (ordT o i e).length + 1 ≤ (if e.same = i then 3 else 5) := by
   unfold ordT
   split
   ·simp
   ·split <;> simp
  rw [h3, toksT_cons, List.map_cons, List.sum_cons]
  simp only [List.length_append, List.length_cons, mO]
  omega
theorem len_cls : ∀ (l : List Cls), (toksT (l.map clsT)).length = (l.map fun c => (clsT c).length + 1).sum
 | [] => by simp [toksT]
 | c :: r => by
  rw [List.map_cons, toksT_cons, List.map_cons, List.sum_cons, List.length_append, List.length_cons, len_cls r]
  omega
theorem len_loc (l : Loc) : (toksT (locT l)).length ≤ mT l + 4 := by
 unfold locT mT
 have h1 := len_cls l.cls
 have h2 := len_map wUpper l.up
 have h3 := len_map wLower l.lo
 have h4 := len_elems l.ord
 have h5 := len_ords l.ord l.ord 0
 simp only [toksT_app, List.length_append]
 omega
theorem fits_of {l : Loc} (h : Short l) {n : Nat} (hm : mT l + 4 ≤ n) : (linesT (locT l)).length ≤ 19 * n ∧ (toksT (locT l)).length ≤ n := by
 have h1 := linesT_le18 _ (short_body h)
 have h2 := len_loc l
 omega

theorem range_snoc {n : Nat} {f : Nat → Bool} (h : (List.range n).all f = true) (h1 : f n = true) : (List.range (n + 1)).all f = true := by
 rw [List.range_succ, List.all_append, h]
 simpa using h1
theorem all_cong {n : Nat} {f g : Nat → Bool} (h : ∀ i, i < n → g i = f i) (h1 : (List.range n).all f = true) : (List.range n).all g = true := by
 rw [List.all_eq_true] at h1 ⊢
 intro i hi
 rw [h i (List.mem_range.1 hi)]
 exact h1 i hi
theorem get_snoc {α : Type} (l : List α) (x : α) {i : Nat} (h : i < l.length) : (l ++ [x])[i]? = l[i]? := List.getElem?_append_left h
theorem takeFront {α : Type} (l : List α) (x : α) {i : Nat} (h : i ≤ l.length) : (l ++ [x]).take i = l.take i := List.take_append_of_le_length h
theorem clsB_snoc {l : List Cls} {c : Cls} (h : clsB l = true) (h1 : wordlyB c.name = true) (h2 : c.name ∉ l.map Cls.name) (h3 : c.rs ≠ []) (h4 : c.rs.all rangeB = true) : clsB (l ++ [c]) = true := by
 unfold clsB at h ⊢
 rw [List.length_append, List.length_singleton]
 refine range_snoc (all_cong (fun i hi => ?_) h) ?_
 ·unfold clsAt
  rw [get_snoc _ _ hi, takeFront _ _ (Nat.le_of_lt hi)]
 ·unfold clsAt
  rw [List.getElem?_concat_length]
  have h5 : c.rs.isEmpty = false := by cases hq : c.rs with
   | nil => exact absurd hq h3
   | cons => rfl
  have h6 : ((l.map Cls.name).contains c.name) = false := by simpa using h2
  simp only [h1, h4, h5, takeFront _ _ (Nat.le_refl _), List.take_length, h6]
  rfl
theorem pairsB_snoc {l : List (Int × Int)} {p : Int × Int} (h : pairsB l = true) (h1 : scalB p.1 = true) (h2 : scalB p.2 = true) (h3 : p.1 ∉ l.map Prod.fst) : pairsB (l ++ [p]) = true := by
 unfold pairsB at h ⊢
 rw [List.length_append, List.length_singleton]
 refine range_snoc (all_cong (fun i hi => ?_) h) ?_
 ·unfold pairAt
  rw [get_snoc _ _ hi, takeFront _ _ (Nat.le_of_lt hi)]
 ·unfold pairAt
  rw [List.getElem?_concat_length]
  have h6 : ((l.map Prod.fst).contains p.1) = false := by simpa using h3
  simp only [h1, h2, takeFront _ _ (Nat.le_refl _), List.take_length, h6]
  rfl
theorem sameAt_snoc {l : List Elm} (x : Elm) {i : Nat} (e : Elm) (h : i < l.length) : sameAt (l ++ [x]) i e = sameAt l i e := by
 unfold sameAt
 by_cases h1 : 0 ≤ e.same ∧ e.same ≤ i
 ·rw [get_snoc _ _ (by omega)]
 ·rw [decide_eq_false h1]
  rfl
theorem ordB_snoc {l : List Elm} {e : Elm} (h : ordB l = true) (h0 : l.length < 500) (h1 : elemB e = true) (h2 : ∀ x ∈ l, x.cells ≠ e.cells) (h3 : e.same = l.length ∨ ∃ (j : Nat) (x : Elm), l[j]? = some x ∧ e.same = x.same ∧ sameAt l j x = true) (h4 : e.name ≠ [] → ∀ x ∈ l, x.name ≠ e.name) : ordB (l ++ [e]) = true := by
 unfold ordB at h ⊢
 rw [Bool.and_eq_true] at h ⊢
 rw [List.length_append, List.length_singleton]
 refine ⟨decide_eq_true (by omega), range_snoc (all_cong (fun i hi => ?_) h.2) ?_⟩
 ·unfold elemAt
  rw [get_snoc _ _ hi, takeFront _ _ (Nat.le_of_lt hi)]
  cases hq : l[i]? with
  | none => rfl
  | some y => simp only [sameAt_snoc _ _ hi]
 ·unfold elemAt
  rw [List.getElem?_concat_length]
  have h5 : (l.any fun x => decide (x.cells = e.cells)) = false := by
   rw [List.any_eq_false]
   intro x hx
   simpa using h2 x hx
  have h6 : sameAt (l ++ [e]) l.length e = true := by
   unfold sameAt
   rcases h3 with h3 | ⟨j, x, hx, he, hs⟩
   ·rw [h3, Int.toNat_natCast, List.getElem?_concat_length, decide_eq_true ⟨by omega, by omega⟩]
    simp [h3]
   ·have hj : j < l.length := (List.getElem?_eq_some_iff.1 hx).1
    unfold sameAt at hs
    rw [Bool.and_eq_true] at hs
    have hs1 := of_decide_eq_true hs.1
    rw [he, get_snoc _ _ (by omega), decide_eq_true ⟨hs1.1, by omega⟩]
    exact hs.2
  have h7 : (e.name.isEmpty || !(l.any fun x => decide (x.name = e.name))) = true := by
   by_cases h8 : e.name = []
   ·rw [h8]; rfl
   ·have : (l.any fun x => decide (x.name = e.name)) = false := by
     rw [List.any_eq_false]
     intro x hx
     simpa using h4 h8 x hx
    rw [this]
    simp
  simp only [h1, takeFront _ _ (Nat.le_refl _), List.take_length, h5, h6, h7]
  rfl
end Go.Proofs.YthaibekbefndlaaGreatDoor.C

namespace Go.Proofs.YthaibekbefndlaaGreatDoor.C

instance (x : Tok) : Decidable (GoodT x) := by unfold GoodT; infer_instance
def nCh : List UInt8 := [99, 104]
structure Inv (s : Sta) (m0 n : Nat) : Prop where
 right : rightL s.l = true
 nm : ∀ c ∈ s.l.cls, c.name.length ≤ 16
 d : ∀ x ∈ s.d, x = (nCh, [99, 104])
 el : ∀ e ∈ s.l.ord, e.name = [] ∨ (e.name = nCh ∧ e.cells = [99, 104])
 m : mT s.l ≤ m0
 len : s.l.ord.length ≤ n
theorem right_parts {l : Loc} (h : rightL l = true) : clsB l.cls = true ∧ pairsB l.up = true ∧ pairsB l.lo = true ∧ ordB l.ord = true := by
 unfold rightL at h
 simp only [Bool.and_eq_true] at h
 exact ⟨h.1.1.1, h.1.1.2, h.1.2, h.2⟩
theorem right_of {l : Loc} (h1 : clsB l.cls = true) (h2 : pairsB l.up = true) (h3 : pairsB l.lo = true) (h4 : ordB l.ord = true) : rightL l = true := by unfold rightL; rw [h1, h2, h3, h4]; rfl
end Go.Proofs.YthaibekbefndlaaGreatDoor.C

namespace Go.Proofs.YthaibekbefndlaaGreatDoor.C

theorem placeL_out {o : List Elm} {c : List Int} (h : placeL o c = none) : ∀ x ∈ o, x.cells ≠ c := by
 unfold placeL at h
 rw [List.findIdx?_eq_none_iff] at h
 intro x hx he
 have := h x hx
 simp [he] at this
end Go.Proofs.YthaibekbefndlaaGreatDoor.C

namespace Go.Proofs.YthaibekbefndlaaGreatDoor.C
open Go.RowKit

theorem Gm.next {w w' : World} (h : Gm w) (hb : Below w.heap.size w w') : Gm w' := ⟨h.1.next hb, tabs_below h.2 hb⟩
set_option maxRecDepth 100000 in
set_option maxHeartbeats 1000000 in
theorem index32_any (w : World) (B : Nat) (A : Option Addr) (n c : Nat) (ks : List Int) (v : Int) (h : RI .i32 w B A n ks) (hn : n ≤ 1000) :
  Calls Tryz.prog 191 #[.slice A n c, .int .i32 v] w fun e w' => (∃ i : Int, e = .returned (.int .i64 i) ∧ (decide (0 ≤ i) = inKs ks v)) ∧ w' = w := by
 have H := Lib.hid h
 have hl := h.len
 clear h
 have HL := Lib.hid hl
 clear hl
 go_enter Tryz.func191, Tryz.ntmps191
 go_wp2
 go_loop [8] (fun i => ∃ k : Nat, k ≤ n ∧ i = .int .i64 k ∧ Hid (v ∉ ks.take k)) (fun i => n - (intOf i).toNat)
 case atStart => exact ⟨0, Nat.zero_le _, rfl, Lib.hid (by simp)⟩
 case round =>
  obtain ⟨k, hk, rfl, HN⟩ := hrel
  by_cases hlt : k < n
  ·obtain ⟨ad, u, rfl, hb, hu, hc⟩ := H.out.at_ hlt
   have HU := Lib.hid hu
   clear hu
   by_cases hv : v = u
   ·subst hv
    go_wp2
    go_ret
    refine ⟨⟨_, rfl, ?_⟩, rfl⟩
    have hm : v ∈ ks := List.mem_of_getElem? HU.out
    simp [inKs, hm]
   ·have hv' : (v == u) = false := by simpa using hv
    go_wp2
    go_round
    case rel => exact ⟨k + 1, by omega, by go_num, Lib.hid (by
     rw [List.take_add_one, HU.out]
     simp only [Option.toList_some, List.mem_append, List.mem_singleton, not_or]
     exact ⟨HN.out, hv⟩)⟩
    case measure => simp [intOf]; omega
  ·obtain rfl : k = n := by omega
   go_wp2
   go_ret
   refine ⟨⟨_, rfl, ?_⟩, rfl⟩
   have hm := HN.out
   rw [List.take_of_length_le (by rw [HL.out]; exact Nat.le_refl _)] at hm
   simp [inKs, hm]
set_option maxRecDepth 100000 in
set_option maxHeartbeats 1000000 in
theorem contains32_is (w : World) (B : Nat) (A : Option Addr) (n c : Nat) (ks : List Int) (v : Int) (h : RI .i32 w B A n ks) (hn : n ≤ 1000) (b : Bool) (hb : inKs ks v = b) :
  Calls Tryz.prog 159 #[.slice A n c, .int .i32 v] w fun e w' => e = .returned (.bool b) ∧ w' = w := by
 have hi := index32_any w B A n c ks v h hn
 rw [hb] at hi
 clear h hb
 go_enter Tryz.func159, Tryz.ntmps159
 go_wp2_with fail
 refine hi.mono ?_
 rintro e w' ⟨⟨i, rfl, hi2⟩, rfl⟩
 have HI := Lib.hid hi2
 clear hi2
 cases b with
 | true =>
  have h0 : 0 ≤ i := by simpa using HI.out
  go_wp2
  go_ret
  exact ⟨rfl, rfl⟩
 | false =>
  have h0 : decide (0 ≤ i) = false := HI.out
  go_wp2
  go_ret
  exact ⟨rfl, rfl⟩

set_option maxRecDepth 100000 in
set_option maxHeartbeats 2000000 in
theorem isQuotable_any (w : World) (B : Nat) (A : Option Addr) (n c : Nat) (xs : List Int) (h : RI .i32 w B A n xs) (hB : B ≤ w.heap.size) (hG : Gm w) :
  Calls Tryz.prog 109 #[.slice A n c] w fun e w' => e = .returned (.bool (quotB xs)) ∧ Below w.heap.size w w' := by
 have hl := h.len
 by_cases h2 : n < 2
 ·have hq : quotB xs = false := by
   unfold quotB
   rw [decide_eq_false (by omega)]
   rfl
  have i2 : (n : Int) < 2 := by omega
  rw [hq]
  clear h hG hq hl
  go_enter Tryz.func109, Tryz.ntmps109
  go_wp2
  go_ret
  exact ⟨rfl, Below.refl _ _⟩
 have i2 : ¬ (n : Int) < 2 := by omega
 by_cases h4 : 4 < n
 ·have hq : quotB xs = false := by
   unfold quotB
   rw [decide_eq_false (by omega)]
   rfl
  have i4 : (4 : Int) < (n : Int) := by omega
  rw [hq]
  clear h hG hq hl
  go_enter Tryz.func109, Tryz.ntmps109
  go_wp2
  go_ret
  exact ⟨rfl, Below.refl _ _⟩
 have i4 : ¬ (4 : Int) < (n : Int) := by omega
 have hd : decide (2 ≤ xs.length ∧ xs.length ≤ 4) = true := decide_eq_true (by omega)
 have c34 := fun b hb => contains32_is w B A n c xs 34 h (by omega) b hb
 have c10 := fun b hb => contains32_is w B A n c xs 10 h (by omega) b hb
 have hca := canonical_is w B A n c xs h hB (by omega) hG.2 _ rfl
 cases k34 : inKs xs 34 with
 | true =>
  have hq : quotB xs = false := by
   unfold quotB
   rw [show xs.contains 34 = true from k34]
   simp
  have c34' := c34 true k34
  rw [hq]
  clear h hG hq hl c34 c10 hca hd k34
  go_enter Tryz.func109, Tryz.ntmps109
  go_wp2_with (go_at_call 159; with_reducible refine c34'.mono ?_; rintro e w' ⟨rfl, rfl⟩)
  go_ret
  exact ⟨rfl, Below.refl _ _⟩
 | false =>
  have c34' := c34 false k34
  cases k10 : inKs xs 10 with
  | true =>
   have hq : quotB xs = false := by
    unfold quotB
    rw [show xs.contains 10 = true from k10]
    simp
   have c10' := c10 true k10
   rw [hq]
   clear h hG hq hl c34 c10 hca hd k34 k10
   go_enter Tryz.func109, Tryz.ntmps109
   go_wp2_with (first
    | (go_at_call 159; with_reducible refine c34'.mono ?_; rintro e w' ⟨rfl, rfl⟩)
    | (go_at_call 159; with_reducible refine c10'.mono ?_; rintro e w' ⟨rfl, rfl⟩))
   go_ret
   exact ⟨rfl, Below.refl _ _⟩
  | false =>
   have c10' := c10 false k10
   have hq : quotB xs = canonB xs := by
    unfold quotB
    rw [show xs.contains 10 = false from k10, show xs.contains 34 = false from k34, hd]
    simp
   rw [hq]
   obtain ⟨r, hr⟩ : ∃ r, r = canonB xs := ⟨_, rfl⟩
   rw [← hr] at hca ⊢
   clear h hG hq hl c34 c10 hd k34 k10 hr
   go_enter Tryz.func109, Tryz.ntmps109
   go_wp2_with (first
    | (go_at_call 159; with_reducible refine c34'.mono ?_; rintro e w' ⟨rfl, rfl⟩)
    | (go_at_call 159; with_reducible refine c10'.mono ?_; rintro e w' ⟨rfl, rfl⟩)
    | (go_at_call 160; refine hca.mono ?_; rintro e w' ⟨rfl, hb⟩; (have HB := Lib.hid hb); clear hb))
   go_ret
   exact ⟨rfl, HB.out⟩
end Go.Proofs.YthaibekbefndlaaGreatDoor.C
