/-
  Joined: LgG. Each with what its own head says.
-/
import Derived.Test.YthaibekbefndlaaGreatDoorH31

namespace Go.Proofs.YthaibekbefndlaaGreatDoor.C

theorem good_tW {t : List UInt8} (h : wordlyB t = true) : GoodT (tW t) := by
 unfold wordlyB at h
 simp only [Bool.and_eq_true, List.all_eq_true] at h
 exact .inl ⟨rfl, by rintro rfl; simp at h, h.2, rfl⟩
theorem good_tC {c : Int} (h : scalB c = true) : GoodT (tC c) := .inr (.inr (.inl ⟨rfl, rfl, scalB_right h⟩))
theorem good_tS {t : List UInt8} (h : t = [59] ∨ t = [44] ∨ t = [40] ∨ t = [41] ∨ t = [46, 46, 46]) : GoodT (tS t) := .inr (.inl ⟨rfl, h, rfl⟩)
theorem good_tQ {t : List UInt8} (h1 : (34 : UInt8) ∉ t) (h2 : (10 : UInt8) ∉ t) : GoodT (tQ t) := .inr (.inr (.inr (.inl ⟨rfl, h1, h2, rfl⟩)))
theorem good_tN {t : List UInt8} (h : wordlyB t = true) (hn : numL t = none) : GoodT (tN t) := by
 unfold wordlyB at h
 simp only [Bool.and_eq_true, List.all_eq_true] at h
 exact .inr (.inr (.inr (.inr ⟨rfl, by rintro rfl; simp at h, h.2, hn, rfl⟩)))
theorem good_item {e : Elm} (h : elemB e = true) : GoodT (itemT e) := by
 unfold itemT
 split
 ·rename_i h0
  obtain ⟨c, hc, hs⟩ := elemB_plain h h0
  rw [hc]
  exact good_tC hs
 ·rename_i h0
  obtain ⟨_, h1, h2⟩ := elemB_named h h0
  exact good_tN h1 h2
theorem good_sep {α : Type} (f : α → List Tok) : ∀ (l : List α), (∀ a ∈ l, ∀ x ∈ f a, GoodT x) → ∀ x ∈ sepT f l, GoodT x
 | [], _, x, hx => by simp [sepT] at hx
 | [a], h, x, hx => h a (by simp) x hx
 | a :: b :: r, h, x, hx => by
  have h' : x ∈ f a ++ tS sSemi :: sepT f (b :: r) := hx
  rcases List.mem_append.1 h' with h1 | h1
  ·exact h a (by simp) x h1
  ·rcases List.mem_cons.1 h1 with rfl | h2
   ·exact good_tS (.inl rfl)
   ·exact good_sep f (b :: r) (fun z hz => h z (by simp at hz ⊢; exact .inr hz)) x h2
theorem good_range {r : Int × Int} (h : rangeB r = true) : ∀ x ∈ rangeT r, GoodT x := by
 unfold rangeB at h
 simp only [Bool.and_eq_true] at h
 intro x hx
 unfold rangeT at hx
 split at hx
 ·simp at hx; subst hx; exact good_tC h.1.1
 ·simp at hx
  rcases hx with rfl | rfl | rfl
  ·exact good_tC h.1.1
  ·exact good_tS (.inr (.inr (.inr (.inr rfl))))
  ·exact good_tC h.1.2
theorem good_pair {r : Int × Int} (h : scalB r.1 = true ∧ scalB r.2 = true) : ∀ x ∈ pairT r, GoodT x := by
 intro x hx
 unfold pairT at hx
 simp at hx
 rcases hx with rfl | rfl | rfl | rfl | rfl
 ·exact good_tS (.inr (.inr (.inl rfl)))
 ·exact good_tC h.1
 ·exact good_tS (.inr (.inl rfl))
 ·exact good_tC h.2
 ·exact good_tS (.inr (.inr (.inr (.inl rfl))))
theorem pairsB_mem {l : List (Int × Int)} (h : pairsB l = true) : ∀ p ∈ l, scalB p.1 = true ∧ scalB p.2 = true := by
 intro r hr
 obtain ⟨i, hi, rfl⟩ := List.mem_iff_getElem.1 hr
 have h1 := all_range h hi
 unfold pairAt at h1
 rw [List.getElem?_eq_getElem hi] at h1
 simp only [Bool.and_eq_true] at h1
 exact ⟨h1.1.1, h1.1.2⟩
theorem good_map {m : List UInt8} {l : List (Int × Int)} (hm : wordlyB m = true) (h : pairsB l = true) : ∀ t ∈ mapT m l, t ≠ [] ∧ ∀ x ∈ t, GoodT x := by
 intro t ht
 unfold mapT at ht
 split at ht
 ·simp at ht
 ·simp at ht
  subst ht
  refine ⟨by simp, fun x hx => ?_⟩
  rcases List.mem_cons.1 hx with rfl | hx
  ·exact good_tW hm
  ·exact good_sep _ _ (fun a ha => good_pair (pairsB_mem h a ha)) x hx
theorem clsB_mem {l : List Cls} (h : clsB l = true) : ∀ c ∈ l, wordlyB c.name = true ∧ c.rs.all rangeB = true := by
 intro c hc
 obtain ⟨i, hi, rfl⟩ := List.mem_iff_getElem.1 hc
 have h1 := all_range h hi
 unfold clsAt at h1
 rw [List.getElem?_eq_getElem hi] at h1
 simp only [Bool.and_eq_true] at h1
 exact ⟨h1.1.1.1, h1.2⟩
theorem ordB_mem {l : List Elm} (h : ordB l = true) : ∀ e ∈ l, elemB e = true := by
 intro e he
 obtain ⟨i, hi, rfl⟩ := List.mem_iff_getElem.1 he
 exact (ordB_elem h (List.getElem?_eq_getElem hi)).1
theorem good_ords (o : List Elm) (ho : ∀ e ∈ o, elemB e = true) : ∀ (r : List Elm) (i : Nat), (∀ e ∈ r, elemB e = true) → ∀ t ∈ ordsT o i r, t ≠ [] ∧ ∀ x ∈ t, GoodT x
 | [], _, _, t, ht => by simp [ordsT] at ht
 | e :: r, i, h, t, ht => by
  have h' : t ∈ ordT o i e :: ordsT o (i + 1) r := ht
  rcases List.mem_cons.1 h' with rfl | h2
  ·refine ⟨by simp [ordT], fun x hx => ?_⟩
   unfold ordT at hx
   rcases List.mem_cons.1 hx with rfl | hx
   ·exact good_tW (by decide +kernel)
   ·rcases List.mem_cons.1 hx with rfl | hx
    ·exact good_item (h e (by simp))
    ·split at hx
     ·simp at hx
     ·split at hx
      ·rename_i y hy
       simp at hx
       rcases hx with rfl | rfl
       ·exact good_tS (.inl rfl)
       ·exact good_item (ho y (List.mem_of_getElem? hy))
      ·simp at hx
  ·exact good_ords o ho r (i + 1) (fun z hz => h z (by simp [hz])) t h2
theorem good_locT {l : Loc} (h : rightL l = true) (hq : ∀ e ∈ l.ord, e.name ≠ [] → (34 : UInt8) ∉ bytesOf e.cells ∧ (10 : UInt8) ∉ bytesOf e.cells) : GoodLs (locT l) := by
 obtain ⟨p1, p2, p3, p4⟩ := right_parts h
 intro t ht
 unfold locT at ht
 simp only [List.mem_append] at ht
 rcases ht with (((ht | ht) | ht) | ht) | ht
 ·obtain ⟨c, hc, rfl⟩ := List.mem_map.1 ht
  obtain ⟨h1, h2⟩ := clsB_mem p1 c hc
  refine ⟨by simp [clsT], fun x hx => ?_⟩
  have hx' : x ∈ tW wClass :: tW c.name :: sepT rangeT c.rs := hx
  rcases List.mem_cons.1 hx' with rfl | hx
  ·exact good_tW (by decide +kernel)
  ·rcases List.mem_cons.1 hx with rfl | hx
   ·exact good_tW h1
   ·exact good_sep _ _ (fun a ha => good_range (List.all_eq_true.1 h2 a ha)) x hx
 ·exact good_map (by decide +kernel) p2 t ht
 ·exact good_map (by decide +kernel) p3 t ht
 ·obtain ⟨e, he, ht⟩ := List.mem_flatMap.1 ht
  unfold elemT at ht
  split at ht
  ·simp at ht
  ·rename_i hne
   simp at ht
   subst ht
   refine ⟨by simp, fun x hx => ?_⟩
   simp at hx
   rcases hx with rfl | rfl | rfl | rfl
   ·exact good_tW (by decide +kernel)
   ·exact good_item (ordB_mem p4 e he)
   ·exact good_tW (by decide +kernel)
   ·exact good_tQ (hq e he hne).1 (hq e he hne).2
 ·exact good_ords l.ord (ordB_mem p4) l.ord 0 (ordB_mem p4) t ht
theorem short_of {l : Loc} (h : rightL l = true) (h1 : ∀ c ∈ l.cls, c.name.length ≤ 16) (h2 : ∀ e ∈ l.ord, e.name.length ≤ 16) : Short l := by
 obtain ⟨p1, p2, p3, p4⟩ := right_parts h
 have hp := prtOk_of h (fun c hc => by have := h1 c hc; omega) (fun e he => by have := h2 e he; omega)
 refine ⟨fun c hc => ⟨h1 c hc, fun r hr => ?_⟩, fun r hr => ?_, fun r hr => ?_, fun e he => ⟨h2 e he, fun h0 => (hp.enc e he h0).1, ?_⟩⟩
 ·have := (hp.cls c hc).1 r hr
  exact ⟨this.1.2, this.2.2⟩
 ·have := hp.up r hr
  exact ⟨this.1.2, this.2.2⟩
 ·have := hp.lo r hr
  exact ⟨this.1.2, this.2.2⟩
 ·by_cases h0 : e.name = []
  ·obtain ⟨a, ha, hb⟩ := (hp.item e he).1 h0
   rw [ha]
   simp
   omega
  ·have h3 := (hp.enc e he h0).2
   cases hc : e.cells with
   | nil => simp
   | cons c r =>
    rw [hc, List.all_cons, Bool.and_eq_true] at h3
    have h4 := h3.1
    unfold rightB at h4
    simp at h4 ⊢
    omega
theorem print_fits {l : Loc} (h : rightL l = true) (h1 : ∀ c ∈ l.cls, c.name.length ≤ 16) (h2 : ∀ e ∈ l.ord, e.name.length ≤ 16) (hm : mT l + 4 ≤ 208) : (linesT (locT l)).length ≤ 3952 ∧ (toksT (locT l)).length ≤ 208 ∧ printL l = (linesT (locT l), 0) := by
 have hf := fits_of (short_of h h1 h2) hm
 refine ⟨by omega, hf.2, ?_⟩
 unfold printL
 rw [if_pos h, if_pos ⟨by omega, by omega⟩]
end Go.Proofs.YthaibekbefndlaaGreatDoor.C
