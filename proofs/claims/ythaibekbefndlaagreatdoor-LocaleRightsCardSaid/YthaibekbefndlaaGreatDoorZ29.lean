/-
  Joined: LgG, LhA, LhB, LiH. Each with what its own head says.
-/
import Derived.Deep.DeepCutAuto
import Derived.Test.YthaibekbefndlaaGreatDoorZ27

namespace Go.Proofs.YthaibekbefndlaaGreatDoor.C

theorem good_tW {t : List UInt8} (h : wordlyB t = true) : GoodT (tW t) := by
 unfold wordlyB at h
 simp only [Bool.and_eq_true, List.all_eq_true] at h
 exact .inl ⟨rfl, by rintro rfl; simp at h, h.2, rfl⟩
theorem good_tC {c : Int} (h : scalB c = true) : GoodT (tC c) := .inr (.inr (.inl ⟨rfl, rfl, scalB_right h⟩))
theorem good_tS {t : List UInt8} (h : t = [59] ∨ t = [44] ∨ t = [40] ∨ t = [41] ∨ t = [46, 46, 46]) : GoodT (tS t) := .inr (.inl ⟨rfl, h, rfl⟩)
theorem good_tQ {t : List UInt8} (h1 : (34 : UInt8) ∉ t) (h2 : (10 : UInt8) ∉ t) : GoodT (tQ t) := .inr (.inr (.inr (.inl ⟨rfl, h1, h2, rfl⟩)))
theorem good_tN {t : List UInt8} (h : wordlyB t = true) (hn : numL t = none) : GoodT (tN t) := by
 unfold wordlyB at h
 simp only [Bool.and_eq_true, List.all_eq_true] at h
 exact .inr (.inr (.inr (.inr ⟨rfl, by rintro rfl; simp at h, h.2, hn, rfl⟩)))
theorem good_item {e : Elm} (h : elemB e = true) : GoodT (itemT e) := by
 unfold itemT
 split
 ·rename_i h0
  obtain ⟨c, hc, hs⟩ := elemB_plain h h0
  rw [hc]
  exact good_tC hs
 ·rename_i h0
  obtain ⟨_, h1, h2⟩ := elemB_named h h0
  exact good_tN h1 h2
theorem good_sep {α : Type} (f : α → List Tok) : ∀ (l : List α), (∀ a ∈ l, ∀ x ∈ f a, GoodT x) → ∀ x ∈ sepT f l, GoodT x
 | [], _, x, hx => by simp [sepT] at hx
 | [a], h, x, hx => h a (by simp) x hx
 | a :: b :: r, h, x, hx => by
  have h' : x ∈ f a ++ tS sSemi :: sepT f (b :: r) := hx
  rcases List.mem_append.1 h' with h1 | h1
  ·exact h a (by simp) x h1
  ·rcases List.mem_cons.1 h1 with rfl | h2
   ·exact good_tS (.inl rfl)
   ·exact good_sep f (b :: r) (fun z hz => h z (by simp at hz ⊢; exact .inr hz)) x h2
theorem good_range {r : Int × Int} (h : rangeB r = true) : ∀ x ∈ rangeT r, GoodT x := by
 unfold rangeB at h
 simp only [Bool.and_eq_true] at h
 intro x hx
 unfold rangeT at hx
 split at hx
 ·simp at hx; subst hx; exact good_tC h.1.1
 ·simp at hx
  rcases hx with rfl | rfl | rfl
  ·exact good_tC h.1.1
  ·exact good_tS (.inr (.inr (.inr (.inr rfl))))
  ·exact good_tC h.1.2
theorem good_pair {r : Int × Int} (h : scalB r.1 = true ∧ scalB r.2 = true) : ∀ x ∈ pairT r, GoodT x := by
 intro x hx
 unfold pairT at hx
 simp at hx
 rcases hx with rfl | rfl | rfl | rfl | rfl
 ·exact good_tS (.inr (.inr (.inl rfl)))
 ·exact good_tC h.1
 ·exact good_tS (.inr (.inl rfl))
 ·exact good_tC h.2
 ·exact good_tS (.inr (.inr (.inr (.inl rfl))))
theorem pairsB_mem {l : List (Int × Int)} (h : pairsB l = true) : ∀ p ∈ l, scalB p.1 = true ∧ scalB p.2 = true := by
 intro r hr
 obtain ⟨i, hi, rfl⟩ := List.mem_iff_getElem.1 hr
 have h1 := all_range h hi
 unfold pairAt at h1
 rw [List.getElem?_eq_getElem hi] at h1
 simp only [Bool.and_eq_true] at h1
 exact ⟨h1.1.1, h1.1.2⟩
theorem good_map {m : List UInt8} {l : List (Int × Int)} (hm : wordlyB m = true) (h : pairsB l = true) : ∀ t ∈ mapT m l, t ≠ [] ∧ ∀ x ∈ t, GoodT x := by
 intro t ht
 unfold mapT at ht
 split at ht
 ·simp at ht
 ·simp at ht
  subst ht
  refine ⟨by simp, fun x hx => ?_⟩
  rcases List.mem_cons.1 hx with rfl | hx
  ·exact good_tW hm
  ·exact good_sep _ _ (fun a ha => good_pair (pairsB_mem h a ha)) x hx
theorem clsB_mem {l : List Cls} (h : clsB l = true) : ∀ c ∈ l, wordlyB c.name = true ∧ c.rs.all rangeB = true := by
 intro c hc
 obtain ⟨i, hi, rfl⟩ := List.mem_iff_getElem.1 hc
 have h1 := all_range h hi
 unfold clsAt at h1
 rw [List.getElem?_eq_getElem hi] at h1
 simp only [Bool.and_eq_true] at h1
 exact ⟨h1.1.1.1, h1.2⟩
theorem ordB_mem {l : List Elm} (h : ordB l = true) : ∀ e ∈ l, elemB e = true := by
 intro e he
 obtain ⟨i, hi, rfl⟩ := List.mem_iff_getElem.1 he
 exact (ordB_elem h (List.getElem?_eq_getElem hi)).1
theorem good_ords (o : List Elm) (ho : ∀ e ∈ o, elemB e = true) : ∀ (r : List Elm) (i : Nat), (∀ e ∈ r, elemB e = true) → ∀ t ∈ ordsT o i r, t ≠ [] ∧ ∀ x ∈ t, GoodT x
 | [], _, _, t, ht => by simp [ordsT] at ht
 | e :: r, i, h, t, ht => by
  have h' : t ∈ ordT o i e :: ordsT o (i + 1) r := ht
  rcases List.mem_cons.1 h' with rfl | h2
  ·refine ⟨by simp [ordT], fun x hx => ?_⟩
   unfold ordT at hx
   rcases List.mem_cons.1 hx with rfl | hx
   ·exact good_tW (by decide +kernel)
   ·rcases List.mem_cons.1 hx with rfl | hx
    ·exact good_item (h e (by simp))
    ·split at hx
     ·simp at hx
     ·split at hx
      ·rename_i y hy
       simp at hx
       rcases hx with rfl | rfl
       ·exact good_tS (.inl rfl)
       ·exact good_item (ho y (List.mem_of_getElem? hy))
      ·simp at hx
  ·exact good_ords o ho r (i + 1) (fun z hz => h z (by simp [hz])) t h2
theorem good_locT {l : Loc} (h : rightL l = true) (hq : ∀ e ∈ l.ord, e.name ≠ [] → (34 : UInt8) ∉ bytesOf e.cells ∧ (10 : UInt8) ∉ bytesOf e.cells) : GoodLs (locT l) := by
 obtain ⟨p1, p2, p3, p4⟩ := right_parts h
 intro t ht
 unfold locT at ht
 simp only [List.mem_append] at ht
 rcases ht with (((ht | ht) | ht) | ht) | ht
 ·obtain ⟨c, hc, rfl⟩ := List.mem_map.1 ht
  obtain ⟨h1, h2⟩ := clsB_mem p1 c hc
  refine ⟨by simp [clsT], fun x hx => ?_⟩
  have hx' : x ∈ tW wClass :: tW c.name :: sepT rangeT c.rs := hx
  rcases List.mem_cons.1 hx' with rfl | hx
  ·exact good_tW (by decide +kernel)
  ·rcases List.mem_cons.1 hx with rfl | hx
   ·exact good_tW h1
   ·exact good_sep _ _ (fun a ha => good_range (List.all_eq_true.1 h2 a ha)) x hx
 ·exact good_map (by decide +kernel) p2 t ht
 ·exact good_map (by decide +kernel) p3 t ht
 ·obtain ⟨e, he, ht⟩ := List.mem_flatMap.1 ht
  unfold elemT at ht
  split at ht
  ·simp at ht
  ·rename_i hne
   simp at ht
   subst ht
   refine ⟨by simp, fun x hx => ?_⟩
   simp at hx
   rcases hx with rfl | rfl | rfl | rfl
   ·exact good_tW (by decide +kernel)
   ·exact good_item (ordB_mem p4 e he)
   ·exact good_tW (by decide +kernel)
   ·exact good_tQ (hq e he hne).1 (hq e he hne).2
 ·exact good_ords l.ord (ordB_mem p4) l.ord 0 (ordB_mem p4) t ht
end Go.Proofs.YthaibekbefndlaaGreatDoor.C

namespace Go.Proofs.YthaibekbefndlaaGreatDoor.C

def nmCls (i : Nat) : List UInt8 := if i = 0 then [97, 108, 112, 104, 97] else if i = 1 then [120] else [108, 111, 119, 45, 49]
def cls1 (i : Nat) (z : Int) : Cls := ⟨nmCls i, (97 + z % 8, 97 + z % 8 + z / 64) :: (if z % 3 = 0 then [(233, 233)] else [])⟩
def clsG : Nat → List Int → List Cls
 | _, [] => []
 | i, z :: r => cls1 i z :: clsG (i + 1) r
def upG : Nat → List Int → List (Int × Int)
 | _, [] => []
 | i, z :: r => ((97 + i : Int), 65 + z % 4) :: upG (i + 1) r
def loG : Nat → List Int → List (Int × Int)
 | _, [] => []
 | i, z :: r => ((65 + i : Int), 97 + z / 4 % 4) :: loG (i + 1) r
def nmElm (j : Int) : List UInt8 := if j = 0 then [99, 104] else if j = 1 then [97, 98] else [101, 115, 122, 101, 116, 116]
def elm0 (z : Int) : List UInt8 × List Int := if z % 11 = 0 then (nmElm (z / 11 % 3), [99 - z / 11 % 3, 104]) else ([], [97 + z % 6])
def samO (o : List Elm) (z : Int) : Int := if 200 < z ∧ 0 < o.length then (match o[(z % (o.length : Int)).toNat]? with
 | some e => e.same
 | none => 0) else o.length
def stepO (o : List Elm) (z : Int) : List Elm := if (placeL o (elm0 z).2).isSome then o else o ++ [⟨(elm0 z).1, (elm0 z).2, samO o z⟩]
def ordG (zs : List Int) : List Elm := zs.foldl stepO []
def genL (zs : List Int) : Loc := ⟨clsG 0 (zs.take 3), upG 0 ((zs.drop 3).take 3), loG 0 ((zs.drop 3).take 3), ordG ((zs.drop 6).take 14)⟩
theorem clsG_snoc : ∀ (l : List Int) (i : Nat) (z : Int), clsG i (l ++ [z]) = clsG i l ++ [cls1 (i + l.length) z]
 | [], i, z => rfl
 | a :: r, i, z => by
  show cls1 i a :: clsG (i + 1) (r ++ [z]) = cls1 i a :: clsG (i + 1) r ++ _
  rw [clsG_snoc r (i + 1) z, show i + 1 + r.length = i + (a :: r).length by simp; omega]
  rfl
theorem upG_snoc : ∀ (l : List Int) (i : Nat) (z : Int), upG i (l ++ [z]) = upG i l ++ [((97 + (i + l.length : Nat) : Int), 65 + z % 4)]
 | [], i, z => rfl
 | a :: r, i, z => by
  show ((97 + i : Int), 65 + a % 4) :: upG (i + 1) (r ++ [z]) = ((97 + i : Int), 65 + a % 4) :: upG (i + 1) r ++ _
  rw [upG_snoc r (i + 1) z, show i + 1 + r.length = i + (a :: r).length by simp; omega]
  rfl
theorem loG_snoc : ∀ (l : List Int) (i : Nat) (z : Int), loG i (l ++ [z]) = loG i l ++ [((65 + (i + l.length : Nat) : Int), 97 + z / 4 % 4)]
 | [], i, z => rfl
 | a :: r, i, z => by
  show ((65 + i : Int), 97 + a / 4 % 4) :: loG (i + 1) (r ++ [z]) = ((65 + i : Int), 97 + a / 4 % 4) :: loG (i + 1) r ++ _
  rw [loG_snoc r (i + 1) z, show i + 1 + r.length = i + (a :: r).length by simp; omega]
  rfl
theorem ordG_snoc (l : List Int) (z : Int) : ordG (l ++ [z]) = stepO (ordG l) z := by unfold ordG; rw [List.foldl_append]; rfl
theorem clsG_len : ∀ (l : List Int) (i : Nat), (clsG i l).length = l.length
 | [], _ => rfl
 | _ :: r, i => by simp [clsG, clsG_len r (i + 1)]
theorem upG_len : ∀ (l : List Int) (i : Nat), (upG i l).length = l.length
 | [], _ => rfl
 | _ :: r, i => by simp [upG, upG_len r (i + 1)]
theorem loG_len : ∀ (l : List Int) (i : Nat), (loG i l).length = l.length
 | [], _ => rfl
 | _ :: r, i => by simp [loG, loG_len r (i + 1)]
theorem clsG_names : ∀ (l : List Int) (i : Nat), ∀ c ∈ clsG i l, ∃ j, i ≤ j ∧ j < i + l.length ∧ c.name = nmCls j
 | [], _, c, h => by simp [clsG] at h
 | z :: r, i, c, h => by
  rcases List.mem_cons.1 h with rfl | h
  ·exact ⟨i, Nat.le_refl _, by simp, rfl⟩
  ·obtain ⟨j, h1, h2, h3⟩ := clsG_names r (i + 1) c h
   exact ⟨j, by omega, by simp; omega, h3⟩
theorem nmCls_ne {i j : Nat} (hi : i < 3) (hj : j < 3) (h : i ≠ j) : nmCls i ≠ nmCls j := by
 rcases (by omega : i = 0 ∨ i = 1 ∨ i = 2) with rfl | rfl | rfl <;> rcases (by omega : j = 0 ∨ j = 1 ∨ j = 2) with rfl | rfl | rfl <;> first | exact absurd rfl h | decide
theorem nmCls_ok {i : Nat} (hi : i < 3) : wordlyB (nmCls i) = true ∧ (nmCls i).length ≤ 16 := by
 rcases (by omega : i = 0 ∨ i = 1 ∨ i = 2) with rfl | rfl | rfl <;> decide +kernel
theorem scalB_small {c : Int} (h0 : 0 ≤ c) (h1 : c < 55296) : scalB c = true := by
 unfold scalB rightB
 simp
 omega
def Byt (zs : List Int) : Prop := ∀ z ∈ zs, 0 ≤ z ∧ z ≤ 255
theorem list_snoc_ind {α : Type} {P : List α → Prop} (h0 : P []) (h1 : ∀ l x, P l → P (l ++ [x])) : ∀ l, P l := fun l => by
 have : ∀ n (l : List α), l.length = n → P l := by
  intro n
  induction n with
  | zero => intro l h; rw [List.eq_nil_of_length_eq_zero h]; exact h0
  | succ n ih =>
   intro l h
   rcases List.eq_nil_or_concat l with h2 | ⟨r, x, h2⟩
   ·rw [h2] at h; simp at h
   ·have h2' : l = r ++ [x] := by simpa using h2
    rw [h2'] at h ⊢
    exact h1 r x (ih r (by simpa using h))
 exact this l.length l rfl
theorem byt_front {l : List Int} {x : Int} (h : Byt (l ++ [x])) : Byt l ∧ 0 ≤ x ∧ x ≤ 255 := ⟨fun z hz => h z (by simp [hz]), h x (by simp)⟩
theorem clsG_right (l : List Int) (hl : l.length ≤ 3) (hb : Byt l) : clsB (clsG 0 l) = true := by
 refine list_snoc_ind (P := fun l => l.length ≤ 3 → Byt l → clsB (clsG 0 l) = true) (fun _ _ => rfl) (fun r x ih hl hb => ?_) l hl hb
 rw [List.length_append, List.length_singleton] at hl
 obtain ⟨hb1, hx0, hx1⟩ := byt_front hb
 rw [clsG_snoc, Nat.zero_add]
 refine clsB_snoc (ih (by omega) hb1) (nmCls_ok (by omega)).1 (fun hm => ?_) (by simp [cls1]) ?_
 ·obtain ⟨c, hc, he⟩ := List.mem_map.1 hm
  obtain ⟨j, _, h2, h3⟩ := clsG_names r 0 c hc
  rw [h3] at he
  exact nmCls_ne (by omega) (by omega) (by omega : j ≠ r.length) he
 ·unfold cls1
  rw [List.all_cons, Bool.and_eq_true]
  refine ⟨?_, ?_⟩
  ·unfold rangeB
   simp only [Bool.and_eq_true, decide_eq_true_eq]
   exact ⟨⟨scalB_small (by omega) (by omega), scalB_small (by omega) (by omega)⟩, by omega⟩
  ·split
   ·decide +kernel
   ·rfl
theorem upG_right (l : List Int) (hl : l.length ≤ 3) : pairsB (upG 0 l) = true ∧ ∀ p ∈ upG 0 l, p.1 < 97 + (l.length : Int) := by
 refine list_snoc_ind (P := fun l => l.length ≤ 3 → pairsB (upG 0 l) = true ∧ ∀ p ∈ upG 0 l, p.1 < 97 + (l.length : Int)) (fun _ => ⟨rfl, by simp [upG]⟩) (fun r x ih hl => ?_) l hl
 rw [List.length_append, List.length_singleton] at hl ⊢
 obtain ⟨h1, h2⟩ := ih (by omega)
 rw [upG_snoc]
 refine ⟨pairsB_snoc h1 (scalB_small (by simp only; omega) (by simp only; omega)) (scalB_small (by simp only; omega) (by simp only; omega)) (fun hm => ?_), fun p hp => ?_⟩
 ·obtain ⟨p, hp, he⟩ := List.mem_map.1 hm
  have := h2 p hp
  simp only at he
  omega
 ·rcases List.mem_append.1 hp with hp | hp
  ·have := h2 p hp
   omega
  ·rw [List.mem_singleton] at hp
   subst hp
   simp only
   omega
theorem loG_right (l : List Int) (hl : l.length ≤ 3) : pairsB (loG 0 l) = true ∧ ∀ p ∈ loG 0 l, p.1 < 65 + (l.length : Int) := by
 refine list_snoc_ind (P := fun l => l.length ≤ 3 → pairsB (loG 0 l) = true ∧ ∀ p ∈ loG 0 l, p.1 < 65 + (l.length : Int)) (fun _ => ⟨rfl, by simp [loG]⟩) (fun r x ih hl => ?_) l hl
 rw [List.length_append, List.length_singleton] at hl ⊢
 obtain ⟨h1, h2⟩ := ih (by omega)
 rw [loG_snoc]
 refine ⟨pairsB_snoc h1 (scalB_small (by simp only; omega) (by simp only; omega)) (scalB_small (by simp only; omega) (by simp only; omega)) (fun hm => ?_), fun p hp => ?_⟩
 ·obtain ⟨p, hp, he⟩ := List.mem_map.1 hm
  have := h2 p hp
  simp only at he
  omega
 ·rcases List.mem_append.1 hp with hp | hp
  ·have := h2 p hp
   omega
  ·rw [List.mem_singleton] at hp
   subst hp
   simp only
   omega
theorem nmElm_ok {j : Int} (h0 : 0 ≤ j) (h1 : j < 3) : elemB ⟨nmElm j, [99 - j, 104], 0⟩ = true ∧ (nmElm j).length ≤ 16 ∧ nmElm j ≠ [] ∧ (34 : UInt8) ∉ bytesOf [99 - j, 104] ∧ (10 : UInt8) ∉ bytesOf [99 - j, 104] := by
 rcases (by omega : j = 0 ∨ j = 1 ∨ j = 2) with rfl | rfl | rfl <;> decide +kernel
theorem nmElm_inj {i j : Int} (h0 : 0 ≤ i) (h1 : i < 3) (h2 : 0 ≤ j) (h3 : j < 3) (h : nmElm i = nmElm j) : i = j := by
 rcases (by omega : i = 0 ∨ i = 1 ∨ i = 2) with rfl | rfl | rfl <;> rcases (by omega : j = 0 ∨ j = 1 ∨ j = 2) with rfl | rfl | rfl <;> first | rfl | (exact absurd h (by decide))
def Chosen (e : Elm) : Prop := (e.name = [] ∧ ∃ c, e.cells = [c] ∧ 0 ≤ c ∧ c < 55296) ∨ ∃ j, 0 ≤ j ∧ j < 3 ∧ e.name = nmElm j ∧ e.cells = [99 - j, 104]
theorem chosen_of {z : Int} (_ : 0 ≤ z) (s : Int) : Chosen ⟨(elm0 z).1, (elm0 z).2, s⟩ := by
 unfold elm0
 split
 ·exact .inr ⟨z / 11 % 3, by omega, by omega, rfl, rfl⟩
 ·exact .inl ⟨rfl, _, rfl, by omega, by omega⟩
theorem placeL_out' {o : List Elm} {c : List Int} (h : (placeL o c).isSome = false) : ∀ x ∈ o, x.cells ≠ c := placeL_out (by simpa using h)
theorem stepO_ok {o : List Elm} {z : Int} (hz : 0 ≤ z) (h : ordB o = true) (hl : o.length < 500) (hc : ∀ e ∈ o, Chosen e) : ordB (stepO o z) = true ∧ (stepO o z).length ≤ o.length + 1 ∧ (∀ e ∈ stepO o z, Chosen e) ∧ mO 0 (stepO o z) ≤ mO 0 o + 10 := by
 unfold stepO
 split
 ·exact ⟨h, by omega, hc, by omega⟩
 ·rename_i hp
  have hch := chosen_of hz (samO o z)
  have hout := placeL_out' (by simpa using hp)
  refine ⟨ordB_snoc h hl ?_ hout ?_ ?_, by simp, ?_, ?_⟩
  ·rcases hch with ⟨h0, c, h1, h2, h3⟩ | ⟨j, h0, h1, h2, h3⟩
   ·unfold elemB
    rw [h1, h0]
    simp [scalB_small h2 h3]
   ·have := (nmElm_ok h0 h1).1
    unfold elemB at this ⊢
    rw [h2, h3]
    exact this
  ·unfold samO
   split
   ·rename_i hs
    have hm : (z % (o.length : Int)).toNat < o.length := by
     have h1 := Int.emod_nonneg z (show (o.length : Int) ≠ 0 by omega)
     have h2 := Int.emod_lt_of_pos z (show (0 : Int) < (o.length : Int) by omega)
     omega
    refine .inr ⟨(z % (o.length : Int)).toNat, o[(z % (o.length : Int)).toNat], List.getElem?_eq_getElem hm, ?_, (ordB_elem h (List.getElem?_eq_getElem hm)).2⟩
    simp only [List.getElem?_eq_getElem hm]
   ·exact .inl rfl
  ·intro h0 x hx hn
   rcases hch with ⟨h1, _⟩ | ⟨j, h1, h2, h3, h4⟩
   ·exact h0 h1
   ·rcases hc x hx with ⟨h5, _⟩ | ⟨i, h5, h6, h7, h8⟩
    ·rw [h5] at hn
     exact h0 hn.symm
    ·rw [h7] at hn
     have hij : i = j := nmElm_inj h5 h6 h1 h2 (hn.trans h3)
     have hcc : (elm0 z).2 = [99 - j, 104] := h4
     rw [hij] at h8
     exact hout x hx (h8.trans hcc.symm)
  ·intro e he
   rcases List.mem_append.1 he with he | he
   ·exact hc e he
   ·rw [List.mem_singleton] at he
    subst he
    exact hch
  ·rw [mO_snoc]
   split <;> split <;> omega
theorem ordG_ok (l : List Int) (hl : l.length ≤ 14) (hb : Byt l) : ordB (ordG l) = true ∧ (ordG l).length ≤ l.length ∧ (∀ e ∈ ordG l, Chosen e) ∧ mO 0 (ordG l) ≤ 10 * l.length := by
 refine list_snoc_ind (P := fun l => l.length ≤ 14 → Byt l → ordB (ordG l) = true ∧ (ordG l).length ≤ l.length ∧ (∀ e ∈ ordG l, Chosen e) ∧ mO 0 (ordG l) ≤ 10 * l.length) (fun _ _ => ⟨rfl, by simp [ordG], by simp [ordG], by simp [ordG, mO]⟩) (fun r x ih hl hb => ?_) l hl hb
 rw [List.length_append, List.length_singleton] at hl ⊢
 obtain ⟨hb1, hx0, _⟩ := byt_front hb
 obtain ⟨h1, h2, h3, h4⟩ := ih (by omega) hb1
 rw [ordG_snoc]
 obtain ⟨h5, h6, h7, h8⟩ := stepO_ok hx0 h1 (by omega) h3
 exact ⟨h5, by omega, h7, by omega⟩
theorem clsG_cost : ∀ (l : List Int) (i : Nat), ((clsG i l).map fun c => (clsT c).length + 1).sum ≤ 8 * l.length
 | [], _ => by simp [clsG]
 | z :: r, i => by
  have h1 := clsG_cost r (i + 1)
  have h2 : (clsT (cls1 i z)).length ≤ 7 := by
   unfold cls1 clsT
   split
   ·simp only [sepT, rangeT]
    split <;> simp
   ·simp only [sepT, rangeT]
    split <;> simp
  show ((cls1 i z :: clsG (i + 1) r).map fun c => (clsT c).length + 1).sum ≤ _
  rw [List.map_cons, List.sum_cons, List.length_cons]
  omega
theorem genL_ok (zs : List Int) (hb : Byt zs) : rightL (genL zs) = true ∧ (∀ c ∈ (genL zs).cls, c.name.length ≤ 16) ∧ (∀ e ∈ (genL zs).ord, e.name.length ≤ 16) ∧ (genL zs).ord.length ≤ 14 ∧ mT (genL zs) + 4 ≤ 208 ∧ (∀ e ∈ (genL zs).ord, e.name ≠ [] → (34 : UInt8) ∉ bytesOf e.cells ∧ (10 : UInt8) ∉ bytesOf e.cells) := by
 have l1 : (zs.take 3).length ≤ 3 := by rw [List.length_take]; omega
 have l2 : ((zs.drop 3).take 3).length ≤ 3 := by rw [List.length_take]; omega
 have l3 : ((zs.drop 6).take 14).length ≤ 14 := by rw [List.length_take]; omega
 have b1 : Byt (zs.take 3) := fun z hz => hb z (List.mem_of_mem_take hz)
 have b3 : Byt ((zs.drop 6).take 14) := fun z hz => hb z (List.mem_of_mem_drop (List.mem_of_mem_take hz))
 obtain ⟨o1, o2, o3, o4⟩ := ordG_ok _ l3 b3
 refine ⟨right_of (clsG_right _ l1 b1) (upG_right _ l2).1 (loG_right _ l2).1 o1, fun c hc => ?_, fun e he => ?_, Nat.le_trans o2 l3, ?_, fun e he h0 => ?_⟩
 ·obtain ⟨j, _, h2, h3⟩ := clsG_names _ 0 c hc
  rw [h3]
  exact (nmCls_ok (by omega)).2
 ·rcases o3 e he with ⟨h0, _⟩ | ⟨j, h0, h1, h2, _⟩
  ·rw [h0]; simp
  ·rw [h2]; exact (nmElm_ok h0 h1).2.1
 ·have c1 := clsG_cost (zs.take 3) 0
  have c2 := upG_len ((zs.drop 3).take 3) 0
  have c3 := loG_len ((zs.drop 3).take 3) 0
  unfold mT
  simp only [genL]
  rw [c2, c3]
  omega
 ·rcases o3 e he with ⟨h1, _⟩ | ⟨j, h1, h2, _, h3⟩
  ·exact absurd h1 h0
  ·rw [h3]
   exact (nmElm_ok h1 h2).2.2.2
end Go.Proofs.YthaibekbefndlaaGreatDoor.C

namespace Go.Proofs.YthaibekbefndlaaGreatDoor.C
open Go.RowKit

structure GSt (w0 : World) (S : Nat) (l : Loc) (v1 v2 v3 v4 : Value) (w : World) : Prop where
 z : LocZ w (S + 1) v1 v2 v3 v4
 r : LocZ w S (.slice none 0 0) (.slice none 0 0) (.slice none 0 0) (.slice none 0 0)
 nm : Rw w (S + 2) 9 #[.string (str (nmCls 0)), .string (str (nmCls 1)), .string (str (nmCls 2)), .string (str [85, 48, 48, 52, 49])]
 loc : LocAt w S v1 v2 v3 v4 l
 ne : ∀ g, v2.ownBlock = some g → v3.ownBlock ≠ some g
 b : Below S w0 w
section
variable {w0 w w' : World} {S : Nat} {l : Loc} {v1 v2 v3 v4 : Value}
theorem GSt.step {X : Nat → Prop} {t0 : TypeId} (h : GSt w0 S l v1 v2 v3 v4 w) (hf : Fr w w' X) (hS : ∀ j, X j → S ≤ j) (hz : ∀ j, X j → j ≠ S ∧ j ≠ S + 1 ∧ j ≠ S + 2) (ht : ∀ g c z t, X g → w.heap[g]? = some (.cells c t z) → t = t0) :
  LocZ w' (S + 1) v1 v2 v3 v4 ∧ LocZ w' S (.slice none 0 0) (.slice none 0 0) (.slice none 0 0) (.slice none 0 0) ∧ Rw w' (S + 2) 9 #[.string (str (nmCls 0)), .string (str (nmCls 1)), .string (str (nmCls 2)), .string (str [85, 48, 48, 52, 49])] ∧ Below S w0 w' ∧
  (t0 ≠ 47 ∧ t0 ≠ 51 → ClsAt w' S v1 l.cls) ∧ (t0 ≠ 34 ∧ t0 ≠ 35 → OrdAt w' S v4 l.ord) ∧ ((∀ g, v2.ownBlock = some g → ¬ X g) → w'.ownsRow S 49 2 v2 l.up.length (prsC l.up)) ∧ ((∀ g, v3.ownBlock = some g → ¬ X g) → w'.ownsRow S 49 2 v3 l.lo.length (prsC l.lo)) := by
 obtain ⟨a1, a2, a3, a4⟩ := h.loc
 have hsz : S ≤ w.heap.size := Nat.le_of_lt h.r.lt
 refine ⟨(hf.block _ h.z.lt fun hx => (hz _ hx).2.1 rfl).trans h.z, (hf.block _ h.r.lt fun hx => (hz _ hx).1 rfl).trans h.r, (hf.block _ h.nm.lt fun hx => (hz _ hx).2.2 rfl).trans h.nm, h.b.trans (hf.below (fun j _ hx => hS j hx) hsz), fun hn => a1.fr hf (fun g c z t hx hg => ?_), fun hn => a4.fr hf (fun g c z t hx hg => ?_), fun hx => ownsRow_fr a2 hf hx, fun hx => ownsRow_fr a3 hf hx⟩
 ·rw [ht g c z t hx hg]
  exact hn
 ·rw [ht g c z t hx hg]
  exact ⟨hn.2, hn.1⟩
theorem GSt.next (h : GSt w0 S l v1 v2 v3 v4 w) (hb : Below w.heap.size w w') : GSt w0 S l v1 v2 v3 v4 w' := by
 obtain ⟨z, r, nm, b, c1, c4, c2, c3⟩ := h.step (X := fun _ => False) (t0 := 3) (.of_below hb) (fun _ hx => hx.elim) (fun _ hx => hx.elim) (fun _ _ _ _ hx => hx.elim)
 exact ⟨z, r, nm, ⟨c1 (by decide), c2 (fun _ _ => id), c3 (fun _ _ => id), c4 (by decide)⟩, h.ne, b⟩
theorem GSt.drew (h : GSt w0 S l v1 v2 v3 v4 w) : GSt w0 S l v1 v2 v3 v4 w.drew := h.next (below_drew (Below.refl _ _))
theorem GSt.size (h : GSt w0 S l v1 v2 v3 v4 w) : S + 2 < w.heap.size := h.nm.lt
theorem locz_set {w : World} {b : Nat} {x1 x2 x3 x4 : Value} (h : LocZ w b x1 x2 x3 x4) (i : Nat) (u : Value) : (w.setCell ⟨b, i, none⟩ u).heap[b]? = some (.cells ([x1, x2, x3, x4].set i u).toArray 26 (0, 0)) := set_row (l := [x1, x2, x3, x4]) h u
theorem ownBlock_ge {e : TypeId} {sz n : Nat} {v : Value} {xs : List Value} (h : w.ownsRow S e sz v n xs) : ∀ g, v.ownBlock = some g → S ≤ g := fun g hg => (h.lt g hg).1
theorem GSt.put {x1 x2 x3 x4 : Value} {l' : Loc} {i : Nat} {u : Value} (hz : LocZ w (S + 1) v1 v2 v3 v4) (hr : LocZ w S (.slice none 0 0) (.slice none 0 0) (.slice none 0 0) (.slice none 0 0)) (hn : Rw w (S + 2) 9 #[.string (str (nmCls 0)), .string (str (nmCls 1)), .string (str (nmCls 2)), .string (str [85, 48, 48, 52, 49])]) (hL : LocAt w S x1 x2 x3 x4 l') (hne : ∀ g, x2.ownBlock = some g → x3.ownBlock ≠ some g) (hb : Below S w0 w) (hi : [v1, v2, v3, v4].set i u = [x1, x2, x3, x4]) :
  GSt w0 S l' x1 x2 x3 x4 (w.setCell ⟨S + 1, i, none⟩ u) := by
 have hf : Fr w (w.setCell ⟨S + 1, i, none⟩ u) (fun j => j = S + 1) := (Fr.of_below (Below.refl _ _)).set ⟨S + 1, i, none⟩ u (fun _ => rfl)
 have hty : ∀ g c z t, g = S + 1 → w.heap[g]? = some (.cells c t z) → t = 26 := by
  rintro g c z t rfl hg
  have := hg.symm.trans hz
  simp at this
  exact this.2.1
 obtain ⟨a1, a2, a3, a4⟩ := hL
 have no : ∀ {e : TypeId} {sz n : Nat} {v : Value} {xs : List Value}, w.ownsRow S e sz v n xs → 26 ≠ e → ∀ g, v.ownBlock = some g → ¬ g = S + 1 := fun hw he g hg hx => by
  subst hx
  exact row_ne hw hz he hg
 refine ⟨?_, (hf.block _ hr.lt (by omega)).trans hr, (hf.block _ hn.lt (by omega)).trans hn, ⟨a1.fr hf (fun g c z t hx hg => ?_), ownsRow_fr a2 hf (no a2 (by decide)), ownsRow_fr a3 hf (no a3 (by decide)), a4.fr hf (fun g c z t hx hg => ?_)⟩, hne, hb.setCell (p := ⟨S + 1, i, none⟩) (Nat.le_succ S) _⟩
 ·show _ = _
  rw [locz_set hz i u, hi]
 ·rw [hty g c z t hx hg]; decide
 ·rw [hty g c z t hx hg]; decide
theorem row_tyeq {base sz n : Nat} {e : TypeId} {v : Value} {xs : List Value} (h : w.ownsRow base e sz v n xs) : ∀ g c z t, (v.ownBlock = some g) → w.heap[g]? = some (.cells c t z) → t = e := by
 intro g c z t hx hh
 obtain ⟨c', hc'⟩ := ownsRow_ty h hx
 have := hh.symm.trans hc'
 simp at this
 exact this.2.1
theorem grown_fr {row : Option Nat} (h : w.grownBy w' row) : Fr w w' (fun j => row = some j) := Fr.of_grown h
theorem GSt.cls {vs : List Value} {x : Value} {g cap : Nat} (c : Cls) (h : GSt w0 S l v1 v2 v3 v4 w) (e1 : vs.length = l.cls.length) (e2 : w.ownsRow S 47 2 v1 l.cls.length (clsC l.cls vs)) (e3 : ∀ (i : Nat) (c : Cls) (x : Value), l.cls[i]? = some c → vs[i]? = some x → w.ownsRow S 51 2 x c.rs.length (prsC c.rs)) (hx : w.ownsRow S 51 2 x c.rs.length (prsC c.rs)) (hg : w.grownBy w' v1.ownBlock) (ho : w'.ownsRow S 47 2 (.slice (some ⟨g, 0, none⟩) (l.cls.length + 1) cap) (l.cls.length + 1) (clsC l.cls vs ++ [.string (str c.name), x])) :
  GSt w0 S { l with cls := l.cls ++ [c] } (.slice (some ⟨g, 0, none⟩) (l.cls.length + 1) cap) v2 v3 v4 (w'.setCell ⟨S + 1, 0, none⟩ (.slice (some ⟨g, 0, none⟩) (l.cls.length + 1) cap)) := by
 have hty := row_tyeq e2
 obtain ⟨z, r, nm, b, -, c4, c2, c3⟩ := h.step (grown_fr hg) (ownBlock_ge e2) (fun j hx => ⟨fun e => row_ne e2 h.r (by decide) (e ▸ hx), fun e => row_ne e2 h.z (by decide) (e ▸ hx), fun e => row_ne e2 h.nm (by decide) (e ▸ hx)⟩) hty
 have q2 := c2 (fun g hg hx => by
  obtain ⟨c', hc'⟩ := ownsRow_ty h.loc.2.1 hg
  have := hty g _ _ _ hx hc'
  exact absurd this (by decide))
 have q3 := c3 (fun g hg hx => by
  obtain ⟨c', hc'⟩ := ownsRow_ty h.loc.2.2.1 hg
  have := hty g _ _ _ hx hc'
  exact absurd this (by decide))
 exact GSt.put z r nm ⟨ClsAt.snoc c e1 e2 e3 hx hg ho, q2, q3, c4 (by decide)⟩ h.ne b rfl
theorem GSt.up {g cap : Nat} (p : Int × Int) (h : GSt w0 S l v1 v2 v3 v4 w) (hg : w.grownBy w' v2.ownBlock) (ho : w'.ownsRow S 49 2 (.slice (some ⟨g, 0, none⟩) (l.up.length + 1) cap) (l.up.length + 1) (prsC l.up ++ [.int .i32 p.1, .int .i32 p.2])) (hat : v2.ownBlock = some g ∨ w.heap.size ≤ g) :
  GSt w0 S { l with up := l.up ++ [p] } v1 (.slice (some ⟨g, 0, none⟩) (l.up.length + 1) cap) v3 v4 (w'.setCell ⟨S + 1, 1, none⟩ (.slice (some ⟨g, 0, none⟩) (l.up.length + 1) cap)) := by
 have e2 := h.loc.2.1
 have hty := row_tyeq e2
 obtain ⟨z, r, nm, b, c1, c4, -, c3⟩ := h.step (grown_fr hg) (ownBlock_ge e2) (fun j hx => ⟨fun e => row_ne e2 h.r (by decide) (e ▸ hx), fun e => row_ne e2 h.z (by decide) (e ▸ hx), fun e => row_ne e2 h.nm (by decide) (e ▸ hx)⟩) hty
 have q3 := c3 (fun g hg hx => h.ne g hx hg)
 refine GSt.put z r nm ⟨c1 (by decide), ?_, q3, c4 (by decide)⟩ (fun g' hg' hq => ?_) b rfl
 ·rw [List.length_append, prsC_snoc]
  exact ho
 ·have hgg : g = g' := by simpa [Value.ownBlock] using hg'
  subst hgg
  rcases hat with hat | hat
  ·exact h.ne g hat hq
  ·have := (h.loc.2.2.1.lt g hq).2
   omega
theorem GSt.lo {g cap : Nat} (p : Int × Int) (h : GSt w0 S l v1 v2 v3 v4 w) (hg : w.grownBy w' v3.ownBlock) (ho : w'.ownsRow S 49 2 (.slice (some ⟨g, 0, none⟩) (l.lo.length + 1) cap) (l.lo.length + 1) (prsC l.lo ++ [.int .i32 p.1, .int .i32 p.2])) (hat : v3.ownBlock = some g ∨ w.heap.size ≤ g) :
  GSt w0 S { l with lo := l.lo ++ [p] } v1 v2 (.slice (some ⟨g, 0, none⟩) (l.lo.length + 1) cap) v4 (w'.setCell ⟨S + 1, 2, none⟩ (.slice (some ⟨g, 0, none⟩) (l.lo.length + 1) cap)) := by
 have e2 := h.loc.2.2.1
 have hty := row_tyeq e2
 obtain ⟨z, r, nm, b, c1, c4, c2, -⟩ := h.step (grown_fr hg) (ownBlock_ge e2) (fun j hx => ⟨fun e => row_ne e2 h.r (by decide) (e ▸ hx), fun e => row_ne e2 h.z (by decide) (e ▸ hx), fun e => row_ne e2 h.nm (by decide) (e ▸ hx)⟩) hty
 have q2 := c2 (fun g hg hx => h.ne g hg hx)
 refine GSt.put z r nm ⟨c1 (by decide), q2, ?_, c4 (by decide)⟩ (fun g' hg' hq => ?_) b rfl
 ·rw [List.length_append, prsC_snoc]
  exact ho
 ·have hgg : g = g' := by simpa [Value.ownBlock] using hq
  subst hgg
  rcases hat with hat | hat
  ·exact h.ne g hg' hat
  ·have := (h.loc.2.1.lt g hg').2
   omega
theorem GSt.ord {vs : List Value} {x : Value} {g cap : Nat} (e : Elm) (h : GSt w0 S l v1 v2 v3 v4 w) (e1 : vs.length = l.ord.length) (e2 : w.ownsRow S 34 3 v4 l.ord.length (ordR l.ord vs).flatten) (e3 : ∀ (i : Nat) (e : Elm) (x : Value), l.ord[i]? = some e → vs[i]? = some x → w.ownsRow S 35 1 x e.cells.length (celC e.cells)) (hx : w.ownsRow S 35 1 x e.cells.length (celC e.cells)) (hg : w.grownBy w' v4.ownBlock) (ho : w'.ownsRow S 34 3 (.slice (some ⟨g, 0, none⟩) (l.ord.length + 1) cap) (l.ord.length + 1) ((ordR l.ord vs).flatten ++ [.string (str e.name), x, .int .i64 e.same])) :
  GSt w0 S { l with ord := l.ord ++ [e] } v1 v2 v3 (.slice (some ⟨g, 0, none⟩) (l.ord.length + 1) cap) (w'.setCell ⟨S + 1, 3, none⟩ (.slice (some ⟨g, 0, none⟩) (l.ord.length + 1) cap)) := by
 have hty := row_tyeq e2
 obtain ⟨z, r, nm, b, c1, -, c2, c3⟩ := h.step (grown_fr hg) (ownBlock_ge e2) (fun j hx => ⟨fun e => row_ne e2 h.r (by decide) (e ▸ hx), fun e => row_ne e2 h.z (by decide) (e ▸ hx), fun e => row_ne e2 h.nm (by decide) (e ▸ hx)⟩) hty
 have q2 := c2 (fun g hg hx => by
  obtain ⟨c', hc'⟩ := ownsRow_ty h.loc.2.1 hg
  have := hty g _ _ _ hx hc'
  exact absurd this (by decide))
 have q3 := c3 (fun g hg hx => by
  obtain ⟨c', hc'⟩ := ownsRow_ty h.loc.2.2.1 hg
  have := hty g _ _ _ hx hc'
  exact absurd this (by decide))
 exact GSt.put z r nm ⟨c1 (by decide), q2, q3, OrdAt.snoc e e1 e2 e3 hx hg ho⟩ h.ne b rfl
end
end Go.Proofs.YthaibekbefndlaaGreatDoor.C

namespace Go.Proofs.YthaibekbefndlaaGreatDoor.C
open Go.RowKit

theorem prt_tC_len {c : Int} (h0 : 0 ≤ c) (h1 : c < 16777216) : (prt (tC c)).length ≤ 18 := by
 obtain ⟨n, rfl⟩ : ∃ n : Nat, c = (n : Int) := ⟨c.toNat, by omega⟩
 have := greatL_len (n := n) (by omega)
 unfold prt tC
 rw [if_pos rfl, Int.toNat_natCast]
 simp
 omega
theorem scalB_lt {c : Int} (h : scalB c = true) : 0 ≤ c ∧ c < 16777216 := by
 unfold scalB rightB at h
 simp at h
 omega
def mapP (m : List UInt8) (l : List (Int × Int)) : List UInt8 := prtL (tW m :: sepT pairT l)
theorem mapP_first (m : List UInt8) (p : Int × Int) : mapP m [p] = mapP m [] ++ [40, 32] ++ prt (tC p.1) ++ [44, 32] ++ prt (tC p.2) ++ [41, 32] := by
 unfold mapP prtL sepT pairT
 simp [prt, tS, sOpen, sComma, sShut]
theorem mapP_next (m : List UInt8) (l : List (Int × Int)) (p : Int × Int) (h : l ≠ []) : mapP m (l ++ [p]) = mapP m l ++ [59, 32] ++ [40, 32] ++ prt (tC p.1) ++ [44, 32] ++ prt (tC p.2) ++ [41, 32] := by
 unfold mapP
 rw [sepT_snoc _ _ _ h]
 unfold prtL
 simp [prt, tS, sOpen, sComma, sShut, sSemi, pairT]
theorem mapT_line (m : List UInt8) (l : List (Int × Int)) (h : l ≠ []) (hk : ∀ x ∈ tW m :: sepT pairT l, x.k ≠ 6) : (mapP m l).dropLast ++ [10] = linesT (mapT m l) := by
 have := (line_put [] (ts := tW m :: sepT pairT l) (by simp) hk).1
 rw [List.nil_append, List.nil_append] at this
 unfold mapT
 rw [if_neg h]
 unfold linesT
 rw [List.flatMap_cons, List.flatMap_nil, List.append_nil]
 exact this
theorem sepT_kind7 {α : Type} (f : α → List Tok) (hf : ∀ a, ∀ x ∈ f a, x.k ≠ 6) : ∀ l : List α, ∀ x ∈ sepT f l, x.k ≠ 6
 | [], x, h => by simp [sepT] at h
 | [a], x, h => hf a x h
 | a :: b :: r, x, h => by
  have h' : x ∈ f a ++ tS sSemi :: sepT f (b :: r) := h
  rcases List.mem_append.1 h' with h | h
  ·exact hf a x h
  ·rcases List.mem_cons.1 h with rfl | h
   ·simp [tS]
   ·exact sepT_kind7 f hf (b :: r) x h
theorem pairT_kind7 (p : Int × Int) : ∀ x ∈ pairT p, x.k ≠ 6 := by
 intro x hx
 unfold pairT at hx
 simp at hx
 rcases hx with rfl | rfl | rfl | rfl | rfl <;> simp [tS, tC]
set_option maxRecDepth 100000 in
set_option maxHeartbeats 4000000 in
theorem maps07_any (w : World) (B : Nat) (v : Value) (m : List UInt8) (l : List (Int × Int)) (h : PrsR w B v l) (hB : B ≤ w.heap.size) (hl : l.length ≤ 140737488355328) (hs : ∀ p ∈ l, scalB p.1 = true ∧ scalB p.2 = true) (hm : m.length ≤ 16) :
  Calls Tryz.prog 45 #[.string (str m), v] w fun e w' => e = .returned (.string (str (linesT (mapT m l)))) ∧ Below w.heap.size w w' := by
 obtain ⟨A, c, rfl, hsi⟩ := h
 have HS := Lib.hid hsi
 have HB := Lib.hid hB
 have HL := Lib.hid hs
 have hms := str_size m
 have m0 : (str m).size ≤ 16 := by omega
 obtain ⟨M, hM⟩ : ∃ M, M = str m := ⟨_, rfl⟩
 obtain ⟨S0, hS0⟩ : ∃ S, S = M ++ (⟨#[32]⟩ : ByteArray) := ⟨_, rfl⟩
 have HS0 : Hid (S0 = str (mapP m [])) := Lib.hid (by rw [hS0, hM]; show str m ++ str [32] = _; rw [str_append]; unfold mapP prtL sepT; simp [prt, tW])
 have z0 : S0.size ≤ 17 := by rw [hS0, ByteArray.size_append, hM]; show (str m).size + 1 ≤ 17; omega
 rw [← hM] at m0 ⊢
 have e0 := hS0.symm
 clear hsi hB hs hms hM hS0
 go_enter Tryz.func45, Tryz.ntmps45
 go_wp2
 go_loopw [5, 6] (fun sv iv wr => ∃ (i : Nat) (S : ByteArray), i ≤ l.length ∧ iv = .int .i64 i ∧ sv = .string S ∧ S.size ≤ 17 + 64 * i ∧ Hid (S = str (mapP m (l.take i)) ∧ Below w.heap.size w wr)) (fun _ iv _ => l.length - (intOf iv).toNat)
 case atStart => exact ⟨0, S0, Nat.zero_le _, rfl, rfl, by omega, Lib.hid ⟨by rw [HS0.out]; rfl, Below.refl _ _⟩⟩
 case round =>
  obtain ⟨wp, hwp⟩ : ∃ wp, wp = wr := ⟨_, rfl⟩
  subst hwp
  obtain ⟨i, S, hin, rfl, rfl, hsz, HQ⟩ := hrel
  by_cases hlt : i < l.length
  ·obtain ⟨r, hri⟩ : ∃ r, l[i]? = some r := ⟨_, List.getElem?_eq_getElem hlt⟩
   have hsr := HS.out.on HQ.out.2 HB.out
   obtain ⟨ad, rfl, hbl, c0, c1⟩ := prsR_at hsr hri
   obtain ⟨ha, hb⟩ := HL.out r (List.mem_of_getElem? hri)
   obtain ⟨a, b⟩ := r
   dsimp only at c0 c1 ha hb
   have i0 : (0 : Int) ≤ (i : Int) := by omega
   have i1 : (i : Int) < (l.length : Int) := by omega
   obtain ⟨a0, a1⟩ := scalB_lt ha
   obtain ⟨b0, b1⟩ := scalB_lt hb
   have la := prt_tC_len a0 a1
   have lb := prt_tC_len b0 b1
   obtain ⟨UA, hUA⟩ : ∃ U, U = str (prt (tC a)) := ⟨_, rfl⟩
   obtain ⟨UB, hUB⟩ : ∃ U, U = str (prt (tC b)) := ⟨_, rfl⟩
   have ua : UA.size ≤ 18 := by rw [hUA, str_size]; exact la
   have ub : UB.size ≤ 18 := by rw [hUB, str_size]; exact lb
   have HUA : Hid (∀ W, Calls Tryz.prog 43 #[.int .i32 a] W fun e w' => e = .returned (.string UA) ∧ Below W.heap.size W w') := Lib.hid (fun W => by rw [hUA]; exact u07_any a W a0 a1)
   have HUB : Hid (∀ W, Calls Tryz.prog 43 #[.int .i32 b] W fun e w' => e = .returned (.string UB) ∧ Below W.heap.size W w') := Lib.hid (fun W => by rw [hUB]; exact u07_any b W b0 b1)
   have hbw : ad.block < wp.heap.size := by have := HB.out; have := HQ.out.2.size; omega
   have HCC0 : Hid (∀ u, Below wp.heap.size wp u → u.cell? (ad.add (i * 2)) = some (.int .i32 a) ∧ u.cell? ⟨(ad.add (i * 2)).block, (ad.add (i * 2)).off + 1, none⟩ = some (.int .i32 b)) := Lib.hid (fun u hu => ⟨(hu.cell (p := _) (by rw [block_of_add]; exact hbw)).trans c0, (hu.cell (p := ⟨_, _, none⟩) (by rw [block_of_add]; exact hbw)).trans c1⟩)
   obtain ⟨S1, hS1⟩ : ∃ S1, S1 = if i = 0 then S else S ++ (⟨#[59, 32]⟩ : ByteArray) := ⟨_, rfl⟩
   obtain ⟨T1, h1⟩ : ∃ T, T = S1 ++ (⟨#[40, 32]⟩ : ByteArray) := ⟨_, rfl⟩
   obtain ⟨T2, h2⟩ : ∃ T, T = T1 ++ UA := ⟨_, rfl⟩
   obtain ⟨T3, h3⟩ : ∃ T, T = T2 ++ (⟨#[44, 32]⟩ : ByteArray) := ⟨_, rfl⟩
   obtain ⟨T4, h4⟩ : ∃ T, T = T3 ++ UB := ⟨_, rfl⟩
   obtain ⟨T5, h5⟩ : ∃ T, T = T4 ++ (⟨#[41, 32]⟩ : ByteArray) := ⟨_, rfl⟩
   have z1 : S1.size ≤ 19 + 64 * i := by
    rw [hS1]
    split
    ·omega
    ·rw [ByteArray.size_append]; show S.size + 2 ≤ _; omega
   have z2 : T1.size ≤ 21 + 64 * i := by rw [h1, ByteArray.size_append]; show S1.size + 2 ≤ _; omega
   have z3 : T2.size ≤ 39 + 64 * i := by rw [h2, ByteArray.size_append]; omega
   have z4 : T3.size ≤ 41 + 64 * i := by rw [h3, ByteArray.size_append]; show T2.size + 2 ≤ _; omega
   have z5 : T4.size ≤ 59 + 64 * i := by rw [h4, ByteArray.size_append]; omega
   have z6 : T5.size ≤ 17 + 64 * (i + 1) := by rw [h5, ByteArray.size_append]; show T4.size + 2 ≤ _; omega
   have HN : Hid (T5 = str (mapP m (l.take (i + 1)))) := Lib.hid (by
    rw [h5, h4, h3, h2, h1, hUA, hUB, hS1, HQ.out.1, take_one hri]
    by_cases h0 : i = 0
    ·rw [if_pos h0, h0, List.take_zero, List.nil_append, mapP_first]
     show str _ ++ str [40, 32] ++ str _ ++ str [44, 32] ++ str _ ++ str [41, 32] = _
     simp only [str_append]
    ·rw [if_neg h0, mapP_next _ _ _ (by intro he; have h9 := congrArg List.length he; rw [List.length_take, List.length_nil] at h9; omega)]
     show str _ ++ str [59, 32] ++ str [40, 32] ++ str _ ++ str [44, 32] ++ str _ ++ str [41, 32] = _
     simp only [str_append])
   have e1 := h1.symm
   have e2 := h2.symm
   have e3 := h3.symm
   have e4 := h4.symm
   have e5 := h5.symm
   have n1 : ¬ 9223372036854775807 < S1.size + 2 := by omega
   have n2 : ¬ 9223372036854775807 < T1.size + UA.size := by omega
   have n3 : ¬ 9223372036854775807 < T2.size + 2 := by omega
   have n4 : ¬ 9223372036854775807 < T3.size + UB.size := by omega
   have n5 : ¬ 9223372036854775807 < T4.size + 2 := by omega
   have HS1 := Lib.hid hS1
   clear hsr hri c0 c1 ha hb hUA hUB la lb hbl hbw h1 h2 h3 h4 h5 hS1
   go_upto_if 16 with fail
   go_cut [5] (fun s wx => s = .string S1 ∧ Below wp.heap.size wp wx)
   case first =>
    by_cases h0 : i = 0
    ·have hS : S1 = S := by rw [HS1.out, if_pos h0]
     have g0 : ¬ (0 : Int) < (i : Int) := by omega
     have HSE := Lib.hid hS
     clear hS h0 e1 e2 e3 e4 e5
     go_wp2
     go_meet
     exact ⟨by rw [HSE.out], Below.refl _ _⟩
    ·have hS : S ++ (⟨#[59, 32]⟩ : ByteArray) = S1 := by rw [HS1.out, if_neg h0]
     have g0 : (0 : Int) < (i : Int) := by omega
     clear h0 e1 e2 e3 e4 e5
     go_wp2
     go_meet
     exact ⟨rfl, Below.refl _ _⟩
   case rest =>
    generalize wc = wx at *
    obtain ⟨rfl, hbx⟩ := hcut
    have HBX := Lib.hid hbx
    have HCC : Hid (∀ u, Below wx.heap.size wx u → u.cell? (ad.add (i * 2)) = some (.int .i32 a) ∧ u.cell? ⟨(ad.add (i * 2)).block, (ad.add (i * 2)).off + 1, none⟩ = some (.int .i32 b)) := Lib.hid (fun u hu => HCC0.out u (HBX.out.trans (hu.mono HBX.out.size)))
    clear hbx
    go_wp2
    refine wp_region_held (S := fun W' : World => W'.cell? (ad.add (i * 2)) = some (.int .i32 a) ∧ W'.cell? ⟨(ad.add (i * 2)).block, (ad.add (i * 2)).off + 1, none⟩ = some (.int .i32 b)) (by kernel_rfl) ?_
    change wpAnyH _ _ _ _ _ _ _ _ wx.drew
    have hS1 : (fun W' : World => W'.cell? (ad.add (i * 2)) = some (.int .i32 a) ∧ W'.cell? ⟨(ad.add (i * 2)).block, (ad.add (i * 2)).off + 1, none⟩ = some (.int .i32 b)) wx.drew := HCC.out wx.drew (below_drew (Below.refl _ _))
    iterate 7 (refine wpH rfl rfl ?_; try simp only [Act.put, g1, g2, g3, g4, g5, g6])
    refine wpHn 10 rfl ?_
    try simp only [Act.put, g1, g2, g3, g4, g5, g6]
    refine wpHn 11 rfl ?_
    try simp only [Act.put, g1, g2, g3, g4, g5, g6]
    refine wpHn 12 rfl ?_
    try simp only [Act.put, g1, g2, g3, g4, g5, g6]
    refine wpHn 13 rfl ?_
    try simp only [Act.put, g1, g2, g3, g4, g5, g6]
    refine wpHn 14 rfl ?_
    try simp only [Act.put, g1, g2, g3, g4, g5, g6]
    have hcu := HUA.out wx.drew
    refine wpAnyH_one (i := 7) (by kernel_rfl) rfl (fun K hK => ?_)
    simp only [g4, g5, g6]
    go_simp
    go_at_call 43
    with_reducible refine hcu.mono ?_
    rintro e1 u1 ⟨rfl, hbn⟩
    have hc1 : Below wx.heap.size wx u1 := ⟨hbn.os, hbn.tape, hbn.output, hbn.size, hbn.block⟩
    have HC1 := Lib.hid hc1
    refine hK.out _ _ (HCC.out u1 hc1) (fun hS2 => ?_)
    clear hcu hbn hc1 hS1
    iterate 2 (refine wpH rfl rfl ?_; try simp only [Act.put, g1, g2, g3, g4, g5, g6])
    have hcu := HUB.out u1
    refine wpAnyH_one (i := 15) (by kernel_rfl) rfl (fun K hK => ?_)
    simp only [g4, g5, g6]
    go_simp
    go_at_call 43
    with_reducible refine hcu.mono ?_
    rintro e1 u2 ⟨rfl, hbn⟩
    have hc2 : Below wx.heap.size wx u2 := HC1.out.trans (hbn.mono HC1.out.size)
    have HC2 := Lib.hid hc2
    refine hK.out _ _ (HCC.out u2 hc2) (fun hS3 => ?_)
    clear hcu hbn hc2 hS2
    iterate 3 (refine wpH rfl rfl ?_; try simp only [Act.put, g1, g2, g3, g4, g5, g6])
    refine wpAnyH_done (by kernel_rfl) ?_ _
    clear e1 e2 e3 e4 e5 n1 n2 n3 n4 n5
    go_wp2
    go_roundw
    case rel => exact ⟨i + 1, T5, by omega, by go_num, rfl, z6, Lib.hid ⟨HN.out, HQ.out.2.trans ((HBX.out.trans (HC2.out.mono HBX.out.size)).mono HQ.out.2.size)⟩⟩
    case measure => simp [intOf]; omega
  ·obtain rfl : i = l.length := by omega
   by_cases h0 : l.length = 0
   ·have hln : l = [] := List.eq_nil_of_length_eq_zero h0
    have HF : Hid (str (linesT (mapT m l)) = (⟨#[]⟩ : ByteArray)) := Lib.hid (by rw [hln]; rfl)
    have HQ2 := Lib.hid HQ.out.2
    have g0 : ((l.length : Int) == 0) = true := by rw [h0]; rfl
    have g1 : (l.length : Int) = 0 := by omega
    clear hlt HQ hln
    go_wp2
    go_ret
    exact ⟨by rw [HF.out]; rfl, HQ2.out⟩
   ·have g0 : ((l.length : Int) == 0) = false := by simp only [beq_eq_false_iff_ne, ne_eq]; omega
    have g1 : ¬ (l.length : Int) = 0 := by omega
    have hln : l ≠ [] := fun h => h0 (by rw [h]; rfl)
    obtain ⟨hSe, hbw⟩ := HQ.out
    rw [List.take_length] at hSe
    have HP : Hid (mapP m l ≠ []) := Lib.hid (by unfold mapP prtL; simp [prt, tW])
    have hsl := str_size (mapP m l)
    rw [← hSe] at hsl
    have hkd : ∀ x ∈ tW m :: sepT pairT l, x.k ≠ 6 := by
     intro x hx
     rcases List.mem_cons.1 hx with rfl | hx
     ·simp [tW]
     ·exact sepT_kind7 _ pairT_kind7 l x hx
    have hcu := cut07_any (mapP m l) HP.out (by omega) wp
    rw [mapT_line m l hln hkd, ← hSe] at hcu
    have HBW := Lib.hid hbw
    clear hln hSe hbw HQ hsl hkd
    go_wp2_with fail
    with_reducible refine hcu.mono ?_
    rintro e w2 ⟨rfl, rfl⟩
    go_wp2
    go_ret
    exact ⟨rfl, HBW.out⟩
end Go.Proofs.YthaibekbefndlaaGreatDoor.C
