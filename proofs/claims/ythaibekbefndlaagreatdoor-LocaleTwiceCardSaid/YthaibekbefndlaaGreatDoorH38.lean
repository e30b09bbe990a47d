/-
  Joined: LhA. Each with what its own head says.
-/
import Derived.Test.YthaibekbefndlaaGreatDoorH31

namespace Go.Proofs.YthaibekbefndlaaGreatDoor.C

def nmCls (i : Nat) : List UInt8 := if i = 0 then [97, 108, 112, 104, 97] else if i = 1 then [120] else [108, 111, 119, 45, 49]
def cls1 (i : Nat) (z : Int) : Cls := ⟨nmCls i, (97 + z % 8, 97 + z % 8 + z / 64) :: (if z % 3 = 0 then [(233, 233)] else [])⟩
def clsG : Nat → List Int → List Cls
 | _, [] => []
 | i, z :: r => cls1 i z :: clsG (i + 1) r
def upG : Nat → List Int → List (Int × Int)
 | _, [] => []
 | i, z :: r => ((97 + i : Int), 65 + z % 4) :: upG (i + 1) r
def loG : Nat → List Int → List (Int × Int)
 | _, [] => []
 | i, z :: r => ((65 + i : Int), 97 + z / 4 % 4) :: loG (i + 1) r
def nmElm (j : Int) : List UInt8 := if j = 0 then [99, 104] else if j = 1 then [97, 98] else [101, 115, 122, 101, 116, 116]
def elm0 (z : Int) : List UInt8 × List Int := if z % 11 = 0 then (nmElm (z / 11 % 3), [99 - z / 11 % 3, 104]) else ([], [97 + z % 6])
def samO (o : List Elm) (z : Int) : Int := if 200 < z ∧ 0 < o.length then (match o[(z % (o.length : Int)).toNat]? with
 | some e => e.same
 | none => 0) else o.length
def stepO (o : List Elm) (z : Int) : List Elm := if (placeL o (elm0 z).2).isSome then o else o ++ [⟨(elm0 z).1, (elm0 z).2, samO o z⟩]
def ordG (zs : List Int) : List Elm := zs.foldl stepO []
def genL (zs : List Int) : Loc := ⟨clsG 0 (zs.take 3), upG 0 ((zs.drop 3).take 3), loG 0 ((zs.drop 3).take 3), ordG ((zs.drop 6).take 14)⟩
theorem clsG_snoc : ∀ (l : List Int) (i : Nat) (z : Int), clsG i (l ++ [z]) = clsG i l ++ [cls1 (i + l.length) z]
 | [], i, z => rfl
 | a :: r, i, z => by
  show cls1 i a :: clsG (i + 1) (r ++ [z]) = cls1 i a :: clsG (i + 1) r ++ _
  rw [clsG_snoc r (i + 1) z, show i + 1 + r.length = i + (a :: r).length by simp; omega]
  rfl
theorem upG_snoc : ∀ (l : List Int) (i : Nat) (z : Int), upG i (l ++ [z]) = upG i l ++ [((97 + (i + l.length : Nat) : Int), 65 + z % 4)]
 | [], i, z => rfl
 | a :: r, i, z => by
  show ((97 + i : Int), 65 + a % 4) :: upG (i + 1) (r ++ [z]) = ((97 + i : Int), 65 + a % 4) :: upG (i + 1) r ++ _
  rw [upG_snoc r (i + 1) z, show i + 1 + r.length = i + (a :: r).length by simp; omega]
  rfl
theorem loG_snoc : ∀ (l : List Int) (i : Nat) (z : Int), loG i (l ++ [z]) = loG i l ++ [((65 + (i + l.length : Nat) : Int), 97 + z / 4 % 4)]
 | [], i, z => rfl
 | a :: r, i, z => by
  show ((65 + i : Int), 97 + a / 4 % 4) :: loG (i + 1) (r ++ [z]) = ((65 + i : Int), 97 + a / 4 % 4) :: loG (i + 1) r ++ _
  rw [loG_snoc r (i + 1) z, show i + 1 + r.length = i + (a :: r).length by simp; omega]
  rfl
theorem ordG_snoc (l : List Int) (z : Int) : ordG (l ++ [z]) = stepO (ordG l) z := by unfold ordG; rw [List.foldl_append]; rfl
theorem clsG_len : ∀ (l : List Int) (i : Nat), (clsG i l).length = l.length
 | [], _ => rfl
 | _ :: r, i => by simp [clsG, clsG_len r (i + 1)]
theorem upG_len : ∀ (l : List Int) (i : Nat), (upG i l).length = l.length
 | [], _ => rfl
 | _ :: r, i => by simp [upG, upG_len r (i + 1)]
theorem loG_len : ∀ (l : List Int) (i : Nat), (loG i l).length = l.length
 | [], _ => rfl
 | _ :: r, i => by simp [loG, loG_len r (i + 1)]
theorem clsG_names : ∀ (l : List Int) (i : Nat), ∀ c ∈ clsG i l, ∃ j, i ≤ j ∧ j < i + l.length ∧ c.name = nmCls j
 | [], _, c, h => by simp [clsG] at h
 | z :: r, i, c, h => by
  rcases List.mem_cons.1 h with rfl | h
  ·exact ⟨i, Nat.le_refl _, by simp, rfl⟩
  ·obtain ⟨j, h1, h2, h3⟩ := clsG_names r (i + 1) c h
   exact ⟨j, by omega, by simp; omega, h3⟩
theorem nmCls_ne {i j : Nat} (hi : i < 3) (hj : j < 3) (h : i ≠ j) : nmCls i ≠ nmCls j := by
 rcases (by omega : i = 0 ∨ i = 1 ∨ i = 2) with rfl | rfl | rfl <;> rcases (by omega : j = 0 ∨ j = 1 ∨ j = 2) with rfl | rfl | rfl <;> first | exact absurd rfl h | decide
theorem nmCls_ok {i : Nat} (hi : i < 3) : wordlyB (nmCls i) = true ∧ (nmCls i).length ≤ 16 := by
 rcases (by omega : i = 0 ∨ i = 1 ∨ i = 2) with rfl | rfl | rfl <;> decide +kernel
theorem scalB_small {c : Int} (h0 : 0 ≤ c) (h1 : c < 55296) : scalB c = true := by
 unfold scalB rightB
 simp
 omega
def Byt (zs : List Int) : Prop := ∀ z ∈ zs, 0 ≤ z ∧ z ≤ 255
theorem list_snoc_ind {α : Type} {P : List α → Prop} (h0 : P []) (h1 : ∀ l x, P l → P (l ++ [x])) : ∀ l, P l := fun l => by
 have : ∀ n (l : List α), l.length = n → P l := by
  intro n
  induction n with
  | zero => intro l h; rw [List.eq_nil_of_length_eq_zero h]; exact h0
  | succ n ih =>
   intro l h
   rcases List.eq_nil_or_concat l with h2 | ⟨r, x, h2⟩
   ·rw [h2] at h; simp at h
   ·have h2' : l = r ++ [x] := by simpa using h2
    rw [h2'] at h ⊢
    exact h1 r x (ih r (by simpa using h))
 exact this l.length l rfl
theorem byt_front {l : List Int} {x : Int} (h : Byt (l ++ [x])) : Byt l ∧ 0 ≤ x ∧ x ≤ 255 := ⟨fun z hz => h z (by simp [hz]), h x (by simp)⟩
theorem clsG_right (l : List Int) (hl : l.length ≤ 3) (hb : Byt l) : clsB (clsG 0 l) = true := by
 refine list_snoc_ind (P := fun l => l.length ≤ 3 → Byt l → clsB (clsG 0 l) = true) (fun _ _ => rfl) (fun r x ih hl hb => ?_) l hl hb
 rw [List.length_append, List.length_singleton] at hl
 obtain ⟨hb1, hx0, hx1⟩ := byt_front hb
 rw [clsG_snoc, Nat.zero_add]
 refine clsB_snoc (ih (by omega) hb1) (nmCls_ok (by omega)).1 (fun hm => ?_) (by simp [cls1]) ?_
 ·obtain ⟨c, hc, he⟩ := List.mem_map.1 hm
  obtain ⟨j, _, h2, h3⟩ := clsG_names r 0 c hc
  rw [h3] at he
  exact nmCls_ne (by omega) (by omega) (by omega : j ≠ r.length) he
 ·unfold cls1
  rw [List.all_cons, Bool.and_eq_true]
  refine ⟨?_, ?_⟩
  ·unfold rangeB
   simp only [Bool.and_eq_true, decide_eq_true_eq]
   exact ⟨⟨scalB_small (by omega) (by omega), scalB_small (by omega) (by omega)⟩, by omega⟩
  ·split
   ·decide +kernel
   ·rfl
theorem upG_right (l : List Int) (hl : l.length ≤ 3) : pairsB (upG 0 l) = true ∧ ∀ p ∈ upG 0 l, p.1 < 97 + (l.length : Int) := by
 refine list_snoc_ind (P := fun l => l.length ≤ 3 → pairsB (upG 0 l) = true ∧ ∀ p ∈ upG 0 l, p.1 < 97 + (l.length : Int)) (fun _ => ⟨rfl, by simp [upG]⟩) (fun r x ih hl => ?_) l hl
 rw [List.length_append, List.length_singleton] at hl ⊢
 obtain ⟨h1, h2⟩ := ih (by omega)
 rw [upG_snoc]
 refine ⟨pairsB_snoc h1 (scalB_small (by simp only; omega) (by simp only; omega)) (scalB_small (by simp only; omega) (by simp only; omega)) (fun hm => ?_), fun p hp => ?_⟩
 ·obtain ⟨p, hp, he⟩ := List.mem_map.1 hm
  have := h2 p hp
  simp only at he
  omega
 ·rcases List.mem_append.1 hp with hp | hp
  ·have := h2 p hp
   omega
  ·rw [List.mem_singleton] at hp
   subst hp
   simp only
   omega
theorem loG_right (l : List Int) (hl : l.length ≤ 3) : pairsB (loG 0 l) = true ∧ ∀ p ∈ loG 0 l, p.1 < 65 + (l.length : Int) := by
 refine list_snoc_ind (P := fun l => l.length ≤ 3 → pairsB (loG 0 l) = true ∧ ∀ p ∈ loG 0 l, p.1 < 65 + (l.length : Int)) (fun _ => ⟨rfl, by simp [loG]⟩) (fun r x ih hl => ?_) l hl
 rw [List.length_append, List.length_singleton] at hl ⊢
 obtain ⟨h1, h2⟩ := ih (by omega)
 rw [loG_snoc]
 refine ⟨pairsB_snoc h1 (scalB_small (by simp only; omega) (by simp only; omega)) (scalB_small (by simp only; omega) (by simp only; omega)) (fun hm => ?_), fun p hp => ?_⟩
 ·obtain ⟨p, hp, he⟩ := List.mem_map.1 hm
  have := h2 p hp
  simp only at he
  omega
 ·rcases List.mem_append.1 hp with hp | hp
  ·have := h2 p hp
   omega
  ·rw [List.mem_singleton] at hp
   subst hp
   simp only
   omega
theorem nmElm_ok {j : Int} (h0 : 0 ≤ j) (h1 : j < 3) : elemB ⟨nmElm j, [99 - j, 104], 0⟩ = true ∧ (nmElm j).length ≤ 16 ∧ nmElm j ≠ [] ∧ (34 : UInt8) ∉ bytesOf [99 - j, 104] ∧ (10 : UInt8) ∉ bytesOf [99 - j, 104] := by
 rcases (by omega : j = 0 ∨ j = 1 ∨ j = 2) with rfl | rfl | rfl <;> decide +kernel
theorem nmElm_inj {i j : Int} (h0 : 0 ≤ i) (h1 : i < 3) (h2 : 0 ≤ j) (h3 : j < 3) (h : nmElm i = nmElm j) : i = j := by
 rcases (by omega : i = 0 ∨ i = 1 ∨ i = 2) with rfl | rfl | rfl <;> rcases (by omega : j = 0 ∨ j = 1 ∨ j = 2) with rfl | rfl | rfl <;> first | rfl | (exact absurd h (by decide))
def Chosen (e : Elm) : Prop := (e.name = [] ∧ ∃ c, e.cells = [c] ∧ 0 ≤ c ∧ c < 55296) ∨ ∃ j, 0 ≤ j ∧ j < 3 ∧ e.name = nmElm j ∧ e.cells = [99 - j, 104]
theorem chosen_of {z : Int} (_ : 0 ≤ z) (s : Int) : Chosen ⟨(elm0 z).1, (elm0 z).2, s⟩ := by
 unfold elm0
 split
 ·exact .inr ⟨z / 11 % 3, by omega, by omega, rfl, rfl⟩
 ·exact .inl ⟨rfl, _, rfl, by omega, by omega⟩
theorem placeL_out' {o : List Elm} {c : List Int} (h : (placeL o c).isSome = false) : ∀ x ∈ o, x.cells ≠ c := placeL_out (by simpa using h)
theorem stepO_ok {o : List Elm} {z : Int} (hz : 0 ≤ z) (h : ordB o = true) (hl : o.length < 500) (hc : ∀ e ∈ o, Chosen e) : ordB (stepO o z) = true ∧ (stepO o z).length ≤ o.length + 1 ∧ (∀ e ∈ stepO o z, Chosen e) ∧ mO 0 (stepO o z) ≤ mO 0 o + 10 := by
 unfold stepO
 split
 ·exact ⟨h, by omega, hc, by omega⟩
 ·rename_i hp
  have hch := chosen_of hz (samO o z)
  have hout := placeL_out' (by simpa using hp)
  refine ⟨ordB_snoc h hl ?_ hout ?_ ?_, by simp, ?_, ?_⟩
  ·rcases hch with ⟨h0, c, h1, h2, h3⟩ | ⟨j, h0, h1, h2, h3⟩
   ·unfold elemB
    rw [h1, h0]
    simp [scalB_small h2 h3]
   ·have := (nmElm_ok h0 h1).1
    unfold elemB at this ⊢
    rw [h2, h3]
    exact this
  ·unfold samO
   split
   ·rename_i hs
    have hm : (z % (o.length : Int)).toNat < o.length := by
     have h1 := Int.emod_nonneg z (show (o.length : Int) ≠ 0 by omega)
     have h2 := Int.emod_lt_of_pos z (show (0 : Int) < (o.length : Int) by omega)
     omega
    refine .inr ⟨(z % (o.length : Int)).toNat, o[(z % (o.length : Int)).toNat], List.getElem?_eq_getElem hm, ?_, (ordB_elem h (List.getElem?_eq_getElem hm)).2⟩
    simp only [List.getElem?_eq_getElem hm]
   ·exact .inl rfl
  ·intro h0 x hx hn
   rcases hch with ⟨h1, _⟩ | ⟨j, h1, h2, h3, h4⟩
   ·exact h0 h1
   ·rcases hc x hx with ⟨h5, _⟩ | ⟨i, h5, h6, h7, h8⟩
    ·rw [h5] at hn
     exact h0 hn.symm
    ·rw [h7] at hn
     have hij : i = j := nmElm_inj h5 h6 h1 h2 (hn.trans h3)
     have hcc : (elm0 z).2 = [99 - j, 104] := h4
     rw [hij] at h8
     exact hout x hx (h8.trans hcc.symm)
  ·intro e he
   rcases List.mem_append.1 he with he | he
   ·exact hc e he
   ·rw [List.mem_singleton] at he
    subst he
    exact hch
  ·rw [mO_snoc]
   split <;> split <;> omega
theorem ordG_ok (l : List Int) (hl : l.length ≤ 14) (hb : Byt l) : ordB (ordG l) = true ∧ (ordG l).length ≤ l.length ∧ (∀ e ∈ ordG l, Chosen e) ∧ mO 0 (ordG l) ≤ 10 * l.length := by
 refine list_snoc_ind (P := fun l => l.length ≤ 14 → Byt l → ordB (ordG l) = true ∧ (ordG l).length ≤ l.length ∧ (∀ e ∈ ordG l, Chosen e) ∧ mO 0 (ordG l) ≤ 10 * l.length) (fun _ _ => ⟨rfl, by simp [ordG], by simp [ordG], by simp [ordG, mO]⟩) (fun r x ih hl hb => ?_) l hl hb
 rw [List.length_append, List.length_singleton] at hl ⊢
 obtain ⟨hb1, hx0, _⟩ := byt_front hb
 obtain ⟨h1, h2, h3, h4⟩ := ih (by omega) hb1
 rw [ordG_snoc]
 obtain ⟨h5, h6, h7, h8⟩ := stepO_ok hx0 h1 (by omega) h3
 exact ⟨h5, by omega, h7, by omega⟩
theorem clsG_cost : ∀ (l : List Int) (i : Nat), ((clsG i l).map fun c => (clsT c).length + 1).sum ≤ 8 * l.length
 | [], _ => by simp [clsG]
 | z :: r, i => by
  have h1 := clsG_cost r (i + 1)
  have h2 : (clsT (cls1 i z)).length ≤ 7 := by
   unfold cls1 clsT
   split
   ·simp only [sepT, rangeT]
    split <;> simp
   ·simp only [sepT, rangeT]
    split <;> simp
  show ((cls1 i z :: clsG (i + 1) r).map fun c => (clsT c).length + 1).sum ≤ _
  rw [List.map_cons, List.sum_cons, List.length_cons]
  omega
theorem genL_ok (zs : List Int) (hb : Byt zs) : rightL (genL zs) = true ∧ (∀ c ∈ (genL zs).cls, c.name.length ≤ 16) ∧ (∀ e ∈ (genL zs).ord, e.name.length ≤ 16) ∧ (genL zs).ord.length ≤ 14 ∧ mT (genL zs) + 4 ≤ 208 ∧ (∀ e ∈ (genL zs).ord, e.name ≠ [] → (34 : UInt8) ∉ bytesOf e.cells ∧ (10 : UInt8) ∉ bytesOf e.cells) := by
 have l1 : (zs.take 3).length ≤ 3 := by rw [List.length_take]; omega
 have l2 : ((zs.drop 3).take 3).length ≤ 3 := by rw [List.length_take]; omega
 have l3 : ((zs.drop 6).take 14).length ≤ 14 := by rw [List.length_take]; omega
 have b1 : Byt (zs.take 3) := fun z hz => hb z (List.mem_of_mem_take hz)
 have b3 : Byt ((zs.drop 6).take 14) := fun z hz => hb z (List.mem_of_mem_drop (List.mem_of_mem_take hz))
 obtain ⟨o1, o2, o3, o4⟩ := ordG_ok _ l3 b3
 refine ⟨right_of (clsG_right _ l1 b1) (upG_right _ l2).1 (loG_right _ l2).1 o1, fun c hc => ?_, fun e he => ?_, Nat.le_trans o2 l3, ?_, fun e he h0 => ?_⟩
 ·obtain ⟨j, _, h2, h3⟩ := clsG_names _ 0 c hc
  rw [h3]
  exact (nmCls_ok (by omega)).2
 ·rcases o3 e he with ⟨h0, _⟩ | ⟨j, h0, h1, h2, _⟩
  ·rw [h0]; simp
  ·rw [h2]; exact (nmElm_ok h0 h1).2.1
 ·have c1 := clsG_cost (zs.take 3) 0
  have c2 := upG_len ((zs.drop 3).take 3) 0
  have c3 := loG_len ((zs.drop 3).take 3) 0
  unfold mT
  simp only [genL]
  rw [c2, c3]
  omega
 ·rcases o3 e he with ⟨h1, _⟩ | ⟨j, h1, h2, _, h3⟩
  ·exact absurd h1 h0
  ·rw [h3]
   exact (nmElm_ok h1 h2).2.2.2
end Go.Proofs.YthaibekbefndlaaGreatDoor.C
