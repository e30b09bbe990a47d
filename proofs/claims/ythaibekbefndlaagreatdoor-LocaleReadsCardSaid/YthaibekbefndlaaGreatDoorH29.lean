/-
  Joined: LcV, LgE, LgF, LgB, LgH. Each with what its own head says.
-/
import Derived.Test.YthaibekbefndlaaGreatDoorH25
import Derived.Test.YthaibekbefndlaaGreatDoorH27

namespace Go.Proofs.YthaibekbefndlaaGreatDoor.C

theorem runAll_long (t : Tok) : ∀ (k : Nat) (o : List Elm) (c : Nat), (∀ i, i < k → rightN (c + i) = true) → o.length ≤ 500 → 500 < o.length + k → runAll t o c k = .error (3, t.at_)
 | 0, o, c, _, h1, h2 => by omega
 | k + 1, o, c, h, h1, h2 => by
  unfold runAll
  rw [if_pos (by simpa using h 0 (by omega))]
  by_cases h3 : o.length = 500
  ·rw [if_pos h3]
  ·rw [if_neg h3]
   exact runAll_long t k _ (c + 1) (fun i hi => by rw [show c + 1 + i = c + (i + 1) by omega]; exact h (i + 1) (by omega)) (by simp; omega) (by simp; omega)
end Go.Proofs.YthaibekbefndlaaGreatDoor.C

namespace Go.Proofs.YthaibekbefndlaaGreatDoor.C

theorem inv_none : Inv ⟨noL, []⟩ 0 0 := ⟨by decide +kernel, by simp [noL], by simp, by simp [noL], by decide +kernel, by simp [noL]⟩
theorem Inv.weak {s : Sta} {m n m' n' : Nat} (h : Inv s m n) (hm : m ≤ m') (hn : n ≤ n') : Inv s m' n' := ⟨h.right, h.nm, h.d, h.el, Nat.le_trans h.m hm, Nat.le_trans h.len hn⟩
theorem lineL_as {w : List UInt8} {F : Sta → List Tok → Re Sta} (hF : ∀ s r, (if (tW w).t = wClass then classL s r else if (tW w).t = wUpper then upperL s r else if (tW w).t = wLower then lowerL s r else if (tW w).t = wElem then elementL s r else if (tW w).t = wOrder then orderL s r else .error (30, (tW w).at_)) = F s r) {s s' : Sta} {ts rest : List Tok} (h : lineL s (tW w :: ts) = .ok (s', rest)) :
  ∃ t, F s ts = .ok (s', t :: rest) ∧ t.k = 6 := by
 unfold lineL at h
 rw [takeK_hit (by simp [tW])] at h
 dsimp only at h
 rw [hF] at h
 cases hq : F s ts with
 | error e => rw [hq] at h; cases h
 | ok p =>
  obtain ⟨s1, r1⟩ := p
  rw [hq] at h
  simp only at h
  cases r1 with
  | nil => simp [takeK] at h
  | cons t r =>
   by_cases hk : t.k ∈ [6]
   ·rw [takeK_hit hk] at h
    obtain ⟨rfl, rfl⟩ := ok_inj h
    exact ⟨t, rfl, by simpa using hk⟩
   ·have he : takeK [6] (t :: r) = .error (30, t.at_) := by simp only [takeK, if_neg hk]
    rw [he] at h
    cases h
end Go.Proofs.YthaibekbefndlaaGreatDoor.C

namespace Go.Proofs.YthaibekbefndlaaGreatDoor.C

theorem as_class : ∀ s r, (if (tW wClass).t = wClass then classL s r else if (tW wClass).t = wUpper then upperL s r else if (tW wClass).t = wLower then lowerL s r else if (tW wClass).t = wElem then elementL s r else if (tW wClass).t = wOrder then orderL s r else .error (30, (tW wClass).at_)) = classL s r := fun _ _ => rfl
theorem as_upper : ∀ s r, (if (tW wUpper).t = wClass then classL s r else if (tW wUpper).t = wUpper then upperL s r else if (tW wUpper).t = wLower then lowerL s r else if (tW wUpper).t = wElem then elementL s r else if (tW wUpper).t = wOrder then orderL s r else .error (30, (tW wUpper).at_)) = upperL s r := fun _ _ => rfl
theorem as_lower : ∀ s r, (if (tW wLower).t = wClass then classL s r else if (tW wLower).t = wUpper then upperL s r else if (tW wLower).t = wLower then lowerL s r else if (tW wLower).t = wElem then elementL s r else if (tW wLower).t = wOrder then orderL s r else .error (30, (tW wLower).at_)) = lowerL s r := fun _ _ => rfl
theorem as_elem : ∀ s r, (if (tW wElem).t = wClass then classL s r else if (tW wElem).t = wUpper then upperL s r else if (tW wElem).t = wLower then lowerL s r else if (tW wElem).t = wElem then elementL s r else if (tW wElem).t = wOrder then orderL s r else .error (30, (tW wElem).at_)) = elementL s r := fun _ _ => rfl
theorem as_order : ∀ s r, (if (tW wOrder).t = wClass then classL s r else if (tW wOrder).t = wUpper then upperL s r else if (tW wOrder).t = wLower then lowerL s r else if (tW wOrder).t = wElem then elementL s r else if (tW wOrder).t = wOrder then orderL s r else .error (30, (tW wOrder).at_)) = orderL s r := fun _ _ => rfl

theorem cls_inv {s s' : Sta} {m n : Nat} {c : Cls} {rest r' : List Tok} (hI : Inv s m n) (h1 : wordlyB c.name = true) (hl : c.name.length ≤ 16) (h2 : c.rs ≠ []) (h3 : c.rs.all rangeB = true) (h4 : (clsT c).length + 1 ≤ 12) (h : lineL s (clsT c ++ eT :: rest) = .ok (s', r')) : r' = rest ∧ Inv s' (m + 12) n := by
 by_cases hin : c.name ∈ s.l.cls.map Cls.name
 ·obtain ⟨t, ht, _⟩ := lineL_as as_class (show lineL s (tW wClass :: (tW c.name :: (sepT rangeT c.rs ++ eT :: rest))) = _ from h)
  unfold classL at ht
  rw [takeK_hit (by simp [tW])] at ht
  dsimp only at ht
  rw [if_pos (show (tW c.name).t ∈ _ from hin)] at ht
  cases ht
 ·have hc := cls_line s c hin h2 h3 rest
  rw [h] at hc
  obtain ⟨rfl, rfl⟩ := ok_inj hc
  obtain ⟨p1, p2, p3, p4⟩ := right_parts hI.right
  refine ⟨rfl, right_of (clsB_snoc p1 h1 hin h2 h3) p2 p3 p4, fun x hx => ?_, hI.d, hI.el, ?_, hI.len⟩
  ·rcases List.mem_append.1 hx with hx | hx
   ·exact hI.nm x hx
   ·rw [List.mem_singleton] at hx
    subst hx
    exact hl
  ·have := hI.m
   unfold mT at this ⊢
   simp only [List.map_append, List.map_cons, List.map_nil, List.sum_append, List.sum_cons, List.sum_nil]
   omega
theorem pairs_inv : ∀ (ps : List (Int × Int)), ps ≠ [] → (∀ p ∈ ps, scalB p.1 = true ∧ scalB p.2 = true) → ∀ (f : Nat) (l x : List (Int × Int)) (r r' : List Tok), pairsB l = true → isSign sSemi r = false → itemsL pairL f l (sepT pairT ps ++ r) = .ok (x, r') → x = l ++ ps ∧ r' = r ∧ pairsB x = true
 | [], h, _, _, _, _, _, _, _, _, _ => absurd rfl h
 | [p], _, hs, f, l, x, r, r', hl, hr, h => by
  cases f with
  | zero => cases h
  | succ f =>
   have hp := hs p (by simp)
   by_cases hin : p.1 ∈ l.map Prod.fst
   ·exfalso
    have he : ∃ e, pairL l (pairT p ++ r) = .error e := by
     unfold pairL pairT
     simp only [List.cons_append, List.nil_append]
     rw [takeT_sign]
     dsimp only
     rw [takeK_hit (by simp [tC])]
     dsimp only
     rw [if_pos (by rw [show (((tC p.1).n : Nat) : Int) = p.1 from scalB_nat hp.1]; exact hin)]
     exact ⟨_, rfl⟩
    obtain ⟨e, he⟩ := he
    unfold itemsL at h
    rw [show sepT pairT [p] = pairT p from rfl, he] at h
    cases h
   ·unfold itemsL at h
    rw [show sepT pairT [p] = pairT p from rfl, pairL_one l p hp.1 hp.2 hin r] at h
    dsimp only at h
    rw [hr] at h
    obtain ⟨rfl, rfl⟩ := ok_inj h
    exact ⟨rfl, rfl, pairsB_snoc hl hp.1 hp.2 hin⟩
 | p :: q :: ps, _, hs, f, l, x, r, r', hl, hr, h => by
  cases f with
  | zero => cases h
  | succ f =>
   have hp := hs p (by simp)
   have e : sepT pairT (p :: q :: ps) ++ r = pairT p ++ (tS sSemi :: (sepT pairT (q :: ps) ++ r)) := by
    rw [show sepT pairT (p :: q :: ps) = pairT p ++ tS sSemi :: sepT pairT (q :: ps) from rfl]
    simp
   rw [e] at h
   by_cases hin : p.1 ∈ l.map Prod.fst
   ·exfalso
    have he : ∃ e, pairL l (pairT p ++ (tS sSemi :: (sepT pairT (q :: ps) ++ r))) = .error e := by
     unfold pairL pairT
     simp only [List.cons_append, List.nil_append]
     rw [takeT_sign]
     dsimp only
     rw [takeK_hit (by simp [tC])]
     dsimp only
     rw [if_pos (by rw [show (((tC p.1).n : Nat) : Int) = p.1 from scalB_nat hp.1]; exact hin)]
     exact ⟨_, rfl⟩
    obtain ⟨e, he⟩ := he
    unfold itemsL at h
    rw [he] at h
    cases h
   ·unfold itemsL at h
    rw [pairL_one l p hp.1 hp.2 hin _] at h
    dsimp only at h
    rw [isSign_semi, if_pos rfl] at h
    obtain ⟨h1, h2, h3⟩ := pairs_inv (q :: ps) (by simp) (fun z hz => hs z (by simp [List.mem_cons.1 hz])) f (l ++ [p]) x r r' (pairsB_snoc hl hp.1 hp.2 hin) hr h
    exact ⟨by rw [h1]; simp, h2, h3⟩
theorem semi_end (r : List Tok) : isSign sSemi (eT :: r) = false := isSign_end _ _
theorem end_of {t : Tok} {r r' : List Tok} (h : t :: r' = eT :: r) : r' = r := by injection h
theorem up_inv {s s' : Sta} {m n : Nat} {ps : List (Int × Int)} {rest r' : List Tok} (hI : Inv s m n) (h0 : ps ≠ []) (h1 : ∀ p ∈ ps, scalB p.1 = true ∧ scalB p.2 = true) (h4 : 6 * ps.length ≤ 12) (h : lineL s (tW wUpper :: (sepT pairT ps ++ eT :: rest)) = .ok (s', r')) : r' = rest ∧ Inv s' (m + 12) n := by
 obtain ⟨t, ht, _⟩ := lineL_as as_upper h
 unfold upperL at ht
 cases hq : itemsL pairL ((sepT pairT ps ++ eT :: rest).length + 1) s.l.up (sepT pairT ps ++ eT :: rest) with
 | error e => rw [hq] at ht; cases ht
 | ok p =>
  obtain ⟨x, r⟩ := p
  rw [hq] at ht
  obtain ⟨p1, p2, p3, p4⟩ := right_parts hI.right
  obtain ⟨rfl, rfl, hx⟩ := pairs_inv ps h0 h1 _ _ _ _ _ p2 (semi_end rest) hq
  obtain ⟨rfl, hr⟩ := ok_inj ht
  refine ⟨end_of hr.symm, right_of p1 hx p3 p4, hI.nm, hI.d, hI.el, ?_, hI.len⟩
  have := hI.m
  unfold mT at this ⊢
  simp only [List.length_append]
  omega
theorem lo_inv {s s' : Sta} {m n : Nat} {ps : List (Int × Int)} {rest r' : List Tok} (hI : Inv s m n) (h0 : ps ≠ []) (h1 : ∀ p ∈ ps, scalB p.1 = true ∧ scalB p.2 = true) (h4 : 6 * ps.length ≤ 12) (h : lineL s (tW wLower :: (sepT pairT ps ++ eT :: rest)) = .ok (s', r')) : r' = rest ∧ Inv s' (m + 12) n := by
 obtain ⟨t, ht, _⟩ := lineL_as as_lower h
 unfold lowerL at ht
 cases hq : itemsL pairL ((sepT pairT ps ++ eT :: rest).length + 1) s.l.lo (sepT pairT ps ++ eT :: rest) with
 | error e => rw [hq] at ht; cases ht
 | ok p =>
  obtain ⟨x, r⟩ := p
  rw [hq] at ht
  obtain ⟨p1, p2, p3, p4⟩ := right_parts hI.right
  obtain ⟨rfl, rfl, hx⟩ := pairs_inv ps h0 h1 _ _ _ _ _ p3 (semi_end rest) hq
  obtain ⟨rfl, hr⟩ := ok_inj ht
  refine ⟨end_of hr.symm, right_of p1 p2 hx p4, hI.nm, hI.d, hI.el, ?_, hI.len⟩
  have := hI.m
  unfold mT at this ⊢
  simp only [List.length_append]
  omega
theorem lookD_inv {s : Sta} {m n : Nat} (hI : Inv s m n) {t : List UInt8} {c : List Int} (h : lookD s.d t = some c) : t = nCh ∧ c = [99, 104] := by
 unfold lookD at h
 cases hq : s.d.find? (fun x => decide (x.1 = t)) with
 | none => rw [hq] at h; cases h
 | some x =>
  rw [hq] at h
  have h1 := List.find?_some hq
  have h2 := hI.d x (List.mem_of_find?_eq_some hq)
  simp at h h1
  subst h1 h
  rw [h2]
  exact ⟨rfl, rfl⟩
theorem ord_more {s : Sta} {m n : Nat} (hI : Inv s m n) {e : Elm} (h500 : s.l.ord.length < 500) (hc : (e.name = [] ∧ ∃ c, e.cells = [c] ∧ scalB c = true) ∨ (e.name = nCh ∧ e.cells = [99, 104])) (h2 : ∀ x ∈ s.l.ord, x.cells ≠ e.cells) (h3 : e.same = s.l.ord.length ∨ ∃ (j : Nat) (x : Elm), s.l.ord[j]? = some x ∧ e.same = x.same) : Inv { s with l := { s.l with ord := s.l.ord ++ [e] } } (m + ((if e.same = (s.l.ord.length : Nat) then 3 else 5) + (if e.name = [] then 0 else 5))) (n + 1) := by
 obtain ⟨p1, p2, p3, p4⟩ := right_parts hI.right
 have hel : elemB e = true := by
  rcases hc with ⟨h0, c, h1, h4⟩ | ⟨h0, h1⟩
  ·unfold elemB
   rw [h1, h0]
   simp [h4]
  ·obtain ⟨nm, cs, sm⟩ := e
   simp only at h0 h1
   subst h0 h1
   show (quotB [99, 104] && wordlyB nCh && (numL nCh).isNone) = true
   decide +kernel
 have hsm : e.same = s.l.ord.length ∨ ∃ (j : Nat) (x : Elm), s.l.ord[j]? = some x ∧ e.same = x.same ∧ sameAt s.l.ord j x = true := by
  rcases h3 with h3 | ⟨j, x, hx, he⟩
  ·exact .inl h3
  ·refine .inr ⟨j, x, hx, he, ?_⟩
   unfold ordB at p4
   rw [Bool.and_eq_true] at p4
   have h5 := all_range p4.2 (List.getElem?_eq_some_iff.1 hx).1
   unfold elemAt at h5
   rw [hx] at h5
   simp only [Bool.and_eq_true] at h5
   exact h5.1.2
 have hnm : e.name ≠ [] → ∀ x ∈ s.l.ord, x.name ≠ e.name := by
  intro h0 x hx hn
  rcases hc with ⟨h1, _⟩ | ⟨h1, h4⟩
  ·exact h0 h1
  ·rcases hI.el x hx with h5 | ⟨_, h5⟩
   ·exact h0 (hn ▸ h5)
   ·exact h2 x hx (h5.trans h4.symm)
 refine ⟨right_of p1 p2 p3 (ordB_snoc p4 h500 hel h2 hsm hnm), hI.nm, hI.d, fun x hx => ?_, ?_, ?_⟩
 ·rcases List.mem_append.1 hx with hx | hx
  ·exact hI.el x hx
  ·rw [List.mem_singleton] at hx
   subst hx
   rcases hc with ⟨h0, _⟩ | h0
   ·exact .inl h0
   ·exact .inr h0
 ·have := hI.m
  have hs := mO_snoc s.l.ord 0 e
  unfold mT at this ⊢
  simp only [hs, Nat.zero_add]
  omega
 ·have := hI.len
  simp only [List.length_append, List.length_singleton]
  omega
theorem ord_inv {s s' : Sta} {m n : Nat} {a : Tok} {ts r' : List Tok} (hI : Inv s m n) (h500 : s.l.ord.length < 500) (ha : (a.k = 3 ∧ a.t = [] ∧ rightN a.n = true) ∨ a.k = 5) (hq : (decide (a.k = 3) && isSign sThru ts) = false) (h : orderL s (a :: ts) = .ok (s', r')) : Inv s' (m + 12) (n + 1) ∧ ((isSign sSemi ts = false ∧ r' = ts) ∨ (isSign sSemi ts = true ∧ ∃ b r, ts.drop 1 = b :: r' ∧ r = r')) := by
 unfold orderL at h
 rw [takeK_hit (by rcases ha with ⟨h1, _⟩ | h1 <;> simp [h1])] at h
 dsimp only at h
 have hq' : ¬ (a.k = 3 ∧ isSign sThru ts = true) := by
  rintro ⟨h1, h2⟩
  rw [h1, h2] at hq
  simp at hq
 rw [if_neg hq'] at h
 cases hi : itemL s.d a with
 | error e => rw [hi] at h; cases h
 | ok c =>
  rw [hi] at h
  dsimp only at h
  have hc : (a.t = [] ∧ ∃ z, c = [z] ∧ scalB z = true) ∨ (a.t = nCh ∧ c = [99, 104]) := by
   unfold itemL at hi
   by_cases h3 : a.k = 3
   ·rw [if_pos h3] at hi
    injection hi with hi
    rcases ha with ⟨_, h4, h5⟩ | h4
    ·refine .inl ⟨h4, a.n, hi.symm, ?_⟩
     unfold rightN at h5
     unfold scalB rightB
     simp at h5 ⊢
     omega
    ·omega
   ·rw [if_neg h3] at hi
    cases hl : lookD s.d a.t with
    | none => rw [hl] at hi; cases hi
    | some z =>
     rw [hl] at hi
     injection hi with hi
     subst hi
     exact .inr (lookD_inv hI hl)
  cases hp : placeL s.l.ord c with
  | some j => rw [hp] at h; simp at h
  | none =>
   rw [hp] at h
   simp only [Option.isSome_none, Bool.false_eq_true, if_false] at h
   rw [if_neg (by omega)] at h
   cases hs : isSign sSemi ts with
   | false =>
    rw [hs] at h
    simp only [Bool.false_eq_true, if_false] at h
    obtain ⟨rfl, rfl⟩ := ok_inj h
    exact ⟨(ord_more hI h500 hc (placeL_out hp) (.inl rfl)).weak (by split <;> split <;> omega) (Nat.le_refl _), .inl ⟨rfl, rfl⟩⟩
   | true =>
    rw [hs] at h
    simp only [if_true] at h
    cases hd : ts.drop 1 with
    | nil => rw [hd] at h; simp [takeK] at h
    | cons b r =>
     rw [hd] at h
     by_cases hb : b.k ∈ [3, 5]
     ·rw [takeK_hit hb] at h
      dsimp only at h
      cases hib : itemL s.d b with
      | error e => rw [hib] at h; cases h
      | ok c' =>
       rw [hib] at h
       dsimp only at h
       cases hpb : placeL s.l.ord c' with
       | none => rw [hpb] at h; cases h
       | some j =>
        rw [hpb] at h
        dsimp only at h
        obtain ⟨rfl, rfl⟩ := ok_inj h
        have hj : j < s.l.ord.length := by
         unfold placeL at hpb
         rw [List.findIdx?_eq_some_iff_getElem] at hpb
         exact hpb.1
        refine ⟨(ord_more hI h500 hc (placeL_out hp) (.inr ⟨j, s.l.ord[j], List.getElem?_eq_getElem hj, ?_⟩)).weak (by split <;> split <;> omega) (Nat.le_refl _), .inr ⟨rfl, b, r, rfl, rfl⟩⟩
        simp [List.getElem?_eq_getElem hj]
     ·have he : takeK [3, 5] (b :: r) = .error (30, b.at_) := by simp only [takeK, if_neg hb]
      rw [he] at h
      cases h
end Go.Proofs.YthaibekbefndlaaGreatDoor.C

namespace Go.Proofs.YthaibekbefndlaaGreatDoor.C
open Go.RowKit

def pieces : List (List UInt8) := [[99, 108, 97, 115, 115, 32, 120, 32, 60, 85, 48, 48, 52, 49, 62, 46, 46, 46, 60, 85, 48, 48, 52, 51, 62, 59, 60, 85, 48, 48, 54, 49, 62, 10], [99, 108, 97, 115, 115, 32, 97, 108, 112, 104, 97, 32, 60, 85, 48, 48, 54, 49, 62, 10], [116, 111, 117, 112, 112, 101, 114, 32, 40, 60, 85, 48, 48, 54, 49, 62, 44, 60, 85, 48, 48, 52, 49, 62, 41, 59, 40, 60, 85, 48, 48, 54, 50, 62, 44, 60, 85, 48, 48, 52, 50, 62, 41, 10], [116, 111, 108, 111, 119, 101, 114, 32, 40, 60, 85, 48, 48, 52, 49, 62, 44, 60, 85, 48, 48, 54, 49, 62, 41, 10], [99, 111, 108, 108, 97, 116, 105, 110, 103, 45, 101, 108, 101, 109, 101, 110, 116, 32, 60, 99, 104, 62, 32, 102, 114, 111, 109, 32, 34, 99, 104, 34, 10], [111, 114, 100, 101, 114, 32, 60, 85, 48, 48, 54, 49, 62, 46, 46, 46, 60, 85, 48, 48, 54, 52, 62, 10], [111, 114, 100, 101, 114, 32, 60, 99, 104, 62, 10], [111, 114, 100, 101, 114, 32, 60, 85, 48, 48, 54, 53, 62, 59, 60, 85, 48, 48, 54, 49, 62, 10], [111, 114, 100, 101, 114, 32, 60, 85, 48, 48, 54, 54, 62, 59, 60, 99, 104, 62, 10], [111, 114, 100, 101, 114, 32, 60, 85, 48, 48, 55, 65, 62, 10], [99, 108, 97, 115, 115, 32, 120, 32, 60, 85, 48, 48, 52, 50, 62, 10], [111, 114, 100, 101, 114, 32, 60, 85, 48, 48, 54, 50, 62, 10], [111, 114, 100, 101, 114, 32, 60, 85, 48, 48, 55, 48, 62, 46, 46, 46, 60, 85, 48, 48, 54, 49, 62, 10], [99, 111, 108, 108, 97, 116, 105, 110, 103, 45, 101, 108, 101, 109, 101, 110, 116, 32, 60, 120, 62, 32, 102, 114, 111, 109, 32, 34, 97, 98, 99, 100, 101, 34, 10], [116, 111, 117, 112, 112, 101, 114, 32, 40, 60, 85, 48, 48, 54, 51, 62, 44, 60, 85, 48, 48, 54, 49, 62, 59, 10], [119, 111, 114, 100, 10], [111, 114, 100, 101, 114, 32, 60, 85, 48, 48, 54, 55, 62, 59, 60, 85, 48, 48, 54, 56, 62, 10], [99, 108, 97, 115, 115, 10], [111, 114, 100, 101, 114, 32, 60, 110, 111, 62, 10], [111, 114, 100, 101, 114, 32, 60, 85, 48, 48, 48, 48, 62, 46, 46, 46, 60, 85, 49, 48, 70, 70, 70, 70, 62, 10]]
def piece (k : Nat) : List UInt8 := pieces.getD k []
def pickK (z : Int) : Nat := if 220 < z then (10 + z % 10).toNat else (z % 10).toNat
def txt0 (zs : List Int) : List UInt8 := zs.flatMap fun z => piece (pickK z)
def txtL (zs : List Int) : List UInt8 := txt0 (zs.take 12)
theorem pickK_lt (z : Int) : pickK z < 20 := by unfold pickK; split <;> omega
theorem piece_len : ∀ k, k < 20 → (piece k).length ≤ 45 := by decide +kernel
theorem txt0_snoc {zs : List Int} {k : Nat} {z : Int} (h : zs[k]? = some z) : txt0 (zs.take (k + 1)) = txt0 (zs.take k) ++ piece (pickK z) := by
 rw [take_snoc h]
 simp [txt0]
def pieceArr : Array Value := #[.string ⟨#[99, 108, 97, 115, 115, 32, 120, 32, 60, 85, 48, 48, 52, 49, 62, 46, 46, 46, 60, 85, 48, 48, 52, 51, 62, 59, 60, 85, 48, 48, 54, 49, 62, 10]⟩, .string ⟨#[99, 108, 97, 115, 115, 32, 97, 108, 112, 104, 97, 32, 60, 85, 48, 48, 54, 49, 62, 10]⟩, .string ⟨#[116, 111, 117, 112, 112, 101, 114, 32, 40, 60, 85, 48, 48, 54, 49, 62, 44, 60, 85, 48, 48, 52, 49, 62, 41, 59, 40, 60, 85, 48, 48, 54, 50, 62, 44, 60, 85, 48, 48, 52, 50, 62, 41, 10]⟩, .string ⟨#[116, 111, 108, 111, 119, 101, 114, 32, 40, 60, 85, 48, 48, 52, 49, 62, 44, 60, 85, 48, 48, 54, 49, 62, 41, 10]⟩, .string ⟨#[99, 111, 108, 108, 97, 116, 105, 110, 103, 45, 101, 108, 101, 109, 101, 110, 116, 32, 60, 99, 104, 62, 32, 102, 114, 111, 109, 32, 34, 99, 104, 34, 10]⟩, .string ⟨#[111, 114, 100, 101, 114, 32, 60, 85, 48, 48, 54, 49, 62, 46, 46, 46, 60, 85, 48, 48, 54, 52, 62, 10]⟩, .string ⟨#[111, 114, 100, 101, 114, 32, 60, 99, 104, 62, 10]⟩, .string ⟨#[111, 114, 100, 101, 114, 32, 60, 85, 48, 48, 54, 53, 62, 59, 60, 85, 48, 48, 54, 49, 62, 10]⟩, .string ⟨#[111, 114, 100, 101, 114, 32, 60, 85, 48, 48, 54, 54, 62, 59, 60, 99, 104, 62, 10]⟩, .string ⟨#[111, 114, 100, 101, 114, 32, 60, 85, 48, 48, 55, 65, 62, 10]⟩, .string ⟨#[99, 108, 97, 115, 115, 32, 120, 32, 60, 85, 48, 48, 52, 50, 62, 10]⟩, .string ⟨#[111, 114, 100, 101, 114, 32, 60, 85, 48, 48, 54, 50, 62, 10]⟩, .string ⟨#[111, 114, 100, 101, 114, 32, 60, 85, 48, 48, 55, 48, 62, 46, 46, 46, 60, 85, 48, 48, 54, 49, 62, 10]⟩, .string ⟨#[99, 111, 108, 108, 97, 116, 105, 110, 103, 45, 101, 108, 101, 109, 101, 110, 116, 32, 60, 120, 62, 32, 102, 114, 111, 109, 32, 34, 97, 98, 99, 100, 101, 34, 10]⟩, .string ⟨#[116, 111, 117, 112, 112, 101, 114, 32, 40, 60, 85, 48, 48, 54, 51, 62, 44, 60, 85, 48, 48, 54, 49, 62, 59, 10]⟩, .string ⟨#[119, 111, 114, 100, 10]⟩, .string ⟨#[111, 114, 100, 101, 114, 32, 60, 85, 48, 48, 54, 55, 62, 59, 60, 85, 48, 48, 54, 56, 62, 10]⟩, .string ⟨#[99, 108, 97, 115, 115, 10]⟩, .string ⟨#[111, 114, 100, 101, 114, 32, 60, 110, 111, 62, 10]⟩, .string ⟨#[111, 114, 100, 101, 114, 32, 60, 85, 48, 48, 48, 48, 62, 46, 46, 46, 60, 85, 49, 48, 70, 70, 70, 70, 62, 10]⟩]
theorem pieceArr_at : ∀ p, p < 20 → pieceArr[p]? = some (.string (str (piece p))) := by
 intro p hp
 rcases (by omega : p = 0 ∨ p = 1 ∨ p = 2 ∨ p = 3 ∨ p = 4 ∨ p = 5 ∨ p = 6 ∨ p = 7 ∨ p = 8 ∨ p = 9 ∨ p = 10 ∨ p = 11 ∨ p = 12 ∨ p = 13 ∨ p = 14 ∨ p = 15 ∨ p = 16 ∨ p = 17 ∨ p = 18 ∨ p = 19) with rfl | rfl | rfl | rfl | rfl | rfl | rfl | rfl | rfl | rfl | rfl | rfl | rfl | rfl | rfl | rfl | rfl | rfl | rfl | rfl <;> rfl
theorem piece_cell (w : World) (t : TypeId) (p : Nat) (hp : p < 20) : (w.alloc (.cells pieceArr t)).cell? ⟨w.heap.size, p, none⟩ = some (.string (str (piece p))) := by
 rw [World.cell?_alloc_new]
 exact pieceArr_at p hp

set_option maxRecDepth 100000 in
set_option maxHeartbeats 4000000 in
theorem text07_any (w : World) (Bx : Nat) (Ax : Option Addr) (n cx : Nat) (zs : List Int) (hx : RI .u8 w Bx Ax n zs) (hBx : Bx ≤ w.heap.size) (hz : ∀ z ∈ zs, 0 ≤ z ∧ z ≤ 255) :
  Calls Tryz.prog 17 #[.slice Ax n cx] w fun e w' => e = .returned (.string (str (txtL zs))) ∧ Below w.heap.size w w' := by
 have hb0 : Below w.heap.size w (w.alloc (.cells pieceArr 9)) := (Below.refl _ _).alloc (Nat.le_refl _) _
 have HX := Lib.hid ((hx.more hBx).below hb0)
 have HB0 := Lib.hid hb0
 have HL := Lib.hid hx.len
 have HZ := Lib.hid hz
 have HC := Lib.hid (piece_cell w 9)
 clear hx hz hb0
 unfold pieceArr at HX HB0 HC
 go_enter Tryz.func17, Tryz.ntmps17
 go_wp2
 generalize w.alloc (.cells #[.string ⟨#[99, 108, 97, 115, 115, 32, 120, 32, 60, 85, 48, 48, 52, 49, 62, 46, 46, 46, 60, 85, 48, 48, 52, 51, 62, 59, 60, 85, 48, 48, 54, 49, 62, 10]⟩, .string ⟨#[99, 108, 97, 115, 115, 32, 97, 108, 112, 104, 97, 32, 60, 85, 48, 48, 54, 49, 62, 10]⟩, .string ⟨#[116, 111, 117, 112, 112, 101, 114, 32, 40, 60, 85, 48, 48, 54, 49, 62, 44, 60, 85, 48, 48, 52, 49, 62, 41, 59, 40, 60, 85, 48, 48, 54, 50, 62, 44, 60, 85, 48, 48, 52, 50, 62, 41, 10]⟩, .string ⟨#[116, 111, 108, 111, 119, 101, 114, 32, 40, 60, 85, 48, 48, 52, 49, 62, 44, 60, 85, 48, 48, 54, 49, 62, 41, 10]⟩, .string ⟨#[99, 111, 108, 108, 97, 116, 105, 110, 103, 45, 101, 108, 101, 109, 101, 110, 116, 32, 60, 99, 104, 62, 32, 102, 114, 111, 109, 32, 34, 99, 104, 34, 10]⟩, .string ⟨#[111, 114, 100, 101, 114, 32, 60, 85, 48, 48, 54, 49, 62, 46, 46, 46, 60, 85, 48, 48, 54, 52, 62, 10]⟩, .string ⟨#[111, 114, 100, 101, 114, 32, 60, 99, 104, 62, 10]⟩, .string ⟨#[111, 114, 100, 101, 114, 32, 60, 85, 48, 48, 54, 53, 62, 59, 60, 85, 48, 48, 54, 49, 62, 10]⟩, .string ⟨#[111, 114, 100, 101, 114, 32, 60, 85, 48, 48, 54, 54, 62, 59, 60, 99, 104, 62, 10]⟩, .string ⟨#[111, 114, 100, 101, 114, 32, 60, 85, 48, 48, 55, 65, 62, 10]⟩, .string ⟨#[99, 108, 97, 115, 115, 32, 120, 32, 60, 85, 48, 48, 52, 50, 62, 10]⟩, .string ⟨#[111, 114, 100, 101, 114, 32, 60, 85, 48, 48, 54, 50, 62, 10]⟩, .string ⟨#[111, 114, 100, 101, 114, 32, 60, 85, 48, 48, 55, 48, 62, 46, 46, 46, 60, 85, 48, 48, 54, 49, 62, 10]⟩, .string ⟨#[99, 111, 108, 108, 97, 116, 105, 110, 103, 45, 101, 108, 101, 109, 101, 110, 116, 32, 60, 120, 62, 32, 102, 114, 111, 109, 32, 34, 97, 98, 99, 100, 101, 34, 10]⟩, .string ⟨#[116, 111, 117, 112, 112, 101, 114, 32, 40, 60, 85, 48, 48, 54, 51, 62, 44, 60, 85, 48, 48, 54, 49, 62, 59, 10]⟩, .string ⟨#[119, 111, 114, 100, 10]⟩, .string ⟨#[111, 114, 100, 101, 114, 32, 60, 85, 48, 48, 54, 55, 62, 59, 60, 85, 48, 48, 54, 56, 62, 10]⟩, .string ⟨#[99, 108, 97, 115, 115, 10]⟩, .string ⟨#[111, 114, 100, 101, 114, 32, 60, 110, 111, 62, 10]⟩, .string ⟨#[111, 114, 100, 101, 114, 32, 60, 85, 48, 48, 48, 48, 62, 46, 46, 46, 60, 85, 49, 48, 70, 70, 70, 70, 62, 10]⟩] 9) = W0 at *
 obtain ⟨b, hbq⟩ : ∃ b, w.heap.size = b := ⟨_, rfl⟩
 rw [hbq] at HB0 HC ⊢
 have HBQ := Lib.hid hbq
 clear hbq
 go_loop [4, 5] (fun sv iv => ∃ (i : Nat) (S : ByteArray), i ≤ n ∧ i ≤ 12 ∧ iv = .int .i64 i ∧ sv = .string S ∧ Hid (S = str (txt0 (zs.take i))) ∧ S.size ≤ 45 * i) (fun _ iv => 12 - (intOf iv).toNat)
 case atStart => exact ⟨0, _, Nat.zero_le _, Nat.zero_le _, rfl, rfl, Lib.hid rfl, by show 0 ≤ _; omega⟩
 case round =>
  obtain ⟨i, S, hin, hi12, rfl, rfl, HS, hsz⟩ := hrel
  by_cases hlt : i < n ∧ i < 12
  ·obtain ⟨h1, h2⟩ := hlt
   obtain ⟨ad, z, rfl, hbl, hk, hcell⟩ := HX.out.at_ h1
   obtain ⟨z0, z1⟩ := HZ.out z (List.mem_of_getElem? hk)
   have e2 : S ++ str (piece (pickK z)) = str (txt0 (zs.take (i + 1))) := by
    rw [txt0_snoc hk, HS.out]
    exact str_append _ _
   have hpl := piece_len _ (pickK_lt z)
   have hps := str_size (piece (pickK z))
   have hp25 := pickK_lt z
   have hpc := HC.out _ hp25
   obtain ⟨p, hp⟩ : ∃ p, pickK z = p := ⟨_, rfl⟩
   rw [hp] at e2 hpl hps hp25 hpc
   have hpc' : W0.cell? ((⟨b, 0, none⟩ : Addr).add p) = some (.string (str (piece p))) := by rw [add_off0]; exact hpc
   obtain ⟨C, hC⟩ : ∃ C, str (piece p) = C := ⟨_, rfl⟩
   rw [hC] at e2 hps hpc hpc'
   have HE2 := Lib.hid e2
   have hcs : C.size ≤ 45 := by omega
   have p0 : (0 : Int) ≤ (p : Int) := by omega
   have p1 : (p : Int) < 20 := by omega
   have i0 : (0 : Int) ≤ (i : Int) := by omega
   have i1 : (i : Int) < (n : Int) := by omega
   have i2 : (i : Int) < 12 := by omega
   have hsz2 : (S ++ C).size ≤ 45 * (i + 1) := by
    rw [ByteArray.size_append]
    omega
   by_cases h230 : 220 < z
   ·have hpz : 10 + z % 10 = (p : Int) := by
     unfold pickK at hp
     rw [if_pos h230] at hp
     omega
    clear hk hp hC e2 hps hpl
    go_wp2
    go_round
    case rel => exact ⟨i + 1, _, by omega, by omega, by go_num, rfl, HE2, hsz2⟩
    case measure => simp [intOf]; omega
   ·have hpz : z % 10 = (p : Int) := by
     unfold pickK at hp
     rw [if_neg h230] at hp
     omega
    clear hk hp hC e2 hps hpl
    go_wp2
    go_round
    case rel => exact ⟨i + 1, _, by omega, by omega, by go_num, rfl, HE2, hsz2⟩
    case measure => simp [intOf]; omega
  ·have hfin : txt0 (zs.take i) = txtL zs := by
    unfold txtL
    rcases (by omega : i = n ∨ i = 12) with h | h
    ·rw [List.take_of_length_le (by rw [HL.out]; omega), List.take_of_length_le (by rw [HL.out]; omega)]
    ·rw [h]
   have HF := Lib.hid hfin
   have hi4 : i = n ∨ (i < n ∧ i = 12) := by omega
   clear hfin hlt
   rcases hi4 with hA | ⟨hA, hB⟩
   ·have hA' : ¬ ((i : Int) < (n : Int)) := by omega
    clear hA
    go_wp2
    go_ret
    exact ⟨by rw [← HF.out, ← HS.out]; rfl, by rw [HBQ.out]; exact HB0.out⟩
   ·have hA' : ((i : Int) < (n : Int)) := by omega
    have hB' : ¬ ((i : Int) < 12) := by omega
    clear hA hB
    go_wp2
    go_ret
    exact ⟨by rw [← HF.out, ← HS.out]; rfl, by rw [HBQ.out]; exact HB0.out⟩
end Go.Proofs.YthaibekbefndlaaGreatDoor.C

namespace Go.Proofs.YthaibekbefndlaaGreatDoor.C

theorem runs_inv : ∀ (k : Nat) (a : Tok) (s : Sta) (m n c : Nat) (o' : List Elm), Inv s m n → a.t = [] → s.l.ord.length + k < 500 → (∀ i, i < k → ∀ x ∈ s.l.ord, x.cells ≠ [((c + i : Nat) : Int)]) → runAll a s.l.ord c k = .ok o' → Inv { s with l := { s.l with ord := o' } } (m + 3 * k) (n + k)
 | 0, a, s, m, n, c, o', hI, _, _, _, h => by
  unfold runAll at h
  injection h with h
  subst h
  exact hI
 | k + 1, a, s, m, n, c, o', hI, ha, hl, hf, h => by
  unfold runAll at h
  split at h
  ·rename_i hr
   rw [if_neg (by omega)] at h
   have hc : scalB (c : Int) = true := by
    unfold rightN at hr
    unfold scalB rightB
    simp at hr ⊢
    omega
   have h1 := ord_more hI (e := ⟨a.t, [(c : Int)], s.l.ord.length⟩) (by omega) (.inl ⟨ha, c, rfl, hc⟩) (fun x hx => by have := hf 0 (by omega) x hx; simpa using this) (.inl rfl)
   have h2 := runs_inv k a _ _ _ (c + 1) o' h1 ha (by simp only [List.length_append, List.length_singleton]; omega) (fun i hi x hx => by
    rcases List.mem_append.1 hx with hx | hx
    ·have := hf (i + 1) (by omega) x hx
     rwa [show c + (i + 1) = c + 1 + i by omega] at this
    ·rw [List.mem_singleton] at hx
     subst hx
     simp
     omega) h
   exact h2.weak (by simp only [ha, if_true]; omega) (by omega)
  ·have h2 := runs_inv k a s m n (c + 1) o' hI ha (by omega) (fun i hi x hx => by
    have := hf (i + 1) (by omega) x hx
    rwa [show c + (i + 1) = c + 1 + i by omega] at this) h
   exact h2.weak (by omega) (by omega)
theorem among_free {o : List Elm} {lo hi : Int} (h : amongB o lo hi = false) {x : Elm} (hx : x ∈ o) {c : Int} (h1 : lo ≤ c) (h2 : c ≤ hi) : x.cells ≠ [c] := by
 intro he
 unfold amongB at h
 rw [List.any_eq_false] at h
 have := h x hx
 rw [he] at this
 simp at this
 omega
theorem runAll_front (a : Tok) : ∀ (m1 m2 : Nat) (o : List Elm) (c : Nat) (o' : List Elm), runAll a o c (m1 + m2) = .ok o' → ∃ o1, runAll a o c m1 = .ok o1
 | 0, m2, o, c, o', h => ⟨o, rfl⟩
 | m1 + 1, m2, o, c, o', h => by
  rw [show m1 + 1 + m2 = (m1 + m2) + 1 by omega] at h
  unfold runAll at h ⊢
  split at h
  ·rename_i hr
   rw [if_pos hr]
   split at h
   ·cases h
   ·rename_i h5
    rw [if_neg h5]
    exact runAll_front a m1 m2 _ _ _ h
  ·rename_i hr
   rw [if_neg hr]
   exact runAll_front a m1 m2 _ _ _ h
theorem rng_some {s s' : Sta} {m n : Nat} {a b : Nat} {ts r' : List Tok} (hI : Inv s m n) (h500 : s.l.ord.length + 4 < 500) (h4 : b + 1 - a ≤ 4) (h : orderL s (tC a :: tS sThru :: tC b :: ts) = .ok (s', r')) : r' = ts ∧ Inv s' (m + 12) (n + 4) := by
 unfold orderL at h
 rw [takeK_hit (by simp [tC])] at h
 dsimp only at h
 rw [if_pos ⟨rfl, rfl⟩] at h
 rw [show (tS sThru :: tC b :: ts).drop 1 = tC b :: ts from rfl] at h
 unfold notBelow at h
 rw [takeK_hit (by simp [tC])] at h
 dsimp only at h
 by_cases hab : (tC (b : Int)).n < (tC (a : Int)).n
 ·rw [if_pos hab] at h; cases h
 ·rw [if_neg hab] at h
  dsimp only at h
  cases hq : amongB s.l.ord (tC (a : Int)).n (tC (b : Int)).n with
  | true => rw [hq] at h; cases h
  | false =>
   rw [hq] at h
   simp only [Bool.false_eq_true, if_false] at h
   have ea : (tC (a : Int)).n = a := by simp [tC]
   have eb : (tC (b : Int)).n = b := by simp [tC]
   cases hr : runAll (tC a) s.l.ord (tC (a : Int)).n ((tC (b : Int)).n + 1 - (tC (a : Int)).n) with
   | error e => rw [hr] at h; cases h
   | ok o =>
    rw [hr] at h
    obtain ⟨rfl, rfl⟩ := ok_inj h
    rw [ea, eb] at hr hq
    rw [ea, eb] at hab
    refine ⟨rfl, (runs_inv _ _ s m n a o hI rfl (by omega) (fun i hi x hx => among_free hq hx (by omega) (by omega)) hr).weak (by omega) (by omega)⟩
theorem rng_long {s s' : Sta} {ts r' : List Tok} (h500 : s.l.ord.length ≤ 500) (h : orderL s (tC 0 :: tS sThru :: tC 1114111 :: ts) = .ok (s', r')) : False := by
 unfold orderL at h
 rw [takeK_hit (by simp [tC])] at h
 dsimp only at h
 rw [if_pos ⟨rfl, rfl⟩] at h
 rw [show (tS sThru :: tC 1114111 :: ts).drop 1 = tC 1114111 :: ts from rfl] at h
 unfold notBelow at h
 rw [takeK_hit (by simp [tC])] at h
 dsimp only at h
 rw [if_neg (by simp [tC])] at h
 dsimp only at h
 cases hq : amongB s.l.ord (tC 0).n (tC 1114111).n with
 | true => rw [hq] at h; cases h
 | false =>
  rw [hq] at h
  simp only [Bool.false_eq_true, if_false] at h
  cases hr : runAll (tC 0) s.l.ord (tC 0).n ((tC 1114111).n + 1 - (tC 0).n) with
  | error e => rw [hr] at h; cases h
  | ok o =>
   have e : (tC 1114111).n + 1 - (tC 0).n = 501 + 1113611 := rfl
   rw [e] at hr
   obtain ⟨o1, h1⟩ := runAll_front _ _ _ _ _ _ hr
   rw [runAll_long (tC 0) 501 s.l.ord _ (fun i hi => by
    have : (tC 0).n = 0 := rfl
    rw [this]
    unfold rightN
    simp
    omega) h500 (by omega)] at h1
   cases h1
theorem elem_inv {s s' : Sta} {m n : Nat} {rest r' : List Tok} (hI : Inv s m n) (h : lineL s (tW wElem :: tN nCh :: tW wFrom :: tQ nCh :: eT :: rest) = .ok (s', r')) : r' = rest ∧ Inv s' m n := by
 obtain ⟨t, ht, _⟩ := lineL_as as_elem h
 unfold elementL at ht
 rw [takeK_hit (by simp [tN])] at ht
 dsimp only at ht
 split at ht
 ·cases ht
 ·rw [takeT_word] at ht
  dsimp only at ht
  rw [takeK_hit (by simp [tQ])] at ht
  dsimp only at ht
  have hc : cellsOf (tQ nCh).t = [99, 104] := by decide +kernel
  rw [hc] at ht
  rw [if_neg (by decide)] at ht
  obtain ⟨rfl, hr⟩ := ok_inj ht
  refine ⟨end_of hr.symm, hI.right, hI.nm, fun x hx => ?_, hI.el, hI.m, hI.len⟩
  rcases List.mem_append.1 hx with hx | hx
  ·exact hI.d x hx
  ·rw [List.mem_singleton] at hx
   exact hx
theorem elem_long {s s' : Sta} {rest r' : List Tok} (h : lineL s (tW wElem :: tN [120] :: tW wFrom :: tQ [97, 98, 99, 100, 101] :: eT :: rest) = .ok (s', r')) : False := by
 obtain ⟨t, ht, _⟩ := lineL_as as_elem h
 unfold elementL at ht
 rw [takeK_hit (by simp [tN])] at ht
 dsimp only at ht
 split at ht
 ·cases ht
 ·rw [takeT_word] at ht
  dsimp only at ht
  rw [takeK_hit (by simp [tQ])] at ht
  dsimp only at ht
  have hc : cellsOf (tQ [97, 98, 99, 100, 101]).t = [97, 98, 99, 100, 101] := by decide +kernel
  rw [hc] at ht
  rw [if_pos (by decide)] at ht
  cases ht
theorem pair_open {s s' : Sta} {rest r' : List Tok} (h : lineL s (tW wUpper :: tS sOpen :: tC 99 :: tS sComma :: tC 97 :: tS sSemi :: eT :: rest) = .ok (s', r')) : False := by
 obtain ⟨t, ht, _⟩ := lineL_as as_upper h
 unfold upperL itemsL pairL at ht
 rw [takeT_sign] at ht
 dsimp only at ht
 rw [takeK_hit (by simp [tC])] at ht
 dsimp only at ht
 by_cases hin : (((tC 99).n : Nat) : Int) ∈ s.l.up.map Prod.fst
 ·rw [if_pos hin] at ht; cases ht
 ·rw [if_neg hin, takeT_sign] at ht
  dsimp only at ht
  rw [takeK_hit (by simp [tC])] at ht
  dsimp only at ht
  have he : takeT 2 sShut (tS sSemi :: eT :: rest) = .error (30, 0) := rfl
  rw [he] at ht
  cases ht
theorem word_no {s s' : Sta} {rest r' : List Tok} (h : lineL s (tW [119, 111, 114, 100] :: eT :: rest) = .ok (s', r')) : False := by
 unfold lineL at h
 rw [takeK_hit (by simp [tW])] at h
 dsimp only at h
 have he : ∀ r, (if (tW [119, 111, 114, 100]).t = wClass then classL s r else if (tW [119, 111, 114, 100]).t = wUpper then upperL s r else if (tW [119, 111, 114, 100]).t = wLower then lowerL s r else if (tW [119, 111, 114, 100]).t = wElem then elementL s r else if (tW [119, 111, 114, 100]).t = wOrder then orderL s r else .error (30, (tW [119, 111, 114, 100]).at_)) = .error (30, 0) := fun _ => rfl
 rw [he] at h
 cases h
theorem class_no {s s' : Sta} {rest r' : List Tok} (h : lineL s (tW wClass :: eT :: rest) = .ok (s', r')) : False := by
 obtain ⟨t, ht, _⟩ := lineL_as as_class h
 unfold classL at ht
 have he : takeK [1] (eT :: rest) = .error (30, 0) := rfl
 rw [he] at ht
 cases ht
theorem ordline_one {s s' : Sta} {m n : Nat} {a : Tok} {rest r' : List Tok} (hI : Inv s m n) (h500 : s.l.ord.length < 500) (ha : (a.k = 3 ∧ a.t = [] ∧ rightN a.n = true) ∨ a.k = 5) (h : lineL s (tW wOrder :: a :: eT :: rest) = .ok (s', r')) : r' = rest ∧ Inv s' (m + 12) (n + 4) := by
 obtain ⟨t, ht, _⟩ := lineL_as as_order h
 obtain ⟨h1, h2 | h2⟩ := ord_inv hI h500 ha (by rw [isSign_end]; simp) ht
 ·exact ⟨end_of h2.2, h1.weak (Nat.le_refl _) (by omega)⟩
 ·rw [semi_end] at h2; cases h2.1
theorem ordline_two {s s' : Sta} {m n : Nat} {a b : Tok} {rest r' : List Tok} (hI : Inv s m n) (h500 : s.l.ord.length < 500) (ha : (a.k = 3 ∧ a.t = [] ∧ rightN a.n = true) ∨ a.k = 5) (h : lineL s (tW wOrder :: a :: tS sSemi :: b :: eT :: rest) = .ok (s', r')) : r' = rest ∧ Inv s' (m + 12) (n + 4) := by
 obtain ⟨t, ht, _⟩ := lineL_as as_order h
 obtain ⟨h1, h2 | h2⟩ := ord_inv hI h500 ha (by rw [show isSign sThru (tS sSemi :: b :: eT :: rest) = false from rfl]; simp) ht
 ·rw [isSign_semi] at h2; cases h2.1
 ·obtain ⟨_, b', r, h3, _⟩ := h2
  have h4 : b :: eT :: rest = b' :: t :: r' := h3
  injection h4 with _ h4
  exact ⟨end_of h4.symm, h1.weak (Nat.le_refl _) (by omega)⟩
def lnP : Nat → List (Tok × Bool)
 | 0 => [(tW wClass, true), (tW [120], true), (tC 65, false), (tS sThru, false), (tC 67, false), (tS sSemi, false), (tC 97, false)]
 | 1 => [(tW wClass, true), (tW [97, 108, 112, 104, 97], true), (tC 97, false)]
 | 2 => [(tW wUpper, true), (tS sOpen, false), (tC 97, false), (tS sComma, false), (tC 65, false), (tS sShut, false), (tS sSemi, false), (tS sOpen, false), (tC 98, false), (tS sComma, false), (tC 66, false), (tS sShut, false)]
 | 3 => [(tW wLower, true), (tS sOpen, false), (tC 65, false), (tS sComma, false), (tC 97, false), (tS sShut, false)]
 | 4 => [(tW wElem, true), (tN nCh, true), (tW wFrom, true), (tQ nCh, false)]
 | 5 => [(tW wOrder, true), (tC 97, false), (tS sThru, false), (tC 100, false)]
 | 6 => [(tW wOrder, true), (tN nCh, false)]
 | 7 => [(tW wOrder, true), (tC 101, false), (tS sSemi, false), (tC 97, false)]
 | 8 => [(tW wOrder, true), (tC 102, false), (tS sSemi, false), (tN nCh, false)]
 | 9 => [(tW wOrder, true), (tC 122, false)]
 | 10 => [(tW wClass, true), (tW [120], true), (tC 66, false)]
 | 11 => [(tW wOrder, true), (tC 98, false)]
 | 12 => [(tW wOrder, true), (tC 112, false), (tS sThru, false), (tC 97, false)]
 | 13 => [(tW wElem, true), (tN [120], true), (tW wFrom, true), (tQ [97, 98, 99, 100, 101], false)]
 | 14 => [(tW wUpper, true), (tS sOpen, false), (tC 99, false), (tS sComma, false), (tC 97, false), (tS sSemi, false)]
 | 15 => [(tW [119, 111, 114, 100], false)]
 | 16 => [(tW wOrder, true), (tC 103, false), (tS sSemi, false), (tC 104, false)]
 | 17 => [(tW wClass, false)]
 | 18 => [(tW wOrder, true), (tN [110, 111], false)]
 | _ => [(tW wOrder, true), (tC 0, false), (tS sThru, false), (tC 1114111, false)]
theorem lnP_ok : ∀ k, k < 20 → piece k = txtP (lnP k) ++ [10] ∧ goodP (lnP k) = true := by decide +kernel
def lnT (k : Nat) : List Tok := (lnP k).map fun p => erT p.1
theorem step_inv {s s' : Sta} {m n : Nat} {rest r' : List Tok} (hI : Inv s m n) (hn : n ≤ 100) : ∀ k, k < 20 → lineL s (lnT k ++ eT :: rest) = .ok (s', r') → r' = rest ∧ Inv s' (m + 12) (n + 4) := by
 have h500 : s.l.ord.length < 500 := by have := hI.len; omega
 have h504 : s.l.ord.length + 4 < 500 := by have := hI.len; omega
 have wk : ∀ {r' : List Tok} {s' : Sta} {m' n' : Nat}, r' = rest ∧ Inv s' m' n' → m' ≤ m + 12 → n' ≤ n + 4 → r' = rest ∧ Inv s' (m + 12) (n + 4) := fun h h1 h2 => ⟨h.1, h.2.weak h1 h2⟩
 intro k hk h
 rcases (by omega : k = 0 ∨ k = 1 ∨ k = 2 ∨ k = 3 ∨ k = 4 ∨ k = 5 ∨ k = 6 ∨ k = 7 ∨ k = 8 ∨ k = 9 ∨ k = 10 ∨ k = 11 ∨ k = 12 ∨ k = 13 ∨ k = 14 ∨ k = 15 ∨ k = 16 ∨ k = 17 ∨ k = 18 ∨ k = 19) with rfl | rfl | rfl | rfl | rfl | rfl | rfl | rfl | rfl | rfl | rfl | rfl | rfl | rfl | rfl | rfl | rfl | rfl | rfl | rfl
 ·exact wk (cls_inv hI (c := ⟨[120], [(65, 67), (97, 97)]⟩) (by decide +kernel) (by decide) (by decide) (by decide +kernel) (by decide) h) (Nat.le_refl _) (by omega)
 ·exact wk (cls_inv hI (c := ⟨[97, 108, 112, 104, 97], [(97, 97)]⟩) (by decide +kernel) (by decide) (by decide) (by decide +kernel) (by decide) h) (Nat.le_refl _) (by omega)
 ·exact wk (up_inv hI (ps := [(97, 65), (98, 66)]) (by decide) (by decide +kernel) (by decide) h) (Nat.le_refl _) (by omega)
 ·exact wk (lo_inv hI (ps := [(65, 97)]) (by decide) (by decide +kernel) (by decide) h) (Nat.le_refl _) (by omega)
 ·exact wk (elem_inv hI h) (by omega) (by omega)
 ·obtain ⟨t, ht, _⟩ := lineL_as as_order (show lineL s (tW wOrder :: tC (97 : Nat) :: tS sThru :: tC (100 : Nat) :: eT :: rest) = _ from h)
  obtain ⟨h1, h2⟩ := rng_some hI h504 (by decide) ht
  exact ⟨end_of h1, h2⟩
 ·exact ordline_one hI h500 (.inr rfl) h
 ·exact ordline_two hI h500 (.inl ⟨rfl, rfl, by decide +kernel⟩) h
 ·exact ordline_two hI h500 (.inl ⟨rfl, rfl, by decide +kernel⟩) h
 ·exact ordline_one hI h500 (.inl ⟨rfl, rfl, by decide +kernel⟩) h
 ·exact wk (cls_inv hI (c := ⟨[120], [(66, 66)]⟩) (by decide +kernel) (by decide) (by decide) (by decide +kernel) (by decide) h) (Nat.le_refl _) (by omega)
 ·exact ordline_one hI h500 (.inl ⟨rfl, rfl, by decide +kernel⟩) h
 ·obtain ⟨t, ht, _⟩ := lineL_as as_order (show lineL s (tW wOrder :: tC (112 : Nat) :: tS sThru :: tC (97 : Nat) :: eT :: rest) = _ from h)
  obtain ⟨h1, h2⟩ := rng_some hI h504 (by decide) ht
  exact ⟨end_of h1, h2⟩
 ·exact absurd h fun h => elem_long h
 ·exact absurd h fun h => pair_open h
 ·exact absurd h fun h => word_no h
 ·exact ordline_two hI h500 (.inl ⟨rfl, rfl, by decide +kernel⟩) h
 ·exact absurd h fun h => class_no h
 ·exact ordline_one hI h500 (.inr rfl) h
 ·obtain ⟨t, ht, _⟩ := lineL_as as_order (show lineL s (tW wOrder :: tC 0 :: tS sThru :: tC 1114111 :: eT :: rest) = _ from h)
  exact absurd ht fun h => rng_long (by omega) h
theorem linesL_inv : ∀ (ks : List Nat), (∀ k ∈ ks, k < 20) → ∀ (f : Nat) (s : Sta) (m n : Nat) (l : Loc), Inv s m n → n + 4 * ks.length ≤ 100 → linesL f s (ks.flatMap fun k => lnT k ++ [eT]) = .ok l → ∃ s', l = s'.l ∧ Inv s' (m + 12 * ks.length) (n + 4 * ks.length)
 | [], _, f, s, m, n, l, hI, _, h => by
  cases f with
  | zero => cases h
  | succ f =>
   unfold linesL at h
   simp at h
   exact ⟨s, h.symm, hI⟩
 | k :: ks, hk, f, s, m, n, l, hI, hn, h => by
  cases f with
  | zero => cases h
  | succ f =>
   have e : (k :: ks).flatMap (fun k => lnT k ++ [eT]) = lnT k ++ eT :: (ks.flatMap fun k => lnT k ++ [eT]) := by
    rw [List.flatMap_cons, List.append_assoc]
    rfl
   rw [e] at h
   unfold linesL at h
   have hne : (lnT k ++ eT :: (ks.flatMap fun k => lnT k ++ [eT])).isEmpty = false := by simp
   rw [hne] at h
   simp only [Bool.false_eq_true, if_false] at h
   cases hq : lineL s (lnT k ++ eT :: (ks.flatMap fun k => lnT k ++ [eT])) with
   | error e => rw [hq] at h; cases h
   | ok p =>
    obtain ⟨s1, r1⟩ := p
    rw [hq] at h
    dsimp only at h
    simp only [List.length_cons] at hn
    obtain ⟨rfl, h1⟩ := step_inv hI (by omega) k (hk k (by simp)) hq
    obtain ⟨s', h2, h3⟩ := linesL_inv ks (fun z hz => hk z (by simp [hz])) f s1 (m + 12) (n + 4) l h1 (by omega) h
    refine ⟨s', h2, h3.weak ?_ ?_⟩ <;> simp only [List.length_cons] <;> omega
theorem run_txt : ∀ (zs : List Int) (k : Nat) (acc : List Tok), lastK acc = 6 → ∃ ys k', runL (txt0 zs) k acc = runL [] k' (acc ++ ys) ∧ ys.map erT = (zs.map pickK).flatMap (fun k => lnT k ++ [eT]) ∧ lastK (acc ++ ys) = 6
 | [], k, acc, h => ⟨[], k, by simp [txt0], rfl, by simpa using h⟩
 | z :: r, k, acc, h => by
  obtain ⟨h1, h2⟩ := lnP_ok _ (pickK_lt z)
  obtain ⟨ys, h3, h4, h5, _⟩ := run_good h2 (txt0 r) k acc
  obtain ⟨zs, k', h6, h7, h8⟩ := run_txt r (k + (txtP (lnP (pickK z))).length + 1) (acc ++ ys) h5
  refine ⟨ys ++ zs, k', ?_, ?_, by simpa using h8⟩
  ·have e : txt0 (z :: r) = txtP (lnP (pickK z)) ++ 10 :: txt0 r := by
    show piece (pickK z) ++ txt0 r = _
    rw [h1]
    simp
   rw [e, h3, h6, List.append_assoc]
  ·rw [List.map_append, h4, h7]
   rfl
theorem lex_run {t : List UInt8} {ts : List Tok} {a : Nat} (h : lexL t = (ts, 0, a)) : runL t 0 [] = .inl ts := by
 unfold lexL at h
 by_cases h4 : 4000 < t.length
 ·rw [if_pos h4] at h
  cases h
 ·rw [if_neg h4] at h
  cases hr : runL t 0 [] with
  | inr k => rw [hr] at h; cases h
  | inl us =>
   rw [hr] at h
   simp only at h
   by_cases hb : 1000 < us.length
   ·rw [if_pos hb] at h
    cases h
   ·rw [if_neg hb] at h
    simp at h
    rw [h.1]
theorem text_reads {zs : List Int} {l : Loc} {a : Nat} (h : parseL (txtL zs) = (l, 0, a)) : ∃ s', l = s'.l ∧ Inv s' 144 48 := by
 unfold parseL at h
 obtain ⟨⟨ts, er, at_⟩, hl⟩ : ∃ y, y = lexL (txtL zs) := ⟨_, rfl⟩
 rw [← hl] at h
 cases er with
 | succ er => simp at h
 | zero =>
  simp only at h
  cases hr : readL ts with
  | error e =>
   rw [hr] at h
   simp at h
   exact ⟨⟨noL, []⟩, h.1.symm, inv_none.weak (by omega) (by omega)⟩
  | ok l' =>
   rw [hr] at h
   simp at h
   obtain ⟨rfl, _⟩ := h
   have hrun := lex_run hl.symm
   obtain ⟨ys, k', h1, h2, h3⟩ := run_txt (zs.take 12) 0 [] rfl
   have hy : ts = ys := by
    have : runL (txtL zs) 0 [] = .inl (endL ys k') := by
     show runL (txt0 (zs.take 12)) 0 [] = _
     rw [h1, runL_nil, List.nil_append]
    rw [this] at hrun
    injection hrun with hrun
    rw [← hrun]
    unfold endL
    rw [List.nil_append] at h3
    rw [if_pos h3]
   subst hy
   unfold readL at hr
   have h4 := linesL_er (ts.length + 1) ⟨noL, []⟩ ts
   rw [hr, h2] at h4
   have hlen : ((zs.take 12).map pickK).length ≤ 12 := by rw [List.length_map, List.length_take]; omega
   obtain ⟨s', h5, h6⟩ := linesL_inv ((zs.take 12).map pickK) (fun k hk => by
    obtain ⟨z, _, rfl⟩ := List.mem_map.1 hk
    exact pickK_lt z) _ _ 0 0 l' inv_none (by omega) h4
   exact ⟨s', h5, h6.weak (by omega) (by omega)⟩
theorem text_back {zs : List Int} {l : Loc} {a : Nat} (h : parseL (txtL zs) = (l, 0, a)) : rightL l = true ∧ (∀ c ∈ l.cls, c.name.length ≤ 16) ∧ (∀ e ∈ l.ord, e.name.length ≤ 16) ∧ l.ord.length ≤ 48 ∧ printL l = (linesT (locT l), 0) ∧ parseL (linesT (locT l)) = (l, 0, 0) := by
 obtain ⟨s, rfl, hI⟩ := text_reads h
 have h2 : ∀ e ∈ s.l.ord, e.name.length ≤ 16 := fun e he => by
  rcases hI.el e he with h | ⟨h, _⟩
  ·rw [h]; simp
  ·rw [h]; decide
 have h3 := print_fits hI.right hI.nm h2 (by have := hI.m; omega)
 refine ⟨hI.right, hI.nm, h2, hI.len, h3.2.2, parse_printed hI.right (fun e he h0 => ?_) (by omega) (by omega)⟩
 rcases hI.el e he with h | ⟨_, h⟩
 ·exact absurd h h0
 ·rw [h]
  decide +kernel
end Go.Proofs.YthaibekbefndlaaGreatDoor.C
