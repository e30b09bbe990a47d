/-
  Joined: LcT, LcU, LgA, LgE, LgF, MLxR, MLxQ. Each with what its own head says.
-/
import Derived.Lib.BufferWrite
import Derived.Deep.RegionLaw
import Derived.StillTailTactics
import Derived.Test.YthaibekbefndlaaGreatDoorH02

namespace Go.Proofs.YthaibekbefndlaaGreatDoor.C

def eT : Tok := ⟨6, [], 0, 0⟩
theorem isSign_semi (r : List Tok) : isSign sSemi (tS sSemi :: r) = true := rfl
theorem isSign_end (s : List UInt8) (r : List Tok) : isSign s (eT :: r) = false := by simp [isSign, eT]
theorem scalB_nat {c : Int} (h : scalB c = true) : ((c.toNat : Nat) : Int) = c := by
 unfold scalB at h
 simp at h
 omega
theorem scalB_right {c : Int} (h : scalB c = true) : rightN c.toNat = true := by
 unfold scalB rightB at h
 unfold rightN
 simp at h ⊢
 omega
theorem takeK_hit {ks : List Nat} {t : Tok} (h : t.k ∈ ks) (r : List Tok) : takeK ks (t :: r) = .ok (t, r) := by simp only [takeK, if_pos h]
theorem takeT_hit {k : Nat} {s : List UInt8} {t : Tok} (h : t.k = k ∧ t.t = s) (r : List Tok) : takeT k s (t :: r) = .ok ((), r) := by simp only [takeT, if_pos h]
theorem takeT_sign (s : List UInt8) (r : List Tok) : takeT 2 s (tS s :: r) = .ok ((), r) := takeT_hit ⟨rfl, rfl⟩ r
theorem takeT_word (s : List UInt8) (r : List Tok) : takeT 1 s (tW s :: r) = .ok ((), r) := takeT_hit ⟨rfl, rfl⟩ r
theorem rangeL_one (rs : List (Int × Int)) (x : Int × Int) (hx : rangeB x = true) (r : List Tok) (hr : isSign sThru r = false) : rangeL rs (rangeT x ++ r) = .ok (rs ++ [x], r) := by
 obtain ⟨a, b⟩ := x
 unfold rangeB at hx
 simp only [Bool.and_eq_true, decide_eq_true_eq] at hx
 obtain ⟨⟨h1, h2⟩, h3⟩ := hx
 have e1 := scalB_nat h1
 have e2 := scalB_nat h2
 unfold rangeT
 by_cases h : b = a
 ·subst h
  rw [if_pos rfl]
  show rangeL rs (tC b :: r) = _
  unfold rangeL
  rw [takeK_hit (show (tC b).k ∈ [3] from by simp [tC])]
  simp only
  rw [hr, if_neg (by simp)]
  show Except.ok (rs ++ [((b.toNat : Int), (b.toNat : Int))], r) = _
  rw [e1]
 ·rw [if_neg h]
  show rangeL rs (tC a :: tS sThru :: tC b :: r) = _
  unfold rangeL
  rw [takeK_hit (show (tC a).k ∈ [3] from by simp [tC])]
  simp only
  rw [if_pos (show isSign sThru (tS sThru :: tC b :: r) = true from rfl)]
  show (match notBelow (tC a) (tC b :: r) with | .error e => _ | .ok (b, r') => _) = _
  unfold notBelow
  rw [takeK_hit (show (tC b).k ∈ [3] from by simp [tC])]
  simp only
  rw [if_neg (show ¬ (tC b).n < (tC a).n from by show ¬ b.toNat < a.toNat; omega)]
  show Except.ok (rs ++ [((a.toNat : Int), (b.toNat : Int))], r) = _
  rw [e1, e2]
theorem ranges_read : ∀ (xs : List (Int × Int)), xs ≠ [] → (xs.all rangeB = true) → ∀ (f : Nat) (acc : List (Int × Int)) (r : List Tok), xs.length ≤ f → isSign sThru r = false → isSign sSemi r = false →
  itemsL rangeL f acc (sepT rangeT xs ++ r) = .ok (acc ++ xs, r)
 | [], h, _ => absurd rfl h
 | [x], _, hx => by
  intro f acc r hf h1 h2
  obtain ⟨f, rfl⟩ : ∃ g, f = g + 1 := ⟨f - 1, by simp at hf; omega⟩
  unfold itemsL
  rw [show sepT rangeT [x] = rangeT x from rfl, rangeL_one acc x (by simpa using hx) r h1]
  simp only
  rw [h2, if_neg (by simp)]
 | x :: y :: xs, _, hx => by
  intro f acc r hf h1 h2
  obtain ⟨f, rfl⟩ : ∃ g, f = g + 1 := ⟨f - 1, by simp at hf; omega⟩
  have hx' : rangeB x = true ∧ (y :: xs).all rangeB = true := by simpa using hx
  unfold itemsL
  rw [show sepT rangeT (x :: y :: xs) ++ r = rangeT x ++ (tS sSemi :: (sepT rangeT (y :: xs) ++ r)) from by simp [sepT], rangeL_one acc x hx'.1 _ rfl]
  simp only
  rw [isSign_semi, if_pos rfl]
  show itemsL rangeL f (acc ++ [x]) (sepT rangeT (y :: xs) ++ r) = _
  rw [ranges_read (y :: xs) (by simp) hx'.2 f (acc ++ [x]) r (by simpa using hf) h1 h2]
  simp
theorem pairL_one (l : List (Int × Int)) (x : Int × Int) (h1 : scalB x.1 = true) (h2 : scalB x.2 = true) (h3 : x.1 ∉ l.map Prod.fst) (r : List Tok) : pairL l (pairT x ++ r) = .ok (l ++ [x], r) := by
 obtain ⟨a, b⟩ := x
 have e1 := scalB_nat h1
 have e2 := scalB_nat h2
 show pairL l (tS sOpen :: tC a :: tS sComma :: tC b :: tS sShut :: r) = _
 unfold pairL
 rw [takeT_sign]
 simp only
 rw [takeK_hit (show (tC a).k ∈ [3] from by simp [tC])]
 simp only
 rw [if_neg (show ¬ ((tC a).n : Int) ∈ l.map Prod.fst from by show ¬ ((a.toNat : Nat) : Int) ∈ _; simp only at e1; rw [e1]; exact h3)]
 rw [takeT_sign]
 simp only
 rw [takeK_hit (show (tC b).k ∈ [3] from by simp [tC])]
 simp only
 rw [takeT_sign]
 show Except.ok (l ++ [((a.toNat : Int), (b.toNat : Int))], r) = _
 simp only at e1 e2
 rw [e1, e2]
theorem pair_mid {a b : List (Int × Int)} {x : Int × Int} (h : pairsB (a ++ x :: b) = true) : scalB x.1 = true ∧ scalB x.2 = true ∧ x.1 ∉ a.map Prod.fst := by
 have := all_range h (i := a.length) (by simp)
 unfold pairAt at this
 rw [at_mid, take_mid] at this
 simp only [Bool.and_eq_true, Bool.not_eq_true', List.contains_eq_mem, decide_eq_false_iff_not] at this
 exact ⟨this.1.1, this.1.2, this.2⟩
theorem pairs_read : ∀ (xs : List (Int × Int)), xs ≠ [] → ∀ (f : Nat) (acc : List (Int × Int)) (r : List Tok), pairsB (acc ++ xs) = true → xs.length ≤ f → isSign sSemi r = false →
  itemsL pairL f acc (sepT pairT xs ++ r) = .ok (acc ++ xs, r)
 | [], h => absurd rfl h
 | [x], _ => by
  intro f acc r hx hf h2
  obtain ⟨f, rfl⟩ : ∃ g, f = g + 1 := ⟨f - 1, by simp at hf; omega⟩
  obtain ⟨g1, g2, g3⟩ := pair_mid hx
  unfold itemsL
  rw [show sepT pairT [x] = pairT x from rfl, pairL_one acc x g1 g2 g3]
  simp only
  rw [h2, if_neg (by simp)]
 | x :: y :: xs, _ => by
  intro f acc r hx hf h2
  obtain ⟨f, rfl⟩ : ∃ g, f = g + 1 := ⟨f - 1, by simp at hf; omega⟩
  obtain ⟨g1, g2, g3⟩ := pair_mid hx
  unfold itemsL
  rw [show sepT pairT (x :: y :: xs) ++ r = pairT x ++ (tS sSemi :: (sepT pairT (y :: xs) ++ r)) from by simp [sepT], pairL_one acc x g1 g2 g3]
  simp only
  rw [isSign_semi, if_pos rfl]
  show itemsL pairL f (acc ++ [x]) (sepT pairT (y :: xs) ++ r) = _
  rw [pairs_read (y :: xs) (by simp) f (acc ++ [x]) r (by simpa using hx) (by simpa using hf) h2]
  simp

def LineOk (s : Sta) (l : List Tok) (s' : Sta) : Prop := ∀ r, lineL s (l ++ eT :: r) = .ok (s', r)
def LinesOk : Sta → List (List Tok) → Sta → Prop
 | s, [], s' => s = s'
 | s, l :: r, s' => ∃ s1, LineOk s l s1 ∧ LinesOk s1 r s'
theorem LinesOk.app : ∀ {s s1 s2 : Sta} {a b : List (List Tok)}, LinesOk s a s1 → LinesOk s1 b s2 → LinesOk s (a ++ b) s2
 | s, s1, s2, [], b, h, k => by cases h; exact k
 | s, s1, s2, l :: a, b, ⟨s0, h1, h2⟩, k => ⟨s0, h1, LinesOk.app h2 k⟩
theorem end_hit (r : List Tok) : takeK [6] (eT :: r) = .ok (eT, r) := takeK_hit (by simp [eT]) r
theorem lineOk_of {s s' : Sta} {w : List UInt8} {l : List Tok}
  (h : ∀ r, (if w = wClass then classL s (l ++ eT :: r) else if w = wUpper then upperL s (l ++ eT :: r) else if w = wLower then lowerL s (l ++ eT :: r) else if w = wElem then elementL s (l ++ eT :: r) else if w = wOrder then orderL s (l ++ eT :: r) else .error (30, 0)) = .ok (s', eT :: r)) : LineOk s (tW w :: l) s' := by
 intro r
 unfold lineL
 rw [show tW w :: l ++ eT :: r = tW w :: (l ++ eT :: r) from rfl, takeK_hit (show (tW w).k ∈ [1] from by simp [tW])]
 simp only
 rw [show (tW w).t = w from rfl, show (tW w).at_ = 0 from rfl, h r]
 simp only
 rw [end_hit]
theorem cls_line (s : Sta) (c : Cls) (h1 : c.name ∉ s.l.cls.map Cls.name) (h2 : c.rs ≠ []) (h3 : c.rs.all rangeB = true) : LineOk s (clsT c) { s with l := { s.l with cls := s.l.cls ++ [c] } } := by
 refine lineOk_of fun r => ?_
 rw [if_pos rfl]
 unfold classL
 rw [show tW c.name :: sepT rangeT c.rs ++ eT :: r = tW c.name :: (sepT rangeT c.rs ++ eT :: r) from rfl, takeK_hit (show (tW c.name).k ∈ [1] from by simp [tW])]
 simp only
 rw [if_neg (show ¬ (tW c.name).t ∈ s.l.cls.map Cls.name from h1)]
 have hlen : ∀ xs : List (Int × Int), xs.length ≤ (sepT rangeT xs).length := by
  intro xs
  induction xs with
  | nil => simp [sepT]
  | cons x xs ih =>
   have : 1 ≤ (rangeT x).length := by unfold rangeT; split <;> simp
   cases xs with
   | nil => simpa [sepT] using this
   | cons y ys => simp only [sepT, List.length_append, List.length_cons] at ih ⊢; omega
 rw [ranges_read c.rs h2 h3 _ [] (eT :: r) (by have := hlen c.rs; simp; omega) (isSign_end _ _) (isSign_end _ _)]
 rfl
theorem cls_mid {a b : List Cls} {c : Cls} (h : clsB (a ++ c :: b) = true) : c.name ∉ a.map Cls.name ∧ c.rs ≠ [] ∧ c.rs.all rangeB = true ∧ wordlyB c.name = true := by
 have := all_range h (i := a.length) (by simp)
 unfold clsAt at this
 rw [at_mid, take_mid] at this
 simp only [Bool.and_eq_true, Bool.not_eq_true', List.contains_eq_mem, decide_eq_false_iff_not, List.isEmpty_eq_false_iff] at this
 exact ⟨this.1.1.2, this.1.2, this.2, this.1.1.1⟩
theorem cls_lines : ∀ (cs : List Cls) (s : Sta), clsB (s.l.cls ++ cs) = true → LinesOk s (cs.map clsT) { s with l := { s.l with cls := s.l.cls ++ cs } }
 | [], s, _ => by simp [LinesOk]
 | c :: r, s, h => by
  obtain ⟨h1, h2, h3, _⟩ := cls_mid h
  refine ⟨_, cls_line s c h1 h2 h3, ?_⟩
  have := cls_lines r { s with l := { s.l with cls := s.l.cls ++ [c] } } (by simpa using h)
  simpa using this
theorem sepT_pairs (xs : List (Int × Int)) : xs.length ≤ (sepT pairT xs).length := by
 induction xs with
 | nil => simp [sepT]
 | cons x xs ih =>
  cases xs with
  | nil => simp [sepT, pairT]
  | cons y ys => simp only [sepT, List.length_append, List.length_cons, pairT] at ih ⊢; omega
theorem up_lines (s : Sta) (l : List (Int × Int)) (h0 : s.l.up = []) (h : pairsB l = true) : LinesOk s (mapT wUpper l) { s with l := { s.l with up := l } } := by
 unfold mapT
 by_cases hl : l = []
 ·subst hl
  rw [if_pos rfl]
  show s = _
  obtain ⟨⟨a, b, c, d⟩, e⟩ := s
  simp only at h0
  subst h0
  rfl
 ·rw [if_neg hl]
  refine ⟨_, lineOk_of fun r => ?_, rfl⟩
  rw [if_neg (by decide), if_pos rfl]
  unfold upperL
  rw [h0, pairs_read l hl _ [] (eT :: r) h (by have := sepT_pairs l; simp; omega) (isSign_end _ _)]
  rfl
theorem lo_lines (s : Sta) (l : List (Int × Int)) (h0 : s.l.lo = []) (h : pairsB l = true) : LinesOk s (mapT wLower l) { s with l := { s.l with lo := l } } := by
 unfold mapT
 by_cases hl : l = []
 ·subst hl
  rw [if_pos rfl]
  show s = _
  obtain ⟨⟨a, b, c, d⟩, e⟩ := s
  simp only at h0
  subst h0
  rfl
 ·rw [if_neg hl]
  refine ⟨_, lineOk_of fun r => ?_, rfl⟩
  rw [if_neg (by decide), if_neg (by decide), if_pos rfl]
  unfold lowerL
  rw [h0, pairs_read l hl _ [] (eT :: r) h (by have := sepT_pairs l; simp; omega) (isSign_end _ _)]
  rfl
end Go.Proofs.YthaibekbefndlaaGreatDoor.C

namespace Go.Proofs.YthaibekbefndlaaGreatDoor.C

theorem elemB_named {e : Elm} (h : elemB e = true) (h0 : e.name ≠ []) : quotB e.cells = true ∧ wordlyB e.name = true ∧ numL e.name = none := by
 obtain ⟨nm, cs, sm⟩ := e
 unfold elemB at h
 simp only at h h0 ⊢
 have hk : quotB cs = true ∧ wordlyB nm = true ∧ (numL nm).isNone = true := by
  match cs, h with
  | [], h => simpa [Bool.and_eq_true, and_assoc] using h
  | [c], h =>
   simp only [Bool.and_eq_true, List.isEmpty_iff] at h
   exact absurd h.2 h0
  | c :: d :: r, h => simpa [Bool.and_eq_true, and_assoc] using h
 exact ⟨hk.1, hk.2.1, by simpa using hk.2.2⟩
theorem elemB_plain {e : Elm} (h : elemB e = true) (h0 : e.name = []) : ∃ c, e.cells = [c] ∧ scalB c = true := by
 obtain ⟨nm, cs, sm⟩ := e
 unfold elemB at h
 simp only at h h0 ⊢
 subst h0
 match cs, h with
 | [], h => simp [wordlyB] at h
 | [c], h =>
  simp only [Bool.and_eq_true] at h
  exact ⟨c, rfl, h.1⟩
 | c :: d :: r, h => simp [wordlyB] at h
theorem quotB_parts {l : List Int} (h : quotB l = true) : 2 ≤ l.length ∧ l.length ≤ 4 ∧ (34 : Int) ∉ l ∧ (10 : Int) ∉ l ∧ canonB l = true := by
 unfold quotB at h
 simp only [Bool.and_eq_true, decide_eq_true_eq, Bool.not_eq_true', List.contains_eq_mem, decide_eq_false_iff_not] at h
 exact ⟨h.1.1.1.1, h.1.1.1.2, h.1.1.2, h.1.2, h.2⟩
theorem cells_bytes {l : List Int} (h : canonB l = true) : cellsOf (bytesOf l) = l := by
 unfold canonB sameB at h
 simp only [Bool.and_eq_true, decide_eq_true_eq] at h
 exact h.2
def namedD (o : List Elm) : List (List UInt8 × List Int) := (o.filter fun e => !e.name.isEmpty).map fun e => (e.name, e.cells)
theorem namedD_snoc (o : List Elm) (e : Elm) : namedD (o ++ [e]) = if e.name = [] then namedD o else namedD o ++ [(e.name, e.cells)] := by
 unfold namedD
 rw [List.filter_append, List.map_append]
 by_cases h : e.name = []
 ·rw [if_pos h]; simp [h]
 ·rw [if_neg h]
  have : e.name.isEmpty = false := by simpa using h
  simp [this]
theorem lookD_noneO {o : List Elm} {n : List UInt8} (h : ∀ x ∈ o, x.name ≠ n) : lookD (namedD o) n = none := by
 unfold lookD
 rw [Option.map_eq_none_iff, List.find?_eq_none]
 intro x hx
 unfold namedD at hx
 rw [List.mem_map] at hx
 obtain ⟨e, he, rfl⟩ := hx
 simpa using h e (List.mem_filter.1 he).1
theorem lookD_someO : ∀ {o : List Elm} {e : Elm}, e ∈ o → e.name ≠ [] → (∀ x ∈ o, x.name = e.name → x.cells = e.cells) → lookD (namedD o) e.name = some e.cells
 | [], e, h, _, _ => by cases h
 | x :: o, e, h, h0, hu => by
  have ih := fun h' => lookD_someO (o := o) (e := e) h' h0 (fun y hy => hu y (List.mem_cons_of_mem _ hy))
  by_cases hx : x.name = e.name
  ·have hx0 : x.name.isEmpty = false := by rw [hx]; simpa using h0
   have hc := hu x (by simp) hx
   unfold lookD namedD
   rw [List.filter_cons, if_pos (by simp [hx0]), List.map_cons, List.find?_cons]
   simp [hx, hc]
  ·have he : e ∈ o := by
    rcases List.mem_cons.1 h with rfl | h
    ·exact absurd rfl hx
    ·exact h
   have := ih he
   unfold lookD namedD at this ⊢
   rw [List.filter_cons]
   split
   ·rw [List.map_cons, List.find?_cons]
    simpa [hx] using this
   ·exact this
structure ElemOk (o : List Elm) (i : Nat) (e : Elm) : Prop where
 el : elemB e = true
 cells : ∀ x ∈ o.take i, x.cells ≠ e.cells
 names : e.name ≠ [] → ∀ x ∈ o.take i, x.name ≠ e.name
 lo : 0 ≤ e.same
 hi : e.same ≤ i
 same : ∃ x, o[e.same.toNat]? = some x ∧ x.same = e.same
theorem ord_at {o : List Elm} (h : ordB o = true) {i : Nat} {e : Elm} (he : o[i]? = some e) : ElemOk o i e := by
 unfold ordB at h
 simp only [Bool.and_eq_true] at h
 have := all_range h.2 (List.getElem?_eq_some_iff.1 he).1
 unfold elemAt at this
 rw [he] at this
 simp only [Bool.and_eq_true, Bool.not_eq_true', List.any_eq_false, Bool.or_eq_true] at this
 obtain ⟨⟨⟨h1, h2⟩, h3⟩, h4⟩ := this
 unfold sameAt at h3
 simp only [Bool.and_eq_true, decide_eq_true_eq] at h3
 refine ⟨h1, fun x hx => by simpa using h2 x hx, fun h0 x hx => ?_, h3.1.1, h3.1.2, ?_⟩
 ·rcases h4 with h4 | h4
  ·exact absurd (by simpa using h4) h0
  ·simpa using h4 x hx
 ·cases hs : o[e.same.toNat]? with
  | none => rw [hs] at h3; simp at h3
  | some x => rw [hs] at h3; exact ⟨x, rfl, by simpa using h3.2⟩
theorem elem_line (s : Sta) (e : Elm) (h : elemB e = true) (h0 : e.name ≠ []) (hl : lookD s.d e.name = none) : LineOk s [tW wElem, itemT e, tW wFrom, tQ (bytesOf e.cells)] { s with d := s.d ++ [(e.name, e.cells)] } := by
 obtain ⟨h1, h2, h3⟩ := elemB_named h h0
 obtain ⟨q1, q2, q3, q4, q5⟩ := quotB_parts h1
 refine lineOk_of (w := wElem) fun r => ?_
 rw [if_neg (by decide), if_neg (by decide), if_neg (by decide), if_pos rfl]
 have hi : itemT e = tN e.name := by unfold itemT; rw [if_neg h0]
 rw [hi]
 show elementL s (tN e.name :: tW wFrom :: tQ (bytesOf e.cells) :: eT :: r) = _
 unfold elementL
 rw [takeK_hit (show (tN e.name).k ∈ [5] from by simp [tN])]
 simp only
 rw [show (tN e.name).t = e.name from rfl, hl, if_neg (by simp), takeT_word]
 simp only
 rw [takeK_hit (show (tQ (bytesOf e.cells)).k ∈ [4] from by simp [tQ])]
 simp only
 rw [show (tQ (bytesOf e.cells)).t = bytesOf e.cells from rfl, cells_bytes q5, if_neg (by omega)]
theorem elem_lines : ∀ (r pre : List Elm) (s : Sta), ordB (pre ++ r) = true → s.d = namedD pre → LinesOk s (r.flatMap elemT) { s with d := namedD (pre ++ r) }
 | [], pre, s, _, hd => by
  show s = _
  rw [List.append_nil, ← hd]
 | e :: r, pre, s, h, hd => by
  have he := ord_at h (at_mid pre e r)
  have hrest : ordB ((pre ++ [e]) ++ r) = true := by simpa using h
  by_cases h0 : e.name = []
  ·have hx : (e :: r).flatMap elemT = r.flatMap elemT := by simp [elemT, h0]
   rw [hx]
   have := elem_lines r (pre ++ [e]) s hrest (by rw [namedD_snoc, if_pos h0, hd])
   simpa using this
  ·have hx : (e :: r).flatMap elemT = [tW wElem, itemT e, tW wFrom, tQ (bytesOf e.cells)] :: r.flatMap elemT := by simp [elemT, h0]
   rw [hx]
   have hn := he.names h0
   rw [take_mid] at hn
   refine ⟨_, elem_line s e he.el h0 (by rw [hd]; exact lookD_noneO hn), ?_⟩
   have := elem_lines r (pre ++ [e]) { s with d := s.d ++ [(e.name, e.cells)] } hrest (by rw [namedD_snoc, if_neg h0, hd])
   simpa using this
theorem placeL_noneO {o : List Elm} {c : List Int} (h : ∀ x ∈ o, x.cells ≠ c) : placeL o c = none := by
 unfold placeL
 rw [List.findIdx?_eq_none_iff]
 intro x hx
 simpa using h x hx
theorem placeL_someO {o : List Elm} {c : List Int} {j : Nat} {x : Elm} (hx : o[j]? = some x) (hc : x.cells = c) (h : ∀ y ∈ o.take j, y.cells ≠ c) : placeL o c = some j := by
 unfold placeL
 rw [List.findIdx?_eq_some_iff_getElem]
 obtain ⟨hj, hxe⟩ := List.getElem?_eq_some_iff.1 hx
 refine ⟨hj, by rw [hxe]; simpa using hc, fun k hk => ?_⟩
 have : o[k]'(by omega) ∈ o.take j := by
  rw [List.mem_take_iff_getElem]
  exact ⟨k, by omega, rfl⟩
 simpa using h _ this
theorem item_cells {o : List Elm} (h : ordB o = true) {i : Nat} {e : Elm} (he : o[i]? = some e) : itemL (namedD o) (itemT e) = .ok e.cells := by
 have hk := ord_at h he
 have hm : e ∈ o := List.mem_of_getElem? he
 unfold itemL itemT
 by_cases h0 : e.name = []
 ·obtain ⟨c, hc, hs⟩ := elemB_plain hk.el h0
  rw [if_pos h0, hc]
  show (if (3 : Nat) = 3 then Except.ok [((c.toNat : Nat) : Int)] else _) = _
  rw [if_pos rfl, scalB_nat hs]
 ·rw [if_neg h0]
  have hu : ∀ x ∈ o, x.name = e.name → x.cells = e.cells := by
   intro x hx hn
   obtain ⟨j, hj⟩ := List.getElem?_of_mem hx
   rcases Nat.lt_trichotomy i j with hij | hij | hij
   ·have := (ord_at h hj).names (by rw [hn]; exact h0) e (List.mem_of_getElem? (i := i) (by rw [List.getElem?_take, if_pos hij]; exact he))
    exact absurd hn.symm this
   ·subst hij
    rw [he] at hj
    injection hj with hj
    rw [hj]
   ·have := hk.names h0 x (List.mem_of_getElem? (i := j) (by rw [List.getElem?_take, if_pos hij]; exact hj))
    exact absurd hn this
  have := lookD_someO hm h0 hu
  show (if (5 : Nat) = 3 then _ else match lookD (namedD o) e.name with | some c => Except.ok c | none => .error (31, 0)) = _
  rw [if_neg (by decide), this]
theorem itemT_k (e : Elm) : (itemT e).k = 3 ∨ (itemT e).k = 5 := by unfold itemT; split <;> simp [tC, tN]
theorem itemT_t {e : Elm} : (itemT e).t = e.name := by
 unfold itemT
 split
 ·rename_i h; rw [h]; rfl
 ·rfl
theorem item_hit (e : Elm) (r : List Tok) : takeK [3, 5] (itemT e :: r) = .ok (itemT e, r) := takeK_hit (by rcases itemT_k e with h | h <;> rw [h] <;> simp) r
theorem ord_line (o pre r : List Elm) (e : Elm) (ho : o = pre ++ e :: r) (h : ordB o = true) (s : Sta) (hs : s.l.ord = pre) (hd : s.d = namedD o) : LineOk s (ordT o pre.length e) { s with l := { s.l with ord := pre ++ [e] } } := by
 have hat : o[pre.length]? = some e := by rw [ho]; exact at_mid _ _ _
 have hk := ord_at h hat
 have hcells := hk.cells
 rw [ho, take_mid] at hcells
 have hl : pre.length < 500 := by
  unfold ordB at h
  simp only [Bool.and_eq_true, decide_eq_true_eq] at h
  have := h.1
  rw [ho] at this
  simp at this
  omega
 refine lineOk_of (w := wOrder) fun t => ?_
 rw [if_neg (by decide), if_neg (by decide), if_neg (by decide), if_neg (by decide), if_pos rfl]
 by_cases hsame : e.same = pre.length
 ·rw [if_pos hsame]
  show orderL s (itemT e :: eT :: t) = _
  unfold orderL
  rw [item_hit]
  simp only
  rw [isSign_end, if_neg (by simp), hd, item_cells h hat]
  simp only
  rw [hs, placeL_noneO hcells, if_neg (by simp), if_neg (by omega), isSign_end, if_neg (by simp), itemT_t]
  obtain ⟨nm, cs, sm⟩ := e
  simp only at hsame
  rw [hsame]
 ·rw [if_neg hsame]
  have h0 := hk.lo
  have h1 := hk.hi
  obtain ⟨x, hx, hxs⟩ := hk.same
  have hlt : e.same.toNat < pre.length := by omega
  have hpx : pre[e.same.toNat]? = some x := by rw [ho, List.getElem?_append_left hlt] at hx; exact hx
  rw [hx]
  show orderL s (itemT e :: tS sSemi :: itemT x :: eT :: t) = _
  unfold orderL
  rw [item_hit]
  simp only
  rw [show isSign sThru (tS sSemi :: itemT x :: eT :: t) = false from rfl, if_neg (by simp), hd, item_cells h hat]
  simp only
  rw [hs, placeL_noneO hcells, if_neg (by simp), if_neg (by omega), isSign_semi, if_pos rfl, List.drop_succ_cons, List.drop_zero, item_hit]
  simp only
  rw [item_cells h hx]
  simp only
  have hxc := (ord_at h hx).cells
  rw [ho, List.take_append_of_le_length (by omega)] at hxc
  rw [placeL_someO hpx rfl hxc]
  simp only
  rw [hpx, itemT_t]
  rw [Option.map_some, Option.getD_some, hxs]
theorem ord_lines (o : List Elm) (h : ordB o = true) : ∀ (r pre : List Elm) (s : Sta), o = pre ++ r → s.l.ord = pre → s.d = namedD o → LinesOk s (ordsT o pre.length r) { s with l := { s.l with ord := o } }
 | [], pre, s, ho, hs, hd => by
  show s = _
  rw [List.append_nil] at ho
  rw [ho, ← hs]
 | e :: r, pre, s, ho, hs, hd => by
  refine ⟨_, ord_line o pre r e ho h s hs hd, ?_⟩
  have := ord_lines o h r (pre ++ [e]) { s with l := { s.l with ord := pre ++ [e] } } (by simpa using ho) rfl hd
  simpa using this
theorem locT_read (l : Loc) (h : rightL l = true) : LinesOk ⟨noL, []⟩ (locT l) ⟨l, namedD l.ord⟩ := by
 unfold rightL at h
 simp only [Bool.and_eq_true] at h
 obtain ⟨⟨⟨h1, h2⟩, h3⟩, h4⟩ := h
 have k1 := cls_lines l.cls ⟨noL, []⟩ (by simpa [noL] using h1)
 have k2 := up_lines { (⟨noL, []⟩ : Sta) with l := { noL with cls := noL.cls ++ l.cls } } l.up rfl h2
 have k3 := lo_lines { (⟨noL, []⟩ : Sta) with l := { noL with cls := noL.cls ++ l.cls, up := l.up } } l.lo rfl h3
 have k4 := elem_lines l.ord [] { (⟨noL, []⟩ : Sta) with l := { noL with cls := noL.cls ++ l.cls, up := l.up, lo := l.lo } } (by simpa using h4) rfl
 have k5 := ord_lines l.ord h4 l.ord [] { l := { noL with cls := noL.cls ++ l.cls, up := l.up, lo := l.lo }, d := namedD ([] ++ l.ord) } rfl rfl rfl
 have := ((((k1.app k2).app k3).app k4).app k5)
 exact this
end Go.Proofs.YthaibekbefndlaaGreatDoor.C

namespace Go.Proofs.YthaibekbefndlaaGreatDoor.C

theorem lineT_le18 : ∀ (l : List Tok), (∀ x ∈ l, (bodyT x).length ≤ 18) → (lineT l).length ≤ 19 * (l.length + 1)
 | [], _ => by simp [lineT]
 | [x], h => by
  have := h x (by simp)
  simp [lineT]
  omega
 | x :: y :: r, h => by
  have h1 := h x (by simp)
  have h2 := lineT_le18 (y :: r) (fun z hz => h z (by simp at hz ⊢; exact .inr hz))
  have h3 : lineT (x :: y :: r) = bodyT x ++ 32 :: lineT (y :: r) := rfl
  rw [h3]
  simp only [List.length_append, List.length_cons] at h2 ⊢
  omega
theorem linesT_le18 : ∀ (ls : List (List Tok)), (∀ l ∈ ls, ∀ x ∈ l, (bodyT x).length ≤ 18) → (linesT ls).length ≤ 19 * (toksT ls).length
 | [], _ => by simp [linesT, toksT]
 | l :: r, h => by
  have h1 := lineT_le18 l (h l (by simp))
  have h2 := linesT_le18 r (fun z hz => h z (by simp [hz]))
  rw [linesT_cons, toksT_cons]
  simp only [List.length_append, List.length_cons]
  omega
structure Short (l : Loc) : Prop where
 cls : ∀ c ∈ l.cls, c.name.length ≤ 16 ∧ ∀ r ∈ c.rs, r.1 ≤ 1114111 ∧ r.2 ≤ 1114111
 up : ∀ r ∈ l.up, r.1 ≤ 1114111 ∧ r.2 ≤ 1114111
 lo : ∀ r ∈ l.lo, r.1 ≤ 1114111 ∧ r.2 ≤ 1114111
 ord : ∀ e ∈ l.ord, e.name.length ≤ 16 ∧ (e.name ≠ [] → e.cells.length ≤ 4) ∧ e.cells.headD 0 ≤ 1114111
theorem body_tC {c : Int} (h : c ≤ 1114111) : (bodyT (tC c)).length ≤ 18 := by
 have := great_len (c := c.toNat) (by omega)
 simp [bodyT, tC]
 omega
theorem body_tS {t : List UInt8} (h : t.length ≤ 18) : (bodyT (tS t)).length ≤ 18 := by simpa [bodyT, tS] using h
theorem body_tW {t : List UInt8} (h : t.length ≤ 18) : (bodyT (tW t)).length ≤ 18 := by simpa [bodyT, tW] using h
theorem body_tN {t : List UInt8} (h : t.length ≤ 16) : (bodyT (tN t)).length ≤ 18 := by simp [bodyT, tN]; omega
theorem body_tQ {t : List UInt8} (h : t.length ≤ 16) : (bodyT (tQ t)).length ≤ 18 := by simp [bodyT, tQ]; omega
theorem body_sep {α : Type} (f : α → List Tok) : ∀ (l : List α), (∀ a ∈ l, ∀ x ∈ f a, (bodyT x).length ≤ 18) → ∀ x ∈ sepT f l, (bodyT x).length ≤ 18
 | [], _, x, hx => by simp [sepT] at hx
 | [a], h, x, hx => h a (by simp) x hx
 | a :: b :: r, h, x, hx => by
  have h' : x ∈ f a ++ tS sSemi :: sepT f (b :: r) := hx
  rcases List.mem_append.1 h' with h1 | h1
  ·exact h a (by simp) x h1
  ·rcases List.mem_cons.1 h1 with rfl | h2
   ·exact body_tS (by decide)
   ·exact body_sep f (b :: r) (fun z hz => h z (by simp at hz ⊢; exact .inr hz)) x h2
theorem body_range {r : Int × Int} (h : r.1 ≤ 1114111 ∧ r.2 ≤ 1114111) : ∀ x ∈ rangeT r, (bodyT x).length ≤ 18 := by
 intro x hx
 unfold rangeT at hx
 split at hx
 ·simp at hx; subst hx; exact body_tC h.1
 ·simp at hx
  rcases hx with rfl | rfl | rfl
  ·exact body_tC h.1
  ·exact body_tS (by decide)
  ·exact body_tC h.2
theorem body_pair {r : Int × Int} (h : r.1 ≤ 1114111 ∧ r.2 ≤ 1114111) : ∀ x ∈ pairT r, (bodyT x).length ≤ 18 := by
 intro x hx
 unfold pairT at hx
 simp at hx
 rcases hx with rfl | rfl | rfl | rfl | rfl
 ·exact body_tS (by decide)
 ·exact body_tC h.1
 ·exact body_tS (by decide)
 ·exact body_tC h.2
 ·exact body_tS (by decide)
theorem body_map {m : List UInt8} {l : List (Int × Int)} (hm : m.length ≤ 18) (h : ∀ r ∈ l, r.1 ≤ 1114111 ∧ r.2 ≤ 1114111) : ∀ t ∈ mapT m l, ∀ x ∈ t, (bodyT x).length ≤ 18 := by
 intro t ht x hx
 unfold mapT at ht
 split at ht
 ·simp at ht
 ·simp at ht
  subst ht
  rcases List.mem_cons.1 hx with rfl | hx
  ·exact body_tW hm
  ·exact body_sep _ _ (fun a ha => body_pair (h a ha)) x hx
theorem body_item {e : Elm} (h : e.name.length ≤ 16 ∧ e.cells.headD 0 ≤ 1114111) : (bodyT (itemT e)).length ≤ 18 := by
 unfold itemT
 split
 ·exact body_tC h.2
 ·exact body_tN h.1
theorem bytesOf_le (l : List Int) : (bytesOf l).length ≤ 4 * l.length := by
 unfold bytesOf
 have h1 := (encL_len l).2
 have h2 := sb_size (encL l)
 have h3 : (sb (encL l)).data.toList.length = (sb (encL l)).size := by rw [Array.length_toList]; rfl
 omega
theorem body_ords (o : List Elm) (ho : ∀ e ∈ o, e.name.length ≤ 16 ∧ e.cells.headD 0 ≤ 1114111) : ∀ (r : List Elm) (i : Nat), (∀ e ∈ r, e.name.length ≤ 16 ∧ e.cells.headD 0 ≤ 1114111) → ∀ t ∈ ordsT o i r, ∀ x ∈ t, (bodyT x).length ≤ 18
 | [], _, _, t, ht => by simp [ordsT] at ht
 | e :: r, i, h, t, ht => by
  have h' : t ∈ ordT o i e :: ordsT o (i + 1) r := ht
  rcases List.mem_cons.1 h' with rfl | h2
  ·intro x hx
   unfold ordT at hx
   rcases List.mem_cons.1 hx with rfl | hx
   ·exact body_tW (by decide)
   ·rcases List.mem_cons.1 hx with rfl | hx
    ·exact body_item (h e (by simp))
    ·split at hx
     ·simp at hx
     ·split at hx
      ·rename_i y hy
       simp at hx
       rcases hx with rfl | rfl
       ·exact body_tS (by decide)
       ·exact body_item (ho y (List.mem_of_getElem? hy))
      ·simp at hx
  ·exact body_ords o ho r (i + 1) (fun z hz => h z (by simp [hz])) t h2
theorem short_body {l : Loc} (h : Short l) : ∀ t ∈ locT l, ∀ x ∈ t, (bodyT x).length ≤ 18 := by
 intro t ht
 unfold locT at ht
 simp only [List.mem_append] at ht
 rcases ht with (((ht | ht) | ht) | ht) | ht
 ·obtain ⟨c, hc, rfl⟩ := List.mem_map.1 ht
  intro x hx
  have hx' : x ∈ tW wClass :: tW c.name :: sepT rangeT c.rs := hx
  have hcc := h.cls c hc
  rcases List.mem_cons.1 hx' with rfl | hx
  ·exact body_tW (by decide)
  ·rcases List.mem_cons.1 hx with rfl | hx
   ·exact body_tW (by omega)
   ·exact body_sep _ _ (fun a ha => body_range (hcc.2 a ha)) x hx
 ·exact body_map (by decide) h.up t ht
 ·exact body_map (by decide) h.lo t ht
 ·obtain ⟨e, he, ht⟩ := List.mem_flatMap.1 ht
  have hee := h.ord e he
  unfold elemT at ht
  split at ht
  ·simp at ht
  ·rename_i hne
   simp at ht
   subst ht
   intro x hx
   simp at hx
   have hb := bytesOf_le e.cells
   have hc := hee.2.1 hne
   rcases hx with rfl | rfl | rfl | rfl
   ·exact body_tW (by decide)
   ·exact body_item ⟨hee.1, hee.2.2⟩
   ·exact body_tW (by decide)
   ·exact body_tQ (by omega)
 ·exact body_ords l.ord (fun e he => ⟨(h.ord e he).1, (h.ord e he).2.2⟩) l.ord 0 (fun e he => ⟨(h.ord e he).1, (h.ord e he).2.2⟩) t ht
def mO : Nat → List Elm → Nat
 | _, [] => 0
 | i, e :: r => (if e.same = i then 3 else 5) + (if e.name = [] then 0 else 5) + mO (i + 1) r
def mT (l : Loc) : Nat := (l.cls.map fun c => (clsT c).length + 1).sum + 6 * (l.up.length + l.lo.length) + mO 0 l.ord
theorem mO_snoc : ∀ (r : List Elm) (i : Nat) (e : Elm), mO i (r ++ [e]) = mO i r + ((if e.same = (i + r.length : Nat) then 3 else 5) + (if e.name = [] then 0 else 5))
 | [], i, e => by simp [mO]
 | a :: r, i, e => by
  show (if a.same = i then 3 else 5) + (if a.name = [] then 0 else 5) + mO (i + 1) (r ++ [e]) = _
  rw [mO_snoc r (i + 1) e, show i + 1 + r.length = i + (a :: r).length by simp; omega]
  simp only [mO]
  omega
theorem len_sepP : ∀ (l : List (Int × Int)), (sepT pairT l).length ≤ 6 * l.length
 | [] => by simp [sepT]
 | [a] => by simp [sepT, pairT]
 | a :: b :: r => by
  have h := len_sepP (b :: r)
  have h3 : sepT pairT (a :: b :: r) = pairT a ++ tS sSemi :: sepT pairT (b :: r) := rfl
  rw [h3]
  simp only [List.length_append, List.length_cons] at h ⊢
  simp [pairT]
  omega
theorem len_map (m : List UInt8) (l : List (Int × Int)) : (toksT (mapT m l)).length ≤ 6 * l.length + 2 := by
 unfold mapT
 split
 ·simp [toksT]
 ·have := len_sepP l
  simp [toksT]
  omega
theorem len_elems : ∀ (l : List Elm), (toksT (l.flatMap elemT)).length = (l.map fun e => if e.name = [] then 0 else 5).sum
 | [] => by simp [toksT]
 | e :: r => by
  rw [List.flatMap_cons, toksT_app, List.length_append, len_elems r, List.map_cons, List.sum_cons]
  congr 1
  unfold elemT
  split <;> simp [toksT]
theorem len_ords (o : List Elm) : ∀ (r : List Elm) (i : Nat), (r.map fun e => if e.name = [] then 0 else 5).sum + (toksT (ordsT o i r)).length ≤ mO i r
 | [], i => by simp [ordsT, toksT, mO]
 | e :: r, i => by
  have h := len_ords o r (i + 1)
  have h3 : ordsT o i (e :: r) = ordT o i e :: ordsT o (i + 1) r := rfl
  have h4 : (ordT o i e).length + 1 ≤ (if e.same = i then 3 else 5) := by
   unfold ordT
   split
   ·simp
   ·split <;> simp
  rw [h3, toksT_cons, List.map_cons, List.sum_cons]
  simp only [List.length_append, List.length_cons, mO]
  omega
theorem len_cls : ∀ (l : List Cls), (toksT (l.map clsT)).length = (l.map fun c => (clsT c).length + 1).sum
 | [] => by simp [toksT]
 | c :: r => by
  rw [List.map_cons, toksT_cons, List.map_cons, List.sum_cons, List.length_append, List.length_cons, len_cls r]
  omega
theorem len_loc (l : Loc) : (toksT (locT l)).length ≤ mT l + 4 := by
 unfold locT mT
 have h1 := len_cls l.cls
 have h2 := len_map wUpper l.up
 have h3 := len_map wLower l.lo
 have h4 := len_elems l.ord
 have h5 := len_ords l.ord l.ord 0
 simp only [toksT_app, List.length_append]
 omega
theorem fits_of {l : Loc} (h : Short l) {n : Nat} (hm : mT l + 4 ≤ n) : (linesT (locT l)).length ≤ 19 * n ∧ (toksT (locT l)).length ≤ n := by
 have h1 := linesT_le18 _ (short_body h)
 have h2 := len_loc l
 omega

theorem range_snoc {n : Nat} {f : Nat → Bool} (h : (List.range n).all f = true) (h1 : f n = true) : (List.range (n + 1)).all f = true := by
 rw [List.range_succ, List.all_append, h]
 simpa using h1
theorem all_cong {n : Nat} {f g : Nat → Bool} (h : ∀ i, i < n → g i = f i) (h1 : (List.range n).all f = true) : (List.range n).all g = true := by
 rw [List.all_eq_true] at h1 ⊢
 intro i hi
 rw [h i (List.mem_range.1 hi)]
 exact h1 i hi
theorem get_snoc {α : Type} (l : List α) (x : α) {i : Nat} (h : i < l.length) : (l ++ [x])[i]? = l[i]? := List.getElem?_append_left h
theorem takeFront {α : Type} (l : List α) (x : α) {i : Nat} (h : i ≤ l.length) : (l ++ [x]).take i = l.take i := List.take_append_of_le_length h
theorem clsB_snoc {l : List Cls} {c : Cls} (h : clsB l = true) (h1 : wordlyB c.name = true) (h2 : c.name ∉ l.map Cls.name) (h3 : c.rs ≠ []) (h4 : c.rs.all rangeB = true) : clsB (l ++ [c]) = true := by
 unfold clsB at h ⊢
 rw [List.length_append, List.length_singleton]
 refine range_snoc (all_cong (fun i hi => ?_) h) ?_
 ·unfold clsAt
  rw [get_snoc _ _ hi, takeFront _ _ (Nat.le_of_lt hi)]
 ·unfold clsAt
  rw [List.getElem?_concat_length]
  have h5 : c.rs.isEmpty = false := by cases hq : c.rs with
   | nil => exact absurd hq h3
   | cons => rfl
  have h6 : ((l.map Cls.name).contains c.name) = false := by simpa using h2
  simp only [h1, h4, h5, takeFront _ _ (Nat.le_refl _), List.take_length, h6]
  rfl
theorem pairsB_snoc {l : List (Int × Int)} {p : Int × Int} (h : pairsB l = true) (h1 : scalB p.1 = true) (h2 : scalB p.2 = true) (h3 : p.1 ∉ l.map Prod.fst) : pairsB (l ++ [p]) = true := by
 unfold pairsB at h ⊢
 rw [List.length_append, List.length_singleton]
 refine range_snoc (all_cong (fun i hi => ?_) h) ?_
 ·unfold pairAt
  rw [get_snoc _ _ hi, takeFront _ _ (Nat.le_of_lt hi)]
 ·unfold pairAt
  rw [List.getElem?_concat_length]
  have h6 : ((l.map Prod.fst).contains p.1) = false := by simpa using h3
  simp only [h1, h2, takeFront _ _ (Nat.le_refl _), List.take_length, h6]
  rfl
theorem sameAt_snoc {l : List Elm} (x : Elm) {i : Nat} (e : Elm) (h : i < l.length) : sameAt (l ++ [x]) i e = sameAt l i e := by
 unfold sameAt
 by_cases h1 : 0 ≤ e.same ∧ e.same ≤ i
 ·rw [get_snoc _ _ (by omega)]
 ·rw [decide_eq_false h1]
  rfl
theorem ordB_snoc {l : List Elm} {e : Elm} (h : ordB l = true) (h0 : l.length < 500) (h1 : elemB e = true) (h2 : ∀ x ∈ l, x.cells ≠ e.cells) (h3 : e.same = l.length ∨ ∃ (j : Nat) (x : Elm), l[j]? = some x ∧ e.same = x.same ∧ sameAt l j x = true) (h4 : e.name ≠ [] → ∀ x ∈ l, x.name ≠ e.name) : ordB (l ++ [e]) = true := by
 unfold ordB at h ⊢
 rw [Bool.and_eq_true] at h ⊢
 rw [List.length_append, List.length_singleton]
 refine ⟨decide_eq_true (by omega), range_snoc (all_cong (fun i hi => ?_) h.2) ?_⟩
 ·unfold elemAt
  rw [get_snoc _ _ hi, takeFront _ _ (Nat.le_of_lt hi)]
  cases hq : l[i]? with
  | none => rfl
  | some y => simp only [sameAt_snoc _ _ hi]
 ·unfold elemAt
  rw [List.getElem?_concat_length]
  have h5 : (l.any fun x => decide (x.cells = e.cells)) = false := by
   rw [List.any_eq_false]
   intro x hx
   simpa using h2 x hx
  have h6 : sameAt (l ++ [e]) l.length e = true := by
   unfold sameAt
   rcases h3 with h3 | ⟨j, x, hx, he, hs⟩
   ·rw [h3, Int.toNat_natCast, List.getElem?_concat_length, decide_eq_true ⟨by omega, by omega⟩]
    simp [h3]
   ·have hj : j < l.length := (List.getElem?_eq_some_iff.1 hx).1
    unfold sameAt at hs
    rw [Bool.and_eq_true] at hs
    have hs1 := of_decide_eq_true hs.1
    rw [he, get_snoc _ _ (by omega), decide_eq_true ⟨hs1.1, by omega⟩]
    exact hs.2
  have h7 : (e.name.isEmpty || !(l.any fun x => decide (x.name = e.name))) = true := by
   by_cases h8 : e.name = []
   ·rw [h8]; rfl
   ·have : (l.any fun x => decide (x.name = e.name)) = false := by
     rw [List.any_eq_false]
     intro x hx
     simpa using h4 h8 x hx
    rw [this]
    simp
  simp only [h1, takeFront _ _ (Nat.le_refl _), List.take_length, h5, h6, h7]
  rfl
end Go.Proofs.YthaibekbefndlaaGreatDoor.C

namespace Go.Proofs.YthaibekbefndlaaGreatDoor.C

instance (x : Tok) : Decidable (GoodT x) := by unfold GoodT; infer_instance
def nCh : List UInt8 := [99, 104]
structure Inv (s : Sta) (m0 n : Nat) : Prop where
 right : rightL s.l = true
 nm : ∀ c ∈ s.l.cls, c.name.length ≤ 16
 d : ∀ x ∈ s.d, x = (nCh, [99, 104])
 el : ∀ e ∈ s.l.ord, e.name = [] ∨ (e.name = nCh ∧ e.cells = [99, 104])
 m : mT s.l ≤ m0
 len : s.l.ord.length ≤ n
theorem right_parts {l : Loc} (h : rightL l = true) : clsB l.cls = true ∧ pairsB l.up = true ∧ pairsB l.lo = true ∧ ordB l.ord = true := by
 unfold rightL at h
 simp only [Bool.and_eq_true] at h
 exact ⟨h.1.1.1, h.1.1.2, h.1.2, h.2⟩
theorem right_of {l : Loc} (h1 : clsB l.cls = true) (h2 : pairsB l.up = true) (h3 : pairsB l.lo = true) (h4 : ordB l.ord = true) : rightL l = true := by unfold rightL; rw [h1, h2, h3, h4]; rfl
end Go.Proofs.YthaibekbefndlaaGreatDoor.C

namespace Go.Proofs.YthaibekbefndlaaGreatDoor.C

theorem placeL_out {o : List Elm} {c : List Int} (h : placeL o c = none) : ∀ x ∈ o, x.cells ≠ c := by
 unfold placeL at h
 rw [List.findIdx?_eq_none_iff] at h
 intro x hx he
 have := h x hx
 simp [he] at this
end Go.Proofs.YthaibekbefndlaaGreatDoor.C

namespace Go.Proofs.YthaibekbefndlaaGreatDoor.C
open Go.RowKit

theorem add_plain (b off j : Nat) : (⟨b, off, none⟩ : Addr).add j = ⟨b, off + j, none⟩ := by unfold Addr.add; split <;> simp_all
theorem row_ne {w : World} {base : Nat} {e : TypeId} {size n : Nat} {u : Value} {xs : List Value} (h : w.ownsRow base e size u n xs) {g : Nat} {cur : Array Value} {t : TypeId} {f : Nat × Nat} (hg : w.heap[g]? = some (.cells cur t f)) (hte : t ≠ e) : u.ownBlock ≠ some g := by
 intro he
 rcases h.2 with ⟨rfl, _⟩ | ⟨g', c, cur', rfl, _, hg', _⟩
 ·simp [Value.ownBlock] at he
 ·obtain rfl : g' = g := by simpa [Value.ownBlock] using he
  rw [hg] at hg'
  simp at hg'
  exact hte hg'.2.1

def tkC (x : Tok) : List Value := [.int .u8 x.k, .string (str x.t), .int .i64 x.n, .int .i64 x.at_]
def tksC (ts : List Tok) : List Value := ts.flatMap tkC
theorem tksC_snoc (ts : List Tok) (x : Tok) : tksC (ts ++ [x]) = tksC ts ++ tkC x := by simp [tksC]
theorem infoTok : (Tryz.prog.info? 92).map (fun i => (i.zero, i.size, i.bytes)) = some (some (.agg #[.int .u8 0, .string ⟨#[]⟩, .int .i64 0, .int .i64 0]), 4, 40) := by kernel_rfl

def RD (w : World) (R : Nat) (s : ByteArray) (k : Nat) (ts : List Tok) : Prop :=
 glN ≤ R ∧ ∃ v, w.heap[R]? = some (.cells #[.string s, .int .i64 k, v] 85 (0, 0)) ∧ w.ownsRow R 92 4 v ts.length (tksC ts)
section
variable {w w' : World} {R k : Nat} {s : ByteArray} {ts : List Tok}
theorem rd_cells {v : Value} (hb : w.heap[R]? = some (.cells #[.string s, .int .i64 k, v] 85 (0, 0))) :
  w.cell? ⟨R, 0, none⟩ = some (.string s) ∧ w.cell? ⟨R, 1, none⟩ = some (.int .i64 k) ∧ w.cell? ⟨R, 2, none⟩ = some v ∧ w.frozen? ⟨R, 1, none⟩ = false ∧ w.frozen? ⟨R, 2, none⟩ = false := by
 simp [World.cell?, World.frozen?, hb]
theorem RD.lt (h : RD w R s k ts) : R < w.heap.size := by
 obtain ⟨_, v, hb, _⟩ := h
 exact (Array.getElem?_eq_some_iff.1 hb).1
theorem RD.drewN (h : RD w R s k ts) (n : Nat) : RD (w.drewN n) R s k ts := h
theorem RD.next (h : RD w R s k ts) (hb : Below w.heap.size w w') : RD w' R s k ts := by
 have hlt := h.lt
 obtain ⟨h0, v, h1, h2⟩ := h
 exact ⟨h0, v, (hb.block R hlt).trans h1, own_keep h2 hb⟩
theorem RD.seek (h : RD w R s k ts) (k' : Nat) : RD (w.setCell ⟨R, 1, none⟩ (.int .i64 k')) R s k' ts := by
 obtain ⟨h0, v, h1, h2⟩ := h
 have hne := row_ne h2 h1 (by decide)
 refine ⟨h0, v, ?_, h2.kept (Lib.grownBy_setCell w R 1 _) (.inr hne)⟩
 obtain ⟨hlt, hk⟩ := Array.getElem?_eq_some_iff.1 h1
 show (w.heap.modify R _)[R]? = _
 rw [Array.getElem?_eq_getElem (by rw [Array.size_modify]; exact hlt), Array.getElem_modify_self, hk]
 rfl
theorem RD.gl (h : RD w R s k ts) : glN ≤ R := h.1
end
theorem below_seek {w W : World} {R : Nat} (h : Below R w W) (i : Nat) (u : Value) : Below R w (W.setCell ⟨R, i, none⟩ u) := h.setCell (p := ⟨R, i, none⟩) (Nat.le_refl R) u
theorem own_slice4 {w : World} {base : Nat} {e : TypeId} {v : Value} {n : Nat} {xs : List Value} (h : w.ownsRow base e 4 v n xs) : ∃ A c, v = .slice A n c ∧ n ≤ c ∧ c ≤ maxLen := by
 rcases h.2 with ⟨rfl, h0⟩ | ⟨g, c, cur, rfl, _, _, hc, hm, _⟩
 ·obtain rfl : n = 0 := by have := h.1; rw [h0] at this; simp at this; omega
  exact ⟨none, 0, rfl, Nat.le_refl _, Nat.zero_le _⟩
 ·exact ⟨_, c, rfl, hc, hm⟩

def Kt (w w' : World) : Prop := ∀ (b : Nat) (cs : Array Value) (t : TypeId) (f : Nat × Nat), w.heap[b]? = some (.cells cs t f) → t ≠ 92 → t ≠ 85 → w'.heap[b]? = some (.cells cs t f)
theorem Kt.refl (w : World) : Kt w w := fun _ _ _ _ h _ _ => h
theorem Kt.trans {a b c : World} (h : Kt a b) (k : Kt b c) : Kt a c := fun j cs t f h1 h2 h3 => k j cs t f (h j cs t f h1 h2 h3) h2 h3
theorem Kt.of_below {w w' : World} (h : Below w.heap.size w w') : Kt w w' := fun b _ _ _ h1 _ _ => (h.block b (Array.getElem?_eq_some_iff.1 h1).1).trans h1
theorem Kt.drewN (w : World) (n : Nat) : Kt w (w.drewN n) := fun _ _ _ _ h _ _ => h
theorem Kt.setCell {w : World} {b : Nat} {cs : Array Value} {t : TypeId} {f : Nat × Nat} (hb : w.heap[b]? = some (.cells cs t f)) (ht : t = 92 ∨ t = 85) (i : Nat) (u : Value) : Kt w (w.setCell ⟨b, i, none⟩ u) := by
 intro j cs' t' f' h1 h2 h3
 refine (Below.heap_setCell _ _ _ _ (fun e => ?_)).trans h1
 have e' : j = b := e
 subst e'
 rw [hb] at h1
 simp at h1
 rcases ht with h | h
 ·exact h2 (h1.2.1 ▸ h)
 ·exact h3 (h1.2.1 ▸ h)
theorem Kt.grown {w w' : World} {base n size : Nat} {v : Value} {xs : List Value} (h : w.ownsRow base 92 size v n xs) (hg : w.grownBy w' v.ownBlock) : Kt w w' := by
 intro j cs t f h1 h2 h3
 exact (hg.block j (Array.getElem?_eq_some_iff.1 h1).1 (fun e => row_ne h h1 h2 e.symm)).trans h1
def Bk (R : Nat) (w w' : World) : Prop := Below R w w' ∧ Kt w w'
theorem bk_refl (R : Nat) (w : World) : Bk R w w := ⟨Below.refl _ _, Kt.refl w⟩
theorem Bk.trans {R : Nat} {a b c : World} (h : Bk R a b) (k : Bk R b c) : Bk R a c := ⟨h.1.trans k.1, h.2.trans k.2⟩
theorem bk_drewN (R : Nat) (w : World) (n : Nat) : Bk R w (w.drewN n) := ⟨below_drewN0 (Below.refl _ _) n, Kt.drewN w n⟩
theorem bk_of {R : Nat} {w w' : World} (h : Below w.heap.size w w') (hR : R ≤ w.heap.size) : Bk R w w' := ⟨h.mono hR, Kt.of_below h⟩
theorem bk_seek {w W : World} {R k : Nat} {s : ByteArray} {ts : List Tok} (h : Bk R w W) (hd : RD W R s k ts) (i : Nat) (u : Value) : Bk R w (W.setCell ⟨R, i, none⟩ u) := by
 obtain ⟨_, v, hb, _⟩ := hd
 exact ⟨h.1.setCell (p := ⟨R, i, none⟩) (Nat.le_refl R) u, h.2.trans (Kt.setCell hb (.inr rfl) i u)⟩

def Stepped (w : World) (R : Nat) (s : ByteArray) (b : Bool) (k : Nat) (ts : List Tok) (e : Ending) (w' : World) : Prop := e = .returned (.bool b) ∧ RD w' R s k ts ∧ Bk R w w'

theorem drop_ba {s : ByteArray} {k : Nat} (h : k < s.size) : s.data.toList.drop k = s[k]'h :: s.data.toList.drop (k + 1) := by
 have h' : k < s.data.toList.length := by rw [size_list]; exact h
 rw [List.drop_eq_getElem_cons h']
 rfl

set_option maxHeartbeats 1000000 in
theorem rest_any (w : World) (R k : Nat) (s : ByteArray) (ts : List Tok) (h : RD w R s k ts) (hk : k ≤ s.size) (_hs : s.size ≤ 4000) :
  Calls Tryz.prog 113 #[.pointer (some ⟨R, 0, none⟩)] w fun e w' => e = .returned (.string (str (s.data.toList.drop k))) ∧ ∃ n, w' = w.drewN n := by
 obtain ⟨_, v, hb, _⟩ := h
 obtain ⟨c0, c1, _, _, _⟩ := rd_cells hb
 have e1 : s.extract k s.size = str (s.data.toList.drop k) := by rw [extract_str, ← size_list, List.take_length]
 have k0 : (0 : Int) ≤ (k : Int) := by omega
 have k1 : (k : Int) ≤ (s.size : Int) := by omega
 have E1 := Lib.hid e1
 clear hb e1
 go_enter Tryz.func113, Tryz.ntmps113
 go_wp2
 go_quiet (fail)
 go_wp2
 go_ret
 exact ⟨by rw [← E1.out]; rfl, _, rfl⟩

theorem nat_ne {n m : Nat} (h : n ≠ m) : ((n : Int) != (m : Int)) = true := by simp; omega
set_option maxHeartbeats 1000000 in
theorem blank_no (w : World) (R k : Nat) (s : ByteArray) (ts : List Tok) (h : RD w R s k ts) (hk : k < s.size) (_hs : s.size ≤ 4000) (h1 : (s[k]'hk).toNat ≠ 32) (h2 : (s[k]'hk).toNat ≠ 9) :
  Calls Tryz.prog 67 #[.pointer (some ⟨R, 0, none⟩)] w (Stepped w R s false k ts) := by
 have H := Lib.hid h
 obtain ⟨_, v, hb, _⟩ := h
 obtain ⟨c0, c1, _, _, _⟩ := rd_cells hb
 have k0 : (0 : Int) ≤ (k : Int) := by omega
 have k1 : (k : Int) < (s.size : Int) := by omega
 have q1 : (((s[k]'hk).toNat : Int) != 32) = true := nat_ne h1
 have q2 : (((s[k]'hk).toNat : Int) != 9) = true := nat_ne h2
 clear hb h1 h2
 go_enter Tryz.func67, Tryz.ntmps67
 go_wp2
 go_quiet (fail)
 go_wp2
 go_ret
 exact ⟨rfl, H.out.drewN _, bk_drewN _ _ _⟩
set_option maxHeartbeats 1000000 in
theorem blank_32 (w : World) (R k : Nat) (s : ByteArray) (ts : List Tok) (h : RD w R s k ts) (hk : k < s.size) (_hs : s.size ≤ 4000) (h1 : (s[k]'hk).toNat = 32) :
  Calls Tryz.prog 67 #[.pointer (some ⟨R, 0, none⟩)] w (Stepped w R s true (k + 1) ts) := by
 have H := Lib.hid h
 obtain ⟨_, v, hb, _⟩ := h
 obtain ⟨c0, c1, _, f1, _⟩ := rd_cells hb
 have k0 : (0 : Int) ≤ (k : Int) := by omega
 have k1 : (k : Int) < (s.size : Int) := by omega
 have q1 : (((s[k]'hk).toNat : Int) != 32) = false := by simp; omega
 clear hb h1
 go_enter Tryz.func67, Tryz.ntmps67
 go_wp2
 go_quiet (fail)
 go_wp2
 go_ret
 exact ⟨rfl, (H.out.drewN _).seek _, bk_seek (bk_drewN _ _ _) (H.out.drewN _) 1 _⟩
set_option maxHeartbeats 1000000 in
theorem blank_9 (w : World) (R k : Nat) (s : ByteArray) (ts : List Tok) (h : RD w R s k ts) (hk : k < s.size) (_hs : s.size ≤ 4000) (h1 : (s[k]'hk).toNat = 9) :
  Calls Tryz.prog 67 #[.pointer (some ⟨R, 0, none⟩)] w (Stepped w R s true (k + 1) ts) := by
 have H := Lib.hid h
 obtain ⟨_, v, hb, _⟩ := h
 obtain ⟨c0, c1, _, f1, _⟩ := rd_cells hb
 have k0 : (0 : Int) ≤ (k : Int) := by omega
 have k1 : (k : Int) < (s.size : Int) := by omega
 have q1 : (((s[k]'hk).toNat : Int) != 32) = true := by simp; omega
 have q2 : (((s[k]'hk).toNat : Int) != 9) = false := by simp; omega
 clear hb h1
 go_enter Tryz.func67, Tryz.ntmps67
 go_wp2
 go_quiet (fail)
 go_wp2
 go_ret
 exact ⟨rfl, (H.out.drewN _).seek _, bk_seek (bk_drewN _ _ _) (H.out.drewN _) 1 _⟩
set_option maxHeartbeats 1000000 in
theorem lineEnd_no (w : World) (R k : Nat) (s : ByteArray) (ts : List Tok) (h : RD w R s k ts) (hk : k < s.size) (_hs : s.size ≤ 4000) (h1 : (s[k]'hk).toNat ≠ 10) :
  Calls Tryz.prog 69 #[.pointer (some ⟨R, 0, none⟩)] w (Stepped w R s false k ts) := by
 have H := Lib.hid h
 obtain ⟨_, v, hb, _⟩ := h
 obtain ⟨c0, c1, _, f1, _⟩ := rd_cells hb
 have k0 : (0 : Int) ≤ (k : Int) := by omega
 have k1 : (k : Int) < (s.size : Int) := by omega
 have q1 : (((s[k]'hk).toNat : Int) != 10) = true := nat_ne h1
 clear hb h1
 go_enter Tryz.func69, Tryz.ntmps69
 go_wp2
 go_quiet (fail)
 go_wp2
 go_ret
 exact ⟨rfl, H.out.drewN _, bk_drewN _ _ _⟩
set_option maxHeartbeats 1000000 in
theorem remark_no (w : World) (R k : Nat) (s : ByteArray) (ts : List Tok) (h : RD w R s k ts) (hk : k < s.size) (_hs : s.size ≤ 4000) (h1 : (s[k]'hk).toNat ≠ 37) :
  Calls Tryz.prog 68 #[.pointer (some ⟨R, 0, none⟩)] w (Stepped w R s false k ts) := by
 have H := Lib.hid h
 obtain ⟨_, v, hb, _⟩ := h
 obtain ⟨c0, c1, _, f1, _⟩ := rd_cells hb
 have k0 : (0 : Int) ≤ (k : Int) := by omega
 have k1 : (k : Int) < (s.size : Int) := by omega
 have q1 : (((s[k]'hk).toNat : Int) != 37) = true := nat_ne h1
 clear hb h1
 go_enter Tryz.func68, Tryz.ntmps68
 go_wp2
 go_quiet (fail)
 go_wp2
 go_ret
 exact ⟨rfl, H.out.drewN _, bk_drewN _ _ _⟩
set_option maxHeartbeats 1000000 in
theorem remark_yes (w : World) (R k : Nat) (s : ByteArray) (ts : List Tok) (h : RD w R s k ts) (hk : k < s.size) (hs : s.size ≤ 4000) (h1 : (s[k]'hk).toNat = 37) :
  Calls Tryz.prog 68 #[.pointer (some ⟨R, 0, none⟩)] w (Stepped w R s true (k + ((s.data.toList.drop k).takeWhile (· ≠ 10)).length) ts) := by
 have H := Lib.hid h
 have hrest := fun n => rest_any (w.drewN n) R k s ts (h.drewN n) (by omega) hs
 have hll : (s.data.toList.drop k).length ≤ 4000 := by rw [List.length_drop, size_list]; omega
 have htl := (List.takeWhile_prefix (l := s.data.toList.drop k) (fun x : UInt8 => decide (x ≠ 10))).length_le
 have hcut := fun W => cut_any (s.data.toList.drop k) 10 (by omega) W
 obtain ⟨_, v, hb, _⟩ := h
 have hcell := fun n : Nat => rd_cells (w := w.drewN n) hb
 obtain ⟨c0, c1, _, f1, _⟩ := rd_cells hb
 have k0 : (0 : Int) ≤ (k : Int) := by omega
 have k1 : (k : Int) < (s.size : Int) := by omega
 have q1 : (((s[k]'hk).toNat : Int) != 37) = false := by simp; omega
 have hsz := str_size ((s.data.toList.drop k).takeWhile (· ≠ 10))
 have HSZ := Lib.hid hsz
 obtain ⟨m, hm⟩ : ∃ m, ((s.data.toList.drop k).takeWhile (· ≠ 10)).length = m := ⟨_, rfl⟩
 rw [hm] at htl HSZ ⊢
 have hm2 : m ≤ 4000 := by omega
 generalize s.data.toList.drop k = L at *
 generalize L.takeWhile (· ≠ 10) = T at *
 clear hb h1 hll htl hsz hm
 go_enter Tryz.func68, Tryz.ntmps68
 go_wp2
 go_quiet (fail)
 go_wp2_with fail
 refine (hrest _).mono ?_
 rintro e w1 ⟨rfl, n1, rfl⟩
 go_wp2_with fail
 obtain ⟨b, is, hc⟩ := hcut (w.drewN (nq + n1))
 refine hc.mono ?_
 rintro e w2 ⟨rfl, n2, rfl⟩
 have e3 : (str T).size = m := HSZ.out
 go_wp2
 go_ret
 exact ⟨rfl, (H.out.drewN _).seek _, bk_seek (bk_drewN _ _ _) (H.out.drewN _) 1 _⟩

theorem clone_any (s : ByteArray) (w : World) (hs : s.size ≤ 4000) : Calls Tryz.prog 165 #[.string s] w fun e w' => e = .returned (.string s) ∧ Below w.heap.size w w' := by
 have h := Tryz.stringslite_Clone s w (by omega)
 go_enter Tryz.func165, Tryz.ntmps165
 go_wp2_with (go_at_call 195; refine h.mono ?_; rintro e w' ⟨rfl, hb⟩)
 go_ret
 exact ⟨rfl, hb⟩
end Go.Proofs.YthaibekbefndlaaGreatDoor.C

namespace Go.Proofs.YthaibekbefndlaaGreatDoor.C
open Go.RowKit

theorem heap_new (w : World) (o : Obj) : (w.alloc o).heap[w.heap.size]? = some o := by
 show (w.heap.push o)[w.heap.size]? = _
 simp
theorem heap_lt (w : World) (o : Obj) {j : Nat} (h : j < w.heap.size) : (w.alloc o).heap[j]? = w.heap[j]? := by
 show (w.heap.push o)[j]? = _
 rw [Array.getElem?_push, if_neg (by omega)]

def TkAt (w : World) (b : Nat) (x : Tok) : Prop := w.heap[b]? = some (.cells #[.int .u8 x.k, .string (str x.t), .int .i64 x.n, .int .i64 x.at_] 92 (0, 0))
theorem TkAt.cells {w : World} {b : Nat} {x : Tok} (h : TkAt w b x) : w.cell? ⟨b, 0, none⟩ = some (.int .u8 x.k) ∧ w.cell? ⟨b, 1, none⟩ = some (.string (str x.t)) ∧ w.cell? ⟨b, 2, none⟩ = some (.int .i64 x.n) ∧ w.cell? ⟨b, 3, none⟩ = some (.int .i64 x.at_) ∧ w.frozen? ⟨b, 1, none⟩ = false := by
 simp [World.cell?, World.frozen?, show w.heap[b]? = _ from h]
theorem TkAt.set1 {w : World} {b : Nat} {x : Tok} (h : TkAt w b x) : TkAt (w.setCell ⟨b, 1, none⟩ (.string (str x.t))) b x := by
 obtain ⟨hlt, hk⟩ := Array.getElem?_eq_some_iff.1 h
 show (w.heap.modify b _)[b]? = _
 rw [Array.getElem?_eq_getElem (by rw [Array.size_modify]; exact hlt), Array.getElem_modify_self, hk]
 rfl
theorem RD.put {w : World} {R k k' : Nat} {s : ByteArray} {ts : List Tok} {v0 v' : Value} (h0 : glN ≤ R) (hb : w.heap[R]? = some (.cells #[.string s, .int .i64 k, v0] 85 (0, 0))) (hown : w.ownsRow R 92 4 v' ts.length (tksC ts)) :
  RD ((w.setCell ⟨R, 2, none⟩ v').setCell ⟨R, 1, none⟩ (.int .i64 k')) R s k' ts := by
 have hne := row_ne hown hb (by decide)
 have h1 : (w.setCell ⟨R, 2, none⟩ v').heap[R]? = some (.cells #[.string s, .int .i64 k, v'] 85 (0, 0)) := by
  obtain ⟨hlt, hk⟩ := Array.getElem?_eq_some_iff.1 hb
  show (w.heap.modify R _)[R]? = _
  rw [Array.getElem?_eq_getElem (by rw [Array.size_modify]; exact hlt), Array.getElem_modify_self, hk]
  rfl
 have h2 : RD (w.setCell ⟨R, 2, none⟩ v') R s k ts := ⟨h0, v', h1, hown.kept (Lib.grownBy_setCell w R 2 _) (.inr hne)⟩
 exact h2.seek k'
theorem tok_one (x : Tok) : ∀ u ∈ tkC x, u.oneCell' = true := by
 intro u hu
 simp only [tkC, List.mem_cons, List.not_mem_nil, or_false] at hu
 rcases hu with rfl | rfl | rfl | rfl <;> rfl
theorem tok_new (w : World) (x : Tok) (t : TypeId) (g : Nat) (hg : w.heap.size = g) : ∀ j u, (tkC x)[j]? = some u → (w.alloc (.cells #[.int .u8 x.k, .string (str x.t), .int .i64 x.n, .int .i64 x.at_] t)).cell? ((⟨g, 0, none⟩ : Addr).add j) = some u := by
 subst hg
 intro j u hu
 rw [add_plain, Nat.zero_add, World.cell?_alloc_new]
 simpa [tkC] using hu

set_option maxRecDepth 100000 in
set_option maxHeartbeats 4000000 in
theorem add_any (w : World) (R k : Nat) (s : ByteArray) (ts : List Tok) (h : RD w R s k ts) (kd n m : Nat) (t : List UInt8) (a0 : Int) (hk : k + m ≤ 5000) (ht : t.length ≤ 4000) (hts : ts.length ≤ 5000) :
  Calls Tryz.prog 115 #[.pointer (some ⟨R, 0, none⟩), .agg #[.int .u8 kd, .string (str t), .int .i64 n, .int .i64 a0], .int .i64 m] w fun e w' => e = .returned (.tuple #[]) ∧ RD w' R s (k + m) (ts ++ [⟨kd, t, n, k⟩]) ∧ Bk R w w' := by
 obtain ⟨i0, hi, hz0, hz1, hz2⟩ := info_parts infoTok
 have H := Lib.hid h
 have hlt := h.lt
 obtain ⟨h0, v, hb, hown⟩ := h
 have hcl := fun W => clone_any (str t) W (by rw [str_size]; exact ht)
 have HO := Lib.hid hown
 obtain ⟨c0, c1, c2, f1, f2⟩ := rd_cells hb
 have c1a : ∀ o, (w.alloc o).cell? ⟨R, 1, none⟩ = some (.int .i64 k) := fun o => by rw [World.cell?_alloc_lt w o _ hlt]; exact c1
 have HB := Lib.hid hb
 clear hb hown c1 c0 c2 f1 f2
 go_enter Tryz.func115, Tryz.ntmps115
 go_wp2_with fail
 refine (hcl _).mono ?_
 rintro e w1 ⟨rfl, hb1⟩
 have hW : Below w.heap.size w (w.alloc (.cells #[.int .u8 kd, .string (str t), .int .i64 n, .int .i64 k] 92)) := (Below.refl _ _).alloc (Nat.le_refl _) _
 have hT1 : TkAt w1 w.heap.size ⟨kd, t, n, k⟩ := (hb1.block w.heap.size (by simp)).trans (heap_new w _)
 have hB1 : Below w.heap.size w w1 := hW.trans (hb1.mono (by simp))
 have hR1 := (hB1.block R hlt).trans HB.out
 have hO1 := own_keep HO.out hB1
 have hv : v.ownBlock ≠ some w.heap.size := fun e => by have := (HO.out.lt _ e).2; omega
 have hs1 := hb1.size
 have hs1' : w.heap.size < w1.heap.size := by simp at hs1; omega
 clear hb1 hW hs1
 obtain ⟨q0, q1, q2, q3, qf⟩ := hT1.cells
 simp only at q0 q1 q2 q3
 have hT2 := hT1.set1
 simp only at hT2
 have hO2 := hO1.kept (Lib.grownBy_setCell w1 w.heap.size 1 (.string (str t))) (.inr hv)
 have hR2 : (w1.setCell ⟨w.heap.size, 1, none⟩ (.string (str t))).heap[R]? = _ := (Below.heap_setCell _ _ _ _ (by show R ≠ w.heap.size; omega)).trans hR1
 have hB2 : Below R w (w1.setCell ⟨w.heap.size, 1, none⟩ (.string (str t))) := (hB1.mono (by omega)).setCell (p := ⟨w.heap.size, 1, none⟩) (by show R ≤ w.heap.size; omega) _
 have hK2 : Kt w (w1.setCell ⟨w.heap.size, 1, none⟩ (.string (str t))) := (Kt.of_below hB1).trans (Kt.setCell hT1 (.inl rfl) 1 _)
 have hs2 : (w1.setCell ⟨w.heap.size, 1, none⟩ (.string (str t))).heap.size = w1.heap.size := by simp [World.setCell]
 generalize w.heap.size = b at *
 have HT := Lib.hid hT1
 have HO1 := Lib.hid hO1
 have HR1 := Lib.hid hR1
 have HB1 := Lib.hid hB1
 clear hT1 hO1 hR1 hB1
 go_wp2
 generalize w1.setCell ⟨b, 1, none⟩ (.string (str t)) = w2 at *
 clear q0 q1 q2 q3 qf
 obtain ⟨q0, q1, q2, q3, qf⟩ := hT2.cells
 simp only at q0 q1 q2 q3
 obtain ⟨d0, d1, d2, e1, e2⟩ := rd_cells hR2
 have hlt2 : R < w2.heap.size := by omega
 have HT2 := Lib.hid hT2
 have HO2 := Lib.hid hO2
 have HR2 := Lib.hid hR2
 have HB2 := Lib.hid hB2
 have HK2 := Lib.hid hK2
 have hRv := row_ne hO2 hR2 (by decide)
 have d2a : ∀ o, (w2.alloc o).cell? ⟨R, 2, none⟩ = some v := fun o => by rw [World.cell?_alloc_lt w2 o _ hlt2]; exact d2
 have q0a : ∀ o, (w2.alloc o).cell? ⟨b, 0, none⟩ = some (.int .u8 kd) := fun o => by rw [World.cell?_alloc_lt w2 o _ (by show b < _; omega)]; exact q0
 clear hT2 hO2 hR2 hB2 hK2 qf hs2
 go_region_law ((refine step_append_lies _ rfl (.tmp 19) (.tmp 21) 57 rfl R 92 i0 (.agg #[.int .u8 0, .string ⟨#[]⟩, .int .i64 0, .int .i64 0]) 4 40 Tryz.underlying57 hi hz0 hz1 hz2 rfl (by decide) v ts.length (tksC ts) (by simp [Act.eval]) (HO2.out.alloc _) ⟨w2.heap.size, 0, none⟩ 1 1 (tkC ⟨kd, t, n, k⟩) (by simp [Act.eval]) rfl (tok_new w2 ⟨kd, t, n, k⟩ 92 _ rfl) (tok_one _) (by decide) (by unfold maxLen; omega) (by omega) (by simp; omega) _ rfl ?_); intro g cap w3 hown3 hgrow3 _ _; have hR3 := (hgrow3.block R (by simp; omega) (fun e => hRv e.symm)).trans ((heap_lt w2 _ hlt2).trans HR2.out); obtain ⟨_, g1, g2, gf1, gf2⟩ := rd_cells hR3)
 all_goals
  have HO3 := Lib.hid hown3
  have HG3 := Lib.hid hgrow3
  have HR3 := Lib.hid hR3
  clear hown3 hgrow3 hR3
  go_wp2
  go_end0
  refine ⟨rfl, ?_, ?_⟩
  ·have := RD.put (k' := k + m) h0 HR3.out (ts := ts ++ [⟨kd, t, n, k⟩]) (by rw [tksC_snoc, List.length_append]; exact HO3.out)
   rw [Int.natCast_add] at this
   exact this
  ·have hRR : (w3.setCell ⟨R, 2, none⟩ (.slice (some ⟨g, 0, none⟩) (ts.length + 1) cap)).heap[R]? = some (.cells #[.string s, .int .i64 k, .slice (some ⟨g, 0, none⟩) (ts.length + 1) cap] 85 (0, 0)) := by
    obtain ⟨hlt3, hk3⟩ := Array.getElem?_eq_some_iff.1 HR3.out
    show (w3.heap.modify R _)[R]? = _
    rw [Array.getElem?_eq_getElem (by rw [Array.size_modify]; exact hlt3), Array.getElem_modify_self, hk3]
    rfl
   refine ⟨below_seek (below_seek (((HB2.out.alloc (by omega) _).drew).grown HG3.out (by simp; omega) (fun j e => (HO2.out.lt j e).1)) 2 _) 1 _, ?_⟩
   refine HK2.out.trans (Kt.trans ?_ ((Kt.setCell HR3.out (.inr rfl) 2 _).trans (Kt.setCell hRR (.inr rfl) 1 _)))
   have hk3 : Kt (w2.alloc (.cells #[.int .u8 kd, .string (str t), .int .i64 n, .int .i64 k] 92)).drew w3 := Kt.grown (w := (w2.alloc (.cells #[.int .u8 kd, .string (str t), .int .i64 n, .int .i64 k] 92)).drew) (HO2.out.alloc _) HG3.out
   exact (Kt.of_below (((Below.refl _ w2).alloc (Nat.le_refl _) _).drew)).trans hk3

theorem tks_at : ∀ {ts : List Tok} {j : Nat} {x : Tok} (_ : ts[j]? = some x) (i : Nat) (_ : i < 4), (tksC ts)[j * 4 + i]? = (tkC x)[i]?
 | [], j, x, h, i, hi => by simp at h
 | y :: r, 0, x, h, i, hi => by
  simp at h
  subst h
  show (tkC y ++ tksC r)[0 * 4 + i]? = _
  rw [Nat.zero_mul, Nat.zero_add, List.getElem?_append_left (by simp [tkC]; omega)]
 | y :: r, j + 1, x, h, i, hi => by
  simp at h
  show (tkC y ++ tksC r)[(j + 1) * 4 + i]? = _
  rw [List.getElem?_append_right (by simp [tkC]; omega), show (j + 1) * 4 + i - (tkC y).length = j * 4 + i by simp [tkC]; omega]
  exact tks_at h i hi

theorem snoc_or {α : Type} (l : List α) : l = [] ∨ ∃ r x, l = r ++ [x] := by
 rcases List.eq_nil_or_concat l with h | ⟨r, x, h⟩
 ·exact .inl h
 ·exact .inr ⟨r, x, by simpa using h⟩
theorem add_off0 (g k : Nat) : (⟨g, 0, none⟩ : Addr).add k = ⟨g, k, none⟩ := by rw [add_plain, Nat.zero_add]

set_option maxRecDepth 100000 in
set_option maxHeartbeats 4000000 in
theorem endLine_any (w : World) (R k : Nat) (s : ByteArray) (ts : List Tok) (h : RD w R s k ts) (hk : k ≤ 5000) (hts : ts.length ≤ 5000) :
  Calls Tryz.prog 75 #[.pointer (some ⟨R, 0, none⟩)] w fun e w' => e = .returned (.tuple #[]) ∧ RD w' R s k (endL ts k) ∧ Bk R w w' := by
 have H := Lib.hid h
 obtain ⟨h0, v, hb, hown⟩ := h
 obtain ⟨c0, c1, c2, f1, f2⟩ := rd_cells hb
 obtain ⟨A, c, rfl, hnc, hcm⟩ := own_slice4 hown
 rcases snoc_or ts with rfl | ⟨r, x, rfl⟩
 ·have hl : endL [] k = [] := rfl
  rw [hl]
  simp only [List.length_nil] at c2
  clear hb hown
  go_enter Tryz.func75, Tryz.ntmps75
  go_wp2
  go_end0
  exact ⟨rfl, H.out, bk_refl _ _⟩
 ·obtain ⟨g, cap, hv, hbg, hlt⟩ := hown.form (by simp)
  injection hv with hA _ hcc
  subst hA
  have hcell := hown.cells (g := g) rfl (r.length * 4) (.int .u8 x.k) (by rw [show r.length * 4 = r.length * 4 + 0 from rfl, tks_at (x := x) (by simp) 0 (by omega)]; rfl)
  have hcell' := hcell
  rw [add_off0] at hcell'
  rw [List.length_append, List.length_cons, List.length_nil] at c2 hnc hts
  obtain ⟨j, hj⟩ : ∃ j, r.length = j := ⟨_, rfl⟩
  rw [hj] at c2 hnc hcell hcell' hts
  have j0 : (0 : Int) ≤ (j : Int) := by omega
  have j1 : (j : Int) < (j : Int) + 1 := by omega
  have j2 : (0 : Int) < (j : Int) + 1 := by omega
  by_cases h6 : x.k = 6
  ·have hl : endL (r ++ [x]) k = r ++ [x] := by unfold endL; rw [lastK_snoc, if_pos h6]
   rw [hl]
   have q : ((x.k : Int) != 6) = false := by simp; omega
   clear hb hown hj h6
   go_enter Tryz.func75, Tryz.ntmps75
   go_wp2
   go_end0
   exact ⟨rfl, H.out, bk_refl _ _⟩
  ·have hl : endL (r ++ [x]) k = r ++ [x] ++ [⟨6, [], 0, k⟩] := by unfold endL; rw [lastK_snoc, if_neg h6]
   rw [hl]
   have q : ((x.k : Int) != 6) = true := nat_ne h6
   have hadd := add_any w R k s (r ++ [x]) H.out 6 0 0 [] 0 (by omega) (by simp) (by simp; omega)
   clear hb hown hj h6
   go_enter Tryz.func75, Tryz.ntmps75
   go_wp2_with (go_at_call 115; refine hadd.mono ?_; rintro e w1 ⟨rfl, hr, hb1⟩)
   go_end0
   exact ⟨rfl, hr, hb1⟩

set_option maxHeartbeats 1000000 in
theorem lineEnd_yes (w : World) (R k : Nat) (s : ByteArray) (ts : List Tok) (h : RD w R s k ts) (hk : k < s.size) (hs : s.size ≤ 4000) (hts : ts.length ≤ 5000) (h1 : (s[k]'hk).toNat = 10) :
  Calls Tryz.prog 69 #[.pointer (some ⟨R, 0, none⟩)] w (Stepped w R s true (k + 1) (endL ts k)) := by
 have H := Lib.hid h
 have hend := fun n => endLine_any (w.drewN n) R k s ts (h.drewN n) (by omega) hts
 obtain ⟨_, v, hb, _⟩ := h
 obtain ⟨c0, c1, _, f1, _⟩ := rd_cells hb
 have k0 : (0 : Int) ≤ (k : Int) := by omega
 have k1 : (k : Int) < (s.size : Int) := by omega
 have q1 : (((s[k]'hk).toNat : Int) != 10) = false := by simp; omega
 clear hb h1
 go_enter Tryz.func69, Tryz.ntmps69
 go_wp2
 go_quiet (fail)
 go_wp2_with fail
 refine (hend _).mono ?_
 rintro e w1 ⟨rfl, hr, hb1⟩
 have HR := Lib.hid hr
 obtain ⟨_, v', hb', _⟩ := hr
 obtain ⟨_, d1, _, g1, _⟩ := rd_cells hb'
 clear hb'
 go_wp2
 go_ret
 exact ⟨rfl, HR.out.seek _, bk_seek ((bk_drewN _ _ _).trans hb1) HR.out 1 _⟩
end Go.Proofs.YthaibekbefndlaaGreatDoor.C
