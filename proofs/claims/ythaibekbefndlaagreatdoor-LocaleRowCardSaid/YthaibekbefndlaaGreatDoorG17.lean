/-
  Joined: LcT, LcU, LcV, LdN. Each with what its own head says.
-/
import Derived.Test.YthaibekbefndlaaGreatDoorG16

namespace Go.Proofs.YthaibekbefndlaaGreatDoor.C

def eT : Tok := ⟨6, [], 0, 0⟩
theorem isSign_semi (r : List Tok) : isSign sSemi (tS sSemi :: r) = true := rfl
theorem isSign_end (s : List UInt8) (r : List Tok) : isSign s (eT :: r) = false := by simp [isSign, eT]
theorem scalB_nat {c : Int} (h : scalB c = true) : ((c.toNat : Nat) : Int) = c := by
  unfold scalB at h
  simp at h
  omega
theorem scalB_right {c : Int} (h : scalB c = true) : rightN c.toNat = true := by
  unfold scalB rightB at h
  unfold rightN
  simp at h ⊢
  omega
theorem takeK_hit {ks : List Nat} {t : Tok} (h : t.k ∈ ks) (r : List Tok) : takeK ks (t :: r) = .ok (t, r) := by simp only [takeK, if_pos h]
theorem takeT_hit {k : Nat} {s : List UInt8} {t : Tok} (h : t.k = k ∧ t.t = s) (r : List Tok) : takeT k s (t :: r) = .ok ((), r) := by simp only [takeT, if_pos h]
theorem takeT_sign (s : List UInt8) (r : List Tok) : takeT 2 s (tS s :: r) = .ok ((), r) := takeT_hit ⟨rfl, rfl⟩ r
theorem takeT_word (s : List UInt8) (r : List Tok) : takeT 1 s (tW s :: r) = .ok ((), r) := takeT_hit ⟨rfl, rfl⟩ r
/-- neither a sign between nor one of a range is next -/
def Quiet (r : List Tok) : Prop := isSign sThru r = false
theorem rangeL_one (rs : List (Int × Int)) (x : Int × Int) (hx : rangeB x = true) (r : List Tok) (hr : isSign sThru r = false) : rangeL rs (rangeT x ++ r) = .ok (rs ++ [x], r) := by
  obtain ⟨a, b⟩ := x
  unfold rangeB at hx
  simp only [Bool.and_eq_true, decide_eq_true_eq] at hx
  obtain ⟨⟨h1, h2⟩, h3⟩ := hx
  have e1 := scalB_nat h1
  have e2 := scalB_nat h2
  unfold rangeT
  by_cases h : b = a
  · subst h
    rw [if_pos rfl]
    show rangeL rs (tC b :: r) = _
    unfold rangeL
    rw [takeK_hit (show (tC b).k ∈ [3] from by simp [tC])]
    simp only
    rw [hr, if_neg (by simp)]
    show Except.ok (rs ++ [((b.toNat : Int), (b.toNat : Int))], r) = _
    rw [e1]
  · rw [if_neg h]
    show rangeL rs (tC a :: tS sThru :: tC b :: r) = _
    unfold rangeL
    rw [takeK_hit (show (tC a).k ∈ [3] from by simp [tC])]
    simp only
    rw [if_pos (show isSign sThru (tS sThru :: tC b :: r) = true from rfl)]
    show (match notBelow (tC a) (tC b :: r) with | .error e => _ | .ok (b, r') => _) = _
    unfold notBelow
    rw [takeK_hit (show (tC b).k ∈ [3] from by simp [tC])]
    simp only
    rw [if_neg (show ¬ (tC b).n < (tC a).n from by show ¬ b.toNat < a.toNat; omega)]
    show Except.ok (rs ++ [((a.toNat : Int), (b.toNat : Int))], r) = _
    rw [e1, e2]
theorem ranges_read : ∀ (xs : List (Int × Int)), xs ≠ [] → (xs.all rangeB = true) → ∀ (f : Nat) (acc : List (Int × Int)) (r : List Tok), xs.length ≤ f → isSign sThru r = false → isSign sSemi r = false →
    itemsL rangeL f acc (sepT rangeT xs ++ r) = .ok (acc ++ xs, r)
  | [], h, _ => absurd rfl h
  | [x], _, hx => by
    intro f acc r hf h1 h2
    obtain ⟨f, rfl⟩ : ∃ g, f = g + 1 := ⟨f - 1, by simp at hf; omega⟩
    unfold itemsL
    rw [show sepT rangeT [x] = rangeT x from rfl, rangeL_one acc x (by simpa using hx) r h1]
    simp only
    rw [h2, if_neg (by simp)]
  | x :: y :: xs, _, hx => by
    intro f acc r hf h1 h2
    obtain ⟨f, rfl⟩ : ∃ g, f = g + 1 := ⟨f - 1, by simp at hf; omega⟩
    have hx' : rangeB x = true ∧ (y :: xs).all rangeB = true := by simpa using hx
    unfold itemsL
    rw [show sepT rangeT (x :: y :: xs) ++ r = rangeT x ++ (tS sSemi :: (sepT rangeT (y :: xs) ++ r)) from by simp [sepT], rangeL_one acc x hx'.1 _ rfl]
    simp only
    rw [isSign_semi, if_pos rfl]
    show itemsL rangeL f (acc ++ [x]) (sepT rangeT (y :: xs) ++ r) = _
    rw [ranges_read (y :: xs) (by simp) hx'.2 f (acc ++ [x]) r (by simpa using hf) h1 h2]
    simp
theorem pairL_one (l : List (Int × Int)) (x : Int × Int) (h1 : scalB x.1 = true) (h2 : scalB x.2 = true) (h3 : x.1 ∉ l.map Prod.fst) (r : List Tok) : pairL l (pairT x ++ r) = .ok (l ++ [x], r) := by
  obtain ⟨a, b⟩ := x
  have e1 := scalB_nat h1
  have e2 := scalB_nat h2
  show pairL l (tS sOpen :: tC a :: tS sComma :: tC b :: tS sShut :: r) = _
  unfold pairL
  rw [takeT_sign]
  simp only
  rw [takeK_hit (show (tC a).k ∈ [3] from by simp [tC])]
  simp only
  rw [if_neg (show ¬ ((tC a).n : Int) ∈ l.map Prod.fst from by show ¬ ((a.toNat : Nat) : Int) ∈ _; simp only at e1; rw [e1]; exact h3)]
  rw [takeT_sign]
  simp only
  rw [takeK_hit (show (tC b).k ∈ [3] from by simp [tC])]
  simp only
  rw [takeT_sign]
  show Except.ok (l ++ [((a.toNat : Int), (b.toNat : Int))], r) = _
  simp only at e1 e2
  rw [e1, e2]
theorem pair_mid {a b : List (Int × Int)} {x : Int × Int} (h : pairsB (a ++ x :: b) = true) : scalB x.1 = true ∧ scalB x.2 = true ∧ x.1 ∉ a.map Prod.fst := by
  have := all_range h (i := a.length) (by simp)
  unfold pairAt at this
  rw [at_mid, take_mid] at this
  simp only [Bool.and_eq_true, Bool.not_eq_true', List.contains_eq_mem, decide_eq_false_iff_not] at this
  exact ⟨this.1.1, this.1.2, this.2⟩
theorem pairs_read : ∀ (xs : List (Int × Int)), xs ≠ [] → ∀ (f : Nat) (acc : List (Int × Int)) (r : List Tok), pairsB (acc ++ xs) = true → xs.length ≤ f → isSign sSemi r = false →
    itemsL pairL f acc (sepT pairT xs ++ r) = .ok (acc ++ xs, r)
  | [], h => absurd rfl h
  | [x], _ => by
    intro f acc r hx hf h2
    obtain ⟨f, rfl⟩ : ∃ g, f = g + 1 := ⟨f - 1, by simp at hf; omega⟩
    obtain ⟨g1, g2, g3⟩ := pair_mid hx
    unfold itemsL
    rw [show sepT pairT [x] = pairT x from rfl, pairL_one acc x g1 g2 g3]
    simp only
    rw [h2, if_neg (by simp)]
  | x :: y :: xs, _ => by
    intro f acc r hx hf h2
    obtain ⟨f, rfl⟩ : ∃ g, f = g + 1 := ⟨f - 1, by simp at hf; omega⟩
    obtain ⟨g1, g2, g3⟩ := pair_mid hx
    unfold itemsL
    rw [show sepT pairT (x :: y :: xs) ++ r = pairT x ++ (tS sSemi :: (sepT pairT (y :: xs) ++ r)) from by simp [sepT], pairL_one acc x g1 g2 g3]
    simp only
    rw [isSign_semi, if_pos rfl]
    show itemsL pairL f (acc ++ [x]) (sepT pairT (y :: xs) ++ r) = _
    rw [pairs_read (y :: xs) (by simp) f (acc ++ [x]) r (by simpa using hx) (by simpa using hf) h2]
    simp

/-- a line is read so, whatever stands behind it -/
def LineOk (s : Sta) (l : List Tok) (s' : Sta) : Prop := ∀ r, lineL s (l ++ eT :: r) = .ok (s', r)
def LinesOk : Sta → List (List Tok) → Sta → Prop
  | s, [], s' => s = s'
  | s, l :: r, s' => ∃ s1, LineOk s l s1 ∧ LinesOk s1 r s'
theorem LinesOk.app : ∀ {s s1 s2 : Sta} {a b : List (List Tok)}, LinesOk s a s1 → LinesOk s1 b s2 → LinesOk s (a ++ b) s2
  | s, s1, s2, [], b, h, k => by cases h; exact k
  | s, s1, s2, l :: a, b, ⟨s0, h1, h2⟩, k => ⟨s0, h1, LinesOk.app h2 k⟩
theorem linesOk_read : ∀ {ls : List (List Tok)} {s s' : Sta}, LinesOk s ls s' → ∀ f, ls.length + 1 ≤ f → linesL f s (toksT ls) = .ok s'.l
  | [], s, s', h, f, hf => by
    cases h
    obtain ⟨f, rfl⟩ : ∃ g, f = g + 1 := ⟨f - 1, by omega⟩
    rfl
  | l :: r, s, s', ⟨s1, h1, h2⟩, f, hf => by
    obtain ⟨f, rfl⟩ : ∃ g, f = g + 1 := ⟨f - 1, by omega⟩
    rw [toksT_cons]
    exact (linesL_step (f := f) (h1 (toksT r)) (by simp)).trans (linesOk_read h2 f (by simpa using hf))
theorem end_hit (r : List Tok) : takeK [6] (eT :: r) = .ok (eT, r) := takeK_hit (by simp [eT]) r
theorem lineOk_of {s s' : Sta} {w : List UInt8} {l : List Tok}
    (h : ∀ r, (if w = wClass then classL s (l ++ eT :: r) else if w = wUpper then upperL s (l ++ eT :: r) else if w = wLower then lowerL s (l ++ eT :: r) else if w = wElem then elementL s (l ++ eT :: r) else if w = wOrder then orderL s (l ++ eT :: r) else .error (30, 0)) = .ok (s', eT :: r)) : LineOk s (tW w :: l) s' := by
  intro r
  unfold lineL
  rw [show tW w :: l ++ eT :: r = tW w :: (l ++ eT :: r) from rfl, takeK_hit (show (tW w).k ∈ [1] from by simp [tW])]
  simp only
  rw [show (tW w).t = w from rfl, show (tW w).at_ = 0 from rfl, h r]
  simp only
  rw [end_hit]
theorem cls_line (s : Sta) (c : Cls) (h1 : c.name ∉ s.l.cls.map Cls.name) (h2 : c.rs ≠ []) (h3 : c.rs.all rangeB = true) : LineOk s (clsT c) { s with l := { s.l with cls := s.l.cls ++ [c] } } := by
  refine lineOk_of fun r => ?_
  rw [if_pos rfl]
  unfold classL
  rw [show tW c.name :: sepT rangeT c.rs ++ eT :: r = tW c.name :: (sepT rangeT c.rs ++ eT :: r) from rfl, takeK_hit (show (tW c.name).k ∈ [1] from by simp [tW])]
  simp only
  rw [if_neg (show ¬ (tW c.name).t ∈ s.l.cls.map Cls.name from h1)]
  have hlen : ∀ xs : List (Int × Int), xs.length ≤ (sepT rangeT xs).length := by
    intro xs
    induction xs with
    | nil => simp [sepT]
    | cons x xs ih =>
      have : 1 ≤ (rangeT x).length := by unfold rangeT; split <;> simp
      cases xs with
      | nil => simpa [sepT] using this
      | cons y ys => simp only [sepT, List.length_append, List.length_cons] at ih ⊢; omega
  rw [ranges_read c.rs h2 h3 _ [] (eT :: r) (by have := hlen c.rs; simp; omega) (isSign_end _ _) (isSign_end _ _)]
  rfl
theorem cls_mid {a b : List Cls} {c : Cls} (h : clsB (a ++ c :: b) = true) : c.name ∉ a.map Cls.name ∧ c.rs ≠ [] ∧ c.rs.all rangeB = true ∧ wordlyB c.name = true := by
  have := all_range h (i := a.length) (by simp)
  unfold clsAt at this
  rw [at_mid, take_mid] at this
  simp only [Bool.and_eq_true, Bool.not_eq_true', List.contains_eq_mem, decide_eq_false_iff_not, List.isEmpty_eq_false_iff] at this
  exact ⟨this.1.1.2, this.1.2, this.2, this.1.1.1⟩
theorem cls_lines : ∀ (cs : List Cls) (s : Sta), clsB (s.l.cls ++ cs) = true → LinesOk s (cs.map clsT) { s with l := { s.l with cls := s.l.cls ++ cs } }
  | [], s, _ => by simp [LinesOk]
  | c :: r, s, h => by
    obtain ⟨h1, h2, h3, _⟩ := cls_mid h
    refine ⟨_, cls_line s c h1 h2 h3, ?_⟩
    have := cls_lines r { s with l := { s.l with cls := s.l.cls ++ [c] } } (by simpa using h)
    simpa using this
theorem sepT_pairs (xs : List (Int × Int)) : xs.length ≤ (sepT pairT xs).length := by
  induction xs with
  | nil => simp [sepT]
  | cons x xs ih =>
    cases xs with
    | nil => simp [sepT, pairT]
    | cons y ys => simp only [sepT, List.length_append, List.length_cons, pairT] at ih ⊢; omega
theorem up_lines (s : Sta) (l : List (Int × Int)) (h0 : s.l.up = []) (h : pairsB l = true) : LinesOk s (mapT wUpper l) { s with l := { s.l with up := l } } := by
  unfold mapT
  by_cases hl : l = []
  · subst hl
    rw [if_pos rfl]
    show s = _
    obtain ⟨⟨a, b, c, d⟩, e⟩ := s
    simp only at h0
    subst h0
    rfl
  · rw [if_neg hl]
    refine ⟨_, lineOk_of fun r => ?_, rfl⟩
    rw [if_neg (by decide), if_pos rfl]
    unfold upperL
    rw [h0, pairs_read l hl _ [] (eT :: r) h (by have := sepT_pairs l; simp; omega) (isSign_end _ _)]
    rfl
theorem lo_lines (s : Sta) (l : List (Int × Int)) (h0 : s.l.lo = []) (h : pairsB l = true) : LinesOk s (mapT wLower l) { s with l := { s.l with lo := l } } := by
  unfold mapT
  by_cases hl : l = []
  · subst hl
    rw [if_pos rfl]
    show s = _
    obtain ⟨⟨a, b, c, d⟩, e⟩ := s
    simp only at h0
    subst h0
    rfl
  · rw [if_neg hl]
    refine ⟨_, lineOk_of fun r => ?_, rfl⟩
    rw [if_neg (by decide), if_neg (by decide), if_pos rfl]
    unfold lowerL
    rw [h0, pairs_read l hl _ [] (eT :: r) h (by have := sepT_pairs l; simp; omega) (isSign_end _ _)]
    rfl
end Go.Proofs.YthaibekbefndlaaGreatDoor.C

namespace Go.Proofs.YthaibekbefndlaaGreatDoor.C

theorem elemB_named {e : Elm} (h : elemB e = true) (h0 : e.name ≠ []) : quotB e.cells = true ∧ wordlyB e.name = true ∧ numL e.name = none := by
  obtain ⟨nm, cs, sm⟩ := e
  unfold elemB at h
  simp only at h h0 ⊢
  have hk : quotB cs = true ∧ wordlyB nm = true ∧ (numL nm).isNone = true := by
    match cs, h with
    | [], h => simpa [Bool.and_eq_true, and_assoc] using h
    | [c], h =>
      simp only [Bool.and_eq_true, List.isEmpty_iff] at h
      exact absurd h.2 h0
    | c :: d :: r, h => simpa [Bool.and_eq_true, and_assoc] using h
  exact ⟨hk.1, hk.2.1, by simpa using hk.2.2⟩
theorem elemB_plain {e : Elm} (h : elemB e = true) (h0 : e.name = []) : ∃ c, e.cells = [c] ∧ scalB c = true := by
  obtain ⟨nm, cs, sm⟩ := e
  unfold elemB at h
  simp only at h h0 ⊢
  subst h0
  match cs, h with
  | [], h => simp [wordlyB] at h
  | [c], h =>
    simp only [Bool.and_eq_true] at h
    exact ⟨c, rfl, h.1⟩
  | c :: d :: r, h => simp [wordlyB] at h
theorem quotB_parts {l : List Int} (h : quotB l = true) : 2 ≤ l.length ∧ l.length ≤ 4 ∧ (34 : Int) ∉ l ∧ (10 : Int) ∉ l ∧ canonB l = true := by
  unfold quotB at h
  simp only [Bool.and_eq_true, decide_eq_true_eq, Bool.not_eq_true', List.contains_eq_mem, decide_eq_false_iff_not] at h
  exact ⟨h.1.1.1.1, h.1.1.1.2, h.1.1.2, h.1.2, h.2⟩
theorem cells_bytes {l : List Int} (h : canonB l = true) : cellsOf (bytesOf l) = l := by
  unfold canonB sameB at h
  simp only [Bool.and_eq_true, decide_eq_true_eq] at h
  exact h.2
def namedD (o : List Elm) : List (List UInt8 × List Int) := (o.filter fun e => !e.name.isEmpty).map fun e => (e.name, e.cells)
theorem namedD_snoc (o : List Elm) (e : Elm) : namedD (o ++ [e]) = if e.name = [] then namedD o else namedD o ++ [(e.name, e.cells)] := by
  unfold namedD
  rw [List.filter_append, List.map_append]
  by_cases h : e.name = []
  · rw [if_pos h]; simp [h]
  · rw [if_neg h]
    have : e.name.isEmpty = false := by simpa using h
    simp [this]
theorem lookD_noneO {o : List Elm} {n : List UInt8} (h : ∀ x ∈ o, x.name ≠ n) : lookD (namedD o) n = none := by
  unfold lookD
  rw [Option.map_eq_none_iff, List.find?_eq_none]
  intro x hx
  unfold namedD at hx
  rw [List.mem_map] at hx
  obtain ⟨e, he, rfl⟩ := hx
  simpa using h e (List.mem_filter.1 he).1
theorem lookD_someO : ∀ {o : List Elm} {e : Elm}, e ∈ o → e.name ≠ [] → (∀ x ∈ o, x.name = e.name → x.cells = e.cells) → lookD (namedD o) e.name = some e.cells
  | [], e, h, _, _ => by cases h
  | x :: o, e, h, h0, hu => by
    have ih := fun h' => lookD_someO (o := o) (e := e) h' h0 (fun y hy => hu y (List.mem_cons_of_mem _ hy))
    by_cases hx : x.name = e.name
    · have hx0 : x.name.isEmpty = false := by rw [hx]; simpa using h0
      have hc := hu x (by simp) hx
      unfold lookD namedD
      rw [List.filter_cons, if_pos (by simp [hx0]), List.map_cons, List.find?_cons]
      simp [hx, hc]
    · have he : e ∈ o := by
        rcases List.mem_cons.1 h with rfl | h
        · exact absurd rfl hx
        · exact h
      have := ih he
      unfold lookD namedD at this ⊢
      rw [List.filter_cons]
      split
      · rw [List.map_cons, List.find?_cons]
        simpa [hx] using this
      · exact this
/-- what a right order says of an element, and of those ahead of it -/
structure ElemOk (o : List Elm) (i : Nat) (e : Elm) : Prop where
  el : elemB e = true
  cells : ∀ x ∈ o.take i, x.cells ≠ e.cells
  names : e.name ≠ [] → ∀ x ∈ o.take i, x.name ≠ e.name
  lo : 0 ≤ e.same
  hi : e.same ≤ i
  same : ∃ x, o[e.same.toNat]? = some x ∧ x.same = e.same
theorem ord_at {o : List Elm} (h : ordB o = true) {i : Nat} {e : Elm} (he : o[i]? = some e) : ElemOk o i e := by
  unfold ordB at h
  simp only [Bool.and_eq_true] at h
  have := all_range h.2 (List.getElem?_eq_some_iff.1 he).1
  unfold elemAt at this
  rw [he] at this
  simp only [Bool.and_eq_true, Bool.not_eq_true', List.any_eq_false, Bool.or_eq_true] at this
  obtain ⟨⟨⟨h1, h2⟩, h3⟩, h4⟩ := this
  unfold sameAt at h3
  simp only [Bool.and_eq_true, decide_eq_true_eq] at h3
  refine ⟨h1, fun x hx => by simpa using h2 x hx, fun h0 x hx => ?_, h3.1.1, h3.1.2, ?_⟩
  · rcases h4 with h4 | h4
    · exact absurd (by simpa using h4) h0
    · simpa using h4 x hx
  · cases hs : o[e.same.toNat]? with
    | none => rw [hs] at h3; simp at h3
    | some x => rw [hs] at h3; exact ⟨x, rfl, by simpa using h3.2⟩
theorem elem_line (s : Sta) (e : Elm) (h : elemB e = true) (h0 : e.name ≠ []) (hl : lookD s.d e.name = none) : LineOk s [tW wElem, itemT e, tW wFrom, tQ (bytesOf e.cells)] { s with d := s.d ++ [(e.name, e.cells)] } := by
  obtain ⟨h1, h2, h3⟩ := elemB_named h h0
  obtain ⟨q1, q2, q3, q4, q5⟩ := quotB_parts h1
  refine lineOk_of (w := wElem) fun r => ?_
  rw [if_neg (by decide), if_neg (by decide), if_neg (by decide), if_pos rfl]
  have hi : itemT e = tN e.name := by unfold itemT; rw [if_neg h0]
  rw [hi]
  show elementL s (tN e.name :: tW wFrom :: tQ (bytesOf e.cells) :: eT :: r) = _
  unfold elementL
  rw [takeK_hit (show (tN e.name).k ∈ [5] from by simp [tN])]
  simp only
  rw [show (tN e.name).t = e.name from rfl, hl, if_neg (by simp), takeT_word]
  simp only
  rw [takeK_hit (show (tQ (bytesOf e.cells)).k ∈ [4] from by simp [tQ])]
  simp only
  rw [show (tQ (bytesOf e.cells)).t = bytesOf e.cells from rfl, cells_bytes q5, if_neg (by omega)]
theorem elem_lines : ∀ (r pre : List Elm) (s : Sta), ordB (pre ++ r) = true → s.d = namedD pre → LinesOk s (r.flatMap elemT) { s with d := namedD (pre ++ r) }
  | [], pre, s, _, hd => by
    show s = _
    rw [List.append_nil, ← hd]
  | e :: r, pre, s, h, hd => by
    have he := ord_at h (at_mid pre e r)
    have hrest : ordB ((pre ++ [e]) ++ r) = true := by simpa using h
    by_cases h0 : e.name = []
    · have hx : (e :: r).flatMap elemT = r.flatMap elemT := by simp [elemT, h0]
      rw [hx]
      have := elem_lines r (pre ++ [e]) s hrest (by rw [namedD_snoc, if_pos h0, hd])
      simpa using this
    · have hx : (e :: r).flatMap elemT = [tW wElem, itemT e, tW wFrom, tQ (bytesOf e.cells)] :: r.flatMap elemT := by simp [elemT, h0]
      rw [hx]
      have hn := he.names h0
      rw [take_mid] at hn
      refine ⟨_, elem_line s e he.el h0 (by rw [hd]; exact lookD_noneO hn), ?_⟩
      have := elem_lines r (pre ++ [e]) { s with d := s.d ++ [(e.name, e.cells)] } hrest (by rw [namedD_snoc, if_neg h0, hd])
      simpa using this
theorem placeL_noneO {o : List Elm} {c : List Int} (h : ∀ x ∈ o, x.cells ≠ c) : placeL o c = none := by
  unfold placeL
  rw [List.findIdx?_eq_none_iff]
  intro x hx
  simpa using h x hx
theorem placeL_someO {o : List Elm} {c : List Int} {j : Nat} {x : Elm} (hx : o[j]? = some x) (hc : x.cells = c) (h : ∀ y ∈ o.take j, y.cells ≠ c) : placeL o c = some j := by
  unfold placeL
  rw [List.findIdx?_eq_some_iff_getElem]
  obtain ⟨hj, hxe⟩ := List.getElem?_eq_some_iff.1 hx
  refine ⟨hj, by rw [hxe]; simpa using hc, fun k hk => ?_⟩
  have : o[k]'(by omega) ∈ o.take j := by
    rw [List.mem_take_iff_getElem]
    exact ⟨k, by omega, rfl⟩
  simpa using h _ this
theorem item_cells {o : List Elm} (h : ordB o = true) {i : Nat} {e : Elm} (he : o[i]? = some e) : itemL (namedD o) (itemT e) = .ok e.cells := by
  have hk := ord_at h he
  have hm : e ∈ o := List.mem_of_getElem? he
  unfold itemL itemT
  by_cases h0 : e.name = []
  · obtain ⟨c, hc, hs⟩ := elemB_plain hk.el h0
    rw [if_pos h0, hc]
    show (if (3 : Nat) = 3 then Except.ok [((c.toNat : Nat) : Int)] else _) = _
    rw [if_pos rfl, scalB_nat hs]
  · rw [if_neg h0]
    have hu : ∀ x ∈ o, x.name = e.name → x.cells = e.cells := by
      intro x hx hn
      obtain ⟨j, hj⟩ := List.getElem?_of_mem hx
      rcases Nat.lt_trichotomy i j with hij | hij | hij
      · have := (ord_at h hj).names (by rw [hn]; exact h0) e (List.mem_of_getElem? (i := i) (by rw [List.getElem?_take, if_pos hij]; exact he))
        exact absurd hn.symm this
      · subst hij
        rw [he] at hj
        injection hj with hj
        rw [hj]
      · have := hk.names h0 x (List.mem_of_getElem? (i := j) (by rw [List.getElem?_take, if_pos hij]; exact hj))
        exact absurd hn this
    have := lookD_someO hm h0 hu
    show (if (5 : Nat) = 3 then _ else match lookD (namedD o) e.name with | some c => Except.ok c | none => .error (31, 0)) = _
    rw [if_neg (by decide), this]
theorem itemT_k (e : Elm) : (itemT e).k = 3 ∨ (itemT e).k = 5 := by unfold itemT; split <;> simp [tC, tN]
theorem itemT_t {e : Elm} : (itemT e).t = e.name := by
  unfold itemT
  split
  · rename_i h; rw [h]; rfl
  · rfl
theorem item_hit (e : Elm) (r : List Tok) : takeK [3, 5] (itemT e :: r) = .ok (itemT e, r) := takeK_hit (by rcases itemT_k e with h | h <;> rw [h] <;> simp) r
theorem ord_line (o pre r : List Elm) (e : Elm) (ho : o = pre ++ e :: r) (h : ordB o = true) (s : Sta) (hs : s.l.ord = pre) (hd : s.d = namedD o) : LineOk s (ordT o pre.length e) { s with l := { s.l with ord := pre ++ [e] } } := by
  have hat : o[pre.length]? = some e := by rw [ho]; exact at_mid _ _ _
  have hk := ord_at h hat
  have hcells := hk.cells
  rw [ho, take_mid] at hcells
  have hl : pre.length < 500 := by
    unfold ordB at h
    simp only [Bool.and_eq_true, decide_eq_true_eq] at h
    have := h.1
    rw [ho] at this
    simp at this
    omega
  refine lineOk_of (w := wOrder) fun t => ?_
  rw [if_neg (by decide), if_neg (by decide), if_neg (by decide), if_neg (by decide), if_pos rfl]
  by_cases hsame : e.same = pre.length
  · rw [if_pos hsame]
    show orderL s (itemT e :: eT :: t) = _
    unfold orderL
    rw [item_hit]
    simp only
    rw [isSign_end, if_neg (by simp), hd, item_cells h hat]
    simp only
    rw [hs, placeL_noneO hcells, if_neg (by simp), if_neg (by omega), isSign_end, if_neg (by simp), itemT_t]
    obtain ⟨nm, cs, sm⟩ := e
    simp only at hsame
    rw [hsame]
  · rw [if_neg hsame]
    have h0 := hk.lo
    have h1 := hk.hi
    obtain ⟨x, hx, hxs⟩ := hk.same
    have hlt : e.same.toNat < pre.length := by omega
    have hpx : pre[e.same.toNat]? = some x := by rw [ho, List.getElem?_append_left hlt] at hx; exact hx
    rw [hx]
    show orderL s (itemT e :: tS sSemi :: itemT x :: eT :: t) = _
    unfold orderL
    rw [item_hit]
    simp only
    rw [show isSign sThru (tS sSemi :: itemT x :: eT :: t) = false from rfl, if_neg (by simp), hd, item_cells h hat]
    simp only
    rw [hs, placeL_noneO hcells, if_neg (by simp), if_neg (by omega), isSign_semi, if_pos rfl, List.drop_succ_cons, List.drop_zero, item_hit]
    simp only
    rw [item_cells h hx]
    simp only
    have hxc := (ord_at h hx).cells
    rw [ho, List.take_append_of_le_length (by omega)] at hxc
    rw [placeL_someO hpx rfl hxc]
    simp only
    rw [hpx, itemT_t]
    rw [Option.map_some, Option.getD_some, hxs]
theorem ord_lines (o : List Elm) (h : ordB o = true) : ∀ (r pre : List Elm) (s : Sta), o = pre ++ r → s.l.ord = pre → s.d = namedD o → LinesOk s (ordsT o pre.length r) { s with l := { s.l with ord := o } }
  | [], pre, s, ho, hs, hd => by
    show s = _
    rw [List.append_nil] at ho
    rw [ho, ← hs]
  | e :: r, pre, s, ho, hs, hd => by
    refine ⟨_, ord_line o pre r e ho h s hs hd, ?_⟩
    have := ord_lines o h r (pre ++ [e]) { s with l := { s.l with ord := pre ++ [e] } } (by simpa using ho) rfl hd
    simpa using this
/-- a right locale's lines are read as it -/
theorem locT_read (l : Loc) (h : rightL l = true) : LinesOk ⟨noL, []⟩ (locT l) ⟨l, namedD l.ord⟩ := by
  unfold rightL at h
  simp only [Bool.and_eq_true] at h
  obtain ⟨⟨⟨h1, h2⟩, h3⟩, h4⟩ := h
  have k1 := cls_lines l.cls ⟨noL, []⟩ (by simpa [noL] using h1)
  have k2 := up_lines { (⟨noL, []⟩ : Sta) with l := { noL with cls := noL.cls ++ l.cls } } l.up rfl h2
  have k3 := lo_lines { (⟨noL, []⟩ : Sta) with l := { noL with cls := noL.cls ++ l.cls, up := l.up } } l.lo rfl h3
  have k4 := elem_lines l.ord [] { (⟨noL, []⟩ : Sta) with l := { noL with cls := noL.cls ++ l.cls, up := l.up, lo := l.lo } } (by simpa using h4) rfl
  have k5 := ord_lines l.ord h4 l.ord [] { l := { noL with cls := noL.cls ++ l.cls, up := l.up, lo := l.lo }, d := namedD ([] ++ l.ord) } rfl rfl rfl
  have := ((((k1.app k2).app k3).app k4).app k5)
  exact this
end Go.Proofs.YthaibekbefndlaaGreatDoor.C

namespace Go.Proofs.YthaibekbefndlaaGreatDoor.C

/-- four digits of a number -/
def upD (d : Nat) : UInt8 := if d < 10 then (48 + d).toUInt8 else (55 + d).toUInt8
def fourL (n : Nat) : List UInt8 := [upD (n / 4096 % 16), upD (n / 256 % 16), upD (n / 16 % 16), upD (n % 16)]
theorem upD_val : ∀ d : Nat, d < 16 → digV (upD d) = some d ∧ isW (upD d) = true := by decide +kernel
theorem fourL_num {n : Nat} (h : n < 65536) : hexN (fourL n) 0 = some n ∧ (∀ b ∈ fourL n, isW b = true) ∧ (fourL n).length = 4 := by
  have h3 := upD_val (n / 4096 % 16) (by omega)
  have h2 := upD_val (n / 256 % 16) (by omega)
  have h1 := upD_val (n / 16 % 16) (by omega)
  have h0 := upD_val (n % 16) (by omega)
  refine ⟨?_, ?_, rfl⟩
  · unfold fourL
    rw [hexN_cons, h3.1]; simp only
    rw [hexN_cons, h2.1]; simp only
    rw [hexN_cons, h1.1]; simp only
    rw [hexN_cons, h0.1]; simp only
    show some _ = some n
    congr 1
    omega
  · intro b hb
    unfold fourL at hb
    simp only [List.mem_cons, List.not_mem_nil, or_false] at hb
    rcases hb with rfl | rfl | rfl | rfl
    · exact h3.2
    · exact h2.2
    · exact h1.2
    · exact h0.2
/-- the definition of a row of scalars -/
def rowText (d e : List UInt8) : List UInt8 := [111, 114, 100, 101, 114] ++ 32 :: (60 :: ((85 :: d) ++ 62 :: (32 :: ([46, 46, 46] ++ 32 :: (60 :: ((85 :: e) ++ 62 :: []))))))
def rowToks (a b : Nat) : List Tok := [⟨1, wOrder, 0, 0⟩, ⟨3, [], a, 6⟩, ⟨2, sThru, 0, 14⟩, ⟨3, [], b, 18⟩, ⟨6, [], 0, 25⟩]
theorem word_scal {d : List UInt8} (h : ∀ b ∈ d, isW b = true) : ∀ b ∈ 85 :: d, isW b = true := by
  intro b hb
  rcases List.mem_cons.1 hb with rfl | hb
  · decide +kernel
  · exact h b hb
theorem num_scal {d : List UInt8} {n : Nat} (h : hexN d 0 = some n) (hl : d.length = 4) : numL (85 :: d) = some n := by rw [numL_cons, if_pos ⟨rfl, by omega, by omega⟩, h]
theorem step_thru (r : List UInt8) (k : Nat) (acc : List Tok) : runL ([46, 46, 46] ++ 32 :: r) k acc = runL r (k + 4) (acc ++ [⟨2, sThru, 0, k⟩]) := by
  obtain ⟨h1, h2⟩ := step_good (x := ⟨2, [46, 46, 46], 0, 0⟩) (.inr (.inl ⟨rfl, by simp, rfl⟩)) isW_32 r k acc
  have e : bodyT ⟨2, [46, 46, 46], 0, 0⟩ = [46, 46, 46] := rfl
  rw [e] at h1 h2
  rw [runL_some (by simp) h1 h2, List.drop_left, run_blank]
  rfl
theorem run_scal {d : List UInt8} {n : Nat} (h : hexN d 0 = some n) (hw : ∀ x ∈ d, isW x = true) (hl : d.length = 4) (hr : rightN n = true) (r : List UInt8) (k : Nat) (acc : List Tok) :
    runL (60 :: ((85 :: d) ++ 62 :: r)) k acc = runL r (k + 7) (acc ++ [⟨3, [], n, k⟩]) := by
  have s1 := step_scalar (l := 60 :: ((85 :: d) ++ 62 :: r)) (a := 85 :: d) (r := r) (at_ := k) (acc := acc) rfl (word_scal hw) (num_scal h hl)
  rw [if_pos hr] at s1
  have k1 : (85 :: d).length = 5 := by simp [hl]
  have d1 : (60 :: ((85 :: d) ++ 62 :: r)).drop (2 + (85 :: d).length) = r := by
    have e1 : 60 :: ((85 :: d) ++ 62 :: r) = (60 :: ((85 :: d) ++ [62])) ++ r := by simp
    have e2 : 2 + (85 :: d).length = (60 :: ((85 :: d) ++ [62])).length := by simp; omega
    rw [e1, e2, List.drop_left]
  rw [runL_some (by simp) s1 (by omega), d1, k1]
theorem lex_row {d e : List UInt8} {a b : Nat} (hd : hexN d 0 = some a) (he : hexN e 0 = some b) (wd : ∀ x ∈ d, isW x = true) (we : ∀ x ∈ e, isW x = true) (ld : d.length = 4) (le : e.length = 4)
    (ra : rightN a = true) (rb : rightN b = true) : lexL (rowText d e) = (rowToks a b, 0, 0) := by
  have hlen : (rowText d e).length = 25 := by simp [rowText]; omega
  have hrun : runL (rowText d e) 0 [] = .inl (rowToks a b) := by
    unfold rowText
    rw [runL_some (by simp) (step_word (wordL_all (a := [111, 114, 100, 101, 114]) (by decide +kernel) isW_32 _) (by simp)) (by simp), List.drop_left, run_blank]
    show runL _ 6 _ = _
    rw [run_scal hd wd ld ra, run_blank]
    show runL _ 14 _ = _
    rw [step_thru]
    show runL _ 18 _ = _
    rw [run_scal he we le rb, runL_nil]
    rfl
  unfold lexL
  rw [if_neg (by omega), hrun]
  rfl
/-- the elements of a row of scalars -/
def rowO (a k : Nat) : List Elm := (List.range k).map fun i => ⟨[], [((a + i : Nat) : Int)], (i : Int)⟩
theorem runAll_ok (t : Tok) : ∀ (k : Nat) (o : List Elm) (c : Nat), (∀ i, i < k → rightN (c + i) = true) → o.length + k ≤ 500 →
    runAll t o c k = .ok (o ++ (List.range k).map fun i => ⟨t.t, [((c + i : Nat) : Int)], ((o.length + i : Nat) : Int)⟩)
  | 0, o, c, _, _ => by simp [runAll]
  | k + 1, o, c, h, hl => by
    unfold runAll
    rw [if_pos (by simpa using h 0 (by omega)), if_neg (by omega), runAll_ok t k _ (c + 1) (fun i hi => by rw [show c + 1 + i = c + (i + 1) by omega]; exact h (i + 1) (by omega)) (by simp; omega)]
    rw [List.append_assoc, List.range_succ_eq_map, List.map_cons, List.map_map]
    congr 2
    simp only [List.singleton_append, Nat.add_zero, List.cons.injEq, true_and]
    apply List.map_congr_left
    intro i _
    simp only [Function.comp_apply, List.length_append, List.length_cons, List.length_nil]
    rw [show c + 1 + i = c + i.succ by omega, show o.length + (0 + 1) + i = o.length + i.succ by omega]
theorem runAll_long (t : Tok) : ∀ (k : Nat) (o : List Elm) (c : Nat), (∀ i, i < k → rightN (c + i) = true) → o.length ≤ 500 → 500 < o.length + k → runAll t o c k = .error (3, t.at_)
  | 0, o, c, _, h1, h2 => by omega
  | k + 1, o, c, h, h1, h2 => by
    unfold runAll
    rw [if_pos (by simpa using h 0 (by omega))]
    by_cases h3 : o.length = 500
    · rw [if_pos h3]
    · rw [if_neg h3]
      exact runAll_long t k _ (c + 1) (fun i hi => by rw [show c + 1 + i = c + (i + 1) by omega]; exact h (i + 1) (by omega)) (by simp; omega) (by simp; omega)
theorem parse_row {d e : List UInt8} {a b : Nat} (hd : hexN d 0 = some a) (he : hexN e 0 = some b) (wd : ∀ x ∈ d, isW x = true) (we : ∀ x ∈ e, isW x = true) (ld : d.length = 4) (le : e.length = 4)
    (hab : a ≤ b) (hb : b < 55296) : parseL (rowText d e) = if b + 1 - a ≤ 500 then (⟨[], [], [], rowO a (b + 1 - a)⟩, 0, 0) else (noL, 3, 6) := by
  have rr : ∀ n, n < 55296 → rightN n = true := fun n hn => by unfold rightN; simp; omega
  have hord : ∀ r, orderL ⟨noL, []⟩ (⟨3, [], a, 6⟩ :: ⟨2, sThru, 0, 14⟩ :: ⟨3, [], b, 18⟩ :: r) = match runAll ⟨3, [], a, 6⟩ [] a (b + 1 - a) with
      | .error e => .error e
      | .ok o => .ok (⟨⟨[], [], [], o⟩, []⟩, r) := by
    intro r
    unfold orderL
    simp only [takeK]
    rw [if_pos (by simp)]
    simp only
    rw [if_pos ⟨trivial, rfl⟩]
    unfold notBelow
    simp only [takeK, List.drop_succ_cons, List.drop_zero]
    rw [if_pos (by simp)]
    simp only
    rw [if_neg (by omega)]
    simp only
    rw [if_neg (by simp [amongB, noL])]
    rfl
  have hline : lineL ⟨noL, []⟩ (rowToks a b) = match runAll ⟨3, [], a, 6⟩ [] a (b + 1 - a) with
      | .error e => .error e
      | .ok o => .ok (⟨⟨[], [], [], o⟩, []⟩, []) := by
    unfold lineL rowToks
    simp only [takeK]
    rw [if_pos (by simp)]
    simp only
    rw [if_neg (by decide), if_neg (by decide), if_neg (by decide), if_neg (by decide), if_pos trivial, hord]
    rcases runAll ⟨3, [], a, 6⟩ [] a (b + 1 - a) with e | o
    · rfl
    · simp only
      rw [if_pos (by simp)]
  have hr : readL (rowToks a b) = match runAll ⟨3, [], a, 6⟩ [] a (b + 1 - a) with
      | .error e => .error e
      | .ok o => .ok ⟨[], [], [], o⟩ := by
    unfold readL
    show linesL 6 _ _ = _
    unfold linesL
    rw [if_neg (by simp [rowToks]), hline]
    rcases runAll ⟨3, [], a, 6⟩ [] a (b + 1 - a) with e | o <;> rfl
  unfold parseL
  rw [lex_row hd he wd we ld le (rr a (by omega)) (rr b hb)]
  simp only
  rw [hr]
  by_cases hk : b + 1 - a ≤ 500
  · rw [if_pos hk, runAll_ok _ _ _ _ (fun i hi => rr _ (by omega)) (by simpa using hk)]
    simp [rowO]
  · rw [if_neg hk, runAll_long _ _ _ _ (fun i hi => rr _ (by omega)) (by simp) (by simp; omega)]
end Go.Proofs.YthaibekbefndlaaGreatDoor.C

namespace Go.Proofs.YthaibekbefndlaaGreatDoor.C
open Go.RowKit

def TOk (x : Tok) : Prop := x.n ≤ 1114111 ∧ x.t.length ≤ 4000
theorem tokL_ok {l t : List UInt8} {k n m : Nat} (h : tokL l = some (k, t, n, m)) : n ≤ 1114111 ∧ t.length ≤ l.length := by
  unfold tokL at h
  cases hs : signL l with
  | some s =>
    rw [hs] at h
    simp at h
    obtain ⟨_, rfl, rfl, _⟩ := h
    refine ⟨by omega, ?_⟩
    cases l with
    | nil => simp [signL] at hs
    | cons c r =>
      rw [signL_cons] at hs
      split at hs
      · simp at hs; subst hs; simp
      · split at hs
        · rename_i h2
          simp at hs
          subst hs
          have := congrArg List.length h2.2
          rw [List.length_take] at this
          simp at this ⊢
          omega
        · cases hs
  | none =>
    rw [hs] at h
    simp only at h
    cases hn : numL (nameL l) with
    | some v =>
      rw [hn] at h
      simp only at h
      split at h
      · rename_i hr
        simp at h
        obtain ⟨_, rfl, rfl, _⟩ := h
        exact ⟨rightN_le hr, by simp⟩
      · cases h
    | none =>
      rw [hn] at h
      simp only at h
      split at h
      · rename_i hne
        simp at h
        obtain ⟨_, rfl, rfl, _⟩ := h
        have := nameL_len l hne
        exact ⟨by omega, by omega⟩
      · cases hq : quoL l with
        | some q =>
          rw [hq] at h
          simp at h
          obtain ⟨_, rfl, rfl, _⟩ := h
          refine ⟨by omega, ?_⟩
          cases l with
          | nil => simp [quoL] at hq
          | cons c r =>
            rw [quoL_cons] at hq
            split at hq
            · rename_i h2
              simp only [Option.some.injEq] at hq
              subst hq
              have := h2.2.1
              simp only [List.length_cons]
              omega
            · cases hq
        | none =>
          rw [hq] at h
          simp only at h
          split at h
          · simp at h
            obtain ⟨_, rfl, rfl, _⟩ := h
            exact ⟨by omega, wordL_len l⟩
          · cases h
theorem endL_ok {acc : List Tok} (k : Nat) (h : ∀ x ∈ acc, TOk x) : (∀ x ∈ endL acc k, TOk x) ∧ lastK (endL acc k) = 6 := by
  unfold endL
  by_cases h6 : lastK acc = 6
  · rw [if_pos h6]
    exact ⟨h, h6⟩
  · rw [if_neg h6]
    refine ⟨fun x hx => ?_, lastK_snoc _ _⟩
    rcases List.mem_append.1 hx with hx | hx
    · exact h x hx
    · rw [List.mem_singleton] at hx
      subst hx
      exact ⟨by simp, by simp⟩
theorem stepL_ok {l : List UInt8} {k m : Nat} {acc acc' : List Tok} (hl : l.length ≤ 4000) (hg : ∀ x ∈ acc, TOk x) (h : stepL l k acc = some (acc', m)) : ∀ x ∈ acc', TOk x := by
  unfold stepL at h
  split at h
  · simp at h
    obtain ⟨rfl, _⟩ := h
    exact hg
  · split at h
    · simp at h
      obtain ⟨rfl, _⟩ := h
      exact (endL_ok k hg).1
    · cases ht : tokL l with
      | none => rw [ht] at h; cases h
      | some x =>
        obtain ⟨kd, t, n, m'⟩ := x
        rw [ht] at h
        simp at h
        obtain ⟨rfl, _⟩ := h
        have := tokL_ok ht
        intro x hx
        rcases List.mem_append.1 hx with hx | hx
        · exact hg x hx
        · rw [List.mem_singleton] at hx
          subst hx
          exact ⟨this.1, Nat.le_trans this.2 hl⟩
theorem run_ok : ∀ (f : Nat) (l : List UInt8) (k : Nat) (acc : List Tok), l.length ≤ f → l.length ≤ 4000 → (∀ x ∈ acc, TOk x) → ∀ ts, runL l k acc = .inl ts → (∀ x ∈ ts, TOk x) ∧ lastK ts = 6
  | f, [], k, acc, _, _, hg, ts, h => by
    rw [runL_nil] at h
    injection h with h
    subst h
    exact endL_ok k hg
  | 0, c :: r, k, acc, hf, _, _, _, _ => by simp at hf
  | f + 1, c :: r, k, acc, hf, hl, hg, ts, h => by
    rw [runL] at h
    cases hs : stepL (c :: r) k acc with
    | none => rw [hs] at h; cases h
    | some x =>
      obtain ⟨acc', m⟩ := x
      rw [hs] at h
      simp only at h
      refine run_ok f (r.drop (m - 1)) _ acc' ?_ ?_ (stepL_ok hl hg hs) ts h
      · simp only [List.length_cons, List.length_drop] at hf ⊢; omega
      · simp only [List.length_cons, List.length_drop] at hl ⊢; omega
theorem ended_of {ts : List Tok} (h : lastK ts = 6) : ts = [] ∨ Ended ts := by
  rcases List.eq_nil_or_concat ts with rfl | ⟨p, x, rfl⟩
  · exact .inl rfl
  · refine .inr ⟨p, x, by simp, ?_⟩
    rw [List.concat_eq_append, lastK_snoc] at h
    exact h
theorem lex_ok {t : List UInt8} {ts : List Tok} {a : Nat} (h : lexL t = (ts, 0, a)) : (∀ x ∈ ts, TOk x) ∧ (ts = [] ∨ Ended ts) ∧ ts.length ≤ 1000 := by
  unfold lexL at h
  by_cases h4 : 4000 < t.length
  · rw [if_pos h4] at h
    cases h
  · rw [if_neg h4] at h
    cases hr : runL t 0 [] with
    | inr k => rw [hr] at h; cases h
    | inl us =>
      rw [hr] at h
      simp only at h
      by_cases hb : 1000 < us.length
      · rw [if_pos hb] at h
        cases h
      · rw [if_neg hb] at h
        injection h with h
        subst h
        have := run_ok t.length t 0 [] (Nat.le_refl _) (by omega) (by simp) us hr
        exact ⟨this.1, ended_of this.2, by omega⟩
/-- a line's rest: less, and up to an end -/
theorem lineL_left {s s' : Sta} {ts r : List Tok} (h : lineL s ts = .ok (s', r)) (hX : ∀ s s' ts r, Ended ts → (classL s ts = .ok (s', r) ∨ upperL s ts = .ok (s', r) ∨ lowerL s ts = .ok (s', r) ∨ elementL s ts = .ok (s', r) ∨ orderL s ts = .ok (s', r)) → r.length < ts.length) (hE : Ended ts) : r.length < ts.length := by
  unfold lineL at h
  cases h1 : takeK [1] ts with
  | error e => rw [h1] at h; cases h
  | ok y =>
    obtain ⟨w, r1⟩ := y
    have k1 := takeK_left hE h1 (by simp)
    rw [h1] at h
    simp only at h
    generalize hX2 : (if w.t = wClass then classL s r1 else if w.t = wUpper then upperL s r1 else if w.t = wLower then lowerL s r1 else if w.t = wElem then elementL s r1 else if w.t = wOrder then orderL s r1 else Except.error (30, w.at_) : Re Sta) = X at h
    rcases X with e | ⟨s2, r2⟩
    · cases h
    · simp only at h
      have h2 : r2.length < r1.length := by
        refine hX s s2 r1 r2 k1.1 ?_
        split at hX2
        · exact .inl hX2
        · split at hX2
          · exact .inr (.inl hX2)
          · split at hX2
            · exact .inr (.inr (.inl hX2))
            · split at hX2
              · exact .inr (.inr (.inr (.inl hX2)))
              · split at hX2
                · exact .inr (.inr (.inr (.inr hX2)))
                · cases hX2
      cases h3 : takeK [6] r2 with
      | error e => rw [h3] at h; cases h
      | ok z =>
        obtain ⟨x, r3⟩ := z
        rw [h3] at h
        simp at h
        obtain ⟨_, rfl⟩ := h
        have := (takeK_suf h3).1
        have := congrArg List.length this
        have := k1.2.1
        simp at *
        omega
end Go.Proofs.YthaibekbefndlaaGreatDoor.C
