/-
  Joined: LgI. Each with what its own head says.
-/
import Derived.Test.YthaibekbefndlaaGreatDoorH33
import Derived.Test.YthaibekbefndlaaGreatDoorH41

namespace Go.Proofs.YthaibekbefndlaaGreatDoor.C

theorem takeK_tl {ks : List Nat} {ts r : List Tok} {t : Tok} (h : takeK ks ts = .ok (t, r)) : r <:+ ts := by
 cases ts with
 | nil => simp [takeK] at h
 | cons a l =>
  by_cases hk : a.k ∈ ks
  ·rw [takeK_hit hk] at h
   obtain ⟨-, rfl⟩ := ok_inj h
   exact List.suffix_cons _ _
  ·have he : takeK ks (a :: l) = .error (30, a.at_) := by simp only [takeK, if_neg hk]
   rw [he] at h
   cases h
theorem takeT_tl {k : Nat} {s : List UInt8} {ts r : List Tok} {u : Unit} (h : takeT k s ts = .ok (u, r)) : r <:+ ts := by
 cases ts with
 | nil => simp [takeT] at h
 | cons a l =>
  by_cases hk : a.k = k ∧ a.t = s
  ·rw [takeT_hit hk] at h
   obtain ⟨-, rfl⟩ := ok_inj h
   exact List.suffix_cons _ _
  ·have he : takeT k s (a :: l) = .error (30, a.at_) := by simp only [takeT, if_neg hk]
   rw [he] at h
   cases h
theorem notBelow_tl {a b : Tok} {ts r : List Tok} (h : notBelow a ts = .ok (b, r)) : r <:+ ts := by
 unfold notBelow at h
 split at h
 ·cases h
 ·rename_i hq
  split at h
  ·cases h
  ·obtain ⟨-, rfl⟩ := ok_inj h
   exact takeK_tl hq
theorem rangeL_tl {rs rs' : List (Int × Int)} {ts r : List Tok} (h : rangeL rs ts = .ok (rs', r)) : r <:+ ts := by
 unfold rangeL at h
 split at h
 ·cases h
 ·rename_i h1
  split at h
  ·split at h
   ·cases h
   ·rename_i h2
    obtain ⟨-, rfl⟩ := ok_inj h
    exact ((notBelow_tl h2).trans (List.drop_suffix _ _)).trans (takeK_tl h1)
  ·obtain ⟨-, rfl⟩ := ok_inj h
   exact takeK_tl h1
theorem pairL_tl {l l' : List (Int × Int)} {ts r : List Tok} (h : pairL l ts = .ok (l', r)) : r <:+ ts := by
 unfold pairL at h
 split at h
 ·cases h
 ·rename_i h1
  split at h
  ·cases h
  ·rename_i h2
   split at h
   ·cases h
   ·split at h
    ·cases h
    ·rename_i h3
     split at h
     ·cases h
     ·rename_i h4
      split at h
      ·cases h
      ·rename_i h5
       obtain ⟨-, rfl⟩ := ok_inj h
       exact ((((takeT_tl h5).trans (takeK_tl h4)).trans (takeT_tl h3)).trans (takeK_tl h2)).trans (takeT_tl h1)
theorem itemsL_tl {σ : Type} {item : σ → List Tok → Re σ} (hi : ∀ s ts s' r, item s ts = .ok (s', r) → r <:+ ts) : ∀ (f : Nat) (s s' : σ) (ts r : List Tok), itemsL item f s ts = .ok (s', r) → r <:+ ts
 | 0, s, s', ts, r, h => by simp [itemsL] at h
 | f + 1, s, s', ts, r, h => by
  unfold itemsL at h
  split at h
  ·cases h
  ·rename_i h1
   split at h
   ·exact ((itemsL_tl hi f _ _ _ _ h).trans (List.drop_suffix _ _)).trans (hi _ _ _ _ h1)
   ·obtain ⟨-, rfl⟩ := ok_inj h
    exact hi _ _ _ _ h1
theorem classL_tl {s s' : Sta} {ts r : List Tok} (h : classL s ts = .ok (s', r)) : r <:+ ts := by
 unfold classL at h
 split at h
 ·cases h
 ·rename_i h1
  split at h
  ·cases h
  ·split at h
   ·cases h
   ·rename_i h2
    obtain ⟨-, rfl⟩ := ok_inj h
    exact (itemsL_tl (fun _ _ _ _ => rangeL_tl) _ _ _ _ _ h2).trans (takeK_tl h1)
theorem upperL_tl {s s' : Sta} {ts r : List Tok} (h : upperL s ts = .ok (s', r)) : r <:+ ts := by
 unfold upperL at h
 split at h
 ·cases h
 ·rename_i h2
  obtain ⟨-, rfl⟩ := ok_inj h
  exact itemsL_tl (fun _ _ _ _ => pairL_tl) _ _ _ _ _ h2
theorem lowerL_tl {s s' : Sta} {ts r : List Tok} (h : lowerL s ts = .ok (s', r)) : r <:+ ts := by
 unfold lowerL at h
 split at h
 ·cases h
 ·rename_i h2
  obtain ⟨-, rfl⟩ := ok_inj h
  exact itemsL_tl (fun _ _ _ _ => pairL_tl) _ _ _ _ _ h2
theorem elementL_tl {s s' : Sta} {ts r : List Tok} (h : elementL s ts = .ok (s', r)) : r <:+ ts := by
 unfold elementL at h
 split at h
 ·cases h
 ·rename_i h1
  split at h
  ·cases h
  ·split at h
   ·cases h
   ·rename_i h2
    split at h
    ·cases h
    ·rename_i h3
     split at h
     ·cases h
     ·obtain ⟨-, rfl⟩ := ok_inj h
      exact ((takeK_tl h3).trans (takeT_tl h2)).trans (takeK_tl h1)
theorem orderL_tl {s s' : Sta} {ts r : List Tok} (h : orderL s ts = .ok (s', r)) : r <:+ ts := by
 unfold orderL at h
 split at h
 ·cases h
 ·rename_i h1
  split at h
  ·split at h
   ·cases h
   ·rename_i h2
    split at h
    ·cases h
    ·split at h
     ·cases h
     ·obtain ⟨-, rfl⟩ := ok_inj h
      exact ((notBelow_tl h2).trans (List.drop_suffix _ _)).trans (takeK_tl h1)
  ·split at h
   ·cases h
   ·split at h
    ·cases h
    ·split at h
     ·cases h
     ·split at h
      ·split at h
       ·cases h
       ·rename_i h2
        split at h
        ·cases h
        ·split at h
         ·cases h
         ·obtain ⟨-, rfl⟩ := ok_inj h
          exact ((takeK_tl h2).trans (List.drop_suffix _ _)).trans (takeK_tl h1)
      ·obtain ⟨-, rfl⟩ := ok_inj h
       exact takeK_tl h1
theorem lineL_tl {s s' : Sta} {ts r : List Tok} (h : lineL s ts = .ok (s', r)) : r <:+ ts := by
 unfold lineL at h
 split at h
 ·cases h
 ·rename_i w r0 h1
  generalize hq : (if w.t = wClass then classL s r0 else if w.t = wUpper then upperL s r0 else if w.t = wLower then lowerL s r0 else if w.t = wElem then elementL s r0 else if w.t = wOrder then orderL s r0 else .error (30, w.at_)) = q at h
  split at h
  ·cases h
  ·rename_i s1 r1
   split at h
   ·cases h
   ·rename_i h3
    obtain ⟨-, rfl⟩ := ok_inj h
    have h4 : r1 <:+ r0 := by
     split at hq
     ·exact classL_tl hq
     ·split at hq
      ·exact upperL_tl hq
      ·split at hq
       ·exact lowerL_tl hq
       ·split at hq
        ·exact elementL_tl hq
        ·split at hq
         ·exact orderL_tl hq
         ·cases hq
    exact ((takeK_tl h3).trans h4).trans (takeK_tl h1)
theorem line_real {s s' : Sta} {l X : List Tok} (h : LineOk s l s') (hX : X.map erT = (l ++ [eT]).map erT) (rest : List Tok) : lineL s (X ++ rest) = .ok (s', rest) := by
 have h1 := lineL_er s (l ++ eT :: rest)
 rw [h rest] at h1
 have h2 : (l ++ eT :: rest).map erT = (X ++ rest).map erT := by
  rw [show l ++ eT :: rest = (l ++ [eT]) ++ rest by simp]
  simp only [List.map_append] at hX ⊢
  rw [hX]
 rw [h2, lineL_er] at h1
 cases hq : lineL s (X ++ rest) with
 | error e => rw [hq] at h1; simp [erE] at h1
 | ok p =>
  obtain ⟨s1, r1⟩ := p
  rw [hq] at h1
  simp only [erE, id] at h1
  injection h1 with h1
  injection h1 with h3 h4
  have h5 := lineL_tl hq
  have h6 : rest <:+ X ++ rest := List.suffix_append _ _
  have hl : r1.length = rest.length := by simpa using congrArg List.length h4
  have h7 : r1 <:+ rest := List.suffix_of_suffix_length_le h5 h6 (Nat.le_of_eq hl)
  rw [h7.eq_of_length hl, h3]
theorem lines_real : ∀ (ls : List (List Tok)) (s s' : Sta) (X rest : List Tok) (f : Nat), LinesOk s ls s' → X.map erT = (toksT ls).map erT → ls.length ≤ f → linesL f s (X ++ rest) = linesL (f - ls.length) s' rest
 | [], s, s', X, rest, f, h, hX, _ => by
  cases h
  have : X = [] := by simpa [toksT] using hX
  subst this
  rfl
 | l :: ls, s, s', X, rest, f, ⟨s1, h1, h2⟩, hX, hf => by
  obtain ⟨f, rfl⟩ : ∃ g, f = g + 1 := ⟨f - 1, by simp at hf; omega⟩
  rw [toksT_cons, show l ++ ⟨6, [], 0, 0⟩ :: toksT ls = (l ++ [eT]) ++ toksT ls by simp [eT], List.map_append] at hX
  obtain ⟨X1, X2, rfl, hX1, hX2⟩ := List.map_eq_append_iff.1 hX
  have h0 : X1 ≠ [] := by
   rintro rfl
   simp at hX1
  rw [List.append_assoc, linesL_step (line_real h1 hX1 (X2 ++ rest)) (by cases X1 with | nil => exact absurd rfl h0 | cons => simp), lines_real ls s1 s' X2 rest f h2 hX2 (by simpa using hf)]
  simp
def wAlpha : List UInt8 := [97, 108, 112, 104, 97]
def mps (k : Nat) : List (Tok × Bool) := if k = 0 then [(tW wClass, true), (tW wAlpha, true), (tC 65, false)] else if k = 1 then [(tW wOrder, true), (tC 97, false)] else [(tW wUpper, true), (tS sOpen, false), (tC 97, false), (tS sComma, false), (tC 65, false), (tS sShut, false)]
def moreL (k : Nat) : List UInt8 := txtP (mps k) ++ [10]
def mks (k : Nat) : List Tok := (mps k).map (fun p => erT p.1) ++ [⟨6, [], 0, 0⟩]
theorem mps_good {k : Nat} (h : k < 3) : goodP (mps k) = true ∧ (moreL k).length ≤ 26 ∧ (mks k).length ≤ 7 := by
 rcases (by omega : k = 0 ∨ k = 1 ∨ k = 2) with rfl | rfl | rfl <;> decide +kernel
theorem er_eq {a b : Tok} (h : erT a = b) : a.k = b.k ∧ a.t = b.t ∧ a.n = b.n := by subst h; exact ⟨rfl, rfl, rfl⟩
def Again (k : Nat) (s : Sta) : Prop := ∀ Y, Y.map erT = mks k → ∀ r, ∃ y ∈ Y, lineL s (Y ++ r) = .error (32, y.at_)
theorem more_line {k : Nat} (hk : k < 3) (s : Sta) (hs : s.l.ord.length < 500) : Again k s ∨ ∃ s', (∀ Y, Y.map erT = mks k → ∀ r, lineL s (Y ++ r) = .ok (s', r)) ∧ Again k s' := by
 have hA : ∀ s : Sta, wAlpha ∈ s.l.cls.map Cls.name → Again 0 s := by
  intro s hm Y hY r
  simp only [mks, mps, if_pos, List.map_cons, List.map_nil, List.cons_append, List.nil_append] at hY
  obtain ⟨a, Y1, rfl, ha, h1⟩ := List.map_eq_cons_iff.1 hY
  obtain ⟨b, Y2, rfl, hb, h2⟩ := List.map_eq_cons_iff.1 h1
  obtain ⟨a1, a2, a3⟩ := er_eq ha
  obtain ⟨b1, b2, b3⟩ := er_eq hb
  refine ⟨b, by simp, ?_⟩
  unfold lineL
  rw [List.cons_append, takeK_hit (by rw [a1]; simp [tW, erT])]
  dsimp only
  rw [if_pos (by rw [a2]; rfl)]
  unfold classL
  rw [List.cons_append, takeK_hit (by rw [b1]; simp [tW, erT])]
  dsimp only
  rw [if_pos (by rw [b2]; exact hm)]
 have hB : ∀ s : Sta, (placeL s.l.ord [97]).isSome = true → Again 1 s := by
  intro s hm Y hY r
  simp only [mks, mps, if_pos, if_neg (show ¬ (1 : Nat) = 0 by omega), List.map_cons, List.map_nil, List.cons_append, List.nil_append] at hY
  obtain ⟨a, Y1, rfl, ha, h1⟩ := List.map_eq_cons_iff.1 hY
  obtain ⟨b, Y2, rfl, hb, h2⟩ := List.map_eq_cons_iff.1 h1
  obtain ⟨c, Y3, rfl, hc, h3⟩ := List.map_eq_cons_iff.1 h2
  obtain ⟨a1, a2, a3⟩ := er_eq ha
  obtain ⟨b1, b2, b3⟩ := er_eq hb
  obtain ⟨c1, c2, c3⟩ := er_eq hc
  have b1' : b.k = 3 := b1
  have b3' : b.n = 97 := b3
  have c1' : c.k = 6 := c1
  refine ⟨b, by simp, ?_⟩
  unfold lineL
  rw [List.cons_append, takeK_hit (by rw [a1]; simp [tW, erT])]
  dsimp only
  rw [a2, if_neg (by decide), if_neg (by decide), if_neg (by decide), if_neg (by decide), if_pos (by rfl)]
  unfold orderL
  rw [List.cons_append, takeK_hit (by rw [b1']; simp)]
  dsimp only
  rw [if_neg (by simp [isSign, c1'])]
  unfold itemL
  rw [if_pos b1', b3']
  dsimp only
  rw [show ((97 : Nat) : Int) = 97 from rfl, if_pos hm]
 have hC : ∀ s : Sta, (97 : Int) ∈ s.l.up.map Prod.fst → Again 2 s := by
  intro s hm Y hY r
  simp only [mks, mps, if_neg (show ¬ (2 : Nat) = 1 by omega), if_neg (show ¬ (2 : Nat) = 0 by omega), List.map_cons, List.map_nil, List.cons_append, List.nil_append] at hY
  obtain ⟨a, Y1, rfl, ha, h1⟩ := List.map_eq_cons_iff.1 hY
  obtain ⟨b, Y2, rfl, hb, h2⟩ := List.map_eq_cons_iff.1 h1
  obtain ⟨c, Y3, rfl, hc, h3⟩ := List.map_eq_cons_iff.1 h2
  obtain ⟨a1, a2, a3⟩ := er_eq ha
  obtain ⟨b1, b2, b3⟩ := er_eq hb
  obtain ⟨c1, c2, c3⟩ := er_eq hc
  have c1' : c.k = 3 := c1
  have c3' : c.n = 97 := c3
  refine ⟨c, by simp, ?_⟩
  unfold lineL
  rw [List.cons_append, takeK_hit (by rw [a1]; simp [tW, erT])]
  dsimp only
  rw [a2, if_neg (by decide), if_pos (by rfl)]
  unfold upperL
  rw [List.cons_append, List.cons_append]
  unfold itemsL pairL
  have hb' : b.k = 2 ∧ b.t = sOpen := ⟨b1, b2⟩
  rw [takeT_hit hb']
  dsimp only
  rw [takeK_hit (by rw [c1']; simp)]
  dsimp only
  rw [c3', if_pos (show ((97 : Nat) : Int) ∈ s.l.up.map Prod.fst from hm)]
 rcases (by omega : k = 0 ∨ k = 1 ∨ k = 2) with rfl | rfl | rfl
 ·by_cases hm : wAlpha ∈ s.l.cls.map Cls.name
  ·exact .inl (hA s hm)
  ·refine .inr ⟨{ s with l := { s.l with cls := s.l.cls ++ [⟨wAlpha, [(65, 65)]⟩] } }, fun Y hY r => ?_, hA _ (by simp)⟩
   have h := cls_line s ⟨wAlpha, [(65, 65)]⟩ hm (by simp) (by decide +kernel)
   exact line_real h hY r
 ·cases hm : (placeL s.l.ord [97]).isSome with
  | true => exact .inl (hB s hm)
  | false =>
   refine .inr ⟨{ s with l := { s.l with ord := s.l.ord ++ [⟨[], [97], s.l.ord.length⟩] } }, fun Y hY r => ?_, hB _ ?_⟩
   ·have h : LineOk s [tW wOrder, tC 97] { s with l := { s.l with ord := s.l.ord ++ [⟨[], [97], s.l.ord.length⟩] } } := lineOk_of (fun r => by
     rw [if_neg (by decide), if_neg (by decide), if_neg (by decide), if_neg (by decide), if_pos rfl]
     show orderL s (tC 97 :: eT :: r) = _
     unfold orderL
     rw [takeK_hit (by simp [tC])]
     dsimp only
     rw [if_neg (by simp [isSign, eT])]
     unfold itemL
     rw [if_pos (show (tC 97).k = 3 from rfl)]
     dsimp only
     rw [show ((tC 97).n : Int) = 97 from rfl, if_neg (by rw [hm]; simp), if_neg (by omega), if_neg (by simp [isSign, eT])]
     rfl)
    exact line_real h hY r
   ·rw [show placeL (s.l.ord ++ [⟨[], [97], s.l.ord.length⟩]) [97] = some s.l.ord.length from placeL_someO (x := ⟨[], [97], s.l.ord.length⟩) (by simp) rfl (by
     rw [List.take_left']
     ·exact placeL_out (by simpa using hm)
     ·rfl)]
    rfl
 ·by_cases hm : (97 : Int) ∈ s.l.up.map Prod.fst
  ·exact .inl (hC s hm)
  ·refine .inr ⟨{ s with l := { s.l with up := s.l.up ++ [(97, 65)] } }, fun Y hY r => ?_, hC _ (by simp)⟩
   have h : LineOk s (tW wUpper :: pairT (97, 65)) { s with l := { s.l with up := s.l.up ++ [(97, 65)] } } := lineOk_of (fun r => by
     rw [if_neg (by decide), if_pos rfl]
     unfold upperL
     show (match itemsL pairL ((pairT (97, 65) ++ eT :: r).length + 1) s.l.up (pairT (97, 65) ++ eT :: r) with
      | .error e => (.error e : Re Sta)
      | .ok (x, r) => .ok ({ s with l := { s.l with up := x } }, r)) = _
     unfold itemsL
     rw [pairL_one s.l.up (97, 65) (by decide +kernel) (by decide +kernel) hm]
     dsimp only
     rw [isSign_end]
     simp)
   exact line_real h hY r
theorem parse_twice {l : Loc} (h : rightL l = true) (hq : ∀ e ∈ l.ord, e.name ≠ [] → (34 : UInt8) ∉ bytesOf e.cells ∧ (10 : UInt8) ∉ bytesOf e.cells) (h1 : (linesT (locT l)).length ≤ 3900) (h2 : (toksT (locT l)).length ≤ 900) (h3 : l.ord.length < 500) {k : Nat} (hk : k < 3) :
  ∃ p, parseL (linesT (locT l) ++ (moreL k ++ moreL k)) = (noL, 32, p) ∧ (linesT (locT l)).length ≤ p ∧ p < (linesT (locT l)).length + 2 * (moreL k).length := by
 obtain ⟨g1, g2, g3⟩ := mps_good hk
 obtain ⟨xs, e1, e2, e3, e4⟩ := run_linesT _ (good_locT h hq) (moreL k ++ moreL k) 0 [] rfl
 obtain ⟨ys, f1, f2, f3, f4⟩ := run_good g1 (moreL k) (0 + (linesT (locT l)).length) ([] ++ xs)
 obtain ⟨zs, k1, k2, k3, k4⟩ := run_good g1 [] (0 + (linesT (locT l)).length + (txtP (mps k)).length + 1) ([] ++ xs ++ ys)
 have hml : (moreL k).length = (txtP (mps k)).length + 1 := by simp [moreL]
 have hlex : lexL (linesT (locT l) ++ (moreL k ++ moreL k)) = (xs ++ (ys ++ zs), 0, 0) := by
  have hr : runL (linesT (locT l) ++ (moreL k ++ moreL k)) 0 [] = .inl (xs ++ (ys ++ zs)) := by
   rw [e1, show moreL k ++ moreL k = txtP (mps k) ++ 10 :: moreL k by simp [moreL], f1, show moreL k = txtP (mps k) ++ 10 :: [] by simp [moreL], k1, runL_nil]
   unfold endL
   rw [if_pos (by simpa using k3)]
   simp
  have l1 : xs.length = (toksT (locT l)).length := by simpa using congrArg List.length e2
  have l2 : ys.length = (mks k).length := by simpa [mks] using congrArg List.length f2
  have l3 : zs.length = (mks k).length := by simpa [mks] using congrArg List.length k2
  unfold lexL
  rw [if_neg (by simp only [List.length_append]; omega), hr]
  simp only
  rw [if_neg (by simp only [List.length_append]; omega)]
 have hread : ∃ p, readL (xs ++ (ys ++ zs)) = .error (32, p) ∧ (linesT (locT l)).length ≤ p ∧ p < (linesT (locT l)).length + 2 * (moreL k).length := by
  have hy2 : ys.map erT = mks k := f2
  have hz2 : zs.map erT = mks k := k2
  have hll : ∀ ls : List (List Tok), ls.length ≤ (toksT ls).length := by
   intro ls
   induction ls with
   | nil => simp
   | cons a r ih => rw [toksT_cons]; simp only [List.length_append, List.length_cons]; omega
  have hle := hll (locT l)
  have l1 : xs.length = (toksT (locT l)).length := by simpa using congrArg List.length e2
  have hy0 : 2 ≤ ys.length := by
   have : ys.length = (mks k).length := by simpa using congrArg List.length hy2
   rw [this]
   rcases (by omega : k = 0 ∨ k = 1 ∨ k = 2) with rfl | rfl | rfl <;> decide +kernel
  have hz0 : 2 ≤ zs.length := by
   have : zs.length = (mks k).length := by simpa using congrArg List.length hz2
   rw [this]
   rcases (by omega : k = 0 ∨ k = 1 ∨ k = 2) with rfl | rfl | rfl <;> decide +kernel
  unfold readL
  rw [lines_real (locT l) _ _ xs (ys ++ zs) _ (locT_read l h) e2 (by simp only [List.length_append]; omega)]
  obtain ⟨f, hf⟩ : ∃ f, (xs ++ (ys ++ zs)).length + 1 - (locT l).length = f + 2 := ⟨(xs ++ (ys ++ zs)).length + 1 - (locT l).length - 2, by simp only [List.length_append]; omega⟩
  rw [hf]
  rcases more_line hk (⟨l, namedD l.ord⟩ : Sta) h3 with hA | ⟨s', hB, hA⟩
  ·obtain ⟨y, hy, hl⟩ := hA ys hy2 zs
   have hp := f4 y hy
   refine ⟨y.at_, ?_, by omega, by omega⟩
   unfold linesL
   rw [if_neg (by cases ys with | nil => simp at hy0 | cons => simp), hl]
  ·have hl := hB ys hy2 zs
   obtain ⟨y, hy, hz⟩ := hA zs hz2 []
   rw [List.append_nil] at hz
   have hp := k4 y hy
   refine ⟨y.at_, ?_, by omega, by omega⟩
   rw [linesL_step hl (by cases ys with | nil => simp at hy0 | cons => simp)]
   unfold linesL
   rw [if_neg (by cases zs with | nil => simp at hz0 | cons => simp), hz]
 obtain ⟨p, hr, p1, p2⟩ := hread
 refine ⟨p, ?_, p1, p2⟩
 unfold parseL
 simp only [hlex, hr]
end Go.Proofs.YthaibekbefndlaaGreatDoor.C
