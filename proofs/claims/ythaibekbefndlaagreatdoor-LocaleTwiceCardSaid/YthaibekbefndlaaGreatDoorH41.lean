/-
  Joined: LgE. Each with what its own head says.
-/
import Derived.Test.YthaibekbefndlaaGreatDoorH13

namespace Go.Proofs.YthaibekbefndlaaGreatDoor.C

def txtP : List (Tok × Bool) → List UInt8
 | [] => []
 | (x, b) :: r => bodyT x ++ ((if b then [32] else []) ++ txtP r)
def headB (x : Tok) : Bool := match bodyT x with
 | [] => false
 | c :: _ => !isW c
def okP : List (Tok × Bool) → Bool
 | [] => true
 | [_] => true
 | (_, b) :: (y, c) :: r => (b || headB y) && okP ((y, c) :: r)
theorem run_pieces : ∀ (ps : List (Tok × Bool)), ps ≠ [] → okP ps = true → (∀ p ∈ ps, GoodT p.1) → ∀ (rest : List UInt8) (k : Nat) (acc : List Tok),
  ∃ ys, runL (txtP ps ++ 10 :: rest) k acc = runL rest (k + (txtP ps).length + 1) (acc ++ ys) ∧ ys.map erT = ps.map (fun p => erT p.1) ++ [⟨6, [], 0, 0⟩] ∧ lastK (acc ++ ys) = 6 ∧ ∀ y ∈ ys, k ≤ y.at_ ∧ y.at_ < k + (txtP ps).length + 1
 | [], h, _, _ => absurd rfl h
 | [(x, b)], _, _, hg => by
  intro rest k acc
  have hx : GoodT x := hg (x, b) (by simp)
  cases b with
  | false =>
   obtain ⟨h1, h2⟩ := step_good hx isW_10 rest k acc
   have hlen : (txtP [(x, false)]).length = (bodyT x).length := by simp [txtP]
   have e : txtP [(x, false)] ++ 10 :: rest = bodyT x ++ 10 :: rest := by simp [txtP]
   refine ⟨[⟨x.k, x.t, x.n, k⟩, ⟨6, [], 0, k + (bodyT x).length⟩], ?_, by simp [erT], by
    rw [show acc ++ [(⟨x.k, x.t, x.n, k⟩ : Tok), ⟨6, [], 0, k + (bodyT x).length⟩] = (acc ++ [⟨x.k, x.t, x.n, k⟩]) ++ [⟨6, [], 0, k + (bodyT x).length⟩] by simp, lastK_snoc], ?_⟩
   ·rw [e, runL_some (by simp) h1 h2, List.drop_left, step_nl, hlen]
    congr 1
    unfold endL
    rw [lastK_snoc, if_neg (good_kind hx)]
    simp
   ·intro y hy
    rw [hlen]
    simp only [List.mem_cons, List.not_mem_nil, or_false] at hy
    rcases hy with rfl | rfl <;> simp only <;> omega
  | true =>
   obtain ⟨h1, h2⟩ := step_good hx isW_32 (10 :: rest) k acc
   have hlen : (txtP [(x, true)]).length = (bodyT x).length + 1 := by simp [txtP]
   have e : txtP [(x, true)] ++ 10 :: rest = bodyT x ++ 32 :: 10 :: rest := by simp [txtP]
   refine ⟨[⟨x.k, x.t, x.n, k⟩, ⟨6, [], 0, k + (bodyT x).length + 1⟩], ?_, by simp [erT], by
    rw [show acc ++ [(⟨x.k, x.t, x.n, k⟩ : Tok), ⟨6, [], 0, k + (bodyT x).length + 1⟩] = (acc ++ [⟨x.k, x.t, x.n, k⟩]) ++ [⟨6, [], 0, k + (bodyT x).length + 1⟩] by simp, lastK_snoc], ?_⟩
   ·rw [e, runL_some (by simp) h1 h2, List.drop_left, run_blank, step_nl, hlen]
    congr 1
    unfold endL
    rw [lastK_snoc, if_neg (good_kind hx)]
    simp
   ·intro y hy
    rw [hlen]
    simp only [List.mem_cons, List.not_mem_nil, or_false] at hy
    rcases hy with rfl | rfl <;> simp only <;> omega
 | (x, b) :: (y, c) :: r, _, hok, hg => by
  intro rest k acc
  have hx : GoodT x := hg (x, b) (by simp)
  have hok' : (b || headB y) = true ∧ okP ((y, c) :: r) = true := by rw [← Bool.and_eq_true]; exact hok
  have ih := fun k' acc' => run_pieces ((y, c) :: r) (by simp) hok'.2 (fun z hz => hg z (by simp [List.mem_cons.1 hz])) rest k' acc'
  cases b with
  | true =>
   obtain ⟨h1, h2⟩ := step_good hx isW_32 (txtP ((y, c) :: r) ++ 10 :: rest) k acc
   have e : txtP ((x, true) :: (y, c) :: r) ++ 10 :: rest = bodyT x ++ 32 :: (txtP ((y, c) :: r) ++ 10 :: rest) := by
    rw [show txtP ((x, true) :: (y, c) :: r) = bodyT x ++ ([32] ++ txtP ((y, c) :: r)) from rfl]
    simp
   have hlen : (txtP ((x, true) :: (y, c) :: r)).length = (bodyT x).length + 1 + (txtP ((y, c) :: r)).length := by
    rw [show txtP ((x, true) :: (y, c) :: r) = bodyT x ++ ([32] ++ txtP ((y, c) :: r)) from rfl]
    simp only [List.length_append, List.length_singleton]
    omega
   obtain ⟨ys, h3, h4, h5, h6⟩ := ih (k + (bodyT x).length + 1) (acc ++ [⟨x.k, x.t, x.n, k⟩])
   refine ⟨⟨x.k, x.t, x.n, k⟩ :: ys, ?_, by simp [erT] at h4 ⊢; exact h4, by simpa using h5, ?_⟩
   ·rw [e, runL_some (by simp) h1 h2, List.drop_left, run_blank, h3, hlen]
    rw [show k + (bodyT x).length + 1 + (txtP ((y, c) :: r)).length + 1 = k + ((bodyT x).length + 1 + (txtP ((y, c) :: r)).length) + 1 by omega]
    simp
   ·intro z hz
    rw [hlen]
    rcases List.mem_cons.1 hz with rfl | hz
    ·simp only; omega
    ·have := h6 z hz
     omega
  | false =>
   have hh : headB y = true := by simpa using hok'.1
   obtain ⟨c0, t0, hb, hw⟩ : ∃ c0 t0, bodyT y = c0 :: t0 ∧ isW c0 = false := by
    unfold headB at hh
    cases hb : bodyT y with
    | nil => rw [hb] at hh; cases hh
    | cons c0 t0 => rw [hb] at hh; exact ⟨c0, t0, rfl, by simpa using hh⟩
   obtain ⟨t1, ht1⟩ : ∃ t1, txtP ((y, c) :: r) ++ 10 :: rest = c0 :: t1 := by
    rw [show txtP ((y, c) :: r) = bodyT y ++ ((if c then [32] else []) ++ txtP r) from rfl, hb]
    exact ⟨_, by simp; rfl⟩
   obtain ⟨h1, h2⟩ := step_good hx hw t1 k acc
   have e : txtP ((x, false) :: (y, c) :: r) ++ 10 :: rest = bodyT x ++ c0 :: t1 := by
    rw [show txtP ((x, false) :: (y, c) :: r) = bodyT x ++ ([] ++ txtP ((y, c) :: r)) from rfl, ← ht1]
    simp
   have hlen : (txtP ((x, false) :: (y, c) :: r)).length = (bodyT x).length + (txtP ((y, c) :: r)).length := by
    rw [show txtP ((x, false) :: (y, c) :: r) = bodyT x ++ ([] ++ txtP ((y, c) :: r)) from rfl]
    simp
   obtain ⟨ys, h3, h4, h5, h6⟩ := ih (k + (bodyT x).length) (acc ++ [⟨x.k, x.t, x.n, k⟩])
   refine ⟨⟨x.k, x.t, x.n, k⟩ :: ys, ?_, by simp [erT] at h4 ⊢; exact h4, by simpa using h5, ?_⟩
   ·rw [e, runL_some (by simp) h1 h2, List.drop_left, ← ht1, h3, hlen]
    rw [show k + (bodyT x).length + (txtP ((y, c) :: r)).length + 1 = k + ((bodyT x).length + (txtP ((y, c) :: r)).length) + 1 by omega]
    simp
   ·intro z hz
    rw [hlen]
    rcases List.mem_cons.1 hz with rfl | hz
    ·simp only; omega
    ·have := h6 z hz
     omega
def goodP (ps : List (Tok × Bool)) : Bool := !ps.isEmpty && okP ps && ps.all fun p => decide (GoodT p.1)
theorem run_good {ps : List (Tok × Bool)} (h : goodP ps = true) : ∀ (rest : List UInt8) (k : Nat) (acc : List Tok),
  ∃ ys, runL (txtP ps ++ 10 :: rest) k acc = runL rest (k + (txtP ps).length + 1) (acc ++ ys) ∧ ys.map erT = ps.map (fun p => erT p.1) ++ [⟨6, [], 0, 0⟩] ∧ lastK (acc ++ ys) = 6 ∧ ∀ y ∈ ys, k ≤ y.at_ ∧ y.at_ < k + (txtP ps).length + 1 := by
 unfold goodP at h
 simp only [Bool.and_eq_true, List.all_eq_true, decide_eq_true_eq] at h
 exact run_pieces ps (by rintro rfl; simp at h) h.1.2 h.2

theorem ok_inj {α : Type} {a b : α} {r r' : List Tok} (h : (Except.ok (a, r) : Re α) = .ok (b, r')) : a = b ∧ r = r' := by
 injection h with h
 injection h with h1 h2
 exact ⟨h1, h2⟩
end Go.Proofs.YthaibekbefndlaaGreatDoor.C
