/-
  Joined: LcQ, LcS, LcT, LgG. Each with what its own head says.
-/
import Derived.Test.YthaibekbefndlaaGreatDoorH33

namespace Go.Proofs.YthaibekbefndlaaGreatDoor.C
open Go.RowKit

theorem lex_linesT (ls : List (List Tok)) (hg : GoodLs ls) (h1 : (linesT ls).length ≤ 4000) (h2 : (toksT ls).length ≤ 1000) :
  ∃ ys, lexL (linesT ls) = (ys, 0, 0) ∧ ys.map erT = (toksT ls).map erT ∧ ∀ y ∈ ys, y.at_ < (linesT ls).length := by
 obtain ⟨ys, h3, h4, h5, h7⟩ := run_linesT ls hg [] 0 [] rfl
 rw [List.append_nil, List.nil_append, runL_nil] at h3
 have h6 : ∀ k, endL ys k = ys := by intro k; unfold endL; rw [if_pos (by simpa using h5)]
 rw [h6] at h3
 refine ⟨ys, ?_, h4, fun y hy => by have := h7 y hy; omega⟩
 have hlen : ys.length = (toksT ls).length := by simpa using congrArg List.length h4
 unfold lexL
 rw [if_neg (by omega), h3]
 simp only
 rw [if_neg (by omega)]
end Go.Proofs.YthaibekbefndlaaGreatDoor.C

namespace Go.Proofs.YthaibekbefndlaaGreatDoor.C

theorem linesL_er : ∀ (f : Nat) (s : Sta) (ts : List Tok), linesL f s (ts.map erT) = erX (linesL f s ts)
 | 0, _, _ => rfl
 | f + 1, s, ts => by
  unfold linesL
  rw [lineL_er]
  have e : (ts.map erT).isEmpty = ts.isEmpty := by cases ts <;> rfl
  rw [e]
  by_cases h : ts.isEmpty = true
  ·rw [if_pos h, if_pos h]; rfl
  ·rw [if_neg h, if_neg h]
   rcases lineL s ts with e | ⟨s', r⟩
   ·rfl
   ·simp only [erE, id]
    exact linesL_er f s' r
theorem readL_of {ts us : List Tok} (h : ts.map erT = us.map erT) {l : Loc} (hu : readL us = .ok l) : readL ts = .ok l := by
 have hlen : ts.length = us.length := by simpa using congrArg List.length h
 unfold readL at hu ⊢
 have h1 := linesL_er (ts.length + 1) ⟨noL, []⟩ ts
 have h2 := linesL_er (us.length + 1) ⟨noL, []⟩ us
 rw [hu, ← h, ← hlen, h1] at h2
 generalize linesL (ts.length + 1) ⟨noL, []⟩ ts = X at h2
 rcases X with e | o
 ·simp [erX] at h2
 ·simp [erX] at h2
  rw [h2]

end Go.Proofs.YthaibekbefndlaaGreatDoor.C

namespace Go.Proofs.YthaibekbefndlaaGreatDoor.C

theorem linesOk_read : ∀ {ls : List (List Tok)} {s s' : Sta}, LinesOk s ls s' → ∀ f, ls.length + 1 ≤ f → linesL f s (toksT ls) = .ok s'.l
 | [], s, s', h, f, hf => by
  cases h
  obtain ⟨f, rfl⟩ : ∃ g, f = g + 1 := ⟨f - 1, by omega⟩
  rfl
 | l :: r, s, s', ⟨s1, h1, h2⟩, f, hf => by
  obtain ⟨f, rfl⟩ : ∃ g, f = g + 1 := ⟨f - 1, by omega⟩
  rw [toksT_cons]
  exact (linesL_step (f := f) (h1 (toksT r)) (by simp)).trans (linesOk_read h2 f (by simpa using hf))
end Go.Proofs.YthaibekbefndlaaGreatDoor.C

namespace Go.Proofs.YthaibekbefndlaaGreatDoor.C

theorem parse_printed {l : Loc} (h : rightL l = true) (hq : ∀ e ∈ l.ord, e.name ≠ [] → (34 : UInt8) ∉ bytesOf e.cells ∧ (10 : UInt8) ∉ bytesOf e.cells) (h1 : (linesT (locT l)).length ≤ 4000) (h2 : (toksT (locT l)).length ≤ 1000) : parseL (linesT (locT l)) = (l, 0, 0) := by
 obtain ⟨ys, hl, hy, _⟩ := lex_linesT _ (good_locT h hq) h1 h2
 have hr : readL ys = .ok l := by
  have h3 := linesOk_read (locT_read l h) ((toksT (locT l)).length + 1) (by
   have : ∀ ls : List (List Tok), ls.length ≤ (toksT ls).length := by
    intro ls
    induction ls with
    | nil => simp
    | cons a r ih => rw [toksT_cons]; simp only [List.length_append, List.length_cons]; omega
   have := this (locT l)
   omega)
  exact readL_of hy h3
 unfold parseL
 simp only [hl, hr]
end Go.Proofs.YthaibekbefndlaaGreatDoor.C
