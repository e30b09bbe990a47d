/-
  Plain: what stands behind an opening bracket is a set (brkL). No condition.
-/
import Derived.Test.YthgiikhkcpbpfaaGreatDoorB17
import Derived.Test.YthgiikhkcpbpfaaGreatDoorB24
import Derived.Test.YthgiikhkcpbpfaaGreatDoorB27
namespace Go.Proofs.YthgiikhkcpbpfaaGreatDoor.C
open Go.RowKit

structure BSet where
 no : Bool
 rs : List (Int × Int)
 ts : List (List Int)
deriving DecidableEq
abbrev BEr := Nat × Nat
def atS (l : List Int) (k : Nat) (s : List Int) : Bool := s.isPrefixOf (l.drop k)
def upToL (l : List Int) (k : Nat) (x : Int) : Except BEr (List Int × Nat) :=
 let cs := (l.drop k).takeWhile (fun c => c != x)
 if atS l (k + cs.length) [x, 93] then .ok (cs, k + cs.length + 2) else .error (30, l.length)
def namedB (L : Loc) (l : List Int) (b k : Nat) (x : Int) : Except BEr (List Int × Nat) :=
 match upToL l k x with
 | .error e => .error e
 | .ok (cs, k') =>
  if cs = [] then .error (30, l.length)
  else if namedT L.ord (textL cs) ≠ [] then .ok (namedT L.ord (textL cs), k')
  else if placeV L.ord cs < 0 then .error (31, b)
  else .ok (cs, k')
def elemB10 (L : Loc) (l : List Int) (k : Nat) : Except BEr (List Int × Nat) :=
 if atS l k [91, 46] then namedB L l k (k + 2) 46 else
 match l[k]? with
 | none => .error (30, l.length)
 | some c => .ok ([c], k + 1)
def put1 (s : BSet) (cs : List Int) : BSet := match cs with
 | [c] => { s with rs := s.rs ++ [(c, c)] }
 | _ => { s with ts := s.ts ++ [cs] }
def putL (s : BSet) (rows : List (List Int)) : BSet := rows.foldl put1 s
def betwB (L : Loc) (s : BSet) (a b : List Int) (p : Nat) : Except BEr BSet :=
 if a.length = 1 ∧ b.length = 1 ∧ (placeV L.ord a < 0 ∨ placeV L.ord b < 0) then
  if b.headD 0 < a.headD 0 then .error (40, p) else .ok { s with rs := s.rs ++ [(a.headD 0, b.headD 0)] }
 else if placeV L.ord a < 0 ∨ placeV L.ord b < placeV L.ord a then .error (40, p)
 else .ok (putL s ((runN (placeV L.ord a).toNat ((placeV L.ord b).toNat - (placeV L.ord a).toNat + 1)).map (cellsJ L.ord)))
def thruL (l : List Int) (k : Nat) : Bool := atS l k [45] && decide (k + 1 < l.length) && (l[k + 1]? != some 93)
def elemsB (L : Loc) (l : List Int) (s : BSet) (k : Nat) : Except BEr (BSet × Nat) :=
 match elemB10 L l k with
 | .error e => .error e
 | .ok (a, k1) =>
  if thruL l k1 then
   match elemB10 L l (k1 + 1) with
   | .error e => .error e
   | .ok (b, k2) => match betwB L s a b k1 with
    | .error e => .error e
    | .ok s' => .ok (s', k2)
  else .ok (put1 s a, k1)
def itemB (L : Loc) (l : List Int) (s : BSet) (k : Nat) : Except BEr (BSet × Nat) :=
 if atS l k [91, 58] then
  match upToL l (k + 2) 58 with
  | .error e => .error e
  | .ok (cs, k') => match rangesL L.cls (textL cs) with
   | none => .error (31, k)
   | some rs => .ok ({ s with rs := s.rs ++ rs }, k')
 else if atS l k [91, 61] then
  match namedB L l k (k + 2) 61 with
  | .error e => .error e
  | .ok (cs, k') => .ok (putL s (alikeL L.ord cs), k')
 else elemsB L l s k
def itemsB (L : Loc) (l : List Int) : Nat → BSet → Nat → Except BEr (BSet × Nat)
 | 0, _, _ => .error (30, l.length)
 | f + 1, s, k =>
  if atS l k [93] then .ok (s, k + 1) else
  match itemB L l s k with
  | .error e => .error e
  | .ok (s', k') => itemsB L l f s' k'
def readB (L : Loc) (l : List Int) (k0 : Nat) : Except BEr (BSet × Nat) :=
 let no := atS l k0 [94]
 match itemB L l ⟨no, [], []⟩ (if no then k0 + 1 else k0) with
 | .error e => .error e
 | .ok (s, k) => match itemsB L l (l.length + 1 - k) s k with
  | .error e => .error e
  | .ok (s, k) => .ok (if no then { s with ts := [] } else s, k)
def brkL (L : Loc) (l : List Int) (at_ : Int) : BSet × Nat × Nat × Nat :=
 match readB L l (min at_.toNat l.length) with
 | .error e => (⟨false, [], []⟩, 0, e.1, e.2)
 | .ok (s, k) => (s, k, 0, 0)
theorem atS_len {l : List Int} {k : Nat} {s : List Int} (h : atS l k s = true) (hs : s ≠ []) : k + s.length ≤ l.length := by
 unfold atS at h
 have h1 := (List.isPrefixOf_iff_prefix.1 h).length_le
 rw [List.length_drop] at h1
 have := List.length_pos_iff.2 hs
 omega
theorem upToL_ok {l : List Int} {k : Nat} {x : Int} {cs : List Int} {k' : Nat} (h : upToL l k x = .ok (cs, k')) : k + 2 ≤ k' ∧ k' ≤ l.length ∧ cs = (l.drop k).takeWhile (fun c => c != x) ∧ k' = k + cs.length + 2 := by
 unfold upToL at h
 simp only at h
 by_cases h1 : atS l (k + ((l.drop k).takeWhile (fun c => c != x)).length) [x, 93] = true
 ·rw [if_pos h1] at h
  injection h with h
  injection h with ha hb
  have := atS_len h1 (by simp)
  simp only [List.length_cons, List.length_nil] at this
  subst ha
  refine ⟨by omega, by omega, rfl, hb.symm⟩
 ·rw [if_neg h1] at h
  cases h
theorem upToL_err {l : List Int} {k : Nat} {x : Int} {e : BEr} (h : upToL l k x = .error e) : e = (30, l.length) := by
 unfold upToL at h
 simp only at h
 split at h
 ·cases h
 ·injection h with h; exact h.symm
theorem namedB_ok {L : Loc} {l : List Int} {b k : Nat} {x : Int} {cs : List Int} {k' : Nat} (h : namedB L l b k x = .ok (cs, k')) : k + 2 ≤ k' ∧ k' ≤ l.length := by
 unfold namedB at h
 cases hu : upToL l k x with
 | error e => rw [hu] at h; cases h
 | ok p =>
  obtain ⟨c, k1⟩ := p
  rw [hu] at h
  simp only at h
  obtain ⟨h1, h2, _⟩ := upToL_ok hu
  split at h
  ·cases h
  ·split at h
   ·injection h with h; injection h with _ h; omega
   ·split at h
    ·cases h
    ·injection h with h; injection h with _ h; omega
theorem elemB10_ok {L : Loc} {l : List Int} {k : Nat} {cs : List Int} {k' : Nat} (h : elemB10 L l k = .ok (cs, k')) : k + 1 ≤ k' ∧ k' ≤ l.length := by
 unfold elemB10 at h
 split at h
 ·obtain ⟨h1, h2⟩ := namedB_ok h; omega
 ·split at h
  ·cases h
  ·next c hc =>
   have := (List.getElem?_eq_some_iff.1 hc).1
   injection h with h; injection h with _ h; omega
theorem elemsB_ok {L : Loc} {l : List Int} {s s' : BSet} {k k' : Nat} (h : elemsB L l s k = .ok (s', k')) : k + 1 ≤ k' ∧ k' ≤ l.length := by
 unfold elemsB at h
 cases hu : elemB10 L l k with
 | error e => rw [hu] at h; cases h
 | ok p =>
  obtain ⟨a, k1⟩ := p
  rw [hu] at h
  simp only at h
  obtain ⟨h1, h2⟩ := elemB10_ok hu
  split at h
  ·cases hv : elemB10 L l (k1 + 1) with
   | error e => rw [hv] at h; cases h
   | ok q =>
    obtain ⟨b, k2⟩ := q
    rw [hv] at h
    simp only at h
    obtain ⟨h3, h4⟩ := elemB10_ok hv
    split at h
    ·cases h
    ·injection h with h; injection h with _ h; omega
  ·injection h with h; injection h with _ h; omega
theorem itemB_ok {L : Loc} {l : List Int} {s s' : BSet} {k k' : Nat} (h : itemB L l s k = .ok (s', k')) : k + 1 ≤ k' ∧ k' ≤ l.length := by
 unfold itemB at h
 split at h
 ·cases hu : upToL l (k + 2) 58 with
  | error e => rw [hu] at h; cases h
  | ok p =>
   obtain ⟨c, k1⟩ := p
   rw [hu] at h
   simp only at h
   obtain ⟨h1, h2, _⟩ := upToL_ok hu
   split at h
   ·cases h
   ·injection h with h; injection h with _ h; omega
 ·split at h
  ·cases hu : namedB L l k (k + 2) 61 with
   | error e => rw [hu] at h; cases h
   | ok p =>
    obtain ⟨c, k1⟩ := p
    rw [hu] at h
    simp only at h
    obtain ⟨h1, h2⟩ := namedB_ok hu
    injection h with h; injection h with _ h; omega
  ·exact elemsB_ok h
end Go.Proofs.YthgiikhkcpbpfaaGreatDoor.C
