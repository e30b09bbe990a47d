/-
  Plain: what is read of the plain locale's brackets: the chapter's examples, letters alone, letters from one to another one. No condition.
-/
import Derived.Test.YthgiikhkcpbpfaaGreatDoorQBaA
import Derived.Test.YthgiikhkcpbpfaaGreatDoorB17
import Derived.Test.YthgiikhkcpbpfaaGreatDoorB24
import Derived.Test.YthgiikhkcpbpfaaGreatDoorB27
namespace Go.Proofs.YthgiikhkcpbpfaaGreatDoor.C
open Go.RowKit

theorem plain_places : (List.range 128).all (fun c => decide (placeV plainLoc.ord [(c : Int)] = (c : Int)) && decide (cellsJ plainLoc.ord c = [(c : Int)])) = true := by decide +kernel
theorem plain_place {c : Nat} (h : c < 128) : placeV plainLoc.ord [(c : Int)] = (c : Int) := by
 have := List.all_eq_true.1 plain_places c (List.mem_range.2 h)
 simp only [Bool.and_eq_true, decide_eq_true_eq] at this
 exact this.1
theorem plain_cellsJ {c : Nat} (h : c < 128) : cellsJ plainLoc.ord c = [(c : Int)] := by
 have := List.all_eq_true.1 plain_places c (List.mem_range.2 h)
 simp only [Bool.and_eq_true, decide_eq_true_eq] at this
 exact this.2
def ex1 : List Int := [97, 45, 99, 91, 58, 100, 105, 103, 105, 116, 58, 93, 93]
theorem brk_ex1 : brkL plainLoc ex1 0 = (⟨false, [(97, 97), (98, 98), (99, 99), (48, 57)], []⟩, 13, 0, 0) := by decide +kernel
theorem brk_ex2 : brkL plainLoc [93, 94, 93] 0 = (⟨false, [(93, 93), (94, 94)], []⟩, 3, 0, 0) := by decide +kernel
theorem brk_ex3 : brkL plainLoc [97] 0 = (⟨false, [], []⟩, 0, 30, 1) := by decide +kernel
theorem brk_ex4 : brkL plainLoc [99, 45, 97, 93] 0 = (⟨false, [], []⟩, 0, 40, 1) := by decide +kernel
theorem atS_one {l : List Int} {k : Nat} {c x : Int} (h : l[k]? = some c) (r : List Int) (hx : x ≠ c) : atS l k (x :: r) = false := by
 unfold atS
 have hk := (List.getElem?_eq_some_iff.1 h).1
 rw [List.drop_eq_getElem_cons hk]
 rw [List.getElem?_eq_getElem hk] at h
 injection h with h
 rw [h]
 show (x == c && List.isPrefixOf r _) = false
 rw [show (x == c) = false by simpa using hx]
 rfl
theorem atS_yes {l : List Int} {k : Nat} {c : Int} (h : l[k]? = some c) : atS l k [c] = true := by
 unfold atS
 have hk := (List.getElem?_eq_some_iff.1 h).1
 rw [List.drop_eq_getElem_cons hk]
 rw [List.getElem?_eq_getElem hk] at h
 injection h with h
 rw [h]
 simp
theorem item_letter (L : Loc) {l : List Int} {s : BSet} {k : Nat} {c d : Int} (hc : l[k]? = some c) (hd : l[k + 1]? = some d) (h91 : c ≠ 91) (h45 : d ≠ 45) : itemB L l s k = .ok (put1 s [c], k + 1) := by
 unfold itemB
 rw [atS_one hc _ (Ne.symm h91), atS_one hc _ (Ne.symm h91), if_neg (by decide), if_neg (by decide)]
 unfold elemsB elemB10
 rw [atS_one hc _ (Ne.symm h91), if_neg (by decide), hc]
 simp only
 have ht : thruL l (k + 1) = false := by unfold thruL; rw [atS_one hd _ (Ne.symm h45)]; rfl
 rw [ht]
 rfl
def Lets (ls : List Int) : Prop := ∀ c ∈ ls, c ≠ 91 ∧ c ≠ 45 ∧ c ≠ 93 ∧ c ≠ 94
theorem lets_at {ls : List Int} (h : Lets ls) {k : Nat} (hk : k < ls.length) : ∃ c d, (ls ++ [93])[k]? = some c ∧ ls[k]? = some c ∧ (ls ++ [93])[k + 1]? = some d ∧ c ≠ 91 ∧ c ≠ 93 ∧ c ≠ 94 ∧ d ≠ 45 := by
 have hm : ls[k] ∈ ls := List.getElem_mem hk
 obtain ⟨h1, h2, h3, h4⟩ := h _ hm
 by_cases h5 : k + 1 < ls.length
 ·obtain ⟨_, g2, _, _⟩ := h _ (List.getElem_mem h5)
  exact ⟨ls[k], ls[k + 1], by rw [List.getElem?_append_left hk, List.getElem?_eq_getElem hk], List.getElem?_eq_getElem hk, by rw [List.getElem?_append_left h5, List.getElem?_eq_getElem h5], h1, h3, h4, g2⟩
 ·refine ⟨ls[k], 93, by rw [List.getElem?_append_left hk, List.getElem?_eq_getElem hk], List.getElem?_eq_getElem hk, ?_, h1, h3, h4, by decide⟩
  rw [List.getElem?_append_right (by omega), show k + 1 - ls.length = 0 by omega]
  rfl
theorem lets_end (ls : List Int) : (ls ++ [93])[ls.length]? = some 93 := by rw [List.getElem?_append_right (Nat.le_refl _), Nat.sub_self]; rfl
theorem items_lets (L : Loc) {ls : List Int} (h : Lets ls) : ∀ (f k : Nat) (s : BSet), k ≤ ls.length → ls.length - k < f → itemsB L (ls ++ [93]) f s k = .ok (⟨s.no, s.rs ++ (ls.drop k).map (fun c => (c, c)), s.ts⟩, ls.length + 1) := by
 intro f
 induction f with
 | zero => intro k s _ h2; omega
 | succ f ih =>
  intro k s h1 h2
  unfold itemsB
  by_cases hk : k < ls.length
  ·obtain ⟨c, d, e1, e2, e3, n1, n2, _, n4⟩ := lets_at h hk
   rw [atS_one e1 _ (Ne.symm n2), if_neg (by decide), item_letter L e1 e3 n1 n4]
   simp only
   rw [ih (k + 1) _ (by omega) (by omega)]
   rw [List.getElem?_eq_getElem hk] at e2
   injection e2 with e2
   rw [List.drop_eq_getElem_cons hk, e2]
   simp [put1]
  ·obtain rfl : k = ls.length := by omega
   rw [atS_yes (lets_end ls), if_pos rfl, List.drop_length]
   simp
theorem brk_lets (L : Loc) {ls : List Int} (h : Lets ls) (hne : ls ≠ []) : brkL L (ls ++ [93]) 0 = (⟨false, ls.map (fun c => (c, c)), []⟩, ls.length + 1, 0, 0) := by
 have hl := List.length_pos_iff.2 hne
 obtain ⟨c, d, e1, e2, e3, n1, n2, n3, n4⟩ := lets_at h hl
 have hr : readB L (ls ++ [93]) 0 = .ok (⟨false, ls.map (fun c => (c, c)), []⟩, ls.length + 1) := by
  unfold readB
  rw [atS_one e1 _ (Ne.symm n3)]
  simp only [Bool.false_eq_true, ↓reduceIte]
  rw [item_letter L e1 e3 n1 n4]
  simp only
  rw [items_lets L h _ 1 _ (by omega) (by simp; omega)]
  rw [List.getElem?_eq_getElem hl] at e2
  injection e2 with e2
  simp only [put1]
  have : ls = ls[0] :: ls.drop 1 := by
   have := List.drop_eq_getElem_cons hl
   simpa using this
  rw [this, e2]
  simp
 unfold brkL
 simp only [Int.toNat_zero, Nat.zero_min]
 rw [hr]
theorem runN_one (a m : Nat) (h : a + m ≤ 128) : (runN a m).map (cellsJ plainLoc.ord) = (List.range m).map fun i => [((a + i : Nat) : Int)] := by
 unfold runN
 rw [List.map_map]
 refine List.map_congr_left fun i hi => ?_
 rw [List.mem_range] at hi
 exact plain_cellsJ (c := a + i) (by omega)
theorem putL_ones (s : BSet) (cs : List Int) : putL s (cs.map fun c => [c]) = { s with rs := s.rs ++ cs.map fun c => (c, c) } := by
 unfold putL
 induction cs generalizing s with
 | nil => simp
 | cons c r ih =>
  rw [List.map_cons, List.foldl_cons, ih]
  simp [put1]
theorem brk_row {a b : Nat} (h1 : 97 ≤ a) (h2 : a ≤ b) (h3 : b ≤ 122) : brkL plainLoc [(a : Int), 45, (b : Int), 93] 0 = (⟨false, (List.range (b - a + 1)).map (fun i => (((a + i : Nat) : Int), ((a + i : Nat) : Int))), []⟩, 4, 0, 0) := by
 have pa := plain_place (c := a) (by omega)
 have pb := plain_place (c := b) (by omega)
 have e0 : [(a : Int), 45, (b : Int), 93][0]? = some (a : Int) := rfl
 have e1 : [(a : Int), 45, (b : Int), 93][0 + 1]? = some 45 := rfl
 have e2 : [(a : Int), 45, (b : Int), 93][0 + 1 + 1]? = some (b : Int) := rfl
 have e3 : [(a : Int), 45, (b : Int), 93][0 + 1 + 1 + 1]? = some 93 := rfl
 have hi : itemB plainLoc [(a : Int), 45, (b : Int), 93] ⟨false, [], []⟩ 0 = .ok (⟨false, (List.range (b - a + 1)).map (fun i => (((a + i : Nat) : Int), ((a + i : Nat) : Int))), []⟩, 3) := by
  unfold itemB
  rw [atS_one e0 _ (by omega), atS_one e0 _ (by omega), if_neg (by decide), if_neg (by decide)]
  unfold elemsB elemB10
  rw [atS_one e0 _ (by omega), if_neg (by decide), e0]
  simp only
  unfold thruL
  rw [atS_yes e1, e2]
  rw [if_pos (by simp; omega)]
  rw [atS_one e2 _ (by omega), if_neg (by decide)]
  simp only
  unfold betwB
  rw [pa, pb, if_neg (by omega), if_neg (by omega)]
  simp only [Int.toNat_natCast]
  rw [runN_one a _ (by omega)]
  have := putL_ones ⟨false, [], []⟩ ((List.range (b - a + 1)).map fun i => ((a + i : Nat) : Int))
  rw [List.map_map, List.map_map] at this
  have h : putL ⟨false, [], []⟩ ((List.range (b - a + 1)).map fun i => [((a + i : Nat) : Int)]) = _ := this
  rw [h]
  rfl
 have hr : readB plainLoc [(a : Int), 45, (b : Int), 93] 0 = .ok (⟨false, (List.range (b - a + 1)).map (fun i => (((a + i : Nat) : Int), ((a + i : Nat) : Int))), []⟩, 4) := by
  unfold readB
  rw [atS_one e0 _ (by omega)]
  simp only [Bool.false_eq_true, ↓reduceIte]
  rw [hi]
  simp only [List.length_cons, List.length_nil, Nat.reduceAdd, Nat.reduceSub]
  unfold itemsB
  rw [show (3 : Nat) = 0 + 1 + 1 + 1 from rfl, atS_yes e3]
  rfl
 unfold brkL
 simp only [Int.toNat_zero, Nat.zero_min]
 rw [hr]
end Go.Proofs.YthgiikhkcpbpfaaGreatDoor.C
