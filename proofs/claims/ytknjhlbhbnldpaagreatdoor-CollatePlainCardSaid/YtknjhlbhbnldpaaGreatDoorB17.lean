/-
  Joined: KoG, KoI, KoY. Each with what its own head says.
-/
import Derived.Test.YtknjhlbhbnldpaaGreatDoorB15
import Derived.Test.YtknjhlbhbnldpaaGreatDoorB16

namespace Go.Proofs.YtknjhlbhbnldpaaGreatDoor.C
open Go.RowKit

theorem flat_lenK {sz : Nat} : ∀ {xs : List (List Value)}, (∀ x ∈ xs, x.length = sz) → xs.flatten.length = xs.length * sz
 | [], _ => by simp
 | x :: r, h => by
  rw [List.flatten_cons, List.length_append, h x (by simp), flat_lenK (fun y hy => h y (by simp [hy])), List.length_cons, Nat.add_mul]
  omega
theorem prs_cells {w : World} {B n : Nat} {ad : Addr} {l : List (Int × Int)} (h : SI 2 w B (some ad) n (l.map prRow)) : ∀ (j : Nat) (u : Value), (prsC l)[j]? = some u → w.cell? (ad.add j) = some u := by
 intro j u hj
 have hx2 : ∀ x ∈ l.map prRow, x.length = 2 := by intro x hx; obtain ⟨y, _, rfl⟩ := List.mem_map.1 hx; rfl
 have hfl : (prsC l).length = n * 2 := by rw [prsC_flat, flat_lenK hx2, h.len]
 have hjl : j < (prsC l).length := (List.getElem?_eq_some_iff.1 hj).1
 obtain ⟨ad', x, e, _, hx, hxl, hc⟩ := h.at_ (k := j / 2) (by omega)
 injection e with e
 subst e
 have hi : x[j % 2]? = some (x[j % 2]'(by rw [hxl]; omega)) := List.getElem?_eq_getElem _
 have h1 := flat_at hx2 hx hi
 rw [← prsC_flat, show j / 2 * 2 + j % 2 = j by omega] at h1
 rw [hj] at h1
 have h2 := hc _ _ hi
 rw [show j / 2 * 2 + j % 2 = j by omega] at h2
 rw [h2, ← h1]
theorem prs_one (l : List (Int × Int)) : ∀ u ∈ prsC l, u.oneCell' = true := by
 intro u hu
 unfold prsC at hu
 obtain ⟨x, _, hx⟩ := List.mem_flatMap.1 hu
 simp at hx
 rcases hx with rfl | rfl <;> rfl
theorem cel_one (l : List Int) : ∀ u ∈ celC l, u.oneCell' = true := by
 intro u hu
 obtain ⟨x, _, rfl⟩ := List.mem_map.1 hu
 rfl

set_option maxRecDepth 100000 in
set_option maxHeartbeats 2000000 in
theorem cloneC_raw (w : World) (ad : Addr) (n c : Nat) (news : List Value) (hl : news.length = n * 1) (hn : n ≤ 1073741824) (hc : ∀ (j : Nat) (u : Value), news[j]? = some u → w.cell? (ad.add j) = some u) (h1 : ∀ u ∈ news, u.oneCell' = true) :
  Calls Tryz.prog 43 #[.slice (some ad) n c] w fun e w' => ∃ v, e = .returned v ∧ w'.ownsRow w.heap.size 23 1 v n news ∧ Below w.heap.size w w' := by
 have q22 : ∀ (w : World) (a : Option Addr) (n c n' c' : Nat), (binOp .eql 33 (.slice a n c) (.slice none n' c')).run Tryz.prog w = .ok (.bool a.isNone) w := fun w a n c n' c' => Lib.run_eql_slice_nil w _ _ a n c n' c' Tryz.underlying33
 obtain ⟨i0, hi, hz0, hz1, hz2⟩ := info_parts info33
 have HC := Lib.hid hc
 have HL := Lib.hid hl
 clear hc hl
 go_enter Tryz.func43, Tryz.ntmps43
 go_wp2_with (at_builtin; refine wpList_append_own _ rfl _ _ 33 rfl w.heap.size 23 i0 (.int .i32 0) 1 4 Tryz.underlying33 hi hz0 hz1 hz2 rfl (by decide) _ _ _ rfl (World.ownsRow_made w #[] 0 (Nat.le_refl _) (Nat.zero_le _) (by simp)) ad n c news rfl ?qc1 ?qc2 ?qc3 ?qc4 ?qc5 ?qc6 ?_)
 case qc1 => exact HL.out
 case qc2 =>
  intro j u hj
  exact Lib.cell?_alloc_some _ (HC.out j u hj)
 case qc3 => exact h1
 case qc4 => rw [Nat.zero_add]; unfold maxLen; omega
 case qc5 => rw [Nat.zero_add]; omega
 case qc6 => simp
 intro v' w1 hown hgrow hnil
 have HE : Hid (w1.ownsRow w.heap.size 23 1 v' n news ∧ Below w.heap.size w w1) := Lib.hid ⟨by simpa using hown, ((Below.refl _ w).alloc (Nat.le_refl _) _).grown hgrow (by simp) (fun k hk => by simp [Value.ownBlock] at hk; omega)⟩
 clear hown hgrow hnil
 go_wp2
 go_ret
 exact ⟨_, rfl, HE.out⟩
set_option maxRecDepth 100000 in
set_option maxHeartbeats 1000000 in
theorem cloneC_nil (w : World) (n c : Nat) : Calls Tryz.prog 43 #[.slice none n c] w fun e w' => e = .returned (.slice none 0 0) ∧ w' = w := by
 have q22 : ∀ (w : World) (a : Option Addr) (n c n' c' : Nat), (binOp .eql 33 (.slice a n c) (.slice none n' c')).run Tryz.prog w = .ok (.bool a.isNone) w := fun w a n c n' c' => Lib.run_eql_slice_nil w _ _ a n c n' c' Tryz.underlying33
 go_enter Tryz.func43, Tryz.ntmps43
 go_wp2
 go_ret
 exact ⟨rfl, rfl⟩

theorem cloneC_any (w : World) (B : Nat) (A : Option Addr) (n c : Nat) (xs : List Int) (h : RI .i32 w B A n xs) (hn : n ≤ 1073741824) :
  Calls Tryz.prog 43 #[.slice A n c] w fun e w' => ∃ v', e = .returned v' ∧ w'.ownsRow w.heap.size 23 1 v' n (celC xs) ∧ Below w.heap.size w w' := by
 have hlen := h.len
 cases A with
 | none =>
  obtain rfl : n = 0 := by
   rcases Nat.eq_zero_or_pos n with h1 | h1
   ·exact h1
   ·obtain ⟨_, _, e, _⟩ := h.at_ h1
    cases e
  obtain rfl : xs = [] := List.length_eq_zero_iff.1 hlen
  refine (cloneC_nil w 0 c).mono ?_
  rintro e w' ⟨rfl, rfl⟩
  exact ⟨_, rfl, World.ownsRow_nil _ _ _ _, Below.refl _ _⟩
 | some ad =>
  refine cloneC_raw w ad n c (celC xs) (by simp [celC, hlen]) hn (fun j u hj => ?_) (cel_one xs)
  unfold celC at hj
  rw [List.getElem?_map] at hj
  obtain ⟨x, hx, rfl⟩ := Option.map_eq_some_iff.1 hj
  have hjl := (List.getElem?_eq_some_iff.1 hx).1
  obtain ⟨ad', u, e, _, hu, hc⟩ := h.at_ (k := j) (by omega)
  injection e with e
  subst e
  rw [hx] at hu
  injection hu with hu
  rw [hc, hu]

set_option maxRecDepth 100000 in
set_option maxHeartbeats 2000000 in
theorem cloneP_raw (w : World) (ad : Addr) (n c : Nat) (news : List Value) (hl : news.length = n * 2) (hn : n ≤ 1073741824) (hc : ∀ (j : Nat) (u : Value), news[j]? = some u → w.cell? (ad.add j) = some u) (h1 : ∀ u ∈ news, u.oneCell' = true) :
  Calls Tryz.prog 32 #[.slice (some ad) n c] w fun e w' => ∃ v, e = .returned v ∧ w'.ownsRow w.heap.size 95 2 v n news ∧ Below w.heap.size w w' := by
 have q22 : ∀ (w : World) (a : Option Addr) (n c n' c' : Nat), (binOp .eql 27 (.slice a n c) (.slice none n' c')).run Tryz.prog w = .ok (.bool a.isNone) w := fun w a n c n' c' => Lib.run_eql_slice_nil w _ _ a n c n' c' Tryz.underlying27
 obtain ⟨i0, hi, hz0, hz1, hz2⟩ := info_parts infoPair
 have HC := Lib.hid hc
 have HL := Lib.hid hl
 clear hc hl
 go_enter Tryz.func32, Tryz.ntmps32
 go_wp2_with (at_builtin; refine wpList_append_own _ rfl _ _ 27 rfl w.heap.size 95 i0 (.agg #[.int .i32 0, .int .i32 0]) 2 8 Tryz.underlying27 hi hz0 hz1 hz2 rfl (by decide) _ _ _ rfl (World.ownsRow_made w #[] 0 (Nat.le_refl _) (Nat.zero_le _) (by simp)) ad n c news rfl ?qc1 ?qc2 ?qc3 ?qc4 ?qc5 ?qc6 ?_)
 case qc1 => exact HL.out
 case qc2 =>
  intro j u hj
  exact Lib.cell?_alloc_some _ (HC.out j u hj)
 case qc3 => exact h1
 case qc4 => rw [Nat.zero_add]; unfold maxLen; omega
 case qc5 => rw [Nat.zero_add]; omega
 case qc6 => simp
 intro v' w1 hown hgrow hnil
 have HE : Hid (w1.ownsRow w.heap.size 95 2 v' n news ∧ Below w.heap.size w w1) := Lib.hid ⟨by simpa using hown, ((Below.refl _ w).alloc (Nat.le_refl _) _).grown hgrow (by simp) (fun k hk => by simp [Value.ownBlock] at hk; omega)⟩
 clear hown hgrow hnil
 go_wp2
 go_ret
 exact ⟨_, rfl, HE.out⟩
set_option maxRecDepth 100000 in
set_option maxHeartbeats 1000000 in
theorem cloneP_nil (w : World) (n c : Nat) : Calls Tryz.prog 32 #[.slice none n c] w fun e w' => e = .returned (.slice none 0 0) ∧ w' = w := by
 have q22 : ∀ (w : World) (a : Option Addr) (n c n' c' : Nat), (binOp .eql 27 (.slice a n c) (.slice none n' c')).run Tryz.prog w = .ok (.bool a.isNone) w := fun w a n c n' c' => Lib.run_eql_slice_nil w _ _ a n c n' c' Tryz.underlying27
 go_enter Tryz.func32, Tryz.ntmps32
 go_wp2
 go_ret
 exact ⟨rfl, rfl⟩

theorem cloneP_any (w : World) (B : Nat) (v : Value) (l : List (Int × Int)) (h : PrsR w B v l) (hn : l.length ≤ 1073741824) :
  Calls Tryz.prog 32 #[v] w fun e w' => ∃ v', e = .returned v' ∧ w'.ownsRow w.heap.size 95 2 v' l.length (prsC l) ∧ Below w.heap.size w w' := by
 obtain ⟨A, c, rfl, hsi⟩ := h
 cases A with
 | none =>
  have h0 : l = [] := by
   rcases Nat.eq_zero_or_pos l.length with h | h
   ·exact List.length_eq_zero_iff.1 h
   ·obtain ⟨_, _, e, _⟩ := hsi.at_ h
    cases e
  subst h0
  refine (cloneP_nil w 0 c).mono ?_
  rintro e w' ⟨rfl, rfl⟩
  exact ⟨_, rfl, World.ownsRow_nil _ _ _ _, Below.refl _ _⟩
 | some ad =>
  have hx2 : ∀ x ∈ l.map prRow, x.length = 2 := by intro x hx; obtain ⟨y, _, rfl⟩ := List.mem_map.1 hx; rfl
  exact cloneP_raw w ad l.length c (prsC l) (by rw [prsC_flat, flat_lenK hx2, List.length_map]) hn (prs_cells hsi) (prs_one l)

set_option maxRecDepth 100000 in
set_option maxHeartbeats 2000000 in
theorem cloneR_raw (w : World) (ad : Addr) (n c : Nat) (news : List Value) (hl : news.length = n * 2) (hn : n ≤ 17592186044416) (hc : ∀ (j : Nat) (u : Value), news[j]? = some u → w.cell? (ad.add j) = some u) (h1 : ∀ u ∈ news, u.oneCell' = true) :
  Calls Tryz.prog 72 #[.slice (some ad) n c] w fun e w' => ∃ v, e = .returned v ∧ w'.ownsRow w.heap.size 109 2 v n news ∧ Below w.heap.size w w' := by
 have q22 : ∀ (w : World) (a : Option Addr) (n c n' c' : Nat), (binOp .eql 84 (.slice a n c) (.slice none n' c')).run Tryz.prog w = .ok (.bool a.isNone) w := fun w a n c n' c' => Lib.run_eql_slice_nil w _ _ a n c n' c' Tryz.underlying84
 obtain ⟨i0, hi, hz0, hz1, hz2⟩ := info_parts infoRange
 have HC := Lib.hid hc
 have HL := Lib.hid hl
 clear hc hl
 go_enter Tryz.func72, Tryz.ntmps72
 go_wp2_with (at_builtin; refine wpList_append_own _ rfl _ _ 84 rfl w.heap.size 109 i0 (.agg #[.int .i32 0, .int .i32 0]) 2 8 Tryz.underlying84 hi hz0 hz1 hz2 rfl (by decide) _ _ _ rfl (World.ownsRow_made w #[] 0 (Nat.le_refl _) (Nat.zero_le _) (by simp)) ad n c news rfl ?qc1 ?qc2 ?qc3 ?qc4 ?qc5 ?qc6 ?_)
 case qc1 => exact HL.out
 case qc2 =>
  intro j u hj
  exact Lib.cell?_alloc_some _ (HC.out j u hj)
 case qc3 => exact h1
 case qc4 => rw [Nat.zero_add]; unfold maxLen; omega
 case qc5 => rw [Nat.zero_add]; omega
 case qc6 => simp
 intro v' w1 hown hgrow hnil
 have HE : Hid (w1.ownsRow w.heap.size 109 2 v' n news ∧ Below w.heap.size w w1) := Lib.hid ⟨by simpa using hown, ((Below.refl _ w).alloc (Nat.le_refl _) _).grown hgrow (by simp) (fun k hk => by simp [Value.ownBlock] at hk; omega)⟩
 clear hown hgrow hnil
 go_wp2
 go_ret
 exact ⟨_, rfl, HE.out⟩
set_option maxRecDepth 100000 in
set_option maxHeartbeats 1000000 in
theorem cloneR_nil (w : World) (n c : Nat) : Calls Tryz.prog 72 #[.slice none n c] w fun e w' => e = .returned (.slice none 0 0) ∧ w' = w := by
 have q22 : ∀ (w : World) (a : Option Addr) (n c n' c' : Nat), (binOp .eql 84 (.slice a n c) (.slice none n' c')).run Tryz.prog w = .ok (.bool a.isNone) w := fun w a n c n' c' => Lib.run_eql_slice_nil w _ _ a n c n' c' Tryz.underlying84
 go_enter Tryz.func72, Tryz.ntmps72
 go_wp2
 go_ret
 exact ⟨rfl, rfl⟩

theorem cloneR_any (w : World) (B : Nat) (v : Value) (l : List (Int × Int)) (h : PrsR w B v l) (hn : l.length ≤ 17592186044416) :
  Calls Tryz.prog 72 #[v] w fun e w' => ∃ v', e = .returned v' ∧ w'.ownsRow w.heap.size 109 2 v' l.length (prsC l) ∧ Below w.heap.size w w' := by
 obtain ⟨A, c, rfl, hsi⟩ := h
 cases A with
 | none =>
  have h0 : l = [] := by
   rcases Nat.eq_zero_or_pos l.length with h | h
   ·exact List.length_eq_zero_iff.1 h
   ·obtain ⟨_, _, e, _⟩ := hsi.at_ h
    cases e
  subst h0
  refine (cloneR_nil w 0 c).mono ?_
  rintro e w' ⟨rfl, rfl⟩
  exact ⟨_, rfl, World.ownsRow_nil _ _ _ _, Below.refl _ _⟩
 | some ad =>
  have hx2 : ∀ x ∈ l.map prRow, x.length = 2 := by intro x hx; obtain ⟨y, _, rfl⟩ := List.mem_map.1 hx; rfl
  exact cloneR_raw w ad l.length c (prsC l) (by rw [prsC_flat, flat_lenK hx2, List.length_map]) hn (prs_cells hsi) (prs_one l)
end Go.Proofs.YtknjhlbhbnldpaaGreatDoor.C

namespace Go.Proofs.YtknjhlbhbnldpaaGreatDoor.C
open Go.RowKit Go.Shelf Go.Sort Go.Lib

theorem getBang {ys : List Int} {k : Nat} : ys.toArray[k]! = ys.getD k 0 := by
 rw [List.getElem!_toArray, List.getElem!_eq_getElem?_getD, List.getD_eq_getElem?_getD]
 rfl
theorem compact_mem {ys : List Int} {z : Int} : z ∈ compactUpTo ys.toArray ys.length ↔ z ∈ ys := by
 have step : ∀ j, j < ys.length → ys.getD j 0 ∈ compactUpTo ys.toArray ys.length := by
  intro j
  induction j with
  | zero =>
   intro h
   unfold compactUpTo
   exact List.mem_map.2 ⟨0, List.mem_filter.2 ⟨List.mem_range.2 h, by simp [keeps]⟩, getBang⟩
  | succ j ih =>
   intro h
   cases hk : keeps ys.toArray (j + 1) with
   | true =>
    unfold compactUpTo
    exact List.mem_map.2 ⟨j + 1, List.mem_filter.2 ⟨List.mem_range.2 h, hk⟩, getBang⟩
   | false =>
    have e : ys.toArray[j + 1]! = ys.toArray[j]! := by
     unfold keeps at hk
     simpa using hk
    rw [getBang, getBang] at e
    rw [e]
    exact ih (by omega)
 constructor
 ·intro h
  unfold compactUpTo at h
  obtain ⟨j, hj, rfl⟩ := List.mem_map.1 h
  have hj := List.mem_range.1 (List.mem_filter.1 hj).1
  rw [getBang, List.getD_eq_getElem?_getD, List.getElem?_eq_getElem hj]
  exact List.getElem_mem hj
 ·intro h
  obtain ⟨j, hj, rfl⟩ := List.mem_iff_getElem.1 h
  have := step j hj
  rwa [List.getD_eq_getElem?_getD, List.getElem?_eq_getElem hj] at this
theorem compact_up {ys : List Int} (h : ys.Pairwise (· ≤ ·)) : (compactUpTo ys.toArray ys.length).Pairwise (· < ·) := by
 have hle : ∀ i j, i ≤ j → j < ys.length → ys.getD i 0 ≤ ys.getD j 0 := by
  intro i j hij hj
  rcases Nat.lt_or_eq_of_le hij with h1 | rfl
  ·have := List.pairwise_iff_getElem.1 h i j (by omega) hj h1
   rwa [List.getD_eq_getElem?_getD, List.getElem?_eq_getElem (by omega), List.getD_eq_getElem?_getD, List.getElem?_eq_getElem hj]
  ·exact Int.le_refl _
 unfold compactUpTo
 rw [List.pairwise_map]
 have hr : ((List.range ys.length).filter (keeps ys.toArray)).Pairwise (· < ·) := List.Pairwise.filter _ List.pairwise_lt_range
 refine hr.imp_of_mem fun {i j} hi hj hij => ?_
 have hj1 := List.mem_filter.1 hj
 have hjl := List.mem_range.1 hj1.1
 have hk := hj1.2
 unfold keeps at hk
 have hne : ys.toArray[j]! ≠ ys.toArray[j - 1]! := by
  have : j = 0 ∨ ys.toArray[j]! ≠ ys.toArray[j - 1]! := by simpa using hk
  exact this.resolve_left (by omega)
 rw [getBang, getBang] at hne
 show ys.toArray[i]! < ys.toArray[j]!
 rw [getBang, getBang]
 have h1 := hle i (j - 1) (by omega) (by omega)
 have h2 := hle (j - 1) j (by omega) hjl
 omega
theorem compact_rise {ys zs : List Int} (hp : ys.Perm zs) (h : ys.Pairwise (· ≤ ·)) : compactUpTo ys.toArray ys.length = riseL zs :=
 up_one (compact_up h) (rise_up zs) fun z => by rw [compact_mem, rise_mem, hp.mem_iff]
theorem row_holds {w : World} {g : Nat} {t : TypeId} {ys : List Int} {rest : List Value} (h : Row w g t (celC ys ++ rest)) : Holds (Value.int .i32) w g 0 ys.toArray := by
 intro j hj
 rw [Nat.zero_add]
 have hj' : j < ys.length := by simpa using hj
 exact ⟨by rw [getBang]; exact h.cell (getD_at hj' rest), h.frozen j⟩
theorem row_put {w : World} {g q : Nat} {t : TypeId} {ys ds : List Int} {rest : List Value} (h : Row w g t (celC ys ++ rest)) (hl : ds.length = ys.length) : Row (putRow (Value.int .i32) (Sort.ahead w q) g 0 ds.toArray) g t (celC ds ++ rest) := by
 have hg := (Array.getElem?_eq_some_iff.1 h)
 unfold Row putRow mapBlock
 show (w.heap.modify g _)[g]? = _
 rw [Array.getElem?_modify, if_pos rfl, show w.heap[g]? = _ from h]
 show some (Obj.cells (putCells (Value.int .i32) 0 ds.toArray (celC ys ++ rest).toArray) t (0, 0)) = _
 congr 2
 apply Array.ext_getElem?
 intro k
 unfold putCells
 rw [Array.getElem?_mapIdx]
 by_cases hk : k < ds.length
 ·have e1 : (celC ys ++ rest).toArray[k]? = some (.int .i32 (ys.getD k 0)) := by simpa using getD_at (by omega) rest
  have e2 : (celC ds ++ rest).toArray[k]? = some (.int .i32 (ds.getD k 0)) := by simpa using getD_at hk rest
  rw [e1, e2, Option.map_some, if_pos ⟨Nat.zero_le _, by simpa using hk⟩, Nat.sub_zero, getBang]
 ·have e1 : (celC ys ++ rest).toArray[k]? = rest[k - ds.length]? := by
   rw [List.getElem?_toArray, List.getElem?_append_right (by simp [celC]; omega)]
   simp [celC, hl]
  have e2 : (celC ds ++ rest).toArray[k]? = rest[k - ds.length]? := by
   rw [List.getElem?_toArray, List.getElem?_append_right (by simp [celC]; omega)]
   simp [celC]
  rw [e1, e2]
  cases rest[k - ds.length]? with
  | none => rfl
  | some x => rw [Option.map_some, if_neg (by rintro ⟨_, h2⟩; simp at h2; omega)]
theorem fr_put (w : World) (g q : Nat) (d : Array Int) : Fr w (putRow (Value.int .i32) (Sort.ahead w q) g 0 d) (· = g) :=
 ⟨rfl, rfl, rfl, by rw [size_putRow]; exact Nat.le_refl _, fun b _ hne => by
  show (w.heap.modify g _)[b]? = _
  rw [Array.getElem?_modify, if_neg (fun e => hne e.symm)]⟩
theorem own_open {w : World} {lo n : Nat} {v : Value} {zs : List Int} {e : TypeId} (h : w.ownsRow lo e 1 v n (celC zs)) (hn : 0 < n) : ∃ (g cap : Nat) (rest : List Value), v = .slice (some ⟨g, 0, none⟩) n cap ∧ lo ≤ g ∧ Row w g e (celC zs ++ rest) ∧ n ≤ cap ∧ cap ≤ maxLen ∧ n + rest.length = cap := by
 have hl := h.1
 rcases h.2 with ⟨_, h0⟩ | ⟨g, cap, cur, h1, h2, h3, h4, h5, h6, h7⟩
 ·omega
 ·refine ⟨g, cap, cur.toList.drop (n * 1), h1, h2, ?_, h4, h5, ?_⟩
  ·unfold Row
   rw [h3, ← h7, List.take_append_drop]
  ·rw [List.length_drop, Array.length_toList, h6]
   omega
theorem own_shut {w : World} {lo g n cap : Nat} {zs : List Int} {rest : List Value} {e : TypeId} (h : Row w g e (celC zs ++ rest)) (hg : lo ≤ g) (hl : n ≤ zs.length) (hc : zs.length + rest.length = cap) (hm : cap ≤ maxLen) : w.ownsRow lo e 1 (.slice (some ⟨g, 0, none⟩) n cap) n (celC (zs.take n)) := by
 refine ⟨by simp [celC]; omega, .inr ⟨g, cap, _, rfl, hg, h, by omega, hm, by simp [celC]; omega, ?_⟩⟩
 rw [List.toList_toArray, Nat.mul_one, List.take_append_of_le_length (by simp [celC]; exact hl)]
 unfold celC
 rw [List.map_take]
set_option maxRecDepth 100000 in
set_option maxHeartbeats 2000000 in
theorem pdq5_any (w : World) (g c : Nat) (t : TypeId) (zs : List Int) (rest : List Value) (k : Int) (hr : Row w g t (celC zs ++ rest)) (hlen : zs.length = 5) :
  Calls Tryz.prog 115 #[.slice (some ⟨g, 0, none⟩) 5 c, .int .i64 0, .int .i64 5, .int .i64 k] w fun e w' => e = .returned (.tuple #[]) ∧ ∃ ys, Row w' g t (celC ys ++ rest) ∧ ys.Perm zs ∧ ys.Pairwise (· ≤ ·) ∧ Fr w w' (· = g) := by
 have hi := insert_any w g c 5 t zs rest hr hlen (by omega) (by omega)
 clear hr hlen
 go_enter Tryz.func115, Tryz.ntmps115
 go_wp2
 go_loopw [1, 2] (fun a b wr => a = .int .i64 0 ∧ b = .int .i64 5 ∧ wr = w) (fun _ _ _ => 0)
 case atStart => exact ⟨rfl, rfl, rfl⟩
 case round =>
  obtain ⟨rfl, rfl, rfl⟩ := hrel
  go_wp2_with (go_at_call 141; refine hi.mono ?_; rintro e w' ⟨rfl, hw⟩)
  first | refine bodyPost_ret (results_none rfl _ _ _) rfl ?_ | (simp only [Exit.inBlock, Exit.then]; refine bodyPost_ret (results_none rfl _ _ _) rfl ?_) | (trace_state; fail)
  exact ⟨rfl, hw⟩
set_option maxRecDepth 100000 in
set_option maxHeartbeats 2000000 in
theorem sort5_any (w : World) (g c : Nat) (t : TypeId) (zs : List Int) (rest : List Value) (hr : Row w g t (celC zs ++ rest)) (hlen : zs.length = 5) :
  Calls Tryz.prog 78 #[.slice (some ⟨g, 0, none⟩) 5 c] w fun e w' => e = .returned (.tuple #[]) ∧ ∃ ys, Row w' g t (celC ys ++ rest) ∧ ys.Perm zs ∧ ys.Pairwise (· ≤ ·) ∧ Fr w w' (· = g) := by
 have hi := fun k => pdq5_any w g c t zs rest k hr hlen
 clear hr hlen
 go_enter Tryz.func78, Tryz.ntmps78
 go_wp2_with (first | (go_at_call 115; refine (hi _).mono ?_; rintro e w' ⟨rfl, hw⟩) | (go_at_call 116; go_in) | (go_at_call 151; go_in))
 go_end0
 exact ⟨rfl, hw⟩
set_option maxRecDepth 100000 in
set_option maxHeartbeats 2000000 in
theorem rising_any (w : World) (Bx : Nat) (Ax : Option Addr) (c : Nat) (zs : List Int) (hx : RI .i32 w Bx Ax 5 zs) :
  Calls Tryz.prog 37 #[.slice Ax 5 c] w fun e w' => ∃ v, e = .returned v ∧ w'.ownsRow w.heap.size 23 1 v (riseL zs).length (celC (riseL zs)) ∧ Below w.heap.size w w' := by
 have hlen := hx.len
 have hcl := cloneC_any w Bx Ax 5 c zs hx (by omega)
 clear hx
 go_enter Tryz.func37, Tryz.ntmps37
 go_wp2_with fail
 refine hcl.mono ?_
 rintro e w1 ⟨v, rfl, hown, hb1⟩
 obtain ⟨g, cap, rest, rfl, hg, hr1, hc1, hc2, hc3⟩ := own_open hown (by omega)
 have hs1 := hr1.lt
 have hso := sort5_any w1 g cap _ zs rest hr1 hlen
 have HB1 := Lib.hid hb1
 clear hcl hown hb1 hr1
 go_wp2_with fail
 refine hso.mono ?_
 rintro e w2 ⟨rfl, ys, hr2, hp, hup, hf2⟩
 have hyl : ys.length = 5 := by rw [hp.length_eq, hlen]
 have hco := AnyE.slices_Compact Tryz.laysCm (Value.int .i32) (fun _ => rfl) (EqlAt.intD _ _ .i32) (NeqAt.intD _ _ .i32) 0 Tryz.zeroValue23 g 0 cap ys.toArray w2 (row_holds hr2) (by simp; omega) (by simp; omega)
 have e5 : ys.toArray.size = 5 := by simpa using hyl
 have hrise : compactUpTo ys.toArray 5 = riseL zs := by rw [← hyl]; exact compact_rise hp hup
 rw [e5, hrise] at hco
 have hrl : (riseL zs).length ≤ 5 := by rw [← hlen]; exact rise_len zs
 have hdl : (riseL zs ++ List.replicate (5 - (riseL zs).length) (0 : Int)).length = ys.length := by rw [List.length_append, List.length_replicate, hyl]; omega
 have HEND : Hid (∀ q, (putRow (Value.int .i32) (Sort.ahead w2 q) g 0 (riseL zs ++ List.replicate (5 - (riseL zs).length) (0 : Int)).toArray).ownsRow w.heap.size 23 1 (.slice (some ⟨g, 0, none⟩) (riseL zs).length cap) (riseL zs).length (celC (riseL zs)) ∧ Below w.heap.size w (putRow (Value.int .i32) (Sort.ahead w2 q) g 0 (riseL zs ++ List.replicate (5 - (riseL zs).length) (0 : Int)).toArray)) := Lib.hid fun q => by
  have h1 := own_shut (lo := w.heap.size) (n := (riseL zs).length) (cap := cap) (row_put (q := q) hr2 hdl) hg (by rw [List.length_append]; omega) (by rw [hdl, hyl]; omega) hc2
  rw [List.take_left' rfl] at h1
  refine ⟨h1, HB1.out.trans ?_⟩
  exact ((hf2.trans (fr_put w2 g q _)).below (by rintro j _ rfl; exact hg) HB1.out.size)
 clear hso hr2 hp hup hf2 hyl hrise hdl e5
 go_wp2_with fail
 refine hco.mono ?_
 rintro e w3 ⟨rfl, q, rfl⟩
 clear hco
 go_wp2
 go_ret
 exact ⟨_, rfl, HEND.out q⟩
end Go.Proofs.YtknjhlbhbnldpaaGreatDoor.C

namespace Go.Proofs.YtknjhlbhbnldpaaGreatDoor.C
open Go.RowKit

def namedK (l : List (Elm × Value)) : List (Value × Value) := (l.filter fun x => !x.1.name.isEmpty).map fun x => (.string (str x.1.name), x.2)
theorem namedK_yes {l : List (Elm × Value)} {e : Elm} {u : Value} (h : e.name ≠ []) : namedK (l ++ [(e, u)]) = namedK l ++ [(.string (str e.name), u)] := by
 unfold namedK
 rw [List.filter_append, List.map_append]
 simp [h]
theorem namedK_no {l : List (Elm × Value)} {e : Elm} {u : Value} (h : e.name = []) : namedK (l ++ [(e, u)]) = namedK l := by
 unfold namedK
 rw [List.filter_append, List.map_append]
 simp [h]
theorem sndV_at3 {xs : List (List Value)} {i : Nat} {a u b : Value} (h : xs[i]? = some [a, u, b]) : (sndV xs)[i]? = some u := by
 unfold sndV
 rw [List.getElem?_map, h]
 rfl
set_option maxRecDepth 100000 in
set_option maxHeartbeats 4000000 in
theorem fillName (T : Nat) (t : TypeId) (l : List Value) (w : World) (v : Value) (es : List Elm) (hl : l[1]? = some v) (hes : OrdR w T v es) (ho : ordB es = true) (hT : T < w.heap.size) :
  Fills 84 (.pointer (some ⟨T, 1, none⟩)) .string T 6 t w l (PName T es) := by
 intro W M hf hr hM hm
 have hn : es.length ≤ 500 := by unfold ordB at ho; simp only [Bool.and_eq_true, decide_eq_true_eq] at ho; exact ho.1
 have hb := hf.belowT (Nat.le_of_lt hT)
 have hWT : T < W.heap.size := by have := hf.size; omega
 have c4 : W.cell? ⟨T, 1, none⟩ = some v := hr.cell (by rw [set_ne (by omega), set_ne (by omega)]; exact hl)
 have hO := hes.on hb (Nat.le_refl _)
 obtain ⟨A, c, xs, rfl, hsi, hel⟩ := hO
 obtain ⟨vs, hvs⟩ : ∃ vs, vs = sndV xs := ⟨_, rfl⟩
 have hlen : vs.length = es.length := by rw [hvs, sndV, List.length_map, hsi.len]
 have hev : ∀ (i : Nat) (e : Elm) (u : Value), es[i]? = some e → vs[i]? = some u → ∃ Ac cc, u = .slice Ac e.cells.length cc ∧ RI .i32 W T Ac e.cells.length e.cells := by
  intro i e u hi hu
  obtain ⟨Ac, cc, hx, hri, _⟩ := hel i e hi
  rw [hvs, sndV_at3 hx] at hu
  exact ⟨Ac, cc, (Option.some.inj hu).symm, hri⟩
 have HSI := Lib.hid hsi
 have HEL := Lib.hid hel
 have HEV := Lib.hid hev
 have HLEN := Lib.hid hlen
 have HVS := Lib.hid hvs
 have HOK := Lib.hid ho
 have HTM : Hid (T < M ∧ T ≤ W.heap.size) := Lib.hid ⟨by omega, by omega⟩
 have HM := Lib.hid hm
 clear hf hr hes hb hl hm hM hT hWT ho hsi hel hev hlen hvs
 go_enter Tryz.func84, Tryz.ntmps84
 go_wp2
 go_loopw [11] (fun iv wr => ∃ k : Nat, k ≤ es.length ∧ iv = .int .i64 k ∧ Hid (Fr W wr (· = M) ∧ MapIs wr M .string (namedK ((es.zip vs).take k)))) (fun iv _ => es.length - (intOf iv).toNat)
 case atStart => exact ⟨0, Nat.zero_le _, rfl, Lib.hid ⟨Fr.refl _ _, HM.out⟩⟩
 case round =>
  obtain ⟨k, hk, rfl, HQ⟩ := hrel
  by_cases hlt : k < es.length
  ·obtain ⟨p, hp⟩ : ∃ p, es[k]? = some p := ⟨_, List.getElem?_eq_getElem hlt⟩
   have hB := keep_map HQ.out.1 HTM.out.2 (Nat.le_of_lt HTM.out.1)
   obtain ⟨ad, a, b, s, rfl, hbl, hx, hc0, hc1, hc2⟩ := (HSI.out.on hB (Nat.le_refl _)).at3 hlt
   obtain ⟨Ac, cc, hx', _⟩ := HEL.out k p hp
   obtain ⟨rfl, rfl, rfl⟩ : a = .string (str p.name) ∧ b = .slice Ac p.cells.length cc ∧ s = .int .i64 p.same := by rw [hx] at hx'; simpa using hx'
   have hz : (es.zip vs)[k]? = some (p, .slice Ac p.cells.length cc) := by rw [List.getElem?_zip_eq_some]; exact ⟨hp, by rw [HVS.out]; exact sndV_at3 hx⟩
   obtain ⟨w2, hw2⟩ : ∃ w2, w2 = wr.alloc (.cells #[.string (str p.name), .slice Ac p.cells.length cc, .int .i64 p.same] 39) := ⟨_, rfl⟩
   have hb2 : Below wr.heap.size wr w2 := by rw [hw2]; exact (Below.refl _ _).alloc (Nat.le_refl _) _
   have hm2 := HQ.out.2.at_ (hb2.block M HQ.out.2.lt)
   have hot := ord_at HOK.out hp
   have x0 : w2.cell? ⟨wr.heap.size, 0, none⟩ = some (.string (str p.name)) := by rw [hw2]; simp
   have x1 : w2.cell? ⟨wr.heap.size, 1, none⟩ = some (.slice Ac p.cells.length cc) := by rw [hw2]; simp
   have i0 : (0 : Int) ≤ (k : Int) := by omega
   have i1 : (k : Int) < (es.length : Int) := by omega
   have HF2 : Hid (Fr W w2 (· = M)) := Lib.hid (HQ.out.1.trans (.of_below hb2))
   have HZ := Lib.hid hz
   by_cases hnm : p.name = []
   ·have hne3 : str p.name = ⟨#[]⟩ := by rw [hnm]; rfl
    have HEND : Hid (Fr W w2 (· = M) ∧ MapIs w2 M .string (namedK ((es.zip vs).take (k + 1)))) := Lib.hid ⟨HF2.out, by rw [take_one hz, namedK_no hnm]; exact hm2⟩
    rw [hne3] at hw2 x0 hc0
    clear hm2 hb2 hbl hB hp hx hx' hz hot hnm hne3
    subst hw2
    go_wp2
    go_roundw
    case rel => exact ⟨k + 1, by omega, by go_num, HEND⟩
    case measure => simp [intOf]; omega
   ·have hnot : (Value.string (str p.name)) ∉ (namedK ((es.zip vs).take k)).map Prod.fst := by
     intro h
     unfold namedK at h
     rw [List.map_map] at h
     obtain ⟨x, hx1, e⟩ := List.mem_map.1 h
     have e' : x.1.name = p.name := strV_inj e
     have hx2 : x.1 ∈ es.take k := by
      have := (List.mem_filter.1 hx1).1
      obtain ⟨j, hj, e3⟩ := List.mem_take_iff_getElem.1 this
      have h4 : (es.zip vs)[j]? = some x := by rw [List.getElem?_eq_getElem (by omega), e3]
      rw [List.getElem?_zip_eq_some] at h4
      exact List.mem_take_iff_getElem.2 ⟨j, by have := (List.getElem?_eq_some_iff.1 h4.1).1; omega, (List.getElem?_eq_some_iff.1 h4.1).2⟩
     have h5 := hot.2.2.2 hnm
     have h6 : ((es.take k).any fun x => decide (x.name = p.name)) = true := List.any_eq_true.2 ⟨x.1, hx2, by simpa using e'⟩
     rw [h6] at h5
     cases h5
    have hne : (str p.name).toList.isEmpty = false := by
     rw [Lib.toList_data]
     show p.name.isEmpty = false
     cases hl : p.name with
     | nil => exact absurd hl hnm
     | cons a r => rfl
    obtain ⟨ob, hput, hm3⟩ := hm2.put_new (P := Tryz.prog) Tryz.underlying75 Tryz.underlying9 (key := .string (str p.name)) (by first | trivial | rfl) hnot (.slice Ac p.cells.length cc)
    have HEND : Hid (Fr W (putObj w2 M ob) (· = M) ∧ MapIs (putObj w2 M ob) M .string (namedK ((es.zip vs).take (k + 1)))) := Lib.hid ⟨HF2.out.next (.of_grown (putObj_only ob)) (by intro j _ e; injection e with e; exact e.symm), by rw [take_one hz, namedK_yes hnm]; exact hm3⟩
    clear hm2 hm3 hnot hb2 hbl hB hp hx hx' hz hot hnm
    subst hw2
    go_wp2
    go_roundw
    case rel => exact ⟨k + 1, by omega, by go_num, HEND⟩
    case measure => simp [intOf]; omega
  ·obtain rfl : k = es.length := by omega
   have HE : Hid (Fr W wr (· = M) ∧ PName T es wr M) := Lib.hid ⟨HQ.out.1, HTM.out.1, vs, HLEN.out, by
    have := HQ.out.2
    rwa [List.take_of_length_le (by rw [List.length_zip]; omega)] at this, fun i e u a b => by
     obtain ⟨Ac, cc, k1, k2⟩ := HEV.out i e u a b
     have hB := keep_map HQ.out.1 HTM.out.2 (Nat.le_of_lt HTM.out.1)
     exact ⟨Ac, cc, k1, k2.keep fun p hp => hB.cell (p := p) hp⟩⟩
   go_wp2
   go_end0
   exact ⟨rfl, HE.out⟩
end Go.Proofs.YtknjhlbhbnldpaaGreatDoor.C
