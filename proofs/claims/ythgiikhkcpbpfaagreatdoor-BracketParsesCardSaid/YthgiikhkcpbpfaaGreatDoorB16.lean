/-
  Joined: KoI, KoJ, KoK, KoL, KpH. Each with what its own head says.
-/
import Derived.Test.YthgiikhkcpbpfaaGreatDoorB13
import Derived.Test.YthgiikhkcpbpfaaGreatDoorB15
import Derived.Test.YthgiikhkcpbpfaaGreatDoorB14


namespace Go.Proofs.YthgiikhkcpbpfaaGreatDoor.C
open Go.RowKit Go.Shelf Go.Sort Go.Lib
theorem getBang {ys : List Int} {k : Nat} : ys.toArray[k]! = ys.getD k 0 := by
 rw [List.getElem!_toArray, List.getElem!_eq_getElem?_getD, List.getD_eq_getElem?_getD]
 rfl
theorem compact_mem {ys : List Int} {z : Int} : z ∈ compactUpTo ys.toArray ys.length ↔ z ∈ ys := by
 have step : ∀ j, j < ys.length → ys.getD j 0 ∈ compactUpTo ys.toArray ys.length := by
  intro j
  induction j with
  | zero =>
   intro h
   unfold compactUpTo
   exact List.mem_map.2 ⟨0, List.mem_filter.2 ⟨List.mem_range.2 h, by simp [keeps]⟩, getBang⟩
  | succ j ih =>
   intro h
   cases hk : keeps ys.toArray (j + 1) with
   | true =>
    unfold compactUpTo
    exact List.mem_map.2 ⟨j + 1, List.mem_filter.2 ⟨List.mem_range.2 h, hk⟩, getBang⟩
   | false =>
    have e : ys.toArray[j + 1]! = ys.toArray[j]! := by
     unfold keeps at hk
     simpa using hk
    rw [getBang, getBang] at e
    rw [e]
    exact ih (by omega)
 constructor
 ·intro h
  unfold compactUpTo at h
  obtain ⟨j, hj, rfl⟩ := List.mem_map.1 h
  have hj := List.mem_range.1 (List.mem_filter.1 hj).1
  rw [getBang, List.getD_eq_getElem?_getD, List.getElem?_eq_getElem hj]
  exact List.getElem_mem hj
 ·intro h
  obtain ⟨j, hj, rfl⟩ := List.mem_iff_getElem.1 h
  have := step j hj
  rwa [List.getD_eq_getElem?_getD, List.getElem?_eq_getElem hj] at this
theorem compact_up {ys : List Int} (h : ys.Pairwise (· ≤ ·)) : (compactUpTo ys.toArray ys.length).Pairwise (· < ·) := by
 have hle : ∀ i j, i ≤ j → j < ys.length → ys.getD i 0 ≤ ys.getD j 0 := by
  intro i j hij hj
  rcases Nat.lt_or_eq_of_le hij with h1 | rfl
  ·have := List.pairwise_iff_getElem.1 h i j (by omega) hj h1
   rwa [List.getD_eq_getElem?_getD, List.getElem?_eq_getElem (by omega), List.getD_eq_getElem?_getD, List.getElem?_eq_getElem hj]
  ·exact Int.le_refl _
 unfold compactUpTo
 rw [List.pairwise_map]
 have hr : ((List.range ys.length).filter (keeps ys.toArray)).Pairwise (· < ·) := List.Pairwise.filter _ List.pairwise_lt_range
 refine hr.imp_of_mem fun {i j} hi hj hij => ?_
 have hj1 := List.mem_filter.1 hj
 have hjl := List.mem_range.1 hj1.1
 have hk := hj1.2
 unfold keeps at hk
 have hne : ys.toArray[j]! ≠ ys.toArray[j - 1]! := by
  have : j = 0 ∨ ys.toArray[j]! ≠ ys.toArray[j - 1]! := by simpa using hk
  exact this.resolve_left (by omega)
 rw [getBang, getBang] at hne
 show ys.toArray[i]! < ys.toArray[j]!
 rw [getBang, getBang]
 have h1 := hle i (j - 1) (by omega) (by omega)
 have h2 := hle (j - 1) j (by omega) hjl
 omega
theorem compact_rise {ys zs : List Int} (hp : ys.Perm zs) (h : ys.Pairwise (· ≤ ·)) : compactUpTo ys.toArray ys.length = riseL zs :=
 up_one (compact_up h) (rise_up zs) fun z => by rw [compact_mem, rise_mem, hp.mem_iff]
theorem row_holds {w : World} {g : Nat} {t : TypeId} {ys : List Int} {rest : List Value} (h : Row w g t (celC ys ++ rest)) : Holds (Value.int .i32) w g 0 ys.toArray := by
 intro j hj
 rw [Nat.zero_add]
 have hj' : j < ys.length := by simpa using hj
 exact ⟨by rw [getBang]; exact h.cell (getD_at hj' rest), h.frozen j⟩
theorem row_put {w : World} {g q : Nat} {t : TypeId} {ys ds : List Int} {rest : List Value} (h : Row w g t (celC ys ++ rest)) (hl : ds.length = ys.length) : Row (putRow (Value.int .i32) (Sort.ahead w q) g 0 ds.toArray) g t (celC ds ++ rest) := by
 have hg := (Array.getElem?_eq_some_iff.1 h)
 unfold Row putRow mapBlock
 show (w.heap.modify g _)[g]? = _
 rw [Array.getElem?_modify, if_pos rfl, show w.heap[g]? = _ from h]
 show some (Obj.cells (putCells (Value.int .i32) 0 ds.toArray (celC ys ++ rest).toArray) t (0, 0)) = _
 congr 2
 apply Array.ext_getElem?
 intro k
 unfold putCells
 rw [Array.getElem?_mapIdx]
 by_cases hk : k < ds.length
 ·have e1 : (celC ys ++ rest).toArray[k]? = some (.int .i32 (ys.getD k 0)) := by simpa using getD_at (by omega) rest
  have e2 : (celC ds ++ rest).toArray[k]? = some (.int .i32 (ds.getD k 0)) := by simpa using getD_at hk rest
  rw [e1, e2, Option.map_some, if_pos ⟨Nat.zero_le _, by simpa using hk⟩, Nat.sub_zero, getBang]
 ·have e1 : (celC ys ++ rest).toArray[k]? = rest[k - ds.length]? := by
   rw [List.getElem?_toArray, List.getElem?_append_right (by simp [celC]; omega)]
   simp [celC, hl]
  have e2 : (celC ds ++ rest).toArray[k]? = rest[k - ds.length]? := by
   rw [List.getElem?_toArray, List.getElem?_append_right (by simp [celC]; omega)]
   simp [celC]
  rw [e1, e2]
  cases rest[k - ds.length]? with
  | none => rfl
  | some x => rw [Option.map_some, if_neg (by rintro ⟨_, h2⟩; simp at h2; omega)]
theorem fr_put (w : World) (g q : Nat) (d : Array Int) : Fr w (putRow (Value.int .i32) (Sort.ahead w q) g 0 d) (· = g) :=
 ⟨rfl, rfl, rfl, by rw [size_putRow]; exact Nat.le_refl _, fun b _ hne => by
  show (w.heap.modify g _)[b]? = _
  rw [Array.getElem?_modify, if_neg (fun e => hne e.symm)]⟩
theorem own_open {w : World} {lo n : Nat} {v : Value} {zs : List Int} {e : TypeId} (h : w.ownsRow lo e 1 v n (celC zs)) (hn : 0 < n) : ∃ (g cap : Nat) (rest : List Value), v = .slice (some ⟨g, 0, none⟩) n cap ∧ lo ≤ g ∧ Row w g e (celC zs ++ rest) ∧ n ≤ cap ∧ cap ≤ maxLen ∧ n + rest.length = cap := by
 have hl := h.1
 rcases h.2 with ⟨_, h0⟩ | ⟨g, cap, cur, h1, h2, h3, h4, h5, h6, h7⟩
 ·omega
 ·refine ⟨g, cap, cur.toList.drop (n * 1), h1, h2, ?_, h4, h5, ?_⟩
  ·unfold Row
   rw [h3, ← h7, List.take_append_drop]
  ·rw [List.length_drop, Array.length_toList, h6]
   omega
theorem own_shut {w : World} {lo g n cap : Nat} {zs : List Int} {rest : List Value} {e : TypeId} (h : Row w g e (celC zs ++ rest)) (hg : lo ≤ g) (hl : n ≤ zs.length) (hc : zs.length + rest.length = cap) (hm : cap ≤ maxLen) : w.ownsRow lo e 1 (.slice (some ⟨g, 0, none⟩) n cap) n (celC (zs.take n)) := by
 refine ⟨by simp [celC]; omega, .inr ⟨g, cap, _, rfl, hg, h, by omega, hm, by simp [celC]; omega, ?_⟩⟩
 rw [List.toList_toArray, Nat.mul_one, List.take_append_of_le_length (by simp [celC]; exact hl)]
 unfold celC
 rw [List.map_take]
set_option maxRecDepth 100000 in
set_option maxHeartbeats 2000000 in
theorem pdq5_any (w : World) (g c : Nat) (t : TypeId) (zs : List Int) (rest : List Value) (k : Int) (hr : Row w g t (celC zs ++ rest)) (hlen : zs.length = 5) :
  Calls Tryz.prog 155 #[.slice (some ⟨g, 0, none⟩) 5 c, .int .i64 0, .int .i64 5, .int .i64 k] w fun e w' => e = .returned (.tuple #[]) ∧ ∃ ys, Row w' g t (celC ys ++ rest) ∧ ys.Perm zs ∧ ys.Pairwise (· ≤ ·) ∧ Fr w w' (· = g) := by
 have hi := insert_any w g c 5 t zs rest hr hlen (by omega) (by omega)
 clear hr hlen
 go_enter Tryz.func155, Tryz.ntmps155
 go_wp2
 go_loopw [1, 2] (fun a b wr => a = .int .i64 0 ∧ b = .int .i64 5 ∧ wr = w) (fun _ _ _ => 0)
 case atStart => exact ⟨rfl, rfl, rfl⟩
 case round =>
  obtain ⟨rfl, rfl, rfl⟩ := hrel
  go_wp2_with (go_at_call 190; refine hi.mono ?_; rintro e w' ⟨rfl, hw⟩)
  first | refine bodyPost_ret (results_none rfl _ _ _) rfl ?_ | (simp only [Exit.inBlock, Exit.then]; refine bodyPost_ret (results_none rfl _ _ _) rfl ?_) | (trace_state; fail)
  exact ⟨rfl, hw⟩
set_option maxRecDepth 100000 in
set_option maxHeartbeats 2000000 in
theorem sort5_any (w : World) (g c : Nat) (t : TypeId) (zs : List Int) (rest : List Value) (hr : Row w g t (celC zs ++ rest)) (hlen : zs.length = 5) :
  Calls Tryz.prog 110 #[.slice (some ⟨g, 0, none⟩) 5 c] w fun e w' => e = .returned (.tuple #[]) ∧ ∃ ys, Row w' g t (celC ys ++ rest) ∧ ys.Perm zs ∧ ys.Pairwise (· ≤ ·) ∧ Fr w w' (· = g) := by
 have hi := fun k => pdq5_any w g c t zs rest k hr hlen
 clear hr hlen
 go_enter Tryz.func110, Tryz.ntmps110
 go_wp2_with (first | (go_at_call 155; refine (hi _).mono ?_; rintro e w' ⟨rfl, hw⟩) | (go_at_call 74; go_in) | (go_at_call 122; go_in))
 go_end0
 exact ⟨rfl, hw⟩
set_option maxRecDepth 100000 in
set_option maxHeartbeats 2000000 in
theorem rising_any (w : World) (Bx : Nat) (Ax : Option Addr) (c : Nat) (zs : List Int) (hx : RI .i32 w Bx Ax 5 zs) :
  Calls Tryz.prog 72 #[.slice Ax 5 c] w fun e w' => ∃ v, e = .returned v ∧ w'.ownsRow w.heap.size 30 1 v (riseL zs).length (celC (riseL zs)) ∧ Below w.heap.size w w' := by
 have hlen := hx.len
 have hcl := cloneC_any w Bx Ax 5 c zs hx (by omega)
 clear hx
 go_enter Tryz.func72, Tryz.ntmps72
 go_wp2_with fail
 refine hcl.mono ?_
 rintro e w1 ⟨v, rfl, hown, hb1⟩
 obtain ⟨g, cap, rest, rfl, hg, hr1, hc1, hc2, hc3⟩ := own_open hown (by omega)
 have hs1 := hr1.lt
 have hso := sort5_any w1 g cap _ zs rest hr1 hlen
 have HB1 := Lib.hid hb1
 clear hcl hown hb1 hr1
 go_wp2_with fail
 refine hso.mono ?_
 rintro e w2 ⟨rfl, ys, hr2, hp, hup, hf2⟩
 have hyl : ys.length = 5 := by rw [hp.length_eq, hlen]
 have hco := AnyE.slices_Compact Tryz.laysCm (Value.int .i32) (fun _ => rfl) (EqlAt.intD _ _ .i32) (NeqAt.intD _ _ .i32) 0 Tryz.zeroValue30 g 0 cap ys.toArray w2 (row_holds hr2) (by simp; omega) (by simp; omega)
 have e5 : ys.toArray.size = 5 := by simpa using hyl
 have hrise : compactUpTo ys.toArray 5 = riseL zs := by rw [← hyl]; exact compact_rise hp hup
 rw [e5, hrise] at hco
 have hrl : (riseL zs).length ≤ 5 := by rw [← hlen]; exact rise_len zs
 have hdl : (riseL zs ++ List.replicate (5 - (riseL zs).length) (0 : Int)).length = ys.length := by rw [List.length_append, List.length_replicate, hyl]; omega
 have HEND : Hid (∀ q, (putRow (Value.int .i32) (Sort.ahead w2 q) g 0 (riseL zs ++ List.replicate (5 - (riseL zs).length) (0 : Int)).toArray).ownsRow w.heap.size 30 1 (.slice (some ⟨g, 0, none⟩) (riseL zs).length cap) (riseL zs).length (celC (riseL zs)) ∧ Below w.heap.size w (putRow (Value.int .i32) (Sort.ahead w2 q) g 0 (riseL zs ++ List.replicate (5 - (riseL zs).length) (0 : Int)).toArray)) := Lib.hid fun q => by
  have h1 := own_shut (lo := w.heap.size) (n := (riseL zs).length) (cap := cap) (row_put (q := q) hr2 hdl) hg (by rw [List.length_append]; omega) (by rw [hdl, hyl]; omega) hc2
  rw [List.take_left' rfl] at h1
  refine ⟨h1, HB1.out.trans ?_⟩
  exact ((hf2.trans (fr_put w2 g q _)).below (by rintro j _ rfl; exact hg) HB1.out.size)
 clear hso hr2 hp hup hf2 hyl hrise hdl e5
 go_wp2_with fail
 refine hco.mono ?_
 rintro e w3 ⟨rfl, q, rfl⟩
 clear hco
 go_wp2
 go_ret
 exact ⟨_, rfl, HEND.out q⟩
end Go.Proofs.YthgiikhkcpbpfaaGreatDoor.C


namespace Go.Proofs.YthgiikhkcpbpfaaGreatDoor.C
open Go.RowKit
variable {F : Nat}
theorem own_low {w : World} {b b' n sz : Nat} {v : Value} {xs : List Value} {e : TypeId} (h : w.ownsRow b e sz v n xs) (hb : b' ≤ b) : w.ownsRow b' e sz v n xs := ⟨h.1, h.2.imp id fun ⟨g, cap, cur, a, c, d⟩ => ⟨g, cap, cur, a, Nat.le_trans hb c, d⟩⟩
theorem TabG.drew {w : World} {T : Nat} {L : Loc} {n : Int} (h : TabG F w T L n) : TabG F w.drew T L n := h.keep (Below.refl _ _).drew
theorem ri_new (w : World) (a b c d e : Int) : RI .i32 (w.alloc (.cells #[.int .i32 a, .int .i32 b, .int .i32 c, .int .i32 d, .int .i32 e] 30)) (w.heap.size + 1) (some ⟨w.heap.size, 0, none⟩) 5 [a, b, c, d, e] := by
 refine ⟨rfl, fun _ => ⟨_, rfl, Nat.lt_succ_self _, fun j u hu => ?_⟩⟩
 have hj : j < 5 := (List.getElem?_eq_some_iff.1 hu).1
 rcases (by omega : j = 0 ∨ j = 1 ∨ j = 2 ∨ j = 3 ∨ j = 4) with rfl | rfl | rfl | rfl | rfl <;> (simp at hu; subst hu; simp [Addr.add, World.cell?_alloc_new])
set_option maxRecDepth 100000 in
set_option maxHeartbeats 4000000 in
theorem fold_any (w : World) (T : Nat) (L : Loc) (n c : Int) (h : TabG F w T L n) (h0 : 0 ≤ n) (h1 : n < 4611686018427387904) (hR : rightL L = true) :
  Calls Tryz.prog 45 #[.pointer (some ⟨T, 0, none⟩), .int .i32 c] w fun e w' => ∃ v, e = .returned v ∧ w'.ownsRow w.heap.size 30 1 v (foldL L c).length (celC (foldL L c)) ∧ TabG F w' T L (n + 1) ∧ Fr w w' (· = T) := by
 have hc := count_any w T L n h h0 h1
 clear h
 go_enter Tryz.func45, Tryz.ntmps45
 go_wp2_with fail
 refine hc.mono ?_
 rintro e w1 ⟨rfl, ht, hf⟩
 have hu := up_any w1.drew T L (n + 1) c ht.drew hR
 have HF1 := Lib.hid hf
 clear hc ht hf
 go_wp2
 refine wp_region_held (S := fun _ : World => True) (by kernel_rfl) ?_
 change wpAnyH _ _ _ _ _ _ _ _ w1.drew
 have hS1 : (fun _ : World => True) w1.drew := trivial
 iterate 4 (refine wpH rfl rfl ?_; try simp only [Act.put, g1, g2, g3, g4, g5, g6])
 refine wpHn 5 rfl ?_; try simp only [Act.put, g1, g2, g3, g4, g5, g6]
 refine wpHn 6 rfl ?_; try simp only [Act.put, g1, g2, g3, g4, g5, g6]
 refine wpHn 7 rfl ?_; try simp only [Act.put, g1, g2, g3, g4, g5, g6]
 refine wpHn 8 rfl ?_; try simp only [Act.put, g1, g2, g3, g4, g5, g6]
 refine wpAnyH_one (i := 4) (by kernel_rfl) rfl (fun K hK => ?_)
 simp only [g4, g5, g6]
 go_simp
 go_at_call 71
 refine hu.mono ?_
 rintro e w2 ⟨rfl, ht, hf⟩
 have hl := lo_any w2 T L (n + 1) c ht hR
 have HF2 : Hid (Fr w w2 (· = T)) := Lib.hid (HF1.out.drew.trans hf)
 clear hu ht hf HF1
 refine hK.out _ _ trivial (fun hS2 => ?_)
 try simp only [Act.put, g1, g2, g3, g4, g5, g6]
 refine wpAnyH_one (i := 9) (by kernel_rfl) rfl (fun K hK => ?_)
 simp only [g4, g5, g6]
 go_simp
 go_at_call 71
 refine hl.mono ?_
 rintro e w3 ⟨rfl, ht, hf⟩
 have hl2 := lo_any w3.drew T L (n + 1) (toL L.up c) ht.drew hR
 have HF3 : Hid (Fr w w3 (· = T)) := Lib.hid (HF2.out.trans hf)
 clear hl ht hf HF2
 refine hK.out _ _ trivial (fun hS3 => ?_)
 try simp only [Act.put, g1, g2, g3, g4, g5, g6]
 iterate 2 (refine wpH rfl rfl ?_; try simp only [Act.put, g1, g2, g3, g4, g5, g6])
 refine wpAnyH_done (by kernel_rfl) ?_ _
 go_wp2
 refine wp_region_held (S := fun _ : World => True) (by kernel_rfl) ?_
 change wpAnyH _ _ _ _ _ _ _ _ w3.drew
 have hS4 : (fun _ : World => True) w3.drew := trivial
 iterate 7 (refine wpH rfl rfl ?_; try simp only [Act.put, g1, g2, g3, g4, g5, g6])
 refine wpHn 8 rfl ?_; try simp only [Act.put, g1, g2, g3, g4, g5, g6]
 refine wpHn 9 rfl ?_; try simp only [Act.put, g1, g2, g3, g4, g5, g6]
 refine wpHn 10 rfl ?_; try simp only [Act.put, g1, g2, g3, g4, g5, g6]
 refine wpHn 11 rfl ?_; try simp only [Act.put, g1, g2, g3, g4, g5, g6]
 refine wpAnyH_one (i := 7) (by kernel_rfl) rfl (fun K hK => ?_)
 simp only [g4, g5, g6]
 go_simp
 go_at_call 71
 refine hl2.mono ?_
 rintro e w4 ⟨rfl, ht, hf⟩
 have hu2 := up_any w4 T L (n + 1) (toL L.lo c) ht hR
 have HF4 : Hid (Fr w w4 (· = T)) := Lib.hid (HF3.out.drew.trans hf)
 clear hl2 ht hf HF3
 refine hK.out _ _ trivial (fun hS5 => ?_)
 try simp only [Act.put, g1, g2, g3, g4, g5, g6]
 refine wpAnyH_one (i := 12) (by kernel_rfl) rfl (fun K hK => ?_)
 simp only [g4, g5, g6]
 go_simp
 go_at_call 71
 refine hu2.mono ?_
 rintro e w5 ⟨rfl, ht, hf⟩
 have HF5 : Hid (Fr w w5 (· = T)) := Lib.hid (HF4.out.trans hf)
 have HT5 := Lib.hid ht
 have hri := rising_any _ _ _ 5 _ (ri_new w5 c (toL L.up c) (toL L.lo c) (toL L.lo (toL L.up c)) (toL L.up (toL L.lo c)))
 clear hu2 ht hf HF4
 refine hK.out _ _ trivial (fun hS6 => ?_)
 try simp only [Act.put, g1, g2, g3, g4, g5, g6]
 refine wpAnyH_one (i := 13) (by kernel_rfl) rfl (fun K hK => ?_)
 simp only [g4, g5, g6]
 go_simp
 refine hK.out _ _ trivial (fun hS7 => ?_)
 try simp only [Act.put, g1, g2, g3, g4, g5, g6]
 refine wpAnyH_one (i := 14) (by kernel_rfl) rfl (fun K hK => ?_)
 simp only [g4, g5, g6]
 go_simp
 go_at_call 72
 refine hri.mono ?_
 rintro e w6 ⟨v, rfl, hown, hb⟩
 have hs5 := HF5.out.size
 have HEND : Hid (w6.ownsRow w.heap.size 30 1 v (foldL L c).length (celC (foldL L c)) ∧ TabG F w6 T L (n + 1) ∧ Fr w w6 (· = T)) := Lib.hid ⟨own_low hown (by simp; omega), HT5.out.keep (((Below.refl _ _).alloc (Nat.le_refl _) _).trans (hb.mono (by simp))), HF5.out.trans ((Fr.of_below (((Below.refl _ _).alloc (Nat.le_refl _) _))).trans (.of_below hb))⟩
 clear hri hown hb
 refine hK.out _ _ trivial (fun hS8 => ?_)
 try simp only [Act.put, g1, g2, g3, g4, g5, g6]
 iterate 1 (refine wpH rfl rfl ?_; try simp only [Act.put, g1, g2, g3, g4, g5, g6])
 refine wpAnyH_done (by kernel_rfl) ?_ _
 go_wp2
 go_ret
 exact ⟨_, rfl, HEND.out⟩
end Go.Proofs.YthgiikhkcpbpfaaGreatDoor.C


namespace Go.Proofs.YthgiikhkcpbpfaaGreatDoor.C
open Go.RowKit
set_option maxRecDepth 100000 in
theorem cloneStr_any (s : ByteArray) (w : World) (hs : s.size ≤ 281474976710656) : Calls Tryz.prog 60 #[.string s] w fun e w' => e = .returned (.string s) ∧ Below w.heap.size w w' := by
 have h := Tryz.stringslite_Clone s w hs
 go_enter Tryz.func60, Tryz.ntmps60
 go_wp2_with (go_at_call 95; refine h.mono ?_; rintro e w' ⟨rfl, hb⟩)
 go_ret
 exact ⟨rfl, hb⟩
theorem below_cell {w w' : World} (hb : Below w.heap.size w w') {p : Addr} {v : Value} (h : w.cell? p = some v) : w'.cell? p = some v := (hb.cell (p := p) (World.block_lt_of_cell? w _ h)).trans h
set_option maxRecDepth 100000 in
set_option maxHeartbeats 4000000 in
theorem copyElem_any (w : World) (B : Nat) (nm : List UInt8) (cl : List Int) (sm : Int) (A : Option Addr) (c : Nat) (hx : RI .i32 w B A cl.length cl) (hB : B ≤ w.heap.size) (hn : cl.length ≤ 1073741824) (hnm : nm.length ≤ 281474976710656) :
  Calls Tryz.prog 37 #[.agg #[.string (str nm), .slice A cl.length c, .int .i64 sm]] w fun e w' => ∃ v, e = .returned (.agg #[.string (str nm), v, .int .i64 sm]) ∧ w'.ownsRow w.heap.size 30 1 v cl.length (celC cl) ∧ Below w.heap.size w w' := by
 obtain ⟨W, hW⟩ : ∃ W, W = (w.alloc (.cells #[.string (str nm), .slice A cl.length c, .int .i64 sm] 83)).alloc (.cells #[.string ⟨#[]⟩, .slice none 0 0, .int .i64 0] 83) := ⟨_, rfl⟩
 obtain ⟨S, hS⟩ : ∃ S, w.heap.size = S := ⟨_, rfl⟩
 have hs1 : (w.alloc (.cells #[.string (str nm), .slice A cl.length c, .int .i64 sm] 83)).heap.size = S + 1 := by simp [hS]
 have hb0 : Below w.heap.size w W := by rw [hW]; exact ((Below.refl _ _).alloc (by omega) _).alloc (by simp) _
 have hrx : Three W S 83 (.string (str nm)) (.slice A cl.length c) (.int .i64 sm) := by
  unfold Three
  rw [hW, heap_lt _ _ (by rw [hs1]; omega), ← hS]
  exact heap_new _ _
 have hrr : Three W (S + 1) 83 (.string ⟨#[]⟩) (.slice none 0 0) (.int .i64 0) := by
  unfold Three
  rw [hW, ← hs1]
  exact heap_new _ _
 have hcs := cloneStr_any (str nm) W.drew (by rw [str_size]; exact hnm)
 have hxW : RI .i32 W B A cl.length cl := hx.keep fun p hp => hb0.cell (p := p) (by omega)
 have HX := Lib.hid hxW
 have HR := Lib.hid hrr
 have HRX := Lib.hid hrx
 have HB0 := Lib.hid hb0
 have HSS := Lib.hid hS
 obtain ⟨c0, c1, c2⟩ := hrx.cells
 clear hx hxW hrr hrx hb0 hs1
 go_enter Tryz.func37, Tryz.ntmps37
 go_wp2
 rw [← hW]
 clear hW
 refine wp_region_held (S := fun W' : World => W'.cell? ⟨S, 0, none⟩ = some (.string (str nm)) ∧ W'.cell? ⟨S, 1, none⟩ = some (.slice A cl.length c) ∧ W'.cell? ⟨S, 2, none⟩ = some (.int .i64 sm)) (by kernel_rfl) ?_
 change wpAnyH _ _ _ _ _ _ _ _ W.drew
 have hS1 : (fun W' : World => W'.cell? ⟨S, 0, none⟩ = some (.string (str nm)) ∧ W'.cell? ⟨S, 1, none⟩ = some (.slice A cl.length c) ∧ W'.cell? ⟨S, 2, none⟩ = some (.int .i64 sm)) W.drew := ⟨c0, c1, c2⟩
 iterate 2 (refine wpH rfl rfl ?_; try simp only [Act.put, g1, g2, g3, g4, g5, g6])
 refine wpHn 3 rfl ?_; try simp only [Act.put, g1, g2, g3, g4, g5, g6]
 refine wpHn 4 rfl ?_; try simp only [Act.put, g1, g2, g3, g4, g5, g6]
 refine wpHn 6 rfl ?_; try simp only [Act.put, g1, g2, g3, g4, g5, g6]
 refine wpHn 7 rfl ?_; try simp only [Act.put, g1, g2, g3, g4, g5, g6]
 refine wpAnyH_one (i := 2) (by kernel_rfl) rfl (fun K hK => ?_)
 simp only [g4, g5, g6]
 go_simp
 go_at_call 60
 refine hcs.mono ?_
 rintro e w2 ⟨rfl, hb2⟩
 have hS2 : (fun W' : World => W'.cell? ⟨S, 0, none⟩ = some (.string (str nm)) ∧ W'.cell? ⟨S, 1, none⟩ = some (.slice A cl.length c) ∧ W'.cell? ⟨S, 2, none⟩ = some (.int .i64 sm)) w2 := ⟨below_cell hb2 c0, below_cell hb2 c1, below_cell hb2 c2⟩
 have hsz := HB0.out.size
 have hsz2 := hb2.size
 have hcc := cloneC_any w2 B A cl.length c cl (HX.out.keep fun p hp => hb2.cell (p := p) (by show p.block < W.heap.size; omega)) hn
 have HB2 : Hid (Below w.heap.size w w2) := Lib.hid (HB0.out.drew.trans (hb2.mono hsz))
 have HR2 : Hid (Three w2 (S + 1) 83 (.string ⟨#[]⟩) (.slice none 0 0) (.int .i64 0)) := Lib.hid ((hb2.block (S + 1) HR.out.lt).trans HR.out)
 have HC2 := Lib.hid hS2
 clear hcs hb2 c0 c1 c2
 refine hK.out _ _ hS2 (fun _ => ?_)
 try simp only [Act.put, g1, g2, g3, g4, g5, g6]
 refine wpAnyH_one (i := 5) (by kernel_rfl) rfl (fun K hK => ?_)
 simp only [g4, g5, g6]
 go_simp
 go_at_call 61
 refine hcc.mono ?_
 rintro e w3 ⟨v, rfl, hown, hb3⟩
 obtain ⟨vA, vc, rfl⟩ := row_form hown
 have hS3 : (fun W' : World => W'.cell? ⟨S, 0, none⟩ = some (.string (str nm)) ∧ W'.cell? ⟨S, 1, none⟩ = some (.slice A cl.length c) ∧ W'.cell? ⟨S, 2, none⟩ = some (.int .i64 sm)) w3 := ⟨below_cell hb3 HC2.out.1, below_cell hb3 HC2.out.2.1, below_cell hb3 HC2.out.2.2⟩
 have hr3 : Three w3 (S + 1) 83 (.string ⟨#[]⟩) (.slice none 0 0) (.int .i64 0) := (hb3.block (S + 1) HR2.out.lt).trans HR2.out
 obtain ⟨d0, d1, d2⟩ := hr3.cells
 have z0 : w3.frozen? ⟨S + 1, 0, none⟩ = false := by simp [World.frozen?, show w3.heap[S + 1]? = _ from hr3]
 have z1 : w3.frozen? ⟨S + 1, 1, none⟩ = false := by simp [World.frozen?, show w3.heap[S + 1]? = _ from hr3]
 have z2 : w3.frozen? ⟨S + 1, 2, none⟩ = false := by simp [World.frozen?, show w3.heap[S + 1]? = _ from hr3]
 clear hcc
 refine hK.out _ _ hS3 (fun _ => ?_)
 try simp only [Act.put, g1, g2, g3, g4, g5, g6]
 iterate 1 (refine wpH rfl rfl ?_; try simp only [Act.put, g1, g2, g3, g4, g5, g6])
 refine wpAnyH_one (i := 9) (by kernel_rfl) rfl (fun K hK => ?_)
 simp only [g4, g5, g6]
 go_simp
 have hr4 : Three (((w3.setCell ⟨S + 1, 0, none⟩ (.string (str nm))).setCell ⟨S + 1, 1, none⟩ (.slice vA cl.length vc)).setCell ⟨S + 1, 2, none⟩ (.int .i64 sm)) (S + 1) 83 (.string (str nm)) (.slice vA cl.length vc) (.int .i64 sm) := set_row (i := 2) (l := [_, _, _]) (set_row (i := 1) (l := [_, _, _]) (set_row (i := 0) (l := [_, _, _]) hr3 _) _) _
 have hf4 : Fr w3 (((w3.setCell ⟨S + 1, 0, none⟩ (.string (str nm))).setCell ⟨S + 1, 1, none⟩ (.slice vA cl.length vc)).setCell ⟨S + 1, 2, none⟩ (.int .i64 sm)) (· = S + 1) := (((Fr.refl w3 _).setT _ _).setT _ _).setT _ _
 have hS4 : (fun W' : World => W'.cell? ⟨S, 0, none⟩ = some (.string (str nm)) ∧ W'.cell? ⟨S, 1, none⟩ = some (.slice A cl.length c) ∧ W'.cell? ⟨S, 2, none⟩ = some (.int .i64 sm)) (((w3.setCell ⟨S + 1, 0, none⟩ (.string (str nm))).setCell ⟨S + 1, 1, none⟩ (.slice vA cl.length vc)).setCell ⟨S + 1, 2, none⟩ (.int .i64 sm)) :=
  ⟨(World.cell?_of_block (hf4.block S (World.block_lt_of_cell? w3 _ hS3.1) (by omega))).trans hS3.1, (World.cell?_of_block (hf4.block S (World.block_lt_of_cell? w3 _ hS3.1) (by omega))).trans hS3.2.1, (World.cell?_of_block (hf4.block S (World.block_lt_of_cell? w3 _ hS3.1) (by omega))).trans hS3.2.2⟩
 have hown4 := ownsRow_fr (own_low (b' := w.heap.size) hown (by have := HB2.out.size; omega)) hf4 (by
  rintro g hg rfl
  obtain ⟨cc, hcc⟩ := ownsRow_ty hown hg
  rw [show w3.heap[S + 1]? = _ from hr3] at hcc
  injection hcc with hcc
  injection hcc with _ hcc
  cases hcc)
 have HE : Hid ((((w3.setCell ⟨S + 1, 0, none⟩ (.string (str nm))).setCell ⟨S + 1, 1, none⟩ (.slice vA cl.length vc)).setCell ⟨S + 1, 2, none⟩ (.int .i64 sm)).ownsRow w.heap.size 30 1 (.slice vA cl.length vc) cl.length (celC cl) ∧ Below w.heap.size w (((w3.setCell ⟨S + 1, 0, none⟩ (.string (str nm))).setCell ⟨S + 1, 1, none⟩ (.slice vA cl.length vc)).setCell ⟨S + 1, 2, none⟩ (.int .i64 sm))) :=
  Lib.hid ⟨hown4, (HB2.out.trans (hb3.mono HB2.out.size)).trans (hf4.below (by rintro j _ rfl; omega) (by have := HB2.out.size; have := hb3.size; omega))⟩
 obtain ⟨e0, e1, e2⟩ := hr4.cells
 clear hr4 hf4 hown4 hown hb3 hr3
 generalize ((w3.setCell ⟨S + 1, 0, none⟩ (.string (str nm))).setCell ⟨S + 1, 1, none⟩ (.slice vA cl.length vc)).setCell ⟨S + 1, 2, none⟩ (.int .i64 sm) = w4 at *
 refine hK.out _ _ hS4 (fun _ => ?_)
 refine wpAnyH_done (by kernel_rfl) ?_ _
 go_wp2
 refine bodyPost_ret (v := .agg #[.string (str nm), .slice vA cl.length vc, .int .i64 sm]) (by simp [results, Tryz.results37, go_sem, e0, e1, e2]) rfl ⟨_, rfl, by rw [← HSS.out]; exact HE.out⟩
set_option maxRecDepth 100000 in
set_option maxHeartbeats 4000000 in
theorem copyCls_any (w : World) (B : Nat) (nm : List UInt8) (cl : List (Int × Int)) (A : Option Addr) (c : Nat) (hx : PrsR w B (.slice A cl.length c) cl) (hB : B ≤ w.heap.size) (hn : cl.length ≤ 17592186044416) (hnm : nm.length ≤ 281474976710656) :
  Calls Tryz.prog 39 #[.agg #[.string (str nm), .slice A cl.length c]] w fun e w' => ∃ v, e = .returned (.agg #[.string (str nm), v]) ∧ w'.ownsRow w.heap.size 46 2 v cl.length (prsC cl) ∧ Below w.heap.size w w' := by
 obtain ⟨W, hW⟩ : ∃ W, W = (w.alloc (.cells #[.string (str nm), .slice A cl.length c] 79)).alloc (.cells #[.string ⟨#[]⟩, .slice none 0 0] 79) := ⟨_, rfl⟩
 obtain ⟨S, hS⟩ : ∃ S, w.heap.size = S := ⟨_, rfl⟩
 have hs1 : (w.alloc (.cells #[.string (str nm), .slice A cl.length c] 79)).heap.size = S + 1 := by simp [hS]
 have hb0 : Below w.heap.size w W := by rw [hW]; exact ((Below.refl _ _).alloc (by omega) _).alloc (by simp) _
 have hrx : Two W S 79 (.string (str nm)) (.slice A cl.length c) := by
  unfold Two
  rw [hW, heap_lt _ _ (by rw [hs1]; omega), ← hS]
  exact heap_new _ _
 have hrr : Two W (S + 1) 79 (.string ⟨#[]⟩) (.slice none 0 0) := by
  unfold Two
  rw [hW, ← hs1]
  exact heap_new _ _
 have hcs := cloneStr_any (str nm) W.drew (by rw [str_size]; exact hnm)
 have hxW : PrsR W B (.slice A cl.length c) cl := hx.keep fun p hp => hb0.cell (p := p) (by omega)
 have HX := Lib.hid hxW
 have HR := Lib.hid hrr
 have HRX := Lib.hid hrx
 have HB0 := Lib.hid hb0
 have HSS := Lib.hid hS
 obtain ⟨c0, c1⟩ := hrx.cells
 clear hx hxW hrr hrx hb0 hs1
 go_enter Tryz.func39, Tryz.ntmps39
 go_wp2
 rw [← hW]
 clear hW
 refine wp_region_held (S := fun W' : World => W'.cell? ⟨S, 0, none⟩ = some (.string (str nm)) ∧ W'.cell? ⟨S, 1, none⟩ = some (.slice A cl.length c)) (by kernel_rfl) ?_
 change wpAnyH _ _ _ _ _ _ _ _ W.drew
 have hS1 : (fun W' : World => W'.cell? ⟨S, 0, none⟩ = some (.string (str nm)) ∧ W'.cell? ⟨S, 1, none⟩ = some (.slice A cl.length c)) W.drew := ⟨c0, c1⟩
 iterate 2 (refine wpH rfl rfl ?_; try simp only [Act.put, g1, g2, g3, g4, g5, g6])
 refine wpHn 3 rfl ?_; try simp only [Act.put, g1, g2, g3, g4, g5, g6]
 refine wpHn 4 rfl ?_; try simp only [Act.put, g1, g2, g3, g4, g5, g6]
 refine wpAnyH_one (i := 2) (by kernel_rfl) rfl (fun K hK => ?_)
 simp only [g4, g5, g6]
 go_simp
 go_at_call 60
 refine hcs.mono ?_
 rintro e w2 ⟨rfl, hb2⟩
 have hS2 : (fun W' : World => W'.cell? ⟨S, 0, none⟩ = some (.string (str nm)) ∧ W'.cell? ⟨S, 1, none⟩ = some (.slice A cl.length c)) w2 := ⟨below_cell hb2 c0, below_cell hb2 c1⟩
 have hsz := HB0.out.size
 have hsz2 := hb2.size
 have hcc := cloneR_any w2 B _ cl (HX.out.keep fun p hp => hb2.cell (p := p) (by show p.block < W.heap.size; omega)) hn
 have HB2 : Hid (Below w.heap.size w w2) := Lib.hid (HB0.out.drew.trans (hb2.mono hsz))
 have HR2 : Hid (Two w2 (S + 1) 79 (.string ⟨#[]⟩) (.slice none 0 0)) := Lib.hid ((hb2.block (S + 1) HR.out.lt).trans HR.out)
 have HC2 := Lib.hid hS2
 clear hcs hb2 c0 c1
 refine hK.out _ _ hS2 (fun _ => ?_)
 try simp only [Act.put, g1, g2, g3, g4, g5, g6]
 refine wpAnyH_one (i := 5) (by kernel_rfl) rfl (fun K hK => ?_)
 simp only [g4, g5, g6]
 go_simp
 go_at_call 62
 refine hcc.mono ?_
 rintro e w3 ⟨v, rfl, hown, hb3⟩
 obtain ⟨vA, vc, rfl⟩ := row_form hown
 have hS3 : (fun W' : World => W'.cell? ⟨S, 0, none⟩ = some (.string (str nm)) ∧ W'.cell? ⟨S, 1, none⟩ = some (.slice A cl.length c)) w3 := ⟨below_cell hb3 HC2.out.1, below_cell hb3 HC2.out.2⟩
 have hr3 : Two w3 (S + 1) 79 (.string ⟨#[]⟩) (.slice none 0 0) := (hb3.block (S + 1) HR2.out.lt).trans HR2.out
 obtain ⟨d0, d1⟩ := hr3.cells
 have z0 : w3.frozen? ⟨S + 1, 0, none⟩ = false := by simp [World.frozen?, show w3.heap[S + 1]? = _ from hr3]
 have z1 : w3.frozen? ⟨S + 1, 1, none⟩ = false := by simp [World.frozen?, show w3.heap[S + 1]? = _ from hr3]
 clear hcc
 refine hK.out _ _ hS3 (fun _ => ?_)
 try simp only [Act.put, g1, g2, g3, g4, g5, g6]
 iterate 1 (refine wpH rfl rfl ?_; try simp only [Act.put, g1, g2, g3, g4, g5, g6])
 refine wpAnyH_one (i := 7) (by kernel_rfl) rfl (fun K hK => ?_)
 simp only [g4, g5, g6]
 go_simp
 have hr4 : Two ((w3.setCell ⟨S + 1, 0, none⟩ (.string (str nm))).setCell ⟨S + 1, 1, none⟩ (.slice vA cl.length vc)) (S + 1) 79 (.string (str nm)) (.slice vA cl.length vc) := set_row (i := 1) (l := [_, _]) (set_row (i := 0) (l := [_, _]) hr3 _) _
 have hf4 : Fr w3 ((w3.setCell ⟨S + 1, 0, none⟩ (.string (str nm))).setCell ⟨S + 1, 1, none⟩ (.slice vA cl.length vc)) (· = S + 1) := ((Fr.refl w3 _).setT _ _).setT _ _
 have hS4 : (fun W' : World => W'.cell? ⟨S, 0, none⟩ = some (.string (str nm)) ∧ W'.cell? ⟨S, 1, none⟩ = some (.slice A cl.length c)) ((w3.setCell ⟨S + 1, 0, none⟩ (.string (str nm))).setCell ⟨S + 1, 1, none⟩ (.slice vA cl.length vc)) :=
  ⟨(World.cell?_of_block (hf4.block S (World.block_lt_of_cell? w3 _ hS3.1) (by omega))).trans hS3.1, (World.cell?_of_block (hf4.block S (World.block_lt_of_cell? w3 _ hS3.1) (by omega))).trans hS3.2⟩
 have hown4 := ownsRow_fr (own_low (b' := w.heap.size) hown (by have := HB2.out.size; omega)) hf4 (by
  rintro g hg rfl
  obtain ⟨cc, hcc⟩ := ownsRow_ty hown hg
  rw [show w3.heap[S + 1]? = _ from hr3] at hcc
  injection hcc with hcc
  injection hcc with _ hcc
  cases hcc)
 have HE : Hid (((w3.setCell ⟨S + 1, 0, none⟩ (.string (str nm))).setCell ⟨S + 1, 1, none⟩ (.slice vA cl.length vc)).ownsRow w.heap.size 46 2 (.slice vA cl.length vc) cl.length (prsC cl) ∧ Below w.heap.size w ((w3.setCell ⟨S + 1, 0, none⟩ (.string (str nm))).setCell ⟨S + 1, 1, none⟩ (.slice vA cl.length vc))) :=
  Lib.hid ⟨hown4, (HB2.out.trans (hb3.mono HB2.out.size)).trans (hf4.below (by rintro j _ rfl; omega) (by have := HB2.out.size; have := hb3.size; omega))⟩
 obtain ⟨e0, e1⟩ := hr4.cells
 clear hr4 hf4 hown4 hown hb3 hr3
 generalize (w3.setCell ⟨S + 1, 0, none⟩ (.string (str nm))).setCell ⟨S + 1, 1, none⟩ (.slice vA cl.length vc) = w4 at *
 refine hK.out _ _ hS4 (fun _ => ?_)
 refine wpAnyH_done (by kernel_rfl) ?_ _
 go_wp2
 refine bodyPost_ret (v := .agg #[.string (str nm), .slice vA cl.length vc]) (by simp [results, Tryz.results39, go_sem, e0, e1]) rfl ⟨_, rfl, by rw [← HSS.out]; exact HE.out⟩
end Go.Proofs.YthgiikhkcpbpfaaGreatDoor.C


namespace Go.Proofs.YthgiikhkcpbpfaaGreatDoor.C
open Go.RowKit
set_option maxRecDepth 100000 in
set_option maxHeartbeats 4000000 in
theorem copiesE_any (w : World) (B : Nat) (v : Value) (o : List Elm) (h : OrdR w B v o) (hB : B ≤ w.heap.size) (hn : o.length ≤ 1073741824) (hnm : ∀ e ∈ o, e.name.length ≤ 281474976710656 ∧ e.cells.length ≤ 1073741824) :
  Calls Tryz.prog 36 #[v, .func (.func 37) #[] #[]] w fun e w' => ∃ v', e = .returned v' ∧ OrdAt w' w.heap.size v' o ∧ Below w.heap.size w w' := by
 obtain ⟨A, c, xs, rfl, _⟩ := id h
 obtain ⟨i0, hi, hz0, hz1, hz2⟩ := info_parts infoElem
 have H := Lib.hid h
 have HNM := Lib.hid hnm
 obtain ⟨m, hm⟩ : ∃ m, m = o.length := ⟨_, rfl⟩
 rw [← hm]
 have HM := Lib.hid hm
 have hm5 : m ≤ 1073741824 := by omega
 clear h hnm hm hn
 go_enter Tryz.func36, Tryz.ntmps36
 go_wp2_with (at_make; (refine wpList_make_own _ rfl _ _ 25 rfl w.heap.size 83 i0 (.agg #[.string (str []), .slice none 0 0, .int .i64 0]) 3 Tryz.underlying25 hi hz0 hz1 .i64 .i64 _ m rfl rfl (by omega) (by rw [hz2]; omega) (by unfold maxLen; omega) (by omega) ?_); intro w2 hown hgrow; have hb2 : Below w.heap.size w w2 := (Below.refl _ w).grown hgrow (Nat.le_refl _) (fun _ h => by cases h))
 have HO : Hid (OrdAt w2 w.heap.size (.slice (some ⟨w.heap.size, 0, none⟩) 0 m) []) := Lib.hid ⟨[], rfl, hown, by simp⟩
 have HB := Lib.hid hb2
 clear hown hgrow hb2
 go_wp2
 go_loopw [5, 13] (fun tv iv wr => ∃ k : Nat, k ≤ m ∧ iv = .int .i64 k ∧ Hid (OrdAt wr w.heap.size tv (o.take k) ∧ Below w.heap.size w wr)) (fun _ iv _ => m - (intOf iv).toNat)
 case atStart => exact ⟨0, Nat.zero_le _, rfl, Lib.hid ⟨HO.out, HB.out⟩⟩
 case round =>
  obtain ⟨k, hk, rfl, HQ⟩ := hrel
  by_cases hlt : k < m
  ·obtain ⟨p, hp⟩ : ∃ p, o[k]? = some p := ⟨_, List.getElem?_eq_getElem (by rw [← HM.out]; exact hlt)⟩
   have hbr := HQ.out.2
   have hsr := hbr.size
   have hOr : OrdR wr B (.slice A o.length c) o := H.out.on hbr hB
   obtain ⟨ad, c', Ac, cc, hv, hbl, hc0, hc1, hc2, hri⟩ := elmR_at hOr hp
   injection hv with hv _ hcc
   subst hv hcc
   have hpm := HNM.out _ (List.mem_of_getElem? hp)
   obtain ⟨nm, cl, sm⟩ := p
   have hb1 : Below wr.heap.size wr (wr.alloc (.cells #[.string (str nm), .slice Ac cl.length cc, .int .i64 sm] 83)) := (Below.refl _ _).alloc (Nat.le_refl _) _
   have hcp := copyElem_any (wr.alloc (.cells #[.string (str nm), .slice Ac cl.length cc, .int .i64 sm] 83)) B nm cl sm Ac cc (hri.keep fun q hq => hb1.cell (p := q) (by omega)) (by simp; omega) hpm.2 hpm.1
   have x0 : (wr.alloc (.cells #[.string (str nm), .slice Ac cl.length cc, .int .i64 sm] 83)).cell? ⟨wr.heap.size, 0, none⟩ = some (.string (str nm)) := by simp
   have x1 : (wr.alloc (.cells #[.string (str nm), .slice Ac cl.length cc, .int .i64 sm] 83)).cell? ⟨wr.heap.size, 1, none⟩ = some (.slice Ac cl.length cc) := by simp
   have x2 : (wr.alloc (.cells #[.string (str nm), .slice Ac cl.length cc, .int .i64 sm] 83)).cell? ⟨wr.heap.size, 2, none⟩ = some (.int .i64 sm) := by simp
   have i0' : (0 : Int) ≤ (k : Int) := by omega
   have i1 : (k : Int) < (m : Int) := by omega
   have HP := Lib.hid hp
   have HB1 := Lib.hid hb1
   clear hOr hp hb1 hbr hri hpm
   go_wp2_with fail
   with_reducible refine hcp.mono ?_
   rintro e w3 ⟨u, rfl, hown, hb3⟩
   obtain ⟨uA, uc, rfl⟩ := row_form hown
   have hs3 := hb3.size
   have hs1 := HB1.out.size
   have HB3 : Hid (Below w.heap.size w w3) := Lib.hid ((HQ.out.2.trans (HB1.out.mono hsr)).trans (hb3.mono (by omega)))
   have HX3 := Lib.hid (own_low (b' := w.heap.size) hown (by omega))
   obtain ⟨vs, q1, q2, q3⟩ := (HQ.out.1.next HB1.out).next hb3
   have hkl : (o.take k).length = k := by rw [List.length_take, ← HM.out]; omega
   rw [hkl] at q1 q2
   have HQ1 := Lib.hid q1
   have HQ2 := Lib.hid q2
   have HQ3 := Lib.hid q3
   clear hcp hown hb3 q1 q2 q3
   go_wp2_with (at_builtin; (refine wpList_append_lies _ rfl _ _ 25 rfl w.heap.size 83 i0 (.agg #[.string (str []), .slice none 0 0, .int .i64 0]) 3 48 Tryz.underlying25 hi hz0 hz1 hz2 rfl (by decide) u5 k (ordR (o.take k) vs).flatten rfl (HQ2.out.alloc _) ⟨w3.heap.size, 0, none⟩ 1 1 [.string (str nm), .slice uA cl.length uc, .int .i64 sm] rfl rfl (trip_new _ _ _ _ _ _ rfl) (by intro u hu; simp at hu; rcases hu with rfl | rfl | rfl <;> rfl) (by omega) (by unfold maxLen; omega) (by omega) (by simp; omega) (w3.heap.size + 1) (by simp) ?_); intro g cap w4 hown' hgrow hat hlt3)
   have HEND : Hid (OrdAt w4 w.heap.size (.slice (some ⟨g, 0, none⟩) (k + 1) cap) (o.take (k + 1)) ∧ Below w.heap.size w w4) := Lib.hid ⟨by
    rw [take_one HP.out]
    have h := OrdAt.snoc (w := w3.alloc (.cells #[.string (str nm), .slice uA cl.length uc, .int .i64 sm] 83)) (v := u5) (o := o.take k) (vs := vs) ⟨nm, cl, sm⟩ (by rw [hkl]; exact HQ1.out) (by rw [hkl]; exact HQ2.out.alloc _) (fun i e x a b => (HQ3.out i e x a b).alloc _) (HX3.out.alloc _) hgrow (by rw [hkl]; exact hown')
    rwa [hkl] at h, (HB3.out.alloc (by omega) _).grown hgrow (by simp; omega) (fun j hj => by have := HQ2.out.lt j hj; omega)⟩
   clear hown' hgrow
   go_wp2
   go_roundw
   case rel => exact ⟨k + 1, by omega, by go_num, HEND⟩
   case measure => simp [intOf]; omega
  ·obtain rfl : k = m := by omega
   have HE : Hid (OrdAt wr w.heap.size u5 o ∧ Below w.heap.size w wr) := Lib.hid ⟨by have := HQ.out.1; rwa [HM.out, List.take_length] at this, HQ.out.2⟩
   go_wp2
   go_ret
   exact ⟨_, rfl, HE.out⟩
set_option maxRecDepth 100000 in
set_option maxHeartbeats 4000000 in
theorem copiesC_any (w : World) (B : Nat) (v : Value) (o : List Cls) (h : ClsR w B v o) (hB : B ≤ w.heap.size) (hn : o.length ≤ 1073741824) (hnm : ∀ e ∈ o, e.name.length ≤ 281474976710656 ∧ e.rs.length ≤ 17592186044416) :
  Calls Tryz.prog 38 #[v, .func (.func 39) #[] #[]] w fun e w' => ∃ v', e = .returned v' ∧ ClsAt w' w.heap.size v' o ∧ Below w.heap.size w w' := by
 obtain ⟨A, c, xs, rfl, _⟩ := id h
 obtain ⟨i0, hi, hz0, hz1, hz2⟩ := info_parts infoClass
 have H := Lib.hid h
 have HNM := Lib.hid hnm
 obtain ⟨m, hm⟩ : ∃ m, m = o.length := ⟨_, rfl⟩
 rw [← hm]
 have HM := Lib.hid hm
 have hm5 : m ≤ 1073741824 := by omega
 clear h hnm hm hn
 go_enter Tryz.func38, Tryz.ntmps38
 go_wp2_with (at_make; (refine wpList_make_own _ rfl _ _ 23 rfl w.heap.size 79 i0 (.agg #[.string (str []), .slice none 0 0]) 2 Tryz.underlying23 hi hz0 hz1 .i64 .i64 _ m rfl rfl (by omega) (by rw [hz2]; omega) (by unfold maxLen; omega) (by omega) ?_); intro w2 hown hgrow; have hb2 : Below w.heap.size w w2 := (Below.refl _ w).grown hgrow (Nat.le_refl _) (fun _ h => by cases h))
 have HO : Hid (ClsAt w2 w.heap.size (.slice (some ⟨w.heap.size, 0, none⟩) 0 m) []) := Lib.hid ⟨[], rfl, hown, by simp⟩
 have HB := Lib.hid hb2
 clear hown hgrow hb2
 go_wp2
 go_loopw [5, 13] (fun tv iv wr => ∃ k : Nat, k ≤ m ∧ iv = .int .i64 k ∧ Hid (ClsAt wr w.heap.size tv (o.take k) ∧ Below w.heap.size w wr)) (fun _ iv _ => m - (intOf iv).toNat)
 case atStart => exact ⟨0, Nat.zero_le _, rfl, Lib.hid ⟨HO.out, HB.out⟩⟩
 case round =>
  obtain ⟨k, hk, rfl, HQ⟩ := hrel
  by_cases hlt : k < m
  ·obtain ⟨p, hp⟩ : ∃ p, o[k]? = some p := ⟨_, List.getElem?_eq_getElem (by rw [← HM.out]; exact hlt)⟩
   have hbr := HQ.out.2
   have hsr := hbr.size
   have hOr : ClsR wr B (.slice A o.length c) o := H.out.on hbr hB
   obtain ⟨ad, c', Ac, cc, hv, hbl, hc0, hc1, hri⟩ := clsR_at hOr hp
   injection hv with hv _ hcc
   subst hv hcc
   have hpm := HNM.out _ (List.mem_of_getElem? hp)
   obtain ⟨nm, cl⟩ := p
   replace hri := hri.1
   have hb1 : Below wr.heap.size wr (wr.alloc (.cells #[.string (str nm), .slice Ac cl.length cc] 79)) := (Below.refl _ _).alloc (Nat.le_refl _) _
   have hcp := copyCls_any (wr.alloc (.cells #[.string (str nm), .slice Ac cl.length cc] 79)) B nm cl Ac cc (hri.keep fun q hq => hb1.cell (p := q) (by omega)) (by simp; omega) hpm.2 hpm.1
   have x0 : (wr.alloc (.cells #[.string (str nm), .slice Ac cl.length cc] 79)).cell? ⟨wr.heap.size, 0, none⟩ = some (.string (str nm)) := by simp
   have x1 : (wr.alloc (.cells #[.string (str nm), .slice Ac cl.length cc] 79)).cell? ⟨wr.heap.size, 1, none⟩ = some (.slice Ac cl.length cc) := by simp
   have i0' : (0 : Int) ≤ (k : Int) := by omega
   have i1 : (k : Int) < (m : Int) := by omega
   have HP := Lib.hid hp
   have HB1 := Lib.hid hb1
   clear hOr hp hb1 hbr hri hpm
   go_wp2_with fail
   with_reducible refine hcp.mono ?_
   rintro e w3 ⟨u, rfl, hown, hb3⟩
   obtain ⟨uA, uc, rfl⟩ := row_form hown
   have hs3 := hb3.size
   have hs1 := HB1.out.size
   have HB3 : Hid (Below w.heap.size w w3) := Lib.hid ((HQ.out.2.trans (HB1.out.mono hsr)).trans (hb3.mono (by omega)))
   have HX3 := Lib.hid (own_low (b' := w.heap.size) hown (by omega))
   obtain ⟨vs, q1, q2, q3⟩ := (HQ.out.1.next HB1.out).next hb3
   have hkl : (o.take k).length = k := by rw [List.length_take, ← HM.out]; omega
   rw [hkl] at q1 q2
   have HQ1 := Lib.hid q1
   have HQ2 := Lib.hid q2
   have HQ3 := Lib.hid q3
   clear hcp hown hb3 q1 q2 q3
   go_wp2_with (at_builtin; (refine wpList_append_lies _ rfl _ _ 23 rfl w.heap.size 79 i0 (.agg #[.string (str []), .slice none 0 0]) 2 40 Tryz.underlying23 hi hz0 hz1 hz2 rfl (by decide) u5 k (clsC (o.take k) vs) rfl (HQ2.out.alloc _) ⟨w3.heap.size, 0, none⟩ 1 1 [.string (str nm), .slice uA cl.length uc] rfl rfl (pair_new _ _ _ _ _ rfl) (by intro u hu; simp at hu; rcases hu with rfl | rfl <;> rfl) (by omega) (by unfold maxLen; omega) (by omega) (by simp; omega) (w3.heap.size + 1) (by simp) ?_); intro g cap w4 hown' hgrow hat hlt3)
   have HEND : Hid (ClsAt w4 w.heap.size (.slice (some ⟨g, 0, none⟩) (k + 1) cap) (o.take (k + 1)) ∧ Below w.heap.size w w4) := Lib.hid ⟨by
    rw [take_one HP.out]
    have h := ClsAt.snoc (w := w3.alloc (.cells #[.string (str nm), .slice uA cl.length uc] 79)) (v := u5) (cs := o.take k) (vs := vs) ⟨nm, cl⟩ (by rw [hkl]; exact HQ1.out) (by rw [hkl]; exact HQ2.out.alloc _) (fun i e x a b => (HQ3.out i e x a b).alloc _) (HX3.out.alloc _) hgrow (by rw [hkl]; exact hown')
    rwa [hkl] at h, (HB3.out.alloc (by omega) _).grown hgrow (by simp; omega) (fun j hj => by have := HQ2.out.lt j hj; omega)⟩
   clear hown' hgrow
   go_wp2
   go_roundw
   case rel => exact ⟨k + 1, by omega, by go_num, HEND⟩
   case measure => simp [intOf]; omega
  ·obtain rfl : k = m := by omega
   have HE : Hid (ClsAt wr w.heap.size u5 o ∧ Below w.heap.size w wr) := Lib.hid ⟨by have := HQ.out.1; rwa [HM.out, List.take_length] at this, HQ.out.2⟩
   go_wp2
   go_ret
   exact ⟨_, rfl, HE.out⟩
end Go.Proofs.YthgiikhkcpbpfaaGreatDoor.C


namespace Go.Proofs.YthgiikhkcpbpfaaGreatDoor.C
open Go.RowKit
variable {F : Nat}
set_option maxRecDepth 100000 in
set_option maxHeartbeats 2000000 in
theorem classT_any (w : World) (T : Nat) (L : Loc) (n : Int) (nm : List UInt8) (h : TabG F w T L n) (h0 : 0 ≤ n) (h1 : n < 4611686018427387904) (hR : rightL L = true) (hn : ∀ k ∈ L.cls, k.rs.length ≤ 17592186044416) :
  Calls Tryz.prog 96 #[.pointer (some ⟨T, 0, none⟩), .string (str nm)] w fun e w' => ∃ v, e = .returned (.tuple #[v, .bool (rangesL L.cls nm).isSome]) ∧
   w'.ownsRow w.heap.size 46 2 v ((rangesL L.cls nm).getD []).length (prsC ((rangesL L.cls nm).getD [])) ∧ TabG F w' T L (n + 1) ∧ Fr w w' (· = T) := by
 have hc := count_any w T L n h h0 h1
 have hlen : ((rangesL L.cls nm).getD []).length ≤ 17592186044416 := by
  cases hl : rangesL L.cls nm with
  | none => exact Nat.zero_le _
  | some rs =>
   obtain ⟨i, k, hi, _, hrs⟩ := rangesL_some hl
   have := hn k (List.mem_of_getElem? hi)
   rw [hrs] at this
   exact this
 clear h hn
 go_enter Tryz.func96, Tryz.ntmps96
 go_wp2_with fail
 refine hc.mono ?_
 rintro e w1 ⟨rfl, ht, hf⟩
 have hrg := ranges_any w1 T L (n + 1) nm ht hR
 have HF1 := Lib.hid hf
 clear hc ht hf
 go_wp2_with fail
 refine hrg.mono ?_
 rintro e w2 ⟨ht, hf, v, rfl, hv, -⟩
 have hcl := cloneR_any w2 T v _ hv hlen
 have HF2 := Lib.hid (HF1.out.trans hf)
 have HT2 := Lib.hid ht
 obtain ⟨A, c, rfl, _⟩ := hv
 clear hrg ht hf
 go_wp2_with fail
 refine hcl.mono ?_
 rintro e w3 ⟨v3, rfl, ho, hb⟩
 have HE : Hid (w3.ownsRow w.heap.size 46 2 v3 ((rangesL L.cls nm).getD []).length (prsC ((rangesL L.cls nm).getD [])) ∧ TabG F w3 T L (n + 1) ∧ Fr w w3 (· = T)) := Lib.hid ⟨own_low ho HF2.out.size, HT2.out.keep hb, HF2.out.trans (.of_below hb)⟩
 clear hcl ho hb
 go_wp2
 go_ret2
 exact ⟨_, rfl, HE.out⟩
end Go.Proofs.YthgiikhkcpbpfaaGreatDoor.C
