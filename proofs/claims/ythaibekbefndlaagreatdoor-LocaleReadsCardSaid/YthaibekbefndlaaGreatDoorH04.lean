/-
  Joined: MLxS, MLxT, MLxV. Each with what its own head says.
-/
import Derived.WalkLawsBesides
import Derived.Test.YthaibekbefndlaaGreatDoorH03

namespace Go.Proofs.YthaibekbefndlaaGreatDoor.C
open Go.RowKit

theorem right_int (c : Int) (b : Bool) (h0 : 0 ≤ c) (h : b = decide (c < 55296 ∨ 57343 < c ∧ c ≤ 1114111)) (w : World) : Calls Tryz.prog 108 #[.int .i32 c] w fun e w' => e = .returned (.bool b) ∧ w' = w := by
 have a0 : ¬ c < -256 := by omega
 by_cases h2 : 1114111 < c
 ·obtain rfl : b = false := by rw [h]; exact decide_eq_false (by omega)
  clear h
  go_enter Tryz.func108, Tryz.ntmps108
  go_wp2
  all_goals go_ret
  all_goals exact ⟨rfl, rfl⟩
 by_cases h3 : c < 55296
 ·obtain rfl : b = true := by rw [h]; exact decide_eq_true (by omega)
  clear h
  go_enter Tryz.func108, Tryz.ntmps108
  go_wp2
  all_goals go_ret
  all_goals exact ⟨rfl, rfl⟩
 by_cases h4 : 57343 < c
 ·obtain rfl : b = true := by rw [h]; exact decide_eq_true (by omega)
  clear h
  go_enter Tryz.func108, Tryz.ntmps108
  go_wp2
  all_goals go_ret
  all_goals exact ⟨rfl, rfl⟩
 ·obtain rfl : b = false := by rw [h]; exact decide_eq_false (by omega)
  clear h
  go_enter Tryz.func108, Tryz.ntmps108
  go_wp2
  all_goals go_ret
  all_goals exact ⟨rfl, rfl⟩
theorem rightN_is (n : Nat) (w : World) (b : Bool) (h : rightN n = b) : Calls Tryz.prog 108 #[.int .i32 n] w fun e w' => e = .returned (.bool b) ∧ w' = w :=
 right_int n b (by omega) (by rw [← h]; unfold rightN; rw [decide_eq_decide]; omega) w

theorem not_empty6 {l : List UInt8} (h : l ≠ []) : (str l).toList.isEmpty = false ∧ ¬ (str l).toList = [] := by
 have h1 : (str l).toList.isEmpty = false := by
  rw [← decide_eq_emptyBytes]
  refine decide_eq_false (fun e => h ?_)
  have := congrArg (fun b : ByteArray => b.data.toList) e
  simpa using this
 exact ⟨h1, fun e => by rw [e] at h1; cases h1⟩
theorem numL_lt {l : List UInt8} {n : Nat} (h : numL l = some n) : n < 16777216 := by
 cases l with
 | nil => cases h
 | cons c d =>
  rw [numL_cons] at h
  by_cases hc : c = 85 ∧ 4 ≤ d.length ∧ d.length ≤ 6
  ·rw [if_pos hc] at h
   have := hexN_lt h
   have := pow_16 hc.2.2
   omega
  ·rw [if_neg hc] at h
   cases h

set_option maxHeartbeats 2000000 in
theorem sword_no (w : World) (R k : Nat) (s : ByteArray) (ts : List Tok) (h : RD w R s k ts) (hk : k < s.size) (hs : s.size ≤ 4000) (_hts : ts.length ≤ 4500) (hw : wordL (s.data.toList.drop k) = []) :
  Calls Tryz.prog 74 #[.pointer (some ⟨R, 0, none⟩)] w (Stepped w R s false k ts) := by
 have H := Lib.hid h
 have hrest := rest_any w R k s ts h (by omega) hs
 have hll : (s.data.toList.drop k).length ≤ 4000 := by rw [List.length_drop, size_list]; omega
 have hlk : k + (s.data.toList.drop k).length ≤ 4000 := by rw [List.length_drop, size_list]; omega
 have hc : ∀ W, Calls Tryz.prog 120 #[.string (str (s.data.toList.drop k))] W fun e w' => e = .returned (.string ⟨#[]⟩) ∧ w' = W := fun W => by
  have := wordAt_str (s.data.toList.drop k) W (by unfold maxLen; omega)
  rwa [hw] at this
 generalize s.data.toList.drop k = L at *
 clear h hw hll hlk
 go_enter Tryz.func74, Tryz.ntmps74
 go_wp2_with (first
  | (go_at_call 113; refine hrest.mono ?_; rintro e w' ⟨rfl, n, rfl⟩)
  | (go_at_call 120; refine (hc _).mono ?_; rintro e w' ⟨rfl, rfl⟩))
 go_ret
 exact ⟨rfl, H.out.drewN _, bk_drewN _ _ _⟩
set_option maxHeartbeats 2000000 in
theorem sword_yes (w : World) (R k : Nat) (s : ByteArray) (ts : List Tok) (h : RD w R s k ts) (hk : k < s.size) (hs : s.size ≤ 4000) (hts : ts.length ≤ 4500) (hw : wordL (s.data.toList.drop k) ≠ []) :
  Calls Tryz.prog 74 #[.pointer (some ⟨R, 0, none⟩)] w (Stepped w R s true (k + ((wordL (s.data.toList.drop k)).length)) (ts ++ [⟨1, wordL (s.data.toList.drop k), 0, k⟩])) := by
 have H := Lib.hid h
 have hrest := rest_any w R k s ts h (by omega) hs
 have hll : (s.data.toList.drop k).length ≤ 4000 := by rw [List.length_drop, size_list]; omega
 have hlk : k + (s.data.toList.drop k).length ≤ 4000 := by rw [List.length_drop, size_list]; omega
 have hwl := wordL_len (s.data.toList.drop k)
 have hc : ∀ W, Calls Tryz.prog 120 #[.string (str (s.data.toList.drop k))] W fun e w' => e = .returned (.string (str (wordL (s.data.toList.drop k)))) ∧ w' = W := fun W => wordAt_str (s.data.toList.drop k) W (by unfold maxLen; omega)
 obtain ⟨he1, he2⟩ := not_empty6 hw
 have hsz := str_size (wordL (s.data.toList.drop k))
 generalize s.data.toList.drop k = L at *
 generalize wordL L = T at *
 have hadd := fun n => add_any (w.drewN n) R k s ts (h.drewN _) 1 0 (T.length) T 0 (by omega) (by omega) (by omega)
 obtain ⟨m, hm⟩ : ∃ m, T.length = m := ⟨_, rfl⟩
 rw [hm] at hsz hadd hwl ⊢
 have hm2 : m ≤ 4000 := by omega
 have e3 : (((m : Nat)) : Int) = (m : Int) := by omega
 rw [e3] at hadd
 clear h hw hll hlk hm e3 hwl
 go_enter Tryz.func74, Tryz.ntmps74
 go_wp2_with (first
  | (go_at_call 113; refine hrest.mono ?_; rintro e w' ⟨rfl, n, rfl⟩)
  | (go_at_call 120; refine (hc _).mono ?_; rintro e w' ⟨rfl, rfl⟩)
  | (go_at_call 115; refine (hadd _).mono ?_; rintro e w1 ⟨rfl, hr, hb1⟩))
 go_ret
 exact ⟨rfl, hr, (bk_drewN _ _ _).trans hb1⟩
set_option maxHeartbeats 2000000 in
theorem sname_no (w : World) (R k : Nat) (s : ByteArray) (ts : List Tok) (h : RD w R s k ts) (hk : k < s.size) (hs : s.size ≤ 4000) (_hts : ts.length ≤ 4500) (hw : nameL (s.data.toList.drop k) = []) :
  Calls Tryz.prog 72 #[.pointer (some ⟨R, 0, none⟩)] w (Stepped w R s false k ts) := by
 have H := Lib.hid h
 have hrest := rest_any w R k s ts h (by omega) hs
 have hll : (s.data.toList.drop k).length ≤ 4000 := by rw [List.length_drop, size_list]; omega
 have hlk : k + (s.data.toList.drop k).length ≤ 4000 := by rw [List.length_drop, size_list]; omega
 have hc : ∀ W, Calls Tryz.prog 116 #[.string (str (s.data.toList.drop k))] W fun e w' => e = .returned (.string ⟨#[]⟩) ∧ w' = W := fun W => by
  have := nameAt_any (s.data.toList.drop k) (by omega) W
  rwa [hw] at this
 generalize s.data.toList.drop k = L at *
 clear h hw hll hlk
 go_enter Tryz.func72, Tryz.ntmps72
 go_wp2_with (first
  | (go_at_call 113; refine hrest.mono ?_; rintro e w' ⟨rfl, n, rfl⟩)
  | (go_at_call 116; refine (hc _).mono ?_; rintro e w' ⟨rfl, rfl⟩))
 go_ret
 exact ⟨rfl, H.out.drewN _, bk_drewN _ _ _⟩
set_option maxHeartbeats 2000000 in
theorem sname_yes (w : World) (R k : Nat) (s : ByteArray) (ts : List Tok) (h : RD w R s k ts) (hk : k < s.size) (hs : s.size ≤ 4000) (hts : ts.length ≤ 4500) (hw : nameL (s.data.toList.drop k) ≠ []) :
  Calls Tryz.prog 72 #[.pointer (some ⟨R, 0, none⟩)] w (Stepped w R s true (k + (2 + (nameL (s.data.toList.drop k)).length)) (ts ++ [⟨5, nameL (s.data.toList.drop k), 0, k⟩])) := by
 have H := Lib.hid h
 have hrest := rest_any w R k s ts h (by omega) hs
 have hll : (s.data.toList.drop k).length ≤ 4000 := by rw [List.length_drop, size_list]; omega
 have hlk : k + (s.data.toList.drop k).length ≤ 4000 := by rw [List.length_drop, size_list]; omega
 have hwl := nameL_len (s.data.toList.drop k) hw
 have hc : ∀ W, Calls Tryz.prog 116 #[.string (str (s.data.toList.drop k))] W fun e w' => e = .returned (.string (str (nameL (s.data.toList.drop k)))) ∧ w' = W := fun W => nameAt_any (s.data.toList.drop k) (by omega) W
 obtain ⟨he1, he2⟩ := not_empty6 hw
 have hsz := str_size (nameL (s.data.toList.drop k))
 generalize s.data.toList.drop k = L at *
 generalize nameL L = T at *
 have hadd := fun n => add_any (w.drewN n) R k s ts (h.drewN _) 5 0 (2 + T.length) T 0 (by omega) (by omega) (by omega)
 obtain ⟨m, hm⟩ : ∃ m, T.length = m := ⟨_, rfl⟩
 rw [hm] at hsz hadd hwl ⊢
 have hm2 : m ≤ 4000 := by omega
 have e3 : (((2 + m : Nat)) : Int) = (2 : Int) + (m : Int) := by omega
 rw [e3] at hadd
 clear h hw hll hlk hm e3 hwl
 go_enter Tryz.func72, Tryz.ntmps72
 go_wp2_with (first
  | (go_at_call 113; refine hrest.mono ?_; rintro e w' ⟨rfl, n, rfl⟩)
  | (go_at_call 116; refine (hc _).mono ?_; rintro e w' ⟨rfl, rfl⟩)
  | (go_at_call 115; refine (hadd _).mono ?_; rintro e w1 ⟨rfl, hr, hb1⟩))
 go_ret
 exact ⟨rfl, hr, (bk_drewN _ _ _).trans hb1⟩
set_option maxHeartbeats 2000000 in
theorem sscalar_no (w : World) (R k : Nat) (s : ByteArray) (ts : List Tok) (h : RD w R s k ts) (hk : k < s.size) (hs : s.size ≤ 4000) (_hts : ts.length ≤ 4500) (hG : Gl w) (hw : numL (nameL (s.data.toList.drop k)) = none) :
  Calls Tryz.prog 71 #[.pointer (some ⟨R, 0, none⟩)] w (Stepped w R s false k ts) := by
 have H := Lib.hid h
 have hrest := rest_any w R k s ts h (by omega) hs
 have hll : (s.data.toList.drop k).length ≤ 4000 := by rw [List.length_drop, size_list]; omega
 have hlk : k + (s.data.toList.drop k).length ≤ 4000 := by rw [List.length_drop, size_list]; omega
 have hname := fun W => nameAt_any (s.data.toList.drop k) (by omega) W
 have hnl : (nameL (s.data.toList.drop k)).length ≤ 4000 := by
  by_cases h0 : nameL (s.data.toList.drop k) = []
  ·rw [h0]; simp
  ·have := nameL_len _ h0; omega
 have hnum := fun n => numberOf_no (nameL (s.data.toList.drop k)) hw (w.drewN n) (hG.keep fun b _ => rfl) (by omega)
 have hRt := h.lt
 generalize s.data.toList.drop k = L at *
 generalize nameL L = T at *
 clear h hw hll hlk hnl hG
 go_enter Tryz.func71, Tryz.ntmps71
 go_wp2_with (first
  | (go_at_call 113; refine hrest.mono ?_; rintro e w' ⟨rfl, n, rfl⟩)
  | (go_at_call 116; refine (hname _).mono ?_; rintro e w' ⟨rfl, rfl⟩)
  | (go_at_call 117; refine (hnum _).mono ?_; rintro e w1 ⟨rfl, hb1⟩))
 go_ret
 exact ⟨rfl, (H.out.drewN _).next hb1, (bk_drewN _ _ _).trans (bk_of hb1 (Nat.le_of_lt hRt))⟩
set_option maxHeartbeats 2000000 in
theorem sscalar_yes (w : World) (R k : Nat) (s : ByteArray) (ts : List Tok) (h : RD w R s k ts) (hk : k < s.size) (hs : s.size ≤ 4000) (hts : ts.length ≤ 4500) (v : Nat) (hw : numL (nameL (s.data.toList.drop k)) = some v) (hv : rightN v = true) :
  Calls Tryz.prog 71 #[.pointer (some ⟨R, 0, none⟩)] w (Stepped w R s true (k + (2 + (nameL (s.data.toList.drop k)).length)) (ts ++ [⟨3, [], v, k⟩])) := by
 have H := Lib.hid h
 have hrest := rest_any w R k s ts h (by omega) hs
 have hll : (s.data.toList.drop k).length ≤ 4000 := by rw [List.length_drop, size_list]; omega
 have hlk : k + (s.data.toList.drop k).length ≤ 4000 := by rw [List.length_drop, size_list]; omega
 have hname := fun W => nameAt_any (s.data.toList.drop k) (by omega) W
 have hnl := nameL_len _ (numL_name hw)
 have hnum := fun n => numberOf_yes (nameL (s.data.toList.drop k)) v hw (w.drewN n)
 have hv2 := numL_lt hw
 have hright := fun W => rightN_is v W true hv
 have hRt := h.lt
 have hsz := str_size (nameL (s.data.toList.drop k))
 generalize s.data.toList.drop k = L at *
 generalize nameL L = T at *
 have hadd := fun W (hD : RD W R s k ts) => add_any W R k s ts hD 3 v (2 + T.length) [] 0 (by omega) (by simp) (by omega)
 obtain ⟨m, hm⟩ : ∃ m, T.length = m := ⟨_, rfl⟩
 rw [hm] at hsz hadd hnl ⊢
 have hm2 : m ≤ 4000 := by omega
 have e3 : (((2 + m : Nat)) : Int) = (2 : Int) + (m : Int) := by omega
 rw [e3] at hadd
 obtain ⟨c, hc⟩ : ∃ c : Int, (v : Int) = c := ⟨_, rfl⟩
 rw [hc] at hnum hright hadd
 have c0 : 0 ≤ c := by omega
 have c1 : c < 16777216 := by omega
 clear h hw hll hlk hm e3 hnl hv2 hv hc
 go_enter Tryz.func71, Tryz.ntmps71
 go_wp2_with (first
  | (go_at_call 113; refine hrest.mono ?_; rintro e w' ⟨rfl, n, rfl⟩)
  | (go_at_call 116; refine (hname _).mono ?_; rintro e w' ⟨rfl, rfl⟩)
  | (go_at_call 117; refine (hnum _).mono ?_; rintro e w1 ⟨rfl, hb1⟩)
  | (go_at_call 108; refine (hright _).mono ?_; rintro e w' ⟨rfl, rfl⟩)
  | (go_at_call 115; refine (hadd _ ((H.out.drewN _).next hb1)).mono ?_; rintro e w2 ⟨rfl, hr, hb2⟩))
 go_ret
 exact ⟨rfl, hr, (bk_drewN _ _ _).trans ((bk_of hb1 (Nat.le_of_lt hRt)).trans hb2)⟩
def Bad (w : World) (R k : Nat) (e : Ending) (w' : World) : Prop := e = .panicked [{ v := .iface 128 (.int .i64 k), recovered := false }] ∧ Below R w w'
set_option maxHeartbeats 2000000 in
theorem sscalar_bad (w : World) (R k : Nat) (s : ByteArray) (ts : List Tok) (h : RD w R s k ts) (hk : k < s.size) (hs : s.size ≤ 4000) (_hts : ts.length ≤ 4500) (v : Nat) (hw : numL (nameL (s.data.toList.drop k)) = some v) (hv : rightN v = false) :
  Calls Tryz.prog 71 #[.pointer (some ⟨R, 0, none⟩)] w (Bad w R k) := by
 have H := Lib.hid h
 have hrest := rest_any w R k s ts h (by omega) hs
 have hll : (s.data.toList.drop k).length ≤ 4000 := by rw [List.length_drop, size_list]; omega
 have hlk : k + (s.data.toList.drop k).length ≤ 4000 := by rw [List.length_drop, size_list]; omega
 have hname := fun W => nameAt_any (s.data.toList.drop k) (by omega) W
 have hnum := fun n => numberOf_yes (nameL (s.data.toList.drop k)) v hw (w.drewN n)
 have hv2 := numL_lt hw
 have hright := fun W => rightN_is v W false hv
 have hRt := h.lt
 obtain ⟨_, vv, hb, _⟩ := h
 have hcell : ∀ n w1, Below (w.drewN n).heap.size (w.drewN n) w1 → w1.cell? ⟨R, 1, none⟩ = some (.int .i64 k) := fun n w1 hb1 => (rd_cells ((hb1.block R hRt).trans hb)).2.1
 generalize s.data.toList.drop k = L at *
 generalize nameL L = T at *
 obtain ⟨c, hc⟩ : ∃ c : Int, (v : Int) = c := ⟨_, rfl⟩
 rw [hc] at hnum hright
 have c0 : 0 ≤ c := by omega
 have c1 : c < 16777216 := by omega
 clear hw hll hlk hv2 hv hc hb
 go_enter Tryz.func71, Tryz.ntmps71
 go_wp2_with (first
  | (go_at_call 113; refine hrest.mono ?_; rintro e w' ⟨rfl, n, rfl⟩)
  | (go_at_call 116; refine (hname _).mono ?_; rintro e w' ⟨rfl, rfl⟩)
  | (go_at_call 117; refine (hnum _).mono ?_; rintro e w1 ⟨rfl, hb1⟩; have hq := hcell _ _ hb1)
  | (go_at_call 108; refine (hright _).mono ?_; rintro e w' ⟨rfl, rfl⟩))
 exact ⟨rfl, rfl, (below_drewN0 (Below.refl _ _) _).trans (hb1.mono (Nat.le_of_lt hRt))⟩
set_option maxHeartbeats 2000000 in
theorem squoted_no1 (w : World) (R k : Nat) (s : ByteArray) (ts : List Tok) (h : RD w R s k ts) (hk : k < s.size) (hs : s.size ≤ 4000) (_hts : ts.length ≤ 4500) (hw : (s.data.toList.drop k).head? ≠ some 34) :
  Calls Tryz.prog 73 #[.pointer (some ⟨R, 0, none⟩)] w (Stepped w R s false k ts) := by
 have H := Lib.hid h
 have hrest := rest_any w R k s ts h (by omega) hs
 have hll : (s.data.toList.drop k).length ≤ 4000 := by rw [List.length_drop, size_list]; omega
 have hlk : k + (s.data.toList.drop k).length ≤ 4000 := by rw [List.length_drop, size_list]; omega
 have hpre := fun W => cutPrefix_no (s.data.toList.drop k) 34 hw W
 generalize s.data.toList.drop k = L at *
 clear h hw hll hlk
 go_enter Tryz.func73, Tryz.ntmps73
 go_wp2_with (first
  | (go_at_call 113; refine hrest.mono ?_; rintro e w' ⟨rfl, n, rfl⟩)
  | (go_at_call 118; refine (hpre _).mono ?_; rintro e w' ⟨rfl, rfl⟩))
 go_ret
 exact ⟨rfl, H.out.drewN _, bk_drewN _ _ _⟩
set_option maxHeartbeats 2000000 in
theorem squoted_no2 (w : World) (R k : Nat) (s : ByteArray) (ts : List Tok) (h : RD w R s k ts) (hk : k < s.size) (hs : s.size ≤ 4000) (_hts : ts.length ≤ 4500) (r : List UInt8) (hr : s.data.toList.drop k = 34 :: r) (hw : ¬ (r.takeWhile (· ≠ 34)).length < r.length) :
  Calls Tryz.prog 73 #[.pointer (some ⟨R, 0, none⟩)] w (Stepped w R s false k ts) := by
 have H := Lib.hid h
 have hrest := rest_any w R k s ts h (by omega) hs
 have hll : (s.data.toList.drop k).length ≤ 4000 := by rw [List.length_drop, size_list]; omega
 have hlk : k + (s.data.toList.drop k).length ≤ 4000 := by rw [List.length_drop, size_list]; omega
 have hpre := fun W => cutPrefix_yes 34 r W
 have hcut := fun W => cut_no r 34 hw W
 rw [hr] at hrest
 generalize (34 : UInt8) :: r = L at *
 generalize r.takeWhile (· ≠ 34) = T at *
 clear h hw hll hlk hr
 go_enter Tryz.func73, Tryz.ntmps73
 go_wp2_with (first
  | (go_at_call 113; refine hrest.mono ?_; rintro e w' ⟨rfl, n, rfl⟩)
  | (go_at_call 118; refine (hpre _).mono ?_; rintro e w' ⟨rfl, rfl⟩)
  | (go_at_call 112; refine (hcut _).mono ?_; rintro e w' ⟨rfl, n2, rfl⟩))
 go_ret
 exact ⟨rfl, H.out.drewN _, bk_drewN _ _ _⟩
set_option maxHeartbeats 2000000 in
theorem squoted_no3 (w : World) (R k : Nat) (s : ByteArray) (ts : List Tok) (h : RD w R s k ts) (hk : k < s.size) (hs : s.size ≤ 4000) (_hts : ts.length ≤ 4500) (r : List UInt8) (hr : s.data.toList.drop k = 34 :: r) (hw : (r.takeWhile (· ≠ 34)).length < r.length) (h10 : 10 ∈ r.takeWhile (· ≠ 34)) :
  Calls Tryz.prog 73 #[.pointer (some ⟨R, 0, none⟩)] w (Stepped w R s false k ts) := by
 have H := Lib.hid h
 have hrest := rest_any w R k s ts h (by omega) hs
 have hll : (s.data.toList.drop k).length ≤ 4000 := by rw [List.length_drop, size_list]; omega
 have hlk : k + (s.data.toList.drop k).length ≤ 4000 := by rw [List.length_drop, size_list]; omega
 have hpre := fun W => cutPrefix_yes 34 r W
 have hrl : r.length ≤ 4000 := by rw [hr] at hll; simp at hll; omega
 have hcut := fun W => (cut_yes r 34 hw (by omega) W)
 have hcon := fun W => contains_yes (r.takeWhile (· ≠ 34)) 10 h10 W
 rw [hr] at hrest
 generalize (34 : UInt8) :: r = L at *
 generalize r.takeWhile (· ≠ 34) = T at *
 clear h hw hll hlk hr h10 hrl
 go_enter Tryz.func73, Tryz.ntmps73
 go_wp2_with (first
  | (go_at_call 113; refine hrest.mono ?_; rintro e w' ⟨rfl, n, rfl⟩)
  | (go_at_call 118; refine (hpre _).mono ?_; rintro e w' ⟨rfl, rfl⟩)
  | (go_at_call 112; obtain ⟨b, hc⟩ := hcut (w.drewN n); refine hc.mono ?_; rintro e w' ⟨rfl, n2, rfl⟩)
  | (go_at_call 119; refine (hcon _).mono ?_; rintro e w' ⟨rfl, rfl⟩))
 go_ret
 exact ⟨rfl, H.out.drewN _, bk_drewN _ _ _⟩
set_option maxHeartbeats 2000000 in
theorem squoted_yes (w : World) (R k : Nat) (s : ByteArray) (ts : List Tok) (h : RD w R s k ts) (hk : k < s.size) (hs : s.size ≤ 4000) (hts : ts.length ≤ 4500) (r : List UInt8) (hr : s.data.toList.drop k = 34 :: r) (hw : (r.takeWhile (· ≠ 34)).length < r.length) (h10 : 10 ∉ r.takeWhile (· ≠ 34)) :
  Calls Tryz.prog 73 #[.pointer (some ⟨R, 0, none⟩)] w (Stepped w R s true (k + (2 + (r.takeWhile (· ≠ 34)).length)) (ts ++ [⟨4, r.takeWhile (· ≠ 34), 0, k⟩])) := by
 have H := Lib.hid h
 have hrest := rest_any w R k s ts h (by omega) hs
 have hll : (s.data.toList.drop k).length ≤ 4000 := by rw [List.length_drop, size_list]; omega
 have hlk : k + (s.data.toList.drop k).length ≤ 4000 := by rw [List.length_drop, size_list]; omega
 have hpre := fun W => cutPrefix_yes 34 r W
 have hrl : r.length ≤ 4000 := by rw [hr] at hll; simp at hll; omega
 have hcut := fun W => (cut_yes r 34 hw (by omega) W)
 have hcon := fun W => contains_no (r.takeWhile (· ≠ 34)) 10 h10 W
 rw [hr] at hrest hlk
 rw [List.length_cons] at hlk
 have hsz := str_size (r.takeWhile (· ≠ 34))
 generalize (34 : UInt8) :: r = L at *
 generalize r.takeWhile (· ≠ 34) = T at *
 have hadd := fun n => add_any (w.drewN n) R k s ts (h.drewN _) 4 0 (2 + T.length) T 0 (by omega) (by omega) (by omega)
 obtain ⟨m, hm⟩ : ∃ m, T.length = m := ⟨_, rfl⟩
 rw [hm] at hsz hadd hw ⊢
 have hm2 : m ≤ 4000 := by omega
 have e3 : (((2 + m : Nat)) : Int) = (2 : Int) + (m : Int) := by omega
 rw [e3] at hadd
 clear h hw hll hlk hr h10 hrl hm e3
 go_enter Tryz.func73, Tryz.ntmps73
 go_wp2_with (first
  | (go_at_call 113; refine hrest.mono ?_; rintro e w' ⟨rfl, n, rfl⟩)
  | (go_at_call 118; refine (hpre _).mono ?_; rintro e w' ⟨rfl, rfl⟩)
  | (go_at_call 112; obtain ⟨b, hc⟩ := hcut (w.drewN n); refine hc.mono ?_; rintro e w' ⟨rfl, n2, rfl⟩)
  | (go_at_call 119; refine (hcon _).mono ?_; rintro e w' ⟨rfl, rfl⟩)
  | (go_at_call 115; refine (hadd _).mono ?_; rintro e w1 ⟨rfl, hr, hb1⟩))
 go_ret
 exact ⟨rfl, hr, (bk_drewN _ _ _).trans hb1⟩
end Go.Proofs.YthaibekbefndlaaGreatDoor.C

namespace Go.Proofs.YthaibekbefndlaaGreatDoor.C
open Go.RowKit

def sgB : Nat → ByteArray
 | 0 => ⟨#[59]⟩
 | 1 => ⟨#[44]⟩
 | 2 => ⟨#[40]⟩
 | 3 => ⟨#[41]⟩
 | _ => ⟨#[46, 46, 46]⟩
def SignTold (w : World) (R : Nat) (s : ByteArray) (k : Nat) (ts : List Tok) (J : Nat) (e : Ending) (w' : World) : Prop :=
 if J < 5 then Stepped w R s true (k + (sgB J).size) (ts ++ [⟨2, (sgB J).data.toList, 0, k⟩]) e w' else Stepped w R s false k ts e w'
theorem signs_cells {w : World} (h : Gl w) : w.cell? ⟨0, 0, none⟩ = some (.string ⟨#[59]⟩) ∧ w.cell? ⟨0, 1, none⟩ = some (.string ⟨#[44]⟩) ∧ w.cell? ⟨0, 2, none⟩ = some (.string ⟨#[40]⟩) ∧ w.cell? ⟨0, 3, none⟩ = some (.string ⟨#[41]⟩) ∧ w.cell? ⟨0, 4, none⟩ = some (.string ⟨#[46, 46, 46]⟩) := by
 obtain ⟨_, _, t, f, h⟩ := h
 simp [World.cell?, h]

theorem sig_ix0 (W : World) : (Instr.index 158 (.agg #[.string ⟨#[59]⟩, .string ⟨#[44]⟩, .string ⟨#[40]⟩, .string ⟨#[41]⟩, .string ⟨#[46, 46, 46]⟩]) (.int .i64 0)).run Tryz.prog W = .ok (.string ⟨#[59]⟩) W := by kernel_rfl
theorem sig_ix1 (W : World) : (Instr.index 158 (.agg #[.string ⟨#[59]⟩, .string ⟨#[44]⟩, .string ⟨#[40]⟩, .string ⟨#[41]⟩, .string ⟨#[46, 46, 46]⟩]) (.int .i64 1)).run Tryz.prog W = .ok (.string ⟨#[44]⟩) W := by kernel_rfl
theorem sig_ix2 (W : World) : (Instr.index 158 (.agg #[.string ⟨#[59]⟩, .string ⟨#[44]⟩, .string ⟨#[40]⟩, .string ⟨#[41]⟩, .string ⟨#[46, 46, 46]⟩]) (.int .i64 2)).run Tryz.prog W = .ok (.string ⟨#[40]⟩) W := by kernel_rfl
theorem sig_ix3 (W : World) : (Instr.index 158 (.agg #[.string ⟨#[59]⟩, .string ⟨#[44]⟩, .string ⟨#[40]⟩, .string ⟨#[41]⟩, .string ⟨#[46, 46, 46]⟩]) (.int .i64 3)).run Tryz.prog W = .ok (.string ⟨#[41]⟩) W := by kernel_rfl
theorem sig_ix4 (W : World) : (Instr.index 158 (.agg #[.string ⟨#[59]⟩, .string ⟨#[44]⟩, .string ⟨#[40]⟩, .string ⟨#[41]⟩, .string ⟨#[46, 46, 46]⟩]) (.int .i64 4)).run Tryz.prog W = .ok (.string ⟨#[46, 46, 46]⟩) W := by kernel_rfl

set_option maxRecDepth 100000 in
set_option maxHeartbeats 4000000 in
theorem ssign_any (w : World) (R k : Nat) (s : ByteArray) (ts : List Tok) (h : RD w R s k ts) (hG : Gl w) (hk : k < s.size) (hs : s.size ≤ 4000) (hts : ts.length ≤ 4500) (J : Nat) (hJ : J ≤ 5)
  (hn : ∀ i, i < J → i < 5 → Lib.hasPrefix (s.data.toList.drop k) (sgB i).data.toList = false) (hy : J < 5 → Lib.hasPrefix (s.data.toList.drop k) (sgB J).data.toList = true) :
  Calls Tryz.prog 70 #[.pointer (some ⟨R, 0, none⟩)] w (SignTold w R s k ts J) := by
 have H := Lib.hid h
 have hrest := fun n => rest_any (w.drewN n) R k s ts (h.drewN n) (by omega) hs
 have hno := fun i (h1 : i < J) (h2 : i < 5) W => hasPrefix_no (s.data.toList.drop k) (sgB i) W (hn i h1 h2)
 have hyes := fun h1 W => hasPrefix_yes (s.data.toList.drop k) (sgB J) W (hy h1)
 have hadd := fun n (t : List UInt8) (m : Nat) (h1 : m ≤ 3) (h2 : t.length ≤ 3) => add_any (w.drewN n) R k s ts (h.drewN n) 2 0 m t 0 (by omega) (by omega) (by omega)
 generalize s.data.toList.drop k = L at *
 obtain ⟨z0, z1, z2, z3, z4⟩ := signs_cells hG
 have HG := Lib.hid hG
 clear h hG hn hy
 go_enter Tryz.func70, Tryz.ntmps70
 go_wp2
 clear z0 z1 z2 z3 z4
 go_loopw [6] (fun iv wr => ∃ (i n : Nat) (j : Int), i ≤ J ∧ i ≤ 5 ∧ j = (i : Int) ∧ iv = .int .i64 j ∧ wr = w.drewN n) (fun iv _ => 5 - (intOf iv).toNat)
 case atStart => exact ⟨0, 0, 0, Nat.zero_le _, Nat.zero_le _, rfl, rfl, rfl⟩
 case round =>
  obtain ⟨i, n, j, hiJ, hi5, hj, rfl, rfl⟩ := hrel
  have hcase : i = 0 ∨ i = 1 ∨ i = 2 ∨ i = 3 ∨ i = 4 ∨ i = 5 := by omega
  rcases hcase with rfl | rfl | rfl | rfl | rfl | rfl
  ·obtain rfl : j = 0 := by omega
   have hix := sig_ix0
   clear hj
   by_cases hJi : 0 = J
   ·subst hJi
    have h1 : ∀ W, Calls Tryz.prog 114 #[.string (str L), .string ⟨#[59]⟩] W fun e w' => e = .returned (.bool true) ∧ w' = W := fun W => hyes (by omega) W
    have h2 : ∀ n, Calls Tryz.prog 115 #[.pointer (some ⟨R, 0, none⟩), .agg #[.int .u8 2, .string ⟨#[59]⟩, .int .i64 0, .int .i64 0], .int .i64 1] (w.drewN n) fun e w' => e = .returned (.tuple #[]) ∧ RD w' R s (k + 1) (ts ++ [⟨2, [59], 0, k⟩]) ∧ Bk R (w.drewN n) w' := fun n => hadd n [59] 1 (by omega) (by simp)
    clear hno hyes hadd
    go_wp2_with (first
     | (go_at_call 113; refine (hrest _).mono ?_; rintro e w' ⟨rfl, n, rfl⟩)
     | (go_at_call 114; refine (h1 _).mono ?_; rintro e w' ⟨rfl, rfl⟩)
     | (go_at_call 115; refine (h2 _).mono ?_; rintro e w1 ⟨rfl, hr, hb1⟩))
    go_ret
    exact ⟨rfl, hr, (bk_drewN _ _ _).trans hb1⟩
   ·have h1 : ∀ W, Calls Tryz.prog 114 #[.string (str L), .string ⟨#[59]⟩] W fun e w' => e = .returned (.bool false) ∧ w' = W := fun W => hno 0 (by omega) (by omega) W
    go_wp2_with (first
     | (go_at_call 113; refine (hrest _).mono ?_; rintro e w' ⟨rfl, n, rfl⟩)
     | (go_at_call 114; refine (h1 _).mono ?_; rintro e w' ⟨rfl, rfl⟩))
    go_roundw
    case rel => exact ⟨1, _, 1, by omega, by omega, rfl, rfl, rfl⟩
    case measure => simp [intOf]
  ·obtain rfl : j = 1 := by omega
   have hix := sig_ix1
   clear hj
   by_cases hJi : 1 = J
   ·subst hJi
    have h1 : ∀ W, Calls Tryz.prog 114 #[.string (str L), .string ⟨#[44]⟩] W fun e w' => e = .returned (.bool true) ∧ w' = W := fun W => hyes (by omega) W
    have h2 : ∀ n, Calls Tryz.prog 115 #[.pointer (some ⟨R, 0, none⟩), .agg #[.int .u8 2, .string ⟨#[44]⟩, .int .i64 0, .int .i64 0], .int .i64 1] (w.drewN n) fun e w' => e = .returned (.tuple #[]) ∧ RD w' R s (k + 1) (ts ++ [⟨2, [44], 0, k⟩]) ∧ Bk R (w.drewN n) w' := fun n => hadd n [44] 1 (by omega) (by simp)
    clear hno hyes hadd
    go_wp2_with (first
     | (go_at_call 113; refine (hrest _).mono ?_; rintro e w' ⟨rfl, n, rfl⟩)
     | (go_at_call 114; refine (h1 _).mono ?_; rintro e w' ⟨rfl, rfl⟩)
     | (go_at_call 115; refine (h2 _).mono ?_; rintro e w1 ⟨rfl, hr, hb1⟩))
    go_ret
    exact ⟨rfl, hr, (bk_drewN _ _ _).trans hb1⟩
   ·have h1 : ∀ W, Calls Tryz.prog 114 #[.string (str L), .string ⟨#[44]⟩] W fun e w' => e = .returned (.bool false) ∧ w' = W := fun W => hno 1 (by omega) (by omega) W
    go_wp2_with (first
     | (go_at_call 113; refine (hrest _).mono ?_; rintro e w' ⟨rfl, n, rfl⟩)
     | (go_at_call 114; refine (h1 _).mono ?_; rintro e w' ⟨rfl, rfl⟩))
    go_roundw
    case rel => exact ⟨2, _, 2, by omega, by omega, rfl, rfl, rfl⟩
    case measure => simp [intOf]
  ·obtain rfl : j = 2 := by omega
   have hix := sig_ix2
   clear hj
   by_cases hJi : 2 = J
   ·subst hJi
    have h1 : ∀ W, Calls Tryz.prog 114 #[.string (str L), .string ⟨#[40]⟩] W fun e w' => e = .returned (.bool true) ∧ w' = W := fun W => hyes (by omega) W
    have h2 : ∀ n, Calls Tryz.prog 115 #[.pointer (some ⟨R, 0, none⟩), .agg #[.int .u8 2, .string ⟨#[40]⟩, .int .i64 0, .int .i64 0], .int .i64 1] (w.drewN n) fun e w' => e = .returned (.tuple #[]) ∧ RD w' R s (k + 1) (ts ++ [⟨2, [40], 0, k⟩]) ∧ Bk R (w.drewN n) w' := fun n => hadd n [40] 1 (by omega) (by simp)
    clear hno hyes hadd
    go_wp2_with (first
     | (go_at_call 113; refine (hrest _).mono ?_; rintro e w' ⟨rfl, n, rfl⟩)
     | (go_at_call 114; refine (h1 _).mono ?_; rintro e w' ⟨rfl, rfl⟩)
     | (go_at_call 115; refine (h2 _).mono ?_; rintro e w1 ⟨rfl, hr, hb1⟩))
    go_ret
    exact ⟨rfl, hr, (bk_drewN _ _ _).trans hb1⟩
   ·have h1 : ∀ W, Calls Tryz.prog 114 #[.string (str L), .string ⟨#[40]⟩] W fun e w' => e = .returned (.bool false) ∧ w' = W := fun W => hno 2 (by omega) (by omega) W
    go_wp2_with (first
     | (go_at_call 113; refine (hrest _).mono ?_; rintro e w' ⟨rfl, n, rfl⟩)
     | (go_at_call 114; refine (h1 _).mono ?_; rintro e w' ⟨rfl, rfl⟩))
    go_roundw
    case rel => exact ⟨3, _, 3, by omega, by omega, rfl, rfl, rfl⟩
    case measure => simp [intOf]
  ·obtain rfl : j = 3 := by omega
   have hix := sig_ix3
   clear hj
   by_cases hJi : 3 = J
   ·subst hJi
    have h1 : ∀ W, Calls Tryz.prog 114 #[.string (str L), .string ⟨#[41]⟩] W fun e w' => e = .returned (.bool true) ∧ w' = W := fun W => hyes (by omega) W
    have h2 : ∀ n, Calls Tryz.prog 115 #[.pointer (some ⟨R, 0, none⟩), .agg #[.int .u8 2, .string ⟨#[41]⟩, .int .i64 0, .int .i64 0], .int .i64 1] (w.drewN n) fun e w' => e = .returned (.tuple #[]) ∧ RD w' R s (k + 1) (ts ++ [⟨2, [41], 0, k⟩]) ∧ Bk R (w.drewN n) w' := fun n => hadd n [41] 1 (by omega) (by simp)
    clear hno hyes hadd
    go_wp2_with (first
     | (go_at_call 113; refine (hrest _).mono ?_; rintro e w' ⟨rfl, n, rfl⟩)
     | (go_at_call 114; refine (h1 _).mono ?_; rintro e w' ⟨rfl, rfl⟩)
     | (go_at_call 115; refine (h2 _).mono ?_; rintro e w1 ⟨rfl, hr, hb1⟩))
    go_ret
    exact ⟨rfl, hr, (bk_drewN _ _ _).trans hb1⟩
   ·have h1 : ∀ W, Calls Tryz.prog 114 #[.string (str L), .string ⟨#[41]⟩] W fun e w' => e = .returned (.bool false) ∧ w' = W := fun W => hno 3 (by omega) (by omega) W
    go_wp2_with (first
     | (go_at_call 113; refine (hrest _).mono ?_; rintro e w' ⟨rfl, n, rfl⟩)
     | (go_at_call 114; refine (h1 _).mono ?_; rintro e w' ⟨rfl, rfl⟩))
    go_roundw
    case rel => exact ⟨4, _, 4, by omega, by omega, rfl, rfl, rfl⟩
    case measure => simp [intOf]
  ·obtain rfl : j = 4 := by omega
   have hix := sig_ix4
   clear hj
   by_cases hJi : 4 = J
   ·subst hJi
    have h1 : ∀ W, Calls Tryz.prog 114 #[.string (str L), .string ⟨#[46, 46, 46]⟩] W fun e w' => e = .returned (.bool true) ∧ w' = W := fun W => hyes (by omega) W
    have h2 : ∀ n, Calls Tryz.prog 115 #[.pointer (some ⟨R, 0, none⟩), .agg #[.int .u8 2, .string ⟨#[46, 46, 46]⟩, .int .i64 0, .int .i64 0], .int .i64 3] (w.drewN n) fun e w' => e = .returned (.tuple #[]) ∧ RD w' R s (k + 3) (ts ++ [⟨2, [46, 46, 46], 0, k⟩]) ∧ Bk R (w.drewN n) w' := fun n => hadd n [46, 46, 46] 3 (by omega) (by simp)
    clear hno hyes hadd
    go_wp2_with (first
     | (go_at_call 113; refine (hrest _).mono ?_; rintro e w' ⟨rfl, n, rfl⟩)
     | (go_at_call 114; refine (h1 _).mono ?_; rintro e w' ⟨rfl, rfl⟩)
     | (go_at_call 115; refine (h2 _).mono ?_; rintro e w1 ⟨rfl, hr, hb1⟩))
    go_ret
    exact ⟨rfl, hr, (bk_drewN _ _ _).trans hb1⟩
   ·have h1 : ∀ W, Calls Tryz.prog 114 #[.string (str L), .string ⟨#[46, 46, 46]⟩] W fun e w' => e = .returned (.bool false) ∧ w' = W := fun W => hno 4 (by omega) (by omega) W
    go_wp2_with (first
     | (go_at_call 113; refine (hrest _).mono ?_; rintro e w' ⟨rfl, n, rfl⟩)
     | (go_at_call 114; refine (h1 _).mono ?_; rintro e w' ⟨rfl, rfl⟩))
    go_roundw
    case rel => exact ⟨5, _, 5, by omega, by omega, rfl, rfl, rfl⟩
    case measure => simp [intOf]
  ·obtain rfl : j = 5 := by omega
   clear hj
   obtain rfl : J = 5 := by omega
   go_wp2
   go_ret
   exact ⟨rfl, H.out.drewN _, bk_drewN _ _ _⟩
end Go.Proofs.YthaibekbefndlaaGreatDoor.C

namespace Go.Proofs.YthaibekbefndlaaGreatDoor.C
open Go.RowKit

theorem pre_one (a : UInt8) (r : List UInt8) (c : UInt8) : Lib.hasPrefix (a :: r) [c] = decide (a = c) := by
 rw [hasPrefix_one]; simp
theorem pre_three (a : UInt8) (r : List UInt8) : Lib.hasPrefix (a :: r) [46, 46, 46] = decide (a = 46 ∧ r.take 2 = [46, 46]) := by
 rw [Bool.eq_iff_iff, decide_eq_true_iff]
 unfold Lib.hasPrefix
 rw [List.isPrefixOf_iff_prefix, List.cons_prefix_cons, List.prefix_iff_eq_take]
 constructor
 ·rintro ⟨h1, h2⟩
  exact ⟨h1.symm, h2.symm⟩
 ·rintro ⟨h1, h2⟩
  exact ⟨h1.symm, h2.symm⟩
theorem sign_case (a : UInt8) (r : List UInt8) : (∃ J, J < 5 ∧ signL (a :: r) = some (sgB J).data.toList ∧ (∀ i, i < J → i < 5 → Lib.hasPrefix (a :: r) (sgB i).data.toList = false) ∧ Lib.hasPrefix (a :: r) (sgB J).data.toList = true) ∨
  (signL (a :: r) = none ∧ ∀ i, i < 5 → i < 5 → Lib.hasPrefix (a :: r) (sgB i).data.toList = false) := by
 have h0 : Lib.hasPrefix (a :: r) (sgB 0).data.toList = decide (a = 59) := pre_one a r 59
 have h1 : Lib.hasPrefix (a :: r) (sgB 1).data.toList = decide (a = 44) := pre_one a r 44
 have h2 : Lib.hasPrefix (a :: r) (sgB 2).data.toList = decide (a = 40) := pre_one a r 40
 have h3 : Lib.hasPrefix (a :: r) (sgB 3).data.toList = decide (a = 41) := pre_one a r 41
 have h4 : Lib.hasPrefix (a :: r) (sgB 4).data.toList = decide (a = 46 ∧ r.take 2 = [46, 46]) := pre_three a r
 have all : ∀ n : Nat, n ≤ 5 → (∀ i, i < n → i < 5 → i = 0 ∨ i = 1 ∨ i = 2 ∨ i = 3 ∨ i = 4) := fun n hn i hi _ => by omega
 by_cases e0 : a = 59
 ·subst e0
  exact .inl ⟨0, by omega, by rw [signL_cons, if_pos (by simp)]; rfl, fun i hi => by omega, by rw [h0]; simp⟩
 by_cases e1 : a = 44
 ·subst e1
  refine .inl ⟨1, by omega, by rw [signL_cons, if_pos (by simp)]; rfl, fun i hi _ => ?_, by rw [h1]; simp⟩
  obtain rfl : i = 0 := by omega
  rw [h0]; simp
 by_cases e2 : a = 40
 ·subst e2
  refine .inl ⟨2, by omega, by rw [signL_cons, if_pos (by simp)]; rfl, fun i hi _ => ?_, by rw [h2]; simp⟩
  rcases (by omega : i = 0 ∨ i = 1) with rfl | rfl
  ·rw [h0]; simp
  ·rw [h1]; simp
 by_cases e3 : a = 41
 ·subst e3
  refine .inl ⟨3, by omega, by rw [signL_cons, if_pos (by simp)]; rfl, fun i hi _ => ?_, by rw [h3]; simp⟩
  rcases (by omega : i = 0 ∨ i = 1 ∨ i = 2) with rfl | rfl | rfl
  ·rw [h0]; simp
  ·rw [h1]; simp
  ·rw [h2]; simp
 have n0 : decide (a = 59) = false := decide_eq_false e0
 have n1 : decide (a = 44) = false := decide_eq_false e1
 have n2 : decide (a = 40) = false := decide_eq_false e2
 have n3 : decide (a = 41) = false := decide_eq_false e3
 rw [n0] at h0
 rw [n1] at h1
 rw [n2] at h2
 rw [n3] at h3
 have hs : signL (a :: r) = if a = 46 ∧ r.take 2 = [46, 46] then some [46, 46, 46] else none := by rw [signL_cons, if_neg (by simp [e0, e1, e2, e3])]
 by_cases e4 : a = 46 ∧ r.take 2 = [46, 46]
 ·refine .inl ⟨4, by omega, by rw [hs, if_pos e4]; rfl, fun i hi _ => ?_, by rw [h4]; exact decide_eq_true e4⟩
  rcases (by omega : i = 0 ∨ i = 1 ∨ i = 2 ∨ i = 3) with rfl | rfl | rfl | rfl <;> assumption
 ·refine .inr ⟨by rw [hs, if_neg e4], fun i hi _ => ?_⟩
  rw [decide_eq_false e4] at h4
  rcases (by omega : i = 0 ∨ i = 1 ∨ i = 2 ∨ i = 3 ∨ i = 4) with rfl | rfl | rfl | rfl | rfl <;> assumption

def fns : Nat → Nat
 | 0 => 67
 | 1 => 68
 | 2 => 69
 | 3 => 70
 | 4 => 71
 | 5 => 72
 | 6 => 73
 | _ => 74
def StNo (R k : Nat) (s : ByteArray) (ts : List Tok) (i : Nat) : Prop := ∀ W, RD W R s k ts → Gl W → Calls Tryz.prog (fns i) #[.pointer (some ⟨R, 0, none⟩)] W (Stepped W R s false k ts)
def StYes (R k : Nat) (s : ByteArray) (ts : List Tok) (i k' : Nat) (ts' : List Tok) : Prop := ∀ W, RD W R s k ts → Gl W → Calls Tryz.prog (fns i) #[.pointer (some ⟨R, 0, none⟩)] W (Stepped W R s true k' ts')
def StBad (R k : Nat) (s : ByteArray) (ts : List Tok) : Prop := ∀ W, RD W R s k ts → Gl W → Calls Tryz.prog (fns 4) #[.pointer (some ⟨R, 0, none⟩)] W (Bad W R k)

theorem toNat_ne {a b : UInt8} (h : a ≠ b) : a.toNat ≠ b.toNat := fun e => h (UInt8.toNat_inj.1 e)
theorem steps_case (R k : Nat) (s : ByteArray) (ts : List Tok) (hk : k < s.size) (hs : s.size ≤ 4000) (hts : ts.length ≤ 4500) :
  (∃ J ts' m, J < 8 ∧ stepL (s.data.toList.drop k) k ts = some (ts', m) ∧ (∀ i, i < J → StNo R k s ts i) ∧ StYes R k s ts J (k + m) ts') ∨
  (stepL (s.data.toList.drop k) k ts = none ∧ (∀ i, i < 4 → StNo R k s ts i) ∧ StBad R k s ts) ∨
  (stepL (s.data.toList.drop k) k ts = none ∧ ∀ i, i < 8 → StNo R k s ts i) := by
 have hd := drop_ba hk
 obtain ⟨a, ha⟩ : ∃ a, s[k]'hk = a := ⟨_, rfl⟩
 obtain ⟨r, hr⟩ : ∃ r, s.data.toList.drop (k + 1) = r := ⟨_, rfl⟩
 rw [ha, hr] at hd
 have bl : blankL (s.data.toList.drop k) = if a = 32 ∨ a = 9 then 1 else if a = 37 then 1 + (r.takeWhile (· ≠ 10)).length else 0 := by rw [hd, blankL_cons]
 have n0 : a ≠ 32 → a ≠ 9 → StNo R k s ts 0 := fun h1 h2 W hW _ => blank_no W R k s ts hW hk hs (by rw [ha]; exact toNat_ne h1) (by rw [ha]; exact toNat_ne h2)
 have n1 : a ≠ 37 → StNo R k s ts 1 := fun h1 W hW _ => remark_no W R k s ts hW hk hs (by rw [ha]; exact toNat_ne h1)
 have n2 : a ≠ 10 → StNo R k s ts 2 := fun h1 W hW _ => lineEnd_no W R k s ts hW hk hs (by rw [ha]; exact toNat_ne h1)
 by_cases e0 : a = 32
 ·refine .inl ⟨0, ts, 1, by omega, ?_, fun i hi => by omega, fun W hW _ => blank_32 W R k s ts hW hk hs (by rw [ha, e0]; rfl)⟩
  have bl1 : blankL (s.data.toList.drop k) = 1 := by rw [bl, if_pos (Or.inl e0)]
  unfold stepL
  rw [bl1, if_pos (by decide)]
 by_cases e1 : a = 9
 ·refine .inl ⟨0, ts, 1, by omega, ?_, fun i hi => by omega, fun W hW _ => blank_9 W R k s ts hW hk hs (by rw [ha, e1]; rfl)⟩
  have bl1 : blankL (s.data.toList.drop k) = 1 := by rw [bl, if_pos (Or.inr e1)]
  unfold stepL
  rw [bl1, if_pos (by decide)]
 rw [if_neg (by simp [e0, e1])] at bl
 by_cases e2 : a = 37
 ·refine .inl ⟨1, ts, ((s.data.toList.drop k).takeWhile (fun x : UInt8 => decide (x ≠ 10))).length, by omega, ?_, fun i hi => ?_, fun W hW _ => remark_yes W R k s ts hW hk hs (by rw [ha, e2]; rfl)⟩
  ·have : ((s.data.toList.drop k).takeWhile (fun x : UInt8 => decide (x ≠ 10))).length = 1 + (r.takeWhile (fun x : UInt8 => decide (x ≠ 10))).length := by
    rw [hd, e2, List.takeWhile_cons, if_pos (by decide), List.length_cons]; omega
   rw [this]
   unfold stepL
   rw [bl, if_pos e2, if_pos (by omega)]
  ·obtain rfl : i = 0 := by omega
   exact n0 e0 e1
 rw [if_neg e2] at bl
 have st : stepL (s.data.toList.drop k) k ts = if (s.data.toList.drop k).head? = some 10 then some (endL ts k, 1) else match tokL (s.data.toList.drop k) with
  | some (kd, t, n, m) => some (ts ++ [⟨kd, t, n, k⟩], m)
  | none => none := by
  unfold stepL
  rw [bl, if_neg (by simp)]
  rfl
 rw [st]
 by_cases e3 : a = 10
 ·refine .inl ⟨2, endL ts k, 1, by omega, by rw [hd, if_pos (by rw [e3]; rfl)], fun i hi => ?_, fun W hW _ => lineEnd_yes W R k s ts hW hk hs (by omega) (by rw [ha, e3]; rfl)⟩
  rcases (by omega : i = 0 ∨ i = 1) with rfl | rfl
  ·exact n0 e0 e1
  ·exact n1 e2
 rw [if_neg (by rw [hd]; simp [e3])]
 have n012 : ∀ i, i < 3 → StNo R k s ts i := fun i hi => by
  rcases (by omega : i = 0 ∨ i = 1 ∨ i = 2) with rfl | rfl | rfl
  ·exact n0 e0 e1
  ·exact n1 e2
  ·exact n2 e3
 rcases sign_case a r with ⟨J, hJ, hsg, hn, hy⟩ | ⟨hsg, hn⟩
 ·rw [← hd] at hsg hn hy
  have tk : tokL (s.data.toList.drop k) = some (2, (sgB J).data.toList, 0, (sgB J).data.toList.length) := by unfold tokL; rw [hsg]
  rw [tk]
  refine .inl ⟨3, _, _, by omega, rfl, n012, fun W hW hG => ?_⟩
  have := ssign_any W R k s ts hW hG hk hs hts J (by omega) hn (fun _ => hy)
  refine this.mono fun e w' h => ?_
  unfold SignTold at h
  rw [if_pos hJ, ← size_list] at h
  exact h
 ·rw [← hd] at hsg hn
  have n3 : StNo R k s ts 3 := fun W hW hG => by
   have := ssign_any W R k s ts hW hG hk hs hts 5 (by omega) hn (fun h => absurd h (by omega))
   refine this.mono fun e w' h => ?_
   unfold SignTold at h
   rw [if_neg (by omega)] at h
   exact h
  have n0123 : ∀ i, i < 4 → StNo R k s ts i := fun i hi => by
   rcases (by omega : i < 3 ∨ i = 3) with h | rfl
   ·exact n012 i h
   ·exact n3
  unfold tokL
  rw [hsg]
  simp only
  cases hnum : numL (nameL (s.data.toList.drop k)) with
  | some v =>
   simp only
   cases hv : rightN v with
   | true =>
    exact .inl ⟨4, _, _, by omega, rfl, n0123, fun W hW _ => sscalar_yes W R k s ts hW hk hs hts v hnum hv⟩
   | false =>
    exact .inr (.inl ⟨rfl, n0123, fun W hW _ => sscalar_bad W R k s ts hW hk hs hts v hnum hv⟩)
  | none =>
   simp only
   have n4 : StNo R k s ts 4 := fun W hW hG => sscalar_no W R k s ts hW hk hs hts hG hnum
   have n04 : ∀ i, i < 5 → StNo R k s ts i := fun i hi => by
    rcases (by omega : i < 4 ∨ i = 4) with h | rfl
    ·exact n0123 i h
    ·exact n4
   by_cases hnm : nameL (s.data.toList.drop k) = []
   ·rw [if_neg (by simp [hnm])]
    have n05 : ∀ i, i < 6 → StNo R k s ts i := fun i hi => by
     rcases (by omega : i < 5 ∨ i = 5) with h | rfl
     ·exact n04 i h
     ·exact fun W hW _ => sname_no W R k s ts hW hk hs hts hnm
    have n06 : quoL (s.data.toList.drop k) = none → ∀ i, i < 7 → StNo R k s ts i := fun hq i hi => by
     rcases (by omega : i < 6 ∨ i = 6) with h | rfl
     ·exact n05 i h
     ·intro W hW _
      by_cases e34 : a = 34
      ·rw [e34] at hd
       by_cases hlt : (r.takeWhile (· ≠ 34)).length < r.length
       ·by_cases h10 : 10 ∈ r.takeWhile (· ≠ 34)
        ·exact squoted_no3 W R k s ts hW hk hs hts r hd hlt h10
        ·rw [hd, quoL_cons, if_pos ⟨rfl, hlt, h10⟩] at hq
         cases hq
       ·exact squoted_no2 W R k s ts hW hk hs hts r hd hlt
      ·exact squoted_no1 W R k s ts hW hk hs hts (by rw [hd]; simp [e34])
    cases hq : quoL (s.data.toList.drop k) with
    | some t =>
     simp only
     have hq' := hq
     rw [hd, quoL_cons] at hq'
     by_cases hc : a = 34 ∧ (r.takeWhile (· ≠ 34)).length < r.length ∧ 10 ∉ r.takeWhile (· ≠ 34)
     ·rw [if_pos hc] at hq'
      injection hq' with hq'
      subst hq'
      exact .inl ⟨6, _, _, by omega, rfl, n05, fun W hW _ => squoted_yes W R k s ts hW hk hs hts r (by rw [hd, hc.1]) hc.2.1 hc.2.2⟩
     ·rw [if_neg hc] at hq'
      cases hq'
    | none =>
     simp only
     by_cases hw : wordL (s.data.toList.drop k) = []
     ·rw [if_neg (by simp [hw])]
      refine .inr (.inr ⟨rfl, fun i hi => ?_⟩)
      rcases (by omega : i < 7 ∨ i = 7) with h | rfl
      ·exact n06 hq i h
      ·exact fun W hW _ => sword_no W R k s ts hW hk hs hts hw
     ·rw [if_pos hw]
      exact .inl ⟨7, _, _, by omega, rfl, n06 hq, fun W hW _ => sword_yes W R k s ts hW hk hs hts hw⟩
   ·rw [if_pos hnm]
    exact .inl ⟨5, _, _, by omega, rfl, n04, fun W hW _ => sname_yes W R k s ts hW hk hs hts hnm⟩
end Go.Proofs.YthaibekbefndlaaGreatDoor.C
