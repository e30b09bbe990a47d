/-
  Contracts of a reader's steps sign, scalar, name, quoted, word: what the plain functions say. No condition but what each names.
-/
import Derived.Test.YtnifcgiajjmogaaGreatDoorLxQ
import Derived.WalkLawsBesides
namespace Go.Proofs.YtnifcgiajjmogaaGreatDoor.C
open Go.RowKit

theorem right_int (c : Int) (b : Bool) (h0 : 0 ≤ c) (h : b = decide (c < 55296 ∨ 57343 < c ∧ c ≤ 1114111)) (w : World) : Calls Tryz.prog 42 #[.int .i32 c] w fun e w' => e = .returned (.bool b) ∧ w' = w := by
  have a0 : ¬ c < -256 := by omega
  by_cases h2 : 1114111 < c
  · obtain rfl : b = false := by rw [h]; exact decide_eq_false (by omega)
    clear h
    go_enter Tryz.func42, Tryz.ntmps42
    go_wp2
    all_goals go_ret
    all_goals exact ⟨rfl, rfl⟩
  by_cases h3 : c < 55296
  · obtain rfl : b = true := by rw [h]; exact decide_eq_true (by omega)
    clear h
    go_enter Tryz.func42, Tryz.ntmps42
    go_wp2
    all_goals go_ret
    all_goals exact ⟨rfl, rfl⟩
  by_cases h4 : 57343 < c
  · obtain rfl : b = true := by rw [h]; exact decide_eq_true (by omega)
    clear h
    go_enter Tryz.func42, Tryz.ntmps42
    go_wp2
    all_goals go_ret
    all_goals exact ⟨rfl, rfl⟩
  · obtain rfl : b = false := by rw [h]; exact decide_eq_false (by omega)
    clear h
    go_enter Tryz.func42, Tryz.ntmps42
    go_wp2
    all_goals go_ret
    all_goals exact ⟨rfl, rfl⟩
theorem right_is (n : Nat) (w : World) (b : Bool) (h : rightN n = b) : Calls Tryz.prog 42 #[.int .i32 n] w fun e w' => e = .returned (.bool b) ∧ w' = w :=
  right_int n b (by omega) (by rw [← h]; unfold rightN; rw [decide_eq_decide]; omega) w

theorem not_empty {l : List UInt8} (h : l ≠ []) : (str l).toList.isEmpty = false ∧ ¬ (str l).toList = [] := by
  have h1 : (str l).toList.isEmpty = false := by
    rw [← decide_eq_emptyBytes]
    refine decide_eq_false (fun e => h ?_)
    have := congrArg (fun b : ByteArray => b.data.toList) e
    simpa using this
  exact ⟨h1, fun e => by rw [e] at h1; cases h1⟩
theorem numL_lt {l : List UInt8} {n : Nat} (h : numL l = some n) : n < 16777216 := by
  cases l with
  | nil => cases h
  | cons c d =>
    rw [numL_cons] at h
    by_cases hc : c = 85 ∧ 4 ≤ d.length ∧ d.length ≤ 6
    · rw [if_pos hc] at h
      have := hexN_lt h
      have := pow_16 hc.2.2
      omega
    · rw [if_neg hc] at h
      cases h

set_option maxHeartbeats 2000000 in
theorem sword_no (w : World) (R k : Nat) (s : ByteArray) (ts : List Tok) (h : RD w R s k ts) (hk : k < s.size) (hs : s.size ≤ 4000) (_hts : ts.length ≤ 4500) (hw : wordL (s.data.toList.drop k) = []) :
    Calls Tryz.prog 28 #[.pointer (some ⟨R, 0, none⟩)] w (Stepped w R s false k ts) := by
  have H := Lib.hid h
  have hrest := rest_any w R k s ts h (by omega) hs
  have hll : (s.data.toList.drop k).length ≤ 4000 := by rw [List.length_drop, size_list]; omega
  have hlk : k + (s.data.toList.drop k).length ≤ 4000 := by rw [List.length_drop, size_list]; omega
  have hc : ∀ W, Calls Tryz.prog 45 #[.string (str (s.data.toList.drop k))] W fun e w' => e = .returned (.string ⟨#[]⟩) ∧ w' = W := fun W => by
    have := wordAt_str (s.data.toList.drop k) W (by unfold maxLen; omega)
    rwa [hw] at this
  generalize s.data.toList.drop k = L at *
  clear h hw hll hlk
  go_enter Tryz.func28, Tryz.ntmps28
  go_wp2_with (first
    | (go_at_call 37; refine hrest.mono ?_; rintro e w' ⟨rfl, n, rfl⟩)
    | (go_at_call 45; refine (hc _).mono ?_; rintro e w' ⟨rfl, rfl⟩))
  go_ret
  exact ⟨rfl, H.out.drewN _, bk_drewN _ _ _⟩
set_option maxHeartbeats 2000000 in
theorem sword_yes (w : World) (R k : Nat) (s : ByteArray) (ts : List Tok) (h : RD w R s k ts) (hk : k < s.size) (hs : s.size ≤ 4000) (hts : ts.length ≤ 4500) (hw : wordL (s.data.toList.drop k) ≠ []) :
    Calls Tryz.prog 28 #[.pointer (some ⟨R, 0, none⟩)] w (Stepped w R s true (k + ((wordL (s.data.toList.drop k)).length)) (ts ++ [⟨1, wordL (s.data.toList.drop k), 0, k⟩])) := by
  have H := Lib.hid h
  have hrest := rest_any w R k s ts h (by omega) hs
  have hll : (s.data.toList.drop k).length ≤ 4000 := by rw [List.length_drop, size_list]; omega
  have hlk : k + (s.data.toList.drop k).length ≤ 4000 := by rw [List.length_drop, size_list]; omega
  have hwl := wordL_len (s.data.toList.drop k)
  have hc : ∀ W, Calls Tryz.prog 45 #[.string (str (s.data.toList.drop k))] W fun e w' => e = .returned (.string (str (wordL (s.data.toList.drop k)))) ∧ w' = W := fun W => wordAt_str (s.data.toList.drop k) W (by unfold maxLen; omega)
  obtain ⟨he1, he2⟩ := not_empty hw
  have hsz := str_size (wordL (s.data.toList.drop k))
  generalize s.data.toList.drop k = L at *
  generalize wordL L = T at *
  have hadd := fun n => add_any (w.drewN n) R k s ts (h.drewN _) 1 0 (T.length) T 0 (by omega) (by omega) (by omega)
  obtain ⟨m, hm⟩ : ∃ m, T.length = m := ⟨_, rfl⟩
  rw [hm] at hsz hadd hwl ⊢
  have hm2 : m ≤ 4000 := by omega
  have e3 : (((m : Nat)) : Int) = (m : Int) := by omega
  rw [e3] at hadd
  clear h hw hll hlk hm e3 hwl
  go_enter Tryz.func28, Tryz.ntmps28
  go_wp2_with (first
    | (go_at_call 37; refine hrest.mono ?_; rintro e w' ⟨rfl, n, rfl⟩)
    | (go_at_call 45; refine (hc _).mono ?_; rintro e w' ⟨rfl, rfl⟩)
    | (go_at_call 39; refine (hadd _).mono ?_; rintro e w1 ⟨rfl, hr, hb1⟩))
  go_ret
  exact ⟨rfl, hr, (bk_drewN _ _ _).trans hb1⟩
set_option maxHeartbeats 2000000 in
theorem sname_no (w : World) (R k : Nat) (s : ByteArray) (ts : List Tok) (h : RD w R s k ts) (hk : k < s.size) (hs : s.size ≤ 4000) (_hts : ts.length ≤ 4500) (hw : nameL (s.data.toList.drop k) = []) :
    Calls Tryz.prog 26 #[.pointer (some ⟨R, 0, none⟩)] w (Stepped w R s false k ts) := by
  have H := Lib.hid h
  have hrest := rest_any w R k s ts h (by omega) hs
  have hll : (s.data.toList.drop k).length ≤ 4000 := by rw [List.length_drop, size_list]; omega
  have hlk : k + (s.data.toList.drop k).length ≤ 4000 := by rw [List.length_drop, size_list]; omega
  have hc : ∀ W, Calls Tryz.prog 40 #[.string (str (s.data.toList.drop k))] W fun e w' => e = .returned (.string ⟨#[]⟩) ∧ w' = W := fun W => by
    have := nameAt_any (s.data.toList.drop k) (by omega) W
    rwa [hw] at this
  generalize s.data.toList.drop k = L at *
  clear h hw hll hlk
  go_enter Tryz.func26, Tryz.ntmps26
  go_wp2_with (first
    | (go_at_call 37; refine hrest.mono ?_; rintro e w' ⟨rfl, n, rfl⟩)
    | (go_at_call 40; refine (hc _).mono ?_; rintro e w' ⟨rfl, rfl⟩))
  go_ret
  exact ⟨rfl, H.out.drewN _, bk_drewN _ _ _⟩
set_option maxHeartbeats 2000000 in
theorem sname_yes (w : World) (R k : Nat) (s : ByteArray) (ts : List Tok) (h : RD w R s k ts) (hk : k < s.size) (hs : s.size ≤ 4000) (hts : ts.length ≤ 4500) (hw : nameL (s.data.toList.drop k) ≠ []) :
    Calls Tryz.prog 26 #[.pointer (some ⟨R, 0, none⟩)] w (Stepped w R s true (k + (2 + (nameL (s.data.toList.drop k)).length)) (ts ++ [⟨5, nameL (s.data.toList.drop k), 0, k⟩])) := by
  have H := Lib.hid h
  have hrest := rest_any w R k s ts h (by omega) hs
  have hll : (s.data.toList.drop k).length ≤ 4000 := by rw [List.length_drop, size_list]; omega
  have hlk : k + (s.data.toList.drop k).length ≤ 4000 := by rw [List.length_drop, size_list]; omega
  have hwl := nameL_len (s.data.toList.drop k) hw
  have hc : ∀ W, Calls Tryz.prog 40 #[.string (str (s.data.toList.drop k))] W fun e w' => e = .returned (.string (str (nameL (s.data.toList.drop k)))) ∧ w' = W := fun W => nameAt_any (s.data.toList.drop k) (by omega) W
  obtain ⟨he1, he2⟩ := not_empty hw
  have hsz := str_size (nameL (s.data.toList.drop k))
  generalize s.data.toList.drop k = L at *
  generalize nameL L = T at *
  have hadd := fun n => add_any (w.drewN n) R k s ts (h.drewN _) 5 0 (2 + T.length) T 0 (by omega) (by omega) (by omega)
  obtain ⟨m, hm⟩ : ∃ m, T.length = m := ⟨_, rfl⟩
  rw [hm] at hsz hadd hwl ⊢
  have hm2 : m ≤ 4000 := by omega
  have e3 : (((2 + m : Nat)) : Int) = (2 : Int) + (m : Int) := by omega
  rw [e3] at hadd
  clear h hw hll hlk hm e3 hwl
  go_enter Tryz.func26, Tryz.ntmps26
  go_wp2_with (first
    | (go_at_call 37; refine hrest.mono ?_; rintro e w' ⟨rfl, n, rfl⟩)
    | (go_at_call 40; refine (hc _).mono ?_; rintro e w' ⟨rfl, rfl⟩)
    | (go_at_call 39; refine (hadd _).mono ?_; rintro e w1 ⟨rfl, hr, hb1⟩))
  go_ret
  exact ⟨rfl, hr, (bk_drewN _ _ _).trans hb1⟩
set_option maxHeartbeats 2000000 in
theorem sscalar_no (w : World) (R k : Nat) (s : ByteArray) (ts : List Tok) (h : RD w R s k ts) (hk : k < s.size) (hs : s.size ≤ 4000) (_hts : ts.length ≤ 4500) (hG : Gl w) (hw : numL (nameL (s.data.toList.drop k)) = none) :
    Calls Tryz.prog 25 #[.pointer (some ⟨R, 0, none⟩)] w (Stepped w R s false k ts) := by
  have H := Lib.hid h
  have hrest := rest_any w R k s ts h (by omega) hs
  have hll : (s.data.toList.drop k).length ≤ 4000 := by rw [List.length_drop, size_list]; omega
  have hlk : k + (s.data.toList.drop k).length ≤ 4000 := by rw [List.length_drop, size_list]; omega
  have hname := fun W => nameAt_any (s.data.toList.drop k) (by omega) W
  have hnl : (nameL (s.data.toList.drop k)).length ≤ 4000 := by
    by_cases h0 : nameL (s.data.toList.drop k) = []
    · rw [h0]; simp
    · have := nameL_len _ h0; omega
  have hnum := fun n => numberOf_no (nameL (s.data.toList.drop k)) hw (w.drewN n) (hG.keep fun b _ => rfl) (by omega)
  have hRt := h.lt
  generalize s.data.toList.drop k = L at *
  generalize nameL L = T at *
  clear h hw hll hlk hnl hG
  go_enter Tryz.func25, Tryz.ntmps25
  go_wp2_with (first
    | (go_at_call 37; refine hrest.mono ?_; rintro e w' ⟨rfl, n, rfl⟩)
    | (go_at_call 40; refine (hname _).mono ?_; rintro e w' ⟨rfl, rfl⟩)
    | (go_at_call 41; refine (hnum _).mono ?_; rintro e w1 ⟨rfl, hb1⟩))
  go_ret
  exact ⟨rfl, (H.out.drewN _).next hb1, (bk_drewN _ _ _).trans (bk_of hb1 (Nat.le_of_lt hRt))⟩
set_option maxHeartbeats 2000000 in
theorem sscalar_yes (w : World) (R k : Nat) (s : ByteArray) (ts : List Tok) (h : RD w R s k ts) (hk : k < s.size) (hs : s.size ≤ 4000) (hts : ts.length ≤ 4500) (v : Nat) (hw : numL (nameL (s.data.toList.drop k)) = some v) (hv : rightN v = true) :
    Calls Tryz.prog 25 #[.pointer (some ⟨R, 0, none⟩)] w (Stepped w R s true (k + (2 + (nameL (s.data.toList.drop k)).length)) (ts ++ [⟨3, [], v, k⟩])) := by
  have H := Lib.hid h
  have hrest := rest_any w R k s ts h (by omega) hs
  have hll : (s.data.toList.drop k).length ≤ 4000 := by rw [List.length_drop, size_list]; omega
  have hlk : k + (s.data.toList.drop k).length ≤ 4000 := by rw [List.length_drop, size_list]; omega
  have hname := fun W => nameAt_any (s.data.toList.drop k) (by omega) W
  have hnl := nameL_len _ (numL_name hw)
  have hnum := fun n => numberOf_yes (nameL (s.data.toList.drop k)) v hw (w.drewN n)
  have hv2 := numL_lt hw
  have hright := fun W => right_is v W true hv
  have hRt := h.lt
  have hsz := str_size (nameL (s.data.toList.drop k))
  generalize s.data.toList.drop k = L at *
  generalize nameL L = T at *
  have hadd := fun W (hD : RD W R s k ts) => add_any W R k s ts hD 3 v (2 + T.length) [] 0 (by omega) (by simp) (by omega)
  obtain ⟨m, hm⟩ : ∃ m, T.length = m := ⟨_, rfl⟩
  rw [hm] at hsz hadd hnl ⊢
  have hm2 : m ≤ 4000 := by omega
  have e3 : (((2 + m : Nat)) : Int) = (2 : Int) + (m : Int) := by omega
  rw [e3] at hadd
  obtain ⟨c, hc⟩ : ∃ c : Int, (v : Int) = c := ⟨_, rfl⟩
  rw [hc] at hnum hright hadd
  have c0 : 0 ≤ c := by omega
  have c1 : c < 16777216 := by omega
  clear h hw hll hlk hm e3 hnl hv2 hv hc
  go_enter Tryz.func25, Tryz.ntmps25
  go_wp2_with (first
    | (go_at_call 37; refine hrest.mono ?_; rintro e w' ⟨rfl, n, rfl⟩)
    | (go_at_call 40; refine (hname _).mono ?_; rintro e w' ⟨rfl, rfl⟩)
    | (go_at_call 41; refine (hnum _).mono ?_; rintro e w1 ⟨rfl, hb1⟩)
    | (go_at_call 42; refine (hright _).mono ?_; rintro e w' ⟨rfl, rfl⟩)
    | (go_at_call 39; refine (hadd _ ((H.out.drewN _).next hb1)).mono ?_; rintro e w2 ⟨rfl, hr, hb2⟩))
  go_ret
  exact ⟨rfl, hr, (bk_drewN _ _ _).trans ((bk_of hb1 (Nat.le_of_lt hRt)).trans hb2)⟩
/-- what a step that finds no token leaves -/
def Bad (w : World) (R k : Nat) (e : Ending) (w' : World) : Prop := e = .panicked [{ v := .iface 59 (.int .i64 k), recovered := false }] ∧ Below R w w'
set_option maxHeartbeats 2000000 in
theorem sscalar_bad (w : World) (R k : Nat) (s : ByteArray) (ts : List Tok) (h : RD w R s k ts) (hk : k < s.size) (hs : s.size ≤ 4000) (_hts : ts.length ≤ 4500) (v : Nat) (hw : numL (nameL (s.data.toList.drop k)) = some v) (hv : rightN v = false) :
    Calls Tryz.prog 25 #[.pointer (some ⟨R, 0, none⟩)] w (Bad w R k) := by
  have H := Lib.hid h
  have hrest := rest_any w R k s ts h (by omega) hs
  have hll : (s.data.toList.drop k).length ≤ 4000 := by rw [List.length_drop, size_list]; omega
  have hlk : k + (s.data.toList.drop k).length ≤ 4000 := by rw [List.length_drop, size_list]; omega
  have hname := fun W => nameAt_any (s.data.toList.drop k) (by omega) W
  have hnum := fun n => numberOf_yes (nameL (s.data.toList.drop k)) v hw (w.drewN n)
  have hv2 := numL_lt hw
  have hright := fun W => right_is v W false hv
  have hRt := h.lt
  obtain ⟨_, vv, hb, _⟩ := h
  have hcell : ∀ n w1, Below (w.drewN n).heap.size (w.drewN n) w1 → w1.cell? ⟨R, 1, none⟩ = some (.int .i64 k) := fun n w1 hb1 => (rd_cells ((hb1.block R hRt).trans hb)).2.1
  generalize s.data.toList.drop k = L at *
  generalize nameL L = T at *
  obtain ⟨c, hc⟩ : ∃ c : Int, (v : Int) = c := ⟨_, rfl⟩
  rw [hc] at hnum hright
  have c0 : 0 ≤ c := by omega
  have c1 : c < 16777216 := by omega
  clear hw hll hlk hv2 hv hc hb
  go_enter Tryz.func25, Tryz.ntmps25
  go_wp2_with (first
    | (go_at_call 37; refine hrest.mono ?_; rintro e w' ⟨rfl, n, rfl⟩)
    | (go_at_call 40; refine (hname _).mono ?_; rintro e w' ⟨rfl, rfl⟩)
    | (go_at_call 41; refine (hnum _).mono ?_; rintro e w1 ⟨rfl, hb1⟩; have hq := hcell _ _ hb1)
    | (go_at_call 42; refine (hright _).mono ?_; rintro e w' ⟨rfl, rfl⟩))
  exact ⟨rfl, rfl, (below_drewN0 (Below.refl _ _) _).trans (hb1.mono (Nat.le_of_lt hRt))⟩
set_option maxHeartbeats 2000000 in
theorem squoted_no1 (w : World) (R k : Nat) (s : ByteArray) (ts : List Tok) (h : RD w R s k ts) (hk : k < s.size) (hs : s.size ≤ 4000) (_hts : ts.length ≤ 4500) (hw : (s.data.toList.drop k).head? ≠ some 34) :
    Calls Tryz.prog 27 #[.pointer (some ⟨R, 0, none⟩)] w (Stepped w R s false k ts) := by
  have H := Lib.hid h
  have hrest := rest_any w R k s ts h (by omega) hs
  have hll : (s.data.toList.drop k).length ≤ 4000 := by rw [List.length_drop, size_list]; omega
  have hlk : k + (s.data.toList.drop k).length ≤ 4000 := by rw [List.length_drop, size_list]; omega
  have hpre := fun W => cutPrefix_no (s.data.toList.drop k) 34 hw W
  generalize s.data.toList.drop k = L at *
  clear h hw hll hlk
  go_enter Tryz.func27, Tryz.ntmps27
  go_wp2_with (first
    | (go_at_call 37; refine hrest.mono ?_; rintro e w' ⟨rfl, n, rfl⟩)
    | (go_at_call 43; refine (hpre _).mono ?_; rintro e w' ⟨rfl, rfl⟩))
  go_ret
  exact ⟨rfl, H.out.drewN _, bk_drewN _ _ _⟩
set_option maxHeartbeats 2000000 in
theorem squoted_no2 (w : World) (R k : Nat) (s : ByteArray) (ts : List Tok) (h : RD w R s k ts) (hk : k < s.size) (hs : s.size ≤ 4000) (_hts : ts.length ≤ 4500) (r : List UInt8) (hr : s.data.toList.drop k = 34 :: r) (hw : ¬ (r.takeWhile (· ≠ 34)).length < r.length) :
    Calls Tryz.prog 27 #[.pointer (some ⟨R, 0, none⟩)] w (Stepped w R s false k ts) := by
  have H := Lib.hid h
  have hrest := rest_any w R k s ts h (by omega) hs
  have hll : (s.data.toList.drop k).length ≤ 4000 := by rw [List.length_drop, size_list]; omega
  have hlk : k + (s.data.toList.drop k).length ≤ 4000 := by rw [List.length_drop, size_list]; omega
  have hpre := fun W => cutPrefix_yes 34 r W
  have hcut := fun W => cut_no r 34 hw W
  rw [hr] at hrest
  generalize (34 : UInt8) :: r = L at *
  generalize r.takeWhile (· ≠ 34) = T at *
  clear h hw hll hlk hr
  go_enter Tryz.func27, Tryz.ntmps27
  go_wp2_with (first
    | (go_at_call 37; refine hrest.mono ?_; rintro e w' ⟨rfl, n, rfl⟩)
    | (go_at_call 43; refine (hpre _).mono ?_; rintro e w' ⟨rfl, rfl⟩)
    | (go_at_call 36; refine (hcut _).mono ?_; rintro e w' ⟨rfl, n2, rfl⟩))
  go_ret
  exact ⟨rfl, H.out.drewN _, bk_drewN _ _ _⟩
set_option maxHeartbeats 2000000 in
theorem squoted_no3 (w : World) (R k : Nat) (s : ByteArray) (ts : List Tok) (h : RD w R s k ts) (hk : k < s.size) (hs : s.size ≤ 4000) (_hts : ts.length ≤ 4500) (r : List UInt8) (hr : s.data.toList.drop k = 34 :: r) (hw : (r.takeWhile (· ≠ 34)).length < r.length) (h10 : 10 ∈ r.takeWhile (· ≠ 34)) :
    Calls Tryz.prog 27 #[.pointer (some ⟨R, 0, none⟩)] w (Stepped w R s false k ts) := by
  have H := Lib.hid h
  have hrest := rest_any w R k s ts h (by omega) hs
  have hll : (s.data.toList.drop k).length ≤ 4000 := by rw [List.length_drop, size_list]; omega
  have hlk : k + (s.data.toList.drop k).length ≤ 4000 := by rw [List.length_drop, size_list]; omega
  have hpre := fun W => cutPrefix_yes 34 r W
  have hrl : r.length ≤ 4000 := by rw [hr] at hll; simp at hll; omega
  have hcut := fun W => (cut_yes r 34 hw (by omega) W)
  have hcon := fun W => contains_yes (r.takeWhile (· ≠ 34)) 10 h10 W
  rw [hr] at hrest
  generalize (34 : UInt8) :: r = L at *
  generalize r.takeWhile (· ≠ 34) = T at *
  clear h hw hll hlk hr h10 hrl
  go_enter Tryz.func27, Tryz.ntmps27
  go_wp2_with (first
    | (go_at_call 37; refine hrest.mono ?_; rintro e w' ⟨rfl, n, rfl⟩)
    | (go_at_call 43; refine (hpre _).mono ?_; rintro e w' ⟨rfl, rfl⟩)
    | (go_at_call 36; obtain ⟨b, hc⟩ := hcut (w.drewN n); refine hc.mono ?_; rintro e w' ⟨rfl, n2, rfl⟩)
    | (go_at_call 44; refine (hcon _).mono ?_; rintro e w' ⟨rfl, rfl⟩))
  go_ret
  exact ⟨rfl, H.out.drewN _, bk_drewN _ _ _⟩
set_option maxHeartbeats 2000000 in
theorem squoted_yes (w : World) (R k : Nat) (s : ByteArray) (ts : List Tok) (h : RD w R s k ts) (hk : k < s.size) (hs : s.size ≤ 4000) (hts : ts.length ≤ 4500) (r : List UInt8) (hr : s.data.toList.drop k = 34 :: r) (hw : (r.takeWhile (· ≠ 34)).length < r.length) (h10 : 10 ∉ r.takeWhile (· ≠ 34)) :
    Calls Tryz.prog 27 #[.pointer (some ⟨R, 0, none⟩)] w (Stepped w R s true (k + (2 + (r.takeWhile (· ≠ 34)).length)) (ts ++ [⟨4, r.takeWhile (· ≠ 34), 0, k⟩])) := by
  have H := Lib.hid h
  have hrest := rest_any w R k s ts h (by omega) hs
  have hll : (s.data.toList.drop k).length ≤ 4000 := by rw [List.length_drop, size_list]; omega
  have hlk : k + (s.data.toList.drop k).length ≤ 4000 := by rw [List.length_drop, size_list]; omega
  have hpre := fun W => cutPrefix_yes 34 r W
  have hrl : r.length ≤ 4000 := by rw [hr] at hll; simp at hll; omega
  have hcut := fun W => (cut_yes r 34 hw (by omega) W)
  have hcon := fun W => contains_no (r.takeWhile (· ≠ 34)) 10 h10 W
  rw [hr] at hrest hlk
  rw [List.length_cons] at hlk
  have hsz := str_size (r.takeWhile (· ≠ 34))
  generalize (34 : UInt8) :: r = L at *
  generalize r.takeWhile (· ≠ 34) = T at *
  have hadd := fun n => add_any (w.drewN n) R k s ts (h.drewN _) 4 0 (2 + T.length) T 0 (by omega) (by omega) (by omega)
  obtain ⟨m, hm⟩ : ∃ m, T.length = m := ⟨_, rfl⟩
  rw [hm] at hsz hadd hw ⊢
  have hm2 : m ≤ 4000 := by omega
  have e3 : (((2 + m : Nat)) : Int) = (2 : Int) + (m : Int) := by omega
  rw [e3] at hadd
  clear h hw hll hlk hr h10 hrl hm e3
  go_enter Tryz.func27, Tryz.ntmps27
  go_wp2_with (first
    | (go_at_call 37; refine hrest.mono ?_; rintro e w' ⟨rfl, n, rfl⟩)
    | (go_at_call 43; refine (hpre _).mono ?_; rintro e w' ⟨rfl, rfl⟩)
    | (go_at_call 36; obtain ⟨b, hc⟩ := hcut (w.drewN n); refine hc.mono ?_; rintro e w' ⟨rfl, n2, rfl⟩)
    | (go_at_call 44; refine (hcon _).mono ?_; rintro e w' ⟨rfl, rfl⟩)
    | (go_at_call 39; refine (hadd _).mono ?_; rintro e w1 ⟨rfl, hr, hb1⟩))
  go_ret
  exact ⟨rfl, hr, (bk_drewN _ _ _).trans hb1⟩
end Go.Proofs.YtnifcgiajjmogaaGreatDoor.C
