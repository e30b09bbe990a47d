/-
  The contract of the document's own one: names and numbers, and whatever begins a text. No condition.
-/
import Derived.Test.YtnifcgiajjmogaaGreatDoorLyT
namespace Go.Proofs.YtnifcgiajjmogaaGreatDoor.C
open Go.RowKit

/-- what a name says: its sign at the front, whether it is a number -/
theorem name_facts {s : ByteArray} {r : List UInt8} {c : UInt8} {d : List UInt8} (hl : s.data.toList = 60 :: r) (hw : wordL r = c :: d) :
    s.data.toList[1]? = some c ∧ (s.extract 2 (d.length + 2)).data.toList = d ∧ (s.extract 2 (d.length + 2)).size = d.length ∧ s.extract 1 (d.length + 2) = str (c :: d) ∧ d.length + 2 ≤ s.size := by
  have hp := List.takeWhile_prefix (l := r) isW
  rw [show r.takeWhile isW = c :: d from hw] at hp
  have hle := hp.length_le
  have htk : r.take (d.length + 1) = c :: d := by
    have := List.prefix_iff_eq_take.1 hp
    rw [List.length_cons] at this
    exact this.symm
  have hsz : s.size = r.length + 1 := by rw [← size_list, hl]; rfl
  rw [List.length_cons] at hle
  have h2 : (s.extract 2 (d.length + 2)).data.toList = d := by
    rw [extract_list, hl, List.take_succ_cons, htk]
    rfl
  refine ⟨?_, h2, by rw [← size_list, h2], ?_, by omega⟩
  · rw [hl]
    show r[0]? = some c
    have := congrArg (·[0]?) htk
    simp only [List.getElem?_cons_zero] at this
    rw [List.getElem?_take_of_lt (by omega)] at this
    exact this
  · rw [extract_str, hl, List.take_succ_cons, htk]
    rfl
theorem hexI_lt (d : List UInt8) (h : d.length ≤ 6) : hexI d < 16777216 := by
  unfold hexI
  cases hd : hexN d 0 with
  | none => simp
  | some n =>
    have := hexN_lt hd
    have := pow_16 h
    simp only
    omega

theorem set_block {w : World} {b i : Nat} {cs : Array Value} {t : TypeId} {f : Nat × Nat} (h : w.heap[b]? = some (.cells cs t f)) (v : Value) : (w.setCell ⟨b, i, none⟩ v).heap[b]? = some (.cells (cs.setIfInBounds i v) t f) := by
  obtain ⟨hlt, hk⟩ := Array.getElem?_eq_some_iff.1 h
  show (w.heap.modify b _)[b]? = _
  rw [Array.getElem?_eq_getElem (by rw [Array.size_modify]; exact hlt), Array.getElem_modify_self, hk]
  rfl
/-- four cells of a block, stored -/
def put4 (W : World) (b : Nat) (v0 v1 v2 v3 : Value) : World := (((W.setCell ⟨b, 0, none⟩ v0).setCell ⟨b, 1, none⟩ v1).setCell ⟨b, 2, none⟩ v2).setCell ⟨b, 3, none⟩ v3
theorem put4_block {W : World} {b : Nat} {a0 a1 a2 a3 : Value} {t : TypeId} {f : Nat × Nat} (h : W.heap[b]? = some (.cells #[a0, a1, a2, a3] t f)) (v0 v1 v2 v3 : Value) : (put4 W b v0 v1 v2 v3).heap[b]? = some (.cells #[v0, v1, v2, v3] t f) := by
  have h1 := set_block h (i := 0) v0
  have h2 := set_block h1 (i := 1) v1
  have h3 := set_block h2 (i := 2) v2
  exact set_block h3 (i := 3) v3
theorem put4_cells {W : World} {b : Nat} {a0 a1 a2 a3 : Value} {t : TypeId} {f : Nat × Nat} (h : W.heap[b]? = some (.cells #[a0, a1, a2, a3] t f)) (v0 v1 v2 v3 : Value) :
    (put4 W b v0 v1 v2 v3).cell? ⟨b, 0, none⟩ = some v0 ∧ (put4 W b v0 v1 v2 v3).cell? ⟨b, 1, none⟩ = some v1 ∧ (put4 W b v0 v1 v2 v3).cell? ⟨b, 2, none⟩ = some v2 ∧ (put4 W b v0 v1 v2 v3).cell? ⟨b, 3, none⟩ = some v3 := by
  have h1 := put4_block h v0 v1 v2 v3
  simp [World.cell?, h1]
theorem put4_below {w W : World} {n b : Nat} (hb : Below n w W) (h : n ≤ b) (v0 v1 v2 v3 : Value) : Below n w (put4 W b v0 v1 v2 v3) := by
  unfold put4
  refine Below.setCell ?_ (by show n ≤ b; exact h) _
  refine Below.setCell ?_ (by show n ≤ b; exact h) _
  refine Below.setCell ?_ (by show n ≤ b; exact h) _
  exact Below.setCell hb (by show n ≤ b; exact h) _

theorem res_one {W : World} {b : Nat} {v0 v1 v2 v3 : Value} {tmps : Array Value} (h : W.cell? ⟨b, 0, none⟩ = some v0 ∧ W.cell? ⟨b, 1, none⟩ = some v1 ∧ W.cell? ⟨b, 2, none⟩ = some v2 ∧ W.cell? ⟨b, 3, none⟩ = some v3) (h2 : tmps.getD 2 undef = .pointer (some ⟨b, 0, none⟩)) :
    (results Tryz.f20 tmps).run Tryz.prog W = .ok (.tuple #[.agg #[v0, v1, v2, v3], tmps.getD 3 undef]) W := by
  obtain ⟨p0, p1, p2, p3⟩ := h
  rw [results_cell_tmp rfl, h2]
  go_simp

set_option maxRecDepth 100000 in
set_option maxHeartbeats 8000000 in
theorem one_lt_name (s : ByteArray) (w : World) (r : List UInt8) (c : UInt8) (d : List UInt8) (hl : s.data.toList = 60 :: r) (hs : s.size ≤ 4000) (hn : NoSign s) (hw : wordL r = c :: d) (h : (r.drop (wordL r).length).head? = some 62) (hnum : numL (wordL r) = none) :
    Calls Tryz.prog 20 #[.string s] w (OneTold w s.data.toList) := by
  have htok := lt_some hl (by rw [hw]; simp) h
  rw [hnum] at htok
  simp only at htok
  obtain ⟨_, _, _, h4, h5, h6⟩ := lt_facts hl
  obtain ⟨f1, f2, f3, f4, f5⟩ := name_facts hl hw
  have hwd := fun W => word_ref (s.extract 1 s.size) W (by omega)
  rw [h4, hw] at hwd
  rw [hw] at htok h hnum
  obtain ⟨m, hm⟩ : ∃ m, d.length = m := ⟨_, rfl⟩
  rw [List.length_cons, hm] at hwd htok h
  rw [hm] at f2 f3 f4 f5
  have hi62 : s.data.toList[m + 2]? = some 62 := by
    rw [hl]
    show r[m + 1]? = some 62
    rw [List.head?_drop] at h
    exact h
  have h7 : m + 2 < s.size := by rw [← size_list]; exact (List.getElem?_eq_some_iff.1 hi62).1
  have hsi := fun W => index_run s 0 0 60 rfl (by rw [hl]; rfl) W
  have hs1 := fun W => index_run s 1 1 c rfl f1 W
  have hs2 := fun W => index_run s ((m + 1 : Nat) + 1 : Int) (m + 2) 62 (by omega) hi62 W
  have hsl1 := fun W => slice_ij s 1 ((m + 1 : Nat) + 1 : Int) (by omega) (by omega) (by omega) 1 (m + 2) rfl (by omega) W
  have hsl2 := fun W (_ : 5 ≤ m + 1) => slice_ij s 2 ((m + 1 : Nat) + 1 : Int) (by omega) (by omega) (by omega) 2 (m + 2) rfl (by omega) W
  have hhx := fun W (h : m ≤ 6) => hex_ref (s.extract 2 (m + 2)) W (by omega)
  rw [f2] at hhx
  have HT := Lib.hid htok
  have HE := Lib.hid f4
  have g1 : (1 : Int) ≤ (s.size : Int) := by omega
  obtain ⟨n, hnn⟩ : ∃ n, m + 1 = n := ⟨_, rfl⟩
  rw [hnn] at hs2 hsl1 hsl2 hwd
  have hcase : c ≠ 85 ∨ c = 85 ∧ n < 5 ∨ c = 85 ∧ 7 < n ∨ c = 85 ∧ 5 ≤ n ∧ n ≤ 7 ∧ hexI d = -1 := by
    by_cases hc : c = 85
    · rcases Nat.lt_or_ge n 5 with h1 | h1
      · exact .inr (.inl ⟨hc, h1⟩)
      · rcases Nat.lt_or_ge 7 n with h2 | h2
        · exact .inr (.inr (.inl ⟨hc, h2⟩))
        · refine .inr (.inr (.inr ⟨hc, h1, h2, ?_⟩))
          rw [numL_cons, if_pos ⟨hc, by omega, by omega⟩] at hnum
          unfold hexI
          rw [hnum]
    · exact .inl hc
  have n0 : ((n : Int) == 0) = false := by simp; omega
  have n1 : ¬ (s.size : Int) ≤ (n : Int) + 1 := by omega
  have nb : n ≤ 4000 := by omega
  clear hl hw h hnum htok h4 h5 h6 f1 f2 f3 f4 f5 hi62
  have fin : ∀ W, Below w.heap.size w W → ∀ e, e = .returned (.tuple #[.agg #[.int .u8 5, .string (s.extract 1 (m + 2)), .int .i64 0, .int .i64 0], .int .i64 ((n : Int) + 2)]) → OneTold w s.data.toList e W := fun W hB e he => by
    refine OneTold.some_ HT.out ?_ hB
    rw [he, HE.out, show ((2 + (m + 1) : Nat) : Int) = (n : Int) + 2 by omega]
    rfl
  have FIN := Lib.hid fin
  clear fin
  rcases hcase with hc | ⟨rfl, h1⟩ | ⟨rfl, h1⟩ | ⟨rfl, h1, h2, h3x⟩
  · have e1 : ((c.toNat : Int) == 85) = false := byte_no (n := 85) hc
    clear hhx hsl2 hc
    rcases hn with h3 | ⟨h3, hcmp⟩
    · omega
    ·
      go_enter Tryz.func20, Tryz.ntmps20
      go_wp2_with (go_at_call 33; refine (hwd _).mono ?_; rintro e w' ⟨rfl, rfl⟩)
      refine bodyPost_ret (v := .tuple #[.agg #[.int .u8 5, .string (s.extract 1 (m + 2)), .int .i64 0, .int .i64 0], .int .i64 ((n : Int) + 2)]) ?_ rfl (FIN.out _ (below_new _ _) _ rfl)
      rw [results_cell_tmp rfl]
      go_simp
  · clear hhx hsl2
    have n5 : ¬ (5 : Int) ≤ (n : Int) := by omega
    rcases hn with h3 | ⟨h3, hcmp⟩
    · omega
    ·
      go_enter Tryz.func20, Tryz.ntmps20
      go_wp2_with (go_at_call 33; refine (hwd _).mono ?_; rintro e w' ⟨rfl, rfl⟩)
      refine bodyPost_ret (v := .tuple #[.agg #[.int .u8 5, .string (s.extract 1 (m + 2)), .int .i64 0, .int .i64 0], .int .i64 ((n : Int) + 2)]) ?_ rfl (FIN.out _ (below_new _ _) _ rfl)
      rw [results_cell_tmp rfl]
      go_simp
  · clear hhx hsl2
    have n5 : (5 : Int) ≤ (n : Int) := by omega
    have n7 : ¬ (n : Int) ≤ 7 := by omega
    rcases hn with h3 | ⟨h3, hcmp⟩
    · omega
    ·
      go_enter Tryz.func20, Tryz.ntmps20
      go_wp2_with (go_at_call 33; refine (hwd _).mono ?_; rintro e w' ⟨rfl, rfl⟩)
      refine bodyPost_ret (v := .tuple #[.agg #[.int .u8 5, .string (s.extract 1 (m + 2)), .int .i64 0, .int .i64 0], .int .i64 ((n : Int) + 2)]) ?_ rfl (FIN.out _ (below_new _ _) _ rfl)
      rw [results_cell_tmp rfl]
      go_simp
  · have hhx2 := fun W => hhx W (by omega)
    have hsl3 := fun W => hsl2 W (by omega)
    rw [h3x] at hhx2
    have n5 : (5 : Int) ≤ (n : Int) := by omega
    have n7 : (n : Int) ≤ 7 := by omega
    clear hhx hsl2
    rcases hn with h3 | ⟨h3, hcmp⟩
    · omega
    ·
      go_enter Tryz.func20, Tryz.ntmps20
      go_wp2_with (first | (go_at_call 33; refine (hwd _).mono ?_; rintro e w' ⟨rfl, rfl⟩) | (go_at_call 34; refine (hhx2 _).mono ?_; rintro e w' ⟨rfl, q, rfl⟩))
      change bodyPost _ _ _ _ _ (put4 ((w.alloc _).drewN q) w.heap.size _ _ _ _)
      have hbl : ((w.alloc (.cells #[.int .u8 0, .string ⟨#[]⟩, .int .i64 0, .int .i64 0] 35)).drewN q).heap[w.heap.size]? = some (.cells #[.int .u8 0, .string ⟨#[]⟩, .int .i64 0, .int .i64 0] 35 (0, 0)) := heap_new w _
      obtain ⟨p0, p1, p2, p3⟩ := put4_cells hbl (.int .u8 5) (.string (s.extract 1 (m + 2))) (.int .i64 0) (.int .i64 0)
      have hB := put4_below (b := w.heap.size) (below_drewN0 (below_new w (.cells #[.int .u8 0, .string ⟨#[]⟩, .int .i64 0, .int .i64 0] 35)) q) (Nat.le_refl _) (.int .u8 5) (.string (s.extract 1 (m + 2))) (.int .i64 0) (.int .i64 0)
      generalize put4 ((w.alloc (.cells #[.int .u8 0, .string ⟨#[]⟩, .int .i64 0, .int .i64 0] 35)).drewN q) w.heap.size (.int .u8 5) (.string (s.extract 1 (m + 2))) (.int .i64 0) (.int .i64 0) = W at *
      refine bodyPost_ret (v := .tuple #[.agg #[.int .u8 5, .string (s.extract 1 (m + 2)), .int .i64 0, .int .i64 0], .int .i64 ((n : Int) + 2)]) ?_ rfl (FIN.out _ hB _ rfl)
      rw [results_cell_tmp rfl]
      go_simp

theorem right_ref0 (c : Int) (b : Bool) (h0 : 0 ≤ c) (h : b = decide (c < 55296 ∨ 57343 < c ∧ c ≤ 1114111)) (w : World) : Calls Tryz.prog 35 #[.int .i32 c] w fun e w' => e = .returned (.bool b) ∧ w' = w := by
  have a0 : -256 ≤ c := by omega
  by_cases h3 : c < 55296
  · obtain rfl : b = true := by rw [h]; exact decide_eq_true (by omega)
    clear h
    go_enter Tryz.func35, Tryz.ntmps35
    go_wp2
    all_goals go_ret
    all_goals exact ⟨rfl, rfl⟩
  by_cases h4 : 57343 < c
  · by_cases h2 : c ≤ 1114111
    · obtain rfl : b = true := by rw [h]; exact decide_eq_true (by omega)
      clear h
      go_enter Tryz.func35, Tryz.ntmps35
      go_wp2
      all_goals go_ret
      all_goals exact ⟨rfl, rfl⟩
    · obtain rfl : b = false := by rw [h]; exact decide_eq_false (by omega)
      clear h
      go_enter Tryz.func35, Tryz.ntmps35
      go_wp2
      all_goals go_ret
      all_goals exact ⟨rfl, rfl⟩
  · obtain rfl : b = false := by rw [h]; exact decide_eq_false (by omega)
    clear h
    go_enter Tryz.func35, Tryz.ntmps35
    go_wp2
    all_goals go_ret
    all_goals exact ⟨rfl, rfl⟩
theorem right_ref (n : Nat) (w : World) (b : Bool) (h : rightN n = b) : Calls Tryz.prog 35 #[.int .i32 n] w fun e w' => e = .returned (.bool b) ∧ w' = w :=
  right_ref0 n b (by omega) (by rw [← h]; unfold rightN; rw [decide_eq_decide]; omega) w

set_option maxRecDepth 100000 in
set_option maxHeartbeats 8000000 in
theorem one_lt_num (s : ByteArray) (w : World) (r : List UInt8) (c : UInt8) (d : List UInt8) (v : Nat) (hl : s.data.toList = 60 :: r) (hs : s.size ≤ 4000) (hn : NoSign s) (hw : wordL r = c :: d) (h : (r.drop (wordL r).length).head? = some 62) (hnum : numL (wordL r) = some v) :
    Calls Tryz.prog 20 #[.string s] w (OneTold w s.data.toList) := by
  have htok := lt_some hl (by rw [hw]; simp) h
  rw [hnum] at htok
  simp only at htok
  obtain ⟨_, _, _, h4, h5, h6⟩ := lt_facts hl
  obtain ⟨f1, f2, f3, f4, f5⟩ := name_facts hl hw
  have hwd := fun W => word_ref (s.extract 1 s.size) W (by omega)
  rw [h4, hw] at hwd
  have hv := numL_lt hnum
  rw [hw] at htok h hnum
  obtain ⟨m, hm⟩ : ∃ m, d.length = m := ⟨_, rfl⟩
  rw [List.length_cons, hm] at hwd htok h
  rw [hm] at f2 f3 f4 f5
  have hi62 : s.data.toList[m + 2]? = some 62 := by
    rw [hl]
    show r[m + 1]? = some 62
    rw [List.head?_drop] at h
    exact h
  have h7 : m + 2 < s.size := by rw [← size_list]; exact (List.getElem?_eq_some_iff.1 hi62).1
  rw [numL_cons] at hnum
  have hcnd : c = 85 ∧ 4 ≤ m ∧ m ≤ 6 := by
    by_cases hc : c = 85 ∧ 4 ≤ d.length ∧ d.length ≤ 6
    · rw [hm] at hc; exact hc
    · rw [if_neg hc] at hnum
      cases hnum
  rw [if_pos (by rw [hm]; exact hcnd)] at hnum
  have hxi : hexI d = v := by unfold hexI; rw [hnum]
  obtain ⟨rfl, m4, m6⟩ := hcnd
  have hsi := fun W => index_run s 0 0 60 rfl (by rw [hl]; rfl) W
  have hs1 := fun W => index_run s 1 1 85 rfl f1 W
  have hs2 := fun W => index_run s ((m + 1 : Nat) + 1 : Int) (m + 2) 62 (by omega) hi62 W
  have hsl2 := fun W => slice_ij s 2 ((m + 1 : Nat) + 1 : Int) (by omega) (by omega) (by omega) 2 (m + 2) rfl (by omega) W
  have hhx := fun W => hex_ref (s.extract 2 (m + 2)) W (by omega)
  rw [f2, hxi] at hhx
  have g1 : (1 : Int) ≤ (s.size : Int) := by omega
  obtain ⟨n, hnn⟩ : ∃ n, m + 1 = n := ⟨_, rfl⟩
  rw [hnn] at hs2 hsl2 hwd htok
  have n0 : ((n : Int) == 0) = false := by simp; omega
  have n1 : ¬ (s.size : Int) ≤ (n : Int) + 1 := by omega
  have n5 : (5 : Int) ≤ (n : Int) := by omega
  have n7 : (n : Int) ≤ 7 := by omega
  obtain ⟨b, hb⟩ : ∃ b, rightN v = b := ⟨_, rfl⟩
  have hrt := fun W => right_ref v W b hb
  rw [hb] at htok
  obtain ⟨x, hx⟩ : ∃ x : Int, (v : Int) = x := ⟨_, rfl⟩
  rw [hx] at hhx hrt
  have HX := Lib.hid hx
  have x0 : 0 ≤ x := by omega
  have x1 : x < 16777216 := by omega
  clear hl hw h hnum h4 h5 h6 f1 f2 f3 f4 f5 hi62 hxi hb hv hx
  have h3 : ¬ s.size < 3 := by omega
  cases b with
  | true =>
    rw [if_pos rfl] at htok
    have HT := Lib.hid htok
    clear htok
    rcases hn with h3x | ⟨h3, hcmp⟩
    · exact absurd h3x h3
    · go_enter Tryz.func20, Tryz.ntmps20
      go_wp2_with (first | (go_at_call 33; refine (hwd _).mono ?_; rintro e w' ⟨rfl, rfl⟩) | (go_at_call 34; refine (hhx _).mono ?_; rintro e w' ⟨rfl, q, rfl⟩) | (go_at_call 35; refine (hrt _).mono ?_; rintro e w' ⟨rfl, rfl⟩))
      change bodyPost _ _ _ _ _ (put4 ((w.alloc _).drewN _) w.heap.size _ _ _ _)
      have hbl : ∀ q, ((w.alloc (.cells #[.int .u8 0, .string ⟨#[]⟩, .int .i64 0, .int .i64 0] 35)).drewN q).heap[w.heap.size]? = some (.cells #[.int .u8 0, .string ⟨#[]⟩, .int .i64 0, .int .i64 0] 35 (0, 0)) := fun _ => heap_new w _
      have hp := fun q => put4_cells (hbl q) (.int .u8 3) (.string ⟨#[]⟩) (.int .i64 x) (.int .i64 0)
      have hB := fun q => put4_below (b := w.heap.size) (below_drewN0 (below_new w (.cells #[.int .u8 0, .string ⟨#[]⟩, .int .i64 0, .int .i64 0] 35)) q) (Nat.le_refl _) (.int .u8 3) (.string ⟨#[]⟩) (.int .i64 x) (.int .i64 0)
      exact bodyPost_ret (v := .tuple #[.agg #[.int .u8 3, .string ⟨#[]⟩, .int .i64 x, .int .i64 0], .int .i64 ((n : Int) + 2)]) (res_one (hp _) rfl) rfl (OneTold.some_ HT.out (by rw [HX.out, show ((2 + n : Nat) : Int) = (n : Int) + 2 by omega]; rfl) (hB _))
  | false =>
    rw [if_neg (by decide)] at htok
    have HT := Lib.hid htok
    clear htok
    rcases hn with h3x | ⟨h3, hcmp⟩
    · exact absurd h3x h3
    · go_enter Tryz.func20, Tryz.ntmps20
      go_wp2_with (first | (go_at_call 33; refine (hwd _).mono ?_; rintro e w' ⟨rfl, rfl⟩) | (go_at_call 34; refine (hhx _).mono ?_; rintro e w' ⟨rfl, q, rfl⟩) | (go_at_call 35; refine (hrt _).mono ?_; rintro e w' ⟨rfl, rfl⟩))
      change bodyPost _ _ _ _ _ (put4 ((w.alloc _).drewN _) w.heap.size _ _ _ _)
      have hbl : ∀ q, ((w.alloc (.cells #[.int .u8 0, .string ⟨#[]⟩, .int .i64 0, .int .i64 0] 35)).drewN q).heap[w.heap.size]? = some (.cells #[.int .u8 0, .string ⟨#[]⟩, .int .i64 0, .int .i64 0] 35 (0, 0)) := fun _ => heap_new w _
      have hp := fun q => put4_cells (hbl q) (.int .u8 0) (.string ⟨#[]⟩) (.int .i64 0) (.int .i64 0)
      have hB := fun q => put4_below (b := w.heap.size) (below_drewN0 (below_new w (.cells #[.int .u8 0, .string ⟨#[]⟩, .int .i64 0, .int .i64 0] 35)) q) (Nat.le_refl _) (.int .u8 0) (.string ⟨#[]⟩) (.int .i64 0) (.int .i64 0)
      exact bodyPost_ret (v := .tuple #[.agg #[.int .u8 0, .string ⟨#[]⟩, .int .i64 0, .int .i64 0], .int .i64 0]) (res_one (hp _) rfl) rfl (OneTold.none_ 0 0 _ HT.out rfl (hB _))
end Go.Proofs.YtnifcgiajjmogaaGreatDoor.C
