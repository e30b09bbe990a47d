/-
  The contract of the document's own one: words, names, numbers. No condition.
-/
import Derived.Test.YtnifcgiajjmogaaGreatDoorLyO
namespace Go.Proofs.YtnifcgiajjmogaaGreatDoor.C
open Go.RowKit

theorem byte_no {c : UInt8} {n : Nat} (h : c ≠ UInt8.ofNat n) : ((c.toNat : Int) == (n : Int)) = false := by
  simp
  intro e
  exact h (ba_eq (by omega))

set_option maxRecDepth 100000 in
set_option maxHeartbeats 4000000 in
theorem one_word (s : ByteArray) (w : World) (c : UInt8) (r : List UInt8) (hl : s.data.toList = c :: r) (hs : s.size ≤ 4000) (hn : NoSign s) (hsg : signL s.data.toList = none)
    (c1 : c ≠ 59) (c2 : c ≠ 44) (c3 : c ≠ 40) (c4 : c ≠ 41) (c5 : c ≠ 34) (c6 : c ≠ 60) :
    Calls Tryz.prog 20 #[.string s] w (OneTold w s.data.toList) := by
  have hwd := fun W => word_ref s W hs
  have hsi := fun W => index_run s 0 0 c rfl (by rw [hl]; rfl) W
  have h0 : 0 < s.size := by rw [← size_list, hl]; simp
  have hnm : nameL s.data.toList = [] := by rw [hl, nameL_cons, if_neg (fun h => c6 h.1)]
  have hql : quoL s.data.toList = none := by rw [hl, quoL_cons, if_neg (fun h => c5 h.1)]
  have e1 : ((c.toNat : Int) == 59) = false := byte_no (n := 59) c1
  have e2 : ((c.toNat : Int) == 44) = false := byte_no (n := 44) c2
  have e3 : ((c.toNat : Int) == 40) = false := byte_no (n := 40) c3
  have e4 : ((c.toNat : Int) == 41) = false := byte_no (n := 41) c4
  have e5 : ((c.toNat : Int) == 34) = false := byte_no (n := 34) c5
  have e6 : ((c.toNat : Int) == 60) = false := byte_no (n := 60) c6
  have hlen : (wordL s.data.toList).length ≤ s.size := by
    have := wordL_len s.data.toList
    rwa [size_list] at this
  have hex : s.extract 0 (wordL s.data.toList).length = str (wordL s.data.toList) := by
    have hp := List.takeWhile_prefix (l := s.data.toList) isW
    rw [extract_str, List.drop_zero]
    unfold wordL
    rw [← List.prefix_iff_eq_take.1 hp]
  have htok : tokL s.data.toList = if wordL s.data.toList ≠ [] then some (1, wordL s.data.toList, 0, (wordL s.data.toList).length) else none := by
    unfold tokL
    rw [hsg, hnm, hql]
    simp [numL]
  obtain ⟨a, ha⟩ : ∃ a, wordL s.data.toList = a := ⟨_, rfl⟩
  rw [ha] at hwd hlen hex htok
  obtain ⟨n, hnn⟩ : ∃ n, a.length = n := ⟨_, rfl⟩
  rw [hnn] at hwd hlen hex htok
  have HT : Hid ((n = 0 → tokL s.data.toList = none) ∧ (n ≠ 0 → tokL s.data.toList = some (1, a, 0, n))) := Lib.hid (by
    refine ⟨fun h => ?_, fun h => ?_⟩
    · rw [htok, if_neg]
      simp
      exact List.eq_nil_of_length_eq_zero (hnn.trans h)
    · rw [htok, if_pos]
      intro h2
      rw [h2] at hnn
      exact h hnn.symm)
  have HE := Lib.hid hex
  have n0 : (0 : Int) ≤ (n : Int) := by omega
  have n1 : (n : Int) ≤ (s.size : Int) := by omega
  clear hl hsg hnm hql hex htok hnn ha c1 c2 c3 c4 c5 c6
  rcases hn with h3 | ⟨h3, hcmp⟩
  all_goals
    go_enter Tryz.func20, Tryz.ntmps20
    go_wp2_with (go_at_call 33; refine (hwd _).mono ?_; rintro e w' ⟨rfl, rfl⟩)
    refine bodyPost_ret (v := .tuple #[.agg #[.int .u8 1, .string (s.extract 0 n), .int .i64 0, .int .i64 0], .int .i64 n]) (by rw [results_cell_tmp rfl]; go_simp) rfl ?_
    by_cases hz : n = 0
    · subst hz
      exact OneTold.none_ 1 0 _ (HT.out.1 rfl) rfl (below_new _ _)
    · exact OneTold.some_ (HT.out.2 hz) (by rw [HE.out]; rfl) (below_new _ _)

/-- what stands behind the sign that begins a name -/
theorem lt_facts {s : ByteArray} {r : List UInt8} (hl : s.data.toList = 60 :: r) : signL s.data.toList = none ∧ quoL s.data.toList = none ∧ wordL s.data.toList = [] ∧ (s.extract 1 s.size).data.toList = r ∧ (s.extract 1 s.size).size = r.length ∧ s.size = r.length + 1 := by
  have hz : s.size = r.length + 1 := by rw [← size_list, hl]; rfl
  have he : (s.extract 1 s.size).data.toList = r := by rw [extract_list, ← size_list, List.take_length, hl]; rfl
  refine ⟨?_, ?_, ?_, he, ?_, hz⟩
  · rw [hl, signL_cons, if_neg (by decide), if_neg (fun h => by simp at h)]
  · rw [hl, quoL_cons, if_neg (fun h => by simp at h)]
  · rw [hl]; rfl
  · rw [← size_list, he]
theorem lt_none {s : ByteArray} {r : List UInt8} (hl : s.data.toList = 60 :: r) (h : wordL r = [] ∨ (r.drop (wordL r).length).head? ≠ some 62) : tokL s.data.toList = none := by
  obtain ⟨h1, h2, h3, _⟩ := lt_facts hl
  have hnm : nameL s.data.toList = [] := by
    rw [hl, nameL_cons]
    rcases h with h | h
    · rw [h]
      split <;> rfl
    · rw [if_neg (fun hh => h hh.2)]
  unfold tokL
  rw [h1, hnm, h2, h3]
  simp [numL]
theorem lt_some {s : ByteArray} {r : List UInt8} (hl : s.data.toList = 60 :: r) (h0 : wordL r ≠ []) (h : (r.drop (wordL r).length).head? = some 62) :
    tokL s.data.toList = match numL (wordL r) with
      | some n => if rightN n then some (3, [], n, 2 + (wordL r).length) else none
      | none => some (5, wordL r, 0, 2 + (wordL r).length) := by
  obtain ⟨h1, h2, h3, _⟩ := lt_facts hl
  have hnm : nameL s.data.toList = wordL r := by rw [hl, nameL_cons, if_pos ⟨rfl, h⟩]
  unfold tokL
  rw [h1, hnm]
  cases numL (wordL r) with
  | some n => rfl
  | none => simp [h0]

set_option maxRecDepth 100000 in
set_option maxHeartbeats 4000000 in
theorem one_lt_no (s : ByteArray) (w : World) (r : List UInt8) (hl : s.data.toList = 60 :: r) (hs : s.size ≤ 4000) (hn : NoSign s) (h : wordL r = [] ∨ (r.drop (wordL r).length).head? ≠ some 62) :
    Calls Tryz.prog 20 #[.string s] w (OneTold w s.data.toList) := by
  have HT := Lib.hid (lt_none hl h)
  obtain ⟨_, _, _, h4, h5, h6⟩ := lt_facts hl
  have hwd := fun W => word_ref (s.extract 1 s.size) W (by omega)
  rw [h4] at hwd
  have hsi := fun W => index_run s 0 0 60 rfl (by rw [hl]; rfl) W
  have hwl := wordL_len r
  have g1 : (1 : Int) ≤ (s.size : Int) := by omega
  obtain ⟨n, hnn⟩ : ∃ n, (wordL r).length = n := ⟨_, rfl⟩
  have hcase : n = 0 ∨ n ≠ 0 ∧ s.size ≤ n + 1 ∨ n ≠ 0 ∧ n + 1 < s.size ∧ ∃ c, c ≠ 62 ∧ s.data.toList[n + 1]? = some c := by
    by_cases hz : n = 0
    · exact .inl hz
    · rcases Nat.lt_or_ge (n + 1) s.size with hlt | hlt
      · refine .inr (.inr ⟨hz, hlt, ?_⟩)
        have hrn : n < r.length := by omega
        refine ⟨r[n]'hrn, ?_, by rw [hl]; simp [hrn]⟩
        rcases h with h | h
        · rw [h] at hnn
          exact absurd hnn.symm hz
        · rw [hnn, List.drop_eq_getElem_cons hrn] at h
          intro e
          exact h (by rw [List.head?_cons, e])
      · exact .inr (.inl ⟨hz, hlt⟩)
  rw [hnn] at hwd hwl
  have nb : n ≤ 4000 := by omega
  clear hl h h4 h5 hwl hnn
  rcases hcase with hz | ⟨hz, hlt⟩ | ⟨hz, hlt, c, hc, hci⟩
  · subst hz
    clear h6
    rcases hn with h3 | ⟨h3, hcmp⟩
    all_goals
      go_enter Tryz.func20, Tryz.ntmps20
      go_wp2_with (go_at_call 33; refine (hwd _).mono ?_; rintro e w' ⟨rfl, rfl⟩)
      refine bodyPost_ret (v := .tuple #[.agg #[.int .u8 0, .string ⟨#[]⟩, .int .i64 0, .int .i64 0], .int .i64 0]) ?_ rfl (OneTold.none_ 0 0 _ HT.out rfl (below_new _ _))
      rw [results_cell_tmp rfl]
      go_simp
  · have n0 : ((n : Int) == 0) = false := by simp; omega
    have n1 : (s.size : Int) ≤ (n : Int) + 1 := by omega
    clear h6
    rcases hn with h3 | ⟨h3, hcmp⟩
    all_goals
      go_enter Tryz.func20, Tryz.ntmps20
      go_wp2_with (go_at_call 33; refine (hwd _).mono ?_; rintro e w' ⟨rfl, rfl⟩)
      refine bodyPost_ret (v := .tuple #[.agg #[.int .u8 0, .string ⟨#[]⟩, .int .i64 0, .int .i64 0], .int .i64 0]) ?_ rfl (OneTold.none_ 0 0 _ HT.out rfl (below_new _ _))
      rw [results_cell_tmp rfl]
      go_simp
  · have n0 : ((n : Int) == 0) = false := by simp; omega
    have n1 : ¬ (s.size : Int) ≤ (n : Int) + 1 := by omega
    have hc2 := fun W => index_run s ((n : Int) + 1) (n + 1) c (by omega) hci W
    have e1 : ((c.toNat : Int) != 62) = true := by
      have := byte_no (n := 62) hc
      simpa using this
    clear h6 hci hc
    rcases hn with h3 | ⟨h3, hcmp⟩
    · omega
    ·
      go_enter Tryz.func20, Tryz.ntmps20
      go_wp2_with (go_at_call 33; refine (hwd _).mono ?_; rintro e w' ⟨rfl, rfl⟩)
      refine bodyPost_ret (v := .tuple #[.agg #[.int .u8 0, .string ⟨#[]⟩, .int .i64 0, .int .i64 0], .int .i64 0]) ?_ rfl (OneTold.none_ 0 0 _ HT.out rfl (below_new _ _))
      rw [results_cell_tmp rfl]
      go_simp
end Go.Proofs.YtnifcgiajjmogaaGreatDoor.C
