/-
  The contract of the document's own one: the token that begins a text. No condition.
-/
import Derived.Test.YtnifcgiajjmogaaGreatDoorLyH
import Derived.Laws.ResultCell
namespace Go.Proofs.YtnifcgiajjmogaaGreatDoor.C
open Go.RowKit

def OneTold (w : World) (l : List UInt8) (e : Ending) (w' : World) : Prop :=
  ∃ (kd : Nat) (tx : ByteArray) (n m : Nat), e = .returned (.tuple #[.agg #[.int .u8 kd, .string tx, .int .i64 n, .int .i64 0], .int .i64 m]) ∧ Below w.heap.size w w' ∧
    match tokL l with
    | some (k, t, n', m') => kd = k ∧ tx = str t ∧ n = n' ∧ m = m'
    | none => m = 0
theorem OneTold.some_ {w w' : World} {l : List UInt8} {k n m : Nat} {t : List UInt8} {e : Ending} (h : tokL l = some (k, t, n, m)) (he : e = .returned (.tuple #[.agg #[.int .u8 k, .string (str t), .int .i64 n, .int .i64 0], .int .i64 m])) (hb : Below w.heap.size w w') : OneTold w l e w' :=
  ⟨k, str t, n, m, he, hb, by rw [h]; exact ⟨rfl, rfl, rfl, rfl⟩⟩
theorem OneTold.none_ {w w' : World} {l : List UInt8} (k n : Nat) (t : ByteArray) {e : Ending} (h : tokL l = none) (he : e = .returned (.tuple #[.agg #[.int .u8 k, .string t, .int .i64 n, .int .i64 0], .int .i64 0])) (hb : Below w.heap.size w w') : OneTold w l e w' :=
  ⟨k, t, n, 0, he, hb, by rw [h]⟩
theorem below_new (w : World) (o : Obj) : Below w.heap.size w (w.alloc o) := (Below.refl _ _).alloc (Nat.le_refl _) _
theorem list_cons {s : ByteArray} (h0 : 0 < s.size) : s.data.toList = s[0]'h0 :: s.data.toList.drop 1 := by
  have := drop_ba h0
  simpa using this
theorem index_run (s : ByteArray) (i : Int) (j : Nat) (b : UInt8) (hi : i = j) (hb : s.data.toList[j]? = some b) (W : World) : (Instr.index 9 (.string s) (.int .i64 i)).run Tryz.prog W = .ok (.int .u8 b.toNat) W := by
  have hj : j < s.size := by rw [← size_list]; exact (List.getElem?_eq_some_iff.1 hb).1
  have e : s[j]'hj = b := by
    have h2 : s.data.toList[j]? = some (s[j]'hj) := by
      rw [Array.getElem?_toList]
      exact Array.getElem?_eq_getElem hj
    rw [hb] at h2
    injection h2 with h2
    exact h2.symm
  subst hi
  rw [run_index_string W 9 s .i64 (j : Int) (by kernel_rfl), dif_pos ⟨by omega, by omega⟩, ← e]
  rfl

set_option maxRecDepth 100000 in
set_option maxHeartbeats 4000000 in
theorem one_sign (s : ByteArray) (w : World) (h0 : 0 < s.size) (hs : s.size ≤ 4000) (hc : s[0]'h0 = 59 ∨ s[0]'h0 = 44 ∨ s[0]'h0 = 40 ∨ s[0]'h0 = 41) :
    Calls Tryz.prog 20 #[.string s] w (OneTold w s.data.toList) := by
  have hl := list_cons h0
  have htok : tokL s.data.toList = some (2, [s[0]'h0], 0, 1) := by
    unfold tokL
    rw [hl, signL_cons, if_pos hc]
    rfl
  have hex1 : s.extract 0 1 = str [s[0]'h0] := extract_one h0
  generalize s[0]'h0 = c at *
  have hsi := fun W => index_run s 0 0 c rfl (by rw [hl]; rfl) W
  have HT := Lib.hid htok
  have HE := Lib.hid hex1
  clear htok hl hex1
  rcases hc with rfl | rfl | rfl | rfl
  all_goals
    go_enter Tryz.func20, Tryz.ntmps20
    go_wp2
    refine bodyPost_ret (v := .tuple #[.agg #[.int .u8 2, .string (s.extract 0 1), .int .i64 0, .int .i64 0], .int .i64 1]) ?_ rfl (OneTold.some_ HT.out (by rw [HE.out]; rfl) (below_new _ _))
    rw [results_cell_tmp rfl]
    go_simp

set_option maxRecDepth 100000 in
set_option maxHeartbeats 4000000 in
theorem one_dots (s : ByteArray) (w : World) (h0 : 0 < s.size) (h3 : 3 ≤ s.size) (hs : s.size ≤ 4000) (hd : s.data.toList.take 3 = [46, 46, 46]) :
    Calls Tryz.prog 20 #[.string s] w (OneTold w s.data.toList) := by
  have hl := list_cons h0
  generalize s[0]'h0 = c at *
  have hc : c = 46 := by
    rw [hl] at hd
    simpa using congrArg List.head? hd
  subst hc
  have h2 : (s.data.toList.drop 1).take 2 = [46, 46] := by
    rw [hl] at hd
    simp only [List.take_succ_cons] at hd
    injection hd
  have htok : tokL s.data.toList = some (2, [46, 46, 46], 0, 3) := by
    unfold tokL
    rw [hl, signL_cons, if_neg (by decide), if_pos ⟨rfl, h2⟩]
    rfl
  have hex1 : s.extract 0 3 = str [46, 46, 46] := by rw [extract_str, hd]; rfl
  have hcmp : ((s.extract 0 3).toList == [46, 46, 46]) = true := by rw [ByteArray.toList_eq, hex1]; rfl
  have hsi := fun W => index_run s 0 0 46 rfl (by rw [hl]; rfl) W
  have HT := Lib.hid htok
  have HE := Lib.hid hex1
  clear htok hl hex1 h2 hd
  go_enter Tryz.func20, Tryz.ntmps20
  go_wp2
  refine bodyPost_ret (v := .tuple #[.agg #[.int .u8 2, .string (s.extract 0 3), .int .i64 0, .int .i64 0], .int .i64 3]) ?_ rfl (OneTold.some_ HT.out (by rw [HE.out]; rfl) (below_new _ _))
  rw [results_cell_tmp rfl]
  go_simp

/-- what is no sign -/
def NoSign (s : ByteArray) : Prop := s.size < 3 ∨ 3 ≤ s.size ∧ ((s.extract 0 3).toList == [46, 46, 46]) = false
theorem noSign_of {s : ByteArray} (h : s.data.toList.take 3 ≠ [46, 46, 46]) : NoSign s := by
  rcases Nat.lt_or_ge s.size 3 with h3 | h3
  · exact .inl h3
  · refine .inr ⟨h3, ?_⟩
    rw [ByteArray.toList_eq, extract_list, List.drop_zero]
    simpa using h

set_option maxRecDepth 100000 in
set_option maxHeartbeats 4000000 in
theorem one_quote (s : ByteArray) (w : World) (r : List UInt8) (hl : s.data.toList = 34 :: r) (hs : s.size ≤ 4000) (hn : NoSign s) :
    Calls Tryz.prog 20 #[.string s] w (OneTold w s.data.toList) := by
  have hq := fun W => quoted_ref s r W hl hs
  have hsi := fun W => index_run s 0 0 34 rfl (by rw [hl]; rfl) W
  have hsz : s.size = r.length + 1 := by rw [← size_list, hl]; rfl
  have hsg : signL s.data.toList = none := by rw [hl, signL_cons, if_neg (by decide), if_neg (fun h => by simp at h)]
  have hnm : nameL s.data.toList = [] := by rw [hl, nameL_cons, if_neg (fun h => by simp at h)]
  have hwd : wordL s.data.toList = [] := by rw [hl]; rfl
  cases hql : quoL s.data.toList with
  | none =>
    have htok : tokL s.data.toList = none := by
      unfold tokL
      rw [hsg, hnm, hql, hwd]
      simp [numL]
    have h0 : quoN r = 0 := by unfold quoN; rw [← hl, hql]
    rw [h0] at hq
    have HT := Lib.hid htok
    clear hl hsg hnm hwd hql htok h0
    rcases hn with h3 | ⟨h3, hcmp⟩
    all_goals
      go_enter Tryz.func20, Tryz.ntmps20
      go_wp2_with (go_at_call 32; refine (hq _).mono ?_; rintro e w' ⟨rfl, rfl⟩)
      refine bodyPost_ret (v := .tuple #[.agg #[.int .u8 0, .string ⟨#[]⟩, .int .i64 0, .int .i64 0], .int .i64 0]) ?_ rfl (OneTold.none_ 0 0 _ HT.out rfl (below_new _ _))
      rw [results_cell_tmp rfl]
      go_simp
  | some t =>
    have htok : tokL s.data.toList = some (4, t, 0, 2 + t.length) := by
      unfold tokL
      rw [hsg, hnm, hql]
      simp [numL]
    have h0 : quoN r = t.length + 2 := by unfold quoN; rw [← hl, hql]
    have htl : t.length + 2 ≤ s.size := by
      have := quoL_len hql
      rwa [size_list] at this
    have hex : s.extract 1 (t.length + 1) = str t := by
      have ht : r.takeWhile (· ≠ 34) = t := by
        rw [hl, quoL_cons] at hql
        split at hql
        · injection hql
        · cases hql
      have hp := List.takeWhile_prefix (l := r) (fun x : UInt8 => decide (x ≠ 34))
      rw [ht] at hp
      rw [extract_str, hl, List.take_succ_cons, List.drop_succ_cons, List.drop_zero, ← List.prefix_iff_eq_take.1 hp]
    obtain ⟨n, hnn⟩ : ∃ n, t.length = n := ⟨_, rfl⟩
    rw [hnn] at htok h0 htl hex
    have hq2 : ((quoN r : Nat) : Int) = (n : Int) + 2 := by omega
    rw [hq2] at hq
    have hsl := fun W => slice_ij s 1 ((n : Int) + 2 - 1) (by omega) (by omega) (by omega) 1 (n + 1) rfl (by omega) W
    have n0 : (((n : Int) + 2) == 0) = false := by simp; omega
    have HT := Lib.hid htok
    have HE := Lib.hid hex
    clear hl hsg hnm hwd hql htok h0 hex hnn hq2
    rcases hn with h3 | ⟨h3, hcmp⟩
    all_goals
      go_enter Tryz.func20, Tryz.ntmps20
      go_wp2_with (go_at_call 32; refine (hq _).mono ?_; rintro e w' ⟨rfl, rfl⟩)
      refine bodyPost_ret (v := .tuple #[.agg #[.int .u8 4, .string (s.extract 1 (n + 1)), .int .i64 0, .int .i64 0], .int .i64 ((n : Int) + 2)]) ?_ rfl (OneTold.some_ HT.out (by rw [HE.out, show ((2 + n : Nat) : Int) = (n : Int) + 2 by omega]; rfl) (below_new _ _))
      rw [results_cell_tmp rfl]
      go_simp
end Go.Proofs.YtnifcgiajjmogaaGreatDoor.C
