/-
  Joined: LdQ, MLyA, MLyO, LiB, LiF. Each with what its own head says.
-/
import Derived.Laws.ResultCell
import Derived.Test.YthaibekbefndlaaGreatDoorZ12

namespace Go.Proofs.YthaibekbefndlaaGreatDoor.C
open Go.RowKit

theorem assert_fault (er k : Int) (W : World) : (Instr.typeAssert (.iface 66 (.agg #[.int .u16 er, .int .i64 k])) 20 66 true).run Tryz.prog W = .ok (.tuple #[.agg #[.int .u16 er, .int .i64 k], .bool true]) W := by kernel_rfl
theorem assert_nofault (er : Int) (W : World) : (Instr.typeAssert (.iface 28 (.int .u16 er)) 20 66 true).run Tryz.prog W = .ok (.tuple #[.agg #[.int .u16 0, .int .i64 0], .bool false]) W := by kernel_rfl
theorem assert_errno (er : Int) (W : World) : (Instr.typeAssert (.iface 28 (.int .u16 er)) 20 28 true).run Tryz.prog W = .ok (.tuple #[.int .u16 er, .bool true]) W := by kernel_rfl
set_option maxRecDepth 100000 in
set_option maxHeartbeats 1000000 in
theorem faultOf_fault (w : World) (er k : Int) :
  Calls Tryz.prog 20 #[.iface 66 (.agg #[.int .u16 er, .int .i64 k])] w fun e w' => e = .returned (.agg #[.int .u16 er, .int .i64 k]) ∧ Below w.heap.size w w' := by
 have q0 := assert_fault er k
 go_enter Tryz.func20, Tryz.ntmps20
 go_wp2
 refine bodyPost_ret (v := .agg #[.int .u16 er, .int .i64 k]) (by simp [results, Tryz.results20, go_sem]) rfl ⟨rfl, ?_⟩
 exact ((Below.refl _ _).alloc (Nat.le_refl _) _).alloc (by simp) _
set_option maxRecDepth 100000 in
set_option maxHeartbeats 1000000 in
theorem faultOf_errno (w : World) (er : Int) :
  Calls Tryz.prog 20 #[.iface 28 (.int .u16 er)] w fun e w' => e = .returned (.agg #[.int .u16 er, .int .i64 0]) ∧ Below w.heap.size w w' := by
 have q0 := assert_nofault er
 have q1 := assert_errno er
 go_enter Tryz.func20, Tryz.ntmps20
 go_wp2
 refine bodyPost_ret (v := .agg #[.int .u16 er, .int .i64 0]) (by simp [results, Tryz.results20, go_sem]) rfl ⟨rfl, ?_⟩
 exact (Below.refl _ _).alloc (Nat.le_refl _) _

theorem cell_set_other {W : World} {E g i : Nat} (hne : E ≠ g) (u : Value) : (W.setCell ⟨E, 0, none⟩ u).drew.cell? ⟨g, i, none⟩ = W.cell? ⟨g, i, none⟩ := World.cell?_of_block (Below.heap_setCell W ⟨E, 0, none⟩ u g hne.symm)
set_option maxRecDepth 100000 in
set_option maxHeartbeats 2000000 in
theorem pcatch_of (w : World) (E A : Nat) (older : List PanicEntry) (er k : Nat) (hE : ErrAt w E A) :
  CallsD Tryz.prog 19 #[.pointer (some ⟨E, 0, none⟩), .pointer (some ⟨A, 0, none⟩)] (.panicking ({ v := .iface 66 (.agg #[.int .u16 er, .int .i64 k]), recovered := false } :: older)) w fun e u' w' =>
   e = .returned (.tuple #[]) ∧ u' = .panicking ({ v := .iface 66 (.agg #[.int .u16 er, .int .i64 k]), recovered := true } :: older) ∧ Caught w E A er k w' := by
 obtain ⟨h1, h2, hne⟩ := hE
 have hl1 := (Array.getElem?_eq_some_iff.1 h1).1
 have hl2 := (Array.getElem?_eq_some_iff.1 h2).1
 have hw := fun W => faultOf_fault W er k
 refine callsD_of_wpS Tryz.func19 rfl fun c₀ cs hu => ?_
 apply wpS_seq
 apply wpS_region
 simp [wpOpsS, go_sem, recoverD, hu, Tryz.ntmps19, Exit.thenS]
 simp only [Array.replicate_succ, Array.replicate_zero, List.push_toArray, g1, g2, g3, List.append_toArray, List.nil_append, List.cons_append]
 refine wpS_of_wp ?_
 go_wp2_with fail
 refine (hw _).mono ?_
 rintro e w1 ⟨rfl, hb1⟩
 obtain ⟨W2, hW2⟩ : ∃ W2, W2 = w1.alloc (.cells #[.int .u16 er, .int .i64 k] 66) := ⟨_, rfl⟩
 have hb2 : Below w.heap.size w W2.drew := by rw [hW2]; exact below_drew (hb1.alloc hb1.size _)
 have k1 := (hb2.block E hl1).trans h1
 have k2 := (hb2.block A hl2).trans h2
 have c1 : W2.drew.cell? ⟨E, 0, none⟩ = some (.int .u16 0) := by simp [World.cell?, k1]
 have c2 : W2.drew.cell? ⟨A, 0, none⟩ = some (.int .i64 0) := by simp [World.cell?, k2]
 have f1 : W2.drew.frozen? ⟨E, 0, none⟩ = false := by simp [World.frozen?, k1]
 have f2 : W2.drew.frozen? ⟨A, 0, none⟩ = false := by simp [World.frozen?, k2]
 have hN : Two W2 w1.heap.size 66 (.int .u16 er) (.int .i64 k) := by rw [hW2]; exact Two.new w1 _ _ _
 obtain ⟨c3, c4⟩ := hN.drew.cells
 have hs1 := hb1.size
 have n1 : E ≠ w1.heap.size := by omega
 have n2 : A ≠ w1.heap.size := by omega
 have HB := Lib.hid hb2
 have d4 : (W2.setCell ⟨E, 0, none⟩ (.int .u16 er)).drew.heap[A]? = some (.cells #[.int .i64 0] 3 (0, 0)) := (Below.heap_setCell W2 ⟨E, 0, none⟩ _ A hne.symm).trans k2
 have d3 : (W2.setCell ⟨E, 0, none⟩ (.int .u16 er)).drew.frozen? ⟨A, 0, none⟩ = false := by simp only [World.frozen?, d4]; rfl
 clear k1 k2 h1 h2 hN hb1 hb2 hw d4
 have d2 : (W2.setCell ⟨E, 0, none⟩ (.int .u16 er)).drew.cell? ⟨A, 0, none⟩ = some (.int .i64 0) := (cell_set_other hne _).trans c2
 go_wp2
 rw [← hW2]
 clear hW2
 go_region_held3 (fun W => W.cell? ⟨w1.heap.size, 0, none⟩ = some (.int .u16 er) ∧ W.cell? ⟨w1.heap.size, 1, none⟩ = some (.int .i64 k)) (first | (exact ⟨(cell_set_other n1 _).trans c3, (cell_set_other n1 _).trans c4⟩) | (exact ⟨(cell_set_other n2 _).trans ((cell_set_other n1 _).trans c3), (cell_set_other n2 _).trans ((cell_set_other n1 _).trans c4)⟩) | go_keep) (fail)
 all_goals
  have hC : Caught w E A er k ((W2.setCell ⟨E, 0, none⟩ (.int .u16 er)).setCell ⟨A, 0, none⟩ (.int .i64 k)).drew := ⟨W2.drew, HB.out, rfl⟩
  change bodyPostS _ _ _ _ _ _ _ _ _
  simp [bodyPostS, results, Tryz.results19, hC]
theorem pcatch_idle (w : World) (E A : Nat) :
  CallsD Tryz.prog 19 #[.pointer (some ⟨E, 0, none⟩), .pointer (some ⟨A, 0, none⟩)] .returning w fun e u' w' => e = .returned (.tuple #[]) ∧ u' = .returning ∧ w' = w := by
 refine callsD_of_wpS Tryz.func19 rfl fun c₀ cs hu => ?_
 apply wpS_seq
 apply wpS_region
 simp [wpOpsS, go_sem, recoverD, hu, Tryz.ntmps19, Exit.thenS]
 simp only [Array.replicate_succ, Array.replicate_zero, List.push_toArray, g1, g2, g3, List.append_toArray, List.nil_append, List.cons_append]
 refine wpS_of_wp ?_
 go_wp2
 cases c₀
 simp_all [bodyPostS, results, Tryz.results19]
end Go.Proofs.YthaibekbefndlaaGreatDoor.C

namespace Go.Proofs.YthaibekbefndlaaGreatDoor.C
open Go.RowKit

set_option maxHeartbeats 1000000 in
theorem wordly_any (b : UInt8) (w : World) : Calls Tryz.prog 185 #[.int .u8 b.toNat] w fun e w' => e = .returned (.bool (isW b)) ∧ w' = w := by
 have hlt : b.toNat < 256 := b.toNat_lt
 obtain ⟨n, hn⟩ : ∃ n, b.toNat = n := ⟨_, rfl⟩
 have key : isW b = decide (97 ≤ n ∧ n ≤ 122 ∨ 65 ≤ n ∧ n ≤ 90 ∨ 48 ≤ n ∧ n ≤ 57 ∨ n = 45 ∨ n = 95) := by unfold isW; rw [hn]
 rw [key, hn]
 clear key hn
 have fin : ∀ (x : Bool) (e : Ending), (x = decide (97 ≤ n ∧ n ≤ 122 ∨ 65 ≤ n ∧ n ≤ 90 ∨ 48 ≤ n ∧ n ≤ 57 ∨ n = 45 ∨ n = 95)) → e = .returned (.bool x) → e = .returned (.bool (decide (97 ≤ n ∧ n ≤ 122 ∨ 65 ≤ n ∧ n ≤ 90 ∨ 48 ≤ n ∧ n ≤ 57 ∨ n = 45 ∨ n = 95))) := fun x e h h2 => by rw [h2, h]
 go_enter Tryz.func185, Tryz.ntmps185
 go_wp2
 all_goals go_ret
 all_goals refine ⟨fin _ _ ?_ rfl, rfl⟩
 all_goals first | (rw [eq_comm, decide_eq_true_iff]; omega) | (rw [eq_comm, decide_eq_false_iff_not]; omega) | (rw [Bool.eq_iff_iff]; simp; omega)
theorem wordly_yes (b : UInt8) (w : World) (h : isW b = true) : Calls Tryz.prog 185 #[.int .u8 b.toNat] w fun e w' => e = .returned (.bool true) ∧ w' = w := by
 have := wordly_any b w
 rwa [h] at this
theorem wordly_no (b : UInt8) (w : World) (h : isW b = false) : Calls Tryz.prog 185 #[.int .u8 b.toNat] w fun e w' => e = .returned (.bool false) ∧ w' = w := by
 have := wordly_any b w
 rwa [h] at this
set_option maxHeartbeats 1000000 in
theorem word_ref (s : ByteArray) (w : World) (hs : s.size ≤ 4000) : Calls Tryz.prog 145 #[.string s] w fun e w' => e = .returned (.int .i64 ((wordL s.data.toList).length : Nat)) ∧ w' = w := by
 go_enter Tryz.func145, Tryz.ntmps145
 go_wp2
 go_loop [3] (fun i => ∃ k : Nat, k ≤ s.size ∧ i = .int .i64 k ∧ Hid (wordL s.data.toList = s.data.toList.take k ++ wordL (s.data.toList.drop k))) (fun i => s.size - (intOf i).toNat)
 case atStart => exact ⟨0, Nat.zero_le _, rfl, Lib.hid (by simp)⟩
 case round =>
  obtain ⟨k, hk, rfl, HK⟩ := hrel
  by_cases hlt : k < s.size
  ·have hb : s.data.toList[k]? = some (s[k]'hlt) := by
    rw [Array.getElem?_toList]
    exact Array.getElem?_eq_getElem hlt
   have HB := Lib.hid hb
   clear hb
   by_cases hw : isW (s[k]'hlt) = true
   ·have HW := Lib.hid hw
    go_wp2_with (go_at_call 185; refine (wordly_yes _ _ HW.out).mono ?_; rintro e w' ⟨rfl, rfl⟩)
    go_round
    case rel => exact ⟨k + 1, by omega, by go_num, Lib.hid (word_step HB.out HW.out HK.out)⟩
    case measure => simp [intOf]; omega
   ·have hw' : isW (s[k]'hlt) = false := by simpa using hw
    have HW := Lib.hid hw'
    clear hw hw'
    go_wp2_with (go_at_call 185; refine (wordly_no _ _ HW.out).mono ?_; rintro e w' ⟨rfl, rfl⟩)
    go_ret
    refine ⟨?_, rfl⟩
    rw [word_end HB.out HW.out HK.out, List.length_take, size_list, Nat.min_eq_left hk]
    rfl
  ·obtain rfl : k = s.size := by omega
   go_wp2
   go_ret
   refine ⟨?_, rfl⟩
   have h := HK.out
   rw [← size_list, List.drop_length, List.take_length] at h
   have h2 : wordL s.data.toList = s.data.toList := by simpa [wordL] using h
   rw [h2, size_list]
   rfl

def quoN (r : List UInt8) : Nat := match quoL (34 :: r) with
 | some t => t.length + 2
 | none => 0
theorem while_all {p : UInt8 → Bool} : ∀ a : List UInt8, (∀ x ∈ a, p x = true) → a.takeWhile p = a
 | [], _ => rfl
 | x :: a, h => by
  have hx := h x (by simp)
  have ih := while_all a (fun y hy => h y (by simp [hy]))
  simp [hx, ih]
theorem take_while {p : UInt8 → Bool} : ∀ (a : List UInt8) (b : UInt8) (r : List UInt8), (∀ x ∈ a, p x = true) → p b = false → (a ++ b :: r).takeWhile p = a
 | [], b, r, _, hb => by simp [hb]
 | x :: a, b, r, h, hb => by
  have hx := h x (by simp)
  have ih := take_while a b r (fun y hy => h y (by simp [hy])) hb
  simp [hx, ih]
theorem quo_hit {r : List UInt8} {k : Nat} {b : UInt8} (hb : r[k]? = some b) (h34 : b = 34) (h : ∀ x ∈ r.take k, x ≠ 34 ∧ x ≠ 10) : quoN r = k + 2 := by
 have hk : k < r.length := (List.getElem?_eq_some_iff.1 hb).1
 have hd : r.drop k = b :: r.drop (k + 1) := by
  rw [List.drop_eq_getElem_cons hk]
  congr 1
  exact (List.getElem?_eq_some_iff.1 hb).2
 have e : r = r.take k ++ b :: r.drop (k + 1) := by rw [← hd, List.take_append_drop]
 have ht : r.takeWhile (· ≠ 34) = r.take k := by
  conv => lhs; rw [e]
  exact take_while _ _ _ (fun x hx => decide_eq_true (h x hx).1) (by rw [h34]; rfl)
 have hl : (r.take k).length = k := by rw [List.length_take]; omega
 unfold quoN
 rw [quoL_cons, ht, if_pos ⟨rfl, by omega, fun hm => (h 10 hm).2 rfl⟩]
 show (r.take k).length + 2 = _
 omega
theorem quo_line {r : List UInt8} {k : Nat} {b : UInt8} (hb : r[k]? = some b) (h10 : b = 10) (h : ∀ x ∈ r.take k, x ≠ 34 ∧ x ≠ 10) : quoN r = 0 := by
 have hm : (10 : UInt8) ∈ r.takeWhile (· ≠ 34) := by
  have e : (r.take (k + 1)).takeWhile (· ≠ 34) = r.take (k + 1) := by
   refine while_all _ fun x hx => ?_
   rw [take_snoc hb, List.mem_append] at hx
   rcases hx with hx | hx
   ·exact decide_eq_true (h x hx).1
   ·simp at hx
    rw [hx, h10]
    rfl
  have h2 : (r.take (k + 1)) <+: r.takeWhile (· ≠ 34) := by
   rw [← e]
   conv => rhs; rw [← List.take_append_drop (k + 1) r]
   rw [List.takeWhile_append, e]
   rw [if_pos rfl]
   exact List.prefix_append _ _
  refine h2.subset ?_
  rw [take_snoc hb, h10]
  simp
 unfold quoN
 rw [quoL_cons, if_neg (fun h => h.2.2 hm)]
theorem quo_end {r : List UInt8} (h : ∀ x ∈ r, x ≠ 34 ∧ x ≠ 10) : quoN r = 0 := by
 have e : r.takeWhile (· ≠ 34) = r := by
  exact while_all _ fun x hx => decide_eq_true (h x hx).1
 unfold quoN
 rw [quoL_cons, e, if_neg (fun h => Nat.lt_irrefl _ h.2.1)]
set_option maxHeartbeats 1000000 in
theorem quoted_ref (s : ByteArray) (r : List UInt8) (w : World) (hr : s.data.toList = 34 :: r) (hs : s.size ≤ 4000) : Calls Tryz.prog 144 #[.string s] w fun e w' => e = .returned (.int .i64 (quoN r : Nat)) ∧ w' = w := by
 have hsz : s.size = r.length + 1 := by rw [← size_list, hr]; rfl
 have hat : ∀ i (h : i < s.size), 1 ≤ i → r[i - 1]? = some (s[i]'h) := fun i h h1 => by
  have h2 : s.data.toList[i]? = some (s[i]'h) := by
   rw [Array.getElem?_toList]
   exact Array.getElem?_eq_getElem h
  obtain ⟨j, rfl⟩ : ∃ j, i = j + 1 := ⟨i - 1, by omega⟩
  rw [hr] at h2
  exact h2
 have HA := Lib.hid hat
 clear hr hat
 go_enter Tryz.func144, Tryz.ntmps144
 go_wp2
 go_loop [3] (fun iv => ∃ i : Nat, 1 ≤ i ∧ i ≤ s.size ∧ iv = .int .i64 i ∧ Hid (∀ x ∈ r.take (i - 1), x ≠ 34 ∧ x ≠ 10)) (fun iv => s.size - (intOf iv).toNat)
 case atStart => exact ⟨1, Nat.le_refl _, by omega, rfl, Lib.hid (by simp)⟩
 case round =>
  obtain ⟨i, h1, hi, rfl, HK⟩ := hrel
  by_cases hlt : i < s.size
  ·have hb := HA.out i hlt h1
   have HB := Lib.hid hb
   clear hb
   by_cases h34 : (s[i]'hlt).toNat = 34
   ·have e1 : (((s[i]'hlt).toNat : Int) == 34) = true := by simp; omega
    have hq := quo_hit HB.out (ba_eq h34) HK.out
    have hq2 : ((quoN r : Nat) : Int) = (i : Int) + 1 := by omega
    have HQ := Lib.hid hq2
    clear hq hq2 h34
    go_wp2
    go_ret
    exact ⟨by rw [HQ.out]; rfl, rfl⟩
   ·have e1 : (((s[i]'hlt).toNat : Int) == 34) = false := by simp; omega
    by_cases h10 : (s[i]'hlt).toNat = 10
    ·have e2 : (((s[i]'hlt).toNat : Int) == 10) = true := by simp; omega
     have HQ := Lib.hid (quo_line HB.out (ba_eq h10) HK.out)
     clear h34 h10
     go_wp2
     go_ret
     exact ⟨by rw [HQ.out]; rfl, rfl⟩
    ·have e2 : (((s[i]'hlt).toNat : Int) == 10) = false := by simp; omega
     have hn : ∀ x ∈ r.take (i + 1 - 1), x ≠ 34 ∧ x ≠ 10 := by
      intro x hx
      rw [show i + 1 - 1 = i - 1 + 1 by omega, take_snoc HB.out, List.mem_append] at hx
      rcases hx with hx | hx
      ·exact HK.out x hx
      ·simp at hx
       subst hx
       exact ⟨fun e => h34 (by rw [e]; rfl), fun e => h10 (by rw [e]; rfl)⟩
     have HN := Lib.hid hn
     clear h34 h10 hn
     go_wp2
     go_round
     case rel => exact ⟨i + 1, by omega, by omega, by go_num, HN⟩
     case measure => simp [intOf]; omega
  ·obtain rfl : i = s.size := by omega
   go_wp2
   go_ret
   have h := HK.out
   rw [List.take_of_length_le (by omega)] at h
   exact ⟨by rw [quo_end h]; rfl, rfl⟩

theorem blank_one {l : List UInt8} {k : Nat} {b : UInt8} (hb : l[k]? = some b) (h : b ≠ 10) (hk : l.takeWhile (· ≠ 10) = l.take k ++ (l.drop k).takeWhile (· ≠ 10)) :
  l.takeWhile (· ≠ 10) = l.take (k + 1) ++ (l.drop (k + 1)).takeWhile (· ≠ 10) := by
 have hkl : k < l.length := (List.getElem?_eq_some_iff.1 hb).1
 have e : l.drop k = b :: l.drop (k + 1) := by
  rw [List.drop_eq_getElem_cons hkl]
  congr 1
  exact (List.getElem?_eq_some_iff.1 hb).2
 rw [e, List.takeWhile_cons, if_pos (decide_eq_true h)] at hk
 rw [hk, take_snoc hb]
 simp
theorem blank_stop {l : List UInt8} {k : Nat} (h : l.drop k = [] ∨ l[k]? = some 10) (hkl : k ≤ l.length) (hk : l.takeWhile (· ≠ 10) = l.take k ++ (l.drop k).takeWhile (· ≠ 10)) : (l.takeWhile (· ≠ 10)).length = k := by
 have e : (l.drop k).takeWhile (· ≠ 10) = [] := by
  rcases h with h | h
  ·rw [h]; rfl
  ·have hlt : k < l.length := (List.getElem?_eq_some_iff.1 h).1
   rw [List.drop_eq_getElem_cons hlt, (List.getElem?_eq_some_iff.1 h).2]
   rfl
 rw [hk, e, List.append_nil, List.length_take, Nat.min_eq_left hkl]
set_option maxHeartbeats 1000000 in
theorem blank_ref (s : ByteArray) (w : World) (h0 : 0 < s.size) (hs : s.size ≤ 4000) : Calls Tryz.prog 96 #[.string s] w fun e w' => e = .returned (.int .i64 (blankL s.data.toList : Nat)) ∧ w' = w := by
 have hat : ∀ i (h : i < s.size), s.data.toList[i]? = some (s[i]'h) := fun i h => by
  rw [Array.getElem?_toList]
  exact Array.getElem?_eq_getElem h
 have hl : s.data.toList = s[0]'h0 :: s.data.toList.drop 1 := by
  have := drop_ba h0
  simpa using this
 have hbl : blankL s.data.toList = if (s[0]'h0) = 32 ∨ (s[0]'h0) = 9 then 1 else if (s[0]'h0) = 37 then (s.data.toList.takeWhile (· ≠ 10)).length else 0 := by
  rw [hl, blankL_cons]
  split
  ·rfl
  ·split
   ·rename_i h37
    rw [List.takeWhile_cons, h37]
    simp only [show (decide ((37 : UInt8) ≠ 10)) = true from rfl, if_true, List.length_cons]
    omega
   ·rfl
 have HA := Lib.hid hat
 have HBL := Lib.hid hbl
 clear hat hl hbl
 by_cases h32 : (s[0]'h0).toNat = 32
 ·have e1 : (((s[0]'h0).toNat : Int) == 32) = true := by simp; omega
  have hf : blankL s.data.toList = 1 := by rw [HBL.out, if_pos (.inl (ba_eq h32))]
  have HF := Lib.hid hf
  clear hf h32
  go_enter Tryz.func96, Tryz.ntmps96
  go_wp2
  go_ret
  exact ⟨by rw [HF.out]; rfl, rfl⟩
 have e1 : (((s[0]'h0).toNat : Int) == 32) = false := by simp; omega
 by_cases h9 : (s[0]'h0).toNat = 9
 ·have e2 : (((s[0]'h0).toNat : Int) == 9) = true := by simp; omega
  have hf : blankL s.data.toList = 1 := by rw [HBL.out, if_pos (.inr (ba_eq h9))]
  have HF := Lib.hid hf
  clear hf h32 h9
  go_enter Tryz.func96, Tryz.ntmps96
  go_wp2
  go_ret
  exact ⟨by rw [HF.out]; rfl, rfl⟩
 have e2 : (((s[0]'h0).toNat : Int) == 9) = false := by simp; omega
 have hbl2 : blankL s.data.toList = if (s[0]'h0) = 37 then (s.data.toList.takeWhile (· ≠ 10)).length else 0 := by
  rw [HBL.out, if_neg]
  rintro (h | h)
  ·exact h32 (by rw [h]; rfl)
  ·exact h9 (by rw [h]; rfl)
 by_cases h37 : (s[0]'h0).toNat = 37
 ·have e3 : (((s[0]'h0).toNat : Int) == 37) = true := by simp; omega
  rw [if_pos (show (s[0]'h0) = 37 from ba_eq h37)] at hbl2
  have HF := Lib.hid hbl2
  clear hbl2 h32 h9 h37 HBL
  go_enter Tryz.func96, Tryz.ntmps96
  go_wp2
  go_loop [3] (fun iv => ∃ i : Nat, i ≤ s.size ∧ iv = .int .i64 i ∧ Hid (s.data.toList.takeWhile (· ≠ 10) = s.data.toList.take i ++ (s.data.toList.drop i).takeWhile (· ≠ 10))) (fun iv => s.size - (intOf iv).toNat)
  case atStart => exact ⟨0, Nat.zero_le _, rfl, Lib.hid (by simp)⟩
  case round =>
   obtain ⟨i, hi, rfl, HK⟩ := hrel
   by_cases hlt : i < s.size
   ·have HB := Lib.hid (HA.out i hlt)
    by_cases h10 : (s[i]'hlt).toNat = 10
    ·have e4 : (((s[i]'hlt).toNat : Int) != 10) = false := by simp; omega
     have hq := blank_stop (.inr (by rw [HB.out, ba_eq h10]; rfl)) (by rw [size_list]; omega) HK.out
     rw [← HF.out] at hq
     have HQ := Lib.hid hq
     clear hq h10
     go_wp2
     go_ret
     exact ⟨by rw [HQ.out]; rfl, rfl⟩
    ·have e4 : (((s[i]'hlt).toNat : Int) != 10) = true := by simp; omega
     have HN := Lib.hid (blank_one HB.out (fun e => h10 (by rw [e]; rfl)) HK.out)
     clear h10
     go_wp2
     go_round
     case rel => exact ⟨i + 1, by omega, by go_num, HN⟩
     case measure => simp [intOf]; omega
   ·obtain rfl : i = s.size := by omega
    have hq := blank_stop (.inl (by rw [← size_list, List.drop_length])) (by rw [size_list]; omega) HK.out
    rw [← HF.out] at hq
    have HQ := Lib.hid hq
    clear hq
    go_wp2
    go_ret
    exact ⟨by rw [HQ.out]; rfl, rfl⟩
 ·have e3 : (((s[0]'h0).toNat : Int) == 37) = false := by simp; omega
  rw [if_neg (fun h => h37 (by rw [h]; rfl))] at hbl2
  have HF := Lib.hid hbl2
  clear hbl2 h32 h9 h37 HBL
  go_enter Tryz.func96, Tryz.ntmps96
  go_wp2
  go_loop [3] (fun iv => iv = .int .i64 0) (fun _ => 0)
  case atStart => rfl
  case round =>
   obtain rfl := hrel
   go_wp2
   go_ret
   exact ⟨by rw [HF.out]; rfl, rfl⟩
end Go.Proofs.YthaibekbefndlaaGreatDoor.C

namespace Go.Proofs.YthaibekbefndlaaGreatDoor.C
open Go.RowKit

def OneTold (w : World) (l : List UInt8) (e : Ending) (w' : World) : Prop :=
 ∃ (kd : Nat) (tx : ByteArray) (n m : Nat), e = .returned (.tuple #[.agg #[.int .u8 kd, .string tx, .int .i64 n, .int .i64 0], .int .i64 m]) ∧ Below w.heap.size w w' ∧
  match tokL l with
  | some (k, t, n', m') => kd = k ∧ tx = str t ∧ n = n' ∧ m = m'
  | none => m = 0
theorem OneTold.some_ {w w' : World} {l : List UInt8} {k n m : Nat} {t : List UInt8} {e : Ending} (h : tokL l = some (k, t, n, m)) (he : e = .returned (.tuple #[.agg #[.int .u8 k, .string (str t), .int .i64 n, .int .i64 0], .int .i64 m])) (hb : Below w.heap.size w w') : OneTold w l e w' :=
 ⟨k, str t, n, m, he, hb, by rw [h]; exact ⟨rfl, rfl, rfl, rfl⟩⟩
theorem OneTold.none_ {w w' : World} {l : List UInt8} (k n : Nat) (t : ByteArray) {e : Ending} (h : tokL l = none) (he : e = .returned (.tuple #[.agg #[.int .u8 k, .string t, .int .i64 n, .int .i64 0], .int .i64 0])) (hb : Below w.heap.size w w') : OneTold w l e w' :=
 ⟨k, t, n, 0, he, hb, by rw [h]⟩
theorem below_new (w : World) (o : Obj) : Below w.heap.size w (w.alloc o) := (Below.refl _ _).alloc (Nat.le_refl _) _
theorem list_cons {s : ByteArray} (h0 : 0 < s.size) : s.data.toList = s[0]'h0 :: s.data.toList.drop 1 := by
 have := drop_ba h0
 simpa using this
theorem index_run (s : ByteArray) (i : Int) (j : Nat) (b : UInt8) (hi : i = j) (hb : s.data.toList[j]? = some b) (W : World) : (Instr.index 9 (.string s) (.int .i64 i)).run Tryz.prog W = .ok (.int .u8 b.toNat) W := by
 have hj : j < s.size := by rw [← size_list]; exact (List.getElem?_eq_some_iff.1 hb).1
 have e : s[j]'hj = b := by
  have h2 : s.data.toList[j]? = some (s[j]'hj) := by
   rw [Array.getElem?_toList]
   exact Array.getElem?_eq_getElem hj
  rw [hb] at h2
  injection h2 with h2
  exact h2.symm
 subst hi
 rw [run_index_string W 9 s .i64 (j : Int) (by kernel_rfl), dif_pos ⟨by omega, by omega⟩, ← e]
 rfl

set_option maxRecDepth 100000 in
set_option maxHeartbeats 4000000 in
theorem one_sign (s : ByteArray) (w : World) (h0 : 0 < s.size) (hs : s.size ≤ 4000) (hc : s[0]'h0 = 59 ∨ s[0]'h0 = 44 ∨ s[0]'h0 = 40 ∨ s[0]'h0 = 41) :
  Calls Tryz.prog 97 #[.string s] w (OneTold w s.data.toList) := by
 have hl := list_cons h0
 have htok : tokL s.data.toList = some (2, [s[0]'h0], 0, 1) := by
  unfold tokL
  rw [hl, signL_cons, if_pos hc]
  rfl
 have hex1 : s.extract 0 1 = str [s[0]'h0] := extract_one h0
 generalize s[0]'h0 = c at *
 have hsi := fun W => index_run s 0 0 c rfl (by rw [hl]; rfl) W
 have HT := Lib.hid htok
 have HE := Lib.hid hex1
 clear htok hl hex1
 rcases hc with rfl | rfl | rfl | rfl
 all_goals
  go_enter Tryz.func97, Tryz.ntmps97
  go_wp2
  refine bodyPost_ret (v := .tuple #[.agg #[.int .u8 2, .string (s.extract 0 1), .int .i64 0, .int .i64 0], .int .i64 1]) ?_ rfl (OneTold.some_ HT.out (by rw [HE.out]; rfl) (below_new _ _))
  rw [results_cell_tmp rfl]
  go_simp

set_option maxRecDepth 100000 in
set_option maxHeartbeats 4000000 in
theorem one_dots (s : ByteArray) (w : World) (h0 : 0 < s.size) (h3 : 3 ≤ s.size) (hs : s.size ≤ 4000) (hd : s.data.toList.take 3 = [46, 46, 46]) :
  Calls Tryz.prog 97 #[.string s] w (OneTold w s.data.toList) := by
 have hl := list_cons h0
 generalize s[0]'h0 = c at *
 have hc : c = 46 := by
  rw [hl] at hd
  simpa using congrArg List.head? hd
 subst hc
 have h2 : (s.data.toList.drop 1).take 2 = [46, 46] := by
  rw [hl] at hd
  simp only [List.take_succ_cons] at hd
  injection hd
 have htok : tokL s.data.toList = some (2, [46, 46, 46], 0, 3) := by
  unfold tokL
  rw [hl, signL_cons, if_neg (by decide), if_pos ⟨rfl, h2⟩]
  rfl
 have hex1 : s.extract 0 3 = str [46, 46, 46] := by rw [extract_str, hd]; rfl
 have hcmp : ((s.extract 0 3).toList == [46, 46, 46]) = true := by rw [ByteArray.toList_eq, hex1]; rfl
 have hsi := fun W => index_run s 0 0 46 rfl (by rw [hl]; rfl) W
 have HT := Lib.hid htok
 have HE := Lib.hid hex1
 clear htok hl hex1 h2 hd
 go_enter Tryz.func97, Tryz.ntmps97
 go_wp2
 refine bodyPost_ret (v := .tuple #[.agg #[.int .u8 2, .string (s.extract 0 3), .int .i64 0, .int .i64 0], .int .i64 3]) ?_ rfl (OneTold.some_ HT.out (by rw [HE.out]; rfl) (below_new _ _))
 rw [results_cell_tmp rfl]
 go_simp

def NoSign (s : ByteArray) : Prop := s.size < 3 ∨ 3 ≤ s.size ∧ ((s.extract 0 3).toList == [46, 46, 46]) = false
theorem noSign_of {s : ByteArray} (h : s.data.toList.take 3 ≠ [46, 46, 46]) : NoSign s := by
 rcases Nat.lt_or_ge s.size 3 with h3 | h3
 ·exact .inl h3
 ·refine .inr ⟨h3, ?_⟩
  rw [ByteArray.toList_eq, extract_list, List.drop_zero]
  simpa using h

set_option maxRecDepth 100000 in
set_option maxHeartbeats 4000000 in
theorem one_quote (s : ByteArray) (w : World) (r : List UInt8) (hl : s.data.toList = 34 :: r) (hs : s.size ≤ 4000) (hn : NoSign s) :
  Calls Tryz.prog 97 #[.string s] w (OneTold w s.data.toList) := by
 have hq := fun W => quoted_ref s r W hl hs
 have hsi := fun W => index_run s 0 0 34 rfl (by rw [hl]; rfl) W
 have hsz : s.size = r.length + 1 := by rw [← size_list, hl]; rfl
 have hsg : signL s.data.toList = none := by rw [hl, signL_cons, if_neg (by decide), if_neg (fun h => by simp at h)]
 have hnm : nameL s.data.toList = [] := by rw [hl, nameL_cons, if_neg (fun h => by simp at h)]
 have hwd : wordL s.data.toList = [] := by rw [hl]; rfl
 cases hql : quoL s.data.toList with
 | none =>
  have htok : tokL s.data.toList = none := by
   unfold tokL
   rw [hsg, hnm, hql, hwd]
   simp [numL]
  have h0 : quoN r = 0 := by unfold quoN; rw [← hl, hql]
  rw [h0] at hq
  have HT := Lib.hid htok
  clear hl hsg hnm hwd hql htok h0
  rcases hn with h3 | ⟨h3, hcmp⟩
  all_goals
   go_enter Tryz.func97, Tryz.ntmps97
   go_wp2_with (go_at_call 144; refine (hq _).mono ?_; rintro e w' ⟨rfl, rfl⟩)
   refine bodyPost_ret (v := .tuple #[.agg #[.int .u8 0, .string ⟨#[]⟩, .int .i64 0, .int .i64 0], .int .i64 0]) ?_ rfl (OneTold.none_ 0 0 _ HT.out rfl (below_new _ _))
   rw [results_cell_tmp rfl]
   go_simp
 | some t =>
  have htok : tokL s.data.toList = some (4, t, 0, 2 + t.length) := by
   unfold tokL
   rw [hsg, hnm, hql]
   simp [numL]
  have h0 : quoN r = t.length + 2 := by unfold quoN; rw [← hl, hql]
  have htl : t.length + 2 ≤ s.size := by
   have := quoL_len hql
   rwa [size_list] at this
  have hex : s.extract 1 (t.length + 1) = str t := by
   have ht : r.takeWhile (· ≠ 34) = t := by
    rw [hl, quoL_cons] at hql
    split at hql
    ·injection hql
    ·cases hql
   have hp := List.takeWhile_prefix (l := r) (fun x : UInt8 => decide (x ≠ 34))
   rw [ht] at hp
   rw [extract_str, hl, List.take_succ_cons, List.drop_succ_cons, List.drop_zero, ← List.prefix_iff_eq_take.1 hp]
  obtain ⟨n, hnn⟩ : ∃ n, t.length = n := ⟨_, rfl⟩
  rw [hnn] at htok h0 htl hex
  have hq2 : ((quoN r : Nat) : Int) = (n : Int) + 2 := by omega
  rw [hq2] at hq
  have hsl := fun W => slice_ij s 1 ((n : Int) + 2 - 1) (by omega) (by omega) (by omega) 1 (n + 1) rfl (by omega) W
  have n0 : (((n : Int) + 2) == 0) = false := by simp; omega
  have HT := Lib.hid htok
  have HE := Lib.hid hex
  clear hl hsg hnm hwd hql htok h0 hex hnn hq2
  rcases hn with h3 | ⟨h3, hcmp⟩
  all_goals
   go_enter Tryz.func97, Tryz.ntmps97
   go_wp2_with (go_at_call 144; refine (hq _).mono ?_; rintro e w' ⟨rfl, rfl⟩)
   refine bodyPost_ret (v := .tuple #[.agg #[.int .u8 4, .string (s.extract 1 (n + 1)), .int .i64 0, .int .i64 0], .int .i64 ((n : Int) + 2)]) ?_ rfl (OneTold.some_ HT.out (by rw [HE.out, show ((2 + n : Nat) : Int) = (n : Int) + 2 by omega]; rfl) (below_new _ _))
   rw [results_cell_tmp rfl]
   go_simp
end Go.Proofs.YthaibekbefndlaaGreatDoor.C

namespace Go.Proofs.YthaibekbefndlaaGreatDoor.C
open Go.RowKit

theorem at_byte {s : ByteArray} {k : Nat} (h : k < s.size) : s.data.toList[k]? = some (s[k]'h) := by
  rw [Array.getElem?_toList]
  exact Array.getElem?_eq_getElem h
theorem all_next {α : Type} {p : α → Bool} {l : List α} {k : Nat} {x : α} (h : l[k]? = some x) (hk : (l.take k).all p = true) (hx : p x = true) : (l.take (k + 1)).all p = true := by
  rw [take_snoc h, List.all_append, hk, List.all_cons, hx]
  rfl
theorem all_fails {α : Type} {p : α → Bool} {l : List α} {k : Nat} {x : α} (h : l[k]? = some x) (hx : p x = false) : l.all p = false := by
  rw [List.all_eq_false]
  exact ⟨x, List.mem_of_getElem? h, by rw [hx]; exact Bool.false_ne_true⟩
set_option maxRecDepth 100000 in
set_option maxHeartbeats 2000000 in
theorem wordly07_any (s : ByteArray) (w : World) (hs : s.size ≤ maxLen) : Calls Tryz.prog 49 #[.string s] w fun e w' => e = .returned (.bool (wordlyB s.data.toList)) ∧ w' = w := by
  unfold maxLen at hs
  go_enter Tryz.func49, Tryz.ntmps49
  go_wp2
  go_loop [3] (fun i => ∃ k : Nat, k ≤ s.size ∧ i = .int .i64 k ∧ Hid ((s.data.toList.take k).all isW = true)) (fun i => s.size - (intOf i).toNat)
  case atStart => exact ⟨0, Nat.zero_le _, rfl, Lib.hid (by simp)⟩
  case round =>
    obtain ⟨k, hk, rfl, HK⟩ := hrel
    by_cases hlt : k < s.size
    · have HB := Lib.hid (at_byte hlt)
      have HF : Hid (isW (s[k]'hlt) = false → wordlyB s.data.toList = false) := Lib.hid (fun h => by unfold wordlyB; rw [all_fails HB.out h, Bool.and_false])
      go_wp2
      all_goals first
        | (go_ret
           refine ⟨?_, rfl⟩
           rw [HF.out (by unfold isW; simp only [decide_eq_false_iff_not]; (first | omega | (simp only [bne_iff_ne, ne_eq] at *; omega) | (simp only [bne_eq_false_iff_eq] at *; omega) | (simp at *; omega)))]
           rfl)
        | (go_round
           case rel => exact ⟨k + 1, by omega, by go_num, Lib.hid (all_next HB.out HK.out (by unfold isW; simp only [decide_eq_true_eq]; (first | omega | (simp only [bne_eq_false_iff_eq] at *; omega) | (simp at *; omega))))⟩
           case measure => simp [intOf]; omega)
    · obtain rfl : k = s.size := by omega
      have ha := HK.out
      rw [List.take_of_length_le (by rw [size_list]; exact Nat.le_refl _)] at ha
      have HA := Lib.hid ha
      clear ha
      by_cases h0 : s.size = 0
      · have hse : s = ⟨#[]⟩ := by
          have h1 : s.data.toList = [] := List.eq_nil_of_length_eq_zero (by rw [size_list]; exact h0)
          obtain ⟨⟨l⟩⟩ := s
          simp at h1
          subst h1
          rfl
        subst hse
        go_wp2
        go_ret
        exact ⟨rfl, rfl⟩
      · have hne : s.toList.isEmpty = false := by
          rw [Lib.toList_data]
          cases hl : s.data.toList with
          | nil => exact absurd (by rw [← size_list, hl]; rfl) h0
          | cons a r => rfl
        have hwd : wordlyB s.data.toList = true := by
          unfold wordlyB
          rw [HA.out, Bool.and_true]
          cases hl : s.data.toList with
          | nil => exact absurd (by rw [← size_list, hl]; rfl) h0
          | cons a r => rfl
        have HW := Lib.hid hwd
        clear hwd h0
        go_wp2
        go_ret
        exact ⟨by rw [HW.out]; rfl, rfl⟩
theorem wordly07_is (nm : List UInt8) (w : World) (hs : nm.length ≤ maxLen) {b : Bool} (h : wordlyB nm = b) : Calls Tryz.prog 49 #[.string (str nm)] w fun e w' => e = .returned (.bool b) ∧ w' = w := by
  subst h
  exact wordly07_any (str nm) w (by rw [str_size]; exact hs)
set_option maxRecDepth 100000 in
set_option maxHeartbeats 1000000 in
theorem scalar07_any (c : Int) (w : World) : Calls Tryz.prog 50 #[.int .i32 c] w fun e w' => e = .returned (.bool (scalB c)) ∧ w' = w := by
  have hr := refRight_any c w
  by_cases h0 : 0 ≤ c
  · have hb : scalB c = rightB c := by unfold scalB; rw [decide_eq_true h0, Bool.true_and]
    rw [hb]
    generalize rightB c = b at hr
    go_enter Tryz.func50, Tryz.ntmps50
    go_wp2_with fail
    with_reducible refine hr.mono ?_
    rintro e w' ⟨rfl, rfl⟩
    go_wp2
    go_ret
    exact ⟨rfl, rfl⟩
  · have hb : scalB c = false := by unfold scalB; rw [decide_eq_false h0, Bool.false_and]
    rw [hb]
    clear hr hb
    go_enter Tryz.func50, Tryz.ntmps50
    go_wp2
    go_ret
    exact ⟨rfl, rfl⟩
theorem scalar07_is (c : Int) (w : World) {b : Bool} (h : scalB c = b) : Calls Tryz.prog 50 #[.int .i32 c] w fun e w' => e = .returned (.bool b) ∧ w' = w := by
  subst h
  exact scalar07_any c w
theorem hexN_some : ∀ (d : List UInt8) (v : Nat), (hexN d v).isSome = d.all fun b => (digV b).isSome
  | [], _ => rfl
  | b :: r, v => by
    rw [List.all_cons]
    unfold hexN
    cases h : digV b with
    | none => rfl
    | some x => simp only [Option.isSome_some, Bool.true_and]; exact hexN_some r _
theorem numL_parts {c : UInt8} {d : List UInt8} : (numL (c :: d)).isSome = (decide (c = 85 ∧ 4 ≤ d.length ∧ d.length ≤ 6) && d.all fun b => (digV b).isSome) := by
  rw [numL_cons]
  by_cases h : c = 85 ∧ 4 ≤ d.length ∧ d.length ≤ 6
  · rw [if_pos h, decide_eq_true h, Bool.true_and, hexN_some]
  · rw [if_neg h, decide_eq_false h, Bool.false_and]
    rfl
theorem digV_yes {b : UInt8} (h : 48 ≤ b.toNat ∧ b.toNat ≤ 57 ∨ 97 ≤ b.toNat ∧ b.toNat ≤ 102 ∨ 65 ≤ b.toNat ∧ b.toNat ≤ 70) : (digV b).isSome = true := by
  unfold digV
  repeat' split
  all_goals first | rfl | (exfalso; omega)
theorem digV_no {b : UInt8} (h : ¬ (48 ≤ b.toNat ∧ b.toNat ≤ 57 ∨ 97 ≤ b.toNat ∧ b.toNat ≤ 102 ∨ 65 ≤ b.toNat ∧ b.toNat ≤ 70)) : (digV b).isSome = false := by
  unfold digV
  repeat' split
  all_goals first | rfl | (exfalso; omega)
set_option maxRecDepth 100000 in
set_option maxHeartbeats 2000000 in
theorem digits07_any (s : ByteArray) (w : World) : Calls Tryz.prog 147 #[.string s] w fun e w' => e = .returned (.bool (numL s.data.toList).isSome) ∧ w' = w := by
  by_cases h5 : s.size < 5 ∨ 7 < s.size
  · have hf : (numL s.data.toList).isSome = false := by
      cases hl : s.data.toList with
      | nil => rfl
      | cons c d =>
        have hsz : d.length + 1 = s.size := by rw [← size_list, hl]; rfl
        rw [numL_parts, decide_eq_false (by omega), Bool.false_and]
    rw [hf]
    clear hf
    go_enter Tryz.func147, Tryz.ntmps147
    rcases h5 with h5 | h5
    · have e1 : (s.size : Int) < 5 := by omega
      clear h5
      go_wp2
      go_ret
      exact ⟨rfl, rfl⟩
    · have e1 : ¬ (s.size : Int) < 5 := by omega
      have e2 : (7 : Int) < (s.size : Int) := by omega
      clear h5
      go_wp2
      go_ret
      exact ⟨rfl, rfl⟩
  · have hs0 : 0 < s.size := by omega
    have hl := list_cons hs0
    have hd : (s.data.toList.drop 1).length + 1 = s.size := by rw [List.length_drop, size_list]; omega
    have hp : (numL s.data.toList).isSome = (decide ((s[0]'hs0) = 85) && (s.data.toList.drop 1).all fun b => (digV b).isSome) := by
      rw [hl, numL_parts]
      simp only [List.drop_succ_cons, List.drop_zero]
      by_cases h85 : (s[0]'hs0) = 85
      · rw [decide_eq_true (show (s[0]'hs0) = 85 ∧ 4 ≤ (s.data.toList.drop 1).length ∧ (s.data.toList.drop 1).length ≤ 6 from ⟨h85, by omega, by omega⟩), decide_eq_true h85]
      · rw [decide_eq_false (fun h => h85 h.1), decide_eq_false h85]
    have e1 : ¬ (s.size : Int) < 5 := by omega
    have e2 : ¬ (7 : Int) < (s.size : Int) := by omega
    by_cases h85 : (s[0]'hs0).toNat = 85
    · rw [decide_eq_true (show (s[0]'hs0) = 85 from ba_eq h85), Bool.true_and] at hp
      have e3 : (((s[0]'hs0).toNat : Int) == 85) = true := by simp; omega
      obtain ⟨r, hr⟩ : ∃ r, r = ((s.data.toList.drop 1).all fun b => (digV b).isSome) := ⟨_, rfl⟩
      rw [hp, ← hr]
      have HD := Lib.hid hd
      have HR := Lib.hid hr
      clear hp hl hd h85 hr
      go_enter Tryz.func147, Tryz.ntmps147
      go_wp2
      clear e1 e2 e3
      go_loop [3] (fun i => ∃ k : Nat, 1 ≤ k ∧ k ≤ s.size ∧ i = .int .i64 k ∧ Hid (((s.data.toList.drop 1).take (k - 1)).all (fun b => (digV b).isSome) = true)) (fun i => s.size - (intOf i).toNat)
      case atStart => exact ⟨1, Nat.le_refl _, by omega, rfl, Lib.hid (by simp)⟩
      case round =>
        obtain ⟨k, h1, hk, rfl, HK⟩ := hrel
        by_cases hlt : k < s.size
        · have hb : (s.data.toList.drop 1)[k - 1]? = some (s[k]'hlt) := by
            rw [List.getElem?_drop, show 1 + (k - 1) = k by omega]
            exact at_byte hlt
          have HB := Lib.hid hb
          clear hb
          have HF : Hid ((digV (s[k]'hlt)).isSome = false → ((s.data.toList.drop 1).all fun b => (digV b).isSome) = false) := Lib.hid (fun h => all_fails HB.out h)
          have HE : Hid (k + 1 - 1 = k - 1 + 1) := Lib.hid (by omega)
          go_wp2
          all_goals first
            | (go_ret
               refine ⟨?_, rfl⟩
               rw [HR.out, HF.out (digV_no (by first | omega | (simp only [bne_iff_ne, ne_eq] at *; omega) | (simp only [bne_eq_false_iff_eq] at *; omega) | (simp at *; omega)))]
               rfl)
            | (go_round
               case rel => exact ⟨k + 1, by omega, by omega, by go_num, Lib.hid (by rw [HE.out]; exact all_next HB.out HK.out (digV_yes (by first | omega | (simp only [bne_iff_ne, ne_eq] at *; omega) | (simp only [bne_eq_false_iff_eq] at *; omega) | (simp at *; omega))))⟩
               case measure => simp [intOf]; omega)
        · obtain rfl : k = s.size := by omega
          have ha := HK.out
          rw [List.take_of_length_le (by have := HD.out; omega)] at ha
          have HA := Lib.hid ha
          clear ha
          go_wp2
          go_ret
          exact ⟨by rw [HR.out, HA.out]; rfl, rfl⟩
    · rw [decide_eq_false (show ¬ (s[0]'hs0) = 85 from fun h => h85 (by rw [h]; rfl)), Bool.false_and] at hp
      have e3 : (((s[0]'hs0).toNat : Int) == 85) = false := by simp; omega
      rw [hp]
      clear hp hl hd h85
      go_enter Tryz.func147, Tryz.ntmps147
      go_wp2
      go_ret
      exact ⟨rfl, rfl⟩
theorem digits07_is (nm : List UInt8) (w : World) {b : Bool} (h : (numL nm).isSome = b) : Calls Tryz.prog 147 #[.string (str nm)] w fun e w' => e = .returned (.bool b) ∧ w' = w := by
  subst h
  exact digits07_any (str nm) w
end Go.Proofs.YthaibekbefndlaaGreatDoor.C

namespace Go.Proofs.YthaibekbefndlaaGreatDoor.C
open Go.RowKit

def gr : Nat → List UInt8 → Nat → List UInt8
 | 0, S, _ => S
 | m + 1, S, y => if 0 < y ∨ S.length < 4 then gr m (upD (y % 16) :: S) (y / 16) else S
theorem gr_more {m y : Nat} {S : List UInt8} (h : 0 < y ∨ S.length < 4) : gr (m + 1) S y = gr m (upD (y % 16) :: S) (y / 16) := if_pos h
theorem gr_done {m y : Nat} {S : List UInt8} (h : ¬ (0 < y ∨ S.length < 4)) : gr (m + 1) S y = S := if_neg h
theorem upD_dig (x : Nat) (h : x < 16) : Lib.upperB (dig x) = upD x := by
 have : ∀ x : Fin 16, Lib.upperB (dig x.val) = upD x.val := by decide +kernel
 exact this ⟨x, h⟩
theorem gr_zero : ∀ (k : Nat) (T : List UInt8), 4 - T.length ≤ k → gr k T 0 = List.replicate (4 - T.length) 48 ++ T
 | 0, T, h => by
  rw [show 4 - T.length = 0 by omega]
  rfl
 | k + 1, T, h => by
  by_cases h4 : T.length < 4
  ·rw [gr_more (.inr h4), show (0 : Nat) % 16 = 0 from rfl, show (0 : Nat) / 16 = 0 from rfl, gr_zero k _ (by rw [List.length_cons]; omega), List.length_cons, show 4 - T.length = (4 - (T.length + 1)) + 1 by omega, List.replicate_succ']
   rw [show upD 0 = 48 from rfl]
   simp
  ·rw [gr_done (by omega), show 4 - T.length = 0 by omega]
   rfl
theorem gr_pos : ∀ (m y : Nat) (S : List UInt8), 0 < y → y < 16 ^ m → ∀ k, m ≤ k → gr k S y = gr (k - (hexL y).length) ((hexL y).map Lib.upperB ++ S) 0 ∧ (hexL y).length ≤ m
 | 0, y, S, h0, h1, _, _ => by simp at h1; omega
 | m + 1, y, S, h0, h1, k, hk => by
  obtain ⟨k', rfl⟩ : ∃ k', k = k' + 1 := ⟨k - 1, by omega⟩
  rw [gr_more (.inl h0)]
  by_cases h16 : y < 16
  ·rw [hexL_small h16, show y % 16 = y by omega, show y / 16 = 0 by omega]
   simp [upD_dig y h16]
  ·rw [hexL_big h16]
   have h2 : y / 16 < 16 ^ m := by
    rw [Nat.pow_succ] at h1
    exact Nat.div_lt_of_lt_mul (by rw [Nat.mul_comm]; exact h1)
   obtain ⟨h3, h4⟩ := gr_pos m (y / 16) (upD (y % 16) :: S) (by omega) h2 k' (by omega)
   rw [h3]
   rw [List.length_append, List.length_singleton, List.map_append, List.map_cons, List.map_nil, upD_dig _ (by omega), show k' + 1 - ((hexL (y / 16)).length + 1) = k' - (hexL (y / 16)).length by omega]
   exact ⟨by simp, by omega⟩
theorem gr_great {n : Nat} (h : n < 16777216) : gr 16 [] n = greatL n := by
 unfold greatL
 by_cases h0 : n = 0
 ·subst h0
  rw [gr_zero 16 [] (by simp), hexL_small (by omega)]
  decide
 ·obtain ⟨h1, h2⟩ := gr_pos 6 n [] (by omega) (by simpa using h) 16 (by omega)
  rw [h1, gr_zero _ _ (by simp; omega)]
  simp
theorem upD_cut7 (x : Nat) (h : x < 16) : (ByteArray.mk #[48, 49, 50, 51, 52, 53, 54, 55, 56, 57, 65, 66, 67, 68, 69, 70]).extract x (x + 1) = str [upD x] := by
 have : ∀ x : Fin 16, (ByteArray.mk #[48, 49, 50, 51, 52, 53, 54, 55, 56, 57, 65, 66, 67, 68, 69, 70]).extract x.val (x.val + 1) = str [upD x.val] := by decide +kernel
 exact this ⟨x, h⟩
set_option maxRecDepth 100000 in
set_option maxHeartbeats 2000000 in
theorem great06_any (n : Nat) (hn : n < 16777216) (w : World) : Calls Tryz.prog 143 #[.int .i64 n] w fun e w' => e = .returned (.string (str (greatL n))) ∧ w' = w := by
 have HG := Lib.hid (gr_great hn)
 have hmx : max (n : Int) 0 = (n : Int) := by omega
 have n0 : (0 : Int) ≤ (n : Int) := by omega
 go_enter Tryz.func143, Tryz.ntmps143
 go_wp2
 go_loop [0, 3, 4] (fun nv sv iv => ∃ (y i : Nat) (S : List UInt8), i ≤ 16 ∧ nv = .int .i64 y ∧ sv = .string (str S) ∧ iv = .int .i64 i ∧ y < 16777216 ∧ S.length ≤ 16 ∧ Hid (gr (16 - i) S y = greatL n ∧ S.length = i)) (fun _ _ iv => 16 - (intOf iv).toNat)
 case atStart => exact ⟨n, 0, [], by omega, rfl, rfl, rfl, hn, by simp, Lib.hid ⟨HG.out, rfl⟩⟩
 case round =>
  obtain ⟨y, i, S, hi, rfl, rfl, rfl, hy, hS, HK⟩ := hrel
  have hsz := str_size S
  by_cases h16 : i < 16
  ·obtain ⟨m, hm⟩ : ∃ m, 16 - i = m + 1 := ⟨15 - i, by omega⟩
   by_cases hc : 0 < y ∨ S.length < 4
   ·obtain ⟨d, hd⟩ : ∃ d, d = y % 16 := ⟨_, rfl⟩
    obtain ⟨y', hy'⟩ : ∃ y', y' = y / 16 := ⟨_, rfl⟩
    have m0 : (y : Int) % 16 = (d : Int) := by omega
    have v0 : (y : Int) / 16 = (y' : Int) := by omega
    have l0 : d < 16 := by omega
    have c0 := upD_cut7 d l0
    have a0 : str [upD d] ++ str S = str (upD d :: S) := str_app [upD d] S
    have s1 : (str [upD d]).size = 1 := rfl
    have HK2 : Hid (gr (16 - (i + 1)) (upD d :: S) y' = greatL n ∧ (upD d :: S).length = i + 1) := Lib.hid (by
     obtain ⟨h1, h2⟩ := HK.out
     rw [hm, gr_more hc] at h1
     refine ⟨?_, by rw [List.length_cons, h2]⟩
     rw [hd, hy', show 16 - (i + 1) = m by omega]
     exact h1)
    have hS2 : (upD d :: S).length ≤ 16 := by have := HK.out.2; rw [List.length_cons]; omega
    have hy2 : y' < 16777216 := by omega
    have i1 : (i : Int) < 16 := by omega
    clear hd hy' hm
    rcases hc with hc | hc
    ·have y1 : (0 : Int) < (y : Int) := by omega
     go_wp2
     go_round
     case rel => exact ⟨y', i + 1, _, by omega, rfl, rfl, by go_num, hy2, hS2, HK2⟩
     case measure => simp [intOf]; omega
    ·by_cases hy0 : 0 < y
     ·have y1 : (0 : Int) < (y : Int) := by omega
      go_wp2
      go_round
      case rel => exact ⟨y', i + 1, _, by omega, rfl, rfl, by go_num, hy2, hS2, HK2⟩
      case measure => simp [intOf]; omega
     ·have y1 : ¬ (0 : Int) < (y : Int) := by omega
      have z1 : ((str S).size : Int) < 4 := by omega
      have z2 : (S.length : Int) < 4 := by omega
      go_wp2
      go_round
      case rel => exact ⟨y', i + 1, _, by omega, rfl, rfl, by go_num, hy2, hS2, HK2⟩
      case measure => simp [intOf]; omega
   ·have HF : Hid (S = greatL n) := Lib.hid (by
     obtain ⟨h1, _⟩ := HK.out
     rw [hm, gr_done hc] at h1
     exact h1)
    have i1 : (i : Int) < 16 := by omega
    have y1 : ¬ (0 : Int) < (y : Int) := by omega
    have z1 : ¬ ((str S).size : Int) < 4 := by omega
    have z2 : ¬ (S.length : Int) < 4 := by omega
    have y2 : ¬ 0 < y := by omega
    go_wp2
    go_ret
    exact ⟨by rw [HF.out]; rfl, rfl⟩
  ·obtain rfl : i = 16 := by omega
   have HF : Hid (S = greatL n) := Lib.hid HK.out.1
   go_wp2
   go_ret
   exact ⟨by rw [HF.out]; rfl, rfl⟩
set_option maxRecDepth 100000 in
set_option maxHeartbeats 1000000 in
theorem cut07_any (S : List UInt8) (h0 : S ≠ []) (hS : S.length < 4611686018427387904) (w : World) : Calls Tryz.prog 44 #[.string (str S)] w fun e w' => e = .returned (.string (str (S.dropLast ++ [10]))) ∧ w' = w := by
 obtain ⟨m, hm⟩ : ∃ m : Nat, S.length = m + 1 := ⟨S.length - 1, by have := List.length_pos_iff.2 h0; omega⟩
 have hsz := str_size S
 have e1 : ((str S).size : Int) - 1 = (m : Int) := by omega
 have m0 : (0 : Int) ≤ (m : Int) := by omega
 have m1 : (m : Int) ≤ ((str S).size : Int) := by omega
 have e2 : (str S).extract 0 m = str S.dropLast := by
  rw [extract_str]
  simp only [str_list, List.drop_zero]
  rw [List.dropLast_eq_take, hm, Nat.add_sub_cancel]
 have e3 : str S.dropLast ++ (⟨#[10]⟩ : ByteArray) = str (S.dropLast ++ [10]) := str_app _ _
 have hsd := str_size S.dropLast
 rw [List.length_dropLast] at hsd
 go_enter Tryz.func44, Tryz.ntmps44
 go_wp2
 go_ret
 exact ⟨rfl, rfl⟩
end Go.Proofs.YthaibekbefndlaaGreatDoor.C
