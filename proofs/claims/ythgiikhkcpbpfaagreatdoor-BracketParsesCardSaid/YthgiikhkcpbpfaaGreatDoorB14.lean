/-
  Joined: MUtfV, KoG. Each with what its own head says.
-/
import Derived.Test.YthgiikhkcpbpfaaGreatDoorB10


namespace Go.Proofs.YthgiikhkcpbpfaaGreatDoor.C
open Go.RowKit
open Go.Lib (decodeN)
set_option maxHeartbeats 1000000 in
theorem need_1 (b : Int) (w : World) (_h0 : 0 ≤ b) (h1 : b < 128) : Calls Tryz.prog 50 #[.int .u8 b] w fun e w' => e = .returned (.int .i64 1) ∧ w = w' := by
 go_enter Tryz.func50, Tryz.ntmps50
 go_wp2
 all_goals go_ret
 all_goals exact ⟨rfl, rfl⟩
set_option maxHeartbeats 1000000 in
theorem need_2 (b : Int) (w : World) (h0 : 194 ≤ b) (h1 : b ≤ 223) : Calls Tryz.prog 50 #[.int .u8 b] w fun e w' => e = .returned (.int .i64 2) ∧ w = w' := by
 go_enter Tryz.func50, Tryz.ntmps50
 go_wp2
 all_goals go_ret
 all_goals exact ⟨rfl, rfl⟩
set_option maxHeartbeats 1000000 in
theorem need_3 (b : Int) (w : World) (h0 : 224 ≤ b) (h1 : b ≤ 239) : Calls Tryz.prog 50 #[.int .u8 b] w fun e w' => e = .returned (.int .i64 3) ∧ w = w' := by
 have t1 : decide (b ≤ 223) = false := by simp; omega
 go_enter Tryz.func50, Tryz.ntmps50
 go_wp2
 all_goals go_ret
 all_goals exact ⟨rfl, rfl⟩
set_option maxHeartbeats 1000000 in
theorem need_4 (b : Int) (w : World) (h0 : 240 ≤ b) (h1 : b ≤ 244) : Calls Tryz.prog 50 #[.int .u8 b] w fun e w' => e = .returned (.int .i64 4) ∧ w = w' := by
 have t1 : decide (b ≤ 223) = false := by simp; omega
 have t2 : decide (b ≤ 239) = false := by simp; omega
 go_enter Tryz.func50, Tryz.ntmps50
 go_wp2
 all_goals go_ret
 all_goals exact ⟨rfl, rfl⟩
set_option maxHeartbeats 1000000 in
theorem need_0 (b : Int) (w : World) (h0 : (128 ≤ b ∧ b < 194) ∨ 244 < b) : Calls Tryz.prog 50 #[.int .u8 b] w fun e w' => e = .returned (.int .i64 0) ∧ w = w' := by
 rcases h0 with ⟨h1, h2⟩ | h1
 ·have t1 : decide (194 ≤ b) = false := by simp; omega
  have t2 : decide (224 ≤ b) = false := by simp; omega
  have t3 : decide (240 ≤ b) = false := by simp; omega
  go_enter Tryz.func50, Tryz.ntmps50
  go_wp2
  all_goals go_ret
  all_goals exact ⟨rfl, rfl⟩
 ·have t1 : decide (b ≤ 223) = false := by simp; omega
  have t2 : decide (b ≤ 239) = false := by simp; omega
  have t3 : decide (b ≤ 244) = false := by simp; omega
  go_enter Tryz.func50, Tryz.ntmps50
  go_wp2
  all_goals go_ret
  all_goals exact ⟨rfl, rfl⟩
def firstN (n b0 b1 b2 b3 : Nat) : Nat × Nat := if decodeN n b0 b1 b2 b3 = (65533, 1) then (0, 0) else decodeN n b0 b1 b2 b3
def First (s : ByteArray) : Nat × Nat := firstN s.size (gb s 0) (gb s 1) (gb s 2) (gb s 3)
theorem first_none (m b0 b1 b2 b3 : Nat) (h : (128 ≤ b0 ∧ b0 < 194) ∨ (244 < b0 ∧ b0 ≤ 255)) : firstN m b0 b1 b2 b3 = (0, 0) := by
 have hd : decodeN m b0 b1 b2 b3 = (65533, 1) := by
  unfold decodeN
  repeat' split
  all_goals first | with_reducible rfl | (exfalso; omega) | (apply Prod.ext <;> simp only <;> omega)
 unfold firstN
 rw [if_pos hd]
theorem first_short2 (m b0 b1 b2 b3 : Nat) (h : 194 ≤ b0 ∧ b0 ≤ 223) (hm : m < 2) : firstN m b0 b1 b2 b3 = (0, 0) := by
 have hd : decodeN m b0 b1 b2 b3 = (65533, 1) := by
  unfold decodeN
  repeat' split
  all_goals first | with_reducible rfl | (exfalso; omega) | (apply Prod.ext <;> simp only <;> omega)
 unfold firstN
 rw [if_pos hd]
theorem first_short3 (m b0 b1 b2 b3 : Nat) (h : 224 ≤ b0 ∧ b0 ≤ 239) (hm : m < 3) : firstN m b0 b1 b2 b3 = (0, 0) := by
 have hd : decodeN m b0 b1 b2 b3 = (65533, 1) := by
  unfold decodeN
  repeat' split
  all_goals first | with_reducible rfl | (exfalso; omega) | (apply Prod.ext <;> simp only <;> omega)
 unfold firstN
 rw [if_pos hd]
theorem first_short4 (m b0 b1 b2 b3 : Nat) (h : 240 ≤ b0 ∧ b0 ≤ 244) (hm : m < 4) : firstN m b0 b1 b2 b3 = (0, 0) := by
 have hd : decodeN m b0 b1 b2 b3 = (65533, 1) := by
  unfold decodeN
  repeat' split
  all_goals first | with_reducible rfl | (exfalso; omega) | (apply Prod.ext <;> simp only <;> omega)
 unfold firstN
 rw [if_pos hd]
theorem first_one (m b0 b1 b2 b3 : Nat) (h : b0 < 128) : firstN m b0 b1 b2 b3 = (b0, 1) := by
 have hd : decodeN m b0 b1 b2 b3 = (b0, 1) := by
  unfold decodeN
  repeat' split
  all_goals first | with_reducible rfl | (exfalso; omega) | (apply Prod.ext <;> simp only <;> omega)
 unfold firstN
 rw [hd, if_neg]
 intro h
 have h2 : 1 = 1 := congrArg Prod.snd h
 have h1 : b0 = 65533 := congrArg Prod.fst h
 omega
theorem first2_bad (m b0 b1 b2 b3 : Nat) (h : 194 ≤ b0 ∧ b0 ≤ 223) (h1 : b1 < 128 ∨ (191 < b1 ∧ b1 ≤ 255)) : firstN m b0 b1 b2 b3 = (0, 0) := by
 have hd : decodeN m b0 b1 b2 b3 = (65533, 1) := by
  unfold decodeN
  repeat' split
  all_goals first | with_reducible rfl | (exfalso; omega) | (apply Prod.ext <;> simp only <;> omega)
 unfold firstN
 rw [if_pos hd]
theorem first2_ok (m b0 b1 b2 b3 : Nat) (h : 194 ≤ b0 ∧ b0 ≤ 223) (hm : 2 ≤ m) (h1 : 128 ≤ b1 ∧ b1 ≤ 191) : firstN m b0 b1 b2 b3 = (b0 % 32 * 64 + b1 % 64, 2) := by
 have hd : decodeN m b0 b1 b2 b3 = (b0 % 32 * 64 + b1 % 64, 2) := by
  unfold decodeN
  repeat' split
  all_goals first | with_reducible rfl | (exfalso; omega) | (apply Prod.ext <;> simp only <;> omega)
 unfold firstN
 rw [hd, if_neg]
 intro h
 have h2 : 2 = 1 := congrArg Prod.snd h
 have h1 : b0 % 32 * 64 + b1 % 64 = 65533 := congrArg Prod.fst h
 omega
theorem first3_bad1 (m b0 b1 b2 b3 : Nat) (h : 224 ≤ b0 ∧ b0 ≤ 239) (h1 : b1 < 128 ∨ (191 < b1 ∧ b1 ≤ 255)) : firstN m b0 b1 b2 b3 = (0, 0) := by
 have hd : decodeN m b0 b1 b2 b3 = (65533, 1) := by
  unfold decodeN
  repeat' split
  all_goals first | with_reducible rfl | (exfalso; omega) | (apply Prod.ext <;> simp only <;> omega)
 unfold firstN
 rw [if_pos hd]
theorem first3_bad2 (m b0 b1 b2 b3 : Nat) (h : 224 ≤ b0 ∧ b0 ≤ 239) (h2 : b2 < 128 ∨ (191 < b2 ∧ b2 ≤ 255)) : firstN m b0 b1 b2 b3 = (0, 0) := by
 have hd : decodeN m b0 b1 b2 b3 = (65533, 1) := by
  unfold decodeN
  repeat' split
  all_goals first | with_reducible rfl | (exfalso; omega) | (apply Prod.ext <;> simp only <;> omega)
 unfold firstN
 rw [if_pos hd]
theorem first3_no (m b0 b1 b2 b3 : Nat) (h : 224 ≤ b0 ∧ b0 ≤ 239) (_h1 : 128 ≤ b1 ∧ b1 ≤ 191) (_h2 : 128 ≤ b2 ∧ b2 ≤ 191) (hc : b0 % 16 * 4096 + b1 % 64 * 64 + b2 % 64 < 2048 ∨ (55296 ≤ b0 % 16 * 4096 + b1 % 64 * 64 + b2 % 64 ∧ b0 % 16 * 4096 + b1 % 64 * 64 + b2 % 64 ≤ 57343)) : firstN m b0 b1 b2 b3 = (0, 0) := by
 have hd : decodeN m b0 b1 b2 b3 = (65533, 1) := by
  unfold decodeN
  repeat' split
  all_goals first | with_reducible rfl | (exfalso; omega) | (apply Prod.ext <;> simp only <;> omega)
 unfold firstN
 rw [if_pos hd]
theorem first3_ok (m b0 b1 b2 b3 : Nat) (h : 224 ≤ b0 ∧ b0 ≤ 239) (hm : 3 ≤ m) (h1 : 128 ≤ b1 ∧ b1 ≤ 191) (h2 : 128 ≤ b2 ∧ b2 ≤ 191) (hc : 2048 ≤ b0 % 16 * 4096 + b1 % 64 * 64 + b2 % 64 ∧ (b0 % 16 * 4096 + b1 % 64 * 64 + b2 % 64 < 55296 ∨ 57343 < b0 % 16 * 4096 + b1 % 64 * 64 + b2 % 64)) : firstN m b0 b1 b2 b3 = (b0 % 16 * 4096 + b1 % 64 * 64 + b2 % 64, 3) := by
 have hd : decodeN m b0 b1 b2 b3 = (b0 % 16 * 4096 + b1 % 64 * 64 + b2 % 64, 3) := by
  unfold decodeN
  repeat' split
  all_goals first | with_reducible rfl | (exfalso; omega) | (apply Prod.ext <;> simp only <;> omega)
 unfold firstN
 rw [hd, if_neg]
 intro h
 have h2 : 3 = 1 := congrArg Prod.snd h
 have h1 : b0 % 16 * 4096 + b1 % 64 * 64 + b2 % 64 = 65533 := congrArg Prod.fst h
 omega
theorem first4_bad1 (m b0 b1 b2 b3 : Nat) (h : 240 ≤ b0 ∧ b0 ≤ 244) (h1 : b1 < 128 ∨ (191 < b1 ∧ b1 ≤ 255)) : firstN m b0 b1 b2 b3 = (0, 0) := by
 have hd : decodeN m b0 b1 b2 b3 = (65533, 1) := by
  unfold decodeN
  repeat' split
  all_goals first | with_reducible rfl | (exfalso; omega) | (apply Prod.ext <;> simp only <;> omega)
 unfold firstN
 rw [if_pos hd]
theorem first4_bad2 (m b0 b1 b2 b3 : Nat) (h : 240 ≤ b0 ∧ b0 ≤ 244) (h2 : b2 < 128 ∨ (191 < b2 ∧ b2 ≤ 255)) : firstN m b0 b1 b2 b3 = (0, 0) := by
 have hd : decodeN m b0 b1 b2 b3 = (65533, 1) := by
  unfold decodeN
  repeat' split
  all_goals first | with_reducible rfl | (exfalso; omega) | (apply Prod.ext <;> simp only <;> omega)
 unfold firstN
 rw [if_pos hd]
theorem first4_bad3 (m b0 b1 b2 b3 : Nat) (h : 240 ≤ b0 ∧ b0 ≤ 244) (h3 : b3 < 128 ∨ (191 < b3 ∧ b3 ≤ 255)) : firstN m b0 b1 b2 b3 = (0, 0) := by
 have hd : decodeN m b0 b1 b2 b3 = (65533, 1) := by
  unfold decodeN
  repeat' split
  all_goals first | with_reducible rfl | (exfalso; omega) | (apply Prod.ext <;> simp only <;> omega)
 unfold firstN
 rw [if_pos hd]
theorem first4_no (m b0 b1 b2 b3 : Nat) (h : 240 ≤ b0 ∧ b0 ≤ 244) (_h1 : 128 ≤ b1 ∧ b1 ≤ 191) (_h2 : 128 ≤ b2 ∧ b2 ≤ 191) (_h3 : 128 ≤ b3 ∧ b3 ≤ 191) (hc : b0 % 8 * 262144 + b1 % 64 * 4096 + b2 % 64 * 64 + b3 % 64 < 65536 ∨ 1114111 < b0 % 8 * 262144 + b1 % 64 * 4096 + b2 % 64 * 64 + b3 % 64) : firstN m b0 b1 b2 b3 = (0, 0) := by
 have hd : decodeN m b0 b1 b2 b3 = (65533, 1) := by
  unfold decodeN
  repeat' split
  all_goals first | with_reducible rfl | (exfalso; omega) | (apply Prod.ext <;> simp only <;> omega)
 unfold firstN
 rw [if_pos hd]
theorem first4_ok (m b0 b1 b2 b3 : Nat) (h : 240 ≤ b0 ∧ b0 ≤ 244) (hm : 4 ≤ m) (h1 : 128 ≤ b1 ∧ b1 ≤ 191) (h2 : 128 ≤ b2 ∧ b2 ≤ 191) (h3 : 128 ≤ b3 ∧ b3 ≤ 191) (hc : 65536 ≤ b0 % 8 * 262144 + b1 % 64 * 4096 + b2 % 64 * 64 + b3 % 64 ∧ b0 % 8 * 262144 + b1 % 64 * 4096 + b2 % 64 * 64 + b3 % 64 ≤ 1114111) : firstN m b0 b1 b2 b3 = (b0 % 8 * 262144 + b1 % 64 * 4096 + b2 % 64 * 64 + b3 % 64, 4) := by
 have hd : decodeN m b0 b1 b2 b3 = (b0 % 8 * 262144 + b1 % 64 * 4096 + b2 % 64 * 64 + b3 % 64, 4) := by
  unfold decodeN
  repeat' split
  all_goals first | with_reducible rfl | (exfalso; omega) | (apply Prod.ext <;> simp only <;> omega)
 unfold firstN
 rw [hd, if_neg]
 intro h
 have h2 : 4 = 1 := congrArg Prod.snd h
 have h1 : b0 % 8 * 262144 + b1 % 64 * 4096 + b2 % 64 * 64 + b3 % 64 = 65533 := congrArg Prod.fst h
 omega
theorem gb_get (s : ByteArray) (i : Nat) (h : i < s.size) : (s[i]'h).toNat = gb s i := by
 unfold gb
 rw [← get_at s i h]
 rfl
theorem not_empty (s : ByteArray) (h : 0 < s.size) : s.toList.isEmpty = false := by
 rw [Lib.toList_data]
 have hl : s.size = s.data.toList.length := (Array.length_toList (xs := s.data)).symm
 rw [hl] at h
 cases hd : s.data.toList with
 | nil => rw [hd] at h; simp at h
 | cons a l => rfl
def Told (w : World) (F : Nat × Nat) (e : Ending) (w' : World) : Prop := e = .returned (.tuple #[.int .i32 (F.1 : Int), .int .i64 (F.2 : Int)]) ∧ Below w.heap.size w w'
set_option maxHeartbeats 4000000 in
theorem first_zero (s : ByteArray) (w : World) (h1 : 1 ≤ s.size) (hmax : s.size ≤ maxLen) (h : (128 ≤ gb s 0 ∧ gb s 0 < 194) ∨ (244 < gb s 0 ∧ gb s 0 ≤ 255)) :
  Calls Tryz.prog 29 #[.string s] w (Told w (First s)) := by
 have hF : First s = (0, 0) := first_none _ _ _ _ _ h
 rw [hF]
 unfold maxLen at hmax
 have g0 := gb_get s 0 (by omega)
 have e1 := not_empty s (by omega)
 have e0 : (0 : Int) < (s.size : Int) := by omega
 generalize gb s 0 = b0 at *
 clear hF
 go_enter Tryz.func29, Tryz.ntmps29
 go_wp2_with fail
 refine (need_0 (b0 : Int) w (by omega)).mono ?_
 rintro e w' ⟨rfl, rfl⟩
 go_wp2
 go_ret2
 exact ⟨rfl, Below.refl _ _⟩
set_option maxHeartbeats 4000000 in
theorem first_s2 (s : ByteArray) (w : World) (h1 : 1 ≤ s.size) (hsh : s.size < 2) (h : 194 ≤ gb s 0 ∧ gb s 0 ≤ 223) :
  Calls Tryz.prog 29 #[.string s] w (Told w (First s)) := by
 have hF : First s = (0, 0) := first_short2 _ _ _ _ _ h hsh
 rw [hF]
 have g0 := gb_get s 0 (by omega)
 have e1 := not_empty s (by omega)
 have e0 : (0 : Int) < (s.size : Int) := by omega
 generalize gb s 0 = b0 at *
 clear hF
 go_enter Tryz.func29, Tryz.ntmps29
 go_wp2_with fail
 refine (need_2 (b0 : Int) w (by omega) (by omega)).mono ?_
 rintro e w' ⟨rfl, rfl⟩
 go_wp2
 go_ret2
 exact ⟨rfl, Below.refl _ _⟩
set_option maxHeartbeats 4000000 in
theorem first_s3 (s : ByteArray) (w : World) (h1 : 1 ≤ s.size) (hsh : s.size < 3) (h : 224 ≤ gb s 0 ∧ gb s 0 ≤ 239) :
  Calls Tryz.prog 29 #[.string s] w (Told w (First s)) := by
 have hF : First s = (0, 0) := first_short3 _ _ _ _ _ h hsh
 rw [hF]
 have g0 := gb_get s 0 (by omega)
 have e1 := not_empty s (by omega)
 have e0 : (0 : Int) < (s.size : Int) := by omega
 generalize gb s 0 = b0 at *
 clear hF
 go_enter Tryz.func29, Tryz.ntmps29
 go_wp2_with fail
 refine (need_3 (b0 : Int) w (by omega) (by omega)).mono ?_
 rintro e w' ⟨rfl, rfl⟩
 go_wp2
 go_ret2
 exact ⟨rfl, Below.refl _ _⟩
set_option maxHeartbeats 4000000 in
theorem first_s4 (s : ByteArray) (w : World) (h1 : 1 ≤ s.size) (hsh : s.size < 4) (h : 240 ≤ gb s 0 ∧ gb s 0 ≤ 244) :
  Calls Tryz.prog 29 #[.string s] w (Told w (First s)) := by
 have hF : First s = (0, 0) := first_short4 _ _ _ _ _ h hsh
 rw [hF]
 have g0 := gb_get s 0 (by omega)
 have e1 := not_empty s (by omega)
 have e0 : (0 : Int) < (s.size : Int) := by omega
 generalize gb s 0 = b0 at *
 clear hF
 go_enter Tryz.func29, Tryz.ntmps29
 go_wp2_with fail
 refine (need_4 (b0 : Int) w (by omega) (by omega)).mono ?_
 rintro e w' ⟨rfl, rfl⟩
 go_wp2
 go_ret2
 exact ⟨rfl, Below.refl _ _⟩
set_option maxHeartbeats 4000000 in
theorem first_ascii (s : ByteArray) (w : World) (h1 : 1 ≤ s.size) (hmax : s.size ≤ maxLen) (h : gb s 0 < 128) :
  Calls Tryz.prog 29 #[.string s] w (Told w (First s)) := by
 have hF : First s = (gb s 0, 1) := first_one _ _ _ _ _ h
 rw [hF]
 unfold maxLen at hmax
 have g0 := gb_get s 0 (by omega)
 have e1 := not_empty s (by omega)
 have e0 : (0 : Int) < (s.size : Int) := by omega
 have e4 : decide ((s.size : Int) < 1) = false := by simp; omega
 have rb : rightB (gb s 0 : Int) = true := by simp [rightB]; omega
 have lo' : decide ((gb s 0 : Int) < 0) = false := by simp
 generalize gb s 0 = b0 at *
 have RB := Lib.hid rb
 clear hF rb
 go_enter Tryz.func29, Tryz.ntmps29
 go_wp2_with fail
 refine (need_1 (b0 : Int) w (by omega) (by omega)).mono ?_
 rintro e w' ⟨rfl, rfl⟩
 go_wp2_with fail
 go_loop [5, 6] (fun cv iv => cv = .int .i32 b0 ∧ iv = .int .i64 1) (fun _ _ => 0)
 case atStart => exact ⟨rfl, rfl⟩
 case round =>
  obtain ⟨rfl, rfl⟩ := hrel
  go_wp2_with fail
  refine (refRight_is _ _ true RB.out).mono ?_
  rintro e w' ⟨rfl, rfl⟩
  go_wp2
  go_ret2
  exact ⟨rfl, (Below.refl _ _).alloc (Nat.le_refl _) _⟩
set_option maxHeartbeats 8000000 in
theorem first_m2 (s : ByteArray) (w : World) (hsz : 2 ≤ s.size) (hmax : s.size ≤ maxLen) (h : 194 ≤ gb s 0 ∧ gb s 0 ≤ 223) :
  Calls Tryz.prog 29 #[.string s] w (Told w (First s)) := by
 unfold maxLen at hmax
 unfold First
 have g0 := gb_get s 0 (by omega)
 have q0 := gb_lt s 0
 have e00 : (0 : Int) < (s.size : Int) := by omega
 have g1 := gb_get s 1 (by omega)
 have q1 := gb_lt s 1
 have e10 : (1 : Int) < (s.size : Int) := by omega
 have e1 := not_empty s (by omega)
 have e4 : decide ((s.size : Int) < 2) = false := by simp; omega
 generalize gb s 0 = b0 at *
 generalize gb s 1 = b1 at *
 generalize gb s 2 = b2 at *
 generalize gb s 3 = b3 at *
 obtain ⟨k1, hk1⟩ : ∃ k1 : Nat, k1 = b0 % 32 := ⟨_, rfl⟩
 have hk1' : (b0 : Int) % 32 = (k1 : Int) := by omega
 have hk1b : k1 < 32 := by omega
 obtain ⟨k2, hk2⟩ : ∃ k2 : Nat, k2 = k1 * 64 + b1 % 64 := ⟨_, rfl⟩
 have hk2' : (k1 : Int) * 64 + (b1 : Int) % 64 = (k2 : Int) := by omega
 have hk2b : k2 < 2048 := by omega
 have HK1 := Lib.hid hk1
 have HK2 := Lib.hid hk2
 clear hk1 hk2
 go_enter Tryz.func29, Tryz.ntmps29
 go_wp2_with fail
 refine (need_2 (b0 : Int) w (by omega) (by omega)).mono ?_
 rintro e w' ⟨rfl, rfl⟩
 go_wp2_with fail
 go_loopg [5, 6] 1 (fun g cv iv wr => w = wr ∧ ((g = 1 ∧ cv = .int .i32 k1 ∧ iv = .int .i64 1) ∨ (g = 0 ∧ cv = .int .i32 k2 ∧ iv = .int .i64 2 ∧ (128 ≤ b1 ∧ b1 ≤ 191))))
 case atStart => exact ⟨rfl, .inl ⟨rfl, by first | rfl | (exact congrArg (Value.int .i32) hk1'), rfl⟩⟩
 case round =>
  obtain ⟨rfl, hrel⟩ := hrel
  rcases hrel with ⟨hg, rfl, rfl⟩ | ⟨hg, rfl, rfl, hc1⟩
  ·have HG := Lib.hid hg
   clear hg
   by_cases d1 : b1 < 128
   ·have hF : firstN s.size b0 b1 b2 b3 = (0, 0) := first2_bad _ _ _ _ _ h (.inl d1)
    have HF := Lib.hid hF
    clear hF
    have d1' : (b1 : Int) < 128 := by omega
    go_wp2
    go_ret2
    exact ⟨by rw [HF.out]; rfl, Below.refl _ _⟩
   have d1' : decide ((b1 : Int) < 128) = false := by simp; omega
   by_cases d2 : 191 < b1
   ·have hF : firstN s.size b0 b1 b2 b3 = (0, 0) := first2_bad _ _ _ _ _ h (.inr ⟨d2, by omega⟩)
    have HF := Lib.hid hF
    clear hF
    have d2' : (191 : Int) < (b1 : Int) := by omega
    go_wp2
    go_ret2
    exact ⟨by rw [HF.out]; rfl, Below.refl _ _⟩
   have d2' : decide ((191 : Int) < (b1 : Int)) = false := by simp; omega
   have hc1 : 128 ≤ b1 ∧ b1 ≤ 191 := by omega
   have HC1 := Lib.hid hc1
   clear hc1
   go_wp2
   go_roundg 0
   case measure => have := HG.out; omega
   case rel => exact ⟨rfl, .inr ⟨rfl, by first | rfl | go_num, rfl, HC1.out⟩⟩
  ·clear hg
   have hv : k2 = b0 % 32 * 64 + b1 % 64 := by
    have := HK1.out
    have := HK2.out
    omega
   have hF : firstN s.size b0 b1 b2 b3 = (k2, 2) := by rw [hv]; exact first2_ok _ _ _ _ _ h hsz hc1
   have HF := Lib.hid hF
   have rb : rightB (k2 : Int) = true := by simp [rightB]; omega
   have RB := Lib.hid rb
   have lo : ¬ (k2 : Int) < 128 := by omega
   have lo' : decide ((k2 : Int) < 128) = false := by simpa using lo
   clear hF hv rb
   go_wp2_with fail
   refine (refRight_is _ _ true RB.out).mono ?_
   rintro e w' ⟨rfl, rfl⟩
   go_wp2
   go_ret2
   exact ⟨by rw [HF.out]; rfl, (Below.refl _ _).alloc (Nat.le_refl _) _⟩
set_option maxHeartbeats 8000000 in
theorem first_m3 (s : ByteArray) (w : World) (hsz : 3 ≤ s.size) (hmax : s.size ≤ maxLen) (h : 224 ≤ gb s 0 ∧ gb s 0 ≤ 239) :
  Calls Tryz.prog 29 #[.string s] w (Told w (First s)) := by
 unfold maxLen at hmax
 unfold First
 have g0 := gb_get s 0 (by omega)
 have q0 := gb_lt s 0
 have e00 : (0 : Int) < (s.size : Int) := by omega
 have g1 := gb_get s 1 (by omega)
 have q1 := gb_lt s 1
 have e10 : (1 : Int) < (s.size : Int) := by omega
 have g2 := gb_get s 2 (by omega)
 have q2 := gb_lt s 2
 have e20 : (2 : Int) < (s.size : Int) := by omega
 have e1 := not_empty s (by omega)
 have e4 : decide ((s.size : Int) < 3) = false := by simp; omega
 generalize gb s 0 = b0 at *
 generalize gb s 1 = b1 at *
 generalize gb s 2 = b2 at *
 generalize gb s 3 = b3 at *
 obtain ⟨k1, hk1⟩ : ∃ k1 : Nat, k1 = b0 % 16 := ⟨_, rfl⟩
 have hk1' : (b0 : Int) % 16 = (k1 : Int) := by omega
 have hk1b : k1 < 16 := by omega
 obtain ⟨k2, hk2⟩ : ∃ k2 : Nat, k2 = k1 * 64 + b1 % 64 := ⟨_, rfl⟩
 have hk2' : (k1 : Int) * 64 + (b1 : Int) % 64 = (k2 : Int) := by omega
 have hk2b : k2 < 1024 := by omega
 obtain ⟨k3, hk3⟩ : ∃ k3 : Nat, k3 = k2 * 64 + b2 % 64 := ⟨_, rfl⟩
 have hk3' : (k2 : Int) * 64 + (b2 : Int) % 64 = (k3 : Int) := by omega
 have hk3b : k3 < 65536 := by omega
 have HK1 := Lib.hid hk1
 have HK2 := Lib.hid hk2
 have HK3 := Lib.hid hk3
 clear hk1 hk2 hk3
 go_enter Tryz.func29, Tryz.ntmps29
 go_wp2_with fail
 refine (need_3 (b0 : Int) w (by omega) (by omega)).mono ?_
 rintro e w' ⟨rfl, rfl⟩
 go_wp2_with fail
 go_loopg [5, 6] 2 (fun g cv iv wr => w = wr ∧ ((g = 2 ∧ cv = .int .i32 k1 ∧ iv = .int .i64 1) ∨ (g = 1 ∧ cv = .int .i32 k2 ∧ iv = .int .i64 2 ∧ (128 ≤ b1 ∧ b1 ≤ 191)) ∨ (g = 0 ∧ cv = .int .i32 k3 ∧ iv = .int .i64 3 ∧ (128 ≤ b1 ∧ b1 ≤ 191) ∧ (128 ≤ b2 ∧ b2 ≤ 191))))
 case atStart => exact ⟨rfl, .inl ⟨rfl, by first | rfl | (exact congrArg (Value.int .i32) hk1'), rfl⟩⟩
 case round =>
  obtain ⟨rfl, hrel⟩ := hrel
  rcases hrel with ⟨hg, rfl, rfl⟩ | ⟨hg, rfl, rfl, hc1⟩ | ⟨hg, rfl, rfl, hc1, hc2⟩
  ·have HG := Lib.hid hg
   clear hg
   by_cases d1 : b1 < 128
   ·have hF : firstN s.size b0 b1 b2 b3 = (0, 0) := first3_bad1 _ _ _ _ _ h (.inl d1)
    have HF := Lib.hid hF
    clear hF
    have d1' : (b1 : Int) < 128 := by omega
    go_wp2
    go_ret2
    exact ⟨by rw [HF.out]; rfl, Below.refl _ _⟩
   have d1' : decide ((b1 : Int) < 128) = false := by simp; omega
   by_cases d2 : 191 < b1
   ·have hF : firstN s.size b0 b1 b2 b3 = (0, 0) := first3_bad1 _ _ _ _ _ h (.inr ⟨d2, by omega⟩)
    have HF := Lib.hid hF
    clear hF
    have d2' : (191 : Int) < (b1 : Int) := by omega
    go_wp2
    go_ret2
    exact ⟨by rw [HF.out]; rfl, Below.refl _ _⟩
   have d2' : decide ((191 : Int) < (b1 : Int)) = false := by simp; omega
   have hc1 : 128 ≤ b1 ∧ b1 ≤ 191 := by omega
   have HC1 := Lib.hid hc1
   clear hc1
   go_wp2
   go_roundg 1
   case measure => have := HG.out; omega
   case rel => exact ⟨rfl, .inr (.inl ⟨rfl, by first | rfl | go_num, rfl, HC1.out⟩)⟩
  ·have HG := Lib.hid hg
   clear hg
   by_cases d1 : b2 < 128
   ·have hF : firstN s.size b0 b1 b2 b3 = (0, 0) := first3_bad2 _ _ _ _ _ h (.inl d1)
    have HF := Lib.hid hF
    clear hF
    have d1' : (b2 : Int) < 128 := by omega
    go_wp2
    go_ret2
    exact ⟨by rw [HF.out]; rfl, Below.refl _ _⟩
   have d1' : decide ((b2 : Int) < 128) = false := by simp; omega
   by_cases d2 : 191 < b2
   ·have hF : firstN s.size b0 b1 b2 b3 = (0, 0) := first3_bad2 _ _ _ _ _ h (.inr ⟨d2, by omega⟩)
    have HF := Lib.hid hF
    clear hF
    have d2' : (191 : Int) < (b2 : Int) := by omega
    go_wp2
    go_ret2
    exact ⟨by rw [HF.out]; rfl, Below.refl _ _⟩
   have d2' : decide ((191 : Int) < (b2 : Int)) = false := by simp; omega
   have hc2 : 128 ≤ b2 ∧ b2 ≤ 191 := by omega
   have HC2 := Lib.hid hc2
   clear hc2
   go_wp2
   go_roundg 0
   case measure => have := HG.out; omega
   case rel => exact ⟨rfl, .inr (.inr ⟨rfl, by first | rfl | go_num, rfl, hc1, HC2.out⟩)⟩
  ·clear hg
   have hv : k3 = b0 % 16 * 4096 + b1 % 64 * 64 + b2 % 64 := by
    have := HK1.out
    have := HK2.out
    have := HK3.out
    omega
   by_cases d1 : k3 < 2048
   ·have hF : firstN s.size b0 b1 b2 b3 = (0, 0) := first3_no _ _ _ _ _ h hc1 hc2 (by rw [← hv]; omega)
    have HF := Lib.hid hF
    clear hF hv
    have d1' : (k3 : Int) < 2048 := by omega
    go_wp2
    go_ret2
    exact ⟨by rw [HF.out]; rfl, (Below.refl _ _).alloc (Nat.le_refl _) _⟩
   have lo' : decide ((k3 : Int) < 2048) = false := by simp; omega
   by_cases d2 : 55296 ≤ k3 ∧ k3 ≤ 57343
   ·have hF : firstN s.size b0 b1 b2 b3 = (0, 0) := first3_no _ _ _ _ _ h hc1 hc2 (by rw [← hv]; omega)
    have HF := Lib.hid hF
    have rb : rightB (k3 : Int) = false := by simp [rightB]; omega
    have RB := Lib.hid rb
    clear hF hv rb d2
    go_wp2_with fail
    refine (refRight_is _ _ false RB.out).mono ?_
    rintro e w' ⟨rfl, rfl⟩
    go_wp2
    go_ret2
    exact ⟨by rw [HF.out]; rfl, (Below.refl _ _).alloc (Nat.le_refl _) _⟩
   have hF : firstN s.size b0 b1 b2 b3 = (k3, 3) := by rw [hv]; exact first3_ok _ _ _ _ _ h hsz hc1 hc2 (by rw [← hv]; omega)
   have HF := Lib.hid hF
   have rb : rightB (k3 : Int) = true := by simp [rightB]; omega
   have RB := Lib.hid rb
   clear hF hv rb d2
   go_wp2_with fail
   refine (refRight_is _ _ true RB.out).mono ?_
   rintro e w' ⟨rfl, rfl⟩
   go_wp2
   go_ret2
   exact ⟨by rw [HF.out]; rfl, (Below.refl _ _).alloc (Nat.le_refl _) _⟩
set_option maxHeartbeats 8000000 in
theorem first_m4 (s : ByteArray) (w : World) (hsz : 4 ≤ s.size) (hmax : s.size ≤ maxLen) (h : 240 ≤ gb s 0 ∧ gb s 0 ≤ 244) :
  Calls Tryz.prog 29 #[.string s] w (Told w (First s)) := by
 unfold maxLen at hmax
 unfold First
 have g0 := gb_get s 0 (by omega)
 have q0 := gb_lt s 0
 have e00 : (0 : Int) < (s.size : Int) := by omega
 have g1 := gb_get s 1 (by omega)
 have q1 := gb_lt s 1
 have e10 : (1 : Int) < (s.size : Int) := by omega
 have g2 := gb_get s 2 (by omega)
 have q2 := gb_lt s 2
 have e20 : (2 : Int) < (s.size : Int) := by omega
 have g3 := gb_get s 3 (by omega)
 have q3 := gb_lt s 3
 have e30 : (3 : Int) < (s.size : Int) := by omega
 have e1 := not_empty s (by omega)
 have e4 : decide ((s.size : Int) < 4) = false := by simp; omega
 generalize gb s 0 = b0 at *
 generalize gb s 1 = b1 at *
 generalize gb s 2 = b2 at *
 generalize gb s 3 = b3 at *
 obtain ⟨k1, hk1⟩ : ∃ k1 : Nat, k1 = b0 % 8 := ⟨_, rfl⟩
 have hk1' : (b0 : Int) % 8 = (k1 : Int) := by omega
 have hk1b : k1 < 8 := by omega
 obtain ⟨k2, hk2⟩ : ∃ k2 : Nat, k2 = k1 * 64 + b1 % 64 := ⟨_, rfl⟩
 have hk2' : (k1 : Int) * 64 + (b1 : Int) % 64 = (k2 : Int) := by omega
 have hk2b : k2 < 512 := by omega
 obtain ⟨k3, hk3⟩ : ∃ k3 : Nat, k3 = k2 * 64 + b2 % 64 := ⟨_, rfl⟩
 have hk3' : (k2 : Int) * 64 + (b2 : Int) % 64 = (k3 : Int) := by omega
 have hk3b : k3 < 32768 := by omega
 obtain ⟨k4, hk4⟩ : ∃ k4 : Nat, k4 = k3 * 64 + b3 % 64 := ⟨_, rfl⟩
 have hk4' : (k3 : Int) * 64 + (b3 : Int) % 64 = (k4 : Int) := by omega
 have hk4b : k4 < 2097152 := by omega
 have HK1 := Lib.hid hk1
 have HK2 := Lib.hid hk2
 have HK3 := Lib.hid hk3
 have HK4 := Lib.hid hk4
 clear hk1 hk2 hk3 hk4
 go_enter Tryz.func29, Tryz.ntmps29
 go_wp2_with fail
 refine (need_4 (b0 : Int) w (by omega) (by omega)).mono ?_
 rintro e w' ⟨rfl, rfl⟩
 go_wp2_with fail
 go_loopg [5, 6] 3 (fun g cv iv wr => w = wr ∧ ((g = 3 ∧ cv = .int .i32 k1 ∧ iv = .int .i64 1) ∨ (g = 2 ∧ cv = .int .i32 k2 ∧ iv = .int .i64 2 ∧ (128 ≤ b1 ∧ b1 ≤ 191)) ∨ (g = 1 ∧ cv = .int .i32 k3 ∧ iv = .int .i64 3 ∧ (128 ≤ b1 ∧ b1 ≤ 191) ∧ (128 ≤ b2 ∧ b2 ≤ 191)) ∨ (g = 0 ∧ cv = .int .i32 k4 ∧ iv = .int .i64 4 ∧ (128 ≤ b1 ∧ b1 ≤ 191) ∧ (128 ≤ b2 ∧ b2 ≤ 191) ∧ (128 ≤ b3 ∧ b3 ≤ 191))))
 case atStart => exact ⟨rfl, .inl ⟨rfl, by first | rfl | (exact congrArg (Value.int .i32) hk1'), rfl⟩⟩
 case round =>
  obtain ⟨rfl, hrel⟩ := hrel
  rcases hrel with ⟨hg, rfl, rfl⟩ | ⟨hg, rfl, rfl, hc1⟩ | ⟨hg, rfl, rfl, hc1, hc2⟩ | ⟨hg, rfl, rfl, hc1, hc2, hc3⟩
  ·have HG := Lib.hid hg
   clear hg
   by_cases d1 : b1 < 128
   ·have hF : firstN s.size b0 b1 b2 b3 = (0, 0) := first4_bad1 _ _ _ _ _ h (.inl d1)
    have HF := Lib.hid hF
    clear hF
    have d1' : (b1 : Int) < 128 := by omega
    go_wp2
    go_ret2
    exact ⟨by rw [HF.out]; rfl, Below.refl _ _⟩
   have d1' : decide ((b1 : Int) < 128) = false := by simp; omega
   by_cases d2 : 191 < b1
   ·have hF : firstN s.size b0 b1 b2 b3 = (0, 0) := first4_bad1 _ _ _ _ _ h (.inr ⟨d2, by omega⟩)
    have HF := Lib.hid hF
    clear hF
    have d2' : (191 : Int) < (b1 : Int) := by omega
    go_wp2
    go_ret2
    exact ⟨by rw [HF.out]; rfl, Below.refl _ _⟩
   have d2' : decide ((191 : Int) < (b1 : Int)) = false := by simp; omega
   have hc1 : 128 ≤ b1 ∧ b1 ≤ 191 := by omega
   have HC1 := Lib.hid hc1
   clear hc1
   go_wp2
   go_roundg 2
   case measure => have := HG.out; omega
   case rel => exact ⟨rfl, .inr (.inl ⟨rfl, by first | rfl | go_num, rfl, HC1.out⟩)⟩
  ·have HG := Lib.hid hg
   clear hg
   by_cases d1 : b2 < 128
   ·have hF : firstN s.size b0 b1 b2 b3 = (0, 0) := first4_bad2 _ _ _ _ _ h (.inl d1)
    have HF := Lib.hid hF
    clear hF
    have d1' : (b2 : Int) < 128 := by omega
    go_wp2
    go_ret2
    exact ⟨by rw [HF.out]; rfl, Below.refl _ _⟩
   have d1' : decide ((b2 : Int) < 128) = false := by simp; omega
   by_cases d2 : 191 < b2
   ·have hF : firstN s.size b0 b1 b2 b3 = (0, 0) := first4_bad2 _ _ _ _ _ h (.inr ⟨d2, by omega⟩)
    have HF := Lib.hid hF
    clear hF
    have d2' : (191 : Int) < (b2 : Int) := by omega
    go_wp2
    go_ret2
    exact ⟨by rw [HF.out]; rfl, Below.refl _ _⟩
   have d2' : decide ((191 : Int) < (b2 : Int)) = false := by simp; omega
   have hc2 : 128 ≤ b2 ∧ b2 ≤ 191 := by omega
   have HC2 := Lib.hid hc2
   clear hc2
   go_wp2
   go_roundg 1
   case measure => have := HG.out; omega
   case rel => exact ⟨rfl, .inr (.inr (.inl ⟨rfl, by first | rfl | go_num, rfl, hc1, HC2.out⟩))⟩
  ·have HG := Lib.hid hg
   clear hg
   by_cases d1 : b3 < 128
   ·have hF : firstN s.size b0 b1 b2 b3 = (0, 0) := first4_bad3 _ _ _ _ _ h (.inl d1)
    have HF := Lib.hid hF
    clear hF
    have d1' : (b3 : Int) < 128 := by omega
    go_wp2
    go_ret2
    exact ⟨by rw [HF.out]; rfl, Below.refl _ _⟩
   have d1' : decide ((b3 : Int) < 128) = false := by simp; omega
   by_cases d2 : 191 < b3
   ·have hF : firstN s.size b0 b1 b2 b3 = (0, 0) := first4_bad3 _ _ _ _ _ h (.inr ⟨d2, by omega⟩)
    have HF := Lib.hid hF
    clear hF
    have d2' : (191 : Int) < (b3 : Int) := by omega
    go_wp2
    go_ret2
    exact ⟨by rw [HF.out]; rfl, Below.refl _ _⟩
   have d2' : decide ((191 : Int) < (b3 : Int)) = false := by simp; omega
   have hc3 : 128 ≤ b3 ∧ b3 ≤ 191 := by omega
   have HC3 := Lib.hid hc3
   clear hc3
   go_wp2
   go_roundg 0
   case measure => have := HG.out; omega
   case rel => exact ⟨rfl, .inr (.inr (.inr ⟨rfl, by first | rfl | go_num, rfl, hc1, hc2, HC3.out⟩))⟩
  ·clear hg
   have hv : k4 = b0 % 8 * 262144 + b1 % 64 * 4096 + b2 % 64 * 64 + b3 % 64 := by
    have := HK1.out
    have := HK2.out
    have := HK3.out
    have := HK4.out
    omega
   by_cases d1 : k4 < 65536
   ·have hF : firstN s.size b0 b1 b2 b3 = (0, 0) := first4_no _ _ _ _ _ h hc1 hc2 hc3 (by rw [← hv]; omega)
    have HF := Lib.hid hF
    clear hF hv
    have d1' : (k4 : Int) < 65536 := by omega
    go_wp2
    go_ret2
    exact ⟨by rw [HF.out]; rfl, (Below.refl _ _).alloc (Nat.le_refl _) _⟩
   have lo' : decide ((k4 : Int) < 65536) = false := by simp; omega
   by_cases d2 : 1114111 < k4
   ·have hF : firstN s.size b0 b1 b2 b3 = (0, 0) := first4_no _ _ _ _ _ h hc1 hc2 hc3 (by rw [← hv]; omega)
    have HF := Lib.hid hF
    have rb : rightB (k4 : Int) = false := by simp [rightB]; omega
    have RB := Lib.hid rb
    clear hF hv rb d2
    go_wp2_with fail
    refine (refRight_is _ _ false RB.out).mono ?_
    rintro e w' ⟨rfl, rfl⟩
    go_wp2
    go_ret2
    exact ⟨by rw [HF.out]; rfl, (Below.refl _ _).alloc (Nat.le_refl _) _⟩
   have hF : firstN s.size b0 b1 b2 b3 = (k4, 4) := by rw [hv]; exact first4_ok _ _ _ _ _ h hsz hc1 hc2 hc3 (by rw [← hv]; omega)
   have HF := Lib.hid hF
   have rb : rightB (k4 : Int) = true := by simp [rightB]; omega
   have RB := Lib.hid rb
   clear hF hv rb d2
   go_wp2_with fail
   refine (refRight_is _ _ true RB.out).mono ?_
   rintro e w' ⟨rfl, rfl⟩
   go_wp2
   go_ret2
   exact ⟨by rw [HF.out]; rfl, (Below.refl _ _).alloc (Nat.le_refl _) _⟩
theorem first_any (s : ByteArray) (w : World) (h1 : 1 ≤ s.size) (hmax : s.size ≤ maxLen) : Calls Tryz.prog 29 #[.string s] w (Told w (First s)) := by
 have hb := gb_lt s 0
 by_cases c1 : gb s 0 < 128
 ·exact first_ascii s w h1 hmax c1
 by_cases c2 : gb s 0 < 194
 ·exact first_zero s w h1 hmax (.inl ⟨by omega, c2⟩)
 by_cases c3 : gb s 0 ≤ 223
 ·by_cases d : s.size < 2
  ·exact first_s2 s w h1 d ⟨by omega, c3⟩
  ·exact first_m2 s w (by omega) hmax ⟨by omega, c3⟩
 by_cases c4 : gb s 0 ≤ 239
 ·by_cases d : s.size < 3
  ·exact first_s3 s w h1 d ⟨by omega, c4⟩
  ·exact first_m3 s w (by omega) hmax ⟨by omega, c4⟩
 by_cases c5 : gb s 0 ≤ 244
 ·by_cases d : s.size < 4
  ·exact first_s4 s w h1 d ⟨by omega, c5⟩
  ·exact first_m4 s w (by omega) hmax ⟨by omega, c5⟩
 ·exact first_zero s w h1 hmax (.inr ⟨by omega, by omega⟩)
end Go.Proofs.YthgiikhkcpbpfaaGreatDoor.C


namespace Go.Proofs.YthgiikhkcpbpfaaGreatDoor.C
open Go.RowKit
theorem flat_lenK {sz : Nat} : ∀ {xs : List (List Value)}, (∀ x ∈ xs, x.length = sz) → xs.flatten.length = xs.length * sz
 | [], _ => by simp
 | x :: r, h => by
  rw [List.flatten_cons, List.length_append, h x (by simp), flat_lenK (fun y hy => h y (by simp [hy])), List.length_cons, Nat.add_mul]
  omega
theorem prs_cells {w : World} {B n : Nat} {ad : Addr} {l : List (Int × Int)} (h : SI 2 w B (some ad) n (l.map prRow)) : ∀ (j : Nat) (u : Value), (prsC l)[j]? = some u → w.cell? (ad.add j) = some u := by
 intro j u hj
 have hx2 : ∀ x ∈ l.map prRow, x.length = 2 := by intro x hx; obtain ⟨y, _, rfl⟩ := List.mem_map.1 hx; rfl
 have hfl : (prsC l).length = n * 2 := by rw [prsC_flat, flat_lenK hx2, h.len]
 have hjl : j < (prsC l).length := (List.getElem?_eq_some_iff.1 hj).1
 obtain ⟨ad', x, e, _, hx, hxl, hc⟩ := h.at_ (k := j / 2) (by omega)
 injection e with e
 subst e
 have hi : x[j % 2]? = some (x[j % 2]'(by rw [hxl]; omega)) := List.getElem?_eq_getElem _
 have h1 := flat_at hx2 hx hi
 rw [← prsC_flat, show j / 2 * 2 + j % 2 = j by omega] at h1
 rw [hj] at h1
 have h2 := hc _ _ hi
 rw [show j / 2 * 2 + j % 2 = j by omega] at h2
 rw [h2, ← h1]
theorem prs_one (l : List (Int × Int)) : ∀ u ∈ prsC l, u.oneCell' = true := by
 intro u hu
 unfold prsC at hu
 obtain ⟨x, _, hx⟩ := List.mem_flatMap.1 hu
 simp at hx
 rcases hx with rfl | rfl <;> rfl
theorem cel_one (l : List Int) : ∀ u ∈ celC l, u.oneCell' = true := by
 intro u hu
 obtain ⟨x, _, rfl⟩ := List.mem_map.1 hu
 rfl
set_option maxRecDepth 100000 in
set_option maxHeartbeats 2000000 in
theorem cloneC_raw (w : World) (ad : Addr) (n c : Nat) (news : List Value) (hl : news.length = n * 1) (hn : n ≤ 1073741824) (hc : ∀ (j : Nat) (u : Value), news[j]? = some u → w.cell? (ad.add j) = some u) (h1 : ∀ u ∈ news, u.oneCell' = true) :
  Calls Tryz.prog 61 #[.slice (some ad) n c] w fun e w' => ∃ v, e = .returned v ∧ w'.ownsRow w.heap.size 30 1 v n news ∧ Below w.heap.size w w' := by
 have q22 : ∀ (w : World) (a : Option Addr) (n c n' c' : Nat), (binOp .eql 39 (.slice a n c) (.slice none n' c')).run Tryz.prog w = .ok (.bool a.isNone) w := fun w a n c n' c' => Lib.run_eql_slice_nil w _ _ a n c n' c' Tryz.underlying39
 obtain ⟨i0, hi, hz0, hz1, hz2⟩ := info_parts info33
 have HC := Lib.hid hc
 have HL := Lib.hid hl
 clear hc hl
 go_enter Tryz.func61, Tryz.ntmps61
 go_wp2_with (at_builtin; refine wpList_append_own _ rfl _ _ 39 rfl w.heap.size 30 i0 (.int .i32 0) 1 4 Tryz.underlying39 hi hz0 hz1 hz2 rfl (by decide) _ _ _ rfl (World.ownsRow_made w #[] 0 (Nat.le_refl _) (Nat.zero_le _) (by simp)) ad n c news rfl ?qc1 ?qc2 ?qc3 ?qc4 ?qc5 ?qc6 ?_)
 case qc1 => exact HL.out
 case qc2 =>
  intro j u hj
  exact Lib.cell?_alloc_some _ (HC.out j u hj)
 case qc3 => exact h1
 case qc4 => rw [Nat.zero_add]; unfold maxLen; omega
 case qc5 => rw [Nat.zero_add]; omega
 case qc6 => simp
 intro v' w1 hown hgrow hnil
 have HE : Hid (w1.ownsRow w.heap.size 30 1 v' n news ∧ Below w.heap.size w w1) := Lib.hid ⟨by simpa using hown, ((Below.refl _ w).alloc (Nat.le_refl _) _).grown hgrow (by simp) (fun k hk => by simp [Value.ownBlock] at hk; omega)⟩
 clear hown hgrow hnil
 go_wp2
 go_ret
 exact ⟨_, rfl, HE.out⟩
set_option maxRecDepth 100000 in
set_option maxHeartbeats 1000000 in
theorem cloneC_nil (w : World) (n c : Nat) : Calls Tryz.prog 61 #[.slice none n c] w fun e w' => e = .returned (.slice none 0 0) ∧ w' = w := by
 have q22 : ∀ (w : World) (a : Option Addr) (n c n' c' : Nat), (binOp .eql 39 (.slice a n c) (.slice none n' c')).run Tryz.prog w = .ok (.bool a.isNone) w := fun w a n c n' c' => Lib.run_eql_slice_nil w _ _ a n c n' c' Tryz.underlying39
 go_enter Tryz.func61, Tryz.ntmps61
 go_wp2
 go_ret
 exact ⟨rfl, rfl⟩
theorem cloneC_any (w : World) (B : Nat) (A : Option Addr) (n c : Nat) (xs : List Int) (h : RI .i32 w B A n xs) (hn : n ≤ 1073741824) :
  Calls Tryz.prog 61 #[.slice A n c] w fun e w' => ∃ v', e = .returned v' ∧ w'.ownsRow w.heap.size 30 1 v' n (celC xs) ∧ Below w.heap.size w w' := by
 have hlen := h.len
 cases A with
 | none =>
  obtain rfl : n = 0 := by
   rcases Nat.eq_zero_or_pos n with h1 | h1
   ·exact h1
   ·obtain ⟨_, _, e, _⟩ := h.at_ h1
    cases e
  obtain rfl : xs = [] := List.length_eq_zero_iff.1 hlen
  refine (cloneC_nil w 0 c).mono ?_
  rintro e w' ⟨rfl, rfl⟩
  exact ⟨_, rfl, World.ownsRow_nil _ _ _ _, Below.refl _ _⟩
 | some ad =>
  refine cloneC_raw w ad n c (celC xs) (by simp [celC, hlen]) hn (fun j u hj => ?_) (cel_one xs)
  unfold celC at hj
  rw [List.getElem?_map] at hj
  obtain ⟨x, hx, rfl⟩ := Option.map_eq_some_iff.1 hj
  have hjl := (List.getElem?_eq_some_iff.1 hx).1
  obtain ⟨ad', u, e, _, hu, hc⟩ := h.at_ (k := j) (by omega)
  injection e with e
  subst e
  rw [hx] at hu
  injection hu with hu
  rw [hc, hu]
set_option maxRecDepth 100000 in
set_option maxHeartbeats 2000000 in
theorem cloneP_raw (w : World) (ad : Addr) (n c : Nat) (news : List Value) (hl : news.length = n * 2) (hn : n ≤ 1073741824) (hc : ∀ (j : Nat) (u : Value), news[j]? = some u → w.cell? (ad.add j) = some u) (h1 : ∀ u ∈ news, u.oneCell' = true) :
  Calls Tryz.prog 40 #[.slice (some ad) n c] w fun e w' => ∃ v, e = .returned v ∧ w'.ownsRow w.heap.size 81 2 v n news ∧ Below w.heap.size w w' := by
 have q22 : ∀ (w : World) (a : Option Addr) (n c n' c' : Nat), (binOp .eql 24 (.slice a n c) (.slice none n' c')).run Tryz.prog w = .ok (.bool a.isNone) w := fun w a n c n' c' => Lib.run_eql_slice_nil w _ _ a n c n' c' Tryz.underlying24
 obtain ⟨i0, hi, hz0, hz1, hz2⟩ := info_parts infoPair
 have HC := Lib.hid hc
 have HL := Lib.hid hl
 clear hc hl
 go_enter Tryz.func40, Tryz.ntmps40
 go_wp2_with (at_builtin; refine wpList_append_own _ rfl _ _ 24 rfl w.heap.size 81 i0 (.agg #[.int .i32 0, .int .i32 0]) 2 8 Tryz.underlying24 hi hz0 hz1 hz2 rfl (by decide) _ _ _ rfl (World.ownsRow_made w #[] 0 (Nat.le_refl _) (Nat.zero_le _) (by simp)) ad n c news rfl ?qc1 ?qc2 ?qc3 ?qc4 ?qc5 ?qc6 ?_)
 case qc1 => exact HL.out
 case qc2 =>
  intro j u hj
  exact Lib.cell?_alloc_some _ (HC.out j u hj)
 case qc3 => exact h1
 case qc4 => rw [Nat.zero_add]; unfold maxLen; omega
 case qc5 => rw [Nat.zero_add]; omega
 case qc6 => simp
 intro v' w1 hown hgrow hnil
 have HE : Hid (w1.ownsRow w.heap.size 81 2 v' n news ∧ Below w.heap.size w w1) := Lib.hid ⟨by simpa using hown, ((Below.refl _ w).alloc (Nat.le_refl _) _).grown hgrow (by simp) (fun k hk => by simp [Value.ownBlock] at hk; omega)⟩
 clear hown hgrow hnil
 go_wp2
 go_ret
 exact ⟨_, rfl, HE.out⟩
set_option maxRecDepth 100000 in
set_option maxHeartbeats 1000000 in
theorem cloneP_nil (w : World) (n c : Nat) : Calls Tryz.prog 40 #[.slice none n c] w fun e w' => e = .returned (.slice none 0 0) ∧ w' = w := by
 have q22 : ∀ (w : World) (a : Option Addr) (n c n' c' : Nat), (binOp .eql 24 (.slice a n c) (.slice none n' c')).run Tryz.prog w = .ok (.bool a.isNone) w := fun w a n c n' c' => Lib.run_eql_slice_nil w _ _ a n c n' c' Tryz.underlying24
 go_enter Tryz.func40, Tryz.ntmps40
 go_wp2
 go_ret
 exact ⟨rfl, rfl⟩
theorem cloneP_any (w : World) (B : Nat) (v : Value) (l : List (Int × Int)) (h : PrsR w B v l) (hn : l.length ≤ 1073741824) :
  Calls Tryz.prog 40 #[v] w fun e w' => ∃ v', e = .returned v' ∧ w'.ownsRow w.heap.size 81 2 v' l.length (prsC l) ∧ Below w.heap.size w w' := by
 obtain ⟨A, c, rfl, hsi⟩ := h
 cases A with
 | none =>
  have h0 : l = [] := by
   rcases Nat.eq_zero_or_pos l.length with h | h
   ·exact List.length_eq_zero_iff.1 h
   ·obtain ⟨_, _, e, _⟩ := hsi.at_ h
    cases e
  subst h0
  refine (cloneP_nil w 0 c).mono ?_
  rintro e w' ⟨rfl, rfl⟩
  exact ⟨_, rfl, World.ownsRow_nil _ _ _ _, Below.refl _ _⟩
 | some ad =>
  have hx2 : ∀ x ∈ l.map prRow, x.length = 2 := by intro x hx; obtain ⟨y, _, rfl⟩ := List.mem_map.1 hx; rfl
  exact cloneP_raw w ad l.length c (prsC l) (by rw [prsC_flat, flat_lenK hx2, List.length_map]) hn (prs_cells hsi) (prs_one l)
set_option maxRecDepth 100000 in
set_option maxHeartbeats 2000000 in
theorem cloneR_raw (w : World) (ad : Addr) (n c : Nat) (news : List Value) (hl : news.length = n * 2) (hn : n ≤ 17592186044416) (hc : ∀ (j : Nat) (u : Value), news[j]? = some u → w.cell? (ad.add j) = some u) (h1 : ∀ u ∈ news, u.oneCell' = true) :
  Calls Tryz.prog 62 #[.slice (some ad) n c] w fun e w' => ∃ v, e = .returned v ∧ w'.ownsRow w.heap.size 46 2 v n news ∧ Below w.heap.size w w' := by
 have q22 : ∀ (w : World) (a : Option Addr) (n c n' c' : Nat), (binOp .eql 31 (.slice a n c) (.slice none n' c')).run Tryz.prog w = .ok (.bool a.isNone) w := fun w a n c n' c' => Lib.run_eql_slice_nil w _ _ a n c n' c' Tryz.underlying31
 obtain ⟨i0, hi, hz0, hz1, hz2⟩ := info_parts infoRange
 have HC := Lib.hid hc
 have HL := Lib.hid hl
 clear hc hl
 go_enter Tryz.func62, Tryz.ntmps62
 go_wp2_with (at_builtin; refine wpList_append_own _ rfl _ _ 31 rfl w.heap.size 46 i0 (.agg #[.int .i32 0, .int .i32 0]) 2 8 Tryz.underlying31 hi hz0 hz1 hz2 rfl (by decide) _ _ _ rfl (World.ownsRow_made w #[] 0 (Nat.le_refl _) (Nat.zero_le _) (by simp)) ad n c news rfl ?qc1 ?qc2 ?qc3 ?qc4 ?qc5 ?qc6 ?_)
 case qc1 => exact HL.out
 case qc2 =>
  intro j u hj
  exact Lib.cell?_alloc_some _ (HC.out j u hj)
 case qc3 => exact h1
 case qc4 => rw [Nat.zero_add]; unfold maxLen; omega
 case qc5 => rw [Nat.zero_add]; omega
 case qc6 => simp
 intro v' w1 hown hgrow hnil
 have HE : Hid (w1.ownsRow w.heap.size 46 2 v' n news ∧ Below w.heap.size w w1) := Lib.hid ⟨by simpa using hown, ((Below.refl _ w).alloc (Nat.le_refl _) _).grown hgrow (by simp) (fun k hk => by simp [Value.ownBlock] at hk; omega)⟩
 clear hown hgrow hnil
 go_wp2
 go_ret
 exact ⟨_, rfl, HE.out⟩
set_option maxRecDepth 100000 in
set_option maxHeartbeats 1000000 in
theorem cloneR_nil (w : World) (n c : Nat) : Calls Tryz.prog 62 #[.slice none n c] w fun e w' => e = .returned (.slice none 0 0) ∧ w' = w := by
 have q22 : ∀ (w : World) (a : Option Addr) (n c n' c' : Nat), (binOp .eql 31 (.slice a n c) (.slice none n' c')).run Tryz.prog w = .ok (.bool a.isNone) w := fun w a n c n' c' => Lib.run_eql_slice_nil w _ _ a n c n' c' Tryz.underlying31
 go_enter Tryz.func62, Tryz.ntmps62
 go_wp2
 go_ret
 exact ⟨rfl, rfl⟩
theorem cloneR_any (w : World) (B : Nat) (v : Value) (l : List (Int × Int)) (h : PrsR w B v l) (hn : l.length ≤ 17592186044416) :
  Calls Tryz.prog 62 #[v] w fun e w' => ∃ v', e = .returned v' ∧ w'.ownsRow w.heap.size 46 2 v' l.length (prsC l) ∧ Below w.heap.size w w' := by
 obtain ⟨A, c, rfl, hsi⟩ := h
 cases A with
 | none =>
  have h0 : l = [] := by
   rcases Nat.eq_zero_or_pos l.length with h | h
   ·exact List.length_eq_zero_iff.1 h
   ·obtain ⟨_, _, e, _⟩ := hsi.at_ h
    cases e
  subst h0
  refine (cloneR_nil w 0 c).mono ?_
  rintro e w' ⟨rfl, rfl⟩
  exact ⟨_, rfl, World.ownsRow_nil _ _ _ _, Below.refl _ _⟩
 | some ad =>
  have hx2 : ∀ x ∈ l.map prRow, x.length = 2 := by intro x hx; obtain ⟨y, _, rfl⟩ := List.mem_map.1 hx; rfl
  exact cloneR_raw w ad l.length c (prsC l) (by rw [prsC_flat, flat_lenK hx2, List.length_map]) hn (prs_cells hsi) (prs_one l)
end Go.Proofs.YthgiikhkcpbpfaaGreatDoor.C
