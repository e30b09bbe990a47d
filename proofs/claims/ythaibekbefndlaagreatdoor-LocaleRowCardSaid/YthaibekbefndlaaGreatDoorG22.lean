/-
  Joined: MUtfV, MUtfW, MUtfG. Each with what its own head says.
-/
import Derived.Test.YthaibekbefndlaaGreatDoorG00
import Derived.Test.YthaibekbefndlaaGreatDoorG21
import Derived.Shelf.Bytes.SlSmallAll

namespace Go.Proofs.YthaibekbefndlaaGreatDoor.C
open Go.RowKit
open Go.Lib (decodeN)


set_option maxHeartbeats 1000000 in
theorem need_1 (b : Int) (w : World) (_h0 : 0 ≤ b) (h1 : b < 128) : Calls Tryz.prog 245 #[.int .u8 b] w fun e w' => e = .returned (.int .i64 1) ∧ w = w' := by
  go_enter Tryz.func245, Tryz.ntmps245
  go_wp2
  all_goals go_ret
  all_goals exact ⟨rfl, rfl⟩
set_option maxHeartbeats 1000000 in
theorem need_2 (b : Int) (w : World) (h0 : 194 ≤ b) (h1 : b ≤ 223) : Calls Tryz.prog 245 #[.int .u8 b] w fun e w' => e = .returned (.int .i64 2) ∧ w = w' := by
  go_enter Tryz.func245, Tryz.ntmps245
  go_wp2
  all_goals go_ret
  all_goals exact ⟨rfl, rfl⟩
set_option maxHeartbeats 1000000 in
theorem need_3 (b : Int) (w : World) (h0 : 224 ≤ b) (h1 : b ≤ 239) : Calls Tryz.prog 245 #[.int .u8 b] w fun e w' => e = .returned (.int .i64 3) ∧ w = w' := by
  have t1 : decide (b ≤ 223) = false := by simp; omega
  go_enter Tryz.func245, Tryz.ntmps245
  go_wp2
  all_goals go_ret
  all_goals exact ⟨rfl, rfl⟩
set_option maxHeartbeats 1000000 in
theorem need_4 (b : Int) (w : World) (h0 : 240 ≤ b) (h1 : b ≤ 244) : Calls Tryz.prog 245 #[.int .u8 b] w fun e w' => e = .returned (.int .i64 4) ∧ w = w' := by
  have t1 : decide (b ≤ 223) = false := by simp; omega
  have t2 : decide (b ≤ 239) = false := by simp; omega
  go_enter Tryz.func245, Tryz.ntmps245
  go_wp2
  all_goals go_ret
  all_goals exact ⟨rfl, rfl⟩
set_option maxHeartbeats 1000000 in
theorem need_0 (b : Int) (w : World) (h0 : (128 ≤ b ∧ b < 194) ∨ 244 < b) : Calls Tryz.prog 245 #[.int .u8 b] w fun e w' => e = .returned (.int .i64 0) ∧ w = w' := by
  rcases h0 with ⟨h1, h2⟩ | h1
  · have t1 : decide (194 ≤ b) = false := by simp; omega
    have t2 : decide (224 ≤ b) = false := by simp; omega
    have t3 : decide (240 ≤ b) = false := by simp; omega
    go_enter Tryz.func245, Tryz.ntmps245
    go_wp2
    all_goals go_ret
    all_goals exact ⟨rfl, rfl⟩
  · have t1 : decide (b ≤ 223) = false := by simp; omega
    have t2 : decide (b ≤ 239) = false := by simp; omega
    have t3 : decide (b ≤ 244) = false := by simp; omega
    go_enter Tryz.func245, Tryz.ntmps245
    go_wp2
    all_goals go_ret
    all_goals exact ⟨rfl, rfl⟩

/-- what First says: the scalar and its bytes; 0, 0: none -/
def firstN (n b0 b1 b2 b3 : Nat) : Nat × Nat := if decodeN n b0 b1 b2 b3 = (65533, 1) then (0, 0) else decodeN n b0 b1 b2 b3
def First (s : ByteArray) : Nat × Nat := firstN s.size (gb s 0) (gb s 1) (gb s 2) (gb s 3)

/-- leaves -/
theorem first_none (m b0 b1 b2 b3 : Nat) (h : (128 ≤ b0 ∧ b0 < 194) ∨ (244 < b0 ∧ b0 ≤ 255)) : firstN m b0 b1 b2 b3 = (0, 0) := by
  have hd : decodeN m b0 b1 b2 b3 = (65533, 1) := by
    unfold decodeN
    repeat' split
    all_goals first | with_reducible rfl | (exfalso; omega) | (apply Prod.ext <;> simp only <;> omega)
  unfold firstN
  rw [if_pos hd]
theorem first_short2 (m b0 b1 b2 b3 : Nat) (h : 194 ≤ b0 ∧ b0 ≤ 223) (hm : m < 2) : firstN m b0 b1 b2 b3 = (0, 0) := by
  have hd : decodeN m b0 b1 b2 b3 = (65533, 1) := by
    unfold decodeN
    repeat' split
    all_goals first | with_reducible rfl | (exfalso; omega) | (apply Prod.ext <;> simp only <;> omega)
  unfold firstN
  rw [if_pos hd]
theorem first_short3 (m b0 b1 b2 b3 : Nat) (h : 224 ≤ b0 ∧ b0 ≤ 239) (hm : m < 3) : firstN m b0 b1 b2 b3 = (0, 0) := by
  have hd : decodeN m b0 b1 b2 b3 = (65533, 1) := by
    unfold decodeN
    repeat' split
    all_goals first | with_reducible rfl | (exfalso; omega) | (apply Prod.ext <;> simp only <;> omega)
  unfold firstN
  rw [if_pos hd]
theorem first_short4 (m b0 b1 b2 b3 : Nat) (h : 240 ≤ b0 ∧ b0 ≤ 244) (hm : m < 4) : firstN m b0 b1 b2 b3 = (0, 0) := by
  have hd : decodeN m b0 b1 b2 b3 = (65533, 1) := by
    unfold decodeN
    repeat' split
    all_goals first | with_reducible rfl | (exfalso; omega) | (apply Prod.ext <;> simp only <;> omega)
  unfold firstN
  rw [if_pos hd]
theorem first_one (m b0 b1 b2 b3 : Nat) (h : b0 < 128) : firstN m b0 b1 b2 b3 = (b0, 1) := by
  have hd : decodeN m b0 b1 b2 b3 = (b0, 1) := by
    unfold decodeN
    repeat' split
    all_goals first | with_reducible rfl | (exfalso; omega) | (apply Prod.ext <;> simp only <;> omega)
  unfold firstN
  rw [hd, if_neg]
  intro h
  have h2 : 1 = 1 := congrArg Prod.snd h
  have h1 : b0 = 65533 := congrArg Prod.fst h
  omega
theorem first2_bad (m b0 b1 b2 b3 : Nat) (h : 194 ≤ b0 ∧ b0 ≤ 223) (h1 : b1 < 128 ∨ (191 < b1 ∧ b1 ≤ 255)) : firstN m b0 b1 b2 b3 = (0, 0) := by
  have hd : decodeN m b0 b1 b2 b3 = (65533, 1) := by
    unfold decodeN
    repeat' split
    all_goals first | with_reducible rfl | (exfalso; omega) | (apply Prod.ext <;> simp only <;> omega)
  unfold firstN
  rw [if_pos hd]
theorem first2_ok (m b0 b1 b2 b3 : Nat) (h : 194 ≤ b0 ∧ b0 ≤ 223) (hm : 2 ≤ m) (h1 : 128 ≤ b1 ∧ b1 ≤ 191) : firstN m b0 b1 b2 b3 = (b0 % 32 * 64 + b1 % 64, 2) := by
  have hd : decodeN m b0 b1 b2 b3 = (b0 % 32 * 64 + b1 % 64, 2) := by
    unfold decodeN
    repeat' split
    all_goals first | with_reducible rfl | (exfalso; omega) | (apply Prod.ext <;> simp only <;> omega)
  unfold firstN
  rw [hd, if_neg]
  intro h
  have h2 : 2 = 1 := congrArg Prod.snd h
  have h1 : b0 % 32 * 64 + b1 % 64 = 65533 := congrArg Prod.fst h
  omega
theorem first3_bad1 (m b0 b1 b2 b3 : Nat) (h : 224 ≤ b0 ∧ b0 ≤ 239) (h1 : b1 < 128 ∨ (191 < b1 ∧ b1 ≤ 255)) : firstN m b0 b1 b2 b3 = (0, 0) := by
  have hd : decodeN m b0 b1 b2 b3 = (65533, 1) := by
    unfold decodeN
    repeat' split
    all_goals first | with_reducible rfl | (exfalso; omega) | (apply Prod.ext <;> simp only <;> omega)
  unfold firstN
  rw [if_pos hd]
theorem first3_bad2 (m b0 b1 b2 b3 : Nat) (h : 224 ≤ b0 ∧ b0 ≤ 239) (h2 : b2 < 128 ∨ (191 < b2 ∧ b2 ≤ 255)) : firstN m b0 b1 b2 b3 = (0, 0) := by
  have hd : decodeN m b0 b1 b2 b3 = (65533, 1) := by
    unfold decodeN
    repeat' split
    all_goals first | with_reducible rfl | (exfalso; omega) | (apply Prod.ext <;> simp only <;> omega)
  unfold firstN
  rw [if_pos hd]
theorem first3_no (m b0 b1 b2 b3 : Nat) (h : 224 ≤ b0 ∧ b0 ≤ 239) (_h1 : 128 ≤ b1 ∧ b1 ≤ 191) (_h2 : 128 ≤ b2 ∧ b2 ≤ 191) (hc : b0 % 16 * 4096 + b1 % 64 * 64 + b2 % 64 < 2048 ∨ (55296 ≤ b0 % 16 * 4096 + b1 % 64 * 64 + b2 % 64 ∧ b0 % 16 * 4096 + b1 % 64 * 64 + b2 % 64 ≤ 57343)) : firstN m b0 b1 b2 b3 = (0, 0) := by
  have hd : decodeN m b0 b1 b2 b3 = (65533, 1) := by
    unfold decodeN
    repeat' split
    all_goals first | with_reducible rfl | (exfalso; omega) | (apply Prod.ext <;> simp only <;> omega)
  unfold firstN
  rw [if_pos hd]
theorem first3_ok (m b0 b1 b2 b3 : Nat) (h : 224 ≤ b0 ∧ b0 ≤ 239) (hm : 3 ≤ m) (h1 : 128 ≤ b1 ∧ b1 ≤ 191) (h2 : 128 ≤ b2 ∧ b2 ≤ 191) (hc : 2048 ≤ b0 % 16 * 4096 + b1 % 64 * 64 + b2 % 64 ∧ (b0 % 16 * 4096 + b1 % 64 * 64 + b2 % 64 < 55296 ∨ 57343 < b0 % 16 * 4096 + b1 % 64 * 64 + b2 % 64)) : firstN m b0 b1 b2 b3 = (b0 % 16 * 4096 + b1 % 64 * 64 + b2 % 64, 3) := by
  have hd : decodeN m b0 b1 b2 b3 = (b0 % 16 * 4096 + b1 % 64 * 64 + b2 % 64, 3) := by
    unfold decodeN
    repeat' split
    all_goals first | with_reducible rfl | (exfalso; omega) | (apply Prod.ext <;> simp only <;> omega)
  unfold firstN
  rw [hd, if_neg]
  intro h
  have h2 : 3 = 1 := congrArg Prod.snd h
  have h1 : b0 % 16 * 4096 + b1 % 64 * 64 + b2 % 64 = 65533 := congrArg Prod.fst h
  omega
theorem first4_bad1 (m b0 b1 b2 b3 : Nat) (h : 240 ≤ b0 ∧ b0 ≤ 244) (h1 : b1 < 128 ∨ (191 < b1 ∧ b1 ≤ 255)) : firstN m b0 b1 b2 b3 = (0, 0) := by
  have hd : decodeN m b0 b1 b2 b3 = (65533, 1) := by
    unfold decodeN
    repeat' split
    all_goals first | with_reducible rfl | (exfalso; omega) | (apply Prod.ext <;> simp only <;> omega)
  unfold firstN
  rw [if_pos hd]
theorem first4_bad2 (m b0 b1 b2 b3 : Nat) (h : 240 ≤ b0 ∧ b0 ≤ 244) (h2 : b2 < 128 ∨ (191 < b2 ∧ b2 ≤ 255)) : firstN m b0 b1 b2 b3 = (0, 0) := by
  have hd : decodeN m b0 b1 b2 b3 = (65533, 1) := by
    unfold decodeN
    repeat' split
    all_goals first | with_reducible rfl | (exfalso; omega) | (apply Prod.ext <;> simp only <;> omega)
  unfold firstN
  rw [if_pos hd]
theorem first4_bad3 (m b0 b1 b2 b3 : Nat) (h : 240 ≤ b0 ∧ b0 ≤ 244) (h3 : b3 < 128 ∨ (191 < b3 ∧ b3 ≤ 255)) : firstN m b0 b1 b2 b3 = (0, 0) := by
  have hd : decodeN m b0 b1 b2 b3 = (65533, 1) := by
    unfold decodeN
    repeat' split
    all_goals first | with_reducible rfl | (exfalso; omega) | (apply Prod.ext <;> simp only <;> omega)
  unfold firstN
  rw [if_pos hd]
theorem first4_no (m b0 b1 b2 b3 : Nat) (h : 240 ≤ b0 ∧ b0 ≤ 244) (_h1 : 128 ≤ b1 ∧ b1 ≤ 191) (_h2 : 128 ≤ b2 ∧ b2 ≤ 191) (_h3 : 128 ≤ b3 ∧ b3 ≤ 191) (hc : b0 % 8 * 262144 + b1 % 64 * 4096 + b2 % 64 * 64 + b3 % 64 < 65536 ∨ 1114111 < b0 % 8 * 262144 + b1 % 64 * 4096 + b2 % 64 * 64 + b3 % 64) : firstN m b0 b1 b2 b3 = (0, 0) := by
  have hd : decodeN m b0 b1 b2 b3 = (65533, 1) := by
    unfold decodeN
    repeat' split
    all_goals first | with_reducible rfl | (exfalso; omega) | (apply Prod.ext <;> simp only <;> omega)
  unfold firstN
  rw [if_pos hd]
theorem first4_ok (m b0 b1 b2 b3 : Nat) (h : 240 ≤ b0 ∧ b0 ≤ 244) (hm : 4 ≤ m) (h1 : 128 ≤ b1 ∧ b1 ≤ 191) (h2 : 128 ≤ b2 ∧ b2 ≤ 191) (h3 : 128 ≤ b3 ∧ b3 ≤ 191) (hc : 65536 ≤ b0 % 8 * 262144 + b1 % 64 * 4096 + b2 % 64 * 64 + b3 % 64 ∧ b0 % 8 * 262144 + b1 % 64 * 4096 + b2 % 64 * 64 + b3 % 64 ≤ 1114111) : firstN m b0 b1 b2 b3 = (b0 % 8 * 262144 + b1 % 64 * 4096 + b2 % 64 * 64 + b3 % 64, 4) := by
  have hd : decodeN m b0 b1 b2 b3 = (b0 % 8 * 262144 + b1 % 64 * 4096 + b2 % 64 * 64 + b3 % 64, 4) := by
    unfold decodeN
    repeat' split
    all_goals first | with_reducible rfl | (exfalso; omega) | (apply Prod.ext <;> simp only <;> omega)
  unfold firstN
  rw [hd, if_neg]
  intro h
  have h2 : 4 = 1 := congrArg Prod.snd h
  have h1 : b0 % 8 * 262144 + b1 % 64 * 4096 + b2 % 64 * 64 + b3 % 64 = 65533 := congrArg Prod.fst h
  omega

theorem gb_get (s : ByteArray) (i : Nat) (h : i < s.size) : (s[i]'h).toNat = gb s i := by
  unfold gb
  rw [← get_at s i h]
  rfl
theorem not_empty (s : ByteArray) (h : 0 < s.size) : s.toList.isEmpty = false := by
  rw [Lib.toList_data]
  have hl : s.size = s.data.toList.length := (Array.length_toList (xs := s.data)).symm
  rw [hl] at h
  cases hd : s.data.toList with
  | nil => rw [hd] at h; simp at h
  | cons a l => rfl
/-- what First tells -/
def Told (w : World) (F : Nat × Nat) (e : Ending) (w' : World) : Prop := e = .returned (.tuple #[.int .i32 (F.1 : Int), .int .i64 (F.2 : Int)]) ∧ Below w.heap.size w w'

set_option maxHeartbeats 4000000 in
theorem first_zero (s : ByteArray) (w : World) (h1 : 1 ≤ s.size) (hmax : s.size ≤ maxLen) (h : (128 ≤ gb s 0 ∧ gb s 0 < 194) ∨ (244 < gb s 0 ∧ gb s 0 ≤ 255)) :
    Calls Tryz.prog 225 #[.string s] w (Told w (First s)) := by
  have hF : First s = (0, 0) := first_none _ _ _ _ _ h
  rw [hF]
  unfold maxLen at hmax
  have g0 := gb_get s 0 (by omega)
  have e1 := not_empty s (by omega)
  have e0 : (0 : Int) < (s.size : Int) := by omega
  generalize gb s 0 = b0 at *
  clear hF
  go_enter Tryz.func225, Tryz.ntmps225
  go_wp2_with fail
  refine (need_0 (b0 : Int) w (by omega)).mono ?_
  rintro e w' ⟨rfl, rfl⟩
  go_wp2
  go_ret2
  exact ⟨rfl, Below.refl _ _⟩
set_option maxHeartbeats 4000000 in
theorem first_s2 (s : ByteArray) (w : World) (h1 : 1 ≤ s.size) (hsh : s.size < 2) (h : 194 ≤ gb s 0 ∧ gb s 0 ≤ 223) :
    Calls Tryz.prog 225 #[.string s] w (Told w (First s)) := by
  have hF : First s = (0, 0) := first_short2 _ _ _ _ _ h hsh
  rw [hF]
  have g0 := gb_get s 0 (by omega)
  have e1 := not_empty s (by omega)
  have e0 : (0 : Int) < (s.size : Int) := by omega
  generalize gb s 0 = b0 at *
  clear hF
  go_enter Tryz.func225, Tryz.ntmps225
  go_wp2_with fail
  refine (need_2 (b0 : Int) w (by omega) (by omega)).mono ?_
  rintro e w' ⟨rfl, rfl⟩
  go_wp2
  go_ret2
  exact ⟨rfl, Below.refl _ _⟩
set_option maxHeartbeats 4000000 in
theorem first_s3 (s : ByteArray) (w : World) (h1 : 1 ≤ s.size) (hsh : s.size < 3) (h : 224 ≤ gb s 0 ∧ gb s 0 ≤ 239) :
    Calls Tryz.prog 225 #[.string s] w (Told w (First s)) := by
  have hF : First s = (0, 0) := first_short3 _ _ _ _ _ h hsh
  rw [hF]
  have g0 := gb_get s 0 (by omega)
  have e1 := not_empty s (by omega)
  have e0 : (0 : Int) < (s.size : Int) := by omega
  generalize gb s 0 = b0 at *
  clear hF
  go_enter Tryz.func225, Tryz.ntmps225
  go_wp2_with fail
  refine (need_3 (b0 : Int) w (by omega) (by omega)).mono ?_
  rintro e w' ⟨rfl, rfl⟩
  go_wp2
  go_ret2
  exact ⟨rfl, Below.refl _ _⟩
set_option maxHeartbeats 4000000 in
theorem first_s4 (s : ByteArray) (w : World) (h1 : 1 ≤ s.size) (hsh : s.size < 4) (h : 240 ≤ gb s 0 ∧ gb s 0 ≤ 244) :
    Calls Tryz.prog 225 #[.string s] w (Told w (First s)) := by
  have hF : First s = (0, 0) := first_short4 _ _ _ _ _ h hsh
  rw [hF]
  have g0 := gb_get s 0 (by omega)
  have e1 := not_empty s (by omega)
  have e0 : (0 : Int) < (s.size : Int) := by omega
  generalize gb s 0 = b0 at *
  clear hF
  go_enter Tryz.func225, Tryz.ntmps225
  go_wp2_with fail
  refine (need_4 (b0 : Int) w (by omega) (by omega)).mono ?_
  rintro e w' ⟨rfl, rfl⟩
  go_wp2
  go_ret2
  exact ⟨rfl, Below.refl _ _⟩
set_option maxHeartbeats 4000000 in
theorem first_ascii (s : ByteArray) (w : World) (h1 : 1 ≤ s.size) (hmax : s.size ≤ maxLen) (h : gb s 0 < 128) :
    Calls Tryz.prog 225 #[.string s] w (Told w (First s)) := by
  have hF : First s = (gb s 0, 1) := first_one _ _ _ _ _ h
  rw [hF]
  unfold maxLen at hmax
  have g0 := gb_get s 0 (by omega)
  have e1 := not_empty s (by omega)
  have e0 : (0 : Int) < (s.size : Int) := by omega
  have e4 : decide ((s.size : Int) < 1) = false := by simp; omega
  have rb : rightB (gb s 0 : Int) = true := by simp [rightB]; omega
  have lo' : decide ((gb s 0 : Int) < 0) = false := by simp
  generalize gb s 0 = b0 at *
  have RB := Lib.hid rb
  clear hF rb
  go_enter Tryz.func225, Tryz.ntmps225
  go_wp2_with fail
  refine (need_1 (b0 : Int) w (by omega) (by omega)).mono ?_
  rintro e w' ⟨rfl, rfl⟩
  go_wp2_with fail
  go_loop [5, 6] (fun cv iv => cv = .int .i32 b0 ∧ iv = .int .i64 1) (fun _ _ => 0)
  case atStart => exact ⟨rfl, rfl⟩
  case round =>
    obtain ⟨rfl, rfl⟩ := hrel
    go_wp2_with fail
    refine (refRight_is _ _ true RB.out).mono ?_
    rintro e w' ⟨rfl, rfl⟩
    go_wp2
    go_ret2
    exact ⟨rfl, (Below.refl _ _).alloc (Nat.le_refl _) _⟩

set_option maxHeartbeats 8000000 in
theorem first_m2 (s : ByteArray) (w : World) (hsz : 2 ≤ s.size) (hmax : s.size ≤ maxLen) (h : 194 ≤ gb s 0 ∧ gb s 0 ≤ 223) :
    Calls Tryz.prog 225 #[.string s] w (Told w (First s)) := by
  unfold maxLen at hmax
  unfold First
  have g0 := gb_get s 0 (by omega)
  have q0 := gb_lt s 0
  have e00 : (0 : Int) < (s.size : Int) := by omega
  have g1 := gb_get s 1 (by omega)
  have q1 := gb_lt s 1
  have e10 : (1 : Int) < (s.size : Int) := by omega
  have e1 := not_empty s (by omega)
  have e4 : decide ((s.size : Int) < 2) = false := by simp; omega
  generalize gb s 0 = b0 at *
  generalize gb s 1 = b1 at *
  generalize gb s 2 = b2 at *
  generalize gb s 3 = b3 at *
  obtain ⟨k1, hk1⟩ : ∃ k1 : Nat, k1 = b0 % 32 := ⟨_, rfl⟩
  have hk1' : (b0 : Int) % 32 = (k1 : Int) := by omega
  have hk1b : k1 < 32 := by omega
  obtain ⟨k2, hk2⟩ : ∃ k2 : Nat, k2 = k1 * 64 + b1 % 64 := ⟨_, rfl⟩
  have hk2' : (k1 : Int) * 64 + (b1 : Int) % 64 = (k2 : Int) := by omega
  have hk2b : k2 < 2048 := by omega
  have HK1 := Lib.hid hk1
  have HK2 := Lib.hid hk2
  clear hk1 hk2
  go_enter Tryz.func225, Tryz.ntmps225
  go_wp2_with fail
  refine (need_2 (b0 : Int) w (by omega) (by omega)).mono ?_
  rintro e w' ⟨rfl, rfl⟩
  go_wp2_with fail
  go_loopg [5, 6] 1 (fun g cv iv wr => w = wr ∧ ((g = 1 ∧ cv = .int .i32 k1 ∧ iv = .int .i64 1) ∨ (g = 0 ∧ cv = .int .i32 k2 ∧ iv = .int .i64 2 ∧ (128 ≤ b1 ∧ b1 ≤ 191))))
  case atStart => exact ⟨rfl, .inl ⟨rfl, by first | rfl | (exact congrArg (Value.int .i32) hk1'), rfl⟩⟩
  case round =>
    obtain ⟨rfl, hrel⟩ := hrel
    rcases hrel with ⟨hg, rfl, rfl⟩ | ⟨hg, rfl, rfl, hc1⟩
    · have HG := Lib.hid hg
      clear hg
      by_cases d1 : b1 < 128
      · have hF : firstN s.size b0 b1 b2 b3 = (0, 0) := first2_bad _ _ _ _ _ h (.inl d1)
        have HF := Lib.hid hF
        clear hF
        have d1' : (b1 : Int) < 128 := by omega
        go_wp2
        go_ret2
        exact ⟨by rw [HF.out]; rfl, Below.refl _ _⟩
      have d1' : decide ((b1 : Int) < 128) = false := by simp; omega
      by_cases d2 : 191 < b1
      · have hF : firstN s.size b0 b1 b2 b3 = (0, 0) := first2_bad _ _ _ _ _ h (.inr ⟨d2, by omega⟩)
        have HF := Lib.hid hF
        clear hF
        have d2' : (191 : Int) < (b1 : Int) := by omega
        go_wp2
        go_ret2
        exact ⟨by rw [HF.out]; rfl, Below.refl _ _⟩
      have d2' : decide ((191 : Int) < (b1 : Int)) = false := by simp; omega
      have hc1 : 128 ≤ b1 ∧ b1 ≤ 191 := by omega
      have HC1 := Lib.hid hc1
      clear hc1
      go_wp2
      go_roundg 0
      case measure => have := HG.out; omega
      case rel => exact ⟨rfl, .inr ⟨rfl, by first | rfl | go_num, rfl, HC1.out⟩⟩
    · clear hg
      have hv : k2 = b0 % 32 * 64 + b1 % 64 := by
        have := HK1.out
        have := HK2.out
        omega
      have hF : firstN s.size b0 b1 b2 b3 = (k2, 2) := by rw [hv]; exact first2_ok _ _ _ _ _ h hsz hc1
      have HF := Lib.hid hF
      have rb : rightB (k2 : Int) = true := by simp [rightB]; omega
      have RB := Lib.hid rb
      have lo : ¬ (k2 : Int) < 128 := by omega
      have lo' : decide ((k2 : Int) < 128) = false := by simpa using lo
      clear hF hv rb
      go_wp2_with fail
      refine (refRight_is _ _ true RB.out).mono ?_
      rintro e w' ⟨rfl, rfl⟩
      go_wp2
      go_ret2
      exact ⟨by rw [HF.out]; rfl, (Below.refl _ _).alloc (Nat.le_refl _) _⟩

set_option maxHeartbeats 8000000 in
theorem first_m3 (s : ByteArray) (w : World) (hsz : 3 ≤ s.size) (hmax : s.size ≤ maxLen) (h : 224 ≤ gb s 0 ∧ gb s 0 ≤ 239) :
    Calls Tryz.prog 225 #[.string s] w (Told w (First s)) := by
  unfold maxLen at hmax
  unfold First
  have g0 := gb_get s 0 (by omega)
  have q0 := gb_lt s 0
  have e00 : (0 : Int) < (s.size : Int) := by omega
  have g1 := gb_get s 1 (by omega)
  have q1 := gb_lt s 1
  have e10 : (1 : Int) < (s.size : Int) := by omega
  have g2 := gb_get s 2 (by omega)
  have q2 := gb_lt s 2
  have e20 : (2 : Int) < (s.size : Int) := by omega
  have e1 := not_empty s (by omega)
  have e4 : decide ((s.size : Int) < 3) = false := by simp; omega
  generalize gb s 0 = b0 at *
  generalize gb s 1 = b1 at *
  generalize gb s 2 = b2 at *
  generalize gb s 3 = b3 at *
  obtain ⟨k1, hk1⟩ : ∃ k1 : Nat, k1 = b0 % 16 := ⟨_, rfl⟩
  have hk1' : (b0 : Int) % 16 = (k1 : Int) := by omega
  have hk1b : k1 < 16 := by omega
  obtain ⟨k2, hk2⟩ : ∃ k2 : Nat, k2 = k1 * 64 + b1 % 64 := ⟨_, rfl⟩
  have hk2' : (k1 : Int) * 64 + (b1 : Int) % 64 = (k2 : Int) := by omega
  have hk2b : k2 < 1024 := by omega
  obtain ⟨k3, hk3⟩ : ∃ k3 : Nat, k3 = k2 * 64 + b2 % 64 := ⟨_, rfl⟩
  have hk3' : (k2 : Int) * 64 + (b2 : Int) % 64 = (k3 : Int) := by omega
  have hk3b : k3 < 65536 := by omega
  have HK1 := Lib.hid hk1
  have HK2 := Lib.hid hk2
  have HK3 := Lib.hid hk3
  clear hk1 hk2 hk3
  go_enter Tryz.func225, Tryz.ntmps225
  go_wp2_with fail
  refine (need_3 (b0 : Int) w (by omega) (by omega)).mono ?_
  rintro e w' ⟨rfl, rfl⟩
  go_wp2_with fail
  go_loopg [5, 6] 2 (fun g cv iv wr => w = wr ∧ ((g = 2 ∧ cv = .int .i32 k1 ∧ iv = .int .i64 1) ∨ (g = 1 ∧ cv = .int .i32 k2 ∧ iv = .int .i64 2 ∧ (128 ≤ b1 ∧ b1 ≤ 191)) ∨ (g = 0 ∧ cv = .int .i32 k3 ∧ iv = .int .i64 3 ∧ (128 ≤ b1 ∧ b1 ≤ 191) ∧ (128 ≤ b2 ∧ b2 ≤ 191))))
  case atStart => exact ⟨rfl, .inl ⟨rfl, by first | rfl | (exact congrArg (Value.int .i32) hk1'), rfl⟩⟩
  case round =>
    obtain ⟨rfl, hrel⟩ := hrel
    rcases hrel with ⟨hg, rfl, rfl⟩ | ⟨hg, rfl, rfl, hc1⟩ | ⟨hg, rfl, rfl, hc1, hc2⟩
    · have HG := Lib.hid hg
      clear hg
      by_cases d1 : b1 < 128
      · have hF : firstN s.size b0 b1 b2 b3 = (0, 0) := first3_bad1 _ _ _ _ _ h (.inl d1)
        have HF := Lib.hid hF
        clear hF
        have d1' : (b1 : Int) < 128 := by omega
        go_wp2
        go_ret2
        exact ⟨by rw [HF.out]; rfl, Below.refl _ _⟩
      have d1' : decide ((b1 : Int) < 128) = false := by simp; omega
      by_cases d2 : 191 < b1
      · have hF : firstN s.size b0 b1 b2 b3 = (0, 0) := first3_bad1 _ _ _ _ _ h (.inr ⟨d2, by omega⟩)
        have HF := Lib.hid hF
        clear hF
        have d2' : (191 : Int) < (b1 : Int) := by omega
        go_wp2
        go_ret2
        exact ⟨by rw [HF.out]; rfl, Below.refl _ _⟩
      have d2' : decide ((191 : Int) < (b1 : Int)) = false := by simp; omega
      have hc1 : 128 ≤ b1 ∧ b1 ≤ 191 := by omega
      have HC1 := Lib.hid hc1
      clear hc1
      go_wp2
      go_roundg 1
      case measure => have := HG.out; omega
      case rel => exact ⟨rfl, .inr (.inl ⟨rfl, by first | rfl | go_num, rfl, HC1.out⟩)⟩
    · have HG := Lib.hid hg
      clear hg
      by_cases d1 : b2 < 128
      · have hF : firstN s.size b0 b1 b2 b3 = (0, 0) := first3_bad2 _ _ _ _ _ h (.inl d1)
        have HF := Lib.hid hF
        clear hF
        have d1' : (b2 : Int) < 128 := by omega
        go_wp2
        go_ret2
        exact ⟨by rw [HF.out]; rfl, Below.refl _ _⟩
      have d1' : decide ((b2 : Int) < 128) = false := by simp; omega
      by_cases d2 : 191 < b2
      · have hF : firstN s.size b0 b1 b2 b3 = (0, 0) := first3_bad2 _ _ _ _ _ h (.inr ⟨d2, by omega⟩)
        have HF := Lib.hid hF
        clear hF
        have d2' : (191 : Int) < (b2 : Int) := by omega
        go_wp2
        go_ret2
        exact ⟨by rw [HF.out]; rfl, Below.refl _ _⟩
      have d2' : decide ((191 : Int) < (b2 : Int)) = false := by simp; omega
      have hc2 : 128 ≤ b2 ∧ b2 ≤ 191 := by omega
      have HC2 := Lib.hid hc2
      clear hc2
      go_wp2
      go_roundg 0
      case measure => have := HG.out; omega
      case rel => exact ⟨rfl, .inr (.inr ⟨rfl, by first | rfl | go_num, rfl, hc1, HC2.out⟩)⟩
    · clear hg
      have hv : k3 = b0 % 16 * 4096 + b1 % 64 * 64 + b2 % 64 := by
        have := HK1.out
        have := HK2.out
        have := HK3.out
        omega
      by_cases d1 : k3 < 2048
      · have hF : firstN s.size b0 b1 b2 b3 = (0, 0) := first3_no _ _ _ _ _ h hc1 hc2 (by rw [← hv]; omega)
        have HF := Lib.hid hF
        clear hF hv
        have d1' : (k3 : Int) < 2048 := by omega
        go_wp2
        go_ret2
        exact ⟨by rw [HF.out]; rfl, (Below.refl _ _).alloc (Nat.le_refl _) _⟩
      have lo' : decide ((k3 : Int) < 2048) = false := by simp; omega
      by_cases d2 : 55296 ≤ k3 ∧ k3 ≤ 57343
      · have hF : firstN s.size b0 b1 b2 b3 = (0, 0) := first3_no _ _ _ _ _ h hc1 hc2 (by rw [← hv]; omega)
        have HF := Lib.hid hF
        have rb : rightB (k3 : Int) = false := by simp [rightB]; omega
        have RB := Lib.hid rb
        clear hF hv rb d2
        go_wp2_with fail
        refine (refRight_is _ _ false RB.out).mono ?_
        rintro e w' ⟨rfl, rfl⟩
        go_wp2
        go_ret2
        exact ⟨by rw [HF.out]; rfl, (Below.refl _ _).alloc (Nat.le_refl _) _⟩
      have hF : firstN s.size b0 b1 b2 b3 = (k3, 3) := by rw [hv]; exact first3_ok _ _ _ _ _ h hsz hc1 hc2 (by rw [← hv]; omega)
      have HF := Lib.hid hF
      have rb : rightB (k3 : Int) = true := by simp [rightB]; omega
      have RB := Lib.hid rb
      clear hF hv rb d2
      go_wp2_with fail
      refine (refRight_is _ _ true RB.out).mono ?_
      rintro e w' ⟨rfl, rfl⟩
      go_wp2
      go_ret2
      exact ⟨by rw [HF.out]; rfl, (Below.refl _ _).alloc (Nat.le_refl _) _⟩

set_option maxHeartbeats 8000000 in
theorem first_m4 (s : ByteArray) (w : World) (hsz : 4 ≤ s.size) (hmax : s.size ≤ maxLen) (h : 240 ≤ gb s 0 ∧ gb s 0 ≤ 244) :
    Calls Tryz.prog 225 #[.string s] w (Told w (First s)) := by
  unfold maxLen at hmax
  unfold First
  have g0 := gb_get s 0 (by omega)
  have q0 := gb_lt s 0
  have e00 : (0 : Int) < (s.size : Int) := by omega
  have g1 := gb_get s 1 (by omega)
  have q1 := gb_lt s 1
  have e10 : (1 : Int) < (s.size : Int) := by omega
  have g2 := gb_get s 2 (by omega)
  have q2 := gb_lt s 2
  have e20 : (2 : Int) < (s.size : Int) := by omega
  have g3 := gb_get s 3 (by omega)
  have q3 := gb_lt s 3
  have e30 : (3 : Int) < (s.size : Int) := by omega
  have e1 := not_empty s (by omega)
  have e4 : decide ((s.size : Int) < 4) = false := by simp; omega
  generalize gb s 0 = b0 at *
  generalize gb s 1 = b1 at *
  generalize gb s 2 = b2 at *
  generalize gb s 3 = b3 at *
  obtain ⟨k1, hk1⟩ : ∃ k1 : Nat, k1 = b0 % 8 := ⟨_, rfl⟩
  have hk1' : (b0 : Int) % 8 = (k1 : Int) := by omega
  have hk1b : k1 < 8 := by omega
  obtain ⟨k2, hk2⟩ : ∃ k2 : Nat, k2 = k1 * 64 + b1 % 64 := ⟨_, rfl⟩
  have hk2' : (k1 : Int) * 64 + (b1 : Int) % 64 = (k2 : Int) := by omega
  have hk2b : k2 < 512 := by omega
  obtain ⟨k3, hk3⟩ : ∃ k3 : Nat, k3 = k2 * 64 + b2 % 64 := ⟨_, rfl⟩
  have hk3' : (k2 : Int) * 64 + (b2 : Int) % 64 = (k3 : Int) := by omega
  have hk3b : k3 < 32768 := by omega
  obtain ⟨k4, hk4⟩ : ∃ k4 : Nat, k4 = k3 * 64 + b3 % 64 := ⟨_, rfl⟩
  have hk4' : (k3 : Int) * 64 + (b3 : Int) % 64 = (k4 : Int) := by omega
  have hk4b : k4 < 2097152 := by omega
  have HK1 := Lib.hid hk1
  have HK2 := Lib.hid hk2
  have HK3 := Lib.hid hk3
  have HK4 := Lib.hid hk4
  clear hk1 hk2 hk3 hk4
  go_enter Tryz.func225, Tryz.ntmps225
  go_wp2_with fail
  refine (need_4 (b0 : Int) w (by omega) (by omega)).mono ?_
  rintro e w' ⟨rfl, rfl⟩
  go_wp2_with fail
  go_loopg [5, 6] 3 (fun g cv iv wr => w = wr ∧ ((g = 3 ∧ cv = .int .i32 k1 ∧ iv = .int .i64 1) ∨ (g = 2 ∧ cv = .int .i32 k2 ∧ iv = .int .i64 2 ∧ (128 ≤ b1 ∧ b1 ≤ 191)) ∨ (g = 1 ∧ cv = .int .i32 k3 ∧ iv = .int .i64 3 ∧ (128 ≤ b1 ∧ b1 ≤ 191) ∧ (128 ≤ b2 ∧ b2 ≤ 191)) ∨ (g = 0 ∧ cv = .int .i32 k4 ∧ iv = .int .i64 4 ∧ (128 ≤ b1 ∧ b1 ≤ 191) ∧ (128 ≤ b2 ∧ b2 ≤ 191) ∧ (128 ≤ b3 ∧ b3 ≤ 191))))
  case atStart => exact ⟨rfl, .inl ⟨rfl, by first | rfl | (exact congrArg (Value.int .i32) hk1'), rfl⟩⟩
  case round =>
    obtain ⟨rfl, hrel⟩ := hrel
    rcases hrel with ⟨hg, rfl, rfl⟩ | ⟨hg, rfl, rfl, hc1⟩ | ⟨hg, rfl, rfl, hc1, hc2⟩ | ⟨hg, rfl, rfl, hc1, hc2, hc3⟩
    · have HG := Lib.hid hg
      clear hg
      by_cases d1 : b1 < 128
      · have hF : firstN s.size b0 b1 b2 b3 = (0, 0) := first4_bad1 _ _ _ _ _ h (.inl d1)
        have HF := Lib.hid hF
        clear hF
        have d1' : (b1 : Int) < 128 := by omega
        go_wp2
        go_ret2
        exact ⟨by rw [HF.out]; rfl, Below.refl _ _⟩
      have d1' : decide ((b1 : Int) < 128) = false := by simp; omega
      by_cases d2 : 191 < b1
      · have hF : firstN s.size b0 b1 b2 b3 = (0, 0) := first4_bad1 _ _ _ _ _ h (.inr ⟨d2, by omega⟩)
        have HF := Lib.hid hF
        clear hF
        have d2' : (191 : Int) < (b1 : Int) := by omega
        go_wp2
        go_ret2
        exact ⟨by rw [HF.out]; rfl, Below.refl _ _⟩
      have d2' : decide ((191 : Int) < (b1 : Int)) = false := by simp; omega
      have hc1 : 128 ≤ b1 ∧ b1 ≤ 191 := by omega
      have HC1 := Lib.hid hc1
      clear hc1
      go_wp2
      go_roundg 2
      case measure => have := HG.out; omega
      case rel => exact ⟨rfl, .inr (.inl ⟨rfl, by first | rfl | go_num, rfl, HC1.out⟩)⟩
    · have HG := Lib.hid hg
      clear hg
      by_cases d1 : b2 < 128
      · have hF : firstN s.size b0 b1 b2 b3 = (0, 0) := first4_bad2 _ _ _ _ _ h (.inl d1)
        have HF := Lib.hid hF
        clear hF
        have d1' : (b2 : Int) < 128 := by omega
        go_wp2
        go_ret2
        exact ⟨by rw [HF.out]; rfl, Below.refl _ _⟩
      have d1' : decide ((b2 : Int) < 128) = false := by simp; omega
      by_cases d2 : 191 < b2
      · have hF : firstN s.size b0 b1 b2 b3 = (0, 0) := first4_bad2 _ _ _ _ _ h (.inr ⟨d2, by omega⟩)
        have HF := Lib.hid hF
        clear hF
        have d2' : (191 : Int) < (b2 : Int) := by omega
        go_wp2
        go_ret2
        exact ⟨by rw [HF.out]; rfl, Below.refl _ _⟩
      have d2' : decide ((191 : Int) < (b2 : Int)) = false := by simp; omega
      have hc2 : 128 ≤ b2 ∧ b2 ≤ 191 := by omega
      have HC2 := Lib.hid hc2
      clear hc2
      go_wp2
      go_roundg 1
      case measure => have := HG.out; omega
      case rel => exact ⟨rfl, .inr (.inr (.inl ⟨rfl, by first | rfl | go_num, rfl, hc1, HC2.out⟩))⟩
    · have HG := Lib.hid hg
      clear hg
      by_cases d1 : b3 < 128
      · have hF : firstN s.size b0 b1 b2 b3 = (0, 0) := first4_bad3 _ _ _ _ _ h (.inl d1)
        have HF := Lib.hid hF
        clear hF
        have d1' : (b3 : Int) < 128 := by omega
        go_wp2
        go_ret2
        exact ⟨by rw [HF.out]; rfl, Below.refl _ _⟩
      have d1' : decide ((b3 : Int) < 128) = false := by simp; omega
      by_cases d2 : 191 < b3
      · have hF : firstN s.size b0 b1 b2 b3 = (0, 0) := first4_bad3 _ _ _ _ _ h (.inr ⟨d2, by omega⟩)
        have HF := Lib.hid hF
        clear hF
        have d2' : (191 : Int) < (b3 : Int) := by omega
        go_wp2
        go_ret2
        exact ⟨by rw [HF.out]; rfl, Below.refl _ _⟩
      have d2' : decide ((191 : Int) < (b3 : Int)) = false := by simp; omega
      have hc3 : 128 ≤ b3 ∧ b3 ≤ 191 := by omega
      have HC3 := Lib.hid hc3
      clear hc3
      go_wp2
      go_roundg 0
      case measure => have := HG.out; omega
      case rel => exact ⟨rfl, .inr (.inr (.inr ⟨rfl, by first | rfl | go_num, rfl, hc1, hc2, HC3.out⟩))⟩
    · clear hg
      have hv : k4 = b0 % 8 * 262144 + b1 % 64 * 4096 + b2 % 64 * 64 + b3 % 64 := by
        have := HK1.out
        have := HK2.out
        have := HK3.out
        have := HK4.out
        omega
      by_cases d1 : k4 < 65536
      · have hF : firstN s.size b0 b1 b2 b3 = (0, 0) := first4_no _ _ _ _ _ h hc1 hc2 hc3 (by rw [← hv]; omega)
        have HF := Lib.hid hF
        clear hF hv
        have d1' : (k4 : Int) < 65536 := by omega
        go_wp2
        go_ret2
        exact ⟨by rw [HF.out]; rfl, (Below.refl _ _).alloc (Nat.le_refl _) _⟩
      have lo' : decide ((k4 : Int) < 65536) = false := by simp; omega
      by_cases d2 : 1114111 < k4
      · have hF : firstN s.size b0 b1 b2 b3 = (0, 0) := first4_no _ _ _ _ _ h hc1 hc2 hc3 (by rw [← hv]; omega)
        have HF := Lib.hid hF
        have rb : rightB (k4 : Int) = false := by simp [rightB]; omega
        have RB := Lib.hid rb
        clear hF hv rb d2
        go_wp2_with fail
        refine (refRight_is _ _ false RB.out).mono ?_
        rintro e w' ⟨rfl, rfl⟩
        go_wp2
        go_ret2
        exact ⟨by rw [HF.out]; rfl, (Below.refl _ _).alloc (Nat.le_refl _) _⟩
      have hF : firstN s.size b0 b1 b2 b3 = (k4, 4) := by rw [hv]; exact first4_ok _ _ _ _ _ h hsz hc1 hc2 hc3 (by rw [← hv]; omega)
      have HF := Lib.hid hF
      have rb : rightB (k4 : Int) = true := by simp [rightB]; omega
      have RB := Lib.hid rb
      clear hF hv rb d2
      go_wp2_with fail
      refine (refRight_is _ _ true RB.out).mono ?_
      rintro e w' ⟨rfl, rfl⟩
      go_wp2
      go_ret2
      exact ⟨by rw [HF.out]; rfl, (Below.refl _ _).alloc (Nat.le_refl _) _⟩

theorem first_any (s : ByteArray) (w : World) (h1 : 1 ≤ s.size) (hmax : s.size ≤ maxLen) : Calls Tryz.prog 225 #[.string s] w (Told w (First s)) := by
  have hb := gb_lt s 0
  by_cases c1 : gb s 0 < 128
  · exact first_ascii s w h1 hmax c1
  by_cases c2 : gb s 0 < 194
  · exact first_zero s w h1 hmax (.inl ⟨by omega, c2⟩)
  by_cases c3 : gb s 0 ≤ 223
  · by_cases d : s.size < 2
    · exact first_s2 s w h1 d ⟨by omega, c3⟩
    · exact first_m2 s w (by omega) hmax ⟨by omega, c3⟩
  by_cases c4 : gb s 0 ≤ 239
  · by_cases d : s.size < 3
    · exact first_s3 s w h1 d ⟨by omega, c4⟩
    · exact first_m3 s w (by omega) hmax ⟨by omega, c4⟩
  by_cases c5 : gb s 0 ≤ 244
  · by_cases d : s.size < 4
    · exact first_s4 s w h1 d ⟨by omega, c5⟩
    · exact first_m4 s w (by omega) hmax ⟨by omega, c5⟩
  · exact first_zero s w h1 hmax (.inr ⟨by omega, by omega⟩)
end Go.Proofs.YthaibekbefndlaaGreatDoor.C

namespace Go.Proofs.YthaibekbefndlaaGreatDoor.C
open Go.RowKit
open Go.Lib (decodeN)


theorem size_ext (s : ByteArray) (pos : Nat) : (s.extract pos s.size).size = s.size - pos := by simp
theorem gb_ext (s : ByteArray) (pos k : Nat) : gb (s.extract pos s.size) k = gb s (pos + k) := by
  simp only [gb_list]
  have hl : s.size = s.data.toList.length := (Array.length_toList (xs := s.data)).symm
  have he : (s.extract pos s.size).data.toList = s.data.toList.drop pos := by
    rw [Lib.extract_data]
    exact List.take_of_length_le (by rw [List.length_drop]; omega)
  rw [he]
  simp [List.getD_eq_getElem?_getD]
theorem first_ext (s : ByteArray) (pos : Nat) : First (s.extract pos s.size) = firstN (s.size - pos) (gb s pos) (gb s (pos + 1)) (gb s (pos + 2)) (gb s (pos + 3)) := by
  unfold First
  rw [size_ext, gb_ext, gb_ext, gb_ext, gb_ext, Nat.add_zero]
theorem first_good (s : ByteArray) (pos : Nat) (hp : pos < s.size) (h : ¬ decodeN (s.size - pos) (gb s pos) (gb s (pos + 1)) (gb s (pos + 2)) (gb s (pos + 3)) = (65533, 1)) :
    First (s.extract pos s.size) = Utf8.decode s pos ∧ cellAt s pos = ((Utf8.decode s pos).1 : Int) := by
  rw [first_ext, decode_gb, cellAt_eq s pos hp]
  unfold firstN cellN
  rw [if_neg h, if_neg h]
  exact ⟨rfl, rfl⟩
theorem first_wrong (s : ByteArray) (pos : Nat) (hp : pos < s.size) (h : decodeN (s.size - pos) (gb s pos) (gb s (pos + 1)) (gb s (pos + 2)) (gb s (pos + 3)) = (65533, 1)) :
    First (s.extract pos s.size) = (0, 0) ∧ cellAt s pos = -1 - (gb s pos : Int) ∧ (Utf8.decode s pos).2 = 1 := by
  rw [first_ext, decode_gb, cellAt_eq s pos hp]
  unfold firstN cellN
  rw [if_pos h, if_pos h, h]
  exact ⟨rfl, rfl, rfl⟩
theorem first_told (s : ByteArray) (w : World) (h1 : 1 ≤ s.size) (hmax : s.size ≤ maxLen) (F : Nat × Nat) (hF : First s = F) :
    Calls Tryz.prog 225 #[.string s] w fun e w' => e = .returned (.tuple #[.int .i32 (F.1 : Int), .int .i64 (F.2 : Int)]) ∧ Below w.heap.size w w' := by
  subst hF
  exact first_any s w h1 hmax

set_option maxHeartbeats 4000000 in
theorem refOf_any (s : ByteArray) (w : World) (hs : s.size ≤ 1099511627776) :
    Calls Tryz.prog 202 #[.string s] w fun e w' => ∃ v, e = .returned v ∧ w'.ownsRow w.heap.size 35 1 v (ofL s).length ((ofL s).map (Value.int .i32)) ∧ Below w.heap.size w w' := by
  obtain ⟨i0, hi, hz0, hz1, hz2⟩ := info_parts info33
  go_enter Tryz.func202, Tryz.ntmps202
  go_wp2
  go_loopw [3, 4] (fun v pv wr => ∃ (pos b : Nat) (acc : List Int), pv = .int .i64 pos ∧ OfSt s acc b pos ∧ Hid (wr.ownsRow w.heap.size 35 1 v acc.length (acc.map (Value.int .i32))) ∧ Below w.heap.size w wr) (fun _ pv _ => s.size - (intOf pv).toNat)
  case atStart => exact ⟨0, s.size, [], rfl, ofSt_zero s, World.ownsRow_nil _ _ _ _, Below.refl _ _⟩
  case round =>
    obtain ⟨pos, b, acc, rfl, hst, HW, hbr⟩ := hrel
    have HST := Lib.hid hst
    clear hst
    have hsz := hbr.size
    by_cases hp : pos < s.size
    · obtain ⟨b', hst'⟩ := ofSt_step HST.out hp
      have HS' := Lib.hid hst'
      have hwd := Lib.decode_width_pos s pos hp
      clear hst'
      by_cases hbad : decodeN (s.size - pos) (gb s pos) (gb s (pos + 1)) (gb s (pos + 2)) (gb s (pos + 3)) = (65533, 1)
      · obtain ⟨hF, hcv, hw1⟩ := first_wrong s pos hp hbad
        have HF := Lib.hid hF
        have HCV := Lib.hid hcv
        have HW1 := Lib.hid hw1
        have g0 := gb_get s pos hp
        have gl := gb_lt s pos
        clear hF hcv hw1 hbad hwd
        generalize gb s pos = b0 at *
        go_wp2_with fail
        refine (first_told (s.extract pos s.size) wr (by rw [size_ext]; omega) (by rw [size_ext]; unfold maxLen; omega) (0, 0) HF.out).mono ?_
        rintro e w1 ⟨rfl, hb1⟩
        have hs1 := hb1.size
        have HOW := Lib.hid (own_keep HW.out hb1)
        have hbW : Below w.heap.size w w1 := hbr.trans (hb1.mono hsz)
        go_wp2_with fail
        refine (refEscape_any (b0 : Int) w1 (by omega) (by omega)).mono ?_
        rintro e w' ⟨rfl, rfl⟩
        go_wp2_with (at_builtin; (refine wpList_append_own _ rfl _ _ 32 rfl w.heap.size 35 i0 (.int .i32 0) 1 4 Tryz.underlying32 hi hz0 hz1 hz2 rfl (by decide) _ _ _ rfl (HOW.out.alloc _) _ 1 1 [.int .i32 (-1 - (b0 : Int))] rfl rfl (cell_one_new _ _ _) (by intro u hu; simp at hu; subst hu; rfl) (by unfold maxLen; have := HST.out.2.2.2; omega) (by have := HST.out.2.2.2; omega) (by simp; omega) ?_); intro v' w3 hown' hgrow _; have HO3 := Lib.hid hown'; have HG3 := Lib.hid hgrow; clear hown' hgrow)
        go_roundw
        case rel => exact ⟨pos + (Utf8.decode s pos).2, b', acc ++ [cellAt s pos], by rw [HW1.out]; go_num, HS'.out, by have := HO3.out; rw [← HCV.out] at this; simpa [Hid] using this, ((hbW.alloc (by omega) _).grown HG3.out (by simp; omega) (fun k hk => (HOW.out.lt k hk).1))⟩
        case measure => simp [intOf]; omega
      · obtain ⟨hF, hcv⟩ := first_good s pos hp hbad
        have HF := Lib.hid hF
        have HCV := Lib.hid hcv
        have hwl := decodeN_le (s.size - pos) (gb s pos) (gb s (pos + 1)) (gb s (pos + 2)) (gb s (pos + 3)) (by omega)
        rw [← decode_gb] at hwl
        clear hF hcv hbad
        go_wp2_with fail
        refine (first_told (s.extract pos s.size) wr (by rw [size_ext]; omega) (by rw [size_ext]; unfold maxLen; omega) _ HF.out).mono ?_
        rintro e w1 ⟨rfl, hb1⟩
        have hs1 := hb1.size
        have HOW := Lib.hid (own_keep HW.out hb1)
        have hbW : Below w.heap.size w w1 := hbr.trans (hb1.mono hsz)
        have n0 : (((Utf8.decode s pos).2 : Int) == 0) = false := by simp; omega
        go_wp2_with (at_builtin; (refine wpList_append_own _ rfl _ _ 32 rfl w.heap.size 35 i0 (.int .i32 0) 1 4 Tryz.underlying32 hi hz0 hz1 hz2 rfl (by decide) _ _ _ rfl (HOW.out.alloc _) _ 1 1 [.int .i32 ((Utf8.decode s pos).1 : Int)] rfl rfl (cell_one_new _ _ _) (by intro u hu; simp at hu; subst hu; rfl) (by unfold maxLen; have := HST.out.2.2.2; omega) (by have := HST.out.2.2.2; omega) (by simp; omega) ?_); intro v' w3 hown' hgrow _; have HO3 := Lib.hid hown'; have HG3 := Lib.hid hgrow; clear hown' hgrow)
        go_roundw
        case rel => exact ⟨pos + (Utf8.decode s pos).2, b', acc ++ [cellAt s pos], by go_num, HS'.out, by have := HO3.out; rw [← HCV.out] at this; simpa [Hid] using this, ((hbW.alloc (by omega) _).grown HG3.out (by simp; omega) (fun k hk => (HOW.out.lt k hk).1))⟩
        case measure => simp [intOf]; omega
    · go_wp2
      go_ret
      refine ⟨_, rfl, ?_, hbr⟩
      rw [ofSt_end HST.out hp]
      exact HW.out
end Go.Proofs.YthaibekbefndlaaGreatDoor.C

namespace Go.Proofs.YthaibekbefndlaaGreatDoor.C
open Go.RowKit

theorem below_drewN {B : Nat} {a w : World} (h : Below B a w) (n : Nat) : Below B a (w.drewN n) := ⟨h.os, h.tape, h.output, h.size, h.block⟩
theorem conv_ri {w : World} {B n : Nat} {A : Option Addr} {zs : List Int} (h : RI .u8 w B A n zs) (c : Nat) : (convert 38 9 (.slice A n c)).run Tryz.prog w = .ok (.string (sb zs)) w := by
  rcases Nat.eq_zero_or_pos n with h0 | h0
  · subst h0
    obtain rfl : zs = [] := List.eq_nil_of_length_eq_zero h.1
    exact run_convert_bytes_zero w 38 5 Tryz.underlying38 Tryz.underlying5 A c 9 Tryz.underlying9
  · obtain ⟨b, off, rfl, _, hc⟩ := h.flat h0
    refine run_convert_bytes_arg w 38 5 Tryz.underlying38 Tryz.underlying5 b off n c zs h.1 (fun i hi => ?_) 9 Tryz.underlying9
    have hi' : i < zs.length := by rw [h.1]; exact hi
    rw [hc i zs[i] (List.getElem?_eq_getElem hi')]
    simp [List.getD_eq_getElem?_getD, List.getElem?_eq_getElem hi']
theorem own_slice2 {w : World} {base : Nat} {e : TypeId} {ki : IntKind} {v : Value} {n : Nat} {zs : List Int} (h : w.ownsRow base e 1 v n (zs.map (Value.int ki))) : ∃ A c, v = .slice A n c ∧ n ≤ c ∧ c ≤ maxLen ∧ RI ki w w.heap.size A n zs := by
  rcases h.2 with ⟨rfl, rfl⟩ | ⟨g, c, cur, rfl, _, _, hc, hm, _⟩
  · have hz : zs = [] := List.eq_nil_of_length_eq_zero (by have := h.1; simpa using this)
    subst hz
    exact ⟨none, 0, rfl, Nat.le_refl _, Nat.zero_le _, RI.none_⟩
  · exact ⟨_, c, rfl, hc, hm, RI.of_own h⟩
theorem RI.new (w : World) (ki : IntKind) (zs : List Int) (t : TypeId) : RI ki (w.alloc (.cells (zs.map (Value.int ki)).toArray t)) (w.heap.size + 1) (some ⟨w.heap.size, 0, none⟩) zs.length zs :=
  ⟨rfl, fun _ => ⟨_, rfl, Nat.lt_succ_self _, fun j u hu => by
    rw [add_plain, Nat.zero_add, World.cell?_alloc_new]
    simp [hu]⟩⟩

set_option maxHeartbeats 1000000 in
theorem canonical_any (w : World) (B : Nat) (A : Option Addr) (n c : Nat) (xs : List Int) (hx : RI .i32 w B A n xs) (hB : B ≤ w.heap.size) (hn : n ≤ 268435456) (hT : Lib.Utf8Tabs 3 4 w) :
    Calls Tryz.prog 160 #[.slice A n c] w fun e w' => e = .returned (.bool (canonB xs)) ∧ Below w.heap.size w w' := by
  have HX := Lib.hid hx
  have HT := Lib.hid hT
  clear hx hT
  cases ha : xs.all rightB with
  | false =>
    have hcb : canonB xs = false := by simp only [canonB, ha, Bool.false_and]
    have HA := Lib.hid ha
    rw [hcb]
    clear ha hcb
    go_enter Tryz.func160, Tryz.ntmps160
    go_wp2_with fail
    refine (encode_no w B A n c xs HX.out hB (by omega) HA.out).mono ?_
    rintro e w1 ⟨rfl, hb1⟩
    go_wp2
    go_ret
    exact ⟨rfl, hb1⟩
  | true =>
    have hcb : canonB xs = sameB (ofL (sb (encL xs))) xs := by simp only [canonB, ha, Bool.true_and]
    have HA := Lib.hid ha
    rw [hcb]
    clear ha hcb
    have hle := (encL_len xs).2
    rw [HX.out.len] at hle
    go_enter Tryz.func160, Tryz.ntmps160
    go_wp2_with fail
    refine (encode_yes w B A n c xs HX.out hB (by omega) HA.out).mono ?_
    rintro e w1 ⟨v1, rfl, hown1, hb1⟩
    obtain ⟨A1, c1, rfl, hc1, hm1, hr1⟩ := own_slice2 hown1
    have HR1 := Lib.hid hr1
    have hs1 := hb1.size
    clear hown1 hr1
    generalize hln : (encL xs).length = ln at *
    have HLN := Lib.hid hln
    clear hln
    go_wp2_with fail
    refine (decode_any w1 w1.heap.size A1 ln c1 (encL xs) HR1.out (Nat.le_refl _) (all_bd HA.out) hc1 (by omega) hm1 (tabs_below HT.out hb1)).mono ?_
    rintro e w2 ⟨v2, rfl, hown2, hb2⟩
    obtain ⟨A2, c2, rfl, hc2, hm2, hr2⟩ := own_slice2 hown2
    have HR2 := Lib.hid hr2
    have hs2 := hb2.size
    clear hown2 hr2
    have hx2 : RI .i32 w2 B A n xs := (HX.out.keep fun p hp => hb1.cell (p := p) (by omega)).keep fun p hp => hb2.cell (p := p) (by omega)
    have HX2 := Lib.hid hx2
    clear hx2
    generalize hl2 : (ofL (sb (encL xs))).length = l2 at *
    have HL2 := Lib.hid hl2
    clear hl2
    unfold maxLen at hm2
    go_wp2_with fail
    refine (equal_any w2 w2.heap.size B A2 A l2 c2 n c (ofL (sb (encL xs))) xs HR2.out HX2.out (by omega)).mono ?_
    rintro e w3 ⟨rfl, q, rfl⟩
    go_wp2
    go_ret
    exact ⟨rfl, below_drewN (hb1.trans (hb2.mono hs1)) q⟩
theorem canonical_is (w : World) (B : Nat) (A : Option Addr) (n c : Nat) (xs : List Int) (hx : RI .i32 w B A n xs) (hB : B ≤ w.heap.size) (hn : n ≤ 268435456) (hT : Lib.Utf8Tabs 3 4 w) (r : Bool) (hr : canonB xs = r) :
    Calls Tryz.prog 160 #[.slice A n c] w fun e w' => e = .returned (.bool r) ∧ Below w.heap.size w w' := by
  subst hr
  exact canonical_any w B A n c xs hx hB hn hT

set_option maxHeartbeats 400000 in
theorem refDecode_any (w : World) (B : Nat) (A : Option Addr) (n c : Nat) (zs : List Int) (hx : RI .u8 w B A n zs) (hn : n ≤ 1099511627776) :
    Calls Tryz.prog 186 #[.slice A n c] w fun e w' => ∃ v, e = .returned v ∧ w'.ownsRow w.heap.size 35 1 v (ofL (sb zs)).length ((ofL (sb zs)).map (Value.int .i32)) ∧ Below w.heap.size w w' := by
  have hcv := conv_ri hx c
  have hl : (sb zs).size ≤ 1099511627776 := by rw [sb_size, hx.len]; exact hn
  have HL := Lib.hid hl
  clear hx hl
  generalize sb zs = s at *
  go_enter Tryz.func186, Tryz.ntmps186
  go_wp2_with fail
  refine (refOf_any s w HL.out).mono ?_
  rintro e w1 ⟨v, rfl, hown, hb⟩
  have HO := Lib.hid hown
  clear hown
  go_wp2
  go_ret
  exact ⟨v, rfl, HO.out, hb⟩

/-- a scalar's bytes, in a new row -/
def SeqTold (c : Int) (w : World) (e : Ending) (w' : World) : Prop :=
  e = .returned (.slice (some ⟨w.heap.size, 0, none⟩) (encC c).length (encC c).length) ∧ RI .u8 w' (w.heap.size + 1) (some ⟨w.heap.size, 0, none⟩) (encC c).length (encC c) ∧ w.heap.size + 1 ≤ w'.heap.size ∧ Below w.heap.size w w'
theorem seq_told {c : Int} {zs : List Int} (h : encC c = zs) (w : World) (t : TypeId) : SeqTold c w (.returned (.slice (some ⟨w.heap.size, 0, none⟩) zs.length zs.length)) (w.alloc (.cells (zs.map (Value.int .u8)).toArray t)) := by
  subst h
  exact ⟨rfl, RI.new w .u8 _ t, by simp, (Below.refl _ _).alloc (Nat.le_refl _) _⟩

set_option maxHeartbeats 1000000 in
theorem sequence_any (c : Int) (w : World) (h0 : 0 ≤ c) (hr : rightB c = true) : Calls Tryz.prog 95 #[.int .i32 c] w (SeqTold c w) := by
  have hb : c < 55296 ∨ (57343 < c ∧ c ≤ 1114111) := by unfold rightB at hr; simp at hr; omega
  have e0 : encC c = Lib.encodeRuneZ c := by unfold encC; rw [if_neg (by omega)]
  clear hr
  by_cases c1 : c < 128
  · have he := e0.trans (Lib.encodeRuneZ_one h0 (by omega))
    have HE := Lib.hid he
    clear he e0 hb
    go_enter Tryz.func95, Tryz.ntmps95
    go_wp2
    go_ret
    exact seq_told HE.out w _
  by_cases c2 : c < 2048
  · have he := e0.trans (Lib.encodeRuneZ_two (by omega) (by omega))
    have HE := Lib.hid he
    clear he e0 hb
    go_enter Tryz.func95, Tryz.ntmps95
    go_wp2
    go_ret
    exact seq_told HE.out w _
  by_cases c3 : c < 65536
  · have he := e0.trans (Lib.encodeRuneZ_three (by omega))
    have HE := Lib.hid he
    clear he e0 hb
    go_enter Tryz.func95, Tryz.ntmps95
    go_wp2
    go_ret
    exact seq_told HE.out w _
  · have he := e0.trans (Lib.encodeRuneZ_four (by omega) (by omega))
    have HE := Lib.hid he
    have hb4 : c ≤ 1114111 := by omega
    clear he e0 hb
    go_enter Tryz.func95, Tryz.ntmps95
    go_wp2
    go_ret
    exact seq_told HE.out w _

/-- what the document's Encode answers -/
def REncTold (xs : List Int) (w : World) (e : Ending) (w' : World) : Prop :=
  Below w.heap.size w w' ∧ ((xs.all rightB = true ∧ ∃ v, e = .returned (.tuple #[v, .int .i64 0]) ∧ w'.ownsRow w.heap.size 5 1 v (encL xs).length ((encL xs).map (Value.int .u8))) ∨
    (xs.all rightB = false ∧ e = .returned (.tuple #[.slice none 0 0, .int .i64 10])))

set_option maxHeartbeats 2000000 in
theorem refEncode_told (w : World) (B : Nat) (A : Option Addr) (n c : Nat) (xs : List Int) (hx : RI .i32 w B A n xs) (hB : B ≤ w.heap.size) (hn : n ≤ 1073741824) :
    Calls Tryz.prog 46 #[.slice A n c] w (REncTold xs w) := by
  obtain ⟨i0, hi, hz0, hz1, hz2⟩ := info_parts info8
  have HX := Lib.hid hx
  clear hx
  go_enter Tryz.func46, Tryz.ntmps46
  go_wp2
  go_loopw [4, 5] (fun v i wr => ∃ k : Nat, k ≤ n ∧ i = .int .i64 k ∧ Hid ((xs.take k).all rightB = true) ∧ Hid (wr.ownsRow w.heap.size 5 1 v (encL (xs.take k)).length ((encL (xs.take k)).map (Value.int .u8))) ∧ Below w.heap.size w wr) (fun _ i _ => n - (intOf i).toNat)
  case atStart => exact ⟨0, Nat.zero_le _, rfl, rfl, World.ownsRow_nil _ _ _ _, Below.refl _ _⟩
  case round =>
    obtain ⟨k, hk, rfl, HA, HW, hbr⟩ := hrel
    have hsz := hbr.size
    by_cases hlt : k < n
    · obtain ⟨ad, u, rfl, hbl, hu, hcell⟩ := HX.out.at_ hlt
      have hcr : wr.cell? (ad.add k) = some (.int .i32 u) := (hbr.cell (p := ad.add k) (by rw [block_of_add]; omega)).trans hcell
      have HU := Lib.hid hu
      clear hu hcell
      cases hru : rightB u with
      | true =>
        have hle := (encL_len (xs.take k)).2
        have hlk : (xs.take k).length ≤ k := List.length_take_le _ _
        have hub : -256 ≤ u := by unfold rightB at hru; simp at hru; omega
        have HRU := Lib.hid hru
        clear hru
        by_cases hneg : u < 0
        · have he : encC u = [-1 - u] := by unfold encC; rw [if_pos hneg]
          have HE := Lib.hid he
          clear he
          go_wp2_with fail
          refine (refRight_is u wr true HRU.out).mono ?_
          rintro e w' ⟨rfl, rfl⟩
          go_wp2_with fail
          refine (refByte_yes u wr hub hneg).mono ?_
          rintro e w' ⟨rfl, rfl⟩
          go_wp2_with (at_builtin; (refine wpList_append_own _ rfl _ _ 38 rfl w.heap.size 5 i0 (.int .u8 0) 1 1 Tryz.underlying38 hi hz0 hz1 hz2 rfl (by decide) _ _ _ rfl (HW.out.alloc _) _ 1 1 [.int .u8 (-1 - u)] rfl rfl (cell_one_new _ _ _) (by intro u hu; simp at hu; subst hu; rfl) (by unfold maxLen; omega) (by omega) (by simp; omega) ?_); intro v' w3 hown' hgrow _; have HO3 := Lib.hid hown'; have HG3 := Lib.hid hgrow; clear hown' hgrow)
          have hown2 : Hid (w3.ownsRow w.heap.size 5 1 v' (encL (xs.take (k + 1))).length ((encL (xs.take (k + 1))).map (Value.int .u8))) := by
            rw [take_snoc HU.out, encL_snoc, HE.out]
            simpa [Hid] using HO3.out
          go_roundw
          case rel => exact ⟨k + 1, by omega, by go_num, take_right HA.out HU.out HRU.out, hown2, (hbr.alloc (by omega) _).grown HG3.out (by simp; omega) (fun k hk => (HW.out.lt k hk).1)⟩
          case measure => simp [intOf]; omega
        · go_wp2_with fail
          refine (refRight_is u wr true HRU.out).mono ?_
          rintro e w' ⟨rfl, rfl⟩
          go_wp2_with fail
          refine (refByte_no u wr (by omega)).mono ?_
          rintro e w' ⟨rfl, rfl⟩
          go_wp2_with fail
          refine (sequence_any u wr (by omega) HRU.out).mono ?_
          rintro e w1 ⟨rfl, hr1, hs1, hb1⟩
          have HR1 := Lib.hid hr1
          have HOW := Lib.hid (own_keep HW.out hb1)
          have hbW : Below w.heap.size w w1 := hbr.trans (hb1.mono hsz)
          have hel := encC_len u
          clear hr1
          generalize hln : (encC u).length = ln at *
          have HLN := Lib.hid hln
          clear hln
          go_wp2_with (at_builtin; (refine wpList_append_ri _ rfl (.tmp 39) (.tmp 40) 38 rfl w.heap.size 5 i0 (.int .u8 0) 1 Tryz.underlying38 hi hz0 hz1 hz2 rfl _ _ _ rfl HOW.out .u8 _ _ ln ln _ rfl HR1.out (by unfold maxLen; omega) (by omega) (by omega) ?_); intro v' w3 hown' hgrow; have HO3 := Lib.hid hown'; have HG3 := Lib.hid hgrow; clear hown' hgrow)
          have hown2 : Hid (w3.ownsRow w.heap.size 5 1 v' (encL (xs.take (k + 1))).length ((encL (xs.take (k + 1))).map (Value.int .u8))) := by
            rw [take_snoc HU.out, encL_snoc, List.length_append, HLN.out]
            simpa [Hid] using HO3.out
          go_roundw
          case rel => exact ⟨k + 1, by omega, by go_num, take_right HA.out HU.out HRU.out, hown2, hbW.grown HG3.out (by omega) (fun k hk => (HOW.out.lt k hk).1)⟩
          case measure => simp [intOf]; omega
      | false =>
        have HRU := Lib.hid hru
        clear hru
        go_wp2_with fail
        refine (refRight_is u wr false HRU.out).mono ?_
        rintro e w' ⟨rfl, rfl⟩
        go_wp2
        go_ret2
        exact ⟨hbr, .inr ⟨not_right HU.out HRU.out, rfl⟩⟩
    · have hkn : xs.take k = xs := List.take_of_length_le (by rw [HX.out.len]; omega)
      have HK := Lib.hid hkn
      clear hkn
      go_wp2
      go_ret2
      refine ⟨hbr, .inl ⟨?_, _, rfl, ?_⟩⟩
      · have := HA.out
        rwa [HK.out] at this
      · have := HW.out
        rwa [HK.out] at this
theorem refEncode_yes (w : World) (B : Nat) (A : Option Addr) (n c : Nat) (xs : List Int) (hx : RI .i32 w B A n xs) (hB : B ≤ w.heap.size) (hn : n ≤ 1073741824) (ha : xs.all rightB = true) :
    Calls Tryz.prog 46 #[.slice A n c] w fun e w' => ∃ v, e = .returned (.tuple #[v, .int .i64 0]) ∧ w'.ownsRow w.heap.size 5 1 v (encL xs).length ((encL xs).map (Value.int .u8)) ∧ Below w.heap.size w w' := by
  refine (refEncode_told w B A n c xs hx hB hn).mono ?_
  rintro e w' ⟨hb, ⟨_, v, rfl, ho⟩ | ⟨h, _⟩⟩
  · exact ⟨v, rfl, ho, hb⟩
  · rw [ha] at h; cases h
theorem refEncode_no (w : World) (B : Nat) (A : Option Addr) (n c : Nat) (xs : List Int) (hx : RI .i32 w B A n xs) (hB : B ≤ w.heap.size) (hn : n ≤ 1073741824) (ha : xs.all rightB = false) :
    Calls Tryz.prog 46 #[.slice A n c] w fun e w' => e = .returned (.tuple #[.slice none 0 0, .int .i64 10]) ∧ Below w.heap.size w w' := by
  refine (refEncode_told w B A n c xs hx hB hn).mono ?_
  rintro e w' ⟨hb, ⟨h, _⟩ | ⟨_, rfl⟩⟩
  · rw [ha] at h; cases h
  · exact ⟨rfl, hb⟩

theorem sameL_sameB (xs ys : List Int) : sameL xs ys = sameB xs ys := by
  by_cases h : xs = ys
  · rw [sameL_true h]; simp [sameB, h]
  · rw [sameL_false h]; simp [sameB, h]
set_option maxHeartbeats 1000000 in
theorem refCanonical_any (w : World) (B : Nat) (A : Option Addr) (n c : Nat) (xs : List Int) (hx : RI .i32 w B A n xs) (hB : B ≤ w.heap.size) (hn : n ≤ 268435456) :
    Calls Tryz.prog 148 #[.slice A n c] w fun e w' => e = .returned (.bool (canonB xs)) ∧ Below w.heap.size w w' := by
  have HX := Lib.hid hx
  clear hx
  cases ha : xs.all rightB with
  | false =>
    have hcb : canonB xs = false := by simp only [canonB, ha, Bool.false_and]
    have HA := Lib.hid ha
    rw [hcb]
    clear ha hcb
    go_enter Tryz.func148, Tryz.ntmps148
    go_wp2_with fail
    refine (refEncode_no w B A n c xs HX.out hB (by omega) HA.out).mono ?_
    rintro e w1 ⟨rfl, hb1⟩
    go_wp2
    go_ret
    exact ⟨rfl, hb1⟩
  | true =>
    have hcb : canonB xs = sameL (ofL (sb (encL xs))) xs := by rw [sameL_sameB]; simp only [canonB, ha, Bool.true_and]
    have HA := Lib.hid ha
    rw [hcb]
    clear ha hcb
    have hle := (encL_len xs).2
    rw [HX.out.len] at hle
    go_enter Tryz.func148, Tryz.ntmps148
    go_wp2_with fail
    refine (refEncode_yes w B A n c xs HX.out hB (by omega) HA.out).mono ?_
    rintro e w1 ⟨v1, rfl, hown1, hb1⟩
    obtain ⟨A1, c1, rfl, hc1, hm1, hr1⟩ := own_slice2 hown1
    have HR1 := Lib.hid hr1
    have hs1 := hb1.size
    clear hown1 hr1
    generalize hln : (encL xs).length = ln at *
    have HLN := Lib.hid hln
    clear hln
    go_wp2_with fail
    refine (refDecode_any w1 w1.heap.size A1 ln c1 (encL xs) HR1.out (by omega)).mono ?_
    rintro e w2 ⟨v2, rfl, hown2, hb2⟩
    obtain ⟨A2, c2, rfl, hc2, hm2, hr2⟩ := own_slice2 hown2
    have HR2 := Lib.hid hr2
    have hs2 := hb2.size
    clear hown2 hr2
    have hx2 : RI .i32 w2 B A n xs := (HX.out.keep fun p hp => hb1.cell (p := p) (by omega)).keep fun p hp => hb2.cell (p := p) (by omega)
    have HX2 := Lib.hid hx2
    clear hx2
    generalize hl2 : (ofL (sb (encL xs))).length = l2 at *
    have HL2 := Lib.hid hl2
    clear hl2
    go_wp2_with fail
    refine (same_any w2 w2.heap.size B A2 A l2 c2 n c (ofL (sb (encL xs))) xs HR2.out HX2.out (by omega) (by unfold maxLen; omega)).mono ?_
    rintro e w3 ⟨rfl, q, rfl⟩
    go_wp2
    go_ret
    exact ⟨rfl, below_drewN (hb1.trans (hb2.mono hs1)) q⟩
theorem refCanonical_is (w : World) (B : Nat) (A : Option Addr) (n c : Nat) (xs : List Int) (hx : RI .i32 w B A n xs) (hB : B ≤ w.heap.size) (hn : n ≤ 268435456) (r : Bool) (hr : canonB xs = r) :
    Calls Tryz.prog 148 #[.slice A n c] w fun e w' => e = .returned (.bool r) ∧ Below w.heap.size w w' := by
  subst hr
  exact refCanonical_any w B A n c xs hx hB hn
end Go.Proofs.YthaibekbefndlaaGreatDoor.C
