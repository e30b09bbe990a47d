/-
  Contracts of lex.digitsOf, lex.printed and lex.Print: what the plain functions say. Condition: what is asked of the listed variables ('Gl').
-/
import Derived.Test.YtnifcgiajjmogaaGreatDoorLxH
namespace Go.Proofs.YtnifcgiajjmogaaGreatDoor.C
open Go.RowKit

set_option maxHeartbeats 1000000 in
theorem formatStr_16 (w : World) (u : Nat) (hu : u < 16 ^ 16) (hT : w.cell? ⟨9, 15, none⟩ = some (.int .u8 4)) :
    Calls Tryz.prog 78 #[.slice none 0 0, .int .u64 u, .int .i64 16, .bool false, .bool false] w fun e w' => e = .returned (.tuple #[.slice none 0 0, .string (str (hexL u))]) ∧ Below w.heap.size w w' := by
  have HU := Lib.hid hu
  clear hu
  have hz := zeroArray
  have hT1 : ∀ o, (w.alloc o).cell? ⟨9, 15, none⟩ = some (.int .u8 4) := fun o => by rw [World.cell?_alloc_lt w o _ (World.block_lt_of_cell? w _ hT)]; exact hT
  go_enter Tryz.func78, Tryz.ntmps78
  go_wp2_with fail
  refine (isPow_16 _).mono ?_
  rintro e w' ⟨rfl, rfl⟩
  go_wp2_with fail
  refine (tz_16 _ (hT1 _)).mono ?_
  rintro e w' ⟨rfl, rfl⟩
  go_wp2_with fail
  go_loopw [1, 13] (fun uv iv wr => ∃ (uu k : Nat) (d : List UInt8), uv = .int .u64 uu ∧ iv = .int .i64 k ∧ uu < 18446744073709551616 ∧ HexSt u uu d k ∧ Digits wr w.heap.size k d ∧ Below w.heap.size w wr) (fun uv _ _ => (intOf uv).toNat)
  case atStart => exact ⟨u, 65, [], rfl, rfl, by have := HU.out; simpa using this, hexSt_zero HU.out, digits_start w, (Below.refl _ _).alloc (Nat.le_refl _) _⟩
  case round =>
    obtain ⟨uu, k, d, rfl, rfl, huu, hst, hdg, hb⟩ := hrel
    obtain ⟨hk1, hk2⟩ := hexSt_left hst
    obtain ⟨k, rfl⟩ : ∃ k', k = k' + 1 := ⟨k - 1, by omega⟩
    obtain ⟨x, hcell⟩ := digits_cell hdg
    have hfz := digits_frozen hdg
    have HS := Lib.hid hst
    have HD := Lib.hid hdg
    clear hst hdg
    by_cases hlt : uu < 16
    · have hend := hexSt_end HS.out hlt
      have hlen : (dig uu :: d).length = 65 - k := by have := HS.out.2.1; simp; omega
      have hdg2 : ∀ h, Digits (wr.setCell ⟨w.heap.size, k, none⟩ (.int .u8 ((ByteArray.mk #[48, 49, 50, 51, 52, 53, 54, 55, 56, 57, 97, 98, 99, 100, 101, 102, 103, 104, 105, 106, 107, 108, 109, 110, 111, 112, 113, 114, 115, 116, 117, 118, 119, 120, 121, 122])[uu]'h).toNat)) w.heap.size k (dig uu :: d) := fun h => by rw [dig_at _ _ hlt]; exact digits_set HD.out _
      have HE := Lib.hid hend
      have HL := Lib.hid hlen
      have HD2 := Lib.hid hdg2
      clear hend hlen hdg2
      have hsl := slice65 w.heap.size k (by omega)
      have hcv : ∀ h, (convert 22 9 (.slice (some ⟨w.heap.size, k, none⟩) (65 - k) (65 - k))).run Tryz.prog (wr.setCell ⟨w.heap.size, k, none⟩ (.int .u8 ((ByteArray.mk #[48, 49, 50, 51, 52, 53, 54, 55, 56, 57, 97, 98, 99, 100, 101, 102, 103, 104, 105, 106, 107, 108, 109, 110, 111, 112, 113, 114, 115, 116, 117, 118, 119, 120, 121, 122])[uu]'h).toNat)) = .ok (.string (str (dig uu :: d))) (wr.setCell ⟨w.heap.size, k, none⟩ (.int .u8 ((ByteArray.mk #[48, 49, 50, 51, 52, 53, 54, 55, 56, 57, 97, 98, 99, 100, 101, 102, 103, 104, 105, 106, 107, 108, 109, 110, 111, 112, 113, 114, 115, 116, 117, 118, 119, 120, 121, 122])[uu]'h).toNat)) := fun h => by
        have := run_convert_bytes_back (P := Tryz.prog) (wr.setCell ⟨w.heap.size, k, none⟩ (.int .u8 ((ByteArray.mk #[48, 49, 50, 51, 52, 53, 54, 55, 56, 57, 97, 98, 99, 100, 101, 102, 103, 104, 105, 106, 107, 108, 109, 110, 111, 112, 113, 114, 115, 116, 117, 118, 119, 120, 121, 122])[uu]'h).toNat)) 22 9 5 ⟨w.heap.size, k, none⟩ (65 - k) (dig uu :: d) Tryz.underlying22 Tryz.underlying5 Tryz.underlying9 (fun j hj => digits_cells (HD2.out h) j _ (by unfold Lib.byteCells; rw [List.getElem?_map, List.getElem?_eq_getElem hj]; rfl))
        rwa [HL.out] at this
      go_wp2
      go_ret2
      exact ⟨by rw [HE.out]; rfl, hb.setCell (Nat.le_refl _) _⟩
    · have hand := and15 uu huu
      have hm : uu % 16 < 16 := Nat.mod_lt _ (by omega)
      go_wp2
      go_roundw
      case rel => exact ⟨uu / 16, k, dig (uu % 16) :: d, by go_num, rfl, by omega, hexSt_step HS.out hlt, by rw [dig_at _ _ hm]; exact digits_set HD.out _, hb.setCell (Nat.le_refl _) _⟩
      case measure => simp [intOf]; omega


set_option maxHeartbeats 1000000 in
theorem formatInt0_16 (w : World) (u : Nat) (hu : u < 1152921504606846976) (hT : w.cell? ⟨9, 15, none⟩ = some (.int .u8 4)) :
    Calls Tryz.prog 62 #[.int .i64 u, .int .i64 16] w fun e w' => e = .returned (.string (str (hexL u))) ∧ Below w.heap.size w w' := by
  have hf := formatStr_16 w u (Nat.lt_of_lt_of_le hu (by decide)) hT
  go_enter Tryz.func62, Tryz.ntmps62
  go_wp2_with fail
  refine hf.mono ?_
  rintro e w1 ⟨rfl, hb⟩
  go_wp2
  go_ret
  exact ⟨rfl, hb⟩
set_option maxHeartbeats 1000000 in
theorem formatInt_16 (w : World) (u : Nat) (hu : u < 1152921504606846976) (hT : w.cell? ⟨9, 15, none⟩ = some (.int .u8 4)) :
    Calls Tryz.prog 48 #[.int .i64 u, .int .i64 16] w fun e w' => e = .returned (.string (str (hexL u))) ∧ Below w.heap.size w w' := by
  have hf := formatInt0_16 w u hu hT
  go_enter Tryz.func48, Tryz.ntmps48
  go_wp2_with fail
  refine hf.mono ?_
  rintro e w1 ⟨rfl, hb⟩
  go_wp2
  go_ret
  exact ⟨rfl, hb⟩

/-- a number's digits, as they are printed -/
def greatL (n : Nat) : List UInt8 := List.replicate (4 - (hexL n).length) 48 ++ (hexL n).map Lib.upperB
theorem repeat_one (c : UInt8) : ∀ n, Lib.repeatL [c] n = List.replicate n c
  | 0 => rfl
  | n + 1 => by
    show [c] ++ Lib.repeatL [c] n = _
    rw [repeat_one c n]
    rfl
theorem dig_ascii (n : Nat) (h : n < 16) : (dig n).toNat < 128 := by
  have : ∀ n : Nat, n < 16 → (dig n).toNat < 128 := by decide +kernel
  exact this n h
theorem hexL_ascii : ∀ (m n : Nat), n < m → ∀ b ∈ hexL n, b.toNat < 128
  | 0, n, h => by omega
  | m + 1, n, h => by
    intro b hb
    by_cases h1 : n < 16
    · rw [hexL_small h1] at hb
      simp at hb
      subst hb
      exact dig_ascii n h1
    · rw [hexL_big h1] at hb
      simp at hb
      rcases hb with hb | rfl
      · exact hexL_ascii m (n / 16) (by omega) b hb
      · exact dig_ascii _ (Nat.mod_lt _ (by omega))
theorem str_append (a b : List UInt8) : str a ++ str b = str (a ++ b) := by
  rw [← str_of (str a ++ str b)]
  simp [str]
theorem upper_any (l : List UInt8) (h : ∀ b ∈ l, b.toNat < 128) (hl : l.length ≤ 1000) (w : World) :
    Calls Tryz.prog 47 #[.string (str l)] w fun e w' => e = .returned (.string (str (l.map Lib.upperB))) ∧ Below w.heap.size w w' := by
  have := Tryz.strings_ToUpper_ascii (str l) w (by rw [str_size]; omega) (fun j b hb => h b (List.mem_of_getElem? hb))
  exact this
theorem repeat_any (n : Nat) (hn : n ≤ 1000) (w : World) :
    Calls Tryz.prog 49 #[.string ⟨#[48]⟩, .int .i64 n] w fun e w' => e = .returned (.string (str (List.replicate n 48))) ∧ Below w.heap.size w w' := by
  have := Tryz.strings_Repeat ⟨#[48]⟩ n w (by omega) (by show 1 * n ≤ _; omega)
  rw [show (ByteArray.mk #[48]).data.toList = [48] from rfl, repeat_one] at this
  exact this
set_option maxRecDepth 100000 in
set_option maxHeartbeats 1000000 in
theorem digitsOf_any (n : Nat) (hn : n < 1048576 * 1048576) (w : World) (hG : Gl w) :
    Calls Tryz.prog 31 #[.int .i64 n] w fun e w' => e = .returned (.string (str (greatL n))) ∧ Below w.heap.size w w' := by
  have hf := formatInt_16 w n (by omega) hG.2.1
  have hlen := hexL_len 9 n (by omega)
  have hup := fun W => upper_any (hexL n) (hexL_ascii (n + 1) n (by omega)) (by omega) W
  have hrep := fun W => repeat_any (4 - (hexL n).length) (by omega) W
  have hcat : (str (List.replicate (4 - (hexL n).length) 48)).size + (hexL n).length ≤ 9223372036854775807 := by rw [str_size, List.length_replicate]; omega
  have hz := str_size ((hexL n).map Lib.upperB)
  rw [List.length_map] at hz
  have he : str (List.replicate (4 - (hexL n).length) 48) ++ str ((hexL n).map Lib.upperB) = str (greatL n) := str_append _ _
  obtain ⟨m, hm⟩ : ∃ m, (hexL n).length = m := ⟨_, rfl⟩
  rw [hm] at hz hrep hlen he hcat
  generalize str (hexL n) = X at *
  generalize str ((hexL n).map Lib.upperB) = Y at *
  generalize str (List.replicate (4 - m) 48) = Z at *
  have HE := Lib.hid he
  have n0 : (0 : Int) ≤ (n : Int) := by omega
  clear hm he
  by_cases h4 : m ≤ 4
  · obtain ⟨q, hq⟩ : ∃ q : Nat, 4 - m = q := ⟨_, rfl⟩
    rw [hq] at hrep
    have hq1 : (4 : Int) - (m : Int) = (q : Int) := by omega
    have q0 : (0 : Int) ≤ (q : Int) := by omega
    have q1 : (m : Int) ≤ 4 := by omega
    clear hq
    go_enter Tryz.func31, Tryz.ntmps31
    go_wp2_with (first
      | (go_at_call 48; refine hf.mono ?_; rintro e w1 ⟨rfl, hb1⟩)
      | (go_at_call 47; refine (hup _).mono ?_; rintro e w2 ⟨rfl, hb2⟩)
      | (go_at_call 49; refine (hrep _).mono ?_; rintro e w3 ⟨rfl, hb3⟩))
    go_ret
    exact ⟨by rw [← HE.out]; rfl, (hb1.trans (hb2.mono hb1.size)).trans (hb3.mono (Nat.le_trans hb1.size hb2.size))⟩
  · have hq : 4 - m = 0 := by omega
    rw [hq] at hrep
    have q1 : max ((4 : Int) - (m : Int)) 0 = 0 := by omega
    have hrep' : ∀ W, Calls Tryz.prog 49 #[.string ⟨#[48]⟩, .int .i64 0] W fun e w' => e = .returned (.string Z) ∧ Below W.heap.size W w' := hrep
    clear hq hrep
    go_enter Tryz.func31, Tryz.ntmps31
    go_wp2_with (first
      | (go_at_call 48; refine hf.mono ?_; rintro e w1 ⟨rfl, hb1⟩)
      | (go_at_call 47; refine (hup _).mono ?_; rintro e w2 ⟨rfl, hb2⟩)
      | (go_at_call 49; refine (hrep' _).mono ?_; rintro e w3 ⟨rfl, hb3⟩))
    go_ret
    exact ⟨by rw [← HE.out]; rfl, (hb1.trans (hb2.mono hb1.size)).trans (hb3.mono (Nat.le_trans hb1.size hb2.size))⟩

/-- a token's text, as it is printed -/
def prt (x : Tok) : List UInt8 :=
  if x.k = 3 then [60, 85] ++ greatL x.n ++ [62, 32] else if x.k = 5 then [60] ++ x.t ++ [62, 32] else if x.k = 4 then [34] ++ x.t ++ [34, 32] else if x.k = 6 then [10] else x.t ++ [32]
def prtL (ts : List Tok) : List UInt8 := ts.flatMap prt
theorem prt_str1 (a b c : List UInt8) : (⟨a.toArray⟩ : ByteArray) ++ str b ++ ⟨c.toArray⟩ = str (a ++ b ++ c) := by
  show str a ++ str b ++ str c = _
  rw [str_append, str_append]
theorem prt_str2 (b c : List UInt8) : str b ++ (⟨c.toArray⟩ : ByteArray) = str (b ++ c) := str_append b c

theorem hexL_pos (n : Nat) : (hexL n).length ≠ 0 := by
  by_cases h : n < 16
  · rw [hexL_small h]; simp
  · rw [hexL_big h]; simp
theorem greatL_len {n : Nat} (hn : n < 1048576 * 1048576) : (greatL n).length ≤ 14 := by
  have := hexL_len 9 n (by omega)
  unfold greatL
  simp
  omega
set_option maxRecDepth 100000 in
set_option maxHeartbeats 4000000 in
theorem printed_any (x : Tok) (a0 : Int) (w : World) (hG : Gl w) (hn : x.n < 1048576 * 1048576) (ht : x.t.length ≤ 5000) :
    Calls Tryz.prog 17 #[.agg #[.int .u8 x.k, .string (str x.t), .int .i64 x.n, .int .i64 a0]] w fun e w' => e = .returned (.string (str (prt x))) ∧ Below w.heap.size w w' := by
  obtain ⟨kd, t, n, at_⟩ := x
  simp only at hn ht ⊢
  obtain ⟨c, hc⟩ : ∃ c : Int, (kd : Int) = c := ⟨_, rfl⟩
  rw [hc]
  have hb0 : Below w.heap.size w (w.alloc (.cells #[.int .u8 c, .string (str t), .int .i64 n, .int .i64 a0] 35)) := (Below.refl _ _).alloc (Nat.le_refl _) _
  have hd := digitsOf_any n hn _ (hG.next hb0)
  have hgl := greatL_len hn
  have HB := Lib.hid hb0
  have s1 := str_size t
  have s2 := str_size (greatL n)
  have s3 : (str t).size ≤ 5000 := by omega
  have s4 : (str (greatL n)).size ≤ 5000 := by omega
  clear hG hb0 s1 s2 hgl ht
  by_cases h3 : kd = 3
  · have HP := Lib.hid (show (⟨#[60, 85]⟩ : ByteArray) ++ str (greatL n) ++ ⟨#[62, 32]⟩ = str (prt ⟨kd, t, n, at_⟩) by unfold prt; rw [if_pos h3]; exact prt_str1 _ _ _)
    obtain rfl : c = 3 := by omega
    clear hc h3
    generalize str (greatL n) = X at *
    generalize str t = T at *
    go_enter Tryz.func17, Tryz.ntmps17
    go_wp2_with (go_at_call 31; refine hd.mono ?_; rintro e w1 ⟨rfl, hb1⟩)
    go_ret
    exact ⟨by rw [← HP.out]; rfl, HB.out.trans (hb1.mono (by simp))⟩
  by_cases h5 : kd = 5
  · have HP := Lib.hid (show (⟨#[60]⟩ : ByteArray) ++ str t ++ ⟨#[62, 32]⟩ = str (prt ⟨kd, t, n, at_⟩) by unfold prt; rw [if_neg h3, if_pos h5]; exact prt_str1 _ _ _)
    obtain rfl : c = 5 := by omega
    clear hc h3 h5 hd s4
    generalize str t = T at *
    go_enter Tryz.func17, Tryz.ntmps17
    go_wp2
    go_ret
    exact ⟨by rw [← HP.out]; rfl, HB.out⟩
  by_cases h4 : kd = 4
  · have HP := Lib.hid (show (⟨#[34]⟩ : ByteArray) ++ str t ++ ⟨#[34, 32]⟩ = str (prt ⟨kd, t, n, at_⟩) by unfold prt; rw [if_neg h3, if_neg h5, if_pos h4]; exact prt_str1 _ _ _)
    obtain rfl : c = 4 := by omega
    clear hc h3 h5 h4 hd s4
    generalize str t = T at *
    go_enter Tryz.func17, Tryz.ntmps17
    go_wp2
    go_ret
    exact ⟨by rw [← HP.out]; rfl, HB.out⟩
  by_cases h6 : kd = 6
  · have HP := Lib.hid (show (⟨#[10]⟩ : ByteArray) = str (prt ⟨kd, t, n, at_⟩) by unfold prt; rw [if_neg h3, if_neg h5, if_neg h4, if_pos h6]; rfl)
    obtain rfl : c = 6 := by omega
    clear hc h3 h5 h4 h6 hd s4
    generalize str t = T at *
    go_enter Tryz.func17, Tryz.ntmps17
    go_wp2
    go_ret
    exact ⟨by rw [← HP.out]; rfl, HB.out⟩
  · have HP := Lib.hid (show str t ++ (⟨#[32]⟩ : ByteArray) = str (prt ⟨kd, t, n, at_⟩) by unfold prt; rw [if_neg h3, if_neg h5, if_neg h4, if_neg h6]; exact prt_str2 _ _)
    have q3 : (c == 3) = false := by simp; omega
    have q5 : (c == 5) = false := by simp; omega
    have q4 : (c == 4) = false := by simp; omega
    have q6 : (c == 6) = false := by simp; omega
    clear hc h3 h5 h4 h6 hd s4
    generalize str t = T at *
    go_enter Tryz.func17, Tryz.ntmps17
    go_wp2
    go_ret
    exact ⟨by rw [← HP.out]; rfl, HB.out⟩
end Go.Proofs.YtnifcgiajjmogaaGreatDoor.C
