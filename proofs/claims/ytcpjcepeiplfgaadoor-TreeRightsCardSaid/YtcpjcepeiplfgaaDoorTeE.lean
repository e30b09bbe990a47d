/-
  The document's own Byte, hex and Text of cells. No condition.
-/
import Derived.Test.YtcpjcepeiplfgaaDoorTeD
import Derived.Test.YtcpjcepeiplfgaaDoorTcI
import Derived.Laws.Concat
import Derived.Deep.LoopGhost
namespace Go.Proofs.YtcpjcepeiplfgaaDoor.C
open Go.RowKit

theorem str_sizeE (l : List UInt8) : (str l).size = l.length := by simp [str, ByteArray.size]
theorem toUInt8_toNat (n : Nat) (h : n < 256) : n.toUInt8.toNat = n := by simp [Nat.toUInt8, UInt8.toNat_ofNat']; omega
theorem conv_one (W : World) (x : Int) (h0 : 0 ≤ x) (h1 : x ≤ 255) : (convert 38 9 (.slice (some ⟨W.heap.size, 0, none⟩) 1 1)).run Tryd.prog (W.alloc (.cells #[.int .u8 x] 5)) = .ok (.string (str [x.toNat.toUInt8])) (W.alloc (.cells #[.int .u8 x] 5)) := by
  refine run_convert_bytes_back _ 38 9 5 ⟨W.heap.size, 0, none⟩ 1 [x.toNat.toUInt8] Tryd.underlying38 Tryd.underlying5 Tryd.underlying9 ?_
  intro j hj
  have hj0 : j = 0 := by simp at hj; omega
  subst hj0
  have := cell_one_new W (.int .u8 x) 5 0 _ rfl
  rw [this]
  simp only [List.getElem_cons_zero]
  rw [toUInt8_toNat _ (by omega), Int.toNat_of_nonneg h0]



set_option maxHeartbeats 400000 in
theorem refCR_any (c : Int) (w : World) : Calls Tryd.prog 60 #[.int .i32 c] w fun e w' => e = .returned (.bool (rightB c)) ∧ w = w' := by
  by_cases h1 : c < -256
  · have hr : rightB c = false := by simp [rightB]; omega
    rw [hr]; clear hr
    have t1 : decide (-256 ≤ c) = false := by simp; omega
    have t2 : decide (57343 < c) = false := by simp; omega
    go_enter Tryd.func60, Tryd.ntmps60
    go_wp2
    all_goals go_ret
    all_goals exact ⟨rfl, rfl⟩
  by_cases h2 : c < 55296
  · have hr : rightB c = true := by simp [rightB]; omega
    rw [hr]; clear hr
    go_enter Tryd.func60, Tryd.ntmps60
    go_wp2
    all_goals go_ret
    all_goals exact ⟨rfl, rfl⟩
  have t3 : decide (c < 55296) = false := by simpa using h2
  by_cases h3 : 57343 < c
  · by_cases h4 : c ≤ 1114111
    · have hr : rightB c = true := by simp [rightB]; omega
      rw [hr]; clear hr
      go_enter Tryd.func60, Tryd.ntmps60
      go_wp2
      all_goals go_ret
      all_goals exact ⟨rfl, rfl⟩
    · have hr : rightB c = false := by simp [rightB]; omega
      rw [hr]; clear hr
      have t4 : decide (c ≤ 1114111) = false := by simpa using h4
      go_enter Tryd.func60, Tryd.ntmps60
      go_wp2
      all_goals go_ret
      all_goals exact ⟨rfl, rfl⟩
  · have hr : rightB c = false := by simp [rightB]; omega
    rw [hr]; clear hr
    have t5 : decide (57343 < c) = false := by simpa using h3
    go_enter Tryd.func60, Tryd.ntmps60
    go_wp2
    all_goals go_ret
    all_goals exact ⟨rfl, rfl⟩
theorem refCR_is (c : Int) (w : World) (r : Bool) (hr : rightB c = r) : Calls Tryd.prog 60 #[.int .i32 c] w fun e w' => e = .returned (.bool r) ∧ w = w' := by
  subst hr
  exact refCR_any c w

set_option maxHeartbeats 400000 in
set_option maxHeartbeats 400000 in
theorem refByte_yes (c : Int) (w : World) (h0 : -256 ≤ c) (h1 : c < 0) : Calls Tryd.prog 78 #[.int .i32 c] w fun e w' => e = .returned (.tuple #[.int .u8 (-1 - c), .bool true]) ∧ w = w' := by
  have t1 : decide (0 ≤ c) = false := by simp; omega
  go_enter Tryd.func78, Tryd.ntmps78
  go_wp2
  go_ret2
  exact ⟨rfl, rfl⟩
set_option maxHeartbeats 400000 in
theorem refByte_no (c : Int) (w : World) (h0 : c < -256 ∨ 0 ≤ c) : Calls Tryd.prog 78 #[.int .i32 c] w fun e w' => e = .returned (.tuple #[.int .u8 0, .bool false]) ∧ w = w' := by
  rcases h0 with h | h
  · have t1 : decide (0 ≤ c) = false := by simp; omega
    go_enter Tryd.func78, Tryd.ntmps78
    go_wp2
    all_goals go_ret2
    all_goals exact ⟨rfl, rfl⟩
  · go_enter Tryd.func78, Tryd.ntmps78
    go_wp2
    all_goals go_ret2
    all_goals exact ⟨rfl, rfl⟩

/-- so far these digits, and this is left -/
def HexR (n0 nn : Nat) (d : List UInt8) : Prop := (d = [] ∧ nn = n0) ∨ (d ≠ [] ∧ ((nn = 0 ∧ hexL n0 = d) ∨ (0 < nn ∧ hexL n0 = hexL nn ++ d)))
theorem hexR_zero (n : Nat) : HexR n n [] := .inl ⟨rfl, rfl⟩
theorem hexR_step {n0 nn : Nat} {d : List UInt8} (h : HexR n0 nn d) (hgo : 0 < nn ∨ d = []) : HexR n0 (nn / 16) (dig (nn % 16) :: d) := by
  have key : hexL n0 = hexL nn ++ d := by
    rcases h with ⟨rfl, rfl⟩ | ⟨hd, h⟩
    · simp
    · rcases h with ⟨h1, _⟩ | ⟨_, h2⟩
      · rcases hgo with h3 | h3
        · omega
        · exact absurd h3 hd
      · exact h2
  refine .inr ⟨by simp, ?_⟩
  by_cases hs : nn < 16
  · left
    refine ⟨by omega, ?_⟩
    rw [key, hexL_small hs, Nat.mod_eq_of_lt hs]
    rfl
  · right
    refine ⟨by omega, ?_⟩
    rw [key, hexL_big hs]
    simp
theorem hexR_end {n0 : Nat} {d : List UInt8} (h : HexR n0 0 d) (hd : d ≠ []) : hexL n0 = d := by
  rcases h with ⟨h1, _⟩ | ⟨_, h⟩
  · exact absurd h1 hd
  · rcases h with ⟨_, h2⟩ | ⟨h3, _⟩
    · exact h2
    · omega
theorem hex_cut (x : Nat) (h : x < 16) : (ByteArray.mk #[48, 49, 50, 51, 52, 53, 54, 55, 56, 57, 97, 98, 99, 100, 101, 102]).extract x (x + 1) = str [dig x] := by
  have : ∀ x : Fin 16, (ByteArray.mk #[48, 49, 50, 51, 52, 53, 54, 55, 56, 57, 97, 98, 99, 100, 101, 102]).extract x.val (x.val + 1) = str [dig x.val] := by decide +kernel
  exact this ⟨x, h⟩

set_option maxHeartbeats 2000000 in
theorem hex_one (n : Nat) (hn : n ≤ 1114111) (w : World) : Calls Tryd.prog 79 #[.int .i64 n, .int .i64 1] w fun e w' => e = .returned (.string (str (hexL n))) ∧ w = w' := by
  go_enter Tryd.func79, Tryd.ntmps79
  go_wp2
  go_loopg [0, 5] (n + 1) (fun g nv sv wr => ∃ (nn : Nat) (d : List UInt8), nv = .int .i64 nn ∧ sv = .string (str d) ∧ nn ≤ n ∧ d.length + nn ≤ n + 1 ∧ HexR n nn d ∧ (d = [] → nn + 1 ≤ g) ∧ nn ≤ g ∧ w = wr)
  case atStart => exact ⟨n, [], rfl, rfl, Nat.le_refl _, by simp, hexR_zero n, fun _ => Nat.le_refl _, by omega, rfl⟩
  case round =>
    obtain ⟨nn, d, rfl, rfl, hnn, hdl, hst, hg1, hg2, rfl⟩ := hrel
    have HS := Lib.hid hst
    have HG := Lib.hid hg1
    clear hst hg1
    have hsd : (str d).size ≤ n + 1 := by rw [str_sizeE]; omega
    have hq1 : ((nn % 16 : Nat) : Int) = (nn : Int) % 16 := by omega
    obtain ⟨q, hq⟩ : ∃ q : Nat, q = nn % 16 := ⟨_, rfl⟩
    rw [← hq] at hq1
    have hq2 : q < 16 := by omega
    have hcut := hex_cut q hq2
    have hz : (str [dig q]).size + (str d).size ≤ 9223372036854775807 := by
      have e1 := str_sizeE [dig q]
      have e2 : [dig q].length = 1 := rfl
      omega
    have happ : str [dig q] ++ str d = str (dig q :: d) := str_appT [dig q] d
    have hq3 : (nn : Int) % 16 = (q : Int) := hq1.symm
    have HQ := Lib.hid hq
    clear hq hq1
    by_cases hgo : 0 < nn
    · have hst := hexR_step HS.out (.inl hgo)
      rw [← HQ.out] at hst
      have HS2 := Lib.hid hst
      clear hst
      go_wp2
      go_roundg (nn / 16)
      case measure => have := HG.out; omega
      case rel => exact ⟨nn / 16, dig q :: d, by go_num, rfl, by omega, by simp; omega, HS2.out, fun h => (by cases h), Nat.le_refl _, rfl⟩
    · have hn0 : nn = 0 := by omega
      subst hn0
      by_cases hd : d = []
      · subst hd
        have hst := hexR_step HS.out (.inr rfl)
        rw [← HQ.out] at hst
        have HS2 := Lib.hid hst
        clear hst
        have h0 : q = 0 := by have := HQ.out; omega
        subst h0
        go_wp2
        go_roundg 0
        case measure => have := HG.out trivial; omega
        case rel => exact ⟨0, [dig 0], rfl, rfl, by omega, by simp, HS2.out, fun h => (by cases h), Nat.le_refl _, rfl⟩
      · have hd1 : ¬ (str d).size < 1 := by
          rw [str_sizeE]
          have : 0 < d.length := List.length_pos_iff.2 hd
          omega
        have hend := hexR_end HS.out hd
        have HE := Lib.hid hend
        clear hend
        go_wp2
        go_ret
        exact ⟨by rw [HE.out]; rfl, rfl⟩

set_option maxHeartbeats 2000000 in
theorem hex_two (b : Nat) (hb : b ≤ 255) (w : World) : Calls Tryd.prog 79 #[.int .i64 b, .int .i64 2] w fun e w' => e = .returned (.string (str [dig (b / 16), dig (b % 16)])) ∧ w = w' := by
  obtain ⟨p, hp⟩ : ∃ p : Nat, p = b / 16 := ⟨_, rfl⟩
  obtain ⟨q, hq⟩ : ∃ q : Nat, q = b % 16 := ⟨_, rfl⟩
  rw [← hp, ← hq]
  have hp1 : (b : Int) / 16 = (p : Int) := by omega
  have hq1 : (b : Int) % 16 = (q : Int) := by omega
  have hp2 : p < 16 := by omega
  have hq2 : q < 16 := by omega
  have hp3 : (p : Int) % 16 = (p : Int) := by omega
  have hp4 : (p : Int) / 16 = 0 := by omega
  have hcq := hex_cut q hq2
  have hcp := hex_cut p hp2
  have a1 : str [dig q] ++ str [] = str [dig q] := str_appT [dig q] []
  have a2 : str [dig p] ++ str [dig q] = str [dig p, dig q] := str_appT [dig p] [dig q]
  have z0 : (str ([] : List UInt8)).size = 0 := rfl
  have z1 : (str [dig q]).size = 1 := rfl
  have z2 : (str [dig p]).size = 1 := rfl
  have z3 : (str [dig p, dig q]).size = 2 := rfl
  clear hp hq
  go_enter Tryd.func79, Tryd.ntmps79
  go_wp2
  go_loopg [0, 5] 2 (fun g nv sv wr => w = wr ∧ ((g = 2 ∧ nv = .int .i64 b ∧ sv = .string (str [])) ∨ (g = 1 ∧ nv = .int .i64 p ∧ sv = .string (str [dig q])) ∨ (g = 0 ∧ nv = .int .i64 0 ∧ sv = .string (str [dig p, dig q]))))
  case atStart => exact ⟨rfl, .inl ⟨rfl, rfl, rfl⟩⟩
  case round =>
    obtain ⟨rfl, hrel⟩ := hrel
    rcases hrel with ⟨hg, rfl, rfl⟩ | ⟨hg, rfl, rfl⟩ | ⟨hg, rfl, rfl⟩
    · have HG := Lib.hid hg
      clear hg
      by_cases hb0 : 0 < b
      all_goals
        go_wp2
        go_roundg 1
        case measure => have := HG.out; omega
        case rel => exact ⟨rfl, .inr (.inl ⟨rfl, by first | rfl | go_num, rfl⟩)⟩
    · have HG := Lib.hid hg
      clear hg
      by_cases hb0 : 0 < p
      all_goals
        go_wp2
        go_roundg 0
        case measure => have := HG.out; omega
        case rel => exact ⟨rfl, .inr (.inr ⟨rfl, by first | rfl | go_num, rfl⟩)⟩
    · clear hg
      go_wp2
      go_ret
      exact ⟨rfl, rfl⟩


theorem bytes_assoc (a b c : ByteArray) : a ++ b ++ c = a ++ (b ++ c) := by
  apply ByteArray.ext
  simp

set_option maxHeartbeats 4000000 in
theorem refText_any (w : World) (Bx : Nat) (Ax : Option Addr) (n cx : Nat) (xs : List Int) (hx : RI .i32 w Bx Ax n xs) (hBx : Bx ≤ w.heap.size) (hn : n ≤ 1000) :
    Calls Tryd.prog 66 #[.slice Ax n cx] w fun e w' => e = .returned (.string (str (textL xs))) ∧ Below w.heap.size w w' := by
  have HX := Lib.hid hx
  clear hx
  go_enter Tryd.func66, Tryd.ntmps66
  go_wp2
  go_loopw [3, 4] (fun sv iv wr => ∃ i : Nat, i ≤ n ∧ sv = .string (str (textL (xs.take i))) ∧ iv = .int .i64 i ∧ Below w.heap.size w wr) (fun _ iv _ => n - (intOf iv).toNat)
  case atStart => exact ⟨0, Nat.zero_le _, rfl, rfl, Below.refl _ _⟩
  case round =>
    obtain ⟨i, hin, rfl, rfl, hb⟩ := hrel
    by_cases hlt : i < n
    · obtain ⟨ad, c, rfl, hbl, hc, hcell⟩ := HX.out.at_ hlt
      have hcr : wr.cell? (ad.add i) = some (.int .i32 c) := (hb.cell (p := ad.add i) (by rw [block_of_add]; omega)).trans hcell
      have hTI : (str (textL (xs.take i))).size ≤ 10000 := by
        rw [str_sizeE]
        have h1 := textL_le (xs.take i)
        have h2 : (xs.take i).length ≤ i := List.length_take_le _ _
        omega
      have hsn : str (textL (xs.take i)) ++ str (shown c) = str (textL (xs.take (i + 1))) := by rw [str_appT, take_snoc hc, textL_snoc]
      have HSN := Lib.hid hsn
      clear hsn hc hcell
      generalize str (textL (xs.take i)) = TI at *
      by_cases h1 : ¬ (-256 ≤ c ∧ c < 55296 ∨ 57343 < c ∧ c ≤ 1114111)
      · have hsh : shown c = [92, 63] := by
          unfold shown
          rw [if_neg (by omega), if_pos h1]
        have HSH := Lib.hid hsh
        clear hsh
        have hr : rightB c = false := by simp [rightB]; omega
        have HR := Lib.hid hr
        clear hr
        go_wp2_with fail
        refine (refByte_no c wr (by omega)).mono ?_
        rintro e w' ⟨rfl, rfl⟩
        go_wp2_with fail
        refine (refCR_is c wr _ HR.out).mono ?_
        rintro e w' ⟨rfl, rfl⟩
        go_wp2
        go_roundw
        case rel => exact ⟨i + 1, by omega, by rw [← HSN.out, HSH.out]; rfl, by go_num, hb⟩
        case measure => simp [intOf]; omega
      have h1' : -256 ≤ c ∧ c < 55296 ∨ 57343 < c ∧ c ≤ 1114111 := by omega
      clear h1
      have hr : rightB c = true := by simp [rightB]; omega
      have HR := Lib.hid hr
      clear hr
      by_cases h2 : -256 ≤ c ∧ c < 0
      · obtain ⟨h2a, h2b⟩ := h2
        have hsh : shown c = [92, 120, dig ((-1 - c).toNat / 16), dig ((-1 - c).toNat % 16)] := by
          unfold shown
          rw [if_pos ⟨h2a, h2b⟩]
        obtain ⟨b, hb0⟩ : ∃ b : Nat, -1 - c = b := ⟨(-1 - c).toNat, by omega⟩
        rw [hb0, Int.toNat_natCast] at hsh
        have hb2 : b ≤ 255 := by omega
        have HSH := Lib.hid hsh
        have HB := Lib.hid hb0
        clear hsh hb0
        go_wp2_with fail
        refine (refByte_yes c wr h2a h2b).mono ?_
        rintro e w' ⟨rfl, rfl⟩
        rw [HB.out]
        go_wp2_with fail
        refine (refCR_is c wr _ HR.out).mono ?_
        rintro e w' ⟨rfl, rfl⟩
        go_wp2_with fail
        refine (hex_two b hb2 wr).mono ?_
        rintro e w' ⟨rfl, rfl⟩
        have z2 : (str [dig (b / 16), dig (b % 16)]).size = 2 := rfl
        have heq : TI ++ ByteArray.mk #[92, 120] ++ str [dig (b / 16), dig (b % 16)] = str (textL (xs.take (i + 1))) := by
          rw [← HSN.out, HSH.out, bytes_assoc]
          rfl
        have HEQ := Lib.hid heq
        clear heq
        generalize str [dig (b / 16), dig (b % 16)] = HX2 at *
        go_wp2
        go_roundw
        case rel => exact ⟨i + 1, by omega, by rw [HEQ.out], by go_num, hb⟩
        case measure => simp [intOf]; omega
      have c0 : 0 ≤ c := by omega
      by_cases h3 : c = 10
      · subst h3
        have hsh : shown 10 = [92, 110] := by
          rfl
        have HSH := Lib.hid hsh
        clear hsh
        go_wp2_with fail
        refine (refByte_no 10 wr (by omega)).mono ?_
        rintro e w' ⟨rfl, rfl⟩
        go_wp2_with fail
        refine (refCR_is 10 wr _ HR.out).mono ?_
        rintro e w' ⟨rfl, rfl⟩
        go_wp2
        go_roundw
        case rel => exact ⟨i + 1, by omega, by rw [← HSN.out, HSH.out]; rfl, by go_num, hb⟩
        case measure => simp [intOf]; omega
      by_cases h4 : c = 92
      · subst h4
        have hsh : shown 92 = [92, 92] := by
          rfl
        have HSH := Lib.hid hsh
        clear hsh
        go_wp2_with fail
        refine (refByte_no 92 wr (by omega)).mono ?_
        rintro e w' ⟨rfl, rfl⟩
        go_wp2_with fail
        refine (refCR_is 92 wr _ HR.out).mono ?_
        rintro e w' ⟨rfl, rfl⟩
        go_wp2
        go_roundw
        case rel => exact ⟨i + 1, by omega, by rw [← HSN.out, HSH.out]; rfl, by go_num, hb⟩
        case measure => simp [intOf]; omega
      have e3 : (c == 10) = false := by simpa using h3
      have e4 : (c == 92) = false := by simpa using h4
      by_cases h5 : 32 ≤ c ∧ c ≤ 126
      · obtain ⟨h5a, h5b⟩ := h5
        have hsh : shown c = [c.toNat.toUInt8] := by
          unfold shown
          rw [if_neg (by omega), if_neg (by omega), if_neg h4, if_neg h3, if_pos ⟨h5a, h5b⟩]
        have HSH := Lib.hid hsh
        have hcv := fun W => conv_one W c (by omega) (by omega)
        have z1 : (str [c.toNat.toUInt8]).size = 1 := rfl
        clear hsh h3 h4 h1'
        go_wp2_with fail
        refine (refByte_no c wr (by omega)).mono ?_
        rintro e w' ⟨rfl, rfl⟩
        go_wp2_with fail
        refine (refCR_is c wr _ HR.out).mono ?_
        rintro e w' ⟨rfl, rfl⟩
        go_wp2
        go_roundw
        case rel => exact ⟨i + 1, by omega, by rw [← HSN.out, HSH.out], by go_num, hb.alloc hb.size _⟩
        case measure => simp [intOf]; omega
      have hsh : shown c = [92, 117, 123] ++ hexL c.toNat ++ [125] := by
        unfold shown
        rw [if_neg (by omega), if_neg (by omega), if_neg h4, if_neg h3, if_neg h5]
      have hle : c ≤ 1114111 := by omega
      have hlen := hexL_len 5 c.toNat (by have : (16 : Nat) ^ (5 + 1) = 16777216 := by decide
                                          omega)
      have h6 : c < 32 ∨ 126 < c := by omega
      have HSH := Lib.hid hsh
      have hxs : (str (hexL c.toNat)).size ≤ 6 := by rw [str_sizeE]; exact hlen
      have heq : TI ++ ByteArray.mk #[92, 117, 123] ++ str (hexL c.toNat) ++ ByteArray.mk #[125] = str (textL (xs.take (i + 1))) := by
        rw [← HSN.out, HSH.out, ← str_appT, ← str_appT, ← bytes_assoc, ← bytes_assoc]
        rfl
      have HEQ := Lib.hid heq
      have hc2 : c = ((c.toNat : Nat) : Int) := by omega
      have HC2 := Lib.hid hc2
      have hcn : c.toNat ≤ 1114111 := by omega
      clear hsh h3 h4 h1' h5 hlen heq hc2
      rcases h6 with h6 | h6
      all_goals
        go_wp2_with fail
        refine (refByte_no c wr (by omega)).mono ?_
        rintro e w' ⟨rfl, rfl⟩
        go_wp2_with fail
        refine (refCR_is c wr _ HR.out).mono ?_
        rintro e w' ⟨rfl, rfl⟩
        have t1 : decide (126 < c) = decide (126 < c) := rfl
        clear t1
        go_wp2_with fail
        rw [HC2.out]
        refine (hex_one c.toNat hcn wr).mono ?_
        rintro e w' ⟨rfl, rfl⟩
        generalize str (hexL c.toNat) = HX2 at *
        go_wp2
        go_roundw
        case rel => exact ⟨i + 1, by omega, by rw [HEQ.out], by go_num, hb⟩
        case measure => simp [intOf]; omega
    · have e1 : xs.take i = xs := List.take_of_length_le (by rw [HX.out.len]; omega)
      rw [e1]
      clear e1
      go_wp2
      go_ret
      exact ⟨rfl, hb⟩
end Go.Proofs.YtcpjcepeiplfgaaDoor.C
