/-
  Joined: MLxK, MLxL, LcA, LcB, LcC, LcE. Each with what its own head says.
-/
import Derived.Deep.RegionHeld3
import Derived.Test.YthaibekbefndlaaGreatDoorH05

namespace Go.Proofs.YthaibekbefndlaaGreatDoor.C
open Go.RowKit

set_option maxHeartbeats 1000000 in
theorem formatStr_16 (w : World) (u : Nat) (hu : u < 16 ^ 16) (hT : w.cell? ⟨10, 15, none⟩ = some (.int .u8 4)) :
  Calls Tryz.prog 233 #[.slice none 0 0, .int .u64 u, .int .i64 16, .bool false, .bool false] w fun e w' => e = .returned (.tuple #[.slice none 0 0, .string (str (hexL u))]) ∧ Below w.heap.size w w' := by
 have HU := Lib.hid hu
 clear hu
 have hz := zeroArray
 have hT1 : ∀ o, (w.alloc o).cell? ⟨10, 15, none⟩ = some (.int .u8 4) := fun o => by rw [World.cell?_alloc_lt w o _ (World.block_lt_of_cell? w _ hT)]; exact hT
 go_enter Tryz.func233, Tryz.ntmps233
 go_wp2_with fail
 refine (isPow_16 _).mono ?_
 rintro e w' ⟨rfl, rfl⟩
 go_wp2_with fail
 refine (tz_16 _ (hT1 _)).mono ?_
 rintro e w' ⟨rfl, rfl⟩
 go_wp2_with fail
 go_loopw [1, 13] (fun uv iv wr => ∃ (uu k : Nat) (d : List UInt8), uv = .int .u64 uu ∧ iv = .int .i64 k ∧ uu < 18446744073709551616 ∧ HexSt u uu d k ∧ Digits wr w.heap.size k d ∧ Below w.heap.size w wr) (fun uv _ _ => (intOf uv).toNat)
 case atStart => exact ⟨u, 65, [], rfl, rfl, by have := HU.out; simpa using this, hexSt_zero HU.out, digits_start w, (Below.refl _ _).alloc (Nat.le_refl _) _⟩
 case round =>
  obtain ⟨uu, k, d, rfl, rfl, huu, hst, hdg, hb⟩ := hrel
  obtain ⟨hk1, hk2⟩ := hexSt_left hst
  obtain ⟨k, rfl⟩ : ∃ k', k = k' + 1 := ⟨k - 1, by omega⟩
  obtain ⟨x, hcell⟩ := digits_cell hdg
  have hfz := digits_frozen hdg
  have HS := Lib.hid hst
  have HD := Lib.hid hdg
  clear hst hdg
  by_cases hlt : uu < 16
  ·have hend := hexSt_end HS.out hlt
   have hlen : (dig uu :: d).length = 65 - k := by have := HS.out.2.1; simp; omega
   have hdg2 : ∀ h, Digits (wr.setCell ⟨w.heap.size, k, none⟩ (.int .u8 ((ByteArray.mk #[48, 49, 50, 51, 52, 53, 54, 55, 56, 57, 97, 98, 99, 100, 101, 102, 103, 104, 105, 106, 107, 108, 109, 110, 111, 112, 113, 114, 115, 116, 117, 118, 119, 120, 121, 122])[uu]'h).toNat)) w.heap.size k (dig uu :: d) := fun h => by rw [dig_at _ _ hlt]; exact digits_set HD.out _
   have HE := Lib.hid hend
   have HL := Lib.hid hlen
   have HD2 := Lib.hid hdg2
   clear hend hlen hdg2
   have hsl := slice65 w.heap.size k (by omega)
   have hcv : ∀ h, (convert 38 9 (.slice (some ⟨w.heap.size, k, none⟩) (65 - k) (65 - k))).run Tryz.prog (wr.setCell ⟨w.heap.size, k, none⟩ (.int .u8 ((ByteArray.mk #[48, 49, 50, 51, 52, 53, 54, 55, 56, 57, 97, 98, 99, 100, 101, 102, 103, 104, 105, 106, 107, 108, 109, 110, 111, 112, 113, 114, 115, 116, 117, 118, 119, 120, 121, 122])[uu]'h).toNat)) = .ok (.string (str (dig uu :: d))) (wr.setCell ⟨w.heap.size, k, none⟩ (.int .u8 ((ByteArray.mk #[48, 49, 50, 51, 52, 53, 54, 55, 56, 57, 97, 98, 99, 100, 101, 102, 103, 104, 105, 106, 107, 108, 109, 110, 111, 112, 113, 114, 115, 116, 117, 118, 119, 120, 121, 122])[uu]'h).toNat)) := fun h => by
    have := run_convert_bytes_back (P := Tryz.prog) (wr.setCell ⟨w.heap.size, k, none⟩ (.int .u8 ((ByteArray.mk #[48, 49, 50, 51, 52, 53, 54, 55, 56, 57, 97, 98, 99, 100, 101, 102, 103, 104, 105, 106, 107, 108, 109, 110, 111, 112, 113, 114, 115, 116, 117, 118, 119, 120, 121, 122])[uu]'h).toNat)) 38 9 5 ⟨w.heap.size, k, none⟩ (65 - k) (dig uu :: d) Tryz.underlying38 Tryz.underlying5 Tryz.underlying9 (fun j hj => digits_cells (HD2.out h) j _ (by unfold Lib.byteCells; rw [List.getElem?_map, List.getElem?_eq_getElem hj]; rfl))
    rwa [HL.out] at this
   go_wp2
   go_ret2
   exact ⟨by rw [HE.out]; rfl, hb.setCell (Nat.le_refl _) _⟩
  ·have hand := and15 uu huu
   have hm : uu % 16 < 16 := Nat.mod_lt _ (by omega)
   go_wp2
   go_roundw
   case rel => exact ⟨uu / 16, k, dig (uu % 16) :: d, by go_num, rfl, by omega, hexSt_step HS.out hlt, by rw [dig_at _ _ hm]; exact digits_set HD.out _, hb.setCell (Nat.le_refl _) _⟩
   case measure => simp [intOf]; omega


set_option maxHeartbeats 1000000 in
theorem formatInt0_16 (w : World) (u : Nat) (hu : u < 1152921504606846976) (hT : w.cell? ⟨10, 15, none⟩ = some (.int .u8 4)) :
  Calls Tryz.prog 242 #[.int .i64 u, .int .i64 16] w fun e w' => e = .returned (.string (str (hexL u))) ∧ Below w.heap.size w w' := by
 have hf := formatStr_16 w u (Nat.lt_of_lt_of_le hu (by decide)) hT
 go_enter Tryz.func242, Tryz.ntmps242
 go_wp2_with fail
 refine hf.mono ?_
 rintro e w1 ⟨rfl, hb⟩
 go_wp2
 go_ret
 exact ⟨rfl, hb⟩
set_option maxHeartbeats 1000000 in
theorem formatInt_16 (w : World) (u : Nat) (hu : u < 1152921504606846976) (hT : w.cell? ⟨10, 15, none⟩ = some (.int .u8 4)) :
  Calls Tryz.prog 223 #[.int .i64 u, .int .i64 16] w fun e w' => e = .returned (.string (str (hexL u))) ∧ Below w.heap.size w w' := by
 have hf := formatInt0_16 w u hu hT
 go_enter Tryz.func223, Tryz.ntmps223
 go_wp2_with fail
 refine hf.mono ?_
 rintro e w1 ⟨rfl, hb⟩
 go_wp2
 go_ret
 exact ⟨rfl, hb⟩

theorem repeat_one (c : UInt8) : ∀ n, Lib.repeatL [c] n = List.replicate n c
 | 0 => rfl
 | n + 1 => by
  show [c] ++ Lib.repeatL [c] n = _
  rw [repeat_one c n]
  rfl
theorem dig_ascii (n : Nat) (h : n < 16) : (dig n).toNat < 128 := by
 have : ∀ n : Nat, n < 16 → (dig n).toNat < 128 := by decide +kernel
 exact this n h
theorem hexL_ascii : ∀ (m n : Nat), n < m → ∀ b ∈ hexL n, b.toNat < 128
 | 0, n, h => by omega
 | m + 1, n, h => by
  intro b hb
  by_cases h1 : n < 16
  ·rw [hexL_small h1] at hb
   simp at hb
   subst hb
   exact dig_ascii n h1
  ·rw [hexL_big h1] at hb
   simp at hb
   rcases hb with hb | rfl
   ·exact hexL_ascii m (n / 16) (by omega) b hb
   ·exact dig_ascii _ (Nat.mod_lt _ (by omega))
theorem str_append (a b : List UInt8) : str a ++ str b = str (a ++ b) := by
 rw [← str_of (str a ++ str b)]
 simp [str]
theorem upper_any (l : List UInt8) (h : ∀ b ∈ l, b.toNat < 128) (hl : l.length ≤ 1000) (w : World) :
  Calls Tryz.prog 222 #[.string (str l)] w fun e w' => e = .returned (.string (str (l.map Lib.upperB))) ∧ Below w.heap.size w w' := by
 have := Tryz.strings_ToUpper_ascii (str l) w (by rw [str_size]; omega) (fun j b hb => h b (List.mem_of_getElem? hb))
 exact this
theorem repeat_any (n : Nat) (hn : n ≤ 1000) (w : World) :
  Calls Tryz.prog 224 #[.string ⟨#[48]⟩, .int .i64 n] w fun e w' => e = .returned (.string (str (List.replicate n 48))) ∧ Below w.heap.size w w' := by
 have := Tryz.strings_Repeat ⟨#[48]⟩ n w (by omega) (by show 1 * n ≤ _; omega)
 rw [show (ByteArray.mk #[48]).data.toList = [48] from rfl, repeat_one] at this
 exact this
set_option maxRecDepth 100000 in
set_option maxHeartbeats 1000000 in
theorem digitsOf_any (n : Nat) (hn : n < 1048576 * 1048576) (w : World) (hG : Gl w) :
  Calls Tryz.prog 200 #[.int .i64 n] w fun e w' => e = .returned (.string (str (greatL n))) ∧ Below w.heap.size w w' := by
 have hf := formatInt_16 w n (by omega) hG.2.1
 have hlen := hexL_len 9 n (by omega)
 have hup := fun W => upper_any (hexL n) (hexL_ascii (n + 1) n (by omega)) (by omega) W
 have hrep := fun W => repeat_any (4 - (hexL n).length) (by omega) W
 have hcat : (str (List.replicate (4 - (hexL n).length) 48)).size + (hexL n).length ≤ 9223372036854775807 := by rw [str_size, List.length_replicate]; omega
 have hz := str_size ((hexL n).map Lib.upperB)
 rw [List.length_map] at hz
 have he : str (List.replicate (4 - (hexL n).length) 48) ++ str ((hexL n).map Lib.upperB) = str (greatL n) := str_append _ _
 obtain ⟨m, hm⟩ : ∃ m, (hexL n).length = m := ⟨_, rfl⟩
 rw [hm] at hz hrep hlen he hcat
 generalize str (hexL n) = X at *
 generalize str ((hexL n).map Lib.upperB) = Y at *
 generalize str (List.replicate (4 - m) 48) = Z at *
 have HE := Lib.hid he
 have n0 : (0 : Int) ≤ (n : Int) := by omega
 clear hm he
 by_cases h4 : m ≤ 4
 ·obtain ⟨q, hq⟩ : ∃ q : Nat, 4 - m = q := ⟨_, rfl⟩
  rw [hq] at hrep
  have hq1 : (4 : Int) - (m : Int) = (q : Int) := by omega
  have q0 : (0 : Int) ≤ (q : Int) := by omega
  have q1 : (m : Int) ≤ 4 := by omega
  clear hq
  go_enter Tryz.func200, Tryz.ntmps200
  go_wp2_with (first
   | (go_at_call 223; refine hf.mono ?_; rintro e w1 ⟨rfl, hb1⟩)
   | (go_at_call 222; refine (hup _).mono ?_; rintro e w2 ⟨rfl, hb2⟩)
   | (go_at_call 224; refine (hrep _).mono ?_; rintro e w3 ⟨rfl, hb3⟩))
  go_ret
  exact ⟨by rw [← HE.out]; rfl, (hb1.trans (hb2.mono hb1.size)).trans (hb3.mono (Nat.le_trans hb1.size hb2.size))⟩
 ·have hq : 4 - m = 0 := by omega
  rw [hq] at hrep
  have q1 : max ((4 : Int) - (m : Int)) 0 = 0 := by omega
  have hrep' : ∀ W, Calls Tryz.prog 224 #[.string ⟨#[48]⟩, .int .i64 0] W fun e w' => e = .returned (.string Z) ∧ Below W.heap.size W w' := hrep
  clear hq hrep
  go_enter Tryz.func200, Tryz.ntmps200
  go_wp2_with (first
   | (go_at_call 223; refine hf.mono ?_; rintro e w1 ⟨rfl, hb1⟩)
   | (go_at_call 222; refine (hup _).mono ?_; rintro e w2 ⟨rfl, hb2⟩)
   | (go_at_call 224; refine (hrep' _).mono ?_; rintro e w3 ⟨rfl, hb3⟩))
  go_ret
  exact ⟨by rw [← HE.out]; rfl, (hb1.trans (hb2.mono hb1.size)).trans (hb3.mono (Nat.le_trans hb1.size hb2.size))⟩

def prt (x : Tok) : List UInt8 :=
 if x.k = 3 then [60, 85] ++ greatL x.n ++ [62, 32] else if x.k = 5 then [60] ++ x.t ++ [62, 32] else if x.k = 4 then [34] ++ x.t ++ [34, 32] else if x.k = 6 then [10] else x.t ++ [32]
def prtL (ts : List Tok) : List UInt8 := ts.flatMap prt
theorem prt_str1 (a b c : List UInt8) : (⟨a.toArray⟩ : ByteArray) ++ str b ++ ⟨c.toArray⟩ = str (a ++ b ++ c) := by
 show str a ++ str b ++ str c = _
 rw [str_append, str_append]
theorem prt_str2 (b c : List UInt8) : str b ++ (⟨c.toArray⟩ : ByteArray) = str (b ++ c) := str_append b c

theorem greatL_len {n : Nat} (hn : n < 1048576 * 1048576) : (greatL n).length ≤ 14 := by
 have := hexL_len 9 n (by omega)
 unfold greatL
 simp
 omega
set_option maxRecDepth 100000 in
set_option maxHeartbeats 4000000 in
theorem printed_any (x : Tok) (a0 : Int) (w : World) (hG : Gl w) (hn : x.n < 1048576 * 1048576) (ht : x.t.length ≤ 5000) :
  Calls Tryz.prog 181 #[.agg #[.int .u8 x.k, .string (str x.t), .int .i64 x.n, .int .i64 a0]] w fun e w' => e = .returned (.string (str (prt x))) ∧ Below w.heap.size w w' := by
 obtain ⟨kd, t, n, at_⟩ := x
 simp only at hn ht ⊢
 obtain ⟨c, hc⟩ : ∃ c : Int, (kd : Int) = c := ⟨_, rfl⟩
 rw [hc]
 have hb0 : Below w.heap.size w (w.alloc (.cells #[.int .u8 c, .string (str t), .int .i64 n, .int .i64 a0] 92)) := (Below.refl _ _).alloc (Nat.le_refl _) _
 have hd := digitsOf_any n hn _ (hG.next hb0)
 have hgl := greatL_len hn
 have HB := Lib.hid hb0
 have s1 := str_size t
 have s2 := str_size (greatL n)
 have s3 : (str t).size ≤ 5000 := by omega
 have s4 : (str (greatL n)).size ≤ 5000 := by omega
 clear hG hb0 s1 s2 hgl ht
 by_cases h3 : kd = 3
 ·have HP := Lib.hid (show (⟨#[60, 85]⟩ : ByteArray) ++ str (greatL n) ++ ⟨#[62, 32]⟩ = str (prt ⟨kd, t, n, at_⟩) by unfold prt; rw [if_pos h3]; exact prt_str1 _ _ _)
  obtain rfl : c = 3 := by omega
  clear hc h3
  generalize str (greatL n) = X at *
  generalize str t = T at *
  go_enter Tryz.func181, Tryz.ntmps181
  go_wp2_with (go_at_call 200; refine hd.mono ?_; rintro e w1 ⟨rfl, hb1⟩)
  go_ret
  exact ⟨by rw [← HP.out]; rfl, HB.out.trans (hb1.mono (by simp))⟩
 by_cases h5 : kd = 5
 ·have HP := Lib.hid (show (⟨#[60]⟩ : ByteArray) ++ str t ++ ⟨#[62, 32]⟩ = str (prt ⟨kd, t, n, at_⟩) by unfold prt; rw [if_neg h3, if_pos h5]; exact prt_str1 _ _ _)
  obtain rfl : c = 5 := by omega
  clear hc h3 h5 hd s4
  generalize str t = T at *
  go_enter Tryz.func181, Tryz.ntmps181
  go_wp2
  go_ret
  exact ⟨by rw [← HP.out]; rfl, HB.out⟩
 by_cases h4 : kd = 4
 ·have HP := Lib.hid (show (⟨#[34]⟩ : ByteArray) ++ str t ++ ⟨#[34, 32]⟩ = str (prt ⟨kd, t, n, at_⟩) by unfold prt; rw [if_neg h3, if_neg h5, if_pos h4]; exact prt_str1 _ _ _)
  obtain rfl : c = 4 := by omega
  clear hc h3 h5 h4 hd s4
  generalize str t = T at *
  go_enter Tryz.func181, Tryz.ntmps181
  go_wp2
  go_ret
  exact ⟨by rw [← HP.out]; rfl, HB.out⟩
 by_cases h6 : kd = 6
 ·have HP := Lib.hid (show (⟨#[10]⟩ : ByteArray) = str (prt ⟨kd, t, n, at_⟩) by unfold prt; rw [if_neg h3, if_neg h5, if_neg h4, if_pos h6]; rfl)
  obtain rfl : c = 6 := by omega
  clear hc h3 h5 h4 h6 hd s4
  generalize str t = T at *
  go_enter Tryz.func181, Tryz.ntmps181
  go_wp2
  go_ret
  exact ⟨by rw [← HP.out]; rfl, HB.out⟩
 ·have HP := Lib.hid (show str t ++ (⟨#[32]⟩ : ByteArray) = str (prt ⟨kd, t, n, at_⟩) by unfold prt; rw [if_neg h3, if_neg h5, if_neg h4, if_neg h6]; exact prt_str2 _ _)
  have q3 : (c == 3) = false := by simp; omega
  have q5 : (c == 5) = false := by simp; omega
  have q4 : (c == 4) = false := by simp; omega
  have q6 : (c == 6) = false := by simp; omega
  clear hc h3 h5 h4 h6 hd s4
  generalize str t = T at *
  go_enter Tryz.func181, Tryz.ntmps181
  go_wp2
  go_ret
  exact ⟨by rw [← HP.out]; rfl, HB.out⟩
end Go.Proofs.YthaibekbefndlaaGreatDoor.C

namespace Go.Proofs.YthaibekbefndlaaGreatDoor.C
open Go.RowKit

theorem builder_keep {w w' : World} {B b : Nat} {bs : List Value} (h : Lib.IsBuilder 208 5 B b bs w) (hb : Below w.heap.size w w') : Lib.IsBuilder 208 5 B b bs w' := by
 rcases h with ⟨h0, v, h1, h2, h3⟩ | ⟨h0, v, h1, h2, h3⟩
 ·exact .inl ⟨h0, v, (hb.block b (Array.getElem?_eq_some_iff.1 h1).1).trans h1, own_keep h2 hb, h3⟩
 ·exact .inr ⟨h0, v, (hb.block b (Array.getElem?_eq_some_iff.1 h1).1).trans h1, own_keep h2 hb, h3⟩
theorem builder_new (w : World) : Lib.IsBuilder 208 5 w.heap.size w.heap.size [] (w.alloc (.cells #[.pointer none, .slice none 0 0] 208)) :=
 .inl ⟨Nat.le_refl _, .slice none 0 0, heap_new _ _, World.ownsRow_nil _ _ _ _, by simp [Value.ownBlock]⟩
theorem prt_len (x : Tok) (ht : x.t.length ≤ 5000) (hn : x.n < 1048576 * 1048576) : (prt x).length ≤ 5020 := by
 have := greatL_len hn
 unfold prt
 repeat' split
 all_goals simp
 all_goals omega
theorem prtL_len : ∀ (ts : List Tok), (∀ x ∈ ts, x.t.length ≤ 5000 ∧ x.n < 1048576 * 1048576) → (prtL ts).length ≤ 5020 * ts.length
 | [], _ => by simp [prtL]
 | x :: r, h => by
  have h1 := prt_len x (h x (by simp)).1 (h x (by simp)).2
  have h2 := prtL_len r (fun y hy => h y (by simp [hy]))
  have : prtL (x :: r) = prt x ++ prtL r := rfl
  rw [this, List.length_append, List.length_cons]
  omega
theorem prtL_snoc (ts : List Tok) (x : Tok) : prtL (ts ++ [x]) = prtL ts ++ prt x := by simp [prtL]
theorem add_more (a : Addr) (j i : Nat) (hi : 0 < i) : (⟨(a.add j).block, (a.add j).off + i, none⟩ : Addr) = a.add (j + i) := by
 unfold Addr.add
 by_cases h : j = 0
 ·subst h
  rw [if_pos rfl, Nat.zero_add, if_neg (by omega)]
 ·rw [if_neg h, if_neg (by omega), Nat.add_assoc]
theorem TI.at4 {w : World} {B n : Nat} {A : Option Addr} {ts : List Tok} (h : TI w B A n ts) {k : Nat} (hk : k < n) : ∃ ad x, A = some ad ∧ ad.block < B ∧ ts[k]? = some x ∧ w.cell? (ad.add (k * 4)) = some (.int .u8 x.k) ∧ w.cell? ⟨(ad.add (k * 4)).block, (ad.add (k * 4)).off + 1, none⟩ = some (.string (str x.t)) ∧ w.cell? ⟨(ad.add (k * 4)).block, (ad.add (k * 4)).off + 2, none⟩ = some (.int .i64 x.n) ∧ w.cell? ⟨(ad.add (k * 4)).block, (ad.add (k * 4)).off + 3, none⟩ = some (.int .i64 x.at_) := by
 obtain ⟨ad, x, h1, h2, h3, h4⟩ := h.at_ hk
 exact ⟨ad, x, h1, h2, h3, h4 0 _ rfl, by rw [add_more _ _ _ (by omega)]; exact h4 1 _ rfl, by rw [add_more _ _ _ (by omega)]; exact h4 2 _ rfl, by rw [add_more _ _ _ (by omega)]; exact h4 3 _ rfl⟩

theorem print_step {W w1 w2 : World} {B k : Nat} {ts : List Tok} {x : Tok} {o : Obj} (hx : ts[k]? = some x) (_hI : Lib.IsBuilder 208 5 B B (Lib.byteCells (prtL (ts.take k))) W) (hB : B ≤ W.heap.size) (hb1 : Below (W.alloc o).heap.size (W.alloc o) w1)
  (hA : Lib.BuilderAt 208 5 B B (.pointer (some ⟨B, 0, none⟩)) (Lib.byteCells (prtL (ts.take k)) ++ Lib.strCells (str (prt x))) w2) (hb2 : Below B w1 w2) :
  Lib.IsBuilder 208 5 B B (Lib.byteCells (prtL (ts.take (k + 1)))) w2 ∧ Below B W w2 := by
 rw [take_snoc hx, prtL_snoc, Lib.byteCells_append]
 exact ⟨.inr hA, ((((Below.refl B W).alloc hB o).trans (hb1.mono (by simp; omega))).trans hb2)⟩

set_option maxRecDepth 100000 in
set_option maxHeartbeats 4000000 in
theorem print_any (w : World) (B : Nat) (A : Option Addr) (n c : Nat) (ts : List Tok) (h : TI w B A n ts) (hB : B ≤ w.heap.size) (hG : Gl w) (hn : n ≤ 5000) (hok : ∀ x ∈ ts, x.t.length ≤ 5000 ∧ x.n < 1048576 * 1048576) :
  Calls Tryz.prog 139 #[.slice A n c] w fun e w' => e = .returned (.string (str (prtL ts))) ∧ Below w.heap.size w w' := by
 have hl := h.len
 have H := Lib.hid h
 have HG := Lib.hid hG
 have HK := Lib.hid hok
 have HL := Lib.hid hl
 have hI0 := Lib.hid (builder_new w)
 have hB0 : Below w.heap.size w (w.alloc (.cells #[.pointer none, .slice none 0 0] 208)) := (Below.refl _ _).alloc (Nat.le_refl _) _
 have HB0 := Lib.hid hB0
 clear h hG hok hl hB0
 go_enter Tryz.func139, Tryz.ntmps139
 go_wp2
 obtain ⟨E, hE⟩ : ∃ E, w.heap.size = E := ⟨_, rfl⟩
 rw [hE] at hI0 HB0 hB ⊢
 have HE := Lib.hid hE
 clear hE
 go_loopw [8] (fun iv wr => ∃ k : Nat, k ≤ n ∧ iv = .int .i64 k ∧ Hid (Lib.IsBuilder 208 5 E E (Lib.byteCells (prtL (ts.take k))) wr) ∧ Hid (Below E w wr)) (fun iv _ => n - (intOf iv).toNat)
 case atStart => exact ⟨0, Nat.zero_le _, rfl, hI0, HB0⟩
 case round =>
  obtain ⟨k, hk, rfl, HI, HW⟩ := hrel
  by_cases hlt : k < n
  ·obtain ⟨ad, x, rfl, hbl, hx, q0, q1, q2, q3⟩ := (H.out.on HW.out hB).at4 hlt
   have HX := Lib.hid hx
   obtain ⟨hxt, hxn⟩ := HK.out x (List.mem_of_getElem? hx)
   have k0 : (0 : Int) ≤ (k : Int) := by omega
   have k1 : (k : Int) < (n : Int) := by omega
   have hEw : E ≤ wr.heap.size := by have := HW.out.size; have := HE.out; omega
   have hGw := HG.out.on HW.out (by rw [← HE.out]; exact HG.out.top)
   have hpr := fun o (hb : Below wr.heap.size wr (wr.alloc o)) => printed_any x x.at_ (wr.alloc o) (hGw.next hb) hxn hxt
   have hlen1 := prtL_len (ts.take k) (fun y hy => HK.out y (List.mem_of_mem_take hy))
   have hlen2 := prt_len x hxt hxn
   have hlen3 : (ts.take k).length ≤ 5000 := by rw [List.length_take]; omega
   clear hx
   go_wp2_with fail
   refine (hpr _ ((Below.refl _ _).alloc (Nat.le_refl _) _)).mono ?_
   rintro e w1 ⟨rfl, hb1⟩
   have hI1 := builder_keep (builder_keep HI.out ((Below.refl _ _).alloc (Nat.le_refl _) _)) hb1
   have hs1 := hb1.size
   rw [World.size_alloc] at hs1
   have HB1 := Lib.hid hb1
   clear hb1
   go_wp2_with fail
   refine (builder_write E E _ (str (prt x)) w1 hI1 (by rw [Lib.byteCells_length, str_size]; omega) (by omega)).mono ?_
   rintro e w2 ⟨rfl, hA, hb2⟩
   obtain ⟨hI2, hW2⟩ := print_step HX.out HI.out hEw HB1.out hA hb2
   have HI2 := Lib.hid hI2
   have HW2 := Lib.hid (HW.out.trans hW2)
   clear hA hb2 hI2 hW2 hI1
   go_wp2
   go_roundw
   case rel => exact ⟨k + 1, by omega, by go_num, HI2, HW2⟩
   case measure => simp [intOf]; omega
  ·obtain rfl : k = n := by omega
   have hEw : E ≤ wr.heap.size := by have := HW.out.size; have := HE.out; omega
   have hst := Tryz.Builder_String_any E E _ wr HI.out hEw
   go_wp2_with fail
   refine hst.mono ?_
   rintro e w2 ⟨rfl, hb2⟩
   have HB2 := Lib.hid (HW.out.trans hb2)
   clear hb2
   go_wp2
   go_ret
   have h1 : ts.take k = ts := List.take_of_length_le (by rw [HL.out]; exact Nat.le_refl _)
   exact ⟨by rw [h1]; rfl, by rw [HE.out]; exact HB2.out⟩
end Go.Proofs.YthaibekbefndlaaGreatDoor.C

namespace Go.Proofs.YthaibekbefndlaaGreatDoor.C
open Go.RowKit

def faultV (er at_ : Int) : List PanicEntry := [{ v := .iface 66 (.agg #[.int .u16 er, .int .i64 at_]), recovered := false }]
def tkV (x : Tok) : Value := .agg #[.int .u8 x.k, .string (str x.t), .int .i64 x.n, .int .i64 x.at_]
set_option maxRecDepth 100000 in
set_option maxHeartbeats 1000000 in
theorem refuse_any (er : Int) (x : Tok) (w : World) : Calls Tryz.prog 38 #[.int .u16 er, tkV x] w fun e w' => e = .panicked (faultV er x.at_) ∧ Below w.heap.size w w' := by
 unfold tkV faultV
 go_enter Tryz.func38, Tryz.ntmps38
 go_wp2
 exact ⟨rfl, rfl, (Below.refl _ _).alloc (Nat.le_refl _) _⟩

def inKs (ks : List Int) (v : Int) : Bool := ks.contains v
set_option maxHeartbeats 1000000 in
theorem index8_any (w : World) (B : Nat) (A : Option Addr) (n c : Nat) (ks : List Int) (v : Int) (h : RI .u8 w B A n ks) (hn : n ≤ 1000) :
  Calls Tryz.prog 137 #[.slice A n c, .int .u8 v] w fun e w' => (∃ i : Int, e = .returned (.int .i64 i) ∧ (decide (0 ≤ i) = inKs ks v)) ∧ w' = w := by
 have H := Lib.hid h
 have hl := h.len
 clear h
 have HL := Lib.hid hl
 clear hl
 go_enter Tryz.func137, Tryz.ntmps137
 go_wp2
 go_loop [8] (fun i => ∃ k : Nat, k ≤ n ∧ i = .int .i64 k ∧ Hid (v ∉ ks.take k)) (fun i => n - (intOf i).toNat)
 case atStart => exact ⟨0, Nat.zero_le _, rfl, Lib.hid (by simp)⟩
 case round =>
  obtain ⟨k, hk, rfl, HN⟩ := hrel
  by_cases hlt : k < n
  ·obtain ⟨ad, u, rfl, hb, hu, hc⟩ := H.out.at_ hlt
   have HU := Lib.hid hu
   clear hu
   by_cases hv : v = u
   ·subst hv
    go_wp2
    go_ret
    refine ⟨⟨_, rfl, ?_⟩, rfl⟩
    have hm : v ∈ ks := List.mem_of_getElem? HU.out
    simp [inKs, hm]
   ·have hv' : (v == u) = false := by simpa using hv
    go_wp2
    go_round
    case rel => exact ⟨k + 1, by omega, by go_num, Lib.hid (by
     rw [List.take_add_one, HU.out]
     simp only [Option.toList_some, List.mem_append, List.mem_singleton, not_or]
     exact ⟨HN.out, hv⟩)⟩
    case measure => simp [intOf]; omega
  ·obtain rfl : k = n := by omega
   go_wp2
   go_ret
   refine ⟨⟨_, rfl, ?_⟩, rfl⟩
   have hm := HN.out
   rw [List.take_of_length_le (by rw [HL.out]; exact Nat.le_refl _)] at hm
   simp [inKs, hm]
set_option maxHeartbeats 1000000 in
theorem contains8_is (w : World) (B : Nat) (A : Option Addr) (n c : Nat) (ks : List Int) (v : Int) (h : RI .u8 w B A n ks) (hn : n ≤ 1000) (b : Bool) (hb : inKs ks v = b) :
  Calls Tryz.prog 80 #[.slice A n c, .int .u8 v] w fun e w' => e = .returned (.bool b) ∧ w' = w := by
 have hi := index8_any w B A n c ks v h hn
 rw [hb] at hi
 clear h hb
 go_enter Tryz.func80, Tryz.ntmps80
 go_wp2_with fail
 refine hi.mono ?_
 rintro e w' ⟨⟨i, rfl, hi2⟩, rfl⟩
 have HI := Lib.hid hi2
 clear hi2
 cases b with
 | true =>
  have h0 : 0 ≤ i := by simpa using HI.out
  go_wp2
  go_ret
  exact ⟨rfl, rfl⟩
 | false =>
  have h0 : decide (0 ≤ i) = false := HI.out
  go_wp2
  go_ret
  exact ⟨rfl, rfl⟩

structure TV where
 A : Option Addr
 n : Nat
 c : Nat
 ts : List Tok
def CU (w : World) (R : Nat) (T : TV) (k : Nat) (v1 v2 v3 v4 v5 : Value) : Prop :=
 w.heap[R]? = some (.cells #[.slice T.A T.n T.c, .int .i64 k, v1, v2, v3, v4, v5] 64 (0, 0)) ∧ TI w R T.A T.n T.ts ∧ T.n ≤ 1001 ∧ k ≤ T.n
def Moved (w w' : World) (R : Nat) : Prop := w.grownBy w' (some R)
section
variable {w w' : World} {R k : Nat} {T : TV} {v1 v2 v3 v4 v5 : Value}
theorem CU.lt (h : CU w R T k v1 v2 v3 v4 v5) : R < w.heap.size := (Array.getElem?_eq_some_iff.1 h.1).1
theorem CU.next (h : CU w R T k v1 v2 v3 v4 v5) (hb : Below w.heap.size w w') : CU w' R T k v1 v2 v3 v4 v5 := by
 have hlt := h.lt
 exact ⟨(hb.block R hlt).trans h.1, h.2.1.keep fun p hp => hb.cell (p := p) (by omega), h.2.2⟩
theorem CU.drewN (h : CU w R T k v1 v2 v3 v4 v5) (n : Nat) : CU (w.drewN n) R T k v1 v2 v3 v4 v5 := h
theorem CU.seek (h : CU w R T k v1 v2 v3 v4 v5) {k' : Nat} (hk : k' ≤ T.n) : CU (w.setCell ⟨R, 1, none⟩ (.int .i64 k')) R T k' v1 v2 v3 v4 v5 := by
 obtain ⟨h1, h2, h3, h4⟩ := h
 refine ⟨?_, h2.keep fun p hp => World.cell?_setCell_other w _ p _ (fun e => by subst e; exact absurd hp (Nat.lt_irrefl _)), h3, hk⟩
 obtain ⟨hlt, hk⟩ := Array.getElem?_eq_some_iff.1 h1
 show (w.heap.modify R _)[R]? = _
 rw [Array.getElem?_eq_getElem (by rw [Array.size_modify]; exact hlt), Array.getElem_modify_self, hk]
 rfl
theorem CU.cells (h : CU w R T k v1 v2 v3 v4 v5) : w.cell? ⟨R, 0, none⟩ = some (.slice T.A T.n T.c) ∧ w.cell? ⟨R, 1, none⟩ = some (.int .i64 k) ∧ w.frozen? ⟨R, 1, none⟩ = false := by
 simp [World.cell?, World.frozen?, h.1]
theorem CU.more (h : CU w R T k v1 v2 v3 v4 v5) : w.cell? ⟨R, 2, none⟩ = some v1 ∧ w.cell? ⟨R, 3, none⟩ = some v2 ∧ w.cell? ⟨R, 4, none⟩ = some v3 ∧ w.cell? ⟨R, 5, none⟩ = some v4 ∧ w.cell? ⟨R, 6, none⟩ = some v5 := by
 simp [World.cell?, h.1]
theorem CU.left (h : CU w R T k v1 v2 v3 v4 v5) : T.ts.length = T.n := h.2.1.len
theorem CU.tok {x : Tok} {r : List Tok} (h : CU w R T k v1 v2 v3 v4 v5) (hr : T.ts.drop k = x :: r) : k < T.n ∧ T.ts.drop (k + 1) = r ∧ ∃ ad, T.A = some ad ∧ ad.block < R ∧ w.cell? (ad.add (k * 4)) = some (.int .u8 x.k) ∧ w.cell? ⟨(ad.add (k * 4)).block, (ad.add (k * 4)).off + 1, none⟩ = some (.string (str x.t)) ∧ w.cell? ⟨(ad.add (k * 4)).block, (ad.add (k * 4)).off + 2, none⟩ = some (.int .i64 x.n) ∧ w.cell? ⟨(ad.add (k * 4)).block, (ad.add (k * 4)).off + 3, none⟩ = some (.int .i64 x.at_) := by
 have hk : k < T.ts.length := by
  rcases Nat.lt_or_ge k T.ts.length with h1 | h1
  ·exact h1
  ·rw [List.drop_eq_nil_of_le h1] at hr; cases hr
 have hx : T.ts[k]? = some x ∧ T.ts.drop (k + 1) = r := by
  rw [List.drop_eq_getElem_cons hk] at hr
  injection hr with h1 h2
  exact ⟨by rw [List.getElem?_eq_getElem hk, h1], h2⟩
 have hl := h.left
 obtain ⟨ad, y, e1, e2, e3, e4, e5, e6, e7⟩ := h.2.1.at4 (k := k) (by omega)
 rw [hx.1] at e3
 injection e3 with e3
 subst e3
 exact ⟨by omega, hx.2, ad, e1, e2, e4, e5, e6, e7⟩
theorem Moved.of_below (h : Below w.heap.size w w') : Moved w w' R := ⟨h.os, h.tape, h.output, h.size, fun i hi _ => h.block i hi⟩
theorem Moved.trans {a b c : World} (h : Moved a b R) (k : Moved b c R) : Moved a c R := ⟨k.os.trans h.os, k.tape.trans h.tape, k.output.trans h.output, Nat.le_trans h.size k.size, fun i hi hne => (k.block i (Nat.lt_of_lt_of_le hi h.size) hne).trans (h.block i hi hne)⟩
theorem Moved.refl (w : World) (R : Nat) : Moved w w R := ⟨rfl, rfl, rfl, Nat.le_refl _, fun _ _ _ => rfl⟩
theorem Moved.seek (h : Moved w w' R) (i : Nat) (u : Value) : Moved w (w'.setCell ⟨R, i, none⟩ u) R := ⟨h.os, h.tape, h.output, by simpa [World.setCell] using h.size, fun j hj hne => (Below.heap_setCell w' ⟨R, i, none⟩ u j (fun e => hne (by rw [e]))).trans (h.block j hj hne)⟩
theorem Moved.alloc (h : Moved w w' R) (o : Obj) : Moved w (w'.alloc o) R := h.trans (.of_below ((Below.refl _ _).alloc (Nat.le_refl _) o))
theorem Moved.below {B : Nat} (h : Moved w w' R) (hB : B ≤ R) (hw : B ≤ w.heap.size) : Below B w w' := ⟨h.os, h.tape, h.output, h.size, fun i hi => h.block i (by omega) (fun e => by injection e; omega)⟩
end
end Go.Proofs.YthaibekbefndlaaGreatDoor.C

namespace Go.Proofs.YthaibekbefndlaaGreatDoor.C
open Go.RowKit

theorem below_drew {B : Nat} {a w : World} (h : Below B a w) : Below B a w.drew := ⟨h.os, h.tape, h.output, h.size, h.block⟩
theorem CU.drew {w : World} {R k : Nat} {T : TV} {v1 v2 v3 v4 v5 : Value} (h : CU w R T k v1 v2 v3 v4 v5) : CU w.drew R T k v1 v2 v3 v4 v5 := h
theorem Moved.drew {w w' : World} {R : Nat} (h : Moved w w' R) : Moved w w'.drew R := ⟨h.os, h.tape, h.output, h.size, h.block⟩
theorem CU.alloc {w : World} {R k : Nat} {T : TV} {v1 v2 v3 v4 v5 : Value} (h : CU w R T k v1 v2 v3 v4 v5) (o : Obj) : CU (w.alloc o) R T k v1 v2 v3 v4 v5 := h.next ((Below.refl _ _).alloc (Nat.le_refl _) o)
theorem CU.far {w : World} {R k : Nat} {T : TV} {v1 v2 v3 v4 v5 : Value} (h : CU w R T k v1 v2 v3 v4 v5) {p : Addr} (hp : R < p.block) (u : Value) : CU (w.setCell p u) R T k v1 v2 v3 v4 v5 := by
 obtain ⟨h1, h2, h3⟩ := h
 exact ⟨(Below.heap_setCell w p u R (by omega)).trans h1, h2.keep fun q hq => World.cell?_setCell_other w p q u (fun e => by subst e; omega), h3⟩

set_option maxRecDepth 100000 in
set_option maxHeartbeats 4000000 in
theorem take_yes (w : World) (R : Nat) (T : TV) (k : Nat) (v1 v2 v3 v4 v5 : Value) (x : Tok) (r : List Tok) (B : Nat) (A : Option Addr) (m c : Nat) (ks : List Int)
  (h : CU w R T k v1 v2 v3 v4 v5) (hr : T.ts.drop k = x :: r) (hK : RI .u8 w B A m ks) (hm : m ≤ 1000) (hB : B ≤ w.heap.size) (hin : inKs ks x.k = true) :
  Calls Tryz.prog 37 #[.pointer (some ⟨R, 0, none⟩), .slice A m c] w fun e w' => e = .returned (tkV x) ∧ CU w' R T (k + 1) v1 v2 v3 v4 v5 ∧ Moved w w' R := by
 obtain ⟨hkn, _, ad, hA, hbl, q0, q1, q2, q3⟩ := h.tok hr
 obtain ⟨c0, c1, f1⟩ := h.cells
 have hlt := h.lt
 have hn := h.2.2.1
 have hcon : ∀ W, Below w.heap.size w W → Calls Tryz.prog 80 #[.slice A m c, .int .u8 x.k] W fun e w' => e = .returned (.bool true) ∧ w' = W := fun W hW => contains8_is W B A m c ks x.k (hK.keep fun p hp => hW.cell (p := p) (by omega)) hm true hin
 have HC := Lib.hid hcon
 have H := Lib.hid h
 have k0 : (0 : Int) ≤ (k : Int) := by omega
 have k1 : (k : Int) < (T.n : Int) := by omega
 rw [hA] at c0
 clear hcon h hr hK hin
 go_enter Tryz.func37, Tryz.ntmps37
 go_wp2
 go_region_held3 (fun w' => w'.cell? ⟨R, 0, none⟩ = some (.slice (some ad) T.n T.c) ∧ w'.cell? ⟨R, 1, none⟩ = some (.int .i64 k) ∧ w'.cell? (ad.add (k * 4)) = some (.int .u8 x.k) ∧ w'.cell? ⟨(ad.add (k * 4)).block, (ad.add (k * 4)).off + 1, none⟩ = some (.string (str x.t)) ∧ w'.cell? ⟨(ad.add (k * 4)).block, (ad.add (k * 4)).off + 2, none⟩ = some (.int .i64 x.n) ∧ w'.cell? ⟨(ad.add (k * 4)).block, (ad.add (k * 4)).off + 3, none⟩ = some (.int .i64 x.at_)) (go_keep) (fail)
 go_wp2_with (go_at_call 80; refine (HC.out _ (below_drew (((Below.refl _ _).alloc (Nat.le_refl _) _).alloc (by simp) _))).mono ?_; rintro e w' ⟨rfl, rfl⟩)
 refine bodyPost_ret (v := tkV x) (by simp [results, Tryz.results37, go_sem, tkV]) rfl ⟨rfl, ?_, ?_⟩
 ·exact (((H.out.seek (k' := k + 1) (by omega)).alloc _).alloc _).drew
 ·exact ((((Moved.refl w R).seek 1 _).alloc _).alloc _).drew

set_option maxRecDepth 100000 in
set_option maxHeartbeats 4000000 in
theorem take_no (w : World) (R : Nat) (T : TV) (k : Nat) (v1 v2 v3 v4 v5 : Value) (x : Tok) (r : List Tok) (B : Nat) (A : Option Addr) (m c : Nat) (ks : List Int)
  (h : CU w R T k v1 v2 v3 v4 v5) (hr : T.ts.drop k = x :: r) (hK : RI .u8 w B A m ks) (hm : m ≤ 1000) (hB : B ≤ w.heap.size) (hin : inKs ks x.k = false) :
  Calls Tryz.prog 37 #[.pointer (some ⟨R, 0, none⟩), .slice A m c] w fun e w' => e = .panicked (faultV 30 x.at_) ∧ Below w.heap.size w w' := by
 obtain ⟨hkn, _, ad, hA, hbl, q0, q1, q2, q3⟩ := h.tok hr
 obtain ⟨c0, c1, f1⟩ := h.cells
 have hlt := h.lt
 have hn := h.2.2.1
 have hcon : ∀ W, Below w.heap.size w W → Calls Tryz.prog 80 #[.slice A m c, .int .u8 x.k] W fun e w' => e = .returned (.bool false) ∧ w' = W := fun W hW => contains8_is W B A m c ks x.k (hK.keep fun p hp => hW.cell (p := p) (by omega)) hm false hin
 have HC := Lib.hid hcon
 have k0 : (0 : Int) ≤ (k : Int) := by omega
 have k1 : (k : Int) < (T.n : Int) := by omega
 rw [hA] at c0
 clear hcon h hr hK hin
 go_enter Tryz.func37, Tryz.ntmps37
 go_wp2
 go_region_held3 (fun w' => w'.cell? ⟨R, 0, none⟩ = some (.slice (some ad) T.n T.c) ∧ w'.cell? ⟨R, 1, none⟩ = some (.int .i64 k) ∧ w'.cell? (ad.add (k * 4)) = some (.int .u8 x.k) ∧ w'.cell? ⟨(ad.add (k * 4)).block, (ad.add (k * 4)).off + 1, none⟩ = some (.string (str x.t)) ∧ w'.cell? ⟨(ad.add (k * 4)).block, (ad.add (k * 4)).off + 2, none⟩ = some (.int .i64 x.n) ∧ w'.cell? ⟨(ad.add (k * 4)).block, (ad.add (k * 4)).off + 3, none⟩ = some (.int .i64 x.at_)) (go_keep) (fail)
 have hb : Below w.heap.size w (((w.alloc (.cells #[.int .u8 0, .string ⟨#[]⟩, .int .i64 0, .int .i64 0] 92)).alloc (.cells #[.int .u8 x.k, .string (str x.t), .int .i64 x.n, .int .i64 x.at_] 92)).drew) := below_drew (((Below.refl _ _).alloc (Nat.le_refl _) _).alloc (by simp) _)
 have HB := Lib.hid hb
 clear hb
 go_wp2_with (first
  | (go_at_call 80; refine (HC.out _ HB.out).mono ?_; rintro e w' ⟨rfl, rfl⟩)
  | (go_at_call 38; refine (refuse_any 30 x _).mono ?_; rintro e w2 ⟨rfl, hb2⟩))
 exact ⟨rfl, rfl, HB.out.trans (hb2.mono HB.out.size)⟩
end Go.Proofs.YthaibekbefndlaaGreatDoor.C

namespace Go.Proofs.YthaibekbefndlaaGreatDoor.C
open Go.RowKit

theorem kinds_one (w : World) (k : Int) (t : TypeId) : RI .u8 (w.alloc (.cells #[.int .u8 k] t)) (w.heap.size + 1) (some ⟨w.heap.size, 0, none⟩) 1 [k] :=
 ⟨rfl, fun _ => ⟨_, rfl, Nat.lt_succ_self _, fun j u hu => by
  rw [add_plain, Nat.zero_add, World.cell?_alloc_new]
  match j, hu with
  | 0, hu => simp at hu; subst hu; rfl⟩⟩
theorem kinds_two (w : World) (k l : Int) (t : TypeId) : RI .u8 (w.alloc (.cells #[.int .u8 k, .int .u8 l] t)) (w.heap.size + 1) (some ⟨w.heap.size, 0, none⟩) 2 [k, l] :=
 ⟨rfl, fun _ => ⟨_, rfl, Nat.lt_succ_self _, fun j u hu => by
  rw [add_plain, Nat.zero_add, World.cell?_alloc_new]
  match j, hu with
  | 0, hu => simp at hu; subst hu; rfl
  | 1, hu => simp at hu; subst hu; rfl⟩⟩
theorem str_inj {a b : List UInt8} (h : str a = str b) : a = b := by
 have := congrArg (fun z : ByteArray => z.data.toList) h
 simpa using this
theorem str_ne0 {a b : List UInt8} (h : a ≠ b) : ((str a).toList == (str b).toList) = false := by
 rw [Lib.toList_data, Lib.toList_data, str_list, str_list]
 simpa using h
theorem str_ne {a b : List UInt8} (h : a ≠ b) : (!((str a).toList == (str b).toList)) = true := by rw [str_ne0 h]; rfl
theorem str_same (a : List UInt8) : ((str a).toList == (str a).toList) = true := by simp
section
variable (w : World) (R : Nat) (T : TV) (k : Nat) (v1 v2 v3 v4 v5 : Value) (x : Tok) (r : List Tok)

set_option maxRecDepth 100000 in
set_option maxHeartbeats 4000000 in
theorem takeText_yes (kd : Nat) (s : List UInt8) (h : CU w R T k v1 v2 v3 v4 v5) (hr : T.ts.drop k = x :: r) (hk : x.k = kd) (ht : x.t = s) :
  Calls Tryz.prog 128 #[.pointer (some ⟨R, 0, none⟩), .int .u8 kd, .string (str s)] w fun e w' => e = .returned (.tuple #[]) ∧ CU w' R T (k + 1) v1 v2 v3 v4 v5 ∧ Moved w w' R := by
 have hta := take_yes _ R T k v1 v2 v3 v4 v5 x r _ _ 1 1 [(kd : Int)] (h.alloc (.cells #[.int .u8 kd] 5)) hr (kinds_one w kd 5) (by omega) (by simp) (by subst hk; simp [inKs])
 clear h hr hk
 go_enter Tryz.func128, Tryz.ntmps128
 go_wp2_with (go_at_call 37; refine hta.mono ?_; rintro e w1 ⟨rfl, hc, hm⟩; have HC := Lib.hid hc; have HM := Lib.hid hm; clear hc hm; unfold tkV; subst ht)
 go_end0
 exact ⟨rfl, HC.out.alloc _, ((Moved.of_below ((Below.refl _ _).alloc (Nat.le_refl _) _)).trans HM.out).alloc _⟩
set_option maxRecDepth 100000 in
set_option maxHeartbeats 4000000 in
theorem takeText_no (kd : Nat) (s : List UInt8) (h : CU w R T k v1 v2 v3 v4 v5) (hr : T.ts.drop k = x :: r) (hn : ¬ (x.k = kd ∧ x.t = s)) :
  Calls Tryz.prog 128 #[.pointer (some ⟨R, 0, none⟩), .int .u8 kd, .string (str s)] w fun e w' => e = .panicked (faultV 30 x.at_) ∧ Moved w w' R := by
 have hal : Moved w (w.alloc (.cells #[.int .u8 kd] 5)) R := (Moved.refl w R).alloc _
 have HA := Lib.hid hal
 by_cases hk : x.k = kd
 ·have hta := take_yes _ R T k v1 v2 v3 v4 v5 x r _ _ 1 1 [(kd : Int)] (h.alloc (.cells #[.int .u8 kd] 5)) hr (kinds_one w kd 5) (by omega) (by simp) (by subst hk; simp [inKs])
  have hne := str_ne (fun e => hn ⟨hk, e⟩)
  clear h hr hk hal hn
  go_enter Tryz.func128, Tryz.ntmps128
  go_wp2_with (go_at_call 37; refine hta.mono ?_; rintro e w1 ⟨rfl, hc, hm⟩; have HC := Lib.hid hc; have HM := Lib.hid hm; clear hc hm; unfold tkV)
  refine (refuse_any 30 x _).mono ?_
  rintro e w2 ⟨rfl, hb2⟩
  exact ⟨rfl, rfl, ((HA.out.trans HM.out).alloc _).trans (.of_below hb2)⟩
 ·have hta := take_no _ R T k v1 v2 v3 v4 v5 x r _ _ 1 1 [(kd : Int)] (h.alloc (.cells #[.int .u8 kd] 5)) hr (kinds_one w kd 5) (by omega) (by simp) (by simp [inKs]; omega)
  clear h hr hk hal hn
  go_enter Tryz.func128, Tryz.ntmps128
  go_wp2_with (go_at_call 37; refine hta.mono ?_; rintro e w1 ⟨rfl, hb⟩)
  exact ⟨rfl, rfl, HA.out.trans (.of_below hb)⟩

theorem CU.region {w : World} {R k : Nat} {T : TV} {v1 v2 v3 v4 v5 : Value} {x : Tok} {r : List Tok} (h : CU w R T k v1 v2 v3 v4 v5) (hr : T.ts.drop k = x :: r) : ∃ ad, w.cell? ⟨R, 0, none⟩ = some (.slice (some ad) T.n T.c) ∧ w.cell? ⟨R, 1, none⟩ = some (.int .i64 k) ∧ w.cell? (ad.add (k * 4)) = some (.int .u8 x.k) ∧ w.cell? ⟨(ad.add (k * 4)).block, (ad.add (k * 4)).off + 1, none⟩ = some (.string (str x.t)) ∧ w.cell? ⟨(ad.add (k * 4)).block, (ad.add (k * 4)).off + 2, none⟩ = some (.int .i64 x.n) ∧ w.cell? ⟨(ad.add (k * 4)).block, (ad.add (k * 4)).off + 3, none⟩ = some (.int .i64 x.at_) ∧ w.frozen? ⟨R, 1, none⟩ = false ∧ (0 : Int) ≤ (k : Int) ∧ (k : Int) < (T.n : Int) ∧ k < T.n ∧ T.n ≤ 1001 ∧ ad.block < R := by
 obtain ⟨hkn, _, ad, hA, hbl, q0, q1, q2, q3⟩ := h.tok hr
 obtain ⟨c0, c1, f1⟩ := h.cells
 rw [hA] at c0
 exact ⟨ad, c0, c1, q0, q1, q2, q3, f1, by omega, by omega, hkn, h.2.2.1, hbl⟩
set_option maxRecDepth 100000 in
set_option maxHeartbeats 4000000 in
theorem skips_yes (s : List UInt8) (h : CU w R T k v1 v2 v3 v4 v5) (hr : T.ts.drop k = x :: r) (hs : isSign s (x :: r) = true) :
  Calls Tryz.prog 130 #[.pointer (some ⟨R, 0, none⟩), .string (str s)] w fun e w' => e = .returned (.bool true) ∧ CU w' R T (k + 1) v1 v2 v3 v4 v5 ∧ Moved w w' R := by
 obtain ⟨ad, c0, c1, q0, q1, q2, q3, f1, k0, k1, hkn, hn, hbl⟩ := h.region hr
 have hlt := h.lt
 have H := Lib.hid h
 have hk2 : x.k = 2 ∧ x.t = s := by simpa [isSign] using hs
 obtain ⟨hkk, rfl⟩ := hk2
 have hsame := str_same x.t
 rw [hkk] at q0
 clear h hr hs
 go_enter Tryz.func130, Tryz.ntmps130
 go_wp2
 go_region_held3 (fun w' => w'.cell? ⟨R, 0, none⟩ = some (.slice (some ad) T.n T.c) ∧ w'.cell? ⟨R, 1, none⟩ = some (.int .i64 k) ∧ w'.cell? (ad.add (k * 4)) = some (.int .u8 2) ∧ w'.cell? ⟨(ad.add (k * 4)).block, (ad.add (k * 4)).off + 1, none⟩ = some (.string (str x.t)) ∧ w'.cell? ⟨(ad.add (k * 4)).block, (ad.add (k * 4)).off + 2, none⟩ = some (.int .i64 x.n) ∧ w'.cell? ⟨(ad.add (k * 4)).block, (ad.add (k * 4)).off + 3, none⟩ = some (.int .i64 x.at_)) (go_keep) (fail)
 go_wp2
 go_ret
 exact ⟨rfl, ((H.out.seek (k' := k + 1) (by omega)).alloc _).drew, (((Moved.refl w R).seek 1 _).alloc _).drew⟩
set_option maxRecDepth 100000 in
set_option maxHeartbeats 4000000 in
theorem skips_no (s : List UInt8) (h : CU w R T k v1 v2 v3 v4 v5) (hr : T.ts.drop k = x :: r) (hs : isSign s (x :: r) = false) :
  Calls Tryz.prog 130 #[.pointer (some ⟨R, 0, none⟩), .string (str s)] w fun e w' => e = .returned (.bool false) ∧ Below w.heap.size w w' := by
 obtain ⟨ad, c0, c1, q0, q1, q2, q3, f1, k0, k1, hkn, hn, hbl⟩ := h.region hr
 have hlt := h.lt
 have hk2 : ¬ (x.k = 2 ∧ x.t = s) := by simpa [isSign] using hs
 by_cases hkk : x.k = 2
 ·have hne := str_ne (fun e => hk2 ⟨hkk, e⟩)
  rw [hkk] at q0
  clear h hr hs hk2 hkk
  go_enter Tryz.func130, Tryz.ntmps130
  go_wp2
  go_region_held3 (fun w' => w'.cell? ⟨R, 0, none⟩ = some (.slice (some ad) T.n T.c) ∧ w'.cell? ⟨R, 1, none⟩ = some (.int .i64 k) ∧ w'.cell? (ad.add (k * 4)) = some (.int .u8 2) ∧ w'.cell? ⟨(ad.add (k * 4)).block, (ad.add (k * 4)).off + 1, none⟩ = some (.string (str x.t)) ∧ w'.cell? ⟨(ad.add (k * 4)).block, (ad.add (k * 4)).off + 2, none⟩ = some (.int .i64 x.n) ∧ w'.cell? ⟨(ad.add (k * 4)).block, (ad.add (k * 4)).off + 3, none⟩ = some (.int .i64 x.at_)) (go_keep) (fail)
  go_wp2
  go_ret
  exact ⟨rfl, below_drew ((Below.refl _ _).alloc (Nat.le_refl _) _)⟩
 ·have hk3 : ¬ (x.k : Int) = 2 := by omega
  clear h hr hs hk2 hkk
  go_enter Tryz.func130, Tryz.ntmps130
  go_wp2
  go_region_held3 (fun w' => w'.cell? ⟨R, 0, none⟩ = some (.slice (some ad) T.n T.c) ∧ w'.cell? ⟨R, 1, none⟩ = some (.int .i64 k) ∧ w'.cell? (ad.add (k * 4)) = some (.int .u8 x.k) ∧ w'.cell? ⟨(ad.add (k * 4)).block, (ad.add (k * 4)).off + 1, none⟩ = some (.string (str x.t)) ∧ w'.cell? ⟨(ad.add (k * 4)).block, (ad.add (k * 4)).off + 2, none⟩ = some (.int .i64 x.n) ∧ w'.cell? ⟨(ad.add (k * 4)).block, (ad.add (k * 4)).off + 3, none⟩ = some (.int .i64 x.at_)) (go_keep) (fail)
  go_wp2
  go_ret
  exact ⟨rfl, below_drew ((Below.refl _ _).alloc (Nat.le_refl _) _)⟩
end
end Go.Proofs.YthaibekbefndlaaGreatDoor.C

namespace Go.Proofs.YthaibekbefndlaaGreatDoor.C
open Go.RowKit
theorem kinds_at {w : World} {g : Nat} (hg : w.heap.size = g) (k : Int) (t : TypeId) : RI .u8 (w.alloc (.cells #[.int .u8 k] t)) (g + 1) (some ⟨g, 0, none⟩) 1 [k] := by subst hg; exact kinds_one w k t
theorem kinds_at2 {w : World} {g : Nat} (hg : w.heap.size = g) (k l : Int) (t : TypeId) : RI .u8 (w.alloc (.cells #[.int .u8 k, .int .u8 l] t)) (g + 1) (some ⟨g, 0, none⟩) 2 [k, l] := by subst hg; exact kinds_two w k l t
theorem Moved.cellAt {w w' : World} {R b : Nat} (h : Moved w w' R) (hb : b < w.heap.size) (hne : b ≠ R) (i : Nat) : w'.cell? ⟨b, i, none⟩ = w.cell? ⟨b, i, none⟩ := World.cell?_of_block (h.block b hb (fun e => by injection e with e; exact hne e))
def LTk (w : World) (b : Nat) (x : Tok) : Prop := w.heap[b]? = some (.cells #[.int .u8 x.k, .string (str x.t), .int .i64 x.n, .int .i64 x.at_] 92 (0, 0))
theorem LTk.cells {w : World} {b : Nat} {x : Tok} (h : LTk w b x) : w.cell? ⟨b, 0, none⟩ = some (.int .u8 x.k) ∧ w.cell? ⟨b, 1, none⟩ = some (.string (str x.t)) ∧ w.cell? ⟨b, 2, none⟩ = some (.int .i64 x.n) ∧ w.cell? ⟨b, 3, none⟩ = some (.int .i64 x.at_) := by
 simp [World.cell?, show w.heap[b]? = _ from h]
theorem LTk.lt {w : World} {b : Nat} {x : Tok} (h : LTk w b x) : b < w.heap.size := (Array.getElem?_eq_some_iff.1 h).1
theorem LTk.moved {w w' : World} {R b : Nat} {x : Tok} (h : LTk w b x) (hm : Moved w w' R) (hne : b ≠ R) : LTk w' b x := (hm.block b h.lt (fun e => by injection e with e; exact hne e)).trans h
theorem LTk.alloc {w : World} {b : Nat} {x : Tok} (h : LTk w b x) (o : Obj) : LTk (w.alloc o) b x := (Below.heap_alloc w o b h.lt).trans h
theorem LTk.drew {w : World} {b : Nat} {x : Tok} (h : LTk w b x) : LTk w.drew b x := h
theorem LTk.new (w : World) (x : Tok) : LTk (w.alloc (.cells #[.int .u8 x.k, .string (str x.t), .int .i64 x.n, .int .i64 x.at_] 92)) w.heap.size x := heap_alloc_new w _
theorem LTk.frozen {w : World} {b : Nat} {x : Tok} (h : LTk w b x) (i : Nat) : w.frozen? ⟨b, i, none⟩ = false := by simp [World.frozen?, show w.heap[b]? = _ from h]
theorem Moved.fresh {w w' : World} {R : Nat} (h : Moved w w' R) {p : Addr} (hp : w.heap.size ≤ p.block) (u : Value) : Moved w (w'.setCell p u) R :=
 ⟨h.os, h.tape, h.output, by simpa [World.setCell] using h.size, fun j hj hne => (Below.heap_setCell w' p u j (by omega)).trans (h.block j hj hne)⟩
def zTk : Tok := ⟨0, [], 0, 0⟩
section
variable (w : World) (R : Nat) (T : TV) (k : Nat) (v1 v2 v3 v4 v5 : Value) (x : Tok) (r : List Tok)
theorem take1_yes (g : Nat) (hg : w.heap.size = g) (kd : Nat) (h : CU w R T k v1 v2 v3 v4 v5) (hr : T.ts.drop k = x :: r) (hk : x.k = kd) :
  Calls Tryz.prog 37 #[.pointer (some ⟨R, 0, none⟩), .slice (some ⟨g, 0, none⟩) 1 1] (w.alloc (.cells #[.int .u8 kd] 5)) fun e w' => e = .returned (tkV x) ∧ CU w' R T (k + 1) v1 v2 v3 v4 v5 ∧ Moved w w' R :=
 (take_yes _ R T k v1 v2 v3 v4 v5 x r _ _ 1 1 [(kd : Int)] (h.alloc _) hr (kinds_at hg kd 5) (by omega) (by simp; omega) (by subst hk; simp [inKs])).mono fun _ _ ⟨he, hc, hm⟩ => ⟨he, hc, ((Moved.refl w R).alloc _).trans hm⟩
theorem take1_no (g : Nat) (hg : w.heap.size = g) (kd : Nat) (h : CU w R T k v1 v2 v3 v4 v5) (hr : T.ts.drop k = x :: r) (hk : ¬ x.k = kd) :
  Calls Tryz.prog 37 #[.pointer (some ⟨R, 0, none⟩), .slice (some ⟨g, 0, none⟩) 1 1] (w.alloc (.cells #[.int .u8 kd] 5)) fun e w' => e = .panicked (faultV 30 x.at_) ∧ Moved w w' R :=
 (take_no _ R T k v1 v2 v3 v4 v5 x r _ _ 1 1 [(kd : Int)] (h.alloc _) hr (kinds_at hg kd 5) (by omega) (by simp; omega) (by simp [inKs]; omega)).mono fun _ _ ⟨he, hb⟩ => ⟨he, ((Moved.refl w R).alloc _).trans (.of_below hb)⟩
theorem take2_yes (g : Nat) (hg : w.heap.size = g) (kd kd' : Nat) (h : CU w R T k v1 v2 v3 v4 v5) (hr : T.ts.drop k = x :: r) (hk : x.k = kd ∨ x.k = kd') :
  Calls Tryz.prog 37 #[.pointer (some ⟨R, 0, none⟩), .slice (some ⟨g, 0, none⟩) 2 2] (w.alloc (.cells #[.int .u8 kd, .int .u8 kd'] 5)) fun e w' => e = .returned (tkV x) ∧ CU w' R T (k + 1) v1 v2 v3 v4 v5 ∧ Moved w w' R :=
 (take_yes _ R T k v1 v2 v3 v4 v5 x r _ _ 2 2 [(kd : Int), (kd' : Int)] (h.alloc _) hr (kinds_at2 hg kd kd' 5) (by omega) (by simp; omega) (by simp [inKs]; omega)).mono fun _ _ ⟨he, hc, hm⟩ => ⟨he, hc, ((Moved.refl w R).alloc _).trans hm⟩
theorem take2_no (g : Nat) (hg : w.heap.size = g) (kd kd' : Nat) (h : CU w R T k v1 v2 v3 v4 v5) (hr : T.ts.drop k = x :: r) (hk : ¬ (x.k = kd ∨ x.k = kd')) :
  Calls Tryz.prog 37 #[.pointer (some ⟨R, 0, none⟩), .slice (some ⟨g, 0, none⟩) 2 2] (w.alloc (.cells #[.int .u8 kd, .int .u8 kd'] 5)) fun e w' => e = .panicked (faultV 30 x.at_) ∧ Moved w w' R :=
 (take_no _ R T k v1 v2 v3 v4 v5 x r _ _ 2 2 [(kd : Int), (kd' : Int)] (h.alloc _) hr (kinds_at2 hg kd kd' 5) (by omega) (by simp; omega) (by simp [inKs]; omega)).mono fun _ _ ⟨he, hb⟩ => ⟨he, ((Moved.refl w R).alloc _).trans (.of_below hb)⟩

set_option maxRecDepth 100000 in
set_option maxHeartbeats 1000000 in
theorem notBelow_yes (a : Tok) (h : CU w R T k v1 v2 v3 v4 v5) (hr : T.ts.drop k = x :: r) (hk : x.k = 3) (hn : a.n ≤ x.n) :
  Calls Tryz.prog 132 #[.pointer (some ⟨R, 0, none⟩), tkV a] w fun e w' => e = .returned (tkV x) ∧ CU w' R T (k + 1) v1 v2 v3 v4 v5 ∧ Moved w w' R := by
 have hta := fun (W : World) (g : Nat) (hg : W.heap.size = g) (hc : CU W R T k v1 v2 v3 v4 v5) => take1_yes W R T k v1 v2 v3 v4 v5 x r g hg 3 hc hr hk
 have HTA := Lib.hid hta
 have H := Lib.hid h
 clear h hr hta hk
 unfold tkV
 go_enter Tryz.func132, Tryz.ntmps132
 go_wp2_with fail
 refine (HTA.out _ _ (by simp) ((H.out.alloc _).alloc _)).mono ?_
 rintro e w1 ⟨rfl, hc, hm⟩
 have hlt := H.out.lt
 have hsz : w.heap.size + 2 ≤ w1.heap.size := by have := hm.size; simp at this; omega
 have hsz1 : w.heap.size < w1.heap.size := by omega
 have hsz2 : w.heap.size + 1 < w1.heap.size := by omega
 have ta := ((LTk.new w a).alloc (.cells #[.int .u8 0, .string ⟨#[]⟩, .int .i64 0, .int .i64 0] 92)).moved hm (by omega)
 have tz : LTk w1 (w.heap.size + 1) zTk := (show LTk _ (w.heap.size + 1) zTk from by have := LTk.new (w.alloc (.cells #[.int .u8 a.k, .string (str a.t), .int .i64 a.n, .int .i64 a.at_] 92)) zTk; rw [World.size_alloc] at this; exact this).moved hm (by omega)
 obtain ⟨-, -, a2, -⟩ := ta.cells
 obtain ⟨z0, z1, z2, z3⟩ := tz.cells
 have f0 := tz.frozen 0
 have f1 := tz.frozen 1
 have f2 := tz.frozen 2
 have f3 := tz.frozen 3
 have HC := Lib.hid hc
 have HM := Lib.hid ((((Moved.refl w R).alloc _).alloc _).trans hm)
 clear hc hm ta tz
 unfold tkV
 go_wp2
 refine bodyPost_ret (v := tkV x) (by simp [results, Tryz.results132, go_sem, tkV, z0, z1, z2, z3, hsz2]) rfl ⟨rfl, ?_, ?_⟩
 ·exact ((((HC.out.far (p := ⟨w.heap.size + 1, 0, none⟩) (by show R < w.heap.size + 1; omega) _).far (p := ⟨w.heap.size + 1, 1, none⟩) (by show R < w.heap.size + 1; omega) _).far (p := ⟨w.heap.size + 1, 2, none⟩) (by show R < w.heap.size + 1; omega) _).far (p := ⟨w.heap.size + 1, 3, none⟩) (by show R < w.heap.size + 1; omega) _).alloc _
 ·exact ((((HM.out.fresh (p := ⟨w.heap.size + 1, 0, none⟩) (by show w.heap.size ≤ w.heap.size + 1; omega) _).fresh (p := ⟨w.heap.size + 1, 1, none⟩) (by show w.heap.size ≤ w.heap.size + 1; omega) _).fresh (p := ⟨w.heap.size + 1, 2, none⟩) (by show w.heap.size ≤ w.heap.size + 1; omega) _).fresh (p := ⟨w.heap.size + 1, 3, none⟩) (by show w.heap.size ≤ w.heap.size + 1; omega) _).alloc _
set_option maxRecDepth 100000 in
set_option maxHeartbeats 1000000 in
theorem notBelow_kind (a : Tok) (h : CU w R T k v1 v2 v3 v4 v5) (hr : T.ts.drop k = x :: r) (hk : ¬ x.k = 3) :
  Calls Tryz.prog 132 #[.pointer (some ⟨R, 0, none⟩), tkV a] w fun e w' => e = .panicked (faultV 30 x.at_) ∧ Moved w w' R := by
 have hta := fun (W : World) (g : Nat) (hg : W.heap.size = g) (hc : CU W R T k v1 v2 v3 v4 v5) => take1_no W R T k v1 v2 v3 v4 v5 x r g hg 3 hc hr hk
 have HTA := Lib.hid hta
 have H := Lib.hid h
 clear h hr hta hk
 unfold tkV
 go_enter Tryz.func132, Tryz.ntmps132
 go_wp2_with fail
 refine (HTA.out _ _ (by simp) ((H.out.alloc _).alloc _)).mono ?_
 rintro e w1 ⟨rfl, hm⟩
 exact ⟨rfl, rfl, (((Moved.refl w R).alloc _).alloc _).trans hm⟩
set_option maxRecDepth 100000 in
set_option maxHeartbeats 1000000 in
theorem notBelow_less (a : Tok) (h : CU w R T k v1 v2 v3 v4 v5) (hr : T.ts.drop k = x :: r) (hk : x.k = 3) (hn : x.n < a.n) :
  Calls Tryz.prog 132 #[.pointer (some ⟨R, 0, none⟩), tkV a] w fun e w' => e = .panicked (faultV 30 x.at_) ∧ Moved w w' R := by
 have hta := fun (W : World) (g : Nat) (hg : W.heap.size = g) (hc : CU W R T k v1 v2 v3 v4 v5) => take1_yes W R T k v1 v2 v3 v4 v5 x r g hg 3 hc hr hk
 have HTA := Lib.hid hta
 have H := Lib.hid h
 clear h hr hta hk
 unfold tkV
 go_enter Tryz.func132, Tryz.ntmps132
 go_wp2_with fail
 refine (HTA.out _ _ (by simp) ((H.out.alloc _).alloc _)).mono ?_
 rintro e w1 ⟨rfl, hc, hm⟩
 have hlt := H.out.lt
 have hsz : w.heap.size + 2 ≤ w1.heap.size := by have := hm.size; simp at this; omega
 have hsz1 : w.heap.size < w1.heap.size := by omega
 have ta := ((LTk.new w a).alloc (.cells #[.int .u8 0, .string ⟨#[]⟩, .int .i64 0, .int .i64 0] 92)).moved hm (by omega)
 obtain ⟨-, -, a2, -⟩ := ta.cells
 have HM := Lib.hid ((((Moved.refl w R).alloc _).alloc _).trans hm)
 clear hc hm ta
 unfold tkV
 go_wp2_with fail
 refine (refuse_any 30 x _).mono ?_
 rintro e w2 ⟨rfl, hb2⟩
 exact ⟨rfl, rfl, (HM.out.alloc _).trans (.of_below hb2)⟩
end
end Go.Proofs.YthaibekbefndlaaGreatDoor.C
