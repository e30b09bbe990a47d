/-
  Joined: MUtfG, LeG, LeH, LeI, LeJ, LeK, LeL, LeM, Shelf2. Each with what its own head says.
-/
import Derived.Laws.Concat
import Derived.Shelf.Bytes.SlSmallAll
import Derived.Shelf.Bytes.StringAt
import Derived.Shelf.Bytes.WriteStringAt
import Derived.Test.YthaibekbefndlaaGreatDoorH19

namespace Go.Proofs.YthaibekbefndlaaGreatDoor.C
open Go.RowKit

theorem below_drewN {B : Nat} {a w : World} (h : Below B a w) (n : Nat) : Below B a (w.drewN n) := ⟨h.os, h.tape, h.output, h.size, h.block⟩
theorem conv_ri {w : World} {B n : Nat} {A : Option Addr} {zs : List Int} (h : RI .u8 w B A n zs) (c : Nat) : (convert 38 9 (.slice A n c)).run Tryz.prog w = .ok (.string (sb zs)) w := by
 rcases Nat.eq_zero_or_pos n with h0 | h0
 ·subst h0
  obtain rfl : zs = [] := List.eq_nil_of_length_eq_zero h.1
  exact run_convert_bytes_zero w 38 5 Tryz.underlying38 Tryz.underlying5 A c 9 Tryz.underlying9
 ·obtain ⟨b, off, rfl, _, hc⟩ := h.flat h0
  refine run_convert_bytes_arg w 38 5 Tryz.underlying38 Tryz.underlying5 b off n c zs h.1 (fun i hi => ?_) 9 Tryz.underlying9
  have hi' : i < zs.length := by rw [h.1]; exact hi
  rw [hc i zs[i] (List.getElem?_eq_getElem hi')]
  simp [List.getD_eq_getElem?_getD, List.getElem?_eq_getElem hi']
theorem own_slice2 {w : World} {base : Nat} {e : TypeId} {ki : IntKind} {v : Value} {n : Nat} {zs : List Int} (h : w.ownsRow base e 1 v n (zs.map (Value.int ki))) : ∃ A c, v = .slice A n c ∧ n ≤ c ∧ c ≤ maxLen ∧ RI ki w w.heap.size A n zs := by
 rcases h.2 with ⟨rfl, rfl⟩ | ⟨g, c, cur, rfl, _, _, hc, hm, _⟩
 ·have hz : zs = [] := List.eq_nil_of_length_eq_zero (by have := h.1; simpa using this)
  subst hz
  exact ⟨none, 0, rfl, Nat.le_refl _, Nat.zero_le _, RI.none_⟩
 ·exact ⟨_, c, rfl, hc, hm, RI.of_own h⟩
theorem RI.new (w : World) (ki : IntKind) (zs : List Int) (t : TypeId) : RI ki (w.alloc (.cells (zs.map (Value.int ki)).toArray t)) (w.heap.size + 1) (some ⟨w.heap.size, 0, none⟩) zs.length zs :=
 ⟨rfl, fun _ => ⟨_, rfl, Nat.lt_succ_self _, fun j u hu => by
  rw [add_plain, Nat.zero_add, World.cell?_alloc_new]
  simp [hu]⟩⟩

set_option maxHeartbeats 1000000 in
theorem canonical_any (w : World) (B : Nat) (A : Option Addr) (n c : Nat) (xs : List Int) (hx : RI .i32 w B A n xs) (hB : B ≤ w.heap.size) (hn : n ≤ 268435456) (hT : Lib.Utf8Tabs 3 4 w) :
  Calls Tryz.prog 160 #[.slice A n c] w fun e w' => e = .returned (.bool (canonB xs)) ∧ Below w.heap.size w w' := by
 have HX := Lib.hid hx
 have HT := Lib.hid hT
 clear hx hT
 cases ha : xs.all rightB with
 | false =>
  have hcb : canonB xs = false := by simp only [canonB, ha, Bool.false_and]
  have HA := Lib.hid ha
  rw [hcb]
  clear ha hcb
  go_enter Tryz.func160, Tryz.ntmps160
  go_wp2_with fail
  refine (encode_no w B A n c xs HX.out hB (by omega) HA.out).mono ?_
  rintro e w1 ⟨rfl, hb1⟩
  go_wp2
  go_ret
  exact ⟨rfl, hb1⟩
 | true =>
  have hcb : canonB xs = sameB (ofL (sb (encL xs))) xs := by simp only [canonB, ha, Bool.true_and]
  have HA := Lib.hid ha
  rw [hcb]
  clear ha hcb
  have hle := (encL_len xs).2
  rw [HX.out.len] at hle
  go_enter Tryz.func160, Tryz.ntmps160
  go_wp2_with fail
  refine (encode_yes w B A n c xs HX.out hB (by omega) HA.out).mono ?_
  rintro e w1 ⟨v1, rfl, hown1, hb1⟩
  obtain ⟨A1, c1, rfl, hc1, hm1, hr1⟩ := own_slice2 hown1
  have HR1 := Lib.hid hr1
  have hs1 := hb1.size
  clear hown1 hr1
  generalize hln : (encL xs).length = ln at *
  have HLN := Lib.hid hln
  clear hln
  go_wp2_with fail
  refine (decode_any w1 w1.heap.size A1 ln c1 (encL xs) HR1.out (Nat.le_refl _) (all_bd HA.out) hc1 (by omega) hm1 (tabs_below HT.out hb1)).mono ?_
  rintro e w2 ⟨v2, rfl, hown2, hb2⟩
  obtain ⟨A2, c2, rfl, hc2, hm2, hr2⟩ := own_slice2 hown2
  have HR2 := Lib.hid hr2
  have hs2 := hb2.size
  clear hown2 hr2
  have hx2 : RI .i32 w2 B A n xs := (HX.out.keep fun p hp => hb1.cell (p := p) (by omega)).keep fun p hp => hb2.cell (p := p) (by omega)
  have HX2 := Lib.hid hx2
  clear hx2
  generalize hl2 : (ofL (sb (encL xs))).length = l2 at *
  have HL2 := Lib.hid hl2
  clear hl2
  unfold maxLen at hm2
  go_wp2_with fail
  refine (equal_any w2 w2.heap.size B A2 A l2 c2 n c (ofL (sb (encL xs))) xs HR2.out HX2.out (by omega)).mono ?_
  rintro e w3 ⟨rfl, q, rfl⟩
  go_wp2
  go_ret
  exact ⟨rfl, below_drewN (hb1.trans (hb2.mono hs1)) q⟩
theorem canonical_is (w : World) (B : Nat) (A : Option Addr) (n c : Nat) (xs : List Int) (hx : RI .i32 w B A n xs) (hB : B ≤ w.heap.size) (hn : n ≤ 268435456) (hT : Lib.Utf8Tabs 3 4 w) (r : Bool) (hr : canonB xs = r) :
  Calls Tryz.prog 160 #[.slice A n c] w fun e w' => e = .returned (.bool r) ∧ Below w.heap.size w w' := by
 subst hr
 exact canonical_any w B A n c xs hx hB hn hT

end Go.Proofs.YthaibekbefndlaaGreatDoor.C

namespace Go.Proofs.YthaibekbefndlaaGreatDoor.C
open Go.RowKit

theorem dig_inj : ∀ a, a < 16 → ∀ b, b < 16 → dig a = dig b → a = b := by decide +kernel
theorem dig_no : ∀ a, a < 16 → dig a ≠ 125 := by decide +kernel
theorem hexL_ne : ∀ (n : Nat), hexL n ≠ [] := by
 intro n
 by_cases h : n < 16
 ·rw [hexL_small h]; simp
 ·rw [hexL_big h]; simp
theorem hexL_no (n : Nat) : (125 : UInt8) ∉ hexL n := by
 induction n using Nat.strongRecOn with
 | _ n ih =>
  by_cases h : n < 16
  ·rw [hexL_small h, List.mem_singleton]
   exact fun e => dig_no n h e.symm
  ·rw [hexL_big h, List.mem_append, List.mem_singleton]
   rintro (e | e)
   ·exact ih (n / 16) (by omega) e
   ·exact dig_no (n % 16) (by omega) e.symm
theorem hexL_inj : ∀ (a b : Nat), hexL a = hexL b → a = b := by
 intro a
 induction a using Nat.strongRecOn with
 | _ a ih =>
  intro b h
  by_cases ha : a < 16
  ·by_cases hb : b < 16
   ·rw [hexL_small ha, hexL_small hb] at h
    exact dig_inj a ha b hb (by simpa using h)
   ·rw [hexL_small ha, hexL_big hb] at h
    have := congrArg List.length h
    simp at this
    exact absurd this (hexL_ne _)
  ·by_cases hb : b < 16
   ·rw [hexL_small hb, hexL_big ha] at h
    have := congrArg List.length h
    simp at this
    exact absurd this (hexL_ne _)
   ·rw [hexL_big ha, hexL_big hb] at h
    have h2 := List.append_inj' h rfl
    have h3 := ih (a / 16) (by omega) (b / 16) h2.1
    have h4 := dig_inj (a % 16) (by omega) (b % 16) (by omega) (by simpa using h2.2)
    omega
theorem shown_kind {c : Int} (hc : rightB c = true) : (∃ m : Nat, m < 256 ∧ c = -1 - m ∧ shown c = [92, 120, dig (m / 16), dig (m % 16)]) ∨ (c = 92 ∧ shown c = [92, 92]) ∨ (c = 10 ∧ shown c = [92, 110]) ∨
  (∃ n : Nat, 32 ≤ n ∧ n ≤ 126 ∧ n ≠ 92 ∧ c = n ∧ shown c = [n.toUInt8]) ∨ (∃ n : Nat, c = n ∧ shown c = 92 :: 117 :: 123 :: (hexL n ++ [125])) := by
 have hr : -256 ≤ c ∧ c < 55296 ∨ 57343 < c ∧ c ≤ 1114111 := by
  unfold rightB at hc
  simpa using hc
 by_cases h1 : -256 ≤ c ∧ c < 0
 ·exact .inl ⟨(-1 - c).toNat, by omega, by omega, by unfold shown; rw [if_pos h1]⟩
 ·by_cases h2 : c = 92
  ·exact .inr (.inl ⟨h2, by subst h2; rfl⟩)
  ·by_cases h3 : c = 10
   ·exact .inr (.inr (.inl ⟨h3, by subst h3; rfl⟩))
   ·by_cases h4 : 32 ≤ c ∧ c ≤ 126
    ·refine .inr (.inr (.inr (.inl ⟨c.toNat, by omega, by omega, by omega, by omega, ?_⟩)))
     unfold shown
     rw [if_neg h1, if_neg (fun h => h hr), if_neg h2, if_neg h3, if_pos h4]
    ·refine .inr (.inr (.inr (.inr ⟨c.toNat, by omega, ?_⟩)))
     unfold shown
     rw [if_neg h1, if_neg (fun h => h hr), if_neg h2, if_neg h3, if_neg h4]
     simp
theorem u8_eq {a b : Nat} (ha : a < 256) (hb : b < 256) (h : a.toUInt8 = b.toUInt8) : a = b := by
 have := congrArg UInt8.toNat h
 simp at this
 omega
theorem split_125 : ∀ {a b x y : List UInt8}, (125 : UInt8) ∉ a → (125 : UInt8) ∉ b → a ++ 125 :: x = b ++ 125 :: y → a = b ∧ x = y
 | [], [], x, y, _, _, h => ⟨rfl, by simpa using h⟩
 | [], c :: b, x, y, _, hb, h => by
  simp at h
  exact absurd (h.1 ▸ List.mem_cons_self) hb
 | c :: a, [], x, y, ha, _, h => by
  simp at h
  exact absurd (h.1 ▸ List.mem_cons_self) ha
 | c :: a, d :: b, x, y, ha, hb, h => by
  simp only [List.cons_append, List.cons.injEq] at h
  obtain ⟨h1, h2⟩ := split_125 (fun e => ha (List.mem_cons_of_mem _ e)) (fun e => hb (List.mem_cons_of_mem _ e)) h.2
  exact ⟨by rw [h.1, h1], h2⟩
theorem u8_92 {n : Nat} (h1 : n ≤ 126) (h : n.toUInt8 = 92) : n = 92 := u8_eq (by omega) (by omega) h
theorem shown_cut {a b : Int} (ha : rightB a = true) (hb : rightB b = true) {x y : List UInt8} (h : shown a ++ x = shown b ++ y) : a = b ∧ x = y := by
 rcases shown_kind ha with ⟨m, m1, m2, e1⟩ | ⟨m2, e1⟩ | ⟨m2, e1⟩ | ⟨m, m0, m1, m3, m2, e1⟩ | ⟨m, m2, e1⟩ <;>
 rcases shown_kind hb with ⟨n, n1, n2, e2⟩ | ⟨n2, e2⟩ | ⟨n2, e2⟩ | ⟨n, n0, n1, n3, n2, e2⟩ | ⟨n, n2, e2⟩ <;>
 rw [e1, e2] at h <;> simp only [List.cons_append, List.nil_append, List.cons.injEq, List.append_assoc] at h
 ·have h1 := dig_inj (m / 16) (by omega) (n / 16) (by omega) h.2.2.1
  have h2 := dig_inj (m % 16) (by omega) (n % 16) (by omega) h.2.2.2.1
  exact ⟨by omega, h.2.2.2.2⟩
 ·exact absurd h.2.1 (by decide)
 ·exact absurd h.2.1 (by decide)
 ·exact absurd (u8_92 n1 h.1.symm) n3
 ·exact absurd h.2.1 (by decide)
 ·exact absurd h.2.1 (by decide)
 ·exact ⟨by omega, h.2.2⟩
 ·exact absurd h.2.1 (by decide)
 ·exact absurd (u8_92 n1 h.1.symm) n3
 ·exact absurd h.2.1 (by decide)
 ·exact absurd h.2.1 (by decide)
 ·exact absurd h.2.1 (by decide)
 ·exact ⟨by omega, h.2.2⟩
 ·exact absurd (u8_92 n1 h.1.symm) n3
 ·exact absurd h.2.1 (by decide)
 ·exact absurd (u8_92 m1 h.1) m3
 ·exact absurd (u8_92 m1 h.1) m3
 ·exact absurd (u8_92 m1 h.1) m3
 ·have := u8_eq (by omega) (by omega) h.1
  exact ⟨by omega, h.2⟩
 ·exact absurd (u8_92 m1 h.1) m3
 ·exact absurd h.2.1 (by decide)
 ·exact absurd h.2.1 (by decide)
 ·exact absurd h.2.1 (by decide)
 ·exact absurd (u8_92 n1 h.1.symm) n3
 ·obtain ⟨h1, h2⟩ := split_125 (hexL_no m) (hexL_no n) h.2.2.2
  have := hexL_inj m n h1
  exact ⟨by omega, h2⟩
theorem shown_ne (c : Int) : shown c ≠ [] := by
 unfold shown
 repeat' split
 all_goals simp
theorem textL_inj : ∀ {a b : List Int}, (∀ c ∈ a, rightB c = true) → (∀ c ∈ b, rightB c = true) → textL a = textL b → a = b
 | [], [], _, _, _ => rfl
 | [], c :: b, _, _, h => by
  have h' : [] = shown c ++ textL b := by simpa [textL] using h
  exact absurd (List.append_eq_nil_iff.1 h'.symm).1 (shown_ne c)
 | c :: a, [], _, _, h => by
  have h' : shown c ++ textL a = [] := by simpa [textL] using h
  exact absurd (List.append_eq_nil_iff.1 h').1 (shown_ne c)
 | c :: a, d :: b, ha, hb, h => by
  have h' : shown c ++ textL a = shown d ++ textL b := by simpa [textL] using h
  obtain ⟨h1, h2⟩ := shown_cut (ha c (by simp)) (hb d (by simp)) h'
  rw [h1, textL_inj (fun x hx => ha x (by simp [hx])) (fun x hx => hb x (by simp [hx])) h2]
end Go.Proofs.YthaibekbefndlaaGreatDoor.C

namespace Go.Proofs.YthaibekbefndlaaGreatDoor.C
open Go.RowKit

theorem Gm.next {w w' : World} (h : Gm w) (hb : Below w.heap.size w w') : Gm w' := ⟨h.1.next hb, tabs_below h.2 hb⟩
set_option maxRecDepth 100000 in
set_option maxHeartbeats 1000000 in
theorem index32_any (w : World) (B : Nat) (A : Option Addr) (n c : Nat) (ks : List Int) (v : Int) (h : RI .i32 w B A n ks) (hn : n ≤ 1000) :
  Calls Tryz.prog 191 #[.slice A n c, .int .i32 v] w fun e w' => (∃ i : Int, e = .returned (.int .i64 i) ∧ (decide (0 ≤ i) = inKs ks v)) ∧ w' = w := by
 have H := Lib.hid h
 have hl := h.len
 clear h
 have HL := Lib.hid hl
 clear hl
 go_enter Tryz.func191, Tryz.ntmps191
 go_wp2
 go_loop [8] (fun i => ∃ k : Nat, k ≤ n ∧ i = .int .i64 k ∧ Hid (v ∉ ks.take k)) (fun i => n - (intOf i).toNat)
 case atStart => exact ⟨0, Nat.zero_le _, rfl, Lib.hid (by simp)⟩
 case round =>
  obtain ⟨k, hk, rfl, HN⟩ := hrel
  by_cases hlt : k < n
  ·obtain ⟨ad, u, rfl, hb, hu, hc⟩ := H.out.at_ hlt
   have HU := Lib.hid hu
   clear hu
   by_cases hv : v = u
   ·subst hv
    go_wp2
    go_ret
    refine ⟨⟨_, rfl, ?_⟩, rfl⟩
    have hm : v ∈ ks := List.mem_of_getElem? HU.out
    simp [inKs, hm]
   ·have hv' : (v == u) = false := by simpa using hv
    go_wp2
    go_round
    case rel => exact ⟨k + 1, by omega, by go_num, Lib.hid (by
     rw [List.take_add_one, HU.out]
     simp only [Option.toList_some, List.mem_append, List.mem_singleton, not_or]
     exact ⟨HN.out, hv⟩)⟩
    case measure => simp [intOf]; omega
  ·obtain rfl : k = n := by omega
   go_wp2
   go_ret
   refine ⟨⟨_, rfl, ?_⟩, rfl⟩
   have hm := HN.out
   rw [List.take_of_length_le (by rw [HL.out]; exact Nat.le_refl _)] at hm
   simp [inKs, hm]
set_option maxRecDepth 100000 in
set_option maxHeartbeats 1000000 in
theorem contains32_is (w : World) (B : Nat) (A : Option Addr) (n c : Nat) (ks : List Int) (v : Int) (h : RI .i32 w B A n ks) (hn : n ≤ 1000) (b : Bool) (hb : inKs ks v = b) :
  Calls Tryz.prog 159 #[.slice A n c, .int .i32 v] w fun e w' => e = .returned (.bool b) ∧ w' = w := by
 have hi := index32_any w B A n c ks v h hn
 rw [hb] at hi
 clear h hb
 go_enter Tryz.func159, Tryz.ntmps159
 go_wp2_with fail
 refine hi.mono ?_
 rintro e w' ⟨⟨i, rfl, hi2⟩, rfl⟩
 have HI := Lib.hid hi2
 clear hi2
 cases b with
 | true =>
  have h0 : 0 ≤ i := by simpa using HI.out
  go_wp2
  go_ret
  exact ⟨rfl, rfl⟩
 | false =>
  have h0 : decide (0 ≤ i) = false := HI.out
  go_wp2
  go_ret
  exact ⟨rfl, rfl⟩

set_option maxRecDepth 100000 in
set_option maxHeartbeats 2000000 in
theorem isQuotable_any (w : World) (B : Nat) (A : Option Addr) (n c : Nat) (xs : List Int) (h : RI .i32 w B A n xs) (hB : B ≤ w.heap.size) (hG : Gm w) :
  Calls Tryz.prog 109 #[.slice A n c] w fun e w' => e = .returned (.bool (quotB xs)) ∧ Below w.heap.size w w' := by
 have hl := h.len
 by_cases h2 : n < 2
 ·have hq : quotB xs = false := by
   unfold quotB
   rw [decide_eq_false (by omega)]
   rfl
  have i2 : (n : Int) < 2 := by omega
  rw [hq]
  clear h hG hq hl
  go_enter Tryz.func109, Tryz.ntmps109
  go_wp2
  go_ret
  exact ⟨rfl, Below.refl _ _⟩
 have i2 : ¬ (n : Int) < 2 := by omega
 by_cases h4 : 4 < n
 ·have hq : quotB xs = false := by
   unfold quotB
   rw [decide_eq_false (by omega)]
   rfl
  have i4 : (4 : Int) < (n : Int) := by omega
  rw [hq]
  clear h hG hq hl
  go_enter Tryz.func109, Tryz.ntmps109
  go_wp2
  go_ret
  exact ⟨rfl, Below.refl _ _⟩
 have i4 : ¬ (4 : Int) < (n : Int) := by omega
 have hd : decide (2 ≤ xs.length ∧ xs.length ≤ 4) = true := decide_eq_true (by omega)
 have c34 := fun b hb => contains32_is w B A n c xs 34 h (by omega) b hb
 have c10 := fun b hb => contains32_is w B A n c xs 10 h (by omega) b hb
 have hca := canonical_is w B A n c xs h hB (by omega) hG.2 _ rfl
 cases k34 : inKs xs 34 with
 | true =>
  have hq : quotB xs = false := by
   unfold quotB
   rw [show xs.contains 34 = true from k34]
   simp
  have c34' := c34 true k34
  rw [hq]
  clear h hG hq hl c34 c10 hca hd k34
  go_enter Tryz.func109, Tryz.ntmps109
  go_wp2_with (go_at_call 159; with_reducible refine c34'.mono ?_; rintro e w' ⟨rfl, rfl⟩)
  go_ret
  exact ⟨rfl, Below.refl _ _⟩
 | false =>
  have c34' := c34 false k34
  cases k10 : inKs xs 10 with
  | true =>
   have hq : quotB xs = false := by
    unfold quotB
    rw [show xs.contains 10 = true from k10]
    simp
   have c10' := c10 true k10
   rw [hq]
   clear h hG hq hl c34 c10 hca hd k34 k10
   go_enter Tryz.func109, Tryz.ntmps109
   go_wp2_with (first
    | (go_at_call 159; with_reducible refine c34'.mono ?_; rintro e w' ⟨rfl, rfl⟩)
    | (go_at_call 159; with_reducible refine c10'.mono ?_; rintro e w' ⟨rfl, rfl⟩))
   go_ret
   exact ⟨rfl, Below.refl _ _⟩
  | false =>
   have c10' := c10 false k10
   have hq : quotB xs = canonB xs := by
    unfold quotB
    rw [show xs.contains 10 = false from k10, show xs.contains 34 = false from k34, hd]
    simp
   rw [hq]
   obtain ⟨r, hr⟩ : ∃ r, r = canonB xs := ⟨_, rfl⟩
   rw [← hr] at hca ⊢
   clear h hG hq hl c34 c10 hd k34 k10 hr
   go_enter Tryz.func109, Tryz.ntmps109
   go_wp2_with (first
    | (go_at_call 159; with_reducible refine c34'.mono ?_; rintro e w' ⟨rfl, rfl⟩)
    | (go_at_call 159; with_reducible refine c10'.mono ?_; rintro e w' ⟨rfl, rfl⟩)
    | (go_at_call 160; refine hca.mono ?_; rintro e w' ⟨rfl, hb⟩; (have HB := Lib.hid hb); clear hb))
   go_ret
   exact ⟨rfl, HB.out⟩
end Go.Proofs.YthaibekbefndlaaGreatDoor.C

namespace Go.Proofs.YthaibekbefndlaaGreatDoor.C
open Go.RowKit

theorem numL_some {c : UInt8} {d : List UInt8} (hc : c = 85) : (numL (c :: d)).isSome = (decide (4 ≤ d.length) && decide (d.length ≤ 6) && d.all fun b => (digV b).isSome) := by
 rw [numL_cons]
 by_cases h : 4 ≤ d.length ∧ d.length ≤ 6
 ·rw [if_pos ⟨hc, h⟩, hexN_all]
  simp [h]
 ·rw [if_neg (fun hh => h hh.2)]
  by_cases h4 : 4 ≤ d.length
  ·have : ¬ d.length ≤ 6 := fun h6 => h ⟨h4, h6⟩
   simp [this]
  ·simp [h4]
set_option maxRecDepth 100000 in
set_option maxHeartbeats 2000000 in
theorem isScalarName_any (nm : List UInt8) (w : World) (hn : nm.length ≤ maxLen) : Calls Tryz.prog 110 #[.string (str nm)] w fun e w' => e = .returned (.bool (numL nm).isSome) ∧ Below w.heap.size w w' := by
 have hcp := Tryz.strings_CutPrefix (str nm) ⟨#[85]⟩ w
 by_cases h85 : ∃ d, nm = 85 :: d
 ·obtain ⟨d, rfl⟩ := h85
  have e1 : Lib.hasPrefix (str (85 :: d)).data.toList [85] = true := rfl
  have e2 : Lib.trimPrefix (str (85 :: d)).data.toList [85] = d := by unfold Lib.trimPrefix; rw [e1]; rfl
  rw [show (ByteArray.mk #[85]).data.toList = [85] from rfl, e1, e2] at hcp
  have hx := isHex_any (str d) 
  rw [str_list] at hx
  have hsz : (str d).size = d.length := str_size d
  have hdl : d.length ≤ 9223372036854775807 := by unfold maxLen at hn; simp at hn; omega
  rw [numL_some rfl]
  by_cases h4 : 4 ≤ d.length
  ·by_cases h6 : d.length ≤ 6
   ·have i4 : (4 : Int) ≤ (d.length : Int) := by omega
    have i6 : (d.length : Int) ≤ 6 := by omega
    have hne : d.isEmpty = false := by cases d with | nil => simp at h4 | cons => rfl
    rw [decide_eq_true h4, decide_eq_true h6]
    rw [hne] at hx
    simp only [Bool.true_and, Bool.not_false] at hx ⊢
    obtain ⟨r, hr⟩ : ∃ r, r = d.all fun b => (digV b).isSome := ⟨_, rfl⟩
    rw [← hr] at hx ⊢
    have hx2 := hx w (by rw [hsz]; exact hdl)
    change Calls Tryz.prog 118 #[.string (str (85 :: d)), .string ⟨#[85]⟩] w (fun e w' => e = .returned (.tuple #[.string (str d), .bool true]) ∧ w' = w) at hcp
    clear hr hx e1 e2 hne hn h4 h6
    go_enter Tryz.func110, Tryz.ntmps110
    go_wp2_with (first
     | (go_at_call 118; refine hcp.mono ?_; rintro e w1 ⟨rfl, rfl⟩)
     | (go_at_call 57; refine hx2.mono ?_; rintro e w2 ⟨rfl, hb⟩; (have HB := Lib.hid hb); clear hb))
    go_ret
    exact ⟨rfl, HB.out⟩
   ·have i4 : (4 : Int) ≤ (d.length : Int) := by omega
    have i6 : ¬ (d.length : Int) ≤ 6 := by omega
    rw [decide_eq_false h6]
    simp only [Bool.and_false, Bool.false_and]
    change Calls Tryz.prog 118 #[.string (str (85 :: d)), .string ⟨#[85]⟩] w (fun e w' => e = .returned (.tuple #[.string (str d), .bool true]) ∧ w' = w) at hcp
    clear hx e1 e2 hn h4 h6
    go_enter Tryz.func110, Tryz.ntmps110
    go_wp2_with (go_at_call 118; refine hcp.mono ?_; rintro e w1 ⟨rfl, rfl⟩)
    go_ret
    exact ⟨rfl, Below.refl _ _⟩
  ·have i4 : ¬ (4 : Int) ≤ (d.length : Int) := by omega
   rw [decide_eq_false h4]
   simp only [Bool.false_and]
   change Calls Tryz.prog 118 #[.string (str (85 :: d)), .string ⟨#[85]⟩] w (fun e w' => e = .returned (.tuple #[.string (str d), .bool true]) ∧ w' = w) at hcp
   clear hx e1 e2 hn h4
   go_enter Tryz.func110, Tryz.ntmps110
   go_wp2_with (go_at_call 118; refine hcp.mono ?_; rintro e w1 ⟨rfl, rfl⟩)
   go_ret
   exact ⟨rfl, Below.refl _ _⟩
 ·have e1 : Lib.hasPrefix (str nm).data.toList [85] = false := by
   rw [str_list]
   unfold Lib.hasPrefix
   cases nm with
   | nil => rfl
   | cons c d =>
    have : ¬ (85 : UInt8) = c := fun e => h85 ⟨d, by rw [e]⟩
    simp [List.isPrefixOf, this]
  rw [show (ByteArray.mk #[85]).data.toList = [85] from rfl, e1] at hcp
  have hnl : (numL nm).isSome = false := by
   cases nm with
   | nil => rfl
   | cons c d => rw [numL_cons, if_neg (fun hh => h85 ⟨d, by rw [hh.1]⟩)]; rfl
  rw [hnl]
  clear hnl e1 h85 hn
  go_enter Tryz.func110, Tryz.ntmps110
  go_wp2_with (go_at_call 118; refine hcp.mono ?_; rintro e w1 ⟨rfl, rfl⟩)
  go_ret
  exact ⟨rfl, Below.refl _ _⟩
end Go.Proofs.YthaibekbefndlaaGreatDoor.C

namespace Go.Proofs.YthaibekbefndlaaGreatDoor.C
open Go.RowKit

theorem str_empty (l : List UInt8) : (str l).toList.isEmpty = l.isEmpty := by rw [Lib.toList_data, str_list]
theorem elemB_one (nm : List UInt8) (u s : Int) : elemB ⟨nm, [u], s⟩ = (scalB u && nm.isEmpty) := rfl
theorem elemB_more {nm : List UInt8} {xs : List Int} (s : Int) (h : xs.length ≠ 1) : elemB ⟨nm, xs, s⟩ = (quotB xs && wordlyB nm && (numL nm).isNone) := by
 match xs, h with
 | [], _ => rfl
 | [_], h => exact absurd rfl h
 | _ :: _ :: _, _ => rfl
def Three (w : World) (b : Nat) (t : TypeId) (u v x : Value) : Prop := w.heap[b]? = some (.cells #[u, v, x] t (0, 0))
theorem Three.cells {w : World} {b : Nat} {t : TypeId} {u v x : Value} (h : Three w b t u v x) : w.cell? ⟨b, 0, none⟩ = some u ∧ w.cell? ⟨b, 1, none⟩ = some v ∧ w.cell? ⟨b, 2, none⟩ = some x := by simp [World.cell?, show w.heap[b]? = _ from h]
theorem Three.lt {w : World} {b : Nat} {t : TypeId} {u v x : Value} (h : Three w b t u v x) : b < w.heap.size := (Array.getElem?_eq_some_iff.1 h).1
theorem Three.new (w : World) (t : TypeId) (u v x : Value) : Three (w.alloc (.cells #[u, v, x] t)) w.heap.size t u v x := heap_alloc_new w _
set_option maxRecDepth 100000 in
set_option maxHeartbeats 4000000 in
theorem isElem_any (w : World) (B : Nat) (A : Option Addr) (n c : Nat) (nm : List UInt8) (xs : List Int) (s : Int) (h : RI .i32 w B A n xs) (hB : B ≤ w.heap.size) (hG : Gm w) (hn : nm.length ≤ maxLen) :
  Calls Tryz.prog 64 #[.agg #[.string (str nm), .slice A n c, .int .i64 s]] w fun e w' => e = .returned (.bool (elemB ⟨nm, xs, s⟩)) ∧ Below w.heap.size w w' := by
 obtain ⟨W1, hW1⟩ : ∃ W1, W1 = w.alloc (.cells #[.string (str nm), .slice A n c, .int .i64 s] 34) := ⟨_, rfl⟩
 have hb1 : Below w.heap.size w W1 := by rw [hW1]; exact (Below.refl _ _).alloc (Nat.le_refl _) _
 have HB1 := Lib.hid hb1
 have HX1 : Hid (Three W1 w.heap.size 34 (.string (str nm)) (.slice A n c) (.int .i64 s)) := Lib.hid (by rw [hW1]; exact Three.new w _ _ _ _)
 have hG1 := hG.next hb1
 have hs1 := hb1.size
 have hl := h.len
 by_cases h1 : n = 1
 ·subst h1
  obtain ⟨ad, u, rfl, hbl, hu, hc⟩ := h.at_ (k := 0) (by omega)
  have hz : ad.add 0 = ad := by
   unfold Addr.add
   cases ad
   simp
  rw [hz] at hc
  have hxs : xs = [u] := by
   match xs, hl, hu with
   | [x], _, hu => simp at hu; rw [hu]
  subst hxs
  rw [elemB_one]
  have q3 : W1.cell? ad = some (.int .i32 u) := (hb1.cell (by omega)).trans hc
  have hsc := isScalar_any u W1
  have hem := str_empty nm
  rw [hW1] at q3 hsc
  clear h hG hG1 hb1 hu hl hc
  cases hsb : scalB u with
  | false =>
   rw [hsb] at hsc
   clear hsb
   go_enter Tryz.func64, Tryz.ntmps64
   go_wp2_with (go_at_call 63; refine hsc.mono ?_; rintro e w' ⟨rfl, rfl⟩)
   go_ret
   rw [← hW1]
   exact ⟨rfl, HB1.out⟩
  | true =>
   rw [hsb] at hsc
   clear hsb
   obtain ⟨r, hr⟩ : ∃ r, r = nm.isEmpty := ⟨_, rfl⟩
   rw [← hr] at hem ⊢
   clear hr
   go_enter Tryz.func64, Tryz.ntmps64
   go_wp2_with (go_at_call 63; refine hsc.mono ?_; rintro e w' ⟨rfl, rfl⟩)
   go_ret
   rw [← hW1]
   exact ⟨rfl, HB1.out⟩
 have i1 : ¬ (n : Int) = 1 := by omega
 rw [elemB_more s (by omega)]
 have hiq := isQuotable_any W1 B A n c xs (h.keep fun p hp => hb1.cell (by omega)) (by omega) hG1
 rw [hW1] at hiq
 clear h hG hG1 hb1 hl
 cases hq : quotB xs with
 | false =>
  rw [hq] at hiq
  simp only [Bool.false_and]
  clear hq
  go_enter Tryz.func64, Tryz.ntmps64
  go_wp2_with (go_at_call 109; refine hiq.mono ?_; rintro e w2 ⟨rfl, hb⟩; (have HB := Lib.hid hb); clear hb)
  go_ret
  exact ⟨rfl, HB1.out.trans (by rw [hW1]; exact HB.out.mono (by simp))⟩
 | true =>
  rw [hq] at hiq
  simp only [Bool.true_and]
  clear hq
  have hiw := fun W => isWord_any (str nm) W (by rw [str_size]; unfold maxLen at hn; omega)
  rw [str_list] at hiw
  have hsn := fun W => isScalarName_any nm W hn
  have hstep : ∀ w2, Below (w.alloc (.cells #[.string (str nm), .slice A n c, .int .i64 s] 34)).heap.size (w.alloc (.cells #[.string (str nm), .slice A n c, .int .i64 s] 34)) w2 → w2.cell? ⟨w.heap.size, 0, none⟩ = some (.string (str nm)) := by
   rw [← hW1]
   intro w2 hb
   exact (show Three w2 w.heap.size _ _ _ _ from (hb.block _ HX1.out.lt).trans HX1.out).cells.1
  have HST := Lib.hid hstep
  clear hstep
  cases hwd : wordlyB nm with
  | false =>
   rw [hwd] at hiw
   simp only [Bool.false_and]
   clear hwd hsn
   go_enter Tryz.func64, Tryz.ntmps64
   go_wp2_with (first
    | (go_at_call 109; refine hiq.mono ?_; rintro e w2 ⟨rfl, hb⟩; (have q9 := HST.out w2 hb); (have HB := Lib.hid hb); clear hb)
    | (go_at_call 57; refine (hiw _).mono ?_; rintro e w3 ⟨rfl, hb3⟩; (have HB3 := Lib.hid hb3); clear hb3))
   go_ret
   exact ⟨rfl, HB1.out.trans (by rw [hW1]; exact (HB.out.trans (HB3.out.mono HB.out.size)).mono (by simp))⟩
  | true =>
   rw [hwd] at hiw
   simp only [Bool.true_and]
   obtain ⟨r, hr⟩ : ∃ r, r = (numL nm).isSome := ⟨_, rfl⟩
   have hnr : (numL nm).isNone = !r := by rw [hr]; cases numL nm <;> rfl
   rw [← hr] at hsn
   rw [hnr]
   clear hwd hr hnr
   go_enter Tryz.func64, Tryz.ntmps64
   go_wp2_with (first
    | (go_at_call 109; refine hiq.mono ?_; rintro e w2 ⟨rfl, hb⟩; (have q9 := HST.out w2 hb); (have HB := Lib.hid hb); clear hb)
    | (go_at_call 57; refine (hiw _).mono ?_; rintro e w3 ⟨rfl, hb3⟩; (have q8 := HST.out w3 (HB.out.trans (hb3.mono HB.out.size))); (have HB3 := Lib.hid hb3); clear hb3)
    | (go_at_call 110; refine (hsn _).mono ?_; rintro e w4 ⟨rfl, hb4⟩; (have HB4 := Lib.hid hb4); clear hb4))
   go_ret
   have hb3 := HB.out.trans (HB3.out.mono HB.out.size)
   exact ⟨rfl, HB1.out.trans (by rw [hW1]; exact (hb3.trans (HB4.out.mono hb3.size)).mono (by simp))⟩
theorem SI.at_same {w : World} {B : Nat} {A : Option Addr} {o : List Elm} {xs : List (List Value)} {i : Nat} {e : Elm} (hsi : SI 3 w B A o.length xs) (hel : ∃ Ac cc, xs[i]? = some [.string (str e.name), .slice Ac e.cells.length cc, .int .i64 e.same]) (hi : i < o.length) : ∃ ad : Addr, A = some ad ∧ w.cell? ⟨(ad.add (i * 3)).block, (ad.add (i * 3)).off + 2, none⟩ = some (.int .i64 e.same) := by
 obtain ⟨ad, a, b, z, hA, _, hx, _, _, c2⟩ := hsi.at3 hi
 obtain ⟨Ac, cc, hxe⟩ := hel
 rw [hx] at hxe
 simp at hxe
 rw [hxe.2.2] at c2
 exact ⟨ad, hA, c2⟩
set_option maxRecDepth 100000 in
set_option maxHeartbeats 2000000 in
theorem rightSame_any (w : World) (B : Nat) (v : Value) (o : List Elm) (h : OrdR w B v o) (i : Nat) (e : Elm) (he : o[i]? = some e) :
  Calls Tryz.prog 66 #[v, .int .i64 i] w fun r w' => r = .returned (.bool (sameAt o i e)) ∧ w' = w := by
 obtain ⟨A, c, xs, rfl, hsi, hel⟩ := h
 have hi : i < o.length := (List.getElem?_eq_some_iff.1 he).1
 have hAt : ∀ (j : Nat) (x : Elm), o[j]? = some x → ∃ Ac cc, xs[j]? = some [.string (str x.name), .slice Ac x.cells.length cc, .int .i64 x.same] := fun j x hx => by
  obtain ⟨a, b, h1, _⟩ := hel j x hx
  exact ⟨a, b, h1⟩
 obtain ⟨ad, rfl, q0⟩ := hsi.at_same (hAt i e he) hi
 have i0 : (0 : Int) ≤ (i : Int) := by omega
 have i1 : (i : Int) < (o.length : Int) := by omega
 by_cases h0 : 0 ≤ e.same
 ·by_cases h1 : e.same ≤ i
  ·have hj : e.same.toNat < o.length := by omega
   obtain ⟨x, hx⟩ : ∃ x, o[e.same.toNat]? = some x := ⟨_, List.getElem?_eq_getElem hj⟩
   obtain ⟨ad2, had, q1⟩ := hsi.at_same (hAt _ x hx) hj
   injection had with had
   subst had
   have hr : sameAt o i e = decide (x.same = e.same) := by unfold sameAt; rw [hx, decide_eq_true ⟨h0, h1⟩]; rfl
   rw [hr]
   obtain ⟨j, hjn⟩ : ∃ j, j = e.same.toNat := ⟨_, rfl⟩
   rw [← hjn] at q1 hj
   have hse : e.same = (j : Int) := by omega
   rw [hse] at q0 ⊢
   have j0 : (0 : Int) ≤ (j : Int) := by omega
   have j1 : (j : Int) ≤ (i : Int) := by omega
   have j2 : (j : Int) < (o.length : Int) := by omega
   obtain ⟨y, hy⟩ : ∃ y, y = x.same := ⟨_, rfl⟩
   rw [← hy] at q1 ⊢
   clear hsi hel hAt he hr hx hjn hse h0 h1 hy
   go_enter Tryz.func66, Tryz.ntmps66
   go_wp2
   go_ret
   exact ⟨rfl, rfl⟩
  ·have hr : sameAt o i e = false := by unfold sameAt; rw [decide_eq_false (fun h => h1 h.2)]; rfl
   rw [hr]
   clear hsi hel hAt he hr
   go_enter Tryz.func66, Tryz.ntmps66
   go_wp2
   go_ret
   exact ⟨rfl, rfl⟩
 ·have hr : sameAt o i e = false := by unfold sameAt; rw [decide_eq_false (fun h => h0 h.1)]; rfl
  rw [hr]
  clear hsi hel hAt he hr
  go_enter Tryz.func66, Tryz.ntmps66
  go_wp2
  go_ret
  exact ⟨rfl, rfl⟩
end Go.Proofs.YthaibekbefndlaaGreatDoor.C

namespace Go.Proofs.YthaibekbefndlaaGreatDoor.C
open Go.RowKit

def namesK (o : List Elm) (a : Nat) : List (List UInt8) := ((o.take a).filter fun x => !x.name.isEmpty).map Elm.name
def textsK (o : List Elm) (b : Nat) : List (List UInt8) := (o.take b).map fun x => textL x.cells
theorem elemB_right {e : Elm} (h : elemB e = true) : ∀ c ∈ e.cells, rightB c = true := by
 obtain ⟨nm, xs, s⟩ := e
 by_cases h1 : xs.length = 1
 ·obtain ⟨u, rfl⟩ : ∃ u, xs = [u] := by
   match xs, h1 with
   | [u], _ => exact ⟨u, rfl⟩
  rw [elemB_one] at h
  intro c hc
  simp at hc
  subst hc
  have := (Bool.and_eq_true_iff.1 h).1
  unfold scalB at this
  exact (Bool.and_eq_true_iff.1 this).2
 ·rw [elemB_more s h1] at h
  have h2 := (Bool.and_eq_true_iff.1 (Bool.and_eq_true_iff.1 h).1).1
  have h3 := (quotB_parts h2).2.2.2.2
  unfold canonB at h3
  exact fun c hc => (List.all_eq_true.1 (Bool.and_eq_true_iff.1 h3).1) c hc
theorem elemAt_elem {o : List Elm} {i : Nat} {e : Elm} (he : o[i]? = some e) (h : elemAt o i = true) : elemB e = true := by
 unfold elemAt at h
 rw [he] at h
 simp only [Bool.and_eq_true] at h
 exact h.1.1.1
theorem elemAt_is {o : List Elm} {i : Nat} {e : Elm} (he : o[i]? = some e) : elemAt o i = (elemB e && !((o.take i).any fun x => decide (x.cells = e.cells)) && sameAt o i e && (e.name.isEmpty || !((o.take i).any fun x => decide (x.name = e.name)))) := by
 unfold elemAt
 rw [he]
theorem texts_in {o : List Elm} {i : Nat} {e : Elm} (hok : ∀ j, j < i → elemAt o j = true) (he : elemB e = true) : textL e.cells ∈ textsK o i ↔ ((o.take i).any fun x => decide (x.cells = e.cells)) = true := by
 unfold textsK
 rw [List.mem_map, List.any_eq_true]
 constructor
 ·rintro ⟨x, hx, hxe⟩
  refine ⟨x, hx, decide_eq_true (textL_inj ?_ (elemB_right he) hxe)⟩
  obtain ⟨j, hj, rfl⟩ := List.mem_iff_getElem.1 hx
  rw [List.getElem_take]
  rw [List.length_take] at hj
  exact elemB_right (elemAt_elem (List.getElem?_eq_getElem (by omega)) (hok j (by omega)))
 ·rintro ⟨x, hx, hxe⟩
  exact ⟨x, hx, by rw [of_decide_eq_true hxe]⟩
theorem names_at {o : List Elm} {i : Nat} {nm : List UInt8} (hn : nm ≠ []) : nm ∈ namesK o i ↔ ((o.take i).any fun x => decide (x.name = nm)) = true := by
 unfold namesK
 rw [List.mem_map, List.any_eq_true]
 constructor
 ·rintro ⟨x, hx, hxe⟩
  exact ⟨x, (List.mem_filter.1 hx).1, decide_eq_true hxe⟩
 ·rintro ⟨x, hx, hxe⟩
  have := of_decide_eq_true hxe
  refine ⟨x, List.mem_filter.2 ⟨hx, ?_⟩, this⟩
  rw [this]
  cases nm with
  | nil => exact absurd rfl hn
  | cons => rfl
theorem texts_next {o : List Elm} {i : Nat} {e : Elm} (he : o[i]? = some e) : textsK o (i + 1) = textsK o i ++ [textL e.cells] := by
 unfold textsK
 rw [take_next he, List.map_append]
 rfl
theorem names_next {o : List Elm} {i : Nat} {e : Elm} (he : o[i]? = some e) : namesK o (i + 1) = if e.name = [] then namesK o i else namesK o i ++ [e.name] := by
 unfold namesK
 rw [take_next he, List.filter_append, List.map_append]
 by_cases h : e.name = []
 ·rw [if_pos h]
  simp [h]
 ·rw [if_neg h]
  have : (!e.name.isEmpty) = true := by cases hn : e.name with | nil => exact absurd hn h | cons => rfl
  simp [this]
structure RoI (w : World) (o : List Elm) (An Mn At Mt a b : Nat) (W : World) : Prop where
 bel : Below w.heap.size w W
 fn : FT W 151 .string An Mn (strV (namesK o a))
 ft : FT W 151 .string At Mt (strV (textsK o b))
section
variable {w W W' : World} {o : List Elm} {An Mn At Mt a b : Nat}
theorem RoI.below (h : RoI w o An Mn At Mt a b W) (hb : Below W.heap.size W W') : RoI w o An Mn At Mt a b W' :=
 ⟨h.bel.trans (hb.mono h.bel.size), h.fn.next (hb.block _ h.fn.lt) (hb.block _ h.fn.2.lt), h.ft.next (hb.block _ h.ft.lt) (hb.block _ h.ft.2.lt)⟩
theorem ft_apart {A M A' M' : Nat} {ks ks' : List Value} {t : TypeId} {kd kd' : TypeDesc} (h : FT W t kd A M ks) (h' : FT W t kd' A' M' ks') (hg : W.grownBy W' (some M')) (hne : M ≠ M') : FT W' t kd A M ks :=
 h.fr (X := fun j => j = M') ((Fr.of_grown hg).mono (fun j _ e => by injection e with e; exact e.symm)) (One.nomap h.1 h'.2) hne
theorem RoI.text {b' : Nat} (h : RoI w o An Mn At Mt a b W) (hf : FT W' 151 .string At Mt (strV (textsK o b'))) (hg : W.grownBy W' (some Mt)) (hne : Mn ≠ Mt) (hM : w.heap.size ≤ Mt) : RoI w o An Mn At Mt a b' W' :=
 ⟨h.bel.trans (((Fr.of_grown hg).below (B := w.heap.size) (fun j _ e => by injection e with e; omega) h.bel.size)), ft_apart h.fn h.ft hg hne, hf⟩
theorem RoI.name {a' : Nat} (h : RoI w o An Mn At Mt a b W) (hf : FT W' 151 .string An Mn (strV (namesK o a'))) (hg : W.grownBy W' (some Mn)) (hne : Mn ≠ Mt) (hM : w.heap.size ≤ Mn) : RoI w o An Mn At Mt a' b W' :=
 ⟨h.bel.trans (((Fr.of_grown hg).below (B := w.heap.size) (fun j _ e => by injection e with e; omega) h.bel.size)), hf, ft_apart h.ft h.fn hg hne.symm⟩
theorem RoI.end_ {M : Nat} (h : RoI w o An Mn At Mt a b W) (hg : W.grownBy W' (some M)) (hM : w.heap.size ≤ M) : Below w.heap.size w W' :=
 h.bel.trans (((Fr.of_grown hg).below (B := w.heap.size) (fun j _ e => by injection e with e; omega) h.bel.size))
end
theorem Three.grown {w w' : World} {b : Nat} {t : TypeId} {u v x : Value} {M : Nat} {kd : TypeDesc} {l : List (Value × Value)} (h : Three w b t u v x) (hm : MapIs w M kd l) (hg : w.grownBy w' (some M)) : Three w' b t u v x := (hg.block b h.lt (by
 intro e
 injection e with e
 subst e
 obtain ⟨es, c, h1, _⟩ := hm
 have e := h.symm.trans h1
 simp at e)).trans h
theorem Three.below {w w' : World} {b : Nat} {t : TypeId} {u v x : Value} (h : Three w b t u v x) (hb : Below w.heap.size w w') : Three w' b t u v x := (hb.block _ h.lt).trans h
end Go.Proofs.YthaibekbefndlaaGreatDoor.C

namespace Go.Proofs.YthaibekbefndlaaGreatDoor.C
open Go.RowKit

theorem elemB_len {e : Elm} (h : elemB e = true) : e.cells.length ≤ 4 := by
 obtain ⟨nm, xs, s⟩ := e
 by_cases h1 : xs.length = 1
 ·show xs.length ≤ 4
  omega
 ·rw [elemB_more s h1] at h
  exact (quotB_parts (Bool.and_eq_true_iff.1 (Bool.and_eq_true_iff.1 h).1).1).2.1
set_option maxRecDepth 100000 in
set_option maxHeartbeats 8000000 in
theorem rightOrder_any (w : World) (B : Nat) (v : Value) (o : List Elm) (h : OrdR w B v o) (hB : B ≤ w.heap.size) (hG : Gm w) :
  Calls Tryz.prog 32 #[v] w fun e w' => e = .returned (.bool (ordB o)) ∧ Below w.heap.size w w' := by
 obtain ⟨A, c, xs, rfl, hsi, hel⟩ := h
 by_cases h5 : 500 < o.length
 ·have hr : ordB o = false := by unfold ordB; rw [decide_eq_false (by omega)]; rfl
  have i5 : (500 : Int) < (o.length : Int) := by omega
  rw [hr]
  clear hsi hel hG hr
  go_enter Tryz.func32, Tryz.ntmps32
  go_wp2
  go_ret
  exact ⟨rfl, Below.refl _ _⟩
 have i5 : ¬ (500 : Int) < (o.length : Int) := by omega
 have hmf : ∀ (fn : Fn) (first cap : Array Value) (w : World), (Instr.makeFunc fn first cap).run Tryz.prog w = .ok (.func fn first cap) w := fun _ _ _ _ => rfl
 have HSI := Lib.hid hsi
 have HEL := Lib.hid hel
 have HG := Lib.hid hG
 have HO : Hid (∀ b, (∀ j, j < o.length → elemAt o j = true) → b = true → ordB o = b) := Lib.hid (fun b hb e => by
  subst e
  unfold ordB
  rw [decide_eq_true (by omega), Bool.true_and]
  exact List.all_eq_true.2 fun j hj => hb j (List.mem_range.1 hj))
 have HN : Hid (∀ j, j < o.length → elemAt o j = false → ordB o = false) := Lib.hid (fun j hj hb => by
  unfold ordB
  rw [range_all_false (f := elemAt o) hj (by rw [hb]; rfl), Bool.and_false])
 clear hsi hel hG h5
 go_enter Tryz.func32, Tryz.ntmps32
 go_wp2_with fail
 refine (firstS_any _).mono ?_
 rintro e w1 ⟨rfl, hf1, hb1, hs1⟩
 have HF1 := Lib.hid hf1
 have HB1 := Lib.hid hb1
 have HS1 := Lib.hid hs1
 clear hf1 hb1 hs1
 go_wp2_with fail
 refine (firstS_any _).mono ?_
 rintro e w2 ⟨rfl, hf2, hb2, hs2⟩
 obtain ⟨An, hAn⟩ : ∃ An, An = w.heap.size + 1 := ⟨_, rfl⟩
 obtain ⟨At, hAt⟩ : ∃ At, At = w1.heap.size + 1 := ⟨_, rfl⟩
 obtain ⟨Mt, hMt⟩ : ∃ Mt, Mt = w1.heap.size := ⟨_, rfl⟩
 have HI0 : Hid (RoI w o An w.heap.size At Mt 0 0 w2) := Lib.hid (by
  rw [hAn, hAt, hMt]
  exact ⟨HB1.out.trans (hb2.mono HB1.out.size), HF1.out.next (hb2.block _ HF1.out.lt) (hb2.block _ HF1.out.2.lt), hf2⟩)
 have hne : w.heap.size ≠ Mt := by have := HS1.out; omega
 have hMt2 : w.heap.size ≤ Mt := by have := HB1.out.size; omega
 rw [← hAn, ← hAt]
 have HNE := Lib.hid hne
 have HMT := Lib.hid hMt2
 clear hf2 hb2 hs2 hAn hAt hMt HF1 HB1 HS1 hne hMt2
 go_wp2
 go_loopw [14] (fun iv wr => ∃ i : Nat, i ≤ o.length ∧ iv = .int .i64 i ∧ Hid (RoI w o An w.heap.size At Mt i i wr) ∧ Hid (∀ j, j < i → elemAt o j = true)) (fun iv _ => o.length - (intOf iv).toNat)
 case atStart => exact ⟨0, Nat.zero_le _, rfl, HI0, Lib.hid (fun j hj => absurd hj (by omega))⟩
 case round =>
  obtain ⟨i, hin, rfl, HI, HOK⟩ := hrel
  by_cases hlt : i < o.length
  rotate_left
  ·obtain rfl : i = o.length := by omega
   go_wp2
   go_ret
   exact ⟨by rw [HO.out true HOK.out rfl]; rfl, HI.out.bel⟩
  obtain ⟨e, he⟩ : ∃ e, o[i]? = some e := ⟨_, List.getElem?_eq_getElem hlt⟩
  obtain ⟨Ac, cc, hx1, hri, hnl, -⟩ := HEL.out i e he
  obtain ⟨ad, a1, a2, a3, rfl, hbl, hx2, c0, c1, c2⟩ := (HSI.out.on HI.out.bel hB).at3 hlt
  rw [hx1] at hx2
  simp at hx2
  obtain ⟨rfl, rfl, rfl⟩ := hx2
  obtain ⟨W1, hW1⟩ : ∃ W1, W1 = wr.alloc (.cells #[.string (str e.name), .slice Ac e.cells.length cc, .int .i64 e.same] 34) := ⟨_, rfl⟩
  have hb1 : Below wr.heap.size wr W1 := by rw [hW1]; exact (Below.refl _ _).alloc (Nat.le_refl _) _
  have hI1 := HI.out.below hb1
  have hX1 : Three W1 wr.heap.size 34 (.string (str e.name)) (.slice Ac e.cells.length cc) (.int .i64 e.same) := by rw [hW1]; exact Three.new wr _ _ _ _
  have hs0 := hI1.bel.size
  have hG1 : Gm W1 := HG.out.next hI1.bel
  have hri1 : RI .i32 W1 B Ac e.cells.length e.cells := hri.keep fun p hp => hI1.bel.cell (by omega)
  have hie := isElem_any W1 B Ac e.cells.length cc e.name e.cells e.same hri1 (by omega) hG1 hnl
  rw [show (⟨e.name, e.cells, e.same⟩ : Elm) = e from rfl] at hie
  obtain ⟨q0, q1, q2⟩ := hX1.cells
  rw [hW1] at q0 q1 q2
  have HI1 := Lib.hid hI1
  have HX1 := Lib.hid hX1
  have HR1 := Lib.hid hri1
  have HG1 := Lib.hid hG1
  have HE := Lib.hid he
  have HRI := Lib.hid hri
  have i0 : (0 : Int) ≤ (i : Int) := by omega
  have i1 : (i : Int) < (o.length : Int) := by omega
  clear hI1 hX1 hri1 hG1 hri hb1 hx1 he
  cases heb : elemB e with
  | false =>
   rw [heb] at hie
   have hno := HN.out i hlt (by rw [elemAt_is HE.out, heb]; rfl)
   have HNO := Lib.hid hno
   clear heb hno
   go_wp2_with fail
   rw [← hW1]
   refine hie.mono ?_
   rintro r w3 ⟨rfl, hb3⟩
   have HB3 := Lib.hid (HI1.out.below hb3).bel
   clear hb3 hie
   go_wp2
   go_ret
   exact ⟨by rw [HNO.out]; rfl, HB3.out⟩
  | true =>
   rw [heb] at hie
   have HEB := Lib.hid heb
   clear heb
   go_wp2_with fail
   rw [← hW1]
   refine hie.mono ?_
   rintro r w3 ⟨rfl, hb3⟩
   have hI3 := HI1.out.below hb3
   have hX3 := HX1.out.below hb3
   have hs3 := hI3.bel.size
   have htx := text_any w3 B Ac e.cells.length cc e.cells (HRI.out.keep fun p hp => hI3.bel.cell (by omega)) (by omega) (by have := (elemB_len HEB.out); omega) ((HG.out.next hI3.bel).1.2.1)
   obtain ⟨p0, p1, p2⟩ := hX3.cells
   have HI3 := Lib.hid hI3
   have HX3 := Lib.hid hX3
   clear hb3 hI3 hX3 hie q0 q1 q2 c0 c1 c2 hW1
   go_wp2_with fail
   refine htx.mono ?_
   rintro r w4 ⟨rfl, hb4⟩
   have hI4 := HI3.out.below hb4
   have hX4 := HX3.out.below hb4
   have HI4 := Lib.hid hI4
   have HX4 := Lib.hid hX4
   clear hb4 hI4 hX4 htx p0 p1 p2
   by_cases hti : textL e.cells ∈ textsK o i
   ·have hno := HN.out i hlt (by rw [elemAt_is HE.out, (texts_in HOK.out HEB.out).1 hti]; simp)
    have hnew := isNewS_no w4 At Mt (strV (textsK o i)) (str (textL e.cells)) HI4.out.ft (strV_in.2 hti)
    have HNO := Lib.hid hno
    clear hti hno
    go_wp2_with fail
    refine hnew.mono ?_
    rintro r w5 ⟨rfl, hg5⟩
    have HB5 := Lib.hid (HI4.out.end_ hg5 HMT.out)
    clear hg5 hnew
    go_wp2
    go_ret
    exact ⟨by rw [HNO.out]; rfl, HB5.out⟩
   have hnew := isNewS_yes w4 At Mt (strV (textsK o i)) (str (textL e.cells)) HI4.out.ft (fun h => hti (strV_in.1 h))
   have HTI : Hid (((o.take i).any fun x => decide (x.cells = e.cells)) = false) := Lib.hid (by
    cases hq : ((o.take i).any fun x => decide (x.cells = e.cells)) with
    | false => rfl
    | true => exact absurd ((texts_in HOK.out HEB.out).2 hq) hti)
   clear hti
   go_wp2_with fail
   refine hnew.mono ?_
   rintro r w5 ⟨rfl, hf5, hg5⟩
   rw [strV_snoc, ← texts_next HE.out] at hf5
   have hI5 := HI4.out.text hf5 hg5 HNE.out HMT.out
   have hX5 := HX4.out.grown HI4.out.ft.2 hg5
   have hs5 := hI5.bel.size
   have hrs := rightSame_any w5 B (.slice (some ad) o.length c) o ⟨_, c, xs, rfl, HSI.out.on hI5.bel hB, fun j x hj => by
    obtain ⟨u1, u2, u3, u4, u5⟩ := HEL.out j x hj
    exact ⟨u1, u2, u3, u4.keep fun p hp => hI5.bel.cell (by omega), u5⟩⟩ i e HE.out
   have HI5 := Lib.hid hI5
   have HX5 := Lib.hid hX5
   clear hf5 hg5 hI5 hX5 hnew
   cases hsm : sameAt o i e with
   | false =>
    rw [hsm] at hrs
    have hno := HN.out i hlt (by rw [elemAt_is HE.out, hsm]; simp)
    have HNO := Lib.hid hno
    clear hsm hno
    go_wp2_with fail
    refine hrs.mono ?_
    rintro r w6 ⟨rfl, rfl⟩
    clear hrs
    go_wp2
    go_ret
    exact ⟨by rw [HNO.out]; rfl, HI5.out.bel⟩
   | true =>
    rw [hsm] at hrs
    have HSM := Lib.hid hsm
    clear hsm
    go_wp2_with fail
    refine hrs.mono ?_
    rintro r w6 ⟨rfl, rfl⟩
    obtain ⟨p0, p1, p2⟩ := HX5.out.cells
    have hem := str_empty e.name
    clear hrs
    by_cases hnm : e.name = []
    ·have hem2 : (str e.name).toList.isEmpty = true := by rw [hem, hnm]; rfl
     have hI7 : RoI w o An w.heap.size At Mt (i + 1) (i + 1) w6 := by
      have := HI5.out
      refine ⟨this.bel, ?_, this.ft⟩
      rw [names_next HE.out, if_pos hnm]
      exact this.fn
     have hok : ∀ j, j < i + 1 → elemAt o j = true := by
      intro j hj
      rcases Nat.lt_or_ge j i with h | h
      ·exact HOK.out j h
      ·obtain rfl : j = i := by omega
       rw [elemAt_is HE.out, HEB.out, HTI.out, HSM.out, hnm]
       rfl
     have HI7 := Lib.hid hI7
     have HOK7 := Lib.hid hok
     clear hem hnm hI7 hok
     go_wp2
     go_roundw
     case rel => exact ⟨i + 1, by omega, by go_num, HI7, HOK7⟩
     case measure => simp [intOf]; omega
    ·have hem2 : (str e.name).toList.isEmpty = false := by
      rw [hem]
      cases hq : e.name with
      | nil => exact absurd hq hnm
      | cons => rfl
     by_cases hni : e.name ∈ namesK o i
     ·have hno := HN.out i hlt (by
       rw [elemAt_is HE.out, (names_at hnm).1 hni]
       cases hq : e.name with
       | nil => exact absurd hq hnm
       | cons => simp)
      have hnew := isNewS_no w6 An w.heap.size (strV (namesK o i)) (str e.name) HI5.out.fn (strV_in.2 hni)
      have HNO := Lib.hid hno
      clear hem hnm hni hno
      go_wp2_with fail
      refine hnew.mono ?_
      rintro r w7 ⟨rfl, hg7⟩
      have HB7 := Lib.hid (HI5.out.end_ hg7 (Nat.le_refl _))
      clear hg7 hnew
      go_wp2
      go_ret
      exact ⟨by rw [HNO.out]; rfl, HB7.out⟩
     ·have hnew := isNewS_yes w6 An w.heap.size (strV (namesK o i)) (str e.name) HI5.out.fn (fun h => hni (strV_in.1 h))
      have hok : ∀ j, j < i + 1 → elemAt o j = true := by
       intro j hj
       rcases Nat.lt_or_ge j i with h | h
       ·exact HOK.out j h
       ·obtain rfl : j = i := by omega
        have hq : ((o.take j).any fun x => decide (x.name = e.name)) = false := by
         cases hq : ((o.take j).any fun x => decide (x.name = e.name)) with
         | false => rfl
         | true => exact absurd ((names_at hnm).2 hq) hni
        rw [elemAt_is HE.out, HEB.out, HTI.out, HSM.out, hq]
        simp
      have HOK7 := Lib.hid hok
      have HNM := Lib.hid hnm
      clear hem hnm hni hok
      go_wp2_with fail
      refine hnew.mono ?_
      rintro r w7 ⟨rfl, hf7, hg7⟩
      rw [strV_snoc] at hf7
      have HI7 : Hid (RoI w o An w.heap.size At Mt (i + 1) (i + 1) w7) := Lib.hid (HI5.out.name (by rw [names_next HE.out, if_neg HNM.out]; exact hf7) hg7 HNE.out (Nat.le_refl _))
      clear hf7 hg7 hnew
      go_wp2
      go_roundw
      case rel => exact ⟨i + 1, by omega, by go_num, HI7, HOK7⟩
      case measure => simp [intOf]; omega
end Go.Proofs.YthaibekbefndlaaGreatDoor.C

namespace Go.Proofs.YthaibekbefndlaaGreatDoor.C
open Go.RowKit

def LocR (w : World) (B : Nat) (v1 v2 v3 v4 : Value) (l : Loc) : Prop :=
 ClsR w B v1 l.cls ∧ PrsR w B v2 l.up ∧ PrsR w B v3 l.lo ∧ OrdR w B v4 l.ord ∧ l.cls.length ≤ maxLen ∧ l.up.length ≤ maxLen ∧ l.lo.length ≤ maxLen
theorem LocR.on {w w' : World} {B B' : Nat} {v1 v2 v3 v4 : Value} {l : Loc} (h : LocR w B v1 v2 v3 v4 l) (hb : Below B' w w') (hB : B ≤ B') : LocR w' B v1 v2 v3 v4 l :=
 ⟨h.1.on hb hB, h.2.1.on hb hB, h.2.2.1.on hb hB, h.2.2.2.1.on hb hB, h.2.2.2.2⟩
theorem own_len {w : World} {lo n sz : Nat} {v : Value} {xs : List Value} {e : TypeId} (h : w.ownsRow lo e sz v n xs) : n ≤ maxLen := by
 rcases h.2 with ⟨_, h0⟩ | ⟨g, cap, cur, _, _, _, h1, h2, _⟩
 ·rw [h0]; exact Nat.zero_le _
 ·omega
theorem prsC_flat (l : List (Int × Int)) : prsC l = (l.map prRow).flatten := by
 induction l with
 | nil => rfl
 | cons a r ih =>
  have h : prsC (a :: r) = prRow a ++ prsC r := rfl
  rw [h, ih]
  rfl
theorem PrsR.of {w : World} {lo : Nat} {v : Value} {l : List (Int × Int)} {e : TypeId} (h : w.ownsRow lo e 2 v l.length (prsC l)) : PrsR w w.heap.size v l := by
 obtain ⟨A, c, rfl⟩ := row_form h
 rw [prsC_flat] at h
 exact ⟨A, c, rfl, SI.of_own h (by simp) (by intro x hx; obtain ⟨y, _, rfl⟩ := List.mem_map.1 hx; rfl)⟩
theorem clsC_flat (cs : List Cls) (vs : List Value) : clsC cs vs = ((cs.zip vs).map fun x => [Value.string (str x.1.name), x.2]).flatten := by
 unfold clsC
 rw [List.flatMap_def]
theorem ClsR.of {w : World} {lo : Nat} {v : Value} {cs : List Cls} (h : ClsAt w lo v cs) (hn : ∀ c ∈ cs, c.name.length ≤ maxLen) : ClsR w w.heap.size v cs := by
 obtain ⟨vs, h1, h2, h3⟩ := h
 obtain ⟨A, c, rfl⟩ := row_form h2
 rw [clsC_flat] at h2
 refine ⟨A, c, _, rfl, SI.of_own h2 (by simp [h1]) (by intro x hx; obtain ⟨y, _, rfl⟩ := List.mem_map.1 hx; rfl), fun i k hi => ?_⟩
 have hk : i < cs.length := (List.getElem?_eq_some_iff.1 hi).1
 have hv : vs[i]? = some (vs[i]'(by omega)) := List.getElem?_eq_getElem (by omega)
 refine ⟨vs[i]'(by omega), ?_, PrsR.of (h3 i k _ hi hv), hn k (List.mem_of_getElem? hi), own_len (h3 i k _ hi hv)⟩
 have hz : (cs.zip vs)[i]? = some (k, vs[i]'(by omega)) := by rw [List.getElem?_zip_eq_some]; exact ⟨hi, hv⟩
 rw [List.getElem?_map, hz]
 rfl
theorem OrdR.of {w : World} {lo : Nat} {v : Value} {o : List Elm} (h : OrdAt w lo v o) (hn : ∀ e ∈ o, e.name.length ≤ maxLen) : OrdR w w.heap.size v o := by
 obtain ⟨vs, h1, h2, h3⟩ := h
 obtain ⟨A, c, rfl⟩ := row_form h2
 refine ⟨A, c, _, rfl, SI.of_own h2 (ordR_len h1) ordR_each, fun i e hi => ?_⟩
 have hk : i < o.length := (List.getElem?_eq_some_iff.1 hi).1
 have hv : vs[i]? = some (vs[i]'(by omega)) := List.getElem?_eq_getElem (by omega)
 have ho := h3 i e _ hi hv
 obtain ⟨Ac, cc, he⟩ := row_form ho
 refine ⟨Ac, cc, ?_, RI.of_own (e := 35) (by rw [← he]; exact ho), hn e (List.mem_of_getElem? hi), own_len ho⟩
 unfold ordR
 have hz : (o.zip vs)[i]? = some (e, vs[i]'(by omega)) := by rw [List.getElem?_zip_eq_some]; exact ⟨hi, hv⟩
 rw [List.getElem?_map, hz, ← he]
 rfl
theorem LocR.of {w : World} {lo : Nat} {v1 v2 v3 v4 : Value} {l : Loc} (h : LocAt w lo v1 v2 v3 v4 l) (h1 : ∀ c ∈ l.cls, c.name.length ≤ maxLen) (h2 : ∀ e ∈ l.ord, e.name.length ≤ maxLen) : LocR w w.heap.size v1 v2 v3 v4 l := by
 obtain ⟨a1, a2, a3, a4⟩ := h
 have a0 := a1
 obtain ⟨vs, _, b, _⟩ := a0
 exact ⟨ClsR.of a1 h1, PrsR.of a2, PrsR.of a3, OrdR.of a4 h2, own_len b, own_len a2, own_len a3⟩

def Rw (w : World) (b : Nat) (t : TypeId) (xs : Array Value) : Prop := w.heap[b]? = some (.cells xs t (0, 0))
theorem Rw.lt {w : World} {b : Nat} {t : TypeId} {xs : Array Value} (h : Rw w b t xs) : b < w.heap.size := (Array.getElem?_eq_some_iff.1 h).1
theorem Rw.cell {w : World} {b : Nat} {t : TypeId} {xs : Array Value} (h : Rw w b t xs) {i : Nat} {v : Value} (hi : xs[i]? = some v) : w.cell? ⟨b, i, none⟩ = some v := by simp [World.cell?, show w.heap[b]? = _ from h, hi]
theorem Rw.on {w w' : World} {b B : Nat} {t : TypeId} {xs : Array Value} (h : Rw w b t xs) (hb : Below B w w') (hB : b < B) : Rw w' b t xs := (hb.block b hB).trans h
set_option maxRecDepth 100000 in
set_option maxHeartbeats 4000000 in
theorem locRight_any (w : World) (B : Nat) (v1 v2 v3 v4 : Value) (l : Loc) (h : LocR w B v1 v2 v3 v4 l) (hB : B ≤ w.heap.size) (hG : Gm w) :
  Calls Tryz.prog 16 #[.agg #[v1, v2, v3, v4]] w fun e w' => e = .returned (.bool (rightL l)) ∧ Below w.heap.size w w' := by
 obtain ⟨W, hW⟩ : ∃ W, W = w.alloc (.cells #[v1, v2, v3, v4] 26) := ⟨_, rfl⟩
 have hb : Below w.heap.size w W := by rw [hW]; exact (Below.refl _ _).alloc (Nat.le_refl _) _
 have hGW := hG.next hb
 have hR := h.on hb hB
 have hsz := hb.size
 obtain ⟨r1, r2, r3, r4, n1, n2, n3⟩ := hR
 have hrow : Rw W w.heap.size 26 #[v1, v2, v3, v4] := by rw [hW]; exact heap_alloc_new w _
 obtain ⟨⟨A1, c1, x1, rfl, -⟩, ⟨A2, c2, rfl, -⟩, ⟨A3, c3, rfl, -⟩, ⟨A4, c4, x4, rfl, -⟩, -⟩ := h
 have d1 := rightClasses_any W B _ l.cls r1 (by omega) n1
 have HG := Lib.hid hGW
 have HR2 := Lib.hid r2
 have HR3 := Lib.hid r3
 have HR4 := Lib.hid r4
 have HB := Lib.hid hb
 have HW := Lib.hid hrow
 have HN2 := Lib.hid n2
 have HN3 := Lib.hid n3
 have HBW : Hid (B ≤ W.heap.size) := Lib.hid (by omega)
 clear r1 r2 r3 r4 hG hGW hb hrow n1 n2 n3 hsz hB
 go_enter Tryz.func16, Tryz.ntmps16
 go_wp2_with fail
 rw [← hW]
 refine d1.mono ?_
 rintro e w1 ⟨rfl, hb1⟩
 have HB1 := Lib.hid hb1
 clear hb1 d1
 cases k1 : clsB l.cls with
 | false =>
  have hr : rightL l = false := by unfold rightL; rw [k1]; rfl
  go_wp2
  go_ret
  exact ⟨by rw [hr]; rfl, HB.out.trans (HB1.out.mono HB.out.size)⟩
 | true =>
  have d2 := rightPairs_any w1 B _ l.up (HR2.out.on HB1.out HBW.out) (Nat.le_trans HBW.out HB1.out.size) HN2.out
  have p1 := (HW.out.on HB1.out HW.out.lt).cell (i := 1) rfl
  go_wp2_with fail
  refine d2.mono ?_
  rintro e w2 ⟨rfl, hb2⟩
  have HB2 := Lib.hid (HB1.out.trans (hb2.mono HB1.out.size))
  clear hb2 d2 p1
  cases k2 : pairsB l.up with
  | false =>
   have hr : rightL l = false := by unfold rightL; rw [k1, k2]; rfl
   go_wp2
   go_ret
   exact ⟨by rw [hr]; rfl, HB.out.trans (HB2.out.mono HB.out.size)⟩
  | true =>
   have d3 := rightPairs_any w2 B _ l.lo (HR3.out.on HB2.out HBW.out) (Nat.le_trans HBW.out HB2.out.size) HN3.out
   have p2 := (HW.out.on HB2.out HW.out.lt).cell (i := 2) rfl
   go_wp2_with fail
   refine d3.mono ?_
   rintro e w3 ⟨rfl, hb3⟩
   have HB3 := Lib.hid (HB2.out.trans (hb3.mono HB2.out.size))
   clear hb3 d3 p2
   cases k3 : pairsB l.lo with
   | false =>
    have hr : rightL l = false := by unfold rightL; rw [k1, k2, k3]; rfl
    go_wp2
    go_ret
    exact ⟨by rw [hr]; rfl, HB.out.trans (HB3.out.mono HB.out.size)⟩
   | true =>
    have d4 := rightOrder_any w3 B _ l.ord (HR4.out.on HB3.out HBW.out) (Nat.le_trans HBW.out HB3.out.size) (HG.out.next HB3.out)
    have p3 := (HW.out.on HB3.out HW.out.lt).cell (i := 3) rfl
    have hr : rightL l = ordB l.ord := by unfold rightL; rw [k1, k2, k3]; rfl
    go_wp2_with fail
    refine d4.mono ?_
    rintro e w4 ⟨rfl, hb4⟩
    have HB4 := Lib.hid (HB3.out.trans (hb4.mono HB3.out.size))
    clear hb4 d4 p3
    go_wp2
    go_ret
    exact ⟨by rw [hr]; rfl, HB.out.trans (HB4.out.mono HB.out.size)⟩
end Go.Proofs.YthaibekbefndlaaGreatDoor.C

namespace Go.Proofs
open Go.Shelf
theorem Tryz.Buffer_Len_at (T : TypeId) (R : Nat → Option Value) (B b q : Nat) (bs : List Value) (w : World) (h : LibA.IsBuffer T R 5 B b q bs w) :
  Calls Tryz.prog 140 #[.pointer (some ⟨b, q, none⟩)] w fun e w' => e = .returned (.int .i64 bs.length) ∧ ∃ n, w' = w.drewN n := Any.Buffer_Len_at Tryz.laysM181 T R B b q bs w h
def Tryz.laysM182_ren : Go.Shelf.Ren := ⟨fun | 182 => 24 | n => n, fun | 130 => 101 | 9 => 9 | 4 => 4 | 0 => 0 | 93 => 71 | 37 => 38 | 3 => 3 | 91 => 69 | 5 => 5 | n => n, fun | n => n⟩
theorem Tryz.laysM182 : Go.Proofs.LaysM.n182 Tryz.prog Tryz.laysM182_ren := {
 mixed := by kernel_rfl
 f182 := Tryz.func24.trans (congrArg some (by kernel_rfl))
 t0 := Tryz.underlying0
 a0 := Tryz.isAgg0
 z0 := Tryz.sizeOf0
 v0 := Tryz.zeroValue0
 t3 := Tryz.underlying3
 a3 := Tryz.isAgg3
 z3 := Tryz.sizeOf3
 v3 := Tryz.zeroValue3
 t4 := Tryz.underlying4
 a4 := Tryz.isAgg4
 z4 := Tryz.sizeOf4
 v4 := Tryz.zeroValue4
 t9 := Tryz.underlying9
 a9 := Tryz.isAgg9
 z9 := Tryz.sizeOf9
 v9 := Tryz.zeroValue9
 t37 := Tryz.underlying38
 a37 := Tryz.isAgg38
 z37 := Tryz.sizeOf38
 v37 := Tryz.zeroValue38
 t93 := Tryz.underlying71
 a93 := Tryz.isAgg71
 z93 := Tryz.sizeOf71
 v93 := Tryz.zeroValue71
 t130 := Tryz.underlying101
 a130 := Tryz.isAgg101
 z130 := Tryz.sizeOf101
 v130 := Tryz.zeroValue101
 t5 := Tryz.underlying5
 a5 := Tryz.isAgg5
 z5 := Tryz.sizeOf5
 v5 := Tryz.zeroValue5
 t91 := Tryz.underlying69
 a91 := Tryz.isAgg69
 z91 := Tryz.sizeOf69
 v91 := Tryz.zeroValue69
 i0 := by kernel_rfl
 i3 := by kernel_rfl
 i4 := by kernel_rfl
 i5 := by kernel_rfl
 i9 := by kernel_rfl
 i37 := by kernel_rfl
 i91 := by kernel_rfl
 i93 := by kernel_rfl
 i130 := by kernel_rfl }
open Go.RowKit in
theorem Tryz.Buffer_String_at (T : TypeId) (R : Nat → Option Value) (B b q : Nat) (l : List UInt8) (w : World) (h : LibA.IsBuffer T R 5 B b q (Lib.byteCells l) w) :
  Calls Tryz.prog 24 #[.pointer (some ⟨b, q, none⟩)] w fun e w' => e = .returned (.string ⟨l.toArray⟩) ∧ ∃ n, w' = w.drewN n := Any.Buffer_String_at Tryz.laysM182 T R B b q l w h
def Tryz.laysM178_ren : Go.Shelf.Ren := ⟨fun | 178 => 138 | 251 => 178 | 252 => 179 | 181 => 140 | 184 => 183 | 290 => 198 | 324 => 220 | n => n, fun | 130 => 101 | 9 => 9 | 3 => 3 | 75 => 179 | 0 => 0 | 93 => 71 | 91 => 69 | 131 => 160 | 4 => 4 | 37 => 38 | 20 => 20 | 80 => 75 | 5 => 5 | n => n, fun | 14 => 1 | n => n⟩
theorem Tryz.laysM178 : Go.Proofs.LaysM.n178 Tryz.prog Tryz.laysM178_ren := {
 mixed := by kernel_rfl
 f178 := Tryz.func138.trans (congrArg some (by kernel_rfl))
 f181 := Tryz.func140.trans (congrArg some (by kernel_rfl))
 f184 := Tryz.func183.trans (congrArg some (by kernel_rfl))
 f251 := Tryz.func178.trans (congrArg some (by kernel_rfl))
 f252 := Tryz.func179.trans (congrArg some (by kernel_rfl))
 f290 := Tryz.func198.trans (congrArg some (by kernel_rfl))
 f324 := Tryz.func220.trans (congrArg some (by kernel_rfl))
 t0 := Tryz.underlying0
 a0 := Tryz.isAgg0
 z0 := Tryz.sizeOf0
 v0 := Tryz.zeroValue0
 t3 := Tryz.underlying3
 a3 := Tryz.isAgg3
 z3 := Tryz.sizeOf3
 v3 := Tryz.zeroValue3
 t4 := Tryz.underlying4
 a4 := Tryz.isAgg4
 z4 := Tryz.sizeOf4
 v4 := Tryz.zeroValue4
 t9 := Tryz.underlying9
 a9 := Tryz.isAgg9
 z9 := Tryz.sizeOf9
 v9 := Tryz.zeroValue9
 t20 := Tryz.underlying20
 a20 := Tryz.isAgg20
 z20 := Tryz.sizeOf20
 v20 := Tryz.zeroValue20
 t37 := Tryz.underlying38
 a37 := Tryz.isAgg38
 z37 := Tryz.sizeOf38
 v37 := Tryz.zeroValue38
 t75 := Tryz.underlying179
 a75 := Tryz.isAgg179
 z75 := Tryz.sizeOf179
 v75 := Tryz.zeroValue179
 t91 := Tryz.underlying69
 a91 := Tryz.isAgg69
 z91 := Tryz.sizeOf69
 v91 := Tryz.zeroValue69
 t93 := Tryz.underlying71
 a93 := Tryz.isAgg71
 z93 := Tryz.sizeOf71
 v93 := Tryz.zeroValue71
 t130 := Tryz.underlying101
 a130 := Tryz.isAgg101
 z130 := Tryz.sizeOf101
 v130 := Tryz.zeroValue101
 t131 := Tryz.underlying160
 a131 := Tryz.isAgg160
 z131 := Tryz.sizeOf160
 v131 := Tryz.zeroValue160
 g14 := by kernel_rfl
 t5 := Tryz.underlying5
 a5 := Tryz.isAgg5
 z5 := Tryz.sizeOf5
 v5 := Tryz.zeroValue5
 t80 := Tryz.underlying75
 a80 := Tryz.isAgg75
 z80 := Tryz.sizeOf75
 v80 := Tryz.zeroValue75
 i0 := by kernel_rfl
 i3 := by kernel_rfl
 i4 := by kernel_rfl
 i5 := by kernel_rfl
 i9 := by kernel_rfl
 i20 := by kernel_rfl
 i37 := by kernel_rfl
 i75 := by kernel_rfl
 i80 := by kernel_rfl
 i91 := by kernel_rfl
 i93 := by kernel_rfl
 i130 := by kernel_rfl
 i131 := by kernel_rfl
 m14 := by kernel_rfl }
open Go.RowKit in
theorem Tryz.Buffer_WriteString_at (T : TypeId) (R : Nat → Option Value) (B b q : Nat) (bs : List Value) (s : ByteArray) (w : World) (h : LibA.IsBuffer T R 5 B b q bs w) (hBw : B ≤ w.heap.size) (h1 : ∀ v ∈ bs, v.oneCell' = true) (hlim : bs.length + s.size ≤ 140737488355328) :
  Calls Tryz.prog 138 #[.pointer (some ⟨b, q, none⟩), .string s] w fun e w' => e = .returned (.tuple #[.int .i64 s.size, .nilIface]) ∧ LibA.IsBuffer T R 5 B b q (bs ++ Lib.byteCells s.data.toList) w' ∧ Below B w w' ∧ Lib.OthersKept 5 (some b) w w' := Any.Buffer_WriteString_at Tryz.laysM178 T R B b q bs s w h hBw h1 hlim
end Go.Proofs
