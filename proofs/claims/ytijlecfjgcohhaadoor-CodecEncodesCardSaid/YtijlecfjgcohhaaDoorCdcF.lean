/-
  Contracts of the closure that encodes and of codec.encodeMarked: the bytes of a document are what the plain function says, in new memory, or the error; nothing that was there changes. No condition.
-/
import Derived.Test.YtijlecfjgcohhaaDoorCdcB
import Derived.Test.YtijlecfjgcohhaaDoorCdcL
import Derived.Test.YtijlecfjgcohhaaDoorCdcM
import Derived.Test.YtijlecfjgcohhaaDoorCuI
import Derived.Laws.NewDeep
import Derived.Deep.RegionHeld3
namespace Go.Proofs.YtijlecfjgcohhaaDoor.C
open Go.RowKit

def lowB (xs : List Int) : Bool := xs.all fun c => decide (c ≤ 255)
/-- which error is it? -/
def errE (k : Int) (big bom : Bool) (xs : List Int) : Int :=
  if (k ≠ 1 ∧ k ≠ 2 ∧ k ≠ 3) ∨ (k ≠ 2 ∧ (big || bom) = true) then 1 else if xs.all rightB = false then 10 else if k = 3 ∧ lowB xs = false then 11 else 0
/-- the bytes of a document -/
def bytesE (k : Int) (big bom : Bool) (xs : List Int) : List Int :=
  if errE k big bom xs = 0 then (if k = 1 then encL xs else if k = 3 then latL xs else (if bom then markL big else []) ++ U.encL big xs) else []
/-- what Encode and its parts answer -/
def EncD (k : Int) (big bom : Bool) (xs : List Int) (w : World) (e : Ending) (w' : World) : Prop :=
  ∃ A' m c', e = .returned (.tuple #[.slice A' m c', .int .u16 (errE k big bom xs)]) ∧ m ≤ c' ∧ c' ≤ maxLen ∧ RI .u8 w' w'.heap.size A' m (bytesE k big bom xs) ∧ Below w.heap.size w w'
theorem encD_err {k : Int} {big bom : Bool} {xs : List Int} {w w' : World} {r : Int} (he : errE k big bom xs = r) (h0 : r ≠ 0) (hb : Below w.heap.size w w') :
    EncD k big bom xs w (.returned (.tuple #[.slice none 0 0, .int .u16 r])) w' := by
  subst he
  refine ⟨none, 0, 0, rfl, Nat.le_refl _, by unfold maxLen; omega, ?_, hb⟩
  unfold bytesE
  rw [if_neg h0]
  exact RI.none_
theorem encD_own {k : Int} {big bom : Bool} {xs zs : List Int} {w w' : World} {base n : Nat} {e : TypeId} {v : Value} (he : errE k big bom xs = 0) (hz : bytesE k big bom xs = zs) (ho : w'.ownsRow base e 1 v n (zs.map (Value.int .u8))) (hb : Below w.heap.size w w') :
    EncD k big bom xs w (.returned (.tuple #[v, .int .u16 0])) w' := by
  obtain ⟨A', c', rfl, h1, h2, h3⟩ := own_slice2 ho
  exact ⟨A', n, c', by rw [he], h1, h2, by rw [hz]; exact h3, hb⟩

theorem err_set {k : Int} {big bom : Bool} (xs : List Int) (hk : k ≠ 2) (h : (big || bom) = true) : errE k big bom xs = 1 := by
  unfold errE
  rw [if_pos (.inr ⟨hk, h⟩)]
theorem err_none {k : Int} (big bom : Bool) (xs : List Int) (h1 : k ≠ 1) (h2 : k ≠ 2) (h3 : k ≠ 3) : errE k big bom xs = 1 := by
  unfold errE
  rw [if_pos (.inl ⟨h1, h2, h3⟩)]
theorem err_cell {k : Int} {big bom : Bool} {xs : List Int} (hk : k = 1 ∨ k = 2 ∨ k = 3) (h : k = 2 ∨ (big || bom) = false) (ha : xs.all rightB = false) : errE k big bom xs = 10 := by
  unfold errE
  rw [if_neg, if_pos ha]
  rintro (⟨h1, h2, h3⟩ | ⟨h1, h2⟩)
  · omega
  · rcases h with h | h
    · exact h1 h
    · rw [h] at h2; cases h2
theorem err_rest {k : Int} {big bom : Bool} {xs : List Int} (hk : k = 1 ∨ k = 2 ∨ k = 3) (h : k = 2 ∨ (big || bom) = false) (ha : xs.all rightB = true) : errE k big bom xs = if k = 3 ∧ lowB xs = false then 11 else 0 := by
  unfold errE
  rw [if_neg, if_neg (by rw [ha]; simp)]
  rintro (⟨h1, h2, h3⟩ | ⟨h1, h2⟩)
  · omega
  · rcases h with h | h
    · exact h1 h
    · rw [h] at h2; cases h2
theorem err_ok {k : Int} {big bom : Bool} {xs : List Int} (hk : k = 1 ∨ k = 2) (h : k = 2 ∨ (big || bom) = false) (ha : xs.all rightB = true) : errE k big bom xs = 0 := by
  rw [err_rest (by omega) h ha, if_neg (by omega)]
theorem err_high {big bom : Bool} {xs : List Int} (h : (big || bom) = false) (ha : xs.all rightB = true) (hl : lowB xs = false) : errE 3 big bom xs = 11 := by
  rw [err_rest (by omega) (.inr h) ha, if_pos ⟨rfl, hl⟩]
theorem err_low {big bom : Bool} {xs : List Int} (h : (big || bom) = false) (ha : xs.all rightB = true) (hl : lowB xs = true) : errE 3 big bom xs = 0 := by
  rw [err_rest (by omega) (.inr h) ha, if_neg (by rw [hl]; simp)]
theorem bytes_one {big bom : Bool} {xs : List Int} (h : errE 1 big bom xs = 0) : bytesE 1 big bom xs = encL xs := by unfold bytesE; rw [if_pos h, if_pos rfl]
theorem bytes_three {big bom : Bool} {xs : List Int} (h : errE 3 big bom xs = 0) : bytesE 3 big bom xs = latL xs := by unfold bytesE; rw [if_pos h, if_neg (by decide), if_pos rfl]
theorem bytes_two {big bom : Bool} {xs : List Int} (h : errE 2 big bom xs = 0) : bytesE 2 big bom xs = (if bom then markL big else []) ++ U.encL big xs := by unfold bytesE; rw [if_pos h, if_neg (by decide), if_neg (by decide)]

set_option maxRecDepth 100000 in
set_option maxHeartbeats 1000000 in
theorem closE_set (k : Int) (hk : k ≠ 2) (w : World) (big bom : Bool) (v p : Value) (xs : List Int) (hs : (big || bom) = true) :
    Calls Tryd.prog 41 #[.agg #[.int .u8 k, .bool big, .bool bom, v], p] w (EncD k big bom xs w) := by
  have he := err_set xs hk hs
  cases big with
  | true =>
    go_enter Tryd.func41, Tryd.ntmps41
    go_wp2
    go_ret2
    exact encD_err he (by decide) ((Below.refl _ _).alloc (Nat.le_refl _) _)
  | false =>
    have hb : bom = true := by simpa using hs
    subst hb
    go_enter Tryd.func41, Tryd.ntmps41
    go_wp2
    go_ret2
    exact encD_err he (by decide) ((Below.refl _ _).alloc (Nat.le_refl _) _)

set_option maxRecDepth 100000 in
set_option maxHeartbeats 1000000 in
theorem closE_one (w : World) (B : Nat) (A : Option Addr) (n c : Nat) (xs : List Int) (hx : RI .i32 w B A n xs) (hB : B ≤ w.heap.size) (hn : n ≤ 1073741824)
    (p : Nat) (hp : w.cell? ⟨p, 0, none⟩ = some (.func (.func 30) #[] #[])) :
    Calls Tryd.prog 41 #[.agg #[.int .u8 1, .bool false, .bool false, .slice A n c], .pointer (some ⟨p, 0, none⟩)] w (EncD 1 false false xs w) := by
  have np := World.new_ne w _ hp
  have lp := World.block_lt_of_cell? w _ hp
  obtain ⟨W, hW⟩ : ∃ W, W = w.alloc (.cells #[.int .u8 1, .bool false, .bool false, .slice A n c] 26) := ⟨_, rfl⟩
  have hbW : Below w.heap.size w W := by rw [hW]; exact (Below.refl _ w).alloc (Nat.le_refl _) _
  have hsW := hbW.size
  have HX := Lib.hid (hx.on hbW hB)
  clear hx
  cases ha : xs.all rightB with
  | true =>
    have HA := Lib.hid ha
    clear ha
    go_enter Tryd.func41, Tryd.ntmps41
    go_wp2_with fail
    rw [← hW]
    clear hW
    with_reducible refine (encode_yes W B A n c xs HX.out (by omega) hn HA.out).mono ?_
    rintro e w2 ⟨v2, rfl, hown2, hb2⟩
    have HO := Lib.hid hown2
    clear hown2
    go_wp2
    go_ret2
    have he := err_ok (k := 1) (big := false) (bom := false) (.inl rfl) (.inr rfl) HA.out
    exact encD_own he (bytes_one he) HO.out (hbW.trans (hb2.mono hsW))
  | false =>
    have HA := Lib.hid ha
    clear ha
    go_enter Tryd.func41, Tryd.ntmps41
    go_wp2_with fail
    rw [← hW]
    clear hW
    with_reducible refine (encode_no W B A n c xs HX.out (by omega) hn HA.out).mono ?_
    rintro e w2 ⟨rfl, hb2⟩
    go_wp2
    go_ret2
    exact encD_err (err_cell (.inl rfl) (.inr rfl) HA.out) (by decide) (hbW.trans (hb2.mono hsW))

set_option maxRecDepth 100000 in
set_option maxHeartbeats 1000000 in
theorem closE_three (w : World) (B : Nat) (A : Option Addr) (n c : Nat) (xs : List Int) (hx : RI .i32 w B A n xs) (hB : B ≤ w.heap.size) (hn : n ≤ 1073741824)
    (p : Nat) (hp : w.cell? ⟨p, 0, none⟩ = some (.func (.func 34) #[] #[])) :
    Calls Tryd.prog 41 #[.agg #[.int .u8 3, .bool false, .bool false, .slice A n c], .pointer (some ⟨p, 0, none⟩)] w (EncD 3 false false xs w) := by
  have np := World.new_ne w _ hp
  have lp := World.block_lt_of_cell? w _ hp
  obtain ⟨W, hW⟩ : ∃ W, W = w.alloc (.cells #[.int .u8 3, .bool false, .bool false, .slice A n c] 26) := ⟨_, rfl⟩
  have hbW : Below w.heap.size w W := by rw [hW]; exact (Below.refl _ w).alloc (Nat.le_refl _) _
  have hsW := hbW.size
  have HX := Lib.hid (hx.on hbW hB)
  clear hx
  go_enter Tryd.func41, Tryd.ntmps41
  go_wp2_with fail
  rw [← hW]
  clear hW
  with_reducible refine (encodeLatin1_told W B A n c xs HX.out (by omega) hn).mono ?_
  rintro e w2 ⟨hb2, ⟨ha, rfl⟩ | ⟨ha, hl, rfl⟩ | ⟨ha, hl, v2, rfl, hown2⟩⟩
  · have HA := Lib.hid ha
    clear ha
    go_wp2
    go_ret2
    exact encD_err (err_cell (.inr (.inr rfl)) (.inr rfl) HA.out) (by decide) (hbW.trans (hb2.mono hsW))
  · have HA := Lib.hid ha
    have HL := Lib.hid hl
    clear ha hl
    go_wp2
    go_ret2
    exact encD_err (err_high rfl HA.out HL.out) (by decide) (hbW.trans (hb2.mono hsW))
  · have HA := Lib.hid ha
    have HL := Lib.hid hl
    have HO := Lib.hid hown2
    clear ha hl hown2
    go_wp2
    go_ret2
    have he := err_low (big := false) (bom := false) rfl HA.out HL.out
    exact encD_own he (bytes_three he) HO.out (hbW.trans (hb2.mono hsW))

set_option maxRecDepth 100000 in
set_option maxHeartbeats 1000000 in
theorem encodeMarked_any (w : World) (B : Nat) (A : Option Addr) (n c : Nat) (xs : List Int) (big bom : Bool) (hx : RI .i32 w B A n xs) (hB : B ≤ w.heap.size) (hn : n ≤ 1073741824) :
    Calls Tryd.prog 32 #[.agg #[.int .u8 2, .bool big, .bool bom, .slice A n c]] w (EncD 2 big bom xs w) := by
  obtain ⟨i0, hi, hz0, hz1, hz2⟩ := info_parts info8
  obtain ⟨W, hW⟩ : ∃ W, W = w.alloc (.cells #[.int .u8 2, .bool big, .bool bom, .slice A n c] 26) := ⟨_, rfl⟩
  have hbW : Below w.heap.size w W := by rw [hW]; exact (Below.refl _ w).alloc (Nat.le_refl _) _
  have hsW : W.heap.size = w.heap.size + 1 := by rw [hW]; simp
  have hc1 : W.cell? ⟨w.heap.size, 1, none⟩ = some (.bool big) := by rw [hW, World.cell?_alloc_new]; rfl
  have hc2 : W.cell? ⟨w.heap.size, 2, none⟩ = some (.bool bom) := by rw [hW, World.cell?_alloc_new]; rfl
  have hlen := hx.len
  have HX := Lib.hid (hx.on hbW hB)
  clear hx
  cases ha : xs.all rightB with
  | false =>
    have HA := Lib.hid ha
    clear ha
    go_enter Tryd.func32, Tryd.ntmps32
    go_wp2_with fail
    rw [← hW]
    clear hW
    with_reducible refine (U.encode_no big W B A n c xs HX.out (by omega) hn HA.out).mono ?_
    rintro e w2 ⟨rfl, hb2⟩
    go_wp2
    go_ret2
    exact encD_err (err_cell (.inr (.inl rfl)) (.inl rfl) HA.out) (by decide) (hbW.trans (hb2.mono (by omega)))
  | true =>
    have HA := Lib.hid ha
    clear ha
    have he := err_ok (k := 2) (big := big) (bom := bom) (.inr rfl) (.inl rfl) HA.out
    have hbe := bytes_two he
    have HE := Lib.hid he
    have HBE := Lib.hid hbe
    clear he hbe
    have hle := (U.encL_len big xs).2
    go_enter Tryd.func32, Tryd.ntmps32
    go_wp2_with fail
    rw [← hW]
    clear hW
    with_reducible refine (U.encode_yes big W B A n c xs HX.out (by omega) hn HA.out).mono ?_
    rintro e w2 ⟨v2, rfl, hown2, hb2⟩
    have hs2 := hb2.size
    have hd1 := (hb2.cell (p := ⟨w.heap.size, 1, none⟩) (by show w.heap.size < _; omega)).trans hc1
    have hd2 := (hb2.cell (p := ⟨w.heap.size, 2, none⟩) (by show w.heap.size < _; omega)).trans hc2
    have hbA : Below w.heap.size w w2 := hbW.trans (hb2.mono (by omega))
    cases bom with
    | false =>
      have HO := Lib.hid hown2
      clear hown2
      go_wp2
      go_ret2
      exact encD_own HE.out (HBE.out.trans (by simp)) HO.out hbA
    | true =>
      obtain ⟨A2, c2, rfl, h2c, h2m, hr2⟩ := own_slice2 hown2
      have HR2 := Lib.hid hr2
      clear hown2 hr2
      generalize hln : (U.encL big xs).length = ln at *
      have HLN := Lib.hid hln
      clear hln
      go_wp2_with fail
      with_reducible refine (markOf_any big w2).mono ?_
      rintro e w3 ⟨rfl, hw3⟩
      have hb3 : Below w2.heap.size w2 w3 := by rw [hw3]; exact (Below.refl _ _).alloc (Nat.le_refl _) _
      have hs3 : w3.heap.size = w2.heap.size + 1 := by rw [hw3]; simp
      have hmk : RI .u8 w3 (w2.heap.size + 1) (some ⟨w2.heap.size, 0, none⟩) 2 (markL big) := by
        rw [hw3]
        have := RI.laid w2 .u8 (markL big) 5 (2, 3)
        rwa [mark_len] at this
      have HMK := Lib.hid hmk
      clear hw3 hmk
      go_wp2_with (at_builtin; (refine wpList_append_full _ rfl _ _ 22 rfl 5 i0 (.int .u8 0) Tryd.underlying22 hi hz0 hz1 hz2 rfl (w2.heap.size + 1) ⟨w2.heap.size, 0, none⟩ 2 (markL big) rfl HMK.out (by omega) (by omega) w2.heap.size A2 ln c2 (U.encL big xs) rfl (HR2.out.below hb3) (by omega) ?_); rintro v' w4 ⟨A4, c4, rfl, h4c, h4m, hr4, hb4⟩; have HR4 := Lib.hid hr4; clear hr4)
      go_ret2
      refine ⟨A4, _, c4, by rw [HE.out, List.length_append]; rfl, h4c, h4m, ?_, hbA.trans ((hb3.mono (by omega)).trans (hb4.mono (by omega)))⟩
      rw [HBE.out]
      exact HR4.out
end Go.Proofs.YtijlecfjgcohhaaDoor.C
