/-
  Contracts of the document's Encode of layer 4 and of the statements' encodes: what Encode answers is what the document's answers. No condition.
-/
import Derived.Test.YtijlecfjgcohhaaDoorCdcX
namespace Go.Proofs.YtijlecfjgcohhaaDoor.C
open Go.RowKit

/-- what the document's Encode answers -/
def REncD (k : Int) (big bom : Bool) (xs : List Int) (w : World) (e : Ending) (w' : World) : Prop :=
  ∃ A' m c', e = .returned (.tuple #[.slice A' m c', .int .i64 (errE k big bom xs)]) ∧ m ≤ c' ∧ c' ≤ maxLen ∧ RI .u8 w' w'.heap.size A' m (bytesE k big bom xs) ∧ Below w.heap.size w w'
theorem rencD_err {k : Int} {big bom : Bool} {xs : List Int} {w w' : World} {r : Int} (he : errE k big bom xs = r) (h0 : r ≠ 0) (hb : Below w.heap.size w w') :
    REncD k big bom xs w (.returned (.tuple #[.slice none 0 0, .int .i64 r])) w' := by
  subst he
  refine ⟨none, 0, 0, rfl, Nat.le_refl _, by unfold maxLen; omega, ?_, hb⟩
  unfold bytesE
  rw [if_neg h0]
  exact RI.none_
theorem rencD_own {k : Int} {big bom : Bool} {xs zs : List Int} {w w' : World} {base n : Nat} {e : TypeId} {v : Value} (he : errE k big bom xs = 0) (hz : bytesE k big bom xs = zs) (ho : w'.ownsRow base e 1 v n (zs.map (Value.int .u8))) (hb : Below w.heap.size w w') :
    REncD k big bom xs w (.returned (.tuple #[v, .int .i64 0])) w' := by
  obtain ⟨A', c', rfl, h1, h2, h3⟩ := own_slice2 ho
  exact ⟨A', n, c', by rw [he], h1, h2, by rw [hz]; exact h3, hb⟩

set_option maxRecDepth 100000 in
set_option maxHeartbeats 1000000 in
theorem renc_low (w : World) (k : Int) (h1 : k < 1) (big bom : Bool) (v : Value) (xs : List Int) :
    Calls Tryd.prog 26 #[.agg #[.int .u8 k, .bool big, .bool bom, v]] w (REncD k big bom xs w) := by
  go_enter Tryd.func26, Tryd.ntmps26
  go_wp2
  go_ret2
  exact rencD_err (err_none big bom xs (by omega) (by omega) (by omega)) (by decide) ((Below.refl _ w).alloc (Nat.le_refl _) _)

set_option maxRecDepth 100000 in
set_option maxHeartbeats 1000000 in
theorem renc_high (w : World) (k : Int) (h1 : 3 < k) (big bom : Bool) (v : Value) (xs : List Int) :
    Calls Tryd.prog 26 #[.agg #[.int .u8 k, .bool big, .bool bom, v]] w (REncD k big bom xs w) := by
  have h2 : ¬ k < 1 := by omega
  go_enter Tryd.func26, Tryd.ntmps26
  go_wp2
  go_ret2
  exact rencD_err (err_none big bom xs (by omega) (by omega) (by omega)) (by decide) ((Below.refl _ w).alloc (Nat.le_refl _) _)

set_option maxRecDepth 100000 in
set_option maxHeartbeats 1000000 in
theorem renc_set1 (w : World) (big bom : Bool) (v : Value) (xs : List Int) (hs : (big || bom) = true) :
    Calls Tryd.prog 26 #[.agg #[.int .u8 1, .bool big, .bool bom, v]] w (REncD 1 big bom xs w) := by
  have he := err_set (k := 1) xs (by decide) hs
  cases big with
  | true =>
    go_enter Tryd.func26, Tryd.ntmps26
    go_wp2
    go_ret2
    exact rencD_err he (by decide) ((Below.refl _ w).alloc (Nat.le_refl _) _)
  | false =>
    have hb : bom = true := by simpa using hs
    subst hb
    go_enter Tryd.func26, Tryd.ntmps26
    go_wp2
    go_ret2
    exact rencD_err he (by decide) ((Below.refl _ w).alloc (Nat.le_refl _) _)

set_option maxRecDepth 100000 in
set_option maxHeartbeats 1000000 in
theorem renc_set3 (w : World) (big bom : Bool) (v : Value) (xs : List Int) (hs : (big || bom) = true) :
    Calls Tryd.prog 26 #[.agg #[.int .u8 3, .bool big, .bool bom, v]] w (REncD 3 big bom xs w) := by
  have he := err_set (k := 3) xs (by decide) hs
  cases big with
  | true =>
    go_enter Tryd.func26, Tryd.ntmps26
    go_wp2
    go_ret2
    exact rencD_err he (by decide) ((Below.refl _ w).alloc (Nat.le_refl _) _)
  | false =>
    have hb : bom = true := by simpa using hs
    subst hb
    go_enter Tryd.func26, Tryd.ntmps26
    go_wp2
    go_ret2
    exact rencD_err he (by decide) ((Below.refl _ w).alloc (Nat.le_refl _) _)

set_option maxRecDepth 100000 in
set_option maxHeartbeats 4000000 in
theorem renc_k1 (w : World) (B : Nat) (A : Option Addr) (n c : Nat) (xs : List Int) (hx : RI .i32 w B A n xs) (hB : B ≤ w.heap.size) (hn : n ≤ 1073741824) :
    Calls Tryd.prog 26 #[.agg #[.int .u8 1, .bool false, .bool false, .slice A n c]] w (REncD 1 false false xs w) := by
  obtain ⟨W, hW⟩ : ∃ W, W = w.alloc (.cells #[.int .u8 1, .bool false, .bool false, .slice A n c] 26) := ⟨_, rfl⟩
  have hbW : Below w.heap.size w W := by rw [hW]; exact (Below.refl _ w).alloc (Nat.le_refl _) _
  have hsW : W.heap.size = w.heap.size + 1 := by rw [hW]; simp
  have hcV : ∀ j, W.cell? ⟨w.heap.size, j, none⟩ = (#[Value.int .u8 1, .bool false, .bool false, .slice A n c] : Array Value)[j]? := fun j => by rw [hW]; exact World.cell?_alloc_new _ _ _ _
  have e0 := hcV 0
  have e1 := hcV 1
  have e2 := hcV 2
  have e3 := hcV 3
  have HX := Lib.hid (hx.on hbW hB)
  have hlen := hx.len
  have HW := Lib.hid hW
  clear hx hcV hW
  go_enter Tryd.func26, Tryd.ntmps26
  go_wp2_with fail
  rw [← HW.out]
  clear HW
  go_loopw [4] (fun iv wr => ∃ q : Nat, q ≤ n ∧ iv = .int .i64 q ∧ Hid ((xs.take q).all rightB = true) ∧ W = wr) (fun iv _ => n - (intOf iv).toNat)
  case atStart => exact ⟨0, Nat.zero_le _, rfl, rfl, rfl⟩
  case round =>
    obtain ⟨q, hq, rfl, HA, rfl⟩ := hrel
    by_cases hlt : q < n
    · obtain ⟨ad, u, rfl, hbl, hu, hcell⟩ := HX.out.at_ hlt
      have k0 : (0 : Int) ≤ (q : Int) := by omega
      have k1 : (q : Int) < (n : Int) := by omega
      have HU := Lib.hid hu
      clear hu
      cases hru : rightB u with
      | true =>
        have HRU := Lib.hid hru
        clear hru
        go_wp2_with fail
        refine (refRight_is u W true HRU.out).mono ?_
        rintro e w' ⟨rfl, rfl⟩
        go_wp2
        go_roundw
        case rel => exact ⟨q + 1, by omega, by go_num, take_right HA.out HU.out HRU.out, trivial⟩
        case measure => simp [intOf]; omega
      | false =>
        have HRU := Lib.hid hru
        clear hru
        go_wp2_with fail
        refine (refRight_is u W false HRU.out).mono ?_
        rintro e w' ⟨rfl, rfl⟩
        go_wp2
        go_ret2
        exact rencD_err (err_cell (by omega) (.inr rfl) (not_right HU.out HRU.out)) (by decide) hbW
    · have hal : xs.all rightB = true := by
        have := HA.out
        rwa [List.take_of_length_le (by omega)] at this
      have HL := Lib.hid hal
      clear hal
      go_wp2_with fail
      with_reducible refine (refEncode_yes W B A n c xs HX.out (by omega) hn HL.out).mono ?_
      rintro e w2 ⟨v2, rfl, hown2, hb2⟩
      have HO := Lib.hid hown2
      clear hown2
      go_wp2
      go_ret2
      have he := err_ok (k := 1) (big := false) (bom := false) (.inl rfl) (.inr rfl) HL.out
      exact rencD_own he (bytes_one he) HO.out (hbW.trans (hb2.mono (by omega)))

set_option maxRecDepth 100000 in
set_option maxHeartbeats 4000000 in
theorem renc_k3 (w : World) (B : Nat) (A : Option Addr) (n c : Nat) (xs : List Int) (hx : RI .i32 w B A n xs) (hB : B ≤ w.heap.size) (hn : n ≤ 1073741824) :
    Calls Tryd.prog 26 #[.agg #[.int .u8 3, .bool false, .bool false, .slice A n c]] w (REncD 3 false false xs w) := by
  obtain ⟨W, hW⟩ : ∃ W, W = w.alloc (.cells #[.int .u8 3, .bool false, .bool false, .slice A n c] 26) := ⟨_, rfl⟩
  have hbW : Below w.heap.size w W := by rw [hW]; exact (Below.refl _ w).alloc (Nat.le_refl _) _
  have hsW : W.heap.size = w.heap.size + 1 := by rw [hW]; simp
  have hcV : ∀ j, W.cell? ⟨w.heap.size, j, none⟩ = (#[Value.int .u8 3, .bool false, .bool false, .slice A n c] : Array Value)[j]? := fun j => by rw [hW]; exact World.cell?_alloc_new _ _ _ _
  have e0 := hcV 0
  have e1 := hcV 1
  have e2 := hcV 2
  have e3 := hcV 3
  have HX := Lib.hid (hx.on hbW hB)
  have hlen := hx.len
  have HW := Lib.hid hW
  clear hx hcV hW
  go_enter Tryd.func26, Tryd.ntmps26
  go_wp2_with fail
  rw [← HW.out]
  clear HW
  go_loopw [4] (fun iv wr => ∃ q : Nat, q ≤ n ∧ iv = .int .i64 q ∧ Hid ((xs.take q).all rightB = true) ∧ W = wr) (fun iv _ => n - (intOf iv).toNat)
  case atStart => exact ⟨0, Nat.zero_le _, rfl, rfl, rfl⟩
  case round =>
    obtain ⟨q, hq, rfl, HA, rfl⟩ := hrel
    by_cases hlt : q < n
    · obtain ⟨ad, u, rfl, hbl, hu, hcell⟩ := HX.out.at_ hlt
      have k0 : (0 : Int) ≤ (q : Int) := by omega
      have k1 : (q : Int) < (n : Int) := by omega
      have HU := Lib.hid hu
      clear hu
      cases hru : rightB u with
      | true =>
        have HRU := Lib.hid hru
        clear hru
        go_wp2_with fail
        refine (refRight_is u W true HRU.out).mono ?_
        rintro e w' ⟨rfl, rfl⟩
        go_wp2
        go_roundw
        case rel => exact ⟨q + 1, by omega, by go_num, take_right HA.out HU.out HRU.out, trivial⟩
        case measure => simp [intOf]; omega
      | false =>
        have HRU := Lib.hid hru
        clear hru
        go_wp2_with fail
        refine (refRight_is u W false HRU.out).mono ?_
        rintro e w' ⟨rfl, rfl⟩
        go_wp2
        go_ret2
        exact rencD_err (err_cell (by omega) (.inr rfl) (not_right HU.out HRU.out)) (by decide) hbW
    · have hal : xs.all rightB = true := by
        have := HA.out
        rwa [List.take_of_length_le (by omega)] at this
      have HL := Lib.hid hal
      clear hal
      go_wp2_with fail
      with_reducible refine (rlatin_told W B A n c xs HX.out (by omega) hn HL.out).mono ?_
      rintro e w2 ⟨hb2, ⟨hlo, rfl⟩ | ⟨hlo, v2, rfl, hown2⟩⟩
      · have HLO := Lib.hid hlo
        clear hlo
        go_wp2
        go_ret2
        exact rencD_err (err_high rfl HL.out HLO.out) (by decide) (hbW.trans (hb2.mono (by omega)))
      · have HLO := Lib.hid hlo
        have HO := Lib.hid hown2
        clear hlo hown2
        go_wp2
        go_ret2
        have he := err_low (big := false) (bom := false) rfl HL.out HLO.out
        exact rencD_own he (bytes_three he) HO.out (hbW.trans (hb2.mono (by omega)))

set_option maxRecDepth 100000 in
set_option maxHeartbeats 8000000 in
theorem renc_k2 (w : World) (B : Nat) (A : Option Addr) (n c : Nat) (xs : List Int) (big bom : Bool) (hx : RI .i32 w B A n xs) (hB : B ≤ w.heap.size) (hn : n ≤ 1073741824) :
    Calls Tryd.prog 26 #[.agg #[.int .u8 2, .bool big, .bool bom, .slice A n c]] w (REncD 2 big bom xs w) := by
  obtain ⟨i0, hi, hz0, hz1, hz2⟩ := info_parts info8
  obtain ⟨W, hW⟩ : ∃ W, W = w.alloc (.cells #[.int .u8 2, .bool big, .bool bom, .slice A n c] 26) := ⟨_, rfl⟩
  have hbW : Below w.heap.size w W := by rw [hW]; exact (Below.refl _ w).alloc (Nat.le_refl _) _
  have hsW : W.heap.size = w.heap.size + 1 := by rw [hW]; simp
  have hcV : ∀ j, W.cell? ⟨w.heap.size, j, none⟩ = (#[Value.int .u8 2, .bool big, .bool bom, .slice A n c] : Array Value)[j]? := fun j => by rw [hW]; exact World.cell?_alloc_new _ _ _ _
  have e0 := hcV 0
  have e1 := hcV 1
  have e2 := hcV 2
  have e3 := hcV 3
  have HX := Lib.hid (hx.on hbW hB)
  have hlen := hx.len
  have HW := Lib.hid hW
  clear hx hcV hW
  go_enter Tryd.func26, Tryd.ntmps26
  go_wp2_with fail
  rw [← HW.out]
  clear HW
  go_loopw [4] (fun iv wr => ∃ q : Nat, q ≤ n ∧ iv = .int .i64 q ∧ Hid ((xs.take q).all rightB = true) ∧ W = wr) (fun iv _ => n - (intOf iv).toNat)
  case atStart => exact ⟨0, Nat.zero_le _, rfl, rfl, rfl⟩
  case round =>
    obtain ⟨q, hq, rfl, HA, rfl⟩ := hrel
    by_cases hlt : q < n
    · obtain ⟨ad, u, rfl, hbl, hu, hcell⟩ := HX.out.at_ hlt
      have k0 : (0 : Int) ≤ (q : Int) := by omega
      have k1 : (q : Int) < (n : Int) := by omega
      have HU := Lib.hid hu
      clear hu
      cases hru : rightB u with
      | true =>
        have HRU := Lib.hid hru
        clear hru
        go_wp2_with fail
        refine (refRight_is u W true HRU.out).mono ?_
        rintro e w' ⟨rfl, rfl⟩
        go_wp2
        go_roundw
        case rel => exact ⟨q + 1, by omega, by go_num, take_right HA.out HU.out HRU.out, trivial⟩
        case measure => simp [intOf]; omega
      | false =>
        have HRU := Lib.hid hru
        clear hru
        go_wp2_with fail
        refine (refRight_is u W false HRU.out).mono ?_
        rintro e w' ⟨rfl, rfl⟩
        go_wp2
        go_ret2
        exact rencD_err (err_cell (by omega) (.inl rfl) (not_right HU.out HRU.out)) (by decide) hbW
    · have hal : xs.all rightB = true := by
        have := HA.out
        rwa [List.take_of_length_le (by omega)] at this
      have HL := Lib.hid hal
      clear hal
      cases bom with
      | true =>
       cases big with
       | true =>
        have he := err_ok (k := 2) (big := true) (bom := true) (.inr rfl) (.inl rfl) HL.out
        have hbe := bytes_two he
        have HE := Lib.hid he
        have HBE := Lib.hid hbe
        clear he hbe
        have hle := (U.encL_len true xs).2
        obtain ⟨V, hV⟩ : ∃ V, V = W.alloc (.cells #[.int .u8 254, .int .u8 255] 5) := ⟨_, rfl⟩
        have hbV : Below W.heap.size W V := by rw [hV]; exact (Below.refl _ W).alloc (Nat.le_refl _) _
        have hsV : V.heap.size = W.heap.size + 1 := by rw [hV]; simp
        have hmk : RI .u8 V (W.heap.size + 1) (some ⟨W.heap.size, 0, none⟩) 2 (markL true) := by rw [hV]; exact RI.new W .u8 (markL true) 5
        rw [hsW] at hmk
        have HM := Lib.hid hmk
        have HXV := Lib.hid (HX.out.on hbV (by omega))
        have hlw : w.heap.size < W.heap.size := by omega
        clear hmk
        go_wp2_with fail
        rw [← hV]
        clear hV
        with_reducible refine (U.refEncode_yes true V B A n c xs HXV.out (by omega) hn HL.out).mono ?_
        rintro e w2 ⟨v2, rfl, hown2, hb2⟩
        obtain ⟨A2, c2, rfl, h2c, h2m, hr2⟩ := own_slice2 hown2
        have hs2 := hb2.size
        have HR2 := Lib.hid hr2
        clear hown2 hr2
        generalize hln : (U.encL true xs).length = ln at *
        have HLN := Lib.hid hln
        clear hln
        go_wp2_with (at_builtin; (refine wpList_append_full _ rfl _ _ 22 rfl 5 i0 (.int .u8 0) Tryd.underlying22 hi hz0 hz1 hz2 rfl (w.heap.size + 1 + 1) ⟨w.heap.size + 1, 0, none⟩ 2 (markL true) rfl (HM.out.on hb2 (by omega)) (by omega) (by omega) w2.heap.size A2 ln c2 (U.encL true xs) rfl HR2.out (by omega) ?_); rintro v' w4 ⟨A4, c4, rfl, h4c, h4m, hr4, hb4⟩; have HR4 := Lib.hid hr4; clear hr4)
        go_ret2
        refine ⟨A4, _, c4, by rw [HE.out, List.length_append]; rfl, h4c, h4m, ?_, hbW.trans ((hbV.mono (by omega)).trans ((hb2.mono (by omega)).trans (hb4.mono (by omega))))⟩
        rw [HBE.out]
        exact HR4.out
       | false =>
        have he := err_ok (k := 2) (big := false) (bom := true) (.inr rfl) (.inl rfl) HL.out
        have hbe := bytes_two he
        have HE := Lib.hid he
        have HBE := Lib.hid hbe
        clear he hbe
        have hle := (U.encL_len false xs).2
        obtain ⟨V, hV⟩ : ∃ V, V = W.alloc (.cells #[.int .u8 255, .int .u8 254] 5) := ⟨_, rfl⟩
        have hbV : Below W.heap.size W V := by rw [hV]; exact (Below.refl _ W).alloc (Nat.le_refl _) _
        have hsV : V.heap.size = W.heap.size + 1 := by rw [hV]; simp
        have hmk : RI .u8 V (W.heap.size + 1) (some ⟨W.heap.size, 0, none⟩) 2 (markL false) := by rw [hV]; exact RI.new W .u8 (markL false) 5
        rw [hsW] at hmk
        have HM := Lib.hid hmk
        have HXV := Lib.hid (HX.out.on hbV (by omega))
        have hlw : w.heap.size < W.heap.size := by omega
        clear hmk
        go_wp2_with fail
        rw [← hV]
        clear hV
        with_reducible refine (U.refEncode_yes false V B A n c xs HXV.out (by omega) hn HL.out).mono ?_
        rintro e w2 ⟨v2, rfl, hown2, hb2⟩
        obtain ⟨A2, c2, rfl, h2c, h2m, hr2⟩ := own_slice2 hown2
        have hs2 := hb2.size
        have HR2 := Lib.hid hr2
        clear hown2 hr2
        generalize hln : (U.encL false xs).length = ln at *
        have HLN := Lib.hid hln
        clear hln
        go_wp2_with (at_builtin; (refine wpList_append_full _ rfl _ _ 22 rfl 5 i0 (.int .u8 0) Tryd.underlying22 hi hz0 hz1 hz2 rfl (w.heap.size + 1 + 1) ⟨w.heap.size + 1, 0, none⟩ 2 (markL false) rfl (HM.out.on hb2 (by omega)) (by omega) (by omega) w2.heap.size A2 ln c2 (U.encL false xs) rfl HR2.out (by omega) ?_); rintro v' w4 ⟨A4, c4, rfl, h4c, h4m, hr4, hb4⟩; have HR4 := Lib.hid hr4; clear hr4)
        go_ret2
        refine ⟨A4, _, c4, by rw [HE.out, List.length_append]; rfl, h4c, h4m, ?_, hbW.trans ((hbV.mono (by omega)).trans ((hb2.mono (by omega)).trans (hb4.mono (by omega))))⟩
        rw [HBE.out]
        exact HR4.out
      | false =>
       cases big with
       | true =>
        have he := err_ok (k := 2) (big := true) (bom := false) (.inr rfl) (.inl rfl) HL.out
        have hbe := bytes_two he
        have HE := Lib.hid he
        have HBE := Lib.hid hbe
        clear he hbe
        have hle := (U.encL_len true xs).2
        go_wp2_with fail
        with_reducible refine (U.refEncode_yes true W B A n c xs HX.out (by omega) hn HL.out).mono ?_
        rintro e w2 ⟨v2, rfl, hown2, hb2⟩
        obtain ⟨A2, c2, rfl, h2c, h2m, hr2⟩ := own_slice2 hown2
        have hs2 := hb2.size
        have HR2 := Lib.hid hr2
        clear hown2 hr2
        generalize hln : (U.encL true xs).length = ln at *
        have HLN := Lib.hid hln
        clear hln
        go_wp2_with (at_builtin; (refine wpList_append_ri _ rfl _ _ 22 rfl w2.heap.size 5 i0 (.int .u8 0) 1 Tryd.underlying22 hi hz0 hz1 hz2 rfl (.slice none 0 0) 0 [] rfl (World.ownsRow_nil _ _ _ _) .u8 w2.heap.size A2 ln c2 (U.encL true xs) rfl HR2.out (by unfold maxLen; omega) (by omega) (Nat.le_refl _) ?_); intro v' w4 hown4 hgrow; have hb4 : Below w2.heap.size w2 w4 := (Below.refl _ _).grown hgrow (Nat.le_refl _) (fun _ h => by cases h); have HO4 := Lib.hid hown4; clear hown4 hgrow)
        go_ret2
        exact rencD_own (zs := U.encL true xs) HE.out (HBE.out.trans (by simp)) (by simpa using HO4.out) (hbW.trans ((hb2.mono (by omega)).trans (hb4.mono (by omega))))
       | false =>
        have he := err_ok (k := 2) (big := false) (bom := false) (.inr rfl) (.inl rfl) HL.out
        have hbe := bytes_two he
        have HE := Lib.hid he
        have HBE := Lib.hid hbe
        clear he hbe
        have hle := (U.encL_len false xs).2
        go_wp2_with fail
        with_reducible refine (U.refEncode_yes false W B A n c xs HX.out (by omega) hn HL.out).mono ?_
        rintro e w2 ⟨v2, rfl, hown2, hb2⟩
        obtain ⟨A2, c2, rfl, h2c, h2m, hr2⟩ := own_slice2 hown2
        have hs2 := hb2.size
        have HR2 := Lib.hid hr2
        clear hown2 hr2
        generalize hln : (U.encL false xs).length = ln at *
        have HLN := Lib.hid hln
        clear hln
        go_wp2_with (at_builtin; (refine wpList_append_ri _ rfl _ _ 22 rfl w2.heap.size 5 i0 (.int .u8 0) 1 Tryd.underlying22 hi hz0 hz1 hz2 rfl (.slice none 0 0) 0 [] rfl (World.ownsRow_nil _ _ _ _) .u8 w2.heap.size A2 ln c2 (U.encL false xs) rfl HR2.out (by unfold maxLen; omega) (by omega) (Nat.le_refl _) ?_); intro v' w4 hown4 hgrow; have hb4 : Below w2.heap.size w2 w4 := (Below.refl _ _).grown hgrow (Nat.le_refl _) (fun _ h => by cases h); have HO4 := Lib.hid hown4; clear hown4 hgrow)
        go_ret2
        exact rencD_own (zs := U.encL false xs) HE.out (HBE.out.trans (by simp)) (by simpa using HO4.out) (hbW.trans ((hb2.mono (by omega)).trans (hb4.mono (by omega))))

theorem renc_any (w : World) (k : Int) (B : Nat) (A : Option Addr) (n c : Nat) (xs : List Int) (big bom : Bool) (hx : RI .i32 w B A n xs) (hB : B ≤ w.heap.size) (hn : n ≤ 1073741824) :
    Calls Tryd.prog 26 #[.agg #[.int .u8 k, .bool big, .bool bom, .slice A n c]] w (REncD k big bom xs w) := by
  by_cases h1 : k = 1
  · subst h1
    cases hs : (big || bom) with
    | true => exact renc_set1 w big bom _ xs hs
    | false =>
      obtain ⟨rfl, rfl⟩ : big = false ∧ bom = false := by simpa using hs
      exact renc_k1 w B A n c xs hx hB hn
  by_cases h2 : k = 2
  · subst h2
    exact renc_k2 w B A n c xs big bom hx hB hn
  by_cases h3 : k = 3
  · subst h3
    cases hs : (big || bom) with
    | true => exact renc_set3 w big bom _ xs hs
    | false =>
      obtain ⟨rfl, rfl⟩ : big = false ∧ bom = false := by simpa using hs
      exact renc_k3 w B A n c xs hx hB hn
  by_cases h4 : k < 1
  · exact renc_low w k h4 big bom _ xs
  · exact renc_high w k (by omega) big bom _ xs
end Go.Proofs.YtijlecfjgcohhaaDoor.C
