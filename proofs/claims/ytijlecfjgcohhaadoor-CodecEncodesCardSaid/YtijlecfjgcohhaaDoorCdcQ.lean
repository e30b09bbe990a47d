/-
  Contract of the document's Decode of layer 4, UTF-16 and Latin-1: a document of bytes is what the plain function says, in new memory; nothing that was there changes. No condition.
-/
import Derived.Test.YtijlecfjgcohhaaDoorCdcR
import Derived.Deep.AppendLies
import Derived.Deep.RegionLaw
namespace Go.Proofs.YtijlecfjgcohhaaDoor.C
open Go.RowKit

theorem two_of {zs : List Int} {p0 p1 : Int} (h0 : zs[0]? = some p0) (h1 : zs[1]? = some p1) : zs.take 2 = [p0, p1] := by
  match zs, h0, h1 with
  | a :: b :: t, h0, h1 => simp at h0 h1; simp [h0, h1]
theorem pre_at {zs : List Int} {p0 p1 q0 q1 : Int} (h0 : zs[0]? = some p0) (h1 : zs[1]? = some p1) : preB q0 q1 zs = decide (p0 = q0 ∧ p1 = q1) := by
  unfold preB
  rw [two_of h0 h1]
  simp
theorem pre_short {zs : List Int} {q0 q1 : Int} (h : zs.length < 2) : preB q0 q1 zs = false := by
  cases hp : preB q0 q1 zs with
  | false => rfl
  | true => have := pre_len hp; omega

set_option maxRecDepth 100000 in
set_option maxHeartbeats 2000000 in
theorem rdec_le (w : World) (B : Nat) (A : Option Addr) (n c : Nat) (zs : List Int) (hx : RI .u8 w B A n zs) (hB : B ≤ w.heap.size) (hz : Bd zs) (hnc : n ≤ c) (hn : n ≤ 1073741824) (hc : c ≤ maxLen) (h0 : zs[0]? = some 255) (h1 : zs[1]? = some 254) :
    Calls Tryd.prog 23 #[.int .u8 2, .slice A n c] w (RDecTold 2 zs w) := by
  have hlen := hx.len
  have h2n : 2 ≤ n := by have := (List.getElem?_eq_some_iff.1 h1).1; omega
  obtain ⟨b, off, rfl, hbl, hcs⟩ := hx.flat (by omega)
  have hbw : b < w.heap.size := by omega
  have g0 := hcs 0 _ h0
  rw [Nat.add_zero] at g0
  have g1 := hcs 1 _ h1
  have t1 : (2 : Int) ≤ (n : Int) := by omega
  have HP : Hid (preB 255 254 zs = true) := by show _ = _; rw [pre_at h0 h1]; decide
  clear hcs h0 h1
  obtain ⟨W, hW⟩ : ∃ W, W = (w.alloc (.cells #[.int .u8 0, .bool false, .bool false, .slice none 0 0] 26)).alloc (.cells #[.int .u8 2, .bool false, .bool true, .slice none 0 0] 26) := ⟨_, rfl⟩
  have h2 := Two.new w 2 false true 26
  rw [← hW] at h2
  obtain ⟨hbW, hsW, hdW, k0, k1, k2, k3, kf⟩ := h2
  have HX := Lib.hid (hx.on hbW hB)
  have HZ := Lib.hid hz
  have HC := Lib.hid hc
  unfold maxLen at hc
  clear hx hz
  have HCUT := Lib.hid (HX.out.behind (k := 2) (cap := c) h2n hnc)
  have t2 : (2 : Int) ≤ (c : Int) := by omega
  by_cases hc2 : c = 2
  · subst hc2
    obtain rfl : n = 2 := by omega
    have HCUT' := HCUT.out
    rw [if_pos rfl] at HCUT'
    have HQ := Lib.hid HCUT'
    clear HCUT HCUT'
    go_enter Tryd.func23, Tryd.ntmps23
    go_wp2_with fail
    rw [← hW]
    clear hW
    with_reducible refine (U.refDecode_any false W B (some ⟨b, off, none⟩) 0 0 (zs.drop 2) HQ.out (by omega) (bd_drop HZ.out 2) (by omega)).mono ?_
    rintro e w2 ⟨v2, rfl, hown2, hb2⟩
    obtain ⟨A2, c2, rfl, h2c, h2m, _⟩ := own_slice2 hown2
    obtain ⟨d0, d1, d2, d3, df⟩ := hdW.keep (w' := w2) (hb2.block _ (by omega))
    have e0 := (hb2.cell (p := ⟨w.heap.size + 1, 0, none⟩) (by show w.heap.size + 1 < _; omega)).trans k0
    have e1 := (hb2.cell (p := ⟨w.heap.size + 1, 1, none⟩) (by show w.heap.size + 1 < _; omega)).trans k1
    have e2 := (hb2.cell (p := ⟨w.heap.size + 1, 2, none⟩) (by show w.heap.size + 1 < _; omega)).trans k2
    have e3 := (hb2.cell (p := ⟨w.heap.size + 1, 3, none⟩) (by show w.heap.size + 1 < _; omega)).trans k3
    have ef := (hb2.frozen (p := ⟨w.heap.size + 1, 3, none⟩) (by show w.heap.size + 1 < _; omega)).trans (kf 3)
    have hle := U.dec_len false (zs.drop 2)
    have HO2 := Lib.hid hown2
    have f0 := df 0
    have f1 := df 1
    have f2 := df 2
    have f3 := df 3
    clear hown2 hdW df kf
    go_wp2
    refine bodyPost_ret (v := .tuple #[.agg #[.int .u8 2, .bool false, .bool true, .slice A2 (U.dec false (zs.drop 2)).length c2], .int .i64 0]) ?_ rfl ?_
    · simp [results, Tryd.results23, go_sem, *]
    · exact putDoc_rdec (base := W.heap.size) (by simp at hle; omega) (ownsRow_setCell_below (by rw [cellsD_le HP.out]; exact HO2.out) (a := ⟨w.heap.size + 1, 3, none⟩) (by show w.heap.size + 1 < _; omega) _) (by omega) (Nat.le_refl _) ((hbW.trans (hb2.mono (by omega))).setCell (p := ⟨w.heap.size + 1, 3, none⟩) (by show w.heap.size ≤ w.heap.size + 1; omega) _) false true (bigB_le HP.out) (bomB_le HP.out) _ _ _ _
  · have HCUT' := HCUT.out
    rw [if_neg hc2, Option.map_some, add_plain] at HCUT'
    have HQ := Lib.hid HCUT'
    clear HCUT HCUT'
    go_enter Tryd.func23, Tryd.ntmps23
    go_wp2_with fail
    rw [← hW]
    clear hW
    with_reducible refine (U.refDecode_any false W B (some ⟨b, off + 2, none⟩) (n - 2) (c - 2) (zs.drop 2) HQ.out (by omega) (bd_drop HZ.out 2) (by omega)).mono ?_
    rintro e w2 ⟨v2, rfl, hown2, hb2⟩
    obtain ⟨A2, c2, rfl, h2c, h2m, _⟩ := own_slice2 hown2
    obtain ⟨d0, d1, d2, d3, df⟩ := hdW.keep (w' := w2) (hb2.block _ (by omega))
    have e0 := (hb2.cell (p := ⟨w.heap.size + 1, 0, none⟩) (by show w.heap.size + 1 < _; omega)).trans k0
    have e1 := (hb2.cell (p := ⟨w.heap.size + 1, 1, none⟩) (by show w.heap.size + 1 < _; omega)).trans k1
    have e2 := (hb2.cell (p := ⟨w.heap.size + 1, 2, none⟩) (by show w.heap.size + 1 < _; omega)).trans k2
    have e3 := (hb2.cell (p := ⟨w.heap.size + 1, 3, none⟩) (by show w.heap.size + 1 < _; omega)).trans k3
    have ef := (hb2.frozen (p := ⟨w.heap.size + 1, 3, none⟩) (by show w.heap.size + 1 < _; omega)).trans (kf 3)
    have hle := U.dec_len false (zs.drop 2)
    have HO2 := Lib.hid hown2
    have f0 := df 0
    have f1 := df 1
    have f2 := df 2
    have f3 := df 3
    clear hown2 hdW df kf
    go_wp2
    refine bodyPost_ret (v := .tuple #[.agg #[.int .u8 2, .bool false, .bool true, .slice A2 (U.dec false (zs.drop 2)).length c2], .int .i64 0]) ?_ rfl ?_
    · simp [results, Tryd.results23, go_sem, *]
    · exact putDoc_rdec (base := W.heap.size) (by simp at hle; omega) (ownsRow_setCell_below (by rw [cellsD_le HP.out]; exact HO2.out) (a := ⟨w.heap.size + 1, 3, none⟩) (by show w.heap.size + 1 < _; omega) _) (by omega) (Nat.le_refl _) ((hbW.trans (hb2.mono (by omega))).setCell (p := ⟨w.heap.size + 1, 3, none⟩) (by show w.heap.size ≤ w.heap.size + 1; omega) _) false true (bigB_le HP.out) (bomB_le HP.out) _ _ _ _

set_option maxRecDepth 100000 in
set_option maxHeartbeats 2000000 in
theorem rdec_be (w : World) (B : Nat) (A : Option Addr) (n c : Nat) (zs : List Int) (hx : RI .u8 w B A n zs) (hB : B ≤ w.heap.size) (hz : Bd zs) (hnc : n ≤ c) (hn : n ≤ 1073741824) (hc : c ≤ maxLen) (h0 : zs[0]? = some 254) (h1 : zs[1]? = some 255) :
    Calls Tryd.prog 23 #[.int .u8 2, .slice A n c] w (RDecTold 2 zs w) := by
  have hlen := hx.len
  have h2n : 2 ≤ n := by have := (List.getElem?_eq_some_iff.1 h1).1; omega
  obtain ⟨b, off, rfl, hbl, hcs⟩ := hx.flat (by omega)
  have hbw : b < w.heap.size := by omega
  have g0 := hcs 0 _ h0
  rw [Nat.add_zero] at g0
  have g1 := hcs 1 _ h1
  have t1 : (2 : Int) ≤ (n : Int) := by omega
  have HP : Hid (preB 255 254 zs = false) := by show _ = _; rw [pre_at h0 h1]; decide
  have HP2 : Hid (preB 254 255 zs = true) := by show _ = _; rw [pre_at h0 h1]; decide
  clear hcs h0 h1
  obtain ⟨W, hW⟩ : ∃ W, W = (w.alloc (.cells #[.int .u8 0, .bool false, .bool false, .slice none 0 0] 26)).alloc (.cells #[.int .u8 2, .bool true, .bool true, .slice none 0 0] 26) := ⟨_, rfl⟩
  have h2 := Two.new w 2 true true 26
  rw [← hW] at h2
  obtain ⟨hbW, hsW, hdW, k0, k1, k2, k3, kf⟩ := h2
  have HX := Lib.hid (hx.on hbW hB)
  have HZ := Lib.hid hz
  have HC := Lib.hid hc
  unfold maxLen at hc
  clear hx hz
  have HCUT := Lib.hid (HX.out.behind (k := 2) (cap := c) h2n hnc)
  have t2 : (2 : Int) ≤ (c : Int) := by omega
  by_cases hc2 : c = 2
  · subst hc2
    obtain rfl : n = 2 := by omega
    have HCUT' := HCUT.out
    rw [if_pos rfl] at HCUT'
    have HQ := Lib.hid HCUT'
    clear HCUT HCUT'
    go_enter Tryd.func23, Tryd.ntmps23
    go_wp2_with fail
    rw [← hW]
    clear hW
    with_reducible refine (U.refDecode_any true W B (some ⟨b, off, none⟩) 0 0 (zs.drop 2) HQ.out (by omega) (bd_drop HZ.out 2) (by omega)).mono ?_
    rintro e w2 ⟨v2, rfl, hown2, hb2⟩
    obtain ⟨A2, c2, rfl, h2c, h2m, _⟩ := own_slice2 hown2
    obtain ⟨d0, d1, d2, d3, df⟩ := hdW.keep (w' := w2) (hb2.block _ (by omega))
    have e0 := (hb2.cell (p := ⟨w.heap.size + 1, 0, none⟩) (by show w.heap.size + 1 < _; omega)).trans k0
    have e1 := (hb2.cell (p := ⟨w.heap.size + 1, 1, none⟩) (by show w.heap.size + 1 < _; omega)).trans k1
    have e2 := (hb2.cell (p := ⟨w.heap.size + 1, 2, none⟩) (by show w.heap.size + 1 < _; omega)).trans k2
    have e3 := (hb2.cell (p := ⟨w.heap.size + 1, 3, none⟩) (by show w.heap.size + 1 < _; omega)).trans k3
    have ef := (hb2.frozen (p := ⟨w.heap.size + 1, 3, none⟩) (by show w.heap.size + 1 < _; omega)).trans (kf 3)
    have hle := U.dec_len true (zs.drop 2)
    have HO2 := Lib.hid hown2
    have f0 := df 0
    have f1 := df 1
    have f2 := df 2
    have f3 := df 3
    clear hown2 hdW df kf
    go_wp2
    refine bodyPost_ret (v := .tuple #[.agg #[.int .u8 2, .bool true, .bool true, .slice A2 (U.dec true (zs.drop 2)).length c2], .int .i64 0]) ?_ rfl ?_
    · simp [results, Tryd.results23, go_sem, *]
    · exact putDoc_rdec (base := W.heap.size) (by simp at hle; omega) (ownsRow_setCell_below (by rw [cellsD_be HP.out HP2.out]; exact HO2.out) (a := ⟨w.heap.size + 1, 3, none⟩) (by show w.heap.size + 1 < _; omega) _) (by omega) (Nat.le_refl _) ((hbW.trans (hb2.mono (by omega))).setCell (p := ⟨w.heap.size + 1, 3, none⟩) (by show w.heap.size ≤ w.heap.size + 1; omega) _) true true (bigB_be HP.out) ((bomB_be HP.out).trans HP2.out) _ _ _ _
  · have HCUT' := HCUT.out
    rw [if_neg hc2, Option.map_some, add_plain] at HCUT'
    have HQ := Lib.hid HCUT'
    clear HCUT HCUT'
    go_enter Tryd.func23, Tryd.ntmps23
    go_wp2_with fail
    rw [← hW]
    clear hW
    with_reducible refine (U.refDecode_any true W B (some ⟨b, off + 2, none⟩) (n - 2) (c - 2) (zs.drop 2) HQ.out (by omega) (bd_drop HZ.out 2) (by omega)).mono ?_
    rintro e w2 ⟨v2, rfl, hown2, hb2⟩
    obtain ⟨A2, c2, rfl, h2c, h2m, _⟩ := own_slice2 hown2
    obtain ⟨d0, d1, d2, d3, df⟩ := hdW.keep (w' := w2) (hb2.block _ (by omega))
    have e0 := (hb2.cell (p := ⟨w.heap.size + 1, 0, none⟩) (by show w.heap.size + 1 < _; omega)).trans k0
    have e1 := (hb2.cell (p := ⟨w.heap.size + 1, 1, none⟩) (by show w.heap.size + 1 < _; omega)).trans k1
    have e2 := (hb2.cell (p := ⟨w.heap.size + 1, 2, none⟩) (by show w.heap.size + 1 < _; omega)).trans k2
    have e3 := (hb2.cell (p := ⟨w.heap.size + 1, 3, none⟩) (by show w.heap.size + 1 < _; omega)).trans k3
    have ef := (hb2.frozen (p := ⟨w.heap.size + 1, 3, none⟩) (by show w.heap.size + 1 < _; omega)).trans (kf 3)
    have hle := U.dec_len true (zs.drop 2)
    have HO2 := Lib.hid hown2
    have f0 := df 0
    have f1 := df 1
    have f2 := df 2
    have f3 := df 3
    clear hown2 hdW df kf
    go_wp2
    refine bodyPost_ret (v := .tuple #[.agg #[.int .u8 2, .bool true, .bool true, .slice A2 (U.dec true (zs.drop 2)).length c2], .int .i64 0]) ?_ rfl ?_
    · simp [results, Tryd.results23, go_sem, *]
    · exact putDoc_rdec (base := W.heap.size) (by simp at hle; omega) (ownsRow_setCell_below (by rw [cellsD_be HP.out HP2.out]; exact HO2.out) (a := ⟨w.heap.size + 1, 3, none⟩) (by show w.heap.size + 1 < _; omega) _) (by omega) (Nat.le_refl _) ((hbW.trans (hb2.mono (by omega))).setCell (p := ⟨w.heap.size + 1, 3, none⟩) (by show w.heap.size ≤ w.heap.size + 1; omega) _) true true (bigB_be HP.out) ((bomB_be HP.out).trans HP2.out) _ _ _ _

set_option maxRecDepth 100000 in
set_option maxHeartbeats 2000000 in
theorem rdec_short (w : World) (B : Nat) (A : Option Addr) (n c : Nat) (zs : List Int) (hx : RI .u8 w B A n zs) (hB : B ≤ w.heap.size) (hz : Bd zs) (_hnc : n ≤ c) (hn : n ≤ 1073741824) (hc : c ≤ maxLen) (h2n : n < 2) :
    Calls Tryd.prog 23 #[.int .u8 2, .slice A n c] w (RDecTold 2 zs w) := by
  have hlen := hx.len
  have t1 : ¬ (2 : Int) ≤ (n : Int) := by omega
  have HP : Hid (preB 255 254 zs = false) := pre_short (by omega)
  have HP2 : Hid (preB 254 255 zs = false) := pre_short (by omega)
  obtain ⟨W, hW⟩ : ∃ W, W = (w.alloc (.cells #[.int .u8 0, .bool false, .bool false, .slice none 0 0] 26)).alloc (.cells #[.int .u8 2, .bool true, .bool false, .slice none 0 0] 26) := ⟨_, rfl⟩
  have h2 := Two.new w 2 true false 26
  rw [← hW] at h2
  obtain ⟨hbW, hsW, hdW, k0, k1, k2, k3, kf⟩ := h2
  have HX := Lib.hid (hx.on hbW hB)
  have HZ := Lib.hid hz
  have HC := Lib.hid hc
  unfold maxLen at hc
  clear hx hz
  go_enter Tryd.func23, Tryd.ntmps23
  go_wp2_with fail
  rw [← hW]
  clear hW
  with_reducible refine (U.refDecode_any true W B A n c zs HX.out (by omega) HZ.out (by omega)).mono ?_
  rintro e w2 ⟨v2, rfl, hown2, hb2⟩
  obtain ⟨A2, c2, rfl, h2c, h2m, _⟩ := own_slice2 hown2
  obtain ⟨d0, d1, d2, d3, df⟩ := hdW.keep (w' := w2) (hb2.block _ (by omega))
  have e0 := (hb2.cell (p := ⟨w.heap.size + 1, 0, none⟩) (by show w.heap.size + 1 < _; omega)).trans k0
  have e1 := (hb2.cell (p := ⟨w.heap.size + 1, 1, none⟩) (by show w.heap.size + 1 < _; omega)).trans k1
  have e2 := (hb2.cell (p := ⟨w.heap.size + 1, 2, none⟩) (by show w.heap.size + 1 < _; omega)).trans k2
  have e3 := (hb2.cell (p := ⟨w.heap.size + 1, 3, none⟩) (by show w.heap.size + 1 < _; omega)).trans k3
  have ef := (hb2.frozen (p := ⟨w.heap.size + 1, 3, none⟩) (by show w.heap.size + 1 < _; omega)).trans (kf 3)
  have hle := U.dec_len true zs
  have HO2 := Lib.hid hown2
  have f0 := df 0
  have f1 := df 1
  have f2 := df 2
  have f3 := df 3
  clear hown2 hdW df kf
  go_wp2
  refine bodyPost_ret (v := .tuple #[.agg #[.int .u8 2, .bool true, .bool false, .slice A2 (U.dec true zs).length c2], .int .i64 0]) ?_ rfl ?_
  · simp [results, Tryd.results23, go_sem, *]
  · exact putDoc_rdec (base := W.heap.size) (hle) (ownsRow_setCell_below (by rw [cellsD_no HP.out HP2.out]; exact HO2.out) (a := ⟨w.heap.size + 1, 3, none⟩) (by show w.heap.size + 1 < _; omega) _) (by omega) (Nat.le_refl _) ((hbW.trans (hb2.mono (by omega))).setCell (p := ⟨w.heap.size + 1, 3, none⟩) (by show w.heap.size ≤ w.heap.size + 1; omega) _) true false (bigB_be HP.out) ((bomB_be HP.out).trans HP2.out) _ _ _ _

set_option maxRecDepth 100000 in
set_option maxHeartbeats 2000000 in
theorem rdec_no1 (w : World) (B : Nat) (A : Option Addr) (n c : Nat) (zs : List Int) (hx : RI .u8 w B A n zs) (hB : B ≤ w.heap.size) (hz : Bd zs) (_hnc : n ≤ c) (hn : n ≤ 1073741824) (hc : c ≤ maxLen) (p1 : Int) (h0 : zs[0]? = some 254) (h1 : zs[1]? = some p1) (hq : p1 ≠ 255) :
    Calls Tryd.prog 23 #[.int .u8 2, .slice A n c] w (RDecTold 2 zs w) := by
  have hlen := hx.len
  have h2n : 2 ≤ n := by have := (List.getElem?_eq_some_iff.1 h1).1; omega
  obtain ⟨b, off, rfl, hbl, hcs⟩ := hx.flat (by omega)
  have hbw : b < w.heap.size := by omega
  have g0 := hcs 0 _ h0
  rw [Nat.add_zero] at g0
  have g1 := hcs 1 _ h1
  have t1 : (2 : Int) ≤ (n : Int) := by omega
  have b1 : (p1 == 255) = false := by simp [hq]
  have HP : Hid (preB 255 254 zs = false) := by show _ = _; rw [pre_at h0 h1]; exact decide_eq_false (by omega)
  have HP2 : Hid (preB 254 255 zs = false) := by show _ = _; rw [pre_at h0 h1]; exact decide_eq_false (by omega)
  clear hcs h0 h1
  obtain ⟨W, hW⟩ : ∃ W, W = (w.alloc (.cells #[.int .u8 0, .bool false, .bool false, .slice none 0 0] 26)).alloc (.cells #[.int .u8 2, .bool true, .bool false, .slice none 0 0] 26) := ⟨_, rfl⟩
  have h2 := Two.new w 2 true false 26
  rw [← hW] at h2
  obtain ⟨hbW, hsW, hdW, k0, k1, k2, k3, kf⟩ := h2
  have HX := Lib.hid (hx.on hbW hB)
  have HZ := Lib.hid hz
  have HC := Lib.hid hc
  unfold maxLen at hc
  clear hx hz
  go_enter Tryd.func23, Tryd.ntmps23
  go_wp2_with fail
  rw [← hW]
  clear hW
  with_reducible refine (U.refDecode_any true W B (some ⟨b, off, none⟩) n c zs HX.out (by omega) HZ.out (by omega)).mono ?_
  rintro e w2 ⟨v2, rfl, hown2, hb2⟩
  obtain ⟨A2, c2, rfl, h2c, h2m, _⟩ := own_slice2 hown2
  obtain ⟨d0, d1, d2, d3, df⟩ := hdW.keep (w' := w2) (hb2.block _ (by omega))
  have e0 := (hb2.cell (p := ⟨w.heap.size + 1, 0, none⟩) (by show w.heap.size + 1 < _; omega)).trans k0
  have e1 := (hb2.cell (p := ⟨w.heap.size + 1, 1, none⟩) (by show w.heap.size + 1 < _; omega)).trans k1
  have e2 := (hb2.cell (p := ⟨w.heap.size + 1, 2, none⟩) (by show w.heap.size + 1 < _; omega)).trans k2
  have e3 := (hb2.cell (p := ⟨w.heap.size + 1, 3, none⟩) (by show w.heap.size + 1 < _; omega)).trans k3
  have ef := (hb2.frozen (p := ⟨w.heap.size + 1, 3, none⟩) (by show w.heap.size + 1 < _; omega)).trans (kf 3)
  have hle := U.dec_len true zs
  have HO2 := Lib.hid hown2
  have f0 := df 0
  have f1 := df 1
  have f2 := df 2
  have f3 := df 3
  clear hown2 hdW df kf
  go_wp2
  refine bodyPost_ret (v := .tuple #[.agg #[.int .u8 2, .bool true, .bool false, .slice A2 (U.dec true zs).length c2], .int .i64 0]) ?_ rfl ?_
  · simp [results, Tryd.results23, go_sem, *]
  · exact putDoc_rdec (base := W.heap.size) (hle) (ownsRow_setCell_below (by rw [cellsD_no HP.out HP2.out]; exact HO2.out) (a := ⟨w.heap.size + 1, 3, none⟩) (by show w.heap.size + 1 < _; omega) _) (by omega) (Nat.le_refl _) ((hbW.trans (hb2.mono (by omega))).setCell (p := ⟨w.heap.size + 1, 3, none⟩) (by show w.heap.size ≤ w.heap.size + 1; omega) _) true false (bigB_be HP.out) ((bomB_be HP.out).trans HP2.out) _ _ _ _

set_option maxRecDepth 100000 in
set_option maxHeartbeats 2000000 in
theorem rdec_no2 (w : World) (B : Nat) (A : Option Addr) (n c : Nat) (zs : List Int) (hx : RI .u8 w B A n zs) (hB : B ≤ w.heap.size) (hz : Bd zs) (_hnc : n ≤ c) (hn : n ≤ 1073741824) (hc : c ≤ maxLen) (p1 : Int) (h0 : zs[0]? = some 255) (h1 : zs[1]? = some p1) (hq : p1 ≠ 254) :
    Calls Tryd.prog 23 #[.int .u8 2, .slice A n c] w (RDecTold 2 zs w) := by
  have hlen := hx.len
  have h2n : 2 ≤ n := by have := (List.getElem?_eq_some_iff.1 h1).1; omega
  obtain ⟨b, off, rfl, hbl, hcs⟩ := hx.flat (by omega)
  have hbw : b < w.heap.size := by omega
  have g0 := hcs 0 _ h0
  rw [Nat.add_zero] at g0
  have g1 := hcs 1 _ h1
  have t1 : (2 : Int) ≤ (n : Int) := by omega
  have b1 : (p1 == 254) = false := by simp [hq]
  have HP : Hid (preB 255 254 zs = false) := by show _ = _; rw [pre_at h0 h1]; exact decide_eq_false (by omega)
  have HP2 : Hid (preB 254 255 zs = false) := by show _ = _; rw [pre_at h0 h1]; exact decide_eq_false (by omega)
  clear hcs h0 h1
  obtain ⟨W, hW⟩ : ∃ W, W = (w.alloc (.cells #[.int .u8 0, .bool false, .bool false, .slice none 0 0] 26)).alloc (.cells #[.int .u8 2, .bool true, .bool false, .slice none 0 0] 26) := ⟨_, rfl⟩
  have h2 := Two.new w 2 true false 26
  rw [← hW] at h2
  obtain ⟨hbW, hsW, hdW, k0, k1, k2, k3, kf⟩ := h2
  have HX := Lib.hid (hx.on hbW hB)
  have HZ := Lib.hid hz
  have HC := Lib.hid hc
  unfold maxLen at hc
  clear hx hz
  go_enter Tryd.func23, Tryd.ntmps23
  go_wp2_with fail
  rw [← hW]
  clear hW
  with_reducible refine (U.refDecode_any true W B (some ⟨b, off, none⟩) n c zs HX.out (by omega) HZ.out (by omega)).mono ?_
  rintro e w2 ⟨v2, rfl, hown2, hb2⟩
  obtain ⟨A2, c2, rfl, h2c, h2m, _⟩ := own_slice2 hown2
  obtain ⟨d0, d1, d2, d3, df⟩ := hdW.keep (w' := w2) (hb2.block _ (by omega))
  have e0 := (hb2.cell (p := ⟨w.heap.size + 1, 0, none⟩) (by show w.heap.size + 1 < _; omega)).trans k0
  have e1 := (hb2.cell (p := ⟨w.heap.size + 1, 1, none⟩) (by show w.heap.size + 1 < _; omega)).trans k1
  have e2 := (hb2.cell (p := ⟨w.heap.size + 1, 2, none⟩) (by show w.heap.size + 1 < _; omega)).trans k2
  have e3 := (hb2.cell (p := ⟨w.heap.size + 1, 3, none⟩) (by show w.heap.size + 1 < _; omega)).trans k3
  have ef := (hb2.frozen (p := ⟨w.heap.size + 1, 3, none⟩) (by show w.heap.size + 1 < _; omega)).trans (kf 3)
  have hle := U.dec_len true zs
  have HO2 := Lib.hid hown2
  have f0 := df 0
  have f1 := df 1
  have f2 := df 2
  have f3 := df 3
  clear hown2 hdW df kf
  go_wp2
  refine bodyPost_ret (v := .tuple #[.agg #[.int .u8 2, .bool true, .bool false, .slice A2 (U.dec true zs).length c2], .int .i64 0]) ?_ rfl ?_
  · simp [results, Tryd.results23, go_sem, *]
  · exact putDoc_rdec (base := W.heap.size) (hle) (ownsRow_setCell_below (by rw [cellsD_no HP.out HP2.out]; exact HO2.out) (a := ⟨w.heap.size + 1, 3, none⟩) (by show w.heap.size + 1 < _; omega) _) (by omega) (Nat.le_refl _) ((hbW.trans (hb2.mono (by omega))).setCell (p := ⟨w.heap.size + 1, 3, none⟩) (by show w.heap.size ≤ w.heap.size + 1; omega) _) true false (bigB_be HP.out) ((bomB_be HP.out).trans HP2.out) _ _ _ _

set_option maxRecDepth 100000 in
set_option maxHeartbeats 2000000 in
theorem rdec_no3 (w : World) (B : Nat) (A : Option Addr) (n c : Nat) (zs : List Int) (hx : RI .u8 w B A n zs) (hB : B ≤ w.heap.size) (hz : Bd zs) (_hnc : n ≤ c) (hn : n ≤ 1073741824) (hc : c ≤ maxLen) (p0 p1 : Int) (h0 : zs[0]? = some p0) (h1 : zs[1]? = some p1) (hq : p0 ≠ 254) (hq2 : p0 ≠ 255) :
    Calls Tryd.prog 23 #[.int .u8 2, .slice A n c] w (RDecTold 2 zs w) := by
  have hlen := hx.len
  have h2n : 2 ≤ n := by have := (List.getElem?_eq_some_iff.1 h1).1; omega
  obtain ⟨b, off, rfl, hbl, hcs⟩ := hx.flat (by omega)
  have hbw : b < w.heap.size := by omega
  have g0 := hcs 0 _ h0
  rw [Nat.add_zero] at g0
  have g1 := hcs 1 _ h1
  have t1 : (2 : Int) ≤ (n : Int) := by omega
  have b1 : (p0 == 254) = false := by simp [hq]
  have b2 : (p0 == 255) = false := by simp [hq2]
  have HP : Hid (preB 255 254 zs = false) := by show _ = _; rw [pre_at h0 h1]; exact decide_eq_false (by omega)
  have HP2 : Hid (preB 254 255 zs = false) := by show _ = _; rw [pre_at h0 h1]; exact decide_eq_false (by omega)
  clear hcs h0 h1
  obtain ⟨W, hW⟩ : ∃ W, W = (w.alloc (.cells #[.int .u8 0, .bool false, .bool false, .slice none 0 0] 26)).alloc (.cells #[.int .u8 2, .bool true, .bool false, .slice none 0 0] 26) := ⟨_, rfl⟩
  have h2 := Two.new w 2 true false 26
  rw [← hW] at h2
  obtain ⟨hbW, hsW, hdW, k0, k1, k2, k3, kf⟩ := h2
  have HX := Lib.hid (hx.on hbW hB)
  have HZ := Lib.hid hz
  have HC := Lib.hid hc
  unfold maxLen at hc
  clear hx hz
  go_enter Tryd.func23, Tryd.ntmps23
  go_wp2_with fail
  rw [← hW]
  clear hW
  with_reducible refine (U.refDecode_any true W B (some ⟨b, off, none⟩) n c zs HX.out (by omega) HZ.out (by omega)).mono ?_
  rintro e w2 ⟨v2, rfl, hown2, hb2⟩
  obtain ⟨A2, c2, rfl, h2c, h2m, _⟩ := own_slice2 hown2
  obtain ⟨d0, d1, d2, d3, df⟩ := hdW.keep (w' := w2) (hb2.block _ (by omega))
  have e0 := (hb2.cell (p := ⟨w.heap.size + 1, 0, none⟩) (by show w.heap.size + 1 < _; omega)).trans k0
  have e1 := (hb2.cell (p := ⟨w.heap.size + 1, 1, none⟩) (by show w.heap.size + 1 < _; omega)).trans k1
  have e2 := (hb2.cell (p := ⟨w.heap.size + 1, 2, none⟩) (by show w.heap.size + 1 < _; omega)).trans k2
  have e3 := (hb2.cell (p := ⟨w.heap.size + 1, 3, none⟩) (by show w.heap.size + 1 < _; omega)).trans k3
  have ef := (hb2.frozen (p := ⟨w.heap.size + 1, 3, none⟩) (by show w.heap.size + 1 < _; omega)).trans (kf 3)
  have hle := U.dec_len true zs
  have HO2 := Lib.hid hown2
  have f0 := df 0
  have f1 := df 1
  have f2 := df 2
  have f3 := df 3
  clear hown2 hdW df kf
  go_wp2
  refine bodyPost_ret (v := .tuple #[.agg #[.int .u8 2, .bool true, .bool false, .slice A2 (U.dec true zs).length c2], .int .i64 0]) ?_ rfl ?_
  · simp [results, Tryd.results23, go_sem, *]
  · exact putDoc_rdec (base := W.heap.size) (hle) (ownsRow_setCell_below (by rw [cellsD_no HP.out HP2.out]; exact HO2.out) (a := ⟨w.heap.size + 1, 3, none⟩) (by show w.heap.size + 1 < _; omega) _) (by omega) (Nat.le_refl _) ((hbW.trans (hb2.mono (by omega))).setCell (p := ⟨w.heap.size + 1, 3, none⟩) (by show w.heap.size ≤ w.heap.size + 1; omega) _) true false (bigB_be HP.out) ((bomB_be HP.out).trans HP2.out) _ _ _ _

theorem rdec_two (w : World) (B : Nat) (A : Option Addr) (n c : Nat) (zs : List Int) (hx : RI .u8 w B A n zs) (hB : B ≤ w.heap.size) (hz : Bd zs) (hnc : n ≤ c) (hn : n ≤ 1073741824) (hc : c ≤ maxLen) :
    Calls Tryd.prog 23 #[.int .u8 2, .slice A n c] w (RDecTold 2 zs w) := by
  by_cases h2 : n < 2
  · exact rdec_short w B A n c zs hx hB hz hnc hn hc h2
  obtain ⟨_, u, _, _, hu, _⟩ := hx.at_ (k := 0) (by omega)
  obtain ⟨_, u', _, _, hu', _⟩ := hx.at_ (k := 1) (by omega)
  by_cases h4 : u = 254
  · subst h4
    by_cases h5 : u' = 255
    · subst h5
      exact rdec_be w B A n c zs hx hB hz hnc hn hc hu hu'
    · exact rdec_no1 w B A n c zs hx hB hz hnc hn hc u' hu hu' h5
  by_cases h5 : u = 255
  · subst h5
    by_cases h6 : u' = 254
    · subst h6
      exact rdec_le w B A n c zs hx hB hz hnc hn hc hu hu'
    · exact rdec_no2 w B A n c zs hx hB hz hnc hn hc u' hu hu' h6
  · exact rdec_no3 w B A n c zs hx hB hz hnc hn hc u u' hu hu' h4 h5
end Go.Proofs.YtijlecfjgcohhaaDoor.C
