/-
  Contracts of utf8.Decode and of what it calls (unicode/utf8's RuneCount and DecodeRune, cellOf): the cells of any bytes (at most 2^40) are what the plain function says, in new memory; nothing that was there changes. Condition: the decoder's two tables stand as they were laid.
-/
import Derived.Test.YtijlecfjgcohhaaDoorUtfE
import Derived.Test.YtijlecfjgcohhaaDoorUtfM
import Derived.Test.YtijlecfjgcohhaaDoorShelf
import Derived.Lib.LaidU8
namespace Go.Proofs.YtijlecfjgcohhaaDoor.C
open Go.RowKit
open Go.Lib (decodeN)

theorem add_plain (b off j : Nat) : (⟨b, off, none⟩ : Addr).add j = ⟨b, off + j, none⟩ := by unfold Addr.add; split <;> simp_all
theorem RI.flat {ki : IntKind} {w : World} {B n : Nat} {A : Option Addr} {zs : List Int} (h : RI ki w B A n zs) (hn : 0 < n) :
    ∃ b off, A = some ⟨b, off, none⟩ ∧ b < B ∧ ∀ j u, zs[j]? = some u → w.cell? ⟨b, off + j, none⟩ = some (.int ki u) := by
  obtain ⟨ad, u, rfl, hb, _, hc⟩ := h.at_ hn
  obtain ⟨ad', e, _, hcell⟩ := h.2 hn
  injection e with e
  subst e
  obtain ⟨b, off, sp⟩ := ad
  have hsp : sp = none := by
    have e0 : (⟨b, off, sp⟩ : Addr).add 0 = ⟨b, off, sp⟩ := by simp [Addr.add]
    rw [e0] at hc
    exact cell_spot hc
  subst hsp
  exact ⟨b, off, rfl, hb, fun j u hu => by rw [← add_plain]; exact hcell j u hu⟩
theorem sb_get {zs : List Int} (h : Bd zs) (j : Nat) (hj : j < zs.length) : (((sb zs).get! j).toNat : Int) = zs[j] := by
  have e := gb_sb h j
  have hb := h zs[j] (List.getElem_mem hj)
  unfold gb nb at e
  rw [e]
  simp [List.getD_eq_getElem?_getD, List.getElem?_eq_getElem hj]
  omega

set_option maxHeartbeats 400000 in
theorem runeCount_zero (w : World) (A : Option Addr) (c : Nat) :
    Calls Tryd.prog 42 #[.slice A 0 c] w fun e w' => e = .returned (.int .i64 0) ∧ w = w' := by
  go_enter Tryd.func42, Tryd.ntmps42
  go_wp2
  go_loop [4] (fun i => i = .int .i64 0) (fun _ => 0)
  case atStart => rfl
  case round =>
    subst hrel
    go_wp2
    go_ret
    exact ⟨rfl, rfl⟩
theorem runeCount_ri (w : World) (B : Nat) (A : Option Addr) (n c : Nat) (zs : List Int) (hx : RI .u8 w B A n zs) (hz : Bd zs) (hnc : n ≤ c) (hn : n ≤ 1099511627776) :
    Calls Tryd.prog 42 #[.slice A n c] w fun e w' => ∃ k : Nat, k ≤ n ∧ e = .returned (.int .i64 k) ∧ Below w.heap.size w w' := by
  rcases Nat.eq_zero_or_pos n with h0 | h0
  · subst h0
    refine (runeCount_zero w A c).mono ?_
    rintro e w' ⟨rfl, rfl⟩
    exact ⟨0, Nat.le_refl _, rfl, Below.refl _ _⟩
  · obtain ⟨b, off, rfl, _, hc⟩ := hx.flat h0
    have hl : (sb zs).size = n := by rw [sb_size]; exact hx.len
    have := Any7.utf8_RuneCount Tryd.lays31 (sb zs) b off c w (by omega) (fun j hj => by
      have hj' : j < zs.length := by rw [sb_size] at hj; exact hj
      rw [hc j zs[j] (List.getElem?_eq_getElem hj'), sb_get hz j hj']) (by omega)
    rw [hl] at this
    refine this.mono ?_
    rintro e w' ⟨rfl, hw⟩
    have hle := Lib.runeCount_le (sb zs)
    refine ⟨Lib.runeCount (sb zs), by omega, rfl, ?_⟩
    rcases hw with rfl | ⟨t, pos, rfl⟩
    · exact Below.refl _ _
    · exact (Below.refl _ _).alloc (Nat.le_refl _) _
theorem decodeRune_ri (w : World) (B : Nat) (A : Option Addr) (n c : Nat) (zs : List Int) (hx : RI .u8 w B A n zs) (hz : Bd zs) (h0 : 0 < n) (hT : Lib.Utf8Tabs 0 1 w) (R K : Nat) (hd : Utf8.decode (sb zs) 0 = (R, K)) :
    Calls Tryd.prog 43 #[.slice A n c] w fun e w' => e = .returned (.tuple #[.int .i32 (R : Int), .int .i64 (K : Int)]) ∧ Below w.heap.size w w' := by
  obtain ⟨b, off, rfl, _, hc⟩ := hx.flat h0
  have hl : (sb zs).size = n := by rw [sb_size]; exact hx.len
  have := Any7.utf8_DecodeRune Tryd.lays32 (sb zs) b off c w hT (fun j hj => by
    have hj' : j < zs.length := by rw [sb_size] at hj; exact hj
    rw [hc j zs[j] (List.getElem?_eq_getElem hj'), sb_get hz j hj'])
  rw [hl] at this
  have e : Lib.decodeGo (sb zs) = (R, K) := by unfold Lib.decodeGo; rw [if_neg (by omega), hd]
  rw [e] at this
  exact this

set_option maxHeartbeats 400000 in
theorem cellOf_bad (b : Int) (w : World) (h0 : 0 ≤ b) (h1 : b ≤ 255) :
    Calls Tryd.prog 44 #[.int .i32 65533, .int .i64 1, .int .u8 b] w fun e w' => e = .returned (.int .i32 (-1 - b)) ∧ w = w' := by
  go_enter Tryd.func44, Tryd.ntmps44
  go_wp2_with (go_at_call 62; refine (escape_any _ _ h0 h1).mono ?_; rintro e w' ⟨rfl, rfl⟩)
  go_ret
  exact ⟨rfl, rfl⟩
set_option maxHeartbeats 400000 in
theorem cellOf_good (r k : Nat) (b : Int) (w : World) (h : ¬ (r, k) = (65533, 1)) :
    Calls Tryd.prog 44 #[.int .i32 (r : Int), .int .i64 (k : Int), .int .u8 b] w fun e w' => e = .returned (.int .i32 (r : Int)) ∧ w = w' := by
  by_cases hr : r = 65533
  · have hk : ¬ k = 1 := fun e => h (by rw [hr, e])
    have t1 : ((r : Int) == 65533) = true := by simp; omega
    have t2 : ((k : Int) == 1) = false := by simp; omega
    clear h hr hk
    go_enter Tryd.func44, Tryd.ntmps44
    go_wp2
    all_goals go_ret
    all_goals exact ⟨rfl, rfl⟩
  · have t1 : ((r : Int) == 65533) = false := by simp; omega
    clear h hr
    go_enter Tryd.func44, Tryd.ntmps44
    go_wp2
    all_goals go_ret
    all_goals exact ⟨rfl, rfl⟩
/-- the cell of what the decoder answers -/
def cellZ (r k : Nat) (b : Int) : Int := if (r, k) = (65533, 1) then -1 - b else (r : Int)
theorem cellOf_any (r k : Nat) (b : Int) (w : World) (h0 : 0 ≤ b) (h1 : b ≤ 255) :
    Calls Tryd.prog 44 #[.int .i32 (r : Int), .int .i64 (k : Int), .int .u8 b] w fun e w' => e = .returned (.int .i32 (cellZ r k b)) ∧ w = w' := by
  unfold cellZ
  split
  · rename_i h
    injection h with h2 h3
    subst h2 h3
    exact cellOf_bad b w h0 h1
  · rename_i h
    exact cellOf_good r k b w h
theorem cellZ_at {zs : List Int} (h : Bd zs) (pos : Nat) (hp : pos < zs.length) (R K : Nat) (hd : Utf8.decode (sb zs) pos = (R, K)) : cellZ R K zs[pos] = cellAt (sb zs) pos := by
  rw [cellAt_sb h pos hp]
  rw [decode_sb h] at hd
  unfold cellZ cellN
  rw [hd]
  have hb := h zs[pos] (List.getElem_mem hp)
  have e : (nb zs pos : Int) = zs[pos] := by
    unfold nb
    simp [List.getD_eq_getElem?_getD, List.getElem?_eq_getElem hp]
    omega
  rw [e]
theorem decode_drop {zs : List Int} (h : Bd zs) (pos : Nat) : Utf8.decode (sb (zs.drop pos)) 0 = Utf8.decode (sb zs) pos := by
  rw [decode_sb (bd_drop h pos), decode_sb h]
  simp only [nb_drop, Nat.add_zero, List.length_drop, Nat.sub_zero, Nat.zero_add]
theorem tabs_below {w w' : World} (h : Lib.Utf8Tabs 0 1 w) (hb : Below w.heap.size w w') : Lib.Utf8Tabs 0 1 w' := Utf8Tabs_below h hb

/-- how long a slice is -/
def lenV : Value → Nat
  | .slice _ n _ => n
  | _ => 0

set_option maxHeartbeats 2000000 in
theorem decode_any (w : World) (B : Nat) (A : Option Addr) (n c : Nat) (zs : List Int) (hx : RI .u8 w B A n zs) (hB : B ≤ w.heap.size) (hz : Bd zs) (hnc : n ≤ c) (hn : n ≤ 1099511627776) (hc : c ≤ maxLen) (hT : Lib.Utf8Tabs 0 1 w) :
    Calls Tryd.prog 29 #[.slice A n c] w fun e w' => ∃ v, e = .returned v ∧ w'.ownsRow w.heap.size 35 1 v (ofL (sb zs)).length ((ofL (sb zs)).map (Value.int .i32)) ∧ Below w.heap.size w w' := by
  unfold maxLen at hc
  obtain ⟨i0, hi, hz0, hz1, hz2⟩ := info_parts info33
  have HL := Lib.hid hx.len
  have HX := Lib.hid hx
  have HZ := Lib.hid hz
  have HT := Lib.hid hT
  clear hx hz hT
  go_enter Tryd.func29, Tryd.ntmps29
  go_wp2_with fail
  refine (runeCount_ri w B A n c zs HX.out HZ.out hnc hn).mono ?_
  rintro e w1 ⟨rc, hrc, rfl, hb1⟩
  have hs1 := hb1.size
  go_wp2_with (at_make; (refine wpList_make_own _ rfl _ _ 24 rfl w.heap.size 35 i0 (.int .i32 0) 1 Tryd.underlying24 hi hz0 hz1 .i64 .i64 _ rc rfl rfl (by omega) (by rw [hz2]; omega) (by unfold maxLen; omega) (by omega) ?_); intro w2 hown hgrow; have hb2 : Below w.heap.size w w2 := hb1.grown hgrow (by omega) (fun _ h => by cases h); clear hgrow; have HO := Lib.hid hown; clear hown)
  go_loopw [0, 3] (fun bv v wr => ∃ (pos f m cp : Nat) (A' : Option Addr) (acc : List Int), bv = .slice A' m cp ∧ Hid (m + pos = n) ∧ m ≤ cp ∧ cp ≤ 9223372036854775807 ∧ Hid (OfSt (sb zs) acc f pos) ∧ Hid (RI .u8 w B A' m (zs.drop pos)) ∧ Hid (wr.ownsRow w.heap.size 35 1 v acc.length (acc.map (Value.int .i32))) ∧ Below w.heap.size w wr) (fun bv _ _ => lenV bv)
  case atStart => exact ⟨0, (sb zs).size, n, c, A, [], rfl, rfl, hnc, hc, ofSt_zero _, HX.out, HO.out, hb2⟩
  case round =>
    obtain ⟨pos, f, m, cp, A', acc, rfl, HM, hmc, hcp, HST, HR, HW, hbr⟩ := hrel
    have hsz := hbr.size
    by_cases hm : 0 < m
    · obtain ⟨ad, z, rfl, hbl, hzp, hcell⟩ := HR.out.at_ hm
      have hp : pos < zs.length := by have := HM.out; have := HL.out; omega
      have hzv : zs[pos] = z := by
        have := hzp
        simp at this
        obtain ⟨_, h⟩ := List.getElem?_eq_some_iff.1 this
        exact h
      have hzb := HZ.out z (by rw [← hzv]; exact List.getElem_mem hp)
      obtain ⟨f', hst'⟩ := ofSt_step HST.out (by rw [sb_size]; exact hp)
      obtain ⟨R, K, hRK⟩ : ∃ R K, Utf8.decode (sb zs) pos = (R, K) := ⟨_, _, rfl⟩
      have hK1 := Lib.decode_width_pos (sb zs) pos (by rw [sb_size]; exact hp)
      have hK2 := decodeN_le (zs.length - pos) (nb zs pos) (nb zs (pos + 1)) (nb zs (pos + 2)) (nb zs (pos + 3)) (by omega)
      rw [← decode_sb HZ.out] at hK2
      have hcv := cellZ_at HZ.out pos hp R K hRK
      rw [hzv] at hcv
      rw [← hcv] at hst'
      rw [hRK] at hK1 hK2 hst'
      have hKm : K ≤ m := by have := HM.out; have := HL.out; simp at hK2; omega
      have hK0 : 0 < K := hK1
      have HRK := Lib.hid hRK
      have HS' := Lib.hid hst'
      have had0 : ad.add 0 = ad := by simp [Addr.add]
      rw [had0] at hcell
      have hcr : wr.cell? ad = some (.int .u8 z) := (hbr.cell (p := ad) (by omega)).trans hcell
      have hrw : RI .u8 wr B (some ad) m (zs.drop pos) := HR.out.keep fun p hp => hbr.cell (p := p) (by omega)
      have HRW := Lib.hid hrw
      clear hrw hst' hcv hRK hK1 hK2 hzp hzv hcell hp had0
      go_wp2_with fail
      refine (decodeRune_ri wr B (some ad) m cp (zs.drop pos) HRW.out (bd_drop HZ.out pos) hm (tabs_below HT.out (hbr.mono (Nat.le_refl _))) R K (by rw [decode_drop HZ.out]; exact HRK.out)).mono ?_
      rintro e w3 ⟨rfl, hb3⟩
      have hs3 := hb3.size
      have HOW := Lib.hid (own_keep HW.out hb3)
      have hbW : Below w.heap.size w w3 := hbr.trans (hb3.mono hsz)
      have hcr3 : w3.cell? ad = some (.int .u8 z) := (hb3.cell (p := ad) (by omega)).trans hcr
      clear hcr
      go_wp2_with fail
      refine (cellOf_any R K z w3 hzb.1 hzb.2).mono ?_
      rintro e w' ⟨rfl, rfl⟩
      generalize cellZ R K z = cv at *
      go_wp2_with (at_builtin; (refine wpList_append_own _ rfl _ _ 24 rfl w.heap.size 35 i0 (.int .i32 0) 1 4 Tryd.underlying24 hi hz0 hz1 hz2 rfl (by decide) _ _ _ rfl (HOW.out.alloc _) _ 1 1 [.int .i32 cv] rfl rfl (cell_one_new _ _ _) (by intro u hu; simp at hu; subst hu; rfl) (by unfold maxLen; have := HST.out.2.2.1; have := HM.out; omega) (by have := HST.out.2.2.1; have := HM.out; omega) (by simp; omega) ?_); intro v' w4 hown' hgrow _; have HO4 := Lib.hid hown'; have HG4 := Lib.hid hgrow; clear hown' hgrow)
      have hcut : RI .u8 w B (if cp = K then some ad else (some ad).map (·.add K)) (m - K) (zs.drop (pos + K)) := by
        have := HR.out.cut (k := K) (m := m - K) (cap := cp) (by omega) hmc
        rw [List.drop_drop, List.take_of_length_le (by rw [List.length_drop, HL.out]; have := HM.out; omega)] at this
        exact this
      go_roundw
      case rel => exact ⟨pos + K, f', m - K, cp - K, _, acc ++ [cv], rfl, by have := HM.out; show m - K + (pos + K) = n; omega, by omega, by omega, HS'.out, hcut, by simpa [Hid] using HO4.out, ((hbW.alloc (by omega) _).grown HG4.out (by simp; omega) (fun k hk => (HOW.out.lt k hk).1))⟩
      case measure => simp [lenV]; omega
    · have hm0 : m = 0 := by omega
      subst hm0
      have hend := ofSt_end HST.out (by rw [sb_size]; have := HM.out; have := HL.out; omega)
      have HE := Lib.hid hend
      clear hend
      go_wp2
      go_ret
      refine ⟨_, rfl, ?_, hbr⟩
      rw [HE.out]
      exact HW.out
end Go.Proofs.YtijlecfjgcohhaaDoor.C
