/-
  Words on slices, the document's sequence and Encode of layer 2. No condition.
-/
import Derived.Test.YtijlecfjgcohhaaDoorCdF
import Derived.Test.YtijlecfjgcohhaaDoorUtfW
import Derived.Shelf.Bytes.SlSmallAll
namespace Go.Proofs.YtijlecfjgcohhaaDoor.C
open Go.RowKit


theorem below_drewN {B : Nat} {a w : World} (h : Below B a w) (n : Nat) : Below B a (w.drewN n) := ⟨h.os, h.tape, h.output, h.size, h.block⟩
theorem conv_ri {w : World} {B n : Nat} {A : Option Addr} {zs : List Int} (h : RI .u8 w B A n zs) (c : Nat) : (convert 22 9 (.slice A n c)).run Tryd.prog w = .ok (.string (sb zs)) w := by
  rcases Nat.eq_zero_or_pos n with h0 | h0
  · subst h0
    obtain rfl : zs = [] := List.eq_nil_of_length_eq_zero h.1
    exact run_convert_bytes_zero w 22 5 Tryd.underlying22 Tryd.underlying5 A c 9 Tryd.underlying9
  · obtain ⟨b, off, rfl, _, hc⟩ := h.flat h0
    refine run_convert_bytes_arg w 22 5 Tryd.underlying22 Tryd.underlying5 b off n c zs h.1 (fun i hi => ?_) 9 Tryd.underlying9
    have hi' : i < zs.length := by rw [h.1]; exact hi
    rw [hc i zs[i] (List.getElem?_eq_getElem hi')]
    simp [List.getD_eq_getElem?_getD, List.getElem?_eq_getElem hi']
theorem own_slice2 {w : World} {base : Nat} {e : TypeId} {ki : IntKind} {v : Value} {n : Nat} {zs : List Int} (h : w.ownsRow base e 1 v n (zs.map (Value.int ki))) : ∃ A c, v = .slice A n c ∧ n ≤ c ∧ c ≤ maxLen ∧ RI ki w w.heap.size A n zs := by
  rcases h.2 with ⟨rfl, rfl⟩ | ⟨g, c, cur, rfl, _, _, hc, hm, _⟩
  · have hz : zs = [] := List.eq_nil_of_length_eq_zero (by have := h.1; simpa using this)
    subst hz
    exact ⟨none, 0, rfl, Nat.le_refl _, Nat.zero_le _, RI.none_⟩
  · exact ⟨_, c, rfl, hc, hm, RI.of_own h⟩
theorem RI.new (w : World) (ki : IntKind) (zs : List Int) (t : TypeId) : RI ki (w.alloc (.cells (zs.map (Value.int ki)).toArray t)) (w.heap.size + 1) (some ⟨w.heap.size, 0, none⟩) zs.length zs :=
  ⟨rfl, fun _ => ⟨_, rfl, Nat.lt_succ_self _, fun j u hu => by
    rw [add_plain, Nat.zero_add, World.cell?_alloc_new]
    simp [hu]⟩⟩

/-- are cells those that their bytes are decoded to? -/
def canonB (xs : List Int) : Bool := xs.all rightB && sameB (ofL (sb (encL xs))) xs
theorem all_bd {xs : List Int} (h : xs.all rightB = true) : Bd (encL xs) := encL_bd fun c hc => (List.all_eq_true.1 h) c hc

set_option maxHeartbeats 400000 in
theorem refDecode_any (w : World) (B : Nat) (A : Option Addr) (n c : Nat) (zs : List Int) (hx : RI .u8 w B A n zs) (hn : n ≤ 1099511627776) :
    Calls Tryd.prog 35 #[.slice A n c] w fun e w' => ∃ v, e = .returned v ∧ w'.ownsRow w.heap.size 35 1 v (ofL (sb zs)).length ((ofL (sb zs)).map (Value.int .i32)) ∧ Below w.heap.size w w' := by
  have hcv := conv_ri hx c
  have hl : (sb zs).size ≤ 1099511627776 := by rw [sb_size, hx.len]; exact hn
  have HL := Lib.hid hl
  clear hx hl
  generalize sb zs = s at *
  go_enter Tryd.func35, Tryd.ntmps35
  go_wp2_with fail
  refine (refOf_any s w HL.out).mono ?_
  rintro e w1 ⟨v, rfl, hown, hb⟩
  have HO := Lib.hid hown
  clear hown
  go_wp2
  go_ret
  exact ⟨v, rfl, HO.out, hb⟩

/-- a scalar's bytes, in a new row -/
def SeqTold (c : Int) (w : World) (e : Ending) (w' : World) : Prop :=
  e = .returned (.slice (some ⟨w.heap.size, 0, none⟩) (encC c).length (encC c).length) ∧ RI .u8 w' (w.heap.size + 1) (some ⟨w.heap.size, 0, none⟩) (encC c).length (encC c) ∧ w.heap.size + 1 ≤ w'.heap.size ∧ Below w.heap.size w w'
theorem seq_told {c : Int} {zs : List Int} (h : encC c = zs) (w : World) (t : TypeId) : SeqTold c w (.returned (.slice (some ⟨w.heap.size, 0, none⟩) zs.length zs.length)) (w.alloc (.cells (zs.map (Value.int .u8)).toArray t)) := by
  subst h
  exact ⟨rfl, RI.new w .u8 _ t, by simp, (Below.refl _ _).alloc (Nat.le_refl _) _⟩

set_option maxHeartbeats 1000000 in
theorem sequence_any (c : Int) (w : World) (h0 : 0 ≤ c) (hr : rightB c = true) : Calls Tryd.prog 58 #[.int .i32 c] w (SeqTold c w) := by
  have hb : c < 55296 ∨ (57343 < c ∧ c ≤ 1114111) := by unfold rightB at hr; simp at hr; omega
  have e0 : encC c = Lib.encodeRuneZ c := by unfold encC; rw [if_neg (by omega)]
  clear hr
  by_cases c1 : c < 128
  · have he := e0.trans (Lib.encodeRuneZ_one h0 (by omega))
    have HE := Lib.hid he
    clear he e0 hb
    go_enter Tryd.func58, Tryd.ntmps58
    go_wp2
    go_ret
    exact seq_told HE.out w _
  by_cases c2 : c < 2048
  · have he := e0.trans (Lib.encodeRuneZ_two (by omega) (by omega))
    have HE := Lib.hid he
    clear he e0 hb
    go_enter Tryd.func58, Tryd.ntmps58
    go_wp2
    go_ret
    exact seq_told HE.out w _
  by_cases c3 : c < 65536
  · have he := e0.trans (Lib.encodeRuneZ_three (by omega))
    have HE := Lib.hid he
    clear he e0 hb
    go_enter Tryd.func58, Tryd.ntmps58
    go_wp2
    go_ret
    exact seq_told HE.out w _
  · have he := e0.trans (Lib.encodeRuneZ_four (by omega) (by omega))
    have HE := Lib.hid he
    have hb4 : c ≤ 1114111 := by omega
    clear he e0 hb
    go_enter Tryd.func58, Tryd.ntmps58
    go_wp2
    go_ret
    exact seq_told HE.out w _

/-- what the document's Encode answers -/
def REncTold (xs : List Int) (w : World) (e : Ending) (w' : World) : Prop :=
  Below w.heap.size w w' ∧ ((xs.all rightB = true ∧ ∃ v, e = .returned (.tuple #[v, .int .i64 0]) ∧ w'.ownsRow w.heap.size 5 1 v (encL xs).length ((encL xs).map (Value.int .u8))) ∨
    (xs.all rightB = false ∧ e = .returned (.tuple #[.slice none 0 0, .int .i64 10])))

set_option maxHeartbeats 2000000 in
theorem refEncode_told (w : World) (B : Nat) (A : Option Addr) (n c : Nat) (xs : List Int) (hx : RI .i32 w B A n xs) (hB : B ≤ w.heap.size) (hn : n ≤ 1073741824) :
    Calls Tryd.prog 37 #[.slice A n c] w (REncTold xs w) := by
  obtain ⟨i0, hi, hz0, hz1, hz2⟩ := info_parts info8
  have HX := Lib.hid hx
  clear hx
  go_enter Tryd.func37, Tryd.ntmps37
  go_wp2
  go_loopw [4, 5] (fun v i wr => ∃ k : Nat, k ≤ n ∧ i = .int .i64 k ∧ Hid ((xs.take k).all rightB = true) ∧ Hid (wr.ownsRow w.heap.size 5 1 v (encL (xs.take k)).length ((encL (xs.take k)).map (Value.int .u8))) ∧ Below w.heap.size w wr) (fun _ i _ => n - (intOf i).toNat)
  case atStart => exact ⟨0, Nat.zero_le _, rfl, rfl, World.ownsRow_nil _ _ _ _, Below.refl _ _⟩
  case round =>
    obtain ⟨k, hk, rfl, HA, HW, hbr⟩ := hrel
    have hsz := hbr.size
    by_cases hlt : k < n
    · obtain ⟨ad, u, rfl, hbl, hu, hcell⟩ := HX.out.at_ hlt
      have hcr : wr.cell? (ad.add k) = some (.int .i32 u) := (hbr.cell (p := ad.add k) (by rw [block_of_add]; omega)).trans hcell
      have HU := Lib.hid hu
      clear hu hcell
      cases hru : rightB u with
      | true =>
        have hle := (encL_len (xs.take k)).2
        have hlk : (xs.take k).length ≤ k := List.length_take_le _ _
        have hub : -256 ≤ u := by unfold rightB at hru; simp at hru; omega
        have HRU := Lib.hid hru
        clear hru
        by_cases hneg : u < 0
        · have he : encC u = [-1 - u] := by unfold encC; rw [if_pos hneg]
          have HE := Lib.hid he
          clear he
          go_wp2_with fail
          refine (refRight_is u wr true HRU.out).mono ?_
          rintro e w' ⟨rfl, rfl⟩
          go_wp2_with fail
          refine (refByte_yes u wr hub hneg).mono ?_
          rintro e w' ⟨rfl, rfl⟩
          go_wp2_with (at_builtin; (refine wpList_append_own _ rfl _ _ 22 rfl w.heap.size 5 i0 (.int .u8 0) 1 1 Tryd.underlying22 hi hz0 hz1 hz2 rfl (by decide) _ _ _ rfl (HW.out.alloc _) _ 1 1 [.int .u8 (-1 - u)] rfl rfl (cell_one_new _ _ _) (by intro u hu; simp at hu; subst hu; rfl) (by unfold maxLen; omega) (by omega) (by simp; omega) ?_); intro v' w3 hown' hgrow _; have HO3 := Lib.hid hown'; have HG3 := Lib.hid hgrow; clear hown' hgrow)
          have hown2 : Hid (w3.ownsRow w.heap.size 5 1 v' (encL (xs.take (k + 1))).length ((encL (xs.take (k + 1))).map (Value.int .u8))) := by
            rw [take_snoc HU.out, encL_snoc, HE.out]
            simpa [Hid] using HO3.out
          go_roundw
          case rel => exact ⟨k + 1, by omega, by go_num, take_right HA.out HU.out HRU.out, hown2, (hbr.alloc (by omega) _).grown HG3.out (by simp; omega) (fun k hk => (HW.out.lt k hk).1)⟩
          case measure => simp [intOf]; omega
        · go_wp2_with fail
          refine (refRight_is u wr true HRU.out).mono ?_
          rintro e w' ⟨rfl, rfl⟩
          go_wp2_with fail
          refine (refByte_no u wr (by omega)).mono ?_
          rintro e w' ⟨rfl, rfl⟩
          go_wp2_with fail
          refine (sequence_any u wr (by omega) HRU.out).mono ?_
          rintro e w1 ⟨rfl, hr1, hs1, hb1⟩
          have HR1 := Lib.hid hr1
          have HOW := Lib.hid (own_keep HW.out hb1)
          have hbW : Below w.heap.size w w1 := hbr.trans (hb1.mono hsz)
          have hel := encC_len u
          clear hr1
          generalize hln : (encC u).length = ln at *
          have HLN := Lib.hid hln
          clear hln
          go_wp2_with (at_builtin; (refine wpList_append_ri _ rfl (.tmp 39) (.tmp 40) 22 rfl w.heap.size 5 i0 (.int .u8 0) 1 Tryd.underlying22 hi hz0 hz1 hz2 rfl _ _ _ rfl HOW.out .u8 _ _ ln ln _ rfl HR1.out (by unfold maxLen; omega) (by omega) (by omega) ?_); intro v' w3 hown' hgrow; have HO3 := Lib.hid hown'; have HG3 := Lib.hid hgrow; clear hown' hgrow)
          have hown2 : Hid (w3.ownsRow w.heap.size 5 1 v' (encL (xs.take (k + 1))).length ((encL (xs.take (k + 1))).map (Value.int .u8))) := by
            rw [take_snoc HU.out, encL_snoc, List.length_append, HLN.out]
            simpa [Hid] using HO3.out
          go_roundw
          case rel => exact ⟨k + 1, by omega, by go_num, take_right HA.out HU.out HRU.out, hown2, hbW.grown HG3.out (by omega) (fun k hk => (HOW.out.lt k hk).1)⟩
          case measure => simp [intOf]; omega
      | false =>
        have HRU := Lib.hid hru
        clear hru
        go_wp2_with fail
        refine (refRight_is u wr false HRU.out).mono ?_
        rintro e w' ⟨rfl, rfl⟩
        go_wp2
        go_ret2
        exact ⟨hbr, .inr ⟨not_right HU.out HRU.out, rfl⟩⟩
    · have hkn : xs.take k = xs := List.take_of_length_le (by rw [HX.out.len]; omega)
      have HK := Lib.hid hkn
      clear hkn
      go_wp2
      go_ret2
      refine ⟨hbr, .inl ⟨?_, _, rfl, ?_⟩⟩
      · have := HA.out
        rwa [HK.out] at this
      · have := HW.out
        rwa [HK.out] at this
theorem refEncode_yes (w : World) (B : Nat) (A : Option Addr) (n c : Nat) (xs : List Int) (hx : RI .i32 w B A n xs) (hB : B ≤ w.heap.size) (hn : n ≤ 1073741824) (ha : xs.all rightB = true) :
    Calls Tryd.prog 37 #[.slice A n c] w fun e w' => ∃ v, e = .returned (.tuple #[v, .int .i64 0]) ∧ w'.ownsRow w.heap.size 5 1 v (encL xs).length ((encL xs).map (Value.int .u8)) ∧ Below w.heap.size w w' := by
  refine (refEncode_told w B A n c xs hx hB hn).mono ?_
  rintro e w' ⟨hb, ⟨_, v, rfl, ho⟩ | ⟨h, _⟩⟩
  · exact ⟨v, rfl, ho, hb⟩
  · rw [ha] at h; cases h
theorem refEncode_no (w : World) (B : Nat) (A : Option Addr) (n c : Nat) (xs : List Int) (hx : RI .i32 w B A n xs) (hB : B ≤ w.heap.size) (hn : n ≤ 1073741824) (ha : xs.all rightB = false) :
    Calls Tryd.prog 37 #[.slice A n c] w fun e w' => e = .returned (.tuple #[.slice none 0 0, .int .i64 10]) ∧ Below w.heap.size w w' := by
  refine (refEncode_told w B A n c xs hx hB hn).mono ?_
  rintro e w' ⟨hb, ⟨h, _⟩ | ⟨_, rfl⟩⟩
  · rw [ha] at h; cases h
  · exact ⟨rfl, hb⟩

theorem sameL_sameB (xs ys : List Int) : sameL xs ys = sameB xs ys := by
  by_cases h : xs = ys
  · rw [sameL_true h]; simp [sameB, h]
  · rw [sameL_false h]; simp [sameB, h]
end Go.Proofs.YtijlecfjgcohhaaDoor.C
