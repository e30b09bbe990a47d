/-
  Joined: MUtfW, KoY. Each with what its own head says.
-/
import Derived.Test.YthgiikhkcpbpfaaGreatDoorB14
import Derived.Test.YthgiikhkcpbpfaaGreatDoorB13


namespace Go.Proofs.YthgiikhkcpbpfaaGreatDoor.C
open Go.RowKit
open Go.Lib (decodeN)
theorem size_ext (s : ByteArray) (pos : Nat) : (s.extract pos s.size).size = s.size - pos := by simp
theorem gb_ext (s : ByteArray) (pos k : Nat) : gb (s.extract pos s.size) k = gb s (pos + k) := by
 simp only [gb_list]
 have hl : s.size = s.data.toList.length := (Array.length_toList (xs := s.data)).symm
 have he : (s.extract pos s.size).data.toList = s.data.toList.drop pos := by
  rw [Lib.extract_data]
  exact List.take_of_length_le (by rw [List.length_drop]; omega)
 rw [he]
 simp [List.getD_eq_getElem?_getD]
theorem first_ext (s : ByteArray) (pos : Nat) : First (s.extract pos s.size) = firstN (s.size - pos) (gb s pos) (gb s (pos + 1)) (gb s (pos + 2)) (gb s (pos + 3)) := by
 unfold First
 rw [size_ext, gb_ext, gb_ext, gb_ext, gb_ext, Nat.add_zero]
theorem first_good (s : ByteArray) (pos : Nat) (hp : pos < s.size) (h : ¬ decodeN (s.size - pos) (gb s pos) (gb s (pos + 1)) (gb s (pos + 2)) (gb s (pos + 3)) = (65533, 1)) :
  First (s.extract pos s.size) = Utf8.decode s pos ∧ cellAt s pos = ((Utf8.decode s pos).1 : Int) := by
 rw [first_ext, decode_gb, cellAt_eq s pos hp]
 unfold firstN cellN
 rw [if_neg h, if_neg h]
 exact ⟨rfl, rfl⟩
theorem first_wrong (s : ByteArray) (pos : Nat) (hp : pos < s.size) (h : decodeN (s.size - pos) (gb s pos) (gb s (pos + 1)) (gb s (pos + 2)) (gb s (pos + 3)) = (65533, 1)) :
  First (s.extract pos s.size) = (0, 0) ∧ cellAt s pos = -1 - (gb s pos : Int) ∧ (Utf8.decode s pos).2 = 1 := by
 rw [first_ext, decode_gb, cellAt_eq s pos hp]
 unfold firstN cellN
 rw [if_pos h, if_pos h, h]
 exact ⟨rfl, rfl, rfl⟩
theorem first_told (s : ByteArray) (w : World) (h1 : 1 ≤ s.size) (hmax : s.size ≤ maxLen) (F : Nat × Nat) (hF : First s = F) :
  Calls Tryz.prog 29 #[.string s] w fun e w' => e = .returned (.tuple #[.int .i32 (F.1 : Int), .int .i64 (F.2 : Int)]) ∧ Below w.heap.size w w' := by
 subst hF
 exact first_any s w h1 hmax
set_option maxHeartbeats 4000000 in
theorem refOf_any (s : ByteArray) (w : World) (hs : s.size ≤ 1099511627776) :
  Calls Tryz.prog 12 #[.string s] w fun e w' => ∃ v, e = .returned v ∧ w'.ownsRow w.heap.size 30 1 v (ofL s).length ((ofL s).map (Value.int .i32)) ∧ Below w.heap.size w w' := by
 obtain ⟨i0, hi, hz0, hz1, hz2⟩ := info_parts info33
 go_enter Tryz.func12, Tryz.ntmps12
 go_wp2
 go_loopw [3, 4] (fun v pv wr => ∃ (pos b : Nat) (acc : List Int), pv = .int .i64 pos ∧ OfSt s acc b pos ∧ Hid (wr.ownsRow w.heap.size 30 1 v acc.length (acc.map (Value.int .i32))) ∧ Below w.heap.size w wr) (fun _ pv _ => s.size - (intOf pv).toNat)
 case atStart => exact ⟨0, s.size, [], rfl, ofSt_zero s, World.ownsRow_nil _ _ _ _, Below.refl _ _⟩
 case round =>
  obtain ⟨pos, b, acc, rfl, hst, HW, hbr⟩ := hrel
  have HST := Lib.hid hst
  clear hst
  have hsz := hbr.size
  by_cases hp : pos < s.size
  ·obtain ⟨b', hst'⟩ := ofSt_step HST.out hp
   have HS' := Lib.hid hst'
   have hwd := Lib.decode_width_pos s pos hp
   clear hst'
   by_cases hbad : decodeN (s.size - pos) (gb s pos) (gb s (pos + 1)) (gb s (pos + 2)) (gb s (pos + 3)) = (65533, 1)
   ·obtain ⟨hF, hcv, hw1⟩ := first_wrong s pos hp hbad
    have HF := Lib.hid hF
    have HCV := Lib.hid hcv
    have HW1 := Lib.hid hw1
    have g0 := gb_get s pos hp
    have gl := gb_lt s pos
    clear hF hcv hw1 hbad hwd
    generalize gb s pos = b0 at *
    go_wp2_with fail
    refine (first_told (s.extract pos s.size) wr (by rw [size_ext]; omega) (by rw [size_ext]; unfold maxLen; omega) (0, 0) HF.out).mono ?_
    rintro e w1 ⟨rfl, hb1⟩
    have hs1 := hb1.size
    have HOW := Lib.hid (own_keep HW.out hb1)
    have hbW : Below w.heap.size w w1 := hbr.trans (hb1.mono hsz)
    go_wp2_with fail
    refine (refEscape_any (b0 : Int) w1 (by omega) (by omega)).mono ?_
    rintro e w' ⟨rfl, rfl⟩
    go_wp2_with (at_builtin; (refine wpList_append_own _ rfl _ _ 39 rfl w.heap.size 30 i0 (.int .i32 0) 1 4 Tryz.underlying39 hi hz0 hz1 hz2 rfl (by decide) _ _ _ rfl (HOW.out.alloc _) _ 1 1 [.int .i32 (-1 - (b0 : Int))] rfl rfl (cell_one_new _ _ _) (by intro u hu; simp at hu; subst hu; rfl) (by unfold maxLen; have := HST.out.2.2.2; omega) (by have := HST.out.2.2.2; omega) (by simp; omega) ?_); intro v' w3 hown' hgrow _; have HO3 := Lib.hid hown'; have HG3 := Lib.hid hgrow; clear hown' hgrow)
    go_roundw
    case rel => exact ⟨pos + (Utf8.decode s pos).2, b', acc ++ [cellAt s pos], by rw [HW1.out]; go_num, HS'.out, by have := HO3.out; rw [← HCV.out] at this; simpa [Hid] using this, ((hbW.alloc (by omega) _).grown HG3.out (by simp; omega) (fun k hk => (HOW.out.lt k hk).1))⟩
    case measure => simp [intOf]; omega
   ·obtain ⟨hF, hcv⟩ := first_good s pos hp hbad
    have HF := Lib.hid hF
    have HCV := Lib.hid hcv
    have hwl := decodeN_le (s.size - pos) (gb s pos) (gb s (pos + 1)) (gb s (pos + 2)) (gb s (pos + 3)) (by omega)
    rw [← decode_gb] at hwl
    clear hF hcv hbad
    go_wp2_with fail
    refine (first_told (s.extract pos s.size) wr (by rw [size_ext]; omega) (by rw [size_ext]; unfold maxLen; omega) _ HF.out).mono ?_
    rintro e w1 ⟨rfl, hb1⟩
    have hs1 := hb1.size
    have HOW := Lib.hid (own_keep HW.out hb1)
    have hbW : Below w.heap.size w w1 := hbr.trans (hb1.mono hsz)
    have n0 : (((Utf8.decode s pos).2 : Int) == 0) = false := by simp; omega
    go_wp2_with (at_builtin; (refine wpList_append_own _ rfl _ _ 39 rfl w.heap.size 30 i0 (.int .i32 0) 1 4 Tryz.underlying39 hi hz0 hz1 hz2 rfl (by decide) _ _ _ rfl (HOW.out.alloc _) _ 1 1 [.int .i32 ((Utf8.decode s pos).1 : Int)] rfl rfl (cell_one_new _ _ _) (by intro u hu; simp at hu; subst hu; rfl) (by unfold maxLen; have := HST.out.2.2.2; omega) (by have := HST.out.2.2.2; omega) (by simp; omega) ?_); intro v' w3 hown' hgrow _; have HO3 := Lib.hid hown'; have HG3 := Lib.hid hgrow; clear hown' hgrow)
    go_roundw
    case rel => exact ⟨pos + (Utf8.decode s pos).2, b', acc ++ [cellAt s pos], by go_num, HS'.out, by have := HO3.out; rw [← HCV.out] at this; simpa [Hid] using this, ((hbW.alloc (by omega) _).grown HG3.out (by simp; omega) (fun k hk => (HOW.out.lt k hk).1))⟩
    case measure => simp [intOf]; omega
  ·go_wp2
   go_ret
   refine ⟨_, rfl, ?_, hbr⟩
   rw [ofSt_end HST.out hp]
   exact HW.out
end Go.Proofs.YthgiikhkcpbpfaaGreatDoor.C


namespace Go.Proofs.YthgiikhkcpbpfaaGreatDoor.C
open Go.RowKit
def namedK (l : List (Elm × Value)) : List (Value × Value) := (l.filter fun x => !x.1.name.isEmpty).map fun x => (.string (str x.1.name), x.2)
theorem namedK_yes {l : List (Elm × Value)} {e : Elm} {u : Value} (h : e.name ≠ []) : namedK (l ++ [(e, u)]) = namedK l ++ [(.string (str e.name), u)] := by
 unfold namedK
 rw [List.filter_append, List.map_append]
 simp [h]
theorem namedK_no {l : List (Elm × Value)} {e : Elm} {u : Value} (h : e.name = []) : namedK (l ++ [(e, u)]) = namedK l := by
 unfold namedK
 rw [List.filter_append, List.map_append]
 simp [h]
theorem sndV_at3 {xs : List (List Value)} {i : Nat} {a u b : Value} (h : xs[i]? = some [a, u, b]) : (sndV xs)[i]? = some u := by
 unfold sndV
 rw [List.getElem?_map, h]
 rfl
set_option maxRecDepth 100000 in
set_option maxHeartbeats 4000000 in
theorem fillName (T : Nat) (t : TypeId) (l : List Value) (w : World) (v : Value) (es : List Elm) (hl : l[1]? = some v) (hes : OrdR w T v es) (ho : ordB es = true) (hT : T < w.heap.size) :
  Fills 183 (.pointer (some ⟨T, 1, none⟩)) .string T 6 t w l (PName T es) := by
 intro W M hf hr hM hm
 have hn : es.length ≤ 500 := by unfold ordB at ho; simp only [Bool.and_eq_true, decide_eq_true_eq] at ho; exact ho.1
 have hb := hf.belowT (Nat.le_of_lt hT)
 have hWT : T < W.heap.size := by have := hf.size; omega
 have c4 : W.cell? ⟨T, 1, none⟩ = some v := hr.cell (by rw [set_ne (by omega), set_ne (by omega)]; exact hl)
 have hO := hes.on hb (Nat.le_refl _)
 obtain ⟨A, c, xs, rfl, hsi, hel⟩ := hO
 obtain ⟨vs, hvs⟩ : ∃ vs, vs = sndV xs := ⟨_, rfl⟩
 have hlen : vs.length = es.length := by rw [hvs, sndV, List.length_map, hsi.len]
 have hev : ∀ (i : Nat) (e : Elm) (u : Value), es[i]? = some e → vs[i]? = some u → ∃ Ac cc, u = .slice Ac e.cells.length cc ∧ RI .i32 W T Ac e.cells.length e.cells := by
  intro i e u hi hu
  obtain ⟨Ac, cc, hx, hri, _⟩ := hel i e hi
  rw [hvs, sndV_at3 hx] at hu
  exact ⟨Ac, cc, (Option.some.inj hu).symm, hri⟩
 have HSI := Lib.hid hsi
 have HEL := Lib.hid hel
 have HEV := Lib.hid hev
 have HLEN := Lib.hid hlen
 have HVS := Lib.hid hvs
 have HOK := Lib.hid ho
 have HTM : Hid (T < M ∧ T ≤ W.heap.size) := Lib.hid ⟨by omega, by omega⟩
 have HM := Lib.hid hm
 clear hf hr hes hb hl hm hM hT hWT ho hsi hel hev hlen hvs
 go_enter Tryz.func183, Tryz.ntmps183
 go_wp2
 go_loopw [11] (fun iv wr => ∃ k : Nat, k ≤ es.length ∧ iv = .int .i64 k ∧ Hid (Fr W wr (· = M) ∧ MapIs wr M .string (namedK ((es.zip vs).take k)))) (fun iv _ => es.length - (intOf iv).toNat)
 case atStart => exact ⟨0, Nat.zero_le _, rfl, Lib.hid ⟨Fr.refl _ _, HM.out⟩⟩
 case round =>
  obtain ⟨k, hk, rfl, HQ⟩ := hrel
  by_cases hlt : k < es.length
  ·obtain ⟨p, hp⟩ : ∃ p, es[k]? = some p := ⟨_, List.getElem?_eq_getElem hlt⟩
   have hB := keep_map HQ.out.1 HTM.out.2 (Nat.le_of_lt HTM.out.1)
   obtain ⟨ad, a, b, s, rfl, hbl, hx, hc0, hc1, hc2⟩ := (HSI.out.on hB (Nat.le_refl _)).at3 hlt
   obtain ⟨Ac, cc, hx', _⟩ := HEL.out k p hp
   obtain ⟨rfl, rfl, rfl⟩ : a = .string (str p.name) ∧ b = .slice Ac p.cells.length cc ∧ s = .int .i64 p.same := by rw [hx] at hx'; simpa using hx'
   have hz : (es.zip vs)[k]? = some (p, .slice Ac p.cells.length cc) := by rw [List.getElem?_zip_eq_some]; exact ⟨hp, by rw [HVS.out]; exact sndV_at3 hx⟩
   obtain ⟨w2, hw2⟩ : ∃ w2, w2 = wr.alloc (.cells #[.string (str p.name), .slice Ac p.cells.length cc, .int .i64 p.same] 83) := ⟨_, rfl⟩
   have hb2 : Below wr.heap.size wr w2 := by rw [hw2]; exact (Below.refl _ _).alloc (Nat.le_refl _) _
   have hm2 := HQ.out.2.at_ (hb2.block M HQ.out.2.lt)
   have hot := ordK_at HOK.out hp
   have x0 : w2.cell? ⟨wr.heap.size, 0, none⟩ = some (.string (str p.name)) := by rw [hw2]; simp
   have x1 : w2.cell? ⟨wr.heap.size, 1, none⟩ = some (.slice Ac p.cells.length cc) := by rw [hw2]; simp
   have i0 : (0 : Int) ≤ (k : Int) := by omega
   have i1 : (k : Int) < (es.length : Int) := by omega
   have HF2 : Hid (Fr W w2 (· = M)) := Lib.hid (HQ.out.1.trans (.of_below hb2))
   have HZ := Lib.hid hz
   by_cases hnm : p.name = []
   ·have hne3 : str p.name = ⟨#[]⟩ := by rw [hnm]; rfl
    have HEND : Hid (Fr W w2 (· = M) ∧ MapIs w2 M .string (namedK ((es.zip vs).take (k + 1)))) := Lib.hid ⟨HF2.out, by rw [take_one hz, namedK_no hnm]; exact hm2⟩
    rw [hne3] at hw2 x0 hc0
    clear hm2 hb2 hbl hB hp hx hx' hz hot hnm hne3
    subst hw2
    go_wp2
    go_roundw
    case rel => exact ⟨k + 1, by omega, by go_num, HEND⟩
    case measure => simp [intOf]; omega
   ·have hnot : (Value.string (str p.name)) ∉ (namedK ((es.zip vs).take k)).map Prod.fst := by
     intro h
     unfold namedK at h
     rw [List.map_map] at h
     obtain ⟨x, hx1, e⟩ := List.mem_map.1 h
     have e' : x.1.name = p.name := strV_inj e
     have hx2 : x.1 ∈ es.take k := by
      have := (List.mem_filter.1 hx1).1
      obtain ⟨j, hj, e3⟩ := List.mem_take_iff_getElem.1 this
      have h4 : (es.zip vs)[j]? = some x := by rw [List.getElem?_eq_getElem (by omega), e3]
      rw [List.getElem?_zip_eq_some] at h4
      exact List.mem_take_iff_getElem.2 ⟨j, by have := (List.getElem?_eq_some_iff.1 h4.1).1; omega, (List.getElem?_eq_some_iff.1 h4.1).2⟩
     have h5 := hot.2.2.2 hnm
     have h6 : ((es.take k).any fun x => decide (x.name = p.name)) = true := List.any_eq_true.2 ⟨x.1, hx2, by simpa using e'⟩
     rw [h6] at h5
     cases h5
    have hne : (str p.name).toList.isEmpty = false := by
     rw [Lib.toList_data]
     show p.name.isEmpty = false
     cases hl : p.name with
     | nil => exact absurd hl hnm
     | cons a r => rfl
    obtain ⟨ob, hput, hm3⟩ := hm2.put_new (P := Tryz.prog) Tryz.underlying104 Tryz.underlying9 (key := .string (str p.name)) (by first | trivial | rfl) hnot (.slice Ac p.cells.length cc)
    have HEND : Hid (Fr W (putObj w2 M ob) (· = M) ∧ MapIs (putObj w2 M ob) M .string (namedK ((es.zip vs).take (k + 1)))) := Lib.hid ⟨HF2.out.next (.of_grown (putObj_only ob)) (by intro j _ e; injection e with e; exact e.symm), by rw [take_one hz, namedK_yes hnm]; exact hm3⟩
    clear hm2 hm3 hnot hb2 hbl hB hp hx hx' hz hot hnm
    subst hw2
    go_wp2
    go_roundw
    case rel => exact ⟨k + 1, by omega, by go_num, HEND⟩
    case measure => simp [intOf]; omega
  ·obtain rfl : k = es.length := by omega
   have HE : Hid (Fr W wr (· = M) ∧ PName T es wr M) := Lib.hid ⟨HQ.out.1, HTM.out.1, vs, HLEN.out, by
    have := HQ.out.2
    rwa [List.take_of_length_le (by rw [List.length_zip]; omega)] at this, fun i e u a b => by
     obtain ⟨Ac, cc, k1, k2⟩ := HEV.out i e u a b
     have hB := keep_map HQ.out.1 HTM.out.2 (Nat.le_of_lt HTM.out.1)
     exact ⟨Ac, cc, k1, k2.keep fun p hp => hB.cell (p := p) hp⟩⟩
   go_wp2
   go_end0
   exact ⟨rfl, HE.out⟩
end Go.Proofs.YthgiikhkcpbpfaaGreatDoor.C
