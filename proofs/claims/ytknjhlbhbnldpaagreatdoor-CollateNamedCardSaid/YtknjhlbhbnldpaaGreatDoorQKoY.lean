/-
  Elements by their names, asked of a table. Condition: what is asked of the listed variables.
-/
import Derived.Test.YtknjhlbhbnldpaaGreatDoorQKoV
import Derived.Test.YtknjhlbhbnldpaaGreatDoorB20
import Derived.Test.YtknjhlbhbnldpaaGreatDoorB22
import Derived.Test.YtknjhlbhbnldpaaGreatDoorB24
namespace Go.Proofs.YtknjhlbhbnldpaaGreatDoor.C
open Go.RowKit

def namedK (l : List (Elm × Value)) : List (Value × Value) := (l.filter fun x => !x.1.name.isEmpty).map fun x => (.string (str x.1.name), x.2)
theorem namedK_yes {l : List (Elm × Value)} {e : Elm} {u : Value} (h : e.name ≠ []) : namedK (l ++ [(e, u)]) = namedK l ++ [(.string (str e.name), u)] := by
 unfold namedK
 rw [List.filter_append, List.map_append]
 simp [h]
theorem namedK_no {l : List (Elm × Value)} {e : Elm} {u : Value} (h : e.name = []) : namedK (l ++ [(e, u)]) = namedK l := by
 unfold namedK
 rw [List.filter_append, List.map_append]
 simp [h]
theorem sndV_at3 {xs : List (List Value)} {i : Nat} {a u b : Value} (h : xs[i]? = some [a, u, b]) : (sndV xs)[i]? = some u := by
 unfold sndV
 rw [List.getElem?_map, h]
 rfl
set_option maxRecDepth 100000 in
set_option maxHeartbeats 4000000 in
theorem fillName (T : Nat) (t : TypeId) (l : List Value) (w : World) (v : Value) (es : List Elm) (hl : l[1]? = some v) (hes : OrdR w T v es) (ho : ordB es = true) (hT : T < w.heap.size) :
  Fills 84 (.pointer (some ⟨T, 1, none⟩)) .string T 6 t w l (PName T es) := by
 intro W M hf hr hM hm
 have hn : es.length ≤ 500 := by unfold ordB at ho; simp only [Bool.and_eq_true, decide_eq_true_eq] at ho; exact ho.1
 have hb := hf.belowT (Nat.le_of_lt hT)
 have hWT : T < W.heap.size := by have := hf.size; omega
 have c4 : W.cell? ⟨T, 1, none⟩ = some v := hr.cell (by rw [set_ne (by omega), set_ne (by omega)]; exact hl)
 have hO := hes.on hb (Nat.le_refl _)
 obtain ⟨A, c, xs, rfl, hsi, hel⟩ := hO
 obtain ⟨vs, hvs⟩ : ∃ vs, vs = sndV xs := ⟨_, rfl⟩
 have hlen : vs.length = es.length := by rw [hvs, sndV, List.length_map, hsi.len]
 have hev : ∀ (i : Nat) (e : Elm) (u : Value), es[i]? = some e → vs[i]? = some u → ∃ Ac cc, u = .slice Ac e.cells.length cc ∧ RI .i32 W T Ac e.cells.length e.cells := by
  intro i e u hi hu
  obtain ⟨Ac, cc, hx, hri, _⟩ := hel i e hi
  rw [hvs, sndV_at3 hx] at hu
  exact ⟨Ac, cc, (Option.some.inj hu).symm, hri⟩
 have HSI := Lib.hid hsi
 have HEL := Lib.hid hel
 have HEV := Lib.hid hev
 have HLEN := Lib.hid hlen
 have HVS := Lib.hid hvs
 have HOK := Lib.hid ho
 have HTM : Hid (T < M ∧ T ≤ W.heap.size) := Lib.hid ⟨by omega, by omega⟩
 have HM := Lib.hid hm
 clear hf hr hes hb hl hm hM hT hWT ho hsi hel hev hlen hvs
 go_enter Tryz.func84, Tryz.ntmps84
 go_wp2
 go_loopw [11] (fun iv wr => ∃ k : Nat, k ≤ es.length ∧ iv = .int .i64 k ∧ Hid (Fr W wr (· = M) ∧ MapIs wr M .string (namedK ((es.zip vs).take k)))) (fun iv _ => es.length - (intOf iv).toNat)
 case atStart => exact ⟨0, Nat.zero_le _, rfl, Lib.hid ⟨Fr.refl _ _, HM.out⟩⟩
 case round =>
  obtain ⟨k, hk, rfl, HQ⟩ := hrel
  by_cases hlt : k < es.length
  ·obtain ⟨p, hp⟩ : ∃ p, es[k]? = some p := ⟨_, List.getElem?_eq_getElem hlt⟩
   have hB := keep_map HQ.out.1 HTM.out.2 (Nat.le_of_lt HTM.out.1)
   obtain ⟨ad, a, b, s, rfl, hbl, hx, hc0, hc1, hc2⟩ := (HSI.out.on hB (Nat.le_refl _)).at3 hlt
   obtain ⟨Ac, cc, hx', _⟩ := HEL.out k p hp
   obtain ⟨rfl, rfl, rfl⟩ : a = .string (str p.name) ∧ b = .slice Ac p.cells.length cc ∧ s = .int .i64 p.same := by rw [hx] at hx'; simpa using hx'
   have hz : (es.zip vs)[k]? = some (p, .slice Ac p.cells.length cc) := by rw [List.getElem?_zip_eq_some]; exact ⟨hp, by rw [HVS.out]; exact sndV_at3 hx⟩
   obtain ⟨w2, hw2⟩ : ∃ w2, w2 = wr.alloc (.cells #[.string (str p.name), .slice Ac p.cells.length cc, .int .i64 p.same] 39) := ⟨_, rfl⟩
   have hb2 : Below wr.heap.size wr w2 := by rw [hw2]; exact (Below.refl _ _).alloc (Nat.le_refl _) _
   have hm2 := HQ.out.2.at_ (hb2.block M HQ.out.2.lt)
   have hot := ord_at HOK.out hp
   have x0 : w2.cell? ⟨wr.heap.size, 0, none⟩ = some (.string (str p.name)) := by rw [hw2]; simp
   have x1 : w2.cell? ⟨wr.heap.size, 1, none⟩ = some (.slice Ac p.cells.length cc) := by rw [hw2]; simp
   have i0 : (0 : Int) ≤ (k : Int) := by omega
   have i1 : (k : Int) < (es.length : Int) := by omega
   have HF2 : Hid (Fr W w2 (· = M)) := Lib.hid (HQ.out.1.trans (.of_below hb2))
   have HZ := Lib.hid hz
   by_cases hnm : p.name = []
   ·have hne3 : str p.name = ⟨#[]⟩ := by rw [hnm]; rfl
    have HEND : Hid (Fr W w2 (· = M) ∧ MapIs w2 M .string (namedK ((es.zip vs).take (k + 1)))) := Lib.hid ⟨HF2.out, by rw [take_one hz, namedK_no hnm]; exact hm2⟩
    rw [hne3] at hw2 x0 hc0
    clear hm2 hb2 hbl hB hp hx hx' hz hot hnm hne3
    subst hw2
    go_wp2
    go_roundw
    case rel => exact ⟨k + 1, by omega, by go_num, HEND⟩
    case measure => simp [intOf]; omega
   ·have hnot : (Value.string (str p.name)) ∉ (namedK ((es.zip vs).take k)).map Prod.fst := by
     intro h
     unfold namedK at h
     rw [List.map_map] at h
     obtain ⟨x, hx1, e⟩ := List.mem_map.1 h
     have e' : x.1.name = p.name := strV_inj e
     have hx2 : x.1 ∈ es.take k := by
      have := (List.mem_filter.1 hx1).1
      obtain ⟨j, hj, e3⟩ := List.mem_take_iff_getElem.1 this
      have h4 : (es.zip vs)[j]? = some x := by rw [List.getElem?_eq_getElem (by omega), e3]
      rw [List.getElem?_zip_eq_some] at h4
      exact List.mem_take_iff_getElem.2 ⟨j, by have := (List.getElem?_eq_some_iff.1 h4.1).1; omega, (List.getElem?_eq_some_iff.1 h4.1).2⟩
     have h5 := hot.2.2.2 hnm
     have h6 : ((es.take k).any fun x => decide (x.name = p.name)) = true := List.any_eq_true.2 ⟨x.1, hx2, by simpa using e'⟩
     rw [h6] at h5
     cases h5
    have hne : (str p.name).toList.isEmpty = false := by
     rw [Lib.toList_data]
     show p.name.isEmpty = false
     cases hl : p.name with
     | nil => exact absurd hl hnm
     | cons a r => rfl
    obtain ⟨ob, hput, hm3⟩ := hm2.put_new (P := Tryz.prog) Tryz.underlying75 Tryz.underlying9 (key := .string (str p.name)) (by first | trivial | rfl) hnot (.slice Ac p.cells.length cc)
    have HEND : Hid (Fr W (putObj w2 M ob) (· = M) ∧ MapIs (putObj w2 M ob) M .string (namedK ((es.zip vs).take (k + 1)))) := Lib.hid ⟨HF2.out.next (.of_grown (putObj_only ob)) (by intro j _ e; injection e with e; exact e.symm), by rw [take_one hz, namedK_yes hnm]; exact hm3⟩
    clear hm2 hm3 hnot hb2 hbl hB hp hx hx' hz hot hnm
    subst hw2
    go_wp2
    go_roundw
    case rel => exact ⟨k + 1, by omega, by go_num, HEND⟩
    case measure => simp [intOf]; omega
  ·obtain rfl : k = es.length := by omega
   have HE : Hid (Fr W wr (· = M) ∧ PName T es wr M) := Lib.hid ⟨HQ.out.1, HTM.out.1, vs, HLEN.out, by
    have := HQ.out.2
    rwa [List.take_of_length_le (by rw [List.length_zip]; omega)] at this, fun i e u a b => by
     obtain ⟨Ac, cc, k1, k2⟩ := HEV.out i e u a b
     have hB := keep_map HQ.out.1 HTM.out.2 (Nat.le_of_lt HTM.out.1)
     exact ⟨Ac, cc, k1, k2.keep fun p hp => hB.cell (p := p) hp⟩⟩
   go_wp2
   go_end0
   exact ⟨rfl, HE.out⟩
end Go.Proofs.YtknjhlbhbnldpaaGreatDoor.C
