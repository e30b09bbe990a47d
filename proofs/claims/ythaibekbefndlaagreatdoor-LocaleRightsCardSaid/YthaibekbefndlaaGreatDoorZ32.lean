/-
  Joined: LiI. Each with what its own head says.
-/
import Derived.Test.YthaibekbefndlaaGreatDoorZ31
import Derived.Test.YthaibekbefndlaaGreatDoorZ30

namespace Go.Proofs.YthaibekbefndlaaGreatDoor.C
open Go.RowKit

def clsP (nm : List UInt8) (rs : List (Int × Int)) : List UInt8 := prtL (tW wClass :: tW nm :: sepT rangeT rs)
def rngP (r : Int × Int) : List UInt8 := prtL (rangeT r)
theorem clsP_nil (nm : List UInt8) : clsP nm [] = [99, 108, 97, 115, 115, 32] ++ nm ++ [32] := by
 unfold clsP prtL sepT
 simp [prt, tW, wClass]
theorem clsP_first (nm : List UInt8) (r : Int × Int) : clsP nm [r] = clsP nm [] ++ rngP r := by
 unfold clsP rngP prtL
 simp [sepT]
theorem clsP_next (nm : List UInt8) (rs : List (Int × Int)) (r : Int × Int) (h : rs ≠ []) : clsP nm (rs ++ [r]) = clsP nm rs ++ [59, 32] ++ rngP r := by
 unfold clsP rngP
 rw [sepT_snoc _ _ _ h]
 unfold prtL
 simp [prt, tS, sSemi]
theorem rngP_one {a b : Int} (h : b = a) : rngP (a, b) = prt (tC a) := by
 unfold rngP rangeT
 rw [if_pos h]
 simp [prtL]
theorem rngP_two {a b : Int} (h : ¬ b = a) : rngP (a, b) = prt (tC a) ++ [46, 46, 46, 32] ++ prt (tC b) := by
 unfold rngP rangeT
 rw [if_neg h]
 have h1 : prt (tS sThru) = [46, 46, 46, 32] := rfl
 simp [prtL, h1]
theorem clsP_ne (nm : List UInt8) (rs : List (Int × Int)) : clsP nm rs ≠ [] := by
 unfold clsP prtL
 simp [prt, tW]
theorem clsP_line (nm : List UInt8) (rs : List (Int × Int)) : (clsP nm rs).dropLast ++ [10] = lineT (clsT ⟨nm, rs⟩) ∧ (lineT (clsT ⟨nm, rs⟩)).length = (clsP nm rs).length := by
 have h := line_put [] (ts := clsT ⟨nm, rs⟩) (by simp [clsT]) (clsT_kind nm rs)
 simp only [List.nil_append] at h
 exact h
theorem linesT_snoc (X : List (List Tok)) (l : List Tok) : linesT (X ++ [l]) = linesT X ++ lineT l := (linesT_one X l).1
theorem sepP_len : ∀ l : List (Int × Int), (∀ p ∈ l, scalB p.1 = true ∧ scalB p.2 = true) → (prtL (sepT pairT l)).length ≤ 64 * l.length
 | [], _ => by simp [sepT, prtL]
 | [p], h => by
  obtain ⟨h1, h2⟩ := h p (by simp)
  have l1 := prt_tC_len (scalB_lt h1).1 (scalB_lt h1).2
  have l2 := prt_tC_len (scalB_lt h2).1 (scalB_lt h2).2
  have e : prtL (sepT pairT [p]) = [40, 32] ++ (prt (tC p.1) ++ ([44, 32] ++ (prt (tC p.2) ++ [41, 32]))) := by
   have a1 : prt (tS sOpen) = [40, 32] := rfl
   have a2 : prt (tS sComma) = [44, 32] := rfl
   have a3 : prt (tS sShut) = [41, 32] := rfl
   simp [sepT, pairT, prtL, a1, a2, a3]
  rw [e]
  simp only [List.length_append, List.length_cons, List.length_nil]
  omega
 | p :: q :: r, h => by
  obtain ⟨h1, h2⟩ := h p (by simp)
  have l1 := prt_tC_len (scalB_lt h1).1 (scalB_lt h1).2
  have l2 := prt_tC_len (scalB_lt h2).1 (scalB_lt h2).2
  have ih := sepP_len (q :: r) (fun x hx => h x (List.mem_cons_of_mem _ hx))
  have e : prtL (sepT pairT (p :: q :: r)) = [40, 32] ++ (prt (tC p.1) ++ ([44, 32] ++ (prt (tC p.2) ++ ([41, 32] ++ ([59, 32] ++ prtL (sepT pairT (q :: r))))))) := by
   have a1 : prt (tS sOpen) = [40, 32] := rfl
   have a2 : prt (tS sComma) = [44, 32] := rfl
   have a3 : prt (tS sShut) = [41, 32] := rfl
   have a4 : prt (tS sSemi) = [59, 32] := rfl
   rw [show sepT pairT (p :: q :: r) = pairT p ++ tS sSemi :: sepT pairT (q :: r) from rfl]
   simp [pairT, prtL, a1, a2, a3, a4]
  rw [e]
  simp only [List.length_append, List.length_cons, List.length_nil] at ih ⊢
  omega
theorem mapT_len (m : List UInt8) (l : List (Int × Int)) (hm : m.length ≤ 16) (h : ∀ p ∈ l, scalB p.1 = true ∧ scalB p.2 = true) : (linesT (mapT m l)).length ≤ 17 + 64 * l.length := by
 unfold mapT
 by_cases h0 : l = []
 ·rw [if_pos h0]; simp [linesT]
 ·rw [if_neg h0]
  have h1 := (line_put [] (ts := tW m :: sepT pairT l) (by simp) (fun x hx => by
   rcases List.mem_cons.1 hx with rfl | hx
   ·simp [tW]
   ·exact sepT_kind7 _ pairT_kind7 l x hx)).2
  simp only [List.nil_append] at h1
  have h2 := sepP_len l h
  have h3 : (prtL (tW m :: sepT pairT l)).length = m.length + 1 + (prtL (sepT pairT l)).length := by
   simp [prtL, prt, tW]
   omega
  simp only [linesT, List.flatMap_cons, List.flatMap_nil, List.append_nil]
  omega
theorem elem07_line (nm : List UInt8) (cs : List Int) (sm : Int) (h : nm ≠ []) : linesT (elemT ⟨nm, cs, sm⟩) = [99, 111, 108, 108, 97, 116, 105, 110, 103, 45, 101, 108, 101, 109, 101, 110, 116, 32, 60] ++ nm ++ [62, 32, 102, 114, 111, 109, 32, 34] ++ bytesOf cs ++ [34, 10] := by
 unfold elemT itemT
 rw [if_neg h, if_neg h]
 simp [linesT, lineT, bodyT, tW, tN, tQ, wElem, wFrom]
theorem elem_none (cs : List Int) (sm : Int) : elemT ⟨[], cs, sm⟩ = [] := by
 unfold elemT
 rw [if_pos rfl]
theorem ord07_line (o : List Elm) (i : Nat) (e : Elm) : (prtL (ordT o i e)).dropLast ++ [10] = lineT (ordT o i e) ∧ (lineT (ordT o i e)).length = (prtL (ordT o i e)).length := by
 have h := line_put [] (ts := ordT o i e) (by simp [ordT]) (fun x hx => by
  unfold ordT at hx
  rcases List.mem_cons.1 hx with rfl | hx
  ·simp [tW]
  ·rcases List.mem_cons.1 hx with rfl | hx
   ·exact itemT_kind e
   ·split at hx
    ·simp at hx
    ·split at hx
     ·simp at hx
      rcases hx with rfl | rfl
      ·simp [tS]
      ·exact itemT_kind _
     ·simp at hx)
 simp only [List.nil_append] at h
 exact h
theorem ordP_same {o : List Elm} {i : Nat} {e : Elm} (h : e.same = (i : Int)) : prtL (ordT o i e) = [111, 114, 100, 101, 114, 32] ++ prt (itemT e) := by
 rw [ordT_same h]
 have h1 : prt (tW wOrder) = [111, 114, 100, 101, 114, 32] := rfl
 simp [prtL, h1]
theorem ordP_other {o : List Elm} {i j : Nat} {e x : Elm} (h : e.same = (j : Int)) (hij : i ≠ j) (hx : o[j]? = some x) : prtL (ordT o i e) = [111, 114, 100, 101, 114, 32] ++ prt (itemT e) ++ [59, 32] ++ prt (itemT x) := by
 rw [ordT_other h hij hx]
 have h1 : prt (tW wOrder) = [111, 114, 100, 101, 114, 32] := rfl
 have h2 : prt (tS sSemi) = [59, 32] := rfl
 simp [prtL, h1, h2]
theorem ordsT_take {o r : List Elm} {i : Nat} {e : Elm} (h : r[i]? = some e) : ordsT o 0 (r.take (i + 1)) = ordsT o 0 (r.take i) ++ [ordT o i e] := by
 have hi : i < r.length := (List.getElem?_eq_some_iff.1 h).1
 rw [take_one h, ordsT_snoc, Nat.zero_add, List.length_take, Nat.min_eq_left (by omega)]
theorem elemT_take {r : List Elm} {i : Nat} {e : Elm} (h : r[i]? = some e) : (r.take (i + 1)).flatMap elemT = (r.take i).flatMap elemT ++ elemT e := by
 rw [take_one h, List.flatMap_append, List.flatMap_cons, List.flatMap_nil, List.append_nil]
theorem pairsB_both {l : List (Int × Int)} (h : pairsB l = true) : ∀ p ∈ l, scalB p.1 = true ∧ scalB p.2 = true := by
 intro p hp
 obtain ⟨i, hi, rfl⟩ := List.mem_iff_getElem.1 hp
 have h1 := all_range h hi
 unfold pairAt at h1
 rw [List.getElem?_eq_getElem hi] at h1
 simp only [Bool.and_eq_true] at h1
 exact ⟨h1.1.1, h1.1.2⟩
set_option maxRecDepth 100000 in
set_option maxHeartbeats 8000000 in
theorem print07_any (w : World) (B : Nat) (v1 v2 v3 v4 : Value) (l : Loc) (h : LocR w B v1 v2 v3 v4 l) (hB : B ≤ w.heap.size) (hcl : l.cls.length ≤ 500) (hup : l.up.length ≤ 500) (hlo : l.lo.length ≤ 500) (hol : l.ord.length ≤ 500)
  (hn1 : ∀ c ∈ l.cls, c.name.length ≤ 140737488351232 ∧ c.rs.length ≤ 17592186044416) (hn2 : ∀ e ∈ l.ord, e.name.length ≤ 140737488351232) :
  Calls Tryz.prog 26 #[.agg #[v1, v2, v3, v4]] w fun e w' => e = .returned (.tuple #[.string (str (printL l).1), .int .i64 ((printL l).2 : Nat)]) ∧ Below w.heap.size w w' := by
 obtain ⟨⟨A1, c1, x1, rfl, -⟩, ⟨A2, c2, rfl, -⟩, ⟨A3, c3, rfl, -⟩, ⟨A4, c4, x4, rfl, -⟩, -⟩ := id h
 obtain ⟨W, hW⟩ : ∃ W, W = w.alloc (.cells #[.slice A1 l.cls.length c1, .slice A2 l.up.length c2, .slice A3 l.lo.length c3, .slice A4 l.ord.length c4] 26) := ⟨_, rfl⟩
 have hbW : Below w.heap.size w W := by rw [hW]; exact (Below.refl _ _).alloc (Nat.le_refl _) _
 have hL : LocZ W w.heap.size (.slice A1 l.cls.length c1) (.slice A2 l.up.length c2) (.slice A3 l.lo.length c3) (.slice A4 l.ord.length c4) := by
  unfold LocZ
  rw [hW]
  exact heap_alloc_new w _
 have hri := right07_any W B _ _ _ _ l (h.on hbW hB) (Nat.le_trans hB hbW.size) hol
 have HBw : Hid (B ≤ W.heap.size) := Lib.hid (Nat.le_trans hB hbW.size)
 have hR := h.on hbW hB
 obtain ⟨q0, q1, q2, q3⟩ := hL.cells
 rw [hW] at q0 q1 q2 q3
 obtain ⟨S, hS⟩ : ∃ S, w.heap.size = S := ⟨_, rfl⟩
 have HC : Hid (∀ u, Below W.heap.size W u → LocZ u S (.slice A1 l.cls.length c1) (.slice A2 l.up.length c2) (.slice A3 l.lo.length c3) (.slice A4 l.ord.length c4) ∧ LocR u B (.slice A1 l.cls.length c1) (.slice A2 l.up.length c2) (.slice A3 l.lo.length c3) (.slice A4 l.ord.length c4) l) := Lib.hid (fun u hu => ⟨by rw [← hS]; exact (hu.block _ hL.lt).trans hL, hR.on hu HBw.out⟩)
 have HBW : Hid (Below S w W) := Lib.hid (by rw [← hS]; exact hbW)
 have HSW : Hid (S ≤ W.heap.size) := Lib.hid (by rw [← hS]; exact hbW.size)
 have HN := Lib.hid (And.intro hn1 hn2)
 rw [hS]
 rw [hS] at q0 q1 q2 q3
 have HSS := Lib.hid hS
 clear h hbW hL hn1 hn2 hR
 go_enter Tryz.func26, Tryz.ntmps26
 go_wp2_with fail
 rw [← hW]
 with_reducible refine hri.mono ?_
 rintro e w2 ⟨rfl, hb2⟩
 try rw [hS]
 have HB2 := Lib.hid hb2
 clear hri hb2 hW hS q0 q1 q2 q3
 by_cases hr : rightL l = true
 rotate_left
 ·have hr0 : rightL l = false := by simpa using hr
  have HF : Hid (printL l = ([], 1)) := Lib.hid (by unfold printL; rw [hr0]; rfl)
  rw [hr0]
  clear hr hr0
  go_wp2
  go_ret2
  exact ⟨by rw [HF.out]; rfl, HBW.out.trans (HB2.out.mono HSW.out)⟩
 ·rw [hr]
  have HPO := Lib.hid (prtOk_of hr (fun c hc => (HN.out.1 c hc).1) HN.out.2)
  have HRT := Lib.hid hr
  clear hr
  go_upto_block 0 with fail
  go_cut [4] (fun s wx => ∃ T : ByteArray, s = .string T ∧ T.size ≤ 2251799813685248 * 500 ∧ Hid (T = str (linesT (l.cls.map clsT)) ∧ Below W.heap.size W wx))
  case first =>
   go_wp2
   go_loopw [4, 5] (fun sv iv wr => ∃ (i : Nat) (T : ByteArray), i ≤ l.cls.length ∧ iv = .int .i64 i ∧ sv = .string T ∧ T.size ≤ 2251799813685248 * i ∧ Hid (T = str (linesT ((l.cls.take i).map clsT)) ∧ Below W.heap.size W wr)) (fun _ iv _ => l.cls.length - (intOf iv).toNat)
   case atStart => exact ⟨0, ⟨#[]⟩, Nat.zero_le _, rfl, rfl, Nat.zero_le _, Lib.hid ⟨rfl, HB2.out⟩⟩
   case round =>
    obtain ⟨wp, hwp⟩ : ∃ wp, wp = wr := ⟨_, rfl⟩
    subst hwp
    obtain ⟨i, T, hin, rfl, rfl, hsz, HQ⟩ := hrel
    have hc := HC.out wp HQ.out.2
    obtain ⟨q0, -, -, -⟩ := hc.1.cells
    by_cases hlt : i < l.cls.length
    ·obtain ⟨k, hk⟩ : ∃ k, l.cls[i]? = some k := ⟨_, List.getElem?_eq_getElem hlt⟩
     obtain ⟨ad, cx, A, cc, hv, hbl, d0, d1, hpr, hle⟩ := clsR_at hc.2.1 hk
     injection hv with hv hv2 hv3
     clear hv2
     subst hv hv3
     have hkm := List.mem_of_getElem? hk
     have HTK := Lib.hid (take_one hk)
     obtain ⟨hnm, hrs⟩ := HN.out.1 _ hkm
     have hsc := (HPO.out.cls _ hkm).1
     obtain ⟨nm, rs⟩ := k
     dsimp only at d0 d1 hpr hle hnm hrs hsc
     have i0 : (0 : Int) ≤ (i : Int) := by omega
     have i1 : (i : Int) < (l.cls.length : Int) := by omega
     obtain ⟨NM, hNM⟩ : ∃ NM, NM = str nm := ⟨_, rfl⟩
     have zN : NM.size ≤ 140737488351232 := by rw [hNM, str_size]; exact hnm
     rw [← hNM] at d0
     obtain ⟨X1, h1⟩ : ∃ X, X = (⟨#[99, 108, 97, 115, 115, 32]⟩ : ByteArray) ++ NM := ⟨_, rfl⟩
     obtain ⟨X2, h2⟩ : ∃ X, X = X1 ++ (⟨#[32]⟩ : ByteArray) := ⟨_, rfl⟩
     have z1 : X1.size ≤ 140737488351238 := by rw [h1, ByteArray.size_append]; show 6 + NM.size ≤ _; omega
     have z2 : X2.size ≤ 140737488351239 := by rw [h2, ByteArray.size_append]; show X1.size + 1 ≤ _; omega
     have HX2 : Hid (X2 = str (clsP nm [])) := Lib.hid (by rw [h2, h1, hNM, clsP_nil]; show str [99, 108, 97, 115, 115, 32] ++ str nm ++ str [32] = _; simp only [str_append])
     have e1 := h1.symm
     have e2 := h2.symm
     have HPR := Lib.hid hpr
     have HBp : Hid (B ≤ wp.heap.size) := Lib.hid (Nat.le_trans HBw.out HQ.out.2.size)
     have HSp : Hid (S < wp.heap.size) := Lib.hid hc.1.lt
     have hbp : ad.block < wp.heap.size := Nat.lt_of_lt_of_le hbl HBp.out
     have HD : Hid (∀ u, Below wp.heap.size wp u → u.cell? ⟨S, 0, none⟩ = some (.slice (some ad) l.cls.length c1) ∧ u.cell? ⟨(ad.add (i * 2)).block, (ad.add (i * 2)).off + 1, none⟩ = some (.slice A rs.length cc)) := Lib.hid (fun u hu => ⟨(hu.cell (p := ⟨S, 0, none⟩) HSp.out).trans q0, (hu.cell (p := ⟨_, _, none⟩) (by rw [block_of_add]; exact hbp)).trans d1⟩)
     have HSC := Lib.hid hsc
     clear hc hk hbl hpr hle hkm hnm hsc hNM h1 h2 d1 hbp
     go_upto_block 2 with fail
     clear e1 e2 d0
     go_cut [6] (fun s wx => ∃ Y : ByteArray, s = .string Y ∧ Y.size ≤ 140737488351239 + 64 * rs.length ∧ Hid (Y = str (clsP nm rs) ∧ Below wp.heap.size wp wx))
     case first =>
      go_wp2
      go_loopw [6, 7] (fun sv jv wr => ∃ (j : Nat) (Y : ByteArray), j ≤ rs.length ∧ jv = .int .i64 j ∧ sv = .string Y ∧ Y.size ≤ 140737488351239 + 64 * j ∧ Hid (Y = str (clsP nm (rs.take j)) ∧ Below wp.heap.size wp wr)) (fun _ jv _ => rs.length - (intOf jv).toNat)
      case atStart => exact ⟨0, X2, Nat.zero_le _, rfl, rfl, by omega, Lib.hid ⟨HX2.out, Below.refl _ _⟩⟩
      case round =>
       obtain ⟨wq, hwq⟩ : ∃ wq, wq = wr := ⟨_, rfl⟩
       subst hwq
       obtain ⟨j, Y, hjn, rfl, rfl, hys, HY⟩ := hrel
       obtain ⟨g0, g1⟩ := HD.out wq HY.out.2
       by_cases hj : j < rs.length
       ·obtain ⟨r, hr⟩ : ∃ r, rs[j]? = some r := ⟨_, List.getElem?_eq_getElem hj⟩
        obtain ⟨Ap, cp, hg, hsi⟩ := HPR.out.on HY.out.2 HBp.out
        injection hg with hg hg2 hg3
        clear hg2
        subst hg hg3
        obtain ⟨rd, rfl, hrb, y0, y1⟩ := prsR_at hsi hr
        have HTK2 := Lib.hid (take_one hr)
        obtain ⟨⟨a0, a1⟩, b0, b1⟩ := HSC.out r (List.mem_of_getElem? hr)
        obtain ⟨a, b⟩ := r
        dsimp only at y0 y1 a0 a1 b0 b1
        have j0 : (0 : Int) ≤ (j : Int) := by omega
        have j1 : (j : Int) < (rs.length : Int) := by omega
        have la := prt_tC_len a0 (by omega : a < 16777216)
        have lb := prt_tC_len b0 (by omega : b < 16777216)
        obtain ⟨UA, hUA⟩ : ∃ U, U = str (prt (tC a)) := ⟨_, rfl⟩
        obtain ⟨UB, hUB⟩ : ∃ U, U = str (prt (tC b)) := ⟨_, rfl⟩
        have ua : UA.size ≤ 18 := by rw [hUA, str_size]; exact la
        have ub : UB.size ≤ 18 := by rw [hUB, str_size]; exact lb
        have hua : ∀ W, Calls Tryz.prog 43 #[.int .i32 a] W fun e w' => e = .returned (.string UA) ∧ Below W.heap.size W w' := fun W => by rw [hUA]; exact u07_any a W a0 (by omega)
        have hub : ∀ W, Calls Tryz.prog 43 #[.int .i32 b] W fun e w' => e = .returned (.string UB) ∧ Below W.heap.size W w' := fun W => by rw [hUB]; exact u07_any b W b0 (by omega)
        have HUA := Lib.hid hua
        have HUB := Lib.hid hub
        obtain ⟨W2, hW2⟩ : ∃ W2, W2 = wq.alloc (.cells #[.int .i32 a, .int .i32 b] 51) := ⟨_, rfl⟩
        have hbq : Below wq.heap.size wq W2 := by rw [hW2]; exact (Below.refl _ _).alloc (Nat.le_refl _) _
        have HBQ : Hid (Below wp.heap.size wp W2) := Lib.hid (HY.out.2.trans (hbq.mono HY.out.2.size))
        have hRw : Rw W2 wq.heap.size 51 #[.int .i32 a, .int .i32 b] := by rw [hW2]; exact heap_alloc_new wq _
        have HRW := Lib.hid hRw
        obtain ⟨Z1, hZ1⟩ : ∃ Z1, Z1 = if j = 0 then Y else Y ++ (⟨#[59, 32]⟩ : ByteArray) := ⟨_, rfl⟩
        obtain ⟨Z2, hZ2⟩ : ∃ Z, Z = Z1 ++ UA := ⟨_, rfl⟩
        obtain ⟨Z3, hZ3⟩ : ∃ Z, Z = Z2 ++ (⟨#[46, 46, 46, 32]⟩ : ByteArray) := ⟨_, rfl⟩
        obtain ⟨Z4, hZ4⟩ : ∃ Z, Z = Z3 ++ UB := ⟨_, rfl⟩
        have z3 : Z1.size ≤ 140737488351241 + 64 * j := by
         rw [hZ1]
         split
         ·omega
         ·rw [ByteArray.size_append]; show Y.size + 2 ≤ _; omega
        have z4 : Z2.size ≤ 140737488351259 + 64 * j := by rw [hZ2, ByteArray.size_append]; omega
        have z5 : Z3.size ≤ 140737488351263 + 64 * j := by rw [hZ3, ByteArray.size_append]; show Z2.size + 4 ≤ _; omega
        have z6 : Z4.size ≤ 140737488351281 + 64 * j := by rw [hZ4, ByteArray.size_append]; omega
        have hpre : str (clsP nm (rs.take (j + 1))) = Z1 ++ str (rngP (a, b)) := by
         rw [HTK2.out, hZ1, HY.out.1]
         by_cases h0 : j = 0
         ·rw [if_pos h0, h0, List.take_zero, List.nil_append, clsP_first, str_append]
         ·rw [if_neg h0, clsP_next _ _ _ (by intro he; have h9 := congrArg List.length he; rw [List.length_take, List.length_nil] at h9; omega)]
          show _ = str _ ++ str [59, 32] ++ str _
          simp only [str_append]
        have HN1 : Hid (b = a → Z2 = str (clsP nm (rs.take (j + 1)))) := Lib.hid (fun hab => by rw [hpre, rngP_one hab, hZ2, hUA])
        have HN2 : Hid (¬ b = a → Z4 = str (clsP nm (rs.take (j + 1)))) := Lib.hid (fun hab => by
         rw [hpre, rngP_two hab, hZ4, hZ3, hZ2, hUA, hUB, ← str_append, ← str_append, ByteArray.append_assoc, ByteArray.append_assoc, ByteArray.append_assoc]
         rfl)
        have HS1 := Lib.hid hZ1
        have e4 := hZ2.symm
        have e5 := hZ3.symm
        have e6 := hZ4.symm
        clear hr hsi hrb hUA hUB la lb hpre hZ1 hZ2 hZ3 hZ4 hua hub hRw
        go_upto_if 56 with fail
        rw [← hW2]
        clear y0 y1 g0 g1
        go_cut [6] (fun s wx => s = .string Z1 ∧ wx = W2)
        case first =>
         by_cases h0 : j = 0
         ·have hS : Z1 = Y := by rw [HS1.out, if_pos h0]
          have g0 : ¬ (0 : Int) < (j : Int) := by omega
          have HSE := Lib.hid hS
          clear hS h0 e4 e5 e6
          go_wp2
          go_meet
          exact ⟨by rw [HSE.out], hW2.symm⟩
         ·have hS : Y ++ (⟨#[59, 32]⟩ : ByteArray) = Z1 := by rw [HS1.out, if_neg h0]
          have g0 : (0 : Int) < (j : Int) := by omega
          clear h0 e4 e5 e6
          go_wp2
          go_meet
          exact ⟨rfl, hW2.symm⟩
        case rest =>
         obtain ⟨rfl, hwc⟩ := hcut
         subst hwc
         have x0 : wc.cell? ⟨wq.heap.size, 0, none⟩ = some (.int .i32 a) := HRW.out.cell rfl
         have hcu := HUA.out wc
         clear hW2 hbq
         go_wp2_with fail
         with_reducible refine hcu.mono ?_
         rintro e w4 ⟨rfl, hb4⟩
         have hR4 : Rw w4 wq.heap.size 51 #[.int .i32 a, .int .i32 b] := (hb4.block _ HRW.out.lt).trans HRW.out
         have x2 : w4.cell? ⟨wq.heap.size, 0, none⟩ = some (.int .i32 a) := hR4.cell rfl
         have x3 : w4.cell? ⟨wq.heap.size, 1, none⟩ = some (.int .i32 b) := hR4.cell rfl
         have HB4 : Hid (Below wp.heap.size wp w4) := Lib.hid (HBQ.out.trans (hb4.mono HBQ.out.size))
         clear hcu hb4 hR4 x0
         by_cases hab : b = a
         ·have HE := Lib.hid (HN1.out hab)
          clear e5 e6
          go_wp2
          go_roundw
          case rel => exact ⟨j + 1, Z2, by omega, by go_num, rfl, by omega, Lib.hid ⟨HE.out, HB4.out⟩⟩
          case measure => simp [intOf]; omega
         ·have HE := Lib.hid (HN2.out hab)
          have hcu := HUB.out w4
          go_wp2_with fail
          with_reducible refine hcu.mono ?_
          rintro e w5 ⟨rfl, hb5⟩
          have HB5 : Hid (Below wp.heap.size wp w5) := Lib.hid (HB4.out.trans (hb5.mono HB4.out.size))
          clear hcu hb5
          go_wp2
          go_roundw
          case rel => exact ⟨j + 1, Z4, by omega, by go_num, rfl, by omega, Lib.hid ⟨HE.out, HB5.out⟩⟩
          case measure => simp [intOf]; omega
       ·obtain rfl : j = rs.length := by omega
        have HE : Hid (Y = str (clsP nm rs)) := Lib.hid (by rw [HY.out.1, List.take_length])
        have HY2 := Lib.hid HY.out.2
        clear hj HY
        go_wp2
        go_meet
        exact ⟨Y, rfl, hys, Lib.hid ⟨HE.out, HY2.out⟩⟩
     case rest =>
      generalize wc = wB at *
      obtain ⟨Y, rfl, hYs, HY⟩ := hcut
      have hYl : Y.size = (clsP nm rs).length := by rw [HY.out.1, str_size]
      obtain ⟨hl1, hl2⟩ := clsP_line nm rs
      have hcu := cut07_any (clsP nm rs) (clsP_ne nm rs) (by omega) wB
      rw [hl1, ← HY.out.1] at hcu
      obtain ⟨L, hL⟩ : ∃ L, L = str (lineT (clsT ⟨nm, rs⟩)) := ⟨_, rfl⟩
      rw [← hL] at hcu
      have zL : L.size = Y.size := by rw [hL, str_size, hl2, hYl]
      obtain ⟨T2, hT2⟩ : ∃ T2, T2 = T ++ L := ⟨_, rfl⟩
      have zT : T2.size ≤ 2251799813685248 * (i + 1) := by rw [hT2, ByteArray.size_append]; omega
      have zT1 : T.size + L.size ≤ 2251799813685248 * 501 := by omega
      have HT2 : Hid (T2 = str (linesT ((l.cls.take (i + 1)).map clsT))) := Lib.hid (by rw [hT2, HQ.out.1, hL, str_append, HTK.out, List.map_append, List.map_cons, List.map_nil, linesT_snoc])
      have e3 := hT2.symm
      have HBb : Hid (Below W.heap.size W wB) := Lib.hid (HQ.out.2.trans (HY.out.2.mono HQ.out.2.size))
      clear hYl hl1 hl2 hL hT2 HY q0
      go_wp2_with fail
      with_reducible refine hcu.mono ?_
      rintro e w5 ⟨rfl, hwe⟩
      have hwe := hwe.symm
      subst hwe
      clear hcu
      go_wp2
      go_roundw
      case rel => exact ⟨i + 1, T2, by omega, by go_num, rfl, zT, Lib.hid ⟨HT2.out, HBb.out⟩⟩
      case measure => simp [intOf]; omega
    ·obtain rfl : i = l.cls.length := by omega
     have HT2 : Hid (T = str (linesT (l.cls.map clsT))) := Lib.hid (by rw [HQ.out.1, List.take_length])
     have HQ2 := Lib.hid HQ.out.2
     clear hlt hc HQ
     go_wp2
     go_meet
     exact ⟨T, rfl, by omega, Lib.hid ⟨HT2.out, HQ2.out⟩⟩
  case rest =>
   generalize wc = wA at *
   obtain ⟨TA, rfl, hTA, HA⟩ := hcut
   obtain ⟨p2, p3⟩ := (And.intro (HC.out wA HA.out.2).1.cells.2.1 (HC.out wA HA.out.2).1.cells.2.2.1)
   have hsu : ∀ p ∈ l.up, scalB p.1 = true ∧ scalB p.2 = true := by
    have h1 := HRT.out
    unfold rightL at h1
    simp only [Bool.and_eq_true] at h1
    exact pairsB_both h1.1.1.2
   have hsl : ∀ p ∈ l.lo, scalB p.1 = true ∧ scalB p.2 = true := by
    have h1 := HRT.out
    unfold rightL at h1
    simp only [Bool.and_eq_true] at h1
    exact pairsB_both h1.1.2
   have lu := mapT_len wUpper l.up (by decide) hsu
   have ll := mapT_len wLower l.lo (by decide) hsl
   obtain ⟨MU, hMU⟩ : ∃ M, M = str (linesT (mapT wUpper l.up)) := ⟨_, rfl⟩
   obtain ⟨ML, hML⟩ : ∃ M, M = str (linesT (mapT wLower l.lo)) := ⟨_, rfl⟩
   have zu : MU.size ≤ 40000 := by rw [hMU, str_size]; omega
   have zl : ML.size ≤ 40000 := by rw [hML, str_size]; omega
   have HMU : Hid (∀ u, Below W.heap.size W u → Calls Tryz.prog 45 #[.string ⟨#[116, 111, 117, 112, 112, 101, 114]⟩, .slice A2 l.up.length c2] u fun e w' => e = .returned (.string MU) ∧ Below u.heap.size u w') := Lib.hid (fun u hu => by
    rw [hMU]
    exact maps07_any u B _ wUpper l.up (HC.out u hu).2.2.1 (Nat.le_trans HBw.out hu.size) (by omega) hsu (by decide))
   have HML : Hid (∀ u, Below W.heap.size W u → Calls Tryz.prog 45 #[.string ⟨#[116, 111, 108, 111, 119, 101, 114]⟩, .slice A3 l.lo.length c3] u fun e w' => e = .returned (.string ML) ∧ Below u.heap.size u w') := Lib.hid (fun u hu => by
    rw [hML]
    exact maps07_any u B _ wLower l.lo (HC.out u hu).2.2.2.1 (Nat.le_trans HBw.out hu.size) (by omega) hsl (by decide))
   obtain ⟨TU, hTU⟩ : ∃ T, T = TA ++ MU := ⟨_, rfl⟩
   obtain ⟨TB, hTB⟩ : ∃ T, T = TU ++ ML := ⟨_, rfl⟩
   have zU : TU.size ≤ 2251799813685248 * 500 + 40000 := by rw [hTU, ByteArray.size_append]; omega
   have zB : TB.size ≤ 2251799813685248 * 500 + 80000 := by rw [hTB, ByteArray.size_append]; omega
   have HTB : Hid (TB = str (linesT (l.cls.map clsT ++ mapT wUpper l.up ++ mapT wLower l.lo))) := Lib.hid (by rw [hTB, hTU, HA.out.1, hMU, hML, str_append, str_append, linesT_app, linesT_app])
   have e1 := hTU.symm
   have e2 := hTB.symm
   have n1 : ¬ 9223372036854775807 < TA.size + MU.size := by omega
   have n2 : ¬ 9223372036854775807 < TU.size + ML.size := by omega
   clear hsu hsl lu ll hMU hML hTU hTB
   have HS18 : Hid (∀ u, Below W.heap.size W u → u.cell? ⟨S, 1, none⟩ = some (.slice A2 l.up.length c2) ∧ u.cell? ⟨S, 2, none⟩ = some (.slice A3 l.lo.length c3)) := Lib.hid (fun u hu => ⟨(HC.out u hu).1.cells.2.1, (HC.out u hu).1.cells.2.2.1⟩)
   go_upto_region 18 with fail
   refine wp_region_held (S := fun W' : World => W'.cell? ⟨S, 1, none⟩ = some (.slice A2 l.up.length c2) ∧ W'.cell? ⟨S, 2, none⟩ = some (.slice A3 l.lo.length c3)) (by kernel_rfl) ?_
   change wpAnyH _ _ _ _ _ _ _ _ wA.drew
   have hbA : Below W.heap.size W wA.drew := ⟨HA.out.2.os, HA.out.2.tape, HA.out.2.output, HA.out.2.size, HA.out.2.block⟩
   have hS1 : (fun W' : World => W'.cell? ⟨S, 1, none⟩ = some (.slice A2 l.up.length c2) ∧ W'.cell? ⟨S, 2, none⟩ = some (.slice A3 l.lo.length c3)) wA.drew := HS18.out _ hbA
   clear p2 p3
   iterate 3 (refine wpH rfl rfl ?_; try simp only [Act.put, g1, g2, g3, g4, g5, g6])
   refine wpHn 5 rfl ?_
   try simp only [Act.put, g1, g2, g3, g4, g5, g6]
   refine wpHn 6 rfl ?_
   try simp only [Act.put, g1, g2, g3, g4, g5, g6]
   have hcu := HMU.out _ hbA
   refine wpAnyH_one (i := 3) (by kernel_rfl) rfl (fun K hK => ?_)
   simp only [g4, g5, g6]
   go_simp
   go_at_call 45
   with_reducible refine hcu.mono ?_
   rintro e1' u1 ⟨rfl, hbn⟩
   have hb1 : Below W.heap.size W u1 := hbA.trans (hbn.mono hbA.size)
   refine hK.out _ _ (HS18.out u1 hb1) (fun hS2 => ?_)
   clear hcu hbn hS1
   iterate 1 (refine wpH rfl rfl ?_; try simp only [Act.put, g1, g2, g3, g4, g5, g6])
   have hcu := HML.out _ hb1
   refine wpAnyH_one (i := 7) (by kernel_rfl) rfl (fun K hK => ?_)
   simp only [g4, g5, g6]
   go_simp
   go_at_call 45
   with_reducible refine hcu.mono ?_
   rintro e1' u2 ⟨rfl, hbn⟩
   have hb2 : Below W.heap.size W u2 := hb1.trans (hbn.mono hb1.size)
   refine hK.out _ _ (HS18.out u2 hb2) (fun hS3 => ?_)
   clear hcu hbn hS2
   iterate 2 (refine wpH rfl rfl ?_; try simp only [Act.put, g1, g2, g3, g4, g5, g6])
   refine wpAnyH_done (by kernel_rfl) ?_ _
   have HB18 := Lib.hid hb2
   clear hS3 hb1 hb2 hbA e1 e2 n1 n2
   go_upto_block 4 with fail
   go_cut [4] (fun s wx => ∃ T : ByteArray, s = .string T ∧ T.size ≤ 2251799813685248 * 1001 ∧ Hid (T = str (linesT (l.cls.map clsT ++ mapT wUpper l.up ++ mapT wLower l.lo ++ l.ord.flatMap elemT)) ∧ Below W.heap.size W wx))
   case first =>
    go_wp2
    go_loopw [4, 9] (fun sv iv wr => ∃ (i : Nat) (T : ByteArray), i ≤ l.ord.length ∧ iv = .int .i64 i ∧ sv = .string T ∧ T.size ≤ 2251799813685248 * 500 + 80000 + 281474976710656 * i ∧ Hid (T = str (linesT (l.cls.map clsT ++ mapT wUpper l.up ++ mapT wLower l.lo ++ (l.ord.take i).flatMap elemT)) ∧ Below W.heap.size W wr)) (fun _ iv _ => l.ord.length - (intOf iv).toNat)
    case atStart => exact ⟨0, TB, Nat.zero_le _, rfl, rfl, by omega, Lib.hid ⟨by rw [HTB.out, List.take_zero, List.flatMap_nil, List.append_nil], HB18.out⟩⟩
    case round =>
     obtain ⟨wp, hwp⟩ : ∃ wp, wp = wr := ⟨_, rfl⟩
     subst hwp
     obtain ⟨i, T, hin, rfl, rfl, hsz, HQ⟩ := hrel
     have hc := HC.out wp HQ.out.2
     obtain ⟨-, -, -, q3⟩ := hc.1.cells
     by_cases hlt : i < l.ord.length
     ·obtain ⟨e, he⟩ : ∃ e, l.ord[i]? = some e := ⟨_, List.getElem?_eq_getElem hlt⟩
      obtain ⟨ad, cx, Ac, cc, hv, hbl, d0, d1, d2, hre⟩ := elmR_at hc.2.2.2.2.1 he
      injection hv with hv hv2 hv3
      clear hv2
      subst hv hv3
      have hem := List.mem_of_getElem? he
      have HTK := Lib.hid (elemT_take he)
      have hnm := HN.out.2 _ hem
      have henc := HPO.out.enc _ hem
      obtain ⟨nm, cs, sm⟩ := e
      dsimp only at d0 d1 d2 hre hnm henc
      have i0 : (0 : Int) ≤ (i : Int) := by omega
      have i1 : (i : Int) < (l.ord.length : Int) := by omega
      by_cases hn : nm = []
      ·subst hn
       have hemp : (str []).toList.isEmpty = true := by rw [str_empty]; rfl
       have HE : Hid (T = str (linesT (l.cls.map clsT ++ mapT wUpper l.up ++ mapT wLower l.lo ++ (l.ord.take (i + 1)).flatMap elemT))) := Lib.hid (by rw [HTK.out, elem_none, List.append_nil]; exact HQ.out.1)
       have HQ2 := Lib.hid HQ.out.2
       clear hc he hbl hre hem hnm henc HQ
       go_wp2
       go_roundw
       case rel => exact ⟨i + 1, T, by omega, by go_num, rfl, by omega, Lib.hid ⟨HE.out, HQ2.out⟩⟩
       case measure => simp [intOf]; omega
      ·have hemp : (str nm).toList.isEmpty = false := by
        rw [str_empty]
        cases hq : nm with
        | nil => exact absurd hq hn
        | cons => rfl
       obtain ⟨hl4, hall⟩ := henc hn
       have HBp : Hid (B ≤ wp.heap.size) := Lib.hid (Nat.le_trans HBw.out HQ.out.2.size)
       have hen := refEncode_yes wp B Ac cs.length cc cs hre HBp.out (by omega) hall
       have hXl := bytesOf_len cs
       obtain ⟨NM, hNM⟩ : ∃ N, N = str nm := ⟨_, rfl⟩
       obtain ⟨XB, hXB⟩ : ∃ X, X = str (bytesOf cs) := ⟨_, rfl⟩
       have zn : NM.size ≤ 140737488351232 := by rw [hNM, str_size]; exact hnm
       have zx : XB.size ≤ 16 := by rw [hXB, str_size]; omega
       rw [← hNM] at d0 hemp
       obtain ⟨T1, h1⟩ : ∃ X, X = T ++ (⟨#[99, 111, 108, 108, 97, 116, 105, 110, 103, 45, 101, 108, 101, 109, 101, 110, 116, 32, 60]⟩ : ByteArray) := ⟨_, rfl⟩
       obtain ⟨T2, h2⟩ : ∃ X, X = T1 ++ NM := ⟨_, rfl⟩
       obtain ⟨T3, h3⟩ : ∃ X, X = T2 ++ (⟨#[62, 32, 102, 114, 111, 109, 32, 34]⟩ : ByteArray) := ⟨_, rfl⟩
       obtain ⟨T4, h4⟩ : ∃ X, X = T3 ++ XB := ⟨_, rfl⟩
       obtain ⟨T5, h5⟩ : ∃ X, X = T4 ++ (⟨#[34, 10]⟩ : ByteArray) := ⟨_, rfl⟩
       have z1 : T1.size ≤ T.size + 19 := by rw [h1, ByteArray.size_append]; exact Nat.le_refl _
       have z2 : T2.size ≤ T.size + 19 + NM.size := by rw [h2, ByteArray.size_append]; omega
       have z3 : T3.size ≤ T.size + 27 + NM.size := by rw [h3, ByteArray.size_append]; show T2.size + 8 ≤ _; omega
       have z4 : T4.size ≤ T.size + 43 + NM.size := by rw [h4, ByteArray.size_append]; omega
       have z5 : T5.size ≤ 2251799813685248 * 500 + 80000 + 281474976710656 * (i + 1) := by rw [h5, ByteArray.size_append]; show T4.size + 2 ≤ _; omega
       have HE : Hid (T5 = str (linesT (l.cls.map clsT ++ mapT wUpper l.up ++ mapT wLower l.lo ++ (l.ord.take (i + 1)).flatMap elemT))) := Lib.hid (by
        rw [HTK.out, ← List.append_assoc (l.cls.map clsT ++ mapT wUpper l.up ++ mapT wLower l.lo), linesT_app, elem07_line nm cs sm hn, h5, h4, h3, h2, h1, hXB, hNM, HQ.out.1]
        show str _ ++ str [99, 111, 108, 108, 97, 116, 105, 110, 103, 45, 101, 108, 101, 109, 101, 110, 116, 32, 60] ++ str nm ++ str [62, 32, 102, 114, 111, 109, 32, 34] ++ str (bytesOf cs) ++ str [34, 10] = _
        simp only [str_append, List.append_assoc])
       have e1 := h1.symm
       have e2 := h2.symm
       have e3 := h3.symm
       have e4 := h4.symm
       have e5 := h5.symm
       have n1 : ¬ 9223372036854775807 < T.size + 19 := by omega
       have n2 : ¬ 9223372036854775807 < T1.size + NM.size := by omega
       have n3 : ¬ 9223372036854775807 < T2.size + 8 := by omega
       have n4 : ¬ 9223372036854775807 < T3.size + XB.size := by omega
       have n5 : ¬ 9223372036854775807 < T4.size + 2 := by omega
       have hbp : ad.block < wp.heap.size := Nat.lt_of_lt_of_le hbl HBp.out
       have HSp : Hid (S < wp.heap.size) := Lib.hid hc.1.lt
       have HD : Hid (∀ u, Below wp.heap.size wp u → u.cell? ⟨S, 3, none⟩ = some (.slice (some ad) l.ord.length c4) ∧ u.cell? (ad.add (i * 3)) = some (.string NM)) := Lib.hid (fun u hu => ⟨(hu.cell (p := ⟨S, 3, none⟩) HSp.out).trans q3, (hu.cell (p := _) (by rw [block_of_add]; exact hbp)).trans d0⟩)
       have HQ2 := Lib.hid HQ.out.2
       have HXB := Lib.hid (hXB.trans (str_bytesOf cs))
       clear hc he hbl hre hem hnm henc HQ hl4 hall hXl hNM hXB h1 h2 h3 h4 h5 hbp z1 z2 z3 z4
       go_wp2_with fail
       with_reducible refine hen.mono ?_
       rintro e w2 ⟨v, rfl, hown, hb2⟩
       obtain ⟨Ax, cy, rfl, -, -, hri⟩ := own_slice2 hown
       have HCV : Hid (∀ W', Below w2.heap.size w2 W' → (convert 38 9 (.slice Ax (encL cs).length cy)).run Tryz.prog W' = .ok (.string XB) W') := Lib.hid fun W' hW' => by rw [HXB.out]; exact conv_ri (RI.below hri hW') cy
       have HB2 := Lib.hid hb2
       have hbd : Below wp.heap.size wp w2.drew := below_drew hb2
       clear hen hown hri d0 d1 q3
       go_upto_region 24 with fail
       refine wp_region_held (S := fun W' : World => W'.cell? ⟨S, 3, none⟩ = some (.slice (some ad) l.ord.length c4) ∧ W'.cell? (ad.add (i * 3)) = some (.string NM) ∧ (convert 38 9 (.slice Ax (encL cs).length cy)).run Tryz.prog W' = .ok (.string XB) W') (by kernel_rfl) ?_
       change wpAnyH _ _ _ _ _ _ _ _ w2.drew
       have hS1 : (fun W' : World => W'.cell? ⟨S, 3, none⟩ = some (.slice (some ad) l.ord.length c4) ∧ W'.cell? (ad.add (i * 3)) = some (.string NM) ∧ (convert 38 9 (.slice Ax (encL cs).length cy)).run Tryz.prog W' = .ok (.string XB) W') w2.drew := ⟨(HD.out _ hbd).1, (HD.out _ hbd).2, HCV.out _ (below_drew (Below.refl _ _))⟩
       iterate 15 (refine wpH rfl rfl ?_; try simp only [Act.put, g1, g2, g3, g4, g5, g6])
       refine wpAnyH_done (by kernel_rfl) ?_ _
       clear e1 e2 e3 e4 e5 n1 n2 n3 n4 n5
       go_wp2
       go_roundw
       case rel => exact ⟨i + 1, T5, by omega, by go_num, rfl, z5, Lib.hid ⟨HE.out, HQ2.out.trans ((below_drew HB2.out).mono HQ2.out.size)⟩⟩
       case measure => simp [intOf]; omega
     ·obtain rfl : i = l.ord.length := by omega
      have HT2 : Hid (T = str (linesT (l.cls.map clsT ++ mapT wUpper l.up ++ mapT wLower l.lo ++ l.ord.flatMap elemT))) := Lib.hid (by rw [HQ.out.1, List.take_length])
      have HQ2 := Lib.hid HQ.out.2
      clear hlt hc HQ
      go_wp2
      go_meet
      exact ⟨T, rfl, by omega, Lib.hid ⟨HT2.out, HQ2.out⟩⟩
   case rest =>
    generalize wc = wC at *
    obtain ⟨TC, rfl, hTC, HCC⟩ := hcut
    go_upto_block 6 with fail
    go_cut [4] (fun s wx => ∃ T : ByteArray, s = .string T ∧ Hid (T = str (linesT (locT l)) ∧ Below W.heap.size W wx))
    case first =>
     go_wp2
     go_loopw [4, 12] (fun sv iv wr => ∃ (i : Nat) (T : ByteArray), i ≤ l.ord.length ∧ iv = .int .i64 i ∧ sv = .string T ∧ T.size ≤ 2251799813685248 * 1001 + 1125899906842624 * i ∧ Hid (T = str (linesT (l.cls.map clsT ++ mapT wUpper l.up ++ mapT wLower l.lo ++ l.ord.flatMap elemT ++ ordsT l.ord 0 (l.ord.take i))) ∧ Below W.heap.size W wr)) (fun _ iv _ => l.ord.length - (intOf iv).toNat)
     case atStart => exact ⟨0, TC, Nat.zero_le _, rfl, rfl, by omega, Lib.hid ⟨by rw [HCC.out.1, List.take_zero]; show _ = str (linesT (_ ++ [])); rw [List.append_nil], HCC.out.2⟩⟩
     case round =>
      obtain ⟨wp, hwp⟩ : ∃ wp, wp = wr := ⟨_, rfl⟩
      subst hwp
      obtain ⟨i, T, hin, rfl, rfl, hsz, HQ⟩ := hrel
      have hc := HC.out wp HQ.out.2
      obtain ⟨-, -, -, q3⟩ := hc.1.cells
      by_cases hlt : i < l.ord.length
      ·obtain ⟨e, he⟩ : ∃ e, l.ord[i]? = some e := ⟨_, List.getElem?_eq_getElem hlt⟩
       obtain ⟨ad, cx, Ac, cc, hv, hbl, d0, d1, d2, hre⟩ := elmR_at hc.2.2.2.2.1 he
       injection hv with hv hv2 hv3
       clear hv2
       subst hv hv3
       obtain ⟨j, x, hj, hx⟩ := HPO.out.same i e he
       obtain ⟨ad', cx', Ax, cy, hv, -, d3, d4, d5, hrx⟩ := elmR_at hc.2.2.2.2.1 hx
       injection hv with hv hv2 hv3
       injection hv with hv
       clear hv2 hv3
       subst hv
       have hem := List.mem_of_getElem? he
       have hxm := List.mem_of_getElem? hx
       have hjl : j < l.ord.length := (List.getElem?_eq_some_iff.1 hx).1
       have HTK := Lib.hid (ordsT_take (o := l.ord) he)
       have HLN := Lib.hid (ord07_line l.ord i e)
       have oke := (HPO.out.item e hem).1
       have okx := (HPO.out.item x hxm).1
       have pe := (item_print oke (HN.out.2 e hem)).1
       have px := (item_print okx (HN.out.2 x hxm)).1
       have HBp : Hid (B ≤ wp.heap.size) := Lib.hid (Nat.le_trans HBw.out HQ.out.2.size)
       have hce := elem07_any wp B Ac cc e hre HBp.out oke (by have := HN.out.2 e hem; omega)
       have HCX : Hid (∀ u, Below wp.heap.size wp u → Calls Tryz.prog 47 #[.agg #[.string (str x.name), .slice Ax x.cells.length cy, .int .i64 x.same]] u fun r w' => r = .returned (.string (str (prt (itemT x)))) ∧ Below u.heap.size u w') := Lib.hid (fun u hu => elem07_any u B Ax cy x (RI.below hrx (hu.mono HBp.out)) (Nat.le_trans HBp.out hu.size) okx (by have := HN.out.2 x hxm; omega))
       have HSAME : Hid (i = j → prtL (ordT l.ord i e) = [111, 114, 100, 101, 114, 32] ++ prt (itemT e)) := Lib.hid (fun h => ordP_same (by rw [hj, h]))
       have HOTHER : Hid (i ≠ j → prtL (ordT l.ord i e) = [111, 114, 100, 101, 114, 32] ++ prt (itemT e) ++ [59, 32] ++ prt (itemT x)) := Lib.hid (fun h => ordP_other hj h hx)
       have HNE : Hid (prtL (ordT l.ord i e) ≠ []) := Lib.hid (by unfold ordT prtL; simp [prt, tW])
       obtain ⟨P, hP⟩ : ∃ P, P = prtL (ordT l.ord i e) := ⟨_, rfl⟩
       obtain ⟨LT, hLT⟩ : ∃ P, P = lineT (ordT l.ord i e) := ⟨_, rfl⟩
       rw [← hP] at HSAME HOTHER HNE
       rw [← hP, ← hLT] at HLN
       obtain ⟨UE, hUE⟩ : ∃ U, U = str (prt (itemT e)) := ⟨_, rfl⟩
       obtain ⟨UX, hUX⟩ : ∃ U, U = str (prt (itemT x)) := ⟨_, rfl⟩
       have ze : UE.size ≤ 140737488351252 := by rw [hUE, str_size]; exact pe
       have zx : UX.size ≤ 140737488351252 := by rw [hUX, str_size]; exact px
       rw [← hUE] at hce
       rw [← hUX] at HCX
       have HUE := Lib.hid hUE
       have HUX := Lib.hid hUX
       obtain ⟨se, hse⟩ : ∃ s, s = e.same := ⟨_, rfl⟩
       have hsj : se = (j : Int) := by rw [hse]; exact hj
       rw [hj] at d2 hce
       obtain ⟨NE, hNE⟩ : ∃ N, N = str e.name := ⟨_, rfl⟩
       obtain ⟨NX, hNX⟩ : ∃ N, N = str x.name := ⟨_, rfl⟩
       obtain ⟨le, hle⟩ : ∃ n, n = e.cells.length := ⟨_, rfl⟩
       obtain ⟨lx, hlx⟩ : ∃ n, n = x.cells.length := ⟨_, rfl⟩
       obtain ⟨sx, hsx⟩ : ∃ n, n = x.same := ⟨_, rfl⟩
       rw [← hNE] at d0 hce
       rw [← hNX] at d3 HCX
       rw [← hle] at d1 hce
       rw [← hlx] at d4 HCX
       rw [← hsx] at d5 HCX
       have i0 : (0 : Int) ≤ (i : Int) := by omega
       have i1 : (i : Int) < (l.ord.length : Int) := by omega
       have j0 : (0 : Int) ≤ (j : Int) := by omega
       have j1 : (j : Int) < (l.ord.length : Int) := by omega
       have hbp : ad.block < wp.heap.size := Nat.lt_of_lt_of_le hbl HBp.out
       have HSp : Hid (S < wp.heap.size) := Lib.hid hc.1.lt
       have HD : Hid (∀ u, Below wp.heap.size wp u → u.cell? ⟨S, 3, none⟩ = some (.slice (some ad) l.ord.length c4) ∧ u.cell? ⟨(ad.add (i * 3)).block, (ad.add (i * 3)).off + 2, none⟩ = some (.int .i64 j) ∧ u.cell? (ad.add (j * 3)) = some (.string NX) ∧ u.cell? ⟨(ad.add (j * 3)).block, (ad.add (j * 3)).off + 1, none⟩ = some (.slice Ax lx cy) ∧ u.cell? ⟨(ad.add (j * 3)).block, (ad.add (j * 3)).off + 2, none⟩ = some (.int .i64 sx)) := Lib.hid (fun u hu => ⟨(hu.cell (p := ⟨S, 3, none⟩) HSp.out).trans q3, (hu.cell (p := ⟨_, _, none⟩) (by rw [block_of_add]; exact hbp)).trans d2, (hu.cell (p := _) (by rw [block_of_add]; exact hbp)).trans d3, (hu.cell (p := ⟨_, _, none⟩) (by rw [block_of_add]; exact hbp)).trans d4, (hu.cell (p := ⟨_, _, none⟩) (by rw [block_of_add]; exact hbp)).trans d5⟩)
       obtain ⟨Y1, h1⟩ : ∃ X, X = (⟨#[111, 114, 100, 101, 114, 32]⟩ : ByteArray) ++ UE := ⟨_, rfl⟩
       obtain ⟨Y2, h2⟩ : ∃ X, X = Y1 ++ (⟨#[59, 32]⟩ : ByteArray) := ⟨_, rfl⟩
       obtain ⟨Y3, h3⟩ : ∃ X, X = Y2 ++ UX := ⟨_, rfl⟩
       have z1 : Y1.size ≤ 140737488351258 := by rw [h1, ByteArray.size_append]; show 6 + UE.size ≤ _; omega
       have z2 : Y2.size ≤ 140737488351260 := by rw [h2, ByteArray.size_append]; show Y1.size + 2 ≤ _; omega
       have z3 : Y3.size ≤ 281474976702512 := by rw [h3, ByteArray.size_append]; omega
       have HY1 : Hid (i = j → Y1 = str P) := Lib.hid (fun h => by rw [HSAME.out h, h1, hUE]; show str [111, 114, 100, 101, 114, 32] ++ str _ = _; rw [str_append])
       have HY3 : Hid (i ≠ j → Y3 = str P) := Lib.hid (fun h => by
        rw [HOTHER.out h, h3, h2, h1, hUE, hUX]
        show str [111, 114, 100, 101, 114, 32] ++ str _ ++ str [59, 32] ++ str _ = _
        simp only [str_append])
       have HT2 : Hid (∀ L : ByteArray, L = str LT → T ++ L = str (linesT (l.cls.map clsT ++ mapT wUpper l.up ++ mapT wLower l.lo ++ l.ord.flatMap elemT ++ ordsT l.ord 0 (l.ord.take (i + 1))))) := Lib.hid (fun L hL => by rw [HTK.out, ← List.append_assoc, linesT_snoc, ← hLT, hL, HQ.out.1, str_append])
       have HQ2 := Lib.hid HQ.out.2
       have e1 := h1.symm
       have e2 := h2.symm
       have e3 := h3.symm
       clear hc he hx hbl hre hrx hem hxm oke okx pe px hP hLT hUE hUX hse hsj hj hNE hNX hle hlx hsx h1 h2 h3 d3 d4 d5 hbp HSAME HOTHER HTK HQ
       go_wp2_with fail
       with_reducible refine hce.mono ?_
       rintro e' w2 ⟨rfl, hb2⟩
       have HB2 := Lib.hid hb2
       obtain ⟨k0, k1, k2, k3, k4⟩ := HD.out w2 hb2
       clear hce hb2 d0 d1 d2 q3
       go_upto_if 147 with fail
       go_cut [13] (fun s wx => ∃ Y : ByteArray, s = .string Y ∧ Y.size ≤ 281474976702512 ∧ Hid (Y = str P ∧ Below wp.heap.size wp wx))
       case first =>
        by_cases hij : i = j
        ·have HE := Lib.hid (HY1.out hij)
         have g0 : ((j : Int) == (i : Int)) = true := by rw [hij]; simp
         have g1 : (j : Int) = (i : Int) := by rw [hij]
         clear hij e1 e2 e3
         go_wp2
         go_meet
         exact ⟨Y1, rfl, by omega, Lib.hid ⟨HE.out, HB2.out⟩⟩
        ·have HE := Lib.hid (HY3.out hij)
         have g1 : ¬ (j : Int) = (i : Int) := by omega
         have g0 : ((j : Int) == (i : Int)) = false := by simp only [beq_eq_false_iff_ne, ne_eq]; omega
         have n1 : ¬ 9223372036854775807 < Y1.size + 2 := by omega
         have n2 : ¬ 9223372036854775807 < Y2.size + UX.size := by omega
         clear hij e1
         go_upto_region 30 with fail
         refine wp_region_held (S := fun W' : World => W'.cell? ⟨S, 3, none⟩ = some (.slice (some ad) l.ord.length c4) ∧ W'.cell? ⟨(ad.add (i * 3)).block, (ad.add (i * 3)).off + 2, none⟩ = some (.int .i64 j) ∧ W'.cell? (ad.add (j * 3)) = some (.string NX) ∧ W'.cell? ⟨(ad.add (j * 3)).block, (ad.add (j * 3)).off + 1, none⟩ = some (.slice Ax lx cy) ∧ W'.cell? ⟨(ad.add (j * 3)).block, (ad.add (j * 3)).off + 2, none⟩ = some (.int .i64 sx)) (by kernel_rfl) ?_
         change wpAnyH _ _ _ _ _ _ _ _ w2.drew
         have hbd : Below wp.heap.size wp w2.drew := below_drew HB2.out
         have hS1 : (fun W' : World => W'.cell? ⟨S, 3, none⟩ = some (.slice (some ad) l.ord.length c4) ∧ W'.cell? ⟨(ad.add (i * 3)).block, (ad.add (i * 3)).off + 2, none⟩ = some (.int .i64 j) ∧ W'.cell? (ad.add (j * 3)) = some (.string NX) ∧ W'.cell? ⟨(ad.add (j * 3)).block, (ad.add (j * 3)).off + 1, none⟩ = some (.slice Ax lx cy) ∧ W'.cell? ⟨(ad.add (j * 3)).block, (ad.add (j * 3)).off + 2, none⟩ = some (.int .i64 sx)) w2.drew := HD.out _ hbd
         clear k0 k1 k2 k3 k4
         iterate 12 (refine wpH rfl rfl ?_; try simp only [Act.put, g4, g5, g6])
         have hcu := HCX.out _ hbd
         refine wpAnyH_one (i := 12) (by kernel_rfl) rfl (fun K hK => ?_)
         simp only [g4, g5, g6]
         go_simp
         go_at_call 47
         with_reducible refine hcu.mono ?_
         rintro e' u1 ⟨rfl, hbn⟩
         have hb1 : Below wp.heap.size wp u1 := hbd.trans (hbn.mono hbd.size)
         have HB1 := Lib.hid hb1
         refine hK.out _ _ (HD.out u1 hb1) (fun hS2 => ?_)
         clear hcu hbn hS1 hbd hb1
         iterate 2 (refine wpH rfl rfl ?_; try simp only [Act.put, g4, g5, g6])
         refine wpAnyH_done (by kernel_rfl) ?_ _
         clear hS2 e2 e3 n1 n2
         go_wp2
         go_meet
         exact ⟨Y3, rfl, z3, Lib.hid ⟨HE.out, HB1.out⟩⟩
       case rest =>
        generalize wc = wB at *
        obtain ⟨Y, rfl, hYs, HY⟩ := hcut
        have hYl : Y.size = P.length := by rw [HY.out.1, str_size]
        obtain ⟨hl1, hl2⟩ := HLN.out
        have hcu := cut07_any P HNE.out (by omega) wB
        rw [hl1, ← HY.out.1] at hcu
        obtain ⟨L, hL⟩ : ∃ L, L = str LT := ⟨_, rfl⟩
        rw [← hL] at hcu
        have zL : L.size = Y.size := by rw [hL, str_size, hl2, hYl]
        obtain ⟨T2, hT2⟩ : ∃ T2, T2 = T ++ L := ⟨_, rfl⟩
        have zT : T2.size ≤ 2251799813685248 * 1001 + 1125899906842624 * (i + 1) := by rw [hT2, ByteArray.size_append]; omega
        have zT1 : T.size + L.size ≤ 2251799813685248 * 1002 + 1125899906842624 * 500 := by omega
        have HE : Hid (T2 = str (linesT (l.cls.map clsT ++ mapT wUpper l.up ++ mapT wLower l.lo ++ l.ord.flatMap elemT ++ ordsT l.ord 0 (l.ord.take (i + 1))))) := Lib.hid (by rw [hT2]; exact HT2.out L hL)
        have e4 := hT2.symm
        have HBb : Hid (Below W.heap.size W wB) := Lib.hid (HQ2.out.trans (HY.out.2.mono HQ2.out.size))
        clear hYl hl1 hl2 hL hT2 HY k0 k1 k2 k3 k4 e1 e2 e3
        go_wp2_with fail
        with_reducible refine hcu.mono ?_
        rintro e' w5 ⟨rfl, hwe⟩
        have hwe := hwe.symm
        subst hwe
        clear hcu
        go_wp2
        go_roundw
        case rel => exact ⟨i + 1, T2, by omega, by go_num, rfl, zT, Lib.hid ⟨HE.out, HBb.out⟩⟩
        case measure => simp [intOf]; omega
      ·obtain rfl : i = l.ord.length := by omega
       have HT2 : Hid (T = str (linesT (locT l))) := Lib.hid (by rw [HQ.out.1, List.take_length]; rfl)
       have HQ2 := Lib.hid HQ.out.2
       clear hlt hc HQ
       go_wp2
       go_meet
       exact ⟨T, rfl, Lib.hid ⟨HT2.out, HQ2.out⟩⟩
    case rest =>
     generalize wc = wD at *
     obtain ⟨TD, rfl, HD⟩ := hcut
     have hto := tokens_ref TD wD
     rw [HD.out.1, str_list] at hto
     have hgd := right_good HRT.out
     have HBD := Lib.hid HD.out.2
     have HTD := Lib.hid HD.out.1
     rw [← HTD.out] at hto
     by_cases hfit : (linesT (locT l)).length ≤ 4000 ∧ (toksT (locT l)).length ≤ 1000
     ·obtain ⟨ys, hlx, -, -⟩ := lex_linesT (locT l) hgd hfit.1 hfit.2
      rw [hlx] at hto
      have HF : Hid (printL l = (linesT (locT l), 0)) := Lib.hid (by unfold printL; rw [if_pos HRT.out, if_pos hfit])
      clear hfit hgd hlx HD
      go_wp2_with fail
      with_reducible refine hto.mono ?_
      rintro e w5 ⟨A, n, c, rfl, -, -, hb5⟩
      have HB5 := Lib.hid (HBW.out.trans ((HBD.out.trans (hb5.mono HBD.out.size)).mono HSW.out))
      clear hto hb5
      go_wp2
      go_ret2
      exact ⟨by rw [HF.out, HTD.out]; rfl, HB5.out⟩
     ·have hlx := lex_longT (locT l) hgd hfit
      rw [hlx] at hto
      have HF : Hid (printL l = ([], 3)) := Lib.hid (by unfold printL; rw [if_pos HRT.out, if_neg hfit])
      clear hfit hgd hlx HD
      go_wp2_with fail
      with_reducible refine hto.mono ?_
      rintro e w5 ⟨A, n, c, rfl, -, -, hb5⟩
      have HB5 := Lib.hid (HBW.out.trans ((HBD.out.trans (hb5.mono HBD.out.size)).mono HSW.out))
      clear hto hb5
      go_wp2
      go_ret2
      exact ⟨by rw [HF.out]; rfl, HB5.out⟩
end Go.Proofs.YthaibekbefndlaaGreatDoor.C
