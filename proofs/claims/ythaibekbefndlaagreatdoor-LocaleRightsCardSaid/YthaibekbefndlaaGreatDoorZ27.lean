/-
  Joined: LfN, LiC, LhC. Each with what its own head says.
-/
import Derived.Test.YthaibekbefndlaaGreatDoorZ25
import Derived.Test.YthaibekbefndlaaGreatDoorZ26

namespace Go.Proofs.YthaibekbefndlaaGreatDoor.C
open Go.RowKit

structure PrtOk (l : Loc) : Prop where
 cls : ∀ c ∈ l.cls, Scal c.rs ∧ c.name.length ≤ 140737488351232
 up : Scal l.up
 lo : Scal l.lo
 item : ∀ e ∈ l.ord, ItemOk e ∧ e.name.length ≤ 140737488351232
 enc : ∀ e ∈ l.ord, e.name ≠ [] → e.cells.length ≤ 4 ∧ e.cells.all rightB = true
 same : ∀ (i : Nat) (e : Elm), l.ord[i]? = some e → ∃ (j : Nat) (x : Elm), e.same = (j : Int) ∧ l.ord[j]? = some x
 few : l.ord.length ≤ 500
theorem scal_of {c : Int} (h : scalB c = true) : 0 ≤ c ∧ c ≤ 1114111 := by
 have h1 := scalB_nat h
 have h2 := rightN_le (scalB_right h)
 omega
theorem ordB_few {o : List Elm} (h : ordB o = true) : o.length ≤ 500 := by
 unfold ordB at h
 rw [Bool.and_eq_true] at h
 exact of_decide_eq_true h.1
theorem ordB_elem {o : List Elm} (h : ordB o = true) {i : Nat} {e : Elm} (he : o[i]? = some e) : elemB e = true ∧ sameAt o i e = true := by
 unfold ordB at h
 rw [Bool.and_eq_true] at h
 have h1 := all_range h.2 (List.getElem?_eq_some_iff.1 he).1
 unfold elemAt at h1
 rw [he] at h1
 simp only [Bool.and_eq_true] at h1
 exact ⟨h1.1.1.1, h1.1.2⟩
theorem pairsB_scal {l : List (Int × Int)} (h : pairsB l = true) : Scal l := by
 intro r hr
 obtain ⟨i, hi, rfl⟩ := List.mem_iff_getElem.1 hr
 have h1 := all_range h hi
 unfold pairAt at h1
 rw [List.getElem?_eq_getElem hi] at h1
 simp only [Bool.and_eq_true] at h1
 exact ⟨scal_of h1.1.1, scal_of h1.1.2⟩
theorem prtOk_of {l : Loc} (h : rightL l = true) (h1 : ∀ c ∈ l.cls, c.name.length ≤ 140737488351232) (h2 : ∀ e ∈ l.ord, e.name.length ≤ 140737488351232) : PrtOk l := by
 unfold rightL at h
 simp only [Bool.and_eq_true] at h
 obtain ⟨⟨⟨hc, hu⟩, hl⟩, ho⟩ := h
 refine ⟨fun c hcm => ⟨fun r hr => ?_, h1 c hcm⟩, pairsB_scal hu, pairsB_scal hl, fun e he => ⟨fun h0 => ?_, h2 e he⟩, fun e he h0 => ?_, fun i e he => ?_, ordB_few ho⟩
 ·obtain ⟨i, hi, rfl⟩ := List.mem_iff_getElem.1 hcm
  have h3 := all_range hc hi
  unfold clsAt at h3
  rw [List.getElem?_eq_getElem hi] at h3
  simp only [Bool.and_eq_true] at h3
  have h4 := (List.all_eq_true.1 h3.2) r hr
  unfold rangeB at h4
  simp only [Bool.and_eq_true] at h4
  exact ⟨scal_of h4.1.1, scal_of h4.1.2⟩
 ·obtain ⟨i, hi, rfl⟩ := List.mem_iff_getElem.1 he
  obtain ⟨c, h3, h4⟩ := elemB_plain (ordB_elem ho (List.getElem?_eq_getElem hi)).1 h0
  have h5 := scal_of h4
  exact ⟨c.toNat, by rw [h3, scalB_nat h4], by omega⟩
 ·obtain ⟨i, hi, rfl⟩ := List.mem_iff_getElem.1 he
  have h3 := quotB_parts (elemB_named (ordB_elem ho (List.getElem?_eq_getElem hi)).1 h0).1
  exact ⟨h3.2.1, canon_all h3.2.2.2.2⟩
 ·have h3 := (ordB_elem ho he).2
  unfold sameAt at h3
  rw [Bool.and_eq_true] at h3
  have h4 := of_decide_eq_true h3.1
  cases hx : l.ord[e.same.toNat]? with
  | none => rw [hx] at h3; exact absurd h3.2 (by simp)
  | some x => exact ⟨e.same.toNat, x, by omega, hx⟩
theorem clsR_at {w : World} {B : Nat} {v : Value} {cs : List Cls} {i : Nat} {k : Cls} (h : ClsR w B v cs) (hk : cs[i]? = some k) : ∃ ad c A cc, v = .slice (some ad) cs.length c ∧ ad.block < B ∧ w.cell? (ad.add (i * 2)) = some (.string (str k.name)) ∧ w.cell? ⟨(ad.add (i * 2)).block, (ad.add (i * 2)).off + 1, none⟩ = some (.slice A k.rs.length cc) ∧ PrsR w B (.slice A k.rs.length cc) k.rs ∧ k.rs.length ≤ maxLen := by
 obtain ⟨A, c, xs, rfl, hsi, hel⟩ := h
 have hi : i < cs.length := (List.getElem?_eq_some_iff.1 hk).1
 obtain ⟨ad, x, rfl, hb, hx, _, hc⟩ := hsi.at_ hi
 obtain ⟨u, hxe, hri, _, hn⟩ := hel i k hk
 rw [hx] at hxe
 obtain rfl := Option.some.inj hxe
 obtain ⟨A, cc, rfl, hsi2⟩ := hri
 exact ⟨ad, c, A, cc, rfl, hb, hc 0 _ rfl, by rw [add_more' _ _ _ (by omega)]; exact hc 1 _ rfl, ⟨A, cc, rfl, hsi2⟩, hn⟩
theorem linesT_one (X : List (List Tok)) (l : List Tok) : linesT (X ++ [l]) = linesT X ++ lineT l ∧ (toksT (X ++ [l])).length = (toksT X).length + l.length + 1 := by
 rw [linesT_app, toksT_app]
 simp [linesT, toksT]
 omega
theorem ordsT_snoc (o : List Elm) : ∀ (r : List Elm) (k : Nat) (e : Elm), ordsT o k (r ++ [e]) = ordsT o k r ++ [ordT o (k + r.length) e]
 | [], k, e => rfl
 | a :: r, k, e => by
  show ordT o k a :: ordsT o (k + 1) (r ++ [e]) = ordT o k a :: ordsT o (k + 1) r ++ [_]
  rw [ordsT_snoc o r (k + 1) e, show k + 1 + r.length = k + (a :: r).length by simp; omega]
  rfl
theorem take_one {α : Type} {l : List α} {i : Nat} {x : α} (h : l[i]? = some x) : l.take (i + 1) = l.take i ++ [x] := by rw [List.take_add_one, h]; rfl
def DfSt (w : World) (B P : Nat) (X : List (List Tok)) (wr : World) : Prop := PW wr B P (linesT X) (toksT X).length ∧ (linesT X).length ≤ 4000 ∧ (toksT X).length ≤ 1000 ∧ Kp B P w wr
def Front (X Z : List (List Tok)) : Prop := (linesT X).length ≤ (linesT Z).length ∧ (toksT X).length ≤ (toksT Z).length
theorem front_app (X Y : List (List Tok)) : Front X (X ++ Y) := by
 unfold Front
 rw [linesT_app, toksT_app]
 simp only [List.length_append]
 omega
theorem Front.of {X Z : List (List Tok)} (Y : List (List Tok)) (h : X ++ Y = Z) : Front X Z := h ▸ front_app X Y
theorem df_more {W : World} {B P : Nat} {X Z : List (List Tok)} {S : List UInt8} {T : Nat} {W1 w2 : World} {e : Ending} (h : PutTold W1 B P S T e w2) (hS : S = linesT X) (hT : T = (toksT X).length) (hk : Kp B P W W1) (hf : Front X Z) : (e = .returned (.tuple #[]) ∧ DfSt W B P X w2) ∨ (e = .panicked longV ∧ ¬ ((linesT Z).length ≤ 4000 ∧ (toksT Z).length ≤ 1000) ∧ Below B W w2) := by
 subst hS hT
 rcases h with ⟨a1, a2, rfl, a3, a4⟩ | ⟨a1, rfl, a2⟩
 ·exact .inl ⟨rfl, a3, a1, a2, hk.trans a4⟩
 ·exact .inr ⟨rfl, long_more a1 hf.1 hf.2, hk.1.trans a2⟩
theorem S_cls {l : List Cls} {i : Nat} {k : Cls} (h : l[i]? = some k) : linesT ((l.take i).map clsT) ++ lineT (clsT k) = linesT ((l.take (i + 1)).map clsT) ∧ (toksT ((l.take i).map clsT)).length + (clsT k).length + 1 = (toksT ((l.take (i + 1)).map clsT)).length := by
 rw [take_one h, List.map_append]
 exact ⟨(linesT_one _ _).1.symm, (linesT_one _ _).2.symm⟩
theorem S_map (X : List (List Tok)) (Y : List (List Tok)) : linesT X ++ linesT Y = linesT (X ++ Y) ∧ (toksT X).length + (toksT Y).length = (toksT (X ++ Y)).length := by
 rw [linesT_app, toksT_app, List.length_append]
 exact ⟨rfl, rfl⟩
theorem S_elm (X : List (List Tok)) {l : List Elm} {i : Nat} {e : Elm} (h : l[i]? = some e) : linesT (X ++ (l.take i).flatMap elemT) ++ linesT (elemT e) = linesT (X ++ (l.take (i + 1)).flatMap elemT) ∧ (toksT (X ++ (l.take i).flatMap elemT)).length + (toksT (elemT e)).length = (toksT (X ++ (l.take (i + 1)).flatMap elemT)).length := by
 rw [take_one h, List.flatMap_append, ← List.append_assoc]
 simpa using S_map (X ++ (l.take i).flatMap elemT) (elemT e)
theorem S_ord (X : List (List Tok)) {l : List Elm} {i : Nat} {e : Elm} (h : l[i]? = some e) : linesT (X ++ ordsT l 0 (l.take i)) ++ lineT (ordT l i e) = linesT (X ++ ordsT l 0 (l.take (i + 1))) ∧ (toksT (X ++ ordsT l 0 (l.take i))).length + (ordT l i e).length + 1 = (toksT (X ++ ordsT l 0 (l.take (i + 1)))).length := by
 have hi : i < l.length := (List.getElem?_eq_some_iff.1 h).1
 have hl : (l.take i).length = i := by rw [List.length_take]; omega
 rw [take_one h, ordsT_snoc, hl, Nat.zero_add, ← List.append_assoc]
 exact ⟨(linesT_one _ _).1.symm, (linesT_one _ _).2.symm⟩
set_option maxRecDepth 100000 in
set_option maxHeartbeats 8000000 in
theorem definition_any (w : World) (B P : Nat) (v1 v2 v3 v4 : Value) (l : Loc) (h : PW w B P [] 0) (hG : ∀ w', Below B w w' → Gl w') (hB : B ≤ w.heap.size) (hl : LocR w B v1 v2 v3 v4 l) (hok : PrtOk l) :
  Calls Tryz.prog 23 #[.pointer (some ⟨P, 0, none⟩), .agg #[v1, v2, v3, v4]] w (PutTold w B P (linesT (locT l)) (toksT (locT l)).length) := by
 obtain ⟨r1, r2, r3, r4, n1, n2, n3⟩ := hl
 have f1 := r1
 have f2 := r2
 have f3 := r3
 have f4 := r4
 obtain ⟨A1, c1, -, hv1, -⟩ := f1
 obtain ⟨A2, c2, hv2, -⟩ := f2
 obtain ⟨A3, c3, hv3, -⟩ := f3
 obtain ⟨A4, c4, -, hv4, -⟩ := f4
 subst hv1 hv2 hv3 hv4
 obtain ⟨W, hW⟩ : ∃ W, W = w.alloc (.cells #[.slice A1 l.cls.length c1, .slice A2 l.up.length c2, .slice A3 l.lo.length c3, .slice A4 l.ord.length c4] 26) := ⟨_, rfl⟩
 have hbW : Below w.heap.size w W := by rw [hW]; exact (Below.refl _ _).alloc (Nat.le_refl _) _
 have hkW : Kp B P w W := Kp.of_below hbW hB
 have hR : Rw W w.heap.size 26 #[.slice A1 l.cls.length c1, .slice A2 l.up.length c2, .slice A3 l.lo.length c3, .slice A4 l.ord.length c4] := by rw [hW]; exact heap_alloc_new w _
 have hRP : w.heap.size ≠ P := by have := h.lt; omega
 have hst0 : DfSt W B P ((l.cls.take 0).map clsT) W := ⟨by simpa [linesT, toksT] using h.old hbW, by simp [linesT], by simp [toksT], Kp.refl _ _ _⟩
 have HST0 := Lib.hid hst0
 have HR := Lib.hid hR
 have HKW := Lib.hid hkW
 have HG := Lib.hid hG
 have H1 := Lib.hid (r1.on (hbW.mono hB) (Nat.le_refl _))
 have H2 := Lib.hid (r2.on (hbW.mono hB) (Nat.le_refl _))
 have H3 := Lib.hid (r3.on (hbW.mono hB) (Nat.le_refl _))
 have H4 := Lib.hid (r4.on (hbW.mono hB) (Nat.le_refl _))
 have HO := Lib.hid hok
 have n4 := hok.few
 unfold maxLen at n1 n2 n3
 have HN2 : Hid (l.up.length ≤ maxLen) := Lib.hid n2
 have HN3 : Hid (l.lo.length ≤ maxLen) := Lib.hid n3
 obtain ⟨Z, hZ⟩ : ∃ Z, Z = locT l := ⟨_, rfl⟩
 obtain ⟨X1, hX1⟩ : ∃ X, X = l.cls.map clsT := ⟨_, rfl⟩
 obtain ⟨X2, hX2⟩ : ∃ X, X = X1 ++ mapT wUpper l.up := ⟨_, rfl⟩
 obtain ⟨X3, hX3⟩ : ∃ X, X = X2 ++ mapT wLower l.lo := ⟨_, rfl⟩
 obtain ⟨X4, hX4⟩ : ∃ X, X = X3 ++ l.ord.flatMap elemT := ⟨_, rfl⟩
 have hZ4 : X4 ++ ordsT l.ord 0 l.ord = Z := by rw [hX4, hX3, hX2, hX1, hZ]; rfl
 rw [← hZ]
 have HBW : Hid (B ≤ W.heap.size) := Lib.hid (Nat.le_trans hB hbW.size)
 have F1 : Hid (∀ i, Front ((l.cls.take i).map clsT) Z) := Lib.hid fun i => Front.of (((l.cls.drop i).map clsT) ++ (mapT wUpper l.up ++ (mapT wLower l.lo ++ (l.ord.flatMap elemT ++ ordsT l.ord 0 l.ord)))) (by rw [← List.append_assoc, ← List.map_append, List.take_append_drop, ← hX1, ← List.append_assoc, ← hX2, ← List.append_assoc, ← hX3, ← List.append_assoc, ← hX4, hZ4])
 have F2 : Hid (Front X2 Z) := Lib.hid (Front.of (mapT wLower l.lo ++ (l.ord.flatMap elemT ++ ordsT l.ord 0 l.ord)) (by rw [← List.append_assoc, ← hX3, ← List.append_assoc, ← hX4, hZ4]))
 have F3 : Hid (Front X3 Z) := Lib.hid (Front.of (l.ord.flatMap elemT ++ ordsT l.ord 0 l.ord) (by rw [← List.append_assoc, ← hX4, hZ4]))
 have F4 : Hid (∀ i, Front (X3 ++ (l.ord.take i).flatMap elemT) Z) := Lib.hid fun i => Front.of ((l.ord.drop i).flatMap elemT ++ ordsT l.ord 0 l.ord) (by rw [← List.append_assoc, List.append_assoc X3, ← List.flatMap_append, List.take_append_drop, ← hX4, hZ4])
 have F5 : Hid (∀ i, Front (X4 ++ ordsT l.ord 0 (l.ord.take i)) Z) := Lib.hid fun i => by
  have hap : ∀ (a b : List Elm) (k : Nat), ∃ y, ordsT l.ord k (a ++ b) = ordsT l.ord k a ++ y := fun a => by
   induction a with
   | nil => exact fun b k => ⟨_, rfl⟩
   | cons x a ih =>
    intro b k
    obtain ⟨y, hy⟩ := ih b (k + 1)
    exact ⟨y, by show ordT l.ord k x :: ordsT l.ord (k + 1) (a ++ b) = _; rw [hy]; rfl⟩
  obtain ⟨y, hy⟩ := hap (l.ord.take i) (l.ord.drop i) 0
  rw [List.take_append_drop] at hy
  exact Front.of y (by rw [List.append_assoc, ← hy, hZ4])
 have HX1 := Lib.hid hX1
 have HX2 := Lib.hid hX2
 have HX3 := Lib.hid hX3
 have HX4 := Lib.hid hX4
 have HZ4 := Lib.hid hZ4
 have q0 : W.cell? ⟨w.heap.size, 0, none⟩ = some (.slice A1 l.cls.length c1) := hR.cell rfl
 rw [hW] at q0
 clear h hG hB hok hbW hkW hR hst0 r1 r2 r3 r4 hX1 hX2 hX3 hX4 hZ4 hZ n2 n3
 go_enter Tryz.func23, Tryz.ntmps23
 go_wp2
 rw [← hW]
 clear hW q0
 go_loopw [12] (fun iv wr => ∃ i : Nat, i ≤ l.cls.length ∧ iv = .int .i64 i ∧ Hid (DfSt W B P ((l.cls.take i).map clsT) wr)) (fun iv _ => l.cls.length - (intOf iv).toNat)
 case atStart => exact ⟨0, Nat.zero_le _, rfl, HST0⟩
 case round =>
  obtain ⟨wp, hwp⟩ : ∃ wp, wp = wr := ⟨_, rfl⟩
  subst hwp
  obtain ⟨i, hin, rfl, HST⟩ := hrel
  obtain ⟨hp, hs1, ht1, hk⟩ := HST.out
  have hBr : B ≤ wp.heap.size := Nat.le_trans HBW.out hk.size
  by_cases hlt : i < l.cls.length
  ·obtain ⟨x, hxi⟩ : ∃ x, l.cls[i]? = some x := ⟨_, List.getElem?_eq_getElem hlt⟩
   obtain ⟨ad, c, A, cc, hA, hbl, c0, c1, hpr, hnk⟩ := clsR_at (H1.out.on hk.1 (Nat.le_refl _)) hxi
   obtain ⟨hsc, hnm⟩ := HO.out.cls x (List.mem_of_getElem? hxi)
   have hseq := S_cls hxi
   obtain ⟨nm, rs⟩ := x
   dsimp only at c0 c1 hpr hnk hsc hnm
   injection hA with hA _ hC
   subst hA hC
   obtain ⟨W1, hW1⟩ : ∃ W1, W1 = wp.alloc (.cells #[.string (str nm), .slice A rs.length cc] 47) := ⟨_, rfl⟩
   have hb1 : Below wp.heap.size wp W1 := by rw [hW1]; exact (Below.refl _ _).alloc (Nat.le_refl _) _
   have hk1 : Kp B P W W1 := hk.trans (Kp.of_below hb1 hBr)
   have hR1 : Rw W1 wp.heap.size 47 #[.string (str nm), .slice A rs.length cc] := by rw [hW1]; exact heap_alloc_new wp _
   have i0 : (0 : Int) ≤ (i : Int) := by omega
   have i1 : (i : Int) < (l.cls.length : Int) := by omega
   have q0 : W1.cell? ⟨wp.heap.size, 0, none⟩ = some (.string (str nm)) := hR1.cell rfl
   have q1 : W1.cell? ⟨wp.heap.size, 1, none⟩ = some (.slice A rs.length cc) := hR1.cell rfl
   have hcl := clsPut_any W1 B P _ nm _ rs _ (hp.old hb1) hs1 ht1 (fun w' h' => HG.out w' ((HKW.out.trans hk1).1.trans h')) (Nat.le_trans hBr hb1.size) (hpr.on (hb1.mono hBr) (Nat.le_refl _)) hsc hnk hnm
   rw [hseq.1, hseq.2] at hcl
   have HK1 := Lib.hid hk1
   rw [hW1] at q0 q1
   clear hk1 hR1 hb1 hp hs1 ht1 hk hpr hsc hseq hxi
   go_wp2_with fail
   rw [← hW1]
   refine hcl.mono ?_
   intro e w2 h2
   rcases df_more h2 rfl rfl HK1.out (F1.out (i + 1)) with ⟨rfl, hst⟩ | ⟨rfl, hx, hb⟩
   rotate_left
   ·exact ⟨rfl, .inr ⟨hx, rfl, HKW.out.1.trans hb⟩⟩
   have HZ := Lib.hid hst
   clear hst h2 hcl q0 q1 c0 c1
   go_wp2
   go_roundw
   case rel => exact ⟨i + 1, by omega, by go_num, HZ⟩
   case measure => simp [intOf]; omega
  ·obtain rfl : i = l.cls.length := by omega
   rw [List.take_length, ← HX1.out] at hp hs1 ht1
   clear hlt hin HST
   have q1 : wp.cell? ⟨w.heap.size, 1, none⟩ = some (.slice A2 l.up.length c2) := Rw.cell (hk.heap HR.out hRP (by decide)) rfl
   have hpu := pairsPut_any wp B P _ wUpper _ l.up _ hp hs1 ht1 (fun w' h' => HG.out w' ((HKW.out.trans hk).1.trans h')) hBr (H2.out.on hk.1 (Nat.le_refl _)) HO.out.up HN2.out (by decide) (by decide)
   rw [show str wUpper = ⟨#[116, 111, 117, 112, 112, 101, 114]⟩ from rfl] at hpu
   have HK1 := Lib.hid hk
   clear hp hs1 ht1 hk
   go_wp2_with fail
   refine hpu.mono ?_
   intro e wq h2
   rcases df_more h2 (by rw [HX2.out]; exact (S_map _ _).1) (by rw [HX2.out]; exact (S_map _ _).2) HK1.out F2.out with ⟨rfl, hst⟩ | ⟨rfl, hx, hb⟩
   rotate_left
   ·exact ⟨rfl, .inr ⟨hx, rfl, HKW.out.1.trans hb⟩⟩
   clear h2 hpu q1 HK1
   obtain ⟨hp, hs1, ht1, hk⟩ := hst
   have hBq : B ≤ wq.heap.size := Nat.le_trans HBW.out hk.size
   have q2 : wq.cell? ⟨w.heap.size, 2, none⟩ = some (.slice A3 l.lo.length c3) := Rw.cell (hk.heap HR.out hRP (by decide)) rfl
   have hpu := pairsPut_any wq B P _ wLower _ l.lo _ hp hs1 ht1 (fun w' h' => HG.out w' ((HKW.out.trans hk).1.trans h')) hBq (H3.out.on hk.1 (Nat.le_refl _)) HO.out.lo HN3.out (by decide) (by decide)
   rw [show str wLower = ⟨#[116, 111, 108, 111, 119, 101, 114]⟩ from rfl] at hpu
   have HK1 := Lib.hid hk
   clear hp hs1 ht1 hk
   go_wp2_with fail
   refine hpu.mono ?_
   intro e w3 h2
   rcases df_more h2 (by rw [HX3.out]; exact (S_map _ _).1) (by rw [HX3.out]; exact (S_map _ _).2) HK1.out F3.out with ⟨rfl, hst⟩ | ⟨rfl, hx, hb⟩
   rotate_left
   ·exact ⟨rfl, .inr ⟨hx, rfl, HKW.out.1.trans hb⟩⟩
   clear h2 hpu q2 HK1
   obtain ⟨hp, hs1, ht1, hk⟩ := hst
   have HST3 : Hid (DfSt W B P (X3 ++ (l.ord.take 0).flatMap elemT) w3) := Lib.hid (by simpa using (show DfSt W B P X3 w3 from ⟨hp, hs1, ht1, hk⟩))
   have q3 : w3.cell? ⟨w.heap.size, 3, none⟩ = some (.slice A4 l.ord.length c4) := Rw.cell (hk.heap HR.out hRP (by decide)) rfl
   clear hp hs1 ht1 hk hBr hBq
   go_wp2
   clear q3
   go_loopw [31] (fun iv wr => ∃ i : Nat, i ≤ l.ord.length ∧ iv = .int .i64 i ∧ Hid (DfSt W B P (X3 ++ (l.ord.take i).flatMap elemT) wr)) (fun iv _ => l.ord.length - (intOf iv).toNat)
   case atStart => exact ⟨0, Nat.zero_le _, rfl, HST3⟩
   case round =>
    obtain ⟨wo, hwo⟩ : ∃ wo, wo = wr := ⟨_, rfl⟩
    subst hwo
    obtain ⟨i, hin, rfl, HST⟩ := hrel
    obtain ⟨hp, hs1, ht1, hk⟩ := HST.out
    have hBr : B ≤ wo.heap.size := Nat.le_trans HBW.out hk.size
    by_cases hlt : i < l.ord.length
    ·obtain ⟨x, hxi⟩ : ∃ x, l.ord[i]? = some x := ⟨_, List.getElem?_eq_getElem hlt⟩
     obtain ⟨ad, c, Ac, cc, hA, hbl, c0, c1, c2, hri⟩ := elmR_at (H4.out.on hk.1 (Nat.le_refl _)) hxi
     have hmm := List.mem_of_getElem? hxi
     have hit := HO.out.item x hmm
     have hec := HO.out.enc x hmm
     have hseq := S_elm X3 hxi
     obtain ⟨nm, cs, sm⟩ := x
     dsimp only at c0 c1 c2 hri hit hec
     injection hA with hA _ hC
     subst hA hC
     obtain ⟨W1, hW1⟩ : ∃ W1, W1 = wo.alloc (.cells #[.string (str nm), .slice Ac cs.length cc, .int .i64 sm] 34) := ⟨_, rfl⟩
     have hb1 : Below wo.heap.size wo W1 := by rw [hW1]; exact (Below.refl _ _).alloc (Nat.le_refl _) _
     have hk1 : Kp B P W W1 := hk.trans (Kp.of_below hb1 hBr)
     have hR1 : Rw W1 wo.heap.size 34 #[.string (str nm), .slice Ac cs.length cc, .int .i64 sm] := by rw [hW1]; exact heap_alloc_new wo _
     have i0 : (0 : Int) ≤ (i : Int) := by omega
     have i1 : (i : Int) < (l.ord.length : Int) := by omega
     have q0 : W1.cell? ⟨wo.heap.size, 0, none⟩ = some (.string (str nm)) := hR1.cell rfl
     have q1 : W1.cell? ⟨wo.heap.size, 1, none⟩ = some (.slice Ac cs.length cc) := hR1.cell rfl
     have q2 : W1.cell? ⟨wo.heap.size, 2, none⟩ = some (.int .i64 sm) := hR1.cell rfl
     have hcl := elemPut_any W1 B P _ nm cs sm Ac cc _ (hp.old hb1) hs1 ht1 (fun w' h' => HG.out w' ((HKW.out.trans hk1).1.trans h')) (Nat.le_trans hBr hb1.size) (RI.below hri (hb1.mono hBr)) hec hit.2
     rw [hseq.1, hseq.2] at hcl
     have HK1 := Lib.hid hk1
     rw [hW1] at q0 q1 q2
     clear hk1 hR1 hb1 hp hs1 ht1 hk hri hec hseq hxi hit hmm
     go_wp2_with fail
     rw [← hW1]
     refine hcl.mono ?_
     intro e w2 h2
     rcases df_more h2 rfl rfl HK1.out (F4.out (i + 1)) with ⟨rfl, hst⟩ | ⟨rfl, hx, hb⟩
     rotate_left
     ·exact ⟨rfl, .inr ⟨hx, rfl, HKW.out.1.trans hb⟩⟩
     have HZ := Lib.hid hst
     clear hst h2 hcl q0 q1 q2 c0 c1 c2
     go_wp2
     go_roundw
     case rel => exact ⟨i + 1, by omega, by go_num, HZ⟩
     case measure => simp [intOf]; omega
    ·obtain rfl : i = l.ord.length := by omega
     have hx4 : X3 ++ (l.ord.take l.ord.length).flatMap elemT = X4 := by rw [List.take_length, HX4.out]
     have HST4 : Hid (DfSt W B P (X4 ++ ordsT l.ord 0 (l.ord.take 0)) wo) := Lib.hid (by rw [← hx4]; simpa [ordsT] using HST.out)
     have q3 : wo.cell? ⟨w.heap.size, 3, none⟩ = some (.slice A4 l.ord.length c4) := Rw.cell (hk.heap HR.out hRP (by decide)) rfl
     clear hp hs1 ht1 hk hBr hlt hin HST hx4
     go_wp2
     clear q3
     go_loopw [42] (fun iv wr => ∃ i : Nat, i ≤ l.ord.length ∧ iv = .int .i64 i ∧ Hid (DfSt W B P (X4 ++ ordsT l.ord 0 (l.ord.take i)) wr)) (fun iv _ => l.ord.length - (intOf iv).toNat)
     case atStart => exact ⟨0, Nat.zero_le _, rfl, HST4⟩
     case round =>
      obtain ⟨i, hin, rfl, HST⟩ := hrel
      obtain ⟨hp, hs1, ht1, hk⟩ := HST.out
      have hBr : B ≤ wr.heap.size := Nat.le_trans HBW.out hk.size
      by_cases hlt : i < l.ord.length
      ·obtain ⟨x, hxi⟩ : ∃ x, l.ord[i]? = some x := ⟨_, List.getElem?_eq_getElem hlt⟩
       have hq3 : wr.cell? ⟨w.heap.size, 3, none⟩ = some (.slice A4 l.ord.length c4) := Rw.cell (hk.heap HR.out hRP (by decide)) rfl
       have hcl := ordPut_any wr B P _ (.slice A4 l.ord.length c4) l.ord i x _ hp hs1 ht1 (fun w' h' => HG.out w' ((HKW.out.trans hk).1.trans h')) hBr (H4.out.on hk.1 (Nat.le_refl _)) hxi (HO.out.same i x hxi) HO.out.item
       have hseq := S_ord X4 hxi
       rw [hseq.1, hseq.2] at hcl
       have HK1 := Lib.hid hk
       clear hp hs1 ht1 hk hseq hxi
       go_wp2_with fail
       refine hcl.mono ?_
       intro e w2 h2
       rcases df_more h2 rfl rfl HK1.out (F5.out (i + 1)) with ⟨rfl, hst⟩ | ⟨rfl, hx, hb⟩
       rotate_left
       ·exact ⟨rfl, .inr ⟨hx, rfl, HKW.out.1.trans hb⟩⟩
       have HZ := Lib.hid hst
       clear hst h2 hcl hq3
       go_wp2
       go_roundw
       case rel => exact ⟨i + 1, by omega, by go_num, HZ⟩
       case measure => simp [intOf]; omega
      ·obtain rfl : i = l.ord.length := by omega
       rw [List.take_length, HZ4.out] at hp hs1 ht1
       have HE := Lib.hid (And.intro hp (And.intro hs1 (And.intro ht1 (HKW.out.trans hk))))
       clear hp hs1 ht1 hk hlt hin HST
       go_wp2
       go_end0
       exact .inl ⟨HE.out.2.1, HE.out.2.2.1, rfl, HE.out.1, HE.out.2.2.2⟩
end Go.Proofs.YthaibekbefndlaaGreatDoor.C

namespace Go.Proofs.YthaibekbefndlaaGreatDoor.C
open Go.RowKit

def namedB (nm : List UInt8) (xs : List Int) : Bool := quotB xs && wordlyB nm && (numL nm).isNone
theorem quotB_parts4 (xs : List Int) : quotB xs = (decide (2 ≤ xs.length ∧ xs.length ≤ 4) && !(xs.contains 34) && !(xs.contains 10) && canonB xs) := rfl
theorem namedB_no1 {nm : List UInt8} {xs : List Int} (h : wordlyB nm = false) : namedB nm xs = false := by unfold namedB; rw [h, Bool.and_false, Bool.false_and]
theorem namedB_no2 {nm : List UInt8} {xs : List Int} (h : (numL nm).isSome = true) : namedB nm xs = false := by
 have h3 : (numL nm).isNone = false := by
  cases hn : numL nm with
  | none => rw [hn] at h; cases h
  | some _ => rfl
 unfold namedB
 rw [h3, Bool.and_false]
theorem namedB_no3 {nm : List UInt8} {xs : List Int} (h : quotB xs = false) : namedB nm xs = false := by unfold namedB; rw [h, Bool.false_and, Bool.false_and]
theorem namedB_is {nm : List UInt8} {xs : List Int} (h1 : wordlyB nm = true) (h2 : (numL nm).isSome = false) : namedB nm xs = quotB xs := by
 unfold namedB
 have h3 : (numL nm).isNone = true := by
  cases hn : numL nm with
  | none => rfl
  | some _ => rw [hn] at h2; cases h2
 rw [h1, h3, Bool.and_true, Bool.and_true]
set_option maxRecDepth 100000 in
set_option maxHeartbeats 4000000 in
theorem named07_any (w : World) (B : Nat) (A : Option Addr) (n c : Nat) (nm : List UInt8) (xs : List Int) (s : Int) (h : RI .i32 w B A n xs) (hB : B ≤ w.heap.size) (hn : nm.length ≤ maxLen) (hx : n ≤ maxLen) :
  Calls Tryz.prog 98 #[.agg #[.string (str nm), .slice A n c, .int .i64 s]] w fun e w' => e = .returned (.bool (namedB nm xs)) ∧ Below w.heap.size w w' := by
 have hl := h.len
 obtain ⟨W1, hW1⟩ : ∃ W1, W1 = w.alloc (.cells #[.string (str nm), .slice A n c, .int .i64 s] 34) := ⟨_, rfl⟩
 have hb1 : Below w.heap.size w W1 := by rw [hW1]; exact (Below.refl _ _).alloc (Nat.le_refl _) _
 have HB1 := Lib.hid hb1
 have hX1 : Three W1 w.heap.size 34 (.string (str nm)) (.slice A n c) (.int .i64 s) := by rw [hW1]; exact Three.new w _ _ _ _
 have HX1 := Lib.hid hX1
 have hri : RI .i32 W1 B A n xs := h.keep fun p hp => hb1.cell (by omega)
 have HRI := Lib.hid hri
 have HBs : Hid (B ≤ W1.heap.size) := Lib.hid (Nat.le_trans hB hb1.size)
 unfold maxLen at hx
 cases hwd : wordlyB nm with
 | false =>
  rw [namedB_no1 hwd]
  have hw := wordly07_is nm W1 hn hwd
  rw [hW1] at hw
  clear hwd h hb1 hX1 hri
  go_enter Tryz.func98, Tryz.ntmps98
  go_wp2_with fail
  with_reducible refine hw.mono ?_
  rintro e w' ⟨rfl, rfl⟩
  go_wp2
  go_ret
  rw [← hW1]
  exact ⟨rfl, HB1.out⟩
 | true =>
 have hw := wordly07_is nm W1 hn hwd
 rw [hW1] at hw
 cases hd : (numL nm).isSome with
 | true =>
  rw [namedB_no2 hd]
  have hg := digits07_is nm W1 hd
  rw [hW1] at hg
  clear hwd hd h hb1 hX1 hri
  go_enter Tryz.func98, Tryz.ntmps98
  go_wp2_with fail
  with_reducible refine hw.mono ?_
  rintro e w' ⟨rfl, rfl⟩
  go_wp2_with fail
  with_reducible refine hg.mono ?_
  rintro e w' ⟨rfl, rfl⟩
  go_wp2
  go_ret
  rw [← hW1]
  exact ⟨rfl, HB1.out⟩
 | false =>
 have hg := digits07_is nm W1 hd
 rw [hW1] at hg
 rw [namedB_is hwd hd]
 clear hwd hd
 by_cases h2 : n < 2
 ·have i2 : (n : Int) < 2 := by omega
  have hq : quotB xs = false := by rw [quotB_parts4, decide_eq_false (by omega), Bool.false_and, Bool.false_and, Bool.false_and]
  rw [hq]
  clear hq h2 h hb1 hX1 hri
  go_enter Tryz.func98, Tryz.ntmps98
  go_wp2_with fail
  with_reducible refine hw.mono ?_
  rintro e w' ⟨rfl, rfl⟩
  go_wp2_with fail
  with_reducible refine hg.mono ?_
  rintro e w' ⟨rfl, rfl⟩
  go_wp2
  go_ret
  rw [← hW1]
  exact ⟨rfl, HB1.out⟩
 have i2 : ¬ (n : Int) < 2 := by omega
 by_cases h4 : 4 < n
 ·have i4 : (4 : Int) < (n : Int) := by omega
  have hq : quotB xs = false := by rw [quotB_parts4, decide_eq_false (by omega), Bool.false_and, Bool.false_and, Bool.false_and]
  rw [hq]
  clear hq h2 h4 h hb1 hX1 hri
  go_enter Tryz.func98, Tryz.ntmps98
  go_wp2_with fail
  with_reducible refine hw.mono ?_
  rintro e w' ⟨rfl, rfl⟩
  go_wp2_with fail
  with_reducible refine hg.mono ?_
  rintro e w' ⟨rfl, rfl⟩
  go_wp2
  go_ret
  rw [← hW1]
  exact ⟨rfl, HB1.out⟩
 have i4 : ¬ (4 : Int) < (n : Int) := by omega
 have hcn := refCanonical_any W1 B A n c xs hri HBs.out (by omega)
 rw [hW1] at hcn
 cases hc : canonB xs with
 | false =>
  have hq : quotB xs = false := by rw [quotB_parts4, hc, Bool.and_false]
  rw [hq]
  rw [hc] at hcn
  clear hq hc h2 h4 h hb1 hX1 hri
  go_enter Tryz.func98, Tryz.ntmps98
  go_wp2_with fail
  with_reducible refine hw.mono ?_
  rintro e w' ⟨rfl, rfl⟩
  go_wp2_with fail
  with_reducible refine hg.mono ?_
  rintro e w' ⟨rfl, rfl⟩
  go_wp2_with fail
  with_reducible refine hcn.mono ?_
  rintro e w' ⟨rfl, hb2⟩
  rw [← hW1] at hb2
  have HB2 := Lib.hid (HB1.out.trans (hb2.mono HB1.out.size))
  clear hb2
  go_wp2
  go_ret
  exact ⟨rfl, HB2.out⟩
 | true =>
 have hq : quotB xs = (!(xs.contains 34) && !(xs.contains 10)) := by rw [quotB_parts4, hc, Bool.and_true, decide_eq_true (by omega), Bool.true_and]
 rw [hc] at hcn
 obtain ⟨r, hr⟩ : ∃ r, r = (!(xs.contains 34) && !(xs.contains 10)) := ⟨_, rfl⟩
 rw [hq, ← hr]
 have HRR := Lib.hid hr
 clear hq hc h hb1 hX1 hri hr
 go_enter Tryz.func98, Tryz.ntmps98
 go_wp2_with fail
 with_reducible refine hw.mono ?_
 rintro e w' ⟨rfl, rfl⟩
 go_wp2_with fail
 with_reducible refine hg.mono ?_
 rintro e w' ⟨rfl, rfl⟩
 go_wp2_with fail
 with_reducible refine hcn.mono ?_
 rintro e w3 ⟨rfl, hb2⟩
 rw [← hW1] at hb2
 have HB3 := Lib.hid (HB1.out.trans (hb2.mono HB1.out.size))
 have hx3 : Three w3 w.heap.size 34 (.string (str nm)) (.slice A n c) (.int .i64 s) := (hb2.block _ HX1.out.lt).trans HX1.out
 obtain ⟨q0, q1, q2⟩ := hx3.cells
 have HR3 : Hid (RI .i32 w3 B A n xs) := Lib.hid (HRI.out.keep fun p hp => hb2.cell (by have := HBs.out; omega))
 clear hb2 hw hg hcn hW1 hx3
 go_wp2
 go_loop [3] (fun iv => ∃ i : Nat, i ≤ n ∧ iv = .int .i64 i ∧ Hid (∀ x ∈ xs.take i, x ≠ 34 ∧ x ≠ 10)) (fun iv => n - (intOf iv).toNat)
 case atStart => exact ⟨0, Nat.zero_le _, rfl, Lib.hid (by simp)⟩
 case round =>
  obtain ⟨i, hi, rfl, HK⟩ := hrel
  by_cases hlt : i < n
  ·obtain ⟨ad, x, rfl, -, hk, hcell⟩ := HR3.out.at_ hlt
   have i0 : (0 : Int) ≤ (i : Int) := by omega
   have i1 : (i : Int) < (n : Int) := by omega
   have HM := Lib.hid hk
   clear hk
   by_cases h34 : x = 34
   ·subst h34
    have HF : Hid ((!(xs.contains 34) && !(xs.contains 10)) = false) := Lib.hid (by rw [show xs.contains 34 = true from List.contains_iff_mem.2 (List.mem_of_getElem? HM.out)]; rfl)
    go_wp2
    go_ret
    exact ⟨by rw [HRR.out, HF.out]; rfl, HB3.out⟩
   ·have e1 : (x == 34) = false := by simpa using h34
    by_cases h10 : x = 10
    ·subst h10
     have HF : Hid ((!(xs.contains 34) && !(xs.contains 10)) = false) := Lib.hid (by rw [show xs.contains 10 = true from List.contains_iff_mem.2 (List.mem_of_getElem? HM.out)]; simp)
     clear h34
     go_wp2
     go_ret
     exact ⟨by rw [HRR.out, HF.out]; rfl, HB3.out⟩
    ·have e2 : (x == 10) = false := by simpa using h10
     have HN : Hid (∀ y ∈ xs.take (i + 1), y ≠ 34 ∧ y ≠ 10) := Lib.hid (by
      rw [take_one HM.out]
      intro y hy
      rcases List.mem_append.1 hy with hy | hy
      ·exact HK.out y hy
      ·rw [List.mem_singleton] at hy
       subst hy
       exact ⟨h34, h10⟩)
     clear h34 h10
     go_wp2
     go_round
     case rel => exact ⟨i + 1, by omega, by go_num, HN⟩
     case measure => simp [intOf]; omega
  ·obtain rfl : i = n := by omega
   have HF : Hid ((!(xs.contains 34) && !(xs.contains 10)) = true) := Lib.hid (by
    have hk := HK.out
    rw [List.take_of_length_le (by omega)] at hk
    rw [show xs.contains 34 = false from by
     rw [← Bool.not_eq_true, List.contains_iff_mem]
     exact fun hm => (hk _ hm).1 rfl, show xs.contains 10 = false from by
     rw [← Bool.not_eq_true, List.contains_iff_mem]
     exact fun hm => (hk _ hm).2 rfl]
    rfl)
   go_wp2
   go_ret
   exact ⟨by rw [HRR.out, HF.out]; rfl, HB3.out⟩
theorem pairAt_no {l : List (Int × Int)} {i : Nat} {p : Int × Int} (h : l[i]? = some p) (hf : pairAt l i = false) : pairsB l = false := range_all_false (List.getElem?_eq_some_iff.1 h).1 (by rw [hf]; rfl)
set_option maxRecDepth 100000 in
set_option maxHeartbeats 4000000 in
theorem mapped07_any (w : World) (B : Nat) (v : Value) (l : List (Int × Int)) (h : PrsR w B v l) (hn : l.length ≤ maxLen) :
  Calls Tryz.prog 51 #[v] w fun e w' => e = .returned (.bool (pairsB l)) ∧ ∃ q, w' = w.drewN q := by
 obtain ⟨A, c, rfl, hs⟩ := h
 have HS := Lib.hid hs
 unfold maxLen at hn
 clear hs
 go_enter Tryz.func51, Tryz.ntmps51
 go_wp2
 go_loopw [3] (fun iv wr => ∃ i : Nat, i ≤ l.length ∧ iv = .int .i64 i ∧ Hid ((∃ q, wr = w.drewN q) ∧ ∀ j, j < i → (!pairAt l j) = false)) (fun iv _ => l.length - (intOf iv).toNat)
 case atStart => exact ⟨0, Nat.zero_le _, rfl, Lib.hid ⟨⟨0, rfl⟩, by intro j hj; omega⟩⟩
 case round =>
  obtain ⟨wp, hwp⟩ : ∃ wp, wp = wr := ⟨_, rfl⟩
  subst hwp
  obtain ⟨i, hin, rfl, HQ⟩ := hrel
  by_cases hlt : i < l.length
  rotate_left
  ·obtain rfl : i = l.length := by omega
   have HF : Hid (pairsB l = true) := Lib.hid (range_all_true HQ.out.2)
   go_wp2
   go_ret
   exact ⟨by rw [HF.out]; rfl, HQ.out.1⟩
  obtain ⟨r, hri⟩ : ∃ r, l[i]? = some r := ⟨_, List.getElem?_eq_getElem hlt⟩
  have hS2 : SI 2 wp B A l.length (l.map prRow) := by obtain ⟨⟨q, rfl⟩, _⟩ := HQ.out; exact HS.out.drewN q
  obtain ⟨ad, rfl, _, c0, c1⟩ := prsR_at hS2 hri
  obtain ⟨a, b⟩ := r
  dsimp only at c0 c1
  have i0 : (0 : Int) ≤ (i : Int) := by omega
  have i1 : (i : Int) < (l.length : Int) := by omega
  have hpa := prOk_at hri
  unfold prOk at hpa
  dsimp only at hpa
  have HPA := Lib.hid hpa
  have HRI := Lib.hid hri
  clear hS2 hri hpa
  cases ha : scalB a with
  | false =>
   have hsa := scalar07_is a wp ha
   have HF : Hid (pairsB l = false) := Lib.hid (pairAt_no HRI.out (by rw [HPA.out, ha, Bool.false_and, Bool.false_and]))
   clear ha
   go_wp2_with fail
   with_reducible refine hsa.mono ?_
   rintro e w1 ⟨rfl, rfl⟩
   go_wp2
   go_ret
   exact ⟨by rw [HF.out]; rfl, HQ.out.1⟩
  | true =>
  have hsa := scalar07_is a wp ha
  cases hb : scalB b with
  | false =>
   have hsb := scalar07_is b wp hb
   have HF : Hid (pairsB l = false) := Lib.hid (pairAt_no HRI.out (by rw [HPA.out, hb, Bool.and_false, Bool.false_and]))
   clear ha hb
   go_wp2_with fail
   with_reducible refine hsa.mono ?_
   rintro e w1 ⟨rfl, rfl⟩
   go_wp2_with fail
   with_reducible refine hsb.mono ?_
   rintro e w1 ⟨rfl, rfl⟩
   go_wp2
   go_ret
   exact ⟨by rw [HF.out]; rfl, HQ.out.1⟩
  | true =>
  have hsb := scalar07_is b wp hb
  have HPA2 : Hid (pairAt l i = !(((l.take i).map Prod.fst).contains a)) := Lib.hid (by rw [HPA.out, ha, hb]; rfl)
  clear ha hb HPA
  go_wp2_with fail
  with_reducible refine hsa.mono ?_
  rintro e w1 ⟨rfl, rfl⟩
  go_wp2_with fail
  with_reducible refine hsb.mono ?_
  rintro e w1 ⟨rfl, rfl⟩
  clear hsa hsb
  go_wp2
  go_loopw [4] (fun kv wi => ∃ k : Nat, k ≤ i ∧ kv = .int .i64 k ∧ Hid ((∃ q, wi = w.drewN q) ∧ ∀ x ∈ l.take k, x.1 ≠ a)) (fun kv _ => i - (intOf kv).toNat)
  case atStart => exact ⟨0, Nat.zero_le _, rfl, Lib.hid ⟨HQ.out.1, by simp⟩⟩
  case round =>
   obtain ⟨wi, hwi⟩ : ∃ wi, wi = wr := ⟨_, rfl⟩
   subst hwi
   obtain ⟨k, hki, rfl, HQ2⟩ := hrel
   by_cases hk : k < i
   ·obtain ⟨r2, hr2⟩ : ∃ r, l[k]? = some r := ⟨_, List.getElem?_eq_getElem (by omega)⟩
    have hS3 : SI 2 wi B (some ad) l.length (l.map prRow) := by obtain ⟨⟨q, rfl⟩, _⟩ := HQ2.out; exact HS.out.drewN q
    obtain ⟨ad', he, _, d0, _⟩ := prsR_at hS3 hr2
    obtain ⟨ad'', he', _, c0, _⟩ := prsR_at hS3 HRI.out
    injection he with he
    injection he' with he'
    subst he he'
    obtain ⟨y, y2⟩ := r2
    dsimp only at d0 c0
    have HR2 := Lib.hid hr2
    have k0 : (0 : Int) ≤ (k : Int) := by omega
    have k1 : (k : Int) < (l.length : Int) := by omega
    have k2 : (k : Int) < (i : Int) := by omega
    clear hS3 hr2
    by_cases hya : y = a
    ·have e1 : (y == a) = true := by simpa using hya
     have HF : Hid (pairsB l = false) := Lib.hid (pairAt_no HRI.out (by
      rw [HPA2.out, show ((l.take i).map Prod.fst).contains a = true from List.contains_iff_mem.2 (List.mem_map.2 ⟨(y, y2), List.mem_of_getElem? (i := k) (by rw [List.getElem?_take, if_pos hk]; exact HR2.out), hya⟩)]
      rfl))
     clear hya
     go_wp2
     refine wp_region_held (S := fun W' : World => W'.cell? (ad.add (k * 2)) = some (.int .i32 y) ∧ W'.cell? (ad.add (i * 2)) = some (.int .i32 a)) (by kernel_rfl) ?_
     change wpAnyH _ _ _ _ _ _ _ _ wi.drew
     have hS1 : (fun W' : World => W'.cell? (ad.add (k * 2)) = some (.int .i32 y) ∧ W'.cell? (ad.add (i * 2)) = some (.int .i32 a)) wi.drew := ⟨d0, c0⟩
     iterate 11 (refine wpH rfl rfl ?_; try simp only [Act.put, g1, g2, g3, g4, g5, g6])
     refine wpAnyH_done (by kernel_rfl) ?_ _
     have HQ3 : Hid (∃ q, wi.drew = w.drewN q) := Lib.hid (by obtain ⟨q, rfl⟩ := HQ2.out.1; exact ⟨q + 1, rfl⟩)
     clear hS1 c0 d0
     go_wp2
     go_ret
     exact ⟨by rw [HF.out]; rfl, HQ3.out⟩
    ·have e1 : (y == a) = false := by simpa using hya
     have HN : Hid (∀ x ∈ l.take (k + 1), x.1 ≠ a) := Lib.hid (by
      rw [take_one HR2.out]
      intro x hx
      rcases List.mem_append.1 hx with hx | hx
      ·exact HQ2.out.2 x hx
      ·rw [List.mem_singleton] at hx
       subst hx
       exact hya)
     clear hya
     go_wp2
     refine wp_region_held (S := fun W' : World => W'.cell? (ad.add (k * 2)) = some (.int .i32 y) ∧ W'.cell? (ad.add (i * 2)) = some (.int .i32 a)) (by kernel_rfl) ?_
     change wpAnyH _ _ _ _ _ _ _ _ wi.drew
     have hS1 : (fun W' : World => W'.cell? (ad.add (k * 2)) = some (.int .i32 y) ∧ W'.cell? (ad.add (i * 2)) = some (.int .i32 a)) wi.drew := ⟨d0, c0⟩
     iterate 11 (refine wpH rfl rfl ?_; try simp only [Act.put, g1, g2, g3, g4, g5, g6])
     refine wpAnyH_done (by kernel_rfl) ?_ _
     have HQ3 : Hid (∃ q, wi.drew = w.drewN q) := Lib.hid (by obtain ⟨q, rfl⟩ := HQ2.out.1; exact ⟨q + 1, rfl⟩)
     clear hS1 c0 d0
     go_wp2
     go_roundw
     case rel => exact ⟨k + 1, by omega, by go_num, Lib.hid ⟨HQ3.out, HN.out⟩⟩
     case measure => simp [intOf]; omega
   ·obtain rfl : k = i := by omega
    have HT : Hid ((!pairAt l k) = false) := Lib.hid (by
     rw [HPA2.out, show ((l.take k).map Prod.fst).contains a = false from by
      rw [← Bool.not_eq_true, List.contains_iff_mem]
      intro hm
      obtain ⟨x, hx, he⟩ := List.mem_map.1 hm
      exact HQ2.out.2 x hx he]
     rfl)
    clear c0 c1
    go_wp2
    go_roundw
    case rel => exact ⟨k + 1, by omega, by go_num, Lib.hid ⟨HQ2.out.1, fun j hj => by
     rcases (by omega : j < k ∨ j = k) with h1 | h1
     ·exact HQ.out.2 j h1
     ·rw [h1]; exact HT.out⟩⟩
    case measure => simp [intOf]; omega
end Go.Proofs.YthaibekbefndlaaGreatDoor.C

namespace Go.Proofs.YthaibekbefndlaaGreatDoor.C
open Go.RowKit

theorem placeL_first {o : List Elm} {c : List Int} {i : Nat} {e : Elm} (he : o[i]? = some e) (hc : e.cells = c) : (placeL o c).isSome = true := by
 cases h : placeL o c with
 | some j => rfl
 | none => exact absurd hc (placeL_out h e (List.mem_of_getElem? he))
theorem OrdR.drewN {w : World} {B : Nat} {v : Value} {o : List Elm} (h : OrdR w B v o) (q : Nat) : OrdR (w.drewN q) B v o := h.keep fun _ _ => rfl
set_option maxRecDepth 100000 in
set_option maxHeartbeats 2000000 in
theorem place_any (w : World) (Bo Bc : Nat) (v : Value) (o : List Elm) (Ac : Option Addr) (cc : Nat) (cs : List Int) (h : OrdR w Bo v o) (hc : RI .i32 w Bc Ac cs.length cs) (hn : o.length ≤ 500) (hm : cs.length ≤ maxLen) :
  Calls Tryz.prog 25 #[v, .slice Ac cs.length cc] w fun e w' => (∃ r : Int, e = .returned (.int .i64 r) ∧ decide (0 ≤ r) = (placeL o cs).isSome) ∧ ∃ q, w' = w.drewN q := by
 obtain ⟨A, c, xs, rfl, -⟩ := id h
 have H := Lib.hid h
 have HC := Lib.hid hc
 have HM := Lib.hid hm
 clear h hc hm
 go_enter Tryz.func25, Tryz.ntmps25
 go_wp2
 go_loopw [5] (fun iv wr => ∃ i : Nat, i ≤ o.length ∧ iv = .int .i64 i ∧ Hid ((∃ q, wr = w.drewN q) ∧ ∀ x ∈ o.take i, x.cells ≠ cs)) (fun iv _ => o.length - (intOf iv).toNat)
 case atStart => exact ⟨0, Nat.zero_le _, rfl, Lib.hid ⟨⟨0, rfl⟩, by simp⟩⟩
 case round =>
  obtain ⟨i, hin, rfl, HQ⟩ := hrel
  by_cases hlt : i < o.length
  ·obtain ⟨e, he⟩ : ∃ e, o[i]? = some e := ⟨_, List.getElem?_eq_getElem hlt⟩
   have hO : OrdR wr Bo (.slice A o.length c) o := by obtain ⟨⟨q, rfl⟩, _⟩ := HQ.out; exact H.out.drewN q
   have hC : RI .i32 wr Bc Ac cs.length cs := by obtain ⟨⟨q, rfl⟩, _⟩ := HQ.out; exact HC.out.drewN q
   obtain ⟨ad, ca, Ax, cx, hA, _, u0, u1, u2, hpx⟩ := elmR_at hO he
   obtain ⟨_, _, _, hv, _, hOl⟩ := hO
   obtain ⟨_, _, _, _, hnk⟩ := hOl i e he
   injection hA with hA _ hC'
   subst hA hC'
   have i0 : (0 : Int) ≤ (i : Int) := by omega
   have i1 : (i : Int) < (o.length : Int) := by omega
   by_cases heq : e.cells = cs
   ·have hs := same_yes wr _ _ Ax Ac e.cells.length cx cs.length cc e.cells cs heq hpx hC hnk.2 HM.out
    have HF := Lib.hid (placeL_first he heq)
    have HQ1 : Hid (∃ q, wr = w.drewN q) := Lib.hid HQ.out.1
    clear hpx hC hOl hnk he heq hv u0 u2
    go_wp2_with fail
    with_reducible refine hs.mono ?_
    rintro r w1 ⟨rfl, hq⟩
    have HQ2 : Hid (∃ q, w1 = w.drewN q) := Lib.hid (by obtain ⟨q, rfl⟩ := HQ1.out; obtain ⟨q', rfl⟩ := hq; exact ⟨q + q', by rw [World.drewN_drewN]⟩)
    clear hs hq
    go_wp2
    go_ret
    exact ⟨⟨i, rfl, by rw [HF.out]; simp⟩, HQ2.out⟩
   ·have hs := same_no wr _ _ Ax Ac e.cells.length cx cs.length cc e.cells cs heq hpx hC hnk.2 HM.out
    have HQ1 : Hid (∃ q, wr = w.drewN q) := Lib.hid HQ.out.1
    have HN : Hid (∀ x ∈ o.take (i + 1), x.cells ≠ cs) := Lib.hid (by
     rw [take_one he]
     intro x hx
     rcases List.mem_append.1 hx with hx | hx
     ·exact HQ.out.2 x hx
     ·rw [List.mem_singleton] at hx
      subst hx
      exact heq)
    clear hpx hC hOl hnk he heq hv u0 u2
    go_wp2_with fail
    with_reducible refine hs.mono ?_
    rintro r w1 ⟨rfl, hq⟩
    have HQ2 : Hid ((∃ q, w1 = w.drewN q) ∧ ∀ x ∈ o.take (i + 1), x.cells ≠ cs) := Lib.hid ⟨by obtain ⟨q, rfl⟩ := HQ1.out; obtain ⟨q', rfl⟩ := hq; exact ⟨q + q', by rw [World.drewN_drewN]⟩, HN.out⟩
    clear hs hq
    go_wp2
    go_roundw
    case rel => exact ⟨i + 1, by omega, by go_num, HQ2⟩
    case measure => simp [intOf]; omega
  ·obtain rfl : i = o.length := by omega
   have hp : (placeL o cs).isSome = false := by
    have h1 := HQ.out.2
    rw [List.take_length] at h1
    rw [placeL_noneO h1]
    rfl
   have HP := Lib.hid hp
   have HQ1 : Hid (∃ q, wr = w.drewN q) := Lib.hid HQ.out.1
   clear hp
   go_wp2
   go_ret
   exact ⟨⟨-1, rfl, by rw [HP.out]; rfl⟩, HQ1.out⟩
end Go.Proofs.YthaibekbefndlaaGreatDoor.C
